import PyProof.Rows.All
import Wide.All
import OpenK.AllK
import Wide.FinOn
import Lean
import PyProof.EqAt
import PyProof.EqKinds
import PyProof.TupleCall
import PySem.Challenge.RW_leastfloor_k66_whole_trees_on_two_benche
set_option compiler.extract_closed false
set_option Elab.async false
set_option linter.all false
set_option maxRecDepth 100000
namespace L2
open PySem PySem.Spec PyProof.Rows
abbrev Key:=Sum Int Str
def keyIs:Key→Value→Bool
  | .inl k,v=>Value.isInt k v
  | .inr x,v=>Value.isStrOf x v
def keyH (w:World):Key→Int
  | .inl k=>hashInt k
  | .inr x=>hashStr w x
theorem keyIs_shape:∀ {k:Key} {v:Value},keyIs k v=true→(∃ i t,k=Sum.inl i∧v=Value.int i t)∨(∃ x t,k=Sum.inr x∧v=Value.str x t)
  | .inl i,v,h=>by
    obtain ⟨t,e⟩:=Value.isInt_shape (k:=i) (v:=v) h
    exact .inl ⟨i,t,rfl,e⟩
  | .inr x,v,h=>by
    obtain ⟨t,e⟩:=Value.isStrOf_shape (x:=x) (v:=v) h
    exact .inr ⟨x,t,rfl,e⟩
theorem key_ll (a b:Int):decide ((Sum.inl a:Key)=Sum.inl b)=(a==b):=by
  by_cases e:a=b
  · subst e; simp
  · have h:¬ (Sum.inl a:Key)=Sum.inl b:=fun q=>e (Sum.inl.inj q)
    rw [decide_eq_false h]
    exact (beq_eq_false_iff_ne.mpr e).symm
theorem key_rr (a b:Str):decide ((Sum.inr a:Key)=Sum.inr b)=decide (a=b):=by
  by_cases e:a=b
  · subst e; simp
  · have h:¬ (Sum.inr a:Key)=Sum.inr b:=fun q=>e (Sum.inr.inj q)
    rw [decide_eq_false h,decide_eq_false e]
theorem key_lr (a:Int) (b:Str):decide ((Sum.inl a:Key)=Sum.inr b)=false:=decide_eq_false (fun q=>nomatch q)
theorem key_rl (a:Str) (b:Int):decide ((Sum.inr a:Key)=Sum.inl b)=false:=decide_eq_false (fun q=>nomatch q)
def mixKind (prog:Program) (w:World):PySem.KeyKind prog w Key where
  is:=keyIs
  hash:=keyH w
  inj:=fun v a b ha hb=>by
    rcases keyIs_shape ha with ⟨i,t,rfl,rfl⟩ | ⟨x,t,rfl,rfl⟩
    · rcases keyIs_shape hb with ⟨j,u,rfl,e⟩ | ⟨y,u,rfl,e⟩
      · injection e with e1 _; rw [e1]
      · exact nomatch e
    · rcases keyIs_shape hb with ⟨j,u,rfl,e⟩ | ⟨y,u,rfl,e⟩
      · exact nomatch e
      · injection e with e1 _; rw [e1]
  byValue:=fun k v h=>by
    rcases keyIs_shape h with ⟨i,t,rfl,rfl⟩ | ⟨x,t,rfl,rfl⟩ <;> rfl
  pyHash:=fun hv h=>by
    rcases keyIs_shape hv with ⟨i,t,rfl,rfl⟩ | ⟨x,t,rfl,rfl⟩
    · exact wpAny_pyHash_int h
    · exact wpAny_pyHash_str h
  eqBool:=fun hu hv h=>by
    rcases keyIs_shape hu with ⟨i,t,rfl,rfl⟩ | ⟨x,t,rfl,rfl⟩
    · rcases keyIs_shape hv with ⟨j,u,rfl,rfl⟩ | ⟨y,u,rfl,rfl⟩
      · rw [key_ll] at h; exact wpAny_eqBool_int h
      · rw [key_lr] at h; exact SeqAt.EqAt.int_str i t y u _ _ _ _ h
    · rcases keyIs_shape hv with ⟨j,u,rfl,rfl⟩ | ⟨y,u,rfl,rfl⟩
      · rw [key_rl] at h; exact SeqAt.EqAt.str_int x t j u _ _ _ _ h
      · rw [key_rr] at h; exact wpAny_eqBool_str h
  «strs»:=fun k x t v h=>by
    rcases keyIs_shape h with ⟨i,u,rfl,e⟩ | ⟨y,u,rfl,e⟩
    · exact nomatch e
    · injection e with e1 _
      subst e1
      cases v <;> rfl
end L2
namespace L2
open PySem PySem.Spec PyProof.Rows
inductive V where
  | non | bl (b:Bool) | int (i:Int) | str (x:Str) | byt (b:Array UInt8) | flt (b:UInt64) | ref (a:Addr) | ty (n:String)
  deriving DecidableEq
def RelV:V→Value→Prop
  | .non,u=>u=Value.none
  | .bl b,u=>u=Value.bool b
  | .int i,u=>∃ t,u=Value.int i t
  | .str x,u=>∃ t,u=Value.str x t
  | .byt b,u=>∃ t,u=Value.bytes b t
  | .flt b,u=>∃ t,u=Value.float b t
  | .ref a,u=>u=Value.ref a
  | .ty n,u=>u=Value.type n
abbrev Vals:List V→List Value→Prop:=Paired RelV
theorem Vals.length {xs:List V} {us:List Value} (r:Vals xs us):xs.length=us.length:=Paired.length r
theorem Vals.get:∀ {xs:List V} {us:List Value} {i:Nat} {x:V},Vals xs us→xs[i]?=some x→∃ u,us[i]?=some u∧RelV x u
  | _,_,_,_,.nil,e=>by simp at e
  | _,_,0,_,.cons r _,e=>by simp at e; subst e; exact ⟨_,rfl,r⟩
  | _,_,i+1,x,.cons _ t,e=>by
    obtain ⟨u,h1,h2⟩:=Vals.get (i:=i) (x:=x) t (by simpa using e)
    exact ⟨u,by simpa using h1,h2⟩
theorem Vals.set {x:V} {u:Value} (r:RelV x u):∀ {xs:List V} {us:List Value} (i:Nat),Vals xs us→Vals (xs.set i x) (us.set i u)
  | _,_,_,.nil=>.nil
  | _,_,0,.cons _ t=>.cons r t
  | _,_,i+1,.cons q t=>.cons q (Vals.set r i t)
theorem Vals.append:∀ {xs ys:List V} {us ws:List Value},Vals xs us→Vals ys ws→Vals (xs++ys) (us++ws)
  | _,_,_,_,.nil,s=>s
  | _,_,_,_,.cons r t,s=>.cons r (Vals.append t s)
theorem Vals.take:∀ {xs:List V} {us:List Value} (n:Nat),Vals xs us→Vals (xs.take n) (us.take n)
  | _,_,0,_=>.nil
  | _,_,_+1,.nil=>.nil
  | _,_,n+1,.cons r t=>.cons r (Vals.take n t)
theorem Vals.drop:∀ {xs:List V} {us:List Value} (n:Nat),Vals xs us→Vals (xs.drop n) (us.drop n)
  | _,_,0,r=>r
  | _,_,_+1,.nil=>.nil
  | _,_,n+1,.cons _ t=>Vals.drop n t
def RelO:Option V→Option Value→Prop
  | some v,some u=>RelV v u
  | none,none=>True
  | _,_=>False
def KV {κ:Type}:List (κ×V)→List (κ×Value)→Prop:=Paired fun (p:κ×V) (q:κ×Value)=>p.1=q.1∧RelV p.2 q.2
def kV:Key→V
  | .inl i=>.int i
  | .inr x=>.str x
inductive HO where
  | lst (xs:List V)
  | tup (xs:List V)
  | dK (kvs:List (Key×V)) | dT (kvs:List (List Key×V))
  | set (S:Int→Bool) (n:Nat)
  | ins (C dx:Addr) (fs:List (Str×V))
  | own (x:Addr)
  | xd (fs:List (Str×V))
  | met (f x:Addr)
  | rng (lo hi:Int)
  | frz (o:Obj) (u:HO)
  | tbl (ps:Array Value)
  | ext (φ:Heap→Prop)
abbrev Hp:=Addr→Option HO
def upd (H:Hp) (a:Addr) (o:HO):Hp:=fun b=>if b=a then some o else H b
theorem upd_same {H:Hp} {a:Addr} {o:HO}:upd H a o a=some o:=by unfold upd; rw [if_pos rfl]
theorem upd_ne {H:Hp} {a b:Addr} {o:HO} (h:b≠a):upd H a o b=H b:=by unfold upd; rw [if_neg h]
theorem ne_of_none {H:Hp} {a b:Addr} {o:HO} (h:H a=some o) (h':H b=none):a≠b:=by
  intro e; subst e; rw [h] at h'; cases h'
section
variable (P:Program) (w:World)
def ObjOk (H:Hp) (h:Heap) (a:Addr):HO→Prop
  | .lst xs=>xs.length≤sizeLine∧∃ (its:List Value) (n:Nat),Vals xs its∧h.get? a=some { cls:=.type "list", data:=.seq its.toArray n }
  | .tup xs=>xs.length≤sizeLine∧∃ its:List Value,Vals xs its∧IsTup h a its.toArray
  | .dK kvs=>kvs.length≤sizeLine∧(a==sysModules)=false∧∃ vs,KV kvs vs∧h.DictOf (mixKind P w) a vs
  | .dT kvs=>kvs.length≤sizeLine∧(a==sysModules)=false∧∃ xs:List (List Key×Addr×Value),
      Paired (fun (p:List Key×V) (q:List Key×Addr×Value)=>p.1=q.1∧H q.2.1=some (.tup (p.1.map kV))∧RelV p.2 q.2.2) kvs xs ∧
      ∃ o es ep,h.get? a=some o∧o.ExactDict∧o.data=.dict es ep∧es.toList=xs.map (entryOfKey (tupleKind (mixKind P w)))∧(xs.map (·.1)).Nodup
  | .set S n=>h.SetOf (intKind P w) a S n
  | .ins C dx fs=>H dx=some (.own a)∧fs.length≤1000∧dx≠a∧h.get? a=some (PySem.W.instObj C dx) ∧
      ∃ mA,h.Ns1 dx mA∧(∀ f,RelO (fs.lookup f) (mA f))∧PySem.Within mA (fs.map (·.1))
  | .own _=>∃ o,h.get? a=some o
  | .xd fs=>∃ mA,h.Ns1 a mA∧∀ f,RelO (fs.lookup f) (mA f)
  | .rng lo hi=>∃ t u v,h.get? a=some { cls:=.type "range", data:=.fields #[.int lo t,.int hi u,.int 1 v] }
  | .frz o u=>h.get? a=some o∧ObjOk H h a u
  | .tbl ps=>∃ (q:Str) (t:Tok) (qs:Array Value),ps[0]?=some (.str q t)∧h.get? a=some { cls:=.none,data:=.fields qs }∧TriplesOk qs.toList ∧
      ∀ pos v,codeAmong pos qs.toList=some v→∃ c o u vs t,v=.ref c∧H c=some (.frz o u)∧o.data=.fields vs∧vs[1]?=some (.str q t)
  | .met f x=>h.get? a=some (PySem.W.methodObj (.ref f) (.ref x))
  | .ext φ=>φ h∧(∃ o,h.get? a=some o)∧∀ h1 h2:Heap,φ h1→(∀ o,h1.get? a=some o→h2.get? a=some o)→φ h2
def HOk (H:Hp) (h:Heap):Prop:=∀ a o,H a=some o→ObjOk P w H h a o
end
section
variable {P:Program} {w:World} {H H':Hp} {h h':Heap} {a:Addr} {o:HO}
theorem ObjOk.lt (x:ObjOk P w H h a o):a<h.objs.size:=by
  cases o with
  | lst xs=>obtain ⟨_,_,_,_,e⟩:=x; exact Heap.lt_size e
  | tup xs=>obtain ⟨_,_,_,p⟩:=x; exact p.lt
  | dK kvs=>obtain ⟨_,_,_,_,o,_,_,e,_⟩:=x; exact Heap.lt_size e
  | dT kvs=>obtain ⟨_,_,_,_,o,_,_,e,_⟩:=x; exact Heap.lt_size e
  | set S n=>obtain ⟨o,_,_,_,e,_⟩:=x; exact Heap.lt_size e
  | ins C dx fs=>obtain ⟨_,_,_,e,_⟩:=x; exact Heap.lt_size e
  | own y=>obtain ⟨_,e⟩:=x; exact Heap.lt_size e
  | xd fs=>obtain ⟨_,⟨_,_,_,e,_⟩,_⟩:=x; exact Heap.lt_size e
  | rng lo hi=>obtain ⟨_,_,_,e⟩:=x; exact Heap.lt_size e
  | frz ob u=>obtain ⟨e,_⟩:=x; exact Heap.lt_size e
  | tbl ps=>obtain ⟨_,_,_,_,e,_⟩:=x; exact Heap.lt_size e
  | met f y=>exact Heap.lt_size (show h.get? a=some _ from x)
  | ext φ=>obtain ⟨_,⟨_,e⟩,_⟩:=x; exact Heap.lt_size e
theorem Paired.mapP {α β:Type} {F G:α→β→Prop}:∀ {l₁:List α} {l₂:List β},Paired F l₁ l₂→(∀ a b,F a b→G a b)→Paired G l₁ l₂
  | _,_,.nil,_=>.nil
  | _,_,.cons r t,f=>.cons (f _ _ r) (Paired.mapP t f)
theorem ObjOk.stay (x:ObjOk P w H h a o) (k:∀ b u,(b=a∨H b=some (.own a))→h.get? b=some u→h'.get? b=some u)
    (ho:∀ b,H b=some (.own a)→H' b=some (.own a)) (ht:∀ b xs,H b=some (.tup xs)→H' b=some (.tup xs)) (hz:∀ b o u,H b=some (.frz o u)→H' b=some (.frz o u):=by first | exact fun _ _ _ q=>q | (intro b o u q; rw [upd_ne (ne_of_none q (by assumption))]; exact q)):ObjOk P w H' h' a o:=by
  induction o with
  | lst xs=>obtain ⟨z,its,n,r,e⟩:=x; exact ⟨z,its,n,r,k _ _ (.inl rfl) e⟩
  | tup xs=>obtain ⟨z,its,r,ob,e,c⟩:=x; exact ⟨z,its,r,ob,k _ _ (.inl rfl) e,c⟩
  | dK kvs=>obtain ⟨z,y,vs,r,ob,es,ep,e,c⟩:=x; exact ⟨z,y,vs,r,ob,es,ep,k _ _ (.inl rfl) e,c⟩
  | dT kvs =>
    obtain ⟨z,y,xs,r,ob,es,ep,e,c⟩:=x
    exact ⟨z,y,xs,Paired.mapP r fun p q z=>⟨z.1,ht _ _ z.2.1,z.2.2⟩,ob,es,ep,k _ _ (.inl rfl) e,c⟩
  | set S n=>obtain ⟨ob,es,ep,t,e,c⟩:=x; exact ⟨ob,es,ep,t,k _ _ (.inl rfl) e,c⟩
  | ins C dx fs =>
    obtain ⟨d,z,ne,e,mA,⟨od,es,ep,e2,c⟩,r⟩:=x
    exact ⟨ho _ d,z,ne,k _ _ (.inl rfl) e,mA,⟨od,es,ep,k _ _ (.inr d) e2,c⟩,r⟩
  | own y=>obtain ⟨ob,e⟩:=x; exact ⟨ob,k _ _ (.inl rfl) e⟩
  | xd fs=>obtain ⟨mA,⟨od,es,ep,e,c⟩,r⟩:=x; exact ⟨mA,⟨od,es,ep,k _ _ (.inl rfl) e,c⟩,r⟩
  | rng lo hi=>obtain ⟨t,u,v,e⟩:=x; exact ⟨t,u,v,k _ _ (.inl rfl) e⟩
  | frz ob u ih=>obtain ⟨e,q⟩:=x; exact ⟨k _ _ (.inl rfl) e,ih q⟩
  | tbl ps =>
    obtain ⟨q,t,qs,h0,h1,h2,h3⟩:=x
    refine ⟨q,t,qs,h0,k _ _ (.inl rfl) h1,h2,fun pos v e=>?_⟩
    obtain ⟨c,o,u,vs,t2,e1,e2,e3⟩:=h3 pos v e
    exact ⟨c,o,u,vs,t2,e1,hz _ _ _ e2,e3⟩
  | met f y =>
    have e:h.get? a=some (PySem.W.methodObj (.ref f) (.ref y)):=x
    show h'.get? a=some (PySem.W.methodObj (.ref f) (.ref y))
    exact k a _ (.inl rfl) e
  | ext φ=>obtain ⟨p,⟨o,e⟩,st⟩:=x; exact ⟨st _ _ p fun o q=>k _ _ (.inl rfl) q,⟨o,k _ _ (.inl rfl) e⟩,st⟩
theorem HOk.lt (x:HOk P w H h) (e:H a=some o):a<h.objs.size:=(x a o e).lt
theorem HOk.fresh (x:HOk P w H h) (e:h.objs.size≤a):H a=none:=by
  cases q:H a with
  | none=>rfl
  | some u=>exact absurd (Nat.lt_of_lt_of_le (x.lt q) e) (Nat.lt_irrefl _)
theorem HOk.kept (x:HOk P w H h) (k:∀ b u,h.get? b=some u→h'.get? b=some u):HOk P w H h':=fun a o e =>
  (x a o e).stay (fun b u _ q=>k b u q) (fun _ q=>q) fun _ _ q=>q
theorem HOk.laid (x:HOk P w H h) (k:∀ b u,h.get? b=some u→h'.get? b=some u) (hp:h.objs.size≤a) (new:ObjOk P w (upd H a o) h' a o):HOk P w (upd H a o) h':=fun b u e=>by
  have hn:=x.fresh hp
  by_cases hb:b=a
  · subst hb; rw [upd_same] at e; cases e; exact new
  · rw [upd_ne hb] at e
    exact (x b u e).stay (fun c v _ q=>k c v q) (fun c q=>by rw [upd_ne (ne_of_none q hn)]; exact q) fun c xs q=>by rw [upd_ne (ne_of_none q hn)]; exact q
end
def Rd (H:Hp) (a:Addr) (u:HO):Prop:=H a=some u∨∃ o,H a=some (.frz o u)
theorem Rd.ok {P:Program} {w:World} {H:Hp} {h:Heap} {a:Addr} {u:HO} (r:Rd H a u) (x:HOk P w H h):ObjOk P w H h a u:=by
  rcases r with r | ⟨o,r⟩
  · exact x a u r
  · obtain ⟨_,q⟩:=x a _ r
    exact q
def Mut:Option HO→Prop
  | some (.lst _)=>True
  | some (.dK _)=>True
  | some (.dT _)=>True
  | some (.set _ _)=>True
  | some (.ins _ _ _)=>True
  | some (.ext _)=>True
  | _=>False
section
variable {P:Program} {w:World} {H:Hp} {h h':Heap} {x e:Addr} {o':HO}
theorem HOk.write (ok:HOk P w H h) (mu:Mut (H x)) (he:e=x∨H e=some (.own x)) (k:∀ b u,b≠e→h.get? b=some u→h'.get? b=some u) (heo:∃ u,h'.get? e=some u)
    (new:ObjOk P w (upd H x o') h' x o'):HOk P w (upd H x o') h':=fun b u q=>by
  have nown:∀ c y,H c=some (.own y)→c≠x:=fun c y r z=>by subst z; rw [r] at mu; exact mu
  have ntup:∀ c xs,H c=some (.tup xs)→c≠x:=fun c xs r z=>by subst z; rw [r] at mu; exact mu
  have nfrz:∀ c o u,H c=some (.frz o u)→c≠x:=fun c o u r z=>by subst z; rw [r] at mu; exact mu
  by_cases hb:b=x
  · subst hb; rw [upd_same] at q; cases q; exact new
  · rw [upd_ne hb] at q
    by_cases hbe:b=e
    · have q':H b=some (.own x):=by
        rcases he with z | z
        · exact absurd (hbe.trans z) hb
        · rw [hbe]; exact z
      rw [q] at q'; cases q'
      obtain ⟨v,hv⟩:=heo
      exact ⟨v,by rw [hbe]; exact hv⟩
    · refine (ok b u q).stay (fun c v hc r=>k c v ?_ r) (fun c r=>by rw [upd_ne (nown c b r)]; exact r) (fun c xs r=>by rw [upd_ne (ntup c xs r)]; exact r) fun c o u r=>by rw [upd_ne (nfrz c o u r)]; exact r
      rcases hc with rfl | hc
      · exact hbe
      · rintro rfl
        rcases he with z | z
        · exact nown c b hc z
        · rw [hc] at z; cases z; exact hb rfl
end
structure Un (fs ex:List Addr) (H H':Hp) (h h':Heap):Prop where
  keep:∀ b o,h.get? b=some o→H b=none→b∉fs→b∉ex→h'.get? b=some o
  slot:∀ b o,h.get? b=some o→H b=none→b∈fs→b∉ex→∃ sl,h'.get? b=some { o with slots:=sl }
  free:∀ b o,h.get? b=some o→H b=none→b∉ex→H' b=none
  there:∀ b o,h.get? b=some o→b∉ex→∃ o',h'.get? b=some o'
  tups:∀ b xs,H b=some (.tup xs)→H' b=some (.tup xs)
  frzs:∀ b o u,H b=some (.frz o u)→H' b=some (.frz o u)
  tbls:∀ b ps,H b=some (.tbl ps)→∃ more,H' b=some (.tbl (ps++more))
section
variable {fs fs' ex ex':List Addr} {H H1 H2:Hp} {h h1 h2 h':Heap} {a x e:Addr} {o:HO}
theorem Un.any (u:Un fs ex H H1 h h1) {b:Addr} {ob:Obj} (q:h.get? b=some ob) (n:H b=none) (hx:b∉ex):∃ sl,h1.get? b=some { ob with slots:=sl }:=by
  by_cases hb:b∈fs
  · exact u.slot b ob q n hb hx
  · exact ⟨ob.slots,u.keep b ob q n hb hx⟩
theorem Un.kept (k:∀ b u,h.get? b=some u→h'.get? b=some u):Un fs ex H H h h' :=
  ⟨fun b ob q _ _ _=>k b ob q,fun b ob q _ _ _=>⟨ob.slots,k b ob q⟩,fun _ _ _ n _=>n,fun b ob q _=>⟨ob,k b ob q⟩,fun _ _ q=>q,fun _ _ _ q=>q,fun _ ps q=>⟨#[],by rw [q]; simp⟩⟩
theorem Un.refl:Un fs ex H H h h:=Un.kept fun _ _ q=>q
theorem Un.laid (k:∀ b u,h.get? b=some u→h'.get? b=some u) (hp:h.objs.size≤a) (hn:H a=none):Un fs ex H (upd H a o) h h' where
  keep:=fun b u q _ _ _=>k b u q
  slot:=fun b u q _ _ _=>⟨u.slots,k b u q⟩
  free:=fun b u q n _=>by rw [upd_ne (Nat.ne_of_lt (Nat.lt_of_lt_of_le (Heap.lt_size q) hp))]; exact n
  there:=fun b u q _=>⟨u,k b u q⟩
  tups:=fun b xs q=>by rw [upd_ne (ne_of_none q hn)]; exact q
  frzs:=fun b u xs q=>by rw [upd_ne (ne_of_none q hn)]; exact q
  tbls:=fun b ps q=>⟨#[],by rw [upd_ne (ne_of_none q hn),q]; simp⟩
theorem Un.write (mu:Mut (H x)) (he:e=x∨H e=some (.own x)) (k:∀ b u,b≠e→h.get? b=some u→h'.get? b=some u) (heo:∃ u,h'.get? e=some u):Un fs ex H (upd H x o) h h':=by
  have hx:∀ b,H b=none→b≠x:=fun b n z=>by subst z; rw [n] at mu; exact mu
  have hb:∀ b,H b=none→b≠e:=fun b n z=>by
    subst z
    rcases he with r | r
    · exact hx b n r
    · rw [n] at r; cases r
  have hm:∀ b u,H b=some u→¬ Mut (some u)→b≠x:=fun b u q nm z=>by subst z; rw [q] at mu; exact nm mu
  refine ⟨fun b u q n _ _=>k b u (hb b n) q,fun b u q n _ _=>⟨u.slots,k b u (hb b n) q⟩,fun b u q n _=>by rw [upd_ne (hx b n)]; exact n,fun b u q _=>?_,
    fun b xs q=>by rw [upd_ne (hm b _ q fun z=>z)]; exact q,fun b u xs q=>by rw [upd_ne (hm b _ q fun z=>z)]; exact q,fun b ps q=>⟨#[],by rw [upd_ne (hm b _ q fun z=>z),q]; simp⟩⟩
  by_cases hbe:b=e
  · subst hbe; exact heo
  · exact ⟨u,k b u hbe q⟩
end
def trk (h:Heap) (H:Hp):List Addr:=(List.range h.objs.size).filter fun a=>(H a).isSome
def hidT (h:Heap) (H:Hp):Heap:=PySem.W.hideAll h (trk h H)
theorem hidT_size (h:Heap) (H:Hp):(hidT h H).objs.size=h.objs.size:=PySem.W.hideAll_size _ _
theorem hidT_get {h:Heap} {H:Hp} {b:Addr} {o:Obj} (e:h.get? b=some o) (n:H b=none):(hidT h H).get? b=some o :=
  PySem.W.hideAll_get _ e fun hm=>by
    have q:(H b).isSome=true:=(List.mem_filter.mp hm).2
    rw [n] at q; simp at q
theorem of_hidT {h:Heap} {H:Hp} {b:Addr} {o:Obj} (e:(hidT h H).get? b=some o):h.get? b=some o∧H b=none:=by
  have e':h.get? b=some o:=PySem.W.of_hideAll (trk h H) e
  refine ⟨e',?_⟩
  cases q:H b with
  | none=>rfl
  | some x =>
    have hm:b∈trk h H:=List.mem_filter.mpr ⟨List.mem_range.mpr (Heap.lt_size e'),by simp [q]⟩
    have z:(hidT h H).get? b=none:=PySem.W.hideAll_none (trk h H) hm
    rw [z] at e; cases e
def allNews (g h:Heap) (L:Addr):List (Addr×Obj):=(List.range h.objs.size).filterMap fun a=>if a=L∨(g.get? a).isSome=true then none else (h.get? a).map fun o=>(a,o)
theorem mem_allNews {g h:Heap} {L a:Addr} {o:Obj} (h1:a≠L) (h2:g.get? a=none) (h3:h.get? a=some o):(a,o)∈allNews g h L :=
  List.mem_filterMap.mpr ⟨a,List.mem_range.mpr (Heap.lt_size h3),by simp [h1,h2,h3]⟩
theorem of_mem_allNews {g h:Heap} {L:Addr} {p:Addr×Obj} (hp:p∈allNews g h L):p.1≠L∧g.get? p.1=none∧h.get? p.1=some p.2:=by
  obtain ⟨b,_,e⟩:=List.mem_filterMap.mp hp
  split at e
  · cases e
  · rename_i hn
    cases q:h.get? b with
    | none=>rw [q] at e; simp at e
    | some u =>
      rw [q] at e
      simp only [Option.map_some,Option.some.injEq] at e
      subst e
      refine ⟨fun z=>hn (.inl z),?_,q⟩
      show g.get? b=none
      cases r:g.get? b with
      | none=>rfl
      | some v=>exact (hn (.inr (by simp [r]))).elim
def rest (g h:Heap) (L d:Addr):List (Addr×Obj):=(allNews g h L).filter fun p=>decide (p.1≠d)
theorem rest_ne {g h:Heap} {L d:Addr}:∀ p∈rest g h L d,p.1≠d:=fun p hp=>of_decide_eq_true (List.mem_filter.mp hp).2
theorem news_all {g h:Heap} {L:Addr}:News g L h (allNews g h L):=fun p hp=>let ⟨a,b,c⟩:=of_mem_allNews hp; ⟨c,a,b⟩
theorem news_at {g h:Heap} {L d:Addr} {o:Obj} (h1:d≠L) (h2:g.get? d=none) (h3:h.get? d=some o):News g L h ((d,o)::rest g h L d):=fun p hp=>by
  rcases List.mem_cons.mp hp with rfl | hp
  · exact ⟨h3,h1,h2⟩
  · exact news_all p (List.mem_filter.mp hp).1
end L2
namespace L2
open PySem PySem.Spec PyProof.Rows
structure Mod (K:PySem.W.Frag) (mg:Str→Option Value) (base:Heap):Prop where
  kin:K.In base
  glob:base.Ns mainGlobals mg
  blt:∃ mb,base.Ns builtinsNs mb∧∀ x:Str,x ≠ "__name__" → mb x=bootBuiltins x
  nolimit:base.NoLimit
structure Cx where
  prog:Program
  w:World
  K:PySem.W.Frag
  mg:Str→Option Value
  base:Heap
  A:Around
  N:List Str
  s₀:Shared
  H₀:Hp
  env:Env
  outer:List Env
  stack:List Env
  ex:List Addr
  fn:Str→Bool
  calm:Bool
  pn:List (Addr×Obj)
  xe:Value→Shared→Prop
def frs (l:List Env):List Addr:=l.filterMap (·.frame)
abbrev Cx.fs (X:Cx):List Addr:=frs X.outer
def Vis (sc:Scope) (x:Str):Prop:=sc.names.lookup x=some .local∨sc.names.lookup x=some .cell∨sc.names.lookup x=some .free
def Loc (sc:Scope) (x:Str):Prop:=sc.names.lookup x=some .local∨sc.names.lookup x=some .cell
def Look (env:Env) (h:Heap) (m:Str→Option Value) (x:Str) (u:Value):Prop :=
  (env.kindOf x=some .local∧m x=some u)∨((env.kindOf x=some .cell∨env.kindOf x=some .free)∧∃ c,env.cells.lookup x=some c∧h.IsCell c (some u))
structure Cx.Ok (X:Cx):Prop where
  mod:Mod X.K X.mg X.base
  kind:X.env.scope.kind=.function
  glob:X.env.globals=mainGlobals
  blt:X.env.builtins=builtinsNs
  above:X.s₀.heap.objs.size≤X.env.locals
  inj:∀ x y c,X.env.cells.lookup x=some c→X.env.cells.lookup y=some c→x=y
  has:∀ x,(X.env.kindOf x=some .cell∨X.env.kindOf x=some .free)→∃ c,X.env.cells.lookup x=some c
  cab:∀ x c,X.fn x=true→X.env.cells.lookup x=some c→X.s₀.heap.objs.size≤c
  hd:X.calm=true→X.A.handled=none
  frames:X.A.frames=some X.stack
  stk:X.stack=X.outer∨(X.stack=X.env::X.outer∧X.env.frame=some X.env.locals)
  exf:∀ b∈X.ex,b≠X.env.locals∧∀ x c,X.env.cells.lookup x=some c→c≠b
  bs:∀ b o,X.base.get? b=some o→X.s₀.heap.get? b=some o∧X.H₀ b=none
  bsz:X.base.objs.size≤X.s₀.heap.objs.size
  noex:∀ b o,X.base.get? b=some o→b∉X.ex
  exfs:∀ b∈X.ex,b∉X.fs
  funs:X.s₀.heap.FunFrames X.base X.outer
  frf:∀ b∈X.fs,X.H₀ b=none
structure Inv (X:Cx) (pins:List (Addr×Obj)) (σ:List (Option V)) (H:Hp) (s:Shared):Prop where
  ok:X.Ok
  os:s.os=X.s₀.os
  bare:AllBare s.gens
  base:Un X.fs X.ex X.H₀ H X.s₀.heap s.heap
  loc:∃ m,s.heap.Ns X.env.locals m∧∀ (i:Nat) (x:Str) (v:V),X.N[i]?=some x→σ[i]?=some (some v)→Vis X.env.scope x→∃ u,RelV v u∧Look X.env s.heap m x u
  cell:∀ x c,X.env.cells.lookup x=some c→∃ v,s.heap.IsCell c v
  free:H X.env.locals=none
  freeC:∀ x c,X.env.cells.lookup x=some c→H c=none
  pin:∀ p∈X.pn++pins,s.heap.get? p.1=some p.2∧H p.1=none∧p.1≠X.env.locals∧p.1∉X.fs∧∀ v,p.2.data≠.cell v
  hok:HOk X.prog X.w H s.heap
  len:σ.length=X.N.length
section
variable {X:Cx} {pins:List (Addr×Obj)} {σ:List (Option V)} {H H':Hp} {s:Shared} {h':Heap}
theorem Cx.Ok.nofr (ok:X.Ok) {b:Addr} {o:Obj} (e:X.base.get? b=some o):b∉X.fs:=fun hb=>by
  have:=(ok.funs.mem hb).1
  rw [e] at this; cases this
theorem Inv.bs (I:Inv X pins σ H s):∀ b o,X.base.get? b=some o→s.heap.get? b=some o∧H b=none:=fun b o e =>
  ⟨I.base.keep b o (I.ok.bs b o e).1 (I.ok.bs b o e).2 (I.ok.nofr e) (I.ok.noex b o e),I.base.free b o (I.ok.bs b o e).1 (I.ok.bs b o e).2 (I.ok.noex b o e)⟩
theorem Inv.bk (I:Inv X pins σ H s):∀ b o,X.base.get? b=some o→s.heap.get? b=some o:=fun b o e=>(I.bs b o e).1
theorem Inv.mod (I:Inv X pins σ H s):Mod X.K X.mg X.base:=I.ok.mod
theorem Inv.kIn (I:Inv X pins σ H s):X.K.In s.heap:=I.ok.mod.kin.keeps I.bk
theorem Inv.nolimit (I:Inv X pins σ H s):s.heap.NoLimit:=I.ok.mod.nolimit.keeps I.bk
theorem Inv.fr (I:Inv X pins σ H s):∃ m,Fr X.base X.env.locals s.heap m :=
  let ⟨m,hn,_⟩:=I.loc
  ⟨m,hn,I.bk,Nat.le_trans I.ok.bsz I.ok.above⟩
theorem Inv.lt (I:Inv X pins σ H s):X.env.locals<s.heap.objs.size:=let ⟨_,hn,_⟩:=I.loc; hn.lt
theorem Inv.sz (I:Inv X pins σ H s):X.s₀.heap.objs.size≤s.heap.objs.size:=Nat.le_trans I.ok.above (Nat.le_of_lt I.lt)
theorem Inv.nofs (I:Inv X pins σ H s) {a:Addr} (h:s.heap.objs.size≤a):a∉X.fs:=fun hb=>by
  obtain ⟨_,o,ho,_⟩:=I.ok.funs.mem hb
  exact absurd (Nat.lt_of_lt_of_le (Heap.lt_size ho) (Nat.le_trans I.sz h)) (Nat.lt_irrefl _)
theorem Inv.cne (I:Inv X pins σ H s):∀ x c,X.env.cells.lookup x=some c→c≠X.env.locals:=fun x c e z=>by
  obtain ⟨v,o,ho,hd⟩:=I.cell x c e
  obtain ⟨m,⟨o',es,ep,ho',hd',_⟩,_⟩:=I.loc
  rw [z,ho'] at ho; cases ho; rw [hd'] at hd; cases hd
theorem Inv.funs (I:Inv X pins σ H s):s.heap.FunFrames X.base X.outer:=by
  have all:∀ (l:List Env),(∀ b∈frs l,b∈X.fs)→X.s₀.heap.FunFrames X.base l→s.heap.FunFrames X.base l:=by
    intro l
    induction l with
    | nil=>intro _ _; trivial
    | cons env r ih =>
      intro hs hl
      obtain ⟨hk,⟨L,o,hf,hn,ho,hd⟩,hr⟩:=hl
      have hL:L∈X.fs:=hs L (by unfold frs; rw [List.filterMap_cons,hf]; exact List.mem_cons_self)
      obtain ⟨sl,e⟩:=I.base.slot L o ho (I.ok.frf L hL) hL fun z=>I.ok.exfs L z hL
      exact ⟨hk,⟨L,_,hf,hn,e,hd⟩,ih (fun b hb=>hs b (by unfold frs; rw [List.filterMap_cons,hf]; exact List.mem_cons_of_mem _ hb)) hr⟩
  exact all X.outer (fun _ hb=>hb) I.ok.funs
theorem Inv.stack (I:Inv X pins σ H s):s.heap.FunFrames X.base X.stack:=by
  rcases I.ok.stk with e | ⟨e,hf⟩
  · rw [e]; exact I.funs
  · rw [e]
    obtain ⟨m,hn,_⟩:=I.loc
    refine .cons (by rw [I.ok.kind]; decide) hf hn ?_ I.funs
    exact Heap.get?_none_of_le (Nat.le_trans I.ok.bsz I.ok.above)
theorem Inv.stkSub (I:Inv X pins σ H s):∀ b∈frs X.stack,b∈X.env.locals::X.fs:=fun b hb=>by
  rcases I.ok.stk with e | ⟨e,hf⟩
  · rw [e] at hb; exact List.mem_cons_of_mem _ hb
  · rw [e] at hb
    unfold frs at hb
    rw [List.filterMap_cons,hf] at hb
    exact hb
theorem Inv.stkFree (I:Inv X pins σ H s):∀ b∈frs X.stack,H b=none:=fun b hb=>by
  rcases List.mem_cons.mp (I.stkSub b hb) with e | hb
  · rw [e]; exact I.free
  · obtain ⟨_,o,ho,_⟩:=I.ok.funs.mem hb
    exact I.base.free b o ho (I.ok.frf b hb) fun z=>I.ok.exfs b z hb
theorem Inv.step {g':Array GenState} {t':Nat} {d':Drawn} {ch:List Addr} (I:Inv X pins σ H s)
    (hch:∀ b∈ch,(b∈X.ex∨X.s₀.heap.objs.size≤b)∧b≠X.env.locals∧(∀ x c,X.env.cells.lookup x=some c→c≠b)∧∀ p∈X.pn++pins,p.1≠b)
    (keep:∀ b o,b≠X.env.locals→b∉X.fs→b∉ch→s.heap.get? b=some o→H b=none→h'.get? b=some o)
    (slot:∀ b o,b≠X.env.locals→b∈X.fs→b∉ch→s.heap.get? b=some o→H b=none→∃ sl,h'.get? b=some { o with slots:=sl }) (free:∀ b o,b∉ch→s.heap.get? b=some o→H b=none→H' b=none)
    (there:∀ b o,b∉ch→s.heap.get? b=some o→∃ o',h'.get? b=some o')
    (tups:∀ b xs,H b=some (.tup xs)→H' b=some (.tup xs)) (frzs:∀ b o u,H b=some (.frz o u)→H' b=some (.frz o u)) (tbls:∀ b ps,H b=some (.tbl ps)→∃ more,H' b=some (.tbl (ps++more)))
    (ns:∀ m,s.heap.Ns X.env.locals m→h'.Ns X.env.locals m) (hok:HOk X.prog X.w H' h') (hg:AllBare g') :
    Inv X pins σ H' { s with heap:=h',gens:=g',drawn:=d',toks:=t' }:=by
  have neL:∀ b o,X.s₀.heap.get? b=some o→b≠X.env.locals:=fun b o e=>Nat.ne_of_lt (Nat.lt_of_lt_of_le (Heap.lt_size e) I.ok.above)
  have neC:∀ b o,X.s₀.heap.get? b=some o→b∉X.ex→b∉ch:=fun b o e hx hb=>by
    rcases (hch b hb).1 with z | z
    · exact hx z
    · exact absurd (Nat.lt_of_lt_of_le (Heap.lt_size e) z) (Nat.lt_irrefl _)
  have cellK:∀ x c,X.env.cells.lookup x=some c→∀ v,s.heap.IsCell c v→h'.IsCell c v:=fun x c e v ⟨o,ho,hd⟩=>by
    have nch:c∉ch:=fun z=>(hch c z).2.2.1 x c e rfl
    by_cases hc:c∈X.fs
    · obtain ⟨sl,q⟩:=slot c o (I.cne x c e) hc nch ho (I.freeC x c e)
      exact ⟨_,q,hd⟩
    · exact ⟨o,keep c o (I.cne x c e) hc nch ho (I.freeC x c e),hd⟩
  refine ⟨I.ok,I.os,hg,⟨fun b o e n hb hx=>?_,fun b o e n hb hx=>?_,fun b o e n hx=>?_,fun b o e hx=>?_,fun b xs e=>tups b xs (I.base.tups b xs e),fun b o xs e=>frzs b o xs (I.base.frzs b o xs e),fun b ps e=>?_⟩,?_,fun x c e=>?_,?_,fun x c e=>?_,fun p hp=>?_,hok,I.len⟩
  · exact keep b o (neL b o e) hb (neC b o e hx) (I.base.keep b o e n hb hx) (I.base.free b o e n hx)
  · obtain ⟨sl,e1⟩:=I.base.slot b o e n hb hx
    obtain ⟨sl',e2⟩:=slot b _ (neL b o e) hb (neC b o e hx) e1 (I.base.free b o e n hx)
    exact ⟨sl',e2⟩
  · obtain ⟨o',e1⟩:=I.base.there b o e hx
    exact free b o' (neC b o e hx) e1 (I.base.free b o e n hx)
  · obtain ⟨o',e1⟩:=I.base.there b o e hx
    exact there b o' (neC b o e hx) e1
  · obtain ⟨m1,e1⟩:=I.base.tbls b ps e
    obtain ⟨m2,e2⟩:=tbls b _ e1
    exact ⟨m1++m2,by rw [e2,Array.append_assoc]⟩
  · obtain ⟨m,hn,hl⟩:=I.loc
    refine ⟨m,ns m hn,fun i x v e1 e2 e3=>?_⟩
    obtain ⟨u,r,l⟩:=hl i x v e1 e2 e3
    refine ⟨u,r,?_⟩
    rcases l with l | ⟨k,c,e,z⟩
    · exact .inl l
    · exact .inr ⟨k,c,e,cellK x c e _ z⟩
  · obtain ⟨v,z⟩:=I.cell x c e
    exact ⟨v,cellK x c e v z⟩
  · obtain ⟨m,⟨o,_,_,ho,_⟩,_⟩:=I.loc
    exact free _ o (fun z=>(hch _ z).2.1 rfl) ho I.free
  · obtain ⟨v,o,ho,hd⟩:=I.cell x c e
    exact free c o (fun z=>(hch c z).2.2.1 x c e rfl) ho (I.freeC x c e)
  · obtain ⟨e,n,ne,nf,d⟩:=I.pin p hp
    have nch:p.1∉ch:=fun z=>(hch p.1 z).2.2.2 p hp rfl
    exact ⟨keep p.1 p.2 ne nf nch e n,free p.1 p.2 nch e n,ne,nf,d⟩
theorem Inv.un {t':Nat} (I:Inv X pins σ H s) (u:Un X.fs [] H H' s.heap h') (hok:HOk X.prog X.w H' h'):Inv X pins σ H' { s with heap:=h',toks:=t' }:=by
  obtain ⟨m,⟨o,es,ep,ho,r⟩,_⟩:=id I.loc
  obtain ⟨sl,hL⟩:=u.any ho I.free (by simp)
  exact I.step (g':=s.gens) (d':=s.drawn) (ch:=[]) (fun _ z=>nomatch z) (fun b o _ hb _ e n=>u.keep b o e n hb (by simp)) (fun b o _ hb _ e n=>u.slot b o e n hb (by simp)) (fun b o _ e n=>u.free b o e n (by simp)) (fun b o _ e=>u.there b o e (by simp)) u.tups u.frzs u.tbls (fun m' hm=>by
    obtain ⟨o',es',ep',ho',r'⟩:=hm
    rw [ho] at ho'; cases ho'
    exact ⟨_,es',ep',hL,r'⟩) hok I.bare
theorem Inv.call {g':Array GenState} {t':Nat} {d':Drawn} {ch:List Addr} (I:Inv X pins σ H s) (u:Un (frs X.stack) ch H H' s.heap h') (hok:HOk X.prog X.w H' h') (hg:AllBare g')
    (hch:∀ b∈ch,(b∈X.ex∨X.s₀.heap.objs.size≤b)∧b≠X.env.locals∧(∀ x c,X.env.cells.lookup x=some c→c≠b)∧∀ p∈X.pn++pins,p.1≠b) :
    Inv X pins σ H' { s with heap:=h',gens:=g',drawn:=d',toks:=t' }:=by
  obtain ⟨m,⟨o,es,ep,ho,r⟩,_⟩:=id I.loc
  obtain ⟨sl,hL⟩:=u.any ho I.free fun z=>(hch _ z).2.1 rfl
  exact I.step (ch:=ch) hch (fun b o hL hb hc e n=>u.keep b o e n (fun z=>(List.mem_cons.mp (I.stkSub b z)).elim hL hb) hc) (fun b o _ _ hc e n=>u.any e n hc) (fun b o hc e n=>u.free b o e n hc) (fun b o hc e=>u.there b o e hc) u.tups u.frzs u.tbls (fun m' hm=>by
    obtain ⟨o',es',ep',ho',r'⟩:=hm
    rw [ho] at ho'; cases ho'
    exact ⟨_,es',ep',hL,r'⟩) hok hg
theorem Inv.turned {t':Nat} {it:Addr} (I:Inv X pins σ H s) (k:∀ b o,b≠it→s.heap.get? b=some o→h'.get? b=some o) (hn:H it=none) (hL:it≠X.env.locals)
    (h1:it∈X.ex∨X.s₀.heap.objs.size≤it) (h2:∀ x c,X.env.cells.lookup x=some c→c≠it) (h3:∀ p∈X.pn++pins,p.1≠it):Inv X pins σ H { s with heap:=h',toks:=t' }:=by
  have nit:∀ b u,H b=some u→b≠it:=fun b u e z=>by rw [z,hn] at e; cases e
  refine I.step (g':=s.gens) (d':=s.drawn) (ch:=[it]) (fun b hb=>?_) (fun b o _ _ hc e _=>k b o (fun z=>hc (by simp [z])) e) (fun b o _ _ hc e _=>⟨o.slots,k b o (fun z=>hc (by simp [z])) e⟩) (fun _ _ _ _ n=>n)
    (fun b o hc e=>⟨o,k b o (fun z=>hc (by simp [z])) e⟩) (fun _ _ e=>e) (fun _ _ _ e=>e) (fun b ps e=>⟨#[],by rw [e]; simp⟩) (fun m hm=>?_) (fun b u e=>?_) I.bare
  · have e:b=it:=by simpa using hb
    subst e
    exact ⟨h1,hL,h2,h3⟩
  · obtain ⟨o,es,ep,ho,r⟩:=hm
    exact ⟨o,es,ep,k _ o (Ne.symm hL) ho,r⟩
  · refine (I.hok b u e).stay (fun c v hc q=>k c v ?_ q) (fun _ q=>q) fun _ _ q=>q
    rcases hc with z | z
    · rw [z]; exact nit b u e
    · exact nit c _ z
theorem Inv.tok (I:Inv X pins σ H s) (t:Nat):Inv X pins σ H { s with toks:=t }:=I.un (h':=s.heap) (t':=t) Un.refl I.hok
theorem Inv.kept {t':Nat} (I:Inv X pins σ H s) (k:∀ b u,s.heap.get? b=some u→h'.get? b=some u):Inv X pins σ H { s with heap:=h',toks:=t' }:=I.un (Un.kept k) (I.hok.kept k)
theorem Inv.laid {a:Addr} {o:HO} {t':Nat} (I:Inv X pins σ H s) (k:∀ b u,s.heap.get? b=some u→h'.get? b=some u) (hp:s.heap.objs.size≤a) (new:ObjOk X.prog X.w (upd H a o) h' a o) :
    Inv X pins σ (upd H a o) { s with heap:=h',toks:=t' }:=I.un (Un.laid k hp (I.hok.fresh hp)) (I.hok.laid k hp new)
theorem Inv.write {x e:Addr} {o:HO} {t':Nat} (I:Inv X pins σ H s) (mu:Mut (H x)) (he:e=x∨H e=some (.own x)) (k:∀ b u,b≠e→s.heap.get? b=some u→h'.get? b=some u) (heo:∃ u,h'.get? e=some u)
    (new:ObjOk X.prog X.w (upd H x o) h' x o):Inv X pins σ (upd H x o) { s with heap:=h',toks:=t' }:=I.un (Un.write mu he k heo) (I.hok.write mu he k heo new)
theorem Inv.weak {σ':List (Option V)} (I:Inv X pins σ H s) (hl:σ'.length=σ.length) (w:∀ (i:Nat) v,σ'[i]?=some (some v)→σ[i]?=some (some v)):Inv X pins σ' H s :=
  ⟨I.ok,I.os,I.bare,I.base,let ⟨m,hn,hl'⟩:=I.loc; ⟨m,hn,fun i x v e1 e2 e3=>hl' i x v e1 (w i v e2) e3⟩,I.cell,I.free,I.freeC,I.pin,I.hok,hl.trans I.len⟩
theorem Inv.pins_of {pins':List (Addr×Obj)} (I:Inv X pins σ H s) (h:∀ p∈pins',s.heap.get? p.1=some p.2∧H p.1=none∧p.1≠X.env.locals∧p.1∉X.fs∧∀ v,p.2.data≠.cell v):Inv X pins' σ H s :=
  ⟨I.ok,I.os,I.bare,I.base,I.loc,I.cell,I.free,I.freeC,fun p hp=>(List.mem_append.mp hp).elim (fun z=>I.pin p (List.mem_append_left _ z)) (h p),I.hok,I.len⟩
theorem nodup_ix {N:List Str} (hN:N.Nodup) {i j:Nat} {x:Str} (a:N[i]?=some x) (b:N[j]?=some x):i=j:=by
  obtain ⟨h1,e1⟩:=List.getElem?_eq_some_iff.mp a
  obtain ⟨h2,e2⟩:=List.getElem?_eq_some_iff.mp b
  exact (List.getElem_inj hN).mp (e1.trans e2.symm)
theorem store_ok2 {M:Model} {A:Around} {E:Value→Shared→Prop} {i:Nat} {x:Str} {v:V} {u:Value} {Q:Unit→Shared→Prop} (I:Inv X pins σ H s) (hN:X.N.Nodup) (hi:X.N[i]?=some x) (hx:Loc X.env.scope x) (r:RelV v u)
    (h:∀ s',Inv X pins (σ.set i (some v)) H s'→(∃ a,Heap.SameBut a s.heap s'.heap∧(a=X.env.locals∨X.env.cells.lookup x=some a))→Q () s') (hf:X.fn x=true∨X.env.scope.names.lookup x=some .local:=by first | exact .inl rfl | exact .inr rfl | assumption):wpAny M A (storeName X.env x u) Q E s:=by
  obtain ⟨m,hn,hl⟩:=id I.loc
  have hcls:(X.env.scope.kind==.class || (X.env.scope.kind==.module&&X.env.locals != X.env.globals))=false:=by rw [I.ok.kind]; rfl
  have hiσ:i < σ.length:=by rw [I.len]; exact (List.getElem?_eq_some_iff.mp hi).1
  have cne:=I.cne
  have tracked:∀ {a:Addr} {h':Heap},(∃ o,s.heap.get? a=some o∧H a=none)→Heap.SameBut a s.heap h'→HOk X.prog X.w H h':=fun {a h'} ha hs b ob e=>by
    obtain ⟨_,_,hfree⟩:=ha
    refine (I.hok b ob e).stay (fun c w' hc q=>(hs.2 c ?_).trans q) (fun _ q=>q) fun _ _ q=>q
    rintro rfl
    rcases hc with rfl | hc
    · rw [hfree] at e; cases e
    · rw [hfree] at hc; cases hc
  rcases hx with hk | hk
  · refine wpAny_storeName_local hk hn (fun h' hn' hs=>?_) hcls
    obtain ⟨oL,_,_,hoL,_⟩:=id hn
    refine h _ ⟨I.ok,I.os,I.bare,⟨fun b o e n hb hx=>?_,fun b o e n hb hx=>?_,I.base.free,fun b o e hx=>?_,I.base.tups,I.base.frzs,I.base.tbls⟩,⟨_,hn',fun j y v' e1 e2 e3=>?_⟩,fun y c e=>?_,I.free,I.freeC,fun p hp=>?_,tracked ⟨oL,hoL,I.free⟩ hs,by simpa using I.len⟩ ⟨_,hs,.inl rfl⟩
    · exact (hs.2 b (Nat.ne_of_lt (Nat.lt_of_lt_of_le (Heap.lt_size e) I.ok.above))).trans (I.base.keep b o e n hb hx)
    · obtain ⟨sl,e1⟩:=I.base.slot b o e n hb hx
      exact ⟨sl,(hs.2 b (Nat.ne_of_lt (Nat.lt_of_lt_of_le (Heap.lt_size e) I.ok.above))).trans e1⟩
    · obtain ⟨o',e1⟩:=I.base.there b o e hx
      exact ⟨o',(hs.2 b (Nat.ne_of_lt (Nat.lt_of_lt_of_le (Heap.lt_size e) I.ok.above))).trans e1⟩
    · by_cases hj:j=i
      · subst hj
        rw [hi] at e1; cases e1
        rw [List.getElem?_set_self hiσ] at e2
        cases e2
        exact ⟨u,r,.inl ⟨hk,by simp⟩⟩
      · rw [List.getElem?_set_ne (Ne.symm hj)] at e2
        obtain ⟨u',r',q⟩:=hl j y v' e1 e2 e3
        refine ⟨u',r',?_⟩
        rcases q with ⟨k,e⟩ | ⟨k,c,e,z⟩
        · refine .inl ⟨k,?_⟩
          have:y≠x:=fun e=>hj (nodup_ix hN e1 (e ▸ hi))
          simp [this,e]
        · exact .inr ⟨k,c,e,z.sameBut hs (cne y c e)⟩
    · obtain ⟨w',z⟩:=I.cell y c e
      exact ⟨w',z.sameBut hs (cne y c e)⟩
    · obtain ⟨e,n,ne,nf,d⟩:=I.pin p hp
      exact ⟨(hs.2 p.1 ne).trans e,n,ne,nf,d⟩
  · have hfn:X.fn x=true:=by
      rcases hf with z | z
      · exact z
      · rw [z] at hk; cases hk
    obtain ⟨c,hc⟩:=I.ok.has x (.inl hk)
    obtain ⟨w',z⟩:=I.cell x c hc
    refine wpAny_storeName_cell I.ok.kind hk hc z (fun h' hc' hs=>?_)
    obtain ⟨oc,hoc,hocd⟩:=id z
    refine h { s with heap:=h' } ⟨I.ok,I.os,I.bare,⟨fun b o e n hb hx=>?_,fun b o e n hb hx=>?_,I.base.free,fun b o e hx=>?_,I.base.tups,I.base.frzs,I.base.tbls⟩,⟨m,hn.sameBut hs (Ne.symm (cne x c hc)),fun j y v' e1 e2 e3=>?_⟩,fun y c' e=>?_,I.free,I.freeC,fun p hp=>?_,tracked ⟨oc,hoc,I.freeC x c hc⟩ hs,by simpa using I.len⟩ ⟨c,hs,.inr hc⟩
    · exact (hs.2 b (Nat.ne_of_lt (Nat.lt_of_lt_of_le (Heap.lt_size e) (I.ok.cab x c hfn hc)))).trans (I.base.keep b o e n hb hx)
    · obtain ⟨sl,e1⟩:=I.base.slot b o e n hb hx
      exact ⟨sl,(hs.2 b (Nat.ne_of_lt (Nat.lt_of_lt_of_le (Heap.lt_size e) (I.ok.cab x c hfn hc)))).trans e1⟩
    · obtain ⟨o',e1⟩:=I.base.there b o e hx
      exact ⟨o',(hs.2 b (Nat.ne_of_lt (Nat.lt_of_lt_of_le (Heap.lt_size e) (I.ok.cab x c hfn hc)))).trans e1⟩
    · by_cases hj:j=i
      · subst hj
        rw [hi] at e1; cases e1
        rw [List.getElem?_set_self hiσ] at e2
        cases e2
        exact ⟨u,r,.inr ⟨.inl hk,c,hc,hc'⟩⟩
      · rw [List.getElem?_set_ne (Ne.symm hj)] at e2
        obtain ⟨u',r',q⟩:=hl j y v' e1 e2 e3
        refine ⟨u',r',?_⟩
        rcases q with q | ⟨k,c',e,z'⟩
        · exact .inl q
        · refine .inr ⟨k,c',e,z'.sameBut hs ?_⟩
          rintro rfl
          exact hj (nodup_ix hN e1 (I.ok.inj _ _ _ e hc ▸ hi))
    · by_cases hcc:c'=c
      · subst hcc; exact ⟨_,hc'⟩
      · obtain ⟨w2,z2⟩:=I.cell y c' e
        exact ⟨w2,z2.sameBut hs hcc⟩
    · obtain ⟨e,n,ne,nf,d⟩:=I.pin p hp
      refine ⟨(hs.2 p.1 ?_).trans e,n,ne,nf,d⟩
      intro q
      rw [q,hoc] at e
      have q':oc=p.2:=Option.some.inj e
      exact d w' (by rw [← q']; exact hocd)
theorem store_ok {M:Model} {A:Around} {E:Value→Shared→Prop} {i:Nat} {x:Str} {v:V} {u:Value} {Q:Unit→Shared→Prop} (I:Inv X pins σ H s) (hN:X.N.Nodup) (hi:X.N[i]?=some x) (hx:Loc X.env.scope x) (r:RelV v u)
    (h:∀ s',Inv X pins (σ.set i (some v)) H s'→Q () s') (hf:X.fn x=true∨X.env.scope.names.lookup x=some .local:=by first | exact .inl rfl | exact .inr rfl | assumption):wpAny M A (storeName X.env x u) Q E s :=
  store_ok2 I hN hi hx r (fun s' I' _=>h s' I') hf
theorem Inv.call' {s':Shared} {ch:List Addr} (I:Inv X pins σ H s) (ho:s'.os=s.os) (u:Un (frs X.stack) ch H H' s.heap s'.heap) (hok:HOk X.prog X.w H' s'.heap) (hg:AllBare s'.gens)
    (hch:∀ b∈ch,(b∈X.ex∨X.s₀.heap.objs.size≤b)∧b≠X.env.locals∧(∀ x c,X.env.cells.lookup x=some c→c≠b)∧∀ p∈X.pn++pins,p.1≠b):Inv X pins σ H' s':=by
  obtain ⟨h',g',d',t',o'⟩:=s'
  have e:o'=s.os:=ho
  subst e
  exact I.call (g':=g') (t':=t') (d':=d') u hok hg hch
end
abbrev XK:=Value→Option Addr→Hp→Prop
abbrev St:=List (Option V)
abbrev VK:=V→Hp→Prop
abbrev TE:=St→Hp→VK→Prop
abbrev TT:=St→Hp→(Bool→Hp→Prop)→Prop
abbrev TA:=St→Hp→(List V→Hp→Prop)→Prop
structure Ends where
  nx:St→Hp→Prop
  rt:VK
  bk:St→Hp→Prop:=fun _ _=>False
  ct:St→Hp→Prop:=fun _ _=>False
abbrev TS:=Ends→St→Hp→Prop
def EP (X:Cx) (pins:List (Addr×Obj)) (σ:St) (Q:VK) (u:Value) (s':Shared):Prop:=∃ v H',Inv X pins σ H' s'∧RelV v u∧Q v H'
def TP (X:Cx) (pins:List (Addr×Obj)) (σ:St) (Q:Bool→Hp→Prop) (b:Bool) (s':Shared):Prop:=∃ H',Inv X pins σ H' s'∧Q b H'
def AP (X:Cx) (pins:List (Addr×Obj)) (σ:St) (Q:List V→Hp→Prop) (us:List Value) (s':Shared):Prop:=∃ vs H',Inv X pins σ H' s'∧Vals vs us∧Q vs H'
def SP (X:Cx) (pins:List (Addr×Obj)) (D:Ends) (f:Flow) (s':Shared):Prop :=
  match f with
  | .next=>∃ σ' H',Inv X pins σ' H' s'∧D.nx σ' H'
  | .brk=>∃ σ' H',Inv X pins σ' H' s'∧D.bk σ' H'
  | .cont=>∃ σ' H',Inv X pins σ' H' s'∧D.ct σ' H'
  | .ret u=>∃ v σ' H',Inv X pins σ' H' s'∧RelV v u∧D.rt v H'
def PE (X:Cx) (e:Expr) (t:TE):Prop :=
  ∀ (pins:List (Addr×Obj)) (s:Shared) (σ:St) (H:Hp) (Q:VK),Inv X pins σ H s→t σ H Q→wpAny (model X.prog X.w) X.A (eval e X.env) (EP X pins σ Q) X.xe s
def PT (X:Cx) (e:Expr) (t:TT):Prop :=
  ∀ (pins:List (Addr×Obj)) (s:Shared) (σ:St) (H:Hp) (Q:Bool→Hp→Prop),Inv X pins σ H s→t σ H Q→wpAny (model X.prog X.w) X.A (isTrue e X.env (eval e X.env)) (TP X pins σ Q) X.xe s
def PW (X:Cx) (e:Expr) (t:TT):Prop :=
  ∀ (whole:Sem Value) (pins:List (Addr×Obj)) (s:Shared) (σ:St) (H:Hp) (Q:Bool→Hp→Prop),Inv X pins σ H s→t σ H Q→wpAny (model X.prog X.w) X.A (isTrue e X.env whole) (TP X pins σ Q) X.xe s
theorem PW.pt {X:Cx} {e:Expr} {t:TT} (h:PW X e t):PT X e t:=h _
def PA (X:Cx) (es:List Expr) (t:TA):Prop :=
  ∀ (pos:Pos) (pins:List (Addr×Obj)) (s:Shared) (σ:St) (H:Hp) (Q:List V→Hp→Prop),Inv X pins σ H s→t σ H Q→wpAny (model X.prog X.w) X.A (spliced (backTo pos (starEach es X.env))) (AP X pins σ Q) X.xe s
def PS (X:Cx) (st:Stmt) (t:TS):Prop :=
  ∀ (pins:List (Addr×Obj)) (s:Shared) (σ:St) (H:Hp) (D:Ends),Inv X pins σ H s→t D σ H→wpAny (model X.prog X.w) X.A (exec st X.env) (SP X pins D) X.xe s
def PSs (X:Cx) (st:List Stmt) (t:TS):Prop :=
  ∀ (pins:List (Addr×Obj)) (s:Shared) (σ:St) (H:Hp) (D:Ends),Inv X pins σ H s→t D σ H→wpAny (model X.prog X.w) X.A (execs st X.env) (SP X pins D) X.xe s
theorem thn {α:Type} {t:Sem α} {Q Q':α→Shared→Prop} {M:Model} {A:Around} {E:Value→Shared→Prop} {s:Shared} (h:wpAny M A t Q E s) (hQ:∀ a s,Q a s→Q' a s):wpAny M A t Q' E s:=wpAny_mono h hQ fun _ _ x=>x
end L2
namespace L2
open PySem PySem.Spec PyProof.Rows
section
variable {X:Cx}
def tVar (i:Nat):TE:=fun σ H Q=>∃ v,σ[i]?=some (some v)∧Q v H
def tC (v:V):TE:=fun _ H Q=>Q v H
theorem pe_var {i:Nat} {x:Str} {pos:Pos} (hN:X.N[i]?=some x) (hv:Vis X.env.scope x) (hd:(x==("__debug__" : Str))=false:=by decide) (hcd:(x==("__classdict__" : Str))=false:=by decide):PE X (.Name x pos) (tVar i):=by
  intro pins s σ H Q I h
  obtain ⟨v,e,h⟩:=h
  obtain ⟨m,hn,hl⟩:=I.loc
  obtain ⟨u,r,l⟩:=hl i x v hN e hv
  have fin:EP X pins σ Q u s:=⟨v,H,I,r,h⟩
  rcases l with ⟨hk,hm⟩ | ⟨hk,c,hc,hcell⟩
  · exact wpAny_Name (wpAny_loadName_local I.ok.kind hk hn hm fin) hd
  · rcases hk with hk | hk
    · exact wpAny_Name (wpAny_loadName_cell I.ok.kind hk hc hcell fin) hd
    · exact wpAny_Name (wpAny_loadName_free I.ok.kind hk hc hcell fin hcd) hd
theorem pe_int {i j pos}:PE X (.Constant (.int i) j pos) (tC (.int i)):=fun _ _ _ H _ I h=>wpAny_Constant_int ⟨.int i,H,I.tok _,⟨_,rfl⟩,h⟩
theorem pe_bl {b j pos}:PE X (.Constant (.bool b) j pos) (tC (.bl b)):=fun _ _ _ H _ I h=>Constant_bool ⟨.bl b,H,I,rfl,h⟩
def Gl (X:Cx) (x:Str):Prop:=X.env.kindOf x=some .globalImplicit
theorem ld_glob {E:Value→Shared→Prop} {pins:List (Addr×Obj)} {s:Shared} {σ:St} {H:Hp} {x:Str} {u:Value} {pos:Pos} {Q:Value→Shared→Prop} (I:Inv X pins σ H s) (hg:Gl X x) (hm:X.mg x=some u) (h:Q u s)
    (hd:(x==("__debug__" : Str))=false:=by decide):wpAny (model X.prog X.w) X.A (eval (.Name x pos) X.env) Q E s :=
  Calls.Name_function_global I.ok.kind hg (Calls.loadGlobal_global (by rw [I.ok.glob]; exact I.mod.glob.keeps I.bk) hm h) hd
theorem ld_blt {E:Value→Shared→Prop} {pins:List (Addr×Obj)} {s:Shared} {σ:St} {H:Hp} {x:Str} {u:Value} {pos:Pos} {Q:Value→Shared→Prop} (I:Inv X pins σ H s) (hg:Gl X x) (hm:X.mg x=none) (hv:bootBuiltins x=some u) (h:Q u s)
    (hn:x ≠ "__name__" := by decide) (hd:(x==("__debug__" : Str))=false:=by decide):wpAny (model X.prog X.w) X.A (eval (.Name x pos) X.env) Q E s:=by
  obtain ⟨mb,h1,h2⟩:=I.mod.blt
  exact Calls.Name_function_global I.ok.kind hg (Calls.loadGlobal_builtin (by rw [I.ok.glob]; exact I.mod.glob.keeps I.bk) hm (by rw [I.ok.blt]; exact h1.keeps I.bk) ((h2 x hn).trans hv) h) hd
theorem pe_glob {x:Str} {v:V} {u:Value} {pos:Pos} (hg:Gl X x) (hm:X.mg x=some u) (r:RelV v u) (hd:(x==("__debug__" : Str))=false:=by decide):PE X (.Name x pos) (tC v) :=
  fun _ _ _ H _ I h=>ld_glob I hg hm ⟨v,H,I,r,h⟩ hd
variable {a b:Expr} {ta tb:TE} {pos:Pos}
variable {tA tB':TT} {rest:List Expr}
def tAnd (t u:TT):TT:=fun σ H Q=>t σ H fun c H1=>if c=true then u σ H1 Q else Q false H1
def tOr (t u:TT):TT:=fun σ H Q=>t σ H fun c H1=>if c=true then Q true H1 else u σ H1 Q
def tNot (t:TT):TT:=fun σ H Q=>t σ H fun c H1=>Q (!c) H1
theorem pw_and1 (ha:PT X a tA):PW X (.BoolOp .And [a] pos) tA:=by
  intro wh pins s σ H Q I h
  refine isTrue_and (thn (ha pins s σ H Q I h) fun c s1 e=>?_)
  cases c with
  | true=>exact isTrue_and_nil e
  | false=>exact e
theorem pw_or1 (ha:PT X a tA):PW X (.BoolOp .Or [a] pos) tA:=by
  intro wh pins s σ H Q I h
  refine isTrue_or (thn (ha pins s σ H Q I h) fun c s1 e=>?_)
  cases c with
  | false=>exact isTrue_or_nil e
  | true=>exact e
theorem pw_and (ha:PT X a tA) (hb:PW X (.BoolOp .And (b::rest) pos) tB'):PW X (.BoolOp .And (a::b::rest) pos) (tAnd tA tB'):=by
  intro wh pins s σ H Q I h
  refine isTrue_and (thn (ha pins s σ H _ I h) fun c s1 ⟨H1,I1,q1⟩=>?_)
  cases c with
  | true=>exact hb wh pins s1 σ H1 Q I1 q1
  | false=>exact ⟨H1,I1,q1⟩
theorem pw_or (ha:PT X a tA) (hb:PW X (.BoolOp .Or (b::rest) pos) tB'):PW X (.BoolOp .Or (a::b::rest) pos) (tOr tA tB'):=by
  intro wh pins s σ H Q I h
  refine isTrue_or (thn (ha pins s σ H _ I h) fun c s1 ⟨H1,I1,q1⟩=>?_)
  cases c with
  | true=>exact ⟨H1,I1,q1⟩
  | false=>exact hb wh pins s1 σ H1 Q I1 q1
theorem pt_not (ha:PT X a tA):PT X (.UnaryOp .Not a pos) (tNot tA):=by
  intro pins s σ H Q I h
  exact isTrue_not (ha pins s σ H (fun c H1=>Q (!c) H1) I h)
def tOrV (ta tb:TE):TE:=fun σ H Q=>ta σ H fun x H1=>∃ c,x=.bl c∧if c=true then Q (.bl true) H1 else tb σ H1 Q
theorem pe_one {op} {t:TE} (h:PE X a t):PE X (.BoolOp op [a] pos) t:=fun pins s σ H Q I hw=>BoolOp_one (h pins s σ H Q I hw)
theorem pe_or (ha:PE X a ta) (hb:PE X (.BoolOp .Or (b::rest) pos) tb):PE X (.BoolOp .Or (a::b::rest) pos) (tOrV ta tb):=by
  intro pins s σ H Q I h
  refine BoolOp_or (thn (ha pins s σ H _ I h) fun v s1 ⟨x,H1,I1,r1,q1⟩=>?_)
  obtain ⟨c,rfl,q1⟩:=q1
  cases r1
  refine wpAny_truthy_bool ?_
  cases c with
  | false=>exact hb pins s1 σ H1 Q I1 q1
  | true=>exact ⟨.bl true,H1,I1,rfl,q1⟩
end
end L2
namespace L2
open PySem PySem.Spec PyProof.Rows
def SqL (K:PySem.W.Frag) (H:Hp) (a:Addr) (xs:List V):Prop :=
  Rd H a (.lst xs) ∨
    ∃ (o:Obj) (its:Array Value) (n:Nat),K.lookup a=some o∧o.cls=.type "list" ∧ o.dict=none∧o.data=.seq its n∧its.size≤sizeLine∧Vals xs its.toList
def SqT (K:PySem.W.Frag) (H:Hp) (a:Addr) (xs:List V):Prop :=
  Rd H a (.tup xs) ∨
    ∃ (o:Obj) (its:Array Value) (n:Nat),K.lookup a=some o∧o.cls=.type "tuple" ∧ o.data=.seq its n∧its.size≤sizeLine∧Vals xs its.toList
def absV:Value→Option V
  | .none=>some .non
  | .bool b=>some (.bl b)
  | .int i _=>some (.int i)
  | .str x _=>some (.str x)
  | .bytes b _=>some (.byt b)
  | .float b _=>some (.flt b)
  | .ref a=>some (.ref a)
  | .type n=>some (.ty n)
  | _=>none
theorem RelV.abs {x:V} {u:Value} (r:RelV x u):absV u=some x:=by
  cases x with
  | non=>cases r; rfl
  | bl _=>cases r; rfl
  | int _=>obtain ⟨t,rfl⟩:=r; rfl
  | str _=>obtain ⟨t,rfl⟩:=r; rfl
  | byt _=>obtain ⟨t,rfl⟩:=r; rfl
  | flt _=>obtain ⟨t,rfl⟩:=r; rfl
  | ref _=>cases r; rfl
  | ty _=>cases r; rfl
theorem RelV.inj {x y:V} {u:Value} (r:RelV x u) (q:RelV y u):x=y:=Option.some.inj (r.abs.symm.trans q.abs)
theorem Vals.inj:∀ {xs ys:List V} {us:List Value},Vals xs us→Vals ys us→xs=ys
  | _,_,_,.nil,.nil=>rfl
  | _,_,_,.cons r t,.cons r' t'=>by rw [r.inj r',Vals.inj t t']
section
variable {X:Cx} {pins:List (Addr×Obj)} {σ:St} {H:Hp} {s:Shared} {a:Addr} {xs ys:List V}
theorem SqL.of {K:PySem.W.Frag} (h:H a=some (.lst xs)):SqL K H a xs:=.inl (.inl h)
theorem Inv.list (I:Inv X pins σ H s) (h:SqL X.K H a xs):∃ its:List Value,Vals xs its∧PlainL s.heap a its.toArray∧xs.length≤sizeLine:=by
  rcases h with h | ⟨o,its,n,hk,hc,hd,hs,hz,r⟩
  · obtain ⟨z,its,n,r,e⟩:=h.ok I.hok
    exact ⟨its,r,⟨_,n,e,rfl,rfl,rfl⟩,z⟩
  · refine ⟨its.toList,r,⟨o,n,I.kIn a o hk,hc,hd,by simpa using hs⟩,?_⟩
    have e:=r.length
    simp only [Array.length_toList] at e
    omega
theorem Inv.tuple (I:Inv X pins σ H s) (h:SqT X.K H a xs):∃ its:List Value,Vals xs its∧IsTup s.heap a its.toArray∧xs.length≤sizeLine:=by
  rcases h with h | ⟨o,its,n,hk,hc,hs,hz,r⟩
  · obtain ⟨z,its,r,p⟩:=h.ok I.hok
    exact ⟨its,r,p,z⟩
  · refine ⟨its.toList,r,⟨o,I.kIn a o hk,hc,n,by simpa using hs⟩,?_⟩
    have e:=r.length
    simp only [Array.length_toList] at e
    omega
theorem Inv.list_inj (I:Inv X pins σ H s) (h:SqL X.K H a xs) (h':SqL X.K H a ys):xs=ys:=by
  obtain ⟨its,r,⟨o,n,e,_,_,d⟩,_⟩:=I.list h
  obtain ⟨its',r',⟨o',n',e',_,_,d'⟩,_⟩:=I.list h'
  rw [e] at e'; cases e'
  rw [d] at d'
  injection d' with d1 _
  have:its=its':=by simpa using congrArg Array.toList d1
  subst this
  exact r.inj r'
end
abbrev Cx.wish (X:Cx) (E:Value→Shared→Prop):Cx:={ X with xe:=E }
abbrev Cx.nox (X:Cx):Cx:=X.wish fun _ _=>False
theorem Cx.Ok.wish {X:Cx} (ok:X.Ok) (E:Value→Shared→Prop):(X.wish E).Ok :=
  ⟨ok.mod,ok.kind,ok.glob,ok.blt,ok.above,ok.inj,ok.has,ok.cab,ok.hd,ok.frames,ok.stk,ok.exf,ok.bs,ok.bsz,ok.noex,ok.exfs,ok.funs,ok.frf⟩
theorem Cx.Ok.unwish {X:Cx} {E:Value→Shared→Prop} (ok:(X.wish E).Ok):X.Ok :=
  ⟨ok.mod,ok.kind,ok.glob,ok.blt,ok.above,ok.inj,ok.has,ok.cab,ok.hd,ok.frames,ok.stk,ok.exf,ok.bs,ok.bsz,ok.noex,ok.exfs,ok.funs,ok.frf⟩
section
variable {X:Cx} {pins:List (Addr×Obj)} {σ:St} {H:Hp} {s:Shared} {E:Value→Shared→Prop}
theorem Inv.wish (I:Inv X pins σ H s) (E:Value→Shared→Prop):Inv (X.wish E) pins σ H s:=⟨I.ok.wish E,I.os,I.bare,I.base,I.loc,I.cell,I.free,I.freeC,I.pin,I.hok,I.len⟩
theorem Inv.unwish (I:Inv (X.wish E) pins σ H s):Inv X pins σ H s:=⟨I.ok.unwish,I.os,I.bare,I.base,I.loc,I.cell,I.free,I.freeC,I.pin,I.hok,I.len⟩
theorem SP.unwish {D:Ends} {f:Flow} {s':Shared} (h:SP (X.wish E) pins D f s'):SP X pins D f s':=by
  cases f with
  | next=>obtain ⟨σ',H',I,q⟩:=h; exact ⟨σ',H',I.unwish,q⟩
  | brk=>obtain ⟨σ',H',I,q⟩:=h; exact ⟨σ',H',I.unwish,q⟩
  | cont=>obtain ⟨σ',H',I,q⟩:=h; exact ⟨σ',H',I.unwish,q⟩
  | ret u=>obtain ⟨v,σ',H',I,r,q⟩:=h; exact ⟨v,σ',H',I.unwish,r,q⟩
theorem PSs.nox {st:List Stmt} {t:TS} (h:PSs X.nox st t):PSs X st t:=fun pins s σ H D I hw =>
  wpAny_mono (h pins s σ H D (I.wish _) hw) (fun _ _ q=>q.unwish) fun _ _ z=>False.elim z
end
section
variable {X:Cx} {st:Stmt} {rest:List Stmt} {t u:TS} {e:Expr} {te:TE} {pos:Pos}
def tNext:TS:=fun D σ H=>D.nx σ H
def tSeq (t u:TS):TS:=fun D σ H=>t { D with nx:=u D } σ H
theorem pss_nil:PSs X [] tNext:=fun _ _ σ H _ I h=>wpAny_execs_nil ⟨σ,H,I,h⟩
theorem pss_cons (h1:PS X st t) (h2:PSs X rest u):PSs X (st::rest) (tSeq t u):=by
  intro pins s σ H D I h
  refine wpAny_execs_cons (thn (h1 pins s σ H { D with nx:=u D } I h) fun f s1 q=>?_)
  cases f with
  | next =>
    obtain ⟨σ',H',I',q⟩:=q
    exact h2 pins s1 σ' H' D I' q
  | ret v=>exact q
  | brk=>exact q
  | cont=>exact q
theorem pss_one (h1:PS X st t):PSs X [st] t:=by
  intro pins s σ H D I h
  refine wpAny_execs_cons (thn (h1 pins s σ H D I h) fun f s1 q=>?_)
  cases f with
  | next=>exact wpAny_execs_nil q
  | ret v=>exact q
  | brk=>exact q
  | cont=>exact q
theorem Inv.quiet {pins:List (Addr×Obj)} {σ:St} {H:Hp} {s:Shared} (I:Inv X pins σ H s):interactive X.env=false:=by simp [interactive,I.ok.kind]
def tDrop (te:TE):TS:=fun D σ H=>te σ H fun _ H1=>D.nx σ H1
theorem ps_expr (he:PE X e te) (hs:swapsWith e none pos.line X.env=pure false:=by rfl):PS X (.Expr e pos) (tDrop te):=by
  intro pins s σ H D I h
  exact wpAny_Expr_any (thn (he pins s σ H _ I h) fun v s1 ⟨x,H1,I1,r1,q1⟩=>⟨σ,H1,I1,q1⟩) I.quiet hs
def tRet (te:TE):TS:=fun D σ H=>te σ H D.rt
theorem ps_ret (he:PE X e te):PS X (.Return (some e) pos) (tRet te):=by
  intro pins s σ H D I h
  exact wpAny_Return_some (thn (he pins s σ H _ I h) fun v s1 ⟨x,H1,I1,r1,q1⟩=>⟨x,σ,H1,I1,r1,q1⟩)
def tIfS (c:TT) (t u:TS):TS:=fun D σ H=>c σ H fun b H1=>if b=true then t D σ H1 else u D σ H1
theorem ps_if {c:Expr} {a b:List Stmt} {tc:TT} (hc:PT X c tc) (ha:PSs X a t) (hb:PSs X b u):PS X (.If c a b pos) (tIfS tc t u):=by
  intro pins s σ H D I h
  refine wpAny_If (thn (hc pins s σ H _ I h) fun d s1 ⟨H1,I1,q1⟩=>?_)
  cases d with
  | true=>exact ha pins s1 σ H1 D I1 q1
  | false=>exact hb pins s1 σ H1 D I1 q1
def tNever:TS:=fun _ _ _=>False
theorem ps_never:PS X st tNever:=fun _ _ _ _ _ _ h=>h.elim
end
abbrev TG:=V→St→Hp→(St→Hp→Prop)→Prop
abbrev TGs:=List V→St→Hp→(St→Hp→Prop)→Prop
def PG (X:Cx) (target:Expr) (t:TG):Prop :=
  ∀ (pins:List (Addr×Obj)) (s:Shared) (σ:St) (H:Hp) (v:V) (u:Value) (Q:St→Hp→Prop),Inv X pins σ H s→RelV v u→t v σ H Q →
    wpAny (model X.prog X.w) X.A (assign target X.env u) (fun _ s'=>∃ σ' H',Inv X pins σ' H' s'∧Q σ' H') X.xe s
def PGs (X:Cx) (ts:List Expr) (t:TGs):Prop :=
  ∀ (pins:List (Addr×Obj)) (s:Shared) (σ:St) (H:Hp) (vs:List V) (us:List Value) (Q:St→Hp→Prop),Inv X pins σ H s→Vals vs us→t vs σ H Q →
    wpAny (model X.prog X.w) X.A (assignInOrder ((assignEach ts X.env).map (·.2)) us) (fun _ s'=>∃ σ' H',Inv X pins σ' H' s'∧Q σ' H') X.xe s
abbrev TSet:=V→V→V→Hp→(Hp→Prop)→Prop
def PSet (X:Cx) (t:TSet):Prop :=
  ∀ (pins:List (Addr×Obj)) (s:Shared) (σ:St) (H:Hp) (o i v:V) (ov iv u:Value) (Q:Hp→Prop),Inv X pins σ H s→RelV o ov→RelV i iv→RelV v u→t o i v H Q →
    wpAny (model X.prog X.w) X.A (setItem ov iv u) (fun _ s'=>∃ H',Inv X pins σ H' s'∧Q H') X.xe s
abbrev TIp:=V→V→Hp→VK→Prop
def PIp (X:Cx) (op:Operator) (t:TIp):Prop :=
  ∀ (pins:List (Addr×Obj)) (s:Shared) (σ:St) (H:Hp) (x y:V) (v u:Value) (Q:VK),Inv X pins σ H s→RelV x v→RelV y u→t x y H Q →
    wpAny (model X.prog X.w) X.A (inplaceOp op v u) (EP X pins σ Q) X.xe s
section
variable {X:Cx} {pos:Pos}
def gName (i:Nat):TG:=fun v σ H Q=>Q (σ.set i (some v)) H
theorem pg_name {i:Nat} {x:Str} (hN:X.N.Nodup) (hi:X.N[i]?=some x) (hx:Loc X.env.scope x) (hf:X.fn x=true∨X.env.scope.names.lookup x=some .local:=by first | exact .inl rfl | exact .inr rfl | assumption):PG X (.Name x pos) (gName i):=by
  intro pins s σ H v u Q I r h
  exact wpAny_assign_Name (store_ok I hN hi hx r (fun s' I'=>⟨_,H,I',h⟩) hf)
def gNil:TGs:=fun vs σ H Q=>vs=[]∧Q σ H
def gCons (t:TG) (u:TGs):TGs:=fun vs σ H Q=>∃ v r,vs=v::r∧t v σ H fun σ' H'=>u r σ' H' Q
theorem pgs_nil:PGs X [] gNil:=by
  intro pins s σ H vs us Q I r h
  obtain ⟨e,h⟩:=h
  subst e
  cases r
  exact assignInOrder_nil ⟨σ,H,I,h⟩
theorem pgs_cons {e:Expr} {es:List Expr} {t:TG} {u:TGs} (h1:PG X e t) (h2:PGs X es u)
    (hs:(assignEach (e::es) X.env).map (·.2)=assign e X.env::(assignEach es X.env).map (·.2):=by rfl):PGs X (e::es) (gCons t u):=by
  intro pins s σ H vs us Q I r h
  obtain ⟨v,vr,e1,h⟩:=h
  subst e1
  cases r with
  | cons r rr =>
    rw [hs]
    refine assignInOrder_cons (thn (h1 pins s σ H _ _ _ I r h) fun _ s1 ⟨σ1,H1,I1,q1⟩=>?_)
    exact h2 pins s1 σ1 H1 _ _ Q I1 rr q1
def gTup (K:PySem.W.Frag) (n:Nat) (t:TGs):TG:=fun v σ H Q=>∃ a xs,v=.ref a∧SqT K H a xs∧xs.length=n∧t xs σ H Q
theorem pg_tup {es:List Expr} {k:Nat} {t:TGs} {n:Nat} (hc:X.calm=true) (h:PGs X es t)
    (hn:(assignEach es X.env).length=n:=by rfl) (hst:(assignEach es X.env).findIdx? (·.1)=none:=by rfl):PG X (.Tuple es k pos) (gTup X.K n t):=by
  intro pins s σ H v u Q I r hw
  obtain ⟨a,xs,e1,hq,hl,hw⟩:=hw
  subst e1
  cases r
  obtain ⟨its,rv,ht,hz⟩:=I.tuple hq
  refine assign_Tuple_tuple (I.ok.hd hc) ht (by simp [hn,← hl,rv.length]) hst fun h' hx=>?_
  have I1:Inv X pins σ H { s with heap:=h' }:=I.kept (t':=s.toks) fun b o e=>hx b o (Nat.ne_of_lt (Heap.lt_size e)) e
  exact h pins _ σ H xs _ Q I1 (by simpa using rv) hw
def gSub (to ti:TE) (t:TSet):TG:=fun v σ H Q=>to σ H fun o H1=>ti σ H1 fun i H2=>t o i v H2 fun H3=>Q σ H3
theorem pg_sub {o i:Expr} {to ti:TE} {t:TSet} (ho:PE X o to) (hi:PE X i ti) (hs:PSet X t)
    (ha:∀ v,assign (.Subscript o i pos) X.env v=(do
      let ov ← holding [v] (eval o X.env)
      let iv ← holding [v,ov] (eval i X.env)
      standAt pos
      holding [v,ov,iv] (setItem ov iv v)
      release [v,ov,iv] []):=by intro _; rfl):PG X (.Subscript o i pos) (gSub to ti t):=by
  intro pins s σ H v u Q I r h
  rw [ha]
  refine wpAny_bind (wpAny_holding (thn (ho pins s σ H _ I h) fun ov s1 ⟨x,H1,I1,r1,q1⟩=>?_))
  refine wpAny_bind (wpAny_holding (thn (hi pins s1 σ H1 _ I1 q1) fun iv s2 ⟨y,H2,I2,r2,q2⟩=>?_))
  refine wpAny_bind (wpAny_standAt (wpAny_bind (wpAny_holding (thn (hs pins s2 σ H2 x y v ov iv u _ I2 r1 r2 r q2) fun _ s3 ⟨H3,I3,q3⟩=>?_))))
  exact wpAny_release ⟨σ,H3,I3,q3⟩
def tAsg (te:TE) (g:TG):TS:=fun D σ H=>te σ H fun x H1=>g x σ H1 D.nx
theorem ps_asg {tg e:Expr} {te:TE} {g:TG} (he:PE X e te) (hg:PG X tg g) (hs:swapsWithSole [tg] e pos.line X.env=pure false:=by rfl) (hw:swappedStores [tg] e X.env=pure none:=by rfl)
    (h1:(assignEach [tg] X.env).map (·.2)=[assign tg X.env]:=by rfl):PS X (.Assign [tg] e pos) (tAsg te g):=by
  intro pins s σ H D I h
  refine wpAny_Assign_stores (thn (he pins s σ H _ I h) fun v s1 ⟨x,H1,I1,r1,q1⟩=>?_) hs hw
  rw [h1]
  exact thn (hg pins s1 σ H1 x v _ I1 r1 q1) fun _ s2 q=>q
theorem ps_set {i:Nat} {x:Str} {e:Expr} {te:TE} {pos':Pos} (hN:X.N.Nodup) (hi:X.N[i]?=some x) (hx:Loc X.env.scope x) (he:PE X e te) (hs:swapsWith e (some (.Name x pos')) pos.line X.env=pure false:=by rfl) (hf:X.fn x=true∨X.env.scope.names.lookup x=some .local:=by first | exact .inl rfl | exact .inr rfl | assumption) :
    PS X (.Assign [.Name x pos'] e pos) (tAsg te (gName i)):=by
  intro pins s σ H D I h
  refine wpAny_Assign_Name (thn (he pins s σ H _ I h) fun v s1 ⟨y,H1,I1,r1,q1⟩=>?_) hs
  exact store_ok I1 hN hi hx r1 (fun s2 I2=>⟨_,H1,I2,q1⟩) hf
def tAug (i:Nat) (te:TE) (ti:TIp):TS:=fun D σ H=>∃ x,σ[i]?=some (some x)∧te σ H fun y H1=>ti x y H1 fun z H2=>D.nx (σ.set i (some z)) H2
theorem ps_aug {i:Nat} {x:Str} {e:Expr} {te:TE} {op:Operator} {ti:TIp} {pos':Pos} (hN:X.N.Nodup) (hi:X.N[i]?=some x) (hx:Loc X.env.scope x) (he:PE X e te) (ho:PIp X op ti) (hf:X.fn x=true∨X.env.scope.names.lookup x=some .local:=by first | exact .inl rfl | exact .inr rfl | assumption) :
    PS X (.AugAssign (.Name x pos') op e pos) (tAug i te ti):=by
  intro pins s σ H D I h
  obtain ⟨v,e1,h⟩:=h
  obtain ⟨m,hn,hl⟩:=I.loc
  have vis:Vis X.env.scope x:=by rcases hx with k | k; exact .inl k; exact .inr (.inl k)
  obtain ⟨u,r,l⟩:=hl i x v hi e1 vis
  refine wpAny_AugAssign_Name ?_
  have go:wpAny (model X.prog X.w) X.A (eval e X.env) (fun w s₂=>wpAny (model X.prog X.w) X.A (inplaceOp op u w) (fun r s₃=>wpAny (model X.prog X.w) X.A (storeName X.env x r) (fun _=>SP X pins D .next) X.xe s₃) X.xe s₂) X.xe s:=by
    refine thn (he pins s σ H _ I h) fun w s1 ⟨y,H1,I1,r1,q1⟩=>?_
    refine thn (ho pins s1 σ H1 v y u w _ I1 r r1 q1) fun z s2 ⟨zv,H2,I2,r2,q2⟩=>?_
    exact store_ok I2 hN hi hx r2 (fun s3 I3=>⟨_,H2,I3,q2⟩) hf
  rcases l with ⟨hk,hm⟩ | ⟨hk,c,hc,hcell⟩
  · exact wpAny_loadName_local I.ok.kind hk hn hm go
  · rcases hk with hk | hk
    · exact wpAny_loadName_cell I.ok.kind hk hc hcell go
    · rcases hx with k | k
      · have:X.env.scope.names.lookup x=some .free:=hk
        rw [k] at this; cases this
      · have:X.env.scope.names.lookup x=some .free:=hk
        rw [k] at this; cases this
def tAugS (to ti te:TE) (tget:V→V→Hp→VK→Prop) (tip:TIp) (tset:TSet):TS:=fun D σ H=>to σ H fun o H1=>ti σ H1 fun i H2=>tget o i H2 fun x H3=>te σ H3 fun y H4=>tip x y H4 fun z H5=>tset o i z H5 fun H6=>D.nx σ H6
def PGet (X:Cx) (t:V→V→Hp→VK→Prop):Prop :=
  ∀ (pins:List (Addr×Obj)) (s:Shared) (σ:St) (H:Hp) (o i:V) (ov iv:Value) (Q:VK),Inv X pins σ H s→RelV o ov→RelV i iv→t o i H Q →
    wpAny (model X.prog X.w) X.A (getItem ov iv) (EP X pins σ Q) X.xe s
theorem ps_augS {o i e:Expr} {to ti te:TE} {tget:V→V→Hp→VK→Prop} {tip:TIp} {tset:TSet} {op:Operator} {tpos:Pos} (ho:PE X o to) (hi:PE X i ti) (hg:PGet X tget) (he:PE X e te) (hp:PIp X op tip) (hs:PSet X tset)
    (ha:∀ ov iv new,augStore i ov iv new=(do holding [new,ov,iv] (setItem ov iv new); release [new,ov,iv] []; pure .next):=by intros; rfl):PS X (.AugAssign (.Subscript o i tpos) op e pos) (tAugS to ti te tget tip tset):=by
  intro pins s σ H D I h
  refine wpAny_AugAssign_SubscriptAny (thn (ho pins s σ H _ I h) fun ov s1 ⟨x1,H1,I1,r1,q1⟩=>?_) ha
  refine thn (hi pins s1 σ H1 _ I1 q1) fun iv s2 ⟨x2,H2,I2,r2,q2⟩=>?_
  refine thn (hg pins s2 σ H2 x1 x2 ov iv _ I2 r1 r2 q2) fun old s3 ⟨x3,H3,I3,r3,q3⟩=>?_
  refine thn (he pins s3 σ H3 _ I3 q3) fun v s4 ⟨x4,H4,I4,r4,q4⟩=>?_
  refine thn (hp pins s4 σ H4 x3 x4 old v _ I4 r3 r4 q4) fun new s5 ⟨x5,H5,I5,r5,q5⟩=>?_
  exact thn (hs pins s5 σ H5 x1 x2 x5 ov iv new _ I5 r1 r2 r5 q5) fun _ s6 ⟨H6,I6,q6⟩=>⟨σ,H6,I6,q6⟩
def ipI (f:Int→Int→Int):TIp:=fun x y H Q=>∃ i j,x=.int i∧y=.int j∧Q (.int (f i j)) H
theorem ip_add:PIp X .Add (ipI fun i j=>i+j):=by
  intro pins s σ H x y v u Q I r1 r2 h
  obtain ⟨i,j,e1,e2,q⟩:=h
  subst e1; subst e2
  obtain ⟨t,rfl⟩:=r1
  obtain ⟨t',rfl⟩:=r2
  exact iadd_int ⟨.int _,H,I.tok _,⟨_,rfl⟩,q⟩
theorem ip_sub:PIp X .Sub (ipI fun i j=>i-j):=by
  intro pins s σ H x y v u Q I r1 r2 h
  obtain ⟨i,j,e1,e2,q⟩:=h
  subst e1; subst e2
  obtain ⟨t,rfl⟩:=r1
  obtain ⟨t',rfl⟩:=r2
  exact isub_int ⟨.int _,H,I.tok _,⟨_,rfl⟩,q⟩
end
section
variable {X:Cx} {pos:Pos}
def tWhile (c:TT) (tb:TS):TS:=fun D σ H=>∃ W:Nat→St→Hp→Prop,(∃ m,W m σ H)∧∀ m σ H,W m σ H →
  c σ H fun b H1=>if b=true then ∃ N:St→Hp→Prop,(∀ σ' H',N σ' H'→∃ m',m'<m∧W m' σ' H')∧tb { D with nx:=N,ct:=N,bk:=D.nx } σ H1 else D.nx σ H1
theorem ps_while {c:Expr} {body:List Stmt} {tc:TT} {tb:TS} (hp:PassesOwn (model X.prog X.w) X.A X.env X.xe) (hc:PT X c tc) (hb:PSs X body tb):PS X (.While c body [] pos) (tWhile tc tb):=by
  intro pins s σ H D I h
  obtain ⟨W,⟨m0,w0⟩,turn⟩:=h
  refine wpAny_While (codeAny_whileLoop (fun n s'=>∃ σ' H',Inv X pins σ' H' s'∧W n σ' H') ?_ m0 ⟨σ,H,I,w0⟩)
  rintro n s1 ⟨σ1,H1,I1,w1⟩
  refine wpAny_passesOwn hp (thn (hc pins s1 σ1 H1 _ I1 (turn n σ1 H1 w1)) fun b s2 ⟨H2,I2,q2⟩=>?_)
  cases b with
  | true =>
    obtain ⟨N,hN,q2⟩:=q2
    rw [if_pos rfl]
    refine wpAny_passesOwn hp (thn (hb pins s2 σ1 H2 _ I2 q2) fun f s3 q3=>?_)
    cases f with
    | next =>
      obtain ⟨σ3,H3,I3,n3⟩:=q3
      obtain ⟨m',hm,w3⟩:=hN σ3 H3 n3
      exact ⟨m',hm,σ3,H3,I3,w3⟩
    | cont =>
      obtain ⟨σ3,H3,I3,n3⟩:=q3
      obtain ⟨m',hm,w3⟩:=hN σ3 H3 n3
      exact ⟨m',hm,σ3,H3,I3,w3⟩
    | brk=>exact q3
    | ret v=>exact q3
  | false =>
    rw [if_neg Bool.false_ne_true]
    exact wpAny_execs_nil ⟨σ1,H2,I2,q2⟩
end
structure It where
  go:Nat→Hp→Prop
  yld:Nat→Hp→V→Hp→Prop
  stop:Nat→Hp→Prop
def FpOk (X:Cx) (pins:List (Addr×Obj)) (H:Hp) (b:Addr):Prop :=
  H b=none∧b≠X.env.locals∧b∉X.fs∧(b∈X.ex∨X.s₀.heap.objs.size≤b)∧(∀ x c,X.env.cells.lookup x=some c→c≠b)∧∀ p∈X.pn++pins,p.1≠b
theorem Inv.fpOk {X:Cx} {pins:List (Addr×Obj)} {σ:St} {H H':Hp} {s:Shared} {b:Addr} (I:Inv X pins σ H s) (hb:s.heap.objs.size≤b) (hn:H' b=none):FpOk X pins H' b:=by
  refine ⟨hn,Nat.ne_of_gt (Nat.lt_of_lt_of_le I.lt hb),I.nofs hb,.inr (Nat.le_trans I.sz hb),fun x c e z=>?_,fun p hp z=>?_⟩
  · obtain ⟨v,q⟩:=I.cell x c e
    exact absurd (Nat.lt_of_lt_of_le q.lt (by rw [z]; exact hb)) (Nat.lt_irrefl _)
  · exact absurd (Nat.lt_of_lt_of_le (Heap.lt_size (I.pin p hp).1) (by rw [z]; exact hb)) (Nat.lt_irrefl _)
structure Turn (P:Program) (w:World) (K:PySem.W.Frag) (tg:Expr) (J:It) (fp:List Addr) (it:Addr) (tn:Nat→Heap→Prop):Prop where
  mem:it∈fp
  obj:∀ i h,tn i h→∀ b∈fp,∃ o,h.get? b=some o∧∀ v,o.data≠.cell v
  keep:∀ i h h',tn i h→(∀ b∈fp,∀ o,h.get? b=some o→h'.get? b=some o)→tn i h'
  item:∀ (X:Cx),X.prog=P→X.w=w→X.K=K→X.calm=true→∀ (i:Nat) (pins:List (Addr×Obj)) (s:Shared) (σ:St) (H:Hp) (E:Value→Shared→Prop),Inv X pins σ H s→(∀ b∈fp,FpOk X pins H b)→tn i s.heap→J.go i H →
    wpAny (model P w) X.A (pyNext (.ref it)) (fun r s1=>∃ u,r=some u ∧
      wpAny (model P w) X.A (letOwnedTupleGo tg (.ref it) u) (fun _ s2=>∃ x H',Inv X pins σ H' s2∧RelV x u∧J.yld i H x H'∧tn (i+1) s2.heap∧∀ b∈fp,H' b=none) E s1) E s
  done:∀ (X:Cx),X.prog=P→X.w=w→X.K=K→X.calm=true→∀ (i:Nat) (pins:List (Addr×Obj)) (s:Shared) (σ:St) (H:Hp) (E:Value→Shared→Prop),Inv X pins σ H s→(∀ b∈fp,FpOk X pins H b)→tn i s.heap→J.stop i H →
    wpAny (model P w) X.A (pyNext (.ref it)) (fun r s1=>r=none∧Inv X pins σ H s1) E s
  self:∀ (A:Around) (i:Nat) (s:Shared) (Q:Value→Shared→Prop) (E:Value→Shared→Prop),tn i s.heap→Q (.ref it) s→wpAny (model P w) A (pyIter (.ref it)) Q E s
abbrev TI:=St→Hp→(It→Hp→Prop)→Prop
def PIE (X:Cx) (pins:List (Addr×Obj)) (σ:St) (tg:Expr) (R:It→Hp→Prop) (itv:Value) (s2:Shared):Prop :=
  ∃ (it:Addr) (fp:List Addr) (tn:Nat→Heap→Prop) (J:It) (H':Hp),itv=.ref it∧Inv X pins σ H' s2∧Turn X.prog X.w X.K tg J fp it tn∧tn 0 s2.heap∧(∀ b∈fp,FpOk X pins H' b)∧R J H'
def PI (X:Cx) (tg iter:Expr) (wi:TI):Prop :=
  ∀ (pins:List (Addr×Obj)) (s:Shared) (σ:St) (H:Hp) (R:It→Hp→Prop),Inv X pins σ H s→wi σ H R →
    wpAny (model X.prog X.w) X.A (eval iter X.env) (fun v s1=>wpAny (model X.prog X.w) X.A (pyIter v) (PIE X pins σ tg R) X.xe s1) X.xe s
theorem go_of {M:Model} {A:Around} {E:Value→Shared→Prop} {s:Shared} {tg:Expr} {it:Addr} {u:Value} {o:Obj} {n:String} {vs:Array Value} {Q:Unit→Shared→Prop} (ho:s.heap.get? it=some o) (hc:o.cls=.type n) (hd:o.data=.fields vs)
    (hn:["enumerate", "zip", "dict_itemiterator", "dict_reverseitemiterator", "odict_iterator", "itertools.zip_longest", "itertools.pairwise"].contains n=false) (hQ:Q () s):wpAny M A (letOwnedTupleGo tg (.ref it) u) Q E s:=by
  unfold letOwnedTupleGo
  cases tg <;> first
    | exact wpAny_pure hQ
    | (cases u <;> first
        | exact wpAny_pure hQ
        | (refine wpAny_bind (wpAny_load ho ?_)
           rw [hc,hd]
           show wpAny M A (if (["enumerate", "zip", "dict_itemiterator", "dict_reverseitemiterator", "odict_iterator", "itertools.zip_longest", "itertools.pairwise"].contains n&&vs[0]?==some (rawInt _))=true then _ else _) Q E s
           rw [if_neg (by intro h; rw [hn,Bool.false_and] at h; cases h)]
           exact wpAny_pure hQ))
def Itl (K:PySem.W.Frag) (a:Addr):It :=
  ⟨fun i H=>∃ xs x,SqL K H a xs∧xs[i]?=some x,fun i H x H'=>H'=H∧∀ xs,SqL K H a xs→xs[i]?=some x,fun i H=>∃ xs,SqL K H a xs∧xs.length≤i⟩
def Itr (lo:Int) (n:Nat):It:=⟨fun i _=>i<n,fun i H x H'=>H'=H∧x=.int (lo+i),fun i _=>n≤i⟩
theorem turn_list {P:Program} {w:World} {K:PySem.W.Frag} {tg:Expr} (a it:Addr):Turn P w K tg (Itl K a) [it] it (fun i h=>h.IsListIter it a i) where
  mem:=by simp
  obj:=fun i h st b hb=>by
    have e:b=it:=by simpa using hb
    subst e
    obtain ⟨o,e,c,d⟩:=st
    exact ⟨o,e,fun v z=>by rw [d] at z; cases z⟩
  keep:=fun i h h' st k=>st.at fun o e=>k it (by simp) o e
  item:=by
    intro X hP hw hK hc i pins s σ H E I hf st hg
    subst hP hw hK
    obtain ⟨xs,x,hq,hx⟩:=hg
    obtain ⟨its,rv,p,hz⟩:=I.list hq
    obtain ⟨u,hu,ru⟩:=rv.get hx
    obtain ⟨f0,f1,f2,f3,f4,f5⟩:=hf it (by simp)
    refine wpAny_pyNext_list_item st p.isList (x:=u) (by simpa using hu) fun h' st' sb=>?_
    have I1:Inv X pins σ H { s with heap:=h' }:=I.turned (t':=s.toks) (fun b o hb e=>(sb.2 b hb).trans e) f0 f1 f3 f4 f5
    obtain ⟨o,e,c,d⟩:=id st'
    exact ⟨u,rfl,go_of (s:={ s with heap:=h' }) e c d (by decide) ⟨x,H,I1,ru,⟨rfl,fun ys hy=>by rw [I.list_inj hy hq]; exact hx⟩,st',fun b hb=>(hf b hb).1⟩⟩
  done:=by
    intro X hP hw hK hc i pins s σ H E I hf st hg
    subst hP hw hK
    obtain ⟨xs,hq,hx⟩:=hg
    obtain ⟨its,rv,p,hz⟩:=I.list hq
    obtain ⟨f0,f1,f2,f3,f4,f5⟩:=hf it (by simp)
    have hl:=rv.length
    exact wpAny_pyNext_list_end (I.ok.hd hc) st p.isList (by simp; omega) fun h' eb=>⟨rfl,I.turned (t':=s.toks) (fun b o hb e=>eb b o hb e) f0 f1 f3 f4 f5⟩
  self:=fun _ _ _ _ _ st h=>wpAny_pyIter_listiter st h
theorem turn_range {P:Program} {w:World} {K:PySem.W.Frag} {tg:Expr} (it:Addr) (lo:Int) (n:Nat):Turn P w K tg (Itr lo n) [it] it (fun i h=>IsRangeIter h it (lo+(i:Nat)*1) ((n:Int)-(i:Nat)) 1) where
  mem:=by simp
  obj:=fun i h st b hb=>by
    have e:b=it:=by simpa using hb
    subst e
    exact ⟨_,st,fun v z=>by
      have z':Data.fields _=Data.cell v:=z
      cases z'⟩
  keep:=fun i h h' st k=>k it (by simp) _ st
  item:=by
    intro X hP hw hK hc i pins s σ H E I hf st hg
    subst hP hw hK
    obtain ⟨f0,f1,f2,f3,f4,f5⟩:=hf it (by simp)
    have W:=Walks.range (prog:=X.prog) (w:=X.w) (I.ok.hd hc) it lo 1 n
    refine W.item i s _ _ hg st fun v h' tk hv st' kk=>?_
    obtain ⟨t,rfl⟩:=hv
    have I1:Inv X pins σ H { s with heap:=h',toks:=tk }:=I.turned (fun b o hb e=>kk b o (by simpa using hb) e) f0 f1 f3 f4 f5
    refine ⟨_,rfl,go_of (s:={ s with heap:=h',toks:=tk }) (n := "range_iterator") st' rfl rfl (by decide) ⟨.int (lo+i),H,I1,⟨t,?_⟩,⟨rfl,rfl⟩,st',fun b hb=>(hf b hb).1⟩⟩
    rw [Int.mul_one]
  done:=by
    intro X hP hw hK hc i pins s σ H E I hf st hg
    subst hP hw hK
    obtain ⟨f0,f1,f2,f3,f4,f5⟩:=hf it (by simp)
    exact wpAny_pyNext_range_end (I.ok.hd hc) st (by have:n≤i:=hg; omega) fun h' eb=>⟨rfl,I.turned (t':=s.toks) (fun b o hb e=>eb b o hb e) f0 f1 f3 f4 f5⟩
  self:=fun _ _ _ _ _ st h=>wpAny_pyIter_rangeiter st h
end L2
namespace L2
open PySem PySem.Spec PyProof.Rows
section
variable {X:Cx} {tg:Expr}
def iList (K:PySem.W.Frag) (tl:TE):TI:=fun σ H R=>tl σ H fun x H1=>∃ a,x=.ref a∧(∃ xs,SqL K H1 a xs)∧R (Itl K a) H1
theorem pi_list {l:Expr} {tl:TE} (hl:PE X l tl):PI X tg l (iList X.K tl):=by
  intro pins s σ H R I h
  refine thn (hl pins s σ H _ I h) fun v s1 ⟨x,H1,I1,r1,q1⟩=>?_
  obtain ⟨a,e,⟨xs,hq⟩,q⟩:=q1
  subst e
  cases r1
  obtain ⟨its,rv,p,hz⟩:=I1.list hq
  refine wpAny_pyIter_list p.isList ?_
  refine ⟨s1.heap.objs.size,[s1.heap.objs.size],_,_,H1,rfl,I1.kept (t':=s1.toks) fun b o e=>Heap.get?_push_of_some _ e,turn_list a _,⟨_,Heap.get?_push_size _ rfl,rfl,rfl⟩,fun b hb=>?_,q⟩
  have e:b=s1.heap.objs.size:=by simpa using hb
  subst e
  exact I1.fpOk (Nat.le_refl _) (I1.hok.fresh (Nat.le_refl _))
theorem range_it {pins:List (Addr×Obj)} {σ:St} {H:Hp} {s:Shared} {R:It→Hp→Prop} {E:Value→Shared→Prop} {lo hi:Int} {t u v:Tok} {tk:Nat} (I:Inv X pins σ H s) (h1:-(2 ^ 62)≤lo) (h2:lo<2 ^ 62) (h3:-(2 ^ 62)≤hi) (h4:hi<2 ^ 62)
    (q:R (Itr lo (hi-lo).toNat) H):wpAny (model X.prog X.w) X.A (pyIter (.ref s.heap.objs.size)) (PIE X pins σ tg R) E { s with heap:=s.heap.push { cls:=.type "range", data:=.fields #[.int lo t,.int hi u,.int 1 v] },toks:=tk }:=by
  refine wpAny_pyIter_range (IsRange.new ..) (small_one h1 h2 h3 h4) ?_
  have I1:Inv X pins σ H { s with heap:=s.heap.push { cls:=.type "range", data:=.fields #[.int lo t,.int hi u,.int 1 v] },toks:=tk }:=I.kept fun b o e=>Heap.get?_push_of_some _ e
  refine ⟨(s.heap.push { cls:=.type "range", data:=.fields #[.int lo t,.int hi u,.int 1 v] }).objs.size,[(s.heap.push { cls:=.type "range", data:=.fields #[.int lo t,.int hi u,.int 1 v] }).objs.size],_,_,H,rfl,
    I1.kept (t':=tk) fun b o e=>Heap.get?_push_of_some _ e,turn_range _ lo (hi-lo).toNat,?_,fun b hb=>?_,q⟩
  · have e1:lo+((0:Nat):Int)*1=lo:=by simp
    have e2:(((hi-lo).toNat:Nat):Int)-((0:Nat):Int)=Builtin.Range.rangeSize lo hi 1:=by rw [rangeSize_one]; split <;> omega
    show IsRangeIter _ _ (lo+((0:Nat):Int)*1) ((((hi-lo).toNat:Nat):Int)-((0:Nat):Int)) 1
    rw [e1,e2]
    exact Heap.get?_push_size _ rfl
  · have e:b=(s.heap.push { cls:=.type "range", data:=.fields #[.int lo t,.int hi u,.int 1 v] }).objs.size:=by simpa using hb
    subst e
    exact I1.fpOk (Nat.le_refl _) (I1.hok.fresh (Nat.le_refl _))
def iRng1 (ta:TA):TI:=fun σ H R=>ta σ H fun vs H1=>∃ j:Int,vs=[.int j]∧-(2 ^ 62)≤j∧j<2 ^ 62∧R (Itr 0 j.toNat) H1
def iRng2 (ta:TA):TI:=fun σ H R=>ta σ H fun vs H1=>∃ i j:Int,vs=[.int i,.int j]∧(-(2 ^ 62)≤i∧i<2 ^ 62∧-(2 ^ 62)≤j∧j<2 ^ 62)∧R (Itr i (j-i).toNat) H1
theorem pi_range1 {a:Expr} {ta:TA} {p pos:Pos} (hg:Gl X "range") (hm:X.mg "range" = none) (ha:PA X [a] ta) (hs:starEach [a] X.env=[(false,eval a X.env)]:=by rfl):PI X tg (.Call (.Name "range" p) [a] [] pos) (iRng1 ta):=by
  intro pins s σ H R I h
  refine Call_ (ld_blt I hg hm boot_range (PyProof.Rows.callWith_type1 (thn (ha pos pins s σ H _ I h) fun us s1 ⟨vs,H1,I1,r1,q1⟩=>?_) hs rfl))
  obtain ⟨j,e,q1,q2,q⟩:=q1
  subst e
  cases r1 with
  | cons r rr =>
    cases rr
    obtain ⟨t,rfl⟩:=r
    exact call_range_1 (range_it I1 (by omega) (by omega) q1 q2 (by simpa using q))
theorem pi_range2 {a b:Expr} {ta:TA} {p pos:Pos} (hg:Gl X "range") (hm:X.mg "range" = none) (ha:PA X [a,b] ta) (hs:starEach [a,b] X.env=[(false,eval a X.env),(false,eval b X.env)]:=by rfl) (hs2:starEach [b] X.env=[(false,eval b X.env)]:=by rfl) :
    PI X tg (.Call (.Name "range" p) [a,b] [] pos) (iRng2 ta):=by
  intro pins s σ H R I h
  refine Call_ (ld_blt I hg hm boot_range (PyProof.Rows.callWith_type1 (thn (ha pos pins s σ H _ I h) fun us s1 ⟨vs,H1,I1,r1,q1⟩=>?_) (by rw [hs,hs2]) (by rw [hs2]; rfl)))
  obtain ⟨i,j,e,⟨q1,q2,q3,q4⟩,q⟩:=q1
  subst e
  cases r1 with
  | cons r rr =>
    cases rr with
    | cons r' rr =>
      cases rr
      obtain ⟨t,rfl⟩:=r
      obtain ⟨t',rfl⟩:=r'
      exact call_range_2 (range_it I1 q1 q2 q3 q4 q)
def tFor (wi:TI) (g:TG) (tb:TS):TS:=fun D σ H=>wi σ H fun J H1=>∃ W:Nat→Nat→St→Hp→Prop,(∃ m,W 0 m σ H1)∧∀ i m σ H,W i m σ H →
  (J.stop i H∧D.nx σ H)∨(J.go i H∧∃ N:St→Hp→Prop,(∀ σ' H',N σ' H'→∃ m',m'<m∧W (i+1) m' σ' H')∧∀ x H',J.yld i H x H'→g x σ H' fun σ2 H2=>tb { D with nx:=N,ct:=N,bk:=D.nx } σ2 H2)
def pinsAt (fp:List Addr) (h:Heap):List (Addr×Obj):=fp.filterMap fun b=>(h.get? b).map fun o=>(b,o)
theorem mem_pinsAt {fp:List Addr} {h:Heap} {b:Addr} {o:Obj} (hb:b∈fp) (e:h.get? b=some o):(b,o)∈pinsAt fp h:=List.mem_filterMap.mpr ⟨b,hb,by rw [e]; rfl⟩
theorem of_pinsAt {fp:List Addr} {h:Heap} {p:Addr×Obj} (hp:p∈pinsAt fp h):p.1∈fp∧h.get? p.1=some p.2:=by
  obtain ⟨b,hb,e⟩:=List.mem_filterMap.mp hp
  cases q:h.get? b with
  | none=>rw [q] at e; cases e
  | some o =>
    rw [q] at e
    have e':(b,o)=p:=Option.some.inj e
    subst e'
    exact ⟨hb,q⟩
theorem Inv.pinned {pins:List (Addr×Obj)} {σ:St} {H:Hp} {s:Shared} {fp:List Addr} (I:Inv X pins σ H s) (hf:∀ b∈fp,FpOk X pins H b) (ho:∀ b∈fp,∃ o,s.heap.get? b=some o∧∀ v,o.data≠.cell v):Inv X (pins++pinsAt fp s.heap) σ H s :=
  I.pins_of fun p hp=>(List.mem_append.mp hp).elim (fun z=>I.pin p (List.mem_append_right _ z)) fun z=>by
    obtain ⟨hb,e⟩:=of_pinsAt z
    obtain ⟨f0,f1,f2,_⟩:=hf p.1 hb
    obtain ⟨o,e',d⟩:=ho p.1 hb
    rw [e] at e'; cases e'
    exact ⟨e,f0,f1,f2,d⟩
theorem Inv.unpinned {pins pl:List (Addr×Obj)} {σ:St} {H:Hp} {s:Shared} (I:Inv X (pins++pl) σ H s):Inv X pins σ H s:=I.pins_of fun p hp=>I.pin p (List.mem_append_right _ (List.mem_append_left _ hp))
theorem ps_for {iter:Expr} {body:List Stmt} {wi:TI} {g:TG} {tb:TS} {pos:Pos} (hp:PassesOwn (model X.prog X.w) X.A X.env X.xe) (hc:X.calm=true) (hi:PI X tg iter wi) (hg:PG X tg g) (hb:PSs X body tb)
    (hs:∀ x,foldedSetIterable iter X.env x=pure x:=by intro _; rfl):PS X (.For tg iter body [] pos) (tFor wi g tb):=by
  intro pins s σ H D I h
  refine wpAny_For (thn (hi pins s σ H _ I h) fun v s1 h1=>thn h1 fun itv s2 h2=>?_) hs
  obtain ⟨it,fp,tn,J,H2,e,I2,T,st2,f2,W,⟨m0,w0⟩,turn⟩:=h2
  subst e
  have stat:∀ {H':Hp},(∀ b∈fp,H' b=none)→∀ b∈fp,FpOk X pins H' b:=fun hn b hb=>⟨hn b hb,(f2 b hb).2⟩
  refine codeAny_forLoop_any (fun n s'=>∃ i σ' H',Inv X pins σ' H' s'∧tn i s'.heap∧(∀ b∈fp,H' b=none)∧W i n σ' H') ?_ m0 ⟨0,σ,H2,I2,st2,fun b hb=>(f2 b hb).1,w0⟩
  rintro n s3 ⟨i,σ3,H3,I3,st3,fr3,w3⟩
  rcases turn i n σ3 H3 w3 with ⟨stop,qn⟩ | ⟨go,N,hN,step⟩
  · refine wpAny_passesOwn hp (thn (T.done X rfl rfl rfl hc i pins s3 σ3 H3 X.xe I3 (stat fr3) st3 stop) fun r s4 ⟨hr,I4⟩=>?_)
    subst hr
    exact wpAny_execs_nil ⟨σ3,H3,I4,qn⟩
  · refine wpAny_passesOwn hp (thn (T.item X rfl rfl rfl hc i pins s3 σ3 H3 X.xe I3 (stat fr3) st3 go) fun r s4 ⟨u,hr,h4⟩=>?_)
    subst hr
    refine wpAny_passesOwn hp (thn h4 fun _ s5 ⟨x,H5,I5,r5,y5,st5,fr5⟩=>?_)
    have I5':=I5.pinned (stat fr5) (T.obj _ _ st5)
    refine wpAny_passesOwn hp (thn (hg _ s5 σ3 H5 x u _ I5' r5 (step x H5 y5)) fun _ s6 ⟨σ6,H6,I6,q6⟩=>?_)
    refine wpAny_passesOwn hp (thn (hb _ s6 σ6 H6 _ I6 q6) fun f s7 q7=>?_)
    have again:∀ {σ7:St} {H7:Hp},Inv X (pins++pinsAt fp s5.heap) σ7 H7 s7→N σ7 H7→∃ m,m<n∧∃ i σ' H',Inv X pins σ' H' s7∧tn i s7.heap∧(∀ b∈fp,H' b=none)∧W i m σ' H':=fun {σ7 H7} I7 n7=>by
      obtain ⟨m',hm,w7⟩:=hN σ7 H7 n7
      refine ⟨m',hm,i+1,σ7,H7,I7.unpinned,T.keep _ _ _ st5 fun b hb o e=>(I7.pin (b,o) (List.mem_append_right _ (List.mem_append_right _ (mem_pinsAt hb e)))).1,fun b hb=>?_,w7⟩
      obtain ⟨o,e,d⟩:=T.obj _ _ st5 b hb
      exact (I7.pin (b,o) (List.mem_append_right _ (List.mem_append_right _ (mem_pinsAt hb e)))).2.1
    cases f with
    | next=>obtain ⟨σ7,H7,I7,n7⟩:=q7; exact again I7 n7
    | cont=>obtain ⟨σ7,H7,I7,n7⟩:=q7; exact again I7 n7
    | brk=>obtain ⟨σ7,H7,I7,q7⟩:=q7; exact ⟨σ7,H7,I7.unpinned,q7⟩
    | ret v=>obtain ⟨x7,σ7,H7,I7,r7,q7⟩:=q7; exact ⟨x7,σ7,H7,I7.unpinned,r7,q7⟩
end
end L2
namespace L2
open PySem PySem.Spec PyProof.Rows
abbrev R2:=V→V→Hp→VK→Prop
def OpR (X:Cx) (f:Value→Value→Sem Value) (r:R2):Prop :=
  ∀ (pins:List (Addr×Obj)) (s:Shared) (σ:St) (H:Hp) (x y:V) (v u:Value) (Q:VK),Inv X pins σ H s→RelV x v→RelV y u→r x y H Q →
    wpAny (model X.prog X.w) X.A (f v u) (EP X pins σ Q) X.xe s
def UnR (X:Cx) (f:Value→Sem Value) (r:V→Hp→VK→Prop):Prop :=
  ∀ (pins:List (Addr×Obj)) (s:Shared) (σ:St) (H:Hp) (x:V) (v:Value) (Q:VK),Inv X pins σ H s→RelV x v→r x H Q →
    wpAny (model X.prog X.w) X.A (f v) (EP X pins σ Q) X.xe s
def CallR (X:Cx) (f:Value) (r:List V→Hp→VK→Prop):Prop :=
  ∀ (pins:List (Addr×Obj)) (s:Shared) (σ:St) (H:Hp) (xs:List V) (us:List Value) (Q:VK),Inv X pins σ H s→Vals xs us→r xs H Q →
    wpAny (model X.prog X.w) X.A (call f us) (EP X pins σ Q) X.xe s
def TruR (X:Cx) (r:V→Hp→(Bool→Hp→Prop)→Prop):Prop :=
  ∀ (pins:List (Addr×Obj)) (s:Shared) (σ:St) (H:Hp) (x:V) (v:Value) (Q:Bool→Hp→Prop),Inv X pins σ H s→RelV x v→r x H Q →
    wpAny (model X.prog X.w) X.A (truthy v) (TP X pins σ Q) X.xe s
def tOp (r:R2) (ta tb:TE):TE:=fun σ H Q=>ta σ H fun x H1=>tb σ H1 fun y H2=>r x y H2 Q
def tUn (r:V→Hp→VK→Prop) (ta:TE):TE:=fun σ H Q=>ta σ H fun x H1=>r x H1 Q
def rI (C:Int→Int→Prop) (g:Int→Int→V):R2:=fun x y H Q=>∃ i j,x=.int i∧y=.int j∧C i j∧Q (g i j) H
def rI0 (g:Int→Int→V):R2:=fun x y H Q=>∃ i j,x=.int i∧y=.int j∧Q (g i j) H
def rU (g:Int→V):V→Hp→VK→Prop:=fun x H Q=>∃ i,x=.int i∧Q (g i) H
section
variable {X:Cx} {a b c:Expr} {ta tb tc:TE} {pos:Pos}
theorem binT (ha:PE X a ta) (hb:PE X b tb) {pins:List (Addr×Obj)} {s:Shared} {σ:St} {H:Hp} {R:V→V→Hp→Prop} (I:Inv X pins σ H s)
    (h:ta σ H fun x H1=>tb σ H1 fun y H2=>R x y H2) {Q:Value→Shared→Prop} {f:Value→Value→Sem Value}
    (hf:∀ v u s2 x y H2,Inv X pins σ H2 s2→RelV x v→RelV y u→R x y H2→wpAny (model X.prog X.w) X.A (f v u) Q X.xe s2) :
    wpAny (model X.prog X.w) X.A (eval a X.env) (fun v s₁=>wpAny (model X.prog X.w) X.A (eval b X.env) (fun u s₂=>wpAny (model X.prog X.w) X.A (f v u) Q X.xe s₂) X.xe s₁) X.xe s:=by
  refine thn (ha pins s σ H _ I h) fun v s1 ⟨x,H1,I1,r1,q1⟩=>?_
  refine thn (hb pins s1 σ H1 _ I1 q1) fun u s2 ⟨y,H2,I2,r2,q2⟩=>?_
  exact hf v u s2 x y H2 I2 r1 r2 q2
theorem pe_op {op:Operator} {r:R2} (ho:OpR X (binaryOp op) r) (ha:PE X a ta) (hb:PE X b tb):PE X (.BinOp a op b pos) (tOp r ta tb):=by
  intro pins s σ H Q I h
  exact wpAny_BinOp (binT ha hb I h fun v u s2 x y H2 I2 rx ry q=>ho pins s2 σ H2 x y v u Q I2 rx ry q)
theorem pe_un {op:UnaryOp} {r:V→Hp→VK→Prop} (ho:UnR X (unaryOp op) r) (ha:PE X a ta):PE X (.UnaryOp op a pos) (tUn r ta):=by
  intro pins s σ H Q I h
  exact UnaryOp_ (thn (ha pins s σ H _ I h) fun v s1 ⟨x,H1,I1,r1,q1⟩=>ho pins s1 σ H1 x v Q I1 r1 q1)
theorem opI {f:Value→Value→Sem Value} {C:Int→Int→Prop} {g:Int→Int→Int}
    (rule:∀ (i j:Int) (t u:Tok) (s:Shared) (Q:Value→Shared→Prop) (E:Value→Shared→Prop),C i j→Q (.int (g i j) s.toks) { s with toks:=s.toks+1 }→wpAny (model X.prog X.w) X.A (f (.int i t) (.int j u)) Q E s) :
    OpR X f (rI C fun i j=>.int (g i j)):=by
  intro pins s σ H x y v u Q I rx ry h
  obtain ⟨i,j,rfl,rfl,hc,q⟩:=h
  obtain ⟨t,rfl⟩:=rx
  obtain ⟨t',rfl⟩:=ry
  exact rule i j t t' s _ _ hc ⟨.int (g i j),H,I.tok _,⟨_,rfl⟩,q⟩
theorem opI0 {f:Value→Value→Sem Value} {g:Int→Int→Int}
    (rule:∀ (i j:Int) (t u:Tok) (s:Shared) (Q:Value→Shared→Prop) (E:Value→Shared→Prop),Q (.int (g i j) s.toks) { s with toks:=s.toks+1 }→wpAny (model X.prog X.w) X.A (f (.int i t) (.int j u)) Q E s) :
    OpR X f (rI0 fun i j=>.int (g i j)):=by
  intro pins s σ H x y v u Q I rx ry h
  obtain ⟨i,j,rfl,rfl,q⟩:=h
  obtain ⟨t,rfl⟩:=rx
  obtain ⟨t',rfl⟩:=ry
  exact rule i j t t' s _ _ ⟨.int (g i j),H,I.tok _,⟨_,rfl⟩,q⟩
theorem opB0 {f:Value→Value→Sem Value} {g:Int→Int→Bool}
    (rule:∀ (i j:Int) (t u:Tok) (s:Shared) (Q:Value→Shared→Prop) (E:Value→Shared→Prop),Q (.bool (g i j)) s→wpAny (model X.prog X.w) X.A (f (.int i t) (.int j u)) Q E s) :
    OpR X f (rI0 fun i j=>.bl (g i j)):=by
  intro pins s σ H x y v u Q I rx ry h
  obtain ⟨i,j,rfl,rfl,q⟩:=h
  obtain ⟨t,rfl⟩:=rx
  obtain ⟨t',rfl⟩:=ry
  exact rule i j t t' s _ _ ⟨.bl (g i j),H,I,rfl,q⟩
def CMul (i j:Int):Prop:=(-(2 ^ 64)<i∧i<2 ^ 64)∨(-(2 ^ 64)<j∧j<2 ^ 64)
theorem CMul.ok {i j:Int} (h:CMul i j):IntMulOk i j:=by
  rcases h with ⟨h1,h2⟩ | ⟨h1,h2⟩
  · exact .of_left (intBits_le_64 h1 h2)
  · exact .of_right (intBits_le_64 h1 h2)
theorem op_add:OpR X (binaryOp .Add) (rI0 fun i j=>.int (i+j)):=opI0 fun _ _ _ _ _ _ _ q=>add_int q
theorem op_sub:OpR X (binaryOp .Sub) (rI0 fun i j=>.int (i-j)):=opI0 fun _ _ _ _ _ _ _ q=>sub_int q
theorem op_mod:OpR X (binaryOp .Mod) (rI (fun _ j=>0<j) fun i j=>.int (i % j)):=opI fun i j _ _ _ _ _ hc q=>by
  have h1:(0:Int)<j:=hc
  exact mod_int' (by omega) (by rw [Int.fmod_eq_emod_of_nonneg i (by omega)]; exact q)
theorem unI {f:Value→Sem Value} {g:Int→Int}
    (rule:∀ (i:Int) (t:Tok) (s:Shared) (Q:Value→Shared→Prop) (E:Value→Shared→Prop),Q (.int (g i) s.toks) { s with toks:=s.toks+1 }→wpAny (model X.prog X.w) X.A (f (.int i t)) Q E s) :
    UnR X f (rU fun i=>.int (g i)):=by
  intro pins s σ H x v Q I rx h
  obtain ⟨i,rfl,q⟩:=h
  obtain ⟨t,rfl⟩:=rx
  exact rule i t s _ _ ⟨.int (g i),H,I.tok _,⟨_,rfl⟩,q⟩
theorem un_neg:UnR X (unaryOp .USub) (rU fun i=>.int (-i)):=unI fun _ _ _ _ _ q=>neg_int q
end
def scal:V→V→Bool
  | .non,.non=>true | .non,.int _=>true | .int _,.non=>true | .non,.bl _=>true | .bl _,.non=>true | .non,.str _=>true | .str _,.non=>true
  | .int _,.int _=>true | .bl _,.bl _=>true | .str _,.str _=>true | .byt _,.byt _=>true
  | .int _,.str _=>true | .str _,.int _=>true | .bl _,.str _=>true | .str _,.bl _=>true
  | _,_=>false
def rEq:R2:=fun x y H Q=>scal x y=true∧Q (.bl (decide (x=y))) H
def rNe:R2:=fun x y H Q=>scal x y=true∧Q (.bl (!decide (x=y))) H
theorem dec_int {i j:Int}:decide (V.int i=V.int j)=(i==j):=by
  rw [Bool.eq_iff_iff]
  simp
theorem dec_bl {i j:Bool}:decide (V.bl i=V.bl j)=(i==j):=by
  rw [Bool.eq_iff_iff]
  simp
theorem dec_str {i j:Str}:decide (V.str i=V.str j)=(i==j):=by
  rw [Bool.eq_iff_iff]
  simp
theorem dec_byt {i j:Array UInt8}:decide (V.byt i=V.byt j)=(i.toList==j.toList):=by
  rw [Bool.eq_iff_iff]
  cases i
  cases j
  simp
section
variable {X:Cx} {a b c:Expr} {ta tb tc:TE} {pos:Pos}
theorem fin_bl {pins:List (Addr×Obj)} {σ:St} {H:Hp} {s:Shared} {Q:VK} {k k':Bool} (I:Inv X pins σ H s) (q:Q (.bl k) H) (e:k=k'):EP X pins σ Q (.bool k') s:=by
  subst e
  exact ⟨.bl k,H,I,rfl,q⟩
theorem op_eq:OpR X (compareOp .Eq) rEq:=by
  intro pins s σ H x y v u Q I rx ry h
  obtain ⟨hs,q⟩:=h
  cases x with
  | non =>
    cases rx
    cases y with
    | non=>cases ry; exact PySem.EqNone.eq_none_none (fin_bl I q (by simp))
    | bl j=>cases ry; exact PySem.EqNone.eq_none_bool (fin_bl I q (by simp))
    | int j=>obtain ⟨t',rfl⟩:=ry; exact PySem.EqNone.eq_none_int (fin_bl I q (by simp))
    | str j=>obtain ⟨t',rfl⟩:=ry; exact PySem.EqNone.eq_none_str (fin_bl I q (by simp))
    | _=>exact absurd (show false=true from hs) Bool.false_ne_true
  | bl i =>
    cases rx
    cases y with
    | non=>cases ry; exact PySem.EqNone.eq_bool_none (fin_bl I q (by simp))
    | bl j=>cases ry; exact eq_bool (fin_bl I q dec_bl)
    | str j=>obtain ⟨t',rfl⟩:=ry; exact PySem.EqMixed.eq_bool_str (fin_bl I q (by simp))
    | _=>exact absurd (show false=true from hs) Bool.false_ne_true
  | int i =>
    obtain ⟨t,rfl⟩:=rx
    cases y with
    | non=>cases ry; exact PySem.EqNone.eq_int_none (fin_bl I q (by simp))
    | int j=>obtain ⟨t',rfl⟩:=ry; exact eq_int (fin_bl I q dec_int)
    | str j=>obtain ⟨t',rfl⟩:=ry; exact PySem.EqMixed.eq_int_str (fin_bl I q (by simp))
    | _=>exact absurd (show false=true from hs) Bool.false_ne_true
  | str i =>
    obtain ⟨t,rfl⟩:=rx
    cases y with
    | non=>cases ry; exact PySem.EqNone.eq_str_none (fin_bl I q (by simp))
    | bl j=>cases ry; exact PySem.EqMixed.eq_str_bool (fin_bl I q (by simp))
    | int j=>obtain ⟨t',rfl⟩:=ry; exact PySem.EqMixed.eq_str_int (fin_bl I q (by simp))
    | str j=>obtain ⟨t',rfl⟩:=ry; exact eq_str (fin_bl I q dec_str)
    | _=>exact absurd (show false=true from hs) Bool.false_ne_true
  | byt i =>
    obtain ⟨t,rfl⟩:=rx
    cases y with
    | byt j=>obtain ⟨t',rfl⟩:=ry; exact PySem.W.eq_bytes (fin_bl I q dec_byt)
    | _=>exact absurd (show false=true from hs) Bool.false_ne_true
  | _=>cases y <;> exact absurd (show false=true from hs) Bool.false_ne_true
theorem op_ne:OpR X (compareOp .NotEq) rNe:=by
  intro pins s σ H x y v u Q I rx ry h
  obtain ⟨hs,q⟩:=h
  cases x with
  | non =>
    cases rx
    cases y with
    | non=>cases ry; exact PySem.EqNone.ne_none_none (fin_bl I q (by simp))
    | bl j=>cases ry; exact PySem.EqNone.ne_none_bool (fin_bl I q (by simp))
    | int j=>obtain ⟨t',rfl⟩:=ry; exact PySem.EqNone.ne_none_int (fin_bl I q (by simp))
    | str j=>obtain ⟨t',rfl⟩:=ry; exact PySem.EqNone.ne_none_str (fin_bl I q (by simp))
    | _=>exact absurd (show false=true from hs) Bool.false_ne_true
  | bl i =>
    cases rx
    cases y with
    | non=>cases ry; exact PySem.EqNone.ne_bool_none (fin_bl I q (by simp))
    | bl j=>cases ry; exact ne_bool (fin_bl I q (congrArg not dec_bl))
    | str j=>obtain ⟨t',rfl⟩:=ry; exact PySem.EqMixed.ne_bool_str (fin_bl I q (by simp))
    | _=>exact absurd (show false=true from hs) Bool.false_ne_true
  | int i =>
    obtain ⟨t,rfl⟩:=rx
    cases y with
    | non=>cases ry; exact PySem.EqNone.ne_int_none (fin_bl I q (by simp))
    | int j=>obtain ⟨t',rfl⟩:=ry; exact ne_int (fin_bl I q (congrArg not dec_int))
    | str j=>obtain ⟨t',rfl⟩:=ry; exact PySem.EqMixed.ne_int_str (fin_bl I q (by simp))
    | _=>exact absurd (show false=true from hs) Bool.false_ne_true
  | str i =>
    obtain ⟨t,rfl⟩:=rx
    cases y with
    | non=>cases ry; exact PySem.EqNone.ne_str_none (fin_bl I q (by simp))
    | bl j=>cases ry; exact PySem.EqMixed.ne_str_bool (fin_bl I q (by simp))
    | int j=>obtain ⟨t',rfl⟩:=ry; exact PySem.EqMixed.ne_str_int (fin_bl I q (by simp))
    | str j=>obtain ⟨t',rfl⟩:=ry; exact ne_str (fin_bl I q (congrArg not dec_str))
    | _=>exact absurd (show false=true from hs) Bool.false_ne_true
  | byt i =>
    obtain ⟨t,rfl⟩:=rx
    cases y with
    | byt j=>obtain ⟨t',rfl⟩:=ry; exact PySem.W.ne_bytes (fin_bl I q (congrArg not dec_byt))
    | _=>exact absurd (show false=true from hs) Bool.false_ne_true
  | _=>cases y <;> exact absurd (show false=true from hs) Bool.false_ne_true
theorem op_lt:OpR X (compareOp .Lt) (rI0 fun i j=>.bl (decide (i<j))):=opB0 fun _ _ _ _ _ _ _ q=>lt_int q
theorem op_le:OpR X (compareOp .LtE) (rI0 fun i j=>.bl (decide (i≤j))):=opB0 fun _ _ _ _ _ _ _ q=>le_int q
theorem op_gt:OpR X (compareOp .Gt) (rI0 fun i j=>.bl (decide (j<i))):=opB0 fun _ _ _ _ _ _ _ q=>gt_int q
theorem op_ge:OpR X (compareOp .GtE) (rI0 fun i j=>.bl (decide (j≤i))):=opB0 fun _ _ _ _ _ _ _ q=>ge_int q
theorem nomark (b:Expr) {op:CmpOp} (h:op≠.In:=by decide) (h2:op≠.NotIn:=by decide):behindInMarks op b=false:=by
  have e1:(op==CmpOp.In)=false:=by cases op <;> first | rfl | exact absurd rfl h
  have e2:(op==CmpOp.NotIn)=false:=by cases op <;> first | rfl | exact absurd rfl h2
  cases b <;> simp [behindInMarks,e1,e2]
theorem pe_cmpR {op:CmpOp} {r:R2} (ho:OpR X (compareOp op) r) (ha:PE X a ta) (hb:PE X b tb) (hm:behindInMarks op b=false):PE X (.Compare a [op] [b] pos) (tOp r ta tb):=by
  intro pins s σ H Q I h
  exact wpAny_Compare1 (binT ha hb I h fun v u s2 x y H2 I2 rx ry q=>ho pins s2 σ H2 x y v u Q I2 rx ry q) hm
def tTest (t:TE):TT:=fun σ H Q=>t σ H fun x H'=>∃ k,x=.bl k∧Q k H'
theorem pt_cmpR {op:CmpOp} {r:R2} (ho:OpR X (compareOp op) r) (ha:PE X a ta) (hb:PE X b tb) (hm:behindInMarks op b=false):PT X (.Compare a [op] [b] pos) (tTest (tOp r ta tb)):=by
  intro pins s σ H Q I h
  refine wpAny_isTrue_Compare1 (thn (ha pins s σ H _ I h) fun v s1 ⟨x,H1,I1,r1,q1⟩=>thn (hb pins s1 σ H1 _ I1 q1) fun u s2 ⟨y,H2,I2,r2,q2⟩ =>
    thn (ho pins s2 σ H2 x y v u _ I2 r1 r2 q2) fun c s3 ⟨z,H3,I3,r3,k,e,q3⟩=>?_) hm
  subst e
  cases r3
  exact wpAny_truthy_bool ⟨H3,I3,q3⟩
def tChain (r r':R2) (ta tb tc:TE):TE:=fun σ H Q=>ta σ H fun x H1=>tb σ H1 fun y H2=>r x y H2 fun z H3=>∃ k,z=.bl k ∧
  (if k=true then tc σ H3 fun w' H4=>r' y w' H4 Q else Q (.bl false) H3)
theorem pt_chain {op op':CmpOp} {r r':R2} (ho:OpR X (compareOp op) r) (ho':OpR X (compareOp op') r') (ha:PE X a ta) (hb:PE X b tb) (hc:PE X c tc)
    (hm:lastMarks [op,op'] [b,c]=false:=by with_unfolding_all rfl):PT X (.Compare a [op,op'] [b,c] pos) (tTest (tChain r r' ta tb tc)):=by
  intro pins s σ H Q I h
  refine isTrue_chain (thn (ha pins s σ H _ I h) fun v s1 ⟨x,H1,I1,r1,q1⟩=>test_link (thn (hb pins s1 σ H1 _ I1 q1) fun u s2 ⟨y,H2,I2,r2,q2⟩ =>
    thn (ho pins s2 σ H2 x y v u _ I2 r1 r2 q2) fun d s3 ⟨z,H3,I3,r3,k,e,q3⟩=>?_)) hm
  subst e
  cases r3
  refine wpAny_truthy_bool ?_
  cases k with
  | false =>
    obtain ⟨k',e',q'⟩:=q3
    cases e'
    exact ite_ff ⟨H3,I3,q'⟩
  | true =>
    refine ite_tt (test_last (thn (hc pins s3 σ H3 _ I3 q3) fun w' s4 ⟨z',H4,I4,r4,q4⟩=>thn (ho' pins s4 σ H4 y z' u w' _ I4 r2 r4 q4) fun d' s5 ⟨z2,H5,I5,r5,k2,e2,q5⟩=>?_))
    subst e2
    cases r5
    exact wpAny_truthy_bool ⟨H5,I5,q5⟩
def TruV (K:PySem.W.Frag) (x:V) (H:Hp) (k:Bool):Prop :=
  match x with
  | .non=>k=false
  | .bl b=>k=b
  | .int i=>k=(i != 0)
  | .str y=>y.length≤sizeLine∧k=((y.length:Int) != 0)
  | .byt y=>y.size≤sizeLine∧k=((y.size:Int) != 0)
  | .ref p=>(∃ xs,SqL K H p xs∧k=!xs.isEmpty)∨(∃ xs,SqT K H p xs∧k=!xs.isEmpty)∨∃ kvs,H p=some (.dK kvs)∧k=!kvs.isEmpty
  | _=>False
theorem isEmpty_kv {κ:Type} {kvs:List (κ×V)} {vs:List (κ×Value)} (r:KV kvs vs):(!vs.isEmpty)=!kvs.isEmpty:=by
  cases r <;> rfl
theorem isEmpty_of {xs:List V} {its:List Value} (r:Vals xs its):(!its.toArray.isEmpty)=!xs.isEmpty:=by
  cases r <;> simp
theorem line63:(sizeLine:Nat)<2 ^ 63:=by rw [sizeLine_eq]; decide
theorem tru_ok:TruR X (fun x H Q=>∃ k,TruV X.K x H k∧Q k H):=by
  intro pins s σ H x v Q I rx h
  obtain ⟨k,e,q⟩:=h
  have hl:=line63
  have hs:sizeLine=16777216:=sizeLine_eq
  cases x with
  | non =>
    cases rx
    have e':k=false:=e
    subst e'
    exact truthy_none ⟨H,I,q⟩
  | bl b =>
    cases rx
    have e':k=b:=e
    subst e'
    exact wpAny_truthy_bool ⟨H,I,q⟩
  | int i =>
    obtain ⟨t,rfl⟩:=rx
    have e':k=(i != 0):=e
    subst e'
    exact PySem.P.truthy_int ⟨H,I,q⟩
  | str y =>
    obtain ⟨t,rfl⟩:=rx
    obtain ⟨hy,e'⟩:y.length≤sizeLine∧k=((y.length:Int) != 0):=e
    subst e'
    exact PySem.P.truthy_str (by omega) ⟨H,I.tok _,q⟩
  | byt y =>
    obtain ⟨t,rfl⟩:=rx
    obtain ⟨hy,e'⟩:y.size≤sizeLine∧k=((y.size:Int) != 0):=e
    subst e'
    exact PySem.W.truthy_bytes (by omega) ⟨H,I.tok _,q⟩
  | ref p =>
    cases rx
    have e':(∃ xs,SqL X.K H p xs∧k=!xs.isEmpty)∨(∃ xs,SqT X.K H p xs∧k=!xs.isEmpty)∨∃ kvs,H p=some (.dK kvs)∧k=!kvs.isEmpty:=e
    rcases e' with ⟨xs,hx,e'⟩ | ⟨xs,hx,e'⟩ | ⟨kvs,hx,e'⟩
    · subst e'
      obtain ⟨its,r,pl,hz⟩:=I.list hx
      have hlen:=r.length
      exact wpAny_truthy_list pl.isList (by simp only [List.size_toArray]; omega) ⟨H,I.tok _,by rw [isEmpty_of r]; exact q⟩
    · subst e'
      obtain ⟨its,r,pl,hz⟩:=I.tuple hx
      have hlen:=r.length
      exact truthy_tuple pl (by simp only [List.size_toArray]; omega) ⟨H,I.tok _,by rw [isEmpty_of r]; exact q⟩
    · subst e'
      obtain ⟨hz,hS,vs,r,m⟩:kvs.length≤sizeLine∧(p==sysModules)=false∧∃ vs,KV kvs vs∧s.heap.DictOf (mixKind X.prog X.w) p vs:=I.hok p _ hx
      have hlen:kvs.length=vs.length:=Paired.length r
      exact wpAny_truthy_dict hS m (by omega) ⟨H,I.tok _,by rw [isEmpty_kv r]; exact q⟩
  | _=>exact (show False from e).elim
theorem pt_truth (ha:PE X a ta) (he:∀ whole,isTrue a X.env whole=(do let v ← whole; standAt a.pos; holding [v] (truthy v))) :
    PT X a (fun σ H Q=>ta σ H fun x H'=>∃ k,TruV X.K x H' k∧Q k H'):=by
  intro pins s σ H Q I h
  exact isTrue_plain (thn (ha pins s σ H _ I h) fun v s1 ⟨x,H1,I1,r1,q1⟩=>tru_ok pins s1 σ H1 x v Q I1 r1 q1) (he _)
theorem vals1 {x:V} {us:List Value} (r:Vals [x] us):∃ u,us=[u]∧RelV x u:=by
  cases r with
  | cons r1 r2=>cases r2; exact ⟨_,rfl,r1⟩
theorem vals2 {x y:V} {us:List Value} (r:Vals [x,y] us):∃ u w',us=[u,w']∧RelV x u∧RelV y w':=by
  cases r with
  | cons r1 r2 =>
    cases r2 with
    | cons r3 r4=>cases r4; exact ⟨_,_,rfl,r1,r3⟩
theorem call_min2 (hc:X.calm=true):CallR X (.builtin "min") (fun xs H Q=>∃ i j,xs=[.int i,.int j]∧Q (.int (if j<i then j else i)) H):=by
  intro pins s σ H xs us Q I r h
  obtain ⟨i,j,rfl,q⟩:=h
  obtain ⟨u,w',rfl,⟨t,rfl⟩,⟨t',rfl⟩⟩:=vals2 r
  refine min_two_ints (I.ok.hd hc) fun h' tk k=>⟨_,H,I.kept k,?_,q⟩
  by_cases hj:j<i
  · rw [if_pos hj,if_pos hj]; exact ⟨_,rfl⟩
  · rw [if_neg hj,if_neg hj]; exact ⟨_,rfl⟩
def LenV (K:PySem.W.Frag) (x:V) (H:Hp) (n:Nat):Prop :=
  match x with
  | .str y=>y.length≤sizeLine∧n=y.length
  | .byt y=>y.size≤sizeLine∧n=y.size
  | .ref p=>(∃ xs,SqL K H p xs∧n=xs.length)∨∃ xs,SqT K H p xs∧n=xs.length
  | _=>False
theorem call_len:CallR X (.builtin "len") (fun xs H Q=>∃ x n,xs=[x]∧LenV X.K x H n∧Q (.int n) H):=by
  intro pins s σ H xs us Q I r h
  obtain ⟨x,n,rfl,e,q⟩:=h
  obtain ⟨u,rfl,rx⟩:=vals1 r
  have hl:=line63
  have hs:sizeLine=16777216:=sizeLine_eq
  cases x with
  | str y =>
    obtain ⟨t,rfl⟩:=rx
    obtain ⟨hy,e'⟩:y.length≤sizeLine∧n=y.length:=e
    subst e'
    exact len_str (by omega) ⟨.int _,H,I.tok _,⟨_,rfl⟩,q⟩
  | byt y =>
    obtain ⟨t,rfl⟩:=rx
    obtain ⟨hy,e'⟩:y.size≤sizeLine∧n=y.size:=e
    subst e'
    exact PySem.W.len_bytes (by omega) ⟨.int _,H,I.tok _,⟨_,rfl⟩,q⟩
  | ref p =>
    cases rx
    have e':(∃ xs,SqL X.K H p xs∧n=xs.length)∨∃ xs,SqT X.K H p xs∧n=xs.length:=e
    rcases e' with ⟨xs,hx,e'⟩ | ⟨xs,hx,e'⟩
    · subst e'
      obtain ⟨its,r',pl,hz⟩:=I.list hx
      have hlen:=r'.length
      exact Calls.call_len_list pl.isList (by simp only [List.size_toArray]; omega) ⟨.int xs.length,H,I.tok _,⟨_,by simp only [List.size_toArray]; rw [hlen]⟩,q⟩
    · subst e'
      obtain ⟨its,r',pl,hz⟩:=I.tuple hx
      have hlen:=r'.length
      exact len_tuple pl (by simp only [List.size_toArray]; omega) ⟨.int xs.length,H,I.tok _,⟨_,by simp only [List.size_toArray]; rw [hlen]⟩,q⟩
  | _=>exact (show False from e).elim
end
end L2
namespace L2
open PySem PySem.Spec PyProof.Rows
structure ObjM (h:Heap) (x dx C:Addr) (mA:Str→Option Value):Prop where
  obj:h.get? x=some (PySem.W.instObj C dx)
  ns:h.Ns1 dx mA
  ne:dx≠x
section
variable {prog:Program} {w:World} {A:Around} {E:Value→Shared→Prop} {s:Shared} {K:PySem.W.Frag} {x dx C f:Addr} {mA:Str→Option Value} {name:Str} {v:Value}
end
section
variable {P:Program} {w:World} {H H':Hp} {h h':Heap} {a C dx:Addr} {fs fs':List (Str×V)}
end
structure Cls (K:PySem.W.Frag) (C:Addr):Prop where
  pg:PySem.W.plainGet K C Str.empty=true
  hd:PySem.W.hasDictIn K C=true
  po:PySem.W.plainOver K C=true
  sa:PySem.W.findIn K (.ref C) "__setattr__" = some (some (.builtin "object.__setattr__"))
structure Con (K:PySem.W.Frag) (C:Addr) (f:Str) (v:V) (u:Value):Prop where
  at_:PySem.W.findIn K (.ref C) f=some (some u)
  rel:RelV v u
  get:PySem.W.specialIn K u "__get__" = some none
  cp:PySem.W.copiedNames.contains f=false
structure Meth (K:PySem.W.Frag) (C:Addr) (m:Str) (f:Addr):Prop where
  at_:PySem.W.findIn K (.ref C) m=some (some (.ref f))
  fn:PySem.W.isFn K (.ref f)=true
  kp:PySem.W.keepIn K (.ref f)=true
section
variable {X:Cx} {pins:List (Addr×Obj)} {σ:St} {H:Hp} {s:Shared} {a C dx:Addr} {fs:List (Str×V)} {f:Str} {v:V} {A:Around} {E:Value→Shared→Prop}
end
section
variable {X:Cx} {o e value:Expr} {f:Str} {pos pos' tpos:Pos} {ta tv:TE}
end
section
variable {X:Cx} {pins:List (Addr×Obj)} {σ:St} {H:Hp} {s:Shared} {A:Around} {E:Value→Shared→Prop} {Q:Value→Shared→Prop} {c:Value} {b:Bool}
inductive TyOf (K:PySem.W.Frag) (H:Hp):V→Value→Prop where
  | non:TyOf K H .non (.type "NoneType")
  | bl (x:Bool):TyOf K H (.bl x) (.type "bool")
  | int (i:Int):TyOf K H (.int i) (.type "int")
  | str (x:Str):TyOf K H (.str x) (.type "str")
  | flt (x:UInt64):TyOf K H (.flt x) (.type "float")
  | lst {a:Addr} {xs:List V} (e:H a=some (.lst xs)):TyOf K H (.ref a) (.type "list")
  | frz {a:Addr} {o:Obj} {xs:List V} (e:H a=some (.frz o (.lst xs))):TyOf K H (.ref a) (.type "list")
  | tup {a:Addr} {xs:List V} (e:H a=some (.tup xs)):TyOf K H (.ref a) (.type "tuple")
  | dK {a:Addr} {kvs:List (Key×V)} (e:H a=some (.dK kvs)):TyOf K H (.ref a) (.type "dict")
  | dT {a:Addr} {kvs:List (List Key×V)} (e:H a=some (.dT kvs)):TyOf K H (.ref a) (.type "dict")
  | ins {a C dx:Addr} {fs:List (Str×V)} (e:H a=some (.ins C dx fs)) (cl:Cls K C) (ha:PySem.W.findIn K (.ref C) "__class__" = some (some (.builtin "object.__class__")))
      (hn:PySem.W.specialIn K (.builtin "object.__class__") "__get__" = some (some (.builtin "getset_descriptor.__get__"))) (htk:PySem.W.takesIn K (.builtin "object.__class__")=some true)
      (hm:PySem.W.mroIn K C (.type "object")=some true):TyOf K H (.ref a) (.ref C)
end
end L2
namespace L2
open PySem PySem.Spec PyProof.Rows
structure Room (k:Nat) (A:Around):Prop where
  hd:A.handled=none
  dp:A.depth+3*k+5<recursionLimit
  un:A.units+16*k+200<cLine
theorem Room.mono {j k:Nat} {A:Around} (r:Room k A) (h:j≤k):Room j A:=⟨r.hd,by have:=r.dp; omega,by have:=r.un; omega⟩
theorem Room.deeper {k:Nat} {A:Around} (r:Room (k+1) A) (env:Env):Room k (A.deeper env) :=
  ⟨r.hd,by have:=r.dp; show A.depth+1+3*k+5 < _; omega,by have:=r.un; show A.units+3+16*k+200 < _; omega⟩
theorem Room.in1 {k:Nat} {A:Around} (r:Room (k+1) A):Room k A.in1 :=
  ⟨r.hd,by have:=r.dp; show A.depth+3*k+5 < _; omega,by have:=r.un; show A.units+1+16*k+200 < _; omega⟩
theorem Room.depth {k:Nat} {A:Around} (r:Room k A):A.depth<recursionLimit:=by have:=r.dp; omega
theorem Room.units {k:Nat} {A:Around} (r:Room k A):A.units+64<cLine:=by have:=r.un; omega
def tNil:TA:=fun _ H Q=>Q [] H
def tCons (ta:TE) (tr:TA):TA:=fun σ H Q=>ta σ H fun x H1=>tr σ H1 fun xs H2=>Q (x::xs) H2
section
variable {X:Cx} {e:Expr} {es:List Expr} {te:TE} {t:TA} {pos:Pos}
theorem pa_nil:PA X [] tNil:=fun _ _ _ _ H Q I h=>Calls.spliced_nil ⟨[],H,I,.nil,h⟩
theorem pa_cons (ha:PE X e te) (hr:PA X es t) (hs:starEach (e::es) X.env=(false,eval e X.env)::starEach es X.env:=by rfl):PA X (e::es) (tCons te t):=by
  intro pos pins s σ H Q I h
  rw [hs]
  show wpAny _ _ (spliced ((false,eval e X.env)::backTo pos (starEach es X.env))) _ _ s
  refine Calls.spliced_cons (thn (ha pins s σ H _ I h) fun u s1 ⟨x,H1,I1,r1,q1⟩=>?_)
  exact thn (hr pos pins s1 σ H1 _ I1 q1) fun us s2 ⟨xs,H2,I2,r2,q2⟩=>⟨x::xs,H2,I2,.cons r1 r2,q2⟩
def tTup (t:TA):TE:=fun σ H Q=>t σ H fun xs H1=>xs.length≤sizeLine∧∀ p,H1 p=none→Q (.ref p) (upd H1 p (.tup xs))
def tLst (t:TA):TE:=fun σ H Q=>t σ H fun xs H1=>xs.length≤sizeLine∧∀ p,H1 p=none→Q (.ref p) (upd H1 p (.lst xs))
theorem pe_tup {x1} (h:PA X es t):PE X (.Tuple es x1 pos) (tTup t):=by
  intro pins s σ H Q I hq
  refine wpAny_Tuple_spliced (thn (h pos pins s σ H _ I hq) fun us s1 ⟨xs,H1,I1,r,z,q⟩=>⟨by rw [← r.length]; exact z,?_⟩)
  have hf:H1 s1.heap.objs.size=none:=I1.hok.fresh (Nat.le_refl _)
  refine ⟨.ref s1.heap.objs.size,upd H1 s1.heap.objs.size (.tup xs),I1.laid (t':=s1.toks) (fun b u e=>Heap.get?_push_of_some _ e) (Nat.le_refl _) ?_,rfl,q _ hf⟩
  exact ⟨z,us,r,⟨_,Heap.get?_push_size _ rfl,rfl,_,rfl⟩⟩
theorem pe_lst (h:PA X es t):PE X (.List es pos) (tLst t):=by
  intro pins s σ H Q I hq
  refine wpAny_List_spliced (thn (h pos pins s σ H _ I hq) fun us s1 ⟨xs,H1,I1,r,z,q⟩=>⟨by rw [← r.length]; exact z,?_⟩)
  have hf:H1 s1.heap.objs.size=none:=I1.hok.fresh (Nat.le_refl _)
  refine ⟨.ref s1.heap.objs.size,upd H1 s1.heap.objs.size (.lst xs),I1.laid (t':=s1.toks) (fun b u e=>Heap.get?_push_of_some _ e) (Nat.le_refl _) ?_,rfl,q _ hf⟩
  exact ⟨z,us,0,r,Heap.get?_push_size _ rfl⟩
end
abbrev Sp:=List V→Hp→VK→XK→Prop
abbrev CXT:=List Env→Hp→Shared→XK→Value→Shared→Prop
structure Env0 (P:Program) (w:World) (K:PySem.W.Frag) (mg:Str→Option Value) (base:Heap) (A:Around) (outer:List Env) (s:Shared) (H:Hp):Prop where
  frames:A.frames=some outer
  mod:Mod K mg base
  bs:∀ b o,base.get? b=some o→s.heap.get? b=some o∧H b=none
  bsz:base.objs.size≤s.heap.objs.size
  funs:s.heap.FunFrames base outer
  frf:∀ b∈frs outer,H b=none
  hok:HOk P w H s.heap
  bare:AllBare s.gens
def CE (outer:List Env) (P:Program) (w:World) (H:Hp) (s:Shared) (Q:VK) (u:Value) (s':Shared):Prop :=
  ∃ v H',s'.os=s.os∧AllBare s'.gens∧Un (frs outer) [] H H' s.heap s'.heap∧HOk P w H' s'.heap∧RelV v u∧Q v H'
def CR (CX:CXT) (outer:List Env) (P:Program) (w:World) (H:Hp) (s:Shared) (Q:VK) (E:XK) (r:Result) (s':Shared):Prop :=
  match r with
  | .ok (.ret u)=>CE outer P w H s Q u s'
  | .ok _=>False
  | .error e=>CX outer H s E e s'
structure FnOk (P:Program) (w:World) (K:PySem.W.Frag) (mg:Str→Option Value) (base:Heap) (CX:CXT) (k:Nat) (f:Addr) (fd:FuncData) (ps:List Str) (sp:Sp):Prop where
  len:∀ vs H Q E,sp vs H Q E→vs.length=ps.length
  run:∀ (A:Around) (outer:List Env) (s:Shared) (H:Hp) (args:Args) (us:List Value) (vs:List V) (Q:VK) (E:XK),Room k A→Env0 P w K mg base A outer s H→BindsTo s fd args (ps.zip us)→Vals vs us→sp vs H Q E →
    codeAny (model P w) A (.call (.ref f) args) (CR CX outer P w H s Q E) s
theorem FnOk.imp {P:Program} {w:World} {K:PySem.W.Frag} {mg:Str→Option Value} {base:Heap} {CX:CXT} {k:Nat} {f:Addr} {fd:FuncData} {ps:List Str} {sp sp':Sp} (F:FnOk P w K mg base CX k f fd ps sp)
    (h:∀ vs H Q E,sp' vs H Q E→sp vs H Q E):FnOk P w K mg base CX k f fd ps sp' :=
  ⟨fun vs H Q E q=>F.len vs H Q E (h _ _ _ _ q),fun A outer s H args us vs Q E hr he hb hv hs=>F.run A outer s H args us vs Q E hr he hb hv (h _ _ _ _ hs)⟩
section
variable {X:Cx} {pins:List (Addr×Obj)} {σ:St} {H:Hp} {s s':Shared}
theorem Inv.env0 (I:Inv X pins σ H s):Env0 X.prog X.w X.K X.mg X.base X.A X.stack s H :=
  ⟨I.ok.frames,I.ok.mod,I.bs,Nat.le_trans I.ok.bsz I.sz,I.stack,I.stkFree,I.hok,I.bare⟩
theorem Inv.after {Q:VK} {u:Value} (I:Inv X pins σ H s) (h:CE X.stack X.prog X.w H s Q u s'):EP X pins σ Q u s':=by
  obtain ⟨v,H',os,bare,un,hok,r,q⟩:=h
  obtain ⟨hh,g,d,t,os'⟩:=s'
  obtain rfl:os'=s.os:=os
  exact ⟨v,H',I.call (h':=hh) (g':=g) (d':=d) (t':=t) (ch:=[]) un hok bare (fun b z=>absurd z (by simp)),r,q⟩
end
def tCall (sp:Sp) (dvs:List V) (E:XK) (t:TA):TE:=fun σ H Q=>t σ H fun vs H1=>sp (vs++dvs) H1 Q E
def Binds (K:PySem.W.Frag) (fd:FuncData) (ps:List Str) (ds:List Value):Prop :=
  ∀ (s:Shared) (us:List Value),K.In s.heap→(us++ds).length=ps.length→BindsTo s fd ⟨us,[]⟩ (ps.zip (us++ds))
theorem Binds.all {K:PySem.W.Frag} {fd:FuncData} {ps:List Str} (h:∀ us:List Value,us.length=ps.length→bindArgs fd ⟨us,[]⟩=pure (ps.zip us)):Binds K fd ps []:=fun s us _ hl=>by
  rw [List.append_nil] at hl ⊢
  exact .of_eq (h us hl)
def Passes (CX:CXT) (X:Cx) (E:XK):Prop:=∀ (pins:List (Addr×Obj)) (σ:St) (H:Hp) (s:Shared) (e:Value) (s':Shared),Inv X pins σ H s→CX X.stack H s E e s'→X.xe e s'
section
variable {X:Cx} {CX:CXT} {k:Nat} {f C:Addr} {fd:FuncData} {ps:List Str} {sp:Sp} {dvs:List V} {ds:List Value} {E:XK} {x m:Str} {p pos apos:Pos} {e o:Expr} {es:List Expr} {ta:TE} {t:TA}
theorem run_fn {pins:List (Addr×Obj)} {σ:St} {H:Hp} {s:Shared} {Q:VK} {us:List Value} {vs:List V} (F:FnOk X.prog X.w X.K X.mg X.base CX k f fd ps sp) (hr:Room k X.A) (hb:Binds X.K fd ps ds) (hd:Vals dvs ds) (hx:Passes CX X E)
    (I:Inv X pins σ H s) (r:Vals vs us) (h:sp (vs++dvs) H Q E):wpAny (model X.prog X.w) X.A (call (.ref f) us) (EP X pins σ Q) X.xe s:=by
  have r2:Vals (vs++dvs) (us++ds):=r.append hd
  have hl:(us++ds).length=ps.length:=by rw [← r2.length]; exact F.len _ _ _ _ h
  refine wpAny_call (codeAny_mono (F.run X.A X.stack s H ⟨us,[]⟩ (us++ds) (vs++dvs) Q E hr I.env0 (hb s us I.kIn hl) r2 h) fun r s' hq=>?_)
  cases r with
  | error e=>exact hx pins σ H s e s' I hq
  | ok fl =>
    cases fl with
    | ret u=>exact I.after hq
    | next=>exact False.elim hq
    | brk=>exact False.elim hq
    | cont=>exact False.elim hq
theorem pe_call (F:FnOk X.prog X.w X.K X.mg X.base CX k f fd ps sp) (hr:Room k X.A) (hg:Gl X x) (hm:X.mg x=some (.ref f)) (hk:PySem.W.keepIn X.K (.ref f)=true) (hb:Binds X.K fd ps ds) (hd:Vals dvs ds) (hx:Passes CX X E)
    (ha:PA X (e::es) t) (hdb:(x==("__debug__" : Str))=false:=by decide) (he:starEach (e::es) X.env=(false,eval e X.env)::starEach es X.env:=by rfl) (hpl:(backTo pos (starEach es X.env)).any (·.1)=false:=by rfl) :
    PE X (.Call (.Name x p) (e::es) [] pos) (tCall sp dvs E t):=by
  intro pins s σ H Q I h
  refine wpAny_Call_Name_kw (ld_glob I hg hm ?_ hdb)
  refine PySem.W.callWith_K (h₀:=X.base) I.ok.mod.kin hk (thn (ha pos pins s σ H _ I h) fun us s1 ⟨vs,H1,I1,r,q⟩=>⟨I1.kIn,?_⟩) he hpl
  exact run_fn F hr hb hd hx I1 r q
structure Mk (K:PySem.W.Frag) (C f:Addr):Prop where
  makes:PySem.W.makesIn K C=true
  init:PySem.W.findIn K (.ref C) "__init__" = some (some (.ref f))
  fn:PySem.W.isFn K (.ref f)=true
  kp:PySem.W.keepIn K (.ref C)=true
end
def PK (X:Cx) (kws:List Keyword) (t:TA):Prop :=
  ∀ (pos:Pos) (pins:List (Addr×Obj)) (s:Shared) (σ:St) (H:Hp) (Q:List V→Hp→Prop),Inv X pins σ H s→t σ H Q→wpAny (model X.prog X.w) X.A (evalAll ((backToKw pos (keywordEach kws X.env)).map (·.2))) (AP X pins σ Q) X.xe s
section
variable {X:Cx} {CX:CXT} {k:Nat} {f C:Addr} {fd:FuncData} {ps ks:List Str} {sp:Sp} {E:XK} {x m:Str} {p pos apos kpos:Pos} {e o:Expr} {es:List Expr} {kws:List Keyword} {te ta:TE} {t tk:TA} {nm:Option Str}
theorem pk_nil:PK X [] tNil:=fun _ _ _ _ H Q I h=>wpAny_evalAll_nil ⟨[],H,I,.nil,h⟩
theorem pk_cons (ha:PE X e te) (hr:PK X kws t):PK X (⟨nm,e,kpos⟩::kws) (tCons te t):=by
  intro pos pins s σ H Q I h
  show wpAny _ _ (evalAll ((do let v ← eval e X.env; standAt pos; pure v)::(backToKw pos (keywordEach kws X.env)).map (·.2))) _ _ s
  refine wpAny_evalAll_cons (wpAny_bind (thn (ha pins s σ H _ I h) fun u s1 ⟨x,H1,I1,r1,q1⟩=>wpAny_bind (wpAny_standAt (wpAny_pure ?_))))
  exact thn (hr pos pins s1 σ H1 _ I1 q1) fun us s2 ⟨xs,H2,I2,r2,q2⟩=>⟨x::xs,H2,I2,.cons r1 r2,q2⟩
structure KBinds (K:PySem.W.Frag) (fd:FuncData) (ps ks:List Str) (g:List Value→List Value→List Value) (gV:List V→List V→List V):Prop where
  to:∀ (s:Shared) (us ws:List Value),K.In s.heap→(g us ws).length=ps.length→BindsTo s fd ⟨us,ks.zip ws⟩ (ps.zip (g us ws))
  rel:∀ {vs:List V} {us:List Value} {zs:List V} {ws:List Value},Vals vs us→Vals zs ws→Vals (gV vs zs) (g us ws)
variable {g:List Value→List Value→List Value} {gV:List V→List V→List V}
end
structure FnScope (N P:List Str) (sc:Scope):Prop where
  kind:sc.kind=.function
  co:sc.isCoroutine=false
  gen:sc.isGenerator=false
  nd:N.Nodup
  pre:N.take P.length=P
  par:∀ x∈P,sc.names.lookup x=some .local∨sc.names.lookup x=some .cell
  nofree:∀ y∈sc.names,y.2≠.free
theorem bindL_out {kindOf:Str→Option NameKind} {x:Str}:∀ {binds:List (Str×Value)} {m:Str→Option Value},(∀ v,(x,v)∉binds)→bindL kindOf binds m x=m x
  | [],_,_=>rfl
  | (n,v)::r,m,h=>by
    unfold bindL
    rw [bindL_out fun w hw=>h w (List.mem_cons_of_mem _ hw)]
    split
    · have:x≠n:=by rintro rfl; exact h v List.mem_cons_self
      simp [this]
    · rfl
theorem bindC_out {kindOf:Str→Option NameKind} {x:Str}:∀ {binds:List (Str×Value)} {m:Str→Option Value},(∀ v,(x,v)∉binds)→bindC kindOf binds m x=m x
  | [],_,_=>rfl
  | (n,v)::r,m,h=>by
    unfold bindC
    rw [bindC_out fun w hw=>h w (List.mem_cons_of_mem _ hw)]
    split
    · rfl
    · have:x≠n:=by rintro rfl; exact h v List.mem_cons_self
      simp [this]
theorem bindL_get {kindOf:Str→Option NameKind} {x:Str} {v:Value}:∀ {P:List Str} {vs:List Value} {i:Nat} {m:Str→Option Value},P.Nodup→P[i]?=some x→vs[i]?=some v→kindOf x=some .local →
    bindL kindOf (P.zip vs) m x=some v
  | [],_,_,_,_,h,_,_=>by simp at h
  | _::_,[],_,_,_,_,h,_=>by simp at h
  | p::P,w::vs,0,m,nd,h1,h2,hk=>by
    simp at h1 h2; subst h1; subst h2
    show bindL kindOf ((p,w)::P.zip vs) m p=_
    unfold bindL
    rw [bindL_out fun v hv=>(List.nodup_cons.mp nd).1 (List.of_mem_zip hv).1,if_pos hk]
    simp
  | p::P,w::vs,i+1,m,nd,h1,h2,hk=>by
    show bindL kindOf ((p,w)::P.zip vs) m x=_
    unfold bindL
    exact bindL_get (i:=i) (List.nodup_cons.mp nd).2 (by simpa using h1) (by simpa using h2) hk
theorem bindC_get {kindOf:Str→Option NameKind} {x:Str} {v:Value}:∀ {P:List Str} {vs:List Value} {i:Nat} {m:Str→Option Value},P.Nodup→P[i]?=some x→vs[i]?=some v→kindOf x≠some .local →
    bindC kindOf (P.zip vs) m x=some v
  | [],_,_,_,_,h,_,_=>by simp at h
  | _::_,[],_,_,_,_,h,_=>by simp at h
  | p::P,w::vs,0,m,nd,h1,h2,hk=>by
    simp at h1 h2; subst h1; subst h2
    show bindC kindOf ((p,w)::P.zip vs) m p=_
    unfold bindC
    rw [bindC_out fun v hv=>(List.nodup_cons.mp nd).1 (List.of_mem_zip hv).1,if_neg hk]
    simp
  | p::P,w::vs,i+1,m,nd,h1,h2,hk=>by
    show bindC kindOf ((p,w)::P.zip vs) m x=_
    unfold bindC
    exact bindC_get (i:=i) (List.nodup_cons.mp nd).2 (by simpa using h1) (by simpa using h2) hk
def start (N:List Str) (vs:List V):St:=vs.map some++List.replicate (N.length-vs.length) none
def cxOf (CX:CXT) (P:Program) (w:World) (K:PySem.W.Frag) (mg:Str→Option Value) (base:Heap) (N:List Str) (qual:Str) (scope:Scope) (f:Addr) (cd:Value) (A:Around) (outer:List Env) (s:Shared) (H:Hp) (E:XK):Cx where
  prog:=P
  w:=w
  K:=K
  mg:=mg
  base:=base
  A:=A.deeper (envOfC qual scope s.heap.objs.size f cd)
  N:=N
  s₀:=s
  H₀:=H
  env:=envOfC qual scope s.heap.objs.size f cd
  outer:=outer
  stack:=envOfC qual scope s.heap.objs.size f cd::outer
  ex:=[]
  calm:=true
  fn:=fun _=>true
  pn:=[]
  xe:=fun e s'=>wpAny (model P w) (A.deeper (envOfC qual scope s.heap.objs.size f cd)) (leaving (envOfC qual scope s.heap.objs.size f cd) e) (fun _ s''=>CX outer H s E e s'') (fun e' s''=>CX outer H s E e' s'') s'
theorem cell_has {sc:Scope} {n:Nat} {x:Str} (h:sc.names.lookup x=some .cell):∃ c,(cellsFrom n sc.names []).lookup x=some c:=by
  have q:=PySem.W.cellsFrom_some sc.names n [] (.inl h)
  exact Option.isSome_iff_exists.mp q
theorem inv_start {CX:CXT} {P:Program} {w:World} {K:PySem.W.Frag} {mg:Str→Option Value} {base:Heap} {N ps:List Str} {qual:Str} {scope:Scope} {f:Addr} {cd:Value} {A:Around} {outer:List Env} {s s1:Shared} {H:Hp} {E:XK} {us:List Value} {vs:List V}
    (S:FnScope N ps scope) (hd:A.handled=none) (e0:Env0 P w K mg base A outer s H) (hl:vs.length=ps.length) (r:Vals vs us)
    (x:InCallC s s.heap.objs.size (bindL (envOfC qual scope s.heap.objs.size f cd).kindOf (ps.zip us) fun _=>none) (cellsFrom (s.heap.objs.size+1) scope.names []) (bindC (envOfC qual scope s.heap.objs.size f cd).kindOf (ps.zip us) fun _=>none) s1) :
    Inv (cxOf CX P w K mg base N qual scope f cd A outer s H E) [] (start N vs) H s1:=by
  have hpl:ps.length≤N.length:=by have:=congrArg List.length S.pre; rw [List.length_take] at this; omega
  obtain ⟨h1,tk,rfl,hk⟩:=x.done
  have noA:∀ b:Addr,b∉(cxOf CX P w K mg base N qual scope f cd A outer s H E).ex:=fun b z=>absurd (show b∈([]:List Addr) from z) (by simp)
  refine ⟨⟨e0.mod,S.kind,rfl,rfl,Nat.le_refl _,fun y z c h1 h2=>?_,fun y hy=>?_,fun y c _ h=>?_,fun _=>hd,Around.frames_deeper e0.frames,.inr ⟨rfl,rfl⟩,fun b z=>absurd z (noA b),e0.bs,e0.bsz,fun b _ _=>noA b,fun b z=>absurd z (noA b),e0.funs,e0.frf⟩,
    rfl,e0.bare,Un.kept hk,⟨_,x.toInCall.ns,fun i y v h1 h2 h3=>?_⟩,fun y c h=>⟨_,x.cell y c h⟩,e0.hok.fresh (Nat.le_refl _),fun y c h=>?_,fun p hp=>absurd (show p∈([]:List (Addr×Obj)) from hp) (by simp),e0.hok.kept hk,?_⟩
  · exact name_of_addr x.apart (PySem.mem_of_lookup h1) (PySem.mem_of_lookup h2)
  · have hy:scope.names.lookup y=some .cell∨scope.names.lookup y=some .free:=hy
    rcases hy with hy | hy
    · exact cell_has hy
    · exact absurd rfl (S.nofree _ (PySem.mem_of_lookup hy))
  · exact Nat.le_of_lt (x.above y c (PySem.mem_of_lookup h))
  · have hi:i<vs.length:=by
      unfold start at h2
      by_cases hi:i<vs.length
      · exact hi
      · rw [List.getElem?_append_right (by simpa using hi)] at h2
        rw [List.getElem?_replicate] at h2
        split at h2 <;> cases h2
    have ha:vs[i]?=some v:=by
      unfold start at h2
      rw [List.getElem?_append_left (by simpa using hi),List.getElem?_map] at h2
      cases e:vs[i]? with
      | none=>rw [e] at h2; cases h2
      | some a=>rw [e] at h2; cases h2; rfl
    obtain ⟨u,hu,rv⟩:=r.get ha
    have hp:ps[i]?=some y:=by
      rw [← S.pre,List.getElem?_take_of_lt (by omega)]; exact h1
    have ndP:ps.Nodup:=by rw [← S.pre]; exact S.nd.sublist (List.take_sublist _ _)
    refine ⟨u,rv,?_⟩
    rcases S.par y (List.mem_of_getElem? hp) with k | k
    · exact .inl ⟨k,bindL_get ndP hp hu k⟩
    · obtain ⟨c,e⟩:=cell_has (n:=s.heap.objs.size+1) k
      refine .inr ⟨.inl k,c,e,?_⟩
      have q:=x.cell y c e
      rw [bindC_get ndP hp hu (by show scope.names.lookup y≠_; rw [k]; decide)] at q
      exact q
  · exact e0.hok.fresh (Nat.le_of_lt (x.above y c (PySem.mem_of_lookup h)))
  · unfold start
    show _=N.length
    rw [List.length_append,List.length_map,List.length_replicate]
    omega
theorem fn_of {CX:CXT} {P:Program} {w:World} {K:PySem.W.Frag} {mg:Str→Option Value} {base:Heap} {k:Nat} {f:Addr} {name qual:Str} {params:Arguments} {body:List Stmt} {scope:Scope} {dV kV doc pm cdv ct oc:Value} {an od:Option Addr}
    {osl:Array (Option Value)} {N ps:List Str} {sp:Sp} (lk:K.lookup f=some ⟨oc,od,.func (PySem.W.fnOf name qual params body scope dV kV doc pm an cdv ct),osl⟩) (hcd:PySem.W.codeIn K cdv qual=true) (S:FnScope N ps scope)
    (len:∀ vs H Q E,sp vs H Q E→vs.length=ps.length)
    (hbody:∀ (A:Around) (outer:List Env) (s:Shared) (H:Hp) (vs:List V) (Q:VK) (E:XK),Room k (A.deeper (envOfC qual scope s.heap.objs.size f cdv))→sp vs H Q E →
      ∃ t,PSs (cxOf CX P w K mg base N qual scope f cdv A outer s H E) body t∧t { nx:=fun _ H'=>Q .non H',rt:=Q } (start N vs) H) :
    FnOk P w K mg base CX (k+1) f (PySem.W.fnOf name qual params body scope dV kV doc pm an cdv ct) ps sp:=by
  refine ⟨len,fun A outer s H args us vs Q E hr e0 hb r hsp=>?_⟩
  have hl:=len _ _ _ _ hsp
  have KX:K.In s.heap:=e0.mod.kin.keeps fun b o e=>(e0.bs b o e).1
  have lim:s.heap.NoLimit:=e0.mod.nolimit.keeps fun b o e=>(e0.bs b o e).1
  have hkind:∀ y∈ps.zip us,scope.names.lookup y.1=some .local∨(scope.names.lookup y.1=some .cell∧((cellsFrom (s.heap.objs.size+1) scope.names []).lookup y.1).isSome=true):=fun ⟨n,v⟩ hy=>by
    rcases S.par n (List.of_mem_zip hy).1 with q | q
    · exact .inl q
    · exact .inr ⟨q,PySem.W.cellsFrom_some _ _ _ (.inl q)⟩
  refine codeAny_call_function hr.depth (KX _ _ lk) rfl S.co S.gen rfl (PySem.W.codeRec_of KX hcd) (hb _ _ _ _ ?_)
  refine wpAny_newFunctionEnv_cells S.kind hkind fun env he s1 x=>?_
  subst he
  refine ⟨lim.keeps x.toInCall.keep,codeAny_func ?_⟩
  obtain ⟨t,ht,hq⟩:=hbody A outer s H vs Q E (hr.deeper _) hsp
  have I:Inv (cxOf CX P w K mg base N qual scope f cdv A outer s H E) [] (start N vs) H s1:=inv_start S hr.hd e0 hl r x
  refine wpAny_mono (ht [] s1 (start N vs) H _ I hq) (fun fl s' hs=>?_) fun e s' hs=>hs
  have fin:∀ {σ':St} {H':Hp} {v:V} {u:Value},Inv (cxOf CX P w K mg base N qual scope f cdv A outer s H E) [] σ' H' s'→RelV v u→Q v H'→CE outer P w H s Q u s' :=
    fun {σ' H' v u} J rv q=>⟨v,H',J.os,J.bare,J.base,J.hok,rv,q⟩
  cases fl with
  | ret u =>
    obtain ⟨v,σ',H',J,rv,q⟩:=hs
    exact fin J rv q
  | next =>
    obtain ⟨σ',H',J,q⟩:=hs
    exact fin (v:=V.non) (u:=Value.none) J rfl q
  | brk =>
    obtain ⟨_,_,_,q⟩:=hs
    exact False.elim q
  | cont =>
    obtain ⟨_,_,_,q⟩:=hs
    exact False.elim q
end L2
namespace L2
open PySem PySem.Spec PyProof.Rows
section
variable {X:Cx} {x:Str} {p pos:Pos} {e:Expr} {es:List Expr} {t:TA} {id T:String} {r:List V→Hp→VK→Prop}
def tCB (r:List V→Hp→VK→Prop) (t:TA):TE:=fun σ H Q=>t σ H fun vs H1=>r vs H1 Q
theorem pe_callB (hc:CallR X (.builtin id) r) (hg:Gl X x) (hm:X.mg x=none) (hv:bootBuiltins x=some (.builtin id)) (ha:PA X (e::es) t) (hn:x ≠ "__name__" := by decide) (hdb:(x==("__debug__" : Str))=false:=by decide)
    (he:starEach (e::es) X.env=(false,eval e X.env)::starEach es X.env:=by rfl) (hpl:(backTo pos (starEach es X.env)).any (·.1)=false:=by rfl):PE X (.Call (.Name x p) (e::es) [] pos) (tCB r t):=by
  intro pins s σ H Q I h
  refine wpAny_Call_Name_kw (ld_blt I hg hm hv ?_ hn hdb)
  exact PyProof.Rows.callWith_builtin1 (thn (ha pos pins s σ H _ I h) fun us s1 ⟨vs,H1,I1,r1,q1⟩=>hc pins s1 σ H1 vs us Q I1 r1 q1) he hpl
theorem pe_callTy (hc:CallR X (.type T) r) (hg:Gl X x) (hm:X.mg x=none) (hv:bootBuiltins x=some (.type T)) (ha:PA X (e::es) t) (hn:x ≠ "__name__" := by decide) (hdb:(x==("__debug__" : Str))=false:=by decide)
    (he:starEach (e::es) X.env=(false,eval e X.env)::starEach es X.env:=by rfl) (hpl:(backTo pos (starEach es X.env)).any (·.1)=false:=by rfl):PE X (.Call (.Name x p) (e::es) [] pos) (tCB r t):=by
  intro pins s σ H Q I h
  refine wpAny_Call_Name_kw (ld_blt I hg hm hv ?_ hn hdb)
  exact PyProof.Rows.callWith_type1 (thn (ha pos pins s σ H _ I h) fun us s1 ⟨vs,H1,I1,r1,q1⟩=>hc pins s1 σ H1 vs us Q I1 r1 q1) he hpl
end
end L2
namespace HT
open PySem PyProof.Rows
def lexLt:List Int→List Int→Bool
  | [],[]=>false
  | [],_::_=>true
  | _::_,[]=>false
  | x::xs,y::ys=>if x=y then lexLt xs ys else decide (x<y)
section
open PySem.SeqAt
open PySem.AutoSeq1 (wpAny_loadPart')
open PySem.MeetsSeq PySem.MeetsSeq2 PySem.MeetsSeq3
end
section
variable {prog:Program} {w:World} {A:Around} {E:Value→Shared→Prop} {s:Shared}
def sIx (n d:Nat):Option Int→Nat
  | none=>d
  | some v=>if v<0 then (v+(n:Int)).toNat else min v.toNat n
theorem sIx_none (n d:Nat):sIx n d none=d:=rfl
theorem sIx_nat (n d k:Nat):sIx n d (some (k:Int))=min k n:=by
  show (if (k:Int)<0 then ((k:Int)+(n:Int)).toNat else min (k:Int).toNat n)=min k n
  rw [if_neg (by omega),Int.toNat_natCast]
end
end HT
namespace L2
open PySem PySem.Spec PyProof.Rows
abbrev TO:=St→Hp→(Option Int→Hp→Prop)→Prop
def PO (X:Cx) (e:Option Expr) (t:TO):Prop :=
  ∀ (pins:List (Addr×Obj)) (s:Shared) (σ:St) (H:Hp) (Q:Option Int→Hp→Prop),Inv X pins σ H s→t σ H Q →
    wpAny (model X.prog X.w) X.A (evalPart e X.env) (fun u s'=>∃ o H',Inv X pins σ H' s'∧IsPart u o∧Q o H') X.xe s
def tNoPart:TO:=fun _ H Q=>Q none H
def tPart (t:TE):TO:=fun σ H Q=>t σ H fun x H1=>∃ i,x=.int i∧Q (some i) H1
theorem intsAre_of {ns:List Int}:∀ {us:List Value},Vals (ns.map V.int) us→IntsAre us ns:=by
  induction ns with
  | nil=>intro us r; rw [List.map_nil] at r; cases r; exact .nil
  | cons n ns ih =>
    intro us r
    rw [List.map_cons] at r
    cases r with
    | cons r1 r2 =>
      obtain ⟨t,e⟩:=r1
      subst e
      exact .cons n t (ih r2)
section
variable {X:Cx} {e:Expr} {te:TE} {lo hi:Option Expr} {tl th:TO} {pos p2:Pos}
theorem po_none:PO X none tNoPart:=by
  intro pins s σ H Q I h
  rw [evalPart_none]
  exact wpAny_pure ⟨none,H,I,.none,h⟩
theorem po_some (h:PE X e te):PO X (some e) (tPart te):=by
  intro pins s σ H Q I hw
  rw [evalPart_some]
  refine thn (h pins s σ H _ I hw) fun u s1 ⟨x,H1,I1,r1,q1⟩=>?_
  obtain ⟨i,rfl,q⟩:=q1
  obtain ⟨t,rfl⟩:=r1
  exact ⟨some i,H1,I1,.int i t,q⟩
def SlR (X:Cx) (r:V→Option Int→Option Int→Hp→VK→Prop):Prop :=
  ∀ (pins:List (Addr×Obj)) (s:Shared) (σ:St) (H:Hp) (x:V) (v vl vu:Value) (lo hi:Option Int) (sl:Addr) (Q:VK),Inv X pins σ H s→RelV x v→s.heap.IsSliceOf sl vl vu .none→IsPart vl lo→IsPart vu hi→r x lo hi H Q →
    ∃ T id,typeLookup (.type T) "__getitem__" = pure (some (.builtin id))∧s.TypeIs v T∧wpAny (model X.prog X.w) X.A (getItem v (.ref sl)) (EP X pins σ Q) X.xe s
def tSl (r:V→Option Int→Option Int→Hp→VK→Prop) (te:TE) (tl th:TO):TE:=fun σ H Q=>te σ H fun x H1=>tl σ H1 fun l H2=>th σ H2 fun u H3=>r x l u H3 Q
theorem pe_slice {r:V→Option Int→Option Int→Hp→VK→Prop} (hr:SlR X r) (he:PE X e te) (hl:PO X lo tl) (hu:PO X hi th):PE X (.Subscript e (.Slice lo hi none p2) pos) (tSl r te tl th):=by
  intro pins s σ H Q I h
  refine Subscript_ (thn (he pins s σ H _ I h) fun v s1 ⟨x,H1,I1,r1,q1⟩=>?_)
  refine wpAny_Slice (thn (hl pins s1 σ H1 _ I1 q1) fun vl s2 ⟨l,H2,I2,pl,q2⟩=>thn (hu pins s2 σ H2 _ I2 q2) fun vu s3 ⟨u,H3,I3,pu,q3⟩=>?_)
  rw [evalPart_none]
  refine wpAny_pure ?_
  have I4:Inv X pins σ H3 { s3 with heap:=s3.heap.push { cls:=.type "slice", data:=.fields #[vl,vu,.none] } }:=I3.kept (t':=s3.toks) fun b ob q=>Heap.get?_push_of_some _ q
  obtain ⟨T,id,hT,ht,hg⟩:=hr pins { s3 with heap:=s3.heap.push { cls:=.type "slice", data:=.fields #[vl,vu,.none] } } σ H3 x v vl vu l u s3.heap.objs.size Q I4 r1 (Heap.IsSliceOf.new ..) pl pu q3
  show wpAny (model X.prog X.w) X.A (subscriptTail e (.Slice lo hi none p2) v (.ref s3.heap.objs.size)) (EP X pins σ Q) X.xe { s3 with heap:=s3.heap.push { cls:=.type "slice", data:=.fields #[vl,vu,.none] } }
  exact tail_any (ops:=[.ref s3.heap.objs.size,v]) ht hT hg (by with_unfolding_all rfl)
def cutV (xs:List V) (lo hi:Option Int):List V:=(xs.drop (HT.sIx xs.length 0 lo)).take (HT.sIx xs.length xs.length hi-HT.sIx xs.length 0 lo)
theorem cutV_length (xs:List V) (lo hi:Option Int):(cutV xs lo hi).length≤xs.length:=by
  unfold cutV
  rw [List.length_take,List.length_drop]
  omega
end
end L2
namespace L2
open PySem PySem.Spec PyProof.Rows
def ixN (n:Nat) (i:Int):Option Nat:=if 0≤i then (if i<n then some i.toNat else none) else if -(n:Int)≤i then some (i+n).toNat else none
def atI {α:Type} (xs:List α) (i:Int):Option α:=(ixN xs.length i).bind fun j=>xs[j]?
theorem ixN_seq {n:Nat} {i:Int} {j:Nat} (h:ixN n i=some j):seqIndex? i n=some j∧j<n∧-(n:Int)≤i∧i<n:=by
  unfold ixN at h
  by_cases h0:0≤i
  · rw [if_pos h0] at h
    by_cases h1:i<n
    · rw [if_pos h1] at h
      have e:i.toNat=j:=Option.some.inj h
      exact ⟨by rw [seqIndex_of h0 h1,e],by omega,by omega,h1⟩
    · rw [if_neg h1] at h; cases h
  · rw [if_neg h0] at h
    by_cases h1:-(n:Int)≤i
    · rw [if_pos h1] at h
      have e:(i+n).toNat=j:=Option.some.inj h
      exact ⟨by rw [seqIndex_neg (by omega) h1,e],by omega,h1,by omega⟩
    · rw [if_neg h1] at h; cases h
theorem atI_get {α:Type} {xs:List α} {i:Int} {v:α} (h:atI xs i=some v):∃ j,seqIndex? i xs.length=some j∧xs[j]?=some v∧j<xs.length∧-(xs.length:Int)≤i∧i<xs.length:=by
  unfold atI at h
  cases e:ixN xs.length i with
  | none=>rw [e] at h; cases h
  | some j =>
    rw [e] at h
    obtain ⟨h1,h2,h3,h4⟩:=ixN_seq e
    exact ⟨j,h1,h,h2,h3,h4⟩
def PlainIx (b:Expr):Prop:=∀ o i,subscripted b false o i=operate [o,i] (getItem o i)
def IxR (X:Cx) (r:R2):Prop :=
  ∀ (value slice:Expr) (pins:List (Addr×Obj)) (s:Shared) (σ:St) (H:Hp) (x y:V) (v u:Value) (Q:VK),Inv X pins σ H s→RelV x v→RelV y u→r x y H Q →
    subscripted slice false v u=operate [v,u] (getItem v u)→wpAny (model X.prog X.w) X.A (subscriptTail value slice v u) (EP X pins σ Q) X.xe s
def MtR (X:Cx) (id:String) (r:V→List V→Hp→VK→Prop):Prop :=
  ∀ (pins:List (Addr×Obj)) (s:Shared) (σ:St) (H:Hp) (x:V) (xs:List V) (v:Value) (us:List Value) (Q:VK),Inv X pins σ H s→RelV x v→Vals xs us→r x xs H Q →
    wpAny (model X.prog X.w) X.A (call (.builtin id) (v::us)) (EP X pins σ Q) X.xe s
section
variable {X:Cx} {a b:Expr} {ta tb:TE} {pos:Pos}
theorem IxR.or {r r':R2} (h:IxR X r) (h':IxR X r'):IxR X (fun x y H Q=>r x y H Q∨r' x y H Q):=by
  intro value slice pins s σ H x y v u Q I rx ry q hs
  rcases q with q | q
  · exact h value slice pins s σ H x y v u Q I rx ry q hs
  · exact h' value slice pins s σ H x y v u Q I rx ry q hs
theorem pe_ix {r:R2} (hr:IxR X r) (ha:PE X a ta) (hb:PE X b tb) (hs:PlainIx b):PE X (.Subscript a b pos) (tOp r ta tb):=by
  intro pins s σ H Q I h
  exact Subscript_ (binT ha hb I h fun v u s2 x y H2 I2 rx ry q=>hr a b pins s2 σ H2 x y v u Q I2 rx ry q (hs _ _))
def rIxL (K:PySem.W.Frag):R2:=fun x y H Q=>∃ p xs i v,x=.ref p∧y=.int i∧SqL K H p xs∧atI xs i=some v∧Q v H
def rIxT (K:PySem.W.Frag):R2:=fun x y H Q=>∃ p xs i v,x=.ref p∧y=.int i∧SqT K H p xs∧atI xs i=some v∧Q v H
def rIxS:R2:=fun x y H Q=>∃ z i c,x=.str z∧y=.int i∧z.length≤sizeLine∧atI z.cps.toList i=some c∧Q (.str ⟨#[c]⟩) H
theorem ix_list:IxR X (rIxL X.K):=by
  intro value slice pins s σ H x y v u Q I rx ry h hs
  obtain ⟨p,xs,i,z,rfl,rfl,hq,he,q⟩:=h
  cases rx
  obtain ⟨t,rfl⟩:=ry
  obtain ⟨its,r,pl,hz⟩:=I.list hq
  obtain ⟨j,h1,h2,h3,h4,h5⟩:=atI_get he
  obtain ⟨w,ew,rw'⟩:=r.get h2
  have hl:=r.length
  have hn:=line63
  have fin:EP X pins σ Q w s:=⟨z,H,I,rw',q⟩
  by_cases h0:0≤i
  · have hj:i.toNat=j:=by
      rw [seqIndex_of h0 h5] at h1
      exact Option.some.inj h1
    exact item_listR pl.isList h0 (by omega) (by rw [hj]; simpa using ew) fin hs
  · have hj:(i+(its.toArray.size:Int)).toNat=j:=by
      rw [seqIndex_neg (by omega) h4] at h1
      rw [List.size_toArray,← hl]
      exact Option.some.inj h1
    exact subscriptTail_builtinR (x:=w) pl.isList.typeIs slot_list_getitem.lookup
      (wpAny_getItem_list_neg (Q:=fun r s'=>r=w∧EP X pins σ Q r s') pl.isList (by omega) (by rw [List.size_toArray] <;> omega) (by omega) (by rw [hj]; simpa using ew) ⟨rfl,fin⟩) hs
theorem ix_tup:IxR X (rIxT X.K):=by
  intro value slice pins s σ H x y v u Q I rx ry h hs
  obtain ⟨p,xs,i,z,rfl,rfl,hq,he,q⟩:=h
  cases rx
  obtain ⟨t,rfl⟩:=ry
  obtain ⟨its,r,pl,hz⟩:=I.tuple hq
  obtain ⟨j,h1,h2,h3,h4,h5⟩:=atI_get he
  obtain ⟨w,ew,rw'⟩:=r.get h2
  have hl:=r.length
  have hn:=line63
  have fin:EP X pins σ Q w s:=⟨z,H,I,rw',q⟩
  exact subscriptTail_builtinR (x:=w) pl.typeIs slot_tuple_getitem.lookup
    (getItem_tuple (j:=j) (Q:=fun r s'=>r=w∧EP X pins σ Q r s') pl (by omega) (by omega) (by rw [List.size_toArray,← hl]; exact h1) (by simpa using ew) ⟨rfl,fin⟩) hs
theorem ix_str:IxR X rIxS:=by
  intro value slice pins s σ H x y v u Q I rx ry h hs
  obtain ⟨z,i,c,rfl,rfl,hz,he,q⟩:=h
  obtain ⟨t,rfl⟩:=rx
  obtain ⟨t',rfl⟩:=ry
  obtain ⟨j,h1,h2,h3,h4,h5⟩:=atI_get he
  have hl:z.cps.toList.length=z.length:=by simp [Str.length]
  rw [hl] at h1 h4 h5
  have hn:=line63
  exact tail_any (typeIs_str s z t) slot_str_getitem.lookup (getItem_str (c:=c) (by
    have e1:decide (i < -(2 ^ 63:Int))=false:=decide_eq_false (by omega)
    have e2:decide (i ≥ 2 ^ 63)=false:=decide_eq_false (by omega)
    rw [e1,e2,Bool.or_false]) (by rw [h1]; simpa using h2) ⟨.str ⟨#[c]⟩,H,I.tok _,⟨_,rfl⟩,q⟩) hs
def rIx (K:PySem.W.Frag):R2:=fun x y H Q=>rIxL K x y H Q∨rIxT K x y H Q∨rIxS x y H Q
theorem ix_seq:IxR X (rIx X.K):=ix_list.or (ix_tup.or ix_str)
theorem mapSeq_set (its:List Value) (n j:Nat) (u:Value):Obj.mapSeq (·.setIfInBounds j u) { cls:=.type "list", data:=.seq its.toArray n }={ cls:=.type "list", data:=.seq (its.set j u).toArray n }:=by
  simp [Obj.mapSeq]
theorem Inv.lst {pins:List (Addr×Obj)} {σ:St} {H:Hp} {s:Shared} {p:Addr} {xs:List V} (I:Inv X pins σ H s) (h:H p=some (.lst xs)) :
    ∃ (its:List Value) (n:Nat),Vals xs its∧s.heap.get? p=some { cls:=.type "list", data:=.seq its.toArray n }∧xs.length≤sizeLine:=by
  obtain ⟨z,its,n,r,e⟩:=I.hok p _ h
  exact ⟨its,n,r,e,z⟩
theorem Inv.lstUpd {pins:List (Addr×Obj)} {σ:St} {H:Hp} {s:Shared} {p:Addr} {xs ys:List V} {its its':List Value} {n n':Nat} {f:Obj→Obj} (I:Inv X pins σ H s) (h:H p=some (.lst xs))
    (ho:s.heap.get? p=some { cls:=.type "list", data:=.seq its.toArray n }) (hf:f { cls:=.type "list", data:=.seq its.toArray n }={ cls:=.type "list", data:=.seq its'.toArray n' }) (r:Vals ys its') (hz:ys.length≤sizeLine) (t:Nat) :
    Inv X pins σ (upd H p (.lst ys)) { s with heap:=s.heap.update p f,toks:=t }:=by
  have e:(s.heap.update p f).get? p=some { cls:=.type "list", data:=.seq its'.toArray n' }:=by
    rw [Heap.get?_update_self f ho (by rw [hf] <;> rfl),hf]
  refine I.write (x:=p) (e:=p) (by rw [h]; trivial) (.inl rfl) (fun b u hb q=>(Heap.get?_update_other _ _ (Ne.symm hb)).trans q) ⟨_,e⟩ ?_
  exact ⟨hz,its',n',r,e⟩
def rSetL:V→V→V→Hp→(Hp→Prop)→Prop:=fun o i v H Q=>∃ p xs k j,o=.ref p∧i=.int k∧H p=some (.lst xs)∧ixN xs.length k=some j∧Q (upd H p (.lst (xs.set j v)))
theorem set_list:PSet X rSetL:=by
  intro pins s σ H o i v ov iv u Q I ro ri rv h
  obtain ⟨p,xs,k,j,rfl,rfl,hp,hj,q⟩:=h
  cases ro
  obtain ⟨t,rfl⟩:=ri
  obtain ⟨its,n,r,ho,hz⟩:=I.lst hp
  obtain ⟨h1,h2,h3,h4⟩:=ixN_seq hj
  have hl:=r.length
  have hn:=line63
  have I':Inv X pins σ (upd H p (.lst (xs.set j v))) { s with heap:=s.heap.update p (Obj.mapSeq (·.setIfInBounds j u)) } :=
    I.lstUpd hp ho (mapSeq_set its n j u) (r.set rv j) (by rw [List.length_set]; exact hz) s.toks
  by_cases h0:0≤k
  · have hk:k.toNat=j:=by
      rw [seqIndex_of h0 h4] at h1
      exact Option.some.inj h1
    exact PySem.W.ki_setAt ho h0 (by omega) (by rw [List.size_toArray,← hl]; exact h4) (by rw [hk]; exact ⟨_,I',q⟩)
  · have hk:(k+(its.toArray.size:Int)).toNat=j:=by
      rw [seqIndex_neg (by omega) h3] at h1
      rw [List.size_toArray,← hl]
      exact Option.some.inj h1
    exact PySem.W.ki_setBack ho (by omega) (by rw [List.size_toArray,← hl]; exact h3) (by omega) (by rw [hk]; exact ⟨_,I',q⟩)
theorem slice_bounds (lo hi:Option Int) (n:Nat):(sliceBounds lo hi none n).1=((HT.sIx n 0 lo:Nat):Int)∧(sliceBounds lo hi none n).2.1=((HT.sIx n n hi:Nat):Int)∧(sliceBounds lo hi none n).2.2=1:=by
  refine ⟨?_,?_,rfl⟩
  · cases lo with
    | none=>simp [sliceBounds,HT.sIx]
    | some i =>
      simp only [sliceBounds,HT.sIx,Option.getD_none,show (1:Int) > 0 by decide,if_true]
      by_cases h:i<0
      · simp only [h,if_true] <;> omega
      · simp only [h,if_false] <;> omega
  · cases hi with
    | none=>simp [sliceBounds,HT.sIx]
    | some i =>
      simp only [sliceBounds,HT.sIx,Option.getD_none,show (1:Int) > 0 by decide,if_true]
      by_cases h:i<0
      · simp only [h,if_true] <;> omega
      · simp only [h,if_false] <;> omega
theorem slicePick_cut (its:List Value) (lo hi:Option Int):slicePick its.toArray lo hi none=((its.drop (HT.sIx its.length 0 lo)).take (HT.sIx its.length its.length hi-HT.sIx its.length 0 lo)).toArray:=by
  obtain ⟨h1,h2,h3⟩:=slice_bounds lo hi its.toArray.size
  unfold slicePick
  rw [h1,h2,h3]
  simp only [sliceRange_one,pick_run,List.size_toArray] <;> rfl
def rSlL (K:PySem.W.Frag):V→Option Int→Option Int→Hp→VK→Prop:=fun x lo hi H Q=>∃ a xs,x=.ref a∧SqL K H a xs∧∀ p,H p=none→Q (.ref p) (upd H p (.lst (cutV xs lo hi)))
theorem sl_list:SlR X (rSlL X.K):=by
  intro pins s σ H x v vl vu lo hi sl Q I rx hs pl pu h
  obtain ⟨a,xs,rfl,hx,q⟩:=h
  cases rx
  obtain ⟨its,r,ht,hz⟩:=I.list hx
  have hlen:=r.length
  refine ⟨"list", _,slot_list_getitem.lookup,ht.isList.typeIs,?_⟩
  refine wpAny_getItem_list_slice ht.isList hs pl pu .none (by simp) ?_ (by rw [List.size_toArray] <;> omega)
  rw [slicePick_cut,← hlen]
  refine ⟨.ref s.heap.objs.size,_,I.laid (t':=s.toks) (o:=.lst (cutV xs lo hi)) (fun b ob q=>Heap.get?_push_of_some _ q) (Nat.le_refl _) ?_,rfl,q _ (I.hok.fresh (Nat.le_refl _))⟩
  exact ⟨Nat.le_trans (cutV_length xs lo hi) hz,_,0,(r.drop (HT.sIx xs.length 0 lo)).take (HT.sIx xs.length xs.length hi-HT.sIx xs.length 0 lo),Heap.get?_push_size _ rfl⟩
def flatV:V→Bool
  | .non=>true
  | .bl _=>true
  | .int _=>true
  | .str _=>true
  | _=>false
def eqV:V→V→Bool
  | .non,.non=>true
  | .bl a,.bl b=>a==b
  | .bl a,.int b=>(if a then 1 else 0)==b
  | .int a,.bl b=>a==(if b then 1 else 0)
  | .int a,.int b=>a==b
  | .str a,.str b=>a==b
  | _,_=>false
theorem eqAt_V {A:Around} {s:Shared} {y x:V} {u v:Value} (ry:RelV y u) (rx:RelV x v) (fy:flatV y=true) (fx:flatV x=true):SeqAt.EqAt A s u v (eqV y x):=by
  cases y with
  | non =>
    cases ry
    cases x with
    | non=>cases rx; exact SeqAt.EqAt.same _
    | bl b=>cases rx; exact SeqAt.EqAt.none_bool b
    | int b=>obtain ⟨t,rfl⟩:=rx; exact SeqAt.EqAt.none_int b t
    | str b=>obtain ⟨t,rfl⟩:=rx; exact SeqAt.EqAt.none_str b t
    | _=>exact absurd (show false=true from fx) Bool.false_ne_true
  | bl a =>
    cases ry
    cases x with
    | non=>cases rx; exact SeqAt.EqAt.bool_none a
    | bl b=>cases rx; exact SeqAt.EqAt.bool_bool a b
    | int b=>obtain ⟨t,rfl⟩:=rx; exact SeqAt.EqAt.bool_int a b t
    | str b=>obtain ⟨t,rfl⟩:=rx; exact SeqAt.EqAt.bool_str a b t
    | _=>exact absurd (show false=true from fx) Bool.false_ne_true
  | int a =>
    obtain ⟨t',rfl⟩:=ry
    cases x with
    | non=>cases rx; exact SeqAt.EqAt.int_none a t'
    | bl b=>cases rx; exact SeqAt.EqAt.int_bool a t' b
    | int b=>obtain ⟨t,rfl⟩:=rx; exact SeqAt.EqAt.int_int a t' b t
    | str b=>obtain ⟨t,rfl⟩:=rx; exact SeqAt.EqAt.int_str a t' b t
    | _=>exact absurd (show false=true from fx) Bool.false_ne_true
  | str a =>
    obtain ⟨t',rfl⟩:=ry
    cases x with
    | non=>cases rx; exact SeqAt.EqAt.str_none a t'
    | bl b=>cases rx; exact SeqAt.EqAt.str_bool a t' b
    | int b=>obtain ⟨t,rfl⟩:=rx; exact SeqAt.EqAt.str_int a t' b t
    | str b=>obtain ⟨t,rfl⟩:=rx; exact SeqAt.EqAt.str_str a t' b t
    | _=>exact absurd (show false=true from fx) Bool.false_ne_true
  | _=>exact absurd (show false=true from fy) Bool.false_ne_true
def eqU (x:V) (u:Value):Bool:=match u with
  | .none=>eqV .non x
  | .bool b=>eqV (.bl b) x
  | .int i _=>eqV (.int i) x
  | .str z _=>eqV (.str z) x
  | _=>false
theorem eqU_of {x y:V} {u:Value} (r:RelV y u) (f:flatV y=true):eqU x u=eqV y x:=by
  cases y with
  | non=>cases r; rfl
  | bl b=>cases r; rfl
  | int i=>obtain ⟨t,rfl⟩:=r; rfl
  | str z=>obtain ⟨t,rfl⟩:=r; rfl
  | _=>exact absurd (show false=true from f) Bool.false_ne_true
theorem any_eqU {x:V}:∀ {xs:List V} {us:List Value},Vals xs us→xs.all flatV=true→us.any (eqU x)=xs.any fun y=>eqV y x
  | _,_,.nil,_=>rfl
  | y::xs,u::us,.cons r t,f=>by
    rw [List.all_cons,Bool.and_eq_true] at f
    rw [List.any_cons,List.any_cons,eqU_of r f.1,any_eqU t f.2]
theorem mem_eqAt {A:Around} {s:Shared} {x:V} {v:Value} (rx:RelV x v) (fx:flatV x=true):∀ {xs:List V} {us:List Value},Vals xs us→xs.all flatV=true→∀ u∈us,SeqAt.EqAt A s u v (eqU x u)
  | _,_,.nil,_=>fun u hu=>by cases hu
  | y::xs,u::us,.cons r t,f=>fun u' hu=>by
    rw [List.all_cons,Bool.and_eq_true] at f
    rcases List.mem_cons.mp hu with rfl | hu
    · rw [eqU_of r f.1]; exact eqAt_V r rx f.1 fx
    · exact mem_eqAt rx fx t f.2 u' hu
def inV (x:V) (xs:List V):Bool:=xs.any fun y=>eqV y x
def rIn (K:PySem.W.Frag) (neg:Bool):R2:=fun x y H Q=>∃ p xs,y=.ref p∧(SqL K H p xs∨SqT K H p xs)∧flatV x=true∧xs.all flatV=true∧Q (.bl (if neg then !inV x xs else inV x xs)) H
theorem op_in_seq:OpR X (compareOp .In) (rIn X.K false):=by
  intro pins s σ H x y v u Q I rx ry h
  obtain ⟨p,xs,rfl,hq,fx,fs,q⟩:=h
  cases ry
  rcases hq with hq | hq
  · obtain ⟨its,r,pl,hz⟩:=I.list hq
    refine SeqAt.in_listAt (eqU x) pl.isList (fun w hw=>mem_eqAt rx fx r fs w (by simpa using hw)) ⟨.bl _,H,I,rfl,?_⟩
    rw [show its.toArray.any (eqU x)=its.any (eqU x) by simp,any_eqU r fs]
    exact q
  · obtain ⟨its,r,pl,hz⟩:=I.tuple hq
    refine SeqAt.in_tupleAt (eqU x) pl (fun w hw=>mem_eqAt rx fx r fs w (by simpa using hw)) ⟨.bl _,H,I,rfl,?_⟩
    rw [show its.toArray.any (eqU x)=its.any (eqU x) by simp,any_eqU r fs]
    exact q
theorem op_notIn_seq:OpR X (compareOp .NotIn) (rIn X.K true):=by
  intro pins s σ H x y v u Q I rx ry h
  obtain ⟨p,xs,rfl,hq,fx,fs,q⟩:=h
  cases ry
  rcases hq with hq | hq
  · obtain ⟨its,r,pl,hz⟩:=I.list hq
    refine SeqAt.notIn_listAt (eqU x) pl.isList (fun w hw=>mem_eqAt rx fx r fs w (by simpa using hw)) ⟨.bl _,H,I,rfl,?_⟩
    rw [show its.toArray.any (eqU x)=its.any (eqU x) by simp,any_eqU r fs]
    exact q
  · obtain ⟨its,r,pl,hz⟩:=I.tuple hq
    refine SeqAt.notIn_tupleAt (eqU x) pl (fun w hw=>mem_eqAt rx fx r fs w (by simpa using hw)) ⟨.bl _,H,I,rfl,?_⟩
    rw [show its.toArray.any (eqU x)=its.any (eqU x) by simp,any_eqU r fs]
    exact q
theorem call_list_of:CallR X (.type "list") (fun xs H Q=>∃ p ys,xs=[.ref p]∧(SqL X.K H p ys∨SqT X.K H p ys)∧∀ l,H l=none→Q (.ref l) (upd H l (.lst ys))):=by
  intro pins s σ H xs us Q I r h
  obtain ⟨p,ys,rfl,hq,q⟩:=h
  obtain ⟨u,rfl,rx⟩:=vals1 r
  cases rx
  have fin:∀ (its:List Value),Vals ys its→ys.length≤sizeLine→∀ (h':Heap) (c':Nat),(∀ b o',s.heap.get? b=some o'→h'.get? b=some o') →
      h'.get? s.heap.objs.size=some { cls:=.type "list", dict:=none,data:=.seq its.toArray c',slots:=#[] }→EP X pins σ Q (.ref s.heap.objs.size) { s with heap:=h' }:=fun its r' hz h' c' kp e =>
    ⟨.ref s.heap.objs.size,_,I.laid (t':=s.toks) kp (Nat.le_refl _) (show ObjOk X.prog X.w _ h' _ (.lst ys) from ⟨hz,its,c',r',e⟩),rfl,q _ (I.hok.fresh (Nat.le_refl _))⟩
  rcases hq with hq | hq
  · obtain ⟨its,r',pl,hz⟩:=I.list hq
    have hlen:=r'.length
    obtain ⟨o,ho,hc,n,hd⟩:=pl.isList
    exact call_list_seq p (.inl rfl) ho hc hd (fun h' c' kp e=>fin its r' hz h' c' kp e) (by simp only [List.size_toArray] <;> omega)
  · obtain ⟨its,r',pl,hz⟩:=I.tuple hq
    have hlen:=r'.length
    obtain ⟨o,ho,hc,n,hd⟩:=pl
    exact call_list_seq p (.inr rfl) ho hc hd (fun h' c' kp e=>fin its r' hz h' c' kp e) (by simp only [List.size_toArray] <;> omega)
def tyV (K:PySem.W.Frag) (T:String) (x:V) (H:Hp):Prop:=match x with
  | .str _=>T = "str"
  | .int _=>T = "int"
  | .ref p=>(T = "list" ∧ ∃ xs,SqL K H p xs)∨(T = "tuple" ∧ ∃ o,K.lookup p=some o∧o.cls=.type "tuple" ∧ o.dict=none) ∨
      (T = "dict" ∧ ((∃ kvs,H p=some (.dK kvs))∨∃ kvs,H p=some (.dT kvs)))∨(T = "set" ∧ ∃ S n,H p=some (.set S n))
  | _=>False
theorem tyV_is {pins:List (Addr×Obj)} {σ:St} {H:Hp} {s:Shared} {T:String} {x:V} {v:Value} (I:Inv X pins σ H s) (r:RelV x v) (ty:tyV X.K T x H) :
    s.TypeIs v T∧∀ a,v=.ref a→∃ ob,s.heap.get? a=some ob∧ob.dict=none:=by
  cases x with
  | str z =>
    obtain ⟨t,rfl⟩:=r
    cases (show T = "str" from ty)
    exact ⟨typeIs_str s z t,fun _ e=>nomatch e⟩
  | int i =>
    obtain ⟨t,rfl⟩:=r
    cases (show T = "int" from ty)
    exact ⟨typeIs_int s i t,fun _ e=>nomatch e⟩
  | ref p =>
    cases r
    rcases ty with ⟨rfl,xs,hq⟩ | ⟨rfl,o,hk,hc,hd⟩ | ⟨rfl,hk⟩ | ⟨rfl,S,n,hk⟩
    · obtain ⟨its,_,pl,_⟩:=I.list hq
      refine ⟨pl.isList.typeIs,fun a e=>?_⟩
      cases e
      obtain ⟨o,n,e,c,hd,_⟩:=pl
      exact ⟨o,e,hd⟩
    · refine ⟨⟨o,I.kIn p o hk,hc⟩,fun a e=>?_⟩
      cases e
      exact ⟨o,I.kIn _ o hk,hd⟩
    · have z:∃ o,s.heap.get? p=some o∧o.ExactDict:=by
        rcases hk with ⟨kvs,hk⟩ | ⟨kvs,hk⟩
        · obtain ⟨_,_,_,_,o,_,_,e,ex,_⟩:=I.hok p _ hk
          exact ⟨o,e,ex⟩
        · obtain ⟨_,_,_,_,o,_,_,e,ex,_⟩:=I.hok p _ hk
          exact ⟨o,e,ex⟩
      obtain ⟨o,e,ex⟩:=z
      refine ⟨⟨o,e,ex.1⟩,fun a e2=>?_⟩
      cases e2
      exact ⟨o,e,ex.2.1⟩
    · obtain ⟨o,_,_,_,e,ex,_⟩:=I.hok p _ hk
      refine ⟨⟨o,e,ex.1⟩,fun a e2=>?_⟩
      cases e2
      exact ⟨o,e,ex.2.1⟩
  | _=>exact False.elim ty
def tBM0 (K:PySem.W.Frag) (T:String) (r:V→List V→Hp→VK→Prop) (to:TE):TE:=fun σ H Q=>to σ H fun x H1=>tyV K T x H1∧r x [] H1 Q
def tBM (K:PySem.W.Frag) (T:String) (r:V→List V→Hp→VK→Prop) (to:TE) (t:TA):TE:=fun σ H Q=>to σ H fun x H1=>tyV K T x H1∧t σ H1 fun xs H2=>r x xs H2 Q
variable {o e:Expr} {es:List Expr} {to:TE} {t:TA} {name:Str} {apos cpos:Pos} {T id:String} {r:V→List V→Hp→VK→Prop}
theorem pe_bm0 (pa:PlainAttrs T) (slot:Slot T name id) (hty:typeOf (.builtin id)=pure (.type "method_descriptor")) (hm:MtR X id r) (ho:PE X o to)
    (hbase:attributeBase o name X.env (eval o X.env)=eval o X.env:=by rfl) (hline:(apos.endLine==cpos.line)=true:=by rfl):PE X (.Call (.Attribute o name apos) [] [] cpos) (tBM0 X.K T r to):=by
  intro pins s σ H Q I h
  refine wpAny_Call_method0_late hbase hline (thn (ho pins s σ H _ I h) fun v s1 ⟨x,H1,I1,r1,ty,q1⟩=>?_)
  obtain ⟨h1,h2⟩:=tyV_is I1 r1 ty
  exact ⟨T,id,pa,slot,hty,h1,h2,Calls.callWith_builtin rfl (PySem.evalArgs_none (hm pins s1 σ H1 x [] v [] Q I1 r1 .nil q1))⟩
theorem pe_bm (pa:PlainAttrs T) (slot:Slot T name id) (hty:typeOf (.builtin id)=pure (.type "method_descriptor")) (hm:MtR X id r) (ho:PE X o to) (ha:PA X (e::es) t)
    (hbase:attributeBase o name X.env (eval o X.env)=eval o X.env:=by rfl)
    (hfew:((backTo cpos (starEach (e::es) X.env)).all (fun x=>!x.1)&&(backToKw cpos (keywordEach [] X.env)).all (fun x=>x.1.isSome)
      && decide ((e::es).length+([]:List Keyword).length+(if ([]:List Keyword).isEmpty then 0 else 1)<30))=true:=by rfl)
    (hline:(apos.endLine==cpos.line)=true:=by rfl) (hs:starEach (e::es) X.env=(false,eval e X.env)::starEach es X.env:=by rfl) (hplain:(backTo cpos (starEach es X.env)).any (·.1)=false:=by rfl) :
    PE X (.Call (.Attribute o name apos) (e::es) [] cpos) (tBM X.K T r to t):=by
  intro pins s σ H Q I h
  refine wpAny_Call_method_late hbase hfew hline rfl (thn (ho pins s σ H _ I h) fun v s1 ⟨x,H1,I1,r1,ty,q1⟩=>?_)
  obtain ⟨h1,h2⟩:=tyV_is I1 r1 ty
  refine ⟨T,id,pa,slot,hty,h1,h2,?_⟩
  have hA:=ha cpos pins s1 σ H1 _ I1 q1
  rw [hs] at hA ⊢
  refine Calls.callWith_builtin (by show (false || (backTo cpos (starEach es X.env)).any (·.1))=false; rw [hplain] <;> rfl) (Calls.evalArgs_plain ?_)
  exact thn hA fun us s2 ⟨vs,H2,I2,r2,q2⟩=>hm pins s2 σ H2 x vs v us Q I2 r1 r2 q2
end
end L2
namespace L2
open PySem PySem.Spec PyProof.Rows
def MtM (X:Cx) (id:String) (r:V→List V→Hp→VK→Prop):Prop :=
  ∀ (pins:List (Addr×Obj)) (s:Shared) (σ:St) (H:Hp) (x:V) (xs:List V) (v:Value) (us:List Value) (Q:VK),Inv X pins σ H s→RelV x v→Vals xs us→r x xs H Q →
    wpAny (model X.prog X.w) X.A (call (.builtin id) (v::us)) (EP X pins σ Q) X.xe s
theorem Vals.one:∀ {x:V} {us:List Value},Vals [x] us→∃ u,us=[u]∧RelV x u
  | _,_,.cons r .nil=>⟨_,rfl,r⟩
theorem Vals.zero:∀ {us:List Value},Vals [] us→us=[]
  | _,.nil=>rfl
theorem Vals.reverse {xs:List V} {us:List Value} (h:Vals xs us):Vals xs.reverse us.reverse:=by
  induction h with
  | nil=>exact .nil
  | cons r t ih=>rw [List.reverse_cons,List.reverse_cons]; exact Vals.append ih (.cons r .nil)
theorem Vals.rep {xs:List V} {us:List Value} (h:Vals xs us):∀ k:Nat,Vals (List.replicate k xs).flatten (List.replicate k us).flatten
  | 0=>.nil
  | k+1=>by
    rw [List.replicate_succ,List.replicate_succ,List.flatten_cons,List.flatten_cons]
    exact Vals.append h (Vals.rep h k)
theorem foldl_rep (its:List Value):∀ (k:Nat) (acc:List Value),
    List.foldl (fun x1 x2=>x1++x2) acc.toArray (List.replicate k its.toArray)=(acc++(List.replicate k its).flatten).toArray
  | 0,acc=>by simp
  | k+1,acc=>by
    have e:acc.toArray++its.toArray=(acc++its).toArray:=by simp
    have e2:(acc++its)++(List.replicate k its).flatten=acc++(List.replicate (k+1) its).flatten:=by
      rw [List.replicate_succ,List.flatten_cons,List.append_assoc]
    rw [← e2,← foldl_rep its k (acc++its),← e,List.replicate_succ,List.foldl_cons]
section
variable {X:Cx} {pins:List (Addr×Obj)} {σ:St} {H:Hp} {s:Shared} {l b:Addr} {xs ys zs:List V}
theorem Inv.lset {its its':List Value} {n:Nat} {f:Array Value→Array Value} {t':Nat} (I:Inv X pins σ H s) (hH:H l=some (.lst xs))
    (e:s.heap.get? l=some { cls:=.type "list", data:=.seq its.toArray n }) (hf:f its.toArray=its'.toArray) (hv:Vals ys its') (hz:ys.length≤sizeLine) :
    Inv X pins σ (upd H l (.lst ys)) { s with heap:=s.heap.update l (Obj.mapSeq f),toks:=t' }:=by
  have q:=PySem.IsL.update e f
  rw [hf] at q
  refine I.write (x:=l) (e:=l) (by rw [hH]; exact trivial) (.inl rfl) (fun b' u hb hu=>(Heap.get?_update_other s.heap (Obj.mapSeq f) (Ne.symm hb)).trans hu) ⟨_,q⟩ ?_
  exact ⟨hz,its',_,hv,q⟩
theorem Inv.lnew {its:List Value} {t':Nat} (I:Inv X pins σ H s) (hv:Vals ys its) (hz:ys.length≤sizeLine) :
    Inv X pins σ (upd H s.heap.objs.size (.lst ys)) { s with heap:=s.heap.push { cls:=.type "list", data:=.seq its.toArray },toks:=t' } :=
  I.laid (fun _ _ q=>Heap.get?_push_of_some _ q) (Nat.le_refl _) ⟨hz,its,0,hv,Heap.get?_push_size _ rfl⟩
theorem Inv.fresh (I:Inv X pins σ H s):H s.heap.objs.size=none:=I.hok.fresh (Nat.le_refl _)
theorem Inv.lstM (I:Inv X pins σ H s) (hH:H l=some (.lst xs)):xs.length≤sizeLine∧∃ (its:List Value) (n:Nat),Vals xs its∧xs.length=its.length∧s.heap.get? l=some { cls:=.type "list", data:=.seq its.toArray n }:=by
  obtain ⟨z,its,n,r,e⟩:=I.hok l _ hH
  exact ⟨z,its,n,r,r.length,e⟩
theorem notLongL {n:Nat} (h:n≤sizeLine):Builtin.List.listTooLong n=false:=by
  unfold Builtin.List.listTooLong
  exact decide_eq_false (by omega)
end
section
variable {X:Cx}
def rAppend:V→List V→Hp→VK→Prop:=fun x vs H Q=>∃ l xs y,x=.ref l∧vs=[y]∧H l=some (.lst xs)∧xs.length<sizeLine∧Q .non (upd H l (.lst (xs++[y])))
theorem mt_append:MtM X "list.append" rAppend:=by
  intro pins s σ H x vs v us Q I rx rv h
  obtain ⟨l,xs,y,rfl,rfl,hH,hz,q⟩:=h
  cases rx
  obtain ⟨u,rfl,ru⟩:=rv.one
  obtain ⟨z,its,n,r,hl,e⟩:=I.lstM hH
  refine call_meets F.slot_list_append ⟨_,e,rfl⟩ F.entry_list_append (F.args_list_append_2 _ _) (PySem.list_append l its.toArray n u (by rw [List.size_toArray]; omega)) ⟨e,?_⟩
  refine ⟨.non,_,I.lset (its':=its++[u]) hH e (by simp) (r.append (.cons ru .nil)) ?_,rfl,q⟩
  rw [List.length_append,List.length_singleton]
  omega
def rReverse:V→List V→Hp→VK→Prop:=fun x vs H Q=>∃ l xs,x=.ref l∧vs=[]∧H l=some (.lst xs)∧Q .non (upd H l (.lst xs.reverse))
theorem mt_reverse:MtM X "list.reverse" rReverse:=by
  intro pins s σ H x vs v us Q I rx rv h
  obtain ⟨l,xs,rfl,rfl,hH,q⟩:=h
  cases rx
  have hus:=rv.zero
  subst hus
  obtain ⟨z,its,n,r,hl,e⟩:=I.lstM hH
  refine call_meets F.slot_list_reverse ⟨_,e,rfl⟩ F.entry_list_reverse (F.args_list_reverse_1 _) (AutoSeq1.list_reverse_list_0 l its.toArray n (by rw [List.size_toArray]; omega)) ⟨e,?_⟩
  refine ⟨.non,_,I.lset (its':=its.reverse) hH e (by simp) r.reverse ?_,rfl,q⟩
  rw [List.length_reverse]
  omega
def rRep:R2:=fun x y H Q=>∃ l k xs,x=.ref l∧y=.int k∧H l=some (.lst xs)∧-(2 ^ 63)≤k∧k<2 ^ 63∧xs.length*k.toNat≤sizeLine ∧
  ∀ p,H p=none→Q (.ref p) (upd H p (.lst (List.replicate k.toNat xs).flatten))
theorem len_rep {α:Type} (xs:List α) (k:Nat):(List.replicate k xs).flatten.length=k*xs.length:=by
  induction k with
  | zero=>simp
  | succ k ih=>rw [List.replicate_succ,List.flatten_cons,List.length_append,ih,Nat.succ_mul,Nat.add_comm]
theorem op_rep:OpR X (binaryOp .Mult) rRep:=by
  intro pins s σ H x y v u Q I rx ry h
  obtain ⟨l,k,xs,rfl,rfl,hH,h1,h2,hz,q⟩:=h
  cases rx
  obtain ⟨t,rfl⟩:=ry
  obtain ⟨z,its,n,r,hl,e⟩:=I.lstM hH
  have hlen:its.toArray.size*k.toNat≤sizeLine:=by rw [List.size_toArray,← hl]; exact hz
  have hcap:¬ its.toArray.size*k.toNat > (2 ^ 63-1) / 8:=by
    have:(sizeLine:Nat)≤(2 ^ 63-1) / 8:=by decide
    omega
  have hfit:¬ (!Builtin.List.listFitsIndex k)=true:=by
    rw [fitsIndex_both h1 h2]
    exact Bool.false_ne_true
  have hlong:¬ Builtin.List.listTooLong (its.toArray.size*k.toNat)=true:=by
    rw [notLongL hlen]
    exact Bool.false_ne_true
  have hnew:List.foldl (fun x1 x2=>x1++x2) #[] (List.replicate (if its.toArray.isEmpty=true then 0 else k.toNat) its.toArray)=(List.replicate k.toNat its).flatten.toArray:=by
    have f0:∀ m:Nat,List.foldl (fun x1 x2=>x1++x2) #[] (List.replicate m its.toArray)=(List.replicate m its).flatten.toArray:=fun m=>by
      have:=foldl_rep its m []
      rw [List.nil_append] at this
      exact this
    rw [f0]
    cases its with
    | nil=>simp
    | cons a r'=>rw [if_neg (by simp)]
  refine wpAny_binaryOp_repeat_ref (T := "list") (U := "int") (by decide) ⟨_,e,rfl⟩ (fun s'=>typeIs_int s' k t) noFill_list_mul F.fills_int_mul F.slot_int_rmul repeat_list F.slot_int_index.lookup
    (call_meets F.slot_int_rmul (typeIs_int s k t) F.entry_int_rmul (F.args_int_rmul_2 _ _) (int___rmul___int_list k t l its.toArray n)
      ⟨e,rfl,⟨_,e,rfl⟩,call_meets F.slot_list_mul ⟨_,e,rfl⟩ F.entry_list_mul (F.args_list_mul_2 _ _) (AutoListH.list___mul___list_int_3 l its.toArray n k t hfit hcap hlong) ⟨e,?_⟩⟩)
  rw [hnew]
  exact ⟨.ref _,_,I.lnew (t':=s.toks) (r.rep k.toNat) (by rw [len_rep,Nat.mul_comm]; exact hz),rfl,q _ I.fresh⟩
end
section
variable {prog:Program} {w:World} {A:Around} {E:Value→Shared→Prop} {s:Shared}
end
section
variable {X:Cx}
end
end L2
namespace Att
open PySem PySem.W PySem.Calls PyProof.Rows
theorem ints_of_wellAll {P:Params} {h:Heap}:∀ (ns:List Int) (vs:List Value),WellAll P h vs (ns.map WData.int)→IntsAre vs ns:=by
  intro ns
  induction ns with
  | nil =>
    intro vs w
    rw [List.map_nil] at w
    cases w
    exact .nil
  | cons n ns ih =>
    intro vs w
    rw [List.map_cons] at w
    cases w with
    | cons a b =>
      cases a
      exact .cons _ _ (ih _ b)
theorem script_of {l:OpenLaw} {n:Nat} (hn:l.most=some n) {P:Params} {h:Heap} {args:List WData} {vals:List Value}
    (hpre:l.row.toRowW.claim.pre args=true) (hwl:WellAll P h vals args) :
    ∃ a vs ns,vals=[Value.ref a]∧args=[WData.list (ns.map WData.int)]∧h.get? a=some { cls:=.type "list", data:=.seq vs.toArray }∧IntsAre vs ns∧ns.length≤n:=by
  have hsh:WShape.hasAll [] args [.list .int]=true:=(pre_splitW hpre).1
  have hc:l.pre.holds [] { args:=args }=true:=(pre_splitW hpre).2
  obtain ⟨d,r,rfl,h1,h2⟩:=hasAllW_cons hsh
  obtain rfl:=hasAllW_nil h2
  obtain ⟨xs,rfl,h3⟩:=hasW_list h1
  obtain ⟨ns,rfl⟩:=items_int h3
  have hlen:ns.length≤n:=by
    unfold OpenLaw.pre at hc
    have h4:(WTm.not (.lt (.lit (.int (n:Int))) (.len (.arg 0)))).holds [] { args:=[.list (ns.map .int)] }=true:=by
      have h4:=(holds_andW hc).1
      rw [hn] at h4
      exact h4
    have h5:=condW_of h4 (w_not (w_lt w_lit (w_len_list (w_arg rfl))))
    rw [List.length_map] at h5
    refine Nat.le_of_not_lt fun q=>?_
    have q':(n:Int)<((ns.length:Nat):Int):=by omega
    first
      | (rw [decide_eq_true q'] at h5; exact absurd h5 (by decide))
      | (simp at h5; omega)
  cases hwl with
  | cons w1 w2 =>
    cases w2
    cases w1 with
    | list ho hall=>exact ⟨_,_,ns,rfl,rfl,ho,ints_of_wellAll ns _ hall,hlen⟩
theorem post_true (l:OpenLaw) (args:List WData):l.row.toRowW.claim.post args (.bool true) args=true :=
  postW_of (r:=l.row.toRowW) (X:=(true==true))
    (show WShape.has [] (.bool true) .bool=true by first | rfl | decide | simp [WShape.has,WShape.arms,WShape.armsAll])
    (show (WTm.eq .res (.lit (.bool true))).value [] { args:=args,res:=some (.bool true),after:=args }=some (.bool (true==true)) from w_eq_bool (w_res rfl) w_lit) rfl
section
variable {prog:Program} {w:World} {A:Around} {E:Value→Shared→Prop} {s:Shared} {K:Frag}
def ledger (h:Heap) (L d:Addr):List (Addr×Obj):=(List.range h.objs.size).filterMap fun a=>if a=L∨a=d then none else (h.get? a).map fun o=>(a,o)
end
end Att
namespace L2
open PySem PySem.Spec PyProof.Rows
theorem vals_ints:∀ {vs:List Value} {ns:List Int},IntsAre vs ns→Vals (ns.map V.int) vs
  | _,_,.nil=>.nil
  | _,_,.cons n t h=>.cons ⟨t,rfl⟩ (vals_ints h)
end L2
namespace L2
open PySem PySem.Spec PyProof.Rows
abbrev KOf {K:PySem.W.Frag} {h:Heap} (_:K.In h):PySem.W.Frag:=K
end L2
namespace L2
open PySem PySem.Spec PyProof.Rows
def defArgs (s:Stmt):Arguments:=match s with
  | .FunctionDef _ a _ _ _ _ _ _ _ _=>a
  | _=>{ posonlyargs:=[],args:=[],vararg:=none,kwonlyargs:=[],kw_defaults:=[],kwarg:=none,defaults:=[] }
def defBody (s:Stmt):List Stmt:=match s with
  | .FunctionDef _ _ b _ _ _ _ _ _ _=>b
  | _=>[]
def defScope (s:Stmt):Scope:=match s with
  | .FunctionDef _ _ _ _ _ _ sc _ _ _=>sc
  | _=>{ kind:=.function,names:=[],isGenerator:=false,isCoroutine:=false }
abbrev CX0:CXT:=fun _ _ _ _ _ _=>False
abbrev E0:XK:=fun _ _ _=>False
theorem pass0 {X:Cx}:Passes CX0 X E0:=fun _ _ _ _ _ _ _ h=>h.elim
structure Fun (K:PySem.W.Frag) (x qual:Str) (st:Stmt) (f:Addr) (fd:FuncData):Prop where
  ex:∃ (oc:Value) (od:Option Addr) (kV doc pm:Value) (an:Option Addr) (cdv ct:Value) (osl:Array (Option Value)),
    fd=PySem.W.fnOf x qual (defArgs st) (defBody st) (defScope st) .none kV doc pm an cdv ct∧K.lookup f=some ⟨oc,od,.func fd,osl⟩∧PySem.W.codeIn K cdv qual=true
  kp:PySem.W.keepIn K (.ref f)=true
section
variable {P:Program} {w:World} {K:PySem.W.Frag} {mg:Str→Option Value} {base:Heap}
theorem Fun.ok {x qual:Str} {st:Stmt} {f:Addr} {fd:FuncData} {N ps:List Str} {k:Nat} {sp:Sp} (F:Fun K x qual st f fd) (S:FnScope N ps (defScope st)) (len:∀ vs H Q E,sp vs H Q E→vs.length=ps.length)
    (hbody:∀ (cdv:Value) (A:Around) (outer:List Env) (s:Shared) (H:Hp) (vs:List V) (Q:VK) (E:XK),Room k (A.deeper (envOfC qual (defScope st) s.heap.objs.size f cdv))→sp vs H Q E →
      ∃ t,PSs (cxOf CX0 P w K mg base N qual (defScope st) f cdv A outer s H E).nox (defBody st) t∧t { nx:=fun _ H'=>Q .non H',rt:=Q } (start N vs) H):FnOk P w K mg base CX0 (k+1) f fd ps sp:=by
  obtain ⟨oc,od,kV,doc,pm,an,cdv,ct,osl,rfl,lk,hcd⟩:=F.ex
  refine fn_of lk hcd S len fun A outer s H vs Q E hr hsp=>?_
  obtain ⟨t,h,q⟩:=hbody cdv A outer s H vs Q E hr hsp
  exact ⟨t,h.nox,q⟩
theorem Fun.binds {x qual:Str} {st:Stmt} {f:Addr} {fd:FuncData} {ps:List Str} (F:Fun K x qual st f fd)
    (h:∀ (kV doc pm:Value) (an:Option Addr) (cdv ct:Value) (us:List Value),us.length=ps.length→bindArgs (PySem.W.fnOf x qual (defArgs st) (defBody st) (defScope st) .none kV doc pm an cdv ct) ⟨us,[]⟩=pure (ps.zip us)):Binds K fd ps []:=by
  obtain ⟨oc,od,kV,doc,pm,an,cdv,ct,osl,rfl,lk,hcd⟩:=F.ex
  exact .all (h kV doc pm an cdv ct)
theorem fun_mk {x qual:Str} {st:Stmt} {f:Addr} {oc:Value} {od an:Option Addr} {osl:Array (Option Value)} {kV doc pm cdv ct:Value} (l:K.lookup f=some ⟨oc,od,.func (PySem.W.fnOf x qual (defArgs st) (defBody st) (defScope st) .none kV doc pm an cdv ct),osl⟩)
    (c:PySem.W.codeIn K cdv qual=true) (k:PySem.W.keepIn K (.ref f)=true):Fun K x qual st f (PySem.W.fnOf x qual (defArgs st) (defBody st) (defScope st) .none kV doc pm an cdv ct):=⟨⟨oc,od,kV,doc,pm,an,cdv,ct,osl,rfl,l,c⟩,k⟩
end
section
variable {X:Cx}
theorem pv (i:Nat) {x:Str} {pos:Pos} (hN:X.N[i]?=some x:=by rfl) (hv:Vis X.env.scope x:=by first | exact Or.inl rfl | exact Or.inr (Or.inl rfl) | exact Or.inr (Or.inr rfl)) (hd:(x==("__debug__" : Str))=false:=by decide)
    (hcd:(x==("__classdict__" : Str))=false:=by decide):PE X (.Name x pos) (tVar i):=pe_var hN hv hd hcd
end
theorem iteF {A B:Prop} (h:B):if false=true then A else B:=by
  rw [if_neg Bool.false_ne_true]
  exact h
theorem iteT {A B:Prop} (h:A):if true=true then A else B:=by
  rw [if_pos rfl]
  exact h
def Same (H H':Hp):Prop:=∀ b o,H b=some o→H' b=some o
theorem Same.refl (H:Hp):Same H H:=fun _ _ h=>h
theorem Same.trans {H H1 H2:Hp} (a:Same H H1) (b:Same H1 H2):Same H H2:=fun c o h=>b c o (a c o h)
theorem Same.free {H H':Hp} (e:Same H H') {l:Addr} (h:H' l=Option.none):H l=Option.none:=by
  cases q:H l with
  | none=>rfl
  | some o =>
    rw [e l o q] at h
    cases h
end L2
namespace L2
open PySem PySem.Spec PyProof.Rows
section
variable {X:Cx}
theorem op_mulB:OpR X (binaryOp .Mult) (rI IntMulOk fun i j=>.int (i*j)):=opI fun _ _ _ _ _ _ _ hc q=>mul_int q hc
theorem op_fdivB:OpR X (binaryOp .FloorDiv) (rI (fun _ j=>0<j∧j.natAbs.log2<9000) fun i j=>.int (i / j)):=opI fun i j _ _ _ _ _ hc q=>by
  have h1:(0:Int)<j:=hc.1
  exact floordiv_int (by omega) (by rw [Int.fdiv_eq_ediv_of_nonneg i (by omega)]; exact q) (.inl (PyProof.noPylong_of_log2 hc.2))
theorem call_sum (hc:X.calm=true):CallR X (.builtin "sum") (fun xs H Q=>∃ (p:Addr) (ns:List Int),xs=[.ref p]∧SqL X.K H p (ns.map V.int)∧Q (.int ns.sum) H):=by
  intro pins s σ H xs us Q I r h
  obtain ⟨p,ns,rfl,hq,q⟩:=h
  obtain ⟨u,rfl,rx⟩:=vals1 r
  cases rx
  obtain ⟨its,r',pl,hz⟩:=I.list hq
  have hi:=intsAre_of r'
  obtain ⟨ys,hx⟩:=hi.allInts.items
  have hl':s.heap.IsList p (intItems ys):=hx ▸ pl.isList
  refine sum_intListG (I.ok.hd hc) hl' fun h' tk t' hk=>?_
  have e1:ns=ys.toList.map (·.1):=by
    rw [← nums_intItems,← hx]
    exact (show numsOf its.toArray.toList=ns from hi.numsOf).symm
  have e2:preSum (numAt ys) ys.size=ns.sum:=by
    rw [preSum_eq,List.take_of_length_le (by simp),e1]
  rw [e2]
  exact ⟨.int ns.sum,H,I.kept hk,⟨_,rfl⟩,q⟩
theorem range_all_eq {α:Type} [DecidableEq α] {ns ms:List α} (d:α) (h:ns.length=ms.length):((List.range ns.length).all fun j=>decide (ns.getD j d=ms.getD j d))=decide (ns=ms):=by
  rw [Bool.eq_iff_iff,List.all_eq_true,decide_eq_true_iff]
  constructor
  · intro H
    refine List.ext_getElem h fun i h1 h2=>?_
    have:=of_decide_eq_true (H i (List.mem_range.mpr h1))
    rw [List.getD_eq_getElem?_getD,List.getD_eq_getElem?_getD,List.getElem?_eq_getElem h1,List.getElem?_eq_getElem h2] at this
    exact this
  · rintro rfl i _
    simp
theorem eqAt_items {α:Type} [DecidableEq α] {A:Around} {s:Shared} {us ws:List Value} {ns ms:List α} {d:α} (hl:us.length=ns.length) (hl2:ws.length=ms.length)
    (h:∀ (j:Nat) (u v:Value) (a b:α),us[j]?=some u→ws[j]?=some v→ns[j]?=some a→ms[j]?=some b→SeqAt.EqAt A s u v (decide (a=b))) :
    ∀ j (h1:j<us.toArray.size) (h2:j<ws.toArray.size),SeqAt.EqAt A s us.toArray[j] ws.toArray[j] (decide (ns.getD j d=ms.getD j d)):=by
  intro j h1 h2
  have h1':j<us.length:=by simpa using h1
  have h2':j<ws.length:=by simpa using h2
  have q:=h j us[j] ws[j] ns[j] ms[j] (List.getElem?_eq_getElem h1') (List.getElem?_eq_getElem h2') (List.getElem?_eq_getElem (by omega)) (List.getElem?_eq_getElem (by omega))
  have e1:ns.getD j d=ns[j]:=by rw [List.getD_eq_getElem?_getD,List.getElem?_eq_getElem (by omega)]; rfl
  have e2:ms.getD j d=ms[j]:=by rw [List.getD_eq_getElem?_getD,List.getElem?_eq_getElem (by omega)]; rfl
  rw [e1,e2]
  simpa using q
theorem rcAt_lists {α:Type} [DecidableEq α] [Inhabited α] {A:Around} {s:Shared} {l b:Addr} {us ws:List Value} {ns ms:List α} (p1:s.heap.IsList l us.toArray) (p2:s.heap.IsList b ws.toArray) (hl:us.length=ns.length) (hl2:ws.length=ms.length) (hu:A.units<cLine)
    (h:∀ (j:Nat) (u v:Value) (a b:α),us[j]?=some u→ws[j]?=some v→ns[j]?=some a→ms[j]?=some b→SeqAt.EqAt A.in1 s u v (decide (a=b))) :
    SeqAt.RcAt A s (.ref l) (.ref b) (decide (ns=ms)):=by
  by_cases hs:ns.length=ms.length
  · have q:=SeqAt.RcAt.lists (e:=fun j=>decide (ns.getD j default=ms.getD j default)) p1 p2 (by simp; omega) hu (eqAt_items hl hl2 h)
    have e:((List.range us.toArray.size).all fun j=>decide (ns.getD j default=ms.getD j default))=decide (ns=ms):=by
      rw [List.size_toArray,hl]; exact range_all_eq default hs
    rw [e] at q
    exact q
  · have q:=SeqAt.RcAt.lists_lengths p1 p2 (by simp; omega) hu
    have e:decide (ns=ms)=false:=decide_eq_false fun z=>hs (by rw [z])
    rw [e]
    exact q
theorem rcNeAt_lists {α:Type} [DecidableEq α] [Inhabited α] {A:Around} {s:Shared} {l b:Addr} {us ws:List Value} {ns ms:List α} (p1:s.heap.IsList l us.toArray) (p2:s.heap.IsList b ws.toArray) (hl:us.length=ns.length) (hl2:ws.length=ms.length) (hu:A.units<cLine)
    (h:∀ (j:Nat) (u v:Value) (a b:α),us[j]?=some u→ws[j]?=some v→ns[j]?=some a→ms[j]?=some b→SeqAt.EqAt A.in1 s u v (decide (a=b))) :
    SeqAt.RcNeAt A s (.ref l) (.ref b) (!decide (ns=ms)):=by
  by_cases hs:ns.length=ms.length
  · have q:=SeqAt.RcNeAt.lists (e:=fun j=>decide (ns.getD j default=ms.getD j default)) p1 p2 (by simp; omega) hu (eqAt_items hl hl2 h)
    have e:((List.range us.toArray.size).all fun j=>decide (ns.getD j default=ms.getD j default))=decide (ns=ms):=by
      rw [List.size_toArray,hl]; exact range_all_eq default hs
    rw [e] at q
    exact q
  · have q:=SeqAt.RcNeAt.lists_lengths p1 p2 (by simp; omega) hu
    have e:decide (ns=ms)=false:=decide_eq_false fun z=>hs (by rw [z])
    rw [e]
    exact q
end
open PySem.W in
theorem bits_of_lay {ns:List Int} (h:WData.layableAll [WData.list (ns.map WData.int)]=true):∀ n∈ns,Builtin.Int.intBits n≤1048576:=by
  have w:WData.weight (.list (ns.map WData.int))≤2 ^ 20:=by
    unfold WData.layableAll WData.layable at h
    simp only [List.all_cons,List.all_nil,Bool.and_true,Bool.and_eq_true,decide_eq_true_eq] at h
    exact h.2
  have key:∀ (ms:List Int),∀ n∈ms,Builtin.Int.intBits n≤WData.weightAll (ms.map WData.int):=by
    intro ms
    induction ms with
    | nil=>intro n hn; cases hn
    | cons m ms ih =>
      intro n hn
      rw [List.map_cons,WData.weightAll]
      rcases List.mem_cons.mp hn with rfl | hn
      · have e:WData.weight (.int n)=Builtin.Int.intBits n:=by simp [WData.weight,Builtin.Int.intBits]
        omega
      · have:=ih n hn
        omega
  intro n hn
  have q:=key ns n hn
  have e:WData.weight (.list (ns.map WData.int))=WData.weightAll (ns.map WData.int):=by simp [WData.weight]
  rw [e] at w
  exact Nat.le_trans q w
end L2
namespace L2
open PySem PySem.Spec PyProof.Rows
structure Frees (X:Cx) (N':List Str) (scope:Scope) (cl:List (Str×Addr)) (σ σ0:St):Prop where
  sub:∀ x c,cl.lookup x=some c→X.env.cells.lookup x=some c
  vals:∀ (j:Nat) (x:Str) (v:V),N'[j]?=some x→σ0[j]?=some (some v)→∃ (i:Nat) (c:Addr),X.N[i]?=some x∧σ[i]?=some (some v)∧Vis X.env.scope x∧X.env.kindOf x≠some .local∧cl.lookup x=some c ∧
    ((relabel scope X.env).names.lookup x=some .cell∨(relabel scope X.env).names.lookup x=some .free)
  has:∀ x,((relabel scope X.env).names.lookup x=some .cell∨(relabel scope X.env).names.lookup x=some .free)→∃ c,cl.lookup x=some c
  len:σ0.length=N'.length
section
variable {prog:Program} {w:World} {A:Around} {R:Result→Shared→Prop} {s:Shared}
theorem compLoop_gen {elt target iter:Expr} {ifs:List Expr} {scope:Scope} {pos:Pos} {it acc:Value} {env:Env} (I:Nat→Shared→Prop)
    (turn:∀ n s,I n s→wpAny (model prog w) A (pyNext it) (fun r s₁=>match r with
      | none=>R (.ok .next) s₁
      | some v=>wpAny (model prog w) A (letOwnedTupleGo target it v) (fun _ s₀=>wpAny (model prog w) A (assign target env v) (fun _ s₂ =>
          wpAny (model prog w) A (forIn ifs true fun c r=>if r=true then do let ok ← isTrue c env (eval c env); pure (ForInStep.yield ok) else pure (ForInStep.yield r)) (fun ok s₃ =>
            if ok=true then wpAny (model prog w) A (eval elt env) (fun x s₄ =>
              wpAny (model prog w) A (call (.builtin "list.append") [acc,x]) (fun _ s₅=>∃ m,m<n∧I m s₅) (fun _ _=>False) s₄) (fun _ _=>False) s₃
            else ∃ m,m<n∧I m s₃) (fun _ _=>False) s₂) (fun _ _=>False) s₀) (fun _ _=>False) s₁) (fun _ _=>False) s)
    (n:Nat) (h:I n s) :
    codeAny (model prog w) A (.compLoop (.ListComp elt [⟨target,iter,ifs,0⟩] scope pos) 0 it acc env) R s:=by
  refine codeAny_loop rfl I (fun n s hI=>?_) n h
  show wpAny _ A ((compTurn (.ListComp elt [⟨target,iter,ifs,0⟩] scope pos) 0 it acc env).onRaise (fun x=>do noteFrame x env; theTreesLotGoes x)) _ _ s
  refine wpAny_noted ?_
  rw [compTurn_list]
  refine wpAny_bind (wpAny_standAt (wpAny_bind (wpAny_mono (turn n s hI) (fun r s₁ h₁=>?_) fun _ _ h'=>h'.elim)))
  cases r with
  | none=>exact wpAny_pure h₁
  | some v =>
    refine wpAny_bind (wpAny_mono h₁ (fun _ s₀ h₀=>?_) fun _ _ h'=>h'.elim)
    refine wpAny_bind (wpAny_mono h₀ (fun _ s₂ h₂=>wpAny_bind (wpAny_mono h₂ (fun ok s₃ h₃=>?_) fun _ _ h'=>h'.elim)) fun _ _ h'=>h'.elim)
    cases ok with
    | false=>exact wpAny_pure ⟨rfl,h₃⟩
    | true =>
      exact wpAny_bind (wpAny_bind (wpAny_mono h₃ (fun x s₄ h₄=>wpAny_bind (wpAny_mono h₄ (fun _ s₅ h₅=>wpAny_pure (wpAny_pure ⟨rfl,h₅⟩)) fun _ _ h'=>h'.elim)) fun _ _ h'=>h'.elim))
end
def compW (J:It) (g:TG) (tt:TT) (te:TE) (σ0:St) (H1:Hp) (Q:VK):Prop:=∀ D,H1 D=none→∃ W:Nat→Nat→List V→Hp→Prop,(∃ m,W 0 m [] (upd H1 D (.lst []))) ∧
  ∀ i m ys H,W i m ys H→(J.stop i H∧H D=some (.lst ys)∧Q (.ref D) H) ∨
    (J.go i H∧∀ x H',J.yld i H x H'→g x σ0 H' fun σ2 H2=>tt σ2 H2 fun c H3 =>
      if c=true then te σ2 H3 fun v H4=>H4 D=some (.lst ys)∧ys.length<sizeLine∧∃ m',m'<m∧W (i+1) m' (ys++[v]) (upd H4 D (.lst (ys++[v])))
      else ∃ m',m'<m∧W (i+1) m' ys H3)
def Keepg (g:TG) (σ0:St):Prop:=∀ x H (Q:St→Hp→Prop),g x σ0 H Q→g x σ0 H fun σ2 H2=>Q σ2 H2∧σ2.length=σ0.length∧∀ (j:Nat) v,σ0[j]?=some (some v)→σ2[j]?=some (some v)
section
variable {X:Cx} {tg elt iter:Expr} {ifs:List Expr} {scope:Scope} {cl:List (Str×Addr)} {N':List Str} {σ0:St→St} {g:TG} {tt:TT} {te:TE}
def tComp (wi:TI) (g:TG) (tt:TT) (te:TE) (σ0:St→St):TE:=fun σ H Q=>wi σ H fun J H1=>compW J g tt te (σ0 σ) H1 Q
def tTrue:TT:=fun _ H Q=>Q true H
variable {pos:Pos} {wi:TI}
def tSetC (t:TE) (i:Nat):TS:=fun D σ H=>t σ H fun x H1=>D.nx (σ.set i (some x)) H1
end
end L2
namespace L2
open PySem PySem.Spec PyProof.Rows
section
variable {X:Cx} {iter elt c:Expr} {scope:Scope} {y z:Str} {py pos:Pos} {wi:TI} {te:TE} {tt:TT}
end
end L2
namespace L2
open PySem PySem.Spec PyProof.Rows
section
variable {X:Cx}
theorem Vals.insert {xs:List V} {us:List Value} {y:V} {u:Value} (k:Nat) (h:Vals xs us) (r:RelV y u):Vals (xs.take k++y::xs.drop k) (us.take k++u::us.drop k) :=
  Vals.append (h.take k) (.cons r (h.drop k))
def rInsert:V→List V→Hp→VK→Prop:=fun x vs H Q=>∃ l xs i y,x=.ref l∧vs=[.int i,y]∧H l=some (.lst xs)∧0≤i∧i≤xs.length∧xs.length<sizeLine∧Q .non (upd H l (.lst (xs.take i.toNat++y::xs.drop i.toNat)))
theorem mt_insert:MtM X "list.insert" rInsert:=by
  intro pins s σ H x vs v us Q I rx rv h
  obtain ⟨l,xs,i,y,rfl,rfl,hH,h0,h1,hz,q⟩:=h
  cases rx
  obtain ⟨u,w',rfl,⟨t,rfl⟩,ru⟩:=vals2 rv
  obtain ⟨z,its,n,r,hl,e⟩:=I.lstM hH
  have hn:=line63
  refine call_meets F.slot_list_insert ⟨_,e,rfl⟩ F.entry_list_insert (F.args_list_insert_3 _ _ _) (AutoListH.list_insert_list_int_val_1 l its.toArray n i t w' (by rw [fitsIndex_both (by omega) (by omega)]; exact Bool.false_ne_true) (by rw [List.size_toArray]; omega)) ⟨e,?_⟩
  refine ⟨.non,_,I.lset (its':=its.take i.toNat++w'::its.drop i.toNat) hH e ?_ (Vals.insert _ r ru) ?_,rfl,q⟩
  · have hk:(if i<0 then (i+((its.toArray.size:Nat):Int)).toNat else min i.toNat its.toArray.size)=i.toNat:=by
      rw [if_neg (by omega),List.size_toArray]
      omega
    dsimp only
    rw [hk]
    apply Array.ext'
    simp
    exact List.take_of_length_le (by simp)
  · rw [List.length_append,List.length_cons,List.length_take,List.length_drop]
    omega
def CallKR (X:Cx) (f:Value) (ks:List Str) (r:List V→List V→Hp→VK→Prop):Prop :=
  ∀ (pins:List (Addr×Obj)) (s:Shared) (σ:St) (H:Hp) (xs zs:List V) (us ws:List Value) (Q:VK),Inv X pins σ H s→Vals xs us→Vals zs ws→r xs zs H Q →
    wpAny (model X.prog X.w) X.A (call f us (ks.zip ws)) (EP X pins σ Q) X.xe s
def tCBK (r:List V→List V→Hp→VK→Prop) (t tk:TA):TE:=fun σ H Q=>t σ H fun vs H1=>tk σ H1 fun zs H2=>r vs zs H2 Q
theorem pe_callBK {x:Str} {id:String} {p pos:Pos} {e:Expr} {es:List Expr} {kws:List Keyword} {ks:List Str} {t tk:TA} {r:List V→List V→Hp→VK→Prop} (hc:CallKR X (.builtin id) ks r) (hg:Gl X x) (hm:X.mg x=none) (hv:bootBuiltins x=some (.builtin id)) (ha:PA X (e::es) t) (hk:PK X kws tk)
    (hks:(backToKw pos (keywordEach kws X.env)).filterMap (·.1)=ks:=by rfl) (hn:x ≠ "__name__" := by decide) (hdb:(x==("__debug__" : Str))=false:=by decide)
    (he:backTo pos (starEach (e::es) X.env)=(false,eval e X.env)::backTo pos (starEach es X.env):=by rfl) (hpl:(backTo pos (starEach (e::es) X.env)).any (·.1)=false:=by rfl)
    (hall:(backToKw pos (keywordEach kws X.env)).all (·.1.isSome)=true:=by rfl) (hkw:(backToKw pos (keywordEach kws X.env)).any (·.1.isNone)=false:=by rfl):PE X (.Call (.Name x p) (e::es) kws pos) (tCBK r t tk):=by
  intro pins s σ H Q I h
  refine wpAny_Call_Name_kw (ld_blt I hg hm hv ?_ hn hdb)
  refine PyProof.Rows.callWith_kw (thn (ha pos pins s σ H _ I h) fun us s1 ⟨vs,H1,I1,r1,q1⟩=>?_) he hpl hall hkw
  refine thn (hk pos pins s1 σ H1 _ I1 q1) fun ws s2 ⟨zs,H2,I2,r2,q2⟩=>?_
  rw [hks]
  exact hc pins s2 σ H2 vs zs us ws Q I2 r1 r2 q2
end
section
variable {prog:Program} {w:World} {A:Around} {R:Result→Shared→Prop} {I:Addr} {fp wr:List Addr} {n:Nat} {P:Nat→Value→Prop} {St:Nat→Heap→Prop} {kw:List (Str×Value)}
end
section
variable {prog:Program} {w:World} {A:Around} {E:Value→Shared→Prop} {s:Shared}
end
section
variable {X:Cx}
end
section
variable {X:Cx}
theorem pe_globI {x:Str} {i:Int} {pos:Pos} (hg:Gl X x) (hm:∃ t,X.mg x=some (.int i t)) (hd:(x==("__debug__" : Str))=false:=by decide):PE X (.Name x pos) (tC (.int i)):=by
  obtain ⟨t,e⟩:=hm
  exact pe_glob hg e ⟨t,rfl⟩ hd
end
theorem bt_len:bootBuiltins "len" = some (.builtin "len"):=by decide +kernel
theorem bt_min:bootBuiltins "min" = some (.builtin "min"):=by decide +kernel
theorem bt_sum:bootBuiltins "sum" = some (.builtin "sum"):=by decide +kernel
theorem bt_sorted:bootBuiltins "sorted" = some (.builtin "sorted"):=by decide +kernel
theorem bt_all:bootBuiltins "all" = some (.builtin "all"):=by decide +kernel
theorem bt_list:bootBuiltins "list" = some (.type "list"):=by decide +kernel
theorem bt_range:bootBuiltins "range" = some (.type "range"):=by decide +kernel
theorem bt_enumerate:bootBuiltins "enumerate" = some (.type "enumerate"):=by decide +kernel
theorem same_new {H:Hp} {a:Addr} {o:HO} (h:H a=none):Same H (upd H a o):=fun b u e=>by
  rw [upd_ne (ne_of_none e h)]
  exact e
theorem Paired.mono {α β:Type} {F G:α→β→Prop}:∀ {as:List α} {bs:List β},Paired F as bs→(∀ a b,a∈as→F a b→G a b)→Paired G as bs
  | _,_,.nil,_=>.nil
  | _,_,.cons r t,h=>.cons (h _ _ List.mem_cons_self r) (Paired.mono t fun a b m=>h a b (List.mem_cons_of_mem _ m))
theorem Paired.append {α β:Type} {F:α→β→Prop}:∀ {as cs:List α} {bs ds:List β},Paired F as bs→Paired F cs ds→Paired F (as++cs) (bs++ds)
  | _,_,_,_,.nil,s=>s
  | _,_,_,_,.cons r t,s=>.cons r (Paired.append t s)
theorem Paired.take {α β:Type} {F:α→β→Prop}:∀ (n:Nat) {as:List α} {bs:List β},Paired F as bs→Paired F (as.take n) (bs.take n)
  | 0,_,_,_=>.nil
  | _+1,_,_,.nil=>.nil
  | n+1,_,_,.cons r t=>.cons r (Paired.take n t)
theorem Paired.drop {α β:Type} {F:α→β→Prop}:∀ (n:Nat) {as:List α} {bs:List β},Paired F as bs→Paired F (as.drop n) (bs.drop n)
  | 0,_,_,h=>h
  | _+1,_,_,.nil=>.nil
  | n+1,_,_,.cons _ t=>Paired.drop n t
section
variable {X:Cx} {K:PySem.W.Frag}
theorem sl_listK (h:X.K=K):SlR X (rSlL K):=by subst h; exact sl_list
theorem op_in_seqK (h:X.K=K):OpR X (compareOp .In) (rIn K false):=by subst h; exact op_in_seq
theorem op_notIn_seqK (h:X.K=K):OpR X (compareOp .NotIn) (rIn K true):=by subst h; exact op_notIn_seq
theorem call_list_ofK (h:X.K=K):CallR X (.type "list") (fun xs H Q=>∃ p ys,xs=[.ref p]∧(SqL K H p ys∨SqT K H p ys)∧∀ l,H l=none→Q (.ref l) (upd H l (.lst ys))):=by subst h; exact call_list_of
theorem pt_truthK {a:Expr} {ta:TE} (h:X.K=K) (ha:PE X a ta) (he:∀ whole,isTrue a X.env whole=(do let v ← whole; standAt a.pos; holding [v] (truthy v))) :
    PT X a (fun σ H Q=>ta σ H fun x H'=>∃ k,TruV K x H' k∧Q k H'):=by subst h; exact pt_truth ha he
end
end L2
namespace L2
open PySem PySem.Spec PyProof.Rows
def Ite (K:PySem.W.Frag) (a:Addr):It :=
  ⟨fun i H=>∃ xs x,SqL K H a xs∧xs[i]?=some x,fun i H x H'=>∃ (t:Addr) (v:V),x=.ref t∧H t=none∧(∀ xs,SqL K H a xs→xs[i]?=some v)∧H'=upd H t (.tup [.int i,v]),fun i H=>∃ xs,SqL K H a xs∧xs.length≤i⟩
theorem turn_enum {P:Program} {w:World} {K:PySem.W.Frag} {elts:List Expr} {x1} {pos:Pos} (a e it:Addr) (hne:e≠it) :
    Turn P w K (.Tuple elts x1 pos) (Ite K a) [e,it] e (fun i h=>(∃ old,IsEnum h e it (i:Nat) old)∧h.IsListIter it a i) where
  mem:=by simp
  obj:=fun i h st b hb=>by
    obtain ⟨⟨old,he⟩,hit⟩:=st
    have hb':b=e∨b=it:=by simpa using hb
    rcases hb' with rfl | rfl
    · exact ⟨_,he,fun v z=>by
        have z':Data.fields _=Data.cell v:=z
        cases z'⟩
    · obtain ⟨o,ho,c,d⟩:=hit
      exact ⟨o,ho,fun v z=>by rw [d] at z; cases z⟩
  keep:=fun i h h' st k=>by
    obtain ⟨⟨old,he⟩,hit⟩:=st
    exact ⟨⟨old,k e (by simp) _ he⟩,hit.at fun o e=>k it (by simp) o e⟩
  item:=by
    intro X hP hw hK hc i pins s σ H E I hf st hg
    subst hP hw hK
    obtain ⟨⟨old,he⟩,hit⟩:=st
    obtain ⟨xs,x,hq,hx⟩:=hg
    obtain ⟨its,rv,p,hz⟩:=I.list hq
    obtain ⟨u,hu,ru⟩:=rv.get hx
    obtain ⟨f0,f1,f2,f3,f4,f5⟩:=hf e (by simp)
    obtain ⟨g0,g1,g2,g3,g4,g5⟩:=hf it (by simp)
    refine wpAny_pyNext_enum_item he hit p.isList (x:=u) (by simpa using hu) hne fun h₁ heo hit₁ ht₁ hz₁ hk₁=>⟨_,rfl,?_⟩
    refine wpAny_letOwnedTupleGo_enum heo fun h₂ he₂ hs₂=>?_
    replace hs₂:Heap.SameBut e h₁ h₂:=hs₂
    have hlt:e<s.heap.objs.size:=Heap.lt_size he
    have hilt:it<s.heap.objs.size:=by obtain ⟨o,ho,_⟩:=id hit; exact Heap.lt_size ho
    have k₂:∀ b o,b∉[e,it]→s.heap.get? b=some o→h₂.get? b=some o:=fun b o hb q=>by
      have b1:b≠e:=fun z=>hb (by simp [z])
      have b2:b≠it:=fun z=>hb (by simp [z])
      exact hs₂.extBut b o b1 (hk₁ b o b1 b2 q)
    have nit:∀ b u',H b=some u'→b∉[e,it]:=fun b u' q z=>by
      have z':b=e∨b=it:=by simpa using z
      rcases z' with rfl | rfl
      · rw [f0] at q; cases q
      · rw [g0] at q; cases q
    have I1:Inv X pins σ H { s with heap:=h₂,toks:=s.toks+1 }:=by
      refine I.step (g':=s.gens) (d':=s.drawn) (ch:=[e,it]) (fun b hb=>?_) (fun b o _ _ hc' q _=>k₂ b o hc' q) (fun b o _ _ hc' q _=>⟨o.slots,k₂ b o hc' q⟩) (fun _ _ _ _ n=>n)
        (fun b o hc' q=>⟨o,k₂ b o hc' q⟩) (fun _ _ q=>q) (fun _ _ _ q=>q) (fun b ps q=>⟨#[],by rw [q]; simp⟩) (fun m hm=>?_) (fun b u' q=>?_) I.bare
      · have z':b=e∨b=it:=by simpa using hb
        rcases z' with rfl | rfl
        · exact ⟨f3,f1,f4,f5⟩
        · exact ⟨g3,g1,g4,g5⟩
      · obtain ⟨o,es,ep,ho,r⟩:=hm
        exact ⟨o,es,ep,k₂ _ o (fun z=>by
          have z':X.env.locals=e∨X.env.locals=it:=by simpa using z
          rcases z' with z' | z'
          · exact f1 z'.symm
          · exact g1 z'.symm) ho,r⟩
      · refine (I.hok b u' q).stay (fun c v hc' q'=>k₂ c v ?_ q') (fun _ q'=>q') fun _ _ q'=>q'
        rcases hc' with z | z
        · rw [z]; exact nit b u' q
        · exact nit c _ z
    have nH:H s.heap.objs.size=none:=I.fresh
    have tup₂:h₂.get? s.heap.objs.size=some { cls:=.type "tuple", data:=.seq #[.int i s.toks,u] }:=hs₂.extBut _ _ (Nat.ne_of_gt hlt) ht₁
    have I2:Inv X pins σ (upd H s.heap.objs.size (.tup [.int i,x])) { s with heap:=h₂,toks:=s.toks+1 }:=by
      have ob:ObjOk X.prog X.w (upd H s.heap.objs.size (.tup [.int i,x])) h₂ s.heap.objs.size (.tup [.int i,x]) :=
        ⟨by simp only [List.length_cons,List.length_nil]; rw [sizeLine_eq]; decide,[.int i s.toks,u],.cons ⟨_,rfl⟩ (.cons ru .nil),⟨_,tup₂,rfl,_,rfl⟩⟩
      have hk:HOk X.prog X.w (upd H s.heap.objs.size (.tup [.int i,x])) h₂:=fun b u' q=>by
        by_cases hb:b=s.heap.objs.size
        · subst hb; rw [upd_same] at q; cases q; exact ob
        · rw [upd_ne hb] at q
          exact (I1.hok b u' q).stay (fun c v _ q'=>q') (fun c q'=>by rw [upd_ne (ne_of_none q' nH)]; exact q') fun c xs' q'=>by rw [upd_ne (ne_of_none q' nH)]; exact q'
      refine I.step (g':=s.gens) (d':=s.drawn) (ch:=[e,it]) (fun b hb=>?_) (fun b o _ _ hc' q _=>k₂ b o hc' q) (fun b o _ _ hc' q _=>⟨o.slots,k₂ b o hc' q⟩) (fun b o _ q n=>by rw [upd_ne (Nat.ne_of_lt (Heap.lt_size q))]; exact n)
        (fun b o hc' q=>⟨o,k₂ b o hc' q⟩) (fun b xs' q=>by rw [upd_ne (ne_of_none q nH)]; exact q) (fun b o u' q=>by rw [upd_ne (ne_of_none q nH)]; exact q) (fun b ps q=>⟨#[],by rw [upd_ne (ne_of_none q nH),q]; simp⟩) (fun m hm=>?_) hk I.bare
      · have z':b=e∨b=it:=by simpa using hb
        rcases z' with rfl | rfl
        · exact ⟨f3,f1,f4,f5⟩
        · exact ⟨g3,g1,g4,g5⟩
      · obtain ⟨o,es,ep,ho,r⟩:=hm
        exact ⟨o,es,ep,k₂ _ o (fun z=>by
          have z':X.env.locals=e∨X.env.locals=it:=by simpa using z
          rcases z' with z' | z'
          · exact f1 z'.symm
          · exact g1 z'.symm) ho,r⟩
    refine ⟨.ref s.heap.objs.size,_,I2,rfl,⟨_,x,rfl,nH,fun ys hy=>by rw [I.list_inj hy hq]; exact hx,rfl⟩,⟨⟨u,?_⟩,hit₁.extBut hs₂.extBut (Ne.symm hne)⟩,fun b hb=>?_⟩
    · have e1:((i+1:Nat):Int)=(i:Int)+1:=by push_cast; rfl
      rw [e1]
      exact he₂
    · have z':b=e∨b=it:=by simpa using hb
      rcases z' with rfl | rfl
      · rw [upd_ne (Nat.ne_of_lt hlt)]; exact f0
      · rw [upd_ne (Nat.ne_of_lt hilt)]; exact g0
  done:=by
    intro X hP hw hK hc i pins s σ H E I hf st hg
    subst hP hw hK
    obtain ⟨⟨old,he⟩,hit⟩:=st
    obtain ⟨xs,hq,hx⟩:=hg
    obtain ⟨its,rv,p,hz⟩:=I.list hq
    obtain ⟨g0,g1,g2,g3,g4,g5⟩:=hf it (by simp)
    have hl:=rv.length
    exact wpAny_pyNext_enum_end (I.ok.hd hc) he hit p.isList (by simp; omega) fun h' eb=>⟨rfl,I.turned (t':=s.toks) (fun b o hb e=>eb b o hb e) g0 g1 g3 g4 g5⟩
  self:=fun _ _ _ _ _ st h=>by
    obtain ⟨⟨old,he⟩,_⟩:=st
    exact wpAny_pyIter_enum he h
section
variable {X:Cx}
def iEnum (K:PySem.W.Frag) (tl:TE):TI:=fun σ H R=>tl σ H fun x H1=>∃ a,x=.ref a∧(∃ xs,SqL K H1 a xs)∧R (Ite K a) H1
theorem pi_enum {l:Expr} {tl:TE} {elts:List Expr} {x1} {tpos p pos:Pos} (hg:Gl X "enumerate") (hm:X.mg "enumerate" = none) (hl:PE X l tl) (hs:starEach [l] X.env=[(false,eval l X.env)]:=by rfl):PI X (.Tuple elts x1 tpos) (.Call (.Name "enumerate" p) [l] [] pos) (iEnum X.K tl):=by
  intro pins s σ H R I h
  have ha:PA X [l] (tCons tl tNil):=pa_cons hl pa_nil hs
  refine Call_ (ld_blt I hg hm bt_enumerate (PyProof.Rows.callWith_type1 (thn (ha pos pins s σ H (fun vs H1=>match vs with | [x]=>∃ a,x=.ref a∧(∃ xs,SqL X.K H1 a xs)∧R (Ite X.K a) H1 | _=>False) I h) fun us s1 ⟨vs,H1,I1,r1,q1⟩=>?_) hs rfl))
  · match vs,r1,q1 with
    | [x],r1,q1 =>
    obtain ⟨a,rfl,⟨xs,hq⟩,q⟩:=q1
    obtain ⟨u,rfl,ru⟩:=vals1 r1
    cases ru
    obtain ⟨its,rv,pl,hz⟩:=I1.list hq
    refine call_enumerate_list pl.isList fun h' he hit hz' hk=>?_
    refine wpAny_pyIter_enum he ?_
    have I2:Inv X pins σ H1 { s1 with heap:=h' }:=I1.kept (t':=s1.toks) hk
    refine ⟨s1.heap.objs.size+1,[s1.heap.objs.size+1,s1.heap.objs.size],_,_,H1,rfl,I2,turn_enum a _ _ (Nat.succ_ne_self _),⟨⟨_,he⟩,hit⟩,fun b hb=>?_,q⟩
    have z':b=s1.heap.objs.size+1∨b=s1.heap.objs.size:=by simpa using hb
    rcases z' with rfl | rfl
    · exact I1.fpOk (Nat.le_succ _) (I1.hok.fresh (Nat.le_succ _))
    · exact I1.fpOk (Nat.le_refl _) (I1.hok.fresh (Nat.le_refl _))
end
end L2
namespace L2
open PySem PySem.Spec PyProof.Rows
section
variable {prog:Program} {w:World} {A:Around} {E:Value→Shared→Prop}
theorem draw_list {it t:Addr} {items:Array Value} (hne:t≠it):∀ (n i:Nat) (s:Shared) (Q:List Value→Shared→Prop),s.heap.IsListIter it t i→s.heap.IsList t items→i+n≤items.size →
    (∀ h',h'.IsListIter it t (i+n)→Heap.SameBut it s.heap h'→Q ((items.toList.drop i).take n) { s with heap:=h' })→wpAny (model prog w) A (draw (.ref it) n) Q E s
  | 0,i,s,Q,hit,_,_,hQ=>by
    show wpAny _ _ (pure []) Q E s
    exact wpAny_pure (by simpa using hQ s.heap hit (Heap.SameBut.refl ..))
  | n+1,i,s,Q,hit,ht,hle,hQ=>by
    have hlt:i<items.size:=by omega
    show wpAny _ _ (pyNext (.ref it) >>= _) Q E s
    refine wpAny_bind (wpAny_pyNext_list_item hit ht (x:=items[i]) (by simp [hlt]) fun h₁ hit₁ hs₁=>?_)
    refine wpAny_bind (wpAny_holding (draw_list hne n (i+1) _ _ hit₁ (ht.extBut hs₁.extBut hne) (by omega) fun h₂ hit₂ hs₂=>wpAny_pure ?_))
    have hd:items.toList.drop i=items[i]::items.toList.drop (i+1):=by simp [List.drop_eq_getElem_cons,hlt]
    have:=hQ h₂ (by rw [show i+(n+1)=i+1+n by omega]; exact hit₂) (hs₁.trans hs₂)
    rw [hd,List.take_succ_cons] at this
    exact this
theorem unpackItems_list {s:Shared} {t:Addr} {items:Array Value} {Q:List Value→Shared→Prop} (hh:A.handled=none) (ht:s.heap.IsList t items)
    (hQ:∀ h',Heap.ExtBut s.heap.objs.size s.heap h'→Q items.toList { s with heap:=h' }):wpAny (model prog w) A (unpackItems (.ref t) items.size none) Q E s:=by
  have hlt:t≠s.heap.objs.size:=by obtain ⟨o,ho,_⟩:=ht; exact Nat.ne_of_lt (Heap.lt_size ho)
  unfold unpackItems
  refine wpAny_bind ?_
  · unfold notIterableAtAll
    refine wpAny_bind (wpAny_specialOf ht.typeIs F.slot_list_iter.lookup ?_)
    refine wpAny_pure ?_
    simp only [Bool.false_eq_true,if_false]
    refine wpAny_bind (wpAny_holding (wpAny_pyIter_list ht ?_))
    refine wpAny_bind (wpAny_holding (draw_list hlt items.size 0 _ _ ⟨_,Heap.get?_push_size _ rfl,rfl,rfl⟩ (ht.push _) (by omega) fun h₁ hit₁ hs₁=>?_))
    have hall:List.take items.size (List.drop 0 items.toList)=items.toList:=by
      rw [List.drop_zero]; exact List.take_of_length_le (by simp)
    rw [hall]
    rw [if_neg (by simp)]
    have ht₁:h₁.IsList t items:=(ht.push _).extBut hs₁.extBut hlt
    refine wpAny_bind (wpAny_holding (wpAny_pyNext_list_end hh hit₁ ht₁ (by simp) fun h₂ he₂=>?_))
    simp only [Option.isSome_none,Bool.false_eq_true,if_false]
    refine wpAny_pure (hQ h₂ fun b o hb e=>he₂ b o hb (hs₁.extBut b o hb (Heap.get?_push_of_some _ e)))
theorem assign_Tuple_list {s:Shared} {env:Env} {elts:List Expr} {x1} {pos:Pos} {t:Addr} {items:Array Value} {Q:Unit→Shared→Prop} (hh:A.handled=none) (ht:s.heap.IsList t items)
    (hn:(assignEach elts env).length=items.size) (hstar:(assignEach elts env).findIdx? (·.1)=none)
    (h:∀ h',Heap.ExtBut s.heap.objs.size s.heap h'→wpAny (model prog w) A (assignInOrder ((assignEach elts env).map (·.2)) items.toList) Q E { s with heap:=h' }) :
    wpAny (model prog w) A (assign (.Tuple elts x1 pos) env (.ref t)) Q E s:=by
  rw [arm_assign_Tuple]
  refine wpAny_bind (wpAny_standAt ?_)
  unfold unpack
  rw [hn,hstar]
  exact wpAny_bind (wpAny_holding (unpackItems_list hh ht h))
end
section
variable {X:Cx} {pos:Pos}
def gLst (K:PySem.W.Frag) (n:Nat) (t:TGs):TG:=fun v σ H Q=>∃ a xs,v=.ref a∧SqL K H a xs∧xs.length=n∧t xs σ H Q
theorem pg_lst {es:List Expr} {k:Nat} {t:TGs} {n:Nat} (hc:X.calm=true) (h:PGs X es t)
    (hn:(assignEach es X.env).length=n:=by rfl) (hst:(assignEach es X.env).findIdx? (·.1)=none:=by rfl):PG X (.Tuple es k pos) (gLst X.K n t):=by
  intro pins s σ H v u Q I r hw
  obtain ⟨a,xs,e1,hq,hl,hw⟩:=hw
  subst e1
  cases r
  obtain ⟨its,rv,ht,hz⟩:=I.list hq
  refine assign_Tuple_list (I.ok.hd hc) ht.isList (by simp [hn,← hl,rv.length]) hst fun h' hx=>?_
  have I1:Inv X pins σ H { s with heap:=h' }:=I.kept (t':=s.toks) fun b o e=>hx b o (Nat.ne_of_lt (Heap.lt_size e)) e
  exact h pins _ σ H xs _ Q I1 (by simpa using rv) hw
end
end L2
namespace L2
open PySem PySem.Spec PyProof.Rows
section
variable {κ:Type} [DecidableEq κ]
end
section
variable {P:Program} {w:World} {H:Hp} {h:Heap} {a:Addr}
end
section
variable {X:Cx} {pins:List (Addr×Obj)} {σ:St} {H:Hp} {s:Shared} {a:Addr} {y v:V} {u r:Value} {o:Option V} {A:Around} {E:Value→Shared→Prop}
end
section
variable {X:Cx} {pins:List (Addr×Obj)} {σ:St} {H:Hp} {s:Shared} {a:Addr} {kvs:List (Key×V)} {k:Key} {u:Value} {A:Around} {E:Value→Shared→Prop}
end
section
variable {X:Cx} {o i e value:Expr} {pos pos' tpos:Pos} {td ty tv:TE}
end
section
variable {X:Cx} {pos:Pos}
end
structure M1 (X:Cx) (o:Expr) (m:Str) (apos:Pos) (e:Expr) (cpos:Pos):Prop where
  base:attributeBase o m X.env (eval o X.env)=eval o X.env
  few:((backTo cpos (starEach [e] X.env)).all (fun x=>!x.1)&&(backToKw cpos (keywordEach [] X.env)).all (fun x=>x.1.isSome)
    && decide (([e]:List Expr).length+([]:List Keyword).length+(if ([]:List Keyword).isEmpty then 0 else 1)<30))=true
  line:(apos.endLine==cpos.line)=true
  trees:backTo cpos (starEach [e] X.env)=[(false,eval e X.env)]
structure M2 (X:Cx) (o:Expr) (m:Str) (apos:Pos) (e f:Expr) (cpos:Pos):Prop where
  base:attributeBase o m X.env (eval o X.env)=eval o X.env
  few:((backTo cpos (starEach [e,f] X.env)).all (fun x=>!x.1)&&(backToKw cpos (keywordEach [] X.env)).all (fun x=>x.1.isSome)
    && decide (([e,f]:List Expr).length+([]:List Keyword).length+(if ([]:List Keyword).isEmpty then 0 else 1)<30))=true
  line:(apos.endLine==cpos.line)=true
  trees:backTo cpos (starEach [e,f] X.env)=[(false,eval e X.env),(false,eval f X.env)]
section
variable {X:Cx} {pins:List (Addr×Obj)} {σ:St} {H:Hp} {s:Shared} {a:Addr} {y d:V} {u r:Value} {o:Option V} {A:Around} {E:Value→Shared→Prop}
end
section
variable {X:Cx} {o e f:Expr} {apos cpos:Pos} {td ty tx:TE}
end
section
variable {X:Cx} {pins:List (Addr×Obj)} {σ:St} {H:Hp} {s:Shared} {a:Addr} {kvs:List (Key×V)} {A:Around} {E:Value→Shared→Prop}
end
section
variable {X:Cx} {pins:List (Addr×Obj)} {σ:St} {H:Hp} {s:Shared} {a:Addr} {y:V} {u:Value} {A:Around} {E:Value→Shared→Prop}
end
end L2
namespace VL
open PySem L2
open Classical
inductive D where
  | non | bl (b:Bool) | int (i:Int) | str (x:Str) | ty (n:String)
  | lst (xs:List D) | tup (xs:List D) | ins (C:Addr) | scr (ns:List Int)
abbrev No:Addr→Prop:=fun _=>False
def KL (K:PySem.W.Frag) (a:Addr) (xs:List V):Prop :=
  ∃ (o:Obj) (its:Array Value) (n:Nat),K.lookup a=some o∧o.cls=.type "list" ∧ o.dict=none∧o.data=.seq its n∧its.size≤sizeLine∧Vals xs its.toList
mutual
inductive Is (K:PySem.W.Frag) (H:Hp) (Z:Addr→Prop):V→D→Prop
  | non:Is K H Z .non .non
  | bl (b:Bool):Is K H Z (.bl b) (.bl b)
  | int (i:Int):Is K H Z (.int i) (.int i)
  | str (x:Str):Is K H Z (.str x) (.str x)
  | ty (n:String):Is K H Z (.ty n) (.ty n)
  | lst {a:Addr} {vs:List V} {ds:List D} (hz:¬ Z a) (h:Rd H a (.lst vs)) (hl:vs.length≤sizeLine) (r:IsL K H Z vs ds):Is K H Z (.ref a) (.lst ds)
  | tup {a:Addr} {vs:List V} {ds:List D} (hz:¬ Z a) (h:H a=some (.tup vs)) (hl:vs.length≤sizeLine) (r:IsL K H Z vs ds):Is K H Z (.ref a) (.tup ds)
  | ins {a C dx:Addr} (hz:¬ Z a) (h:H a=some (.ins C dx [])):Is K H Z (.ref a) (.ins C)
  | scr {a:Addr} {ns:List Int} (hz:¬ Z a) (h:Rd H a (.lst (ns.map V.int))) (hl:ns.length≤sizeLine):Is K H Z (.ref a) (.scr ns)
  | scrK {a:Addr} {ns:List Int} (h:KL K a (ns.map V.int)) (hl:ns.length≤sizeLine):Is K H Z (.ref a) (.scr ns)
inductive IsL (K:PySem.W.Frag) (H:Hp) (Z:Addr→Prop):List V→List D→Prop
  | nil:IsL K H Z [] []
  | cons {v:V} {d:D} {vs:List V} {ds:List D} (h:Is K H Z v d) (r:IsL K H Z vs ds):IsL K H Z (v::vs) (d::ds)
end
def Kp (Z:Addr→Prop) (H:Hp) (Z':Addr→Prop) (H':Hp):Prop:=∀ a o,H a=some o→¬ Z a→H' a=some o∧¬ Z' a
theorem Kp.refl {Z:Addr→Prop} {H:Hp}:Kp Z H Z H:=fun _ _ h z=>⟨h,z⟩
theorem Kp.trans {Z Z1 Z2:Addr→Prop} {H H1 H2:Hp} (a:Kp Z H Z1 H1) (b:Kp Z1 H1 Z2 H2):Kp Z H Z2 H2:=fun c o h z=>b c o (a c o h z).1 (a c o h z).2
theorem Kp.same {Z:Addr→Prop} {H H':Hp} (s:Same H H'):Kp Z H Z H':=fun _ _ h z=>⟨s _ _ h,z⟩
theorem Kp.less {Z Z':Addr→Prop} {H:Hp} (h:∀ a,Z' a→Z a):Kp Z H Z' H:=fun a _ e z=>⟨e,fun q=>z (h a q)⟩
theorem Rd.kp {Z Z':Addr→Prop} {H H':Hp} {a:Addr} {u:HO} (k:Kp Z H Z' H') (hz:¬ Z a) (h:Rd H a u):Rd H' a u∧¬ Z' a:=by
  rcases h with h | ⟨o,h⟩
  · exact ⟨.inl (k _ _ h hz).1,(k _ _ h hz).2⟩
  · exact ⟨.inr ⟨o,(k _ _ h hz).1⟩,(k _ _ h hz).2⟩
mutual
theorem Is.kp {Z Z':Addr→Prop} {H H':Hp} (k:Kp Z H Z' H'):∀ {v:V} {d:D},Is K H Z v d→Is K H' Z' v d
  | _,_,.non=>.non
  | _,_,.bl b=>.bl b
  | _,_,.int b=>.int b
  | _,_,.str b=>.str b
  | _,_,.ty b=>.ty b
  | _,_,.lst hz h hl r=>.lst (Rd.kp k hz h).2 (Rd.kp k hz h).1 hl (IsL.kp k r)
  | _,_,.tup hz h hl r=>.tup (k _ _ h hz).2 (k _ _ h hz).1 hl (IsL.kp k r)
  | _,_,.ins hz h=>.ins (k _ _ h hz).2 (k _ _ h hz).1
  | _,_,.scr hz h hl=>.scr (Rd.kp k hz h).2 (Rd.kp k hz h).1 hl
  | _,_,.scrK h hl=>.scrK h hl
theorem IsL.kp {Z Z':Addr→Prop} {H H':Hp} (k:Kp Z H Z' H'):∀ {v:List V} {d:List D},IsL K H Z v d→IsL K H' Z' v d
  | _,_,.nil=>.nil
  | _,_,.cons h r=>.cons (Is.kp k h) (IsL.kp k r)
end
theorem Is.same {Z:Addr→Prop} {H H':Hp} {v:V} {d:D} (h:Is K H Z v d) (s:Same H H'):Is K H' Z v d:=h.kp (Kp.same s)
theorem IsL.same {Z:Addr→Prop} {H H':Hp} {v:List V} {d:List D} (h:IsL K H Z v d) (s:Same H H'):IsL K H' Z v d:=h.kp (Kp.same s)
theorem Is.all {Z:Addr→Prop} {H:Hp} {v:V} {d:D} (h:Is K H Z v d):Is K H No v d:=h.kp (Kp.less fun _ z=>z.elim)
theorem IsL.all {Z:Addr→Prop} {H:Hp} {v:List V} {d:List D} (h:IsL K H Z v d):IsL K H No v d:=h.kp (Kp.less fun _ z=>z.elim)
def D.scal:D→Bool
  | .lst _=>false
  | .tup _=>false
  | .ins _=>false
  | .scr _=>false
  | _=>true
theorem Is.scal {Z Z':Addr→Prop} {H H':Hp} {v:V} {d:D} (h:Is K H Z v d) (e:d.scal=true):Is K H' Z' v d:=by
  cases h with
  | non=>exact .non
  | bl b=>exact .bl b
  | int b=>exact .int b
  | str b=>exact .str b
  | ty b=>exact .ty b
  | lst _ _ _ _=>cases e
  | tup _ _ _ _=>cases e
  | ins _ _=>cases e
  | scr _ _ _=>cases e
  | scrK _ _=>cases e
section
variable {H:Hp} {Z:Addr→Prop}
theorem IsL.paired:∀ {vs:List V} {ds:List D},IsL K H Z vs ds→Paired (Is K H Z) vs ds
  | _,_,.nil=>.nil
  | _,_,.cons h r=>.cons h (IsL.paired r)
theorem IsL.of:∀ {vs:List V} {ds:List D},Paired (Is K H Z) vs ds→IsL K H Z vs ds
  | _,_,.nil=>.nil
  | _,_,.cons h r=>.cons h (IsL.of r)
theorem IsL.length {vs:List V} {ds:List D} (h:IsL K H Z vs ds):vs.length=ds.length:=Paired.length h.paired
theorem IsL.get:∀ {vs:List V} {ds:List D} {i:Nat} {d:D},IsL K H Z vs ds→ds[i]?=some d→∃ v,vs[i]?=some v∧Is K H Z v d
  | _,_,0,_,.cons h _,e=>by cases e; exact ⟨_,rfl,h⟩
  | _,_,i+1,_,.cons _ r,e=>by
    obtain ⟨v,e1,h1⟩:=IsL.get (i:=i) r (by simpa using e)
    exact ⟨v,by simpa using e1,h1⟩
theorem IsL.append {vs us:List V} {ds es:List D} (a:IsL K H Z vs ds) (b:IsL K H Z us es):IsL K H Z (vs++us) (ds++es):=.of (Paired.append a.paired b.paired)
theorem IsL.take (n:Nat) {vs:List V} {ds:List D} (a:IsL K H Z vs ds):IsL K H Z (vs.take n) (ds.take n):=.of (Paired.take n a.paired)
theorem IsL.drop (n:Nat) {vs:List V} {ds:List D} (a:IsL K H Z vs ds):IsL K H Z (vs.drop n) (ds.drop n):=.of (Paired.drop n a.paired)
theorem IsL.set {v:V} {d:D} (q:Is K H Z v d):∀ {vs:List V} {ds:List D} (n:Nat),IsL K H Z vs ds→IsL K H Z (vs.set n v) (ds.set n d)
  | _,_,_,.nil=>.nil
  | _,_,0,.cons _ r=>.cons q r
  | _,_,n+1,.cons h r=>.cons h (IsL.set q n r)
theorem IsL.one {v:V} {d:D} (q:Is K H Z v d):IsL K H Z [v] [d]:=.cons q .nil
theorem IsL.ints:∀ {vs:List V} {ns:List Int},IsL K H Z vs (ns.map D.int)→vs=ns.map V.int
  | _,[],.nil=>rfl
  | _,n::ns,.cons (.int _) r=>by rw [IsL.ints (ns:=ns) r]; rfl
theorem IsL.ofInts:∀ (ns:List Int),IsL K H Z (ns.map V.int) (ns.map D.int)
  | []=>.nil
  | n::ns=>.cons (.int n) (IsL.ofInts ns)
theorem IsL.rev:∀ {vs:List V} {ds:List D},IsL K H Z vs ds→IsL K H Z vs.reverse ds.reverse
  | _,_,.nil=>.nil
  | _,_,.cons h r=>by rw [List.reverse_cons,List.reverse_cons]; exact (IsL.rev r).append (.one h)
end
inductive Sl where
  | un | pu (d:D) | bo (d:D) | ol (ds:List D) | om (rows:List (List D))
abbrev Rho:=List Sl
abbrev Own:=Nat→List Addr
def tot (Z:Addr→Prop) (os:Own):Addr→Prop:=fun a=>Z a∨∃ i,a∈os i
def SlOk (K:PySem.W.Frag) (B H:Hp) (T:Addr→Prop) (o:List Addr):Sl→Option V→Prop
  | .un,_=>o=[]
  | .pu d,v=>o=[]∧∃ u,v=some u∧Is K H T u d
  | .bo d,v=>o=[]∧∃ u,v=some u∧Is K B No u d
  | .ol ds,v=>∃ a vs,o=[a]∧v=some (.ref a)∧H a=some (.lst vs)∧vs.length≤sizeLine∧IsL K H T vs ds
  | .om rows,v=>∃ a ps,o=a::ps∧v=some (.ref a)∧H a=some (.lst (ps.map V.ref))∧ps.length≤sizeLine∧Paired (fun p ds=>∃ vs,H p=some (.lst vs)∧vs.length≤sizeLine∧IsL K H T vs ds) ps rows
class Tabs where
  ts:List (Addr×Str)
def TabIn [Tabs] (H:Hp):Prop:=∀ p∈Tabs.ts,∃ t,H p.1=some (.tbl #[.str p.2 t])
theorem TabIn.same [Tabs] {H H':Hp} (h:TabIn H) (s:Same H H'):TabIn H':=fun p hp=>let ⟨t,e⟩:=h p hp; ⟨t,s _ _ e⟩
def ZT [Tabs] (Z:Addr→Prop) (H:Hp):Prop:=(∀ a,Z a→∃ o,H a=some o)∧TabIn H
structure Fr [Tabs] (K:PySem.W.Frag) (B:Hp) (Z:Addr→Prop) (os:Own) (ρ:Rho) (σ:St) (H:Hp):Prop where
  keep:Same B H
  zin:∀ a,Z a→∃ o,H a=some o
  len:σ.length=ρ.length
  nd:∀ i,(os i).Nodup
  dj:∀ i j a,a∈os i→a∈os j→i=j
  new:∀ i a,a∈os i→B a=none∧¬ Z a
  sl:∀ i,SlOk K B H (tot Z os) (os i) (ρ.getD i .un) ((σ[i]?).join)
  tab:TabIn B
variable [Tabs]
theorem Fr.tabH {B H:Hp} {Z:Addr→Prop} {os:Own} {ρ:Rho} {σ:St} (f:Fr K B Z os ρ σ H):TabIn H:=f.tab.same f.keep
theorem Paired.any {α β:Type} {F:α→β→Prop}:∀ {as:List α} {bs:List β} {a:α},Paired F as bs→a∈as→∃ b,F a b
  | _,_,_,.cons r t,h=>by
    rcases List.mem_cons.mp h with rfl | h
    · exact ⟨_,r⟩
    · exact Paired.any t h
theorem SlOk.dom {B H:Hp} {T:Addr→Prop} {o:List Addr} {s:Sl} {v:Option V} (h:SlOk K B H T o s v) {a:Addr} (ha:a∈o):∃ xs,H a=some (.lst xs):=by
  cases s with
  | un=>cases h; cases ha
  | pu d=>obtain ⟨rfl,_⟩:=h; cases ha
  | bo d=>obtain ⟨rfl,_⟩:=h; cases ha
  | ol ds =>
    obtain ⟨b,vs,rfl,_,e,_⟩:=h
    cases List.mem_singleton.mp ha
    exact ⟨_,e⟩
  | om rows =>
    obtain ⟨b,ps,rfl,_,e,_,r⟩:=h
    rcases List.mem_cons.mp ha with rfl | ha
    · exact ⟨_,e⟩
    · obtain ⟨_,vs,q,_⟩:=Paired.any r ha
      exact ⟨_,q⟩
theorem SlOk.kp {B B' H H':Hp} {T T':Addr→Prop} {o:List Addr} {s:Sl} {v:Option V} (h:SlOk K B H T o s v) (k:Kp T H T' H') (hb:Same B B') (ho:∀ a∈o,∀ u,H a=some u→H' a=some u):SlOk K B' H' T' o s v:=by
  cases s with
  | un=>exact h
  | pu d=>obtain ⟨e,u,e2,i⟩:=h; exact ⟨e,u,e2,i.kp k⟩
  | bo d=>obtain ⟨e,u,e2,i⟩:=h; exact ⟨e,u,e2,i.same hb⟩
  | ol ds=>obtain ⟨a,vs,rfl,e2,e3,hl,i⟩:=h; exact ⟨a,vs,rfl,e2,ho _ (List.mem_singleton.mpr rfl) _ e3,hl,i.kp k⟩
  | om rows =>
    obtain ⟨a,ps,rfl,e2,e3,hl,i⟩:=h
    exact ⟨a,ps,rfl,e2,ho _ List.mem_cons_self _ e3,hl,Paired.mono i fun p ds hp ⟨vs,q,hv,j⟩=>⟨vs,ho _ (List.mem_cons_of_mem _ hp) _ q,hv,j.kp k⟩⟩
section
variable {B H H':Hp} {Z:Addr→Prop} {os:Own} {ρ:Rho} {σ:St}
theorem Fr.grow (f:Fr K B Z os ρ σ H) (s:Same H H'):Fr K B Z os ρ σ H' where
  keep:=f.keep.trans s
  zin:=fun a z=>let ⟨o,e⟩:=f.zin a z; ⟨o,s _ _ e⟩
  len:=f.len
  nd:=f.nd
  dj:=f.dj
  new:=f.new
  sl:=fun i=>(f.sl i).kp (Kp.same s) (Same.refl _) fun a _ u e=>s _ _ e
  tab:=f.tab
theorem Fr.out (f:Fr K B Z os ρ σ H) {p:Addr} (hp:H p=none):¬ tot Z os p:=by
  rintro (z | ⟨i,z⟩)
  · obtain ⟨o,e⟩:=f.zin p z
    rw [hp] at e; cases e
  · obtain ⟨xs,e⟩:=(f.sl i).dom z
    rw [hp] at e; cases e
def putO (os:Own) (i:Nat) (o:List Addr):Own:=fun j=>if j=i then o else os j
theorem putO_same {os:Own} {i:Nat} {o:List Addr}:putO os i o i=o:=if_pos rfl
theorem putO_ne {os:Own} {i j:Nat} {o:List Addr} (h:j≠i):putO os i o j=os j:=if_neg h
theorem getD_set_same {α:Type} {l:List α} {i:Nat} {x d:α} (h:i<l.length):(l.set i x).getD i d=x:=by
  rw [List.getD_eq_getElem?_getD,List.getElem?_set_self h]; rfl
theorem getD_set_ne {α:Type} {l:List α} {i j:Nat} {x d:α} (h:j≠i):(l.set i x).getD j d=l.getD j d:=by
  rw [List.getD_eq_getElem?_getD,List.getElem?_set_ne (Ne.symm h),← List.getD_eq_getElem?_getD]
theorem Fr.step (f:Fr K B Z os ρ σ H) {i:Nat} (hi:i < ρ.length) {o:List Addr} {s:Sl} {v:Option V}
    (hk:∀ a u,H a=some u→a∉os i→H' a=some u) (hs:∀ a,a∈os i→∃ u,H' a=some u) (hn:o.Nodup) (ho:∀ a∈o,a∈os i∨H a=none) (ok:SlOk K B H' (tot Z (putO os i o)) o s v) :
    Fr K B Z (putO os i o) (ρ.set i s) (σ.set i v) H'∧Kp (tot Z os) H (tot Z (putO os i o)) H':=by
  have no:∀ a u,H a=some u→a∉os i→a∉o:=fun a u e n q=>by
    rcases ho a q with z | z
    · exact n z
    · rw [z] at e; cases e
  have kp:Kp (tot Z os) H (tot Z (putO os i o)) H':=fun a u e t=>by
    have ni:a∉os i:=fun q=>t (.inr ⟨i,q⟩)
    refine ⟨hk a u e ni,?_⟩
    rintro (z | ⟨j,z⟩)
    · exact t (.inl z)
    · by_cases hj:j=i
      · subst hj; rw [putO_same] at z; exact no a u e ni z
      · rw [putO_ne hj] at z; exact t (.inr ⟨j,z⟩)
  refine ⟨⟨fun a u e=>hk a u (f.keep a u e) fun q=>?_,fun a z=>?_,?_,fun j=>?_,fun j k a h1 h2=>?_,fun j a h=>?_,fun j=>?_,f.tab⟩,kp⟩
  · have:=(f.new i a q).1; rw [e] at this; cases this
  · obtain ⟨u,e⟩:=f.zin a z
    exact ⟨u,hk a u e fun q=>(f.new i a q).2 z⟩
  · rw [List.length_set,List.length_set]; exact f.len
  · by_cases hj:j=i
    · subst hj; rw [putO_same]; exact hn
    · rw [putO_ne hj]; exact f.nd j
  · have dom:∀ k,a∈os k→∃ u,H a=some u:=fun k z=>let ⟨xs,e⟩:=(f.sl k).dom z; ⟨_,e⟩
    by_cases hj:j=i
    · by_cases hk':k=i
      · rw [hj,hk']
      · subst hj
        rw [putO_same] at h1; rw [putO_ne hk'] at h2
        rcases ho a h1 with z | z
        · exact f.dj _ _ a z h2
        · obtain ⟨u,e⟩:=dom k h2; rw [z] at e; cases e
    · by_cases hk':k=i
      · subst hk'
        rw [putO_ne hj] at h1; rw [putO_same] at h2
        rcases ho a h2 with z | z
        · exact f.dj _ _ a h1 z
        · obtain ⟨u,e⟩:=dom j h1; rw [z] at e; cases e
      · rw [putO_ne hj] at h1; rw [putO_ne hk'] at h2
        exact f.dj _ _ a h1 h2
  · by_cases hj:j=i
    · subst hj
      rw [putO_same] at h
      rcases ho a h with z | z
      · exact f.new _ a z
      · exact ⟨Same.free f.keep z,fun q=>f.out z (.inl q)⟩
    · rw [putO_ne hj] at h; exact f.new j a h
  · by_cases hj:j=i
    · subst hj
      have hσ:j < σ.length:=by rw [f.len]; exact hi
      rw [putO_same,getD_set_same hi,List.getElem?_set_self hσ]
      exact ok
    · rw [putO_ne hj,getD_set_ne hj,List.getElem?_set_ne (Ne.symm hj)]
      exact (f.sl j).kp kp (Same.refl _) fun a ha u e=>hk a u e fun q=>hj (f.dj _ _ a ha q)
theorem Fr.put (f:Fr K B Z os ρ σ H) {i:Nat} (hi:i < ρ.length) {v:V} {d:D} (h:Is K H (tot Z os) v d) :
    Fr K B Z (putO os i []) (ρ.set i (.pu d)) (σ.set i (some v)) H∧Kp (tot Z os) H (tot Z (putO os i [])) H:=by
  refine f.step hi (fun a u e _=>e) (fun a ha=>let ⟨xs,e⟩:=(f.sl i).dom ha; ⟨_,e⟩) List.nodup_nil (fun a h=>by cases h) ⟨rfl,v,rfl,h.kp (Kp.less ?_)⟩
  rintro a (z | ⟨j,z⟩)
  · exact .inl z
  · by_cases hj:j=i
    · subst hj; rw [putO_same] at z; cases z
    · rw [putO_ne hj] at z; exact .inr ⟨j,z⟩
end
end VL
namespace VL
open PySem L2
open Classical
noncomputable section
abbrev DE:=Rho→Option D
section
variable [Tabs] {K:PySem.W.Frag}
def SemB (K:PySem.W.Frag) (t:TE) (e:DE):Prop:=∀ {B:Hp} {Z:Addr→Prop} {os:Own} {ρ:Rho} {σ:L2.St} {H:Hp} {Q:VK} {d:D},Fr K B Z os ρ σ H→e ρ=some d→(∀ v H',Same H H'→Is K H' No v d→Q v H')→t σ H Q
def SemI (K:PySem.W.Frag) (t:TE) (e:DE):Prop:=∀ {B:Hp} {Z:Addr→Prop} {os:Own} {ρ:Rho} {σ:L2.St} {H:Hp} {Q:VK} {d:D},Fr K B Z os ρ σ H→e ρ=some d→(∀ v H',Same H H'→Is K H' (tot Z os) v d→Q v H')→t σ H Q
def SemF (K:PySem.W.Frag) (t:TE) (e:Rho→Option (List D)):Prop:=∀ {B:Hp} {Z:Addr→Prop} {os:Own} {ρ:Rho} {σ:L2.St} {H:Hp} {Q:VK} {ds:List D},Fr K B Z os ρ σ H→e ρ=some ds →
  (∀ p vs H',Same H H'→H p=none→H' p=some (.lst vs)→vs.length≤sizeLine→IsL K H' (fun a=>a=p∨tot Z os a) vs ds→Q (.ref p) H')→t σ H Q
def SemT (K:PySem.W.Frag) (t:TT) (e:Rho→Option Bool):Prop:=∀ {B:Hp} {Z:Addr→Prop} {os:Own} {ρ:Rho} {σ:L2.St} {H:Hp} {Q:Bool→Hp→Prop} {b:Bool},Fr K B Z os ρ σ H→e ρ=some b→(∀ H',Same H H'→Q b H')→t σ H Q
inductive Args (K:PySem.W.Frag) (H:Hp) (T:Addr→Prop):List Bool→List V→List D→Prop
  | nil:Args K H T [] [] []
  | own {ms:List Bool} {v:V} {d:D} {vs:List V} {ds:List D}:Is K H T v d→Args K H T ms vs ds→Args K H T (true::ms) (v::vs) (d::ds)
  | any {ms:List Bool} {v:V} {d:D} {vs:List V} {ds:List D}:Is K H No v d→Args K H T ms vs ds→Args K H T (false::ms) (v::vs) (d::ds)
def SemA (K:PySem.W.Frag) (ms:List Bool) (t:TA) (e:Rho→Option (List D)):Prop:=∀ {B:Hp} {Z:Addr→Prop} {os:Own} {ρ:Rho} {σ:L2.St} {H:Hp} {Q:List V→Hp→Prop} {ds:List D},Fr K B Z os ρ σ H→e ρ=some ds→(∀ vs H',Same H H'→Args K H' (tot Z os) ms vs ds→Q vs H')→t σ H Q
theorem Args.len {H:Hp} {T:Addr→Prop} {ms:List Bool} {vs:List V} {ds:List D} (a:Args K H T ms vs ds):vs.length=ms.length∧ds.length=ms.length:=by
  induction a with
  | nil=>exact ⟨rfl,rfl⟩
  | own h _ ih=>simp [ih.1,ih.2]
  | any h _ ih=>simp [ih.1,ih.2]
theorem Args.lown {H:Hp} {T:Addr→Prop}:∀ {n:Nat} {vs:List V} {ds:List D},Args K H T (List.replicate n true) vs ds→IsL K H T vs ds
  | 0,_,_,.nil=>.nil
  | _+1,_,_,.own h r=>.cons h r.lown
theorem SemI.b {t:TE} {e:DE} (h:SemI K t e):SemB K t e:=fun f q k=>h f q fun v H' s i=>k v H' s i.all
theorem SemF.i {t:TE} {e:Rho→Option (List D)} (h:SemF K t e):SemI K t (fun ρ=>(e ρ).map D.lst):=fun {B Z os ρ σ H Q d} f q k=>by
  dsimp only at q
  cases q1:e ρ with
  | none=>rw [q1] at q; cases q
  | some ds =>
    rw [q1] at q
    cases q
    refine h f q1 fun p vs H' s hp hp' hl i=>k _ _ s (.lst (f.out hp) (.inl hp') hl (i.kp (Kp.less fun a z=>.inr z)))
def lof:D→Option (List D)
  | .lst ds=>some ds
  | .scr ns=>some (ns.map D.int)
  | _=>none
theorem Is.seq {H:Hp} {Z:Addr→Prop} {v:V} {d:D} {ds:List D} (h:Is K H Z v d) (e:lof d=some ds):∃ p vs,v=.ref p∧vs.length≤sizeLine∧vs.length=ds.length∧∀ H' Z',Kp Z H Z' H'→SqL K H' p vs∧IsL K H' Z' vs ds:=by
  cases h with
  | lst hz h hl r=>cases e; exact ⟨_,_,rfl,hl,r.length,fun H' Z' k=>⟨.inl (Rd.kp k hz h).1,r.kp k⟩⟩
  | scr hz h hl=>cases e; exact ⟨_,_,rfl,by rw [List.length_map]; exact hl,by simp,fun H' Z' k=>⟨.inl (Rd.kp k hz h).1,.ofInts _⟩⟩
  | scrK h hl=>cases e; exact ⟨_,_,rfl,by rw [List.length_map]; exact hl,by simp,fun H' Z' k=>⟨.inr h,.ofInts _⟩⟩
  | _=>cases e
noncomputable def gScal (e:DE):DE:=fun ρ=>match e ρ with
  | some d=>if d.scal=true then some d else none
  | none=>none
theorem SemB.i {t:TE} {e:DE} (h:SemB K t e):SemI K t (gScal e):=fun {B Z os ρ σ H Q d} f q k=>by
  unfold gScal at q
  cases q1:e ρ with
  | none=>rw [q1] at q; cases q
  | some d' =>
    rw [q1] at q
    have q':(if d'.scal=true then some d' else none)=some d:=q
    by_cases c:d'.scal=true
    · rw [if_pos c] at q'
      cases q'
      exact h f q1 fun v H' s i=>k v H' s (i.scal c)
    · rw [if_neg c] at q'; cases q'
noncomputable def dVar (i:Nat):DE:=fun ρ=>match ρ.getD i .un with
  | .pu d=>some d
  | .bo d=>some d
  | .ol ds=>some (.lst ds)
  | .om rows=>some (.lst (rows.map D.lst))
  | .un=>none
noncomputable def dVarI (i:Nat):DE:=fun ρ=>match ρ.getD i .un with
  | .pu d=>some d
  | _=>none
omit [Tabs] in
theorem join_some {α:Type} {o:Option (Option α)} {u:α} (h:o.join=some u):o=some (some u):=by
  cases o with
  | none=>cases h
  | some x=>rw [show x=some u from h]
theorem rows_is {H:Hp} {T:Addr→Prop}:∀ {ps:List Addr} {rows:List (List D)},Paired (fun p ds=>∃ vs,H p=some (.lst vs)∧vs.length≤sizeLine∧IsL K H T vs ds) ps rows→IsL K H No (ps.map V.ref) (rows.map D.lst)
  | _,_,.nil=>.nil
  | _,_,.cons ⟨vs,e,hl,i⟩ r=>.cons (.lst (fun z=>z) (.inl e) hl i.all) (rows_is r)
theorem sb_var (i:Nat):SemB K (tVar i) (dVar i):=fun {B Z os ρ σ H Q d} f q k=>by
  have s:=f.sl i
  unfold dVar at q
  cases e:ρ.getD i .un with
  | un=>rw [e] at q; cases q
  | pu d' =>
    rw [e] at q s
    cases q
    obtain ⟨_,u,hu,i⟩:=s
    exact ⟨u,join_some hu,k u H (Same.refl _) i.all⟩
  | bo d' =>
    rw [e] at q s
    cases q
    obtain ⟨_,u,hu,i⟩:=s
    exact ⟨u,join_some hu,k u H (Same.refl _) (i.same f.keep)⟩
  | ol ds =>
    rw [e] at q s
    cases q
    obtain ⟨a,vs,_,hu,hH,hl,i⟩:=s
    exact ⟨_,join_some hu,k _ H (Same.refl _) (.lst (fun z=>z) (.inl hH) hl i.all)⟩
  | om rows =>
    rw [e] at q s
    cases q
    obtain ⟨a,ps,_,hu,hH,hl,i⟩:=s
    exact ⟨_,join_some hu,k _ H (Same.refl _) (.lst (fun z=>z) (.inl hH) (by rw [List.length_map]; exact hl) (rows_is i))⟩
theorem si_var (i:Nat):SemI K (tVar i) (dVarI i):=fun {B Z os ρ σ H Q d} f q k=>by
  have s:=f.sl i
  unfold dVarI at q
  cases e:ρ.getD i .un with
  | pu d' =>
    rw [e] at q s
    cases q
    obtain ⟨_,u,hu,i⟩:=s
    exact ⟨u,join_some hu,k u H (Same.refl _) i⟩
  | _=>rw [e] at q; cases q
noncomputable def dC (d:D):DE:=fun _=>some d
theorem si_int {i:Int}:SemI K (tC (.int i)) (dC (.int i)):=fun f q k=>by cases q; exact k _ _ (Same.refl _) (.int i)
theorem si_bl {i:Bool}:SemI K (tC (.bl i)) (dC (.bl i)):=fun f q k=>by cases q; exact k _ _ (Same.refl _) (.bl i)
noncomputable def dII (f:Int→Int→Option D) (a b:DE):DE:=fun ρ=>match a ρ with
  | some (.int i)=>(match b ρ with
    | some (.int j)=>f i j
    | _=>none)
  | _=>none
theorem dII_some {f:Int→Int→Option D} {a b:DE} {ρ:Rho} {d:D} (h:dII f a b ρ=some d):∃ i j,a ρ=some (.int i)∧b ρ=some (.int j)∧f i j=some d:=by
  unfold dII at h
  split at h
  · rename_i i e1
    split at h
    · rename_i j e2
      exact ⟨i,j,e1,e2,h⟩
    · cases h
  · cases h
theorem Is.isInt {H:Hp} {Z:Addr→Prop} {v:V} {i:Int} (h:Is K H Z v (.int i)):v=.int i:=by cases h; rfl
theorem Is.isBl {H:Hp} {Z:Addr→Prop} {v:V} {i:Bool} (h:Is K H Z v (.bl i)):v=.bl i:=by cases h; rfl
variable {ta tb tc:TE} {a b c:DE}
theorem si_op0 {g:Int→Int→V} (gd:Int→Int→D) (hg:∀ i j H Z,Is K H Z (g i j) (gd i j)) (ha:SemB K ta a) (hb:SemB K tb b):SemI K (tOp (rI0 g) ta tb) (dII (fun i j=>some (gd i j)) a b):=fun {B Z os ρ σ H Q d} f q k=>by
  obtain ⟨i,j,e1,e2,e3⟩:=dII_some q
  cases e3
  refine ha f e1 fun v H1 s1 i1=>hb (f.grow s1) e2 fun u H2 s2 i2=>?_
  exact ⟨i,j,i1.isInt,i2.isInt,k _ _ (s1.trans s2) (hg i j _ _)⟩
noncomputable def gC (C:Int→Int→Prop) (g:Int→Int→D):Int→Int→Option D:=fun i j=>if C i j then some (g i j) else none
theorem gC_pos {C:Int→Int→Prop} {g:Int→Int→D} {i j:Int} (h:C i j):gC C g i j=some (g i j):=if_pos h
theorem si_opC {C:Int→Int→Prop} {g:Int→Int→V} (gd:Int→Int→D) (hg:∀ i j H Z,Is K H Z (g i j) (gd i j)) (ha:SemB K ta a) (hb:SemB K tb b):SemI K (tOp (rI C g) ta tb) (dII (gC C gd) a b):=fun {B Z os ρ σ H Q d} f q k=>by
  obtain ⟨i,j,e1,e2,e3⟩:=dII_some q
  unfold gC at e3
  by_cases c:C i j
  · rw [if_pos c] at e3
    cases e3
    refine ha f e1 fun v H1 s1 i1=>hb (f.grow s1) e2 fun u H2 s2 i2=>?_
    exact ⟨i,j,i1.isInt,i2.isInt,c,k _ _ (s1.trans s2) (hg i j _ _)⟩
  · rw [if_neg c] at e3; cases e3
noncomputable def dAdd:DE→DE→DE:=dII fun i j=>some (.int (i+j))
noncomputable def dSub:DE→DE→DE:=dII fun i j=>some (.int (i-j))
noncomputable def dMul:DE→DE→DE:=dII (gC IntMulOk fun i j=>.int (i*j))
noncomputable def dFdiv:DE→DE→DE:=dII (gC (fun _ j=>0<j∧j.natAbs.log2<9000) fun i j=>.int (i / j))
noncomputable def dMod:DE→DE→DE:=dII (gC (fun _ j=>0<j) fun i j=>.int (i % j))
noncomputable def dLt:DE→DE→DE:=dII fun i j=>some (.bl (decide (i<j)))
noncomputable def dGt:DE→DE→DE:=dII fun i j=>some (.bl (decide (j<i)))
noncomputable def dGe:DE→DE→DE:=dII fun i j=>some (.bl (decide (j≤i)))
theorem si_add (ha:SemB K ta a) (hb:SemB K tb b):SemI K (tOp (rI0 fun i j=>.int (i+j)) ta tb) (dAdd a b):=si_op0 (fun i j=>.int (i+j)) (fun _ _ _ _=>.int _) ha hb
theorem si_sub (ha:SemB K ta a) (hb:SemB K tb b):SemI K (tOp (rI0 fun i j=>.int (i-j)) ta tb) (dSub a b):=si_op0 (fun i j=>.int (i-j)) (fun _ _ _ _=>.int _) ha hb
theorem si_mul (ha:SemB K ta a) (hb:SemB K tb b):SemI K (tOp (rI IntMulOk fun i j=>.int (i*j)) ta tb) (dMul a b):=si_opC (fun i j=>.int (i*j)) (fun _ _ _ _=>.int _) ha hb
theorem si_fdiv (ha:SemB K ta a) (hb:SemB K tb b):SemI K (tOp (rI (fun _ j=>0<j∧j.natAbs.log2<9000) fun i j=>.int (i / j)) ta tb) (dFdiv a b):=si_opC (fun i j=>.int (i / j)) (fun _ _ _ _=>.int _) ha hb
theorem si_mod (ha:SemB K ta a) (hb:SemB K tb b):SemI K (tOp (rI (fun _ j=>0<j) fun i j=>.int (i % j)) ta tb) (dMod a b):=si_opC (fun i j=>.int (i % j)) (fun _ _ _ _=>.int _) ha hb
theorem si_lt (ha:SemB K ta a) (hb:SemB K tb b):SemI K (tOp (rI0 fun i j=>.bl (decide (i<j))) ta tb) (dLt a b):=si_op0 (fun i j=>.bl (decide (i<j))) (fun _ _ _ _=>.bl _) ha hb
theorem si_gt (ha:SemB K ta a) (hb:SemB K tb b):SemI K (tOp (rI0 fun i j=>.bl (decide (j<i))) ta tb) (dGt a b):=si_op0 (fun i j=>.bl (decide (j<i))) (fun _ _ _ _=>.bl _) ha hb
theorem si_ge (ha:SemB K ta a) (hb:SemB K tb b):SemI K (tOp (rI0 fun i j=>.bl (decide (j≤i))) ta tb) (dGe a b):=si_op0 (fun i j=>.bl (decide (j≤i))) (fun _ _ _ _=>.bl _) ha hb
noncomputable def dNeg (a:DE):DE:=fun ρ=>match a ρ with
  | some (.int i)=>some (.int (-i))
  | _=>none
theorem si_neg (ha:SemB K ta a):SemI K (tUn (rU fun i=>.int (-i)) ta) (dNeg a):=fun {B Z os ρ σ H Q d} f q k=>by
  unfold dNeg at q
  split at q
  · rename_i i e1
    cases q
    exact ha f e1 fun v H1 s1 i1=>⟨i,i1.isInt,k _ _ s1 (.int _)⟩
  · cases q
noncomputable def dChain (p q:Int→Int→Bool) (a b c:DE):DE:=fun ρ=>match a ρ with
  | some (.int i)=>(match b ρ with
    | some (.int j)=>if p i j=true then (match c ρ with
      | some (.int k)=>some (.bl (q j k))
      | _=>none) else some (.bl false)
    | _=>none)
  | _=>none
theorem si_chain {p q:Int→Int→Bool} (ha:SemB K ta a) (hb:SemB K tb b) (hc:SemB K tc c):SemI K (tChain (rI0 fun i j=>.bl (p i j)) (rI0 fun i j=>.bl (q i j)) ta tb tc) (dChain p q a b c):=fun {B Z os ρ σ H Q d} f e k=>by
  unfold dChain at e
  split at e
  · rename_i i e1
    split at e
    · rename_i j e2
      refine ha f e1 fun v H1 s1 i1=>hb (f.grow s1) e2 fun u H2 s2 i2=>⟨i,j,i1.isInt,i2.isInt,p i j,rfl,?_⟩
      by_cases hp:p i j=true
      · rw [if_pos hp] at e ⊢
        split at e
        · rename_i l e3
          cases e
          exact hc (f.grow (s1.trans s2)) e3 fun w H3 s3 i3=>⟨j,l,i2.isInt,i3.isInt,k _ _ ((s1.trans s2).trans s3) (.bl _)⟩
        · cases e
      · rw [if_neg hp] at e ⊢
        cases e
        exact k _ _ (s1.trans s2) (.bl _)
    · cases e
  · cases e
noncomputable def dT (a:DE):Rho→Option Bool:=fun ρ=>match a ρ with
  | some (.bl b)=>some b
  | _=>none
theorem st_test (ha:SemB K ta a):SemT K (tTest ta) (dT a):=fun {B Z os ρ σ H Q d} f q k=>by
  unfold dT at q
  split at q
  · rename_i b e
    cases q
    exact ha f e fun v H1 s1 i1=>⟨_,i1.isBl,k _ s1⟩
  · cases q
def truD:D→Option Bool
  | .non=>some false
  | .bl b=>some b
  | .int i=>some (i != 0)
  | .str y=>if y.length≤sizeLine then some ((y.length:Int) != 0) else none
  | .lst ds=>some (!ds.isEmpty)
  | .tup ds=>some (!ds.isEmpty)
  | .scr ns=>some (!ns.isEmpty)
  | _=>none
theorem isEmpty_is {H:Hp} {Z:Addr→Prop} {vs:List V} {ds:List D} (h:IsL K H Z vs ds):vs.isEmpty=ds.isEmpty:=by cases h <;> rfl
theorem tru_is {H:Hp} {Z:Addr→Prop} {v:V} {d:D} {b:Bool} (h:Is K H Z v d) (e:truD d=some b):TruV K v H b:=by
  cases h with
  | non=>cases e; rfl
  | bl b=>cases e; rfl
  | int i=>cases e; rfl
  | str x =>
    have e:(if x.length≤sizeLine then some ((x.length:Int) != 0) else none)=some b:=e
    by_cases c:x.length≤sizeLine
    · rw [if_pos c] at e; cases e; exact ⟨c,rfl⟩
    · rw [if_neg c] at e; cases e
  | ty n=>cases e
  | lst hz h hl r=>cases e; exact .inl ⟨_,.inl h,by rw [isEmpty_is r]⟩
  | tup hz h hl r=>cases e; exact .inr (.inl ⟨_,.inl (.inl h),by rw [isEmpty_is r]⟩)
  | ins _ _=>cases e
  | scr hz h hl=>cases e; exact .inl ⟨_,.inl h,by cases ‹List Int› <;> rfl⟩
  | scrK h hl=>cases e; exact .inl ⟨_,.inr h,by cases ‹List Int› <;> rfl⟩
noncomputable def dTru (a:DE):Rho→Option Bool:=fun ρ=>match a ρ with
  | some d=>truD d
  | none=>none
theorem st_tru (ha:SemB K ta a):SemT K (fun σ H Q=>ta σ H fun x H'=>∃ k,TruV K x H' k∧Q k H') (dTru a):=fun {B Z os ρ σ H Q b} f q k=>by
  unfold dTru at q
  split at q
  · rename_i d e
    exact ha f e fun v H1 s1 i1=>⟨b,tru_is i1 q,k _ s1⟩
  · cases q
variable {tA tB':TT} {x y:Rho→Option Bool}
noncomputable def dAnd (x y:Rho→Option Bool):Rho→Option Bool:=fun ρ=>match x ρ with
  | some true=>y ρ
  | some false=>some false
  | none=>none
noncomputable def dOr (x y:Rho→Option Bool):Rho→Option Bool:=fun ρ=>match x ρ with
  | some true=>some true
  | some false=>y ρ
  | none=>none
noncomputable def dNot (x:Rho→Option Bool):Rho→Option Bool:=fun ρ=>match x ρ with
  | some b=>some (!b)
  | none=>none
theorem st_and (ha:SemT K tA x) (hb:SemT K tB' y):SemT K (tAnd tA tB') (dAnd x y):=fun {B Z os ρ σ H Q b} f q k=>by
  unfold dAnd at q
  split at q
  · rename_i e
    exact ha f e fun H1 s1=>iteT (hb (f.grow s1) q fun H2 s2=>k _ (s1.trans s2))
  · rename_i e
    cases q
    exact ha f e fun H1 s1=>iteF (k _ s1)
  · cases q
theorem st_or (ha:SemT K tA x) (hb:SemT K tB' y):SemT K (tOr tA tB') (dOr x y):=fun {B Z os ρ σ H Q b} f q k=>by
  unfold dOr at q
  split at q
  · rename_i e
    cases q
    exact ha f e fun H1 s1=>iteT (k _ s1)
  · rename_i e
    exact ha f e fun H1 s1=>iteF (hb (f.grow s1) q fun H2 s2=>k _ (s1.trans s2))
  · cases q
theorem st_not (ha:SemT K tA x):SemT K (tNot tA) (dNot x):=fun {B Z os ρ σ H Q b} f q k=>by
  unfold dNot at q
  split at q
  · rename_i c e
    cases q
    exact ha f e fun H1 s1=>k _ s1
  · cases q
noncomputable def dTrue:Rho→Option Bool:=fun _=>some true
theorem st_true:SemT K tTrue dTrue:=fun f q k=>by cases q; exact k _ (Same.refl _)
noncomputable def dOrV (a b:DE):DE:=fun ρ=>match a ρ with
  | some (.bl true)=>some (.bl true)
  | some (.bl false)=>b ρ
  | _=>none
theorem si_orV (ha:SemB K ta a) (hb:SemI K tb b):SemI K (tOrV ta tb) (dOrV a b):=fun {B Z os ρ σ H Q d} f q k=>by
  unfold dOrV at q
  split at q
  · rename_i e
    cases q
    exact ha f e fun v H1 s1 i1=>⟨true,i1.isBl,iteT (k _ _ s1 (.bl _))⟩
  · rename_i e
    exact ha f e fun v H1 s1 i1=>⟨false,i1.isBl,iteF (hb (f.grow s1) q fun v H2 s2=>k _ _ (s1.trans s2))⟩
  · cases q
end
end
end VL
namespace L2
open PySem PySem.Spec PyProof.Rows
section
variable {X:Cx} {pins:List (Addr×Obj)} {σ:St} {H:Hp} {s:Shared} {l:Addr} {xs:List V}
theorem Inv.lstR (I:Inv X pins σ H s) (hH:Rd H l (.lst xs)):xs.length≤sizeLine∧∃ (its:List Value) (n:Nat),Vals xs its∧xs.length=its.length∧s.heap.get? l=some { cls:=.type "list", data:=.seq its.toArray n }:=by
  obtain ⟨z,its,n,r,e⟩:=hH.ok I.hok
  exact ⟨z,its,n,r,r.length,e⟩
def rExtR:V→List V→Hp→VK→Prop:=fun x vs H Q=>∃ l b xs zs,x=.ref l∧vs=[.ref b]∧H l=some (.lst xs)∧Rd H b (.lst zs)∧xs.length+zs.length≤sizeLine∧Q .non (upd H l (.lst (xs++zs)))
theorem mt_extR:MtM X "list.extend" rExtR:=by
  intro pins s σ H x vs v us Q I rx rv h
  obtain ⟨l,b,xs,zs,rfl,rfl,hH,hB,hz,q⟩:=h
  cases rx
  obtain ⟨u,rfl,ru⟩:=rv.one
  cases ru
  obtain ⟨z,its,n,r,hl,e⟩:=I.lstM hH
  obtain ⟨z2,its2,n2,r2,hl2,e2⟩:=I.lstR hB
  have hsz:its.toArray.size+its2.toArray.size≤sizeLine:=by rw [List.size_toArray,List.size_toArray]; omega
  have hlong:¬ (!its.toArray.isEmpty&&Builtin.List.listTooLong (its.toArray.size+its2.toArray.size))=true:=by
    rw [notLongL hsz,Bool.and_false]
    exact Bool.false_ne_true
  refine call_meets F.slot_list_extend ⟨_,e,rfl⟩ F.entry_list_extend (F.args_list_extend_2 _ _)
    (AutoSeq1.list_extend_list_list_0 l its.toArray n b its2.toArray n2 hlong (by rw [List.size_toArray]; omega) (by omega)) ⟨e,e2,?_⟩
  refine ⟨.non,_,I.lset (its':=its++its2) hH e (by simp) (r.append r2) ?_,rfl,q⟩
  rw [List.length_append]
  omega
theorem ix_seqK {K:PySem.W.Frag} (h:X.K=K):IxR X (rIx K):=by subst h; exact ix_seq
theorem call_lenK {K:PySem.W.Frag} (h:X.K=K):CallR X (.builtin "len") (fun xs H Q=>∃ x n,xs=[x]∧LenV K x H n∧Q (.int n) H):=by subst h; exact call_len
theorem call_sumK {K:PySem.W.Frag} (hc:X.calm=true) (h:X.K=K):CallR X (.builtin "sum") (fun xs H Q=>∃ (p:Addr) (ns:List Int),xs=[.ref p]∧SqL K H p (ns.map V.int)∧Q (.int ns.sum) H):=by subst h; exact call_sum hc
end
end L2
namespace VL
open PySem L2
open Classical
noncomputable section
section
variable [Tabs] {K:PySem.W.Frag} {ta tb tc:TE} {a b c:DE}
noncomputable def dCons (a:DE) (es:Rho→Option (List D)):Rho→Option (List D):=fun ρ=>match a ρ with
  | some d=>(match es ρ with
    | some ds=>some (d::ds)
    | none=>none)
  | none=>none
noncomputable def dNil:Rho→Option (List D):=fun _=>some []
theorem dCons_some {a:DE} {es:Rho→Option (List D)} {ρ:Rho} {ds:List D} (h:dCons a es ρ=some ds):∃ d r,a ρ=some d∧es ρ=some r∧ds=d::r:=by
  unfold dCons at h
  split at h
  · rename_i d e1
    split at h
    · rename_i r e2
      exact ⟨d,r,e1,e2,(Option.some.inj h).symm⟩
    · cases h
  · cases h
theorem sa_nil:SemA K [] tNil dNil:=fun f q k=>by cases q; exact k _ _ (Same.refl _) .nil
theorem sa_own {ms:List Bool} {tr:TA} {es:Rho→Option (List D)} (ha:SemI K ta a) (hr:SemA K ms tr es):SemA K (true::ms) (tCons ta tr) (dCons a es):=fun {B Z os ρ σ H Q ds} f q k=>by
  obtain ⟨d,r,e1,e2,rfl⟩:=dCons_some q
  exact ha f e1 fun v H1 s1 i1=>hr (f.grow s1) e2 fun vs H2 s2 i2=>k _ _ (s1.trans s2) (.own (i1.same s2) i2)
theorem sa_any {ms:List Bool} {tr:TA} {es:Rho→Option (List D)} (ha:SemB K ta a) (hr:SemA K ms tr es):SemA K (false::ms) (tCons ta tr) (dCons a es):=fun {B Z os ρ σ H Q ds} f q k=>by
  obtain ⟨d,r,e1,e2,rfl⟩:=dCons_some q
  exact ha f e1 fun v H1 s1 i1=>hr (f.grow s1) e2 fun vs H2 s2 i2=>k _ _ (s1.trans s2) (.any (i1.same s2) i2)
theorem kp_new {T:Addr→Prop} {H:Hp} {p:Addr} {o:HO} (hp:H p=none):Kp T H (fun a=>a=p∨T a) (upd H p o):=fun a u e z=>by
  have hne:a≠p:=ne_of_none e hp
  exact ⟨by rw [upd_ne hne]; exact e,fun q=>q.elim hne z⟩
theorem sf_lst {n:Nat} {t:TA} {es:Rho→Option (List D)} (h:SemA K (List.replicate n true) t es) (hn:n≤sizeLine):SemF K (tLst t) es:=fun {B Z os ρ σ H Q ds} f q k=>by
  refine h f q fun vs H1 s1 a=>?_
  have hl:vs.length≤sizeLine:=by have:=a.len.1; rw [List.length_replicate] at this; omega
  exact ⟨hl,fun p hp=>k p vs _ (s1.trans (same_new hp)) (Same.free s1 hp) upd_same hl (a.lown.kp (kp_new hp))⟩
noncomputable def dTup (es:Rho→Option (List D)):DE:=fun ρ=>(es ρ).map D.tup
theorem si_tup {n:Nat} {t:TA} {es:Rho→Option (List D)} (h:SemA K (List.replicate n true) t es) (hn:n≤sizeLine):SemI K (tTup t) (dTup es):=fun {B Z os ρ σ H Q d} f q k=>by
  unfold dTup at q
  cases q1:es ρ with
  | none=>rw [q1] at q; cases q
  | some ds =>
    rw [q1] at q
    cases q
    refine h f q1 fun vs H1 s1 a=>?_
    have hl:vs.length≤sizeLine:=by have:=a.len.1; rw [List.length_replicate] at this; omega
    exact ⟨hl,fun p hp=>k _ _ (s1.trans (same_new hp)) (.tup ((f.grow s1).out hp) upd_same hl ((a.lown.kp (kp_new hp)).kp (Kp.less fun a z=>.inr z)))⟩
noncomputable def dLst (es:Rho→Option (List D)):DE:=fun ρ=>(es ρ).map D.lst
theorem SemF.l {t:TE} {e:Rho→Option (List D)} (h:SemF K t e):SemI K t (dLst e):=h.i
def ixD:D→Int→Option D
  | .lst ds,i=>atI ds i
  | .tup ds,i=>atI ds i
  | .scr ns,i=>(atI ns i).map D.int
  | .str z,i=>if z.length≤sizeLine then (atI z.cps.toList i).map fun c=>.str ⟨#[c]⟩ else none
  | _,_=>none
theorem atI_is {H:Hp} {Z:Addr→Prop} {vs:List V} {ds:List D} {i:Int} {d:D} (r:IsL K H Z vs ds) (h:atI ds i=some d):∃ v,atI vs i=some v∧Is K H Z v d:=by
  unfold atI at h ⊢
  rw [r.length]
  cases e:ixN ds.length i with
  | none=>rw [e] at h; cases h
  | some j =>
    rw [e] at h
    obtain ⟨v,e1,i1⟩:=r.get (i:=j) (show ds[j]?=some d from h)
    exact ⟨v,e1,i1⟩
theorem atI_mapI {ns:List Int} {i:Int} {n:Int} (h:atI ns i=some n):atI (ns.map V.int) i=some (.int n):=by
  unfold atI at h ⊢
  rw [List.length_map]
  cases e:ixN ns.length i with
  | none=>rw [e] at h; cases h
  | some j =>
    rw [e] at h
    have h':ns[j]?=some n:=h
    show (ns.map V.int)[j]?=some (.int n)
    rw [List.getElem?_map,h']
    rfl
theorem ix_is {H:Hp} {Z:Addr→Prop} {v:V} {d e:D} {i:Int} {Q:VK} (h:Is K H Z v d) (q:ixD d i=some e) (k:∀ u,Is K H Z u e→Q u H):rIx K v (.int i) H Q:=by
  cases h with
  | lst hz h hl r =>
    obtain ⟨u,e1,i1⟩:=atI_is r (show atI _ i=some e from q)
    exact .inl ⟨_,_,i,u,rfl,rfl,.inl h,e1,k u i1⟩
  | tup hz h hl r =>
    obtain ⟨u,e1,i1⟩:=atI_is r (show atI _ i=some e from q)
    exact .inr (.inl ⟨_,_,i,u,rfl,rfl,.inl (.inl h),e1,k u i1⟩)
  | str z =>
    have q:(if z.length≤sizeLine then (atI z.cps.toList i).map fun c=>D.str ⟨#[c]⟩ else none)=some e:=q
    by_cases c:z.length≤sizeLine
    · rw [if_pos c] at q
      cases e2:atI z.cps.toList i with
      | none=>rw [e2] at q; cases q
      | some cp =>
        rw [e2] at q
        cases q
        exact .inr (.inr ⟨z,i,cp,rfl,rfl,c,e2,k _ (.str _)⟩)
    · rw [if_neg c] at q; cases q
  | @scr p ns hz h hl =>
    have q:(atI ns i).map D.int=some e:=q
    cases e2:atI ns i with
    | none=>rw [e2] at q; cases q
    | some n=>rw [e2] at q; cases q; exact .inl ⟨_,_,i,_,rfl,rfl,.inl h,atI_mapI e2,k _ (.int n)⟩
  | @scrK p ns h hl =>
    have q:(atI ns i).map D.int=some e:=q
    cases e2:atI ns i with
    | none=>rw [e2] at q; cases q
    | some n=>rw [e2] at q; cases q; exact .inl ⟨_,_,i,_,rfl,rfl,.inr h,atI_mapI e2,k _ (.int n)⟩
  | _=>cases q
noncomputable def dIx (a b:DE):DE:=fun ρ=>match a ρ with
  | some d=>(match b ρ with
    | some (.int i)=>ixD d i
    | _=>none)
  | none=>none
theorem dIx_some {ρ:Rho} {d:D} (h:dIx a b ρ=some d):∃ e i,a ρ=some e∧b ρ=some (.int i)∧ixD e i=some d:=by
  unfold dIx at h
  split at h
  · rename_i e e1
    split at h
    · rename_i i e2
      exact ⟨e,i,e1,e2,h⟩
    · cases h
  · cases h
theorem sb_ix (ha:SemB K ta a) (hb:SemB K tb b):SemB K (tOp (rIx K) ta tb) (dIx a b):=fun {B Z os ρ σ H Q d} f q k=>by
  obtain ⟨e,i,e1,e2,e3⟩:=dIx_some q
  refine ha f e1 fun v H1 s1 i1=>hb (f.grow s1) e2 fun u H2 s2 i2=>?_
  rw [i2.isInt]
  exact ix_is (i1.same s2) e3 fun w i3=>k _ _ (s1.trans s2) i3
theorem si_ix (ha:SemI K ta a) (hb:SemB K tb b):SemI K (tOp (rIx K) ta tb) (dIx a b):=fun {B Z os ρ σ H Q d} f q k=>by
  obtain ⟨e,i,e1,e2,e3⟩:=dIx_some q
  refine ha f e1 fun v H1 s1 i1=>hb (f.grow s1) e2 fun u H2 s2 i2=>?_
  rw [i2.isInt]
  exact ix_is (i1.same s2) e3 fun w i3=>k _ _ (s1.trans s2) i3
def D.v:D→V
  | .bl b=>.bl b
  | .int i=>.int i
  | .str x=>.str x
  | .ty n=>.ty n
  | _=>.non
theorem D.v_is {H:Hp} {Z:Addr→Prop} {d:D} (h:d.scal=true):Is K H Z d.v d:=by
  cases d with
  | non=>exact .non
  | bl b=>exact .bl b
  | int b=>exact .int b
  | str b=>exact .str b
  | ty b=>exact .ty b
  | _=>cases h
noncomputable def dF1 (g:D→Option D) (a:DE):DE:=fun ρ=>match a ρ with
  | some d=>g d
  | none=>none
theorem si_f1 {r:List V→Hp→VK→Prop} {g:D→Option D} (hg:∀ {H v d e} {Q:VK},Is K H No v d→g d=some e→e.scal=true∧(Q e.v H→r [v] H Q)) (ha:SemB K ta a):SemI K (tCB r (tCons ta tNil)) (dF1 g a):=fun {B Z os ρ σ H Q d} f q k=>by
  unfold dF1 at q
  split at q
  · rename_i e e1
    refine ha f e1 fun v H1 s1 i1=>?_
    obtain ⟨hs,hr⟩:=hg (Q:=Q) i1 q
    exact hr (k _ _ s1 (D.v_is hs))
  · cases q
def lenD:D→Option D
  | .lst ds=>some (.int ds.length)
  | .tup ds=>some (.int ds.length)
  | .scr ns=>some (.int ns.length)
  | .str y=>if y.length≤sizeLine then some (.int y.length) else none
  | _=>none
theorem len_is {H:Hp} {v:V} {d e:D} {Q:VK} (h:Is K H No v d) (q:lenD d=some e):e.scal=true∧(Q e.v H→∃ x n,[v]=[x]∧LenV K x H n∧Q (.int n) H):=by
  cases h with
  | lst hz h hl r=>cases q; exact ⟨rfl,fun k=>⟨_,_,rfl,.inl ⟨_,.inl h,rfl⟩,by rw [r.length]; exact k⟩⟩
  | tup hz h hl r=>cases q; exact ⟨rfl,fun k=>⟨_,_,rfl,.inr ⟨_,.inl (.inl h),rfl⟩,by rw [r.length]; exact k⟩⟩
  | str z =>
    have q:(if z.length≤sizeLine then some (D.int z.length) else none)=some e:=q
    by_cases c:z.length≤sizeLine
    · rw [if_pos c] at q; cases q; exact ⟨rfl,fun k=>⟨_,_,rfl,⟨c,rfl⟩,k⟩⟩
    · rw [if_neg c] at q; cases q
  | scr hz h hl=>cases q; exact ⟨rfl,fun k=>⟨_,_,rfl,.inl ⟨_,.inl h,rfl⟩,by rw [List.length_map]; exact k⟩⟩
  | scrK h hl=>cases q; exact ⟨rfl,fun k=>⟨_,_,rfl,.inl ⟨_,.inr h,rfl⟩,by rw [List.length_map]; exact k⟩⟩
  | _=>cases q
theorem si_len (ha:SemB K ta a):SemI K (tCB (fun xs H Q=>∃ x n,xs=[x]∧LenV K x H n∧Q (.int n) H) (tCons ta tNil)) (dF1 lenD a):=si_f1 (fun h q=>len_is h q) ha
def asInts:List D→Option (List Int)
  | []=>some []
  | .int i::r=>(asInts r).map (i::·)
  | _=>none
theorem asInts_map:∀ (ns:List Int),asInts (ns.map D.int)=some ns
  | []=>rfl
  | n::ns=>by show (asInts (ns.map D.int)).map (n::·)=_; rw [asInts_map ns]; rfl
theorem asInts_some:∀ {ds:List D} {ns:List Int},asInts ds=some ns→ds=ns.map D.int
  | [],ns,h=>by cases h; rfl
  | .int i::r,ns,h=>by
    have h:(asInts r).map (i::·)=some ns:=h
    cases e:asInts r with
    | none=>rw [e] at h; cases h
    | some ms=>rw [e] at h; cases h; rw [asInts_some e]; rfl
  | .non::_,_,h=>by cases h
  | .bl _::_,_,h=>by cases h
  | .str _::_,_,h=>by cases h
  | .ty _::_,_,h=>by cases h
  | .lst _::_,_,h=>by cases h
  | .tup _::_,_,h=>by cases h
  | .ins _::_,_,h=>by cases h
  | .scr _::_,_,h=>by cases h
def ofInts (g:List Int→Option D):D→Option D
  | .lst ds=>(asInts ds).bind g
  | _=>none
theorem ofInts_lst (g:List Int→Option D) (ns:List Int):ofInts g (.lst (ns.map D.int))=g ns:=by
  show (asInts (ns.map D.int)).bind g=g ns
  rw [asInts_map]; rfl
theorem ofInts_some {g:List Int→Option D} {d e:D} (h:ofInts g d=some e):∃ ns,d=.lst (ns.map D.int)∧g ns=some e:=by
  cases d with
  | lst ds =>
    have h:(asInts ds).bind g=some e:=h
    cases q:asInts ds with
    | none=>rw [q] at h; cases h
    | some ns=>rw [q] at h; exact ⟨ns,by rw [asInts_some q],h⟩
  | _=>cases h
theorem Is.ints {H:Hp} {Z:Addr→Prop} {v:V} {ns:List Int} (h:Is K H Z v (.lst (ns.map D.int))):∃ p,v=.ref p∧Rd H p (.lst (ns.map V.int)):=by
  generalize e:D.lst (ns.map D.int)=d at h
  cases h with
  | lst hz h hl r=>cases e; rw [← r.ints]; exact ⟨_,rfl,h⟩
  | _=>cases e
def sumD:D→Option D:=ofInts fun ns=>some (.int ns.sum)
theorem si_sum (ha:SemB K ta a):SemI K (tCB (fun xs H Q=>∃ (p:Addr) (ns:List Int),xs=[.ref p]∧SqL K H p (ns.map V.int)∧Q (.int ns.sum) H) (tCons ta tNil)) (dF1 sumD a):=by
  refine si_f1 (fun h q=>?_) ha
  obtain ⟨ns,rfl,e⟩:=ofInts_some q
  cases e
  obtain ⟨p,rfl,r⟩:=h.ints
  exact ⟨rfl,fun k=>⟨p,ns,rfl,.inl r,k⟩⟩
noncomputable def dMin2:DE→DE→DE:=dII fun i j=>some (.int (if j<i then j else i))
theorem si_min2 (ha:SemB K ta a) (hb:SemB K tb b):SemI K (tCB (fun xs H Q=>∃ i j,xs=[.int i,.int j]∧Q (.int (if j<i then j else i)) H) (tCons ta (tCons tb tNil))) (dMin2 a b):=fun {B Z os ρ σ H Q d} f q k=>by
  obtain ⟨i,j,e1,e2,e3⟩:=dII_some q
  cases e3
  refine ha f e1 fun v H1 s1 i1=>hb (f.grow s1) e2 fun u H2 s2 i2=>⟨i,j,by rw [i1.isInt,i2.isInt],k _ _ (s1.trans s2) (.int _)⟩
def cutL {α:Type} (xs:List α) (lo hi:Option Int):List α:=(xs.drop (HT.sIx xs.length 0 lo)).take (HT.sIx xs.length xs.length hi-HT.sIx xs.length 0 lo)
theorem cut_is {H:Hp} {Z:Addr→Prop} {vs:List V} {ds:List D} {lo hi:Option Int} (r:IsL K H Z vs ds):IsL K H Z (cutV vs lo hi) (cutL ds lo hi):=by
  unfold cutV cutL
  rw [r.length]
  exact (r.drop _).take _
def SemO (K:PySem.W.Frag) (t:TO) (e:Rho→Option (Option Int)):Prop:=∀ {B:Hp} {Z:Addr→Prop} {os:Own} {ρ:Rho} {σ:L2.St} {H:Hp} {Q:Option Int→Hp→Prop} {o:Option Int},Fr K B Z os ρ σ H→e ρ=some o→(∀ H',Same H H'→Q o H')→t σ H Q
noncomputable def oNone:Rho→Option (Option Int):=fun _=>some none
noncomputable def oSome (a:DE):Rho→Option (Option Int):=fun ρ=>match a ρ with
  | some (.int i)=>some (some i)
  | _=>none
theorem so_none:SemO K tNoPart oNone:=fun f q k=>by cases q; exact k _ (Same.refl _)
theorem so_some (ha:SemB K ta a):SemO K (tPart ta) (oSome a):=fun {B Z os ρ σ H Q o} f q k=>by
  unfold oSome at q
  split at q
  · rename_i i e
    cases q
    exact ha f e fun v H1 s1 i1=>⟨i,i1.isInt,k _ s1⟩
  · cases q
def asL (a:DE):Rho→Option (List D):=fun ρ=>match a ρ with
  | some d=>lof d
  | none=>none
theorem asL_some {a:DE} {ρ:Rho} {ds:List D} (h:asL a ρ=some ds):∃ d,a ρ=some d∧lof d=some ds:=by
  unfold asL at h
  split at h
  · exact ⟨_,by assumption,h⟩
  · cases h
noncomputable def dSl (a:DE) (lo hi:Rho→Option (Option Int)):Rho→Option (List D):=fun ρ=>match asL a ρ with
  | some ds=>(match lo ρ with
    | some l=>(match hi ρ with
      | some h=>some (cutL ds l h)
      | none=>none)
    | none=>none)
  | _=>none
theorem dSl_some {lo hi:Rho→Option (Option Int)} {ρ:Rho} {ds:List D} (h:dSl a lo hi ρ=some ds):∃ es l u,asL a ρ=some es∧lo ρ=some l∧hi ρ=some u∧ds=cutL es l u:=by
  unfold dSl at h
  split at h
  · rename_i es e1
    split at h
    · rename_i l e2
      split at h
      · rename_i u e3
        exact ⟨es,l,u,e1,e2,e3,(Option.some.inj h).symm⟩
      · cases h
    · cases h
  · cases h
theorem Is.isLst {H:Hp} {Z:Addr→Prop} {v:V} {ds:List D} (h:Is K H Z v (.lst ds)):∃ p vs,v=.ref p∧¬ Z p∧Rd H p (.lst vs)∧vs.length≤sizeLine∧IsL K H Z vs ds:=by
  cases h with
  | lst hz h hl r=>exact ⟨_,_,rfl,hz,h,hl,r⟩
theorem Is.isTup {H:Hp} {Z:Addr→Prop} {v:V} {ds:List D} (h:Is K H Z v (.tup ds)):∃ p vs,v=.ref p∧¬ Z p∧H p=some (.tup vs)∧vs.length≤sizeLine∧IsL K H Z vs ds:=by
  cases h with
  | tup hz h hl r=>exact ⟨_,_,rfl,hz,h,hl,r⟩
theorem sf_sl {tl th:TO} {lo hi:Rho→Option (Option Int)} (ha:SemI K ta a) (hl:SemO K tl lo) (hh:SemO K th hi):SemF K (tSl (rSlL K) ta tl th) (dSl a lo hi):=fun {B Z os ρ σ H Q ds} f q k=>by
  obtain ⟨es,l,u,e1,e2,e3,rfl⟩:=dSl_some q
  obtain ⟨d,e1,ed⟩:=asL_some e1
  refine ha f e1 fun v H1 s1 i1=>hl (f.grow s1) e2 fun H2 s2=>hh (f.grow (s1.trans s2)) e3 fun H3 s3=>?_
  obtain ⟨p,vs,rfl,hn,_,hr⟩:=i1.seq ed
  obtain ⟨hr,r⟩:=hr H3 _ (Kp.same (s2.trans s3))
  have s13:=(s1.trans s2).trans s3
  exact ⟨p,vs,rfl,hr,fun n hn'=>k n _ _ (s13.trans (same_new hn')) (Same.free s13 hn') upd_same (Nat.le_trans (cutV_length _ _ _) hn) ((cut_is r).kp (kp_new hn'))⟩
def flatL (ds:List D):Bool:=ds.all D.scal
theorem IsL.flat {H H':Hp} {Z Z':Addr→Prop}:∀ {vs:List V} {ds:List D},IsL K H Z vs ds→flatL ds=true→IsL K H' Z' vs ds
  | _,_,.nil,_=>.nil
  | _,_,.cons h r,e=>by
    have e:=(Bool.and_eq_true _ _).mp (show (D.scal _&&flatL _)=true from e)
    exact .cons (h.scal e.1) (r.flat e.2)
noncomputable def gFlat (e:Rho→Option (List D)):Rho→Option (List D):=fun ρ=>match e ρ with
  | some ds=>if flatL ds=true then some ds else none
  | none=>none
theorem gFlat_some {e:Rho→Option (List D)} {ρ:Rho} {ds:List D} (h:gFlat e ρ=some ds):e ρ=some ds∧flatL ds=true:=by
  unfold gFlat at h
  split at h
  · rename_i es e1
    by_cases c:flatL es=true
    · rw [if_pos c] at h; cases h; exact ⟨e1,c⟩
    · rw [if_neg c] at h; cases h
  · cases h
noncomputable def dLof (a:DE):Rho→Option (List D):=fun ρ=>match a ρ with
  | some (.tup ds)=>some ds
  | some d=>lof d
  | _=>none
theorem dLof_some {ρ:Rho} {ds:List D} (h:dLof a ρ=some ds):a ρ=some (.tup ds)∨∃ d,a ρ=some d∧lof d=some ds:=by
  unfold dLof at h
  split at h
  · rename_i es e; cases h; exact .inl e
  · rename_i d _ e; exact .inr ⟨d,e,h⟩
  · cases h
theorem sf_list (ha:SemI K ta a):SemF K (tCB (fun xs H Q=>∃ p ys,xs=[.ref p]∧(SqL K H p ys∨SqT K H p ys)∧∀ l,H l=none→Q (.ref l) (upd H l (.lst ys))) (tCons ta tNil)) (dLof a):=fun {B Z os ρ σ H Q ds} f q k=>by
  rcases dLof_some q with e1 | ⟨d,e1,ed⟩
  · refine ha f e1 fun v H1 s1 i1=>?_
    obtain ⟨p,vs,rfl,hz,hr,hn,r⟩:=i1.isTup
    exact ⟨p,vs,rfl,.inr (.inl (.inl hr)),fun n hn'=>k n _ _ (s1.trans (same_new hn')) (Same.free s1 hn') upd_same hn (r.kp (kp_new hn'))⟩
  · refine ha f e1 fun v H1 s1 i1=>?_
    obtain ⟨p,vs,rfl,hn,_,hr⟩:=i1.seq ed
    obtain ⟨hr,r⟩:=hr H1 _ Kp.refl
    exact ⟨p,vs,rfl,.inl hr,fun n hn'=>k n _ _ (s1.trans (same_new hn')) (Same.free s1 hn') upd_same hn (r.kp (kp_new hn'))⟩
theorem sf_listB (ha:SemB K ta a):SemF K (tCB (fun xs H Q=>∃ p ys,xs=[.ref p]∧(SqL K H p ys∨SqT K H p ys)∧∀ l,H l=none→Q (.ref l) (upd H l (.lst ys))) (tCons ta tNil)) (gFlat (dLof a)):=fun {B Z os ρ σ H Q ds} f q k=>by
  obtain ⟨q,hf⟩:=gFlat_some q
  rcases dLof_some q with e1 | ⟨d,e1,ed⟩
  · refine ha f e1 fun v H1 s1 i1=>?_
    obtain ⟨p,vs,rfl,hz,hr,hn,r⟩:=i1.isTup
    exact ⟨p,vs,rfl,.inr (.inl (.inl hr)),fun n hn'=>k n _ _ (s1.trans (same_new hn')) (Same.free s1 hn') upd_same hn (r.flat hf)⟩
  · refine ha f e1 fun v H1 s1 i1=>?_
    obtain ⟨p,vs,rfl,hn,_,hr⟩:=i1.seq ed
    obtain ⟨hr,r⟩:=hr H1 _ Kp.refl
    exact ⟨p,vs,rfl,.inl hr,fun n hn'=>k n _ _ (s1.trans (same_new hn')) (Same.free s1 hn') upd_same hn (r.flat hf)⟩
noncomputable def dRep (a:Rho→Option (List D)) (b:DE):Rho→Option (List D):=fun ρ=>match a ρ with
  | some ds=>(match b ρ with
    | some (.int n)=>if -(2 ^ 63)≤n∧n<2 ^ 63∧ds.length*n.toNat≤sizeLine then some (List.replicate n.toNat ds).flatten else none
    | _=>none)
  | none=>none
theorem IsL.rep {H:Hp} {Z:Addr→Prop} {vs:List V} {ds:List D} (r:IsL K H Z vs ds):∀ n,IsL K H Z (List.replicate n vs).flatten (List.replicate n ds).flatten
  | 0=>.nil
  | n+1=>by rw [List.replicate_succ,List.flatten_cons,List.replicate_succ,List.flatten_cons]; exact r.append (r.rep n)
theorem sf_rep {a:Rho→Option (List D)} (ha:SemF K ta a) (hb:SemB K tb b):SemF K (tOp rRep ta tb) (dRep a b):=fun {B Z os ρ σ H Q ds} f q k=>by
  unfold dRep at q
  split at q
  · rename_i es e1
    split at q
    · rename_i n e2
      by_cases c:-(2 ^ 63)≤n∧n<2 ^ 63∧es.length*n.toNat≤sizeLine
      · rw [if_pos c] at q
        cases q
        refine ha f e1 fun p vs H1 s1 hp hp' hl i1=>hb (f.grow s1) e2 fun u H2 s2 i2=>?_
        rw [i2.isInt]
        have i1':=(i1.same s2).kp (Kp.less (Z':=tot Z os) fun a z=>.inr z)
        have hlen:vs.length*n.toNat≤sizeLine:=by rw [i1.length]; exact c.2.2
        have s12:=s1.trans s2
        refine ⟨p,n,vs,rfl,rfl,s2 _ _ hp',c.1,c.2.1,hlen,fun x hx=>k x _ _ (s12.trans (same_new hx)) (Same.free s12 hx) upd_same ?_ ((i1'.rep _).kp (kp_new hx))⟩
        rw [len_rep,Nat.mul_comm]; exact hlen
      · rw [if_neg c] at q; cases q
    · cases q
  · cases q
def inS:D→List D→Option Bool
  | .int i,ds=>(asInts ds).map fun ns=>decide (i∈ns)
  | _,_=>none
theorem inV_ints' (k:Int) (hs:List Int):inV (.int k) (hs.map V.int)=decide (k∈hs):=by
  unfold inV
  rw [List.any_map,Bool.eq_iff_iff,List.any_eq_true,decide_eq_true_iff]
  constructor
  · rintro ⟨x,hx,e⟩
    have e':(x==k)=true:=e
    rw [← beq_iff_eq.mp e']
    exact hx
  · intro h
    exact ⟨k,h,show (k==k)=true from beq_self_eq_true k⟩
theorem flat_ints' (hs:List Int):(hs.map V.int).all flatV=true:=by
  rw [List.all_map,List.all_eq_true]
  intro x _
  rfl
noncomputable def dIn (neg:Bool) (a b:DE):DE:=fun ρ=>match a ρ with
  | some d=>(match b ρ with
    | some (.lst ds)=>(inS d ds).map fun c=>.bl (if neg then !c else c)
    | some (.tup ds)=>(inS d ds).map fun c=>.bl (if neg then !c else c)
    | _=>none)
  | none=>none
theorem inS_is {H:Hp} {Z:Addr→Prop} {v:V} {d:D} {vs:List V} {ds:List D} {c:Bool} (i:Is K H Z v d) (r:IsL K H Z vs ds) (h:inS d ds=some c):flatV v=true∧vs.all flatV=true∧inV v vs=c:=by
  cases i with
  | int i =>
    have h:(asInts ds).map (fun ns=>decide (i∈ns))=some c:=h
    cases e:asInts ds with
    | none=>rw [e] at h; cases h
    | some ns =>
      rw [e] at h
      cases h
      have e2:=asInts_some e
      subst e2
      rw [r.ints]
      exact ⟨rfl,flat_ints' ns,inV_ints' i ns⟩
  | _=>cases h
theorem si_in {neg:Bool} (ha:SemB K ta a) (hb:SemB K tb b):SemI K (tOp (rIn K neg) ta tb) (dIn neg a b):=fun {B Z os ρ σ H Q d} f q k=>by
  unfold dIn at q
  split at q
  · rename_i e e1
    split at q
    · rename_i ds e2
      cases q1:inS e ds with
      | none=>rw [q1] at q; cases q
      | some c =>
        rw [q1] at q
        cases q
        refine ha f e1 fun v H1 s1 i1=>hb (f.grow s1) e2 fun u H2 s2 i2=>?_
        obtain ⟨p,vs,rfl,hz,hr,hn,r⟩:=i2.isLst
        obtain ⟨h1,h2,h3⟩:=inS_is (i1.same s2) r q1
        exact ⟨p,vs,rfl,.inl (.inl hr),h1,h2,by rw [h3]; exact k _ _ (s1.trans s2) (.bl _)⟩
    · rename_i ds e2
      cases q1:inS e ds with
      | none=>rw [q1] at q; cases q
      | some c =>
        rw [q1] at q
        cases q
        refine ha f e1 fun v H1 s1 i1=>hb (f.grow s1) e2 fun u H2 s2 i2=>?_
        obtain ⟨p,vs,rfl,hz,hr,hn,r⟩:=i2.isTup
        obtain ⟨h1,h2,h3⟩:=inS_is (i1.same s2) r q1
        exact ⟨p,vs,rfl,.inr (.inl (.inl hr)),h1,h2,by rw [h3]; exact k _ _ (s1.trans s2) (.bl _)⟩
    · cases q
  · cases q
end
end
end VL
namespace VL
open PySem L2
open Classical
noncomputable section
instance:Inhabited D:=⟨.non⟩
theorem rd_lst {H:Hp} {a:Addr} {xs ys:List V} (h:Rd H a (.lst xs)) (h':Rd H a (.lst ys)):xs=ys:=by
  rcases h with h | ⟨o,h⟩ <;> rcases h' with h' | ⟨o',h'⟩ <;> rw [h] at h' <;> cases h' <;> rfl
def cmpb:Nat→D→D→Bool
  | _,.int _,.int _=>true
  | _,.bl _,.bl _=>true
  | _,.str _,.str _=>true
  | _,.non,.non=>true
  | n+1,.lst xs,.lst ys=>decide (xs.length≠ys.length) || (List.zip xs ys).all fun p=>cmpb n p.1 p.2
  | n+1,.tup xs,.tup ys=>decide (xs.length=ys.length)&&(List.zip xs ys).all fun p=>cmpb n p.1 p.2
  | _,_,_=>false
theorem zip_at {xs ys:List D} {j:Nat} {a b:D} {p:D×D→Bool} (h:(List.zip xs ys).all p=true) (e1:xs[j]?=some a) (e2:ys[j]?=some b):p (a,b)=true :=
  List.all_eq_true.mp h _ (List.mem_of_getElem? (i:=j) (List.getElem?_zip_eq_some.mpr ⟨e1,e2⟩))
inductive Cm:Nat→D→D→Prop
  | int {n:Nat} (a b:Int):Cm n (.int a) (.int b)
  | bl {n:Nat} (a b:Bool):Cm n (.bl a) (.bl b)
  | str {n:Nat} (a b:Str):Cm n (.str a) (.str b)
  | non {n:Nat}:Cm n .non .non
  | lst {n:Nat} {xs ys:List D} (h:xs.length=ys.length→(List.zip xs ys).all (fun p=>cmpb n p.1 p.2)=true):Cm (n+1) (.lst xs) (.lst ys)
  | tup {n:Nat} {xs ys:List D} (hl:xs.length=ys.length) (h:(List.zip xs ys).all (fun p=>cmpb n p.1 p.2)=true):Cm (n+1) (.tup xs) (.tup ys)
theorem cmpb_inv {n:Nat} {d e:D} (hc:cmpb n d e=true):Cm n d e:=by
  unfold cmpb at hc
  split at hc
  · exact .int _ _
  · exact .bl _ _
  · exact .str _ _
  · exact .non
  · exact .lst fun hl=>by simpa [hl] using hc
  · rw [Bool.and_eq_true] at hc; exact .tup (of_decide_eq_true hc.1) hc.2
  · cases hc
theorem Is.v_int {H:Hp} {Z:Addr→Prop} {v:V} {a:Int} (i:Is K H Z v (.int a)):v=.int a:=by cases i; rfl
theorem Is.v_bl {H:Hp} {Z:Addr→Prop} {v:V} {a:Bool} (i:Is K H Z v (.bl a)):v=.bl a:=by cases i; rfl
theorem Is.v_str {H:Hp} {Z:Addr→Prop} {v:V} {a:Str} (i:Is K H Z v (.str a)):v=.str a:=by cases i; rfl
theorem Is.v_non {H:Hp} {Z:Addr→Prop} {v:V} (i:Is K H Z v .non):v=.non:=by cases i; rfl
theorem Is.v_lst {H:Hp} {Z:Addr→Prop} {v:V} {ds:List D} (i:Is K H Z v (.lst ds)):∃ a vs,v=.ref a∧¬ Z a∧Rd H a (.lst vs)∧vs.length≤sizeLine∧IsL K H Z vs ds:=by
  cases i with | lst hz h hl r=>exact ⟨_,_,rfl,hz,h,hl,r⟩
theorem Is.v_tup {H:Hp} {Z:Addr→Prop} {v:V} {ds:List D} (i:Is K H Z v (.tup ds)):∃ a vs,v=.ref a∧¬ Z a∧H a=some (.tup vs)∧vs.length≤sizeLine∧IsL K H Z vs ds:=by
  cases i with | tup hz h hl r=>exact ⟨_,_,rfl,hz,h,hl,r⟩
theorem Is.inj {H:Hp} {Z Z':Addr→Prop}:∀ (n:Nat) {v:V} {d e:D},cmpb n d e=true→Is K H Z v d→Is K H Z' v e→d=e:=by
  intro n
  induction n using Nat.strongRecOn with | ind n ih=>?_
  have lists:∀ {m:Nat},m<n→∀ {vs:List V} {ds es:List D},(List.zip ds es).all (fun p=>cmpb m p.1 p.2)=true→IsL K H Z vs ds→IsL K H Z' vs es→ds=es:=by
    intro m hm vs ds es hc r r'
    have l1:=r.length
    have l2:=r'.length
    refine List.ext_getElem (by omega) fun k h1 h2=>?_
    obtain ⟨v,e1,i1⟩:=r.get (List.getElem?_eq_getElem h1)
    obtain ⟨v',e2,i2⟩:=r'.get (List.getElem?_eq_getElem h2)
    rw [e1] at e2
    cases e2
    exact ih m hm (zip_at hc (List.getElem?_eq_getElem h1) (List.getElem?_eq_getElem h2)) i1 i2
  intro v d e hc i j
  cases cmpb_inv hc with
  | int=>have h:=i.v_int; rw [j.v_int] at h; cases h; rfl
  | bl=>have h:=i.v_bl; rw [j.v_bl] at h; cases h; rfl
  | str=>have h:=i.v_str; rw [j.v_str] at h; cases h; rfl
  | non=>rfl
  | lst h =>
    obtain ⟨p,xs,rfl,z1,h1,l1,g1⟩:=i.v_lst
    obtain ⟨q,ys,e,z2,h2,l2,g2⟩:=j.v_lst
    cases e
    have e:=rd_lst h1 h2
    subst e
    rw [lists (Nat.lt_succ_self _) (h (by have:=g1.length; have:=g2.length; omega)) g1 g2]
  | tup hl h =>
    obtain ⟨p,xs,rfl,z1,h1,l1,g1⟩:=i.v_tup
    obtain ⟨q,ys,e,z2,h2,l2,g2⟩:=j.v_tup
    cases e
    rw [h1] at h2
    cases h2
    rw [lists (Nat.lt_succ_self _) h g1 g2]
section
variable {X:Cx} {pins:List (Addr×Obj)} {σ:L2.St} {H:Hp} {s:Shared}
theorem dec_lst (xs ys:List D):decide (D.lst xs=D.lst ys)=decide (xs=ys):=by
  rw [Bool.eq_iff_iff,decide_eq_true_iff,decide_eq_true_iff]
  exact ⟨fun h=>D.lst.inj h,fun h=>by rw [h]⟩
theorem dec_tup (xs ys:List D):decide (D.tup xs=D.tup ys)=decide (xs=ys):=by
  rw [Bool.eq_iff_iff,decide_eq_true_iff,decide_eq_true_iff]
  exact ⟨fun h=>D.tup.inj h,fun h=>by rw [h]⟩
theorem dec_int (a b:Int):decide (D.int a=D.int b)=(a==b):=by
  rw [Bool.eq_iff_iff,decide_eq_true_iff,beq_iff_eq]
  exact ⟨fun h=>D.int.inj h,fun h=>by rw [h]⟩
theorem dec_bl (a b:Bool):decide (D.bl a=D.bl b)=(a==b):=by
  rw [Bool.eq_iff_iff,decide_eq_true_iff,beq_iff_eq]
  exact ⟨fun h=>D.bl.inj h,fun h=>by rw [h]⟩
theorem dec_str (a b:Str):decide (D.str a=D.str b)=(a==b):=by
  rw [Bool.eq_iff_iff,decide_eq_true_iff,beq_iff_eq]
  exact ⟨fun h=>D.str.inj h,fun h=>by rw [h]⟩
theorem rc_tups {A:Around} {l b:Addr} {us ws:List Value} {ns ms:List D} (p1:s.heap.IsTuple l us.toArray) (p2:s.heap.IsTuple b ws.toArray) (hl:us.length=ns.length) (hl2:ws.length=ms.length) (hs:ns.length=ms.length) (hu:A.units<cLine)
    (h:∀ (j:Nat) (u v:Value) (a b:D),us[j]?=some u→ws[j]?=some v→ns[j]?=some a→ms[j]?=some b→SeqAt.EqAt A.in1 s u v (decide (a=b))) :
    SeqAt.RcAt A s (.ref l) (.ref b) (decide (ns=ms)):=by
  have q:=SeqAt.RcAt.tuples (e:=fun j=>decide (ns.getD j default=ms.getD j default)) p1 p2 hu (eqAt_items hl hl2 h)
  have e:((List.range (min us.toArray.size ws.toArray.size)).all fun j=>decide (ns.getD j default=ms.getD j default))=decide (ns=ms):=by
    rw [List.size_toArray,List.size_toArray,hl,hl2,← hs,Nat.min_self]; exact range_all_eq default hs
  have e2:(us.toArray.size==ws.toArray.size)=true:=by simp; omega
  rw [e,e2,Bool.and_true] at q
  exact q
theorem rcNe_tups {A:Around} {l b:Addr} {us ws:List Value} {ns ms:List D} (p1:s.heap.IsTuple l us.toArray) (p2:s.heap.IsTuple b ws.toArray) (hl:us.length=ns.length) (hl2:ws.length=ms.length) (hs:ns.length=ms.length) (hu:A.units<cLine)
    (h:∀ (j:Nat) (u v:Value) (a b:D),us[j]?=some u→ws[j]?=some v→ns[j]?=some a→ms[j]?=some b→SeqAt.EqAt A.in1 s u v (decide (a=b))) :
    SeqAt.RcNeAt A s (.ref l) (.ref b) (!decide (ns=ms)):=by
  have q:=SeqAt.RcNeAt.tuples (e:=fun j=>decide (ns.getD j default=ms.getD j default)) p1 p2 hu (eqAt_items hl hl2 h)
  have e:((List.range (min us.toArray.size ws.toArray.size)).all fun j=>decide (ns.getD j default=ms.getD j default))=decide (ns=ms):=by
    rw [List.size_toArray,List.size_toArray,hl,hl2,← hs,Nat.min_self]; exact range_all_eq default hs
  have e2:(us.toArray.size==ws.toArray.size)=true:=by simp; omega
  rw [e,e2,Bool.and_true] at q
  exact q
theorem in1_units {A:Around}:A.in1.units=A.units+1:=rfl
theorem items_is {n:Nat} {A:Around} {xs ys:List V} {us ws:List Value} {ds es:List D} (hc:(List.zip ds es).all (fun p=>cmpb n p.1 p.2)=true) (r1:Vals xs us) (r2:Vals ys ws) (g1:IsL K H No xs ds) (g2:IsL K H No ys es)
    (ih:∀ {v w:V} {d e:D} {u x:Value},RelV v u→RelV w x→Is K H No v d→Is K H No w e→cmpb n d e=true→SeqAt.EqAt A s u x (decide (d=e))) :
    ∀ (j:Nat) (u v:Value) (a b:D),us[j]?=some u→ws[j]?=some v→ds[j]?=some a→es[j]?=some b→SeqAt.EqAt A s u v (decide (a=b)):=by
  intro j u v a b e1 e2 e3 e4
  obtain ⟨x,f1,i1⟩:=g1.get e3
  obtain ⟨y,f2,i2⟩:=g2.get e4
  obtain ⟨u',q1,k1⟩:=r1.get f1
  obtain ⟨v',q2,k2⟩:=r2.get f2
  rw [e1] at q1; cases q1
  rw [e2] at q2; cases q2
  exact ih k1 k2 i1 i2 (zip_at hc e3 e4)
theorem eqAt_is (I:Inv X pins σ H s):∀ (n:Nat) {A:Around},A.units+n<cLine→∀ {v w:V} {d e:D} {u x:Value},RelV v u→RelV w x→Is K H No v d→Is K H No w e→cmpb n d e=true→SeqAt.EqAt A s u x (decide (d=e)):=by
  intro n
  induction n using Nat.strongRecOn with | ind n ih=>?_
  intro A hu v w d e u x r1 r2 i1 i2 hc
  have hc0:=hc
  cases cmpb_inv hc with
  | int a b=>rw [i1.v_int] at r1; rw [i2.v_int] at r2; obtain ⟨t,rfl⟩:=r1; obtain ⟨t',rfl⟩:=r2; rw [dec_int]; exact SeqAt.EqAt.int_int a t b t'
  | bl a b=>rw [i1.v_bl] at r1; rw [i2.v_bl] at r2; cases r1; cases r2; rw [dec_bl]; exact SeqAt.EqAt.bool_bool a b
  | str a b=>rw [i1.v_str] at r1; rw [i2.v_str] at r2; obtain ⟨t,rfl⟩:=r1; obtain ⟨t',rfl⟩:=r2; rw [dec_str]; exact SeqAt.EqAt.str_str a t b t'
  | non=>rw [i1.v_non] at r1; rw [i2.v_non] at r2; cases r1; cases r2; rw [decide_eq_true rfl]; exact SeqAt.EqAt.same _
  | @lst n ds es h =>
    have j1:=i1
    have j2:=i2
    obtain ⟨p,xs,rfl,z1,h1,l1,g1⟩:=i1.v_lst
    obtain ⟨q,ys,rfl,z2,h2,l2,g2⟩:=i2.v_lst
    cases r1
    cases r2
    by_cases hpq:p=q
    · subst hpq
      rw [decide_eq_true (Is.inj _ hc0 j1 j2)]
      exact SeqAt.EqAt.same _
    · obtain ⟨_,us,m1,k1,n1,o1⟩:=I.lstR h1
      obtain ⟨_,ws,m2,k2,n2,o2⟩:=I.lstR h2
      rw [dec_lst]
      have e1:=g1.length
      have e2:=g2.length
      refine SeqAt.EqAt.of_refs hpq ?_
      by_cases hl:ds.length=es.length
      · exact rcAt_lists ⟨_,o1,rfl,_,rfl⟩ ⟨_,o2,rfl,_,rfl⟩ (by omega) (by omega) (by omega) (items_is (h hl) k1 k2 g1 g2 (ih n (Nat.lt_succ_self _) (by rw [in1_units]; omega)))
      · have q:=SeqAt.RcAt.lists_lengths (A:=A) (s:=s) (items:=us.toArray) (items2:=ws.toArray) ⟨_,o1,rfl,_,rfl⟩ ⟨_,o2,rfl,_,rfl⟩ (by simp; omega) (by omega)
        have e:decide (ds=es)=false:=decide_eq_false fun z=>hl (by rw [z])
        rw [e]
        exact q
  | @tup n ds es hl h =>
    have j1:=i1
    have j2:=i2
    obtain ⟨p,xs,rfl,z1,h1,l1,g1⟩:=i1.v_tup
    obtain ⟨q,ys,rfl,z2,h2,l2,g2⟩:=i2.v_tup
    cases r1
    cases r2
    by_cases hpq:p=q
    · subst hpq
      rw [decide_eq_true (Is.inj _ hc0 j1 j2)]
      exact SeqAt.EqAt.same _
    · obtain ⟨us,k1,o1,_⟩:=I.tuple (xs:=xs) (.inl (.inl h1))
      obtain ⟨ws,k2,o2,_⟩:=I.tuple (xs:=ys) (.inl (.inl h2))
      rw [dec_tup]
      have e1:=g1.length
      have e2:=g2.length
      have n1:=k1.length
      have n2:=k2.length
      exact SeqAt.EqAt.of_refs hpq (rc_tups o1 o2 (by omega) (by omega) hl (by omega) (items_is h k1 k2 g1 g2 (ih n (Nat.lt_succ_self _) (by rw [in1_units]; omega))))
def rEqD (K:PySem.W.Frag) (neg:Bool):R2:=fun x y H Q=>∃ d e,Is K H No x d∧Is K H No y e∧cmpb 20 d e=true∧Q (.bl (if neg=true then !decide (d=e) else decide (d=e))) H
theorem op_eqD (hu:X.A.units+64<cLine):OpR X (compareOp .Eq) (rEqD K false):=by
  intro pins s σ H x y v u Q I rx ry h
  obtain ⟨d,e,i1,i2,hc,h⟩:=h
  rw [if_neg Bool.false_ne_true] at h
  cases cmpb_inv hc with
  | int a b=>obtain rfl:=i1.v_int; obtain rfl:=i2.v_int; exact op_eq pins s σ H _ _ v u Q I rx ry ⟨rfl,by rw [show decide (V.int a=V.int b)=decide (D.int a=D.int b) from decide_eq_decide.mpr ⟨fun q=>by cases q; rfl,fun q=>by cases q; rfl⟩]; exact h⟩
  | bl a b=>obtain rfl:=i1.v_bl; obtain rfl:=i2.v_bl; exact op_eq pins s σ H _ _ v u Q I rx ry ⟨rfl,by rw [show decide (V.bl a=V.bl b)=decide (D.bl a=D.bl b) from decide_eq_decide.mpr ⟨fun q=>by cases q; rfl,fun q=>by cases q; rfl⟩]; exact h⟩
  | str a b=>obtain rfl:=i1.v_str; obtain rfl:=i2.v_str; exact op_eq pins s σ H _ _ v u Q I rx ry ⟨rfl,by rw [show decide (V.str a=V.str b)=decide (D.str a=D.str b) from decide_eq_decide.mpr ⟨fun q=>by cases q; rfl,fun q=>by cases q; rfl⟩]; exact h⟩
  | non=>obtain rfl:=i1.v_non; obtain rfl:=i2.v_non; exact op_eq pins s σ H _ _ v u Q I rx ry ⟨rfl,by rw [show decide (V.non=V.non)=decide (D.non=D.non) from decide_eq_decide.mpr ⟨fun q=>rfl,fun q=>rfl⟩]; exact h⟩
  | @lst n ds es hh =>
    obtain ⟨p,xs,rfl,z1,h1,l1,g1⟩:=i1.v_lst
    obtain ⟨q,ys,rfl,z2,h2,l2,g2⟩:=i2.v_lst
    cases rx
    cases ry
    obtain ⟨_,us,m1,k1,n1,o1⟩:=I.lstR h1
    obtain ⟨_,ws,m2,k2,n2,o2⟩:=I.lstR h2
    rw [dec_lst] at h
    have e1:=g1.length
    have e2:=g2.length
    by_cases hl:ds.length=es.length
    · exact rcAt_lists ⟨_,o1,rfl,_,rfl⟩ ⟨_,o2,rfl,_,rfl⟩ (by omega) (by omega) (by omega) (items_is (hh hl) k1 k2 g1 g2 (eqAt_is I 19 (by rw [in1_units]; omega))) X.prog X.w X.xe _ ⟨.bl _,H,I,rfl,h⟩
    · have q:=SeqAt.RcAt.lists_lengths (A:=X.A) (s:=s) (items:=us.toArray) (items2:=ws.toArray) ⟨_,o1,rfl,_,rfl⟩ ⟨_,o2,rfl,_,rfl⟩ (by simp; omega) (by omega)
      have e:decide (ds=es)=false:=decide_eq_false fun z=>hl (by rw [z])
      rw [e] at h
      exact q X.prog X.w X.xe _ ⟨.bl _,H,I,rfl,h⟩
  | @tup n ds es hl hh =>
    obtain ⟨p,xs,rfl,z1,h1,l1,g1⟩:=i1.v_tup
    obtain ⟨q,ys,rfl,z2,h2,l2,g2⟩:=i2.v_tup
    cases rx
    cases ry
    obtain ⟨us,k1,o1,_⟩:=I.tuple (xs:=xs) (.inl (.inl h1))
    obtain ⟨ws,k2,o2,_⟩:=I.tuple (xs:=ys) (.inl (.inl h2))
    rw [dec_tup] at h
    have e1:=g1.length
    have e2:=g2.length
    have n1:=k1.length
    have n2:=k2.length
    exact rc_tups o1 o2 (by omega) (by omega) hl (by omega) (items_is hh k1 k2 g1 g2 (eqAt_is I 19 (by rw [in1_units]; omega))) X.prog X.w X.xe _ ⟨.bl _,H,I,rfl,h⟩
theorem op_neD (hu:X.A.units+64<cLine):OpR X (compareOp .NotEq) (rEqD K true):=by
  intro pins s σ H x y v u Q I rx ry h
  obtain ⟨d,e,i1,i2,hc,h⟩:=h
  rw [if_pos rfl] at h
  cases cmpb_inv hc with
  | int a b=>obtain rfl:=i1.v_int; obtain rfl:=i2.v_int; exact op_ne pins s σ H _ _ v u Q I rx ry ⟨rfl,by rw [show decide (V.int a=V.int b)=decide (D.int a=D.int b) from decide_eq_decide.mpr ⟨fun q=>by cases q; rfl,fun q=>by cases q; rfl⟩]; exact h⟩
  | bl a b=>obtain rfl:=i1.v_bl; obtain rfl:=i2.v_bl; exact op_ne pins s σ H _ _ v u Q I rx ry ⟨rfl,by rw [show decide (V.bl a=V.bl b)=decide (D.bl a=D.bl b) from decide_eq_decide.mpr ⟨fun q=>by cases q; rfl,fun q=>by cases q; rfl⟩]; exact h⟩
  | str a b=>obtain rfl:=i1.v_str; obtain rfl:=i2.v_str; exact op_ne pins s σ H _ _ v u Q I rx ry ⟨rfl,by rw [show decide (V.str a=V.str b)=decide (D.str a=D.str b) from decide_eq_decide.mpr ⟨fun q=>by cases q; rfl,fun q=>by cases q; rfl⟩]; exact h⟩
  | non=>obtain rfl:=i1.v_non; obtain rfl:=i2.v_non; exact op_ne pins s σ H _ _ v u Q I rx ry ⟨rfl,by rw [show decide (V.non=V.non)=decide (D.non=D.non) from decide_eq_decide.mpr ⟨fun q=>rfl,fun q=>rfl⟩]; exact h⟩
  | @lst n ds es hh =>
    obtain ⟨p,xs,rfl,z1,h1,l1,g1⟩:=i1.v_lst
    obtain ⟨q,ys,rfl,z2,h2,l2,g2⟩:=i2.v_lst
    cases rx
    cases ry
    obtain ⟨_,us,m1,k1,n1,o1⟩:=I.lstR h1
    obtain ⟨_,ws,m2,k2,n2,o2⟩:=I.lstR h2
    rw [dec_lst] at h
    have e1:=g1.length
    have e2:=g2.length
    by_cases hl:ds.length=es.length
    · exact rcNeAt_lists ⟨_,o1,rfl,_,rfl⟩ ⟨_,o2,rfl,_,rfl⟩ (by omega) (by omega) (by omega) (items_is (hh hl) k1 k2 g1 g2 (eqAt_is I 19 (by rw [in1_units]; omega))) X.prog X.w X.xe _ ⟨.bl _,H,I,rfl,h⟩
    · have q:=SeqAt.RcNeAt.lists_lengths (A:=X.A) (s:=s) (items:=us.toArray) (items2:=ws.toArray) ⟨_,o1,rfl,_,rfl⟩ ⟨_,o2,rfl,_,rfl⟩ (by simp; omega) (by omega)
      have e:decide (ds=es)=false:=decide_eq_false fun z=>hl (by rw [z])
      rw [e] at h
      exact q X.prog X.w X.xe _ ⟨.bl _,H,I,rfl,h⟩
  | @tup n ds es hl hh =>
    obtain ⟨p,xs,rfl,z1,h1,l1,g1⟩:=i1.v_tup
    obtain ⟨q,ys,rfl,z2,h2,l2,g2⟩:=i2.v_tup
    cases rx
    cases ry
    obtain ⟨us,k1,o1,_⟩:=I.tuple (xs:=xs) (.inl (.inl h1))
    obtain ⟨ws,k2,o2,_⟩:=I.tuple (xs:=ys) (.inl (.inl h2))
    rw [dec_tup] at h
    have e1:=g1.length
    have e2:=g2.length
    have n1:=k1.length
    have n2:=k2.length
    exact rcNe_tups o1 o2 (by omega) (by omega) hl (by omega) (items_is hh k1 k2 g1 g2 (eqAt_is I 19 (by rw [in1_units]; omega))) X.prog X.w X.xe _ ⟨.bl _,H,I,rfl,h⟩
end
section
variable {ta tb:TE} {a b:DE}
noncomputable def dEq (neg:Bool) (a b:DE):DE:=fun ρ=>match a ρ with
  | some d=>(match b ρ with
    | some e=>if cmpb 20 d e=true then some (.bl (if neg=true then !decide (d=e) else decide (d=e))) else none
    | none=>none)
  | none=>none
theorem si_eq [Tabs] {neg:Bool} (ha:SemB K ta a) (hb:SemB K tb b):SemI K (tOp (rEqD K neg) ta tb) (dEq neg a b):=fun {B Z os ρ σ H Q d} f q k=>by
  unfold dEq at q
  split at q
  · rename_i x e1
    split at q
    · rename_i y e2
      by_cases c:cmpb 20 x y=true
      · rw [if_pos c] at q
        cases q
        exact ha f e1 fun v H1 s1 i1=>hb (f.grow s1) e2 fun u H2 s2 i2=>⟨x,y,i1.same s2,i2,c,k _ _ (s1.trans s2) (.bl _)⟩
      · rw [if_neg c] at q; cases q
    · cases q
  · cases q
end
end
end VL
namespace L2
open PySem PySem.Spec PyProof.Rows
section
variable {X:Cx}
noncomputable def gSeq (K:PySem.W.Frag) (n:Nat) (t:TGs):TG:=fun v σ H Q=>gTup K n t v σ H Q∨gLst K n t v σ H Q
theorem pg_seq {es:List Expr} {k:Nat} {t:TGs} {n:Nat} {pos:Pos} (hc:X.calm=true) (h:PGs X es t)
    (hn:(assignEach es X.env).length=n:=by rfl) (hst:(assignEach es X.env).findIdx? (·.1)=none:=by rfl):PG X (.Tuple es k pos) (gSeq X.K n t):=by
  intro pins s σ H v u Q I r hw
  rcases hw with hw | hw
  · exact pg_tup hc h hn hst pins s σ H v u Q I r hw
  · exact pg_lst hc h hn hst pins s σ H v u Q I r hw
theorem pg_seqK {K:PySem.W.Frag} {es:List Expr} {k:Nat} {t:TGs} {n:Nat} {pos:Pos} (hK:X.K=K) (hc:X.calm=true) (h:PGs X es t)
    (hn:(assignEach es X.env).length=n:=by rfl) (hst:(assignEach es X.env).findIdx? (·.1)=none:=by rfl):PG X (.Tuple es k pos) (gSeq K n t):=by
  subst hK
  exact pg_seq hc h hn hst
end
end L2
namespace VL
open PySem L2
open Classical
noncomputable section
variable [Tabs] {K:PySem.W.Frag}
def SemO' (K:PySem.W.Frag) (t:TE) (e:DE):Prop:=∀ {B:Hp} {Z:Addr→Prop} {os:Own} {ρ:Rho} {σ:L2.St} {H:Hp} {Q:VK} {d:D},Fr K B Z os ρ σ H→e ρ=some d→(∀ v H',Same H H'→Is K B No v d→Q v H')→t σ H Q
noncomputable def dVarO (i:Nat):DE:=fun ρ=>match ρ.getD i .un with
  | .bo d=>some d
  | _=>none
theorem so_var (i:Nat):SemO' K (tVar i) (dVarO i):=fun {B Z os ρ σ H Q d} f q k=>by
  have s:=f.sl i
  unfold dVarO at q
  cases e:ρ.getD i .un with
  | bo d' =>
    rw [e] at q s
    cases q
    obtain ⟨_,u,hu,i⟩:=s
    exact ⟨u,join_some hu,k u H (Same.refl _) i⟩
  | _=>rw [e] at q; cases q
def ER (K:PySem.W.Frag) (m:Bool) (Bx H:Hp) (T:Addr→Prop) (x:V) (d:D):Prop:=match m with
  | true=>Is K H T x d
  | false=>Is K Bx No x d
structure Walk (K:PySem.W.Frag) (m:Bool) (Bx:Hp) (J:It) (H1:Hp) (T:Addr→Prop) (ds:List D):Prop where
  len:ds.length≤sizeLine
  go:∀ (i:Nat) (d:D) (H2:Hp) (T2:Addr→Prop),Kp T H1 T2 H2→Same Bx H2→(∀ a,T2 a→∃ o,H2 a=some o)→ds[i]?=some d→J.go i H2∧∀ x H3,J.yld i H2 x H3→Same H2 H3∧ER K m Bx H3 T2 x d
  stop:∀ (i:Nat) (H2:Hp) (T2:Addr→Prop),Kp T H1 T2 H2→Same Bx H2→ds.length=i→J.stop i H2
def SemW (K:PySem.W.Frag) (m:Bool) (wi:TI) (e:Rho→Option (List D)):Prop:=∀ {B:Hp} {Z:Addr→Prop} {os:Own} {ρ:Rho} {σ:L2.St} {H:Hp} {R:It→Hp→Prop} {ds:List D},Fr K B Z os ρ σ H→e ρ=some ds→(∀ J H1,Same H H1→Walk K m B J H1 (tot Z os) ds→R J H1)→wi σ H R
def SemWC (K:PySem.W.Frag) (m:Bool) (wi:TI) (e:Rho→Option (List D)):Prop:=∀ {B:Hp} {Z:Addr→Prop} {os:Own} {ρ:Rho} {σ:L2.St} {H:Hp} {R:It→Hp→Prop} {ds:List D},Fr K B Z os ρ σ H→e ρ=some ds→(∀ J H1,Same H H1→Walk K m H1 J H1 (tot Z os) ds→R J H1)→wi σ H R
theorem SemW.c {wi:TI} {e:Rho→Option (List D)} (h:SemW K true wi e):SemWC K true wi e:=fun f q k=>h f q fun J H1 s w=>k J H1 s ⟨w.len,fun i d H2 T2 kp sm hd e=>w.go i d H2 T2 kp ((f.keep.trans s).trans sm) hd e,fun i H2 T2 kp sm hl=>w.stop i H2 T2 kp ((f.keep.trans s).trans sm) hl⟩
theorem Rd.same {H H':Hp} {a:Addr} {u:HO} (h:Rd H a u) (s:Same H H'):Rd H' a u:=by
  rcases h with h | ⟨o,h⟩
  · exact .inl (s _ _ h)
  · exact .inr ⟨o,s _ _ h⟩
theorem walk_list {m:Bool} {Bx H1:Hp} {T:Addr→Prop} {p:Addr} {vs:List V} {ds:List D} (hl:ds.length≤sizeLine) (hd0:∀ H2 T2,Kp T H1 T2 H2→Same Bx H2→SqL K H2 p vs) (hn:vs.length=ds.length)
    (hi:∀ H2 T2 (i:Nat) v d,Kp T H1 T2 H2→Same Bx H2→vs[i]?=some v→ds[i]?=some d→ER K m Bx H2 T2 v d):Walk K m Bx (Itl K p) H1 T ds:=by
  refine ⟨hl,fun i d H2 T2 kp sb hd e=>?_,fun i H2 T2 kp sb hi=>⟨vs,hd0 H2 T2 kp sb,by omega⟩⟩
  have hr2:=hd0 H2 T2 kp sb
  have hi':i<vs.length:=by rw [hn]; exact (List.getElem?_eq_some_iff.mp e).1
  have e1:vs[i]?=some vs[i]:=List.getElem?_eq_getElem hi'
  refine ⟨⟨vs,_,hr2,e1⟩,fun x H3 ⟨e3,hx⟩=>?_⟩
  subst e3
  have:=hx vs hr2
  rw [e1] at this
  cases this
  exact ⟨Same.refl _,hi _ T2 i _ d kp sb e1 e⟩
theorem sw_list {tl:TE} {a:DE} (ha:SemI K tl a):SemW K true (iList K tl) (asL a):=fun {B Z os ρ σ H R ds} f q k=>by
  obtain ⟨d,q,ed⟩:=asL_some q
  refine ha f q fun v H1 s1 i1=>?_
  obtain ⟨p,vs,rfl,hl,hn,hr⟩:=i1.seq ed
  refine ⟨p,rfl,⟨vs,(hr H1 _ Kp.refl).1⟩,k _ _ s1 (walk_list (vs:=vs) (by omega) (fun H2 T2 kp _=>(hr H2 T2 kp).1) hn fun H2 T2 i v d kp _ e1 e2=>?_)⟩
  obtain ⟨v',f1,i2⟩:=(hr H2 T2 kp).2.get e2
  rw [e1] at f1
  cases f1
  exact i2
theorem sw_listO {tl:TE} {a:DE} (ha:SemO' K tl a):SemW K false (iList K tl) (asL a):=fun {B Z os ρ σ H R ds} f q k=>by
  obtain ⟨d,q,ed⟩:=asL_some q
  refine ha f q fun v H1 s1 i1=>?_
  obtain ⟨p,vs,rfl,hl,hn,hr⟩:=i1.seq ed
  refine ⟨p,rfl,⟨vs,(hr H1 No (Kp.same (f.keep.trans s1))).1⟩,k _ _ s1 (walk_list (vs:=vs) (by omega) (fun H2 T2 kp sb=>(hr H2 No (Kp.same sb)).1) hn fun H2 T2 i v d kp sb e1 e2=>?_)⟩
  obtain ⟨v',f1,i2⟩:=(hr B No Kp.refl).2.get e2
  rw [e1] at f1
  cases f1
  exact i2
theorem swc_listB {tl:TE} {a:DE} (ha:SemB K tl a):SemWC K false (iList K tl) (asL a):=fun {B Z os ρ σ H R ds} f q k=>by
  obtain ⟨d,q,ed⟩:=asL_some q
  refine ha f q fun v H1 s1 i1=>?_
  obtain ⟨p,vs,rfl,hl,hn,hr⟩:=i1.seq ed
  refine ⟨p,rfl,⟨vs,(hr H1 _ Kp.refl).1⟩,k _ _ s1 (walk_list (vs:=vs) (by omega) (fun H2 T2 kp sb=>(hr H2 No (Kp.same sb)).1) hn fun H2 T2 i v d kp sb e1 e2=>?_)⟩
  obtain ⟨v',f1,i2⟩:=(hr H1 No Kp.refl).2.get e2
  rw [e1] at f1
  cases f1
  exact i2
def upL (lo:Int) (n:Nat):List D:=(List.range n).map fun (i:Nat)=>.int (lo+(i:Int))
theorem upL_len {lo:Int} {n:Nat}:(upL lo n).length=n:=by unfold upL; rw [List.length_map,List.length_range]
theorem upL_get {lo:Int} {n i:Nat} {d:D} (h:(upL lo n)[i]?=some d):i<n∧d=.int (lo+i):=by
  unfold upL at h
  rw [List.getElem?_map] at h
  by_cases hi:i<n
  · rw [List.getElem?_range hi] at h; cases h; exact ⟨hi,rfl⟩
  · rw [List.getElem?_eq_none (by rw [List.length_range]; omega)] at h; cases h
theorem walk_range {m:Bool} {Bx H1:Hp} {T:Addr→Prop} {lo:Int} {n:Nat} (hn:n≤sizeLine):Walk K m Bx (Itr lo n) H1 T (upL lo n):=by
  refine ⟨by rw [upL_len]; exact hn,fun i d H2 T2 kp _ hd e=>?_,fun i H2 T2 kp _ hi=>by rw [upL_len] at hi; exact Nat.le_of_eq hi⟩
  obtain ⟨hi,rfl⟩:=upL_get e
  refine ⟨hi,fun x H3 ⟨e3,ex⟩=>?_⟩
  subst e3 ex
  cases m
  · exact ⟨Same.refl _,.int _⟩
  · exact ⟨Same.refl _,.int _⟩
noncomputable def dRg1 (a:DE):Rho→Option (List D):=fun ρ=>match a ρ with
  | some (.int j)=>if -(2 ^ 62)≤j∧j.toNat≤sizeLine then some (upL 0 j.toNat) else none
  | _=>none
noncomputable def dRg2 (a b:DE):Rho→Option (List D):=fun ρ=>match a ρ with
  | some (.int i)=>(match b ρ with
    | some (.int j)=>if -(2 ^ 62)≤i∧i<2 ^ 62∧-(2 ^ 62)≤j∧j<2 ^ 62∧(j-i).toNat≤sizeLine then some (upL i (j-i).toNat) else none
    | _=>none)
  | _=>none
theorem sw_range1 {ta:TE} {a:DE} (ha:SemB K ta a):SemW K true (iRng1 (tCons ta tNil)) (dRg1 a):=fun {B Z os ρ σ H R ds} f q k=>by
  unfold dRg1 at q
  split at q
  · rename_i j e
    by_cases c:-(2 ^ 62)≤j∧j.toNat≤sizeLine
    · rw [if_pos c] at q
      cases q
      have hs:sizeLine=16777216:=sizeLine_eq
      exact ha f e fun v H1 s1 i1=>⟨j,by rw [i1.isInt],c.1,by omega,k _ _ s1 (walk_range c.2)⟩
    · rw [if_neg c] at q; cases q
  · cases q
theorem sw_range2 {ta tb:TE} {a b:DE} (ha:SemB K ta a) (hb:SemB K tb b):SemW K true (iRng2 (tCons ta (tCons tb tNil))) (dRg2 a b):=fun {B Z os ρ σ H R ds} f q k=>by
  unfold dRg2 at q
  split at q
  · rename_i i e
    split at q
    · rename_i j e2
      by_cases c:-(2 ^ 62)≤i∧i<2 ^ 62∧-(2 ^ 62)≤j∧j<2 ^ 62∧(j-i).toNat≤sizeLine
      · rw [if_pos c] at q
        cases q
        exact ha f e fun v H1 s1 i1=>hb (f.grow s1) e2 fun u H2 s2 i2=>⟨i,j,by rw [i1.isInt,i2.isInt],⟨c.1,c.2.1,c.2.2.1,c.2.2.2.1⟩,k _ _ (s1.trans s2) (walk_range c.2.2.2.2)⟩
      · rw [if_neg c] at q; cases q
    · cases q
  · cases q
def enL (ds:List D):List D:=ds.mapIdx fun i d=>.tup [.int i,d]
theorem enL_get {ds:List D} {i:Nat} {d:D} (h:(enL ds)[i]?=some d):∃ e,ds[i]?=some e∧d=.tup [.int i,e]:=by
  unfold enL at h
  rw [List.getElem?_mapIdx] at h
  cases e:ds[i]? with
  | none=>rw [e] at h; cases h
  | some x=>rw [e] at h; cases h; exact ⟨x,rfl,rfl⟩
noncomputable def dEn (a:DE):Rho→Option (List D):=fun ρ=>match asL a ρ with
  | some ds=>some (enL ds)
  | none=>none
theorem walk_enum {Bx H1:Hp} {T:Addr→Prop} {p:Addr} {vs:List V} {ds:List D} (hl:ds.length≤sizeLine) (hd0:∀ H2 T2,Kp T H1 T2 H2→Same Bx H2→SqL K H2 p vs∧IsL K H2 T2 vs ds):Walk K true Bx (Ite K p) H1 T (enL ds):=by
  have hlen:(enL ds).length=ds.length:=by unfold enL; rw [List.length_mapIdx]
  refine ⟨by rw [hlen]; exact hl,fun i d H2 T2 kp sb hd e=>?_,fun i H2 T2 kp sb hi=>?_⟩
  · obtain ⟨x,ex,rfl⟩:=enL_get e
    obtain ⟨hr2,r2⟩:=hd0 H2 T2 kp sb
    obtain ⟨v,e1,i2⟩:=r2.get ex
    refine ⟨⟨vs,v,hr2,e1⟩,fun y H3 hy=>?_⟩
    obtain ⟨t,w,ey,nt,hw,e3⟩:=hy
    subst e3 ey
    have:=hw vs hr2
    rw [e1] at this
    cases this
    refine ⟨same_new nt,show Is K _ T2 (.ref t) (.tup [.int i,x]) from .tup (fun z=>?_) upd_same (by show 2≤sizeLine; decide) ((IsL.cons (.int _) (.one i2)).same (same_new nt))⟩
    obtain ⟨o,q⟩:=hd t z
    rw [nt] at q; cases q
  · obtain ⟨hr2,r2⟩:=hd0 H2 T2 kp sb
    exact ⟨vs,hr2,by rw [r2.length,← hlen]; exact Nat.le_of_eq hi⟩
theorem dEn_some {a:DE} {ρ:Rho} {ds:List D} (h:dEn a ρ=some ds):∃ es,asL a ρ=some es∧ds=enL es:=by
  unfold dEn at h
  split at h
  · rename_i es e; exact ⟨es,e,(Option.some.inj h).symm⟩
  · cases h
theorem sw_enum {tl:TE} {a:DE} (ha:SemI K tl a):SemW K true (iEnum K tl) (dEn a):=fun {B Z os ρ σ H R ds} f q k=>by
  obtain ⟨es,e,rfl⟩:=dEn_some q
  obtain ⟨d,e,ed⟩:=asL_some e
  refine ha f e fun v H1 s1 i1=>?_
  obtain ⟨p,vs,rfl,hl,hn,hr⟩:=i1.seq ed
  exact ⟨p,rfl,⟨vs,(hr H1 _ Kp.refl).1⟩,k _ _ s1 (walk_enum (by omega) fun H2 T2 kp _=>hr H2 T2 kp)⟩
abbrev DG:=D→Rho→Option Rho
abbrev DGs:=List D→Rho→Option Rho
def SemG (K:PySem.W.Frag) (m:Bool) (g:TG) (e:DG):Prop:=∀ {B:Hp} {Z:Addr→Prop} {os:Own} {ρ:Rho} {σ:L2.St} {H:Hp} {Q:L2.St→Hp→Prop} {v:V} {d:D} {ρ':Rho},Fr K B Z os ρ σ H→ER K m B H (tot Z os) v d→e d ρ=some ρ' →
  (∀ os' σ',Fr K B Z os' ρ' σ' H→Kp (tot Z os) H (tot Z os') H→Q σ' H)→g v σ H Q
def ERL (K:PySem.W.Frag) (m:Bool) (Bx H:Hp) (T:Addr→Prop) (vs:List V) (ds:List D):Prop:=match m with
  | true=>IsL K H T vs ds
  | false=>IsL K Bx No vs ds
def SemGs (K:PySem.W.Frag) (m:Bool) (g:TGs) (e:DGs):Prop:=∀ {B:Hp} {Z:Addr→Prop} {os:Own} {ρ:Rho} {σ:L2.St} {H:Hp} {Q:L2.St→Hp→Prop} {vs:List V} {ds:List D} {ρ':Rho},Fr K B Z os ρ σ H→ERL K m B H (tot Z os) vs ds→e ds ρ=some ρ' →
  (∀ os' σ',Fr K B Z os' ρ' σ' H→Kp (tot Z os) H (tot Z os') H→Q σ' H)→g vs σ H Q
def slm (m:Bool) (d:D):Sl:=match m with
  | true=>.pu d
  | false=>.bo d
noncomputable def gN (m:Bool) (i:Nat):DG:=fun d ρ=>some (ρ.set i (slm m d))
theorem Fr.putm {B H:Hp} {Z:Addr→Prop} {os:Own} {ρ:Rho} {σ:L2.St} (f:Fr K B Z os ρ σ H) {m:Bool} (i:Nat) {v:V} {d:D} (h:ER K m B H (tot Z os) v d) :
    ∃ os',Fr K B Z os' (ρ.set i (slm m d)) (σ.set i (some v)) H∧Kp (tot Z os) H (tot Z os') H:=by
  by_cases hi:i < ρ.length
  · cases m with
    | true=>exact ⟨_,f.put hi h⟩
    | false=>exact ⟨_,f.step (s:=.bo d) (v:=some v) hi (fun a u e _=>e) (fun a ha=>let ⟨xs,e⟩:=(f.sl i).dom ha; ⟨_,e⟩) List.nodup_nil (fun a h=>by cases h) ⟨rfl,v,rfl,h⟩⟩
  · have e1:ρ.set i (slm m d)=ρ:=List.set_eq_of_length_le (by omega)
    have e2:σ.set i (some v)=σ:=List.set_eq_of_length_le (by rw [f.len]; omega)
    rw [e1,e2]
    exact ⟨os,f,Kp.refl⟩
theorem sg_name {m:Bool} (i:Nat):SemG K m (gName i) (gN m i):=fun {B Z os ρ σ H Q v d ρ'} f h q k=>by
  cases q
  obtain ⟨os',f',kp⟩:=f.putm i h
  exact k os' _ f' kp
def gsNil:DGs:=fun ds ρ=>match ds with
  | []=>some ρ
  | _=>none
def gsCons (e:DG) (r:DGs):DGs:=fun ds ρ=>match ds with
  | d::t=>(match e d ρ with
    | some ρ'=>r t ρ'
    | none=>none)
  | []=>none
theorem sgs_nil {m:Bool}:SemGs K m gNil gsNil:=fun {B Z os ρ σ H Q vs ds ρ'} f h q k=>by
  cases ds with
  | nil =>
    cases q
    have e:vs=[]:=by cases m <;> cases h <;> rfl
    exact ⟨e,k os σ f Kp.refl⟩
  | cons d t=>cases q
theorem sgs_cons {m:Bool} {g:TG} {u:TGs} {e:DG} {r:DGs} (hg:SemG K m g e) (hr:SemGs K m u r):SemGs K m (gCons g u) (gsCons e r):=fun {B Z os ρ σ H Q vs ds ρ'} f h q k=>by
  cases ds with
  | nil=>cases q
  | cons d t =>
    have q:(match e d ρ with | some ρ'=>r t ρ' | none=>none)=some ρ':=q
    split at q
    · rename_i ρ1 e1
      obtain ⟨v,vt,rfl,h1,h2⟩:∃ v vt,vs=v::vt∧ER K m B H (tot Z os) v d∧ERL K m B H (tot Z os) vt t:=by
        cases m with
        | true=>cases h with | cons a b=>exact ⟨_,_,rfl,a,b⟩
        | false=>cases h with | cons a b=>exact ⟨_,_,rfl,a,b⟩
      refine ⟨v,vt,rfl,hg f h1 e1 fun os1 σ1 f1 k1=>hr f1 ?_ q fun os2 σ2 f2 k2=>k os2 σ2 f2 (k1.trans k2)⟩
      cases m with
      | true=>exact IsL.kp k1 h2
      | false=>exact h2
    · cases q
noncomputable def gUn (n:Nat) (r:DGs):DG:=fun d ρ=>match d with
  | .tup ds=>if ds.length=n then r ds ρ else none
  | .lst ds=>if ds.length=n then r ds ρ else none
  | _=>none
theorem sg_un {m:Bool} {n:Nat} {u:TGs} {r:DGs} (hr:SemGs K m u r):SemG K m (gSeq K n u) (gUn n r):=fun {B Z os ρ σ H Q v d ρ'} f h q k=>by
  cases d with
  | tup ds =>
    have q:(if ds.length=n then r ds ρ else none)=some ρ':=q
    by_cases c:ds.length=n
    · rw [if_pos c] at q
      cases m with
      | true =>
        obtain ⟨p,vs,rfl,hz,hr',hl,g⟩:=Is.isTup h
        exact .inl ⟨p,vs,rfl,.inl (.inl hr'),by rw [g.length]; exact c,hr f g q k⟩
      | false =>
        obtain ⟨p,vs,rfl,hz,hr',hl,g⟩:=Is.isTup h
        exact .inl ⟨p,vs,rfl,.inl (.inl (f.keep _ _ hr')),by rw [g.length]; exact c,hr f g q k⟩
    · rw [if_neg c] at q; cases q
  | lst ds =>
    have q:(if ds.length=n then r ds ρ else none)=some ρ':=q
    by_cases c:ds.length=n
    · rw [if_pos c] at q
      cases m with
      | true =>
        obtain ⟨p,vs,rfl,hz,hr',hl,g⟩:=Is.isLst h
        exact .inr ⟨p,vs,rfl,.inl hr',by rw [g.length]; exact c,hr f g q k⟩
      | false =>
        obtain ⟨p,vs,rfl,hz,hr',hl,g⟩:=Is.isLst h
        exact .inr ⟨p,vs,rfl,.inl (Rd.same hr' f.keep),by rw [g.length]; exact c,hr f g q k⟩
    · rw [if_neg c] at q; cases q
  | _=>cases q
theorem Fr.tin {B H:Hp} {Z:Addr→Prop} {os:Own} {ρ:Rho} {σ:L2.St} (f:Fr K B Z os ρ σ H):∀ a,tot Z os a→∃ o,H a=some o:=by
  rintro a (z | ⟨i,z⟩)
  · exact f.zin a z
  · obtain ⟨xs,e⟩:=(f.sl i).dom z
    exact ⟨_,e⟩
theorem Fr.zt {B H:Hp} {Z:Addr→Prop} {os:Own} {ρ:Rho} {σ:L2.St} (f:Fr K B Z os ρ σ H):ZT (tot Z os) H:=⟨f.tin,f.tabH⟩
def view:Sl→Sl
  | .pu d=>.pu d
  | .bo d=>.bo d
  | .ol ds=>.bo (.lst ds)
  | .om rows=>.bo (.lst (rows.map D.lst))
  | .un=>.un
def r0 (k:Nat) (cs:List Nat) (ρ:Rho):Rho:=List.replicate k .un++cs.map fun i=>view (ρ.getD i .un)
def s0 (k:Nat) (cs:List Nat) (σ:L2.St):L2.St:=List.replicate k none++cs.map fun i=>(σ[i]?).join
theorem blockFr {B H1 H:Hp} {Z:Addr→Prop} {os:Own} {ρ:Rho} {σ:L2.St} {Dl:Addr} {o:HO} (f:Fr K B Z os ρ σ H1) (hD:H1 Dl=none) (s:Same H1 H) (hd:H Dl=some o) (k:Nat) (cs:List Nat) :
    Fr K H1 (fun a=>a=Dl∨tot Z os a) (fun _=>[]) (r0 k cs ρ) (s0 k cs σ) H where
  keep:=s
  zin:=fun a z=>by
    rcases z with rfl | z
    · exact ⟨o,hd⟩
    · obtain ⟨u,e⟩:=f.tin a z
      exact ⟨u,s _ _ e⟩
  len:=by unfold r0 s0; simp
  nd:=fun _=>List.nodup_nil
  dj:=fun _ _ _ h=>by cases h
  tab:=f.tabH
  new:=fun _ _ h=>by cases h
  sl:=fun j=>by
    have kp:Kp (tot Z os) H1 (tot (fun a=>a=Dl∨tot Z os a) fun _=>[]) H:=fun a u e z=>by
      refine ⟨s _ _ e,?_⟩
      rintro ((rfl | q) | ⟨_,q⟩)
      · rw [hD] at e; cases e
      · exact z q
      · cases q
    unfold r0 s0
    rw [List.getD_eq_getElem?_getD]
    by_cases hj:j<k
    · rw [List.getElem?_append_left (by simpa using hj),List.getElem?_append_left (by simpa using hj),List.getElem?_replicate,if_pos hj]
      exact rfl
    · rw [List.getElem?_append_right (by simpa using hj),List.getElem?_append_right (by simpa using hj),List.length_replicate,List.length_replicate,List.getElem?_map,List.getElem?_map]
      cases e:cs[j-k]? with
      | none=>exact rfl
      | some i =>
        have h:=f.sl i
        show SlOk K _ _ _ _ (view (ρ.getD i .un)) ((σ[i]?).join)
        cases e2:ρ.getD i .un with
        | un=>exact rfl
        | pu d =>
          rw [e2] at h
          obtain ⟨_,u,hu,i1⟩:=h
          exact ⟨rfl,u,hu,i1.kp kp⟩
        | bo d =>
          rw [e2] at h
          obtain ⟨_,u,hu,i1⟩:=h
          exact ⟨rfl,u,hu,i1.same f.keep⟩
        | ol ds =>
          rw [e2] at h
          obtain ⟨a,vs,_,hu,hH,hl,i1⟩:=h
          exact ⟨rfl,_,hu,.lst (fun z=>z) (.inl hH) hl i1.all⟩
        | om rows =>
          rw [e2] at h
          obtain ⟨a,ps,_,hu,hH,hl,i1⟩:=h
          exact ⟨rfl,_,hu,.lst (fun z=>z) (.inl hH) (by rw [List.length_map]; exact hl) (rows_is i1)⟩
def compGo (g:DG) (t:Rho→Option Bool) (e:DE) (ρ0:Rho):List D→Option (List D)
  | []=>some []
  | d::ds=>match g d ρ0 with
    | none=>none
    | some ρ1=>match t ρ1 with
      | none=>none
      | some false=>compGo g t e ρ0 ds
      | some true=>match e ρ1 with
        | none=>none
        | some y=>match compGo g t e ρ0 ds with
          | none=>none
          | some ys=>some (y::ys)
noncomputable def dComp (k:Nat) (cs:List Nat) (it:Rho→Option (List D)) (g:DG) (t:Rho→Option Bool) (e:DE):Rho→Option (List D):=fun ρ=>match it ρ with
  | some ds=>compGo g t e (r0 k cs ρ) ds
  | none=>none
theorem sf_comp {m:Bool} {k:Nat} {cs:List Nat} {wi:TI} {g:TG} {tt:TT} {te:TE} {it:Rho→Option (List D)} {gd:DG} {td:Rho→Option Bool} {ed:DE} (hw:SemWC K m wi it) (hg:SemG K m g gd) (ht:SemT K tt td) (he:SemI K te ed) :
    SemF K (tComp wi g tt te (s0 k cs)) (dComp k cs it gd td ed):=fun {B Z os ρ σ H Q ds} f q kk=>by
  unfold dComp at q
  split at q
  · rename_i xs e0
    refine hw f e0 fun J H1 s1 W Dl hD=>?_
    have f1:=f.grow s1
    have sD:∀ {H2:Hp} {ys:List V},Same H1 H2→Same H1 (upd H2 Dl (.lst ys)):=fun {H2 ys} s a o e=>by
      rw [upd_ne (ne_of_none e hD)]; exact s _ _ e
    refine ⟨fun i m ys H2=>m=xs.length-i∧i≤xs.length∧Same H1 H2∧H2 Dl=some (.lst ys)∧ys.length≤i∧∃ done rest,IsL K H2 (fun a=>a=Dl∨tot Z os a) ys done∧compGo gd td ed (r0 k cs ρ) (xs.drop i)=some rest∧done++rest=ds,
      ⟨_,rfl,Nat.zero_le _,sD (Same.refl _),upd_same,Nat.le_refl _,[],ds,.nil,q,rfl⟩,?_⟩
    rintro i mm ys H2 ⟨rfl,hi,s2,eD,hly,done,rest,il,q2,ed2⟩
    have kp12:Kp (tot Z os) H1 (fun a=>a=Dl∨tot Z os a) H2:=fun a u e z=>⟨s2 _ _ e,fun w=>w.elim (ne_of_none e hD) z⟩
    by_cases hlt:i<xs.length
    · have ex:xs[i]?=some xs[i]:=List.getElem?_eq_getElem hlt
      have ef:=blockFr f1 hD s2 eD k cs
      obtain ⟨go,yl⟩:=W.go i xs[i] H2 _ kp12 s2 (fun a z=>ef.zin a z) ex
      refine .inr ⟨go,fun x H3 hy=>?_⟩
      obtain ⟨s3,er⟩:=yl x H3 hy
      have eD3:=s3 _ _ eD
      have s13:=s2.trans s3
      have ef3:=blockFr f1 hD s13 eD3 k cs
      rw [List.drop_eq_getElem_cons hlt] at q2
      unfold compGo at q2
      have er':ER K m H1 H3 (tot (fun a=>a=Dl∨tot Z os a) fun _=>[]) x xs[i]:=by
        cases m with
        | false=>exact er
        | true=>exact Is.kp (Kp.less fun a z=>z.elim id fun ⟨_,w⟩=>by cases w) er
      split at q2
      · cases q2
      · rename_i ρ1 e1
        refine hg ef3 er' e1 fun os1 σ1 fr1 k1=>?_
        split at q2
        · cases q2
        · rename_i e2
          refine ht fr1 e2 fun H4 s4=>iteF ⟨_,by omega,rfl,hlt,s13.trans s4,s4 _ _ eD3,by omega,done,rest,(il.same s3).same s4,q2,ed2⟩
        · rename_i e2
          refine ht fr1 e2 fun H4 s4=>iteT ?_
          split at q2
          · cases q2
          · rename_i y e3
            split at q2
            · cases q2
            · rename_i rs e4
              cases q2
              refine he (fr1.grow s4) e3 fun v H5 s5 i5=>?_
              have s35:=s4.trans s5
              have eD5:=s35 _ _ eD3
              have hl:=W.len
              have kp5:∀ (zs:List V),Kp (fun a=>a=Dl∨tot Z os a) H5 (fun a=>a=Dl∨tot Z os a) (upd H5 Dl (.lst zs)):=fun zs a u e z=>⟨by rw [upd_ne (fun w=>z (.inl w))]; exact e,z⟩
              have i5':Is K H5 (fun a=>a=Dl∨tot Z os a) v y:=i5.kp (Kp.less fun a z=>.inl z)
              refine ⟨eD5,by omega,_,by omega,rfl,hlt,sD (s13.trans s35),upd_same,by rw [List.length_append,List.length_singleton]; omega,done++[y],rs,?_,e4,by rw [List.append_assoc]; exact ed2⟩
              exact ((il.same s3).same s35 |>.kp (kp5 _)).append (.one (i5'.kp (kp5 _)))
    · have e:i=xs.length:=by omega
      subst e
      rw [List.drop_length] at q2
      cases q2
      rw [List.append_nil] at ed2
      subst ed2
      have hl:=W.len
      exact .inl ⟨W.stop _ H2 _ kp12 s2 rfl,eD,kk Dl ys H2 (s1.trans s2) (Same.free s1 hD) eD (by omega) il⟩
  · cases q
inductive Fm where
  | v | l | m | x (E:XK) (C:Addr)
def RtOk (fr:Fm) (K:PySem.W.Frag) (B H:Hp) (Z:Addr→Prop) (v:V) (d:D):Prop:=match fr with
  | .v=>Is K H Z v d
  | .l=>∃ p vs ds,v=.ref p∧d=.lst ds∧B p=none∧H p=some (.lst vs)∧vs.length≤sizeLine∧IsL K H (fun a=>a=p∨Z a) vs ds
  | .m=>∃ p ps rows,v=.ref p∧d=.lst (rows.map D.lst)∧B p=none∧(∀ a∈ps,B a=none)∧(p::ps).Nodup∧H p=some (.lst (ps.map V.ref))∧ps.length≤sizeLine∧Paired (fun q ds=>∃ vs,H q=some (.lst vs)∧vs.length≤sizeLine∧IsL K H (fun a=>(a=p∨a∈ps)∨Z a) vs ds) ps rows
  | .x _ _=>Is K H Z v d
theorem rows_isZ {H:Hp} {Z T:Addr→Prop} (hT:∀ a,Z a→T a):∀ {ps:List Addr} {rows:List (List D)},(∀ p∈ps,¬ Z p)→Paired (fun p ds=>∃ vs,H p=some (.lst vs)∧vs.length≤sizeLine∧IsL K H T vs ds) ps rows→IsL K H Z (ps.map V.ref) (rows.map D.lst)
  | _,_,_,.nil=>.nil
  | _,_,hz,.cons ⟨vs,h,hl,r⟩ t=>.cons (.lst (hz _ List.mem_cons_self) (.inl h) hl (r.kp (Kp.less hT))) (rows_isZ hT (fun p hp=>hz p (List.mem_cons_of_mem _ hp)) t)
theorem RtOk.is {fr:Fm} {B H:Hp} {Z:Addr→Prop} {v:V} {d:D} (hz:∀ a,Z a→∃ o,B a=some o) (h:RtOk fr K B H Z v d):Is K H Z v d:=by
  have nz:∀ {p:Addr},B p=none→¬ Z p:=fun {p} e z=>by obtain ⟨o,q⟩:=hz p z; rw [e] at q; cases q
  cases fr with
  | v=>exact h
  | x E C=>exact h
  | l =>
    obtain ⟨p,vs,ds,rfl,rfl,hb,hh,hl,r⟩:=h
    exact .lst (nz hb) (.inl hh) hl (r.kp (Kp.less fun a z=>.inr z))
  | m =>
    obtain ⟨p,ps,rows,rfl,rfl,hb,hbs,_,hh,hl,r⟩:=h
    exact .lst (nz hb) (.inl hh) (by rw [List.length_map]; exact hl) (rows_isZ (fun a z=>.inr z) (fun q hq=>nz (hbs q hq)) r)
def spD (fr:Fm) (K:PySem.W.Frag) (ms:List Bool) (F:List D→Option D):Sp:=fun vs H Q _=>∃ (Z:Addr→Prop) (ds:List D) (d:D),ZT Z H∧Args K H Z ms vs ds∧F ds=some d∧∀ v H',Same H H'→RtOk fr K H H' Z v d→Q v H'
noncomputable def dCall (F:List D→Option D) (es:Rho→Option (List D)):DE:=fun ρ=>match es ρ with
  | some ds=>F ds
  | none=>none
theorem si_call {fr:Fm} {ms:List Bool} {F:List D→Option D} {t:TA} {es:Rho→Option (List D)} {E:XK} (ha:SemA K ms t es):SemI K (tCall (spD fr K ms F) [] E t) (dCall F es):=fun {B Z os ρ σ H Q d} f q k=>by
  unfold dCall at q
  split at q
  · rename_i ds e
    refine ha f e fun vs H1 s1 a=>?_
    show spD fr K ms F (vs++[]) H1 Q E
    rw [List.append_nil]
    exact ⟨tot Z os,ds,d,(f.grow s1).zt,a,q,fun v H2 s2 i=>k v H2 (s1.trans s2) (i.is (f.grow s1).tin)⟩
  · cases q
end
end VL
namespace L2
open PySem PySem.Spec PyProof.Rows
section
variable {X:Cx}
theorem get_list:PGet X (rIxL X.K):=by
  intro pins s σ H x y v u Q I rx ry h
  obtain ⟨p,xs,i,z,rfl,rfl,hq,he,q⟩:=h
  cases rx
  obtain ⟨t,rfl⟩:=ry
  obtain ⟨its,r,pl,hz⟩:=I.list hq
  obtain ⟨j,h1,h2,h3,h4,h5⟩:=atI_get he
  obtain ⟨w,ew,rw'⟩:=r.get h2
  have hl:=r.length
  have hn:=line63
  have fin:EP X pins σ Q w s:=⟨z,H,I,rw',q⟩
  by_cases h0:0≤i
  · have hj:i.toNat=j:=by
      rw [seqIndex_of h0 h5] at h1
      exact Option.some.inj h1
    exact wpAny_getItem_list pl.isList h0 (by omega) (by rw [hj]; simpa using ew) fin
  · have hj:(i+(its.toArray.size:Int)).toNat=j:=by
      rw [seqIndex_neg (by omega) h4] at h1
      rw [List.size_toArray,← hl]
      exact Option.some.inj h1
    exact wpAny_getItem_list_neg pl.isList (by omega) (by rw [List.size_toArray] <;> omega) (by omega) (by rw [hj]; simpa using ew) fin
theorem get_listK {K:PySem.W.Frag} (h:X.K=K):PGet X (rIxL K):=by subst h; exact get_list
end
end L2
namespace VL
open PySem L2
open Classical
noncomputable section
variable [Tabs] {K:PySem.W.Frag}
inductive Res where
  | nx (ρ:Rho) | rt (d:D) | bk (ρ:Rho) | ct (ρ:Rho) | no
variable {fr:Fm}
abbrev DS:=Rho→Res
def Post (fr:Fm) (K:PySem.W.Frag) (B:Hp) (Z:Addr→Prop) (os:Own) (H:Hp) (E:Ends):Res→Prop
  | .nx ρ'=>∀ os' σ' H',Fr K B Z os' ρ' σ' H'→Kp (tot Z os) H (tot Z os') H'→E.nx σ' H'
  | .bk ρ'=>∀ os' σ' H',Fr K B Z os' ρ' σ' H'→Kp (tot Z os) H (tot Z os') H'→E.bk σ' H'
  | .ct ρ'=>∀ os' σ' H',Fr K B Z os' ρ' σ' H'→Kp (tot Z os) H (tot Z os') H'→E.ct σ' H'
  | .rt d=>match fr with
    | .x E0 C=>∀ H',Same B H'→E0 (.ref C) none H'
    | fr=>∀ v H',Same B H'→RtOk fr K B H' Z v d→E.rt v H'
  | .no=>False
def SemS (fr:Fm) (K:PySem.W.Frag) (t:TS) (s:DS):Prop:=∀ {B:Hp} {Z:Addr→Prop} {os:Own} {ρ:Rho} {σ:L2.St} {H:Hp} {E:Ends},Fr K B Z os ρ σ H→Post fr K B Z os H E (s ρ)→t E σ H
theorem Post.kp {B:Hp} {Z:Addr→Prop} {os os1:Own} {H H1:Hp} {E:Ends} {r:Res} (k:Kp (tot Z os) H (tot Z os1) H1) (p:Post fr K B Z os H E r):Post fr K B Z os1 H1 E r:=by
  cases r with
  | nx ρ'=>exact fun os' σ' H' f k'=>p os' σ' H' f (k.trans k')
  | bk ρ'=>exact fun os' σ' H' f k'=>p os' σ' H' f (k.trans k')
  | ct ρ'=>exact fun os' σ' H' f k'=>p os' σ' H' f (k.trans k')
  | rt d=>exact p
  | no=>exact p
@[irreducible] noncomputable def sPass:DS:=fun ρ=>.nx ρ
theorem ss_pass:SemS fr K tNext sPass:=fun f p=>by unfold sPass at p; exact p _ _ _ f Kp.refl
@[irreducible] noncomputable def sNo:DS:=fun _=>.no
theorem ss_never:SemS fr K tNever sNo:=fun f p=>by unfold sNo at p; exact p.elim
@[irreducible] noncomputable def sSeq (s u:DS):DS:=fun ρ=>match s ρ with
  | .nx ρ'=>u ρ'
  | r=>r
theorem ss_seq {t u:TS} {s w:DS} (h1:SemS fr K t s) (h2:SemS fr K u w):SemS fr K (tSeq t u) (sSeq s w):=fun {B Z os ρ σ H E} f p=>by
  refine h1 f ?_
  unfold sSeq at p
  cases e:s ρ with
  | nx ρ'=>rw [e] at p; exact fun os' σ' H' f' k=>h2 f' (p.kp k)
  | bk ρ'=>rw [e] at p; exact p
  | ct ρ'=>rw [e] at p; exact p
  | rt d=>rw [e] at p; exact p
  | no=>rw [e] at p; exact p
@[irreducible] noncomputable def sRet (a:DE):DS:=fun ρ=>match a ρ with
  | some d=>.rt d
  | none=>.no
theorem ss_ret {ta:TE} {a:DE} (h:SemI K ta a):SemS .v K (tRet ta) (sRet a):=fun {B Z os ρ σ H E} f p=>by
  unfold sRet at p
  cases e:a ρ with
  | none=>rw [e] at p; exact p.elim
  | some d=>rw [e] at p; exact h f e fun v H1 s1 i1=>p v H1 (f.keep.trans s1) (i1.kp (Kp.less fun a z=>.inl z))
@[irreducible] noncomputable def sIf (c:Rho→Option Bool) (s u:DS):DS:=fun ρ=>match c ρ with
  | some true=>s ρ
  | some false=>u ρ
  | none=>.no
theorem ss_if {tc:TT} {t u:TS} {c:Rho→Option Bool} {s w:DS} (hc:SemT K tc c) (h1:SemS fr K t s) (h2:SemS fr K u w):SemS fr K (tIfS tc t u) (sIf c s w):=fun {B Z os ρ σ H E} f p=>by
  unfold sIf at p
  split at p
  · rename_i e
    exact hc f e fun H1 s1=>iteT (h1 (f.grow s1) (p.kp (Kp.same s1)))
  · rename_i e
    exact hc f e fun H1 s1=>iteF (h2 (f.grow s1) (p.kp (Kp.same s1)))
  · exact p.elim
@[irreducible] noncomputable def sSet (i:Nat) (a:DE):DS:=fun ρ=>match a ρ with
  | some d=>.nx (ρ.set i (.pu d))
  | none=>.no
theorem ss_set {i:Nat} {ta:TE} {a:DE} (h:SemI K ta a):SemS fr K (tAsg ta (gName i)) (sSet i a):=fun {B Z os ρ σ H E} f p=>by
  unfold sSet at p
  cases e:a ρ with
  | none=>rw [e] at p; exact p.elim
  | some d =>
    rw [e] at p
    refine h f e fun v H1 s1 i1=>?_
    obtain ⟨os',f',k⟩:=(f.grow s1).putm (m:=true) i i1
    exact p os' _ _ f' ((Kp.same s1).trans k)
theorem ss_setC {i:Nat} {ta:TE} {a:DE} (h:SemI K ta a):SemS fr K (tSetC ta i) (sSet i a):=ss_set (i:=i) h
@[irreducible] noncomputable def sSetO (i:Nat) (a:Rho→Option (List D)):DS:=fun ρ=>match a ρ with
  | some ds=>if i < ρ.length then .nx (ρ.set i (.ol ds)) else .no
  | none=>.no
theorem ss_setO {i:Nat} {ta:TE} {a:Rho→Option (List D)} (h:SemF K ta a):SemS fr K (tAsg ta (gName i)) (sSetO i a):=fun {B Z os ρ σ H E} f p=>by
  unfold sSetO at p
  split at p
  · rename_i ds e
    by_cases hi:i < ρ.length
    · rw [if_pos hi] at p
      refine h f e fun x vs H1 s1 hx hx1 hl i1=>?_
      have st:=f.step (H':=H1) (i:=i) hi (o:=[x]) (s:=.ol ds) (v:=some (.ref x)) (fun a u e _=>s1 _ _ e) (fun a ha=>let ⟨xs,e⟩:=(f.sl i).dom ha; ⟨_,s1 _ _ e⟩) (by simp) (fun a ha=>by rw [List.mem_singleton.mp ha]; exact .inr hx)
        ⟨x,vs,rfl,rfl,hx1,hl,i1.kp (Kp.less fun a z=>?_)⟩
      · exact p _ _ _ st.1 st.2
      · rcases z with z | ⟨j,z⟩
        · exact .inr (.inl z)
        · by_cases hj:j=i
          · subst hj; rw [putO_same] at z; exact .inl (List.mem_singleton.mp z)
          · rw [putO_ne hj] at z; exact .inr (.inr ⟨j,z⟩)
    · rw [if_neg hi] at p; exact p.elim
  · exact p.elim
def frz (i:Nat) (ρ:Rho):Rho:=match ρ.getD i .un with
  | .ol ds=>ρ.set i (.pu (.lst ds))
  | .om rows=>ρ.set i (.pu (.lst (rows.map D.lst)))
  | _=>ρ
theorem set_self {σ:L2.St} {i:Nat} {v:V} (h:(σ[i]?).join=some v):σ.set i (some v)=σ:=by
  have e:=join_some h
  refine List.ext_getElem? fun j=>?_
  by_cases hj:i=j
  · subst hj
    rw [List.getElem?_set_self (List.getElem?_eq_some_iff.mp e).1,e]
  · rw [List.getElem?_set_ne hj]
theorem getD_lt {ρ:Rho} {i:Nat} {s:Sl} (h:ρ.getD i .un=s) (hs:s≠.un):i < ρ.length:=by
  by_cases hi:i < ρ.length
  · exact hi
  · rw [List.getD_eq_getElem?_getD,List.getElem?_eq_none (by omega)] at h
    exact absurd h.symm hs
theorem Fr.freeze {B H:Hp} {Z:Addr→Prop} {os:Own} {ρ:Rho} {σ:L2.St} (f:Fr K B Z os ρ σ H) (i:Nat):∃ os',Fr K B Z os' (frz i ρ) σ H∧Kp (tot Z os) H (tot Z os') H:=by
  unfold frz
  have less:∀ a,tot Z (putO os i []) a→tot Z os a:=by
    rintro a (z | ⟨j,z⟩)
    · exact .inl z
    · by_cases hj:j=i
      · subst hj; rw [putO_same] at z; cases z
      · rw [putO_ne hj] at z; exact .inr ⟨j,z⟩
  cases e:ρ.getD i .un with
  | ol ds =>
    have s:=f.sl i
    rw [e] at s
    obtain ⟨a,vs,eo,hu,hH,hl,i1⟩:=s
    have hi:=getD_lt e (by intro z; cases z)
    have st:=f.step (H':=H) (i:=i) hi (o:=[]) (s:=.pu (.lst ds)) (v:=some (.ref a)) (fun a u e _=>e) (fun a ha=>let ⟨xs,e⟩:=(f.sl i).dom ha; ⟨_,e⟩) List.nodup_nil (fun a h=>by cases h)
      ⟨rfl,_,rfl,.lst (fun z=>?_) (.inl hH) hl (i1.kp (Kp.less less))⟩
    · rw [set_self hu] at st
      exact ⟨_,st⟩
    · rcases z with z | ⟨j,z⟩
      · exact (f.new i a (by rw [eo]; exact List.mem_singleton.mpr rfl)).2 z
      · by_cases hj:j=i
        · subst hj; rw [putO_same] at z; cases z
        · rw [putO_ne hj] at z; exact hj (f.dj j i a z (by rw [eo]; exact List.mem_singleton.mpr rfl))
  | om rows =>
    have s:=f.sl i
    rw [e] at s
    obtain ⟨a,ps,eo,hu,hH,hl,i1⟩:=s
    have hi:=getD_lt e (by intro z; cases z)
    have out:∀ b,b∈os i→¬ tot Z (putO os i []) b:=by
      rintro b hb (z | ⟨j,z⟩)
      · exact (f.new i b hb).2 z
      · by_cases hj:j=i
        · subst hj; rw [putO_same] at z; cases z
        · rw [putO_ne hj] at z; exact hj (f.dj j i b z hb)
    have rowsI:∀ {ps:List Addr} {rows:List (List D)},(∀ p∈ps,p∈os i)→Paired (fun p ds=>∃ vs,H p=some (.lst vs)∧vs.length≤sizeLine∧IsL K H (tot Z os) vs ds) ps rows→IsL K H (tot Z (putO os i [])) (ps.map V.ref) (rows.map D.lst):=by
      intro ps rows hp r
      induction r with
      | nil=>exact .nil
      | cons h _ ih =>
        obtain ⟨vs,q,hv,j⟩:=h
        exact .cons (.lst (out _ (hp _ List.mem_cons_self)) (.inl q) hv (j.kp (Kp.less less))) (ih fun p h=>hp p (List.mem_cons_of_mem _ h))
    have st:=f.step (H':=H) (i:=i) hi (o:=[]) (s:=.pu (.lst (rows.map D.lst))) (v:=some (.ref a)) (fun a u e _=>e) (fun a ha=>let ⟨xs,e⟩:=(f.sl i).dom ha; ⟨_,e⟩) List.nodup_nil (fun a h=>by cases h)
      ⟨rfl,_,rfl,.lst (out a (by rw [eo]; exact List.mem_cons_self)) (.inl hH) (by rw [List.length_map]; exact hl) (rowsI (fun p hp=>by rw [eo]; exact List.mem_cons_of_mem _ hp) i1)⟩
    rw [set_self hu] at st
    exact ⟨_,st⟩
  | un=>exact ⟨os,f,Kp.refl⟩
  | pu d=>exact ⟨os,f,Kp.refl⟩
  | bo d=>exact ⟨os,f,Kp.refl⟩
@[irreducible] noncomputable def sFrz (i:Nat) (s:DS):DS:=fun ρ=>s (frz i ρ)
theorem ss_frz {t:TS} {s:DS} (i:Nat) (h:SemS fr K t s):SemS fr K t (sFrz i s):=fun {B Z os ρ σ H E} f p=>by
  obtain ⟨os',f',k⟩:=f.freeze i
  unfold sFrz at p
  exact h f' (Post.kp k p)
theorem Fr.mutO {B H:Hp} {Z:Addr→Prop} {os:Own} {ρ:Rho} {σ:L2.St} (f:Fr K B Z os ρ σ H) {i:Nat} {a:Addr} {ds ds':List D} {vs':List V} (e:ρ.getD i .un=.ol ds) (hu:(σ[i]?).join=some (.ref a)) (hl:vs'.length≤sizeLine) (h:IsL K H (tot Z os) vs' ds') :
    ∃ os',Fr K B Z os' (ρ.set i (.ol ds')) σ (upd H a (.lst vs'))∧Kp (tot Z os) H (tot Z os') (upd H a (.lst vs')):=by
  have s:=f.sl i
  rw [e] at s
  obtain ⟨b,vs,eo,hu',hH,_,_⟩:=s
  rw [hu] at hu'
  cases hu'
  have hi:=getD_lt e (by intro z; cases z)
  have ha:a∈os i:=by rw [eo]; exact List.mem_singleton.mpr rfl
  have st:=f.step (H':=upd H a (.lst vs')) (i:=i) hi (o:=[a]) (s:=.ol ds') (v:=some (.ref a)) (fun b u e n=>by rw [upd_ne (fun z=>n (by rw [z]; exact ha))]; exact e) (fun b hb=>?_) (by simp) (fun b hb=>by rw [List.mem_singleton.mp hb]; exact .inl ha)
    ⟨a,vs',rfl,rfl,upd_same,hl,h.kp fun b u e z=>⟨?_,fun q=>z ?_⟩⟩
  · rw [set_self hu] at st
    exact ⟨_,st⟩
  · rw [eo] at hb; rw [List.mem_singleton.mp hb]; exact ⟨_,upd_same⟩
  · rw [upd_ne (fun w=>z (.inr ⟨i,by rw [w]; exact ha⟩))]; exact e
  · rcases q with q | ⟨j,q⟩
    · exact .inl q
    · by_cases hj:j=i
      · subst hj; rw [putO_same] at q; exact .inr ⟨j,by rw [List.mem_singleton.mp q]; exact ha⟩
      · rw [putO_ne hj] at q; exact .inr ⟨j,q⟩
theorem ol_of {B H:Hp} {Z:Addr→Prop} {os:Own} {ρ:Rho} {σ:L2.St} (f:Fr K B Z os ρ σ H) {i:Nat} {ds:List D} (e:ρ.getD i .un=.ol ds):∃ a vs,(σ[i]?).join=some (.ref a)∧H a=some (.lst vs)∧vs.length≤sizeLine∧IsL K H (tot Z os) vs ds:=by
  have s:=f.sl i
  rw [e] at s
  obtain ⟨b,vs,eo,hu',hH,hl,r⟩:=s
  exact ⟨b,vs,hu',hH,hl,r⟩
@[irreducible] noncomputable def sApp (i:Nat) (a:DE):DS:=fun ρ=>match ρ.getD i .un with
  | .ol ds=>(match a ρ with
    | some d=>if ds.length<sizeLine then .nx (ρ.set i (.ol (ds++[d]))) else .no
    | none=>.no)
  | _=>.no
theorem ss_app {i:Nat} {ta:TE} {a:DE} (h:SemI K ta a):SemS fr K (tDrop (tBM K "list" rAppend (tVar i) (tCons ta tNil))) (sApp i a):=fun {B Z os ρ σ H E} f p=>by
  unfold sApp at p
  split at p
  · rename_i ds e
    split at p
    · rename_i d e2
      by_cases hz:ds.length<sizeLine
      · rw [if_pos hz] at p
        obtain ⟨x,vs,hu,hH,hl,r⟩:=ol_of f e
        refine ⟨_,join_some hu,.inl ⟨rfl,_,SqL.of hH⟩,h f e2 fun v H1 s1 i1=>?_⟩
        have f1:=f.grow s1
        have r1:=r.same s1
        have hlen:vs.length<sizeLine:=by rw [r.length]; exact hz
        obtain ⟨os',f',k⟩:=f1.mutO (vs':=vs++[v]) (ds':=ds++[d]) e hu (by rw [List.length_append,List.length_singleton]; omega) (r1.append (.one i1))
        exact ⟨x,vs,v,rfl,rfl,s1 _ _ hH,hlen,p os' _ _ f' ((Kp.same s1).trans k)⟩
      · rw [if_neg hz] at p; exact p.elim
    · exact p.elim
  · exact p.elim
@[irreducible] noncomputable def sExt (i:Nat) (a:DE):DS:=fun ρ=>match ρ.getD i .un with
  | .ol ds=>(match a ρ with
    | some (.lst es)=>if ds.length+es.length≤sizeLine then .nx (ρ.set i (.ol (ds++es))) else .no
    | _=>.no)
  | _=>.no
theorem ss_ext {i:Nat} {ta:TE} {a:DE} (h:SemI K ta a):SemS fr K (tDrop (tBM K "list" rExtR (tVar i) (tCons ta tNil))) (sExt i a):=fun {B Z os ρ σ H E} f p=>by
  unfold sExt at p
  split at p
  · rename_i ds e
    split at p
    · rename_i es e2
      by_cases hz:ds.length+es.length≤sizeLine
      · rw [if_pos hz] at p
        obtain ⟨x,vs,hu,hH,hl,r⟩:=ol_of f e
        refine ⟨_,join_some hu,.inl ⟨rfl,_,SqL.of hH⟩,h f e2 fun v H1 s1 i1=>?_⟩
        obtain ⟨b,us,rfl,_,hb,_,r2⟩:=i1.isLst
        have f1:=f.grow s1
        have r1:=r.same s1
        have hlen:vs.length+us.length≤sizeLine:=by rw [r.length,r2.length]; exact hz
        obtain ⟨os',f',k⟩:=f1.mutO (vs':=vs++us) (ds':=ds++es) e hu (by rw [List.length_append]; exact hlen) (r1.append r2)
        exact ⟨x,b,vs,us,rfl,rfl,s1 _ _ hH,hb,hlen,p os' _ _ f' ((Kp.same s1).trans k)⟩
      · rw [if_neg hz] at p; exact p.elim
    · exact p.elim
  · exact p.elim
@[irreducible] noncomputable def sIns (i:Nat) (a b:DE):DS:=fun ρ=>match ρ.getD i .un with
  | .ol ds=>(match a ρ with
    | some (.int n)=>(match b ρ with
      | some d=>if 0≤n∧n≤ds.length∧ds.length<sizeLine then .nx (ρ.set i (.ol (ds.take n.toNat++d::ds.drop n.toNat))) else .no
      | none=>.no)
    | _=>.no)
  | _=>.no
theorem ss_ins {i:Nat} {ta tb:TE} {a b:DE} (ha:SemB K ta a) (hb:SemI K tb b):SemS fr K (tDrop (tBM K "list" rInsert (tVar i) (tCons ta (tCons tb tNil)))) (sIns i a b):=fun {B Z os ρ σ H E} f p=>by
  unfold sIns at p
  split at p
  · rename_i ds e
    split at p
    · rename_i n e2
      split at p
      · rename_i d e3
        by_cases hz:0≤n∧n≤ds.length∧ds.length<sizeLine
        · rw [if_pos hz] at p
          obtain ⟨x,vs,hu,hH,hl,r⟩:=ol_of f e
          refine ⟨_,join_some hu,.inl ⟨rfl,_,SqL.of hH⟩,ha f e2 fun v H1 s1 i1=>hb (f.grow s1) e3 fun w H2 s2 i2=>?_⟩
          have s12:=s1.trans s2
          have f1:=f.grow s12
          have r1:=r.same s12
          have hlen:=r.length
          obtain ⟨os',f',k⟩:=f1.mutO (vs':=vs.take n.toNat++w::vs.drop n.toNat) (ds':=ds.take n.toNat++d::ds.drop n.toNat) e hu (by rw [List.length_append,List.length_cons,List.length_take,List.length_drop]; omega) ((r1.take _).append (.cons i2 (r1.drop _)))
          exact ⟨x,vs,n,w,rfl,by rw [i1.isInt],s12 _ _ hH,hz.1,by omega,by omega,p os' _ _ f' ((Kp.same s12).trans k)⟩
        · rw [if_neg hz] at p; exact p.elim
      · exact p.elim
    · exact p.elim
  · exact p.elim
@[irreducible] noncomputable def sPut (i:Nat) (b a:DE):DS:=fun ρ=>match ρ.getD i .un with
  | .ol ds=>(match a ρ with
    | some d=>(match b ρ with
      | some (.int n)=>(match ixN ds.length n with
        | some j=>.nx (ρ.set i (.ol (ds.set j d)))
        | none=>.no)
      | _=>.no)
    | none=>.no)
  | _=>.no
theorem ss_put {i:Nat} {ta tb:TE} {a b:DE} (ha:SemI K ta a) (hb:SemB K tb b):SemS fr K (tAsg ta (gSub (tVar i) tb rSetL)) (sPut i b a):=fun {B Z os ρ σ H E} f p=>by
  unfold sPut at p
  split at p
  · rename_i ds e
    split at p
    · rename_i d e2
      split at p
      · rename_i n e3
        split at p
        · rename_i j e4
          obtain ⟨x,vs,hu,hH,hl,r⟩:=ol_of f e
          refine ha f e2 fun v H1 s1 i1=>⟨_,join_some hu,hb (f.grow s1) e3 fun w H2 s2 i2=>?_⟩
          have s12:=s1.trans s2
          have f1:=f.grow s12
          have r1:=r.same s12
          obtain ⟨os',f',k⟩:=f1.mutO (vs':=vs.set j v) (ds':=ds.set j d) e hu (by rw [List.length_set]; exact hl) (r1.set (i1.same s2) j)
          exact ⟨x,vs,n,j,rfl,i2.isInt,s12 _ _ hH,by rw [r.length]; exact e4,p os' _ _ f' ((Kp.same s12).trans k)⟩
        · exact p.elim
      · exact p.elim
    · exact p.elim
  · exact p.elim
@[irreducible] noncomputable def sAugP (g:Int→Int→Int) (i:Nat) (b a:DE):DS:=fun ρ=>match ρ.getD i .un with
  | .ol ds=>(match b ρ with
    | some (.int n)=>(match ixN ds.length n with
      | some j=>(match ds[j]? with
        | some (.int x)=>(match a ρ with
          | some (.int y)=>.nx (ρ.set i (.ol (ds.set j (.int (g x y)))))
          | _=>.no)
        | _=>.no)
      | none=>.no)
    | _=>.no)
  | _=>.no
theorem ss_augP {i:Nat} {g:Int→Int→Int} {ta tb:TE} {a b:DE} (hb:SemB K tb b) (ha:SemB K ta a):SemS fr K (tAugS (tVar i) tb ta (rIxL K) (ipI g) rSetL) (sAugP g i b a):=fun {B Z os ρ σ H E} f p=>by
  unfold sAugP at p
  split at p
  · rename_i ds e
    split at p
    · rename_i n e3
      split at p
      · rename_i j e4
        split at p
        · rename_i x e5
          split at p
          · rename_i y e6
            obtain ⟨ad,vs,hu,hH,hl,r⟩:=ol_of f e
            refine ⟨_,join_some hu,hb f e3 fun w H1 s1 i1=>?_⟩
            obtain ⟨v,ev,iv⟩:=r.get e5
            refine ⟨ad,vs,n,v,rfl,i1.isInt,SqL.of (s1 _ _ hH),?_,ha (f.grow s1) e6 fun u H2 s2 i2=>⟨x,y,iv.isInt,i2.isInt,?_⟩⟩
            · unfold atI; rw [r.length,e4]; exact ev
            · have s12:=s1.trans s2
              have f1:=f.grow s12
              have r1:=r.same s12
              obtain ⟨os',f',k⟩:=f1.mutO (vs':=vs.set j (.int (g x y))) (ds':=ds.set j (.int (g x y))) e hu (by rw [List.length_set]; exact hl) (r1.set (.int _) j)
              exact ⟨ad,vs,n,j,rfl,i1.isInt,s12 _ _ hH,by rw [r.length]; exact e4,p os' _ _ f' ((Kp.same s12).trans k)⟩
          · exact p.elim
        · exact p.elim
      · exact p.elim
    · exact p.elim
  · exact p.elim
@[irreducible] noncomputable def sAug (g:Int→Int→Int) (i:Nat) (a:DE):DS:=fun ρ=>match dVar i ρ with
  | some (.int x)=>(match a ρ with
    | some (.int y)=>.nx (ρ.set i (.pu (.int (g x y))))
    | _=>.no)
  | _=>.no
theorem ss_aug {i:Nat} {g:Int→Int→Int} {ta:TE} {a:DE} (ha:SemB K ta a):SemS fr K (tAug i ta (ipI g)) (sAug g i a):=fun {B Z os ρ σ H E} f p=>by
  unfold sAug at p
  split at p
  · rename_i x e
    split at p
    · rename_i y e2
      have q:=sb_var i f (Q:=fun v H'=>v=.int x∧H'=H) e
      obtain ⟨u,hu,ix⟩:∃ u,σ[i]?=some (some u)∧u=.int x:=by
        have s:=f.sl i
        unfold dVar at e
        cases e0:ρ.getD i .un with
        | un=>rw [e0] at e; cases e
        | pu d=>rw [e0] at e s; cases e; obtain ⟨_,u,hu,i1⟩:=s; exact ⟨u,join_some hu,i1.isInt⟩
        | bo d=>rw [e0] at e s; cases e; obtain ⟨_,u,hu,i1⟩:=s; exact ⟨u,join_some hu,i1.isInt⟩
        | ol d=>rw [e0] at e; cases e
        | om d=>rw [e0] at e; cases e
      refine ⟨u,hu,ha f e2 fun v H1 s1 i1=>⟨x,y,ix,i1.isInt,?_⟩⟩
      obtain ⟨os',f',k⟩:=(f.grow s1).putm (m:=true) i (v:=.int (g x y)) (d:=.int (g x y)) (.int _)
      exact p os' _ _ f' ((Kp.same s1).trans k)
    · exact p.elim
  · exact p.elim
def forD (g:DG) (b:DS):List D→DS
  | [],ρ=>.nx ρ
  | d::ds,ρ=>match g d ρ with
    | none=>.no
    | some ρ1=>match b ρ1 with
      | .nx ρ2=>forD g b ds ρ2
      | .ct ρ2=>forD g b ds ρ2
      | .bk ρ2=>.nx ρ2
      | .rt d=>.rt d
      | .no=>.no
@[irreducible] noncomputable def sFor (it:Rho→Option (List D)) (g:DG) (b:DS):DS:=fun ρ=>match it ρ with
  | some ds=>forD g b ds ρ
  | none=>.no
theorem ss_for {m:Bool} {wi:TI} {t:TG} {tb:TS} {it:Rho→Option (List D)} {g:DG} {b:DS} (hw:SemW K m wi it) (hg:SemG K m t g) (hb:SemS fr K tb b):SemS fr K (tFor wi t tb) (sFor it g b):=fun {B Z os ρ σ H E} f p=>by
  unfold sFor at p
  split at p
  · rename_i ds e0
    refine hw f e0 fun J H1 s1 W=>?_
    refine ⟨fun i m σ' H'=>∃ os' ρ',m=ds.length-i∧i≤ds.length∧Fr K B Z os' ρ' σ' H'∧Kp (tot Z os) H1 (tot Z os') H'∧Post fr K B Z os H1 E (forD g b (ds.drop i) ρ'),⟨_,os,ρ,rfl,Nat.zero_le _,f.grow s1,Kp.refl,Post.kp (Kp.same s1) p⟩,?_⟩
    rintro i mm σ2 H2 ⟨os2,ρ2,rfl,hi,f2,k2,p2⟩
    by_cases hlt:i<ds.length
    · have ex:ds[i]?=some ds[i]:=List.getElem?_eq_getElem hlt
      obtain ⟨go,yl⟩:=W.go i ds[i] H2 _ k2 f2.keep f2.tin ex
      rw [List.drop_eq_getElem_cons hlt] at p2
      refine .inr ⟨go,fun σ' H'=>∃ os' ρ',Fr K B Z os' ρ' σ' H'∧Kp (tot Z os) H1 (tot Z os') H'∧Post fr K B Z os H1 E (forD g b (ds.drop (i+1)) ρ'),fun σ' H' ⟨os',ρ',h1,h2,h3⟩=>⟨_,by omega,os',ρ',rfl,hlt,h1,h2,h3⟩,fun x H3 hy=>?_⟩
      obtain ⟨s3,er⟩:=yl x H3 hy
      unfold forD at p2
      split at p2
      · exact p2.elim
      · rename_i ρ1 e1
        have er':ER K m B H3 (tot Z os2) x ds[i]:=er
        refine hg (f2.grow s3) er' e1 fun os3 σ3 f3 k3=>hb f3 ?_
        have k13:Kp (tot Z os) H1 (tot Z os3) H3:=(k2.trans (Kp.same s3)).trans k3
        split at p2
        · rename_i ρ4 e4
          rw [e4]
          exact fun os' σ' H' f' k'=>⟨os',_,f',k13.trans k',p2⟩
        · rename_i ρ4 e4
          rw [e4]
          exact fun os' σ' H' f' k'=>⟨os',_,f',k13.trans k',p2⟩
        · rename_i ρ4 e4
          rw [e4]
          exact fun os' σ' H' f' k'=>p2 os' σ' H' f' (k13.trans k')
        · rename_i d e4
          rw [e4]
          exact p2
        · exact p2.elim
    · have e:i=ds.length:=by omega
      subst e
      rw [List.drop_length] at p2
      exact .inl ⟨W.stop _ H2 _ k2 f2.keep rfl,p2 os2 σ2 H2 f2 k2⟩
  · exact p.elim
def whN (c:Rho→Option Bool) (b:DS):Nat→DS
  | 0,ρ=>match c ρ with
    | some false=>.nx ρ
    | _=>.no
  | n+1,ρ=>match c ρ with
    | some false=>.nx ρ
    | some true=>(match b ρ with
      | .nx ρ'=>whN c b n ρ'
      | .ct ρ'=>whN c b n ρ'
      | .bk ρ'=>.nx ρ'
      | .rt d=>.rt d
      | .no=>.no)
    | none=>.no
@[irreducible] noncomputable def sWhile (c:Rho→Option Bool) (b:DS):DS:=fun ρ=>if h:∃ n,whN c b n ρ≠.no then whN c b h.choose ρ else .no
theorem whN_mono {c:Rho→Option Bool} {b:DS}:∀ {n:Nat} {ρ:Rho},whN c b n ρ≠.no→whN c b (n+1) ρ=whN c b n ρ
  | 0,ρ,h=>by
    unfold whN at h ⊢
    split at h
    · rename_i e; rw [e]
    · exact absurd rfl h
  | n+1,ρ,h=>by
    have e1:whN c b (n+1+1) ρ=(match c ρ with | some false=>.nx ρ | some true=>(match b ρ with | .nx ρ'=>whN c b (n+1) ρ' | .ct ρ'=>whN c b (n+1) ρ' | .bk ρ'=>.nx ρ' | .rt d=>.rt d | .no=>.no) | none=>.no):=rfl
    have e2:whN c b (n+1) ρ=(match c ρ with | some false=>.nx ρ | some true=>(match b ρ with | .nx ρ'=>whN c b n ρ' | .ct ρ'=>whN c b n ρ' | .bk ρ'=>.nx ρ' | .rt d=>.rt d | .no=>.no) | none=>.no):=rfl
    rw [e1]
    rw [e2] at h ⊢
    cases e3:c ρ with
    | none=>rfl
    | some x =>
      rw [e3] at h
      cases x with
      | false=>rfl
      | true =>
        cases e4:b ρ with
        | nx ρ'=>rw [e4] at h; exact whN_mono h
        | ct ρ'=>rw [e4] at h; exact whN_mono h
        | _=>rfl
theorem whN_le {c:Rho→Option Bool} {b:DS} {n k:Nat} {ρ:Rho} (h:whN c b n ρ≠.no):whN c b (n+k) ρ=whN c b n ρ:=by
  induction k with
  | zero=>rfl
  | succ k ih=>rw [← Nat.add_assoc,whN_mono (by rw [ih]; exact h),ih]
theorem sWhile_of {c:Rho→Option Bool} {b:DS} {n:Nat} {ρ:Rho} {r:Res} (h:whN c b n ρ=r) (hr:r≠.no):sWhile c b ρ=r:=by
  have ex:∃ n,whN c b n ρ≠.no:=⟨n,by rw [h]; exact hr⟩
  unfold sWhile
  rw [dif_pos ex]
  have q:=ex.choose_spec
  generalize ex.choose=m at q
  have e1:=whN_le (k:=n) q
  have e2:=whN_le (k:=m) (show whN c b n ρ≠.no by rw [h]; exact hr)
  rw [Nat.add_comm] at e2
  rw [← e1,e2,h]
theorem ss_while {tc:TT} {tb:TS} {c:Rho→Option Bool} {b:DS} (hc:SemT K tc c) (hb:SemS fr K tb b):SemS fr K (tWhile tc tb) (sWhile c b):=fun {B Z os ρ σ H E} f p=>by
  unfold sWhile at p
  by_cases ex:∃ n,whN c b n ρ≠.no
  · rw [dif_pos ex] at p
    generalize ex.choose=n0 at p
    refine ⟨fun m σ' H'=>∃ os' ρ',Fr K B Z os' ρ' σ' H'∧Kp (tot Z os) H (tot Z os') H'∧Post fr K B Z os H E (whN c b m ρ'),⟨n0,os,ρ,f,Kp.refl,p⟩,?_⟩
    rintro m σ2 H2 ⟨os2,ρ2,f2,k2,p2⟩
    cases m with
    | zero =>
      unfold whN at p2
      split at p2
      · rename_i e
        exact hc f2 e fun H3 s3=>iteF (p2 os2 σ2 H3 (f2.grow s3) (k2.trans (Kp.same s3)))
      · exact p2.elim
    | succ m =>
      have p2:Post fr K B Z os H E (match c ρ2 with | some false=>.nx ρ2 | some true=>(match b ρ2 with | .nx ρ'=>whN c b m ρ' | .ct ρ'=>whN c b m ρ' | .bk ρ'=>.nx ρ' | .rt d=>.rt d | .no=>.no) | none=>.no):=p2
      cases e:c ρ2 with
      | none=>rw [e] at p2; exact p2.elim
      | some x =>
        rw [e] at p2
        cases x with
        | false=>exact hc f2 e fun H3 s3=>iteF (p2 os2 σ2 H3 (f2.grow s3) (k2.trans (Kp.same s3)))
        | true =>
          refine hc f2 e fun H3 s3=>iteT ⟨fun σ' H'=>∃ os' ρ',Fr K B Z os' ρ' σ' H'∧Kp (tot Z os) H (tot Z os') H'∧Post fr K B Z os H E (whN c b m ρ'),fun σ' H' h=>⟨m,Nat.lt_succ_self _,h⟩,hb (f2.grow s3) ?_⟩
          have k3:=k2.trans (Kp.same s3)
          cases e4:b ρ2 with
          | nx ρ'=>rw [e4] at p2; exact fun os' σ' H' f' k'=>⟨os',_,f',k3.trans k',p2⟩
          | ct ρ'=>rw [e4] at p2; exact fun os' σ' H' f' k'=>⟨os',_,f',k3.trans k',p2⟩
          | bk ρ'=>rw [e4] at p2; exact fun os' σ' H' f' k'=>p2 os' σ' H' f' (k3.trans k')
          | rt d=>rw [e4] at p2; exact p2
          | no=>rw [e4] at p2; exact p2.elim
  · rw [dif_neg ex] at p; exact p.elim
def stD (n:Nat) (ms:List Bool) (ds:List D):Rho:=List.zipWith slm ms ds++List.replicate (n-ds.length) .un
@[irreducible] def runD (n:Nat) (ms:List Bool) (b:DS) (ds:List D):Option D:=match b (stD n ms ds) with
  | .rt d=>some d
  | .nx _=>some .non
  | _=>none
@[irreducible] def runF (n:Nat) (ms:List Bool) (b:DS) (ds:List D):Option D:=match b (stD n ms ds) with
  | .rt d=>some d
  | _=>none
theorem startFr {H:Hp} {Z:Addr→Prop} {N:List Str} {ms:List Bool} {vs:List V} {ds:List D} (hz:ZT Z H) (h:Args K H Z ms vs ds):Fr K H Z (fun _=>[]) (stD N.length ms ds) (L2.start N vs) H where
  keep:=Same.refl _
  zin:=hz.1
  tab:=hz.2
  len:=by
    unfold stD L2.start
    have:=h.len
    simp only [List.length_append,List.length_map,List.length_replicate,List.length_zipWith]
    omega
  nd:=fun _=>List.nodup_nil
  dj:=fun _ _ _ h=>by cases h
  new:=fun _ _ h=>by cases h
  sl:=fun j=>by
    have hl:=h.len
    have key:∀ {ms:List Bool} {vs:List V} {ds:List D} (j:Nat),Args K H Z ms vs ds→j<ms.length→SlOk K H H (tot Z fun _=>[]) [] (((List.zipWith slm ms ds)[j]?).getD .un) ((vs.map some)[j]?.join):=by
      intro ms vs ds j h
      induction h generalizing j with
      | nil=>intro hj; simp at hj
      | own i _ ih =>
        intro hj
        cases j with
        | zero=>exact ⟨rfl,_,rfl,i.kp (Kp.less fun a z=>z.elim id fun ⟨_,w⟩=>by cases w)⟩
        | succ j=>exact ih j (by simpa using hj)
      | any i _ ih =>
        intro hj
        cases j with
        | zero=>exact ⟨rfl,_,rfl,i⟩
        | succ j=>exact ih j (by simpa using hj)
    unfold stD L2.start
    rw [List.getD_eq_getElem?_getD]
    by_cases hj:j<ms.length
    · rw [List.getElem?_append_left (by rw [List.length_zipWith]; omega),List.getElem?_append_left (by rw [List.length_map]; omega)]
      exact key j h hj
    · rw [List.getElem?_append_right (by rw [List.length_zipWith]; omega),List.getElem?_replicate]
      split <;> exact rfl
theorem Fun.okD {P:Program} {w:World} {mg:Str→Option Value} {base:Heap} {x qual:Str} {st:Stmt} {f:Addr} {fd:FuncData} {N ps:List Str} {k:Nat} (F:Fun K x qual st f fd) (S:FnScope N ps (defScope st)) (ms:List Bool) (hms:ms.length=ps.length) (b:DS)
    (hbody:∀ (cdv:Value) (A:Around) (outer:List Env) (s:Shared) (H:Hp) (E:XK),Room k (A.deeper (PyProof.Rows.envOfC qual (defScope st) s.heap.objs.size f cdv)) →
      ∃ t,PSs (cxOf CX0 P w K mg base N qual (defScope st) f cdv A outer s H E).nox (defBody st) t∧SemS .v K t b):FnOk P w K mg base CX0 (k+1) f fd ps (spD .v K ms (runD N.length ms b)):=by
  refine F.ok S (fun vs H Q E h=>?_) (fun cdv A outer s H vs Q E hr h=>?_)
  · obtain ⟨Z,ds,d,hz,a,_⟩:=h
    rw [a.len.1,hms]
  · obtain ⟨Z,ds,d,hz,a,e,k⟩:=h
    obtain ⟨t,h1,h2⟩:=hbody cdv A outer s H E hr
    refine ⟨t,h1,h2 (startFr hz a) ?_⟩
    unfold runD at e
    split at e
    · rename_i d' e1
      cases e
      rw [e1]
      exact fun v H' s' i=>k v H' s' i
    · rename_i ρ e1
      cases e
      rw [e1]
      exact fun os' σ' H' f' _=>k _ H' f'.keep .non
    · cases e
theorem Fun.okF {P:Program} {w:World} {mg:Str→Option Value} {base:Heap} {x qual:Str} {st:Stmt} {f:Addr} {fd:FuncData} {N ps:List Str} {k:Nat} (F:Fun K x qual st f fd) (S:FnScope N ps (defScope st)) (ms:List Bool) (hms:ms.length=ps.length) (b:DS)
    (hbody:∀ (cdv:Value) (A:Around) (outer:List Env) (s:Shared) (H:Hp) (E:XK),Room k (A.deeper (PyProof.Rows.envOfC qual (defScope st) s.heap.objs.size f cdv)) →
      ∃ t,PSs (cxOf CX0 P w K mg base N qual (defScope st) f cdv A outer s H E).nox (defBody st) t∧SemS fr K t b) (hfr:∀ E C,fr≠.x E C:=by intro _ _ h; cases h):FnOk P w K mg base CX0 (k+1) f fd ps (spD fr K ms (runF N.length ms b)):=by
  refine F.ok S (fun vs H Q E h=>?_) (fun cdv A outer s H vs Q E hr h=>?_)
  · obtain ⟨Z,ds,d,hz,a,_⟩:=h
    rw [a.len.1,hms]
  · obtain ⟨Z,ds,d,hz,a,e,k⟩:=h
    obtain ⟨t,h1,h2⟩:=hbody cdv A outer s H E hr
    refine ⟨t,h1,h2 (startFr hz a) ?_⟩
    unfold runF at e
    split at e
    · rename_i d' e1
      cases e
      rw [e1]
      cases fr with
      | v=>exact fun v H' s' i=>k v H' s' i
      | l=>exact fun v H' s' i=>k v H' s' i
      | m=>exact fun v H' s' i=>k v H' s' i
      | x E0 C=>exact absurd rfl (hfr E0 C)
    · cases e
end
end VL
namespace L2
open PySem PySem.Spec PyProof.Rows
open VL (s0)
section
variable {X:Cx}
inductive SubL (X:Cx):List (Str×Addr)→Prop
  | nil:SubL X []
  | cons {z:Str} {c:Addr} {r:List (Str×Addr)}:X.env.cells.lookup z=some c→SubL X r→SubL X ((z,c)::r)
theorem SubL.sub {cl:List (Str×Addr)} (h:SubL X cl):∀ x c,cl.lookup x=some c→X.env.cells.lookup x=some c:=by
  induction h with
  | nil=>intro x c e; cases e
  | @cons z c r h _ ih =>
    intro x c' e
    rw [List.lookup_cons] at e
    cases q:x==z with
    | true=>rw [q] at e; cases e; rw [eq_of_beq q]; exact h
    | false=>rw [q] at e; exact ih x c' e
inductive CapL (X:Cx) (scope:Scope) (cl:List (Str×Addr)):List Nat→List Str→Prop
  | nil:CapL X scope cl [] []
  | cons {i:Nat} {z:Str} {c:Addr} {is:List Nat} {zs:List Str}:X.N[i]?=some z→(X.env.scope.names.lookup z=some .cell∨X.env.scope.names.lookup z=some .free)→cl.lookup z=some c →
      ((relabel scope X.env).names.lookup z=some .cell∨(relabel scope X.env).names.lookup z=some .free)→CapL X scope cl is zs→CapL X scope cl (i::is) (z::zs)
theorem CapL.get {scope:Scope} {cl:List (Str×Addr)} {is:List Nat} {zs:List Str} (h:CapL X scope cl is zs):∀ (j:Nat) (z:Str),zs[j]?=some z→∃ i c,is[j]?=some i∧X.N[i]?=some z∧(X.env.scope.names.lookup z=some .cell∨X.env.scope.names.lookup z=some .free)∧cl.lookup z=some c ∧
      ((relabel scope X.env).names.lookup z=some .cell∨(relabel scope X.env).names.lookup z=some .free):=by
  induction h with
  | nil=>intro j z e; simp at e
  | cons h1 h2 h3 h4 _ ih =>
    intro j z e
    cases j with
    | zero=>cases e; exact ⟨_,_,rfl,h1,h2,h3,h4⟩
    | succ j=>exact ih j z (by simpa using e)
theorem CapL.len {scope:Scope} {cl:List (Str×Addr)} {is:List Nat} {zs:List Str} (h:CapL X scope cl is zs):is.length=zs.length:=by
  induction h with
  | nil=>rfl
  | cons _ _ _ _ _ ih=>simp [ih]
def Low (k:Nat) (g:TG):Prop:=∀ x σ H (Q:St→Hp→Prop),g x σ H Q→∃ σ2 H2,Q σ2 H2∧σ2.length=σ.length∧(∀ j,k≤j→σ2[j]?=σ[j]?)∧∀ Q':St→Hp→Prop,Q' σ2 H2→g x σ H Q'
def Lows (k:Nat) (g:TGs):Prop:=∀ x σ H (Q:St→Hp→Prop),g x σ H Q→∃ σ2 H2,Q σ2 H2∧σ2.length=σ.length∧(∀ j,k≤j→σ2[j]?=σ[j]?)∧∀ Q':St→Hp→Prop,Q' σ2 H2→g x σ H Q'
theorem low_name {k i:Nat} (h:i<k):Low k (gName i):=fun x σ H Q q=>⟨_,_,q,List.length_set,fun j hj=>by rw [List.getElem?_set_ne (by omega)],fun _ z=>z⟩
theorem lows_nil {k:Nat}:Lows k gNil:=fun x σ H Q q=>⟨_,_,q.2,rfl,fun _ _=>rfl,fun _ z=>⟨q.1,z⟩⟩
theorem lows_cons {t:TG} {u:TGs} {k:Nat} (h1:Low k t) (h2:Lows k u):Lows k (gCons t u):=fun x σ H Q q=>by
  obtain ⟨v,r,e,q⟩:=q
  obtain ⟨σ1,H1,q1,l1,k1,g1⟩:=h1 _ _ _ _ q
  obtain ⟨σ2,H2,q2,l2,k2,g2⟩:=h2 _ _ _ _ q1
  exact ⟨σ2,H2,q2,l2.trans l1,fun j hj=>(k2 j hj).trans (k1 j hj),fun Q' z=>⟨v,r,e,g1 _ (g2 Q' z)⟩⟩
theorem low_seq {K:PySem.W.Frag} {u:TGs} {k n:Nat} (h:Lows k u):Low k (gSeq K n u):=fun x σ H Q q=>by
  rcases q with ⟨a,xs,e,hs,hl,q⟩ | ⟨a,xs,e,hs,hl,q⟩
  · obtain ⟨σ1,H1,q1,l1,k1,g1⟩:=h _ _ _ _ q
    exact ⟨σ1,H1,q1,l1,k1,fun Q' z=>.inl ⟨a,xs,e,hs,hl,g1 Q' z⟩⟩
  · obtain ⟨σ1,H1,q1,l1,k1,g1⟩:=h _ _ _ _ q
    exact ⟨σ1,H1,q1,l1,k1,fun Q' z=>.inr ⟨a,xs,e,hs,hl,g1 Q' z⟩⟩
theorem Low.keep {k:Nat} {g:TG} {cs:List Nat} (h:Low k g) (σ:St):Keepg g (s0 k cs σ):=fun x H Q q=>by
  obtain ⟨σ1,H1,q1,l1,k1,g1⟩:=h _ _ _ _ q
  refine g1 _ ⟨q1,l1,fun j v e=>?_⟩
  by_cases hj:j<k
  · unfold s0 at e
    rw [List.getElem?_append_left (by simpa using hj),List.getElem?_replicate,if_pos hj] at e; cases e
  · rw [k1 j (by omega)]; exact e
variable {tg elt iter c:Expr} {scope:Scope} {cl:List (Str×Addr)} {ts zs:List Str} {is:List Nat} {k:Nat} {g:TG} {tt:TT} {te:TE} {wi:TI} {pos:Pos}
theorem pi_listK {K:PySem.W.Frag} {l:Expr} {tl:TE} (h:X.K=K) (hl:PE X l tl):PI X tg l (iList K tl):=by subst h; exact pi_list hl
theorem pi_enumK {K:PySem.W.Frag} {l:Expr} {tl:TE} {elts:List Expr} {x1} {tpos p pos:Pos} (h:X.K=K) (hg:Gl X "enumerate") (hm:X.mg "enumerate" = none) (hl:PE X l tl) (hs:starEach [l] X.env=[(false,eval l X.env)]:=by rfl):PI X (.Tuple elts x1 tpos) (.Call (.Name "enumerate" p) [l] [] pos) (iEnum K tl):=by subst h; exact pi_enum hg hm hl hs
end
end L2
namespace VL
open PySem L2
def sp_law [Tabs] (K:PySem.W.Frag):Sp:=fun vs H Q _=>∃ (a:Addr) (ns:List Int),vs=[.ref a]∧SqL K H a (ns.map V.int)∧ns.length≤63∧(∀ m∈ns,Builtin.Int.intBits m≤1048576)∧TabIn H∧∀ H',Q (.bl true) H'
theorem sp_law_of [Tabs] {K:PySem.W.Frag} {F:List D→Option D} (ht:∀ ns:List Int,ns.length≤63→(∀ m∈ns,Builtin.Int.intBits m≤1048576)→F [.scr ns]=some (.bl true)) {vs:List V} {H:Hp} {Q:VK} {E:XK} (h:sp_law K vs H Q E):spD .v K [false] F vs H Q E:=by
  obtain ⟨a,ns,rfl,hS,hl,hb,htab,k⟩:=h
  have hz:ns.length≤sizeLine:=Nat.le_trans hl (by decide)
  refine ⟨No,[.scr ns],.bl true,⟨fun a z=>z.elim,htab⟩,.any ?_ .nil,ht ns hl hb,fun v H' s i=>by cases i; exact k H'⟩
  rcases hS with hS | hS
  · exact .scr (fun z=>z) hS hz
  · exact .scrK hS hz
end VL
namespace L2
open PySem PySem.Spec PyProof.Rows
section
variable {X:Cx} {K:PySem.W.Frag}
theorem bt_any:bootBuiltins "any" = some (.builtin "any"):=by decide +kernel
theorem bt_zip:bootBuiltins "zip" = some (.type "zip"):=by decide +kernel
def truV:V→Option Bool
  | .bl b=>some b
  | .int i=>some (i != 0)
  | _=>none
theorem kept_it {s:Shared} {h':Heap} {o:Obj} (hk:∀ b x,b∉[s.heap.objs.size]→(s.heap.push o).get? b=some x→h'.get? b=some x):∀ b x,s.heap.get? b=some x→h'.get? b=some x :=
  fun b x e=>hk b x (fun hm=>by rw [List.mem_singleton.mp hm] at e; exact Nat.lt_irrefl _ (Heap.lt_size e)) (Heap.get?_push_of_some _ e)
theorem rall (bs:List Bool):((List.range bs.length).all fun i=>(bs[i]?).getD true)=bs.all id:=by
  rw [Bool.eq_iff_iff,List.all_eq_true,List.all_eq_true]
  constructor
  · intro h x hx
    obtain ⟨i,hi⟩:=List.getElem?_of_mem hx
    have:=h i (List.mem_range.mpr (List.getElem?_eq_some_iff.mp hi).1)
    rw [hi] at this
    exact this
  · intro h i hi
    have:=List.mem_range.mp hi
    rw [List.getElem?_eq_getElem this]
    exact h _ (List.getElem_mem this)
theorem rany (bs:List Bool):((List.range bs.length).any fun i=>(bs[i]?).getD false)=bs.any id:=by
  rw [Bool.eq_iff_iff,List.any_eq_true,List.any_eq_true]
  constructor
  · rintro ⟨i,hi,h⟩
    have:=List.mem_range.mp hi
    rw [List.getElem?_eq_getElem this] at h
    exact ⟨_,List.getElem_mem this,h⟩
  · rintro ⟨x,hx,h⟩
    obtain ⟨i,hi⟩:=List.getElem?_of_mem hx
    exact ⟨i,List.mem_range.mpr (List.getElem?_eq_some_iff.mp hi).1,by rw [hi]; exact h⟩
def rAA (K:PySem.W.Frag) (f:List Bool→Bool):List V→Hp→VK→Prop:=fun xs H Q=>∃ (p:Addr) (vs:List V) (bs:List Bool),xs=[.ref p]∧SqL K H p vs∧vs.map truV=bs.map some∧Q (.bl (f bs)) H
theorem tru_at {vs:List V} {us:List Value} {bs:List Bool} (r:Vals vs us) (h:vs.map truV=bs.map some) {i:Nat} {u:Value} (e:us[i]?=some u):∃ b,bs[i]?=some b∧∀ {prog:Program} {w:World} {A:Around} {s':Shared} {Q:Bool→Shared→Prop} {E:Value→Shared→Prop},Q b s'→wpAny (model prog w) A (truthy u) Q E s':=by
  have hi:i<vs.length:=by rw [r.length]; exact (List.getElem?_eq_some_iff.mp e).1
  have e1:vs[i]?=some vs[i]:=List.getElem?_eq_getElem hi
  obtain ⟨u',e2,ru⟩:=r.get e1
  rw [e] at e2
  cases e2
  have e3:(bs.map some)[i]?=some (truV vs[i]):=by rw [← h,List.getElem?_map,e1]; rfl
  rw [List.getElem?_map] at e3
  cases e4:bs[i]? with
  | none=>rw [e4] at e3; cases e3
  | some b =>
    rw [e4] at e3
    have e5:some b=truV vs[i]:=Option.some.inj e3
    refine ⟨b,rfl,fun {prog w A s' Q E} q=>?_⟩
    cases e6:vs[i] with
    | bl c =>
      rw [e6] at e5 ru
      cases e5
      cases ru
      exact wpAny_truthy_bool q
    | int n =>
      rw [e6] at e5 ru
      have e5:some b=some (n != 0):=e5
      cases e5
      obtain ⟨t,rfl⟩:=ru
      exact PySem.P.truthy_int q
    | _=>rw [e6] at e5; cases e5
theorem call_allK (hc:X.calm=true) (hK:X.K=K):CallR X (.builtin "all") (rAA K fun bs=>bs.all id):=by
  subst hK
  intro pins s σ H xs us Q I r h
  obtain ⟨p,vs,bs,rfl,hq,hb,q⟩:=h
  obtain ⟨u,rfl,rx⟩:=vals1 r
  cases rx
  obtain ⟨its,r',pl,hz⟩:=I.list hq
  have hl:=pl.isList
  have hlt:p<s.heap.objs.size:=by obtain ⟨_,e,_⟩:=hl; exact Heap.lt_size e
  refine call_all_walk (wpAny_pyIter_list hl ?_)
  refine ⟨s.heap.objs.size,[s.heap.objs.size,p],[s.heap.objs.size],its.toArray.size,_,_,fun i=>(bs[i]?).getD true,rfl,Walks.list (A:=X.A.in1) (I.ok.hd hc) _ p (Nat.ne_of_lt hlt) its.toArray,
    ⟨⟨_,Heap.get?_push_size _ rfl,rfl,rfl⟩,hl.push _⟩,fun i v s' Q' E' hP hQ=>?_,fun h' tk hk=>?_⟩
  · obtain ⟨b,e,k⟩:=tru_at r' hb (i:=i) (u:=v) (by simpa using hP)
    simp only [e,Option.getD_some] at hQ
    exact k hQ
  · have e:((List.range its.toArray.size).all fun i=>(bs[i]?).getD true)=bs.all id:=by
      have:its.length=bs.length:=by
        have:=congrArg List.length hb
        rw [List.length_map,List.length_map] at this
        rw [← r'.length]; exact this
      rw [List.size_toArray,this]; exact rall bs
    rw [e]
    exact ⟨.bl _,H,I.kept (t':=tk) (kept_it hk),rfl,q⟩
theorem call_anyK (hc:X.calm=true) (hK:X.K=K):CallR X (.builtin "any") (rAA K fun bs=>bs.any id):=by
  subst hK
  intro pins s σ H xs us Q I r h
  obtain ⟨p,vs,bs,rfl,hq,hb,q⟩:=h
  obtain ⟨u,rfl,rx⟩:=vals1 r
  cases rx
  obtain ⟨its,r',pl,hz⟩:=I.list hq
  have hl:=pl.isList
  have hlt:p<s.heap.objs.size:=by obtain ⟨_,e,_⟩:=hl; exact Heap.lt_size e
  refine call_any_walk (wpAny_pyIter_list hl ?_)
  refine ⟨s.heap.objs.size,[s.heap.objs.size,p],[s.heap.objs.size],its.toArray.size,_,_,fun i=>(bs[i]?).getD false,rfl,Walks.list (A:=X.A.in1) (I.ok.hd hc) _ p (Nat.ne_of_lt hlt) its.toArray,
    ⟨⟨_,Heap.get?_push_size _ rfl,rfl,rfl⟩,hl.push _⟩,fun i v s' Q' E' hP hQ=>?_,fun h' tk hk=>?_⟩
  · obtain ⟨b,e,k⟩:=tru_at r' hb (i:=i) (u:=v) (by simpa using hP)
    simp only [e,Option.getD_some] at hQ
    exact k hQ
  · have e:((List.range its.toArray.size).any fun i=>(bs[i]?).getD false)=bs.any id:=by
      have:its.length=bs.length:=by
        have:=congrArg List.length hb
        rw [List.length_map,List.length_map] at this
        rw [← r'.length]; exact this
      rw [List.size_toArray,this]; exact rany bs
    rw [e]
    exact ⟨.bl _,H,I.kept (t':=tk) (kept_it hk),rfl,q⟩
end
end L2
namespace VL
open PySem L2
open Classical
noncomputable section
section
variable [Tabs] {K:PySem.W.Frag} {ta tb tc:TE} {a b c:DE}
def trus:List D→Option (List Bool)
  | []=>some []
  | .bl b::r=>(trus r).map (b::·)
  | .int i::r=>(trus r).map ((i != 0)::·)
  | _=>none
theorem trus_is {H:Hp} {Z:Addr→Prop}:∀ {vs:List V} {ds:List D} {bs:List Bool},IsL K H Z vs ds→trus ds=some bs→vs.map truV=bs.map some
  | _,[],_,.nil,e=>by cases e; rfl
  | _,d::r,bs,.cons h t,e=>by
    unfold trus at e
    split at e
    · rename_i q; cases q
    · rename_i b r' q
      cases q
      cases q:trus r with
      | none=>rw [q] at e; cases e
      | some cs=>rw [q] at e; cases e; rw [List.map_cons,List.map_cons,trus_is t q,h.v_bl]; rfl
    · rename_i b r' q
      cases q
      cases q:trus r with
      | none=>rw [q] at e; cases e
      | some cs=>rw [q] at e; cases e; rw [List.map_cons,List.map_cons,trus_is t q,h.v_int]; rfl
    · cases e
theorem trus_bl:∀ (bs:List Bool),trus (bs.map D.bl)=some bs
  | []=>rfl
  | b::r=>by show (trus (r.map D.bl)).map (b::·)=_; rw [trus_bl r]; rfl
theorem trus_int:∀ (ns:List Int),trus (ns.map D.int)=some (ns.map (· != 0))
  | []=>rfl
  | b::r=>by show (trus (r.map D.int)).map ((b != 0)::·)=_; rw [trus_int r]; rfl
def aaD (g:List Bool→Bool):D→Option D
  | .lst ds=>(trus ds).map fun bs=>.bl (g bs)
  | _=>none
theorem si_aa {g:List Bool→Bool} (ha:SemB K ta a):SemI K (tCB (rAA K g) (tCons ta tNil)) (dF1 (aaD g) a):=by
  refine si_f1 (fun {H v d e Q} h q=>?_) ha
  cases h with
  | lst hz h hl r =>
    rename_i p vs ds
    have q:(trus ds).map (fun bs=>D.bl (g bs))=some e:=q
    cases q1:trus ds with
    | none=>rw [q1] at q; cases q
    | some bs =>
      rw [q1] at q
      cases q
      exact ⟨rfl,fun k=>⟨p,vs,bs,rfl,.inl h,trus_is r q1,k⟩⟩
  | _=>cases q
def allD:D→Option D:=aaD fun bs=>bs.all id
def anyD:D→Option D:=aaD fun bs=>bs.any id
theorem si_all (ha:SemB K ta a):SemI K (tCB (rAA K fun bs=>bs.all id) (tCons ta tNil)) (dF1 allD a):=si_aa ha
theorem si_any (ha:SemB K ta a):SemI K (tCB (rAA K fun bs=>bs.any id) (tCons ta tNil)) (dF1 anyD a):=si_aa ha
end
end
end VL
namespace VL
open PySem L2
open Classical
noncomputable section
instance (priority:=low) noTabs:Tabs:=⟨[]⟩
structure Wk where
  nx:Rho→Prop
  rt:D→Prop
  bk:Rho→Prop:=fun _=>False
  ct:Rho→Prop:=fun _=>False
@[irreducible] def Wp (s:DS) (ρ:Rho) (W:Wk):Prop:=match s ρ with
  | .nx ρ'=>W.nx ρ'
  | .rt d=>W.rt d
  | .bk ρ'=>W.bk ρ'
  | .ct ρ'=>W.ct ρ'
  | .no=>False
section
variable {s u b:DS} {ρ:Rho} {W:Wk} {i:Nat} {a e k:DE} {d:D} {c:Rho→Option Bool} {es:Rho→Option (List D)} {ds:List D} {g:DG}
theorem wp_seq (h:Wp s ρ { W with nx:=fun ρ'=>Wp u ρ' W }):Wp (sSeq s u) ρ W:=by
  unfold Wp sSeq at *
  cases e:s ρ <;> rw [e] at h <;> exact h
theorem wp_pass (h:W.nx ρ):Wp sPass ρ W:=by unfold Wp sPass; exact h
theorem wp_ret (h:a ρ=some d) (k:W.rt d):Wp (sRet a) ρ W:=by unfold Wp sRet; rw [h]; exact k
theorem wp_if {x:Bool} (h:c ρ=some x) (ht:x=true→Wp s ρ W) (hf:x=false→Wp u ρ W):Wp (sIf c s u) ρ W:=by
  unfold Wp sIf at *
  rw [h]
  cases x
  · exact hf rfl
  · exact ht rfl
theorem wp_ifp {p:Prop} {_:Decidable p} (h:c ρ=some (decide p)) (ht:p→Wp s ρ W) (hf:¬ p→Wp u ρ W):Wp (sIf c s u) ρ W:=by
  refine wp_if h (fun q=>ht (of_decide_eq_true q)) fun q=>hf (of_decide_eq_false q)
theorem wp_ifF (h:c ρ=some false) (ht:Wp u ρ W):Wp (sIf c s u) ρ W:=wp_if h (fun q=>by cases q) fun _=>ht
theorem wp_set (h:a ρ=some d) (k:W.nx (ρ.set i (.pu d))):Wp (sSet i a) ρ W:=by unfold Wp sSet; rw [h]; exact k
theorem wp_setO (h:es ρ=some ds) (hi:i < ρ.length) (k:W.nx (ρ.set i (.ol ds))):Wp (sSetO i es) ρ W:=by unfold Wp sSetO; rw [h]; simp only [if_pos hi]; exact k
theorem wp_frz (h:Wp s (frz i ρ) W):Wp (sFrz i s) ρ W:=by unfold Wp sFrz at *; exact h
theorem wp_app (h0:ρ.getD i .un=.ol ds) (h:a ρ=some d) (hl:ds.length<sizeLine) (k:W.nx (ρ.set i (.ol (ds++[d])))):Wp (sApp i a) ρ W:=by unfold Wp sApp; rw [h0]; simp only [h,if_pos hl]; exact k
theorem wp_ext {es:List D} (h0:ρ.getD i .un=.ol ds) (h:a ρ=some (.lst es)) (hl:ds.length+es.length≤sizeLine) (k:W.nx (ρ.set i (.ol (ds++es)))):Wp (sExt i a) ρ W:=by unfold Wp sExt; rw [h0]; simp only [h,if_pos hl]; exact k
theorem wp_ins {n:Int} (h0:ρ.getD i .un=.ol ds) (h:a ρ=some (.int n)) (h1:e ρ=some d) (hl:0≤n∧n≤ds.length∧ds.length<sizeLine) (k:W.nx (ρ.set i (.ol (ds.take n.toNat++d::ds.drop n.toNat)))):Wp (sIns i a e) ρ W:=by
  unfold Wp sIns; rw [h0]; simp only [h,h1,if_pos hl]; exact k
theorem wp_put {n:Int} {j:Nat} (h0:ρ.getD i .un=.ol ds) (h1:a ρ=some d) (h:e ρ=some (.int n)) (hj:ixN ds.length n=some j) (k:W.nx (ρ.set i (.ol (ds.set j d)))):Wp (sPut i e a) ρ W:=by
  unfold Wp sPut; rw [h0]; simp only [h,h1,hj]; exact k
theorem wp_augP {f:Int→Int→Int} {n x y:Int} {j:Nat} (h0:ρ.getD i .un=.ol ds) (h:e ρ=some (.int n)) (hj:ixN ds.length n=some j) (hx:ds[j]?=some (.int x)) (h1:a ρ=some (.int y)) (k:W.nx (ρ.set i (.ol (ds.set j (.int (f x y)))))):Wp (sAugP f i e a) ρ W:=by
  unfold Wp sAugP; rw [h0]; simp only [h,h1,hj,hx]; exact k
theorem wp_aug {f:Int→Int→Int} {x y:Int} (h0:dVar i ρ=some (.int x)) (h:a ρ=some (.int y)) (k:W.nx (ρ.set i (.pu (.int (f x y))))):Wp (sAug f i a) ρ W:=by
  unfold Wp sAug; rw [h0]; simp only [h]; exact k
theorem wp_for {it:Rho→Option (List D)} (h:it ρ=some ds) (I:Nat→Rho→Prop) (h0:I 0 ρ)
    (hs:∀ (j:Nat) (d:D) (ρ:Rho),ds[j]?=some d→I j ρ→∃ ρ1,g d ρ=some ρ1∧Wp b ρ1 { W with nx:=I (j+1),ct:=I (j+1),bk:=W.nx })
    (he:∀ ρ,I ds.length ρ→W.nx ρ):Wp (sFor it g b) ρ W:=by
  have key:∀ (n j:Nat) (ρ:Rho),n=ds.length-j→j≤ds.length→I j ρ→Wp (fun ρ=>forD g b (ds.drop j) ρ) ρ W:=by
    intro n
    induction n with
    | zero =>
      intro j ρ hn hj hI
      have e:j=ds.length:=by omega
      subst e
      unfold Wp
      simp only [List.drop_length,forD]
      exact he ρ hI
    | succ n ih =>
      intro j ρ hn hj hI
      have hlt:j<ds.length:=by omega
      obtain ⟨ρ1,e1,w1⟩:=hs j ds[j] ρ (List.getElem?_eq_getElem hlt) hI
      unfold Wp
      dsimp only
      rw [List.drop_eq_getElem_cons hlt]
      unfold forD
      rw [e1]
      unfold Wp at w1
      dsimp only
      cases e2:b ρ1 with
      | nx ρ2=>rw [e2] at w1; have q:=ih (j+1) ρ2 (by omega) hlt w1; unfold Wp at q; exact q
      | ct ρ2=>rw [e2] at w1; have q:=ih (j+1) ρ2 (by omega) hlt w1; unfold Wp at q; exact q
      | bk ρ2=>rw [e2] at w1; exact w1
      | rt d=>rw [e2] at w1; exact w1
      | no=>rw [e2] at w1; exact w1
  have:=key _ 0 ρ rfl (Nat.zero_le _) h0
  unfold Wp at this
  unfold Wp sFor
  rw [h]
  exact this
theorem wp_while (I:Nat→Rho→Prop) (n:Nat) (h0:I n ρ) (hs:∀ n ρ,I n ρ→∃ x,c ρ=some x∧(x=true→Wp b ρ { W with nx:=fun ρ'=>∃ m,m<n∧I m ρ',ct:=fun ρ'=>∃ m,m<n∧I m ρ',bk:=W.nx })∧(x=false→W.nx ρ)):Wp (sWhile c b) ρ W:=by
  have key:∀ n ρ,I n ρ→∃ r,whN c b (n+1) ρ=r∧r≠.no∧(match r with | .nx ρ'=>W.nx ρ' | .rt d=>W.rt d | .bk ρ'=>W.bk ρ' | .ct ρ'=>W.ct ρ' | .no=>False):=by
    intro n
    induction n using Nat.strongRecOn with
    | _ n ih =>
      intro ρ hI
      obtain ⟨x,ec,ht,hf⟩:=hs n ρ hI
      have un:whN c b (n+1) ρ=(match c ρ with | some false=>Res.nx ρ | some true=>(match b ρ with | .nx ρ'=>whN c b n ρ' | .ct ρ'=>whN c b n ρ' | .bk ρ'=>.nx ρ' | .rt d=>.rt d | .no=>.no) | none=>.no):=rfl
      rw [un,ec]
      cases x with
      | false=>exact ⟨.nx ρ,rfl,(fun z=>by cases z),hf rfl⟩
      | true =>
        have w:=ht rfl
        unfold Wp at w
        have step:∀ ρ',(∃ m,m<n∧I m ρ')→∃ r,whN c b n ρ'=r∧r≠.no∧(match r with | .nx ρ'=>W.nx ρ' | .rt d=>W.rt d | .bk ρ'=>W.bk ρ' | .ct ρ'=>W.ct ρ' | .no=>False):=by
          rintro ρ' ⟨m,hm,hI'⟩
          obtain ⟨r,e,hr,q⟩:=ih m hm ρ' hI'
          refine ⟨r,?_,hr,q⟩
          obtain ⟨k,rfl⟩:∃ k,n=m+1+k:=⟨n-m-1,by omega⟩
          rw [whN_le (by rw [e]; exact hr),e]
        cases eb:b ρ with
        | nx ρ'=>rw [eb] at w; exact step ρ' w
        | ct ρ'=>rw [eb] at w; exact step ρ' w
        | bk ρ'=>rw [eb] at w; exact ⟨.nx ρ',rfl,(fun z=>by cases z),w⟩
        | rt d=>rw [eb] at w; exact ⟨.rt d,rfl,(fun z=>by cases z),w⟩
        | no=>rw [eb] at w; exact w.elim
  obtain ⟨r,e,hr,q⟩:=key n ρ h0
  unfold Wp
  rw [sWhile_of e hr]
  exact q
end
section
variable {ρ:Rho} {a b c:DE} {i j k:Int} {d e:D} {es:Rho→Option (List D)} {ds:List D}
theorem ev_add (ha:a ρ=some (.int i)) (hb:b ρ=some (.int j)):dAdd a b ρ=some (.int (i+j)):=by unfold dAdd dII; rw [ha,hb]
theorem ev_sub (ha:a ρ=some (.int i)) (hb:b ρ=some (.int j)):dSub a b ρ=some (.int (i-j)):=by unfold dSub dII; rw [ha,hb]
theorem ev_mul (ha:a ρ=some (.int i)) (hb:b ρ=some (.int j)) (h:IntMulOk i j):dMul a b ρ=some (.int (i*j)):=by unfold dMul dII; rw [ha,hb]; exact gC_pos h
theorem ev_fdiv (ha:a ρ=some (.int i)) (hb:b ρ=some (.int j)) (h:0<j∧j.natAbs.log2<9000):dFdiv a b ρ=some (.int (i / j)):=by unfold dFdiv dII; rw [ha,hb]; exact gC_pos (C:=fun _ j=>0<j∧j.natAbs.log2<9000) h
theorem ev_mod (ha:a ρ=some (.int i)) (hb:b ρ=some (.int j)) (h:0<j):dMod a b ρ=some (.int (i % j)):=by unfold dMod dII; rw [ha,hb]; exact gC_pos (C:=fun _ j=>0<j) h
theorem ev_lt (ha:a ρ=some (.int i)) (hb:b ρ=some (.int j)):dLt a b ρ=some (.bl (decide (i<j))):=by unfold dLt dII; rw [ha,hb]
theorem ev_gt (ha:a ρ=some (.int i)) (hb:b ρ=some (.int j)):dGt a b ρ=some (.bl (decide (j<i))):=by unfold dGt dII; rw [ha,hb]
theorem ev_ge (ha:a ρ=some (.int i)) (hb:b ρ=some (.int j)):dGe a b ρ=some (.bl (decide (j≤i))):=by unfold dGe dII; rw [ha,hb]
theorem ev_neg (ha:a ρ=some (.int i)):dNeg a ρ=some (.int (-i)):=by unfold dNeg; rw [ha]
theorem ev_chain {p q:Int→Int→Bool} (ha:a ρ=some (.int i)) (hb:b ρ=some (.int j)) (hc:c ρ=some (.int k)):dChain p q a b c ρ=some (.bl (p i j&&q j k)):=by
  unfold dChain; rw [ha,hb]; dsimp only
  cases e:p i j
  · rfl
  · rw [if_pos rfl,hc]; rfl
theorem ev_min2 (ha:a ρ=some (.int i)) (hb:b ρ=some (.int j)):dMin2 a b ρ=some (.int (min i j)):=by
  have e:(if j<i then j else i)=min i j:=by split <;> omega
  unfold dMin2 dII; rw [ha,hb,← e]
theorem ev_t {x:Bool} (ha:a ρ=some (.bl x)):dT a ρ=some x:=by unfold dT; rw [ha]
theorem ev_tru {x:Bool} (ha:a ρ=some d) (h:truD d=some x):dTru a ρ=some x:=by unfold dTru; rw [ha]; exact h
theorem ev_not {p:Rho→Option Bool} {x:Bool} (ha:p ρ=some x):dNot p ρ=some (!x):=by unfold dNot; rw [ha]
theorem ev_and {p q:Rho→Option Bool} {x y:Bool} (ha:p ρ=some x) (hb:x=true→q ρ=some y):dAnd p q ρ=some (x&&y):=by
  unfold dAnd; rw [ha]; cases x
  · rfl
  · rw [hb rfl]; rfl
theorem ev_or {p q:Rho→Option Bool} {x y:Bool} (ha:p ρ=some x) (hb:x=false→q ρ=some y):dOr p q ρ=some (x || y):=by
  unfold dOr; rw [ha]; cases x
  · rw [hb rfl]; rfl
  · rfl
theorem ev_orV {x y:Bool} (ha:a ρ=some (.bl x)) (hb:x=false→b ρ=some (.bl y)):dOrV a b ρ=some (.bl (x || y)):=by
  unfold dOrV; rw [ha]; cases x
  · rw [hb rfl]; rfl
  · rfl
theorem ev_scal (ha:a ρ=some d) (h:d.scal=true):gScal a ρ=some d:=by unfold gScal; rw [ha]; exact if_pos h
theorem ev_lst (h:es ρ=some ds):dLst es ρ=some (.lst ds):=by unfold dLst; rw [h]; rfl
theorem ev_tup (h:es ρ=some ds):dTup es ρ=some (.tup ds):=by unfold dTup; rw [h]; rfl
theorem ev_cons (h:a ρ=some d) (h2:es ρ=some ds):dCons a es ρ=some (d::ds):=by unfold dCons; rw [h,h2]
theorem ev_ix (ha:a ρ=some d) (hb:b ρ=some (.int i)) (h:ixD d i=some e):dIx a b ρ=some e:=by unfold dIx; rw [ha,hb]; exact h
theorem ev_f1 {g:D→Option D} (ha:a ρ=some d) (h:g d=some e):dF1 g a ρ=some e:=by unfold dF1; rw [ha]; exact h
theorem ev_call {F:List D→Option D} (h:es ρ=some ds) (h2:F ds=some d):dCall F es ρ=some d:=by unfold dCall; rw [h]; exact h2
theorem ev_eq {neg:Bool} (ha:a ρ=some d) (hb:b ρ=some e) (h:cmpb 20 d e=true):dEq neg a b ρ=some (.bl (if neg=true then !decide (d=e) else decide (d=e))):=by unfold dEq; rw [ha,hb]; exact if_pos h
theorem ev_eqI {neg:Bool} (ha:a ρ=some (.int i)) (hb:b ρ=some (.int j)):dEq neg a b ρ=some (.bl (if neg=true then !decide (i=j) else decide (i=j))):=by
  rw [ev_eq ha hb rfl]
  have e:decide (D.int i=D.int j)=decide (i=j):=by rw [dec_int]; rw [Bool.eq_iff_iff]; simp
  rw [e]
theorem ev_eqF (ha:a ρ=some (.int i)) (hb:b ρ=some (.int j)):dEq false a b ρ=some (.bl (decide (i=j))):=ev_eqI (neg:=false) ha hb
theorem ev_neF (ha:a ρ=some (.int i)) (hb:b ρ=some (.int j)):dEq true a b ρ=some (.bl (decide (i≠j))):=by
  rw [ev_eqI (neg:=true) ha hb,if_pos rfl]
  congr 2
  rw [Bool.eq_iff_iff]
  simp
theorem cmp_ints {n:Nat} (xs ys:List Int):cmpb (n+1) (.lst (xs.map D.int)) (.lst (ys.map D.int))=true:=by
  show (decide _ || (List.zip (xs.map D.int) (ys.map D.int)).all fun p=>cmpb n p.1 p.2)=true
  rw [Bool.or_eq_true]
  refine .inr (List.all_eq_true.mpr fun q hq=>?_)
  obtain ⟨a,b⟩:=q
  obtain ⟨h1,h2⟩:=List.of_mem_zip hq
  obtain ⟨x,_,rfl⟩:=List.mem_map.mp h1
  obtain ⟨y,_,rfl⟩:=List.mem_map.mp h2
  cases n <;> rfl
theorem ev_asL (ha:a ρ=some d) (h:lof d=some ds):asL a ρ=some ds:=by unfold asL; rw [ha]; exact h
theorem ev_rg1 (ha:a ρ=some (.int i)) (h:-(2 ^ 62)≤i∧i.toNat≤sizeLine):dRg1 a ρ=some (upL 0 i.toNat):=by unfold dRg1; rw [ha]; exact if_pos h
theorem ev_rg2 (ha:a ρ=some (.int i)) (hb:b ρ=some (.int j)) (h:-(2 ^ 62)≤i∧i<2 ^ 62∧-(2 ^ 62)≤j∧j<2 ^ 62∧(j-i).toNat≤sizeLine):dRg2 a b ρ=some (upL i (j-i).toNat):=by unfold dRg2; rw [ha,hb]; exact if_pos h
theorem ev_rep (h:es ρ=some ds) (hb:b ρ=some (.int i)) (hc:-(2 ^ 63)≤i∧i<2 ^ 63∧ds.length*i.toNat≤sizeLine):dRep es b ρ=some (List.replicate i.toNat ds).flatten:=by unfold dRep; rw [h,hb]; exact if_pos hc
theorem ev_sl {lo hi:Rho→Option (Option Int)} {l u:Option Int} (h:asL a ρ=some ds) (h1:lo ρ=some l) (h2:hi ρ=some u):dSl a lo hi ρ=some (cutL ds l u):=by unfold dSl; rw [h,h1,h2]
theorem ev_flat (h:es ρ=some ds) (hf:flatL ds=true):gFlat es ρ=some ds:=by unfold gFlat; rw [h]; exact if_pos hf
theorem ev_lof (h:a ρ=some d) (hl:lof d=some ds):dLof a ρ=some ds:=by
  unfold dLof; rw [h]
  cases d with
  | lst xs=>exact hl
  | scr ns=>exact hl
  | _=>cases hl
theorem ev_inI {neg:Bool} {ns:List Int} (ha:a ρ=some (.int i)) (hb:b ρ=some (.lst (ns.map D.int))):dIn neg a b ρ=some (.bl (if neg=true then !decide (i∈ns) else decide (i∈ns))):=by
  unfold dIn; rw [ha,hb]; dsimp only [inS]; rw [asInts_map]; rfl
theorem ev_oSome (ha:a ρ=some (.int i)):oSome a ρ=some (some i):=by unfold oSome; rw [ha]
theorem ev_comp {k:Nat} {cs:List Nat} {it:Rho→Option (List D)} {g:DG} {t:Rho→Option Bool} {el:DE} (h:it ρ=some ds) (p:D→Bool) (f:D→D)
    (hs:∀ d∈ds,∃ ρ1,g d (r0 k cs ρ)=some ρ1∧t ρ1=some (p d)∧(p d=true→el ρ1=some (f d))):dComp k cs it g t el ρ=some ((ds.filter p).map f):=by
  unfold dComp
  rw [h]
  dsimp only
  clear h
  induction ds with
  | nil=>rfl
  | cons x xs ih =>
    obtain ⟨ρ1,e1,e2,e3⟩:=hs x List.mem_cons_self
    have ih:=ih fun d hd=>hs d (List.mem_cons_of_mem _ hd)
    unfold compGo
    rw [e1]
    dsimp only
    rw [e2]
    cases hp:p x with
    | false =>
      dsimp only
      rw [ih,List.filter_cons_of_neg (by simp [hp])]
    | true =>
      dsimp only
      rw [e3 hp,ih,List.filter_cons_of_pos hp]
      rfl
theorem ev_comp0 {k:Nat} {cs:List Nat} {it:Rho→Option (List D)} {g:DG} {el:DE} (h:it ρ=some ds) (f:D→D)
    (hs:∀ d∈ds,∃ ρ1,g d (r0 k cs ρ)=some ρ1∧el ρ1=some (f d)):dComp k cs it g dTrue el ρ=some (ds.map f):=by
  have:=ev_comp (ρ:=ρ) (k:=k) (cs:=cs) (it:=it) (g:=g) (t:=dTrue) (el:=el) h (fun _=>true) f fun d hd=>let ⟨ρ1,e1,e2⟩:=hs d hd; ⟨ρ1,e1,rfl,fun _=>e2⟩
  rw [this,List.filter_eq_self.mpr fun _ _=>rfl]
theorem run_of {n:Nat} {ms:List Bool} {b:DS} {ds:List D} {P:D→Prop} (h:Wp b (stD n ms ds) { nx:=fun _=>P .non,rt:=P }):∃ d,runD n ms b ds=some d∧P d:=by
  unfold Wp at h
  unfold runD
  cases e:b (stD n ms ds) with
  | nx ρ=>rw [e] at h; exact ⟨_,rfl,h⟩
  | rt d=>rw [e] at h; exact ⟨_,rfl,h⟩
  | bk ρ=>rw [e] at h; exact h.elim
  | ct ρ=>rw [e] at h; exact h.elim
  | no=>rw [e] at h; exact h.elim
theorem run_eq {n:Nat} {ms:List Bool} {b:DS} {ds:List D} {d:D} (h:Wp b (stD n ms ds) { nx:=fun _=>D.non=d,rt:=fun x=>x=d }):runD n ms b ds=some d:=by
  obtain ⟨x,e,rfl⟩:=run_of (P:=fun x=>x=d) h
  exact e
theorem run_ofF {F:List D→Option D} {n:Nat} {ms:List Bool} {b:DS} (hF:F=runD n ms b) {ds:List D} {P:D→Prop} (h:Wp b (stD n ms ds) { nx:=fun _=>P .non,rt:=P }):∃ d,F ds=some d∧P d:=by rw [hF]; exact run_of h
theorem run_eqF {F:List D→Option D} {n:Nat} {ms:List Bool} {b:DS} (hF:F=runD n ms b) {ds:List D} {d:D} (h:Wp b (stD n ms ds) { nx:=fun _=>D.non=d,rt:=fun x=>x=d }):F ds=some d:=by rw [hF]; exact run_eq h
theorem imul {i j:Int} (h:(-(2 ^ 64)<i∧i<2 ^ 64)∨(-(2 ^ 64)<j∧j<2 ^ 64)):IntMulOk i j:=CMul.ok h
theorem ixI {ns:List Int} {i:Int} (h0:0≤i) (h1:i<ns.length):ixD (.lst (ns.map D.int)) i=some (.int (ns.getD i.toNat 0)):=by
  show atI (ns.map D.int) i=_
  unfold atI ixN
  rw [if_pos h0,List.length_map,if_pos h1]
  show (ns.map D.int)[i.toNat]?=_
  have hi:i.toNat<ns.length:=by omega
  rw [List.getElem?_map,List.getElem?_eq_getElem hi,List.getD_eq_getElem?_getD,List.getElem?_eq_getElem hi]
  rfl
theorem ixS {ns:List Int} {i:Int} (h0:0≤i) (h1:i<ns.length):ixD (.scr ns) i=some (.int (ns.getD i.toNat 0)):=by
  show (atI ns i).map D.int=_
  unfold atI ixN
  rw [if_pos h0,if_pos h1]
  have hi:i.toNat<ns.length:=by omega
  show (ns[i.toNat]?).map D.int=_
  rw [List.getElem?_eq_getElem hi,List.getD_eq_getElem?_getD,List.getElem?_eq_getElem hi]
  rfl
def pk2 (i x y:Int):Int:=if i=0 then x else y
def pk3 (i x y z:Int):Int:=if i=0 then x else if i=1 then y else z
def pk4 (i x y z u:Int):Int:=if i=0 then x else if i=1 then y else if i=2 then z else u
theorem ix2I (c x y:Int):ixD (.lst [.int x,.int y]) (c % 2)=some (.int (pk2 (c % 2) x y)):=by
  have h:c % 2=0∨c % 2=1:=by omega
  rcases h with h | h <;> rw [h] <;> rfl
theorem ix3I (c x y z:Int):ixD (.lst [.int x,.int y,.int z]) (c % 3)=some (.int (pk3 (c % 3) x y z)):=by
  have h:c % 3=0∨c % 3=1∨c % 3=2:=by omega
  rcases h with h | h | h <;> rw [h] <;> rfl
theorem ix4I (c x y z u:Int):ixD (.lst [.int x,.int y,.int z,.int u]) (c % 4)=some (.int (pk4 (c % 4) x y z u)):=by
  have h:c % 4=0∨c % 4=1∨c % 4=2∨c % 4=3:=by omega
  rcases h with h | h | h | h <;> rw [h] <;> rfl
theorem ixN_in {n:Nat} {i:Int} (h0:0≤i) (h1:i<n):ixN n i=some i.toNat:=by unfold ixN; rw [if_pos h0,if_pos h1]
end
end
end VL
namespace L2
open PySem PySem.Spec PyProof.Rows
section
variable {prog:Program} {w:World} {A:Around} {R:Result→Shared→Prop} {I:Addr} {fp wr:List Addr} {n:Nat} {P:Nat→Value→Prop} {St:Nat→Heap→Prop} {kw:List (Str×Value)}
end
section
variable {prog:Program} {w:World} {A:Around} {E:Value→Shared→Prop} {s:Shared}
end
section
variable {X:Cx}
end
section
variable {X:Cx} {K:PySem.W.Frag}
def rRg1:List V→Hp→VK→Prop:=fun xs H Q=>∃ j:Int,xs=[.int j]∧∀ p,H p=none→Q (.ref p) (upd H p (.rng 0 j))
theorem call_rg1:CallR X (.type "range") rRg1:=by
  intro pins s σ H xs us Q I r h
  obtain ⟨j,rfl,q⟩:=h
  obtain ⟨u,rfl,t,rfl⟩:=vals1 r
  refine call_range_1 ?_
  exact ⟨.ref _,_,I.laid (o:=.rng 0 j) (fun b o e=>Heap.get?_push_of_some _ e) (Nat.le_refl _) ⟨_,_,_,Heap.get?_push_size _ rfl⟩,rfl,q _ I.fresh⟩
def rLrg:List V→Hp→VK→Prop:=fun xs H Q=>∃ (p:Addr) (lo hi:Int),xs=[.ref p]∧H p=some (.rng lo hi)∧-(2 ^ 62)≤lo∧lo<2 ^ 62∧-(2 ^ 62)≤hi∧hi<2 ^ 62∧(hi-lo).toNat≤sizeLine ∧
  ∀ l,H l=none→Q (.ref l) (upd H l (.lst ((List.range (hi-lo).toNat).map fun (i:Nat)=>V.int (lo+(i:Int)))))
theorem call_lrg (hc:X.calm=true):CallR X (.type "list") rLrg:=by
  intro pins s σ H xs us Q I r h
  obtain ⟨p,lo,hi,rfl,hH,h1,h2,h3,h4,hn,q⟩:=h
  obtain ⟨u,rfl,rx⟩:=vals1 r
  cases rx
  obtain ⟨t,u,v,e⟩:=I.hok p _ hH
  have hs:sizeLine=16777216:=sizeLine_eq
  have hsz:Builtin.Range.rangeSize lo hi 1=(((hi-lo).toNat:Nat):Int):=by rw [rangeSize_one]; split <;> omega
  refine call_list_range (I.ok.hd hc) e (small_one h1 h2 h3 h4) hsz (by omega) fun h' tk acc' c' hk hS' hacc=>?_
  refine ⟨.ref _,_,I.laid (t':=tk) (o:=.lst ((List.range (hi-lo).toNat).map fun (i:Nat)=>V.int (lo+(i:Int)))) hk (Nat.le_refl _) ⟨by simpa using hn,acc'.toList,c',?_,by simpa using hS'⟩,rfl,q _ I.fresh⟩
  have hlen:acc'.toList.length=(hi-lo).toNat:=by rw [Array.length_toList]; exact hacc.1
  have key:∀ (xs:List V) (us:List Value),xs.length=us.length→(∀ (i:Nat) x u,xs[i]?=some x→us[i]?=some u→RelV x u)→Vals xs us:=by
    intro xs
    induction xs with
    | nil=>intro us hl _; cases us with
      | nil=>exact .nil
      | cons _ _=>cases hl
    | cons x xs ih=>intro us hl hr; cases us with
      | nil=>cases hl
      | cons u us=>exact .cons (hr 0 x u rfl rfl) (ih us (by simpa using hl) fun i x' u' e1 e2=>hr (i+1) x' u' (by simpa using e1) (by simpa using e2))
  refine key _ _ (by simp [hlen]) fun i x u e1 e2=>?_
  have hi':i<(hi-lo).toNat:=by rw [← hlen]; exact (List.getElem?_eq_some_iff.mp e2).1
  rw [List.getElem?_map,List.getElem?_range hi'] at e1
  cases e1
  obtain ⟨tk',rfl⟩:=hacc.2 i u (by simpa using e2)
  exact ⟨tk',by congr 1; omega⟩
theorem mt_count:MtM X "list.count" (fun x vs H Q=>∃ (l:Addr) (ns:List Int) (k:Int),x=.ref l∧vs=[.int k]∧SqL X.K H l (ns.map V.int)∧Q (.int (ns.count k:Nat)) H):=by
  intro pins s σ H x vs v us Q I rx rv h
  obtain ⟨l,ns,k,rfl,rfl,hq,q⟩:=h
  cases rx
  obtain ⟨u,rfl,t,rfl⟩:=vals1 rv
  obtain ⟨its,r',pl,hz⟩:=I.list hq
  have hi:=intsAre_of r'
  obtain ⟨⟨cls,dd,data,sl⟩,ho,hc,n,hd⟩:=pl.isList
  simp only at hc hd
  subst hc hd
  have key:∀ {vs:List Value} {ns:List Int},IntsAre vs ns→vs.countP (isInt k)=ns.count k:=by
    intro vs ns h
    induction h with
    | nil=>rfl
    | cons m t' _ ih =>
      rw [List.countP_cons,List.count_cons,ih]
      rfl
  refine call_meets PySem.F.slot_list_count ⟨_,ho,rfl⟩ PySem.F.entry_list_count (PySem.F.args_list_count_2 _ _)
    (SeqAt.list_countAt l its.toArray n dd sl (.int k t) (isInt k)) ⟨ho,fun y hy=>(eq_isInt k t hi y (by simpa using hy)).at _ _,?_⟩
  have e:its.toArray.toList.countP (isInt k)=ns.count k:=by rw [show its.toArray.toList=its from by simp,key hi]
  rw [e]
  exact ⟨.int _,H,I.tok _,⟨_,rfl⟩,q⟩
theorem mt_countK (h:X.K=K):MtM X "list.count" (fun x vs H Q=>∃ (l:Addr) (ns:List Int) (k:Int),x=.ref l∧vs=[.int k]∧SqL K H l (ns.map V.int)∧Q (.int (ns.count k:Nat)) H):=by subst h; exact mt_count
end
end L2
namespace VL
open PySem L2
open Classical
noncomputable section
section
variable [Tabs] {K:PySem.W.Frag} {ta tb tc:TE} {a b c:DE}
theorem upL_is {H:Hp} {Z:Addr→Prop} (lo:Int) (n:Nat):IsL K H Z ((List.range n).map fun (i:Nat)=>V.int (lo+(i:Int))) (upL lo n):=by
  unfold upL
  induction List.range n with
  | nil=>exact .nil
  | cons x r ih=>exact .cons (.int _) ih
theorem sf_lrg1 (ha:SemB K ta a):SemF K (tCB rLrg (tCons (tCB rRg1 (tCons ta tNil)) tNil)) (dRg1 a):=fun {B Z os ρ σ H Q ds} f q k=>by
  unfold dRg1 at q
  split at q
  · rename_i j e
    by_cases c:-(2 ^ 62)≤j∧j.toNat≤sizeLine
    · rw [if_pos c] at q
      cases q
      have hs:sizeLine=16777216:=sizeLine_eq
      have ej:(j-0).toNat=j.toNat:=by rw [Int.sub_zero]
      refine ha f e fun v H1 s1 i1=>⟨j,by rw [i1.isInt],fun p hp=>?_⟩
      refine ⟨p,0,j,rfl,upd_same,by omega,by omega,c.1,by omega,by rw [ej]; exact c.2,fun l hl=>?_⟩
      rw [ej]
      have sl:=(s1.trans (same_new (o:=.rng 0 j) hp)).trans (same_new (o:=.lst ((List.range j.toNat).map fun (i:Nat)=>V.int (0+(i:Int)))) hl)
      have hfree:H l=none:=Same.free (s1.trans (same_new (o:=.rng 0 j) hp)) hl
      exact k l _ _ sl hfree upd_same (by simpa using c.2) (upL_is 0 j.toNat)
    · rw [if_neg c] at q; cases q
  · cases q
noncomputable def dMeI (g:List Int→Int→Option Int) (a b:DE):DE:=fun ρ=>match a ρ with
  | some (.lst ds)=>(match b ρ with
    | some (.int k)=>(match asInts ds with
      | some ns=>(g ns k).map D.int
      | none=>none)
    | _=>none)
  | _=>none
theorem dMeI_some {g:List Int→Int→Option Int} {ρ:Rho} {d:D} (h:dMeI g a b ρ=some d):∃ ns k r,a ρ=some (.lst (ns.map D.int))∧b ρ=some (.int k)∧g ns k=some r∧d=.int r:=by
  unfold dMeI at h
  split at h
  · rename_i ds e1
    split at h
    · rename_i k e2
      cases q:asInts ds with
      | none=>rw [q] at h; cases h
      | some ns =>
        rw [q] at h
        rw [asInts_some q] at e1
        have h:(g ns k).map D.int=some d:=h
        cases q2:g ns k with
        | none=>rw [q2] at h; cases h
        | some r=>rw [q2] at h; cases h; exact ⟨ns,k,r,e1,e2,q2,rfl⟩
    · cases h
  · cases h
noncomputable def dCount:DE→DE→DE:=dMeI fun ns k=>some (ns.count k:Nat)
theorem si_count (ha:SemB K ta a) (hb:SemB K tb b):SemI K (tBM K "list" (fun x vs H Q=>∃ (l:Addr) (ns:List Int) (k:Int),x=.ref l∧vs=[.int k]∧SqL K H l (ns.map V.int)∧Q (.int (ns.count k:Nat)) H) ta (tCons tb tNil)) (dCount a b):=fun {B Z os ρ σ H Q d} f q k=>by
  obtain ⟨ns,j,r,e1,e2,e3,rfl⟩:=dMeI_some q
  cases e3
  refine ha f e1 fun v H1 s1 i1=>?_
  obtain ⟨p,rfl,r1⟩:=i1.ints
  refine ⟨.inl ⟨rfl,_,.inl r1⟩,hb (f.grow s1) e2 fun u H2 s2 i2=>⟨p,ns,j,rfl,by rw [i2.isInt],.inl (Rd.same r1 s2),k _ _ (s1.trans s2) (.int _)⟩⟩
theorem ev_count {ρ:Rho} {ns:List Int} {k:Int} (ha:a ρ=some (.lst (ns.map D.int))) (hb:b ρ=some (.int k)):dCount a b ρ=some (.int (ns.count k:Nat)):=by unfold dCount dMeI; rw [ha,hb]; dsimp only; rw [asInts_map]; rfl
theorem fdok {j:Int} (h0:0<j) (h1:j<2 ^ 64):0<j∧j.natAbs.log2<9000:=by
  refine ⟨h0,(Nat.log2_lt (by omega)).mpr (Nat.lt_of_lt_of_le (m:=2 ^ 64) (by omega) (Nat.pow_le_pow_right (by decide) (by decide)))⟩
theorem ev_compI {ρ:Rho} {k:Nat} {cs:List Nat} {it:Rho→Option (List D)} {g:DG} {t:Rho→Option Bool} {el:DE} {xs:List Int} (h:it ρ=some (xs.map D.int)) (p:Int→Bool) (f:Int→D)
    (hs:∀ x∈xs,∃ ρ1,g (.int x) (r0 k cs ρ)=some ρ1∧t ρ1=some (p x)∧(p x=true→el ρ1=some (f x))):dComp k cs it g t el ρ=some ((xs.filter p).map f):=by
  have:=ev_comp (ρ:=ρ) (k:=k) (cs:=cs) (it:=it) (g:=g) (t:=t) (el:=el) h (fun d=>match d with | .int x=>p x | _=>false) (fun d=>match d with | .int x=>f x | d=>d) fun d hd=>by
    obtain ⟨x,hx,rfl⟩:=List.mem_map.mp hd
    exact hs x hx
  rw [this]
  congr 1
  clear this hs h
  induction xs with
  | nil=>rfl
  | cons x r ih =>
    rw [List.map_cons,List.filter_cons,List.filter_cons]
    dsimp only
    split
    · rw [List.map_cons,List.map_cons,ih]
    · exact ih
theorem ev_compA {α:Type} {ρ:Rho} {k:Nat} {cs:List Nat} {it:Rho→Option (List D)} {g:DG} {t:Rho→Option Bool} {el:DE} (emb:α→D) {xs:List α} (h:it ρ=some (xs.map emb)) (p:α→Bool) (f:α→D)
    (hs:∀ x∈xs,∃ ρ1,g (emb x) (r0 k cs ρ)=some ρ1∧t ρ1=some (p x)∧(p x=true→el ρ1=some (f x))):dComp k cs it g t el ρ=some ((xs.filter p).map f):=by
  unfold dComp
  rw [h]
  dsimp only
  clear h
  induction xs with
  | nil=>rfl
  | cons x r ih =>
    obtain ⟨ρ1,e1,e2,e3⟩:=hs x List.mem_cons_self
    have ih:=ih fun d hd=>hs d (List.mem_cons_of_mem _ hd)
    rw [List.map_cons]
    unfold compGo
    rw [e1]
    dsimp only
    rw [e2]
    cases hp:p x with
    | false =>
      dsimp only
      rw [ih,List.filter_cons_of_neg (by simp [hp])]
    | true =>
      dsimp only
      rw [e3 hp,ih,List.filter_cons_of_pos hp]
      rfl
theorem ev_compA0 {α:Type} {ρ:Rho} {k:Nat} {cs:List Nat} {it:Rho→Option (List D)} {g:DG} {el:DE} (emb:α→D) {xs:List α} (h:it ρ=some (xs.map emb)) (f:α→D)
    (hs:∀ x∈xs,∃ ρ1,g (emb x) (r0 k cs ρ)=some ρ1∧el ρ1=some (f x)):dComp k cs it g dTrue el ρ=some (xs.map f):=by
  have:=ev_compA (ρ:=ρ) (k:=k) (cs:=cs) (it:=it) (g:=g) (t:=dTrue) (el:=el) emb h (fun _=>true) f fun d hd=>let ⟨ρ1,e1,e2⟩:=hs d hd; ⟨ρ1,e1,rfl,fun _=>e2⟩
  rw [this,List.filter_eq_self.mpr fun _ _=>rfl]
theorem sumD_ints (ns:List Int):sumD (.lst (ns.map D.int))=some (.int ns.sum):=ofInts_lst _ ns
end
end
end VL
namespace L2
theorem bmK {X:Cx} {K:PySem.W.Frag} {e:PySem.Expr} {T:String} {r:V→List V→Hp→VK→Prop} {to:TE} {t:TA} (h:X.K=K) (p:PE X e (tBM X.K T r to t)):PE X e (tBM K T r to t):=h ▸ p
end L2
namespace L2
open PySem PySem.Spec PyProof.Rows
open VL (s0)
theorem newEnv_around {M:Model} {A:Around} {E:Value→Shared→Prop} {s:Shared} {scope:Scope} {globals:Addr} {cl:List (Str×Addr)} {qual:Str} {outer:Env} {Q:Env→Shared→Prop}
    (hQ:Q { scope,locals:=s.heap.objs.size,globals,cells:=cellsFrom (s.heap.objs.size+1) scope.names cl,qual,func:=none,code:=outer.code,frame:=outer.frame,builtins:=outer.builtins } { s with heap:=pushCells (s.heap.push { cls:=.type "dict", data:=.dict #[] }) scope.names }) :
    wpAny M A (newFunctionEnv scope globals cl [] qual none .none (some outer)) Q E s:=by
  simp only [newFunctionEnv,Option.isSome_some,if_true]
  refine wpAny_bind (wpAny_alloc ?_)
  refine wpAny_bind (wpAny_layCells _ (fun name kind cells=>by cases hkc:kind==NameKind.cell <;> simp [hkc]) _ _ _ _ ?_)
  rw [show ({ s with heap:=s.heap.push { cls:=.type "dict", data:=.dict #[] } }:Shared).heap.objs.size=s.heap.objs.size+1 from Heap.size_push ..]
  rw [List.forIn_nil]
  exact wpAny_bind (wpAny_pure (wpAny_pure hQ))
theorem cells_split:∀ (names:List (Str×NameKind)) (h:Heap) (acc:List (Str×Addr)) (x:Str) (c:Addr),(cellsFrom h.objs.size names acc).lookup x=some c→((pushCells h names).IsCell c none∧h.objs.size≤c)∨acc.lookup x=some c
  | [],_,_,_,_,e=>.inr e
  | (name,kind)::r,h,acc,x,c,e=>by
    unfold cellsFrom at e
    unfold pushCells
    split at e
    · rename_i hk
      rw [if_pos hk]
      rcases cells_split r (h.push { cls:=.type "cell", data:=.cell none }) ((name,h.objs.size)::acc) x c (by rw [Heap.size_push]; exact e) with ⟨q1,q2⟩ | q
      · rw [Heap.size_push] at q2
        exact .inl ⟨q1,by omega⟩
      · rw [List.lookup_cons] at q
        cases hb:x==name with
        | true =>
          rw [hb] at q
          cases q
          exact .inl ⟨⟨_,pushCells_keeps _ _ _ _ (Heap.get?_push_size _ rfl),rfl⟩,Nat.le_refl _⟩
        | false=>rw [hb] at q; exact .inr q
    · rename_i hk
      rw [if_neg hk]
      exact cells_split r h acc x c e
theorem cells_inj:∀ (names:List (Str×NameKind)) (n:Nat) (acc:List (Str×Addr)),(∀ x y c,acc.lookup x=some c→acc.lookup y=some c→x=y)→(∀ x c,acc.lookup x=some c→c<n)→∀ x y c,(cellsFrom n names acc).lookup x=some c→(cellsFrom n names acc).lookup y=some c→x=y
  | [],_,_,hi,_=>hi
  | (name,kind)::r,n,acc,hi,hb=>by
    unfold cellsFrom
    split
    · refine cells_inj r (n+1) ((name,n)::acc) (fun x y c h1 h2=>?_) fun x c h=>?_
      · rw [List.lookup_cons] at h1 h2
        cases e1:x==name with
        | true =>
          cases e2:y==name with
          | true=>rw [eq_of_beq e1,eq_of_beq e2]
          | false =>
            rw [e1] at h1; rw [e2] at h2
            cases h1
            exact absurd (hb _ _ h2) (Nat.lt_irrefl _)
        | false =>
          cases e2:y==name with
          | true =>
            rw [e1] at h1; rw [e2] at h2
            cases h2
            exact absurd (hb _ _ h1) (Nat.lt_irrefl _)
          | false=>rw [e1] at h1; rw [e2] at h2; exact hi x y c h1 h2
      · rw [List.lookup_cons] at h
        cases e1:x==name with
        | true=>rw [e1] at h; cases h; exact Nat.lt_succ_self _
        | false=>rw [e1] at h; exact Nat.lt_succ_of_lt (hb _ _ h)
    · exact cells_inj r n acc hi hb
theorem cells_out:∀ (names:List (Str×NameKind)) (n:Nat) (acc:List (Str×Addr)) (x:Str),(names.all fun y=>!(y.2==.cell) || !(y.1==x))=true→(cellsFrom n names acc).lookup x=acc.lookup x
  | [],_,_,_,_=>rfl
  | (name,kind)::r,n,acc,x,h=>by
    have h:((!(kind==.cell) || !(name==x))&&r.all fun y=>!(y.2==.cell) || !(y.1==x))=true:=h
    obtain ⟨h1,h2⟩:=(Bool.and_eq_true _ _).mp h
    unfold cellsFrom
    split
    · rename_i hk
      rw [cells_out r _ _ x h2,List.lookup_cons]
      have:(x==name)=false:=by
        rw [hk] at h1
        have h1:(name==x)=false:=by simpa using h1
        rw [beq_eq_false_iff_ne] at h1 ⊢
        exact fun z=>h1 z.symm
      rw [this]
    · exact cells_out r _ _ x h2
def compCxC (X:Cx) (N':List Str) (scope:Scope) (cl:List (Str×Addr)) (C:Addr) (s3:Shared) (H3:Hp) (fp:List Addr) (pins:List (Addr×Obj)):Cx :=
  { X with N:=N',s₀:=s3,H₀:=H3,env:=compEnvC scope (cellsFrom (C+1) scope.names cl) C X.env,outer:=X.stack,stack:=X.stack,ex:=fp,fn:=fun x=>scope.names.lookup x==some .cell,pn:=X.pn++pins,xe:=fun _ _=>False }
structure FreesC (X:Cx) (N':List Str) (scope:Scope) (cl:List (Str×Addr)) (σ σ0:St):Prop where
  sub:∀ x c,cl.lookup x=some c→X.env.cells.lookup x=some c
  vals:∀ (j:Nat) (x:Str) (v:V),N'[j]?=some x→σ0[j]?=some (some v)→∃ (i:Nat) (c:Addr),X.N[i]?=some x∧σ[i]?=some (some v)∧Vis X.env.scope x∧X.env.kindOf x≠some .local∧cl.lookup x=some c ∧
    ((relabel scope X.env).names.lookup x=some .cell∨(relabel scope X.env).names.lookup x=some .free)
  vout:∀ (j:Nat) (x:Str) (v:V),N'[j]?=some x→σ0[j]?=some (some v)→(scope.names.all fun y=>!(y.2==.cell) || !(y.1==x))=true
  has:∀ x,((relabel scope X.env).names.lookup x=some .cell∨(relabel scope X.env).names.lookup x=some .free)→scope.names.lookup x=some .cell∨(cl.lookup x).isSome=true
  out:∀ x c,(scope.names.lookup x==some .cell)=true→¬ cl.lookup x=some c
  len:σ0.length=N'.length
section
variable {X:Cx} {tg elt iter:Expr} {ifs:List Expr} {scope:Scope} {cl:List (Str×Addr)} {N':List Str} {σ0:St→St} {g:TG} {tt:TT} {te:TE}
theorem comp_blockC {pos:Pos} {pins:List (Addr×Obj)} {σ:St} {H1:Hp} {s2:Shared} {it:Addr} {fp:List Addr} {tn:Nat→Heap→Prop} {J:It} {Q:VK} {RR:Value→Addr→Result→Shared→Prop}
    (hc:X.calm=true) (hkind:scope.kind=.function)
    (I:Inv X pins σ H1 s2) (T:Turn X.prog X.w X.K tg J fp it tn) (st:tn 0 s2.heap) (hfp:∀ b∈fp,FpOk X pins H1 b) (fr:FreesC X N' scope cl σ (σ0 σ)) (hk:Keepg g (σ0 σ))
    (hg:∀ C s3 H3 fp pins,PG (compCxC X N' scope cl C s3 H3 fp pins) tg g)
    (ht:∀ C s3 H3 fp pins (pl:List (Addr×Obj)) (s:Shared) (σ:St) (H:Hp) (Q:Bool→Hp→Prop),Inv (compCxC X N' scope cl C s3 H3 fp pins) pl σ H s→tt σ H Q →
      wpAny (model X.prog X.w) X.A (forIn ifs true fun c r=>if r=true then do let ok ← isTrue c (compEnvC scope (cellsFrom (C+1) scope.names cl) C X.env) (eval c (compEnvC scope (cellsFrom (C+1) scope.names cl) C X.env)); pure (ForInStep.yield ok) else pure (ForInStep.yield r)) (TP (compCxC X N' scope cl C s3 H3 fp pins) pl σ Q) (fun _ _=>False) s)
    (he:∀ C s3 H3 fp pins,PE (compCxC X N' scope cl C s3 H3 fp pins) elt te) (hw:compW J g tt te (σ0 σ) H1 Q)
    (hRR:∀ D C s' H' m,Inv X pins σ H' s'→s'.heap.Ns C m→H' C=none→C≠X.env.locals→X.s₀.heap.objs.size≤C→(∀ x c,X.env.cells.lookup x=some c→c≠C)→(∀ p∈X.pn++pins,p.1≠C)→Q (.ref D) H'→RR (.ref D) C (.ok .next) s') :
    wpAny (model X.prog X.w) X.A (newList []) (fun acc s₃=>wpAny (model X.prog X.w) X.A (newFunctionEnv scope X.env.globals cl [] X.env.qual none .none (some X.env)) (fun cenv s₄ =>
      codeAny (model X.prog X.w) X.A (.compStart (.ListComp elt [⟨tg,iter,ifs,0⟩] scope pos) 0 (.ref it) acc { cenv with scope:=relabel scope X.env }) (RR acc cenv.locals) s₄) X.xe s₃) X.xe s2:=by
  refine wpAny_newObj_type (hd:=by size_fits) (newEnv_around ?_)
  dsimp only
  have I3:Inv X pins σ (upd H1 s2.heap.objs.size (.lst [])) { s2 with heap:=s2.heap.push { cls:=.type "list", dict:=none,data:=.seq ([]:List Value).toArray } }:=I.lnew (t':=s2.toks) (its:=[]) (ys:=[]) .nil (Nat.zero_le _)
  obtain ⟨W,⟨m0,w0⟩,turn⟩:=hw s2.heap.objs.size I.fresh
  have hfpo:=T.obj 0 _ st
  have fpl:∀ b∈fp,b<s2.heap.objs.size:=fun b hb=>by
    obtain ⟨o,e,_⟩:=hfpo b hb
    exact Heap.lt_size e
  have fD:∀ b∈fp,upd H1 s2.heap.objs.size (.lst []) b=none:=fun b hb=>by
    rw [upd_ne (Nat.ne_of_lt (fpl b hb))]
    exact (hfp b hb).1
  generalize hs3:({ s2 with heap:=s2.heap.push { cls:=.type "list", dict:=none,data:=.seq ([]:List Value).toArray } }:Shared)=s3 at I3
  have es3:s3.heap=s2.heap.push { cls:=.type "list", dict:=none,data:=.seq ([]:List Value).toArray }:=by rw [← hs3]
  have st3:tn 0 s3.heap:=T.keep _ _ _ st fun b hb o e=>by rw [es3]; exact Heap.get?_push_of_some _ e
  rw [← es3]
  have sz3:s2.heap.objs.size<s3.heap.objs.size:=by rw [es3,Heap.size_push]; exact Nat.lt_succ_self _
  generalize upd H1 s2.heap.objs.size (.lst [])=H3 at I3 fD w0
  have hns₁:(pushCells (s3.heap.push { cls:=.type "dict", data:=.dict #[] }) scope.names).Ns s3.heap.objs.size (fun _=>none):=(Heap.Ns.new s3.heap (.type "dict")).keeps (pushCells_keeps _ _)
  have old:∀ b o,s3.heap.get? b=some o→(pushCells (s3.heap.push { cls:=.type "dict", data:=.dict #[] }) scope.names).get? b=some o:=fun b o e=>pushCells_keeps _ _ b o (Heap.get?_push_of_some _ e)
  have cnew:=fun x c (e:(cellsFrom (s3.heap.objs.size+1) scope.names cl).lookup x=some c)=>cells_split scope.names (s3.heap.push { cls:=.type "dict", data:=.dict #[] }) cl x c (by rw [Heap.size_push]; exact e)
  rw [Heap.size_push] at cnew
  have below:∀ x c,cl.lookup x=some c→c<s3.heap.objs.size:=fun x c e=>by
    obtain ⟨v,o,ho,_⟩:=I3.cell x c (fr.sub x c e)
    exact Heap.lt_size ho
  generalize pushCells (s3.heap.push { cls:=.type "dict", data:=.dict #[] }) scope.names=h₁ at hns₁ old cnew
  have fpl3:∀ b∈fp,b<s3.heap.objs.size:=fun b hb=>Nat.lt_trans (fpl b hb) sz3
  have stk:∀ b∈fp,b∉frs X.stack:=fun b hb z=>by
    rcases List.mem_cons.mp (I3.stkSub b z) with e | e
    · exact (hfp b hb).2.1 e
    · exact (hfp b hb).2.2.1 e
  have ok:(compCxC X N' scope cl s3.heap.objs.size s3 H3 fp pins).Ok:=by
    refine ⟨I3.ok.mod,hkind,I3.ok.glob,I3.ok.blt,Nat.le_refl _,cells_inj scope.names _ cl (fun x y c h1 h2=>I3.ok.inj x y c (fr.sub x c h1) (fr.sub y c h2)) (fun x c e=>Nat.lt_succ_of_lt (below x c e)),fun x h=>?has,fun x c h e=>?cab,I3.ok.hd,I3.ok.frames,.inl rfl,
      fun b hb=>⟨Nat.ne_of_lt (fpl3 b hb),fun x c e=>?exf⟩,I3.bs,Nat.le_trans I3.ok.bsz I3.sz,fun b o e hb=>?noex,fun b hb=>stk b hb,I3.stack,I3.stkFree⟩
    case has=>exact Option.isSome_iff_exists.mp (PySem.W.cellsFrom_some scope.names _ cl (fr.has x h))
    case cab =>
      rcases cnew x c e with ⟨_,q⟩ | q
      · exact Nat.le_trans (Nat.le_succ _) q
      · exact absurd q (fr.out x c h)
    case exf =>
      rcases cnew x c e with ⟨_,q⟩ | q
      · intro z
        have l1:=fpl3 b hb
        rw [← z] at l1
        exact absurd (Nat.lt_of_lt_of_le l1 (Nat.le_trans (Nat.le_succ _) q)) (Nat.lt_irrefl _)
      · exact (hfp b hb).2.2.2.2.1 x c (fr.sub x c q)
    case noex =>
      rcases (hfp b hb).2.2.2.1 with z | z
      · exact I3.ok.noex b o e z
      · have l1:b<X.base.objs.size:=Heap.lt_size e
        have l2:X.base.objs.size≤X.s₀.heap.objs.size:=I3.ok.bsz
        have l3:X.s₀.heap.objs.size≤b:=z
        exact absurd (Nat.lt_of_lt_of_le l1 (Nat.le_trans l2 l3)) (Nat.lt_irrefl _)
  have lt3:X.env.locals<s3.heap.objs.size:=I3.lt
  have start:Inv (compCxC X N' scope cl s3.heap.objs.size s3 H3 fp pins) [] (σ0 σ) H3 { s3 with heap:=h₁ }:=by
    refine ⟨ok,rfl,I3.bare,Un.kept old,⟨_,hns₁,fun j x v e1 e2 _=>?_⟩,fun x c e=>?_,I3.hok.fresh (Nat.le_refl _),fun x c e=>?fc,fun p hp=>?_,I3.hok.kept old,fr.len⟩
    case fc =>
      rcases cnew x c e with ⟨_,q⟩ | q
      · exact I3.hok.fresh (by omega)
      · exact I3.freeC x c (fr.sub x c q)
    · obtain ⟨i,c,q1,q2,q3,q4,q5,q6⟩:=fr.vals j x v e1 e2
      obtain ⟨m,hn,hl⟩:=I3.loc
      obtain ⟨u,r,l⟩:=hl i x v q1 q2 q3
      refine ⟨u,r,.inr ⟨q6,c,(cells_out scope.names _ cl x (fr.vout j x v e1 e2)).trans q5,?_⟩⟩
      rcases l with ⟨k,_⟩ | ⟨_,c',e',z⟩
      · exact absurd k q4
      · rw [fr.sub x c q5] at e'
        cases e'
        obtain ⟨o,ho,hd⟩:=z
        exact ⟨o,old _ _ ho,hd⟩
    · rcases cnew x c e with ⟨q,_⟩ | q
      · exact ⟨_,q⟩
      · obtain ⟨v,o,ho,hd⟩:=I3.cell x c (fr.sub x c q)
        exact ⟨v,o,old _ _ ho,hd⟩
    · have hp':p∈X.pn++pins:=by simpa [compCxC] using hp
      obtain ⟨e,n,ne,nf,d⟩:=I3.pin p hp'
      refine ⟨old _ _ e,n,Nat.ne_of_lt (Heap.lt_size e),fun z=>?_,d⟩
      rcases List.mem_cons.mp (I3.stkSub p.1 z) with q | q
      · exact ne q
      · exact nf q
  have hst₁:tn 0 h₁:=T.keep _ _ _ st3 fun b _ o e=>old b o e
  have fpok:∀ {H':Hp},(∀ b∈fp,H' b=none)→∀ b∈fp,FpOk (compCxC X N' scope cl s3.heap.objs.size s3 H3 fp pins) [] H' b:=fun {H'} hn b hb =>
    ⟨hn b hb,Nat.ne_of_lt (fpl3 b hb),stk b hb,.inl hb,fun x c e=>by
      rcases cnew x c e with ⟨_,q⟩ | q
      · intro z
        have l1:=fpl3 b hb
        rw [← z] at l1
        exact absurd (Nat.lt_of_lt_of_le l1 (Nat.le_trans (Nat.le_succ _) q)) (Nat.lt_irrefl _)
      · exact (hfp b hb).2.2.2.2.1 x c (fr.sub x c q),fun p hp=>(hfp b hb).2.2.2.2.2 p (by simpa [compCxC] using hp)⟩
  have loop:codeAny (model X.prog X.w) X.A (.compLoop (.ListComp elt [⟨tg,iter,ifs,0⟩] scope pos) 0 (.ref it) (.ref s2.heap.objs.size) (compEnvC scope (cellsFrom (s3.heap.objs.size+1) scope.names cl) s3.heap.objs.size X.env)) (RR (.ref s2.heap.objs.size) s3.heap.objs.size) { s3 with heap:=h₁ }:=by
    refine compLoop_gen (fun n s'=>∃ i ys H',Inv (compCxC X N' scope cl s3.heap.objs.size s3 H3 fp pins) [] (σ0 σ) H' s'∧tn i s'.heap∧(∀ b∈fp,H' b=none)∧W i n ys H') ?_ m0 ⟨0,[],H3,start,hst₁,fD,w0⟩
    rintro n s4 ⟨i,ys,H4,I4,st4,fr4,w4⟩
    rcases turn i n ys H4 w4 with ⟨stop,eD,q⟩ | ⟨go,step⟩
    · refine thn (T.done (compCxC X N' scope cl s3.heap.objs.size s3 H3 fp pins) rfl rfl rfl hc i [] s4 _ H4 _ I4 (fpok fr4) st4 stop) fun r s5 ⟨hr,I5⟩=>?_
      subst hr
      obtain ⟨m5,n5,_⟩:=I5.loc
      have J5:Inv X pins σ H4 s5:=I3.call' I5.os I5.base I5.hok I5.bare fun b hb=>⟨(hfp b hb).2.2.2.1,(hfp b hb).2.1,(hfp b hb).2.2.2.2.1,(hfp b hb).2.2.2.2.2⟩
      exact hRR _ _ s5 H4 m5 J5 n5 I5.free (Nat.ne_of_gt lt3) I3.sz (fun x c e z=>by
        obtain ⟨v,o,ho,_⟩:=I3.cell x c e
        exact absurd (Heap.lt_size ho) (by rw [z]; exact Nat.lt_irrefl _)) (fun p hp z=>by
        have e:=(I3.pin p hp).1
        exact absurd (Heap.lt_size e) (by rw [z]; exact Nat.lt_irrefl _)) q
    · refine thn (T.item (compCxC X N' scope cl s3.heap.objs.size s3 H3 fp pins) rfl rfl rfl hc i [] s4 _ H4 _ I4 (fpok fr4) st4 go) fun r s5 ⟨u,hr,h5⟩=>?_
      subst hr
      refine thn h5 fun _ s6 ⟨x,H6,I6,r6,y6,st6,fr6⟩=>?_
      have I6':=I6.pinned (fpok fr6) (T.obj _ _ st6)
      refine thn (hg _ _ _ _ _ _ s6 _ H6 x u _ I6' r6 (hk _ _ _ (step x H6 y6))) fun _ s7 ⟨σ7,H7,I7,q7,l7,k7⟩=>?_
      have again:∀ {s8:Shared} {H8:Hp} {m:Nat} {zs:List V},Inv (compCxC X N' scope cl s3.heap.objs.size s3 H3 fp pins) ([]++pinsAt fp s6.heap) σ7 H8 s8→m<n→W (i+1) m zs H8 →
          ∃ m,m<n∧∃ i ys H',Inv (compCxC X N' scope cl s3.heap.objs.size s3 H3 fp pins) [] (σ0 σ) H' s8∧tn i s8.heap∧(∀ b∈fp,H' b=none)∧W i m ys H':=fun {s8 H8 m zs} I8 hm w8=>by
        refine ⟨m,hm,i+1,zs,H8,(Inv.unpinned I8).weak l7.symm k7,T.keep _ _ _ st6 fun b hb o e=>(I8.pin (b,o) (List.mem_append_right _ (List.mem_append_right _ (mem_pinsAt hb e)))).1,fun b hb=>?_,w8⟩
        obtain ⟨o,e,d⟩:=T.obj _ _ st6 b hb
        exact (I8.pin (b,o) (List.mem_append_right _ (List.mem_append_right _ (mem_pinsAt hb e)))).2.1
      refine thn (ht _ _ _ _ _ _ s7 σ7 H7 _ I7 q7) fun c s8 ⟨H8,I8,q8⟩=>?_
      cases c with
      | false =>
        rw [if_neg Bool.false_ne_true] at q8 ⊢
        obtain ⟨m',hm,w8⟩:=q8
        exact again I8 hm w8
      | true =>
        rw [if_pos rfl] at q8 ⊢
        refine thn (he _ _ _ _ _ _ s8 σ7 H8 _ I8 q8) fun v s9 ⟨y,H9,I9,r9,e9,z9,m',hm,w9⟩=>?_
        exact thn (mt_append _ s9 σ7 H9 (.ref s2.heap.objs.size) [y] (.ref s2.heap.objs.size) [v] (fun _ H'=>H'=upd H9 s2.heap.objs.size (.lst (ys++[y]))) I9 rfl (.cons r9 .nil) ⟨_,ys,y,rfl,rfl,e9,z9,rfl⟩)
          fun _ s10 ⟨_,H10,I10,_,e10⟩=>by subst e10; exact again I10 hm w9
  subst hs3
  exact codeAny_compStart_list loop (T.self _ 0 _ _ _ hst₁ loop)
variable {pos:Pos} {wi:TI}
theorem pe_compGC (hc:X.calm=true) (hi:PI X tg iter wi) (fr:∀ σ:St,σ.length=X.N.length→FreesC X N' scope cl σ (σ0 σ)) (hk:∀ σ,Keepg g (σ0 σ))
    (hg:∀ C s3 H3 fp pins,PG (compCxC X N' scope cl C s3 H3 fp pins) tg g)
    (ht:∀ C s3 H3 fp pins (pl:List (Addr×Obj)) (s:Shared) (σ:St) (H:Hp) (Q:Bool→Hp→Prop),Inv (compCxC X N' scope cl C s3 H3 fp pins) pl σ H s→tt σ H Q →
      wpAny (model X.prog X.w) X.A (forIn ifs true fun c r=>if r=true then do let ok ← isTrue c (compEnvC scope (cellsFrom (C+1) scope.names cl) C X.env) (eval c (compEnvC scope (cellsFrom (C+1) scope.names cl) C X.env)); pure (ForInStep.yield ok) else pure (ForInStep.yield r)) (TP (compCxC X N' scope cl C s3 H3 fp pins) pl σ Q) (fun _ _=>False) s)
    (he:∀ C s3 H3 fp pins,PE (compCxC X N' scope cl C s3 H3 fp pins) elt te)
    (hclos:closureFor scope X.env=pure cl) (hkind:scope.kind=.function) (hnames:∀ y∈scope.names,y.2=.local→scope.names.lookup y.1=some .local)
    (hs:∀ x,foldedSetIterable iter X.env x=pure x):PE X (.ListComp elt [⟨tg,iter,ifs,0⟩] scope pos) (tComp wi g tt te σ0):=by
  intro pins s σ H Q I h
  rw [eval_ListComp]
  refine wpAny_comprehension_free (use:=none) rfl hs hclos hkind hnames (thn (hi pins s σ H _ I h) fun v s1 h1=>thn h1 fun itv s2 h2=>?_)
  obtain ⟨it,fp,tn,J,H2,e,I2,T,st2,f2,q⟩:=h2
  subst e
  refine comp_blockC (RR:=fun acc C=>compPost (model X.prog X.w) X.A X.xe none (EP X pins σ Q) acc C) hc hkind I2 T st2 f2 (fr σ I.len) (hk σ) hg ht he q ?_
  intro D C s' H' m I' hn hC h1 h2 h3 h4 q'
  refine ⟨m,hn,fun h'' hs''=>⟨.ref D,H',?_,rfl,q'⟩⟩
  exact I'.turned (t':=s'.toks) (fun b o hb e=>hs''.extBut b o hb e) hC h1 (.inr h2) h3 h4
theorem ps_setCGC {i:Nat} {x:Str} {pos' spos:Pos} (hN:X.N.Nodup) (hi':X.N[i]?=some x) (hx:Loc X.env.scope x) (hf:X.fn x=true∨X.env.scope.names.lookup x=some .local)
    (hc:X.calm=true) (hi:PI X tg iter wi) (fr:∀ σ:St,σ.length=X.N.length→FreesC X N' scope cl σ (σ0 σ)) (hk:∀ σ,Keepg g (σ0 σ))
    (hg:∀ C s3 H3 fp pins,PG (compCxC X N' scope cl C s3 H3 fp pins) tg g)
    (ht:∀ C s3 H3 fp pins (pl:List (Addr×Obj)) (s:Shared) (σ:St) (H:Hp) (Q:Bool→Hp→Prop),Inv (compCxC X N' scope cl C s3 H3 fp pins) pl σ H s→tt σ H Q →
      wpAny (model X.prog X.w) X.A (forIn ifs true fun c r=>if r=true then do let ok ← isTrue c (compEnvC scope (cellsFrom (C+1) scope.names cl) C X.env) (eval c (compEnvC scope (cellsFrom (C+1) scope.names cl) C X.env)); pure (ForInStep.yield ok) else pure (ForInStep.yield r)) (TP (compCxC X N' scope cl C s3 H3 fp pins) pl σ Q) (fun _ _=>False) s)
    (he:∀ C s3 H3 fp pins,PE (compCxC X N' scope cl C s3 H3 fp pins) elt te)
    (hclos:closureFor scope X.env=pure cl) (hkind:scope.kind=.function) (hnames:∀ y∈scope.names,y.2=.local→scope.names.lookup y.1=some .local)
    (hs:∀ x,foldedSetIterable iter X.env x=pure x) (hsw:swapsWith (.ListComp elt [⟨tg,iter,ifs,0⟩] scope pos) (some (.Name x pos')) spos.line X.env=pure true) :
    PS X (.Assign [.Name x pos'] (.ListComp elt [⟨tg,iter,ifs,0⟩] scope pos) spos) (tSetC (tComp wi g tt te σ0) i):=by
  intro pins s σ H D I h
  rw [exec_Assign_Name_used _ _ _ _ hsw]
  refine wpAny_bind (wpAny_standAt (wpAny_bind ?_))
  show wpAny _ X.A (do let _ ← comprehension (.ListComp elt [⟨tg,iter,ifs,0⟩] scope pos) scope X.env _ (newList []) false (eval iter X.env) (some (assign (.Name x pos') X.env))) _ _ s
  refine wpAny_bind (wpAny_mono (wpAny_comprehension_free (Q:=fun _ s'=>SP X pins D .next s') (use:=some (assign (.Name x pos') X.env)) rfl hs hclos hkind hnames (thn (hi pins s σ H _ I h) fun v s1 h1=>thn h1 fun itv s2 h2=>?_))
    (fun _ s' hq=>wpAny_pure (wpAny_pure hq)) fun _ _ e=>e)
  obtain ⟨it,fp,tn,J,H2,e,I2,T,st2,f2,q⟩:=h2
  subst e
  refine comp_blockC (RR:=fun acc C=>compPost (model X.prog X.w) X.A X.xe (some (assign (.Name x pos') X.env)) (fun _ s'=>SP X pins D .next s') acc C) hc hkind I2 T st2 f2 (fr σ I.len) (hk σ) hg ht he q ?_
  intro Dl C s' H' m I' hn hC h1 h2 h3 h4 q'
  show wpAny _ _ (assign (.Name x pos') X.env (.ref Dl)) _ _ s'
  refine wpAny_assign_Name (store_ok2 (v:=.ref Dl) I' hN hi' hx rfl (fun s'' I'' ⟨a,hsb,ha⟩=>?_) hf)
  have hne:C≠a:=by
    rcases ha with rfl | ha
    · exact h1
    · exact Ne.symm (h3 x a ha)
  refine ⟨m,hn.sameBut hsb hne,fun h'' hs''=>⟨_,H',?_,q'⟩⟩
  exact I''.turned (t':=s''.toks) (fun b o hb e=>hs''.extBut b o hb e) hC h1 (.inr h2) h3 h4
theorem FreesC.many {is:List Nat} {ts zs:List Str} {k:Nat} {σ:St} (hk:ts.length=k) (hs:SubL X cl) (hc:CapL X scope cl is zs)
    (ha:((relabel scope X.env).names.all fun y=>!(y.2==.cell || y.2==.free) || zs.contains y.1 || (scope.names.lookup y.1==some .cell))=true)
    (ho:(zs.all fun z=>scope.names.all fun y=>!(y.2==.cell) || !(y.1==z))=true) (hcl:(scope.names.all fun y=>!(y.2==.cell) || (cl.lookup y.1).isNone)=true):FreesC X (ts++zs) scope cl σ (s0 k is σ):=by
  have vals:∀ (j:Nat) (x:Str) (v:V),(ts++zs)[j]?=some x→(s0 k is σ)[j]?=some (some v)→x∈zs∧∃ (i:Nat) (c:Addr),X.N[i]?=some x∧σ[i]?=some (some v)∧Vis X.env.scope x∧X.env.kindOf x≠some .local∧cl.lookup x=some c ∧
    ((relabel scope X.env).names.lookup x=some .cell∨(relabel scope X.env).names.lookup x=some .free):=fun j x v e1 e2=>by
    unfold s0 at e2
    by_cases hj:j<k
    · rw [List.getElem?_append_left (by simpa using hj),List.getElem?_replicate,if_pos hj] at e2; cases e2
    · rw [List.getElem?_append_right (by simpa using hj),List.length_replicate,List.getElem?_map] at e2
      rw [List.getElem?_append_right (by omega),hk] at e1
      obtain ⟨i,c,f1,f2,f3,f4,f5⟩:=hc.get _ _ e1
      rw [f1] at e2
      have e3:(σ[i]?).join=some v:=Option.some.inj e2
      refine ⟨List.mem_of_getElem? e1,i,c,f2,VL.join_some e3,?_,?_,f4,f5⟩
      · rcases f3 with q | q
        · exact .inr (.inl q)
        · exact .inr (.inr q)
      · intro w
        have w:X.env.scope.names.lookup x=some .local:=w
        rcases f3 with q | q <;> rw [q] at w <;> cases w
  refine ⟨hs.sub,fun j x v e1 e2=>(vals j x v e1 e2).2,fun j x v e1 e2=>List.all_eq_true.mp ho x (vals j x v e1 e2).1,fun x h=>?_,fun x c h e=>?_,by unfold s0; rw [List.length_append,List.length_append,List.length_replicate,List.length_map,hk,hc.len]⟩
  · have key:∀ kd,(relabel scope X.env).names.lookup x=some kd→(kd==NameKind.cell || kd==NameKind.free)=true→x∈zs∨scope.names.lookup x=some .cell:=fun kd e q=>by
      have m:=List.all_eq_true.mp ha _ (PySem.mem_of_lookup e)
      rw [q] at m
      have m':zs.contains x=true∨(scope.names.lookup x==some .cell)=true:=by simpa using m
      rcases m' with m' | m'
      · exact .inl (List.contains_iff_mem.mp m')
      · exact .inr (eq_of_beq m')
    have mem:x∈zs∨scope.names.lookup x=some .cell:=by
      rcases h with h | h
      · exact key _ h rfl
      · exact key _ h rfl
    rcases mem with mem | mem
    · obtain ⟨j,hj⟩:=List.getElem?_of_mem mem
      obtain ⟨i,c,_,_,_,f4,_⟩:=hc.get j x hj
      exact .inr (by rw [f4]; rfl)
    · exact .inl mem
  · have m:=List.all_eq_true.mp hcl _ (PySem.mem_of_lookup (eq_of_beq h))
    rw [e] at m
    simp at m
variable {c:Expr} {ts zs:List Str} {is:List Nat} {k:Nat}
theorem testsC0:∀ C s3 H3 fp pins (pl:List (Addr×Obj)) (s:Shared) (σ:St) (H:Hp) (Q:Bool→Hp→Prop),Inv (compCxC X N' scope cl C s3 H3 fp pins) pl σ H s→tTrue σ H Q →
    wpAny (model X.prog X.w) X.A (forIn ([]:List Expr) true fun c r=>if r=true then do let ok ← isTrue c (compEnvC scope (cellsFrom (C+1) scope.names cl) C X.env) (eval c (compEnvC scope (cellsFrom (C+1) scope.names cl) C X.env)); pure (ForInStep.yield ok) else pure (ForInStep.yield r)) (TP (compCxC X N' scope cl C s3 H3 fp pins) pl σ Q) (fun _ _=>False) s :=
  fun _ _ _ _ _ _ _ _ H _ I h=>wpAny_tests_nil ⟨H,I,h⟩
theorem testsC1 (ht:∀ C s3 H3 fp pins,PT (compCxC X N' scope cl C s3 H3 fp pins) c tt):∀ C s3 H3 fp pins (pl:List (Addr×Obj)) (s:Shared) (σ:St) (H:Hp) (Q:Bool→Hp→Prop),Inv (compCxC X N' scope cl C s3 H3 fp pins) pl σ H s→tt σ H Q →
    wpAny (model X.prog X.w) X.A (forIn [c] true fun c r=>if r=true then do let ok ← isTrue c (compEnvC scope (cellsFrom (C+1) scope.names cl) C X.env) (eval c (compEnvC scope (cellsFrom (C+1) scope.names cl) C X.env)); pure (ForInStep.yield ok) else pure (ForInStep.yield r)) (TP (compCxC X N' scope cl C s3 H3 fp pins) pl σ Q) (fun _ _=>False) s :=
  fun C s3 H3 fp pins pl s σ H Q I h=>wpAny_tests_one (ht C s3 H3 fp pins pl s σ H Q I h)
theorem pe_cM0 (hc:X.calm=true) (hi:PI X tg iter wi) (hk:ts.length=k) (hs:SubL X cl) (hcp:CapL X scope cl is zs) (ha:((relabel scope X.env).names.all fun y=>!(y.2==.cell || y.2==.free) || zs.contains y.1 || (scope.names.lookup y.1==some .cell))=true)
    (ho:(zs.all fun z=>scope.names.all fun y=>!(y.2==.cell) || !(y.1==z))=true) (hcl:(scope.names.all fun y=>!(y.2==.cell) || (cl.lookup y.1).isNone)=true) (hl:Low k g)
    (hg:∀ C s3 H3 fp pins,PG (compCxC X (ts++zs) scope cl C s3 H3 fp pins) tg g) (he:∀ C s3 H3 fp pins,PE (compCxC X (ts++zs) scope cl C s3 H3 fp pins) elt te)
    (hclos:closureFor scope X.env=pure cl) (hkind:scope.kind=.function) (hnames:∀ y∈scope.names,y.2=.local→scope.names.lookup y.1=some .local)
    (hf:∀ x,foldedSetIterable iter X.env x=pure x:=by intro _; rfl):PE X (.ListComp elt [⟨tg,iter,[],0⟩] scope pos) (tComp wi g tTrue te (s0 k is)) :=
  pe_compGC hc hi (fun _ _=>FreesC.many hk hs hcp ha ho hcl) (fun σ=>hl.keep σ) hg testsC0 he hclos hkind hnames hf
theorem pe_cM1 (hc:X.calm=true) (hi:PI X tg iter wi) (hk:ts.length=k) (hs:SubL X cl) (hcp:CapL X scope cl is zs) (ha:((relabel scope X.env).names.all fun y=>!(y.2==.cell || y.2==.free) || zs.contains y.1 || (scope.names.lookup y.1==some .cell))=true)
    (ho:(zs.all fun z=>scope.names.all fun y=>!(y.2==.cell) || !(y.1==z))=true) (hcl:(scope.names.all fun y=>!(y.2==.cell) || (cl.lookup y.1).isNone)=true) (hl:Low k g)
    (hg:∀ C s3 H3 fp pins,PG (compCxC X (ts++zs) scope cl C s3 H3 fp pins) tg g) (ht:∀ C s3 H3 fp pins,PT (compCxC X (ts++zs) scope cl C s3 H3 fp pins) c tt) (he:∀ C s3 H3 fp pins,PE (compCxC X (ts++zs) scope cl C s3 H3 fp pins) elt te)
    (hclos:closureFor scope X.env=pure cl) (hkind:scope.kind=.function) (hnames:∀ y∈scope.names,y.2=.local→scope.names.lookup y.1=some .local)
    (hf:∀ x,foldedSetIterable iter X.env x=pure x:=by intro _; rfl):PE X (.ListComp elt [⟨tg,iter,[c],0⟩] scope pos) (tComp wi g tt te (s0 k is)) :=
  pe_compGC hc hi (fun _ _=>FreesC.many hk hs hcp ha ho hcl) (fun σ=>hl.keep σ) hg (testsC1 ht) he hclos hkind hnames hf
theorem ps_cM0 {i:Nat} {x:Str} {pos' spos:Pos} (hN:X.N.Nodup) (hi':X.N[i]?=some x) (hxl:X.env.scope.names.lookup x=some .local) (hc:X.calm=true) (hi:PI X tg iter wi) (hk:ts.length=k) (hs:SubL X cl) (hcp:CapL X scope cl is zs) (ha:((relabel scope X.env).names.all fun y=>!(y.2==.cell || y.2==.free) || zs.contains y.1 || (scope.names.lookup y.1==some .cell))=true)
    (ho:(zs.all fun z=>scope.names.all fun y=>!(y.2==.cell) || !(y.1==z))=true) (hcl:(scope.names.all fun y=>!(y.2==.cell) || (cl.lookup y.1).isNone)=true) (hl:Low k g)
    (hg:∀ C s3 H3 fp pins,PG (compCxC X (ts++zs) scope cl C s3 H3 fp pins) tg g) (he:∀ C s3 H3 fp pins,PE (compCxC X (ts++zs) scope cl C s3 H3 fp pins) elt te)
    (hclos:closureFor scope X.env=pure cl) (hkind:scope.kind=.function) (hnames:∀ y∈scope.names,y.2=.local→scope.names.lookup y.1=some .local)
    (hf:∀ x,foldedSetIterable iter X.env x=pure x:=by intro _; rfl) (hsw:swapsWith (.ListComp elt [⟨tg,iter,[],0⟩] scope pos) (some (.Name x pos')) spos.line X.env=pure true:=by rfl):PS X (.Assign [.Name x pos'] (.ListComp elt [⟨tg,iter,[],0⟩] scope pos) spos) (tSetC (tComp wi g tTrue te (s0 k is)) i) :=
 ps_setCGC hN hi' (.inl hxl) (.inr hxl) hc hi (fun _ _=>FreesC.many hk hs hcp ha ho hcl) (fun σ=>hl.keep σ) hg testsC0 he hclos hkind hnames hf hsw
theorem ps_cM1 {i:Nat} {x:Str} {pos' spos:Pos} (hN:X.N.Nodup) (hi':X.N[i]?=some x) (hxl:X.env.scope.names.lookup x=some .local) (hc:X.calm=true) (hi:PI X tg iter wi) (hk:ts.length=k) (hs:SubL X cl) (hcp:CapL X scope cl is zs) (ha:((relabel scope X.env).names.all fun y=>!(y.2==.cell || y.2==.free) || zs.contains y.1 || (scope.names.lookup y.1==some .cell))=true)
    (ho:(zs.all fun z=>scope.names.all fun y=>!(y.2==.cell) || !(y.1==z))=true) (hcl:(scope.names.all fun y=>!(y.2==.cell) || (cl.lookup y.1).isNone)=true) (hl:Low k g)
    (hg:∀ C s3 H3 fp pins,PG (compCxC X (ts++zs) scope cl C s3 H3 fp pins) tg g) (ht:∀ C s3 H3 fp pins,PT (compCxC X (ts++zs) scope cl C s3 H3 fp pins) c tt) (he:∀ C s3 H3 fp pins,PE (compCxC X (ts++zs) scope cl C s3 H3 fp pins) elt te)
    (hclos:closureFor scope X.env=pure cl) (hkind:scope.kind=.function) (hnames:∀ y∈scope.names,y.2=.local→scope.names.lookup y.1=some .local)
    (hf:∀ x,foldedSetIterable iter X.env x=pure x:=by intro _; rfl) (hsw:swapsWith (.ListComp elt [⟨tg,iter,[c],0⟩] scope pos) (some (.Name x pos')) spos.line X.env=pure true:=by rfl):PS X (.Assign [.Name x pos'] (.ListComp elt [⟨tg,iter,[c],0⟩] scope pos) spos) (tSetC (tComp wi g tt te (s0 k is)) i) :=
 ps_setCGC hN hi' (.inl hxl) (.inr hxl) hc hi (fun _ _=>FreesC.many hk hs hcp ha ho hcl) (fun σ=>hl.keep σ) hg (testsC1 ht) he hclos hkind hnames hf hsw
end
end L2
namespace L2
open PySem PySem.Spec PyProof.Rows
theorem pgbC {X:Cx} {N':List Str} {scope:Scope} {cl:List (Str×Addr)} {i:Nat} {y:Str} {py:Pos} {C:Addr} {s3:Shared} {H3:Hp} {fp:List Addr} {pins:List (Addr×Obj)} (nd:N'.Nodup) (hi:N'[i]?=some y)
    (hx:Loc (relabel scope X.env) y) (hf:(scope.names.lookup y==some .cell)=true∨(relabel scope X.env).names.lookup y=some .local):PG (compCxC X N' scope cl C s3 H3 fp pins) (.Name y py) (gName i):=pg_name nd hi hx hf
end L2
namespace L2
open PySem PySem.Spec PyProof.Rows
theorem turn_pairs {P:Program} {w:World} {K:PySem.W.Frag} {elts:List Expr} {x1} {pos:Pos} {J:It} {fp wr:List Addr} {it:Addr} {tn:Nat→Heap→Prop} (hm:it∈fp) (hwr:∀ b∈wr,b∈fp)
    (ho:∀ i h,tn i h→∀ b∈fp,∃ o,h.get? b=some o∧∀ v,o.data≠.cell v) (hk:∀ i h h',tn i h→(∀ b∈fp,∀ o,h.get? b=some o→h'.get? b=some o)→tn i h')
    (hs:∀ (A:Around) (i:Nat) (s:Shared) (Q:Value→Shared→Prop) (E:Value→Shared→Prop),tn i s.heap→Q (.ref it) s→wpAny (model P w) A (pyIter (.ref it)) Q E s)
    (hi:∀ (X:Cx),X.prog=P→X.w=w→X.K=K→X.calm=true→∀ (i:Nat) (pins:List (Addr×Obj)) (s:Shared) (σ:St) (H:Hp),Inv X pins σ H s→tn i s.heap→J.go i H →
      ∃ f2 n Pt S M,WalksT P w X.A it f2 wr n Pt S M∧i<n∧S i s.heap∧(∀ h,S (i+1) h→tn (i+1) h)∧∀ vals,Pt i vals→∃ ws,ws.length≤sizeLine∧Vals ws vals.toList∧∀ t,H t=none→J.yld i H (.ref t) (upd H t (.tup ws)))
    (hd:∀ (X:Cx),X.prog=P→X.w=w→X.K=K→X.calm=true→∀ (i:Nat) (pins:List (Addr×Obj)) (s:Shared) (σ:St) (H:Hp),Inv X pins σ H s→tn i s.heap→J.stop i H→∃ f2 Pt S M,WalksT P w X.A it f2 wr i Pt S M∧S i s.heap) :
    Turn P w K (.Tuple elts x1 pos) J fp it tn where
  mem:=hm
  obj:=ho
  keep:=hk
  item:=by
    intro X hP hw hK hc i pins s σ H E I hf st hg
    obtain ⟨f2,n,Pt,S,M,W,hin,hS,hback,hpt⟩:=hi X hP hw hK hc i pins s σ H I st hg
    subst hP hw hK
    refine W.item i s _ _ hin hS fun T vals h1 tk hv hT tup1 mid kk1=>⟨_,rfl,?_⟩
    refine W.go elts x1 pos i T _ _ _ mid fun h2 S2 kk2=>?_
    obtain ⟨ws,hz,rv,yl⟩:=hpt vals hv
    have k2:∀ b o,b∉wr→s.heap.get? b=some o→h2.get? b=some o:=fun b o nb e=>kk2 b o nb (kk1 b o nb e)
    have nwr:∀ b u,H b=some u→b∉wr:=fun b u e z=>by rw [(hf b (hwr b z)).1] at e; cases e
    have nH:H T=none:=I.hok.fresh hT
    obtain ⟨o,eo,oc,nn,od⟩:=tup1
    have tup2:h2.get? T=some o:=kk2 T o (W.apart _ _ _ mid) eo
    have loc:X.env.locals∉wr:=fun z=>(hf _ (hwr _ z)).2.1 rfl
    have all:∀ b∈wr,(b∈X.ex∨X.s₀.heap.objs.size≤b)∧b≠X.env.locals∧(∀ x c,X.env.cells.lookup x=some c→c≠b)∧∀ p∈X.pn++pins,p.1≠b:=fun b z=>by
      obtain ⟨_,g1,_,g3,g4,g5⟩:=hf b (hwr b z)
      exact ⟨g3,g1,g4,g5⟩
    have nsk:∀ m,s.heap.Ns X.env.locals m→h2.Ns X.env.locals m:=fun m q=>by
      obtain ⟨oo,es,ep,q1,r⟩:=q
      exact ⟨oo,es,ep,k2 _ oo loc q1,r⟩
    have ok1:HOk X.prog X.w H h2:=fun b u q=>by
      refine (I.hok b u q).stay (fun c v hc' q'=>k2 c v ?_ q') (fun _ q'=>q') fun _ _ q'=>q'
      rcases hc' with z | z
      · rw [z]; exact nwr b u q
      · exact nwr c _ z
    have upk:∀ {b:Addr} {u:HO},H b=some u→upd H T (.tup ws) b=some u:=fun {b u} q=>by rw [upd_ne (ne_of_none q nH)]; exact q
    have ok2:HOk X.prog X.w (upd H T (.tup ws)) h2:=fun b u q=>by
      by_cases hb:b=T
      · subst hb
        rw [upd_same] at q
        cases q
        exact ⟨hz,vals.toList,rv,⟨o,tup2,oc,nn,by rw [od]⟩⟩
      · rw [upd_ne hb] at q
        exact (ok1 b u q).stay (fun c v _ q'=>q') (fun c q'=>upk q') (fun c xs' q'=>upk q') fun c o u q'=>upk q'
    have I2:Inv X pins σ (upd H T (.tup ws)) { s with heap:=h2,toks:=tk } :=
      I.step (g':=s.gens) (d':=s.drawn) (ch:=wr) all (fun b o _ _ hc' q _=>k2 b o hc' q) (fun b o _ _ hc' q _=>⟨o.slots,k2 b o hc' q⟩) (fun b o _ q n=>by rw [upd_ne (fun z=>Nat.lt_irrefl _ (Nat.lt_of_lt_of_le (Heap.lt_size q) (by rw [z]; exact hT)))]; exact n)
        (fun b o hc' q=>⟨o,k2 b o hc' q⟩) (fun b xs' q=>upk q) (fun b o u' q=>upk q) (fun b ps q=>⟨#[],by rw [upk q]; simp⟩) nsk ok2 I.bare
    refine ⟨.ref T,_,I2,rfl,yl T nH,hback _ S2,fun b hb=>?_⟩
    by_cases e:b=T
    · exfalso
      subst e
      obtain ⟨o',e',_⟩:=ho i s.heap st b hb
      exact Nat.lt_irrefl _ (Nat.lt_of_lt_of_le (Heap.lt_size e') hT)
    · rw [upd_ne e]; exact (hf b hb).1
  done:=by
    intro X hP hw hK hc i pins s σ H E I hf st hg
    obtain ⟨f2,Pt,S,M,W,hS⟩:=hd X hP hw hK hc i pins s σ H I st hg
    subst hP hw hK
    refine W.done s _ _ hS fun h' tk kk=>⟨rfl,?_⟩
    refine I.step (g':=s.gens) (d':=s.drawn) (t':=tk) (ch:=wr) (fun b z=>?_) (fun b o _ _ hc' q _=>kk b o hc' q) (fun b o _ _ hc' q _=>⟨o.slots,kk b o hc' q⟩) (fun _ _ _ _ n=>n) (fun b o hc' q=>⟨o,kk b o hc' q⟩) (fun _ _ q=>q) (fun _ _ _ q=>q) (fun b ps q=>⟨#[],by rw [q]; simp⟩) (fun m q=>?_) (fun b u q=>?_) I.bare
    · obtain ⟨_,g1,_,g3,g4,g5⟩:=hf b (hwr b z)
      exact ⟨g3,g1,g4,g5⟩
    · obtain ⟨oo,es,ep,q1,r⟩:=q
      exact ⟨oo,es,ep,kk _ oo (fun z=>(hf _ (hwr _ z)).2.1 rfl) q1,r⟩
    · refine (I.hok b u q).stay (fun c v hc' q'=>kk c v ?_ q') (fun _ q'=>q') fun _ _ q'=>q'
      rcases hc' with z | z
      · rw [z]; exact fun w=>by rw [(hf b (hwr b w)).1] at q; cases q
      · exact fun w=>by rw [(hf c (hwr c w)).1] at z; cases z
  self:=hs
def Itz (K:PySem.W.Frag) (a b:Addr):It :=
  ⟨fun i H=>∃ xs ys x y,SqL K H a xs∧SqL K H b ys∧xs[i]?=some x∧ys[i]?=some y,fun i H x H'=>∃ (t:Addr) (v u:V),x=.ref t∧H t=none∧(∀ xs,SqL K H a xs→xs[i]?=some v)∧(∀ ys,SqL K H b ys→ys[i]?=some u)∧H'=upd H t (.tup [v,u]),
    fun i H=>∃ xs ys,SqL K H a xs∧SqL K H b ys∧i=min xs.length ys.length⟩
theorem turn_zip {P:Program} {w:World} {K:PySem.W.Frag} {elts:List Expr} {x1} {pos:Pos} (a b z TI TO i1 i2:Addr) (D:ZipApart z TI TO i1 i2 a b) :
    Turn P w K (.Tuple elts x1 pos) (Itz K a b) [z,TI,TO,i1,i2] z (fun i h=>IsZip h z TI TO .none∧IsPair h TI (.ref i1) (.ref i2)∧(∃ u v,IsPair h TO u v)∧h.IsListIter i1 a i∧h.IsListIter i2 b i):=by
  refine turn_pairs (wr:=[z,TO,i1,i2]) (fp:=[z,TI,TO,i1,i2]) (by simp) (fun c hc=>by simp only [List.mem_cons,List.not_mem_nil,or_false] at hc ⊢; rcases hc with h | h | h | h <;> simp [h]) (fun i h st c hc=>?_) (fun i h h' st k=>?_) (fun A i s Q E st q=>wpAny_pyIter_zip st.1 q) (fun X hP hw hK hc i pins s σ H I st hg=>?_) (fun X hP hw hK hc i pins s σ H I st hg=>?_)
  · obtain ⟨hz,hTI,⟨u,v,hTO⟩,h1,h2⟩:=st
    have e1:∃ o:Obj,h.get? z=some o∧∀ v,o.data≠.cell v:=⟨_,hz,fun v q=>by have q':Data.fields _=Data.cell v:=q; cases q'⟩
    have e2:∃ o:Obj,h.get? TI=some o∧∀ v,o.data≠.cell v:=⟨_,hTI,fun v q=>by have q':Data.seq _ _=Data.cell v:=q; cases q'⟩
    have e3:∃ o:Obj,h.get? TO=some o∧∀ v,o.data≠.cell v:=⟨_,hTO,fun v q=>by have q':Data.seq _ _=Data.cell v:=q; cases q'⟩
    have e4:∃ o:Obj,h.get? i1=some o∧∀ v,o.data≠.cell v:=let ⟨o,e,_,d⟩:=h1; ⟨o,e,fun v q=>by rw [d] at q; cases q⟩
    have e5:∃ o:Obj,h.get? i2=some o∧∀ v,o.data≠.cell v:=let ⟨o,e,_,d⟩:=h2; ⟨o,e,fun v q=>by rw [d] at q; cases q⟩
    simp only [List.mem_cons,List.not_mem_nil,or_false] at hc
    rcases hc with rfl | rfl | rfl | rfl | rfl
    · exact e1
    · exact e2
    · exact e3
    · exact e4
    · exact e5
  · obtain ⟨hz,hTI,⟨u,v,hTO⟩,h1,h2⟩:=st
    exact ⟨k z (by simp) _ hz,k TI (by simp) _ hTI,⟨u,v,k TO (by simp) _ hTO⟩,h1.at fun o e=>k i1 (by simp) o e,h2.at fun o e=>k i2 (by simp) o e⟩
  · subst hP hw hK
    obtain ⟨xs,ys,x,y,qa,qb,ex,ey⟩:=hg
    obtain ⟨us,r1,p1,_⟩:=I.list qa
    obtain ⟨vs,r2,p2,_⟩:=I.list qb
    have lx:=(List.getElem?_eq_some_iff.mp ex).1
    have ly:=(List.getElem?_eq_some_iff.mp ey).1
    have l1:=r1.length
    have l2:=r2.length
    refine ⟨_,_,_,_,_,WalksT.zip2 (I.ok.hd hc) z TI TO i1 i2 a b D us.toArray vs.toArray,by simp; omega,⟨st.1,st.2.1,st.2.2.1,st.2.2.2.1,st.2.2.2.2,p1.isList,p2.isList⟩,fun h q=>⟨q.1,q.2.1,q.2.2.1,q.2.2.2.1,q.2.2.2.2.1⟩,?_⟩
    rintro vals ⟨u,v,eu,ev,rfl⟩
    obtain ⟨u',f1,g1⟩:=r1.get ex
    obtain ⟨v',f2,g2⟩:=r2.get ey
    have e1:us[i]?=some u:=by simpa using eu
    have e2:vs[i]?=some v:=by simpa using ev
    rw [e1] at f1; cases f1
    rw [e2] at f2; cases f2
    exact ⟨[x,y],by show 2≤sizeLine; decide,.cons g1 (.cons g2 .nil),fun t nt=>⟨t,x,y,rfl,nt,fun zs hz=>by rw [I.list_inj hz qa]; exact ex,fun zs hz=>by rw [I.list_inj hz qb]; exact ey,rfl⟩⟩
  · subst hP hw hK
    obtain ⟨xs,ys,qa,qb,e⟩:=hg
    obtain ⟨us,r1,p1,_⟩:=I.list qa
    obtain ⟨vs,r2,p2,_⟩:=I.list qb
    have l1:=r1.length
    have l2:=r2.length
    have W:=WalksT.zip2 (prog:=X.prog) (w:=X.w) (A:=X.A) (I.ok.hd hc) z TI TO i1 i2 a b D us.toArray vs.toArray
    have en:min us.toArray.size vs.toArray.size=i:=by simp; omega
    rw [en] at W
    exact ⟨_,_,_,_,W,⟨st.1,st.2.1,st.2.2.1,st.2.2.2.1,st.2.2.2.2,p1.isList,p2.isList⟩⟩
theorem zapart (n a b:Nat) (ha:a<n) (hb:b<n):ZipApart (n+4) (n+2) (n+3) n (n+1) a b:=by constructor <;> exact fun (e:@Eq Nat _ _)=>by omega
theorem le5 {n c:Nat} (h:c=n+4∨c=n+2∨c=n+3∨c=n∨c=n+1):n≤c:=by omega
section
variable {X:Cx}
def iZip (K:PySem.W.Frag) (ta tb:TE):TI:=fun σ H R=>tCons ta (tCons tb tNil) σ H fun vs H1=>∃ a b,vs=[.ref a,.ref b]∧(∃ xs,SqL K H1 a xs)∧(∃ ys,SqL K H1 b ys)∧R (Itz K a b) H1
theorem pi_zip {K:PySem.W.Frag} {l m:Expr} {tl tm:TE} {elts:List Expr} {x1} {tpos p pos:Pos} (hK:X.K=K) (hg:Gl X "zip") (hm:X.mg "zip" = none) (ha:PA X [l,m] (tCons tl (tCons tm tNil))) (hs:starEach [l,m] X.env=(false,eval l X.env)::starEach [m] X.env:=by rfl) (hp:(backTo pos (starEach [m] X.env)).any (·.1)=false:=by rfl):PI X (.Tuple elts x1 tpos) (.Call (.Name "zip" p) [l,m] [] pos) (iZip K tl tm):=by
  subst hK
  intro pins s σ H R I h
  refine Call_ (ld_blt I hg hm bt_zip (PyProof.Rows.callWith_type1 (thn (ha pos pins s σ H _ I h) fun us s1 ⟨vs,H1,I1,r1,q1⟩=>?_) hs hp))
  obtain ⟨a,b,rfl,⟨xs,qa⟩,⟨ys,qb⟩,q⟩:=q1
  cases r1 with
  | cons ra r1 =>
    cases r1 with
    | cons rb r1 =>
      cases r1
      cases ra
      cases rb
      obtain ⟨us,v1,p1,_⟩:=I1.list qa
      obtain ⟨ws,v2,p2,_⟩:=I1.list qb
      have la:a<s1.heap.objs.size:=by obtain ⟨_,e,_⟩:=p1.isList; exact Heap.lt_size e
      have lb:b<s1.heap.objs.size:=by obtain ⟨_,e,_⟩:=p2.isList; exact Heap.lt_size e
      refine call_zip_2 p1.isList p2.isList fun h' hz hTI hTO hi1 hi2 hsz hk=>wpAny_pyIter_zip hz ?_
      have I2:Inv X pins σ H1 { s1 with heap:=h' }:=I1.kept (t':=s1.toks) hk
      refine ⟨_,[s1.heap.objs.size+4,s1.heap.objs.size+2,s1.heap.objs.size+3,s1.heap.objs.size,s1.heap.objs.size+1],_,_,H1,rfl,I2,turn_zip a b _ _ _ _ _ (zapart _ _ _ la lb),⟨hz,hTI,⟨_,_,hTO⟩,hi1,hi2⟩,fun c hc=>?_,q⟩
      simp only [List.mem_cons,List.not_mem_nil,or_false] at hc
      have le:s1.heap.objs.size≤c:=le5 hc
      exact I1.fpOk le (I1.hok.fresh le)
end
end L2
namespace VL
open PySem L2
open Classical
noncomputable section
variable [Tabs] {K:PySem.W.Frag}
def zpL (xs ys:List D):List D:=List.zipWith (fun x y=>.tup [x,y]) xs ys
theorem zpL_len (xs ys:List D):(zpL xs ys).length=min xs.length ys.length:=List.length_zipWith ..
theorem zpL_get {xs ys:List D} {i:Nat} {d:D} (h:(zpL xs ys)[i]?=some d):∃ x y,xs[i]?=some x∧ys[i]?=some y∧d=.tup [x,y]:=by
  unfold zpL at h
  rw [List.getElem?_zipWith] at h
  split at h
  · rename_i x y e1 e2; exact ⟨x,y,e1,e2,(Option.some.inj h).symm⟩
  · cases h
theorem walk_zip {Bx H1:Hp} {T:Addr→Prop} {p q:Addr} {vs us:List V} {xs ys:List D} (hl:xs.length≤sizeLine) (h0:∀ H2 T2,Kp T H1 T2 H2→Same Bx H2→SqL K H2 p vs∧IsL K H2 T2 vs xs) (h1:∀ H2 T2,Kp T H1 T2 H2→Same Bx H2→SqL K H2 q us∧IsL K H2 T2 us ys)
    (hsl:vs.length=xs.length) (hsl2:us.length=ys.length):Walk K true Bx (Itz K p q) H1 T (zpL xs ys):=by
  have hlen:=zpL_len xs ys
  refine ⟨by rw [hlen]; omega,fun i d H2 T2 kp sb hd e=>?_,fun i H2 T2 kp sb hi=>?_⟩
  · obtain ⟨x,y,ex,ey,rfl⟩:=zpL_get e
    obtain ⟨s1,r1⟩:=h0 H2 T2 kp sb
    obtain ⟨s2,r2⟩:=h1 H2 T2 kp sb
    obtain ⟨v,e1,i1⟩:=r1.get ex
    obtain ⟨u,e2,i2⟩:=r2.get ey
    refine ⟨⟨vs,us,v,u,s1,s2,e1,e2⟩,fun z H3 hy=>?_⟩
    obtain ⟨t,v',u',ez,nt,hv,hu,e3⟩:=hy
    subst e3 ez
    have q1:=hv vs s1
    have q2:=hu us s2
    rw [e1] at q1; cases q1
    rw [e2] at q2; cases q2
    refine ⟨same_new nt,show Is K _ T2 (.ref t) (.tup [x,y]) from .tup (fun z=>?_) upd_same (by show 2≤sizeLine; decide) ((IsL.cons i1 (.one i2)).same (same_new nt))⟩
    obtain ⟨o,qq⟩:=hd t z
    rw [nt] at qq; cases qq
  · obtain ⟨s1,_⟩:=h0 H2 T2 kp sb
    obtain ⟨s2,_⟩:=h1 H2 T2 kp sb
    exact ⟨vs,us,s1,s2,by rw [← hi,hlen,hsl,hsl2]⟩
noncomputable def dZipB (a b:DE):Rho→Option (List D):=fun ρ=>match asL a ρ with
  | some xs=>(match asL b ρ with
    | some ys=>if flatL xs=true∧flatL ys=true then some (zpL xs ys) else none
    | none=>none)
  | none=>none
theorem dZipB_some {a b:DE} {ρ:Rho} {ds:List D} (h:dZipB a b ρ=some ds):∃ xs ys,asL a ρ=some xs∧asL b ρ=some ys∧flatL xs=true∧flatL ys=true∧ds=zpL xs ys:=by
  unfold dZipB at h
  split at h
  · rename_i xs e
    split at h
    · rename_i ys e2
      by_cases c:flatL xs=true∧flatL ys=true
      · rw [if_pos c] at h; exact ⟨xs,ys,e,e2,c.1,c.2,(Option.some.inj h).symm⟩
      · rw [if_neg c] at h; cases h
    · cases h
  · cases h
theorem swc_zipB {ta tb:TE} {a b:DE} (ha:SemB K ta a) (hb:SemB K tb b):SemWC K true (iZip K ta tb) (dZipB a b):=fun {B Z os ρ σ H R ds} f q k=>by
  obtain ⟨xs,ys,e1,e2,c1,c2,rfl⟩:=dZipB_some q
  obtain ⟨d1,e1,l1⟩:=asL_some e1
  obtain ⟨d2,e2,l2⟩:=asL_some e2
  refine ha f e1 fun v H1 s1 i1=>hb (f.grow s1) e2 fun u H2 s2 i2=>?_
  obtain ⟨p,vs,rfl,hl,hn,hr⟩:=(i1.same s2).seq l1
  obtain ⟨p2,us,rfl,hl2,hn2,hr2⟩:=i2.seq l2
  exact ⟨p,p2,rfl,⟨vs,(hr H2 _ Kp.refl).1⟩,⟨us,(hr2 H2 _ Kp.refl).1⟩,k _ _ (s1.trans s2) (walk_zip (by omega) (fun H3 T3 kp sb=>⟨(hr H3 No (Kp.same sb)).1,(hr H3 No (Kp.same sb)).2.flat c1⟩) (fun H3 T3 kp sb=>⟨(hr2 H3 No (Kp.same sb)).1,(hr2 H3 No (Kp.same sb)).2.flat c2⟩) hn hn2)⟩
theorem ev_zipB {a b:DE} {ρ:Rho} {xs ys:List D} (ha:asL a ρ=some xs) (hb:asL b ρ=some ys) (h1:flatL xs=true) (h2:flatL ys=true):dZipB a b ρ=some (zpL xs ys):=by unfold dZipB; rw [ha,hb]; exact if_pos ⟨h1,h2⟩
end
end VL
namespace PySem
open Sem (wp)
section
variable {prog:Program} {w:World} {A:Around} {E:Value→Shared→Prop} {s:Shared}
end
end PySem
namespace L2
open PySem PySem.Spec PyProof.Rows
section
variable {X:Cx}
end
end L2
namespace VL
open PySem L2
open Classical
noncomputable section
variable [Tabs] {K:PySem.W.Frag}
end
end VL
namespace VL
open PySem L2
open Classical
noncomputable section
variable [Tabs] {K:PySem.W.Frag} {fr:Fm}
def SemM (K:PySem.W.Frag) (t:TE) (e:Rho→Option (List (List D))):Prop:=∀ {B:Hp} {Z:Addr→Prop} {os:Own} {ρ:Rho} {σ:L2.St} {H:Hp} {Q:VK} {rows:List (List D)},Fr K B Z os ρ σ H→e ρ=some rows →
  (∀ x ps H',Same H H'→H x=none→(∀ a∈ps,H a=none)→(x::ps).Nodup→H' x=some (.lst (ps.map V.ref))→ps.length≤sizeLine→Paired (fun q ds=>∃ vs,H' q=some (.lst vs)∧vs.length≤sizeLine∧IsL K H' (fun a=>(a=x∨a∈ps)∨tot Z os a) vs ds) ps rows→Q (.ref x) H')→t σ H Q
noncomputable def dCallF (F:List D→Option D) (es:Rho→Option (List D)):Rho→Option (List D):=fun ρ=>match dCall F es ρ with
  | some (.lst ds)=>some ds
  | _=>none
theorem sf_call {ms:List Bool} {F:List D→Option D} {t:TA} {es:Rho→Option (List D)} {E:XK} (ha:SemA K ms t es):SemF K (tCall (spD .l K ms F) [] E t) (dCallF F es):=fun {B Z os ρ σ H Q ds} f q k=>by
  unfold dCallF at q
  split at q
  · rename_i xs e1
    cases q
    unfold dCall at e1
    split at e1
    · rename_i as e
      refine ha f e fun vs H1 s1 a=>?_
      show spD .l K ms F (vs++[]) H1 Q E
      rw [List.append_nil]
      refine ⟨tot Z os,as,.lst ds,(f.grow s1).zt,a,e1,fun v H2 s2 i=>?_⟩
      obtain ⟨p,us,ds',rfl,ed,hb,hh,hl,r⟩:=i
      cases ed
      exact k p us H2 (s1.trans s2) (Same.free s1 hb) hh hl r
    · cases e1
  · cases q
@[irreducible] noncomputable def sRetX (i:Nat):DS:=fun ρ=>match ρ.getD i .un with
  | .ol ds=>.rt (.lst ds)
  | _=>.no
theorem ss_retX {i:Nat}:SemS .l K (tRet (tVar i)) (sRetX i):=fun {B Z os ρ σ H E} f p=>by
  unfold sRetX at p
  split at p
  · rename_i ds e
    have s:=f.sl i
    rw [e] at s
    obtain ⟨a,vs,eo,hu,hH,hl,r⟩:=s
    have ha:a∈os i:=by rw [eo]; exact List.mem_singleton.mpr rfl
    exact ⟨_,join_some hu,p _ _ f.keep ⟨a,vs,ds,rfl,rfl,(f.new i a ha).1,hH,hl,r.kp (Kp.less fun b z=>z.elim (fun z=>.inr ⟨i,by rw [z]; exact ha⟩) .inl)⟩⟩
  · exact p.elim
@[irreducible] noncomputable def sSetM (i:Nat) (a:Rho→Option (List (List D))):DS:=fun ρ=>match a ρ with
  | some rows=>if i < ρ.length then .nx (ρ.set i (.om rows)) else .no
  | none=>.no
theorem ss_setM {i:Nat} {ta:TE} {a:Rho→Option (List (List D))} (h:SemM K ta a):SemS fr K (tAsg ta (gName i)) (sSetM i a):=fun {B Z os ρ σ H E} f p=>by
  unfold sSetM at p
  split at p
  · rename_i rows e
    by_cases hi:i < ρ.length
    · rw [if_pos hi] at p
      refine h f e fun x ps H1 s1 hx hps hn hH hl r=>?_
      have st:=f.step (H':=H1) (i:=i) hi (o:=x::ps) (s:=.om rows) (v:=some (.ref x)) (fun a u e _=>s1 _ _ e) (fun a ha=>let ⟨xs,e⟩:=(f.sl i).dom ha; ⟨_,s1 _ _ e⟩) hn (fun a ha=>?_)
        ⟨x,ps,rfl,rfl,hH,hl,Paired.mono r fun q ds _ ⟨vs,h1,h2,h3⟩=>⟨vs,h1,h2,h3.kp (Kp.less fun a z=>?_)⟩⟩
      · exact p _ _ _ st.1 st.2
      · rcases List.mem_cons.mp ha with rfl | ha
        · exact .inr hx
        · exact .inr (hps a ha)
      · rcases z with z | ⟨j,z⟩
        · exact .inr (.inl z)
        · by_cases hj:j=i
          · subst hj; rw [putO_same] at z; exact .inl (List.mem_cons.mp z)
          · rw [putO_ne hj] at z; exact .inr (.inr ⟨j,z⟩)
    · rw [if_neg hi] at p; exact p.elim
  · exact p.elim
theorem ss_setMC {i:Nat} {ta:TE} {a:Rho→Option (List (List D))} (h:SemM K ta a):SemS fr K (tSetC ta i) (sSetM i a):=ss_setM (i:=i) h
def frzR (i:Nat) (ρ:Rho):Rho:=match ρ.getD i .un with
  | .om rows=>ρ.set i (.ol (rows.map D.lst))
  | _=>ρ
theorem Fr.freezeR {B H:Hp} {Z:Addr→Prop} {os:Own} {ρ:Rho} {σ:L2.St} (f:Fr K B Z os ρ σ H) (i:Nat):∃ os',Fr K B Z os' (frzR i ρ) σ H∧Kp (tot Z os) H (tot Z os') H:=by
  unfold frzR
  cases e:ρ.getD i .un with
  | om rows =>
    have s:=f.sl i
    rw [e] at s
    obtain ⟨a,ps,eo,hu,hH,hl,i1⟩:=s
    have hi:=getD_lt e (by intro z; cases z)
    have hn:=f.nd i
    rw [eo] at hn
    have less:∀ b,tot Z (putO os i [a]) b→tot Z os b:=by
      rintro b (z | ⟨j,z⟩)
      · exact .inl z
      · by_cases hj:j=i
        · subst hj; rw [putO_same] at z; exact .inr ⟨j,by rw [eo,List.mem_singleton.mp z]; exact List.mem_cons_self⟩
        · rw [putO_ne hj] at z; exact .inr ⟨j,z⟩
    have out:∀ b,b∈ps→¬ tot Z (putO os i [a]) b:=by
      rintro b hb (z | ⟨j,z⟩)
      · exact (f.new i b (by rw [eo]; exact List.mem_cons_of_mem _ hb)).2 z
      · by_cases hj:j=i
        · subst hj; rw [putO_same] at z; rw [List.mem_singleton.mp z] at hb; exact (List.nodup_cons.mp hn).1 hb
        · rw [putO_ne hj] at z; exact hj (f.dj j i b z (by rw [eo]; exact List.mem_cons_of_mem _ hb))
    have st:=f.step (H':=H) (i:=i) hi (o:=[a]) (s:=.ol (rows.map D.lst)) (v:=some (.ref a)) (fun a u e _=>e) (fun a ha=>let ⟨xs,e⟩:=(f.sl i).dom ha; ⟨_,e⟩) (by simp) (fun b h=>by rw [List.mem_singleton.mp h,eo]; exact .inl List.mem_cons_self)
      ⟨a,ps.map V.ref,rfl,rfl,hH,by rw [List.length_map]; exact hl,rows_isZ less out i1⟩
    rw [set_self hu] at st
    exact ⟨_,st⟩
  | ol d=>exact ⟨os,f,Kp.refl⟩
  | un=>exact ⟨os,f,Kp.refl⟩
  | pu d=>exact ⟨os,f,Kp.refl⟩
  | bo d=>exact ⟨os,f,Kp.refl⟩
@[irreducible] noncomputable def sFrzR (i:Nat) (s:DS):DS:=fun ρ=>s (frzR i ρ)
theorem ss_frzR {t:TS} {s:DS} (i:Nat) (h:SemS fr K t s):SemS fr K t (sFrzR i s):=fun {B Z os ρ σ H E} f p=>by
  obtain ⟨os',f',k⟩:=f.freezeR i
  unfold sFrzR at p
  exact h f' (Post.kp k p)
theorem Paired.setAt {α β:Type} {F G:α→β→Prop} {p:α} {y:β}:∀ {ps:List α} {rows:List β} {r:Nat},Paired F ps rows→ps.Nodup→(∀ q ds,q≠p→F q ds→G q ds)→ps[r]?=some p→G p y→Paired G ps (rows.set r y)
  | _,_,0,.cons h t,hn,hf,e,g=>by
    cases e
    exact .cons g (Paired.mono t fun q ds hq h=>hf q ds (fun z=>(List.nodup_cons.mp hn).1 (z ▸ hq)) h)
  | _,_,r+1,.cons h t,hn,hf,e,g=>by
    have e':=show _=some p by simpa using e
    exact .cons (hf _ _ (fun z=>(List.nodup_cons.mp hn).1 (z ▸ List.mem_of_getElem? e')) h) (Paired.setAt t (List.nodup_cons.mp hn).2 hf e' g)
theorem Paired.getF {α β:Type} {F:α→β→Prop}:∀ {ps:List α} {rows:List β} {r:Nat} {y:β},Paired F ps rows→rows[r]?=some y→∃ p,ps[r]?=some p∧F p y
  | _,_,0,_,.cons h _,e=>by cases e; exact ⟨_,rfl,h⟩
  | _,_,r+1,_,.cons _ t,e=>by
    obtain ⟨p,e1,h⟩:=Paired.getF (r:=r) t (by simpa using e)
    exact ⟨p,by simpa using e1,h⟩
theorem om_of {B H:Hp} {Z:Addr→Prop} {os:Own} {ρ:Rho} {σ:L2.St} (f:Fr K B Z os ρ σ H) {i:Nat} {rows:List (List D)} (e:ρ.getD i .un=.om rows) :
    ∃ a ps,os i=a::ps∧(σ[i]?).join=some (.ref a)∧H a=some (.lst (ps.map V.ref))∧ps.length≤sizeLine∧ps.length=rows.length∧Paired (fun p ds=>∃ vs,H p=some (.lst vs)∧vs.length≤sizeLine∧IsL K H (tot Z os) vs ds) ps rows:=by
  have s:=f.sl i
  rw [e] at s
  obtain ⟨a,ps,h1,h2,h3,h4,h5⟩:=s
  exact ⟨a,ps,h1,h2,h3,h4,Paired.length h5,h5⟩
theorem Fr.mutM1 {B H:Hp} {Z:Addr→Prop} {os:Own} {ρ:Rho} {σ:L2.St} (f:Fr K B Z os ρ σ H) {i r:Nat} {a p:Addr} {ps:List Addr} {rows:List (List D)} {ds':List D} {vs':List V} (e:ρ.getD i .un=.om rows) (eo:os i=a::ps) (hu:(σ[i]?).join=some (.ref a)) (hr:ps[r]?=some p) (hl:vs'.length≤sizeLine) (h:IsL K H (tot Z os) vs' ds') :
    Fr K B Z (putO os i (a::ps)) (ρ.set i (.om (rows.set r ds'))) σ (upd H p (.lst vs'))∧Kp (tot Z os) H (tot Z (putO os i (a::ps))) (upd H p (.lst vs')):=by
  have s:=f.sl i
  rw [e] at s
  obtain ⟨b,qs,eo',hu',hH,hlp,i1⟩:=s
  rw [eo] at eo'
  cases eo'
  have hi:=getD_lt e (by intro z; cases z)
  have hn:=f.nd i
  rw [eo] at hn
  have hp:p∈ps:=List.mem_of_getElem? hr
  have hpo:p∈os i:=by rw [eo]; exact List.mem_cons_of_mem _ hp
  have hap:a≠p:=fun z=>(List.nodup_cons.mp hn).1 (z ▸ hp)
  have tt:tot Z (putO os i (a::ps))=tot Z os:=by
    funext c
    apply propext
    constructor
    · rintro (z | ⟨j,z⟩)
      · exact .inl z
      · by_cases hj:j=i
        · subst hj; rw [putO_same] at z; exact .inr ⟨j,by rw [eo]; exact z⟩
        · rw [putO_ne hj] at z; exact .inr ⟨j,z⟩
    · rintro (z | ⟨j,z⟩)
      · exact .inl z
      · by_cases hj:j=i
        · subst hj; exact .inr ⟨j,by rw [putO_same,← eo]; exact z⟩
        · exact .inr ⟨j,by rw [putO_ne hj]; exact z⟩
  have kp:Kp (tot Z os) H (tot Z os) (upd H p (.lst vs')):=fun b u e z=>⟨by rw [upd_ne (fun w=>z (.inr ⟨i,by rw [w]; exact hpo⟩))]; exact e,z⟩
  have st:=f.step (H':=upd H p (.lst vs')) (i:=i) hi (o:=a::ps) (s:=.om (rows.set r ds')) (v:=some (.ref a)) (fun b u e n=>by rw [upd_ne (fun z=>n (by rw [z]; exact hpo))]; exact e) (fun b hb=>?_) hn (fun b hb=>by rw [← eo] at hb; exact .inl hb)
    ⟨a,ps,rfl,rfl,by rw [upd_ne hap]; exact hH,hlp,?_⟩
  · rw [set_self hu'] at st
    exact st
  · by_cases hb':b=p
    · rw [hb']; exact ⟨_,upd_same⟩
    · rw [upd_ne hb']; obtain ⟨xs,e⟩:=(f.sl i).dom hb; exact ⟨_,e⟩
  · rw [tt]
    exact Paired.setAt i1 (List.nodup_cons.mp hn).2 (fun q ds hq ⟨vs,h1,h2,h3⟩=>⟨vs,by rw [upd_ne hq]; exact h1,h2,h3.kp kp⟩) hr ⟨vs',upd_same,hl,h.kp kp⟩
theorem Fr.mutM {B H:Hp} {Z:Addr→Prop} {os:Own} {ρ:Rho} {σ:L2.St} (f:Fr K B Z os ρ σ H) {i r:Nat} {a p:Addr} {ps:List Addr} {rows:List (List D)} {ds':List D} {vs':List V} (e:ρ.getD i .un=.om rows) (eo:os i=a::ps) (hu:(σ[i]?).join=some (.ref a)) (hr:ps[r]?=some p) (hl:vs'.length≤sizeLine) (h:IsL K H (tot Z os) vs' ds') :
    ∃ os',Fr K B Z os' (ρ.set i (.om (rows.set r ds'))) σ (upd H p (.lst vs'))∧Kp (tot Z os) H (tot Z os') (upd H p (.lst vs')):=⟨_,f.mutM1 e eo hu hr hl h⟩
theorem row_at {B H:Hp} {Z:Addr→Prop} {os:Own} {ρ:Rho} {σ:L2.St} (f:Fr K B Z os ρ σ H) {i:Nat} {rows:List (List D)} {n:Int} {r:Nat} {ds:List D} (e:ρ.getD i .un=.om rows) (hn:ixN rows.length n=some r) (hd:rows[r]?=some ds) :
    ∃ a ps p vs,os i=a::ps∧(σ[i]?).join=some (.ref a)∧H a=some (.lst (ps.map V.ref))∧atI (ps.map V.ref) n=some (V.ref p)∧ps[r]?=some p∧H p=some (.lst vs)∧vs.length≤sizeLine∧IsL K H (tot Z os) vs ds:=by
  obtain ⟨a,ps,h1,h2,h3,h4,h5,h6⟩:=om_of f e
  obtain ⟨p,e1,vs,g1,g2,g3⟩:=Paired.getF h6 hd
  refine ⟨a,ps,p,vs,h1,h2,h3,?_,e1,g1,g2,g3⟩
  unfold atI
  rw [List.length_map,h5,hn]
  show (ps.map V.ref)[r]?=_
  rw [List.getElem?_map,e1]
  rfl
@[irreducible] noncomputable def sPut2 (i:Nat) (b c a:DE):DS:=fun ρ=>match ρ.getD i .un with
  | .om rows=>(match a ρ with
    | some d=>(match b ρ with
      | some (.int n)=>(match ixN rows.length n with
        | some r=>(match rows[r]? with
          | some ds=>(match c ρ with
            | some (.int m)=>(match ixN ds.length m with
              | some j=>.nx (ρ.set i (.om (rows.set r (ds.set j d))))
              | none=>.no)
            | _=>.no)
          | none=>.no)
        | none=>.no)
      | _=>.no)
    | none=>.no)
  | _=>.no
theorem ss_put2 {i:Nat} {ta tb tc:TE} {a b c:DE} (ha:SemI K ta a) (hb:SemB K tb b) (hc:SemB K tc c):SemS fr K (tAsg ta (gSub (tOp (rIx K) (tVar i) tb) tc rSetL)) (sPut2 i b c a):=fun {B Z os ρ σ H E} f p=>by
  unfold sPut2 at p
  split at p
  · rename_i rows e
    split at p
    · rename_i d e1
      split at p
      · rename_i n e2
        split at p
        · rename_i r e3
          split at p
          · rename_i ds e4
            split at p
            · rename_i m e5
              split at p
              · rename_i j e6
                obtain ⟨x,ps,q,vs,eo,hu,hH,hat,hr,hq,hl,il⟩:=row_at f e e3 e4
                refine ha f e1 fun v H1 s1 i1=>⟨_,join_some hu,hb (f.grow s1) e2 fun w H2 s2 i2=>?_⟩
                have s12:=s1.trans s2
                refine .inl ⟨x,ps.map V.ref,n,.ref q,rfl,i2.isInt,SqL.of (s12 _ _ hH),hat,hc (f.grow s12) e5 fun u H3 s3 i3=>?_⟩
                have s13:=s12.trans s3
                have f3:=f.grow s13
                obtain ⟨os',f',k⟩:=f3.mutM (vs':=vs.set j v) (ds':=ds.set j d) e eo hu hr (by rw [List.length_set]; exact hl) ((il.same s13).set ((i1.same s2).same s3) j)
                exact ⟨q,vs,m,j,rfl,i3.isInt,s13 _ _ hq,by rw [il.length]; exact e6,p os' _ _ f' ((Kp.same s13).trans k)⟩
              · exact p.elim
            · exact p.elim
          · exact p.elim
        · exact p.elim
      · exact p.elim
    · exact p.elim
  · exact p.elim
end
end VL
namespace VL
open PySem L2
open Classical
noncomputable section
variable [Tabs] {K:PySem.W.Frag} {fr:Fm}
theorem blockFrZ {B H1 H:Hp} {Z W:Addr→Prop} {os:Own} {ρ:Rho} {σ:L2.St} (f:Fr K B Z os ρ σ H1) (s:Same H1 H) (hw:∀ a,W a→∃ o,H a=some o) (hk:Kp (tot Z os) H1 W H) (k:Nat) (cs:List Nat) :
    Fr K H1 W (fun _=>[]) (r0 k cs ρ) (s0 k cs σ) H where
  keep:=s
  zin:=hw
  tab:=f.tabH
  len:=by unfold r0 s0; simp
  nd:=fun _=>List.nodup_nil
  dj:=fun _ _ _ h=>by cases h
  new:=fun _ _ h=>by cases h
  sl:=fun j=>by
    have kp:Kp (tot Z os) H1 (tot W fun _=>[]) H:=fun a u e z=>⟨(hk a u e z).1,fun q=>q.elim (hk a u e z).2 fun ⟨_,q⟩=>by cases q⟩
    unfold r0 s0
    rw [List.getD_eq_getElem?_getD]
    by_cases hj:j<k
    · rw [List.getElem?_append_left (by simpa using hj),List.getElem?_append_left (by simpa using hj),List.getElem?_replicate,if_pos hj]
      exact rfl
    · rw [List.getElem?_append_right (by simpa using hj),List.getElem?_append_right (by simpa using hj),List.length_replicate,List.length_replicate,List.getElem?_map,List.getElem?_map]
      cases e:cs[j-k]? with
      | none=>exact rfl
      | some i =>
        have h:=f.sl i
        show SlOk K _ _ _ _ (view (ρ.getD i .un)) ((σ[i]?).join)
        cases e2:ρ.getD i .un with
        | un=>exact rfl
        | pu d =>
          rw [e2] at h
          obtain ⟨_,u,hu,i1⟩:=h
          exact ⟨rfl,u,hu,i1.kp kp⟩
        | bo d =>
          rw [e2] at h
          obtain ⟨_,u,hu,i1⟩:=h
          exact ⟨rfl,u,hu,i1.same f.keep⟩
        | ol ds =>
          rw [e2] at h
          obtain ⟨a,vs,_,hu,hH,hl,i1⟩:=h
          exact ⟨rfl,_,hu,.lst (fun z=>z) (.inl hH) hl i1.all⟩
        | om rows =>
          rw [e2] at h
          obtain ⟨a,ps,_,hu,hH,hl,i1⟩:=h
          exact ⟨rfl,_,hu,.lst (fun z=>z) (.inl hH) (by rw [List.length_map]; exact hl) (rows_is i1)⟩
def compGoM (g:DG) (t:Rho→Option Bool) (e:Rho→Option (List D)) (ρ0:Rho):List D→Option (List (List D))
  | []=>some []
  | d::ds=>match g d ρ0 with
    | none=>none
    | some ρ1=>match t ρ1 with
      | none=>none
      | some false=>compGoM g t e ρ0 ds
      | some true=>match e ρ1 with
        | none=>none
        | some y=>match compGoM g t e ρ0 ds with
          | none=>none
          | some ys=>some (y::ys)
noncomputable def dCompM (k:Nat) (cs:List Nat) (it:Rho→Option (List D)) (g:DG) (t:Rho→Option Bool) (e:Rho→Option (List D)):Rho→Option (List (List D)):=fun ρ=>match it ρ with
  | some ds=>compGoM g t e (r0 k cs ρ) ds
  | none=>none
theorem sm_comp {m:Bool} {k:Nat} {cs:List Nat} {wi:TI} {g:TG} {tt:TT} {te:TE} {it:Rho→Option (List D)} {gd:DG} {td:Rho→Option Bool} {ed:Rho→Option (List D)} (hw:SemWC K m wi it) (hg:SemG K m g gd) (ht:SemT K tt td) (he:SemF K te ed) :
    SemM K (tComp wi g tt te (s0 k cs)) (dCompM k cs it gd td ed):=fun {B Z os ρ σ H Q ds} f q kk=>by
  unfold dCompM at q
  split at q
  · rename_i xs e0
    refine hw f e0 fun J H1 s1 W Dl hD=>?_
    have f1:=f.grow s1
    have sD:∀ {H2:Hp} {ys:List V},Same H1 H2→Same H1 (upd H2 Dl (.lst ys)):=fun {H2 ys} s a o e=>by
      rw [upd_ne (ne_of_none e hD)]; exact s _ _ e
    let ZZ:List Addr→Addr→Prop:=fun ps a=>(a=Dl∨a∈ps)∨tot Z os a
    refine ⟨fun i m ys H2=>m=xs.length-i∧i≤xs.length∧Same H1 H2∧H2 Dl=some (.lst ys)∧ys.length≤i∧∃ ps done rest,ys=ps.map V.ref∧(∀ a∈ps,H1 a=none)∧(Dl::ps).Nodup∧Paired (fun q ds=>∃ vs,H2 q=some (.lst vs)∧vs.length≤sizeLine∧IsL K H2 (ZZ ps) vs ds) ps done∧compGoM gd td ed (r0 k cs ρ) (xs.drop i)=some rest∧done++rest=ds,
      ⟨_,rfl,Nat.zero_le _,sD (Same.refl _),upd_same,Nat.le_refl _,[],[],ds,rfl,(fun a h=>by cases h),(by simp),.nil,q,rfl⟩,?_⟩
    rintro i mm ys H2 ⟨rfl,hi,s2,eD,hly,ps,done,rest,rfl,hps,hnd,il,q2,ed2⟩
    have zin2:∀ a,ZZ ps a→∃ o,H2 a=some o:=by
      rintro a ((rfl | z) | z)
      · exact ⟨_,eD⟩
      · obtain ⟨_,vs,h,_⟩:=Paired.any il z
        exact ⟨_,h⟩
      · obtain ⟨u,e⟩:=f1.tin a z
        exact ⟨u,s2 _ _ e⟩
    have kp12:Kp (tot Z os) H1 (ZZ ps) H2:=fun a u e z=>⟨s2 _ _ e,fun w=>by
      rcases w with (rfl | w) | w
      · rw [hD] at e; cases e
      · rw [hps a w] at e; cases e
      · exact z w⟩
    by_cases hlt:i<xs.length
    · have ex:xs[i]?=some xs[i]:=List.getElem?_eq_getElem hlt
      obtain ⟨go,yl⟩:=W.go i xs[i] H2 _ kp12 s2 zin2 ex
      refine .inr ⟨go,fun x H3 hy=>?_⟩
      obtain ⟨s3,er⟩:=yl x H3 hy
      have eD3:=s3 _ _ eD
      have s13:=s2.trans s3
      have kp13:Kp (tot Z os) H1 (ZZ ps) H3:=kp12.trans (Kp.same s3)
      have ef3:=blockFrZ f1 s13 (fun a z=>let ⟨o,e⟩:=zin2 a z; ⟨o,s3 _ _ e⟩) kp13 k cs
      rw [List.drop_eq_getElem_cons hlt] at q2
      unfold compGoM at q2
      have er':ER K m H1 H3 (tot (ZZ ps) fun _=>[]) x xs[i]:=by
        cases m with
        | false=>exact er
        | true=>exact Is.kp (Kp.less fun a z=>z.elim id fun ⟨_,w⟩=>by cases w) er
      have il3:∀ {H':Hp},Same H2 H'→Paired (fun q ds=>∃ vs,H' q=some (.lst vs)∧vs.length≤sizeLine∧IsL K H' (ZZ ps) vs ds) ps done:=fun {H'} s=>Paired.mono il fun q ds _ ⟨vs,h1,h2,h3⟩=>⟨vs,s _ _ h1,h2,h3.same s⟩
      split at q2
      · cases q2
      · rename_i ρ1 e1
        refine hg ef3 er' e1 fun os1 σ1 fr1 k1=>?_
        split at q2
        · cases q2
        · rename_i e2
          refine ht fr1 e2 fun H4 s4=>iteF ⟨_,by omega,rfl,hlt,s13.trans s4,s4 _ _ eD3,by omega,ps,done,rest,rfl,hps,hnd,il3 (s3.trans s4),q2,ed2⟩
        · rename_i e2
          refine ht fr1 e2 fun H4 s4=>iteT ?_
          split at q2
          · cases q2
          · rename_i y e3
            split at q2
            · cases q2
            · rename_i rs e4
              cases q2
              refine he (fr1.grow s4) e3 fun x2 vs2 H5 s5 hx2 hH5 hl5 i5=>?_
              have s35:=s4.trans s5
              have s25:=s3.trans s35
              have eD5:=s35 _ _ eD3
              have hl:=W.len
              have hx3:H3 x2=none:=Same.free s4 hx2
              have hxD:x2≠Dl:=fun z=>by rw [z,eD3] at hx3; cases hx3
              have hxps:x2∉ps:=fun z=>by
                obtain ⟨o,e⟩:=zin2 x2 (.inl (.inr z))
                rw [s3 _ _ e] at hx3; cases hx3
              have hxt:¬ tot Z os x2:=fun z=>by
                obtain ⟨o,e⟩:=zin2 x2 (.inr z)
                rw [s3 _ _ e] at hx3; cases hx3
              have sub:∀ a,ZZ (ps++[x2]) a→a=x2∨ZZ ps a:=by
                rintro a ((rfl | z) | z)
                · exact .inr (.inl (.inl rfl))
                · rcases List.mem_append.mp z with z | z
                  · exact .inr (.inl (.inr z))
                  · exact .inl (List.mem_singleton.mp z)
                · exact .inr (.inr z)
              have sup:∀ a,a=x2∨ZZ ps a→ZZ (ps++[x2]) a:=by
                rintro a (rfl | (rfl | z) | z)
                · exact .inl (.inr (by simp))
                · exact .inl (.inl rfl)
                · exact .inl (.inr (List.mem_append_left _ z))
                · exact .inr z
              have kp5:∀ (zs:List V),Kp (ZZ ps) H2 (ZZ (ps++[x2])) (upd H5 Dl (.lst zs)):=fun zs a u e z=>⟨by rw [upd_ne (fun w=>z (.inl (.inl w)))]; exact s25 _ _ e,fun w=>by
                rcases sub a w with rfl | w
                · rw [s3 _ _ e] at hx3; cases hx3
                · exact z w⟩
              have kp6:∀ (zs:List V),Kp (ZZ (ps++[x2])) H5 (ZZ (ps++[x2])) (upd H5 Dl (.lst zs)):=fun zs a u e z=>⟨by rw [upd_ne (fun w=>z (.inl (.inl w)))]; exact e,z⟩
              refine ⟨eD5,by rw [List.length_map] at hly ⊢; omega,_,by omega,rfl,hlt,sD (s13.trans s35),upd_same,by rw [List.length_append,List.length_singleton]; omega,ps++[x2],done++[y],rs,by rw [List.map_append]; rfl,fun a ha=>?_,?_,?_,e4,by rw [List.append_assoc]; exact ed2⟩
              · rcases List.mem_append.mp ha with ha | ha
                · exact hps a ha
                · rw [List.mem_singleton.mp ha]; exact Same.free s13 hx3
              · rw [← List.cons_append,List.nodup_append]
                refine ⟨hnd,by simp,fun a h1 b h2=>?_⟩
                rw [List.mem_singleton.mp h2]
                rintro rfl
                rcases List.mem_cons.mp h1 with z | z
                · exact hxD z
                · exact hxps z
              · refine Paired.append (Paired.mono il fun q ds hq ⟨vs,h1,h2,h3⟩=>⟨vs,?_,h2,h3.kp (kp5 _)⟩) (.cons ⟨vs2,?_,hl5,?_⟩ .nil)
                · rw [upd_ne (fun z=>by rw [z] at hq; exact (List.nodup_cons.mp hnd).1 hq)]; exact s25 _ _ h1
                · rw [upd_ne hxD]; exact hH5
                · exact (i5.kp (Kp.less fun a z=>by
                    rcases sub a z with z | z
                    · exact .inl z
                    · exact .inr (.inl z)):IsL K H5 (ZZ (ps++[x2])) vs2 y).kp (kp6 _)
    · have e:i=xs.length:=by omega
      subst e
      rw [List.drop_length] at q2
      cases q2
      rw [List.append_nil] at ed2
      subst ed2
      have hl:=W.len
      rw [List.length_map] at hly
      exact .inl ⟨W.stop _ H2 _ kp12 s2 rfl,eD,kk Dl ps H2 (s1.trans s2) (Same.free s1 hD) (fun a ha=>Same.free s1 (hps a ha)) hnd eD (by omega) il⟩
  · cases q
section
variable {s u b:DS} {ρ:Rho} {W:Wk} {i:Nat} {a e k c:DE} {d:D} {rows:List (List D)} {ds:List D}
theorem wp_setM {es:Rho→Option (List (List D))} (h:es ρ=some rows) (hi:i < ρ.length) (k:W.nx (ρ.set i (.om rows))):Wp (sSetM i es) ρ W:=by unfold Wp sSetM; rw [h]; simp only [if_pos hi]; exact k
theorem wp_frzR (h:Wp s (frzR i ρ) W):Wp (sFrzR i s) ρ W:=by unfold Wp sFrzR at *; exact h
theorem wp_retX (h:ρ.getD i .un=.ol ds) (k:W.rt (.lst ds)):Wp (sRetX i) ρ W:=by unfold Wp sRetX; rw [h]; exact k
theorem wp_put2 {n m:Int} {r j:Nat} (h0:ρ.getD i .un=.om rows) (h1:a ρ=some d) (h2:e ρ=some (.int n)) (h3:ixN rows.length n=some r) (h4:rows[r]?=some ds) (h5:c ρ=some (.int m)) (h6:ixN ds.length m=some j) (k:W.nx (ρ.set i (.om (rows.set r (ds.set j d))))):Wp (sPut2 i e c a) ρ W:=by
  unfold Wp sPut2; rw [h0]; simp only [h1,h2,h3,h4,h5,h6]; exact k
theorem ev_callF {F:List D→Option D} {es:Rho→Option (List D)} {xs:List D} (h:es ρ=some xs) (h2:F xs=some (.lst ds)):dCallF F es ρ=some ds:=by unfold dCallF dCall; rw [h]; simp only [h2]
theorem ev_compM {α:Type} {k:Nat} {cs:List Nat} {it:Rho→Option (List D)} {g:DG} {t:Rho→Option Bool} {el:Rho→Option (List D)} (emb:α→D) {xs:List α} (h:it ρ=some (xs.map emb)) (p:α→Bool) (f:α→List D)
    (hs:∀ x∈xs,∃ ρ1,g (emb x) (r0 k cs ρ)=some ρ1∧t ρ1=some (p x)∧(p x=true→el ρ1=some (f x))):dCompM k cs it g t el ρ=some ((xs.filter p).map f):=by
  unfold dCompM
  rw [h]
  show compGoM g t el (r0 k cs ρ) (xs.map emb)=_
  clear h
  induction xs with
  | nil=>rfl
  | cons x r ih =>
    obtain ⟨ρ1,e1,e2,e3⟩:=hs x List.mem_cons_self
    rw [List.map_cons]
    unfold compGoM
    rw [e1]
    dsimp only
    rw [e2]
    have q:=ih fun y hy=>hs y (List.mem_cons_of_mem _ hy)
    cases hp:p x with
    | false=>rw [List.filter_cons_of_neg (by rw [hp]; exact Bool.false_ne_true)]; exact q
    | true =>
      rw [List.filter_cons_of_pos hp,List.map_cons]
      dsimp only
      rw [e3 hp]
      dsimp only
      rw [q]
theorem ev_compM0 {α:Type} {k:Nat} {cs:List Nat} {it:Rho→Option (List D)} {g:DG} {el:Rho→Option (List D)} (emb:α→D) {xs:List α} (h:it ρ=some (xs.map emb)) (f:α→List D)
    (hs:∀ x∈xs,∃ ρ1,g (emb x) (r0 k cs ρ)=some ρ1∧el ρ1=some (f x)):dCompM k cs it g dTrue el ρ=some (xs.map f):=by
  have:=ev_compM (k:=k) (cs:=cs) (g:=g) (t:=dTrue) (el:=el) emb h (fun _=>true) f fun x hx=>let ⟨ρ1,e1,e2⟩:=hs x hx; ⟨ρ1,e1,rfl,fun _=>e2⟩
  rw [this,List.filter_eq_self.mpr fun _ _=>rfl]
end
theorem run_eqG {F:List D→Option D} {n:Nat} {ms:List Bool} {b:DS} (hF:F=runF n ms b) {ds:List D} {d:D} (h:Wp b (stD n ms ds) { nx:=fun _=>False,rt:=fun x=>x=d }):F ds=some d:=by
  rw [hF]
  unfold runF
  unfold Wp at h
  cases e:b (stD n ms ds) with
  | rt x=>rw [e] at h; show some x=some d; rw [show x=d from h]
  | nx ρ=>rw [e] at h; exact h.elim
  | bk ρ=>rw [e] at h; exact h.elim
  | ct ρ=>rw [e] at h; exact h.elim
  | no=>rw [e] at h; exact h.elim
end
end VL
namespace VL
open PySem L2
open Classical
noncomputable section
variable [Tabs] {K:PySem.W.Frag} {fr:Fm}
inductive Puts (K:PySem.W.Frag):List (TE×TE)→List (DE×DE)→Prop
  | nil:Puts K [] []
  | cons {tc ta:TE} {c a:DE} {l:List (TE×TE)} {l':List (DE×DE)} (ha:SemI K ta a) (hc:SemB K tc c) (r:Puts K l l'):Puts K ((tc,ta)::l) ((c,a)::l')
end
end VL
namespace L2
open PySem PySem.Spec PyProof.Rows
structure Hop (fr ch:List Addr) (h h':Heap):Prop where
  keep:∀ b o,b∉fr→b∉ch→h.get? b=some o→h'.get? b=some o
  slot:∀ b o,b∉ch→h.get? b=some o→∃ sl,h'.get? b=some { o with slots:=sl }
section
variable {M:Model} {A:Around} {E:Value→Shared→Prop} {s:Shared} {base:Heap} {env:Env} {outer:List Env} {L e T:Addr} {cls fl:Value} {Q:Unit→Shared→Prop}
end
structure Out (X:Cx) (pins:List (Addr×Obj)) (H:Hp) (b:Addr):Prop where
  h:H b=none
  s0:X.s₀.heap.get? b=none
  loc:b≠X.env.locals
  cell:∀ x c,X.env.cells.lookup x=some c→c≠b
  pin:∀ p∈X.pn++pins,p.1≠b
section
variable {P:Program} {w:World} {H:Hp} {h:Heap} {a:Addr} {o:HO}
theorem ObjOk.live (x:ObjOk P w H h a o):∃ u,h.get? a=some u:=by
  cases o with
  | lst xs=>obtain ⟨_,_,_,_,e⟩:=x; exact ⟨_,e⟩
  | tup xs=>obtain ⟨_,_,_,ob,e,_⟩:=x; exact ⟨_,e⟩
  | dK kvs=>obtain ⟨_,_,_,_,o,_,_,e,_⟩:=x; exact ⟨_,e⟩
  | dT kvs=>obtain ⟨_,_,_,_,o,_,_,e,_⟩:=x; exact ⟨_,e⟩
  | set S n=>obtain ⟨o,_,_,_,e,_⟩:=x; exact ⟨_,e⟩
  | ins C dx fs=>obtain ⟨_,_,_,e,_⟩:=x; exact ⟨_,e⟩
  | own y=>exact x
  | xd fs=>obtain ⟨_,⟨_,_,_,e,_⟩,_⟩:=x; exact ⟨_,e⟩
  | rng lo hi=>obtain ⟨_,_,_,e⟩:=x; exact ⟨_,e⟩
  | frz ob u=>obtain ⟨e,_⟩:=x; exact ⟨_,e⟩
  | tbl ps=>obtain ⟨_,_,_,_,e,_⟩:=x; exact ⟨_,e⟩
  | met f y=>exact ⟨_,show h.get? a=some _ from x⟩
  | ext φ=>obtain ⟨_,e,_⟩:=x; exact e
end
section
variable {X:Cx} {pins:List (Addr×Obj)} {σ:St} {H H':Hp} {s:Shared}
theorem Inv.out (I:Inv X pins σ H s) (hx:X.ex=[]) {b:Addr} (e:s.heap.get? b=none):Out X pins H b where
  h:=by
    cases q:H b with
    | none=>rfl
    | some o=>obtain ⟨u,hu⟩:=(I.hok b o q).live; rw [e] at hu; cases hu
  s0:=by
    cases q:X.s₀.heap.get? b with
    | none=>rfl
    | some o=>obtain ⟨u,hu⟩:=I.base.there b o q (by rw [hx]; simp); rw [e] at hu; cases hu
  loc:=fun z=>by
    obtain ⟨m,⟨o,_,_,ho,_⟩,_⟩:=I.loc
    rw [← z,e] at ho; cases ho
  cell:=fun x c q z=>by
    obtain ⟨v,o,ho,_⟩:=I.cell x c q
    rw [z,e] at ho; cases ho
  pin:=fun p hp z=>by
    have:=(I.pin p hp).1
    rw [z,e] at this; cases this
end
structure OwnX (X:Cx):Prop where
  stk:X.stack=X.env::X.outer
  fr:X.env.frame=some X.env.locals
  ex:X.ex=[]
section
variable {X:Cx} {pins:List (Addr×Obj)} {σ:St} {H:Hp} {s s':Shared} {E:XK} {e:Value}
end
end L2
namespace L2
open PySem PySem.Spec PyProof.Rows
section
variable {X:Cx} {pins:List (Addr×Obj)} {σ:St} {H:Hp} {s:Shared} {a:Addr} {u:HO}
theorem Inv.track (I:Inv X pins σ H s) (o:Out X pins H a) (ob:ObjOk X.prog X.w (upd H a u) s.heap a u):Inv X pins σ (upd H a u) s:=by
  have ne:∀ b v,H b=some v→b≠a:=fun b v q z=>by rw [z,o.h] at q; cases q
  refine ⟨I.ok,I.os,I.bare,⟨I.base.keep,I.base.slot,fun b v q n hx=>?_,I.base.there,fun b xs q=>?_,fun b v xs q=>?_,fun b ps q=>?_⟩,I.loc,I.cell,?_,fun x c e=>?_,fun p hp=>?_,fun b v q=>?_,I.len⟩
  · rw [upd_ne (fun z=>by rw [z,o.s0] at q; cases q)]; exact I.base.free b v q n hx
  · have r:=I.base.tups b xs q; rw [upd_ne (ne b _ r)]; exact r
  · have r:=I.base.frzs b v xs q; rw [upd_ne (ne b _ r)]; exact r
  · obtain ⟨m,r⟩:=I.base.tbls b ps q; exact ⟨m,by rw [upd_ne (ne b _ r)]; exact r⟩
  · rw [upd_ne (Ne.symm o.loc)]; exact I.free
  · rw [upd_ne (o.cell x c e)]; exact I.freeC x c e
  · obtain ⟨e,n,r⟩:=I.pin p hp
    exact ⟨e,by rw [upd_ne (o.pin p hp)]; exact n,r⟩
  · by_cases hb:b=a
    · subst hb; rw [upd_same] at q; cases q; exact ob
    · rw [upd_ne hb] at q
      exact (I.hok b v q).stay (fun c y _ r=>r) (fun c r=>by rw [upd_ne (ne c _ r)]; exact r) (fun c xs r=>by rw [upd_ne (ne c _ r)]; exact r) fun c o u r=>by rw [upd_ne (ne c _ r)]; exact r
end
section
variable {X:Cx} {k:Nat} {f:Addr} {fd:FuncData} {ps:List Str} {sp:Sp} {x y n v:Str} {e:Expr} {es:List Expr} {t:TA} {F:Value} {iv ie:Nat} {p1 p2 p3 p4 p5 p6 p7 p8 pos:Pos}
end
structure ExcK (K:PySem.W.Frag) (C:Addr):Prop where
  ga:PySem.W.findIn K (.ref C) "__getattribute__" = some (some (.builtin "BaseException.__getattribute__"))
  gk:PySem.W.findIn K (.ref C) "__getattr__" = some none
  hd:PySem.W.hasDictIn K C=true
  ca:PySem.W.findIn K (.ref C) "__class__" = some (some (.builtin "object.__class__"))
  sp:PySem.W.specialIn K (.builtin "object.__class__") "__get__" = some (some (.builtin "getset_descriptor.__get__"))
  tk:PySem.W.takesIn K (.builtin "object.__class__")=some true
  mro:PySem.W.mroIn K C (.type "object")=some true
  mrb:PySem.W.mroIn K C (.type "BaseException")=some true
end L2
namespace L2
open PySem PySem.Spec PyProof.Rows
inductive PParts (X:Cx):List Expr→List TE→Prop
  | nil:PParts X [] []
  | text {x:Str} {j p es ts} (hx:x.length≤1000) (h:PParts X es ts):PParts X (.Constant (.str x) j p::es) ts
  | val {e:Expr} {p es ts} {t:TE} (he:PE X e t) (h:PParts X es ts):PParts X (.FormattedValue e (-1) none p::es) (t::ts)
end L2
namespace VL
open PySem L2
open Classical
noncomputable section
variable [Tabs] {K:PySem.W.Frag}
variable {E:XK} {C:Addr}
inductive SemJ (K:PySem.W.Frag):List TE→List DE→Prop
  | nil:SemJ K [] []
  | cons {t ts a as} (h:SemB K t a) (r:SemJ K ts as):SemJ K (t::ts) (a::as)
theorem same_new {H:Hp} {a:Addr} {o:HO} (h:H a=none):Same H (upd H a o):=fun b u e=>by rw [upd_ne (ne_of_none e h)]; exact e
variable {iv ie:Nat}
end
end VL
namespace VL
open PySem L2
open Classical
noncomputable section
variable [Tabs] {K:PySem.W.Frag} {fr:Fm}
end
end VL
namespace Srt
open PySem PySem.W PyProof.Rows
def KOk {α:Type} (lt:Nat→Nat→Bool) (n:Nat):KasT α→(α→Prop)→Prop
  | .ret a,Q=>Q a
  | .ask i j k,Q=>i<n∧j<n∧KOk lt n (k (lt i j)) Q
section
variable {lt:Nat→Nat→Bool} {N:Nat}
theorem KOk.bind {α β:Type} {f:α→KasT β} {Q:β→Prop}:∀ (t:KasT α),KOk lt N t (fun a=>KOk lt N (f a) Q)→KOk lt N (t.bind f) Q
  | .ret _,h=>h
  | .ask _ _ k,h=>⟨h.1,h.2.1,KOk.bind (k _) h.2.2⟩
theorem KOk.mono {α:Type} {Q Q':α→Prop} (hq:∀ a,Q a→Q' a):∀ (t:KasT α),KOk lt N t Q→KOk lt N t Q'
  | .ret a,h=>hq a h
  | .ask _ _ k,h=>⟨h.1,h.2.1,KOk.mono hq (k _) h.2.2⟩
theorem KOk.wp {α:Type} {cmp:Nat→Nat→(Bool→Shared→Prop)→Shared→Prop} {s:Shared} (hc:∀ i j (C:Bool→Shared→Prop),i<N→j<N→C (lt i j) s→cmp i j C s) {Q:α→Shared→Prop} :
    ∀ (t:KasT α),KOk lt N t (fun a=>Q a s)→t.kasWp cmp Q s
  | .ret _,h=>h
  | .ask i j k,h=>hc i j _ h.1 h.2.1 (KOk.wp hc (k _) h.2.2)
structure Ord (lt:Nat→Nat→Bool):Prop where
  tr:∀ a b c,lt b a=false→lt c b=false→lt c a=false
  as:∀ a b,lt a b=true→lt b a=false
abbrev g (p:Array Nat) (i:Nat):Nat:=p.getD i 0
def Up (lt:Nat→Nat→Bool) (p:Array Nat) (k:Nat):Prop:=∀ i j,i≤j→j<k→lt (g p j) (g p i)=false
def Dn (lt:Nat→Nat→Bool) (p:Array Nat) (k:Nat):Prop:=∀ i j,i≤j→j<k→lt (g p i) (g p j)=false
def Eqv (lt:Nat→Nat→Bool) (p:Array Nat) (a b:Nat):Prop:=∀ i j,a≤i→i<b→a≤j→j<b→lt (g p i) (g p j)=false
def Lo (N:Nat) (p:Array Nat):Prop:=p.size=N∧∀ i,g p i<N
theorem Lo.of_perm {p q:Array Nat} (h0:0<N) (h:Lo N p) (hp:q.Perm p):Lo N q:=by
  refine ⟨hp.size_eq.trans h.1,fun i=>?_⟩
  unfold g
  by_cases c:i<q.size
  · have m:q[i]∈p:=hp.mem_iff.mp (Array.getElem_mem c)
    obtain ⟨j,hj,e⟩:=Array.mem_iff_getElem.mp m
    have:=h.2 j
    unfold g at this
    rw [Array.getD_eq_getD_getElem?,Array.getElem?_eq_getElem hj] at this
    rw [Array.getD_eq_getD_getElem?,Array.getElem?_eq_getElem c]
    show q[i]<N
    rw [← e]
    exact this
  · rw [Array.getD_eq_getD_getElem?,Array.getElem?_eq_none (by omega)]
    exact h0
theorem g_rev {p:Array Nat} {i j:Nat} (hj:j≤p.size) (k:Nat):g (kas_rev p i j) k=if i≤k∧k<j then g p (i+j-1-k) else g p k:=by
  unfold g kas_rev
  rw [Array.getD_eq_getD_getElem?,getElem?_mirror_all hj]
  by_cases c:i≤k∧k<j
  · rw [if_pos c,if_pos c,Array.getD_eq_getD_getElem?]
  · rw [if_neg c,if_neg c,Array.getD_eq_getD_getElem?]
theorem g_bub {p:Array Nat} {s d:Nat} (hs:s<p.size) (hd:d≤s) (k:Nat):g (bubble p s d) k=if k=s-d then g p s else if s-d<k∧k≤s then g p (k-1) else g p k:=by
  unfold g
  rw [Array.getD_eq_getD_getElem?,getElem?_bubble hs d hd]
  by_cases c:k=s-d
  · rw [if_pos c,if_pos c,Array.getD_eq_getD_getElem?]
  · rw [if_neg c,if_neg c]
    by_cases c2:s-d<k∧k≤s
    · rw [if_pos c2,if_pos c2,Array.getD_eq_getD_getElem?]
    · rw [if_neg c2,if_neg c2,Array.getD_eq_getD_getElem?]
theorem rev_perm {p:Array Nat} {i j:Nat}:(kas_rev p i j).Perm p:=mirror_perm _ _ _ _
theorem irr (o:Ord lt) (a:Nat):lt a a=false:=by
  cases h:lt a a with
  | false=>rfl
  | true=>rw [o.as a a h] at h; cases h
theorem asc_ok (o:Ord lt) {p:Array Nat} (hp:Lo N p):∀ (f n:Nat),1≤n→Up lt p n→KOk lt N (kas_asc p f n) (fun m=>n≤m∧m≤n+f∧Up lt p m∧(m<n+f→lt (g p m) (g p (m-1))=true))
  | 0,n,_,h=>⟨Nat.le_refl _,Nat.le_refl _,h,fun z=>by omega⟩
  | f+1,n,h1,h=>by
    refine ⟨hp.2 n,hp.2 (n-1),?_⟩
    cases c:lt (p.getD n 0) (p.getD (n-1) 0) with
    | true =>
      dsimp only
      rw [if_pos rfl]
      exact ⟨Nat.le_refl _,by omega,h,fun _=>c⟩
    | false =>
      dsimp only
      rw [if_neg Bool.false_ne_true]
      refine KOk.mono (fun m q=>⟨by omega,by omega,q.2.2.1,fun z=>q.2.2.2 (by omega)⟩) _ (asc_ok o hp f (n+1) (by omega) fun i j hij hj=>?_)
      by_cases e:j<n
      · exact h i j hij e
      · have:j=n:=by omega
        subst this
        by_cases e2:i=j
        · subst e2; exact irr o _
        · exact o.tr _ (g p (j-1)) _ (h i (j-1) (by omega) (by omega)) c
theorem desc_ok (o:Ord lt) (h0:0<N):∀ (f:Nat) (p:Array Nat) (n q:Nat),Lo N p→1≤n→n+f≤N→q+1≤n→Dn lt p n→Eqv lt p (n-(q+1)) n →
    KOk lt N (kas_desc f p n q) (fun r=>r.1.Perm p∧Dn lt r.1 r.2.1∧n≤r.2.1∧r.2.1≤n+f∧r.2.2+1≤r.2.1∧Eqv lt r.1 (r.2.1-(r.2.2+1)) r.2.1)
  | 0,p,n,q,_,_,_,hq,hd,he=>⟨Array.Perm.refl _,hd,Nat.le_refl _,Nat.le_refl _,hq,he⟩
  | f+1,p,n,q,hp,h1,hn,hq,hd,he=>by
    refine ⟨hp.2 n,hp.2 (n-1),?_⟩
    cases c:lt (p.getD n 0) (p.getD (n-1) 0) with
    | true =>
      dsimp only
      rw [if_pos rfl]
      by_cases hq0:q > 0
      · rw [if_pos hq0]
        have hsz:n≤p.size:=by rw [hp.1]; omega
        have gr:∀ k,g (kas_rev p (n-(q+1)) n) k=if n-(q+1)≤k∧k<n then g p (n-(q+1)+n-1-k) else g p k:=g_rev hsz
        refine KOk.mono (fun r z=>⟨z.1.trans rev_perm,z.2.1,by omega,by omega,z.2.2.2.2.1,z.2.2.2.2.2⟩) _ (desc_ok o h0 f _ (n+1) 0 (hp.of_perm h0 rev_perm) (by omega) (by omega) (by omega) (fun i j hij hj=>?_) fun i j hi1 hi2 hj1 hj2=>?_)
        · rw [gr i,gr j]
          have key:∀ k,k<n→lt (g p k) (g p n)=false:=fun k hk=>o.tr _ (g p (n-1)) _ (o.as _ _ c) (hd k (n-1) (by omega) (by omega))
          by_cases cj:n-(q+1)≤j∧j<n
          · rw [if_pos cj]
            by_cases ci:n-(q+1)≤i∧i<n
            · rw [if_pos ci]; exact he _ _ (by omega) (by omega) (by omega) (by omega)
            · rw [if_neg ci]; exact hd _ _ (by omega) (by omega)
          · rw [if_neg cj]
            by_cases ci:n-(q+1)≤i∧i<n
            · rw [if_pos ci]
              have:j=n:=by omega
              subst this
              exact key _ (by omega)
            · rw [if_neg ci]
              by_cases e:j=n
              · subst e
                by_cases e2:i=j
                · subst e2; exact irr o _
                · exact key _ (by omega)
              · exact hd _ _ hij (by omega)
        · have e1:i=n:=by omega
          have e2:j=n:=by omega
          subst e1; subst e2
          exact irr o _
      · rw [if_neg hq0]
        refine KOk.mono (fun r z=>⟨z.1,z.2.1,by omega,by omega,z.2.2.2.2.1,z.2.2.2.2.2⟩) _ (desc_ok o h0 f p (n+1) 0 hp (by omega) (by omega) (by omega) (fun i j hij hj=>?_) fun i j hi1 hi2 hj1 hj2=>?_)
        · by_cases e:j=n
          · subst e
            by_cases e2:i=j
            · subst e2; exact irr o _
            · exact o.tr _ (g p (j-1)) _ (o.as _ _ c) (hd i (j-1) (by omega) (by omega))
          · exact hd _ _ hij (by omega)
        · have e1:i=n:=by omega
          have e2:j=n:=by omega
          subst e1; subst e2
          exact irr o _
    | false =>
      dsimp only
      rw [if_neg Bool.false_ne_true]
      refine ⟨hp.2 (n-1),hp.2 n,?_⟩
      cases d:lt (p.getD (n-1) 0) (p.getD n 0) with
      | true =>
        dsimp only
        rw [if_pos rfl]
        exact ⟨Array.Perm.refl _,hd,Nat.le_refl _,Nat.le_add_right _ _,hq,he⟩
      | false =>
        dsimp only
        rw [if_neg Bool.false_ne_true]
        have key:∀ k,k<n→lt (g p k) (g p n)=false:=fun k hk=>o.tr _ (g p (n-1)) _ d (hd k (n-1) (by omega) (by omega))
        have key2:∀ k,n-(q+1)≤k→k<n→lt (g p n) (g p k)=false:=fun k hk1 hk2=>o.tr _ (g p (n-1)) _ (he (n-1) k (by omega) (by omega) hk1 hk2) c
        refine KOk.mono (fun r z=>⟨z.1,z.2.1,by omega,by omega,z.2.2.2.2.1,z.2.2.2.2.2⟩) _ (desc_ok o h0 f p (n+1) (q+1) hp (by omega) (by omega) (by omega) (fun i j hij hj=>?_) fun i j hi1 hi2 hj1 hj2=>?_)
        · by_cases e:j=n
          · subst e
            by_cases e2:i=j
            · subst e2; exact irr o _
            · exact key _ (by omega)
          · exact hd _ _ hij (by omega)
        · by_cases e:i=n
          · by_cases e2:j=n
            · rw [e,e2]; exact irr o _
            · rw [e]; exact key2 _ (by omega) (by omega)
          · by_cases e2:j=n
            · rw [e2]; exact key _ (by omega)
            · exact he _ _ (by omega) (by omega) (by omega) (by omega)
theorem tail_ok (o:Ord lt) (h0:0<N) {p:Array Nat} {n nrem:Nat} (hp:Lo N p) (h1:1≤n) (hn:n≤nrem) (hr:nrem≤N) (hd:Dn lt p n) :
    KOk lt N (kas_tail3 n nrem p) (fun r=>r.2.Perm p∧Up lt r.2 r.1∧1≤r.1∧r.1≤nrem):=by
  have gr:∀ k,g (kas_rev p 0 n) k=if 0≤k∧k<n then g p (0+n-1-k) else g p k:=g_rev (by rw [hp.1]; omega)
  refine KOk.bind _ (KOk.mono (fun m z=>?_) _ (asc_ok o (hp.of_perm h0 rev_perm) (nrem-n) n h1 fun i j hij hj=>?_))
  · exact ⟨rev_perm,z.2.2.1,by omega,by omega⟩
  · rw [gr i,gr j,if_pos (by omega),if_pos (by omega)]
    exact hd _ _ (by omega) (by omega)
theorem descPart_ok (o:Ord lt) (h0:0<N) {p:Array Nat} {n nrem:Nat} (hp:Lo N p) (h1:1≤n) (hn:n+1≤nrem) (hr:nrem≤N) (hd:Dn lt p (n+1)) :
    KOk lt N (kas_descPart n nrem p) (fun r=>r.2.Perm p∧Up lt r.2 r.1∧1≤r.1∧r.1≤nrem):=by
  refine KOk.bind _ (KOk.mono (fun r z=>?_) _ (desc_ok o h0 (nrem-(n+1)) p (n+1) 0 hp (by omega) (by omega) (by omega) hd fun i j hi1 hi2 hj1 hj2=>?_))
  · obtain ⟨z1,z2,z3,z4,z5,z6⟩:=z
    have hp1:=hp.of_perm h0 z1
    by_cases c:r.2.2 > 0
    · rw [if_pos c]
      have hsz:r.2.1≤r.1.size:=by rw [hp1.1]; omega
      have gr:∀ k,g (kas_rev r.1 (r.2.1-(r.2.2+1)) r.2.1) k=if r.2.1-(r.2.2+1)≤k∧k<r.2.1 then g r.1 (r.2.1-(r.2.2+1)+r.2.1-1-k) else g r.1 k:=g_rev hsz
      refine KOk.mono (fun t q=>⟨q.1.trans (rev_perm.trans z1),q.2⟩) _ (tail_ok o h0 (hp1.of_perm h0 rev_perm) (by omega) (by omega) hr fun i j hij hj=>?_)
      rw [gr i,gr j]
      by_cases cj:r.2.1-(r.2.2+1)≤j∧j<r.2.1
      · rw [if_pos cj]
        by_cases ci:r.2.1-(r.2.2+1)≤i∧i<r.2.1
        · rw [if_pos ci]; exact z6 _ _ (by omega) (by omega) (by omega) (by omega)
        · rw [if_neg ci]; exact z2 _ _ (by omega) (by omega)
      · rw [if_neg cj,if_neg (by omega)]; exact z2 _ _ hij (by omega)
    · rw [if_neg c]
      exact KOk.mono (fun t q=>⟨q.1.trans z1,q.2⟩) _ (tail_ok o h0 hp1 (by omega) (by omega) hr z2)
  · have e1:i=n:=by omega
    have e2:j=n:=by omega
    subst e1; subst e2
    exact irr o _
theorem count_ok (o:Ord lt) {p:Array Nat} (h0:0<N) (hp:Lo N p) :
    KOk lt N (kas_count N p) (fun r=>r.2.Perm p∧Up lt r.2 r.1∧1≤r.1∧r.1≤N):=by
  refine KOk.bind _ (KOk.mono (fun n z=>?_) _ (asc_ok o hp (N-1) 1 (Nat.le_refl _) fun i j hij hj=>?_))
  · obtain ⟨z1,z2,z3,z4⟩:=z
    by_cases c:(n==N)=true
    · rw [if_pos c]
      have:=eq_of_beq c
      exact ⟨Array.Perm.refl _,z3,z1,by omega⟩
    · rw [if_neg c]
      have cn:n≠N:=fun e=>c (by rw [e]; exact beq_self_eq_true _)
      have z5:=z4 (by omega)
      by_cases c2:n > 1
      · rw [if_pos c2]
        refine ⟨hp.2 0,hp.2 (n-1),?_⟩
        cases d:lt (p.getD 0 0) (p.getD (n-1) 0) with
        | true =>
          dsimp only
          rw [if_pos rfl]
          exact ⟨Array.Perm.refl _,z3,z1,by omega⟩
        | false =>
          dsimp only
          rw [if_neg Bool.false_ne_true]
          have gr:∀ k,g (kas_rev p 0 n) k=if 0≤k∧k<n then g p (0+n-1-k) else g p k:=g_rev (by rw [hp.1]; omega)
          have eq:∀ i j,i<n→j<n→lt (g p i) (g p j)=false:=fun i j hi hj=>by
            have a1:lt (g p (n-1)) (g p j)=false:=z3 j (n-1) (by omega) (by omega)
            have a2:lt (g p i) (g p 0)=false:=z3 0 i (by omega) hi
            exact o.tr _ (g p 0) _ (o.tr _ (g p (n-1)) _ a1 d) a2
          refine KOk.mono (fun t q=>⟨q.1.trans rev_perm,q.2⟩) _ (descPart_ok o h0 (hp.of_perm h0 rev_perm) (by omega) (by omega) (Nat.le_refl _) fun i j hij hj=>?_)
          rw [gr i,gr j]
          by_cases cj:j<n
          · rw [if_pos (by omega),if_pos (by omega)]; exact eq _ _ (by omega) (by omega)
          · have:j=n:=by omega
            subst this
            rw [if_neg (show ¬ (0≤j∧j<j) by omega)]
            by_cases ci:i<j
            · rw [if_pos (by omega)]
              exact o.tr _ (g p (j-1)) _ (o.as _ _ z5) (eq _ _ (by omega) (by omega))
            · have:i=j:=by omega
              subst this
              rw [if_neg (by omega)]
              exact irr o _
      · rw [if_neg c2]
        refine descPart_ok o h0 hp (by omega) (by omega) (Nat.le_refl _) fun i j hij hj=>?_
        have n1:n=1:=by omega
        subst n1
        by_cases ci:i=j
        · subst ci; exact irr o _
        · have e1:i=0:=by omega
          have e2:j=1:=by omega
          subst e1; subst e2
          exact o.as _ _ z5
  · have e1:i=j:=by omega
    subst e1
    exact irr o _
theorem place_ok (o:Ord lt) {p:Array Nat} {k:Nat} (hp:Lo N p) (hu:Up lt p k):∀ (f l r:Nat),l≤r→r≤k→r-l≤f→(∀ i,i<l→lt (g p k) (g p i)=false)→(∀ i,r≤i→i<k→lt (g p k) (g p i)=true) →
    KOk lt N (kas_place p k f l r) (fun m=>m≤k∧(∀ i,i<m→lt (g p k) (g p i)=false)∧∀ i,m≤i→i<k→lt (g p k) (g p i)=true)
  | 0,l,r,h1,h2,h3,h4,h5=>⟨by omega,h4,fun i hi=>h5 i (by omega)⟩
  | f+1,l,r,h1,h2,h3,h4,h5=>by
    unfold kas_place
    by_cases c:l ≥ r
    · rw [if_pos c]; exact ⟨by omega,h4,fun i hi=>h5 i (by omega)⟩
    · rw [if_neg c]
      refine ⟨hp.2 k,hp.2 ((l+r) / 2),?_⟩
      cases d:lt (p.getD k 0) (p.getD ((l+r) / 2) 0) with
      | true =>
        dsimp only
        rw [if_pos rfl]
        refine place_ok o hp hu f l ((l+r) / 2) (by omega) (by omega) (by omega) h4 fun i hi1 hi2=>?_
        cases e:lt (g p k) (g p i) with
        | true=>rfl
        | false =>
          have:=o.tr _ (g p i) _ (hu ((l+r) / 2) i hi1 hi2) e
          rw [show lt (g p k) (g p ((l+r) / 2))=true from d] at this
          cases this
      | false =>
        dsimp only
        rw [if_neg Bool.false_ne_true]
        exact place_ok o hp hu f ((l+r) / 2+1) r (by omega) h2 (by omega) (fun i hi=>o.tr _ (g p ((l+r) / 2)) _ (hu i ((l+r) / 2) (by omega) (by omega)) d) h5
theorem bin_ok (o:Ord lt) (h0:0<N):∀ (f:Nat) (p:Array Nat) (k:Nat),Lo N p→k+f=N→Up lt p k→KOk lt N (kas_bin f p k) (fun q=>q.Perm p∧Up lt q N)
  | 0,p,k,_,hk,hu=>⟨Array.Perm.refl _,by rw [← hk]; exact hu⟩
  | f+1,p,k,hp,hk,hu=>by
    refine KOk.bind _ (KOk.mono (fun m z=>?_) _ (place_ok o hp hu k 0 k (Nat.zero_le _) (Nat.le_refl _) (by omega) (fun i hi=>by omega) fun i hi1 hi2=>by omega))
    obtain ⟨z1,z2,z3⟩:=z
    have gb:∀ j,g (bubble p k (k-m)) j=if j=k-(k-m) then g p k else if k-(k-m)<j∧j≤k then g p (j-1) else g p j:=g_bub (by rw [hp.1]; omega) (by omega)
    have em:k-(k-m)=m:=by omega
    rw [em] at gb
    refine KOk.mono (fun q y=>⟨y.1.trans (bubble_perm _ _ _),y.2⟩) _ (bin_ok o h0 f _ (k+1) (hp.of_perm h0 (bubble_perm _ _ _)) (by omega) fun i j hij hj=>?_)
    rw [gb i,gb j]
    by_cases cj:j=m
    · rw [if_pos cj]
      by_cases ci:i=m
      · rw [if_pos ci]; exact irr o _
      · rw [if_neg ci,if_neg (by omega)]; exact z2 i (by omega)
    · rw [if_neg cj]
      by_cases cj2:m<j∧j≤k
      · rw [if_pos cj2]
        by_cases ci:i=m
        · rw [if_pos ci]; exact o.as _ _ (z3 (j-1) (by omega) (by omega))
        · rw [if_neg ci]
          by_cases ci2:m<i∧i≤k
          · rw [if_pos ci2]; exact hu _ _ (by omega) (by omega)
          · rw [if_neg ci2]; exact hu _ _ (by omega) (by omega)
      · rw [if_neg cj2]
        rw [if_neg (by omega),if_neg (by omega)]
        exact hu _ _ hij (by omega)
theorem sort_ok (o:Ord lt) (h0:0<N):KOk lt N (kas_sort N) (fun p=>p.toList.Perm (List.range N)∧Up lt p N):=by
  have hp:Lo N (List.toArray (List.range N)):=by
    refine ⟨by simp,fun i=>?_⟩
    unfold g
    rw [Array.getD_eq_getD_getElem?]
    by_cases c:i<N
    · simp [c]
    · rw [Array.getElem?_eq_none (by simpa using c)]
      exact h0
  have done:∀ q:Array Nat,q.Perm (List.toArray (List.range N))→q.toList.Perm (List.range N):=fun q h=>by
    have:=Array.perm_iff_toList_perm.mp h
    simpa using this
  refine KOk.bind _ (KOk.mono (fun r z=>?_) _ (count_ok o h0 hp))
  obtain ⟨z1,z2,z3,z4⟩:=z
  by_cases c:r.1<N
  · rw [if_pos c]
    have e:max r.1 1=r.1:=by omega
    rw [e]
    exact KOk.mono (fun q y=>⟨done q (y.1.trans z1),y.2⟩) _ (bin_ok o h0 (N-r.1) r.2 r.1 (hp.of_perm h0 z1) (by omega) z2)
  · rw [if_neg c]
    have e:r.1=N:=by omega
    rw [e] at z2
    exact ⟨done _ z1,z2⟩
end
end Srt
namespace L2
open PySem PySem.Spec PyProof.Rows
def lexLt:List Int→List Int→Bool
  | [],[]=>false
  | [],_::_=>true
  | _::_,[]=>false
  | x::xs,y::ys=>if x=y then lexLt xs ys else decide (x<y)
theorem lex_as:∀ a b:List Int,lexLt a b=true→lexLt b a=false
  | [],[],h=>by cases h
  | [],_::_,_=>rfl
  | _::_,[],h=>by cases h
  | x::xs,y::ys,h=>by
    unfold lexLt at h ⊢
    by_cases c:x=y
    · subst c; rw [if_pos rfl] at h ⊢; exact lex_as xs ys h
    · rw [if_neg c] at h
      rw [if_neg (Ne.symm c)]
      have:=of_decide_eq_true h
      exact decide_eq_false (by omega)
theorem lex_tr:∀ a b c:List Int,lexLt b a=false→lexLt c b=false→lexLt c a=false
  | [],[],[],_,_=>rfl
  | [],[],_::_,_,_=>rfl
  | [],_::_,[],_,h=>by cases h
  | [],_::_,_::_,_,_=>rfl
  | _::_,[],_,h,_=>by cases h
  | _::_,_::_,[],_,h=>by cases h
  | x::xs,y::ys,z::zs,h1,h2=>by
    unfold lexLt at h1 h2 ⊢
    by_cases c1:y=x
    · subst c1
      rw [if_pos rfl] at h1
      by_cases c2:z=y
      · subst c2; rw [if_pos rfl] at h2 ⊢; exact lex_tr xs ys zs h1 h2
      · rw [if_neg c2] at h2 ⊢; exact h2
    · rw [if_neg c1] at h1
      have k1:=of_decide_eq_false h1
      by_cases c2:z=y
      · subst c2
        rw [if_neg c1]
        exact h1
      · rw [if_neg c2] at h2
        have k2:=of_decide_eq_false h2
        rw [if_neg (by omega)]
        exact decide_eq_false (by omega)
theorem lex_ord (f:Nat→List Int):Srt.Ord fun i j=>lexLt (f i) (f j):=⟨fun a b c h1 h2=>lex_tr _ _ _ h1 h2,fun a b h=>lex_as _ _ h⟩
theorem lex_eq:∀ a b:List Int,lexLt a b=false→lexLt b a=false→a=b
  | [],[],_,_=>rfl
  | [],_::_,h,_=>by cases h
  | _::_,[],_,h=>by cases h
  | x::xs,y::ys,h1,h2=>by
    unfold lexLt at h1 h2
    by_cases c:x=y
    · subst c; rw [if_pos rfl] at h1 h2; rw [lex_eq xs ys h1 h2]
    · rw [if_neg c] at h1
      rw [if_neg (Ne.symm c)] at h2
      have:=of_decide_eq_false h1
      have:=of_decide_eq_false h2
      omega
section
variable {X:Cx} {pins:List (Addr×Obj)} {σ:St} {H:Hp} {s:Shared}
theorem Inv.newsLaid {h':Heap} {D:Addr} {o:Obj} {u:HO} {m:Str→Option Value} {t':Nat} (I:Inv X pins σ H s) (hx:X.ex=[]) (F:Fr X.base X.env.locals s.heap m) (F':Fr X.base X.env.locals h' m)
    (N':News X.base X.env.locals h' ((D,o)::allNews X.base s.heap X.env.locals)) (hD:s.heap.get? D=none) (new:ObjOk X.prog X.w (upd H D u) h' D u):Inv X pins σ (upd H D u) { s with heap:=h',toks:=t' }:=by
  have keep:∀ b v,b≠X.env.locals→s.heap.get? b=some v→h'.get? b=some v:=fun b v hb q=>by
    cases e:X.base.get? b with
    | some y =>
      have e1:=F.keep b y e
      rw [q] at e1
      cases e1
      exact F'.keep b v e
    | none=>exact (N' (b,v) (List.mem_cons_of_mem _ (mem_allNews hb e q))).1
  obtain ⟨oL,es,ep,hL,rL⟩:=F.ns
  have nL:∀ b w,H b=some w→b≠X.env.locals:=fun b w q z=>by rw [z,I.free] at q; cases q
  have I1:Inv X pins σ H { s with heap:=h',gens:=s.gens,drawn:=s.drawn,toks:=t' }:=by
    refine I.step (ch:=[]) (fun _ z=>nomatch z) (fun b v h1 _ _ q _=>keep b v h1 q) (fun b v h1 _ _ q _=>⟨v.slots,keep b v h1 q⟩) (fun _ _ _ _ n=>n) (fun b v _ q=>?_) (fun _ _ q=>q) (fun _ _ _ q=>q) (fun b ps q=>⟨#[],by rw [q]; simp⟩) (fun m' hm=>?_) (fun b w q=>?_) I.bare
    · by_cases hb:b=X.env.locals
      · subst hb
        obtain ⟨o2,_,_,h2,_⟩:=F'.ns
        exact ⟨o2,h2⟩
      · exact ⟨v,keep b v hb q⟩
    · have e1:=hm.eq_nsMap
      have e2:=F.ns.eq_nsMap
      rw [e1,← e2]
      exact F'.ns
    · refine (I.hok b w q).stay (fun c y hc r=>keep c y ?_ r) (fun _ r=>r) fun _ _ r=>r
      rcases hc with rfl | hc
      · exact nL _ _ q
      · exact nL _ _ hc
  exact I1.track (I.out hx hD) new
end
def TupZ (H:Hp) (ps:List Addr) (zs:List (List Int)):Prop:=Paired (fun p z=>z≠[]∧H p=some (.tup (z.map V.int))) ps zs
theorem ints_lex {prog:Program} {w:World} {A:Around} {Q:Bool→Shared→Prop} {s:Shared}:∀ {x y:List Int} {us vs:List Value} (i:Nat),IntsAre us x→IntsAre vs y→Q (lexLt x y) s→PySem.W.KatLex prog w A true (decide (x.length<y.length)) Q (us.zip vs) i s
  | [],[],_,_,_,.nil,.nil,h=>PySem.W.kat_nil h
  | [],_::_,_,_,_,.nil,.cons _ _ _,h=>PySem.W.kat_nil h
  | _::_,[],_,_,_,.cons _ _ _,.nil,h=>PySem.W.kat_nil h
  | x::xs,y::ys,_,_,i,.cons _ t r1,.cons _ u r2,h=>by
    refine PySem.W.kat_cons (wpAny_eqBool_int ?_)
    unfold lexLt at h
    have el:decide ((x::xs).length<(y::ys).length)=decide (xs.length<ys.length):=by rw [List.length_cons,List.length_cons]; congr 1; apply propext; omega
    by_cases c:x=y
    · subst c
      rw [if_pos rfl] at h
      rw [beq_self_eq_true,el]
      exact PySem.W.kat_yes (ints_lex (i+1) r1 r2 h)
    · rw [if_neg c] at h
      have e:(x==y)=false:=by simp [c]
      rw [e]
      refine PySem.W.kat_no ?_
      cases i with
      | zero=>exact oneLt_int h
      | succ i=>exact PySem.W.kat_one _ _ (PyProof.Rows.lt_int h)
theorem tup_items {X:Cx} {pins:List (Addr×Obj)} {σ:St} {H:Hp} {s:Shared} (I:Inv X pins σ H s) {p:Addr} {z:List Int} (h:H p=some (.tup (z.map V.int))):∃ (o:Obj) (us:List Value) (n:Nat),s.heap.get? p=some o∧o.cls=.type "tuple" ∧ o.data=.seq us.toArray n∧IntsAre us z:=by
  obtain ⟨_,its,rv,o,h1,h2,n,h3⟩:=(show ObjOk X.prog X.w H s.heap p (.tup (z.map V.int)) from I.hok p _ h)
  exact ⟨o,its,n,h1,h2,h3,intsAre_of rv⟩
theorem refs_of {ps:List Addr}:∀ {us:List Value},Vals (ps.map V.ref) us→us=ps.map Value.ref:=by
  induction ps with
  | nil=>intro us r; cases r; rfl
  | cons p ps ih=>intro us r; cases r with | cons h r=>cases (show _=Value.ref p from h); rw [ih r]; rfl
theorem kat_tups {h:Heap}:∀ {ps:List Addr},(∀ p∈ps,∃ (o:Obj) (us:List Value) (n:Nat) (x:Int) (t:Tok) (r:List Value),h.get? p=some o∧o.cls=.type "tuple" ∧ o.data=.seq us.toArray n∧us=.int x t::r)→∃ fs,PySem.W.KatTups h (ps.map Value.ref) fs∧fs.length=ps.length∧∀ f∈fs,∃ (x:Int) (t:Tok),f=.int x t
  | [],_=>⟨[],.nil,rfl,fun _ z=>nomatch z⟩
  | p::ps,hp=>by
    obtain ⟨fs,k,hl,hf⟩:=kat_tups (ps:=ps) fun q hq=>hp q (List.mem_cons_of_mem _ hq)
    obtain ⟨o,us,n,x,t,r,h1,h2,h3,rfl⟩:=hp p List.mem_cons_self
    refine ⟨.int x t::fs,.cons h1 h2 h3 (by simp) k,by simp [hl],fun f hm=>?_⟩
    rcases List.mem_cons.mp hm with rfl | hm
    · exact ⟨x,t,rfl⟩
    · exact hf f hm
section
open PySem.W
variable {prog:Program} {w:World} {A:Around} {E:Value→Shared→Prop} {s:Shared} {a:Addr} {n:Nat} {vs:List Value}
end
end L2
namespace L2
open PySem PySem.Spec PyProof.Rows
def srtZ (zs:List (List Int)):List (List Int):=zs.mergeSort fun a b=>!lexLt b a
theorem srtZ_perm (zs:List (List Int)):(srtZ zs).Perm zs:=List.mergeSort_perm _ _
theorem srtZ_up (zs:List (List Int)):(srtZ zs).Pairwise fun a b=>lexLt b a=false:=by
  have h:=List.pairwise_mergeSort (le:=fun a b=>!lexLt b a) (fun a b c h1 h2=>by
    rw [Bool.not_eq_true'] at h1 h2 ⊢
    exact lex_tr _ _ _ h1 h2) (fun a b=>by
    cases e:lexLt b a with
    | false=>rfl
    | true=>simp [lex_as _ _ e]) zs
  exact h.imp fun h=>by simpa using h
end L2
namespace VL
open PySem L2
open Classical
noncomputable section
variable [Tabs] {K:PySem.W.Frag}
def tupD (z:List Int):D:=.tup (z.map D.int)
theorem mapInt_inj:∀ {a b:List Int},a.map D.int=b.map D.int→a=b
  | [],[],_=>rfl
  | [],_::_,h=>by cases h
  | _::_,[],h=>by cases h
  | x::a,y::b,h=>by
    injection h with h1 h2
    injection h1 with h1
    rw [h1,mapInt_inj h2]
theorem tupD_inj (a b:List Int) (h:tupD a=tupD b):a=b:=by
  unfold tupD at h
  injection h with h
  exact mapInt_inj h
def t3 (z:Int×Int×Int):D:=.tup [.int z.1,.int z.2.1,.int z.2.2]
end
end VL
namespace L2
open PySem PySem.Spec PyProof.Rows
section
variable {M:Model} {A:Around} {E:Value→Shared→Prop} {s:Shared} {base:Heap} {env:Env} {outer:List Env} {L e T:Addr} {cls fl:Value} {Q:Unit→Shared→Prop}
end
section
variable {X:Cx} {pins:List (Addr×Obj)} {σ:St} {H:Hp} {s s':Shared} {E:XK} {e:Value}
end
section
variable {prog:Program} {w:World} {A:Around} {R:Result→Shared→Prop} {s:Shared}
end
section
variable {X:Cx} {tg elt iter:Expr} {scope:Scope} {cl:List (Str×Addr)} {N':List Str} {σ0:St→St} {g:TG} {te:TE} {E:XK}
variable {pos:Pos} {wi:TI} {ts zs:List Str} {is:List Nat} {k:Nat}
end
end L2
namespace VL
open PySem L2
open Classical
noncomputable section
variable [Tabs] {K:PySem.W.Frag} {E:XK} {C:Addr}
end
end VL
namespace L2
open PySem PySem.Spec PyProof.Rows
theorem trip_snoc {a b:Int} {t u:Tok} {c:Value} (l:List Value) (h:TriplesOk l):TriplesOk (l++[.int a t,.int b u,c]):=by
  fun_induction TriplesOk l with
  | case1=>trivial
  | case2 x t y u z rest ih=>exact ih h
  | case3=>exact h.elim
theorem among_snoc {pos:Pos} {a b:Int} {t u:Tok} {c v:Value} (l:List Value) (h:TriplesOk l) (e:codeAmong pos (l++[.int a t,.int b u,c])=some v):codeAmong pos l=some v∨v=c:=by
  fun_induction TriplesOk l with
  | case1 =>
    simp only [List.nil_append,codeAmong] at e
    split at e
    · cases e; exact .inr rfl
    · cases e
  | case2 x t y u z rest ih =>
    simp only [List.cons_append,codeAmong] at e ⊢
    split at e
    · rename_i q; rw [if_pos q]; exact .inl e
    · rename_i q; rw [if_neg q]; exact ih h e
  | case3=>exact h.elim
def BmOk (mg:Str→Option Value) (base:Heap):Prop:=∃ bm ob,mg "__builtins__" = some (.ref bm)∧bm≠builtinsNs∧base.get? bm=some ob∧ob.cls=.type "module" ∧ ob.dict=some builtinsNs∧ob.data=.plain
structure LamOk (X:Cx) (c P:Addr):Prop where
  code:X.env.code=.ref c
  hd:PySem.W.codeHdIn X.K c P=true
  bm:BmOk X.mg X.base
abbrev lamObj (q:Str) (params:Arguments) (body:Expr) (scope:Scope) (cl:List (Str×Addr)) (mg:Str→Option Value) (c:Addr) (ct:Value):Obj:=PySem.W.kla_obj "<lambda>" q params body scope cl ((mg "__name__").getD .none) c ct
def LamIs (mg:Str→Option Value) (H:Hp) (q:Str) (params:Arguments) (body:Expr) (scope:Scope) (cl:List (Str×Addr)) (o:Obj):Prop :=
  ∃ c ct oc u vs t,o=lamObj q params body scope cl mg c ct∧H c=some (.frz oc u)∧oc.data=.fields vs∧vs[1]?=some (.str q t)
theorem lam_make {X:Cx} {pins:List (Addr×Obj)} {σ:St} {H:Hp} {s:Shared} {c P:Addr} {ps:Array Value} {q:Str} {t:Tok} {params:Arguments} {body:Expr} {scope:Scope} {pos:Pos} {cl:List (Str×Addr)} (lo:LamOk X c P) (I:Inv X pins σ H s)
    (hP:H P=some (.tbl ps)) (h0:ps[0]?=some (.str q t)) (hq:X.env.qual ++ "<lambda>" = q) (hcl:closureFor scope X.env=pure cl) (hdef:defaultsOf params X.env=([],[])) :
    wpAny (model X.prog X.w) X.A (eval (.Lambda params body scope pos) X.env) (fun v s'=>∃ f o H',v=.ref f∧Inv X (pins++[(f,o)]) σ H' s'∧(∀ b u,H b=some u→H' b=some u)∧(∀ p∈X.pn++pins,p.1≠f)∧X.s₀.heap.objs.size≤f∧LamIs X.mg H' q params body scope cl o) X.xe s:=by
  refine PySem.W.kla_eval hdef ?_
  obtain ⟨q',t',qs,e0,e1,e2,e3⟩:=(show ObjOk X.prog X.w H s.heap P (.tbl ps) from I.hok P _ hP)
  rw [h0] at e0
  cases e0
  have hg:s.heap.Ns mainGlobals X.mg:=I.mod.glob.keeps I.bk
  have hgP:mainGlobals≠P:=fun z=>by
    obtain ⟨o,es,ep,e,_⟩:=I.mod.glob
    have:=(I.bs _ _ e).2
    rw [z,hP] at this; cases this
  obtain ⟨bm,ob,b1,b2,b3,b4,b5,b6⟩:=lo.bm
  have nG:bm≠mainGlobals:=fun z=>by
    obtain ⟨o,es,ep,e,hd,_⟩:=I.mod.glob
    rw [z,e] at b3; cases b3; rw [hd] at b6; cases b6
  have nB:bm≠P:=fun z=>by
    have:=(I.bs _ _ b3).2
    rw [z,hP] at this; cases this
  have hb:s.heap.BuiltinsAt X.mg P:=⟨bm,ob,b1,b2,nG,nB,I.bk _ _ b3,b4,b5,b6⟩
  have C:=(PySem.W.codeHd_of_K I.mod.kin lo.hd).keeps I.bk
  have Ls:X.env.locals<s.heap.objs.size:=I.lt
  have fsl:∀ b∈X.fs,b<s.heap.objs.size:=fun b hb=>by
    obtain ⟨_,o,ho,_⟩:=I.ok.funs.mem hb
    exact Nat.lt_of_lt_of_le (Heap.lt_size ho) I.sz
  rw [hq]
  cases hf:codeAmong pos qs.toList with
  | none =>
    refine PySem.W.kla_makeFunction (mg:=X.mg) hcl I.ok.glob hg lo.code C e1 e2 hf hgP hb fun c' ctv h' tk hx hge hlt hrec htb=>?_
    have hc:H c'=none:=I.hok.fresh hge
    have hcP:c'≠P:=fun z=>by rw [z,hP] at hc; cases hc
    have ge:s.heap.objs.size≤h'.objs.size:=Nat.le_trans hge (Nat.le_of_lt hlt)
    have kp:∀ b u,b≠P→s.heap.get? b=some u→(h'.push (lamObj q params body scope cl X.mg c' ctv)).get? b=some u:=fun b u hb e=>Heap.get?_push_of_some _ (hx b u hb e)
    have nP:∀ b,H b=none→b≠P:=fun b e z=>by rw [z,hP] at e; cases e
    obtain ⟨c2,oc,vs,t2,z1,z2,z3,z4⟩:=hrec
    cases z1
    have up:∀ b u,H b=some u→upd H c' (.frz oc (.own P)) b=some u:=fun b u e=>by rw [upd_ne (ne_of_none e hc)]; exact e
    have I1:Inv X pins σ (upd H c' (.frz oc (.own P))) { s with heap:=h'.push (lamObj q params body scope cl X.mg c' ctv),gens:=s.gens,drawn:=s.drawn,toks:=tk }:=by
      refine I.step (ch:=[]) (fun _ z=>nomatch z) (fun b o _ _ _ e n=>kp b o (nP b n) e) (fun b o _ _ _ e n=>⟨o.slots,kp b o (nP b n) e⟩) (fun b o _ e n=>?_) (fun b o _ e=>?_) (fun b xs e=>up _ _ e) (fun b o u e=>up _ _ e) (fun b ps' e=>⟨#[],by rw [up _ _ e]; simp⟩) (fun m hm=>?_) (fun b u e=>?_) I.bare
      · rw [upd_ne (Nat.ne_of_lt (Nat.lt_of_lt_of_le (Heap.lt_size e) hge))]; exact n
      · by_cases z:b=P
        · subst z; exact ⟨_,Heap.get?_push_of_some _ htb⟩
        · exact ⟨o,kp b o z e⟩
      · exact (hm.extBut hx fun z=>by have:=I.free; rw [z,hP] at this; cases this).push _
      · by_cases z:b=c'
        · subst z
          rw [upd_same] at e
          cases e
          exact ⟨Heap.get?_push_of_some _ z2,oc,Heap.get?_push_of_some _ z2⟩
        · rw [upd_ne z] at e
          by_cases z2:b=P
          · subst z2
            rw [hP] at e
            cases e
            refine ⟨q,t,qs++#[rawInt pos.line,rawInt pos.col,.ref c'],h0,Heap.get?_push_of_some _ htb,?_,fun pos' v ev=>?_⟩
            · rw [Array.toList_append]; exact trip_snoc _ e2
            · rw [Array.toList_append] at ev
              rcases among_snoc _ e2 ev with ev | rfl
              · obtain ⟨c3,o,u,vs,t2,y1,y2,y3⟩:=e3 pos' v ev
                exact ⟨c3,o,u,vs,t2,y1,up _ _ y2,y3⟩
              · exact ⟨c',oc,_,vs,t2,rfl,upd_same,z3,z4⟩
          · refine (I.hok b u e).stay (fun x v hxv ex=>kp x v ?_ ex) (fun x ex=>up _ _ ex) (fun x xs ex=>up _ _ ex) fun x o u ex=>up _ _ ex
            rcases hxv with rfl | hxv
            · exact z2
            · exact fun w=>by rw [w,hP] at hxv; cases hxv
    have fz:∀ b o,s.heap.get? b=some o→b≠h'.objs.size:=fun b o e=>Nat.ne_of_lt (Nat.lt_of_lt_of_le (Heap.lt_size e) ge)
    refine ⟨h'.objs.size,lamObj q params body scope cl X.mg c' ctv,upd H c' (.frz oc (.own P)),rfl,I1.pins_of fun p hp=>?_,up,fun p hp z=>?_,Nat.le_trans I.sz ge,c',ctv,oc,.own P,vs,t2,rfl,upd_same,z3,z4⟩
    · rcases List.mem_append.mp hp with hp | hp
      · exact I1.pin p (List.mem_append_right _ hp)
      · cases List.mem_singleton.mp hp
        refine ⟨Heap.get?_push_size _ rfl,?_,Nat.ne_of_gt (Nat.lt_of_lt_of_le Ls ge),fun z=>absurd (Nat.lt_of_lt_of_le (fsl _ z) ge) (Nat.lt_irrefl _),fun v z=>by cases z⟩
        show upd H c' (.frz oc (.own P)) h'.objs.size=none
        rw [upd_ne (Nat.ne_of_gt hlt)]
        exact I.hok.fresh ge
    · exact fz _ _ (I.pin p hp).1 z
  | some cv =>
    obtain ⟨c',oc,u,vs,t2,rfl,hown,z3,z4⟩:=e3 pos cv hf
    refine PySem.W.kla_makeFunctionHit (mg:=X.mg) hcl I.ok.glob hg lo.code C e1 e2 hf hb fun ctv h' tk hk hsz=>?_
    have kp:∀ b u,s.heap.get? b=some u→(h'.push (lamObj q params body scope cl X.mg c' ctv)).get? b=some u:=fun b u e=>Heap.get?_push_of_some _ (hk b u e)
    have I1:Inv X pins σ H { s with heap:=h'.push (lamObj q params body scope cl X.mg c' ctv),toks:=tk }:=I.kept kp
    refine ⟨h'.objs.size,lamObj q params body scope cl X.mg c' ctv,H,rfl,I1.pins_of fun p hp=>?_,fun _ _ e=>e,fun p hp z=>?_,Nat.le_trans I.sz hsz,c',ctv,oc,u,vs,t2,rfl,hown,z3,z4⟩
    · rcases List.mem_append.mp hp with hp | hp
      · exact I1.pin p (List.mem_append_right _ hp)
      · cases List.mem_singleton.mp hp
        exact ⟨Heap.get?_push_size _ rfl,I.hok.fresh hsz,Nat.ne_of_gt (Nat.lt_of_lt_of_le Ls hsz),fun z=>absurd (Nat.lt_of_lt_of_le (fsl _ z) hsz) (Nat.lt_irrefl _),fun v z=>by cases z⟩
    · exact absurd z (Nat.ne_of_lt (Nat.lt_of_lt_of_le (Heap.lt_size (I.pin p hp).1) hsz))
structure LFrees (X:Cx) (x:Str) (zs:List Str) (is:List Nat) (scope:Scope) (cl:List (Str×Addr)):Prop where
  par:scope.names.lookup x=some .local
  sub:∀ y c,cl.lookup y=some c→X.env.cells.lookup y=some c
  cap:∀ (j:Nat) (z:Str),zs[j]?=some z→∃ i c,is[j]?=some i∧X.N[i]?=some z∧(X.env.scope.names.lookup z=some .cell∨X.env.scope.names.lookup z=some .free)∧cl.lookup z=some c∧scope.names.lookup z=some .free
  has:∀ y,(scope.names.lookup y=some .cell∨scope.names.lookup y=some .free)→∃ c,cl.lookup y=some c
  len:is.length=zs.length
  nocell:∀ y∈scope.names,y.2≠.cell
  kind:scope.kind=.function
  co:scope.isCoroutine=false
  gen:scope.isGenerator=false
inductive LapL (X:Cx) (scope:Scope) (cl:List (Str×Addr)):List Nat→List Str→Prop
  | nil:LapL X scope cl [] []
  | cons {i:Nat} {z:Str} {c:Addr} {is:List Nat} {zs:List Str}:X.N[i]?=some z→(X.env.scope.names.lookup z=some .cell∨X.env.scope.names.lookup z=some .free)→cl.lookup z=some c→scope.names.lookup z=some .free→LapL X scope cl is zs→LapL X scope cl (i::is) (z::zs)
theorem LapL.get {X:Cx} {scope:Scope} {cl:List (Str×Addr)} {is:List Nat} {zs:List Str} (h:LapL X scope cl is zs):∀ (j:Nat) (z:Str),zs[j]?=some z→∃ i c,is[j]?=some i∧X.N[i]?=some z∧(X.env.scope.names.lookup z=some .cell∨X.env.scope.names.lookup z=some .free)∧cl.lookup z=some c∧scope.names.lookup z=some .free:=by
  induction h with
  | nil=>intro j z e; simp at e
  | cons h1 h2 h3 h4 _ ih =>
    intro j z e
    cases j with
    | zero=>cases e; exact ⟨_,_,rfl,h1,h2,h3,h4⟩
    | succ j=>exact ih j z (by simpa using e)
theorem LapL.len {X:Cx} {scope:Scope} {cl:List (Str×Addr)} {is:List Nat} {zs:List Str} (h:LapL X scope cl is zs):is.length=zs.length:=by
  induction h with
  | nil=>rfl
  | cons _ _ _ _ _ ih=>simp [ih]
theorem LFrees.many {X:Cx} {x:Str} {zs:List Str} {is:List Nat} {scope:Scope} {cl:List (Str×Addr)} (hs:SubL X cl) (hc:LapL X scope cl is zs) (ha:(scope.names.all fun y=>!(y.2==.cell || y.2==.free) || zs.contains y.1)=true) (par:scope.names.lookup x=some .local)
    (nocell:∀ y∈scope.names,y.2≠.cell) (kind:scope.kind=.function) (co:scope.isCoroutine=false) (gen:scope.isGenerator=false):LFrees X x zs is scope cl where
  par:=par
  sub:=hs.sub
  cap:=hc.get
  has:=fun y h=>by
    have key:∀ kd,scope.names.lookup y=some kd→(kd==NameKind.cell || kd==NameKind.free)=true→y∈zs:=fun kd e q=>by
      have m:=List.all_eq_true.mp ha _ (PySem.mem_of_lookup e)
      rw [q] at m
      have:zs.contains y=true:=by simpa using m
      exact List.contains_iff_mem.mp this
    have mem:y∈zs:=by
      rcases h with h | h
      · exact key _ h rfl
      · exact key _ h rfl
    obtain ⟨j,hj⟩:=List.getElem?_of_mem mem
    obtain ⟨i,c,_,_,_,f4,_⟩:=hc.get j y hj
    exact ⟨c,f4⟩
  len:=hc.len
  nocell:=nocell
  kind:=kind
  co:=co
  gen:=gen
abbrev lamEnv (q:Str) (scope:Scope) (L:Addr) (f c:Addr) (cl:List (Str×Addr)):Env:=newEnv scope L mainGlobals cl (q ++ ".<locals>.") (some f) (.ref c) none builtinsNs
def lamCx (X:Cx) (N':List Str) (q:Str) (scope:Scope) (cl:List (Str×Addr)) (f c:Addr) (A:Around) (s:Shared) (H:Hp) (pins:List (Addr×Obj)):Cx :=
  { X with A:=A.deeper (lamEnv q scope s.heap.objs.size f c cl),N:=N',s₀:=s,H₀:=H,env:=lamEnv q scope s.heap.objs.size f c cl,outer:=X.stack,stack:=lamEnv q scope s.heap.objs.size f c cl::X.stack,ex:=[],fn:=fun _=>false,calm:=true,pn:=X.pn++pins,xe:=fun _ _=>False }
theorem lam_call {X:Cx} {pins:List (Addr×Obj)} {σ:St} {H:Hp} {s:Shared} {q:Str} {params:Arguments} {body:Expr} {scope:Scope} {cl:List (Str×Addr)} {f:Addr} {o:Obj} {A:Around} {x:Str} {zs:List Str} {is:List Nat} {te:TE} {v:V} {u:Value} {Q:VK}
    (I:Inv X pins σ H s) (L:LamIs X.mg H q params body scope cl o) (hf:(f,o)∈X.pn++pins) (fr:LFrees X x zs is scope cl) (hA:A.frames=some X.stack) (hh:A.handled=none) (hroom:A.depth<recursionLimit)
    (hb:∀ (c:Addr) (ct u:Value),bindArgs (PySem.W.kla_fn "<lambda>" q params body scope cl ((X.mg "__name__").getD .none) (.ref c) ct) ⟨[u],[]⟩=pure [(x,u)])
    (he:∀ f c s H pins,PE (lamCx X (x::zs) q scope cl f c A s H pins) body te) (rv:RelV v u) (h:te (some v::is.map fun i=>(σ[i]?).join) H Q) :
    wpAny (model X.prog X.w) A (call (.ref f) [u]) (fun r s'=>(∃ y H',Inv X pins σ H' s'∧RelV y r∧Q y H')∧∀ m,s.heap.Ns X.env.locals m→s'.heap.Ns X.env.locals m) (fun _ _=>False) s:=by
  obtain ⟨c,ct,oc,w',vs,t,rfl,hc,hd,h1⟩:=L
  have ho:=(I.pin _ hf).1
  have hcd:s.heap.CodeRec (.ref c) q:=⟨c,oc,vs,t,rfl,(show ObjOk X.prog X.w H s.heap c (.frz oc w') from I.hok c _ hc).1,hd,h1⟩
  refine wpAny_call (codeAny_mono (PySem.W.kla_callFunE (R:=fun r s'=>∃ u,r=.ok (.ret u)∧(∃ y H',Inv X pins σ H' s'∧RelV y u∧Q y H')∧∀ m,s.heap.Ns X.env.locals m→s'.heap.Ns X.env.locals m) hroom ho rfl fr.co fr.gen rfl hcd ?_) fun r s' hq=>?_)
  · rw [hb]
    refine wpAny_pure (wpAny_newFunctionEnv fr.nocell (fun y hy=>?_) (fun h₁ hns hsb=>⟨?_,PySem.W.kla_codeExpr ?_⟩) fr.kind)
    · cases List.mem_singleton.mp hy
      exact fr.par
    · have old:∀ b o,s.heap.get? b=some o→h₁.get? b=some o:=fun b o e=>hsb.extBut b o (Nat.ne_of_lt (Heap.lt_size e)) (Heap.get?_push_of_some _ e)
      exact I.nolimit.keeps old
    · have old:∀ b o,s.heap.get? b=some o→h₁.get? b=some o:=fun b o e=>hsb.extBut b o (Nat.ne_of_lt (Heap.lt_size e)) (Heap.get?_push_of_some _ e)
      have noA:∀ b:Addr,b∉([]:List Addr):=fun b=>by simp
      have start:Inv (lamCx X (x::zs) q scope cl f c A s H pins) [] (some v::is.map fun i=>(σ[i]?).join) H { s with heap:=h₁,toks:=s.toks+1 }:=by
        refine ⟨⟨I.ok.mod,fr.kind,rfl,rfl,Nat.le_refl _,fun y z c h1 h2=>I.ok.inj y z c (fr.sub y c h1) (fr.sub z c h2),fun y hy=>fr.has y hy,fun y c h _=>(by cases h),fun _=>hh,Around.frames_deeper hA,.inr ⟨rfl,rfl⟩,fun b z=>absurd z (noA b),I.bs,Nat.le_trans I.ok.bsz I.sz,fun b _ _=>noA b,fun b z=>absurd z (noA b),I.stack,I.stkFree⟩,
          rfl,I.bare,Un.kept old,⟨_,hns,fun j y v' e1 e2 _=>?_⟩,fun y c e=>?_,I.hok.fresh (Nat.le_refl _),fun y c e=>I.freeC y c (fr.sub y c e),fun p hp=>?_,I.hok.kept old,?_⟩
        · cases j with
          | zero =>
            cases e1
            cases e2
            exact ⟨u,rv,.inl ⟨fr.par,by simp⟩⟩
          | succ j =>
            have e1:zs[j]?=some y:=by simpa [lamCx] using e1
            have e2:(is.map fun i=>(σ[i]?).join)[j]?=some (some v'):=by simpa using e2
            obtain ⟨i,c2,f1,f2,f3,f4,f5⟩:=fr.cap j y e1
            rw [List.getElem?_map,f1] at e2
            have e3:(σ[i]?).join=some v':=Option.some.inj e2
            obtain ⟨m,hn,hl⟩:=I.loc
            obtain ⟨u2,r2,l⟩:=hl i y v' f2 (VL.join_some e3) (by rcases f3 with z | z; exact .inr (.inl z); exact .inr (.inr z))
            refine ⟨u2,r2,.inr ⟨.inr f5,c2,f4,?_⟩⟩
            rcases l with ⟨k,_⟩ | ⟨_,c',e',z⟩
            · have k:X.env.scope.names.lookup y=some .local:=k
              rcases f3 with z | z <;> rw [z] at k <;> cases k
            · rw [fr.sub y c2 f4] at e'
              cases e'
              obtain ⟨o,ho,hd⟩:=z
              exact ⟨o,old _ _ ho,hd⟩
        · obtain ⟨v,o,ho,hd⟩:=I.cell y c (fr.sub y c e)
          exact ⟨v,o,old _ _ ho,hd⟩
        · have hp':p∈X.pn++pins:=by simpa [lamCx] using hp
          obtain ⟨e,n,ne,nf,d⟩:=I.pin p hp'
          refine ⟨old _ _ e,n,Nat.ne_of_lt (Heap.lt_size e),fun z=>?_,d⟩
          rcases List.mem_cons.mp (I.stkSub p.1 z) with q | q
          · exact ne q
          · exact nf q
        · show _=(x::zs).length
          rw [List.length_cons,List.length_map,List.length_cons,fr.len]
      refine wpAny_mono (he f c s H pins [] _ _ H _ start h) (fun r s' hq=>?_) fun _ _ z=>z.elim
      obtain ⟨y,H',J,ry,qy⟩:=hq
      refine ⟨r,rfl,⟨y,H',I.call' J.os J.base J.hok J.bare (fun b z=>absurd z (noA b)),ry,qy⟩,fun m hm=>?_⟩
      obtain ⟨o,es,ep,e1,e2⟩:=hm
      obtain ⟨sl,e3⟩:=J.base.any (b:=X.env.locals) e1 I.free (noA _)
      exact ⟨_,es,ep,e3,e2⟩
  · obtain ⟨u,rfl,hq⟩:=hq
    exact hq
end L2
namespace L2
open PySem PySem.Spec PyProof.Rows
section
variable {X:Cx} {pins:List (Addr×Obj)} {σ:St} {H:Hp} {s:Shared} {m:Str→Option Value} {h':Heap} {kS:Addr} {ok:Obj}
theorem Inv.frM (I:Inv X pins σ H s) (hm:s.heap.Ns X.env.locals m):Fr X.base X.env.locals s.heap m:=⟨hm,I.bk,Nat.le_trans I.ok.bsz I.ok.above⟩
theorem keep_rest {o:Obj} (F':Fr X.base X.env.locals h' m) (N':News X.base X.env.locals h' ((kS,o)::rest X.base s.heap X.env.locals kS)) (I:Inv X pins σ H s):∀ b v,b≠X.env.locals→b≠kS→s.heap.get? b=some v→h'.get? b=some v:=fun b v hb hk q=>by
  cases e:X.base.get? b with
  | some y =>
    have e1:=I.bk b y e
    rw [q] at e1
    cases e1
    exact F'.keep b v e
  | none=>exact (N' (b,v) (List.mem_cons_of_mem _ (List.mem_filter.mpr ⟨mem_allNews hb e q,by simpa using hk⟩))).1
theorem Inv.renew {o:Obj} {t':Nat} (I:Inv X pins σ H s) (hm:s.heap.Ns X.env.locals m) (F':Fr X.base X.env.locals h' m) (N':News X.base X.env.locals h' ((kS,o)::rest X.base s.heap X.env.locals kS))
    (h0:H kS=none) (h1:X.s₀.heap.objs.size≤kS) (h2:kS≠X.env.locals) (h3:∀ x c,X.env.cells.lookup x=some c→c≠kS) (h4:∀ p∈X.pn++pins,p.1≠kS):Inv X pins σ H { s with heap:=h',toks:=t' }:=by
  have keep:=keep_rest F' N' I
  refine I.step (g':=s.gens) (d':=s.drawn) (ch:=[kS]) (fun b hb=>?_) (fun b v q1 _ q2 q _=>keep b v q1 (fun z=>q2 (by rw [z]; exact List.mem_singleton.mpr rfl)) q) (fun b v q1 _ q2 q _=>⟨v.slots,keep b v q1 (fun z=>q2 (by rw [z]; exact List.mem_singleton.mpr rfl)) q⟩) (fun _ _ _ _ n=>n) (fun b v hb q=>?_) (fun _ _ q=>q) (fun _ _ _ q=>q) (fun b ps q=>⟨#[],by rw [q]; simp⟩) (fun m' hm'=>?_) (fun b w q=>?_) I.bare
  · rw [List.mem_singleton.mp hb]; exact ⟨.inr h1,h2,h3,h4⟩
  · by_cases hL:b=X.env.locals
    · subst hL
      obtain ⟨o2,_,_,e2,_⟩:=F'.ns
      exact ⟨o2,e2⟩
    · exact ⟨v,keep b v hL (fun z=>hb (by rw [z]; exact List.mem_singleton.mpr rfl)) q⟩
  · have e1:=hm'.eq_nsMap
    have e2:=hm.eq_nsMap
    rw [e1,← e2]
    exact F'.ns
  · have nL:∀ b w,H b=some w→b≠X.env.locals:=fun b w q z=>by rw [z,I.free] at q; cases q
    have nK:∀ b w,H b=some w→b≠kS:=fun b w q z=>by rw [z,h0] at q; cases q
    refine (I.hok b w q).stay (fun c y hc r=>keep c y ?_ ?_ r) (fun _ r=>r) fun _ _ r=>r
    · rcases hc with rfl | hc
      · exact nL _ _ q
      · exact nL _ _ hc
    · rcases hc with rfl | hc
      · exact nK _ _ q
      · exact nK _ _ hc
end
def Grow (H H':Hp):Prop:=∀ b u,H b=some u→H' b=some u
theorem LamIs.grow {mg:Str→Option Value} {H H':Hp} {q:Str} {params:Arguments} {body:Expr} {scope:Scope} {cl:List (Str×Addr)} {o:Obj} (L:LamIs mg H q params body scope cl o) (g:Grow H H'):LamIs mg H' q params body scope cl o:=by
  obtain ⟨c,ct,oc,u,vs,t,e1,e2,e3⟩:=L
  exact ⟨c,ct,oc,u,vs,t,e1,g _ _ e2,e3⟩
def keysW (te:TE) (fs:List (Option V)) (Fin:List V→Hp→Prop):List V→List V→Hp→Prop
  | [],ks,H=>Fin ks H
  | v::r,ks,H=>te (some v::fs) H fun k H'=>Grow H H'∧keysW te fs Fin r (ks++[k]) H'
section
variable {X:Cx} {pins:List (Addr×Obj)} {σ:St} {m:Str→Option Value} {kS f:Addr} {o:Obj} {q:Str} {params:Arguments} {body:Expr} {scope:Scope} {cl:List (Str×Addr)} {A:Around} {x:Str} {zs:List Str} {is:List Nat} {te:TE} {Fin:List V→Hp→Prop}
theorem keys_run (fr:LFrees X x zs is scope cl) (hA:A.frames=some X.stack) (hh:A.handled=none) (hroom:A.depth<recursionLimit)
    (hb:∀ (c:Addr) (ct u:Value),bindArgs (PySem.W.kla_fn "<lambda>" q params body scope cl ((X.mg "__name__").getD .none) (.ref c) ct) ⟨[u],[]⟩=pure [(x,u)])
    (he:∀ f c s H pins,PE (lamCx X (x::zs) q scope cl f c A s H pins) body te) (hf:(f,o)∈pins) (h1:X.s₀.heap.objs.size≤kS) (h4:∀ p∈X.pn++pins,p.1≠kS):∀ {r:List V} {rv:List Value} {ks:List V} {kvs:List Value} {e:Nat} {H:Hp} {s:Shared},
    Vals r rv→Vals ks kvs→Inv X (pins++[(kS,seqObj "list" kvs.toArray e)]) σ H s→s.heap.Ns X.env.locals m→LamIs X.mg H q params body scope cl o→keysW te (is.map fun i=>(σ[i]?).join) Fin r ks H →
    PySem.W.KatKeys X.prog X.w A X.base X.env.locals m kS (.ref f) (fun kvs' e' s'=>∃ ks' H',Inv X (pins++[(kS,seqObj "list" kvs'.toArray e')]) σ H' s'∧s'.heap.Ns X.env.locals m∧Vals ks' kvs'∧Fin ks' H') rv kvs e s
  | [],_,ks,kvs,e,H,s,.nil,rk,I,hm,L,h=>PySem.W.KatKeys.nil ⟨ks,H,I,hm,rk,h⟩
  | v::r,_,ks,kvs,e,H,s,.cons rv1 rv,rk,I,hm,L,h=>by
    refine PySem.W.KatKeys.cons (wpAny_mono (lam_call I L (List.mem_append_right _ (List.mem_append_left _ hf)) fr hA hh hroom hb he rv1 h) (fun k s' hq=>?_) fun _ _ z=>z)
    obtain ⟨⟨y,H',J,ry,g,hk⟩,hns⟩:=hq
    have hm':=hns m hm
    obtain ⟨p1,p2,p3,p4,p5⟩:=J.pin (kS,seqObj "list" kvs.toArray e) (List.mem_append_right _ (List.mem_append_right _ (List.mem_singleton.mpr rfl)))
    have hbase:X.base.get? kS=none:=by
      cases eb:X.base.get? kS with
      | none=>rfl
      | some y=>exact absurd (Nat.lt_of_lt_of_le (Heap.lt_size eb) (Nat.le_trans J.ok.bsz h1)) (Nat.lt_irrefl _)
    refine PySem.W.KatBack.intro (J.frM hm') (news_at p3 hbase p1) (.head fun p hp=>by simpa using (List.mem_filter.mp hp).2) fun h2 c F2 N2=>?_
    have J0:Inv X pins σ H' s':=J.unpinned
    have cells:∀ x c,X.env.cells.lookup x=some c→c≠kS:=fun x c e z=>by
      obtain ⟨v,o,ho,hd⟩:=J.cell x c e
      rw [z,p1] at ho
      cases ho
      exact p5 v hd
    have J1:Inv X pins σ H' { s' with heap:=h2,toks:=s'.toks }:=J0.renew hm' F2 N2 p2 h1 p3 cells h4
    have J2:Inv X (pins++[(kS,seqObj "list" (kvs++[k]).toArray c)]) σ H' { s' with heap:=h2,toks:=s'.toks }:=J1.pins_of fun p hp=>by
      rcases List.mem_append.mp hp with hp | hp
      · exact J1.pin p (List.mem_append_right _ hp)
      · cases List.mem_singleton.mp hp
        exact ⟨(N2 _ List.mem_cons_self).1,p2,p3,p4,fun v z=>by cases z⟩
    exact keys_run fr hA hh hroom hb he hf h1 h4 rv (rk.append (.cons ry .nil)) J2 F2.ns (L.grow g) hk
structure Nil (X:Cx) (pins:List (Addr×Obj)) (H:Hp) (b:Addr):Prop where
  h:H b=none
  cell:∀ x c,X.env.cells.lookup x=some c→c≠b
  pin:∀ p∈X.pn++pins,p.1≠b
  fs:b∉X.fs
theorem Inv.nil {H:Hp} {s:Shared} (I:Inv X pins σ H s) {b:Addr} (e:s.heap.get? b=none):Nil X pins H b where
  h:=by
    cases q:H b with
    | none=>rfl
    | some o=>obtain ⟨u,hu⟩:=(I.hok b o q).live; rw [e] at hu; cases hu
  cell:=fun x c q z=>by
    obtain ⟨v,o,ho,_⟩:=I.cell x c q
    rw [z,e] at ho; cases ho
  pin:=fun p hp z=>by
    have:=(I.pin p hp).1
    rw [z,e] at this; cases this
  fs:=fun z=>by
    obtain ⟨_,o,ho,_⟩:=I.ok.funs.mem z
    obtain ⟨o',h'⟩:=I.base.there b o ho fun hx=>I.ok.exfs b hx z
    rw [e] at h'; cases h'
theorem vals_rev {xs:List V} {us:List Value} (h:Vals xs us):Vals xs.reverse us.reverse:=by
  induction h with
  | nil=>exact .nil
  | cons a _ ih=>rw [List.reverse_cons,List.reverse_cons]; exact ih.append (.cons a .nil)
theorem vals_katRev (b:Bool) {xs:List V} {us:List Value} (h:Vals xs us):Vals (PySem.W.katRev b xs) (PySem.W.katRev b us):=by
  cases b with
  | false=>exact h
  | true=>exact vals_rev h
theorem vals_idx {xs:List V} {us:List Value} (h:Vals xs us):∀ {l:List Nat},(∀ i∈l,i<xs.length)→Vals (l.map fun i=>xs.getD i .non) (l.map fun i=>us.getD i Value.none)
  | [],_=>.nil
  | i::l,hl=>by
    have hi:=hl i List.mem_cons_self
    obtain ⟨w,ew,rw'⟩:=h.get (List.getElem?_eq_getElem hi)
    refine .cons ?_ (vals_idx h fun j hj=>hl j (List.mem_cons_of_mem _ hj))
    have ev:xs.getD i .non=xs[i]:=by rw [List.getD_eq_getElem?_getD,List.getElem?_eq_getElem hi]; rfl
    have eu:us.getD i Value.none=w:=by rw [List.getD_eq_getElem?_getD,ew]; rfl
    show RelV (xs.getD i .non) (us.getD i Value.none)
    rw [ev,eu]
    exact rw'
def FinG (X:Cx) (b:Bool) (vs:List V) (Q:VK) (ks:List V) (H:Hp):Prop:=∃ lt:Nat→Nat→Bool,Srt.Ord lt ∧
  (∀ (pins:List (Addr×Obj)) (σ:St) (s:Shared) (kvs:List Value),Inv X pins σ H s→Vals ks kvs→2≤kvs.length→∃ κ,(∀ Q':SortKind→Shared→Prop,Q' κ s→wpAny (model X.prog X.w) X.A.in1.in1 (keyKind' (List.toArray kvs)) Q' (fun _ _=>False) s) ∧
    ∀ i j (C:Bool→Shared→Prop),i<kvs.length→j<kvs.length→C (lt i j) s→PySem.W.kas_ask X.prog X.w X.A.in1.in1 κ (PySem.W.katRev b kvs) i j C s) ∧
  ∀ p:List Nat,p.Perm (List.range ks.length)→(p.Pairwise fun i j=>lt j i=false)→∀ D,H D=none→Q (.ref D) (upd H D (.lst (PySem.W.katRev b (p.map fun i=>(PySem.W.katRev b vs).getD i .non))))
def FinT (vs:List V) (Q:VK) (ks:List V) (H:Hp):Prop:=∃ (ps:List Addr) (kz:List (List Int)),ks=ps.map V.ref∧TupZ H ps kz ∧
  ∀ idx:List Nat,idx.Perm (List.range kz.length)→(idx.Pairwise fun i j=>lexLt (kz.getD j []) (kz.getD i [])=false)→∀ D,H D=none→Q (.ref D) (upd H D (.lst (idx.map fun i=>vs.getD i .non)))
theorem FinT.g {vs:List V} {Q:VK} {ks:List V} {H:Hp} (h:FinT vs Q ks H):FinG X false vs Q ks H:=by
  obtain ⟨ps,kz,rfl,tz,qf⟩:=h
  have hlp:ps.length=kz.length:=Paired.length tz
  refine ⟨fun i j=>lexLt (kz.getD i []) (kz.getD j []),lex_ord fun i=>kz.getD i [],fun pins σ s kvs J rk h2=>?_,fun p pm up D hD=>qf p (by rw [List.length_map,hlp] at pm; exact pm) up D hD⟩
  have ek:=refs_of rk
  subst ek
  rw [List.length_map] at h2
  have it:∀ i,i<kz.length→∃ p z o us n,ps[i]?=some p∧kz[i]?=some z∧z≠[]∧s.heap.get? p=some o∧o.cls=.type "tuple" ∧ o.data=.seq us.toArray n∧IntsAre us z:=fun i hi=>by
    obtain ⟨p,e1,g1,g2⟩:=VL.Paired.getF tz (List.getElem?_eq_getElem hi)
    obtain ⟨o,us,n,k1,k2,k3,k4⟩:=tup_items J g2
    exact ⟨p,_,o,us,n,e1,List.getElem?_eq_getElem hi,g1,k1,k2,k3,k4⟩
  obtain ⟨fs,kt,fl,ff⟩:=kat_tups (h:=s.heap) (ps:=ps) fun p hp=>by
    obtain ⟨i,hi,rfl⟩:=List.mem_iff_getElem.mp hp
    obtain ⟨p',z,o,us,n,e1,e2,g1,k1,k2,k3,k4⟩:=it i (by omega)
    rw [List.getElem?_eq_getElem hi] at e1
    cases e1
    cases k4 with
    | nil=>exact absurd rfl g1
    | cons x t r=>exact ⟨o,_,n,x,t,_,k1,k2,k3,rfl⟩
  refine ⟨_,fun Q' hq=>PySem.W.kat_kind (T:=.type "int") kt (by omega) (fun v hv=>?_) (by decide) hq,fun i j C hi hj hC=>?_⟩
  · obtain ⟨x,t,rfl⟩:=ff v hv
    exact PySem.W.Looks.of_pure rfl
  · rw [List.length_map] at hi hj
    obtain ⟨p,z,o,us,n,e1,e2,g1,k1,k2,k3,k4⟩:=it i (by omega)
    obtain ⟨p',z',o',us',n',e1',e2',g1',k1',k2',k3',k4'⟩:=it j (by omega)
    have ei:(ps.map Value.ref).getD i Value.none=.ref p:=by rw [List.getD_eq_getElem?_getD,List.getElem?_map,e1]; rfl
    have ej:(ps.map Value.ref).getD j Value.none=.ref p':=by rw [List.getD_eq_getElem?_getD,List.getElem?_map,e1']; rfl
    have zi:kz.getD i []=z:=by rw [List.getD_eq_getElem?_getD,e2]; rfl
    have zj:kz.getD j []=z':=by rw [List.getD_eq_getElem?_getD,e2']; rfl
    unfold PySem.W.kas_ask
    show wpAny _ _ (keyLt' _ ((ps.map Value.ref).getD i Value.none) ((ps.map Value.ref).getD j Value.none)) _ _ _
    rw [ei,ej]
    dsimp only at hC
    rw [zi,zj] at hC
    refine PySem.W.kat_lt k1 k3 k1' k3' ?_
    have l1:=IntsAre.length k4
    have l2:=IntsAre.length k4'
    have lx:=ints_lex (prog:=X.prog) (w:=X.w) (A:=X.A.in1.in1) (s:=s) 0 k4 k4' hC
    rw [← l1,← l2] at lx
    exact lx
theorem sortG_big {b:Bool} {kw:List (Str×Value)} {H:Hp} {s:Shared} {a:Addr} {vs:List V} {Q:VK} (I:Inv X (pins++[(f,o)]) σ H s) (hff:∀ p∈X.pn++pins,p.1≠f) (hf0:X.s₀.heap.objs.size≤f) (L:LamIs X.mg H q params body scope cl o)
    (fr:LFrees X x zs is scope cl) (hh:X.A.handled=none) (hroom:X.A.in1.in1.depth<recursionLimit) (hA:X.A.in1.in1.frames=some X.stack) (hh2:X.A.in1.in1.handled=none)
    (hb:∀ (c:Addr) (ct u:Value),bindArgs (PySem.W.kla_fn "<lambda>" q params body scope cl ((X.mg "__name__").getD .none) (.ref c) ct) ⟨[u],[]⟩=pure [(x,u)])
    (he:∀ f c s H pins,PE (lamCx X (x::zs) q scope cl f c X.A.in1.in1 s H pins) body te)
    (hq:SqL X.K H a vs) (h2:2≤vs.length) (h64:vs.length<64) (h:keysW te (is.map fun i=>(σ[i]?).join) Fin vs [] H) (hg:∀ ks H,ks.length=vs.length→Fin ks H→FinG X b vs Q ks H)
    (ha1:argsOk "sorted" ⟨[.ref a],kw⟩) (ha2:∀ x,argsOk "list.sort" ⟨[.ref x],kw⟩) (ht:∀ x,Builtin.«list.sort» ⟨[.ref x],kw⟩=PyProof.Rows.ksk_tree x (.ref f) b) :
    wpAny (model X.prog X.w) X.A (call (.builtin "sorted") [.ref a] kw) (EP X pins σ Q) X.xe s:=by
  obtain ⟨its,rv,pl,_⟩:=I.list hq
  have hlv:its.length=vs.length:=rv.length.symm
  obtain ⟨m,F⟩:=I.fr
  have fin:(f,o)∈allNews X.base s.heap X.env.locals:=by
    obtain ⟨p1,p2,p3,p4,p5⟩:=I.pin (f,o) (List.mem_append_right _ (List.mem_append_right _ (List.mem_singleton.mpr rfl)))
    refine mem_allNews p3 ?_ p1
    cases eb:X.base.get? f with
    | none=>rfl
    | some y=>exact absurd (Nat.lt_of_lt_of_le (Heap.lt_size eb) (Nat.le_trans I.ok.bsz hf0)) (Nat.lt_irrefl _)
  refine PySem.W.kat_sortedK (vs:=its) (b:=b) (f:=.ref f) F (news_all (h:=s.heap)) pl.isList (by omega) (by omega) ha1 ha2 ht fun D kS e1 h' F' N' hDk hlt=>?_
  have nK:=N' _ List.mem_cons_self
  have nD:=N' _ (List.mem_cons_of_mem _ List.mem_cons_self)
  have fD:f<D:=hlt _ fin
  have gD:s.heap.get? D=none:=by
    cases e:s.heap.get? D with
    | none=>rfl
    | some o=>exact absurd (hlt (D,o) (mem_allNews nD.2.1 nD.2.2 e)) (Nat.lt_irrefl _)
  have gK:s.heap.get? kS=none:=by
    cases e:s.heap.get? kS with
    | none=>rfl
    | some o=>exact absurd (Nat.lt_trans hDk (hlt (kS,o) (mem_allNews nK.2.1 nK.2.2 e))) (Nat.lt_irrefl _)
  have s0D:X.s₀.heap.objs.size≤D:=Nat.le_trans hf0 (Nat.le_of_lt fD)
  have s0K:X.s₀.heap.objs.size≤kS:=Nat.le_trans s0D (Nat.le_of_lt hDk)
  have zD:=I.nil gD
  have zK:=I.nil gK
  have N2:News X.base X.env.locals h' ((kS,seqObj "list" #[] 0)::rest X.base s.heap X.env.locals kS):=fun p hp=>by
    rcases List.mem_cons.mp hp with rfl | hp
    · exact nK
    · exact N' p (List.mem_cons_of_mem _ (List.mem_cons_of_mem _ (List.mem_filter.mp hp).1))
  have I1:Inv X (pins++[(f,o)]) σ H { s with heap:=h',toks:=s.toks }:=I.renew F.ns F' N2 zK.h s0K nK.2.1 zK.cell zK.pin
  have I2:Inv X ((pins++[(f,o),(D,seqObj "list" #[] e1)])++[(kS,seqObj "list" ([]:List Value).toArray 0)]) σ H { s with heap:=h',toks:=s.toks }:=I1.pins_of fun p hp=>by
    rcases List.mem_append.mp hp with hp | hp
    · rcases List.mem_append.mp hp with hp | hp
      · exact I1.pin p (List.mem_append_right _ (List.mem_append_left _ hp))
      · rcases List.mem_cons.mp hp with rfl | hp
        · exact I1.pin _ (List.mem_append_right _ (List.mem_append_right _ (List.mem_singleton.mpr rfl)))
        · cases List.mem_singleton.mp hp
          exact ⟨nD.1,zD.h,nD.2.1,zD.fs,fun v z=>by cases z⟩
    · cases List.mem_singleton.mp hp
      exact ⟨nK.1,zK.h,nK.2.1,zK.fs,fun v z=>by cases z⟩
  have h4:∀ p∈X.pn++(pins++[(f,o),(D,seqObj "list" #[] e1)]),p.1≠kS:=fun p hp=>by
    rcases List.mem_append.mp hp with hp | hp
    · exact zK.pin p (List.mem_append_left _ hp)
    · rcases List.mem_append.mp hp with hp | hp
      · exact zK.pin p (List.mem_append_right _ (List.mem_append_left _ hp))
      · rcases List.mem_cons.mp hp with rfl | hp
        · exact zK.pin _ (List.mem_append_right _ (List.mem_append_right _ (List.mem_singleton.mpr rfl)))
        · cases List.mem_singleton.mp hp
          exact Nat.ne_of_lt hDk
  refine PySem.W.kat_keys_mono (keys_run fr hA hh2 hroom hb he (List.mem_append_right _ List.mem_cons_self) s0K h4 rv .nil I2 F'.ns L h) fun kvs e3 s3 hl3 hfin=>?_
  obtain ⟨ks,H3,J,hm3,rk,fin⟩:=hfin
  have hl3:kvs.length=vs.length:=by rw [hl3,List.length_nil]; omega
  have hlz:=rk.length
  obtain ⟨lt,ord,ask,qf⟩:=hg _ _ (by omega) fin
  obtain ⟨κ,kind,ask⟩:=ask _ _ _ _ J rk (by omega)
  refine kind _ ?_
  show (PySem.W.kas_sort its.length).kasWp (PySem.W.kas_ask _ _ _ _ (PySem.W.katRev b kvs)) _ _
  have hlk:its.length=kvs.length:=by omega
  rw [hlk]
  refine Srt.KOk.wp (lt:=lt) (N:=kvs.length) ask _ (Srt.KOk.mono (fun p hp=>?_) _ (Srt.sort_ok ord (by omega)))
  obtain ⟨pm,up⟩:=hp
  have hlen:p.toList.length=kvs.length:=by rw [pm.length_eq,List.length_range]
  have lt_:∀ i∈p.toList,i<kvs.length:=fun i hi=>List.mem_range.mp (pm.mem_iff.mp hi)
  have upw:p.toList.Pairwise fun i j=>lt j i=false:=by
    rw [List.pairwise_iff_getElem]
    intro i j hi hj hij
    have hu:=up i j (by omega) (by omega)
    have gi:Srt.g p i=p.toList[i]:=by unfold Srt.g; rw [Array.getD_eq_getD_getElem?,Array.getElem?_eq_getElem (by simpa using hi)]; rfl
    have gj:Srt.g p j=p.toList[j]:=by unfold Srt.g; rw [Array.getD_eq_getD_getElem?,Array.getElem?_eq_getElem (by simpa using hj)]; rfl
    rw [gi,gj] at hu
    exact hu
  obtain ⟨p1,p2,p3,p4,p5⟩:=J.pin (kS,seqObj "list" kvs.toArray e3) (List.mem_append_right _ (List.mem_append_right _ (List.mem_singleton.mpr rfl)))
  refine PySem.W.KatFin.intro (J.frM hm3) (news_at p3 nK.2.2 p1) (.head rest_ne) fun h5 c5 F5 N5=>?_
  have cells:∀ x c,X.env.cells.lookup x=some c→c≠kS:=fun x c e z=>by
    obtain ⟨v,o,ho,hd⟩:=J.cell x c e
    rw [z,p1] at ho
    cases ho
    exact p5 v hd
  have J5:Inv X (pins++[(f,o),(D,seqObj "list" #[] e1)]) σ H3 { s3 with heap:=h5,toks:=s3.toks }:=(Inv.unpinned J).renew hm3 F5 N5 p2 s0K p3 cells h4
  obtain ⟨d1,d2,d3,d4,d5⟩:=J5.pin (D,seqObj "list" #[] e1) (List.mem_append_right _ (List.mem_append_right _ (List.mem_cons_of_mem _ (List.mem_singleton.mpr rfl))))
  refine PySem.W.KasFin.intro F5 (news_at d3 nD.2.2 d1) (.head rest_ne) fun h6 c6 F6 N6=>?_
  have J6:Inv X pins σ H3 { s3 with heap:=h5,toks:=s3.toks }:=J5.unpinned
  have cellsD:∀ x c,X.env.cells.lookup x=some c→c≠D:=fun x c e z=>by
    obtain ⟨v,o,ho,hd⟩:=J5.cell x c e
    rw [z,d1] at ho
    cases ho
    exact d5 v hd
  have pinD:∀ p∈X.pn++pins,p.1≠D:=fun p hp=>by
    refine zD.pin p ?_
    rcases List.mem_append.mp hp with hp | hp
    · exact List.mem_append_left _ hp
    · exact List.mem_append_right _ (List.mem_append_left _ hp)
  have J7:Inv X pins σ H3 { s3 with heap:=h6,toks:=s3.toks }:=J6.renew F5.ns F6 N6 d2 s0D d3 cellsD pinD
  have out:Out X pins H3 D:=⟨d2,Heap.get?_none_of_le s0D,d3,cellsD,pinD⟩
  have rvs:=vals_katRev b (vals_idx (vals_katRev b rv) (l:=p.toList) fun i hi=>by rw [PySem.W.kat_len]; have:=lt_ i hi; omega)
  refine ⟨.ref D,upd H3 D (.lst (PySem.W.katRev b (p.toList.map fun i=>(PySem.W.katRev b vs).getD i .non))),J7.track out ?_,rfl,qf p.toList (by rw [hlz]; exact pm) upw D d2⟩
  refine ⟨by rw [PySem.W.kat_len,List.length_map,hlen]; have:=sizeLine_eq; omega,_,c6,rvs,?_⟩
  exact (N6 _ List.mem_cons_self).1
end
end L2
namespace L2
open PySem PySem.Spec PyProof.Rows PySem.Calls
section
open PySem.W
variable {prog:Program} {w:World} {A:Around} {E:Value→Shared→Prop} {s:Shared} {h₀:Heap} {L kS a:Addr} {m:Str→Option Value} {news:List (Addr×Obj)} {vs:List Value}
theorem few_rev {α:Type} (b:Bool) {l:List α} (h:l.length<2):katRev b l=l:=by
  cases b with
  | false=>rfl
  | true =>
    match l,h with
    | [],_=>rfl
    | [_],_=>rfl
    | _::_::_,h=>exact absurd h (by simp only [List.length_cons]; omega)
theorem few_end {b:Bool} {e e1:Nat} {ks:List Value} {P:PySem.Fin→Shared→Prop} (hl:ks.length=vs.length) (h2:vs.length<2)
    (h:KatFin h₀ L m kS a ks e e1 vs (fun s3=>P (.done (.ret .none)) s3) s):wpAny (model prog w) A (ksk_end a b vs.toArray e1 (.ref kS) (List.toArray ks)) P E s:=by
  have step:∀ t:Sem PySem.Fin,wpAny (model prog w) A t P E s→wpAny (model prog w) A (if b=true then (do let _ ← rule "list.sort.reverse"; t) else t) P E s:=by
    intro t ht
    split
    · exact wpAny_bind (wpAny_rule ht)
    · exact ht
  have hn2:vs.toArray.size<2:=by rw [List.size_toArray]; omega
  unfold ksk_end
  try dsimp only
  refine step _ ?_
  rw [if_pos hn2,if_pos hn2,kat_pairs b hl,few_rev b h2,few_rev b (show ks.length<2 by omega)]
  refine wpAny_bind (wpAny_pure (wpAny_bind (m:=StateT.run (pure ()) _) (wpAny_pure ?_)))
  have h':KatFin h₀ L m kS a ks e e1 (katRev b vs) (fun s3=>P (.done (.ret .none)) s3) s:=by rw [few_rev b h2]; exact h
  refine kat_tail (b:=b) (out:=vs) ?_ (by omega) (by omega) rfl h'
  show Array.map (fun x=>x.snd) ((List.toArray ks).zip vs.toArray)=vs.toArray
  apply Array.toList_inj.mp
  rw [Array.toList_map,Array.toList_zip,List.map_snd_zip]
  exact Nat.le_of_eq hl.symm
theorem few_rest {b:Bool} {f:Value} {e1:Nat} {P:PySem.Fin→Shared→Prop} (hk:s.heap.get? kS=some (seqObj "list" #[] 0)) (h2:vs.length<2)
    (h:KatKeys prog w A h₀ L m kS f (fun ks e s'=>KatFin h₀ L m kS a ks e e1 vs (fun s4=>P (.done (.ret .none)) s4) s') vs [] 0 s) :
    wpAny (model prog w) A (ksk_rest a f b vs.toArray e1 (.ref kS)) P E s:=by
  unfold ksk_rest
  refine wpAny_bind (wpAny_rule ?_)
  first
    | rw [List.forIn_toArray]
    | (rw [← Array.forIn_toList]; simp only [List.toList_toArray])
    | rw [← Array.forIn_toList]
  refine wpAny_bind (wpAny_mono (kat_fold (show vs.length<64 by omega) (fun x ks e s' C hz hx=>?_) vs [] 0 s (by simp) hk h) (fun _ s' hd=>?_) fun _ _ x=>x)
  · refine wpAny_bind (wpAny_attempt (wpAny_mono hx (fun k s'' hk=>?_) fun _ _ hF=>hF.elim))
    obtain ⟨news',g,F',N',U,c⟩:=hk
    obtain ⟨pre,post,e0,hg,x1,x2⟩:=U.split
    rw [e0] at N'
    have nk:=N' (kS,seqObj "list" (List.toArray ks) e) (List.mem_append_right _ (.head _))
    have s1:=Heap.SameBut.update s''.heap kS (Obj.mapSeq (·.push k))
    have ea:(List.toArray ks).push k=List.toArray (ks++[k]):=by simp
    obtain ⟨c2,hc2⟩:∃ c2,(s''.heap.update kS (Obj.mapSeq (·.push k))).get? kS=some (seqObj "list" (List.toArray (ks++[k])) c2):=⟨_,by rw [← ea]; exact get?_update_seq nk.1 (·.push k)⟩
    try dsimp only
    refine wpAny_bind (listUpdate_at nk.1 rfl ?_ (by rw [List.size_toArray,sizeLine_eq]; omega) (Nat.le_trans (Nat.le_of_eq (Array.size_push ..)) (by rw [List.size_toArray,sizeLine_eq]; omega)))
    exact wpAny_pure ⟨rfl,k,c2,hc2,c _ c2 (kas_fr F' s1 nk.2.1 nk.2.2) (by rw [hg]; exact news_set N' x1 x2 s1 hc2)⟩
  · obtain ⟨ks,e,hk',hl,fin⟩:=hd
    try dsimp only
    refine wpAny_bind (listItems_at hk' rfl ?_)
    exact few_end hl h2 fin
theorem few_keyed {b:Bool} {f:Value} {n:Nat} {P:PySem.Fin→Shared→Prop} (F:Fr h₀ L s.heap m) (N:News h₀ L s.heap news) (ho:s.heap.get? a=some (seqObj "list" vs.toArray n)) (haL:a≠L) (ha0:h₀.get? a=none) (hna:∀ p∈news,p.1≠a)
    (h2:vs.length<2)
    (h:∀ kS e1 h',Fr h₀ L h' m→News h₀ L h' ((kS,seqObj "list" #[] 0)::(a,seqObj "list" #[] e1)::news)→a<kS→(∀ q∈news,q.1<kS) →
      KatKeys prog w A h₀ L m kS f (fun ks e s'=>KatFin h₀ L m kS a ks e e1 vs (fun s4=>P (.done (.ret .none)) s4) s') vs [] 0 { s with heap:=h' }) :
    wpAny (model prog w) A (ksk_tree a f b) P E s:=by
  have ha:a<s.heap.objs.size:=Heap.lt_size ho
  have s1:=Heap.SameBut.update s.heap a (Obj.mapSeq fun _=>(#[]:Array Value))
  obtain ⟨e1,ho1⟩:∃ e1,(s.heap.update a (Obj.mapSeq fun _=>(#[]:Array Value))).get? a=some (seqObj "list" #[] e1):=⟨_,get?_update_seq ho fun _=>#[]⟩
  have F1:=kas_fr F s1 haL ha0
  have N1:=kas_news N s1 hna
  have hkS:((s.heap.update a (Obj.mapSeq fun _=>(#[]:Array Value))).push (seqObj "tuple" vs.toArray 0)).objs.size=s.heap.objs.size+1:=by rw [size_push',Heap.size_update]
  have hLk:L<((s.heap.update a (Obj.mapSeq fun _=>(#[]:Array Value))).push (seqObj "tuple" vs.toArray 0)).objs.size:=(F1.push _).ns.lt
  unfold ksk_tree
  refine wpAny_bind (listItems_at ho rfl ?_)
  refine wpAny_bind (listUpdate_at ho rfl ?_ (by rw [List.size_toArray,sizeLine_eq]; omega) (Nat.zero_le _))
  refine wpAny_bind (seqEpoch_at ho1 rfl ?_)
  refine wpAny_bind (wpAny_newTuple ?_ (by show vs.length≤_; rw [sizeLine_eq]; omega))
  refine wpAny_bind (wpAny_newList ?_ (Nat.zero_le _))
  refine wpAny_holding ?_
  refine few_rest (s:={ s with heap:=((s.heap.update a (Obj.mapSeq fun _=>(#[]:Array Value))).push (seqObj "tuple" vs.toArray 0)).push (seqObj "list" #[] 0) }) (kS:=((s.heap.update a (Obj.mapSeq fun _=>(#[]:Array Value))).push (seqObj "tuple" vs.toArray 0)).objs.size)
    (Heap.get?_push_size _ rfl) h2 (h _ e1 _ ((F1.push _).push _) (fun p hp=>?_) (by rw [hkS]; exact Nat.lt_succ_of_lt ha) fun q hq=>by rw [hkS]; exact Nat.lt_succ_of_lt (Heap.lt_size (N q hq).1))
  rcases List.mem_cons.mp hp with rfl | hp
  · exact ⟨Heap.get?_push_size _ rfl,Nat.ne_of_gt hLk,Heap.get?_none_of_le (Nat.le_trans F.above (Nat.le_of_lt hLk))⟩
  · rcases List.mem_cons.mp hp with rfl | hp
    · exact ⟨Heap.get?_push_of_some _ (Heap.get?_push_of_some _ ho1),haL,ha0⟩
    · exact ⟨Heap.get?_push_of_some _ (Heap.get?_push_of_some _ (N1 p hp).1),(N1 p hp).2⟩
theorem few_sortedK {l:Addr} {b:Bool} {f:Value} {kw:List (Str×Value)} {Q:Value→Shared→Prop} (F:Fr h₀ L s.heap m) (N:News h₀ L s.heap news) (hl:s.heap.IsList l vs.toArray) (h2:vs.length<2)
    (ha1:argsOk "sorted" ⟨[.ref l],kw⟩) (ha2:∀ x,argsOk "list.sort" ⟨[.ref x],kw⟩) (ht:∀ x,Builtin.«list.sort» ⟨[.ref x],kw⟩=ksk_tree x f b)
    (h:∀ D kS e1 h',Fr h₀ L h' m→News h₀ L h' ((kS,seqObj "list" #[] 0)::(D,seqObj "list" #[] e1)::news)→D<kS→(∀ q∈news,q.1<D) →
      KatKeys prog w A.in1.in1 h₀ L m kS f (fun ks e s'=>KatFin h₀ L m kS D ks e e1 vs (fun s4=>Q (.ref D) s4) s') vs [] 0 { s with heap:=h' }) :
    wpAny (model prog w) A (call (.builtin "sorted") [.ref l] kw) Q E s:=by
  refine call_function_entry_kw kind_sorted plain_sorted entry_sorted ha1 ?_
  unfold Builtin.«sorted»
  refine wpAny_bind (m:=checkCount "sorted" 1 1 _) (wpAny_pure ?_)
  refine wpAny_bind (collect_list hl ?_ (by rw [sizeLine_eq]; omega))
  refine wpAny_bind (wpAny_newList ?_ (by rw [sizeLine_eq]; omega))
  have hsz:((s.heap.push (seqObj "list" #[] 0)).update s.heap.objs.size (Obj.mapSeq (·++vs.toArray))).objs.size=s.heap.objs.size+1:=by
    rw [Heap.size_update,size_push']
  have hoL:(((s.heap.push (seqObj "list" #[] 0)).update s.heap.objs.size (Obj.mapSeq (·++vs.toArray))).push (seqObj "list" vs.toArray 0)).get? (s.heap.objs.size+1)=some (seqObj "list" vs.toArray 0):=by
    rw [← hsz]; exact Heap.get?_push_size _ rfl
  have keep:∀ b o,s.heap.get? b=some o→(((s.heap.push (seqObj "list" #[] 0)).update s.heap.objs.size (Obj.mapSeq (·++vs.toArray))).push (seqObj "list" vs.toArray 0)).get? b=some o:=fun b o q=>by
    have hlt:b<s.heap.objs.size:=Heap.lt_size q
    rw [Heap.get?_push_ne _ _ _ (by rw [hsz]; exact Nat.ne_of_lt (Nat.lt_succ_of_lt hlt)),Heap.get?_update_ne _ _ _ _ (Nat.ne_of_lt hlt),Heap.get?_push_ne _ _ _ (Nat.ne_of_lt hlt)]
    exact q
  have hL:L<s.heap.objs.size:=F.ns.lt
  show wpAny _ _ _ _ _ { s with heap:=((s.heap.push (seqObj "list" #[] 0)).update s.heap.objs.size (Obj.mapSeq (·++vs.toArray))).push (seqObj "list" vs.toArray 0) }
  rw [hsz]
  refine wpAny_bind (wpAny_holding (wpAny_call_entry_kw slot_list_sort ⟨_,hoL,rfl⟩ entry_list_sort ?body (ha2 _)))
  case body =>
    have ht':=ht (s.heap.objs.size+1)
    show wpAny (model prog w) A.in1.in1 (Builtin.«list.sort» ⟨[.ref (s.heap.objs.size+1)],kw⟩) _ _ _
    rw [ht']
    refine few_keyed (s:={ s with heap:=((s.heap.push (seqObj "list" #[] 0)).update s.heap.objs.size (Obj.mapSeq (·++vs.toArray))).push (seqObj "list" vs.toArray 0) })
      (F.kept keep) (N.grown keep) hoL (Nat.ne_of_gt (Nat.lt_succ_of_lt hL)) (Heap.get?_none_of_le (Nat.le_trans F.above (Nat.le_succ_of_le (Nat.le_of_lt hL))))
      (fun p hp=>Nat.ne_of_lt (Nat.lt_succ_of_lt (Heap.lt_size (N p hp).1))) h2 fun kS e1 h' F' N' l0 l1=>?_
    refine kat_keys_mono (h _ kS e1 h' F' N' l0 fun q hq=>Nat.lt_succ_of_lt (Heap.lt_size (N q hq).1)) fun ks e s' hl' hd=>?_
    exact hd.mono fun s4 hq=>⟨_,rfl,wpAny_pure ⟨_,rfl,hq⟩⟩
end
section
variable {X:Cx} {pins:List (Addr×Obj)} {σ:St} {m:Str→Option Value} {kS f:Addr} {o:Obj} {q:Str} {params:Arguments} {body:Expr} {scope:Scope} {cl:List (Str×Addr)} {A:Around} {x:Str} {zs:List Str} {is:List Nat} {te:TE} {Fin:List V→Hp→Prop}
theorem sortG_few {b:Bool} {kw:List (Str×Value)} {H:Hp} {s:Shared} {a:Addr} {vs:List V} {Q:VK} (I:Inv X (pins++[(f,o)]) σ H s) (hff:∀ p∈X.pn++pins,p.1≠f) (hf0:X.s₀.heap.objs.size≤f) (L:LamIs X.mg H q params body scope cl o)
    (fr:LFrees X x zs is scope cl) (hh:X.A.handled=none) (hroom:X.A.in1.in1.depth<recursionLimit) (hA:X.A.in1.in1.frames=some X.stack) (hh2:X.A.in1.in1.handled=none)
    (hb:∀ (c:Addr) (ct u:Value),bindArgs (PySem.W.kla_fn "<lambda>" q params body scope cl ((X.mg "__name__").getD .none) (.ref c) ct) ⟨[u],[]⟩=pure [(x,u)])
    (he:∀ f c s H pins,PE (lamCx X (x::zs) q scope cl f c X.A.in1.in1 s H pins) body te)
    (hq:SqL X.K H a vs) (h2:vs.length<2) (h:keysW te (is.map fun i=>(σ[i]?).join) Fin vs [] H) (hg:∀ ks H,ks.length=vs.length→Fin ks H→FinG X b vs Q ks H)
    (ha1:argsOk "sorted" ⟨[.ref a],kw⟩) (ha2:∀ x,argsOk "list.sort" ⟨[.ref x],kw⟩) (ht:∀ x,Builtin.«list.sort» ⟨[.ref x],kw⟩=PyProof.Rows.ksk_tree x (.ref f) b) :
    wpAny (model X.prog X.w) X.A (call (.builtin "sorted") [.ref a] kw) (EP X pins σ Q) X.xe s:=by
  obtain ⟨its,rv,pl,_⟩:=I.list hq
  have hlv:its.length=vs.length:=rv.length.symm
  obtain ⟨m,F⟩:=I.fr
  have fin:(f,o)∈allNews X.base s.heap X.env.locals:=by
    obtain ⟨p1,p2,p3,p4,p5⟩:=I.pin (f,o) (List.mem_append_right _ (List.mem_append_right _ (List.mem_singleton.mpr rfl)))
    refine mem_allNews p3 ?_ p1
    cases eb:X.base.get? f with
    | none=>rfl
    | some y=>exact absurd (Nat.lt_of_lt_of_le (Heap.lt_size eb) (Nat.le_trans I.ok.bsz hf0)) (Nat.lt_irrefl _)
  refine few_sortedK (b:=b) (vs:=its) (f:=.ref f) F (news_all (h:=s.heap)) pl.isList (by omega) ha1 ha2 ht fun D kS e1 h' F' N' hDk hlt=>?_
  have nK:=N' _ List.mem_cons_self
  have nD:=N' _ (List.mem_cons_of_mem _ List.mem_cons_self)
  have fD:f<D:=hlt _ fin
  have gD:s.heap.get? D=none:=by
    cases e:s.heap.get? D with
    | none=>rfl
    | some o=>exact absurd (hlt (D,o) (mem_allNews nD.2.1 nD.2.2 e)) (Nat.lt_irrefl _)
  have gK:s.heap.get? kS=none:=by
    cases e:s.heap.get? kS with
    | none=>rfl
    | some o=>exact absurd (Nat.lt_trans hDk (hlt (kS,o) (mem_allNews nK.2.1 nK.2.2 e))) (Nat.lt_irrefl _)
  have s0D:X.s₀.heap.objs.size≤D:=Nat.le_trans hf0 (Nat.le_of_lt fD)
  have s0K:X.s₀.heap.objs.size≤kS:=Nat.le_trans s0D (Nat.le_of_lt hDk)
  have zD:=I.nil gD
  have zK:=I.nil gK
  have N2:News X.base X.env.locals h' ((kS,seqObj "list" #[] 0)::rest X.base s.heap X.env.locals kS):=fun p hp=>by
    rcases List.mem_cons.mp hp with rfl | hp
    · exact nK
    · exact N' p (List.mem_cons_of_mem _ (List.mem_cons_of_mem _ (List.mem_filter.mp hp).1))
  have I1:Inv X (pins++[(f,o)]) σ H { s with heap:=h',toks:=s.toks }:=I.renew F.ns F' N2 zK.h s0K nK.2.1 zK.cell zK.pin
  have I2:Inv X ((pins++[(f,o),(D,seqObj "list" #[] e1)])++[(kS,seqObj "list" ([]:List Value).toArray 0)]) σ H { s with heap:=h',toks:=s.toks }:=I1.pins_of fun p hp=>by
    rcases List.mem_append.mp hp with hp | hp
    · rcases List.mem_append.mp hp with hp | hp
      · exact I1.pin p (List.mem_append_right _ (List.mem_append_left _ hp))
      · rcases List.mem_cons.mp hp with rfl | hp
        · exact I1.pin _ (List.mem_append_right _ (List.mem_append_right _ (List.mem_singleton.mpr rfl)))
        · cases List.mem_singleton.mp hp
          exact ⟨nD.1,zD.h,nD.2.1,zD.fs,fun v z=>by cases z⟩
    · cases List.mem_singleton.mp hp
      exact ⟨nK.1,zK.h,nK.2.1,zK.fs,fun v z=>by cases z⟩
  have h4:∀ p∈X.pn++(pins++[(f,o),(D,seqObj "list" #[] e1)]),p.1≠kS:=fun p hp=>by
    rcases List.mem_append.mp hp with hp | hp
    · exact zK.pin p (List.mem_append_left _ hp)
    · rcases List.mem_append.mp hp with hp | hp
      · exact zK.pin p (List.mem_append_right _ (List.mem_append_left _ hp))
      · rcases List.mem_cons.mp hp with rfl | hp
        · exact zK.pin _ (List.mem_append_right _ (List.mem_append_right _ (List.mem_singleton.mpr rfl)))
        · cases List.mem_singleton.mp hp
          exact Nat.ne_of_lt hDk
  refine PySem.W.kat_keys_mono (keys_run fr hA hh2 hroom hb he (List.mem_append_right _ List.mem_cons_self) s0K h4 rv .nil I2 F'.ns L h) fun kvs e3 s3 hl3 hfin=>?_
  obtain ⟨ks,H3,J,hm3,rk,fin⟩:=hfin
  have hl3:kvs.length=vs.length:=by rw [hl3,List.length_nil]; omega
  have hlz:=rk.length
  obtain ⟨lt,ord,ask,qf⟩:=hg _ _ (by omega) fin
  obtain ⟨p1,p2,p3,p4,p5⟩:=J.pin (kS,seqObj "list" kvs.toArray e3) (List.mem_append_right _ (List.mem_append_right _ (List.mem_singleton.mpr rfl)))
  refine PySem.W.KatFin.intro (J.frM hm3) (news_at p3 nK.2.2 p1) (.head rest_ne) fun h5 c5 F5 N5=>?_
  have cells:∀ x c,X.env.cells.lookup x=some c→c≠kS:=fun x c e z=>by
    obtain ⟨v,o,ho,hd⟩:=J.cell x c e
    rw [z,p1] at ho
    cases ho
    exact p5 v hd
  have J5:Inv X (pins++[(f,o),(D,seqObj "list" #[] e1)]) σ H3 { s3 with heap:=h5,toks:=s3.toks }:=(Inv.unpinned J).renew hm3 F5 N5 p2 s0K p3 cells h4
  obtain ⟨d1,d2,d3,d4,d5⟩:=J5.pin (D,seqObj "list" #[] e1) (List.mem_append_right _ (List.mem_append_right _ (List.mem_cons_of_mem _ (List.mem_singleton.mpr rfl))))
  refine PySem.W.KasFin.intro F5 (news_at d3 nD.2.2 d1) (.head rest_ne) fun h6 c6 F6 N6=>?_
  have J6:Inv X pins σ H3 { s3 with heap:=h5,toks:=s3.toks }:=J5.unpinned
  have cellsD:∀ x c,X.env.cells.lookup x=some c→c≠D:=fun x c e z=>by
    obtain ⟨v,o,ho,hd⟩:=J5.cell x c e
    rw [z,d1] at ho
    cases ho
    exact d5 v hd
  have pinD:∀ p∈X.pn++pins,p.1≠D:=fun p hp=>by
    refine zD.pin p ?_
    rcases List.mem_append.mp hp with hp | hp
    · exact List.mem_append_left _ hp
    · exact List.mem_append_right _ (List.mem_append_left _ hp)
  have J7:Inv X pins σ H3 { s3 with heap:=h6,toks:=s3.toks }:=J6.renew F5.ns F6 N6 d2 s0D d3 cellsD pinD
  have out:Out X pins H3 D:=⟨d2,Heap.get?_none_of_le s0D,d3,cellsD,pinD⟩
  have er:PySem.W.katRev b ((List.range ks.length).map fun i=>(PySem.W.katRev b vs).getD i V.non)=vs:=by
    have e:(List.range ks.length).map (fun i=>vs.getD i V.non)=vs:=by
      rw [hlz,hl3]
      refine List.ext_getElem (by simp) fun i h1 h2=>?_
      simp [h2]
    rw [few_rev b h2,e,few_rev b h2]
  refine ⟨.ref D,upd H3 D (.lst vs),J7.track out ?_,rfl,?_⟩
  · refine ⟨by have:=sizeLine_eq; omega,its,c6,rv,?_⟩
    exact (N6 _ List.mem_cons_self).1
  · have:=qf (List.range ks.length) (List.Perm.refl _) ?_ D d2
    · rw [er] at this; exact this
    · have hn:ks.length<2:=by omega
      match ks.length,hn with
      | 0,_=>exact .nil
      | 1,_=>exact .cons (fun _ h=>by cases h) .nil
      | n+2,h=>exact absurd h (by omega)
theorem sortG_run {b:Bool} {kw:List (Str×Value)} {H:Hp} {s:Shared} {a:Addr} {vs:List V} {Q:VK} {k:Nat} (I:Inv X (pins++[(f,o)]) σ H s) (hff:∀ p∈X.pn++pins,p.1≠f) (hf0:X.s₀.heap.objs.size≤f) (L:LamIs X.mg H q params body scope cl o)
    (fr:LFrees X x zs is scope cl) (hr:Room k X.A) (hc:X.calm=true)
    (hb:∀ (c:Addr) (ct u:Value),bindArgs (PySem.W.kla_fn "<lambda>" q params body scope cl ((X.mg "__name__").getD .none) (.ref c) ct) ⟨[u],[]⟩=pure [(x,u)])
    (he:∀ f c s H pins,PE (lamCx X (x::zs) q scope cl f c X.A.in1.in1 s H pins) body te)
    (hq:SqL X.K H a vs) (h64:vs.length<64) (h:keysW te (is.map fun i=>(σ[i]?).join) Fin vs [] H) (hg:∀ ks H,ks.length=vs.length→Fin ks H→FinG X b vs Q ks H)
    (ha1:argsOk "sorted" ⟨[.ref a],kw⟩) (ha2:∀ x,argsOk "list.sort" ⟨[.ref x],kw⟩) (ht:∀ x,Builtin.«list.sort» ⟨[.ref x],kw⟩=PyProof.Rows.ksk_tree x (.ref f) b) :
    wpAny (model X.prog X.w) X.A (call (.builtin "sorted") [.ref a] kw) (EP X pins σ Q) X.xe s:=by
  have room:X.A.in1.in1.depth<recursionLimit:=by
    have:=hr.dp
    show X.A.depth < _
    omega
  have hh:=I.ok.hd hc
  by_cases h2:2≤vs.length
  · exact sortG_big I hff hf0 L fr hh room I.ok.frames hh hb he hq h2 h64 h hg ha1 ha2 ht
  · exact sortG_few I hff hf0 L fr hh room I.ok.frames hh hb he hq (by omega) h hg ha1 ha2 ht
def tSortK (K:PySem.W.Frag) (P:Addr) (q:Str) (tl te:TE) (is:List Nat):TE:=fun σ H Q=>tl σ H fun v H1=>∃ (a:Addr) (vs:List V) (ps:Array Value) (t:Tok),v=.ref a∧SqL K H1 a vs∧vs.length<64∧H1 P=some (.tbl ps)∧ps[0]?=some (.str q t) ∧
  ∀ H2,Grow H1 H2→keysW te (is.map fun i=>(σ[i]?).join) (FinT vs Q) vs [] H2
theorem pe_sortK {K:PySem.W.Frag} {c P:Addr} {l:Expr} {tl:TE} {p lpos kpos cpos:Pos} {k:Nat} (hK:X.K=K) (lo:LamOk X c P) (hr:Room k X.A) (hc:X.calm=true) (hg:Gl X "sorted") (hm:X.mg "sorted" = none) (hl:PE X l tl) (fr:LFrees X x zs is scope cl)
    (hq:X.env.qual ++ "<lambda>" = q) (hcl:closureFor scope X.env=pure cl)
    (he:∀ f c s H pins,PE (lamCx X (x::zs) q scope cl f c X.A.in1.in1 s H pins) body te)
    (hdef:defaultsOf params X.env=([],[]):=by rfl)
    (hb:∀ (c:Addr) (ct u:Value),bindArgs (PySem.W.kla_fn "<lambda>" q params body scope cl ((X.mg "__name__").getD .none) (.ref c) ct) ⟨[u],[]⟩=pure [(x,u)]:=by intro _ _ _; rfl)
    (hst:starEach [l] X.env=[(false,eval l X.env)]:=by rfl) (hv:bootBuiltins "sorted" = some (.builtin "sorted"):=by rfl) :
    PE X (.Call (.Name "sorted" p) [l] [⟨some "key", .Lambda params body scope lpos,kpos⟩] cpos) (tSortK K P q tl te is):=by
  subst hK
  intro pins s σ H Q I h
  refine wpAny_Call_Name_kw (ld_blt I hg hm hv ?_ (by decide) (by decide))
  refine PyProof.Rows.callWith_kw (e:=l) (rest:=[]) ?_ (by rw [hst]; rfl) (by rw [hst]; rfl) rfl rfl
  have ha:=pa_cons hl pa_nil (hs:=by rw [hst]; rfl)
  refine thn (ha cpos pins s σ H (fun xs H1=>match xs with
    | [v]=>∃ (a:Addr) (vs:List V) (ps:Array Value) (t:Tok),v=.ref a∧SqL X.K H1 a vs∧vs.length<64∧H1 P=some (.tbl ps)∧ps[0]?=some (.str q t)∧∀ H2,Grow H1 H2→keysW te (is.map fun i=>(σ[i]?).join) (FinT vs Q) vs [] H2
    | _=>False) I h) fun us s1 ⟨vs0,H1,I1,r1,q1⟩=>?_
  match vs0,q1 with
  | [v],q1 =>
  obtain ⟨a,vs,ps,t,rfl,hsq,h64,hP,h0,hw⟩:=q1
  cases r1 with
  | cons r1 r2 =>
  cases r2
  cases (show _=Value.ref a from r1)
  show wpAny _ _ (evalAll [(do let v ← eval (.Lambda params body scope lpos) X.env; standAt cpos; pure v)]) _ _ s1
  refine wpAny_evalAll_cons (wpAny_bind (thn (lam_make lo I1 hP h0 hq hcl hdef) fun u s2 ⟨f,o,H2,eu,I2,gr,pf,s0f,L⟩=>wpAny_bind (wpAny_standAt (wpAny_pure (wpAny_evalAll_nil ?_)))))
  subst eu
  have hs2:SqL X.K H2 a vs:=by
    rcases hsq with (z | ⟨o,z⟩) | z
    · exact .inl (.inl (gr _ _ z))
    · exact .inl (.inr ⟨o,gr _ _ z⟩)
    · exact .inr z
  exact sortG_run I2 pf s0f L fr hr hc hb he hs2 h64 (hw H2 gr) (fun _ _ hl h=>h.g) (PyProof.Rows.ksk_s1 _ _) (fun _=>PyProof.Rows.ksk_l1 _ _) (fun x=>PyProof.Rows.ksk_t1 f x)
end
end L2
namespace VL
open PySem L2
open Classical
noncomputable section
variable [Tabs] {K:PySem.W.Frag}
def kR (cs:List Nat) (ρ:Rho) (d:D):Rho:=(r0 1 cs ρ).set 0 (.pu d)
def srtBy (kf:D→List Int) (ds:List D):List D:=ds.mergeSort fun x y=>!L2.lexLt (kf y) (kf x)
omit [Tabs] in
theorem srtBy_perm (kf:D→List Int) (ds:List D):(srtBy kf ds).Perm ds:=List.mergeSort_perm _ _
omit [Tabs] in
theorem srtBy_up (kf:D→List Int) (ds:List D):(srtBy kf ds).Pairwise fun a b=>L2.lexLt (kf b) (kf a)=false:=by
  have h:=List.pairwise_mergeSort (le:=fun x y=>!L2.lexLt (kf y) (kf x)) (fun a b c h1 h2=>by
    rw [Bool.not_eq_true'] at h1 h2 ⊢
    exact lex_tr _ _ _ h1 h2) (fun a b=>by
    cases e:L2.lexLt (kf b) (kf a) with
    | false=>rfl
    | true=>simp [lex_as _ _ e]) ds
  exact h.imp fun h=>by simpa using h
omit [Tabs] in
theorem nd_key {kf:D→List Int}:∀ {ds:List D},(ds.map kf).Nodup→∀ {a b:D},a∈ds→b∈ds→kf a=kf b→a=b
  | d::ds,h,a,b,ha,hb,e=>by
    rw [List.map_cons] at h
    obtain ⟨h1,h2⟩:=List.nodup_cons.mp h
    rcases List.mem_cons.mp ha with ea | ha2
    · rcases List.mem_cons.mp hb with eb | hb2
      · rw [ea,eb]
      · exact absurd (show kf d∈ds.map kf from List.mem_map.mpr ⟨b,hb2,by rw [← e,ea]⟩) h1
    · rcases List.mem_cons.mp hb with eb | hb2
      · exact absurd (show kf d∈ds.map kf from List.mem_map.mpr ⟨a,ha2,by rw [e,eb]⟩) h1
      · exact nd_key h2 ha2 hb2 e
omit [Tabs] in
theorem srtBy_uniq {kf kg:D→List Int} {xs ds:List D} (hk:∀ d∈ds,kf d=kg d) (hn:(ds.map kf).Nodup) (p:xs.Perm ds) (h:xs.Pairwise fun a b=>L2.lexLt (kg b) (kg a)=false):xs=srtBy kf ds:=by
  refine List.Perm.eq_of_pairwise (le:=fun a b=>L2.lexLt (kf b) (kf a)=false) (fun a b ha hb h1 h2=>nd_key hn (p.mem_iff.mp ha) ((srtBy_perm kf ds).mem_iff.mp hb) (lex_eq _ _ h2 h1)) ?_ (srtBy_up kf ds) (p.trans (srtBy_perm kf ds).symm)
  refine List.Pairwise.imp_of_mem (fun {a b} ha hb z=>?_) h
  rw [hk a (p.mem_iff.mp ha),hk b (p.mem_iff.mp hb)]
  exact z
noncomputable def dSortK (cs:List Nat) (a e:DE):Rho→Option (List D):=fun ρ=>match asL a ρ with
  | some ds=>if h:∃ kf:D→List Int,(∀ d∈ds,e (kR cs ρ d)=some (tupD (kf d))∧kf d≠[])∧(ds.map kf).Nodup∧ds.length<64 then some (srtBy h.choose ds) else none
  | none=>none
omit [Tabs] in
theorem dSortK_of {cs:List Nat} {a e:DE} {ρ:Rho} {ds:List D} (kf:D→List Int) (h:asL a ρ=some ds) (hk:∀ d∈ds,e (kR cs ρ d)=some (tupD (kf d))∧kf d≠[]) (hn:(ds.map kf).Nodup) (hl:ds.length<64):dSortK cs a e ρ=some (srtBy kf ds):=by
  have hh:∃ kf:D→List Int,(∀ d∈ds,e (kR cs ρ d)=some (tupD (kf d))∧kf d≠[])∧(ds.map kf).Nodup∧ds.length<64:=⟨kf,hk,hn,hl⟩
  unfold dSortK
  rw [h]
  show (if h:∃ kf:D→List Int,(∀ d∈ds,e (kR cs ρ d)=some (tupD (kf d))∧kf d≠[])∧(ds.map kf).Nodup∧ds.length<64 then some (srtBy h.choose ds) else none)=_
  rw [dif_pos hh]
  refine congrArg some (srtBy_uniq (kg:=hh.choose) (fun d hd=>?_) hn (srtBy_perm _ _) (srtBy_up _ _))
  have h1:=(hk d hd).1
  rw [(hh.choose_spec.1 d hd).1] at h1
  exact (tupD_inj _ _ (Option.some.inj h1)).symm
omit [Tabs] in
theorem dSortK_some {cs:List Nat} {a e:DE} {ρ:Rho} {es:List D} (h:dSortK cs a e ρ=some es):∃ (ds:List D) (kf:D→List Int),asL a ρ=some ds∧(∀ d∈ds,e (kR cs ρ d)=some (tupD (kf d))∧kf d≠[])∧(ds.map kf).Nodup∧ds.length<64∧es=srtBy kf ds:=by
  unfold dSortK at h
  split at h
  · rename_i ds e1
    split at h
    · rename_i hh
      cases h
      exact ⟨ds,hh.choose,e1,hh.choose_spec.1,hh.choose_spec.2.1,hh.choose_spec.2.2,rfl⟩
    · cases h
  · cases h
theorem isl_idx {H:Hp} {T:Addr→Prop} {vs:List V} {ds:List D} (h:IsL K H T vs ds):∀ {idx:List Nat},(∀ i∈idx,i<ds.length)→IsL K H T (idx.map fun i=>vs.getD i .non) (idx.map fun i=>ds.getD i .non)
  | [],_=>.nil
  | i::idx,hl=>by
    have hi:=hl i List.mem_cons_self
    obtain ⟨v,e1,i1⟩:=h.get (List.getElem?_eq_getElem hi)
    refine .cons ?_ (isl_idx h fun j hj=>hl j (List.mem_cons_of_mem _ hj))
    have ev:vs.getD i .non=v:=by rw [List.getD_eq_getElem?_getD,e1]; rfl
    have ed:ds.getD i .non=ds[i]:=by rw [List.getD_eq_getElem?_getD,List.getElem?_eq_getElem hi]; rfl
    show Is K H T (vs.getD i .non) (ds.getD i .non)
    rw [ev,ed]
    exact i1
theorem sf_sortK {P:Addr} {q:Str} {cs:List Nat} {tl te:TE} {a e:DE} (hP:(P,q)∈Tabs.ts) (ha:SemI K tl a) (he:SemI K te e):SemF K (tSortK K P q tl te cs) (dSortK cs a e):=fun {B Z os ρ σ H Q es} f qq k=>by
  obtain ⟨ds,kf,e0,hk,hn,hl,rfl⟩:=dSortK_some qq
  obtain ⟨d0,e0,ed⟩:=asL_some e0
  show tl σ H _
  refine ha f e0 fun v H1 s1 i1=>?_
  obtain ⟨p,vs,rfl,hlv,hln,hr⟩:=i1.seq ed
  obtain ⟨hq,il⟩:=hr H1 _ Kp.refl
  have f1:=f.grow s1
  obtain ⟨t,eP⟩:=f1.tabH _ hP
  refine ⟨p,vs,_,t,rfl,hq,by omega,eP,rfl,fun H2 gr=>?_⟩
  have key:∀ (r:List V) (dr dd:List D) (ps:List Addr) (H3:Hp),Same H1 H3→IsL K H1 (tot Z os) r dr→dd++dr=ds→TupZ H3 ps (dd.map kf)→keysW te (cs.map fun i=>(σ[i]?).join) (FinT vs Q) r (ps.map V.ref) H3:=by
    intro r
    induction r with
    | nil =>
      intro dr dd ps H3 s3 il3 hd tz
      cases il3
      rw [List.append_nil] at hd
      subst hd
      refine ⟨ps,dd.map kf,rfl,tz,fun idx pm up Dn hD=>?_⟩
      rw [List.length_map] at pm
      have lt_:∀ i∈idx,i<dd.length:=fun i hi=>List.mem_range.mp (pm.mem_iff.mp hi)
      have ex:idx.map (fun i=>dd.getD i .non)=srtBy kf dd:=by
        refine srtBy_uniq (kg:=kf) (fun _ _=>rfl) hn ?_ ?_
        · have:=pm.map fun i=>dd.getD i D.non
          have er:(List.range dd.length).map (fun i=>dd.getD i D.non)=dd:=by
            refine List.ext_getElem (by simp) fun i h1 h2=>?_
            simp [h2]
          rw [er] at this
          exact this
        · rw [List.pairwise_map]
          refine List.Pairwise.imp_of_mem (fun {i j} hi hj z=>?_) up
          have gi:∀ i,i<dd.length→(dd.map kf).getD i []=kf (dd.getD i .non):=fun i hi=>by
            rw [List.getD_eq_getElem?_getD,List.getElem?_map,List.getElem?_eq_getElem hi,List.getD_eq_getElem?_getD,List.getElem?_eq_getElem hi]; rfl
          rw [gi _ (lt_ i hi),gi _ (lt_ j hj)] at z
          exact z
      have hs:sizeLine=16777216:=sizeLine_eq
      have il4:=(isl_idx ((hr H1 _ Kp.refl).2.same s3) (idx:=idx) lt_)
      rw [ex] at il4
      exact k Dn _ _ ((s1.trans s3).trans (same_new hD)) (Same.free (s1.trans s3) hD) upd_same (by rw [List.length_map,pm.length_eq,List.length_range]; omega) (il4.kp (kp_new hD))
    | cons v r ih =>
      intro dr dd ps H3 s3 il3 hd tz
      cases il3 with
      | @cons _ d _ dr' iv ir =>
        have hdm:d∈ds:=by rw [← hd]; exact List.mem_append_right _ List.mem_cons_self
        have ef:=blockFrZ (k:=1) (cs:=cs) f1 s3 (W:=tot Z os) (fun a z=>let ⟨o,e⟩:=f1.tin a z; ⟨o,s3 _ _ e⟩) (Kp.same s3)
        have hg:SemG K true (gName 0) (gN true 0):=sg_name 0
        have er:ER K true H1 H3 (tot (tot Z os) fun _=>[]) v d:=Is.kp (Kp.less fun a z=>z.elim id fun ⟨_,w⟩=>by cases w) (iv.same s3)
        refine hg (Q:=fun σ2 H2=>te σ2 H2 fun k H'=>Grow H3 H'∧keysW te (cs.map fun i=>(σ[i]?).join) (FinT vs Q) r (ps.map V.ref++[k]) H') ef er (show gN true 0 d (r0 1 cs ρ)=some (kR cs ρ d) from rfl) fun os1 σ1 fr1 _=>?_
        refine he fr1 (hk d hdm).1 fun u H4 s4 i4=>⟨s4,?_⟩
        obtain ⟨p4,us,rfl,_,hr4,_,iu⟩:=(show Is K H4 _ u (.tup ((kf d).map D.int)) from i4).isTup
        have eu:=IsL.ints iu
        subst eu
        have em:ps.map V.ref++[V.ref p4]=(ps++[p4]).map V.ref:=by rw [List.map_append]; rfl
        rw [em]
        refine ih dr' (dd++[d]) (ps++[p4]) H4 (s3.trans s4) ir (by rw [List.append_assoc]; exact hd) ?_
        rw [List.map_append]
        exact Paired.append (Paired.mono tz fun p z _ hz=>⟨hz.1,s4 _ _ hz.2⟩) (.cons ⟨(hk d hdm).2,hr4⟩ .nil)
  exact key vs ds [] [] H2 gr il rfl .nil
end
end VL
namespace L2
open PySem PySem.Spec PyProof.Rows
def tabH (ts:List (Addr×Str)):Hp:=fun b=>(ts.lookup b).map fun q=>.tbl #[.str q 0]
theorem law_callT {P:Program} {w:World} {K:PySem.W.Frag} {mg mb:Str→Option Value} {CX:CXT} {k:Nat} {fa a:Addr} {fd:FuncData} {x:Str} {sp:Sp} {s₁:Shared} {vs:List Value} {ns:List Int} (ts:List (Addr×Str))
    (KX:K.In s₁.heap) (hns:s₁.heap.Ns mainGlobals mg) (hb:s₁.heap.Ns builtinsNs mb) (hbb:∀ x:Str,x ≠ "__name__" → mb x=bootBuiltins x) (hlim:s₁.heap.NoLimit) (hg:s₁.gens=#[]) (hbm:BmOk mg s₁.heap)
    (hts:∀ p q,ts.lookup p=some q→s₁.heap.get? p=some (PySem.W.tabObj #[])∧K.lookup p=none∧∃ c,PySem.W.CodeHd s₁.heap c p)
    (ha:s₁.heap.get? a=some { cls:=.type "list", data:=.seq vs.toArray }) (hi:IntsAre vs ns) (hl:ns.length≤sizeLine) (hr:Room k callerA)
    (F:∀ base:Heap,K.In base→base.Ns mainGlobals mg→BmOk mg base→FnOk P w K mg base CX k fa fd [x] sp) (hbind:∀ (s:Shared) (u:Value),BindsTo s fd ⟨[u],[]⟩ [(x,u)])
    (hsp:∀ H:Hp,(∀ p q,ts.lookup p=some q→H p=some (.tbl #[.str q 0]))→SqL K H a (ns.map V.int)→sp [.ref a] H (fun v _=>v=.bl true) fun _ _ _=>False)
    (hCX:∀ H e s',CX [] H s₁ (fun _ _ _=>False) e s'→False) :
    codeAny (model P w) callerA (.call (.ref fa) ⟨[.ref a],[]⟩) (fun r s'=>r=.ok (.ret (.bool true))∧OldK s₁.heap s'.heap∧s'.os=s₁.os∧AllBare s'.gens) s₁:=by
  have rv:=vals_ints hi
  have lenV:=hi.length
  have naT:ts.lookup a=none:=by
    cases e:ts.lookup a with
    | none=>rfl
    | some q=>have:=(hts a q e).1; rw [ha] at this; cases this
  have core:∀ H:Hp,(∀ b,b≠a→H b=tabH ts b)→(H a=none∨∃ o xs,H a=some (.frz o (.lst xs)))→SqL K H a (ns.map V.int)→HOk P w H s₁.heap→(H a≠none→K.lookup a=none) →
      codeAny (model P w) callerA (.call (.ref fa) ⟨[.ref a],[]⟩) (fun r s'=>r=.ok (.ret (.bool true))∧OldK s₁.heap s'.heap∧s'.os=s₁.os∧AllBare s'.gens) s₁:=by
    intro H hH hO hS hok hK
    have tabs:∀ p q,ts.lookup p=some q→H p=some (.tbl #[.str q 0]):=fun p q e=>by
      rw [hH p (fun z=>by rw [z,naT] at e; cases e)]
      unfold tabH
      rw [e]; rfl
    have isT:∀ b u,H b=some u→b≠a→∃ q,ts.lookup b=some q:=fun b u e hb=>by
      rw [hH b hb] at e
      unfold tabH at e
      cases z:ts.lookup b with
      | none=>rw [z] at e; cases e
      | some q=>exact ⟨q,rfl⟩
    have base_of:∀ {b:Addr} {o:Obj},s₁.heap.get? b=some o→H b=none→(hidT s₁.heap H).get? b=some o:=fun e n=>hidT_get e n
    have none_of:∀ {b:Addr} {o:Obj},s₁.heap.get? b=some o→o.cls≠.none→(∀ xs n,o.data≠.seq xs n)→H b=none:=fun {b o} e hc hd=>by
      cases q:H b with
      | none=>rfl
      | some u =>
        by_cases hba:b=a
        · subst hba
          rw [ha] at e; cases e
          exact absurd rfl (hd _ _)
        · obtain ⟨q',z⟩:=isT b u q hba
          have:=(hts b q' z).1
          rw [e] at this
          cases this
          exact absurd rfl hc
    have noA:∀ {b:Addr} {o:Obj} {es:Array DictEntry} {ep:Nat},s₁.heap.get? b=some o→o.data=.dict es ep→H b=none:=fun {b o es ep} e d=>by
      cases q:H b with
      | none=>rfl
      | some u =>
        by_cases hba:b=a
        · subst hba
          rw [ha] at e; cases e
          have d':Data.seq vs.toArray _=Data.dict es ep:=d
          cases d'
        · obtain ⟨q',z⟩:=isT b u q hba
          have:=(hts b q' z).1
          rw [e] at this
          cases this
          cases d
    have nsK:∀ {b:Addr} {m:Str→Option Value},s₁.heap.Ns b m→(hidT s₁.heap H).Ns b m:=fun {b m} ⟨o,es,ep,e,d,r⟩=>⟨o,es,ep,base_of e (noA e d),d,r⟩
    have hKb:K.In (hidT s₁.heap H):=fun b o e=>base_of (KX b o e) (by
      cases q:H b with
      | none=>rfl
      | some u =>
        by_cases hba:b=a
        · subst hba
          rw [hK (by rw [q]; simp)] at e; cases e
        · obtain ⟨q',z⟩:=isT b u q hba
          rw [(hts b q' z).2.1] at e; cases e)
    have hBm:BmOk mg (hidT s₁.heap H):=by
      obtain ⟨bm,ob,b1,b2,b3,b4,b5,b6⟩:=hbm
      exact ⟨bm,ob,b1,b2,base_of b3 (none_of b3 (by rw [b4]; exact nofun) fun xs n z=>by rw [b6] at z; cases z),b4,b5,b6⟩
    have hM:Mod K mg (hidT s₁.heap H):=⟨hKb,nsK hns,⟨mb,nsK hb,hbb⟩,let ⟨mc,h1,h2⟩:=hlim; ⟨mc,nsK h1,h2⟩⟩
    have e0:Env0 P w K mg (hidT s₁.heap H) callerA [] s₁ H:=⟨rfl,hM,fun b o e=>of_hidT e,Nat.le_of_eq (hidT_size _ _),trivial,fun b hb=>absurd (show b∈([]:List Addr) from hb) (by simp),hok,.of_eq hg⟩
    refine codeAny_mono ((F _ hKb (nsK hns) hBm).run callerA [] s₁ H ⟨[.ref a],[]⟩ [.ref a] [.ref a] _ _ hr e0 (hbind s₁ (.ref a)) (.cons rfl .nil) (hsp H tabs hS)) fun r s' h=>?_
    cases r with
    | error e=>exact (hCX H e s' h).elim
    | ok fl =>
      cases fl with
      | next=>exact False.elim h
      | brk=>exact False.elim h
      | cont=>exact False.elim h
      | ret u =>
        obtain ⟨v,H',os,bare,un,hok',r',q⟩:=h
        have q':v=.bl true:=q
        subst q'
        obtain rfl:u=Value.bool true:=r'
        have kept:∀ b o,s₁.heap.get? b=some o→ts.lookup b=none→s'.heap.get? b=some o:=fun b o e hn=>by
          cases q:H b with
          | none=>exact un.keep b o e q (by intro z; exact absurd (show b∈([]:List Addr) from z) (by simp)) (by simp)
          | some u =>
            by_cases hba:b=a
            · subst hba
              rcases hO with z | ⟨ob,xs,z⟩
              · rw [q] at z; cases z
              · have z2:=un.frzs b ob _ z
                obtain ⟨e1,_⟩:=hok b _ z
                obtain ⟨e2,_⟩:=hok' b _ z2
                rw [e] at e1; cases e1
                exact e2
            · obtain ⟨q',z⟩:=isT b u q hba
              rw [hn] at z; cases z
        refine ⟨rfl,⟨fun b o e=>?_,fun b o e=>un.there b o e (by simp)⟩,os,bare⟩
        cases ht:ts.lookup b with
        | none=>exact .inl (kept b o e ht)
        | some q =>
          obtain ⟨t1,t2,c,t3⟩:=hts b q ht
          rw [e] at t1
          cases t1
          obtain ⟨more,e2⟩:=un.tbls b _ (tabs b q ht)
          obtain ⟨q2,tk,qs,_,e3,_⟩:=(show ObjOk P w H' s'.heap b (.tbl _) from hok' b _ e2)
          exact .inr (.inl ⟨(t3.tab e).isCodeTable,rfl,#[],qs,rfl,by rw [Array.empty_append]; exact e3⟩)
  have tabOk:∀ H:Hp,(∀ b,b≠a→H b=tabH ts b)→∀ b u,b≠a→H b=some u→ObjOk P w H s₁.heap b u:=fun H hH b u hb e=>by
    rw [hH b hb] at e
    unfold tabH at e
    cases z:ts.lookup b with
    | none=>rw [z] at e; cases e
    | some q =>
      rw [z] at e
      cases e
      exact ⟨q,0,#[],rfl,(hts b q z).1,trivial,fun pos v ev=>by cases ev⟩
  cases hk:K.lookup a with
  | some o =>
    have e:=KX a o hk
    rw [ha] at e
    cases e
    have hHa:tabH ts a=none:=by unfold tabH; rw [naT]; rfl
    refine core (tabH ts) (fun _ _=>rfl) (.inl hHa) (.inr ⟨_,vs.toArray,_,hk,rfl,rfl,rfl,by rw [List.size_toArray,lenV]; exact hl,by simpa using rv⟩) (fun b u z=>?_) fun z=>absurd hHa z
    exact tabOk _ (fun _ _=>rfl) b u (fun w=>by rw [w,hHa] at z; cases z) z
  | none =>
    refine core (fun b=>if b=a then some (.frz { cls:=.type "list", data:=.seq vs.toArray } (.lst (ns.map V.int))) else tabH ts b) (fun b hb=>if_neg hb) (.inr ⟨_,_,if_pos rfl⟩) (.inl (.inr ⟨{ cls:=.type "list", data:=.seq vs.toArray },if_pos rfl⟩)) (fun b u z=>?_) fun _=>hk
    by_cases hba:b=a
    · have z':=(if_pos hba).symm.trans z
      cases z'
      subst hba
      exact ⟨ha,by rw [List.length_map]; exact hl,vs,_,rv,ha⟩
    · exact tabOk _ (fun b hb=>if_neg hb) b u hba z
theorem walk_ofT {l:PySem.W.OpenLaw} {n k:Nat} {q:Program} {loose:List Str} {XP:(Str→Option Value)→Heap→Prop} {YP:World→Heap→Prop} {d:DefRec} {K:Params→PySem.W.Frag} {CX:World→CXT} {sp:World→Sp} {x:Str} (ts:List (Addr×Str))
    (hn:l.most=some n) (hn2:n≤sizeLine) (hdf:d.params.defaults=[]) (hr:Room k callerA)
    (hY:∀ (w:World) (h:Heap),YP w h→(K w.params).In h)
    (hT:∀ (w:World) (h:Heap),YP w h→∀ p q,ts.lookup p=some q→h.get? p=some (PySem.W.tabObj #[]))
    (hN:∀ (w:World) p q,ts.lookup p=some q→(K w.params).lookup p=none∧∃ c,PySem.W.codeHdIn (K w.params) c p=true)
    (F:∀ (w:World) (mg:Str→Option Value) (fa:Addr) (h:Heap),(K w.params).In h→h.Ns mainGlobals mg→mg d.name=some (.ref fa) →
      ∃ fd:FuncData,(∀ (s:Shared) (u:Value),BindsTo s fd ⟨[u],[]⟩ [(x,u)]) ∧
        ∀ base:Heap,(K w.params).In base→base.Ns mainGlobals mg→BmOk mg base→FnOk l.prog w (K w.params) mg base (CX w) k fa fd [x] (sp w))
    (hsp:∀ (w:World) (H:Hp) (a:Addr) (ns:List Int),ns.length≤n→(∀ m∈ns,Builtin.Int.intBits m≤1048576)→(∀ p q,ts.lookup p=some q→H p=some (.tbl #[.str q 0]))→SqL (K w.params) H a (ns.map V.int)→sp w [.ref a] H (fun v _=>v=.bl true) fun _ _ _=>False)
    (hCX:∀ (w:World) (H:Hp) (s:Shared) (e:Value) (s':Shared),CX w [] H s (fun _ _ _=>False) e s'→False) :
    PySem.W.WalkO q loose XP YP l.row.toRowW d [] (fun f vs=>PySem.call f vs):=by
  intro w s₀ s₁ mg mb G Y fa o pm cd doc dV kV ho hd hcd hD hmg hg args vals as hpre hlay hrd hwl hlo
  obtain rfl:dV=.none:=PySem.W.Dflts.none hD hdf
  obtain rfl:kV=.none:=PySem.W.Dflts.noKw hD
  obtain ⟨a,vs,ns,rfl,rfl,hobj,hints,hlen⟩:=Att.script_of hn hpre hwl
  have KX:=hY w _ Y
  obtain ⟨fd,hb,hF⟩:=F w mg fa _ KX G.T.g hmg
  refine PySem.W.enter_call (codeAny_mono (law_callT ts KX G.T.g G.T.b G.T.builtins G.T.nolimit hg G.T.bmain (fun p q e=>⟨hT w _ Y p q e,(hN w p q e).1,let ⟨c,h⟩:=(hN w p q e).2; ⟨c,PySem.W.codeHd_of_K KX h⟩⟩) hobj hints (Nat.le_trans hlen hn2) hr hF hb (fun H hO hS=>hsp w H a ns hlen (bits_of_lay hlay) hO hS) fun H e s'=>hCX w H s₁ e s') fun r s' hq=>?_)
  obtain ⟨rfl,h2,h3,h4⟩:=hq
  exact ⟨.inl ⟨.bool true,.bool true,[],rfl,fun _=>rfl,.bool true,Att.post_true l _,fun _=>⟨List.Pairwise.nil,fun _ hm=>(nomatch hm)⟩⟩,h2,h3,h4⟩
end L2
namespace L2
open PySem PySem.Spec PyProof.Rows
def rSortI (K:PySem.W.Frag):List V→Hp→VK→Prop:=fun xs H Q=>∃ (a:Addr) (ns:List Int),xs=[.ref a]∧SqL K H a (ns.map V.int)∧ns.length<64∧∀ ms:List Int,ms.Perm ns→ms.Pairwise (·≤·)→∀ D,H D=none→Q (.ref D) (upd H D (.lst (ms.map V.int)))
theorem call_sortI {X:Cx} {K:PySem.W.Frag} (hK:X.K=K) (hx:X.ex=[]):CallR X (.builtin "sorted") (rSortI K):=by
  subst hK
  intro pins s σ H xs us Q I r h
  obtain ⟨a,ns,rfl,hq,h64,q⟩:=h
  cases r with
  | cons r1 r =>
    cases r
    cases (show _=Value.ref a from r1)
    obtain ⟨its,rv,pl,_⟩:=I.list hq
    obtain ⟨m,F⟩:=I.fr
    refine PySem.W.kso_sorted F (news_all (h:=s.heap)) pl.isList (intsAre_of rv) h64 fun D vs' ns' c h' F' N' hlt hi hl pm up _=>?_
    have nD:=N' _ List.mem_cons_self
    have hD:s.heap.get? D=none:=by
      cases e:s.heap.get? D with
      | none=>rfl
      | some o=>exact absurd (hlt (D,o) (mem_allNews nD.2.1 nD.2.2 e)) (Nat.lt_irrefl _)
    have hn:H D=none:=(I.out hx hD).h
    refine ⟨.ref D,upd H D (.lst (ns'.map V.int)),I.newsLaid (t':=s.toks) hx F F' N' hD ?_,rfl,q ns' pm up D hn⟩
    exact ⟨by rw [List.length_map,hl]; have:=sizeLine_eq; omega,vs',c,vals_ints hi,nD.1⟩
end L2
namespace VL
open PySem L2
open Classical
noncomputable section
variable [Tabs] {K:PySem.W.Frag}
def srtI (ns:List Int):List Int:=ns.mergeSort fun a b=>decide (a≤b)
omit [Tabs] in
theorem srtI_perm (ns:List Int):(srtI ns).Perm ns:=List.mergeSort_perm _ _
omit [Tabs] in
theorem srtI_up (ns:List Int):(srtI ns).Pairwise (·≤·):=by
  have h:=List.pairwise_mergeSort (le:=fun a b:Int=>decide (a≤b)) (fun a b c h1 h2=>by simp at *; omega) (fun a b=>by simp; omega) ns
  exact h.imp fun h=>by simpa using h
omit [Tabs] in
theorem srtI_uniq {xs ns:List Int} (p:xs.Perm ns) (h:xs.Pairwise (·≤·)):xs=srtI ns :=
  List.Perm.eq_of_pairwise (fun a b _ _ h1 h2=>by omega) h (srtI_up ns) (p.trans (srtI_perm ns).symm)
noncomputable def dSrtI (a:DE):Rho→Option (List D):=fun ρ=>match asL a ρ with
  | some ds=>(match asInts ds with
    | some ns=>if ns.length<64 then some ((srtI ns).map D.int) else none
    | none=>none)
  | none=>none
omit [Tabs] in
theorem dSrtI_of {a:DE} {ρ:Rho} {ns:List Int} (h:asL a ρ=some (ns.map D.int)) (hl:ns.length<64):dSrtI a ρ=some ((srtI ns).map D.int):=by
  unfold dSrtI
  rw [h]
  dsimp only
  rw [asInts_map]
  exact if_pos hl
theorem sf_srtI {ta:TE} {a:DE} (ha:SemB K ta a):SemF K (tCB (rSortI K) (tCons ta tNil)) (dSrtI a):=fun {B Z os ρ σ H Q es} f q k=>by
  unfold dSrtI at q
  split at q
  · rename_i ds e0
    split at q
    · rename_i ns e1
      split at q
      · rename_i hl
        cases q
        obtain ⟨d,e0,ed⟩:=asL_some e0
        refine ha f e0 fun v H1 s1 i1=>?_
        obtain ⟨p,vs,rfl,hlv,hn,hr⟩:=i1.seq ed
        obtain ⟨hq,il⟩:=hr H1 _ Kp.refl
        have ei:=asInts_some e1
        subst ei
        have ev:=IsL.ints il
        subst ev
        refine ⟨p,ns,rfl,hq,hl,fun ms pm up D hD=>?_⟩
        rw [srtI_uniq pm up]
        have hs:sizeLine=16777216:=sizeLine_eq
        exact k D _ _ (s1.trans (same_new hD)) (Same.free s1 hD) upd_same (by rw [List.length_map,(srtI_perm ns).length_eq]; omega) (.ofInts _)
      · cases q
    · cases q
  · cases q
end
end VL
namespace L2
open PySem PySem.Spec PyProof.Rows
theorem Fun.okC {P:Program} {w:World} {K:PySem.W.Frag} {mg:Str→Option Value} {base:Heap} {x qual:Str} {st:Stmt} {f:Addr} {fd:FuncData} {N ps:List Str} {k:Nat} {sp:Sp} (F:Fun K x qual st f fd) (S:FnScope N ps (defScope st)) (len:∀ vs H Q E,sp vs H Q E→vs.length=ps.length)
    (hbody:∀ (cdv:Value),fd.code=cdv→∀ (A:Around) (outer:List Env) (s:Shared) (H:Hp) (vs:List V) (Q:VK) (E:XK),Room k (A.deeper (envOfC qual (defScope st) s.heap.objs.size f cdv))→sp vs H Q E →
      ∃ t,PSs (cxOf CX0 P w K mg base N qual (defScope st) f cdv A outer s H E).nox (defBody st) t∧t { nx:=fun _ H'=>Q .non H',rt:=Q } (start N vs) H):FnOk P w K mg base CX0 (k+1) f fd ps sp:=by
  obtain ⟨oc,od,kV,doc,pm,an,cdv,ct,osl,rfl,lk,hcd⟩:=F.ex
  refine fn_of lk hcd S len fun A outer s H vs Q E hr hsp=>?_
  obtain ⟨t,h,q⟩:=hbody cdv rfl A outer s H vs Q E hr hsp
  exact ⟨t,h.nox,q⟩
end L2
namespace VL
open PySem L2
open Classical
noncomputable section
variable [Tabs] {K:PySem.W.Frag}
theorem Fun.okDL {P:Program} {w:World} {mg:Str→Option Value} {base:Heap} {x qual:Str} {st:Stmt} {f:Addr} {fd:FuncData} {N ps:List Str} {k:Nat} (F:Fun K x qual st f fd) (S:FnScope N ps (defScope st)) (ms:List Bool) (hms:ms.length=ps.length) (b:DS)
    (hbody:∀ (cdv:Value),fd.code=cdv→∀ (A:Around) (outer:List Env) (s:Shared) (H:Hp) (E:XK),Room k (A.deeper (PyProof.Rows.envOfC qual (defScope st) s.heap.objs.size f cdv)) →
      ∃ t,PSs (cxOf CX0 P w K mg base N qual (defScope st) f cdv A outer s H E).nox (defBody st) t∧SemS .v K t b):FnOk P w K mg base CX0 (k+1) f fd ps (spD .v K ms (runD N.length ms b)):=by
  refine L2.Fun.okC F S (fun vs H Q E h=>?_) (fun cdv hcd A outer s H vs Q E hr h=>?_)
  · obtain ⟨Z,ds,d,hz,a,_⟩:=h
    rw [a.len.1,hms]
  · obtain ⟨Z,ds,d,hz,a,e,k⟩:=h
    obtain ⟨t,h1,h2⟩:=hbody cdv hcd A outer s H E hr
    refine ⟨t,h1,h2 (startFr hz a) ?_⟩
    unfold runD at e
    split at e
    · rename_i d' e1
      cases e
      rw [e1]
      exact fun v H' s' i=>k v H' s' i
    · rename_i ρ e1
      cases e
      rw [e1]
      exact fun os' σ' H' f' _=>k _ H' f'.keep .non
    · cases e
end
end VL
namespace PySem.SeqAt
open AutoSeq1 (wpAny_loadPart')
open MeetsSeq MeetsSeq2 MeetsSeq3
def LtAt (A:Around) (s:Shared) (y x:Value) (b:Bool):Prop :=
  ∀ (prog:Program) (w:World) (E:Value→Shared→Prop) (Q:Value→Shared→Prop),Q (.bool b) s→wpAny (model prog w) A (richCompare .Lt y x) Q E s
def lexAt (e l:Nat→Bool) (fin:Bool):Nat→Nat→Bool
  | 0,_=>fin
  | k+1,i=>if e i=true then lexAt e l fin k (i+1) else l i
theorem lt_loopAt (l b:Addr) (items items2:Array Value) (n n2:Nat) (dd dd2:Option Addr) (sl sl2:Array (Option Value)) (e lt:Nat→Bool) (k:Nat) :
    ∀ i:Nat,i≤min items.size items2.size→min items.size items2.size-i=k→Meets (Builtin.«list.__eq__.loop» ⟨[.ref l,.ref b,rawInt i,rawInt 0],[]⟩)
      (fun A R s=>s.heap.get? l=some { cls:=.type "list", dict:=dd,data:=.seq items n,slots:=sl }∧s.heap.get? b=some { cls:=.type "list", dict:=dd2,data:=.seq items2 n2,slots:=sl2 } ∧
        (∀ j (h1:j<items.size) (h2:j<items2.size),EqAt A.in1 s items[j] items2[j] (e j))∧(∀ j (h1:j<items.size) (h2:j<items2.size),e j=false→LtAt A.in1 s items[j] items2[j] (lt j)) ∧
        R (.ok (.ret (.bool (lexAt e lt (decide (items.size<items2.size)) k i)))) s):=by
  induction k with
  | zero =>
    intro i hi hk prog w A R s h
    obtain ⟨hp,g,d,tk,os⟩:=s; obtain ⟨hl,hb,he,hlt,h⟩:=h
    wp_walk using wpAny_loadPart' hl,wpAny_loadPart' hb
    by_cases hc:items.size≤i
    · have hi1:items[((i:Nat):Int).toNat]?=none:=by simp; omega
      rw [hi1]
      wp_walk using wpAny_loadPart' hl,wpAny_loadPart' hb
      exact h
    · have hi2:items2[((i:Nat):Int).toNat]?=none:=by simp; omega
      have hi1:items[((i:Nat):Int).toNat]?=some (items[i]'(by omega)):=by simp
      rw [hi1,hi2]
      wp_walk using wpAny_loadPart' hl,wpAny_loadPart' hb
      exact h
  | succ k ih =>
    intro i hi hk prog w A R s h
    obtain ⟨hp,g,d,tk,os⟩:=s; obtain ⟨hl,hb,he,hlt,h⟩:=h
    wp_walk using wpAny_loadPart' hl,wpAny_loadPart' hb
    have hlt1:i<items.size:=by omega
    have hlt2:i<items2.size:=by omega
    have hi1:items[((i:Nat):Int).toNat]?=some items[i]:=by simp [hlt1]
    have hi2:items2[((i:Nat):Int).toNat]?=some items2[i]:=by simp [hlt2]
    have hc:((i:Int)+1)=((i+1:Nat):Int):=by push_cast; rfl
    unfold lexAt at h
    rw [hi1,hi2]
    refine wpAny_bind (he i hlt1 hlt2 prog w _ _ ?_)
    cases hb':e i with
    | true =>
      rw [hb',if_pos rfl] at h
      wp_walk
      rw [hc]
      exact ⟨plainId_quiet plain_eq_loop _,codeAny_builtin entry_eq_loop (by
        rw [Around.under_plainId plain_eq_loop _]
        exact ih (i+1) (by omega) (by omega) prog w A R _ ⟨hl,hb,he,hlt,h⟩)⟩
    | false =>
      rw [hb',if_neg Bool.false_ne_true] at h
      wp_walk using wpAny_loadPart' hl,wpAny_loadPart' hb
      rw [hi1,hi2]
      dsimp only
      refine wpAny_bind (hlt i hlt1 hlt2 hb' prog w _ _ ?_)
      wp_walk
      exact h
theorem list_ltAt (l b:Addr) (items items2:Array Value) (n n2:Nat) (dd dd2:Option Addr) (sl sl2:Array (Option Value)) (e lt:Nat→Bool) :
    Meets (Builtin.«list.__lt__» ⟨[.ref l,.ref b],[]⟩)
      (fun A R s=>s.heap.get? l=some { cls:=.type "list", dict:=dd,data:=.seq items n,slots:=sl }∧s.heap.get? b=some { cls:=.type "list", dict:=dd2,data:=.seq items2 n2,slots:=sl2 } ∧
        (∀ j (h1:j<items.size) (h2:j<items2.size),EqAt A.in1 s items[j] items2[j] (e j))∧(∀ j (h1:j<items.size) (h2:j<items2.size),e j=false→LtAt A.in1 s items[j] items2[j] (lt j)) ∧
        R (.ok (.ret (.bool (lexAt e lt (decide (items.size<items2.size)) (min items.size items2.size) 0)))) s):=by
  intro prog w A R s h
  obtain ⟨hp,g,d,tk,os⟩:=s; obtain ⟨hl,hb,he,hlt,h⟩:=h
  have f3:=AutoSeq1.sub_list_list
  wp_walk using wpAny_loadPart' hl,wpAny_loadPart' hb
  exact ⟨plainId_quiet plain_eq_loop _,codeAny_builtin entry_eq_loop (by
    rw [Around.under_plainId plain_eq_loop _]
    exact lt_loopAt l b items items2 n n2 dd dd2 sl sl2 e lt _ 0 (Nat.zero_le _) rfl prog w A R _ ⟨hl,hb,he,hlt,h⟩)⟩
theorem tuple_ltAt (l b:Addr) (items items2:Array Value) (n n2:Nat) (dd dd2:Option Addr) (sl sl2:Array (Option Value)) (e lt:Nat→Bool) :
    Meets (Builtin.«tuple.__lt__» ⟨[.ref l,.ref b],[]⟩)
      (fun A R s=>s.heap.get? l=some { cls:=.type "tuple", dict:=dd,data:=.seq items n,slots:=sl }∧s.heap.get? b=some { cls:=.type "tuple", dict:=dd2,data:=.seq items2 n2,slots:=sl2 } ∧
        (∀ j (h1:j<items.size) (h2:j<items2.size),EqAt A.in1 s items[j] items2[j] (e j))∧(∀ j (h1:j<items.size) (h2:j<items2.size),e j=false→LtAt A.in1 s items[j] items2[j] (lt j)) ∧
        R (.ok (.ret (.bool (lexAt e lt (decide (items.size<items2.size)) (min items.size items2.size) 0)))) s) :=
  .of_wp fun prog w A R s h=>by
    obtain ⟨hp,g,d,tk,os⟩:=s; obtain ⟨hl,hb,he,hlt,h⟩:=h
    have f2:=AutoSeq1.sub_tuple_tuple
    have hZ:(items.toList.zip items2.toList).length=min items.size items2.size:=by simp
    wp_walk using wpAny_loadPart' hl,wpAny_loadPart' hb,wpAny_forIn_list _ (fun rest b s'=>b.1=none∧s'=⟨hp,g,d,tk,os⟩∧∃ i,rest=(items.toList.zip items2.toList).drop i∧i≤min items.size items2.size ∧
      R (.ok (.ret (.bool (lexAt e lt (decide (items.size<items2.size)) (min items.size items2.size-i) i)))) ⟨hp,g,d,tk,os⟩) _
    case turn =>
      rintro ⟨y,x⟩ rest b s' ⟨hb',rfl,i,hz,hle,hR⟩
      have hlt':i<(items.toList.zip items2.toList).length:=by
        rcases Nat.lt_or_ge i (items.toList.zip items2.toList).length with h' | h'
        · exact h'
        · rw [List.drop_of_length_le h'] at hz; cases hz
      have hm:i<min items.size items2.size:=hZ ▸ hlt'
      have h1:i<items.size:=Nat.lt_of_lt_of_le hm (Nat.min_le_left _ _)
      have h2:i<items2.size:=Nat.lt_of_lt_of_le hm (Nat.min_le_right _ _)
      rw [List.drop_eq_getElem_cons hlt'] at hz
      injection hz with hyx hrest
      have hy:y=items[i]:=by have:=congrArg Prod.fst hyx; simpa using this
      have hx:x=items2[i]:=by have:=congrArg Prod.snd hyx; simpa using this
      subst hy hx
      obtain ⟨k,hk⟩:∃ k,min items.size items2.size-i=k+1:=⟨min items.size items2.size-i-1,by omega⟩
      rw [hk] at hR
      unfold lexAt at hR
      refine wpAny_bind (he i h1 h2 prog w _ _ ?_)
      cases hy:e i with
      | true =>
        rw [hy,if_pos rfl] at hR
        wp_walk
        refine ⟨rfl,rfl,i+1,hrest,by omega,?_⟩
        have:min items.size items2.size-(i+1)=k:=by omega
        rw [this]
        exact hR
      | false =>
        rw [hy,if_neg Bool.false_ne_true] at hR
        refine wpAny_ite_split (fun _=>?_) (fun z=>absurd rfl z)
        refine wpAny_bind (wpAny_rule ?_)
        refine wpAny_bind (hlt i h1 h2 hy prog w _ _ ?_)
        wp_walk
        exact ⟨_,rfl,hR⟩
    case fin =>
      rintro ⟨b1,b2⟩ s' ⟨hb',rfl,i,hz,hle,hR⟩
      simp only at hb'
      subst hb'
      have hge:min items.size items2.size≤i:=by
        rcases Nat.lt_or_ge i (items.toList.zip items2.toList).length with h' | h'
        · rw [List.drop_eq_getElem_cons h'] at hz; cases hz
        · exact hZ ▸ h'
      have:min items.size items2.size-i=0:=by omega
      rw [this] at hR
      wp_walk
      exact ⟨_,rfl,hR⟩
    case h =>
      exact ⟨rfl,rfl,0,rfl,Nat.zero_le _,h⟩
section
variable {A:Around} {s:Shared}
theorem LtAt.lists {l b:Addr} {items items2:Array Value} {e lt:Nat→Bool} (hl:s.heap.IsList l items) (hb:s.heap.IsList b items2) (hu:A.units<cLine)
    (he:∀ j (h1:j<items.size) (h2:j<items2.size),EqAt A.in1 s items[j] items2[j] (e j)) (hlt:∀ j (h1:j<items.size) (h2:j<items2.size),e j=false→LtAt A.in1 s items[j] items2[j] (lt j)):LtAt A s (.ref l) (.ref b) (lexAt e lt (decide (items.size<items2.size)) (min items.size items2.size) 0):=fun prog w E Q h=>by
  obtain ⟨⟨cls,dd,data,sl⟩,ho,hc,n,hd⟩:=id hl
  obtain ⟨⟨cls2,dd2,data2,sl2⟩,ho2,hc2,n2,hd2⟩:=id hb
  simp only at hc hd hc2 hd2
  subst hc hd hc2 hd2
  exact richCompare_meets_room (op:=.Lt) ⟨_,ho,rfl⟩ ⟨_,ho2,rfl⟩ F.slot_list_lt F.entry_list_lt (F.args_list_lt_2 _ _) (list_ltAt l b items items2 n n2 dd dd2 sl sl2 e lt)
    ⟨ho,ho2,he,hlt,show Value.bool (lexAt e lt (decide (items.size<items2.size)) (min items.size items2.size) 0)≠Value.notImplemented∧Q (.bool (lexAt e lt (decide (items.size<items2.size)) (min items.size items2.size) 0)) s from ⟨(fun x=>nomatch x),h⟩⟩ hu
theorem LtAt.tuples {l b:Addr} {items items2:Array Value} {e lt:Nat→Bool} (hl:s.heap.IsTuple l items) (hb:s.heap.IsTuple b items2) (hu:A.units<cLine)
    (he:∀ j (h1:j<items.size) (h2:j<items2.size),EqAt A.in1 s items[j] items2[j] (e j)) (hlt:∀ j (h1:j<items.size) (h2:j<items2.size),e j=false→LtAt A.in1 s items[j] items2[j] (lt j)):LtAt A s (.ref l) (.ref b) (lexAt e lt (decide (items.size<items2.size)) (min items.size items2.size) 0):=fun prog w E Q h=>by
  obtain ⟨⟨cls,dd,data,sl⟩,ho,hc,n,hd⟩:=id hl
  obtain ⟨⟨cls2,dd2,data2,sl2⟩,ho2,hc2,n2,hd2⟩:=id hb
  simp only at hc hd hc2 hd2
  subst hc hd hc2 hd2
  exact richCompare_meets_room (op:=.Lt) ⟨_,ho,rfl⟩ ⟨_,ho2,rfl⟩ F.slot_tuple_lt F.entry_tuple_lt (F.args_tuple_lt_2 _ _) (tuple_ltAt l b items items2 n n2 dd dd2 sl sl2 e lt)
    ⟨ho,ho2,he,hlt,show Value.bool (lexAt e lt (decide (items.size<items2.size)) (min items.size items2.size) 0)≠Value.notImplemented∧Q (.bool (lexAt e lt (decide (items.size<items2.size)) (min items.size items2.size) 0)) s from ⟨(fun x=>nomatch x),h⟩⟩ hu
theorem LtAt.ints (a b:Int) (t u:Tok):LtAt A s (.int a t) (.int b u) (decide (a<b)):=fun prog w E Q h=>PyProof.Rows.lt_int h
end
end PySem.SeqAt
namespace VL
open PySem L2
open Classical
noncomputable section
variable {K:PySem.W.Frag}
def lexD (lt:D→D→Bool):List D→List D→Bool
  | [],[]=>false
  | [],_::_=>true
  | _::_,[]=>false
  | x::xs,y::ys=>if x=y then lexD lt xs ys else lt x y
def ltD:Nat→D→D→Bool
  | _,.int a,.int b=>decide (a<b)
  | n+1,.lst xs,.lst ys=>lexD (ltD n) xs ys
  | n+1,.tup xs,.tup ys=>lexD (ltD n) xs ys
  | _,_,_=>false
def ordb:Nat→D→D→Bool
  | _,.int _,.int _=>true
  | n+1,.lst xs,.lst ys=>(List.zip xs ys).all fun p=>cmpb n p.1 p.2&&ordb n p.1 p.2
  | n+1,.tup xs,.tup ys=>(List.zip xs ys).all fun p=>cmpb n p.1 p.2&&ordb n p.1 p.2
  | _,_,_=>false
theorem lexAt_lexD (lt:D→D→Bool) (ds es:List D):∀ k i,i≤min ds.length es.length→min ds.length es.length-i=k→SeqAt.lexAt (fun j=>decide (ds.getD j default=es.getD j default)) (fun j=>lt (ds.getD j default) (es.getD j default)) (decide (ds.length<es.length)) k i=lexD lt (ds.drop i) (es.drop i)
  | 0,i,hi,hk=>by
    unfold SeqAt.lexAt
    by_cases h1:ds.length≤es.length
    · have e1:ds.drop i=[]:=List.drop_of_length_le (by omega)
      rw [e1]
      by_cases h2:ds.length<es.length
      · rw [List.drop_eq_getElem_cons (show i<es.length by omega),decide_eq_true h2]; rfl
      · have e2:es.drop i=[]:=List.drop_of_length_le (by omega)
        rw [e2,decide_eq_false h2]; rfl
    · have e2:es.drop i=[]:=List.drop_of_length_le (by omega)
      rw [e2,List.drop_eq_getElem_cons (show i<ds.length by omega),decide_eq_false (by omega)]; rfl
  | k+1,i,hi,hk=>by
    have h1:i<ds.length:=by omega
    have h2:i<es.length:=by omega
    unfold SeqAt.lexAt
    rw [List.drop_eq_getElem_cons h1,List.drop_eq_getElem_cons h2,lexAt_lexD lt ds es k (i+1) (by omega) (by omega)]
    have g1:ds.getD i default=ds[i]:=by rw [List.getD_eq_getElem?_getD,List.getElem?_eq_getElem h1]; rfl
    have g2:es.getD i default=es[i]:=by rw [List.getD_eq_getElem?_getD,List.getElem?_eq_getElem h2]; rfl
    rw [g1,g2]
    unfold lexD
    by_cases c:ds[i]=es[i]
    · rw [if_pos c,if_pos (decide_eq_true c)]
      cases ds.drop (i+1) <;> cases es.drop (i+1) <;> rfl
    · rw [if_neg c,if_neg (by rw [decide_eq_true_iff]; exact c)]
section
variable {X:Cx} {pins:List (Addr×Obj)} {σ:L2.St} {H:Hp} {s:Shared}
theorem zip_ord {n:Nat} {ds es:List D} (h:(List.zip ds es).all (fun p=>cmpb n p.1 p.2&&ordb n p.1 p.2)=true):(List.zip ds es).all (fun p=>cmpb n p.1 p.2)=true∧∀ (j:Nat) (a b:D),ds[j]?=some a→es[j]?=some b→ordb n a b=true:=by
  rw [List.all_eq_true] at h
  refine ⟨List.all_eq_true.mpr fun p hp=>((Bool.and_eq_true _ _).mp (h p hp)).1,fun j a b h1 h2=>?_⟩
  have:(a,b)∈List.zip ds es:=by
    refine List.mem_of_getElem? (i:=j) ?_
    rw [List.getElem?_zip_eq_some]
    exact ⟨h1,h2⟩
  exact ((Bool.and_eq_true _ _).mp (h _ this)).2
theorem lts_is {n:Nat} {A:Around} {xs ys:List V} {us ws:List Value} {ds es:List D} (hc:∀ (j:Nat) (a b:D),ds[j]?=some a→es[j]?=some b→ordb n a b=true) (r1:Vals xs us) (r2:Vals ys ws) (g1:IsL K H No xs ds) (g2:IsL K H No ys es)
    (ih:∀ {v w:V} {d e:D} {u x:Value},RelV v u→RelV w x→Is K H No v d→Is K H No w e→ordb n d e=true→SeqAt.LtAt A s u x (ltD n d e)) :
    ∀ j (h1:j<us.toArray.size) (h2:j<ws.toArray.size),SeqAt.LtAt A s us.toArray[j] ws.toArray[j] (ltD n (ds.getD j default) (es.getD j default)):=by
  intro j h1 h2
  rw [List.size_toArray] at h1 h2
  have l1:=r1.length
  have l2:=r2.length
  have l3:=g1.length
  have l4:=g2.length
  have e3:ds[j]?=some (ds.getD j default):=by rw [List.getD_eq_getElem?_getD,List.getElem?_eq_getElem (by omega)]; rfl
  have e4:es[j]?=some (es.getD j default):=by rw [List.getD_eq_getElem?_getD,List.getElem?_eq_getElem (by omega)]; rfl
  obtain ⟨x,f1,i1⟩:=g1.get e3
  obtain ⟨y,f2,i2⟩:=g2.get e4
  obtain ⟨u',q1,k1⟩:=r1.get f1
  obtain ⟨v',q2,k2⟩:=r2.get f2
  have a1:us.toArray[j]=u':=by rw [List.getElem?_eq_getElem h1] at q1; simpa using q1
  have a2:ws.toArray[j]=v':=by rw [List.getElem?_eq_getElem h2] at q2; simpa using q2
  rw [a1,a2]
  exact ih k1 k2 i1 i2 (hc j _ _ e3 e4)
inductive Om:Nat→D→D→Prop
  | int {n:Nat} (a b:Int):Om n (.int a) (.int b)
  | lst {n:Nat} {xs ys:List D} (h:(List.zip xs ys).all (fun p=>cmpb n p.1 p.2&&ordb n p.1 p.2)=true):Om (n+1) (.lst xs) (.lst ys)
  | tup {n:Nat} {xs ys:List D} (h:(List.zip xs ys).all (fun p=>cmpb n p.1 p.2&&ordb n p.1 p.2)=true):Om (n+1) (.tup xs) (.tup ys)
theorem ordb_inv {n:Nat} {d e:D} (hc:ordb n d e=true):Om n d e:=by
  unfold ordb at hc
  split at hc
  · exact .int _ _
  · exact .lst hc
  · exact .tup hc
  · cases hc
theorem ltAt_is (I:Inv X pins σ H s):∀ (n:Nat) {A:Around},A.units+n<cLine→∀ {v w:V} {d e:D} {u x:Value},RelV v u→RelV w x→Is K H No v d→Is K H No w e→ordb n d e=true→SeqAt.LtAt A s u x (ltD n d e):=by
  intro n
  induction n using Nat.strongRecOn with | ind n ih=>?_
  intro A hu v w d e u x r1 r2 i1 i2 hc
  cases ordb_inv hc with
  | int a b=>obtain rfl:=i1.v_int; obtain rfl:=i2.v_int; obtain ⟨t,rfl⟩:=r1; obtain ⟨t',rfl⟩:=r2; rw [show ltD n (D.int a) (D.int b)=decide (a<b) by cases n <;> rfl]; exact SeqAt.LtAt.ints a b t t'
  | @lst n ds es hh =>
    obtain ⟨p,xs,rfl,z1,h1,l1,g1⟩:=i1.v_lst
    obtain ⟨q,ys,rfl,z2,h2,l2,g2⟩:=i2.v_lst
    cases r1
    cases r2
    obtain ⟨_,us,m1,k1,n1,o1⟩:=I.lstR h1
    obtain ⟨_,ws,m2,k2,n2,o2⟩:=I.lstR h2
    have e1:=g1.length
    have e2:=g2.length
    obtain ⟨hc1,hc2⟩:=zip_ord hh
    have q:=SeqAt.LtAt.lists (A:=A) (s:=s) (items:=us.toArray) (items2:=ws.toArray) ⟨_,o1,rfl,_,rfl⟩ ⟨_,o2,rfl,_,rfl⟩ (by omega) (eqAt_items (ns:=ds) (ms:=es) (d:=default) (by omega) (by omega) (items_is hc1 k1 k2 g1 g2 (eqAt_is I n (by rw [in1_units]; omega)))) fun j a1 a2 _=>lts_is hc2 k1 k2 g1 g2 (ih n (Nat.lt_succ_self _) (by rw [in1_units]; omega)) j a1 a2
    rw [List.size_toArray,List.size_toArray,show us.length=ds.length by omega,show ws.length=es.length by omega,lexAt_lexD (ltD n) ds es (min ds.length es.length) 0 (Nat.zero_le _) rfl] at q
    exact q
  | @tup n ds es hh =>
    obtain ⟨p,xs,rfl,z1,h1,l1,g1⟩:=i1.v_tup
    obtain ⟨q,ys,rfl,z2,h2,l2,g2⟩:=i2.v_tup
    cases r1
    cases r2
    obtain ⟨us,k1,o1,_⟩:=I.tuple (xs:=xs) (.inl (.inl h1))
    obtain ⟨ws,k2,o2,_⟩:=I.tuple (xs:=ys) (.inl (.inl h2))
    have e1:=g1.length
    have e2:=g2.length
    have n1:=k1.length
    have n2:=k2.length
    obtain ⟨hc1,hc2⟩:=zip_ord hh
    have q:=SeqAt.LtAt.tuples (A:=A) (s:=s) (items:=us.toArray) (items2:=ws.toArray) o1 o2 (by omega) (eqAt_items (ns:=ds) (ms:=es) (d:=default) (by omega) (by omega) (items_is hc1 k1 k2 g1 g2 (eqAt_is I n (by rw [in1_units]; omega)))) fun j a1 a2 _=>lts_is hc2 k1 k2 g1 g2 (ih n (Nat.lt_succ_self _) (by rw [in1_units]; omega)) j a1 a2
    rw [List.size_toArray,List.size_toArray,show us.length=ds.length by omega,show ws.length=es.length by omega,lexAt_lexD (ltD n) ds es (min ds.length es.length) 0 (Nat.zero_le _) rfl] at q
    exact q
end
end
end VL
namespace L2
open PySem PySem.Spec PyProof.Rows VL
section
variable {X:Cx} {pins P0 P1:List (Addr×Obj)} {σ:St} {H:Hp} {s:Shared} {h':Heap} {a:Addr} {oa oa':Obj} {t':Nat}
theorem Inv.poke (I:Inv X (P0++(a,oa)::P1) σ H s) (hk:∀ b o,b≠a→s.heap.get? b=some o→h'.get? b=some o) (ha:h'.get? a=some oa') (hd:∀ v,oa'.data≠.cell v) (h0:X.s₀.heap.objs.size≤a) (hne:∀ p∈X.pn++(P0++P1),p.1≠a) :
    Inv X (P0++(a,oa')::P1) σ H { s with heap:=h',toks:=t' }:=by
  obtain ⟨p1,p2,p3,p4,p5⟩:=I.pin (a,oa) (List.mem_append_right _ (List.mem_append_right _ List.mem_cons_self))
  have I1:Inv X (P0++P1) σ H s:=I.pins_of fun p hp=>I.pin p (List.mem_append_right _ ((List.mem_append.mp hp).elim (fun z=>List.mem_append_left _ z) fun z=>List.mem_append_right _ (List.mem_cons_of_mem _ z)))
  have cells:∀ x c,X.env.cells.lookup x=some c→c≠a:=fun x c e z=>by
    obtain ⟨v,o,ho,hd⟩:=I.cell x c e
    rw [z,p1] at ho
    cases ho
    exact p5 v hd
  have I2:Inv X (P0++P1) σ H { s with heap:=h',toks:=t' }:=I1.turned hk p2 p3 (.inr h0) cells hne
  refine I2.pins_of fun p hp=>?_
  rcases List.mem_append.mp hp with hp | hp
  · exact I2.pin p (List.mem_append_right _ (List.mem_append_left _ hp))
  · rcases List.mem_cons.mp hp with rfl | hp
    · exact ⟨ha,p2,p3,p4,hd⟩
    · exact I2.pin p (List.mem_append_right _ (List.mem_append_right _ hp))
end
def LessV (K:PySem.W.Frag) (H:Hp) (k y:V) (b:Bool):Prop:=∃ d e,Is K H No k d∧Is K H No y e∧ordb 20 d e=true∧b=ltD 20 d e
def minW (K:PySem.W.Frag) (te:TE) (fs:List (Option V)) (Fin:V→Hp→Prop):List V→V→V→Hp→Prop
  | [],xb,_,H=>Fin xb H
  | v::r,xb,yb,H=>te (some v::fs) H fun k H'=>Grow H H'∧∃ b,LessV K H' k yb b∧minW K te fs Fin r (if b=true then v else xb) (if b=true then k else yb) H'
theorem SqL.grow {K:PySem.W.Frag} {H H':Hp} {a:Addr} {vs:List V} (h:SqL K H a vs) (g:Grow H H'):SqL K H' a vs:=by
  rcases h with (z | ⟨o,z⟩) | z
  · exact .inl (.inl (g _ _ z))
  · exact .inl (.inr ⟨o,g _ _ z⟩)
  · exact .inr z
section
variable {X:Cx} {pins:List (Addr×Obj)} {σ:St} {f:Addr} {o:Obj} {q:Str} {params:Arguments} {body:Expr} {scope:Scope} {cl:List (Str×Addr)} {x:Str} {zs:List Str} {is:List Nat} {te:TE} {Fin:V→Hp→Prop} {kw:List (Str×Value)} {l I S:Addr} {vs:List V}
theorem less_run {A:Around} {H:Hp} {s:Shared} {k y:V} {u w:Value} {b:Bool} {Q:Value→Shared→Prop} {E:Value→Shared→Prop} (J:Inv X pins σ H s) (hu:A.units+20<cLine) (h:LessV X.K H k y b) (r1:RelV k u) (r2:RelV y w) (hq:Q (.bool b) s):wpAny (model X.prog X.w) A (richCompare .Lt u w) Q E s:=by
  obtain ⟨d,e,i1,i2,ho,rfl⟩:=h
  exact ltAt_is J 20 hu r1 r2 i1 i2 ho X.prog X.w E Q hq
theorem minK_loop (fr:LFrees X x zs is scope cl) (hA:X.A.in1.frames=some X.stack) (hh:X.A.in1.handled=none) (hroom:X.A.in1.depth<recursionLimit) (hun:X.A.units+30<cLine)
    (hb:∀ (c:Addr) (ct u:Value),bindArgs (PySem.W.kla_fn "<lambda>" q params body scope cl ((X.mg "__name__").getD .none) (.ref c) ct) ⟨[u],[]⟩=pure [(x,u)])
    (he:∀ f c s H pins,PE (lamCx X (x::zs) q scope cl f c X.A.in1 s H pins) body te) (hlI:l≠I) (hSI:S≠I) (h0I:X.s₀.heap.objs.size≤I) (h0S:X.s₀.heap.objs.size≤S)
    (hpI:∀ p∈X.pn++(pins++[(f,o)]),p.1≠I) (hpS:∀ p∈X.pn++(pins++[(f,o)]),p.1≠S):∀ (r:List V) (j:Nat) (H:Hp) (s:Shared) (xb yb:V) (vb kb:Value) (c:Nat) (oI:Obj),
    vs.drop j=r→j≤vs.length→Inv X (pins++[(f,o),(S,seqObj "list" #[vb,kb] c),(I,oI)]) σ H s→s.heap.IsListIter I l j→SqL X.K H l vs→LamIs X.mg H q params body scope cl o→RelV xb vb→RelV yb kb →
    minW X.K te (is.map fun i=>(σ[i]?).join) Fin r xb yb H →
    codeAny (model X.prog X.w) X.A (.builtin "min.loop" ⟨[.ref I,.ref f,.ref S],kw⟩) (fun res s'=>∃ u,res=.ok (.ret u)∧EP X pins σ Fin u s') s:=by
  have hname:(toString "min" ++ toString ".loop" : String) = "min.loop" := by decide
  intro r
  induction r with
  | nil =>
    intro j H s xb yb vb kb c oI hd hj J hit hq L rx ry h
    obtain ⟨its,rv,pl,_⟩:=J.list hq
    have hln:=rv.length
    have hjn:j=vs.length:=by
      have:=congrArg List.length hd
      rw [List.length_drop,List.length_nil] at this
      omega
    have W:=Walks.list (prog:=X.prog) (w:=X.w) (A:=X.A.in1) hh I l hlI its.toArray
    have pS:=J.pin (S,seqObj "list" #[vb,kb] c) (List.mem_append_right _ (List.mem_append_right _ (List.mem_cons_of_mem _ List.mem_cons_self)))
    refine codeAny_builtin PySem.F.entry_min_loop ?_
    rw [Around.under_plainId PySem.F.plain_min_loop _]
    show wpAny _ X.A.in1 (seqItems? (.ref S) >>= _) _ _ _
    refine wpAny_bind (wpAny_seqItems pS.1 rfl ?_)
    show wpAny _ X.A.in1 (tryCatch (pyNext (.ref I)) _ >>= _) _ _ _
    refine wpAny_bind (wpAny_tryCatch (W.done _ _ _ ⟨by rw [List.size_toArray,← hln,← hjn]; exact hit,pl.isList⟩ fun h' tk' hk'=>?_))
    have hS':=hk' S _ (by simpa using hSI) pS.1
    show wpAny _ X.A.in1 (updateSeq S (fun _=>#[]) >>= _) _ _ _
    refine wpAny_bind ?_
    refine wpAny_updateSeq hS' rfl (wpAny_bind (wpAny_letGo (wpAny_pure ?_)))
    have J0:Inv X ((pins++[(f,o)])++[(S,seqObj "list" #[vb,kb] c)]) σ H { s with heap:=h',toks:=tk' }:=by
      have J1:Inv X ((pins++[(f,o)])++[(S,seqObj "list" #[vb,kb] c)]) σ H s:=J.pins_of fun p hp=>J.pin p (List.mem_append_right _ (by simp at hp ⊢; rcases hp with hp | hp | hp <;> simp [hp]))
      obtain ⟨p1,p2,p3,p4,p5⟩:=J.pin (I,oI) (List.mem_append_right _ (by simp))
      refine J1.turned (fun b o hb e=>hk' b o (by simpa using hb) e) p2 p3 (.inr h0I) (fun x c e z=>?_) fun p hp z=>?_
      · obtain ⟨v,o,ho,hd⟩:=J.cell x c e
        rw [z,p1] at ho
        cases ho
        exact p5 v hd
      · rw [← List.append_assoc] at hp
        rcases List.mem_append.mp hp with hp | hp
        · exact hpI p hp z
        · cases List.mem_singleton.mp hp
          exact hSI z
    have J2:=J0.poke (P1:=[]) (h':=h'.update S (Obj.mapSeq fun _=>#[])) (t':=tk') (oa':=seqObj "list" #[] (c+1)) (fun b o hb e=>(Heap.get?_update_other _ _ (Ne.symm hb)).trans e) (Heap.get?_update_self _ hS' rfl) (fun v z=>by cases z) h0S (by rw [List.append_nil]; exact hpS)
    exact ⟨vb,rfl,xb,H,J2.pins_of fun p hp=>J2.pin p (List.mem_append_right _ (by simp [hp])),rx,h⟩
  | cons v r ih =>
    intro j H s xb yb vb kb c oI hd hj J hit hq L rx ry h
    obtain ⟨its,rv,pl,_⟩:=J.list hq
    have hln:=rv.length
    have hjn:j<vs.length:=by
      have:=congrArg List.length hd
      rw [List.length_drop,List.length_cons] at this
      omega
    have hvj:vs[j]?=some v:=by
      have:=congrArg (fun l=>l[0]?) hd
      simpa using this
    have hd':vs.drop (j+1)=r:=by
      rw [List.drop_eq_getElem_cons hjn] at hd
      injection hd
    obtain ⟨u0,eu0,ru0⟩:=rv.get hvj
    have W:=Walks.list (prog:=X.prog) (w:=X.w) (A:=X.A.in1) hh I l hlI its.toArray
    have pS:=J.pin (S,seqObj "list" #[vb,kb] c) (List.mem_append_right _ (List.mem_append_right _ (List.mem_cons_of_mem _ List.mem_cons_self)))
    refine codeAny_builtin PySem.F.entry_min_loop ?_
    rw [Around.under_plainId PySem.F.plain_min_loop _]
    show wpAny _ X.A.in1 (seqItems? (.ref S) >>= _) _ _ _
    refine wpAny_bind (wpAny_seqItems pS.1 rfl ?_)
    show wpAny _ X.A.in1 (tryCatch (pyNext (.ref I)) _ >>= _) _ _ _
    refine wpAny_bind (wpAny_tryCatch (W.item j _ _ _ (by rw [List.size_toArray]; omega) ⟨hit,pl.isList⟩ fun v1 h1 tk1 hP hst1 hk1=>?_))
    have ev1:v1=u0:=by
      have:its[j]?=some v1:=by simpa using hP
      rw [eu0] at this
      exact (Option.some.inj this).symm
    subst ev1
    obtain ⟨oI1,hoI1,hoc1,hod1⟩:=id hst1.1
    have J1:Inv X (pins++[(f,o),(S,seqObj "list" #[vb,kb] c),(I,oI1)]) σ H { s with heap:=h1,toks:=tk1 }:=by
      have:=Inv.poke (P0:=pins++[(f,o),(S,seqObj "list" #[vb,kb] c)]) (P1:=[]) (a:=I) (oa:=oI) (h':=h1) (t':=tk1) (oa':=oI1) (by simpa using J) (fun b o hb e=>hk1 b o (by simpa using hb) e) hoI1 (fun v z=>by rw [hod1] at z; cases z) h0I (fun p hp z=>by
        simp at hp
        rcases hp with hp | hp | hp | hp
        · exact hpI p (by simp [hp]) z
        · exact hpI p (by simp [hp]) z
        · exact hpI p (by simp [hp]) z
        · rw [hp] at z; exact hSI z)
      simpa using this
    show wpAny _ X.A.in1 (tryCatch (holding [v1] (call (.ref f) [v1])) _ >>= _) _ _ _
    refine wpAny_bind (wpAny_tryCatch (wpAny_holding (wpAny_mono (lam_call J1 L (List.mem_append_right _ (List.mem_append_right _ List.mem_cons_self)) fr hA hh hroom hb he ru0 h) (fun k2 s2 hk2=>?_) fun _ _ hF=>hF.elim)))
    obtain ⟨⟨y2,H2,J2,ry2,g2,bl,hless,hw⟩,_⟩:=hk2
    show wpAny _ X.A.in1 (tryCatch (holding [v1,k2] (richCompare .Lt k2 kb >>= _)) _ >>= _) _ _ _
    refine wpAny_bind (wpAny_tryCatch (wpAny_holding (wpAny_bind (less_run J2 (by show X.A.units+1+20 < _; omega) hless ry2 ry ?_))))
    refine wpAny_bind (wpAny_holding (wpAny_truthy_bool ?_))
    refine wpAny_bind (wpAny_letGo (wpAny_pure ?_))
    have pS2:=J2.pin (S,seqObj "list" #[vb,kb] c) (List.mem_append_right _ (List.mem_append_right _ (List.mem_cons_of_mem _ List.mem_cons_self)))
    have pI2:=J2.pin (I,oI1) (List.mem_append_right _ (List.mem_append_right _ (List.mem_cons_of_mem _ (List.mem_cons_of_mem _ List.mem_cons_self))))
    cases bl with
    | true =>
      simp only [if_true]
      refine wpAny_bind ?_
      refine wpAny_updateSeq pS2.1 rfl (wpAny_bind (wpAny_letGo ?_))
      rw [hname]
      obtain ⟨c2,hc2⟩:∃ c2,(s2.heap.update S (Obj.mapSeq fun _=>#[v1,k2])).get? S=some (seqObj "list" #[v1,k2] c2):=⟨_,get?_update_seq pS2.1 fun _=>#[v1,k2]⟩
      have J3:=Inv.poke (P0:=pins++[(f,o)]) (P1:=[(I,oI1)]) (a:=S) (oa:=seqObj "list" #[vb,kb] c) (h':=s2.heap.update S (Obj.mapSeq fun _=>#[v1,k2])) (t':=s2.toks) (oa':=seqObj "list" #[v1,k2] c2) (by simpa using J2) (fun b o hb e=>(Heap.get?_update_other _ _ (Ne.symm hb)).trans e) hc2 (fun v z=>by cases z) h0S (fun p hp z=>by
        rw [← List.append_assoc] at hp
        rcases List.mem_append.mp hp with hp | hp
        · exact hpS p hp z
        · cases List.mem_singleton.mp hp
          exact hSI z.symm)
      refine wpAny_pure ⟨plainId_quiet PySem.F.plain_min_loop _,ih (j+1) H2 _ v y2 v1 k2 c2 oI1 hd' hjn (by simpa using J3) ⟨oI1,(Heap.get?_update_other _ _ hSI).trans pI2.1,hoc1,hod1⟩ (hq.grow g2) (L.grow g2) ru0 ry2 (by simpa using hw)⟩
    | false =>
      simp only [Bool.false_eq_true,if_false]
      refine wpAny_bind (wpAny_letGo ?_)
      rw [hname]
      refine wpAny_pure ⟨plainId_quiet PySem.F.plain_min_loop _,ih (j+1) H2 _ xb yb vb kb c oI1 hd' hjn J2 ⟨oI1,pI2.1,hoc1,hod1⟩ (hq.grow g2) (L.grow g2) rx ry (by simpa using hw)⟩
theorem minK_run {H:Hp} {s:Shared} {v0:V} {r0:List V} {dfl:Option Value} (J:Inv X (pins++[(f,o)]) σ H s) (L:LamIs X.mg H q params body scope cl o)
    (fr:LFrees X x zs is scope cl) (hA:X.A.in1.frames=some X.stack) (hh:X.A.in1.handled=none) (hroom:X.A.in1.depth<recursionLimit) (hun:X.A.units+30<cLine)
    (hb:∀ (c:Addr) (ct u:Value),bindArgs (PySem.W.kla_fn "<lambda>" q params body scope cl ((X.mg "__name__").getD .none) (.ref c) ct) ⟨[u],[]⟩=pure [(x,u)])
    (he:∀ f c s H pins,PE (lamCx X (x::zs) q scope cl f c X.A.in1 s H pins) body te)
    (hargs:argsOk "min" ⟨[.ref l],kw⟩) (hbind:Builtin.Builtins.bindParams "min" ["key", "default"] 0 ⟨[],kw⟩=pure [some (.ref f),dfl])
    (hq:SqL X.K H l vs) (hv:vs=v0::r0) (h:te (some v0::is.map fun i=>(σ[i]?).join) H fun k H'=>Grow H H'∧minW X.K te (is.map fun i=>(σ[i]?).join) Fin r0 v0 k H') :
    wpAny (model X.prog X.w) X.A (call (.builtin "min") [.ref l] kw) (EP X pins σ Fin) X.xe s:=by
  have hname:(toString "min" ++ toString ".loop" : String) = "min.loop" := by decide
  obtain ⟨its,rv,pl,_⟩:=J.list hq
  have hln:=rv.length
  obtain ⟨ol,hol,_⟩:=id pl.isList
  have hll:l<s.heap.objs.size:=Heap.lt_size hol
  refine PyProof.Rows.kmk_tree PySem.F.kind_min PySem.F.plain_min PySem.F.entry_min hargs ?_
  show wpAny _ X.A.in1 (Builtin.Builtins.bindParams "min" ["key", "default"] 0 ⟨[],kw⟩ >>= _) _ _ s
  refine wpAny_bind (wpAny_of_eq hbind ?_)
  refine wpAny_bind (wpAny_pure ?_)
  refine wpAny_bind (wpAny_pyIter_list pl.isList ?_)
  refine wpAny_bind (wpAny_newList ?_ (Nat.zero_le _))
  rw [hname]
  generalize hit0:({ cls:=.type "list_iterator", data:=.fields #[.ref l,.int 0 0] }:Obj)=it0
  have hSz:(s.heap.push it0).objs.size=s.heap.objs.size+1:=size_push' ..
  generalize hSS:(s.heap.push it0).objs.size=S at hSz
  have gI:((s.heap.push it0).push (seqObj "list" #[] 0)).get? s.heap.objs.size=some it0:=Heap.get?_push_of_some _ (Heap.get?_push_size _ (by rw [← hit0]; rfl))
  have gS:((s.heap.push it0).push (seqObj "list" #[] 0)).get? S=some (seqObj "list" #[] 0):=by rw [← hSS]; exact Heap.get?_push_size _ rfl
  have kp:∀ b u,s.heap.get? b=some u→((s.heap.push it0).push (seqObj "list" #[] 0)).get? b=some u:=fun b u e=>Heap.get?_push_of_some _ (Heap.get?_push_of_some _ e)
  generalize (s.heap.push it0).push (seqObj "list" #[] 0)=g at *
  have hsz:=J.sz
  have Ls:X.env.locals<s.heap.objs.size:=J.lt
  have lo:∀ p∈X.pn++(pins++[(f,o)]),p.1<s.heap.objs.size:=fun p hp=>Heap.lt_size (J.pin p hp).1
  have J1:Inv X (pins++[(f,o)]) σ H { s with heap:=g,toks:=s.toks }:=J.kept kp
  have fS:H S=none:=J.hok.fresh (by rw [hSz]; exact Nat.le_succ _)
  have fI:H s.heap.objs.size=none:=J.hok.fresh (Nat.le_refl _)
  have J2:Inv X (pins++[(f,o),(S,seqObj "list" #[] 0),(s.heap.objs.size,it0)]) σ H { s with heap:=g,toks:=s.toks }:=J1.pins_of fun p hp=>by
    have hp:p∈(pins++[(f,o)])∨p=(S,seqObj "list" #[] 0)∨p=(s.heap.objs.size,it0):=by simp at hp ⊢; rcases hp with hp | hp | hp | hp <;> simp [hp]
    rcases hp with hp | rfl | rfl
    · exact J1.pin p (List.mem_append_right _ hp)
    · exact ⟨gS,fS,by rw [hSz]; exact Nat.ne_of_gt (Nat.lt_succ_of_lt Ls),J.nofs (by rw [hSz]; exact Nat.le_succ _),fun v z=>by cases z⟩
    · exact ⟨gI,fI,Nat.ne_of_gt Ls,J.nofs (Nat.le_refl _),fun v z=>by rw [← hit0] at z; cases z⟩
  have hlI:l≠s.heap.objs.size:=Nat.ne_of_lt hll
  have hSI:S≠s.heap.objs.size:=by rw [hSz]; exact Nat.ne_of_gt (Nat.lt_succ_self _)
  have h0I:X.s₀.heap.objs.size≤s.heap.objs.size:=hsz
  have h0S:X.s₀.heap.objs.size≤S:=by rw [hSz]; exact Nat.le_succ_of_le hsz
  have hpI:∀ p∈X.pn++(pins++[(f,o)]),p.1≠s.heap.objs.size:=fun p hp=>Nat.ne_of_lt (lo p hp)
  have hpS:∀ p∈X.pn++(pins++[(f,o)]),p.1≠S:=fun p hp=>by rw [hSz]; exact Nat.ne_of_lt (Nat.lt_succ_of_lt (lo p hp))
  have W:=Walks.list (prog:=X.prog) (w:=X.w) (A:=X.A.in1) hh s.heap.objs.size l hlI its.toArray
  have hv0:vs[0]?=some v0:=by rw [hv]; rfl
  obtain ⟨u0,eu0,ru0⟩:=rv.get hv0
  refine wpAny_pure ⟨plainId_quiet PySem.F.plain_min_loop _,?_⟩
  refine codeAny_mono (R:=fun res s'=>∃ u,res=.ok (.ret u)∧EP X pins σ Fin u s') ?_ fun res s' ⟨u,e,hq⟩=>by subst e; exact hq
  refine codeAny_builtin PySem.F.entry_min_loop ?_
  rw [Around.under_plainId PySem.F.plain_min_loop _]
  show wpAny _ X.A.in1 (seqItems? (.ref S) >>= _) _ _ _
  refine wpAny_bind (wpAny_seqItems gS rfl ?_)
  show wpAny _ X.A.in1 (tryCatch (pyNext (.ref s.heap.objs.size)) _ >>= _) _ _ _
  refine wpAny_bind (wpAny_tryCatch (W.item 0 _ _ _ (by rw [List.size_toArray,← hln,hv]; exact Nat.succ_pos _) ⟨⟨_,gI,by rw [← hit0],by rw [← hit0]; rfl⟩,pl.isList.at fun o e=>kp _ _ e⟩ fun v1 h1 tk1 hP hst1 hk1=>?_))
  have ev1:v1=u0:=by
    have:its[0]?=some v1:=by simpa using hP
    rw [eu0] at this
    exact (Option.some.inj this).symm
  subst ev1
  obtain ⟨oI1,hoI1,hoc1,hod1⟩:=id hst1.1
  have J3:Inv X (pins++[(f,o),(S,seqObj "list" #[] 0),(s.heap.objs.size,oI1)]) σ H { s with heap:=h1,toks:=tk1 }:=by
    have:=Inv.poke (P0:=pins++[(f,o),(S,seqObj "list" #[] 0)]) (P1:=[]) (a:=s.heap.objs.size) (oa:=it0) (h':=h1) (t':=tk1) (oa':=oI1) (by simpa using J2) (fun b o hb e=>hk1 b o (by simpa using hb) e) hoI1 (fun v z=>by rw [hod1] at z; cases z) h0I (fun p hp z=>by
      simp at hp
      rcases hp with hp | hp | hp | hp
      · exact hpI p (by simp [hp]) z
      · exact hpI p (by simp [hp]) z
      · exact hpI p (by simp [hp]) z
      · rw [hp] at z; exact hSI z)
    simpa using this
  show wpAny _ X.A.in1 (tryCatch (holding [v1] (call (.ref f) [v1])) _ >>= _) _ _ _
  refine wpAny_bind (wpAny_tryCatch (wpAny_holding (wpAny_mono (lam_call J3 L (List.mem_append_right _ (List.mem_append_right _ List.mem_cons_self)) fr hA hh hroom hb he ru0 h) (fun k2 s2 hk2=>?_) fun _ _ hF=>hF.elim)))
  obtain ⟨⟨y2,H2,J4,ry2,g2,hw⟩,_⟩:=hk2
  have pS2:=J4.pin (S,seqObj "list" #[] 0) (List.mem_append_right _ (List.mem_append_right _ (List.mem_cons_of_mem _ List.mem_cons_self)))
  have pI2:=J4.pin (s.heap.objs.size,oI1) (List.mem_append_right _ (List.mem_append_right _ (List.mem_cons_of_mem _ (List.mem_cons_of_mem _ List.mem_cons_self))))
  show wpAny _ X.A.in1 (updateSeq S (fun _=>#[v1,k2]) >>= _) _ _ _
  refine wpAny_bind ?_
  refine wpAny_updateSeq pS2.1 rfl ?_
  rw [hname]
  obtain ⟨c2,hc2⟩:∃ c2,(s2.heap.update S (Obj.mapSeq fun _=>#[v1,k2])).get? S=some (seqObj "list" #[v1,k2] c2):=⟨_,get?_update_seq pS2.1 fun _=>#[v1,k2]⟩
  have J5:=Inv.poke (P0:=pins++[(f,o)]) (P1:=[(s.heap.objs.size,oI1)]) (a:=S) (oa:=seqObj "list" #[] 0) (h':=s2.heap.update S (Obj.mapSeq fun _=>#[v1,k2])) (t':=s2.toks) (oa':=seqObj "list" #[v1,k2] c2) (by simpa using J4) (fun b o hb e=>(Heap.get?_update_other _ _ (Ne.symm hb)).trans e) hc2 (fun v z=>by cases z) h0S (fun p hp z=>by
    rw [← List.append_assoc] at hp
    rcases List.mem_append.mp hp with hp | hp
    · exact hpS p hp z
    · cases List.mem_singleton.mp hp
      exact hSI z.symm)
  refine wpAny_pure ⟨plainId_quiet PySem.F.plain_min_loop _,minK_loop (vs:=vs) fr hA hh hroom hun hb he hlI hSI h0I h0S hpI hpS r0 1 H2 _ v0 y2 v1 k2 _ oI1 (by rw [hv]; rfl) (by rw [hv]; exact Nat.succ_le_succ (Nat.zero_le _)) (by simpa using J5) ⟨oI1,(Heap.get?_update_other _ _ hSI).trans pI2.1,hoc1,hod1⟩ (hq.grow g2) (L.grow g2) ru0 ry2 hw⟩
end
end L2
namespace L2
open PySem PySem.Spec PyProof.Rows VL
section
variable {X:Cx} {pins:List (Addr×Obj)} {σ:St} {q:Str} {params:Arguments} {body:Expr} {scope:Scope} {cl:List (Str×Addr)} {x:Str} {zs:List Str} {is:List Nat} {te:TE}
def tMinK (K:PySem.W.Frag) (P:Addr) (q:Str) (tl te:TE) (is:List Nat):TE:=fun σ H Q=>tl σ H fun v H1=>∃ (a:Addr) (v0:V) (r0:List V) (ps:Array Value) (t:Tok),v=.ref a∧SqL K H1 a (v0::r0)∧H1 P=some (.tbl ps)∧ps[0]?=some (.str q t) ∧
  ∀ H2,Grow H1 H2→te (some v0::is.map fun i=>(σ[i]?).join) H2 fun k H'=>Grow H2 H'∧minW K te (is.map fun i=>(σ[i]?).join) Q r0 v0 k H'
theorem args_minK (a v:Value):argsOk "min" ⟨[a],[(Str.ofString "key", v)]⟩:=by unfold argsOk; kernel_rfl
theorem pe_minK {K:PySem.W.Frag} {c P:Addr} {l:Expr} {tl:TE} {p lpos kpos cpos:Pos} {k:Nat} (hK:X.K=K) (lo:LamOk X c P) (hr:Room k X.A) (hc:X.calm=true) (hg:Gl X "min") (hm:X.mg "min" = none) (hl:PE X l tl) (fr:LFrees X x zs is scope cl)
    (hq:X.env.qual ++ "<lambda>" = q) (hcl:closureFor scope X.env=pure cl)
    (he:∀ f c s H pins,PE (lamCx X (x::zs) q scope cl f c X.A.in1 s H pins) body te)
    (hdef:defaultsOf params X.env=([],[]):=by rfl)
    (hb:∀ (c:Addr) (ct u:Value),bindArgs (PySem.W.kla_fn "<lambda>" q params body scope cl ((X.mg "__name__").getD .none) (.ref c) ct) ⟨[u],[]⟩=pure [(x,u)]:=by intro _ _ _; rfl)
    (hst:starEach [l] X.env=[(false,eval l X.env)]:=by rfl) (hv:bootBuiltins "min" = some (.builtin "min"):=by decide +kernel) :
    PE X (.Call (.Name "min" p) [l] [⟨some "key", .Lambda params body scope lpos,kpos⟩] cpos) (tMinK K P q tl te is):=by
  subst hK
  intro pins s σ H Q I h
  refine wpAny_Call_Name_kw (ld_blt I hg hm hv ?_ (by decide) (by decide))
  refine PyProof.Rows.callWith_kw (e:=l) (rest:=[]) ?_ (by rw [hst]; rfl) (by rw [hst]; rfl) rfl rfl
  have ha:=pa_cons hl pa_nil (hs:=by rw [hst]; rfl)
  refine thn (ha cpos pins s σ H (fun xs H1=>match xs with
    | [v]=>∃ (a:Addr) (v0:V) (r0:List V) (ps:Array Value) (t:Tok),v=.ref a∧SqL X.K H1 a (v0::r0)∧H1 P=some (.tbl ps)∧ps[0]?=some (.str q t)∧∀ H2,Grow H1 H2→te (some v0::is.map fun i=>(σ[i]?).join) H2 fun k H'=>Grow H2 H'∧minW X.K te (is.map fun i=>(σ[i]?).join) Q r0 v0 k H'
    | _=>False) I h) fun us s1 ⟨vs0,H1,I1,r1,q1⟩=>?_
  match vs0,q1 with
  | [v],q1 =>
  obtain ⟨a,v0,r0,ps,t,rfl,hsq,hP,h0,hw⟩:=q1
  cases r1 with
  | cons r1 r2 =>
  cases r2
  cases (show _=Value.ref a from r1)
  show wpAny _ _ (evalAll [(do let v ← eval (.Lambda params body scope lpos) X.env; standAt cpos; pure v)]) _ _ s1
  refine wpAny_evalAll_cons (wpAny_bind (thn (lam_make lo I1 hP h0 hq hcl hdef) fun u s2 ⟨f,o,H2,eu,I2,gr,pf,s0f,L⟩=>wpAny_bind (wpAny_standAt (wpAny_pure (wpAny_evalAll_nil ?_)))))
  subst eu
  have room:X.A.in1.depth<recursionLimit:=by
    have:=hr.dp
    show X.A.depth < _
    omega
  have hh:=I.ok.hd hc
  have hun:=hr.un
  exact minK_run I2 L fr I.ok.frames hh room (by omega) hb he (args_minK _ _) rfl (hsq.grow gr) rfl (hw H2 gr)
end
theorem call_sortR {X:Cx} {K:PySem.W.Frag} (hK:X.K=K) (hx:X.ex=[]):CallKR X (.builtin "sorted") ["reverse"] (fun xs zs H Q=>∃ (a:Addr) (ns:List Int),xs=[.ref a]∧zs=[.bl true]∧SqL K H a (ns.map V.int)∧ns.length<64∧∀ ms:List Int,ms.Perm ns→ms.Pairwise (fun x y=>y≤x)→∀ D,H D=none→Q (.ref D) (upd H D (.lst (ms.map V.int)))):=by
  subst hK
  intro pins s σ H xs zs us ws Q I r rz h
  obtain ⟨a,ns,rfl,rfl,hq,h64,q⟩:=h
  cases r with
  | cons r1 r =>
    cases r
    cases (show _=Value.ref a from r1)
    cases rz with
    | cons r2 r =>
      cases r
      cases (show _=Value.bool true from r2)
      obtain ⟨its,rv,pl,_⟩:=I.list hq
      obtain ⟨m,F⟩:=I.fr
      refine PyProof.Rows.ksk_rev (b:=true) F (news_all (h:=s.heap)) pl.isList (intsAre_of rv) h64 fun D vs' ns' c h' F' N' hlt hi hl pm up _=>?_
      have nD:=N' _ List.mem_cons_self
      have hD:s.heap.get? D=none:=by
        cases e:s.heap.get? D with
        | none=>rfl
        | some o=>exact absurd (hlt (D,o) (mem_allNews nD.2.1 nD.2.2 e)) (Nat.lt_irrefl _)
      have hn:H D=none:=(I.out hx hD).h
      refine ⟨.ref D,upd H D (.lst (ns'.map V.int)),I.newsLaid (t':=s.toks) hx F F' N' hD ?_,rfl,q ns' pm (up.imp fun h=>by simpa using h) D hn⟩
      exact ⟨by rw [List.length_map,hl]; have:=sizeLine_eq; omega,vs',c,vals_ints hi,nD.1⟩
end L2
namespace VL
open PySem L2
open Classical
noncomputable section
variable [Tabs] {K:PySem.W.Frag}
def bestBy {α:Type} (lt:α→α→Bool):α→List α→α
  | b,[]=>b
  | b,v::r=>bestBy lt (if lt v b=true then v else b) r
omit [Tabs] in
theorem bestBy_mem {α:Type} {lt:α→α→Bool}:∀ {b:α} {l:List α},bestBy lt b l∈b::l
  | b,[]=>List.mem_singleton.mpr rfl
  | b,v::r=>by
    have h:=bestBy_mem (lt:=lt) (b:=if lt v b=true then v else b) (l:=r)
    show bestBy lt (if lt v b=true then v else b) r∈_
    rcases List.mem_cons.mp h with e | h
    · rw [e]
      split
      · exact List.mem_cons_of_mem _ List.mem_cons_self
      · exact List.mem_cons_self
    · exact List.mem_cons_of_mem _ (List.mem_cons_of_mem _ h)
omit [Tabs] in
theorem bestBy_congr {α:Type} {lt lt':α→α→Bool}:∀ {b:α} {l:List α},(∀ x∈b::l,∀ y∈b::l,lt x y=lt' x y)→bestBy lt b l=bestBy lt' b l
  | b,[],_=>rfl
  | b,v::r,h=>by
    show bestBy lt (if lt v b=true then v else b) r=bestBy lt' (if lt' v b=true then v else b) r
    rw [h v (by simp) b (by simp)]
    refine bestBy_congr fun x hx y hy=>h x ?_ y ?_
    · rcases List.mem_cons.mp hx with e | hx
      · rw [e]; split <;> simp
      · simp [hx]
    · rcases List.mem_cons.mp hy with e | hy
      · rw [e]; split <;> simp
      · simp [hy]
omit [Tabs] in
theorem bestBy_map {α β:Type} (f:α→β) (lt:β→β→Bool):∀ (b:α) (l:List α),bestBy lt (f b) (l.map f)=f (bestBy (fun x y=>lt (f x) (f y)) b l)
  | b,[]=>rfl
  | b,v::r=>by
    show bestBy lt (if lt (f v) (f b)=true then f v else f b) (r.map f)=f (bestBy _ (if lt (f v) (f b)=true then v else b) r)
    rw [← bestBy_map f lt _ r]
    congr 1
    split <;> rfl
noncomputable def dMinK (cs:List Nat) (a e:DE):DE:=fun ρ=>match asL a ρ with
  | some (x::r)=>if h:∃ kf:D→D,(∀ d∈x::r,e (kR cs ρ d)=some (kf d))∧∀ d∈x::r,∀ d'∈x::r,ordb 20 (kf d) (kf d')=true then some (bestBy (fun v b=>ltD 20 (h.choose v) (h.choose b)) x r) else none
  | _=>none
omit [Tabs] in
theorem dMinK_of {cs:List Nat} {a e:DE} {ρ:Rho} {x:D} {r:List D} (kf:D→D) (h:asL a ρ=some (x::r)) (hk:∀ d∈x::r,e (kR cs ρ d)=some (kf d)) (ho:∀ d∈x::r,∀ d'∈x::r,ordb 20 (kf d) (kf d')=true):dMinK cs a e ρ=some (bestBy (fun v b=>ltD 20 (kf v) (kf b)) x r):=by
  have hh:∃ kf:D→D,(∀ d∈x::r,e (kR cs ρ d)=some (kf d))∧∀ d∈x::r,∀ d'∈x::r,ordb 20 (kf d) (kf d')=true:=⟨kf,hk,ho⟩
  unfold dMinK
  rw [h]
  show (if h:∃ kf:D→D,(∀ d∈x::r,e (kR cs ρ d)=some (kf d))∧∀ d∈x::r,∀ d'∈x::r,ordb 20 (kf d) (kf d')=true then some (bestBy (fun v b=>ltD 20 (h.choose v) (h.choose b)) x r) else none)=_
  rw [dif_pos hh]
  have eq:∀ d∈x::r,hh.choose d=kf d:=fun d hd=>by
    have h1:=hh.choose_spec.1 d hd
    rw [hk d hd] at h1
    exact (Option.some.inj h1).symm
  exact congrArg some (bestBy_congr fun v hv b hb=>by rw [eq v hv,eq b hb])
omit [Tabs] in
theorem dMinK_some {cs:List Nat} {a e:DE} {ρ:Rho} {d:D} (h:dMinK cs a e ρ=some d):∃ (x:D) (r:List D) (kf:D→D),asL a ρ=some (x::r)∧(∀ d∈x::r,e (kR cs ρ d)=some (kf d))∧(∀ d∈x::r,∀ d'∈x::r,ordb 20 (kf d) (kf d')=true)∧d=bestBy (fun v b=>ltD 20 (kf v) (kf b)) x r:=by
  unfold dMinK at h
  split at h
  · rename_i x r e1
    split at h
    · rename_i hh
      cases h
      exact ⟨x,r,hh.choose,e1,hh.choose_spec.1,hh.choose_spec.2,rfl⟩
    · cases h
  · cases h
theorem Is.no {H:Hp} {Z:Addr→Prop} {v:V} {d:D} (h:Is K H Z v d):Is K H No v d:=Is.kp (Kp.less fun a z=>z.elim) h
theorem si_minK {P:Addr} {q:Str} {cs:List Nat} {tl te:TE} {a e:DE} (hP:(P,q)∈Tabs.ts) (ha:SemI K tl a) (he:SemI K te e):SemI K (tMinK K P q tl te cs) (dMinK cs a e):=fun {B Z os ρ σ H Q d} f qq k=>by
  obtain ⟨x,r,kf,e0,hk,ho,rfl⟩:=dMinK_some qq
  obtain ⟨d0,e0,ed⟩:=asL_some e0
  show tl σ H _
  refine ha f e0 fun v H1 s1 i1=>?_
  obtain ⟨p,vs,rfl,hlv,hln,hr⟩:=i1.seq ed
  obtain ⟨hq,il⟩:=hr H1 _ Kp.refl
  have f1:=f.grow s1
  obtain ⟨t,eP⟩:=f1.tabH _ hP
  cases il with
  | @cons v0 _ r0 _ iv0 ir0 =>
  refine ⟨p,v0,r0,_,t,rfl,hq,eP,rfl,fun H2 gr=>?_⟩
  have step:∀ (v:V) (dv:D) (H3:Hp) (Q':VK),Same H1 H3→Is K H1 (tot Z os) v dv→dv∈x::r→(∀ k H4,Same H3 H4→Is K H4 No k (kf dv)→Q' k H4)→te (some v::cs.map fun i=>(σ[i]?).join) H3 Q':=by
    intro v dv H3 Q' s3 iv hdm hQ'
    have ef:=blockFrZ (k:=1) (cs:=cs) f1 s3 (W:=tot Z os) (fun a z=>let ⟨o,e⟩:=f1.tin a z; ⟨o,s3 _ _ e⟩) (Kp.same s3)
    have hg:SemG K true (gName 0) (gN true 0):=sg_name 0
    have er:ER K true H1 H3 (tot (tot Z os) fun _=>[]) v dv:=Is.kp (Kp.less fun a z=>z.elim id fun ⟨_,w⟩=>by cases w) (iv.same s3)
    refine hg (Q:=fun σ2 H2=>te σ2 H2 Q') ef er (show gN true 0 dv (VL.r0 1 cs ρ)=some (kR cs ρ dv) from rfl) fun os1 σ1 fr1 _=>?_
    exact he fr1 (hk dv hdm) fun u H4 s4 i4=>hQ' u H4 s4 i4.no
  have key:∀ (rv:List V) (dr:List D) (xb yb:V) (db:D) (H3:Hp),Same H1 H3→IsL K H1 (tot Z os) rv dr→(∀ d∈dr,d∈x::r)→db∈x::r→Is K H1 (tot Z os) xb db→Is K H3 No yb (kf db)→(∀ v H',Same H H'→Is K H' (tot Z os) v (bestBy (fun v b=>ltD 20 (kf v) (kf b)) db dr)→Q v H')→minW K te (cs.map fun i=>(σ[i]?).join) Q rv xb yb H3:=by
    intro rv
    induction rv with
    | nil =>
      intro dr xb yb db H3 s3 il3 _ _ ib iy k
      cases il3
      exact k xb H3 (s1.trans s3) (ib.same s3)
    | cons v rv ih =>
      intro dr xb yb db H3 s3 il3 hsub hdb ib iy k
      cases il3 with
      | @cons _ dv _ dr' iv ir =>
        have hdv:=hsub dv List.mem_cons_self
        refine step v dv H3 _ s3 iv hdv fun kk H4 s4 ik=>⟨s4,ltD 20 (kf dv) (kf db),⟨kf dv,kf db,ik,iy.same s4,ho dv hdv db hdb,rfl⟩,?_⟩
        have hk2:∀ v H',Same H H'→Is K H' (tot Z os) v (bestBy (fun v b=>ltD 20 (kf v) (kf b)) (if ltD 20 (kf dv) (kf db)=true then dv else db) dr')→Q v H':=k
        cases hb:ltD 20 (kf dv) (kf db) with
        | true =>
          rw [hb] at hk2
          exact ih dr' v kk dv H4 (s3.trans s4) ir (fun d hd=>hsub d (List.mem_cons_of_mem _ hd)) hdv iv ik hk2
        | false =>
          rw [hb] at hk2
          exact ih dr' xb yb db H4 (s3.trans s4) ir (fun d hd=>hsub d (List.mem_cons_of_mem _ hd)) hdb ib (iy.same s4) hk2
  exact step v0 x H2 _ gr iv0 List.mem_cons_self fun kk H4 s4 ik=>⟨s4,key r0 r v0 kk x H4 (Same.trans gr s4) ir0 (fun d hd=>List.mem_cons_of_mem _ hd) List.mem_cons_self iv0 ik k⟩
def dnI (ns:List Int):List Int:=ns.mergeSort fun a b=>decide (b≤a)
omit [Tabs] in
theorem dnI_perm (ns:List Int):(dnI ns).Perm ns:=List.mergeSort_perm _ _
omit [Tabs] in
theorem dnI_dn (ns:List Int):(dnI ns).Pairwise fun a b=>b≤a:=by
  have h:=List.pairwise_mergeSort (le:=fun a b:Int=>decide (b≤a)) (fun a b c h1 h2=>by simp at *; omega) (fun a b=>by simp; omega) ns
  exact h.imp fun h=>by simpa using h
omit [Tabs] in
theorem dnI_uniq {xs ns:List Int} (p:xs.Perm ns) (h:xs.Pairwise fun a b=>b≤a):xs=dnI ns :=
  List.Perm.eq_of_pairwise (fun a b _ _ h1 h2=>by omega) h (dnI_dn ns) (p.trans (dnI_perm ns).symm)
noncomputable def dSrtR (a:DE):Rho→Option (List D):=fun ρ=>match asL a ρ with
  | some ds=>(match asInts ds with
    | some ns=>if ns.length<64 then some ((dnI ns).map D.int) else none
    | none=>none)
  | none=>none
omit [Tabs] in
theorem dSrtR_of {a:DE} {ρ:Rho} {ns:List Int} (h:asL a ρ=some (ns.map D.int)) (hl:ns.length<64):dSrtR a ρ=some ((dnI ns).map D.int):=by
  unfold dSrtR
  rw [h]
  dsimp only
  rw [asInts_map]
  exact if_pos hl
theorem sf_srtR {ta tb:TE} {a:DE} (ha:SemB K ta a) (hb:SemI K tb (dC (.bl true))):SemF K (tCBK (fun xs zs H Q=>∃ (a:Addr) (ns:List Int),xs=[.ref a]∧zs=[.bl true]∧SqL K H a (ns.map V.int)∧ns.length<64∧∀ ms:List Int,ms.Perm ns→ms.Pairwise (fun x y=>y≤x)→∀ D,H D=none→Q (.ref D) (upd H D (.lst (ms.map V.int)))) (tCons ta tNil) (tCons tb tNil)) (dSrtR a):=fun {B Z os ρ σ H Q es} f q k=>by
  unfold dSrtR at q
  split at q
  · rename_i ds e0
    split at q
    · rename_i ns e1
      split at q
      · rename_i hl
        cases q
        obtain ⟨d,e0,ed⟩:=asL_some e0
        refine ha f e0 fun v H1 s1 i1=>?_
        refine hb (f.grow s1) rfl fun u H2 s2 i2=>?_
        cases i2
        obtain ⟨p,vs,rfl,hlv,hn,hr⟩:=(i1.same s2).seq ed
        obtain ⟨hq,il⟩:=hr H2 _ Kp.refl
        have ei:=asInts_some e1
        subst ei
        have ev:=IsL.ints il
        subst ev
        refine ⟨p,ns,rfl,rfl,hq,hl,fun ms pm up D hD=>?_⟩
        rw [dnI_uniq pm up]
        have hs:sizeLine=16777216:=sizeLine_eq
        exact k D _ _ ((s1.trans s2).trans (same_new hD)) (Same.free (s1.trans s2) hD) upd_same (by rw [List.length_map,(dnI_perm ns).length_eq]; omega) (.ofInts _)
      · cases q
    · cases q
  · cases q
end
end VL
namespace L2
open PySem PySem.Spec PyProof.Rows
theorem int_ord (f:Nat→Int):Srt.Ord fun i j=>decide (f i<f j):=⟨fun a b c h1 h2=>by have:=of_decide_eq_false h1; have:=of_decide_eq_false h2; exact decide_eq_false (by omega),fun a b h=>by have:=of_decide_eq_true h; exact decide_eq_false (by omega)⟩
def FinI (b:Bool) (vs:List V) (Q:VK) (ks:List V) (H:Hp):Prop:=∃ kz:List Int,ks=kz.map V.int ∧
  ∀ idx:List Nat,idx.Perm (List.range kz.length)→(idx.Pairwise fun i j=>if b=true then kz.getD j 0≤kz.getD i 0 else kz.getD i 0≤kz.getD j 0)→∀ D,H D=none→Q (.ref D) (upd H D (.lst (idx.map fun i=>vs.getD i .non)))
section
variable {X:Cx} {pins:List (Addr×Obj)} {σ:St} {m:Str→Option Value} {kS f:Addr} {o:Obj} {q:Str} {params:Arguments} {body:Expr} {scope:Scope} {cl:List (Str×Addr)} {A:Around} {x:Str} {zs:List Str} {is:List Nat} {te:TE} {Fin:List V→Hp→Prop}
theorem FinI.g {b:Bool} {vs:List V} {Q:VK} {ks:List V} {H:Hp} (h:FinI b vs Q ks H) (hl:ks.length=vs.length):FinG X b vs Q ks H:=by
  obtain ⟨kz,rfl,qf⟩:=h
  rw [List.length_map] at hl
  refine ⟨fun i j=>decide ((PySem.W.katRev b kz).getD i 0<(PySem.W.katRev b kz).getD j 0),int_ord fun i=>(PySem.W.katRev b kz).getD i 0,fun pins σ s kvs J rk h2=>?_,fun p pm up D hD=>?_⟩
  · have hlz:kz.length=kvs.length:=by have:=rk.length; rw [List.length_map] at this; exact this
    have at0:∀ i,i<kz.length→∃ t,kvs[i]?=some (.int (kz.getD i 0) t):=fun i hi=>by
      have e:(kz.map V.int)[i]?=some (.int (kz.getD i 0)):=by rw [List.getElem?_map,List.getD_eq_getElem?_getD,List.getElem?_eq_getElem hi]; rfl
      obtain ⟨u,eu,t,rfl⟩:=rk.get e
      exact ⟨t,eu⟩
    have at1:∀ i,i<kz.length→∃ t,(PySem.W.katRev b kvs).getD i Value.none=.int ((PySem.W.katRev b kz).getD i 0) t:=fun i hi=>by
      cases b with
      | false =>
        obtain ⟨t,e⟩:=at0 i hi
        refine ⟨t,?_⟩
        show kvs.getD i Value.none=.int (kz.getD i 0) t
        rw [List.getD_eq_getElem?_getD,e]; rfl
      | true =>
        obtain ⟨t,e⟩:=at0 (kz.length-1-i) (by omega)
        refine ⟨t,?_⟩
        show kvs.reverse.getD i Value.none=.int (kz.reverse.getD i 0) t
        rw [List.getD_eq_getElem?_getD,List.getElem?_reverse (by omega),List.getD_eq_getElem?_getD,List.getElem?_reverse hi]
        rw [show kvs.length-1-i=kz.length-1-i by omega,e,← List.getD_eq_getElem?_getD]
        rfl
    refine ⟨_,fun Q' hq=>PySem.W.kas_kind (T:=.type "int") (by omega) (fun v hv=>?_) (by decide) (by decide) hq,fun i j C hi hj hC=>?_⟩
    · obtain ⟨i,hi⟩:=List.getElem?_of_mem hv
      have hil:i<kz.length:=by
        have:=(List.getElem?_eq_some_iff.mp hi).1
        omega
      obtain ⟨t,e⟩:=at0 i hil
      rw [hi] at e
      cases e
      exact PySem.W.Looks.of_pure rfl
    · obtain ⟨t,e⟩:=at1 i (by omega)
      obtain ⟨t',e'⟩:=at1 j (by omega)
      unfold PySem.W.kas_ask
      rw [e,e']
      exact PySem.W.kat_lt_int hC
  · rw [List.length_map] at pm
    have lt_:∀ i∈p,i<kz.length:=fun i hi=>List.mem_range.mp (pm.mem_iff.mp hi)
    have upw:p.Pairwise fun i j=>(PySem.W.katRev b kz).getD i 0≤(PySem.W.katRev b kz).getD j 0:=up.imp fun h=>by have:=of_decide_eq_false h; omega
    obtain ⟨idx,ix1,ix2,ix3⟩:∃ idx:List Nat,idx.Perm (List.range kz.length)∧(idx.Pairwise fun i j=>if b=true then kz.getD j 0≤kz.getD i 0 else kz.getD i 0≤kz.getD j 0)∧PySem.W.katRev b (p.map fun i=>(PySem.W.katRev b vs).getD i V.non)=idx.map fun i=>vs.getD i V.non:=by
      cases b with
      | false=>exact ⟨p,pm,upw.imp fun h=>h,rfl⟩
      | true =>
        have rr:∀ {α:Type} (l:List α) (d:α) (n i:Nat),l.length=n→i<n→l.reverse.getD i d=l.getD (n-1-i) d:=fun l d n i hn hi=>by
          rw [List.getD_eq_getElem?_getD,List.getElem?_reverse (by omega),List.getD_eq_getElem?_getD,hn]
        refine ⟨(p.map fun i=>kz.length-1-i).reverse,?_,?_,?_⟩
        · refine (List.reverse_perm _).trans ((pm.map fun i=>kz.length-1-i).trans ?_)
          have:(List.range kz.length).map (fun i=>kz.length-1-i)=(List.range kz.length).reverse:=by
            refine List.ext_getElem (by simp) fun i h1 h2=>?_
            rw [List.getElem_map,List.getElem_range,List.getElem_reverse,List.getElem_range,List.length_range]
          rw [this]
          exact List.reverse_perm _
        · rw [List.pairwise_reverse,List.pairwise_map]
          refine List.Pairwise.imp_of_mem (fun {i j} hi hj z=>?_) upw
          have z:kz.reverse.getD i 0≤kz.reverse.getD j 0:=z
          rw [rr kz 0 kz.length i rfl (lt_ i hi),rr kz 0 kz.length j rfl (lt_ j hj)] at z
          exact z
        · show (p.map fun i=>vs.reverse.getD i V.non).reverse=_
          rw [List.map_reverse,List.map_map]
          congr 1
          refine List.map_congr_left fun i hi=>?_
          exact rr vs V.non kz.length i hl.symm (lt_ i hi)
    rw [ix3]
    exact qf idx ix1 ix2 D hD
def tSortI (b:Bool) (K:PySem.W.Frag) (P:Addr) (q:Str) (tl te:TE) (is:List Nat):TE:=fun σ H Q=>tl σ H fun v H1=>∃ (a:Addr) (vs:List V) (ps:Array Value) (t:Tok),v=.ref a∧SqL K H1 a vs∧vs.length<64∧H1 P=some (.tbl ps)∧ps[0]?=some (.str q t) ∧
  ∀ H2,Grow H1 H2→keysW te (is.map fun i=>(σ[i]?).join) (FinI b vs Q) vs [] H2
theorem pe_sortIR {K:PySem.W.Frag} {c P:Addr} {l:Expr} {tl:TE} {p lpos kpos cpos kpos2:Pos} {eT:Expr} {tT:TE} {k:Nat} (hK:X.K=K) (lo:LamOk X c P) (hr:Room k X.A) (hc:X.calm=true) (hg:Gl X "sorted") (hm:X.mg "sorted" = none) (hl:PE X l tl) (hT:PE X eT tT) (hT2:∀ σ H Q,Q (.bl true) H→tT σ H Q) (fr:LFrees X x zs is scope cl)
    (hq:X.env.qual ++ "<lambda>" = q) (hcl:closureFor scope X.env=pure cl)
    (he:∀ f c s H pins,PE (lamCx X (x::zs) q scope cl f c X.A.in1.in1 s H pins) body te)
    (hdef:defaultsOf params X.env=([],[]):=by rfl)
    (hb:∀ (c:Addr) (ct u:Value),bindArgs (PySem.W.kla_fn "<lambda>" q params body scope cl ((X.mg "__name__").getD .none) (.ref c) ct) ⟨[u],[]⟩=pure [(x,u)]:=by intro _ _ _; rfl)
    (hst:starEach [l] X.env=[(false,eval l X.env)]:=by rfl) (hv:bootBuiltins "sorted" = some (.builtin "sorted"):=by rfl) :
    PE X (.Call (.Name "sorted" p) [l] [⟨some "key", .Lambda params body scope lpos,kpos⟩,⟨some "reverse", eT,kpos2⟩] cpos) (tSortI true K P q tl te is):=by
  subst hK
  intro pins s σ H Q I h
  refine wpAny_Call_Name_kw (ld_blt I hg hm hv ?_ (by decide) (by decide))
  refine PyProof.Rows.callWith_kw (e:=l) (rest:=[]) ?_ (by rw [hst]; rfl) (by rw [hst]; rfl) rfl rfl
  have ha:=pa_cons hl pa_nil (hs:=by rw [hst]; rfl)
  refine thn (ha cpos pins s σ H (fun xs H1=>match xs with
    | [v]=>∃ (a:Addr) (vs:List V) (ps:Array Value) (t:Tok),v=.ref a∧SqL X.K H1 a vs∧vs.length<64∧H1 P=some (.tbl ps)∧ps[0]?=some (.str q t)∧∀ H2,Grow H1 H2→keysW te (is.map fun i=>(σ[i]?).join) (FinI true vs Q) vs [] H2
    | _=>False) I h) fun us s1 ⟨vs0,H1,I1,r1,q1⟩=>?_
  match vs0,q1 with
  | [v],q1 =>
  obtain ⟨a,vs,ps,t,rfl,hsq,h64,hP,h0,hw⟩:=q1
  cases r1 with
  | cons r1 r2 =>
  cases r2
  cases (show _=Value.ref a from r1)
  show wpAny _ _ (evalAll [(do let v ← eval (.Lambda params body scope lpos) X.env; standAt cpos; pure v),(do let v ← eval eT X.env; standAt cpos; pure v)]) _ _ s1
  refine wpAny_evalAll_cons (wpAny_bind (thn (lam_make lo I1 hP h0 hq hcl hdef) fun u s2' ⟨f,o,H2',eu,I2',gr',pf,s0f,L'⟩=>wpAny_bind (wpAny_standAt (wpAny_pure ?_))))
  subst eu
  refine wpAny_evalAll_cons (wpAny_bind (thn (hT _ s2' σ H2' (fun v H2=>v=.bl true∧H2=H2') I2' (hT2 _ _ _ ⟨rfl,rfl⟩)) fun u2 s2 ⟨v2,H2,I2,r2,ev2,eH2⟩=>wpAny_bind (wpAny_standAt (wpAny_pure (wpAny_evalAll_nil ?_)))))
  subst ev2
  cases (show _=Value.bool true from r2)
  subst eH2
  have gr:=gr'
  have L:=L'
  have hs2:SqL X.K H2 a vs:=by
    rcases hsq with (z | ⟨o,z⟩) | z
    · exact .inl (.inl (gr _ _ z))
    · exact .inl (.inr ⟨o,gr _ _ z⟩)
    · exact .inr z
  exact sortG_run I2 pf s0f L fr hr hc hb he hs2 h64 (hw H2 gr) (fun _ _ hl h=>h.g hl) (PyProof.Rows.ksk_s2 _ _ _) (fun _=>PyProof.Rows.ksk_l2 _ _ _) (fun x=>PyProof.Rows.ksk_t2 f x true)
end
end L2
namespace VL
open PySem L2
open Classical
noncomputable section
variable [Tabs] {K:PySem.W.Frag}
def sgn (b:Bool) (k:Int):List Int:=[if b=true then -k else k]
omit [Tabs] in
theorem sgn_lt {b:Bool} {x y:Int} (h:if b=true then y≤x else x≤y):L2.lexLt (sgn b y) (sgn b x)=false:=by
  have key:∀ p q:Int,q≤p→L2.lexLt [p] [q]=false:=fun p q h=>by
    unfold L2.lexLt
    by_cases c:p=q
    · rw [if_pos c]; rfl
    · rw [if_neg c]; exact decide_eq_false (by omega)
  cases b with
  | false=>have h:x≤y:=h; exact key y x h
  | true=>have h:y≤x:=h; exact key (-y) (-x) (by omega)
omit [Tabs] in
theorem sgn_inj {b:Bool} {x y:Int} (h:sgn b x=sgn b y):x=y:=by
  unfold sgn at h
  injection h with h _
  cases b with
  | false=>simpa using h
  | true=>simp at h; omega
omit [Tabs] in
theorem nd_sgn {b:Bool} {kf:D→Int}:∀ {ds:List D},(ds.map kf).Nodup→(ds.map fun d=>sgn b (kf d)).Nodup
  | [],_=>by simp
  | d::ds,h=>by
    rw [List.map_cons] at h
    obtain ⟨h1,h2⟩:=List.nodup_cons.mp h
    rw [List.map_cons]
    refine List.nodup_cons.mpr ⟨fun q=>?_,nd_sgn h2⟩
    obtain ⟨d',hd',e⟩:=List.mem_map.mp q
    exact h1 (List.mem_map.mpr ⟨d',hd',sgn_inj e⟩)
noncomputable def dSortI (b:Bool) (cs:List Nat) (a e:DE):Rho→Option (List D):=fun ρ=>match asL a ρ with
  | some ds=>if h:∃ kf:D→Int,(∀ d∈ds,e (kR cs ρ d)=some (.int (kf d)))∧(ds.map kf).Nodup∧ds.length<64 then some (srtBy (fun d=>sgn b (h.choose d)) ds) else none
  | none=>none
omit [Tabs] in
theorem dSortI_of {b:Bool} {cs:List Nat} {a e:DE} {ρ:Rho} {ds:List D} (kf:D→Int) (h:asL a ρ=some ds) (hk:∀ d∈ds,e (kR cs ρ d)=some (.int (kf d))) (hn:(ds.map kf).Nodup) (hl:ds.length<64):dSortI b cs a e ρ=some (srtBy (fun d=>sgn b (kf d)) ds):=by
  have hh:∃ kf:D→Int,(∀ d∈ds,e (kR cs ρ d)=some (.int (kf d)))∧(ds.map kf).Nodup∧ds.length<64:=⟨kf,hk,hn,hl⟩
  unfold dSortI
  rw [h]
  show (if h:∃ kf:D→Int,(∀ d∈ds,e (kR cs ρ d)=some (.int (kf d)))∧(ds.map kf).Nodup∧ds.length<64 then some (srtBy (fun d=>sgn b (h.choose d)) ds) else none)=_
  rw [dif_pos hh]
  refine congrArg some (srtBy_uniq (kg:=fun d=>sgn b (hh.choose d)) (fun d hd=>?_) (nd_sgn hn) (srtBy_perm _ _) (srtBy_up _ _))
  have h1:=hk d hd
  rw [hh.choose_spec.1 d hd] at h1
  have:hh.choose d=kf d:=by injection h1 with h1; injection h1
  show sgn b (kf d)=sgn b (hh.choose d)
  rw [this]
omit [Tabs] in
theorem dSortI_some {b:Bool} {cs:List Nat} {a e:DE} {ρ:Rho} {es:List D} (h:dSortI b cs a e ρ=some es):∃ (ds:List D) (kf:D→Int),asL a ρ=some ds∧(∀ d∈ds,e (kR cs ρ d)=some (.int (kf d)))∧(ds.map kf).Nodup∧ds.length<64∧es=srtBy (fun d=>sgn b (kf d)) ds:=by
  unfold dSortI at h
  split at h
  · rename_i ds e1
    split at h
    · rename_i hh
      cases h
      exact ⟨ds,hh.choose,e1,hh.choose_spec.1,hh.choose_spec.2.1,hh.choose_spec.2.2,rfl⟩
    · cases h
  · cases h
theorem sf_sortI {b:Bool} {P:Addr} {q:Str} {cs:List Nat} {tl te:TE} {a e:DE} (hP:(P,q)∈Tabs.ts) (ha:SemI K tl a) (he:SemI K te e):SemF K (tSortI b K P q tl te cs) (dSortI b cs a e):=fun {B Z os ρ σ H Q es} f qq k=>by
  obtain ⟨ds,kf,e0,hk,hn,hl,rfl⟩:=dSortI_some qq
  obtain ⟨d0,e0,ed⟩:=asL_some e0
  show tl σ H _
  refine ha f e0 fun v H1 s1 i1=>?_
  obtain ⟨p,vs,rfl,hlv,hln,hr⟩:=i1.seq ed
  obtain ⟨hq,il⟩:=hr H1 _ Kp.refl
  have f1:=f.grow s1
  obtain ⟨t,eP⟩:=f1.tabH _ hP
  refine ⟨p,vs,_,t,rfl,hq,by omega,eP,rfl,fun H2 gr=>?_⟩
  have key:∀ (r:List V) (dr dd:List D) (H3:Hp),Same H1 H3→IsL K H1 (tot Z os) r dr→dd++dr=ds→keysW te (cs.map fun i=>(σ[i]?).join) (FinI b vs Q) r ((dd.map kf).map V.int) H3:=by
    intro r
    induction r with
    | nil =>
      intro dr dd H3 s3 il3 hd
      cases il3
      rw [List.append_nil] at hd
      subst hd
      refine ⟨dd.map kf,rfl,fun idx pm up Dn hD=>?_⟩
      rw [List.length_map] at pm
      have lt_:∀ i∈idx,i<dd.length:=fun i hi=>List.mem_range.mp (pm.mem_iff.mp hi)
      have ex:idx.map (fun i=>dd.getD i .non)=srtBy (fun d=>sgn b (kf d)) dd:=by
        refine srtBy_uniq (kg:=fun d=>sgn b (kf d)) (fun _ _=>rfl) (nd_sgn hn) ?_ ?_
        · have:=pm.map fun i=>dd.getD i D.non
          have er:(List.range dd.length).map (fun i=>dd.getD i D.non)=dd:=by
            refine List.ext_getElem (by simp) fun i h1 h2=>?_
            simp [h2]
          rw [er] at this
          exact this
        · rw [List.pairwise_map]
          refine List.Pairwise.imp_of_mem (fun {i j} hi hj z=>?_) up
          have gi:∀ i,i<dd.length→(dd.map kf).getD i 0=kf (dd.getD i .non):=fun i hi=>by
            rw [List.getD_eq_getElem?_getD,List.getElem?_map,List.getElem?_eq_getElem hi,List.getD_eq_getElem?_getD,List.getElem?_eq_getElem hi]; rfl
          rw [gi _ (lt_ i hi),gi _ (lt_ j hj)] at z
          exact sgn_lt z
      have hs:sizeLine=16777216:=sizeLine_eq
      have il4:=(isl_idx ((hr H1 _ Kp.refl).2.same s3) (idx:=idx) lt_)
      rw [ex] at il4
      exact k Dn _ _ ((s1.trans s3).trans (same_new hD)) (Same.free (s1.trans s3) hD) upd_same (by rw [List.length_map,pm.length_eq,List.length_range]; omega) (il4.kp (kp_new hD))
    | cons v r ih =>
      intro dr dd H3 s3 il3 hd
      cases il3 with
      | @cons _ d _ dr' iv ir =>
        have hdm:d∈ds:=by rw [← hd]; exact List.mem_append_right _ List.mem_cons_self
        have ef:=blockFrZ (k:=1) (cs:=cs) f1 s3 (W:=tot Z os) (fun a z=>let ⟨o,e⟩:=f1.tin a z; ⟨o,s3 _ _ e⟩) (Kp.same s3)
        have hg:SemG K true (gName 0) (gN true 0):=sg_name 0
        have er:ER K true H1 H3 (tot (tot Z os) fun _=>[]) v d:=Is.kp (Kp.less fun a z=>z.elim id fun ⟨_,w⟩=>by cases w) (iv.same s3)
        refine hg (Q:=fun σ2 H2=>te σ2 H2 fun k H'=>Grow H3 H'∧keysW te (cs.map fun i=>(σ[i]?).join) (FinI b vs Q) r ((dd.map kf).map V.int++[k]) H') ef er (show gN true 0 d (r0 1 cs ρ)=some (kR cs ρ d) from rfl) fun os1 σ1 fr1 _=>?_
        refine he fr1 (hk d hdm) fun u H4 s4 i4=>⟨s4,?_⟩
        cases i4
        have em:(dd.map kf).map V.int++[V.int (kf d)]=((dd++[d]).map kf).map V.int:=by rw [List.map_append,List.map_append]; rfl
        rw [em]
        exact ih dr' (dd++[d]) H4 (s3.trans s4) ir (by rw [List.append_assoc]; exact hd)
  exact key vs ds [] H2 gr il rfl
end
end VL
namespace VL
open PySem L2
open Classical
noncomputable section
variable [Tabs] {K:PySem.W.Frag} {fr:Fm}
@[irreducible] noncomputable def sRev (i:Nat):DS:=fun ρ=>match ρ.getD i .un with
  | .ol ds=>.nx (ρ.set i (.ol ds.reverse))
  | _=>.no
theorem ss_rev {i:Nat}:SemS fr K (tDrop (tBM0 K "list" rReverse (tVar i))) (sRev i):=fun {B Z os ρ σ H E} f p=>by
  unfold sRev at p
  split at p
  · rename_i ds e
    obtain ⟨x,vs,hu,hH,hl,r⟩:=ol_of f e
    obtain ⟨os',f',k⟩:=f.mutO (vs':=vs.reverse) (ds':=ds.reverse) e hu (by rw [List.length_reverse]; exact hl) r.rev
    exact ⟨_,join_some hu,.inl ⟨rfl,_,SqL.of hH⟩,x,vs,rfl,rfl,hH,p os' _ _ f' k⟩
  · exact p.elim
omit [Tabs] in
theorem wp_rev {ρ:Rho} {i:Nat} {ds:List D} {W:Wk} (h0:ρ.getD i .un=.ol ds) (k:W.nx (ρ.set i (.ol ds.reverse))):Wp (sRev i) ρ W:=by
  unfold Wp sRev; rw [h0]; exact k
end
end VL
namespace PySem.SeqAt
end PySem.SeqAt
namespace L2
open PySem PySem.Spec PyProof.Rows
end L2
namespace L2
open PySem PySem.Spec PyProof.Rows
end L2
namespace VL
open PySem L2
open Classical
noncomputable section
variable [Tabs] {K:PySem.W.Frag}
end
end VL
namespace VL
open PySem L2
open Classical
noncomputable section
variable [Tabs] {K:PySem.W.Frag}
end
end VL
namespace VL
open PySem L2
open Classical
noncomputable section
variable [Tabs] {K:PySem.W.Frag}
end
end VL
namespace L2
open PySem PySem.Spec PyProof.Rows VL
open Classical
noncomputable section
variable {X:Cx} {K:PySem.W.Frag}
end
end L2
namespace VL
open PySem L2
open Classical
noncomputable section
variable [Tabs] {K:PySem.W.Frag}
end
end VL
set_option maxHeartbeats 4000000
namespace My
open PySem L2 VL
def top (i:Nat):Stmt:=PySem.Challenge.pw_leastfloor_k66_whole_trees_on_two_benche.main.body.getD i (.Pass ⟨0,0,0,0⟩)
noncomputable abbrev s_divided_up:Stmt:=top 4
noncomputable abbrev s_ahead_of:Stmt:=top 6
noncomputable abbrev s_told_order:Stmt:=top 7
noncomputable abbrev s_either:Stmt:=top 8
noncomputable abbrev s_straight_ahead:Stmt:=top 9
noncomputable abbrev s_comes_between:Stmt:=top 10
noncomputable abbrev s_marks:Stmt:=top 11
noncomputable abbrev s_next_marked:Stmt:=top 12
noncomputable abbrev s_falling_marks:Stmt:=top 13
noncomputable abbrev s_pair_turns:Stmt:=top 16
noncomputable abbrev s_why_pairs:Stmt:=top 17
noncomputable abbrev s_last_cut:Stmt:=top 18
noncomputable abbrev s_least_mark:Stmt:=top 19
noncomputable abbrev s_block_between:Stmt:=top 20
noncomputable abbrev s_levels:Stmt:=top 22
noncomputable abbrev s_level_of:Stmt:=top 23
noncomputable abbrev s_tree_turns:Stmt:=top 24
noncomputable abbrev s_turns_shown:Stmt:=top 25
noncomputable abbrev s_shown_by_level:Stmt:=top 26
noncomputable abbrev s_why_tree:Stmt:=top 27
noncomputable abbrev s_l_cell_at:Stmt:=top 29
noncomputable abbrev s_l_mixed:Stmt:=top 30
noncomputable abbrev s_l_names:Stmt:=top 31
noncomputable abbrev s_l_behind:Stmt:=top 32
noncomputable abbrev s_law:Stmt:=top 33
theorem sc_divided_up:FnScope ["total", "parts"] ["total", "parts"] (defScope s_divided_up):=⟨rfl,rfl,rfl,by decide +kernel,rfl,by decide +kernel,by decide +kernel⟩
theorem sc_ahead_of:FnScope ["many", "needs", "before", "between", "first"] ["many", "needs"] (defScope s_ahead_of):=⟨rfl,rfl,rfl,by decide +kernel,rfl,by decide +kernel,by decide +kernel⟩
theorem sc_told_order:FnScope ["many", "needs", "before", "first", "later"] ["many", "needs"] (defScope s_told_order):=⟨rfl,rfl,rfl,by decide +kernel,rfl,by decide +kernel,by decide +kernel⟩
theorem sc_either:FnScope ["truths", "others"] ["truths", "others"] (defScope s_either):=⟨rfl,rfl,rfl,by decide +kernel,rfl,by decide +kernel,by decide +kernel⟩
theorem sc_straight_ahead:FnScope ["many", "needs", "ahead"] ["many", "needs"] (defScope s_straight_ahead):=⟨rfl,rfl,rfl,by decide +kernel,rfl,by decide +kernel,by decide +kernel⟩
theorem sc_comes_between:FnScope ["ahead", "row", "later"] ["ahead", "row", "later"] (defScope s_comes_between):=⟨rfl,rfl,rfl,by decide +kernel,rfl,by decide +kernel,by decide +kernel⟩
theorem sc_marks:FnScope ["many", "needs", "straight", "given", "mark"] ["many", "needs"] (defScope s_marks):=⟨rfl,rfl,rfl,by decide +kernel,rfl,by decide +kernel,by decide +kernel⟩
theorem sc_next_marked:FnScope ["straight", "given", "free"] ["straight", "given"] (defScope s_next_marked):=⟨rfl,rfl,rfl,by decide +kernel,rfl,by decide +kernel,by decide +kernel⟩
theorem sc_falling_marks:FnScope ["works", "given"] ["works", "given"] (defScope s_falling_marks):=⟨rfl,rfl,rfl,by decide +kernel,rfl,by decide +kernel,by decide +kernel⟩
theorem sc_pair_turns:FnScope ["many", "needs", "given", "ahead", "left", "turns", "ready", "turn"] ["many", "needs"] (defScope s_pair_turns):=⟨rfl,rfl,rfl,by decide +kernel,rfl,by decide +kernel,by decide +kernel⟩
theorem sc_why_pairs:FnScope ["many", "needs", "given", "turns", "blocks", "last", "cut"] ["many", "needs"] (defScope s_why_pairs):=⟨rfl,rfl,rfl,by decide +kernel,rfl,by decide +kernel,by decide +kernel⟩
theorem sc_last_cut:FnScope ["turns", "given", "last", "cut"] ["turns", "given", "last"] (defScope s_last_cut):=⟨rfl,rfl,rfl,by decide +kernel,rfl,by decide +kernel,by decide +kernel⟩
theorem sc_least_mark:FnScope ["turn", "given"] ["turn", "given"] (defScope s_least_mark):=⟨rfl,rfl,rfl,by decide +kernel,rfl,by decide +kernel,by decide +kernel⟩
theorem sc_block_between:FnScope ["turns", "cut", "last", "block", "turn"] ["turns", "cut", "last"] (defScope s_block_between):=⟨rfl,rfl,rfl,by decide +kernel,rfl,by decide +kernel,by decide +kernel⟩
theorem sc_levels:FnScope ["behind", "later"] ["behind"] (defScope s_levels):=⟨rfl,rfl,rfl,by decide +kernel,rfl,by decide +kernel,by decide +kernel⟩
theorem sc_level_of:FnScope ["behind", "work", "level", "later"] ["behind", "work"] (defScope s_level_of):=⟨rfl,rfl,rfl,by decide +kernel,rfl,by decide +kernel,by decide +kernel⟩
theorem sc_tree_turns:FnScope ["behind", "benches", "heights", "waits", "left", "turns", "ready", "turn", "work"] ["behind", "benches"] (defScope s_tree_turns):=⟨rfl,rfl,rfl,by decide +kernel,rfl,by decide +kernel,by decide +kernel⟩
theorem sc_turns_shown:FnScope ["behind", "benches", "level"] ["behind", "benches", "level"] (defScope s_turns_shown):=⟨rfl,rfl,rfl,by decide +kernel,rfl,by decide +kernel,by decide +kernel⟩
theorem sc_shown_by_level:FnScope ["heights", "benches", "level", "high"] ["heights", "benches", "level"] (defScope s_shown_by_level):=⟨rfl,rfl,rfl,by decide +kernel,rfl,by decide +kernel,by decide +kernel⟩
theorem sc_why_tree:FnScope ["behind", "benches", "turns", "heights", "level"] ["behind", "benches"] (defScope s_why_tree):=⟨rfl,rfl,rfl,by decide +kernel,rfl,by decide +kernel,by decide +kernel⟩
theorem sc_l_cell_at:FnScope ["_law_script", "_law_k"] ["_law_script", "_law_k"] (defScope s_l_cell_at):=⟨rfl,rfl,rfl,by decide +kernel,rfl,by decide +kernel,by decide +kernel⟩
theorem sc_l_mixed:FnScope ["_law_cell", "_law_k", "_law_number"] ["_law_cell", "_law_k"] (defScope s_l_mixed):=⟨rfl,rfl,rfl,by decide +kernel,rfl,by decide +kernel,by decide +kernel⟩
theorem sc_l_names:FnScope ["_law_cell", "_law_many", "_law_points", "_law_k"] ["_law_cell", "_law_many"] (defScope s_l_names):=⟨rfl,rfl,rfl,by decide +kernel,rfl,by decide +kernel,by decide +kernel⟩
theorem sc_l_behind:FnScope ["_law_script", "_law_most", "_law_first", "_law_many", "_law_cell", "_law_names_here", "_law_span", "_law_behind_here", "_law_k", "_law_back", "_law_number", "_law_at"] ["_law_script", "_law_most"] (defScope s_l_behind):=⟨rfl,rfl,rfl,by decide +kernel,rfl,by decide +kernel,by decide +kernel⟩
theorem sc_law:FnScope ["_law_script", "_law_behind_here", "_law_needs", "_law_work", "_law_at", "_law_many", "_law_found"] ["_law_script"] (defScope s_law):=⟨rfl,rfl,rfl,by decide +kernel,rfl,by decide +kernel,by decide +kernel⟩
set_option genInjectivity false in
set_option genSizeOf false in
structure Adr where
  f_divided_up:Addr
  d_divided_up:FuncData
  f_ahead_of:Addr
  d_ahead_of:FuncData
  f_told_order:Addr
  d_told_order:FuncData
  f_either:Addr
  d_either:FuncData
  f_straight_ahead:Addr
  d_straight_ahead:FuncData
  f_comes_between:Addr
  d_comes_between:FuncData
  f_marks:Addr
  d_marks:FuncData
  f_next_marked:Addr
  d_next_marked:FuncData
  f_falling_marks:Addr
  d_falling_marks:FuncData
  f_pair_turns:Addr
  d_pair_turns:FuncData
  f_why_pairs:Addr
  d_why_pairs:FuncData
  f_last_cut:Addr
  d_last_cut:FuncData
  f_least_mark:Addr
  d_least_mark:FuncData
  f_block_between:Addr
  d_block_between:FuncData
  f_levels:Addr
  d_levels:FuncData
  f_level_of:Addr
  d_level_of:FuncData
  f_tree_turns:Addr
  d_tree_turns:FuncData
  f_turns_shown:Addr
  d_turns_shown:FuncData
  f_shown_by_level:Addr
  d_shown_by_level:FuncData
  f_why_tree:Addr
  d_why_tree:FuncData
  f_l_cell_at:Addr
  d_l_cell_at:FuncData
  f_l_mixed:Addr
  d_l_mixed:FuncData
  f_l_names:Addr
  d_l_names:FuncData
  f_l_behind:Addr
  d_l_behind:FuncData
  f_law:Addr
  d_law:FuncData
  k_next_marked:Addr
  p_next_marked:Addr
  k_pair_turns:Addr
  p_pair_turns:Addr
  k_tree_turns:Addr
  p_tree_turns:Addr
structure Txt [Tabs] (K:PySem.W.Frag) (mg:Str→Option Value) (a:Adr):Prop where
  F_divided_up:Fun K "divided_up" "divided_up" s_divided_up a.f_divided_up a.d_divided_up
  b_divided_up:Binds K a.d_divided_up ["total", "parts"] []
  m_divided_up:mg "divided_up" = some (.ref a.f_divided_up)
  F_ahead_of:Fun K "ahead_of" "ahead_of" s_ahead_of a.f_ahead_of a.d_ahead_of
  b_ahead_of:Binds K a.d_ahead_of ["many", "needs"] []
  m_ahead_of:mg "ahead_of" = some (.ref a.f_ahead_of)
  F_told_order:Fun K "told_order" "told_order" s_told_order a.f_told_order a.d_told_order
  b_told_order:Binds K a.d_told_order ["many", "needs"] []
  m_told_order:mg "told_order" = some (.ref a.f_told_order)
  F_either:Fun K "either" "either" s_either a.f_either a.d_either
  b_either:Binds K a.d_either ["truths", "others"] []
  m_either:mg "either" = some (.ref a.f_either)
  F_straight_ahead:Fun K "straight_ahead" "straight_ahead" s_straight_ahead a.f_straight_ahead a.d_straight_ahead
  b_straight_ahead:Binds K a.d_straight_ahead ["many", "needs"] []
  m_straight_ahead:mg "straight_ahead" = some (.ref a.f_straight_ahead)
  F_comes_between:Fun K "comes_between" "comes_between" s_comes_between a.f_comes_between a.d_comes_between
  b_comes_between:Binds K a.d_comes_between ["ahead", "row", "later"] []
  m_comes_between:mg "comes_between" = some (.ref a.f_comes_between)
  F_marks:Fun K "marks" "marks" s_marks a.f_marks a.d_marks
  b_marks:Binds K a.d_marks ["many", "needs"] []
  m_marks:mg "marks" = some (.ref a.f_marks)
  F_next_marked:Fun K "next_marked" "next_marked" s_next_marked a.f_next_marked a.d_next_marked
  b_next_marked:Binds K a.d_next_marked ["straight", "given"] []
  m_next_marked:mg "next_marked" = some (.ref a.f_next_marked)
  F_falling_marks:Fun K "falling_marks" "falling_marks" s_falling_marks a.f_falling_marks a.d_falling_marks
  b_falling_marks:Binds K a.d_falling_marks ["works", "given"] []
  m_falling_marks:mg "falling_marks" = some (.ref a.f_falling_marks)
  F_pair_turns:Fun K "pair_turns" "pair_turns" s_pair_turns a.f_pair_turns a.d_pair_turns
  b_pair_turns:Binds K a.d_pair_turns ["many", "needs"] []
  m_pair_turns:mg "pair_turns" = some (.ref a.f_pair_turns)
  F_why_pairs:Fun K "why_pairs" "why_pairs" s_why_pairs a.f_why_pairs a.d_why_pairs
  b_why_pairs:Binds K a.d_why_pairs ["many", "needs"] []
  m_why_pairs:mg "why_pairs" = some (.ref a.f_why_pairs)
  F_last_cut:Fun K "last_cut" "last_cut" s_last_cut a.f_last_cut a.d_last_cut
  b_last_cut:Binds K a.d_last_cut ["turns", "given", "last"] []
  m_last_cut:mg "last_cut" = some (.ref a.f_last_cut)
  F_least_mark:Fun K "least_mark" "least_mark" s_least_mark a.f_least_mark a.d_least_mark
  b_least_mark:Binds K a.d_least_mark ["turn", "given"] []
  m_least_mark:mg "least_mark" = some (.ref a.f_least_mark)
  F_block_between:Fun K "block_between" "block_between" s_block_between a.f_block_between a.d_block_between
  b_block_between:Binds K a.d_block_between ["turns", "cut", "last"] []
  m_block_between:mg "block_between" = some (.ref a.f_block_between)
  F_levels:Fun K "levels" "levels" s_levels a.f_levels a.d_levels
  b_levels:Binds K a.d_levels ["behind"] []
  m_levels:mg "levels" = some (.ref a.f_levels)
  F_level_of:Fun K "level_of" "level_of" s_level_of a.f_level_of a.d_level_of
  b_level_of:Binds K a.d_level_of ["behind", "work"] []
  m_level_of:mg "level_of" = some (.ref a.f_level_of)
  F_tree_turns:Fun K "tree_turns" "tree_turns" s_tree_turns a.f_tree_turns a.d_tree_turns
  b_tree_turns:Binds K a.d_tree_turns ["behind", "benches"] []
  m_tree_turns:mg "tree_turns" = some (.ref a.f_tree_turns)
  F_turns_shown:Fun K "turns_shown" "turns_shown" s_turns_shown a.f_turns_shown a.d_turns_shown
  b_turns_shown:Binds K a.d_turns_shown ["behind", "benches", "level"] []
  m_turns_shown:mg "turns_shown" = some (.ref a.f_turns_shown)
  F_shown_by_level:Fun K "shown_by_level" "shown_by_level" s_shown_by_level a.f_shown_by_level a.d_shown_by_level
  b_shown_by_level:Binds K a.d_shown_by_level ["heights", "benches", "level"] []
  m_shown_by_level:mg "shown_by_level" = some (.ref a.f_shown_by_level)
  F_why_tree:Fun K "why_tree" "why_tree" s_why_tree a.f_why_tree a.d_why_tree
  b_why_tree:Binds K a.d_why_tree ["behind", "benches"] []
  m_why_tree:mg "why_tree" = some (.ref a.f_why_tree)
  F_l_cell_at:Fun K "_law_cell_at" "_law_cell_at" s_l_cell_at a.f_l_cell_at a.d_l_cell_at
  b_l_cell_at:Binds K a.d_l_cell_at ["_law_script", "_law_k"] []
  m_l_cell_at:mg "_law_cell_at" = some (.ref a.f_l_cell_at)
  F_l_mixed:Fun K "_law_mixed" "_law_mixed" s_l_mixed a.f_l_mixed a.d_l_mixed
  b_l_mixed:Binds K a.d_l_mixed ["_law_cell", "_law_k"] []
  m_l_mixed:mg "_law_mixed" = some (.ref a.f_l_mixed)
  F_l_names:Fun K "_law_names" "_law_names" s_l_names a.f_l_names a.d_l_names
  b_l_names:Binds K a.d_l_names ["_law_cell", "_law_many"] []
  m_l_names:mg "_law_names" = some (.ref a.f_l_names)
  F_l_behind:Fun K "_law_behind" "_law_behind" s_l_behind a.f_l_behind a.d_l_behind
  b_l_behind:Binds K a.d_l_behind ["_law_script", "_law_most"] []
  m_l_behind:mg "_law_behind" = some (.ref a.f_l_behind)
  F_law:Fun K "law" "law" s_law a.f_law a.d_law
  b_law:Binds K a.d_law ["_law_script"] []
  m_law:mg "law" = some (.ref a.f_law)
  kc_next_marked:a.d_next_marked.code=.ref a.k_next_marked
  kh_next_marked:PySem.W.codeHdIn K a.k_next_marked a.p_next_marked=true
  kt_next_marked:(a.p_next_marked,("next_marked.<locals>.<lambda>" : Str))∈Tabs.ts
  kc_pair_turns:a.d_pair_turns.code=.ref a.k_pair_turns
  kh_pair_turns:PySem.W.codeHdIn K a.k_pair_turns a.p_pair_turns=true
  kt_pair_turns:(a.p_pair_turns,("pair_turns.<locals>.<lambda>" : Str))∈Tabs.ts
  kc_tree_turns:a.d_tree_turns.code=.ref a.k_tree_turns
  kh_tree_turns:PySem.W.codeHdIn K a.k_tree_turns a.p_tree_turns=true
  kt_tree_turns:(a.p_tree_turns,("tree_turns.<locals>.<lambda>" : Str))∈Tabs.ts
  z_all:mg "all" = none
  z_any:mg "any" = none
  z_enumerate:mg "enumerate" = none
  z_len:mg "len" = none
  z_list:mg "list" = none
  z_min:mg "min" = none
  z_range:mg "range" = none
  z_sorted:mg "sorted" = none
  z_sum:mg "sum" = none
  z_zip:mg "zip" = none
  c_BENCHES:∃ t,mg "BENCHES" = some (.int 2 t)
noncomputable section
theorem st_divided_up (x0 x1:D):stD 2 [false,false] [x0,x1]=[.bo x0,.bo x1]:=rfl
noncomputable def B_divided_up:DS:=(sSeq (sIf (dTru (dMod (dVar 0) (dVar 1)))
 (sRet (dAdd (dFdiv (dVar 0) (dVar 1)) (dC (.int 1))))
      sPass)
 (sRet (dFdiv (dVar 0) (dVar 1))))
@[irreducible] noncomputable def F_divided_up:List D→Option D:=runD 2 [false,false] B_divided_up
theorem F_divided_up_def:F_divided_up=runD 2 [false,false] B_divided_up:=by unfold F_divided_up; rfl
theorem st_either (x0 x1:D):stD 2 [false,false] [x0,x1]=[.bo x0,.bo x1]:=rfl
noncomputable def B_either:DS:=(sRet (dLst (dComp 2 [] (dZipB (dVar 0) (dVar 1)) (gUn 2 (gsCons (gN true 0) (gsCons (gN true 1) gsNil))) dTrue (dOrV (dVar 0) (dVarI 1)))))
@[irreducible] noncomputable def F_either:List D→Option D:=runD 2 [false,false] B_either
theorem F_either_def:F_either=runD 2 [false,false] B_either:=by unfold F_either; rfl
theorem st_told_order (x0 x1:D):stD 5 [false,false] [x0,x1]=[.bo x0,.bo x1,.un,.un,.un]:=rfl
noncomputable def B_told_order:DS:=(sSeq (sSetM 2 (dCompM 1 [0] (dRg1 (dVar 0)) (gN true 0) dTrue (dRep (dCons (dC (.bl false)) dNil) (dVar 1))))
 (sSeq (sFor (asL (dVarO 1)) (gUn 2 (gsCons (gN false 3) (gsCons (gN false 4) gsNil)))
 (sSeq (sIf (dNot (dAnd (dT (dChain (fun i j=>decide (i≤j)) (fun i j=>decide (i<j)) (dC (.int 0)) (dVar 3) (dVar 0))) (dT (dChain (fun i j=>decide (i≤j)) (fun i j=>decide (i<j)) (dC (.int 0)) (dVar 4) (dVar 0)))))
      sNo
      sPass)
 (sPut2 2 (dVar 3) (dVar 4) (dC (.bl true)))))
    (sFrzR 2 (sRetX 2))))
@[irreducible] noncomputable def F_told_order:List D→Option D:=runF 5 [false,false] B_told_order
theorem F_told_order_def:F_told_order=runF 5 [false,false] B_told_order:=by unfold F_told_order; rfl
theorem st_ahead_of (x0 x1:D):stD 5 [false,false] [x0,x1]=[.bo x0,.bo x1,.un,.un,.un]:=rfl
noncomputable def B_ahead_of:DS:=(sSeq (sSetO 2 (dCallF F_told_order (dCons (dVar 0) (dCons (dVar 1) dNil))))
 (sSeq (sFor (dRg1 (dVar 0)) (gN true 3)
 (sFor (dRg1 (dVar 0)) (gN true 4)
 (sIf (dTru (dIx (dIx (dVar 2) (dVar 4)) (dVar 3)))
 (sPut 2 (dVar 4) (dCall F_either (dCons (dIx (dVar 2) (dVar 4)) (dCons (dIx (dVar 2) (dVar 3)) dNil))))
      sPass)))
 (sSeq (sIf (dTru (dF1 anyD (dLst (dComp 1 [2] (dRg1 (dVar 0)) (gN true 0) dTrue (gScal (dIx (dIx (dVar 1) (dVar 0)) (dVar 0)))))))
      sNo
      sPass)
 (sRet (dLst (dComp 1 [0] (asL (dVar 2)) (gN false 0) dTrue (dLst (dComp 1 [0] (dRg1 (dVar 1)) (gN true 0) (dTru (dIx (dVar 1) (dVar 0))) (dVarI 0)))))))))
@[irreducible] noncomputable def F_ahead_of:List D→Option D:=runD 5 [false,false] B_ahead_of
theorem F_ahead_of_def:F_ahead_of=runD 5 [false,false] B_ahead_of:=by unfold F_ahead_of; rfl
theorem st_comes_between (x0 x1 x2:D):stD 3 [false,false,false] [x0,x1,x2]=[.bo x0,.bo x1,.bo x2]:=rfl
noncomputable def B_comes_between:DS:=(sRet (dF1 anyD (dLst (dComp 1 [2,0] (asL (dVar 1)) (gN false 0) dTrue (dIn false (dVar 1) (dIx (dVar 2) (dVar 0)))))))
@[irreducible] noncomputable def F_comes_between:List D→Option D:=runD 3 [false,false,false] B_comes_between
theorem F_comes_between_def:F_comes_between=runD 3 [false,false,false] B_comes_between:=by unfold F_comes_between; rfl
theorem st_straight_ahead (x0 x1:D):stD 3 [false,false] [x0,x1]=[.bo x0,.bo x1,.un]:=rfl
noncomputable def B_straight_ahead:DS:=(sSeq (sSet 2 (dCall F_ahead_of (dCons (dVar 0) (dCons (dVar 1) dNil))))
 (sRet (dLst (dComp 1 [2] (asL (dVarI 2)) (gN true 0) dTrue (dLst (dComp 1 [1,0] (asL (dVarI 0)) (gN true 0) (dNot (dTru (dCall F_comes_between (dCons (dVar 1) (dCons (dVar 2) (dCons (dVar 0) dNil)))))) (dVarI 0)))))))
@[irreducible] noncomputable def F_straight_ahead:List D→Option D:=runD 3 [false,false] B_straight_ahead
theorem F_straight_ahead_def:F_straight_ahead=runD 3 [false,false] B_straight_ahead:=by unfold F_straight_ahead; rfl
theorem st_falling_marks (x0 x1:D):stD 2 [false,false] [x0,x1]=[.bo x0,.bo x1]:=rfl
noncomputable def B_falling_marks:DS:=(sRet (dLst (dSrtR (dLst (dComp 1 [1] (asL (dVar 0)) (gN false 0) dTrue (gScal (dIx (dVar 1) (dVar 0))))))))
@[irreducible] noncomputable def F_falling_marks:List D→Option D:=runD 2 [false,false] B_falling_marks
theorem F_falling_marks_def:F_falling_marks=runD 2 [false,false] B_falling_marks:=by unfold F_falling_marks; rfl
theorem st_next_marked (x0 x1:D):stD 3 [true,false] [x0,x1]=[.pu x0,.bo x1,.un]:=rfl
noncomputable def B_next_marked:DS:=(sSeq (sSet 2 (dLst (dComp 2 [1] (dEn (dVarI 0)) (gUn 2 (gsCons (gN true 0) (gsCons (gN true 1) gsNil))) (dAnd (dT (dEq false (dIx (dVar 2) (dVar 0)) (dC (.int 0)))) (dTru (dF1 allD (dLst (dComp 1 [2] (asL (dVarI 1)) (gN true 0) dTrue (gScal (dIx (dVar 1) (dVar 0)))))))) (dVarI 0))))
 (sRet (dMinK [0,1] (dVarI 2) (dTup (dCons (dCall F_falling_marks (dCons (dIx (dVar 1) (dVar 0)) (dCons (dVar 2) dNil))) (dCons (dVarI 0) dNil))))))
@[irreducible] noncomputable def F_next_marked:List D→Option D:=runD 3 [true,false] B_next_marked
theorem F_next_marked_def:F_next_marked=runD 3 [true,false] B_next_marked:=by unfold F_next_marked; rfl
theorem st_marks (x0 x1:D):stD 5 [false,false] [x0,x1]=[.bo x0,.bo x1,.un,.un,.un]:=rfl
noncomputable def B_marks:DS:=(sSeq (sSet 2 (dCall F_straight_ahead (dCons (dVar 0) (dCons (dVar 1) dNil))))
 (sSeq (sSetO 3 (dRep (dCons (dC (.int 0)) dNil) (dVar 0)))
 (sSeq (sFor (dRg2 (dC (.int 1)) (dAdd (dVar 0) (dC (.int 1)))) (gN true 4)
 (sPut 3 (dCall F_next_marked (dCons (dVarI 2) (dCons (dVar 3) dNil))) (dVarI 4)))
    (sFrz 3 (sRet (dVarI 3))))))
@[irreducible] noncomputable def F_marks:List D→Option D:=runD 5 [false,false] B_marks
theorem F_marks_def:F_marks=runD 5 [false,false] B_marks:=by unfold F_marks; rfl
theorem st_pair_turns (x0 x1:D):stD 8 [false,false] [x0,x1]=[.bo x0,.bo x1,.un,.un,.un,.un,.un,.un]:=rfl
noncomputable def B_pair_turns:DS:=(sSeq (sSet 2 (dCall F_marks (dCons (dVar 0) (dCons (dVar 1) dNil))))
 (sSeq (sSet 3 (dCall F_ahead_of (dCons (dVar 0) (dCons (dVar 1) dNil))))
 (sSeq (sSet 4 (dLst (dRg1 (dVar 0))))
 (sSeq (sSetO 5 dNil)
 (sSeq (sWhile (dTru (dVar 4))
 (sSeq (sSet 6 (dLst (dComp 1 [4,3] (asL (dVarI 4)) (gN true 0) (dNot (dTru (dF1 anyD (dLst (dComp 1 [0,2] (asL (dVarI 1)) (gN true 0) dTrue (dIn false (dVar 1) (dIx (dVar 2) (dVar 0)))))))) (dVarI 0))))
 (sSeq (sSet 7 (dLst (dSl (dLst (dSortI true [2] (dVarI 6) (dIx (dVarI 1) (dVar 0)))) oNone (oSome (dC (.int 2))))))
 (sSeq (sSet 4 (dLst (dComp 1 [7] (asL (dVarI 4)) (gN true 0) (dT (dIn true (dVar 0) (dVar 1))) (dVarI 0))))
 (sApp 5 (dVarI 7))))))
    (sFrz 5 (sRet (dVarI 5))))))))
@[irreducible] noncomputable def F_pair_turns:List D→Option D:=runD 8 [false,false] B_pair_turns
theorem F_pair_turns_def:F_pair_turns=runD 8 [false,false] B_pair_turns:=by unfold F_pair_turns; rfl
theorem st_block_between (x0 x1 x2:D):stD 5 [true,false,false] [x0,x1,x2]=[.pu x0,.bo x1,.bo x2,.un,.un]:=rfl
noncomputable def B_block_between:DS:=(sSeq (sSetO 3 dNil)
 (sSeq (sFor (asL (dLst (dSl (dVarI 0) (oSome (dAdd (dVar 1) (dC (.int 1)))) (oSome (dVar 2))))) (gN true 4)
      (sExt 3 (dVarI 4)))
 (sSeq (sApp 3 (dIx (dIx (dVarI 0) (dVar 2)) (dC (.int 0))))
    (sFrz 3 (sRet (dVarI 3))))))
@[irreducible] noncomputable def F_block_between:List D→Option D:=runD 5 [true,false,false] B_block_between
theorem F_block_between_def:F_block_between=runD 5 [true,false,false] B_block_between:=by unfold F_block_between; rfl
theorem st_least_mark (x0 x1:D):stD 2 [false,false] [x0,x1]=[.bo x0,.bo x1]:=rfl
noncomputable def B_least_mark:DS:=(sSeq (sIf (dT (dLt (dF1 lenD (dVar 0)) (dC (.int 2))))
 (sRet (dC (.int 0)))
      sPass)
 (sRet (gScal (dIx (dVar 1) (dIx (dVar 0) (dC (.int 1)))))))
@[irreducible] noncomputable def F_least_mark:List D→Option D:=runD 2 [false,false] B_least_mark
theorem F_least_mark_def:F_least_mark=runD 2 [false,false] B_least_mark:=by unfold F_least_mark; rfl
theorem st_last_cut (x0 x1 x2:D):stD 4 [false,false,false] [x0,x1,x2]=[.bo x0,.bo x1,.bo x2,.un]:=rfl
noncomputable def B_last_cut:DS:=(sSeq (sSet 3 (dSub (dVar 2) (dC (.int 1))))
 (sSeq (sWhile (dAnd (dT (dGe (dVar 3) (dC (.int 0)))) (dT (dGt (dCall F_least_mark (dCons (dIx (dVar 0) (dVar 3)) (dCons (dVar 1) dNil))) (dIx (dVar 1) (dIx (dIx (dVar 0) (dVar 2)) (dC (.int 0)))))))
 (sAug (fun x y=>x-y) 3 (dC (.int 1))))
 (sRet (dVarI 3))))
@[irreducible] noncomputable def F_last_cut:List D→Option D:=runD 4 [false,false,false] B_last_cut
theorem F_last_cut_def:F_last_cut=runD 4 [false,false,false] B_last_cut:=by unfold F_last_cut; rfl
theorem st_why_pairs (x0 x1:D):stD 7 [false,false] [x0,x1]=[.bo x0,.bo x1,.un,.un,.un,.un,.un]:=rfl
noncomputable def B_why_pairs:DS:=(sSeq (sSet 2 (dCall F_marks (dCons (dVar 0) (dCons (dVar 1) dNil))))
 (sSeq (sSet 3 (dCall F_pair_turns (dCons (dVar 0) (dCons (dVar 1) dNil))))
 (sSeq (sSetO 4 dNil)
 (sSeq (sSet 5 (dSub (dF1 lenD (dVar 3)) (dC (.int 1))))
 (sSeq (sWhile (dT (dGe (dVar 5) (dC (.int 0))))
 (sSeq (sSet 6 (dCall F_last_cut (dCons (dVar 3) (dCons (dVar 2) (dCons (dVar 5) dNil)))))
 (sSeq (sApp 4 (dCall F_block_between (dCons (dVarI 3) (dCons (dVar 6) (dCons (dVar 5) dNil)))))
 (sSet 5 (dVarI 6)))))
 (sSeq (sRev 4)
    (sFrz 4 (sRet (dVarI 4)))))))))
@[irreducible] noncomputable def F_why_pairs:List D→Option D:=runD 7 [false,false] B_why_pairs
theorem F_why_pairs_def:F_why_pairs=runD 7 [false,false] B_why_pairs:=by unfold F_why_pairs; rfl
theorem st_level_of (x0 x1:D):stD 4 [false,false] [x0,x1]=[.bo x0,.bo x1,.un,.un]:=rfl
noncomputable def B_level_of:DS:=(sSeq (sSet 2 (dC (.int 1)))
 (sSeq (sSet 3 (gScal (dIx (dVar 0) (dVar 1))))
 (sSeq (sWhile (dT (dEq true (dVar 3) (dNeg (dC (.int 1)))))
 (sSeq (sAug (fun x y=>x+y) 2 (dC (.int 1)))
 (sSeq (sIf (dT (dGt (dVar 2) (dF1 lenD (dVar 0))))
      sNo
      sPass)
 (sSet 3 (gScal (dIx (dVar 0) (dVar 3)))))))
 (sRet (dVarI 2)))))
@[irreducible] noncomputable def F_level_of:List D→Option D:=runD 4 [false,false] B_level_of
theorem F_level_of_def:F_level_of=runD 4 [false,false] B_level_of:=by unfold F_level_of; rfl
theorem st_levels (x0:D):stD 2 [false] [x0]=[.bo x0,.un]:=rfl
noncomputable def B_levels:DS:=(sSeq (sFor (asL (dVarO 0)) (gN false 1)
 (sIf (dNot (dT (dChain (fun i j=>decide (i≤j)) (fun i j=>decide (i<j)) (dNeg (dC (.int 1))) (dVar 1) (dF1 lenD (dVar 0)))))
      sNo
      sPass))
 (sRet (dLst (dComp 1 [0] (dRg1 (dF1 lenD (dVar 0))) (gN true 0) dTrue (dCall F_level_of (dCons (dVar 1) (dCons (dVar 0) dNil)))))))
@[irreducible] noncomputable def F_levels:List D→Option D:=runD 2 [false] B_levels
theorem F_levels_def:F_levels=runD 2 [false] B_levels:=by unfold F_levels; rfl
theorem st_tree_turns (x0 x1:D):stD 9 [false,false] [x0,x1]=[.bo x0,.bo x1,.un,.un,.un,.un,.un,.un,.un]:=rfl
noncomputable def B_tree_turns:DS:=(sSeq (sSet 2 (dCall F_levels (dCons (dVar 0) dNil)))
 (sSeq (sSetO 3 (dComp 1 [0] (dRg1 (dF1 lenD (dVar 0))) (gN true 0) dTrue (dCount (dVar 1) (dVar 0))))
 (sSeq (sSet 4 (dLst (dRg1 (dF1 lenD (dVar 0)))))
 (sSeq (sSetO 5 dNil)
 (sSeq (sWhile (dTru (dVar 4))
 (sSeq (sSet 6 (dLst (dComp 1 [3] (asL (dVarI 4)) (gN true 0) (dT (dEq false (dIx (dVar 1) (dVar 0)) (dC (.int 0)))) (dVarI 0))))
 (sSeq (sSet 7 (dLst (dSrtI (dLst (dSl (dLst (dSortK [2] (dVarI 6) (dTup (dCons (dNeg (dIx (dVar 1) (dVar 0))) (dCons (dVarI 0) dNil))))) oNone (oSome (dVar 1)))))))
 (sSeq (sFor (asL (dVarI 7)) (gN true 8)
 (sIf (dT (dEq true (dIx (dVar 0) (dVar 8)) (dNeg (dC (.int 1)))))
 (sAugP (fun x y=>x-y) 3 (dIx (dVar 0) (dVar 8)) (dC (.int 1)))
      sPass))
 (sSeq (sSet 4 (dLst (dComp 1 [7] (asL (dVarI 4)) (gN true 0) (dT (dIn true (dVar 0) (dVar 1))) (dVarI 0))))
 (sApp 5 (dVarI 7)))))))
    (sFrz 5 (sRet (dVarI 5))))))))
@[irreducible] noncomputable def F_tree_turns:List D→Option D:=runD 9 [false,false] B_tree_turns
theorem F_tree_turns_def:F_tree_turns=runD 9 [false,false] B_tree_turns:=by unfold F_tree_turns; rfl
theorem st_shown_by_level (x0 x1 x2:D):stD 4 [false,false,false] [x0,x1,x2]=[.bo x0,.bo x1,.bo x2,.un]:=rfl
noncomputable def B_shown_by_level:DS:=(sSeq (sSet 3 (dF1 lenD (dLst (dComp 1 [2] (asL (dVar 0)) (gN false 0) (dT (dGe (dVar 0) (dVar 1))) (gScal (dVar 0))))))
 (sSeq (sIf (dOr (dT (dLt (dVar 2) (dC (.int 1)))) (dT (dEq false (dVar 3) (dC (.int 0)))))
 (sRet (dC (.int 0)))
      sPass)
 (sRet (dSub (dAdd (dCall F_divided_up (dCons (dVar 3) (dCons (dVar 1) dNil))) (dVar 2)) (dC (.int 1))))))
@[irreducible] noncomputable def F_shown_by_level:List D→Option D:=runD 4 [false,false,false] B_shown_by_level
theorem F_shown_by_level_def:F_shown_by_level=runD 4 [false,false,false] B_shown_by_level:=by unfold F_shown_by_level; rfl
theorem st_turns_shown (x0 x1 x2:D):stD 3 [false,false,false] [x0,x1,x2]=[.bo x0,.bo x1,.bo x2]:=rfl
noncomputable def B_turns_shown:DS:=(sRet (dCall F_shown_by_level (dCons (dCall F_levels (dCons (dVar 0) dNil)) (dCons (dVar 1) (dCons (dVar 2) dNil)))))
@[irreducible] noncomputable def F_turns_shown:List D→Option D:=runD 3 [false,false,false] B_turns_shown
theorem F_turns_shown_def:F_turns_shown=runD 3 [false,false,false] B_turns_shown:=by unfold F_turns_shown; rfl
theorem st_why_tree (x0 x1:D):stD 5 [false,false] [x0,x1]=[.bo x0,.bo x1,.un,.un,.un]:=rfl
noncomputable def B_why_tree:DS:=(sSeq (sSet 2 (dF1 lenD (dCall F_tree_turns (dCons (dVar 0) (dCons (dVar 1) dNil)))))
 (sSeq (sSet 3 (dCall F_levels (dCons (dVar 0) dNil)))
 (sSeq (sSet 4 (dC (.int 0)))
 (sSeq (sWhile (dT (dLt (dCall F_shown_by_level (dCons (dVar 3) (dCons (dVar 1) (dCons (dVar 4) dNil)))) (dVar 2)))
 (sAug (fun x y=>x+y) 4 (dC (.int 1))))
 (sRet (dVarI 4))))))
@[irreducible] noncomputable def F_why_tree:List D→Option D:=runD 5 [false,false] B_why_tree
theorem F_why_tree_def:F_why_tree=runD 5 [false,false] B_why_tree:=by unfold F_why_tree; rfl
theorem st_l_cell_at (x0 x1:D):stD 2 [false,false] [x0,x1]=[.bo x0,.bo x1]:=rfl
noncomputable def B_l_cell_at:DS:=(sSeq (sIf (dT (dLt (dVar 1) (dF1 lenD (dVar 0))))
 (sRet (gScal (dIx (dVar 0) (dVar 1))))
      sPass)
 (sRet (dC (.int 0))))
@[irreducible] noncomputable def F_l_cell_at:List D→Option D:=runD 2 [false,false] B_l_cell_at
theorem F_l_cell_at_def:F_l_cell_at=runD 2 [false,false] B_l_cell_at:=by unfold F_l_cell_at; rfl
theorem st_l_mixed (x0 x1:D):stD 3 [false,false] [x0,x1]=[.bo x0,.bo x1,.un]:=rfl
noncomputable def B_l_mixed:DS:=(sSeq (sSet 2 (dMod (dAdd (dAdd (dMul (dVar 0) (dC (.int 48271))) (dMul (dMul (dVar 1) (dVar 1)) (dC (.int 69621)))) (dC (.int 3))) (dC (.int 2147483647))))
 (sRet (dMod (dMul (dVar 2) (dVar 2)) (dC (.int 2147483629)))))
@[irreducible] noncomputable def F_l_mixed:List D→Option D:=runD 3 [false,false] B_l_mixed
theorem F_l_mixed_def:F_l_mixed=runD 3 [false,false] B_l_mixed:=by unfold F_l_mixed; rfl
theorem st_l_names (x0 x1:D):stD 4 [false,false] [x0,x1]=[.bo x0,.bo x1,.un,.un]:=rfl
noncomputable def B_l_names:DS:=(sSeq (sSetO 2 dNil)
 (sSeq (sFor (dRg1 (dVar 1)) (gN true 3)
      (sIns 2 (dMod (dCall F_l_mixed (dCons (dVar 0) (dCons (dVar 3) dNil))) (dAdd (dVar 3) (dC (.int 1)))) (dVarI 3)))
    (sFrz 2 (sRet (dVarI 2)))))
@[irreducible] noncomputable def F_l_names:List D→Option D:=runD 4 [false,false] B_l_names
theorem F_l_names_def:F_l_names=runD 4 [false,false] B_l_names:=by unfold F_l_names; rfl
theorem st_l_behind (x0 x1:D):stD 12 [false,false] [x0,x1]=[.bo x0,.bo x1,.un,.un,.un,.un,.un,.un,.un,.un,.un,.un]:=rfl
noncomputable def B_l_behind:DS:=(sSeq (sSet 2 (dCall F_l_cell_at (dCons (dVar 0) (dCons (dC (.int 0)) dNil))))
 (sSeq (sSet 3 (dIx (dLst (dCons (dMod (dFdiv (dVar 2) (dC (.int 3))) (dAdd (dVar 1) (dC (.int 1)))) (dCons (gScal (dVar 1)) (dCons (dMod (dFdiv (dVar 2) (dC (.int 3))) (dAdd (dVar 1) (dC (.int 1)))) dNil)))) (dMod (dVar 2) (dC (.int 3)))))
 (sSeq (sSet 4 (dCall F_l_cell_at (dCons (dVar 0) (dCons (dC (.int 1)) dNil))))
 (sSeq (sSet 5 (dCall F_l_names (dCons (dVar 4) (dCons (dVar 3) dNil))))
 (sSeq (sSet 6 (dIx (dLst (dCons (dC (.int 1)) (dCons (dC (.int 2)) (dCons (dC (.int 5)) (dCons (gScal (dVar 1)) dNil))))) (dMod (dVar 4) (dC (.int 4)))))
 (sSeq (sSetO 7 (dRep (dCons (dNeg (dC (.int 1))) dNil) (dVar 3)))
 (sSeq (sFor (dRg2 (dC (.int 1)) (dVar 3)) (gN true 8)
 (sSeq (sSet 9 (dMod (dCall F_l_mixed (dCons (dVar 4) (dCons (dAdd (dC (.int 60)) (dVar 8)) dNil))) (dMin2 (dVar 8) (dVar 6))))
 (sPut 7 (dIx (dVar 5) (dVar 8)) (dIx (dVarI 5) (dIx (dLst (dCons (dSub (dSub (dVar 8) (dC (.int 1))) (dVar 9)) (dCons (dVarI 9) dNil))) (dMod (dFdiv (dVar 4) (dC (.int 4))) (dC (.int 2))))))))
 (sSeq (sFor (dRg2 (dC (.int 3)) (dMin2 (dC (.int 63)) (dF1 lenD (dVar 0)))) (gN true 8)
 (sSeq (sSet 10 (dCall F_l_mixed (dCons (dIx (dVar 0) (dVar 8)) (dCons (dVar 8) dNil))))
 (sIf (dT (dGt (dVar 3) (dC (.int 1))))
 (sSeq (sSet 11 (dAdd (dC (.int 1)) (dMod (dMod (dMul (dVar 10) (dC (.int 16807))) (dC (.int 2147483587))) (dSub (dVar 3) (dC (.int 1))))))
 (sSeq (sSet 9 (dMod (dMod (dMul (dVar 10) (dC (.int 69621))) (dC (.int 1000003))) (dMin2 (dVar 11) (dVar 6))))
 (sSeq (sPut 7 (dIx (dVar 5) (dVar 11)) (dIx (dVarI 5) (dIx (dLst (dCons (dSub (dSub (dVar 11) (dC (.int 1))) (dVar 9)) (dCons (dVarI 9) dNil))) (dMod (dFdiv (dVar 4) (dC (.int 4))) (dC (.int 2))))))
 (sIf (dT (dEq false (dMod (dVar 10) (dIx (dLst (dCons (dC (.int 40)) (dCons (dC (.int 40)) (dCons (dC (.int 6)) dNil)))) (dMod (dFdiv (dVar 4) (dC (.int 8))) (dC (.int 3))))) (dC (.int 0))))
 (sPut 7 (dIx (dVar 5) (dVar 11)) (dNeg (dC (.int 1))))
      sPass))))
      sPass)))
    (sFrz 7 (sRet (dVarI 7)))))))))))
@[irreducible] noncomputable def F_l_behind:List D→Option D:=runD 12 [false,false] B_l_behind
theorem F_l_behind_def:F_l_behind=runD 12 [false,false] B_l_behind:=by unfold F_l_behind; rfl
theorem st_law (x0:D):stD 7 [false] [x0]=[.bo x0,.un,.un,.un,.un,.un,.un]:=rfl
noncomputable def B_law:DS:=(sSeq (sSet 1 (dCall F_l_behind (dCons (dVar 0) (dCons (dC (.int 14)) dNil))))
 (sSeq (sSetO 2 dNil)
 (sSeq (sFor (dRg1 (dF1 lenD (dVar 1))) (gN true 3)
 (sIf (dT (dEq true (dIx (dVar 1) (dVar 3)) (dNeg (dC (.int 1)))))
 (sSeq (sSet 4 (dMod (dCall F_l_mixed (dCons (dCall F_l_cell_at (dCons (dVar 0) (dCons (dC (.int 2)) dNil))) (dCons (dVar 3) dNil))) (dAdd (dF1 lenD (dVar 2)) (dC (.int 1)))))
    (sIns 2 (dVar 4) (dLst (dCons (dVarI 3) (dCons (dIx (dVarI 1) (dVar 3)) dNil)))))
      sPass))
 (sSeq (sSet 5 (dF1 lenD (dCall F_tree_turns (dCons (dLst (dLof (dVarI 1))) (dCons (dC (.int 2)) dNil)))))
 (sSeq (sIf (dT (dEq true (dF1 lenD (dCall F_pair_turns (dCons (dF1 lenD (dVar 1)) (dCons (dLst (dComp 1 [] (asL (dVar 2)) (gN false 0) dTrue (dLst (gFlat (dLof (dVar 0)))))) dNil)))) (dVar 5)))
 (sRet (dC (.bl false)))
      sPass)
 (sSeq (sIf (dT (dEq true (dCall F_turns_shown (dCons (dLst (dLof (dVarI 1))) (dCons (dC (.int 2)) (dCons (dCall F_why_tree (dCons (dLst (dLof (dVarI 1))) (dCons (dC (.int 2)) dNil))) dNil)))) (dVar 5)))
 (sRet (dC (.bl false)))
      sPass)
 (sSeq (sSet 6 (dCall F_why_pairs (dCons (dF1 lenD (dVar 1)) (dCons (dLst (dComp 1 [] (asL (dVar 2)) (gN false 0) dTrue (dLst (gFlat (dLof (dVar 0)))))) dNil))))
 (sRet (dEq false (dF1 sumD (dLst (dComp 1 [] (asL (dVarI 6)) (gN true 0) dTrue (dFdiv (dAdd (dF1 lenD (dVar 0)) (dC (.int 1))) (dC (.int 2)))))) (dVar 5))))))))))
@[irreducible] noncomputable def F_law:List D→Option D:=runD 7 [false] B_law
theorem F_law_def:F_law=runD 7 [false] B_law:=by unfold F_law; rfl
end
section
variable [Tabs] {P:Program} {w:World} {K:PySem.W.Frag} {mg:Str→Option Value} {base:Heap} {ad:Adr}
theorem ok_divided_up (T:Txt K mg ad) (hbm:BmOk mg base):FnOk P w K mg base CX0 1 ad.f_divided_up ad.d_divided_up ["total", "parts"] (spD .v K [false,false] F_divided_up):=by
  rw [F_divided_up_def]
  exact Fun.okD (N:=["total", "parts"]) T.F_divided_up sc_divided_up [false,false] rfl B_divided_up fun cdv A outer s H E hr=>⟨_,
 (pss_cons (ps_if (pt_truthK (K:=K) rfl (pe_op op_mod (pv 0) (pv 1)) (fun _=>rfl))
 (pss_one (ps_ret (pe_op op_add (pe_op op_fdivB (pv 0) (pv 1)) pe_int)))
 pss_nil)
 (pss_one (ps_ret (pe_op op_fdivB (pv 0) (pv 1))))),
 (ss_seq (ss_if (st_tru (K:=K) (SemI.b (si_mod (sb_var 0) (sb_var 1))))
 (ss_ret (si_add (SemI.b (si_fdiv (sb_var 0) (sb_var 1))) (SemI.b si_int)))
 ss_pass)
 (ss_ret (si_fdiv (sb_var 0) (sb_var 1))))⟩
theorem ok_either (T:Txt K mg ad) (hbm:BmOk mg base):FnOk P w K mg base CX0 1 ad.f_either ad.d_either ["truths", "others"] (spD .v K [false,false] F_either):=by
  rw [F_either_def]
  exact Fun.okD (N:=["truths", "others"]) T.F_either sc_either [false,false] rfl B_either fun cdv A outer s H E hr=>⟨_,
 (pss_one (ps_ret (pe_cM0 rfl (pi_zip (K:=K) rfl rfl T.z_zip (pa_cons (pv 0) (pa_cons (pv 1) pa_nil))) (ts:=["one", "other"]) (zs:=[]) (k:=2) (is:=[]) rfl .nil .nil rfl rfl rfl (low_seq (lows_cons (low_name (by decide)) (lows_cons (low_name (by decide)) lows_nil))) (fun _ _ _ _ _=>(pg_seqK (K:=K) rfl rfl (pgs_cons (pgbC (i:=0) (by decide +kernel) rfl (Or.inl rfl) (Or.inr rfl)) (pgs_cons (pgbC (i:=1) (by decide +kernel) rfl (Or.inl rfl) (Or.inr rfl)) pgs_nil)))) (fun _ _ _ _ _=>(pe_or (pv 0) (pe_one (pv 1)))) rfl rfl (by decide +kernel)))),
 (ss_ret (SemF.l (sf_comp (m:=true) (k:=2) (cs:=[]) (swc_zipB (sb_var 0) (sb_var 1)) (sg_un (sgs_cons (sg_name 0) (sgs_cons (sg_name 1) sgs_nil))) st_true (si_orV (sb_var 0) (si_var 1)))))⟩
theorem ok_told_order (T:Txt K mg ad) (hbm:BmOk mg base):FnOk P w K mg base CX0 1 ad.f_told_order ad.d_told_order ["many", "needs"] (spD .l K [false,false] F_told_order):=by
  rw [F_told_order_def]
  exact Fun.okF (N:=["many", "needs", "before", "first", "later"]) T.F_told_order sc_told_order [false,false] rfl B_told_order fun cdv A outer s H E hr=>⟨_,
 (pss_cons (ps_cM0 (i:=2) sc_told_order.nd rfl rfl rfl (pi_range1 rfl T.z_range (pa_cons (pv 0) pa_nil)) (ts:=["work"]) (zs:=["many"]) (k:=1) (is:=[0]) rfl (.cons rfl .nil) (.cons rfl (Or.inl rfl) rfl (by first | exact Or.inl rfl | exact Or.inr rfl) .nil) rfl rfl rfl (low_name (by decide)) (fun _ _ _ _ _=>(pgbC (i:=0) (by decide +kernel) rfl (Or.inl rfl) (Or.inr rfl))) (fun _ _ _ _ _=>(pe_op op_rep (pe_lst (pa_cons pe_bl pa_nil)) (pv 1))) rfl rfl (by decide +kernel))
 (pss_cons (ps_for PassesOwn.never rfl (pi_listK (K:=K) rfl (pv 1)) (pg_seqK (K:=K) rfl rfl (pgs_cons (pg_name (i:=3) sc_told_order.nd rfl (Or.inl rfl)) (pgs_cons (pg_name (i:=4) sc_told_order.nd rfl (Or.inl rfl)) pgs_nil)))
 (pss_cons (ps_if (pt_not (PW.pt (pw_and (pt_chain op_le op_lt pe_int (pv 3) (pv 0)) (pw_and1 (pt_chain op_le op_lt pe_int (pv 4) (pv 0))))))
 (pss_one ps_never)
 pss_nil)
 (pss_one (ps_asg pe_bl (pg_sub (pe_ix (ix_seqK (K:=K) rfl) (pv 2) (pv 3) (fun _ _=>rfl)) (pv 4) set_list)))))
 (pss_one (ps_ret (pv 2))))),
 (ss_seq (ss_setMC (sm_comp (m:=true) (k:=1) (cs:=[0]) (SemW.c (sw_range1 (sb_var 0))) (sg_name 0) st_true (sf_rep (sf_lst (n:=1) (sa_own si_bl sa_nil) (by decide)) (sb_var 1))))
 (ss_seq (ss_for (m:=false) (sw_listO (so_var 1)) (sg_un (sgs_cons (sg_name 3) (sgs_cons (sg_name 4) sgs_nil)))
 (ss_seq (ss_if (st_not (st_and (st_test (SemI.b (si_chain (p:=fun i j=>decide (i≤j)) (q:=fun i j=>decide (i<j)) (SemI.b si_int) (sb_var 3) (sb_var 0)))) (st_test (SemI.b (si_chain (p:=fun i j=>decide (i≤j)) (q:=fun i j=>decide (i<j)) (SemI.b si_int) (sb_var 4) (sb_var 0))))))
 ss_never
 ss_pass)
 (ss_put2 si_bl (sb_var 3) (sb_var 4))))
 (ss_frzR 2 ss_retX)))⟩
theorem ok_ahead_of (T:Txt K mg ad) (hbm:BmOk mg base):FnOk P w K mg base CX0 2 ad.f_ahead_of ad.d_ahead_of ["many", "needs"] (spD .v K [false,false] F_ahead_of):=by
  rw [F_ahead_of_def]
  exact Fun.okD (N:=["many", "needs", "before", "between", "first"]) T.F_ahead_of sc_ahead_of [false,false] rfl B_ahead_of fun cdv A outer s H E hr=>⟨_,
 (pss_cons (ps_set (i:=2) sc_ahead_of.nd rfl (Or.inr rfl) (pe_call (ok_told_order T hbm) (hr.mono (by decide)) rfl T.m_told_order T.F_told_order.kp T.b_told_order .nil pass0 (pa_cons (pv 0) (pa_cons (pv 1) pa_nil))))
 (pss_cons (ps_for PassesOwn.never rfl (pi_range1 rfl T.z_range (pa_cons (pv 0) pa_nil)) (pg_name (i:=3) sc_ahead_of.nd rfl (Or.inl rfl))
 (pss_one (ps_for PassesOwn.never rfl (pi_range1 rfl T.z_range (pa_cons (pv 0) pa_nil)) (pg_name (i:=4) sc_ahead_of.nd rfl (Or.inl rfl))
 (pss_one (ps_if (pt_truthK (K:=K) rfl (pe_ix (ix_seqK (K:=K) rfl) (pe_ix (ix_seqK (K:=K) rfl) (pv 2) (pv 4) (fun _ _=>rfl)) (pv 3) (fun _ _=>rfl)) (fun _=>rfl))
 (pss_one (ps_asg (pe_call (ok_either T hbm) (hr.mono (by decide)) rfl T.m_either T.F_either.kp T.b_either .nil pass0 (pa_cons (pe_ix (ix_seqK (K:=K) rfl) (pv 2) (pv 4) (fun _ _=>rfl)) (pa_cons (pe_ix (ix_seqK (K:=K) rfl) (pv 2) (pv 3) (fun _ _=>rfl)) pa_nil))) (pg_sub (pv 2) (pv 4) set_list)))
 pss_nil)))))
 (pss_cons (ps_if (pt_truthK (K:=K) rfl (pe_callB (call_anyK (K:=K) rfl rfl) rfl T.z_any bt_any (pa_cons (pe_cM0 rfl (pi_range1 rfl T.z_range (pa_cons (pv 0) pa_nil)) (ts:=["work"]) (zs:=["before"]) (k:=1) (is:=[2]) rfl (.cons rfl .nil) (.cons rfl (Or.inl rfl) rfl (by first | exact Or.inl rfl | exact Or.inr rfl) .nil) rfl rfl rfl (low_name (by decide)) (fun _ _ _ _ _=>(pgbC (i:=0) (by decide +kernel) rfl (Or.inl rfl) (Or.inr rfl))) (fun _ _ _ _ _=>(pe_ix (ix_seqK (K:=K) rfl) (pe_ix (ix_seqK (K:=K) rfl) (pv 1) (pv 0) (fun _ _=>rfl)) (pv 0) (fun _ _=>rfl))) rfl rfl (by decide +kernel)) pa_nil)) (fun _=>rfl))
 (pss_one ps_never)
 pss_nil)
 (pss_one (ps_ret (pe_cM0 rfl (pi_listK (K:=K) rfl (pv 2)) (ts:=["row"]) (zs:=["many"]) (k:=1) (is:=[0]) rfl (.cons rfl .nil) (.cons rfl (Or.inl rfl) rfl (by first | exact Or.inl rfl | exact Or.inr rfl) .nil) rfl rfl rfl (low_name (by decide)) (fun _ _ _ _ _=>(pgbC (i:=0) (by decide +kernel) rfl (Or.inr rfl) (Or.inl rfl))) (fun _ _ _ _ _=>(pe_cM1 rfl (pi_range1 rfl T.z_range (pa_cons (pv 1) pa_nil)) (ts:=["later"]) (zs:=["row"]) (k:=1) (is:=[0]) rfl (.cons rfl .nil) (.cons rfl (by first | exact Or.inl rfl | exact Or.inr rfl) rfl (by first | exact Or.inl rfl | exact Or.inr rfl) .nil) rfl rfl rfl (low_name (by decide)) (fun _ _ _ _ _=>(pgbC (i:=0) (by decide +kernel) rfl (Or.inl rfl) (Or.inr rfl))) (fun _ _ _ _ _=>(pt_truthK (K:=K) rfl (pe_ix (ix_seqK (K:=K) rfl) (pv 1) (pv 0) (fun _ _=>rfl)) (fun _=>rfl))) (fun _ _ _ _ _=>(pv 0)) rfl rfl (by decide +kernel))) rfl rfl (by decide +kernel))))))),
 (ss_seq (ss_setO (sf_call (sa_any (sb_var 0) (sa_any (sb_var 1) sa_nil))))
 (ss_seq (ss_for (m:=true) (sw_range1 (sb_var 0)) (sg_name 3)
 (ss_for (m:=true) (sw_range1 (sb_var 0)) (sg_name 4)
 (ss_if (st_tru (K:=K) (sb_ix (sb_ix (sb_var 2) (sb_var 4)) (sb_var 3)))
 (ss_put (si_call (sa_any (sb_ix (sb_var 2) (sb_var 4)) (sa_any (sb_ix (sb_var 2) (sb_var 3)) sa_nil))) (sb_var 4))
 ss_pass)))
 (ss_seq (ss_if (st_tru (K:=K) (SemI.b (si_any (SemI.b (SemF.l (sf_comp (m:=true) (k:=1) (cs:=[2]) (SemW.c (sw_range1 (sb_var 0))) (sg_name 0) st_true (SemB.i (sb_ix (sb_ix (sb_var 1) (sb_var 0)) (sb_var 0)))))))))
 ss_never
 ss_pass)
 (ss_ret (SemF.l (sf_comp (m:=false) (k:=1) (cs:=[0]) (swc_listB (sb_var 2)) (sg_name 0) st_true (SemF.l (sf_comp (m:=true) (k:=1) (cs:=[0]) (SemW.c (sw_range1 (sb_var 1))) (sg_name 0) (st_tru (K:=K) (sb_ix (sb_var 1) (sb_var 0))) (si_var 0)))))))))⟩
theorem ok_comes_between (T:Txt K mg ad) (hbm:BmOk mg base):FnOk P w K mg base CX0 1 ad.f_comes_between ad.d_comes_between ["ahead", "row", "later"] (spD .v K [false,false,false] F_comes_between):=by
  rw [F_comes_between_def]
  exact Fun.okD (N:=["ahead", "row", "later"]) T.F_comes_between sc_comes_between [false,false,false] rfl B_comes_between fun cdv A outer s H E hr=>⟨_,
 (pss_one (ps_ret (pe_callB (call_anyK (K:=K) rfl rfl) rfl T.z_any bt_any (pa_cons (pe_cM0 rfl (pi_listK (K:=K) rfl (pv 1)) (ts:=["between"]) (zs:=["later", "ahead"]) (k:=1) (is:=[2,0]) rfl (.cons rfl (.cons rfl .nil)) (.cons rfl (Or.inl rfl) rfl (by first | exact Or.inl rfl | exact Or.inr rfl) (.cons rfl (Or.inl rfl) rfl (by first | exact Or.inl rfl | exact Or.inr rfl) .nil)) rfl rfl rfl (low_name (by decide)) (fun _ _ _ _ _=>(pgbC (i:=0) (by decide +kernel) rfl (Or.inl rfl) (Or.inr rfl))) (fun _ _ _ _ _=>(pe_cmpR (op_in_seqK (K:=K) rfl) (pv 1) (pe_ix (ix_seqK (K:=K) rfl) (pv 2) (pv 0) (fun _ _=>rfl)) (by with_unfolding_all rfl))) rfl rfl (by decide +kernel)) pa_nil)))),
 (ss_ret (si_any (SemI.b (SemF.l (sf_comp (m:=false) (k:=1) (cs:=[2,0]) (swc_listB (sb_var 1)) (sg_name 0) st_true (si_in (neg:=false) (sb_var 1) (sb_ix (sb_var 2) (sb_var 0))))))))⟩
theorem ok_straight_ahead (T:Txt K mg ad) (hbm:BmOk mg base):FnOk P w K mg base CX0 3 ad.f_straight_ahead ad.d_straight_ahead ["many", "needs"] (spD .v K [false,false] F_straight_ahead):=by
  rw [F_straight_ahead_def]
  exact Fun.okD (N:=["many", "needs", "ahead"]) T.F_straight_ahead sc_straight_ahead [false,false] rfl B_straight_ahead fun cdv A outer s H E hr=>⟨_,
 (pss_cons (ps_set (i:=2) sc_straight_ahead.nd rfl (Or.inr rfl) (pe_call (ok_ahead_of T hbm) (hr.mono (by decide)) rfl T.m_ahead_of T.F_ahead_of.kp T.b_ahead_of .nil pass0 (pa_cons (pv 0) (pa_cons (pv 1) pa_nil))))
 (pss_one (ps_ret (pe_cM0 rfl (pi_listK (K:=K) rfl (pv 2)) (ts:=["row"]) (zs:=["ahead"]) (k:=1) (is:=[2]) rfl (.cons rfl .nil) (.cons rfl (Or.inl rfl) rfl (by first | exact Or.inl rfl | exact Or.inr rfl) .nil) rfl rfl rfl (low_name (by decide)) (fun _ _ _ _ _=>(pgbC (i:=0) (by decide +kernel) rfl (Or.inr rfl) (Or.inl rfl))) (fun _ _ _ _ _=>(pe_cM1 rfl (pi_listK (K:=K) rfl (pv 0)) (ts:=["later"]) (zs:=["ahead", "row"]) (k:=1) (is:=[1,0]) rfl (.cons rfl (.cons rfl .nil)) (.cons rfl (by first | exact Or.inl rfl | exact Or.inr rfl) rfl (by first | exact Or.inl rfl | exact Or.inr rfl) (.cons rfl (by first | exact Or.inl rfl | exact Or.inr rfl) rfl (by first | exact Or.inl rfl | exact Or.inr rfl) .nil)) rfl rfl rfl (low_name (by decide)) (fun _ _ _ _ _=>(pgbC (i:=0) (by decide +kernel) rfl (Or.inl rfl) (Or.inr rfl))) (fun _ _ _ _ _=>(pt_not (pt_truthK (K:=K) rfl (pe_call (ok_comes_between T hbm) (hr.mono (by decide)) rfl T.m_comes_between T.F_comes_between.kp T.b_comes_between .nil pass0 (pa_cons (pv 1) (pa_cons (pv 2) (pa_cons (pv 0) pa_nil)))) (fun _=>rfl)))) (fun _ _ _ _ _=>(pv 0)) rfl rfl (by decide +kernel))) rfl rfl (by decide +kernel))))),
 (ss_seq (ss_set (si_call (sa_any (sb_var 0) (sa_any (sb_var 1) sa_nil))))
 (ss_ret (SemF.l (sf_comp (m:=true) (k:=1) (cs:=[2]) (SemW.c (sw_list (si_var 2))) (sg_name 0) st_true (SemF.l (sf_comp (m:=true) (k:=1) (cs:=[1,0]) (SemW.c (sw_list (si_var 0))) (sg_name 0) (st_not (st_tru (K:=K) (SemI.b (si_call (sa_any (sb_var 1) (sa_any (sb_var 2) (sa_any (sb_var 0) sa_nil))))))) (si_var 0)))))))⟩
theorem ok_falling_marks (T:Txt K mg ad) (hbm:BmOk mg base):FnOk P w K mg base CX0 1 ad.f_falling_marks ad.d_falling_marks ["works", "given"] (spD .v K [false,false] F_falling_marks):=by
  rw [F_falling_marks_def]
  exact Fun.okD (N:=["works", "given"]) T.F_falling_marks sc_falling_marks [false,false] rfl B_falling_marks fun cdv A outer s H E hr=>⟨_,
 (pss_one (ps_ret (pe_callBK (call_sortR (K:=K) rfl rfl) rfl T.z_sorted bt_sorted (pa_cons (pe_cM0 rfl (pi_listK (K:=K) rfl (pv 0)) (ts:=["work"]) (zs:=["given"]) (k:=1) (is:=[1]) rfl (.cons rfl .nil) (.cons rfl (Or.inl rfl) rfl (by first | exact Or.inl rfl | exact Or.inr rfl) .nil) rfl rfl rfl (low_name (by decide)) (fun _ _ _ _ _=>(pgbC (i:=0) (by decide +kernel) rfl (Or.inl rfl) (Or.inr rfl))) (fun _ _ _ _ _=>(pe_ix (ix_seqK (K:=K) rfl) (pv 1) (pv 0) (fun _ _=>rfl))) rfl rfl (by decide +kernel)) pa_nil) (pk_cons pe_bl pk_nil)))),
 (ss_ret (SemF.l (sf_srtR (SemI.b (SemF.l (sf_comp (m:=false) (k:=1) (cs:=[1]) (swc_listB (sb_var 0)) (sg_name 0) st_true (SemB.i (sb_ix (sb_var 1) (sb_var 0)))))) si_bl)))⟩
theorem ok_next_marked (T:Txt K mg ad) (hbm:BmOk mg base):FnOk P w K mg base CX0 5 ad.f_next_marked ad.d_next_marked ["straight", "given"] (spD .v K [true,false] F_next_marked):=by
  rw [F_next_marked_def]
  exact Fun.okDL (N:=["straight", "given", "free"]) T.F_next_marked sc_next_marked [true,false] rfl B_next_marked fun cdv hcd A outer s H E hr=>⟨_,
 (pss_cons (ps_cM1 (i:=2) sc_next_marked.nd rfl rfl rfl (pi_enumK (K:=K) rfl rfl T.z_enumerate (pv 0)) (ts:=["work", "row"]) (zs:=["given"]) (k:=2) (is:=[1]) rfl (.cons rfl .nil) (.cons rfl (Or.inl rfl) rfl (by first | exact Or.inl rfl | exact Or.inr rfl) .nil) rfl rfl rfl (low_seq (lows_cons (low_name (by decide)) (lows_cons (low_name (by decide)) lows_nil))) (fun _ _ _ _ _=>(pg_seqK (K:=K) rfl rfl (pgs_cons (pgbC (i:=0) (by decide +kernel) rfl (Or.inl rfl) (Or.inr rfl)) (pgs_cons (pgbC (i:=1) (by decide +kernel) rfl (Or.inl rfl) (Or.inr rfl)) pgs_nil)))) (fun _ _ _ _ _=>(PW.pt (pw_and (pt_cmpR (op_eqD (K:=K) hr.units) (pe_ix (ix_seqK (K:=K) rfl) (pv 2) (pv 0) (fun _ _=>rfl)) pe_int (nomark _)) (pw_and1 (pt_truthK (K:=K) rfl (pe_callB (call_allK (K:=K) rfl rfl) rfl T.z_all bt_all (pa_cons (pe_cM0 rfl (pi_listK (K:=K) rfl (pv 1)) (ts:=["later"]) (zs:=["given"]) (k:=1) (is:=[2]) rfl (.cons rfl .nil) (.cons rfl (by first | exact Or.inl rfl | exact Or.inr rfl) rfl (by first | exact Or.inl rfl | exact Or.inr rfl) .nil) rfl rfl rfl (low_name (by decide)) (fun _ _ _ _ _=>(pgbC (i:=0) (by decide +kernel) rfl (Or.inl rfl) (Or.inr rfl))) (fun _ _ _ _ _=>(pe_ix (ix_seqK (K:=K) rfl) (pv 1) (pv 0) (fun _ _=>rfl))) rfl rfl (by decide +kernel)) pa_nil)) (fun _=>rfl)))))) (fun _ _ _ _ _=>(pv 0)) rfl rfl (by decide +kernel))
 (pss_one (ps_ret (pe_minK (K:=K) (x := "work") (zs:=["straight", "given"]) (is:=[0,1]) (q := "next_marked.<locals>.<lambda>") rfl ⟨hcd.symm.trans T.kc_next_marked,T.kh_next_marked,hbm⟩ hr rfl rfl T.z_min (pv 2) (LFrees.many (.cons rfl (.cons rfl .nil)) (.cons rfl (by first | exact Or.inl rfl | exact Or.inr rfl) rfl rfl (.cons rfl (by first | exact Or.inl rfl | exact Or.inr rfl) rfl rfl .nil)) (by decide +kernel) rfl (by decide +kernel) rfl rfl rfl) (by first | rfl | decide +kernel) rfl (fun _ _ _ _ _=>(pe_tup (pa_cons (pe_call (ok_falling_marks T hbm) (Room.deeper (Room.in1 (hr.mono (by decide))) _) rfl T.m_falling_marks T.F_falling_marks.kp T.b_falling_marks .nil pass0 (pa_cons (pe_ix (ix_seqK (K:=K) rfl) (pv 1) (pv 0) (fun _ _=>rfl)) (pa_cons (pv 2) pa_nil))) (pa_cons (pv 0) pa_nil)))))))),
 (ss_seq (ss_setC (SemF.l (sf_comp (m:=true) (k:=2) (cs:=[1]) (SemW.c (sw_enum (si_var 0))) (sg_un (sgs_cons (sg_name 0) (sgs_cons (sg_name 1) sgs_nil))) (st_and (st_test (SemI.b (si_eq (neg:=false) (sb_ix (sb_var 2) (sb_var 0)) (SemI.b si_int)))) (st_tru (K:=K) (SemI.b (si_all (SemI.b (SemF.l (sf_comp (m:=true) (k:=1) (cs:=[2]) (SemW.c (sw_list (si_var 1))) (sg_name 0) st_true (SemB.i (sb_ix (sb_var 1) (sb_var 0)))))))))) (si_var 0))))
 (ss_ret (si_minK T.kt_next_marked (si_var 2) (si_tup (n:=2) (sa_own (si_call (sa_any (sb_ix (sb_var 1) (sb_var 0)) (sa_any (sb_var 2) sa_nil))) (sa_own (si_var 0) sa_nil)) (by decide)))))⟩
theorem ok_marks (T:Txt K mg ad) (hbm:BmOk mg base):FnOk P w K mg base CX0 6 ad.f_marks ad.d_marks ["many", "needs"] (spD .v K [false,false] F_marks):=by
  rw [F_marks_def]
  exact Fun.okD (N:=["many", "needs", "straight", "given", "mark"]) T.F_marks sc_marks [false,false] rfl B_marks fun cdv A outer s H E hr=>⟨_,
 (pss_cons (ps_set (i:=2) sc_marks.nd rfl (Or.inl rfl) (pe_call (ok_straight_ahead T hbm) (hr.mono (by decide)) rfl T.m_straight_ahead T.F_straight_ahead.kp T.b_straight_ahead .nil pass0 (pa_cons (pv 0) (pa_cons (pv 1) pa_nil))))
 (pss_cons (ps_set (i:=3) sc_marks.nd rfl (Or.inl rfl) (pe_op op_rep (pe_lst (pa_cons pe_int pa_nil)) (pv 0)))
 (pss_cons (ps_for PassesOwn.never rfl (pi_range2 rfl T.z_range (pa_cons pe_int (pa_cons (pe_op op_add (pv 0) pe_int) pa_nil))) (pg_name (i:=4) sc_marks.nd rfl (Or.inl rfl))
 (pss_one (ps_asg (pv 4) (pg_sub (pv 3) (pe_call (ok_next_marked T hbm) (hr.mono (by decide)) rfl T.m_next_marked T.F_next_marked.kp T.b_next_marked .nil pass0 (pa_cons (pv 2) (pa_cons (pv 3) pa_nil))) set_list))))
 (pss_one (ps_ret (pv 3)))))),
 (ss_seq (ss_set (si_call (sa_any (sb_var 0) (sa_any (sb_var 1) sa_nil))))
 (ss_seq (ss_setO (sf_rep (sf_lst (n:=1) (sa_own si_int sa_nil) (by decide)) (sb_var 0)))
 (ss_seq (ss_for (m:=true) (sw_range2 (SemI.b si_int) (SemI.b (si_add (sb_var 0) (SemI.b si_int)))) (sg_name 4)
 (ss_put (si_var 4) (SemI.b (si_call (sa_own (si_var 2) (sa_any (sb_var 3) sa_nil))))))
 (ss_frz 3 (ss_ret (si_var 3))))))⟩
theorem ok_pair_turns (T:Txt K mg ad) (hbm:BmOk mg base):FnOk P w K mg base CX0 7 ad.f_pair_turns ad.d_pair_turns ["many", "needs"] (spD .v K [false,false] F_pair_turns):=by
  rw [F_pair_turns_def]
  exact Fun.okDL (N:=["many", "needs", "given", "ahead", "left", "turns", "ready", "turn"]) T.F_pair_turns sc_pair_turns [false,false] rfl B_pair_turns fun cdv hcd A outer s H E hr=>⟨_,
 (pss_cons (ps_set (i:=2) sc_pair_turns.nd rfl (Or.inr rfl) (pe_call (ok_marks T hbm) (hr.mono (by decide)) rfl T.m_marks T.F_marks.kp T.b_marks .nil pass0 (pa_cons (pv 0) (pa_cons (pv 1) pa_nil))))
 (pss_cons (ps_set (i:=3) sc_pair_turns.nd rfl (Or.inr rfl) (pe_call (ok_ahead_of T hbm) (hr.mono (by decide)) rfl T.m_ahead_of T.F_ahead_of.kp T.b_ahead_of .nil pass0 (pa_cons (pv 0) (pa_cons (pv 1) pa_nil))))
 (pss_cons (ps_set (i:=4) sc_pair_turns.nd rfl (Or.inr rfl) (pe_callTy (call_lrg rfl) rfl T.z_list bt_list (pa_cons (pe_callTy call_rg1 rfl T.z_range bt_range (pa_cons (pv 0) pa_nil)) pa_nil)))
 (pss_cons (ps_set (i:=5) sc_pair_turns.nd rfl (Or.inl rfl) (pe_lst pa_nil))
 (pss_cons (ps_while PassesOwn.never (pt_truthK (K:=K) rfl (pv 4) (fun _=>rfl))
 (pss_cons (ps_cM1 (i:=6) sc_pair_turns.nd rfl rfl rfl (pi_listK (K:=K) rfl (pv 4)) (ts:=["work"]) (zs:=["left", "ahead"]) (k:=1) (is:=[4,3]) rfl (.cons rfl (.cons rfl .nil)) (.cons rfl (Or.inl rfl) rfl (by first | exact Or.inl rfl | exact Or.inr rfl) (.cons rfl (Or.inl rfl) rfl (by first | exact Or.inl rfl | exact Or.inr rfl) .nil)) rfl rfl rfl (low_name (by decide)) (fun _ _ _ _ _=>(pgbC (i:=0) (by decide +kernel) rfl (Or.inr rfl) (Or.inl rfl))) (fun _ _ _ _ _=>(pt_not (pt_truthK (K:=K) rfl (pe_callB (call_anyK (K:=K) rfl rfl) rfl T.z_any bt_any (pa_cons (pe_cM0 rfl (pi_listK (K:=K) rfl (pv 1)) (ts:=["first"]) (zs:=["work", "ahead"]) (k:=1) (is:=[0,2]) rfl (.cons rfl (.cons rfl .nil)) (.cons rfl (by first | exact Or.inl rfl | exact Or.inr rfl) rfl (by first | exact Or.inl rfl | exact Or.inr rfl) (.cons rfl (by first | exact Or.inl rfl | exact Or.inr rfl) rfl (by first | exact Or.inl rfl | exact Or.inr rfl) .nil)) rfl rfl rfl (low_name (by decide)) (fun _ _ _ _ _=>(pgbC (i:=0) (by decide +kernel) rfl (Or.inl rfl) (Or.inr rfl))) (fun _ _ _ _ _=>(pe_cmpR (op_in_seqK (K:=K) rfl) (pv 1) (pe_ix (ix_seqK (K:=K) rfl) (pv 2) (pv 0) (fun _ _=>rfl)) (by with_unfolding_all rfl))) rfl rfl (by decide +kernel)) pa_nil)) (fun _=>rfl)))) (fun _ _ _ _ _=>(pv 0)) rfl rfl (by decide +kernel))
 (pss_cons (ps_set (i:=7) sc_pair_turns.nd rfl (Or.inr rfl) (pe_slice (sl_listK (K:=K) rfl) (pe_sortIR (K:=K) (x := "work") (zs:=["given"]) (is:=[2]) (q := "pair_turns.<locals>.<lambda>") rfl ⟨hcd.symm.trans T.kc_pair_turns,T.kh_pair_turns,hbm⟩ hr rfl rfl T.z_sorted (pv 6) pe_bl (fun _ _ _ h=>h) (LFrees.many (.cons rfl .nil) (.cons rfl (by first | exact Or.inl rfl | exact Or.inr rfl) rfl rfl .nil) (by decide +kernel) rfl (by decide +kernel) rfl rfl rfl) (by first | rfl | decide +kernel) rfl (fun _ _ _ _ _=>(pe_ix (ix_seqK (K:=K) rfl) (pv 1) (pv 0) (fun _ _=>rfl)))) po_none (po_some (pe_globI rfl T.c_BENCHES))))
 (pss_cons (ps_set (i:=4) sc_pair_turns.nd rfl (Or.inr rfl) (pe_cM1 rfl (pi_listK (K:=K) rfl (pv 4)) (ts:=["work"]) (zs:=["turn"]) (k:=1) (is:=[7]) rfl (.cons rfl .nil) (.cons rfl (Or.inl rfl) rfl (by first | exact Or.inl rfl | exact Or.inr rfl) .nil) rfl rfl rfl (low_name (by decide)) (fun _ _ _ _ _=>(pgbC (i:=0) (by decide +kernel) rfl (Or.inl rfl) (Or.inr rfl))) (fun _ _ _ _ _=>(pt_cmpR (op_notIn_seqK (K:=K) rfl) (pv 0) (pv 1) (by with_unfolding_all rfl))) (fun _ _ _ _ _=>(pv 0)) rfl rfl (by decide +kernel)))
 (pss_one (ps_expr (pe_bm PySem.F.plainAttrs_list PySem.F.slot_list_append PySem.F.type_list_append mt_append (pv 5) (pa_cons (pv 7) pa_nil))))))))
 (pss_one (ps_ret (pv 5)))))))),
 (ss_seq (ss_set (si_call (sa_any (sb_var 0) (sa_any (sb_var 1) sa_nil))))
 (ss_seq (ss_set (si_call (sa_any (sb_var 0) (sa_any (sb_var 1) sa_nil))))
 (ss_seq (ss_set (SemF.l (sf_lrg1 (sb_var 0))))
 (ss_seq (ss_setO (sf_lst (n:=0) sa_nil (by decide)))
 (ss_seq (ss_while (st_tru (K:=K) (sb_var 4))
 (ss_seq (ss_setC (SemF.l (sf_comp (m:=true) (k:=1) (cs:=[4,3]) (SemW.c (sw_list (si_var 4))) (sg_name 0) (st_not (st_tru (K:=K) (SemI.b (si_any (SemI.b (SemF.l (sf_comp (m:=true) (k:=1) (cs:=[0,2]) (SemW.c (sw_list (si_var 1))) (sg_name 0) st_true (si_in (neg:=false) (sb_var 1) (sb_ix (sb_var 2) (sb_var 0)))))))))) (si_var 0))))
 (ss_seq (ss_set (SemF.l (sf_sl (SemF.l (sf_sortI (b:=true) T.kt_pair_turns (si_var 6) (si_ix (si_var 1) (sb_var 0)))) so_none (so_some (SemI.b si_int)))))
 (ss_seq (ss_set (SemF.l (sf_comp (m:=true) (k:=1) (cs:=[7]) (SemW.c (sw_list (si_var 4))) (sg_name 0) (st_test (SemI.b (si_in (neg:=true) (sb_var 0) (sb_var 1)))) (si_var 0))))
 (ss_app (si_var 7))))))
 (ss_frz 5 (ss_ret (si_var 5))))))))⟩
theorem ok_block_between (T:Txt K mg ad) (hbm:BmOk mg base):FnOk P w K mg base CX0 1 ad.f_block_between ad.d_block_between ["turns", "cut", "last"] (spD .v K [true,false,false] F_block_between):=by
  rw [F_block_between_def]
  exact Fun.okD (N:=["turns", "cut", "last", "block", "turn"]) T.F_block_between sc_block_between [true,false,false] rfl B_block_between fun cdv A outer s H E hr=>⟨_,
 (pss_cons (ps_set (i:=3) sc_block_between.nd rfl (Or.inl rfl) (pe_lst pa_nil))
 (pss_cons (ps_for PassesOwn.never rfl (pi_listK (K:=K) rfl (pe_slice (sl_listK (K:=K) rfl) (pv 0) (po_some (pe_op op_add (pv 1) pe_int)) (po_some (pv 2)))) (pg_name (i:=4) sc_block_between.nd rfl (Or.inl rfl))
 (pss_one (ps_expr (pe_bm PySem.F.plainAttrs_list PySem.F.slot_list_extend PySem.F.type_list_extend mt_extR (pv 3) (pa_cons (pv 4) pa_nil)))))
 (pss_cons (ps_expr (pe_bm PySem.F.plainAttrs_list PySem.F.slot_list_append PySem.F.type_list_append mt_append (pv 3) (pa_cons (pe_ix (ix_seqK (K:=K) rfl) (pe_ix (ix_seqK (K:=K) rfl) (pv 0) (pv 2) (fun _ _=>rfl)) pe_int (fun _ _=>rfl)) pa_nil)))
 (pss_one (ps_ret (pv 3)))))),
 (ss_seq (ss_setO (sf_lst (n:=0) sa_nil (by decide)))
 (ss_seq (ss_for (m:=true) (sw_list (SemF.l (sf_sl (si_var 0) (so_some (SemI.b (si_add (sb_var 1) (SemI.b si_int)))) (so_some (sb_var 2))))) (sg_name 4)
 (ss_ext (si_var 4)))
 (ss_seq (ss_app (si_ix (si_ix (si_var 0) (sb_var 2)) (SemI.b si_int)))
 (ss_frz 3 (ss_ret (si_var 3))))))⟩
theorem ok_least_mark (T:Txt K mg ad) (hbm:BmOk mg base):FnOk P w K mg base CX0 1 ad.f_least_mark ad.d_least_mark ["turn", "given"] (spD .v K [false,false] F_least_mark):=by
  rw [F_least_mark_def]
  exact Fun.okD (N:=["turn", "given"]) T.F_least_mark sc_least_mark [false,false] rfl B_least_mark fun cdv A outer s H E hr=>⟨_,
 (pss_cons (ps_if (pt_cmpR op_lt (pe_callB (call_lenK (K:=K) rfl) rfl T.z_len bt_len (pa_cons (pv 0) pa_nil)) (pe_globI rfl T.c_BENCHES) (nomark _))
 (pss_one (ps_ret pe_int))
 pss_nil)
 (pss_one (ps_ret (pe_ix (ix_seqK (K:=K) rfl) (pv 1) (pe_ix (ix_seqK (K:=K) rfl) (pv 0) pe_int (fun _ _=>rfl)) (fun _ _=>rfl))))),
 (ss_seq (ss_if (st_test (SemI.b (si_lt (SemI.b (si_len (sb_var 0))) (SemI.b si_int))))
 (ss_ret si_int)
 ss_pass)
 (ss_ret (SemB.i (sb_ix (sb_var 1) (sb_ix (sb_var 0) (SemI.b si_int))))))⟩
theorem ok_last_cut (T:Txt K mg ad) (hbm:BmOk mg base):FnOk P w K mg base CX0 2 ad.f_last_cut ad.d_last_cut ["turns", "given", "last"] (spD .v K [false,false,false] F_last_cut):=by
  rw [F_last_cut_def]
  exact Fun.okD (N:=["turns", "given", "last", "cut"]) T.F_last_cut sc_last_cut [false,false,false] rfl B_last_cut fun cdv A outer s H E hr=>⟨_,
 (pss_cons (ps_set (i:=3) sc_last_cut.nd rfl (Or.inl rfl) (pe_op op_sub (pv 2) pe_int))
 (pss_cons (ps_while PassesOwn.never (PW.pt (pw_and (pt_cmpR op_ge (pv 3) pe_int (nomark _)) (pw_and1 (pt_cmpR op_gt (pe_call (ok_least_mark T hbm) (hr.mono (by decide)) rfl T.m_least_mark T.F_least_mark.kp T.b_least_mark .nil pass0 (pa_cons (pe_ix (ix_seqK (K:=K) rfl) (pv 0) (pv 3) (fun _ _=>rfl)) (pa_cons (pv 1) pa_nil))) (pe_ix (ix_seqK (K:=K) rfl) (pv 1) (pe_ix (ix_seqK (K:=K) rfl) (pe_ix (ix_seqK (K:=K) rfl) (pv 0) (pv 2) (fun _ _=>rfl)) pe_int (fun _ _=>rfl)) (fun _ _=>rfl)) (nomark _)))))
 (pss_one (ps_aug (i:=3) sc_last_cut.nd rfl (Or.inl rfl) pe_int ip_sub)))
 (pss_one (ps_ret (pv 3))))),
 (ss_seq (ss_set (si_sub (sb_var 2) (SemI.b si_int)))
 (ss_seq (ss_while (st_and (st_test (SemI.b (si_ge (sb_var 3) (SemI.b si_int)))) (st_test (SemI.b (si_gt (SemI.b (si_call (sa_any (sb_ix (sb_var 0) (sb_var 3)) (sa_any (sb_var 1) sa_nil)))) (sb_ix (sb_var 1) (sb_ix (sb_ix (sb_var 0) (sb_var 2)) (SemI.b si_int)))))))
 (ss_aug (SemI.b si_int)))
 (ss_ret (si_var 3))))⟩
theorem ok_why_pairs (T:Txt K mg ad) (hbm:BmOk mg base):FnOk P w K mg base CX0 8 ad.f_why_pairs ad.d_why_pairs ["many", "needs"] (spD .v K [false,false] F_why_pairs):=by
  rw [F_why_pairs_def]
  exact Fun.okD (N:=["many", "needs", "given", "turns", "blocks", "last", "cut"]) T.F_why_pairs sc_why_pairs [false,false] rfl B_why_pairs fun cdv A outer s H E hr=>⟨_,
 (pss_cons (ps_set (i:=2) sc_why_pairs.nd rfl (Or.inl rfl) (pe_call (ok_marks T hbm) (hr.mono (by decide)) rfl T.m_marks T.F_marks.kp T.b_marks .nil pass0 (pa_cons (pv 0) (pa_cons (pv 1) pa_nil))))
 (pss_cons (ps_set (i:=3) sc_why_pairs.nd rfl (Or.inl rfl) (pe_call (ok_pair_turns T hbm) (hr.mono (by decide)) rfl T.m_pair_turns T.F_pair_turns.kp T.b_pair_turns .nil pass0 (pa_cons (pv 0) (pa_cons (pv 1) pa_nil))))
 (pss_cons (ps_set (i:=4) sc_why_pairs.nd rfl (Or.inl rfl) (pe_lst pa_nil))
 (pss_cons (ps_set (i:=5) sc_why_pairs.nd rfl (Or.inl rfl) (pe_op op_sub (pe_callB (call_lenK (K:=K) rfl) rfl T.z_len bt_len (pa_cons (pv 3) pa_nil)) pe_int))
 (pss_cons (ps_while PassesOwn.never (pt_cmpR op_ge (pv 5) pe_int (nomark _))
 (pss_cons (ps_set (i:=6) sc_why_pairs.nd rfl (Or.inl rfl) (pe_call (ok_last_cut T hbm) (hr.mono (by decide)) rfl T.m_last_cut T.F_last_cut.kp T.b_last_cut .nil pass0 (pa_cons (pv 3) (pa_cons (pv 2) (pa_cons (pv 5) pa_nil)))))
 (pss_cons (ps_expr (pe_bm PySem.F.plainAttrs_list PySem.F.slot_list_append PySem.F.type_list_append mt_append (pv 4) (pa_cons (pe_call (ok_block_between T hbm) (hr.mono (by decide)) rfl T.m_block_between T.F_block_between.kp T.b_block_between .nil pass0 (pa_cons (pv 3) (pa_cons (pv 6) (pa_cons (pv 5) pa_nil)))) pa_nil)))
 (pss_one (ps_set (i:=5) sc_why_pairs.nd rfl (Or.inl rfl) (pv 6))))))
 (pss_cons (ps_expr (pe_bm0 PySem.F.plainAttrs_list PySem.F.slot_list_reverse PySem.F.type_list_reverse mt_reverse (pv 4)))
 (pss_one (ps_ret (pv 4))))))))),
 (ss_seq (ss_set (si_call (sa_any (sb_var 0) (sa_any (sb_var 1) sa_nil))))
 (ss_seq (ss_set (si_call (sa_any (sb_var 0) (sa_any (sb_var 1) sa_nil))))
 (ss_seq (ss_setO (sf_lst (n:=0) sa_nil (by decide)))
 (ss_seq (ss_set (si_sub (SemI.b (si_len (sb_var 3))) (SemI.b si_int)))
 (ss_seq (ss_while (st_test (SemI.b (si_ge (sb_var 5) (SemI.b si_int))))
 (ss_seq (ss_set (si_call (sa_any (sb_var 3) (sa_any (sb_var 2) (sa_any (sb_var 5) sa_nil)))))
 (ss_seq (ss_app (si_call (sa_own (si_var 3) (sa_any (sb_var 6) (sa_any (sb_var 5) sa_nil)))))
 (ss_set (si_var 6)))))
 (ss_seq ss_rev
 (ss_frz 4 (ss_ret (si_var 4)))))))))⟩
theorem ok_level_of (T:Txt K mg ad) (hbm:BmOk mg base):FnOk P w K mg base CX0 1 ad.f_level_of ad.d_level_of ["behind", "work"] (spD .v K [false,false] F_level_of):=by
  rw [F_level_of_def]
  exact Fun.okD (N:=["behind", "work", "level", "later"]) T.F_level_of sc_level_of [false,false] rfl B_level_of fun cdv A outer s H E hr=>⟨_,
 (pss_cons (ps_set (i:=2) sc_level_of.nd rfl (Or.inl rfl) pe_int)
 (pss_cons (ps_set (i:=3) sc_level_of.nd rfl (Or.inl rfl) (pe_ix (ix_seqK (K:=K) rfl) (pv 0) (pv 1) (fun _ _=>rfl)))
 (pss_cons (ps_while PassesOwn.never (pt_cmpR (op_neD (K:=K) hr.units) (pv 3) (pe_un un_neg pe_int) (nomark _))
 (pss_cons (ps_aug (i:=2) sc_level_of.nd rfl (Or.inl rfl) pe_int ip_add)
 (pss_cons (ps_if (pt_cmpR op_gt (pv 2) (pe_callB (call_lenK (K:=K) rfl) rfl T.z_len bt_len (pa_cons (pv 0) pa_nil)) (nomark _))
 (pss_one ps_never)
 pss_nil)
 (pss_one (ps_set (i:=3) sc_level_of.nd rfl (Or.inl rfl) (pe_ix (ix_seqK (K:=K) rfl) (pv 0) (pv 3) (fun _ _=>rfl)))))))
 (pss_one (ps_ret (pv 2)))))),
 (ss_seq (ss_set si_int)
 (ss_seq (ss_set (SemB.i (sb_ix (sb_var 0) (sb_var 1))))
 (ss_seq (ss_while (st_test (SemI.b (si_eq (neg:=true) (sb_var 3) (SemI.b (si_neg (SemI.b si_int))))))
 (ss_seq (ss_aug (SemI.b si_int))
 (ss_seq (ss_if (st_test (SemI.b (si_gt (sb_var 2) (SemI.b (si_len (sb_var 0))))))
 ss_never
 ss_pass)
 (ss_set (SemB.i (sb_ix (sb_var 0) (sb_var 3)))))))
 (ss_ret (si_var 2)))))⟩
theorem ok_levels (T:Txt K mg ad) (hbm:BmOk mg base):FnOk P w K mg base CX0 2 ad.f_levels ad.d_levels ["behind"] (spD .v K [false] F_levels):=by
  rw [F_levels_def]
  exact Fun.okD (N:=["behind", "later"]) T.F_levels sc_levels [false] rfl B_levels fun cdv A outer s H E hr=>⟨_,
 (pss_cons (ps_for PassesOwn.never rfl (pi_listK (K:=K) rfl (pv 0)) (pg_name (i:=1) sc_levels.nd rfl (Or.inl rfl))
 (pss_one (ps_if (pt_not (pt_chain op_le op_lt (pe_un un_neg pe_int) (pv 1) (pe_callB (call_lenK (K:=K) rfl) rfl T.z_len bt_len (pa_cons (pv 0) pa_nil))))
 (pss_one ps_never)
 pss_nil)))
 (pss_one (ps_ret (pe_cM0 rfl (pi_range1 rfl T.z_range (pa_cons (pe_callB (call_lenK (K:=K) rfl) rfl T.z_len bt_len (pa_cons (pv 0) pa_nil)) pa_nil)) (ts:=["work"]) (zs:=["behind"]) (k:=1) (is:=[0]) rfl (.cons rfl .nil) (.cons rfl (Or.inl rfl) rfl (by first | exact Or.inl rfl | exact Or.inr rfl) .nil) rfl rfl rfl (low_name (by decide)) (fun _ _ _ _ _=>(pgbC (i:=0) (by decide +kernel) rfl (Or.inl rfl) (Or.inr rfl))) (fun _ _ _ _ _=>(pe_call (ok_level_of T hbm) (hr.mono (by decide)) rfl T.m_level_of T.F_level_of.kp T.b_level_of .nil pass0 (pa_cons (pv 1) (pa_cons (pv 0) pa_nil)))) rfl rfl (by decide +kernel))))),
 (ss_seq (ss_for (m:=false) (sw_listO (so_var 0)) (sg_name 1)
 (ss_if (st_not (st_test (SemI.b (si_chain (p:=fun i j=>decide (i≤j)) (q:=fun i j=>decide (i<j)) (SemI.b (si_neg (SemI.b si_int))) (sb_var 1) (SemI.b (si_len (sb_var 0)))))))
 ss_never
 ss_pass))
 (ss_ret (SemF.l (sf_comp (m:=true) (k:=1) (cs:=[0]) (SemW.c (sw_range1 (SemI.b (si_len (sb_var 0))))) (sg_name 0) st_true (si_call (sa_any (sb_var 1) (sa_any (sb_var 0) sa_nil)))))))⟩
theorem ok_tree_turns (T:Txt K mg ad) (hbm:BmOk mg base):FnOk P w K mg base CX0 3 ad.f_tree_turns ad.d_tree_turns ["behind", "benches"] (spD .v K [false,false] F_tree_turns):=by
  rw [F_tree_turns_def]
  exact Fun.okDL (N:=["behind", "benches", "heights", "waits", "left", "turns", "ready", "turn", "work"]) T.F_tree_turns sc_tree_turns [false,false] rfl B_tree_turns fun cdv hcd A outer s H E hr=>⟨_,
 (pss_cons (ps_set (i:=2) sc_tree_turns.nd rfl (Or.inr rfl) (pe_call (ok_levels T hbm) (hr.mono (by decide)) rfl T.m_levels T.F_levels.kp T.b_levels .nil pass0 (pa_cons (pv 0) pa_nil)))
 (pss_cons (ps_set (i:=3) sc_tree_turns.nd rfl (Or.inr rfl) (pe_cM0 rfl (pi_range1 rfl T.z_range (pa_cons (pe_callB (call_lenK (K:=K) rfl) rfl T.z_len bt_len (pa_cons (pv 0) pa_nil)) pa_nil)) (ts:=["work"]) (zs:=["behind"]) (k:=1) (is:=[0]) rfl (.cons rfl .nil) (.cons rfl (Or.inl rfl) rfl (by first | exact Or.inl rfl | exact Or.inr rfl) .nil) rfl rfl rfl (low_name (by decide)) (fun _ _ _ _ _=>(pgbC (i:=0) (by decide +kernel) rfl (Or.inl rfl) (Or.inr rfl))) (fun _ _ _ _ _=>(bmK (K:=K) rfl (pe_bm PySem.F.plainAttrs_list PySem.F.slot_list_count PySem.F.type_list_count (mt_countK (K:=K) rfl) (pv 1) (pa_cons (pv 0) pa_nil)))) rfl rfl (by decide +kernel)))
 (pss_cons (ps_set (i:=4) sc_tree_turns.nd rfl (Or.inl rfl) (pe_callTy (call_lrg rfl) rfl T.z_list bt_list (pa_cons (pe_callTy call_rg1 rfl T.z_range bt_range (pa_cons (pe_callB (call_lenK (K:=K) rfl) rfl T.z_len bt_len (pa_cons (pv 0) pa_nil)) pa_nil)) pa_nil)))
 (pss_cons (ps_set (i:=5) sc_tree_turns.nd rfl (Or.inl rfl) (pe_lst pa_nil))
 (pss_cons (ps_while PassesOwn.never (pt_truthK (K:=K) rfl (pv 4) (fun _=>rfl))
 (pss_cons (ps_cM1 (i:=6) sc_tree_turns.nd rfl rfl rfl (pi_listK (K:=K) rfl (pv 4)) (ts:=["work"]) (zs:=["waits"]) (k:=1) (is:=[3]) rfl (.cons rfl .nil) (.cons rfl (Or.inl rfl) rfl (by first | exact Or.inl rfl | exact Or.inr rfl) .nil) rfl rfl rfl (low_name (by decide)) (fun _ _ _ _ _=>(pgbC (i:=0) (by decide +kernel) rfl (Or.inl rfl) (Or.inr rfl))) (fun _ _ _ _ _=>(pt_cmpR (op_eqD (K:=K) hr.units) (pe_ix (ix_seqK (K:=K) rfl) (pv 1) (pv 0) (fun _ _=>rfl)) pe_int (nomark _))) (fun _ _ _ _ _=>(pv 0)) rfl rfl (by decide +kernel))
 (pss_cons (ps_set (i:=7) sc_tree_turns.nd rfl (Or.inr rfl) (pe_callB (call_sortI (K:=K) rfl rfl) rfl T.z_sorted bt_sorted (pa_cons (pe_slice (sl_listK (K:=K) rfl) (pe_sortK (K:=K) (x := "work") (zs:=["heights"]) (is:=[2]) (q := "tree_turns.<locals>.<lambda>") rfl ⟨hcd.symm.trans T.kc_tree_turns,T.kh_tree_turns,hbm⟩ hr rfl rfl T.z_sorted (pv 6) (LFrees.many (.cons rfl .nil) (.cons rfl (by first | exact Or.inl rfl | exact Or.inr rfl) rfl rfl .nil) (by decide +kernel) rfl (by decide +kernel) rfl rfl rfl) (by first | rfl | decide +kernel) rfl (fun _ _ _ _ _=>(pe_tup (pa_cons (pe_un un_neg (pe_ix (ix_seqK (K:=K) rfl) (pv 1) (pv 0) (fun _ _=>rfl))) (pa_cons (pv 0) pa_nil))))) po_none (po_some (pv 1))) pa_nil)))
 (pss_cons (ps_for PassesOwn.never rfl (pi_listK (K:=K) rfl (pv 7)) (pg_name (i:=8) sc_tree_turns.nd rfl (Or.inl rfl))
 (pss_one (ps_if (pt_cmpR (op_neD (K:=K) hr.units) (pe_ix (ix_seqK (K:=K) rfl) (pv 0) (pv 8) (fun _ _=>rfl)) (pe_un un_neg pe_int) (nomark _))
 (pss_one (ps_augS (pv 3) (pe_ix (ix_seqK (K:=K) rfl) (pv 0) (pv 8) (fun _ _=>rfl)) (get_listK (K:=K) rfl) pe_int ip_sub set_list))
 pss_nil)))
 (pss_cons (ps_cM1 (i:=4) sc_tree_turns.nd rfl rfl rfl (pi_listK (K:=K) rfl (pv 4)) (ts:=["work"]) (zs:=["turn"]) (k:=1) (is:=[7]) rfl (.cons rfl .nil) (.cons rfl (Or.inl rfl) rfl (by first | exact Or.inl rfl | exact Or.inr rfl) .nil) rfl rfl rfl (low_name (by decide)) (fun _ _ _ _ _=>(pgbC (i:=0) (by decide +kernel) rfl (Or.inl rfl) (Or.inr rfl))) (fun _ _ _ _ _=>(pt_cmpR (op_notIn_seqK (K:=K) rfl) (pv 0) (pv 1) (by with_unfolding_all rfl))) (fun _ _ _ _ _=>(pv 0)) rfl rfl (by decide +kernel))
 (pss_one (ps_expr (pe_bm PySem.F.plainAttrs_list PySem.F.slot_list_append PySem.F.type_list_append mt_append (pv 5) (pa_cons (pv 7) pa_nil)))))))))
 (pss_one (ps_ret (pv 5)))))))),
 (ss_seq (ss_set (si_call (sa_any (sb_var 0) sa_nil)))
 (ss_seq (ss_setO (sf_comp (m:=true) (k:=1) (cs:=[0]) (SemW.c (sw_range1 (SemI.b (si_len (sb_var 0))))) (sg_name 0) st_true (si_count (sb_var 1) (sb_var 0))))
 (ss_seq (ss_set (SemF.l (sf_lrg1 (SemI.b (si_len (sb_var 0))))))
 (ss_seq (ss_setO (sf_lst (n:=0) sa_nil (by decide)))
 (ss_seq (ss_while (st_tru (K:=K) (sb_var 4))
 (ss_seq (ss_setC (SemF.l (sf_comp (m:=true) (k:=1) (cs:=[3]) (SemW.c (sw_list (si_var 4))) (sg_name 0) (st_test (SemI.b (si_eq (neg:=false) (sb_ix (sb_var 1) (sb_var 0)) (SemI.b si_int)))) (si_var 0))))
 (ss_seq (ss_set (SemF.l (sf_srtI (SemI.b (SemF.l (sf_sl (SemF.l (sf_sortK T.kt_tree_turns (si_var 6) (si_tup (n:=2) (sa_own (si_neg (sb_ix (sb_var 1) (sb_var 0))) (sa_own (si_var 0) sa_nil)) (by decide)))) so_none (so_some (sb_var 1))))))))
 (ss_seq (ss_for (m:=true) (sw_list (si_var 7)) (sg_name 8)
 (ss_if (st_test (SemI.b (si_eq (neg:=true) (sb_ix (sb_var 0) (sb_var 8)) (SemI.b (si_neg (SemI.b si_int))))))
 (ss_augP (sb_ix (sb_var 0) (sb_var 8)) (SemI.b si_int))
 ss_pass))
 (ss_seq (ss_setC (SemF.l (sf_comp (m:=true) (k:=1) (cs:=[7]) (SemW.c (sw_list (si_var 4))) (sg_name 0) (st_test (SemI.b (si_in (neg:=true) (sb_var 0) (sb_var 1)))) (si_var 0))))
 (ss_app (si_var 7)))))))
 (ss_frz 5 (ss_ret (si_var 5))))))))⟩
theorem ok_shown_by_level (T:Txt K mg ad) (hbm:BmOk mg base):FnOk P w K mg base CX0 2 ad.f_shown_by_level ad.d_shown_by_level ["heights", "benches", "level"] (spD .v K [false,false,false] F_shown_by_level):=by
  rw [F_shown_by_level_def]
  exact Fun.okD (N:=["heights", "benches", "level", "high"]) T.F_shown_by_level sc_shown_by_level [false,false,false] rfl B_shown_by_level fun cdv A outer s H E hr=>⟨_,
 (pss_cons (ps_set (i:=3) sc_shown_by_level.nd rfl (Or.inl rfl) (pe_callB (call_lenK (K:=K) rfl) rfl T.z_len bt_len (pa_cons (pe_cM1 rfl (pi_listK (K:=K) rfl (pv 0)) (ts:=["height"]) (zs:=["level"]) (k:=1) (is:=[2]) rfl (.cons rfl .nil) (.cons rfl (Or.inl rfl) rfl (by first | exact Or.inl rfl | exact Or.inr rfl) .nil) rfl rfl rfl (low_name (by decide)) (fun _ _ _ _ _=>(pgbC (i:=0) (by decide +kernel) rfl (Or.inl rfl) (Or.inr rfl))) (fun _ _ _ _ _=>(pt_cmpR op_ge (pv 0) (pv 1) (nomark _))) (fun _ _ _ _ _=>(pv 0)) rfl rfl (by decide +kernel)) pa_nil)))
 (pss_cons (ps_if (PW.pt (pw_or (pt_cmpR op_lt (pv 2) pe_int (nomark _)) (pw_or1 (pt_cmpR (op_eqD (K:=K) hr.units) (pv 3) pe_int (nomark _)))))
 (pss_one (ps_ret pe_int))
 pss_nil)
 (pss_one (ps_ret (pe_op op_sub (pe_op op_add (pe_call (ok_divided_up T hbm) (hr.mono (by decide)) rfl T.m_divided_up T.F_divided_up.kp T.b_divided_up .nil pass0 (pa_cons (pv 3) (pa_cons (pv 1) pa_nil))) (pv 2)) pe_int))))),
 (ss_seq (ss_set (si_len (SemI.b (SemF.l (sf_comp (m:=false) (k:=1) (cs:=[2]) (swc_listB (sb_var 0)) (sg_name 0) (st_test (SemI.b (si_ge (sb_var 0) (sb_var 1)))) (SemB.i (sb_var 0)))))))
 (ss_seq (ss_if (st_or (st_test (SemI.b (si_lt (sb_var 2) (SemI.b si_int)))) (st_test (SemI.b (si_eq (neg:=false) (sb_var 3) (SemI.b si_int)))))
 (ss_ret si_int)
 ss_pass)
 (ss_ret (si_sub (SemI.b (si_add (SemI.b (si_call (sa_any (sb_var 3) (sa_any (sb_var 1) sa_nil)))) (sb_var 2))) (SemI.b si_int)))))⟩
theorem ok_turns_shown (T:Txt K mg ad) (hbm:BmOk mg base):FnOk P w K mg base CX0 3 ad.f_turns_shown ad.d_turns_shown ["behind", "benches", "level"] (spD .v K [false,false,false] F_turns_shown):=by
  rw [F_turns_shown_def]
  exact Fun.okD (N:=["behind", "benches", "level"]) T.F_turns_shown sc_turns_shown [false,false,false] rfl B_turns_shown fun cdv A outer s H E hr=>⟨_,
 (pss_one (ps_ret (pe_call (ok_shown_by_level T hbm) (hr.mono (by decide)) rfl T.m_shown_by_level T.F_shown_by_level.kp T.b_shown_by_level .nil pass0 (pa_cons (pe_call (ok_levels T hbm) (hr.mono (by decide)) rfl T.m_levels T.F_levels.kp T.b_levels .nil pass0 (pa_cons (pv 0) pa_nil)) (pa_cons (pv 1) (pa_cons (pv 2) pa_nil)))))),
 (ss_ret (si_call (sa_any (SemI.b (si_call (sa_any (sb_var 0) sa_nil))) (sa_any (sb_var 1) (sa_any (sb_var 2) sa_nil)))))⟩
theorem ok_why_tree (T:Txt K mg ad) (hbm:BmOk mg base):FnOk P w K mg base CX0 4 ad.f_why_tree ad.d_why_tree ["behind", "benches"] (spD .v K [false,false] F_why_tree):=by
  rw [F_why_tree_def]
  exact Fun.okD (N:=["behind", "benches", "turns", "heights", "level"]) T.F_why_tree sc_why_tree [false,false] rfl B_why_tree fun cdv A outer s H E hr=>⟨_,
 (pss_cons (ps_set (i:=2) sc_why_tree.nd rfl (Or.inl rfl) (pe_callB (call_lenK (K:=K) rfl) rfl T.z_len bt_len (pa_cons (pe_call (ok_tree_turns T hbm) (hr.mono (by decide)) rfl T.m_tree_turns T.F_tree_turns.kp T.b_tree_turns .nil pass0 (pa_cons (pv 0) (pa_cons (pv 1) pa_nil))) pa_nil)))
 (pss_cons (ps_set (i:=3) sc_why_tree.nd rfl (Or.inl rfl) (pe_call (ok_levels T hbm) (hr.mono (by decide)) rfl T.m_levels T.F_levels.kp T.b_levels .nil pass0 (pa_cons (pv 0) pa_nil)))
 (pss_cons (ps_set (i:=4) sc_why_tree.nd rfl (Or.inl rfl) pe_int)
 (pss_cons (ps_while PassesOwn.never (pt_cmpR op_lt (pe_call (ok_shown_by_level T hbm) (hr.mono (by decide)) rfl T.m_shown_by_level T.F_shown_by_level.kp T.b_shown_by_level .nil pass0 (pa_cons (pv 3) (pa_cons (pv 1) (pa_cons (pv 4) pa_nil)))) (pv 2) (nomark _))
 (pss_one (ps_aug (i:=4) sc_why_tree.nd rfl (Or.inl rfl) pe_int ip_add)))
 (pss_one (ps_ret (pv 4))))))),
 (ss_seq (ss_set (si_len (SemI.b (si_call (sa_any (sb_var 0) (sa_any (sb_var 1) sa_nil))))))
 (ss_seq (ss_set (si_call (sa_any (sb_var 0) sa_nil)))
 (ss_seq (ss_set si_int)
 (ss_seq (ss_while (st_test (SemI.b (si_lt (SemI.b (si_call (sa_any (sb_var 3) (sa_any (sb_var 1) (sa_any (sb_var 4) sa_nil))))) (sb_var 2))))
 (ss_aug (SemI.b si_int)))
 (ss_ret (si_var 4))))))⟩
theorem ok_l_cell_at (T:Txt K mg ad) (hbm:BmOk mg base):FnOk P w K mg base CX0 1 ad.f_l_cell_at ad.d_l_cell_at ["_law_script", "_law_k"] (spD .v K [false,false] F_l_cell_at):=by
  rw [F_l_cell_at_def]
  exact Fun.okD (N:=["_law_script", "_law_k"]) T.F_l_cell_at sc_l_cell_at [false,false] rfl B_l_cell_at fun cdv A outer s H E hr=>⟨_,
 (pss_cons (ps_if (pt_cmpR op_lt (pv 1) (pe_callB (call_lenK (K:=K) rfl) rfl T.z_len bt_len (pa_cons (pv 0) pa_nil)) (nomark _))
 (pss_one (ps_ret (pe_ix (ix_seqK (K:=K) rfl) (pv 0) (pv 1) (fun _ _=>rfl))))
 pss_nil)
 (pss_one (ps_ret pe_int))),
 (ss_seq (ss_if (st_test (SemI.b (si_lt (sb_var 1) (SemI.b (si_len (sb_var 0))))))
 (ss_ret (SemB.i (sb_ix (sb_var 0) (sb_var 1))))
 ss_pass)
 (ss_ret si_int))⟩
theorem ok_l_mixed (T:Txt K mg ad) (hbm:BmOk mg base):FnOk P w K mg base CX0 1 ad.f_l_mixed ad.d_l_mixed ["_law_cell", "_law_k"] (spD .v K [false,false] F_l_mixed):=by
  rw [F_l_mixed_def]
  exact Fun.okD (N:=["_law_cell", "_law_k", "_law_number"]) T.F_l_mixed sc_l_mixed [false,false] rfl B_l_mixed fun cdv A outer s H E hr=>⟨_,
 (pss_cons (ps_set (i:=2) sc_l_mixed.nd rfl (Or.inl rfl) (pe_op op_mod (pe_op op_add (pe_op op_add (pe_op op_mulB (pv 0) pe_int) (pe_op op_mulB (pe_op op_mulB (pv 1) (pv 1)) pe_int)) pe_int) pe_int))
 (pss_one (ps_ret (pe_op op_mod (pe_op op_mulB (pv 2) (pv 2)) pe_int)))),
 (ss_seq (ss_set (si_mod (SemI.b (si_add (SemI.b (si_add (SemI.b (si_mul (sb_var 0) (SemI.b si_int))) (SemI.b (si_mul (SemI.b (si_mul (sb_var 1) (sb_var 1))) (SemI.b si_int))))) (SemI.b si_int))) (SemI.b si_int)))
 (ss_ret (si_mod (SemI.b (si_mul (sb_var 2) (sb_var 2))) (SemI.b si_int))))⟩
theorem ok_l_names (T:Txt K mg ad) (hbm:BmOk mg base):FnOk P w K mg base CX0 2 ad.f_l_names ad.d_l_names ["_law_cell", "_law_many"] (spD .v K [false,false] F_l_names):=by
  rw [F_l_names_def]
  exact Fun.okD (N:=["_law_cell", "_law_many", "_law_points", "_law_k"]) T.F_l_names sc_l_names [false,false] rfl B_l_names fun cdv A outer s H E hr=>⟨_,
 (pss_cons (ps_set (i:=2) sc_l_names.nd rfl (Or.inl rfl) (pe_lst pa_nil))
 (pss_cons (ps_for PassesOwn.never rfl (pi_range1 rfl T.z_range (pa_cons (pv 1) pa_nil)) (pg_name (i:=3) sc_l_names.nd rfl (Or.inl rfl))
 (pss_one (ps_expr (pe_bm PySem.F.plainAttrs_list PySem.F.slot_list_insert PySem.F.type_list_insert mt_insert (pv 2) (pa_cons (pe_op op_mod (pe_call (ok_l_mixed T hbm) (hr.mono (by decide)) rfl T.m_l_mixed T.F_l_mixed.kp T.b_l_mixed .nil pass0 (pa_cons (pv 0) (pa_cons (pv 3) pa_nil))) (pe_op op_add (pv 3) pe_int)) (pa_cons (pv 3) pa_nil))))))
 (pss_one (ps_ret (pv 2))))),
 (ss_seq (ss_setO (sf_lst (n:=0) sa_nil (by decide)))
 (ss_seq (ss_for (m:=true) (sw_range1 (sb_var 1)) (sg_name 3)
 (ss_ins (SemI.b (si_mod (SemI.b (si_call (sa_any (sb_var 0) (sa_any (sb_var 3) sa_nil)))) (SemI.b (si_add (sb_var 3) (SemI.b si_int))))) (si_var 3)))
 (ss_frz 2 (ss_ret (si_var 2)))))⟩
theorem ok_l_behind (T:Txt K mg ad) (hbm:BmOk mg base):FnOk P w K mg base CX0 3 ad.f_l_behind ad.d_l_behind ["_law_script", "_law_most"] (spD .v K [false,false] F_l_behind):=by
  rw [F_l_behind_def]
  exact Fun.okD (N:=["_law_script", "_law_most", "_law_first", "_law_many", "_law_cell", "_law_names_here", "_law_span", "_law_behind_here", "_law_k", "_law_back", "_law_number", "_law_at"]) T.F_l_behind sc_l_behind [false,false] rfl B_l_behind fun cdv A outer s H E hr=>⟨_,
 (pss_cons (ps_set (i:=2) sc_l_behind.nd rfl (Or.inl rfl) (pe_call (ok_l_cell_at T hbm) (hr.mono (by decide)) rfl T.m_l_cell_at T.F_l_cell_at.kp T.b_l_cell_at .nil pass0 (pa_cons (pv 0) (pa_cons pe_int pa_nil))))
 (pss_cons (ps_set (i:=3) sc_l_behind.nd rfl (Or.inl rfl) (pe_ix (ix_seqK (K:=K) rfl) (pe_lst (pa_cons (pe_op op_mod (pe_op op_fdivB (pv 2) pe_int) (pe_op op_add (pv 1) pe_int)) (pa_cons (pv 1) (pa_cons (pe_op op_mod (pe_op op_fdivB (pv 2) pe_int) (pe_op op_add (pv 1) pe_int)) pa_nil)))) (pe_op op_mod (pv 2) pe_int) (fun _ _=>rfl)))
 (pss_cons (ps_set (i:=4) sc_l_behind.nd rfl (Or.inl rfl) (pe_call (ok_l_cell_at T hbm) (hr.mono (by decide)) rfl T.m_l_cell_at T.F_l_cell_at.kp T.b_l_cell_at .nil pass0 (pa_cons (pv 0) (pa_cons pe_int pa_nil))))
 (pss_cons (ps_set (i:=5) sc_l_behind.nd rfl (Or.inl rfl) (pe_call (ok_l_names T hbm) (hr.mono (by decide)) rfl T.m_l_names T.F_l_names.kp T.b_l_names .nil pass0 (pa_cons (pv 4) (pa_cons (pv 3) pa_nil))))
 (pss_cons (ps_set (i:=6) sc_l_behind.nd rfl (Or.inl rfl) (pe_ix (ix_seqK (K:=K) rfl) (pe_lst (pa_cons pe_int (pa_cons pe_int (pa_cons pe_int (pa_cons (pv 1) pa_nil))))) (pe_op op_mod (pv 4) pe_int) (fun _ _=>rfl)))
 (pss_cons (ps_set (i:=7) sc_l_behind.nd rfl (Or.inl rfl) (pe_op op_rep (pe_lst (pa_cons (pe_un un_neg pe_int) pa_nil)) (pv 3)))
 (pss_cons (ps_for PassesOwn.never rfl (pi_range2 rfl T.z_range (pa_cons pe_int (pa_cons (pv 3) pa_nil))) (pg_name (i:=8) sc_l_behind.nd rfl (Or.inl rfl))
 (pss_cons (ps_set (i:=9) sc_l_behind.nd rfl (Or.inl rfl) (pe_op op_mod (pe_call (ok_l_mixed T hbm) (hr.mono (by decide)) rfl T.m_l_mixed T.F_l_mixed.kp T.b_l_mixed .nil pass0 (pa_cons (pv 4) (pa_cons (pe_op op_add pe_int (pv 8)) pa_nil))) (pe_callB (call_min2 rfl) rfl T.z_min bt_min (pa_cons (pv 8) (pa_cons (pv 6) pa_nil)))))
 (pss_one (ps_asg (pe_ix (ix_seqK (K:=K) rfl) (pv 5) (pe_ix (ix_seqK (K:=K) rfl) (pe_lst (pa_cons (pe_op op_sub (pe_op op_sub (pv 8) pe_int) (pv 9)) (pa_cons (pv 9) pa_nil))) (pe_op op_mod (pe_op op_fdivB (pv 4) pe_int) pe_int) (fun _ _=>rfl)) (fun _ _=>rfl)) (pg_sub (pv 7) (pe_ix (ix_seqK (K:=K) rfl) (pv 5) (pv 8) (fun _ _=>rfl)) set_list)))))
 (pss_cons (ps_for PassesOwn.never rfl (pi_range2 rfl T.z_range (pa_cons pe_int (pa_cons (pe_callB (call_min2 rfl) rfl T.z_min bt_min (pa_cons pe_int (pa_cons (pe_callB (call_lenK (K:=K) rfl) rfl T.z_len bt_len (pa_cons (pv 0) pa_nil)) pa_nil))) pa_nil))) (pg_name (i:=8) sc_l_behind.nd rfl (Or.inl rfl))
 (pss_cons (ps_set (i:=10) sc_l_behind.nd rfl (Or.inl rfl) (pe_call (ok_l_mixed T hbm) (hr.mono (by decide)) rfl T.m_l_mixed T.F_l_mixed.kp T.b_l_mixed .nil pass0 (pa_cons (pe_ix (ix_seqK (K:=K) rfl) (pv 0) (pv 8) (fun _ _=>rfl)) (pa_cons (pv 8) pa_nil))))
 (pss_one (ps_if (pt_cmpR op_gt (pv 3) pe_int (nomark _))
 (pss_cons (ps_set (i:=11) sc_l_behind.nd rfl (Or.inl rfl) (pe_op op_add pe_int (pe_op op_mod (pe_op op_mod (pe_op op_mulB (pv 10) pe_int) pe_int) (pe_op op_sub (pv 3) pe_int))))
 (pss_cons (ps_set (i:=9) sc_l_behind.nd rfl (Or.inl rfl) (pe_op op_mod (pe_op op_mod (pe_op op_mulB (pv 10) pe_int) pe_int) (pe_callB (call_min2 rfl) rfl T.z_min bt_min (pa_cons (pv 11) (pa_cons (pv 6) pa_nil)))))
 (pss_cons (ps_asg (pe_ix (ix_seqK (K:=K) rfl) (pv 5) (pe_ix (ix_seqK (K:=K) rfl) (pe_lst (pa_cons (pe_op op_sub (pe_op op_sub (pv 11) pe_int) (pv 9)) (pa_cons (pv 9) pa_nil))) (pe_op op_mod (pe_op op_fdivB (pv 4) pe_int) pe_int) (fun _ _=>rfl)) (fun _ _=>rfl)) (pg_sub (pv 7) (pe_ix (ix_seqK (K:=K) rfl) (pv 5) (pv 11) (fun _ _=>rfl)) set_list))
 (pss_one (ps_if (pt_cmpR (op_eqD (K:=K) hr.units) (pe_op op_mod (pv 10) (pe_ix (ix_seqK (K:=K) rfl) (pe_lst (pa_cons pe_int (pa_cons pe_int (pa_cons pe_int pa_nil)))) (pe_op op_mod (pe_op op_fdivB (pv 4) pe_int) pe_int) (fun _ _=>rfl))) pe_int (nomark _))
 (pss_one (ps_asg (pe_un un_neg pe_int) (pg_sub (pv 7) (pe_ix (ix_seqK (K:=K) rfl) (pv 5) (pv 11) (fun _ _=>rfl)) set_list)))
 pss_nil)))))
 pss_nil))))
 (pss_one (ps_ret (pv 7))))))))))),
 (ss_seq (ss_set (si_call (sa_any (sb_var 0) (sa_any (SemI.b si_int) sa_nil))))
 (ss_seq (ss_set (si_ix (SemF.l (sf_lst (n:=3) (sa_own (si_mod (SemI.b (si_fdiv (sb_var 2) (SemI.b si_int))) (SemI.b (si_add (sb_var 1) (SemI.b si_int)))) (sa_own (SemB.i (sb_var 1)) (sa_own (si_mod (SemI.b (si_fdiv (sb_var 2) (SemI.b si_int))) (SemI.b (si_add (sb_var 1) (SemI.b si_int)))) sa_nil))) (by decide))) (SemI.b (si_mod (sb_var 2) (SemI.b si_int)))))
 (ss_seq (ss_set (si_call (sa_any (sb_var 0) (sa_any (SemI.b si_int) sa_nil))))
 (ss_seq (ss_set (si_call (sa_any (sb_var 4) (sa_any (sb_var 3) sa_nil))))
 (ss_seq (ss_set (si_ix (SemF.l (sf_lst (n:=4) (sa_own si_int (sa_own si_int (sa_own si_int (sa_own (SemB.i (sb_var 1)) sa_nil)))) (by decide))) (SemI.b (si_mod (sb_var 4) (SemI.b si_int)))))
 (ss_seq (ss_setO (sf_rep (sf_lst (n:=1) (sa_own (si_neg (SemI.b si_int)) sa_nil) (by decide)) (sb_var 3)))
 (ss_seq (ss_for (m:=true) (sw_range2 (SemI.b si_int) (sb_var 3)) (sg_name 8)
 (ss_seq (ss_set (si_mod (SemI.b (si_call (sa_any (sb_var 4) (sa_any (SemI.b (si_add (SemI.b si_int) (sb_var 8))) sa_nil)))) (SemI.b (si_min2 (sb_var 8) (sb_var 6)))))
 (ss_put (si_ix (si_var 5) (sb_ix (SemI.b (SemF.l (sf_lst (n:=2) (sa_own (si_sub (SemI.b (si_sub (sb_var 8) (SemI.b si_int))) (sb_var 9)) (sa_own (si_var 9) sa_nil)) (by decide)))) (SemI.b (si_mod (SemI.b (si_fdiv (sb_var 4) (SemI.b si_int))) (SemI.b si_int))))) (sb_ix (sb_var 5) (sb_var 8)))))
 (ss_seq (ss_for (m:=true) (sw_range2 (SemI.b si_int) (SemI.b (si_min2 (SemI.b si_int) (SemI.b (si_len (sb_var 0)))))) (sg_name 8)
 (ss_seq (ss_set (si_call (sa_any (sb_ix (sb_var 0) (sb_var 8)) (sa_any (sb_var 8) sa_nil))))
 (ss_if (st_test (SemI.b (si_gt (sb_var 3) (SemI.b si_int))))
 (ss_seq (ss_set (si_add (SemI.b si_int) (SemI.b (si_mod (SemI.b (si_mod (SemI.b (si_mul (sb_var 10) (SemI.b si_int))) (SemI.b si_int))) (SemI.b (si_sub (sb_var 3) (SemI.b si_int)))))))
 (ss_seq (ss_set (si_mod (SemI.b (si_mod (SemI.b (si_mul (sb_var 10) (SemI.b si_int))) (SemI.b si_int))) (SemI.b (si_min2 (sb_var 11) (sb_var 6)))))
 (ss_seq (ss_put (si_ix (si_var 5) (sb_ix (SemI.b (SemF.l (sf_lst (n:=2) (sa_own (si_sub (SemI.b (si_sub (sb_var 11) (SemI.b si_int))) (sb_var 9)) (sa_own (si_var 9) sa_nil)) (by decide)))) (SemI.b (si_mod (SemI.b (si_fdiv (sb_var 4) (SemI.b si_int))) (SemI.b si_int))))) (sb_ix (sb_var 5) (sb_var 11)))
 (ss_if (st_test (SemI.b (si_eq (neg:=false) (SemI.b (si_mod (sb_var 10) (sb_ix (SemI.b (SemF.l (sf_lst (n:=3) (sa_own si_int (sa_own si_int (sa_own si_int sa_nil))) (by decide)))) (SemI.b (si_mod (SemI.b (si_fdiv (sb_var 4) (SemI.b si_int))) (SemI.b si_int)))))) (SemI.b si_int))))
 (ss_put (si_neg (SemI.b si_int)) (sb_ix (sb_var 5) (sb_var 11)))
 ss_pass))))
 ss_pass)))
 (ss_frz 7 (ss_ret (si_var 7)))))))))))⟩
theorem ok_law (T:Txt K mg ad) (hbm:BmOk mg base):FnOk P w K mg base CX0 9 ad.f_law ad.d_law ["_law_script"] (spD .v K [false] F_law):=by
  rw [F_law_def]
  exact Fun.okD (N:=["_law_script", "_law_behind_here", "_law_needs", "_law_work", "_law_at", "_law_many", "_law_found"]) T.F_law sc_law [false] rfl B_law fun cdv A outer s H E hr=>⟨_,
 (pss_cons (ps_set (i:=1) sc_law.nd rfl (Or.inl rfl) (pe_call (ok_l_behind T hbm) (hr.mono (by decide)) rfl T.m_l_behind T.F_l_behind.kp T.b_l_behind .nil pass0 (pa_cons (pv 0) (pa_cons pe_int pa_nil))))
 (pss_cons (ps_set (i:=2) sc_law.nd rfl (Or.inl rfl) (pe_lst pa_nil))
 (pss_cons (ps_for PassesOwn.never rfl (pi_range1 rfl T.z_range (pa_cons (pe_callB (call_lenK (K:=K) rfl) rfl T.z_len bt_len (pa_cons (pv 1) pa_nil)) pa_nil)) (pg_name (i:=3) sc_law.nd rfl (Or.inl rfl))
 (pss_one (ps_if (pt_cmpR (op_neD (K:=K) hr.units) (pe_ix (ix_seqK (K:=K) rfl) (pv 1) (pv 3) (fun _ _=>rfl)) (pe_un un_neg pe_int) (nomark _))
 (pss_cons (ps_set (i:=4) sc_law.nd rfl (Or.inl rfl) (pe_op op_mod (pe_call (ok_l_mixed T hbm) (hr.mono (by decide)) rfl T.m_l_mixed T.F_l_mixed.kp T.b_l_mixed .nil pass0 (pa_cons (pe_call (ok_l_cell_at T hbm) (hr.mono (by decide)) rfl T.m_l_cell_at T.F_l_cell_at.kp T.b_l_cell_at .nil pass0 (pa_cons (pv 0) (pa_cons pe_int pa_nil))) (pa_cons (pv 3) pa_nil))) (pe_op op_add (pe_callB (call_lenK (K:=K) rfl) rfl T.z_len bt_len (pa_cons (pv 2) pa_nil)) pe_int)))
 (pss_one (ps_expr (pe_bm PySem.F.plainAttrs_list PySem.F.slot_list_insert PySem.F.type_list_insert mt_insert (pv 2) (pa_cons (pv 4) (pa_cons (pe_lst (pa_cons (pv 3) (pa_cons (pe_ix (ix_seqK (K:=K) rfl) (pv 1) (pv 3) (fun _ _=>rfl)) pa_nil))) pa_nil))))))
 pss_nil)))
 (pss_cons (ps_set (i:=5) sc_law.nd rfl (Or.inl rfl) (pe_callB (call_lenK (K:=K) rfl) rfl T.z_len bt_len (pa_cons (pe_call (ok_tree_turns T hbm) (hr.mono (by decide)) rfl T.m_tree_turns T.F_tree_turns.kp T.b_tree_turns .nil pass0 (pa_cons (pe_callTy (call_list_ofK (K:=K) rfl) rfl T.z_list bt_list (pa_cons (pv 1) pa_nil)) (pa_cons pe_int pa_nil))) pa_nil)))
 (pss_cons (ps_if (pt_cmpR (op_neD (K:=K) hr.units) (pe_callB (call_lenK (K:=K) rfl) rfl T.z_len bt_len (pa_cons (pe_call (ok_pair_turns T hbm) (hr.mono (by decide)) rfl T.m_pair_turns T.F_pair_turns.kp T.b_pair_turns .nil pass0 (pa_cons (pe_callB (call_lenK (K:=K) rfl) rfl T.z_len bt_len (pa_cons (pv 1) pa_nil)) (pa_cons (pe_cM0 rfl (pi_listK (K:=K) rfl (pv 2)) (ts:=["_law_pair"]) (zs:=[]) (k:=1) (is:=[]) rfl .nil .nil rfl rfl rfl (low_name (by decide)) (fun _ _ _ _ _=>(pgbC (i:=0) (by decide +kernel) rfl (Or.inl rfl) (Or.inr rfl))) (fun _ _ _ _ _=>(pe_callTy (call_list_ofK (K:=K) rfl) rfl T.z_list bt_list (pa_cons (pv 0) pa_nil))) rfl rfl (by decide +kernel)) pa_nil))) pa_nil)) (pv 5) (nomark _))
 (pss_one (ps_ret pe_bl))
 pss_nil)
 (pss_cons (ps_if (pt_cmpR (op_neD (K:=K) hr.units) (pe_call (ok_turns_shown T hbm) (hr.mono (by decide)) rfl T.m_turns_shown T.F_turns_shown.kp T.b_turns_shown .nil pass0 (pa_cons (pe_callTy (call_list_ofK (K:=K) rfl) rfl T.z_list bt_list (pa_cons (pv 1) pa_nil)) (pa_cons pe_int (pa_cons (pe_call (ok_why_tree T hbm) (hr.mono (by decide)) rfl T.m_why_tree T.F_why_tree.kp T.b_why_tree .nil pass0 (pa_cons (pe_callTy (call_list_ofK (K:=K) rfl) rfl T.z_list bt_list (pa_cons (pv 1) pa_nil)) (pa_cons pe_int pa_nil))) pa_nil)))) (pv 5) (nomark _))
 (pss_one (ps_ret pe_bl))
 pss_nil)
 (pss_cons (ps_set (i:=6) sc_law.nd rfl (Or.inl rfl) (pe_call (ok_why_pairs T hbm) (hr.mono (by decide)) rfl T.m_why_pairs T.F_why_pairs.kp T.b_why_pairs .nil pass0 (pa_cons (pe_callB (call_lenK (K:=K) rfl) rfl T.z_len bt_len (pa_cons (pv 1) pa_nil)) (pa_cons (pe_cM0 rfl (pi_listK (K:=K) rfl (pv 2)) (ts:=["_law_pair"]) (zs:=[]) (k:=1) (is:=[]) rfl .nil .nil rfl rfl rfl (low_name (by decide)) (fun _ _ _ _ _=>(pgbC (i:=0) (by decide +kernel) rfl (Or.inl rfl) (Or.inr rfl))) (fun _ _ _ _ _=>(pe_callTy (call_list_ofK (K:=K) rfl) rfl T.z_list bt_list (pa_cons (pv 0) pa_nil))) rfl rfl (by decide +kernel)) pa_nil))))
 (pss_one (ps_ret (pe_cmpR (op_eqD (K:=K) hr.units) (pe_callB (call_sumK (K:=K) rfl rfl) rfl T.z_sum bt_sum (pa_cons (pe_cM0 rfl (pi_listK (K:=K) rfl (pv 6)) (ts:=["_law_block"]) (zs:=[]) (k:=1) (is:=[]) rfl .nil .nil rfl rfl rfl (low_name (by decide)) (fun _ _ _ _ _=>(pgbC (i:=0) (by decide +kernel) rfl (Or.inl rfl) (Or.inr rfl))) (fun _ _ _ _ _=>(pe_op op_fdivB (pe_op op_add (pe_callB (call_lenK (K:=K) rfl) rfl T.z_len bt_len (pa_cons (pv 0) pa_nil)) pe_int) pe_int)) rfl rfl (by decide +kernel)) pa_nil)) (pv 5) (nomark _))))))))))),
 (ss_seq (ss_set (si_call (sa_any (sb_var 0) (sa_any (SemI.b si_int) sa_nil))))
 (ss_seq (ss_setO (sf_lst (n:=0) sa_nil (by decide)))
 (ss_seq (ss_for (m:=true) (sw_range1 (SemI.b (si_len (sb_var 1)))) (sg_name 3)
 (ss_if (st_test (SemI.b (si_eq (neg:=true) (sb_ix (sb_var 1) (sb_var 3)) (SemI.b (si_neg (SemI.b si_int))))))
 (ss_seq (ss_set (si_mod (SemI.b (si_call (sa_any (SemI.b (si_call (sa_any (sb_var 0) (sa_any (SemI.b si_int) sa_nil)))) (sa_any (sb_var 3) sa_nil)))) (SemI.b (si_add (SemI.b (si_len (sb_var 2))) (SemI.b si_int)))))
 (ss_ins (sb_var 4) (SemF.l (sf_lst (n:=2) (sa_own (si_var 3) (sa_own (si_ix (si_var 1) (sb_var 3)) sa_nil)) (by decide)))))
 ss_pass))
 (ss_seq (ss_set (si_len (SemI.b (si_call (sa_any (SemI.b (SemF.l (sf_list (si_var 1)))) (sa_any (SemI.b si_int) sa_nil))))))
 (ss_seq (ss_if (st_test (SemI.b (si_eq (neg:=true) (SemI.b (si_len (SemI.b (si_call (sa_any (SemI.b (si_len (sb_var 1))) (sa_any (SemI.b (SemF.l (sf_comp (m:=false) (k:=1) (cs:=[]) (swc_listB (sb_var 2)) (sg_name 0) st_true (SemF.l (sf_listB (sb_var 0)))))) sa_nil)))))) (sb_var 5))))
 (ss_ret si_bl)
 ss_pass)
 (ss_seq (ss_if (st_test (SemI.b (si_eq (neg:=true) (SemI.b (si_call (sa_any (SemI.b (SemF.l (sf_list (si_var 1)))) (sa_any (SemI.b si_int) (sa_any (SemI.b (si_call (sa_any (SemI.b (SemF.l (sf_list (si_var 1)))) (sa_any (SemI.b si_int) sa_nil)))) sa_nil))))) (sb_var 5))))
 (ss_ret si_bl)
 ss_pass)
 (ss_seq (ss_set (si_call (sa_any (SemI.b (si_len (sb_var 1))) (sa_any (SemI.b (SemF.l (sf_comp (m:=false) (k:=1) (cs:=[]) (swc_listB (sb_var 2)) (sg_name 0) st_true (SemF.l (sf_listB (sb_var 0)))))) sa_nil))))
 (ss_ret (si_eq (neg:=false) (SemI.b (si_sum (SemI.b (SemF.l (sf_comp (m:=true) (k:=1) (cs:=[]) (SemW.c (sw_list (si_var 6))) (sg_name 0) st_true (si_fdiv (SemI.b (si_add (SemI.b (si_len (sb_var 0))) (SemI.b si_int))) (SemI.b si_int))))))) (sb_var 5))))))))))⟩
end
local macro_rules | `(tactic| walk_at "sd")=>`(tactic| first | assumption | omega | decide | (simp only [List.length_map,List.length_cons,List.length_nil]; omega) | ((with_reducible apply And.intro) <;> walk_at "sd"))
local macro_rules | `(tactic| walk_at "fn")=>`(tactic| assumption)
local macro_rules | `(tactic| walk_at "ix")=>`(tactic| first | exact ixS (by omega) (by omega) | exact ixI (by omega) (by omega) | exact ix2I _ _ _ | exact ix3I _ _ _ _ | exact ix4I _ _ _ _ _ | rfl)
local macro_rules | `(tactic| walk_at "ev")=>`(tactic| first
  | ((with_reducible first | apply ev_add | apply ev_sub | apply ev_lt | apply ev_le | apply ev_gt | apply ev_ge | apply ev_max2 | apply ev_min2 | apply ev_cons | apply ev_eqF | apply ev_neF); (· walk_at "ev"); (· walk_at "ev"))
  | ((with_reducible first | apply ev_neg | apply ev_t | apply ev_not | apply ev_notV | apply ev_lst | apply ev_tup | apply ev_oSome); (· walk_at "ev"))
  | ((with_reducible first | apply ev_tru | apply ev_scal | apply ev_f1 | apply ev_asL | apply ev_lof); (· walk_at "ev"); (· rfl))
  | ((with_reducible first | apply ev_and | apply ev_or | apply ev_andV | apply ev_orV); (· walk_at "ev"); (· intro _; walk_at "ev"))
  | ((with_reducible first | show dVar _ _=_ | show dVarI _ _=_ | show dVarO _ _=_ | show dC _ _=_ | show dNil _=_ | show oNone _=_ | show dTrue _=_); rfl)
  | ((with_reducible apply ev_ix); (· walk_at "ev"); (· walk_at "ev"); (· walk_at "ix"))
  | ((with_reducible apply ev_call); (· walk_at "ev"); (· walk_at "fn"))
  | ((with_reducible first | apply ev_chain | apply ev_sl); (· walk_at "ev"); (· walk_at "ev"); (· walk_at "ev"))
  | ((with_reducible apply ev_mul); (· walk_at "ev"); (· walk_at "ev"); (· first | assumption | (apply imul; omega)))
  | ((with_reducible apply ev_fdiv); (· walk_at "ev"); (· walk_at "ev"); (· first | exact fdok (by omega) (by omega) | walk_at "sd"))
  | ((with_reducible first | apply ev_mod | apply ev_rg2); (· walk_at "ev"); (· walk_at "ev"); (· walk_at "sd"))
  | ((with_reducible apply ev_rg1); (· walk_at "ev"); (· walk_at "sd"))
  | ((with_reducible apply ev_rep); (· walk_at "ev"); (· walk_at "ev"); (· simp only [List.length_cons,List.length_nil]; walk_at "sd")))
local macro_rules | `(tactic| walk_at "st")=>`(tactic| dsimp only [List.set_cons_succ,List.set_cons_zero])
local macro_rules | `(tactic| walk_at "go")=>`(tactic| ((try dsimp only); walk_at "go1"))
local macro_rules | `(tactic| walk_at "go1")=>`(tactic| first
  | ((with_reducible apply wp_seq); walk_at "go")
  | ((with_reducible apply wp_frz); dsimp only [frz,List.getD_cons_succ,List.getD_cons_zero,List.set_cons_succ,List.set_cons_zero]; walk_at "go")
  | ((with_reducible apply wp_set); (· walk_at "ev"); walk_at "st"; walk_at "go")
  | ((with_reducible apply wp_setO); (· walk_at "ev"); (· simp only [List.length_cons,List.length_nil]; omega); walk_at "st"; walk_at "go")
  | ((with_reducible apply wp_aug); (· rfl); (· walk_at "ev"); walk_at "st"; walk_at "go")
  | ((with_reducible apply wp_pass); (try dsimp only); walk_at "go")
  | skip)
theorem cell_at (ns:List Int) (k:Int) (h:0≤k):F_l_cell_at [.scr ns,.int k]=some (.int (ns.getD k.toNat 0)):=by
  refine run_eqF F_l_cell_at_def ?_
  rw [st_l_cell_at]
  unfold B_l_cell_at
  walk_at "go"
  refine wp_ifp (by walk_at "ev") (fun c=>?_) fun c=>?_
  · refine wp_ret (by walk_at "ev") rfl
  · walk_at "go"
    refine wp_ret (by walk_at "ev") ?_
    rw [List.getD_eq_getElem?_getD,List.getElem?_eq_none (by omega)]
    rfl
def mixedZ (c k:Int):Int:=(c*48271+k*k*69621+3) % 2147483647*((c*48271+k*k*69621+3) % 2147483647) % 2147483629
theorem mixed (c k:Int) (h0:0≤k) (h:k<2 ^ 31):F_l_mixed [.int c,.int k]=some (.int (mixedZ c k)):=by
  refine run_eqF F_l_mixed_def ?_
  rw [st_l_mixed]
  unfold B_l_mixed
  have hk:k*k<2 ^ 64:=by
    have:=Int.mul_le_mul (a:=k) (b:=k) (c:=2 ^ 31) (d:=2 ^ 31) (by omega) (by omega) h0 (by omega)
    omega
  have hk0:0≤k*k:=Int.mul_nonneg h0 h0
  walk_at "go"
  refine wp_ret (by walk_at "ev") ?_
  rfl
theorem mixedZ_nn (c k:Int):0≤mixedZ c k:=Int.emod_nonneg _ (by decide)
local macro_rules | `(tactic| walk_at "fn")=>`(tactic| first | exact cell_at _ _ (by omega) | exact mixed _ _ (by omega) (by omega))
theorem upL_at {lo:Int} {n j:Nat} {d:D} (h:(upL lo n)[j]?=some d):j<n∧d=.int (lo+j):=upL_get h
theorem getD_setI {xs:List Int} {j k:Nat} {v:Int} (h:j<xs.length):(xs.set j v).getD k 0=if k=j then v else xs.getD k 0:=by
  rw [List.getD_eq_getElem?_getD,List.getElem?_set,List.getD_eq_getElem?_getD]
  by_cases c:j=k
  · subst c
    rw [if_pos rfl,if_pos h,if_pos rfl]
    rfl
  · rw [if_neg c,if_neg (Ne.symm c)]
theorem set_mapI (xs:List Int) (j:Nat) (v:Int):(xs.map D.int).set j (.int v)=(xs.set j v).map D.int:=by rw [List.map_set]
theorem mem_getD {p:List Int} {k:Nat} (hk:k<p.length):p.getD k 0∈p:=by rw [List.getD_eq_getElem?_getD,List.getElem?_eq_getElem hk]; exact List.getElem_mem hk
structure Names (p:List Int) (m:Nat):Prop where
  len:p.length=m
  all:∀ x∈p,0≤x∧x<m
  nd:p.Nodup
theorem map_ins (p:List Int) (k:Nat) (x:Int):(p.map D.int).take k++D.int x::(p.map D.int).drop k=(p.take k++x::p.drop k).map D.int:=by
  rw [List.map_append,List.map_cons,List.map_take,List.map_drop]
theorem Names.ins {p:List Int} {m k:Nat} (h:Names p m):Names (p.take k++(m:Int)::p.drop k) (m+1):=by
  have hl:=h.len
  have perm:(p.take k++(m:Int)::p.drop k).Perm ((m:Int)::p):=by
    refine List.perm_middle.trans ?_
    rw [List.take_append_drop]
  refine ⟨by rw [perm.length_eq,List.length_cons,hl],fun x hx=>?_,?_⟩
  · rcases List.mem_cons.mp (perm.mem_iff.mp hx) with rfl | hx
    · omega
    · have:=h.all x hx
      omega
  · refine perm.nodup_iff.mpr (List.nodup_cons.mpr ⟨fun hx=>?_,h.nd⟩)
    have:=h.all _ hx
    omega
theorem names (c M:Int) (h0:0≤M) (hm:M≤1000):∃ p:List Int,F_l_names [.int c,.int M]=some (.lst (p.map D.int))∧Names p M.toNat:=by
  have hline:sizeLine=16777216:=sizeLine_eq
  obtain ⟨d,e,p,rfl,hp⟩:=run_ofF F_l_names_def (ds:=[.int c,.int M]) (P:=fun d=>∃ p:List Int,d=.lst (p.map D.int)∧Names p M.toNat) (by
    rw [st_l_names]
    unfold B_l_names
    walk_at "go"
    refine wp_for (by walk_at "ev") (fun j ρ=>∃ p v3,Names p j∧ρ=[.bo (.int c),.bo (.int M),.ol (p.map D.int),v3]) ⟨[],.un,⟨rfl,by simp,by simp⟩,rfl⟩ ?_ ?_
    · rintro j d ρ hd ⟨p,v3,hp,rfl⟩
      obtain ⟨hj,rfl⟩:=upL_at hd
      refine ⟨_,rfl,?_⟩
      dsimp only [gN,slm,List.set_cons_succ,List.set_cons_zero]
      have hl:=hp.len
      have e1:=Int.emod_nonneg (mixedZ c (0+(j:Int))) (show (0+(j:Int)+1)≠0 by omega)
      have e2:=Int.emod_lt_of_pos (mixedZ c (0+(j:Int))) (show 0<(0+(j:Int)+1) by omega)
      refine wp_ins rfl (by walk_at "ev") (by walk_at "ev") ?_ ?_
      · rw [List.length_map]; omega
      · have ej:(0:Int)+(j:Int)=(j:Int):=by omega
        rw [map_ins,ej]
        exact ⟨_,_,hp.ins,rfl⟩
    · rintro ρ ⟨p,v3,hp,rfl⟩
      rw [upL_len] at hp
      walk_at "go"
      exact wp_ret (by walk_at "ev") ⟨p,rfl,hp⟩)
  exact ⟨p,e,hp⟩
def Par (p bs:List Int):Prop:=bs.length=p.length∧∀ w:Nat,w<bs.length→bs.getD w 0=-1∨∃ j k:Nat,j<k∧k<p.length∧p.getD k 0=w∧p.getD j 0=bs.getD w 0
theorem Par.put {p bs:List Int} {j k:Nat} (h:Par p bs) (hn:Names p p.length) (hjk:j<k) (hk:k<p.length):Par p (bs.set (p.getD k 0).toNat (p.getD j 0)):=by
  have hm:=hn.all (p.getD k 0) (by rw [List.getD_eq_getElem?_getD,List.getElem?_eq_getElem hk]; exact List.getElem_mem hk)
  refine ⟨by rw [List.length_set]; exact h.1,fun w hw=>?_⟩
  rw [List.length_set] at hw
  have h1:=h.1
  rw [getD_setI (by omega)]
  split
  · rename_i e
    exact .inr ⟨j,k,hjk,hk,by omega,rfl⟩
  · exact h.2 w hw
theorem Par.cut {p bs:List Int} {i:Nat} (h:Par p bs) (hi:i<bs.length):Par p (bs.set i (-1)):=by
  refine ⟨by rw [List.length_set]; exact h.1,fun w hw=>?_⟩
  rw [List.length_set] at hw
  rw [getD_setI hi]
  split
  · exact .inl rfl
  · exact h.2 w hw
theorem behind (ns:List Int) (hl:ns.length≤63):∃ p bs:List Int,F_l_behind [.scr ns,.int 14]=some (.lst (bs.map D.int))∧Names p p.length∧p.length≤14∧Par p bs:=by
  have hline:sizeLine=16777216:=sizeLine_eq
  obtain ⟨d,e,p,bs,rfl,hp,hm,hb⟩:=run_ofF F_l_behind_def (ds:=[.scr ns,.int 14]) (P:=fun d=>∃ p bs:List Int,d=.lst (bs.map D.int)∧Names p p.length∧p.length≤14∧Par p bs) (by
    rw [st_l_behind]
    unfold B_l_behind
    walk_at "go"
    generalize hM:pk3 (ns.getD (0:Int).toNat 0 % 3) _ _ _=M
    have hm:0≤M∧M≤14:=by
      rw [← hM]; unfold pk3; split <;> (try split) <;> omega
    clear hM
    obtain ⟨p,ep,hp⟩:=names (ns.getD (1:Int).toNat 0) M hm.1 (by omega)
    have hpl:=hp.len
    generalize ns.getD (1:Int).toNat 0=c at ep ⊢
    walk_at "go"
    generalize hs:pk4 (c % 4) 1 2 5 14=sp
    have hsp:1≤sp∧sp≤14:=by rw [← hs]; unfold pk4; split <;> (try split) <;> (try split) <;> omega
    clear hs
    have hp':Names p p.length:=by rw [hpl]; exact hp
    have rep:(List.replicate M.toNat [D.int (-1)]).flatten=(List.replicate M.toNat (-1:Int)).map D.int:=by
      rw [List.map_replicate]; induction M.toNat with
      | zero=>rfl
      | succ n ih=>rw [List.replicate_succ,List.flatten_cons,ih,List.replicate_succ]; rfl
    rw [rep]
    refine wp_for (by walk_at "ev") (fun j ρ=>∃ bs v8 v9,Par p bs∧ρ=[.bo (.scr ns),.bo (.int 14),.pu (.int (ns.getD (0:Int).toNat 0)),.pu (.int M),.pu (.int c),.pu (.lst (p.map D.int)),.pu (.int sp),.ol (bs.map D.int),v8,v9,.un,.un])
      ⟨_,.un,.un,⟨by rw [List.length_replicate,hpl],fun w hw=>.inl (by rw [List.length_replicate] at hw; rw [List.getD_eq_getElem?_getD,List.getElem?_replicate,if_pos hw]; rfl)⟩,rfl⟩ ?_ ?_
    · rintro j d ρ hd ⟨bs,v8,v9,hb,rfl⟩
      obtain ⟨hj,rfl⟩:=upL_at hd
      refine ⟨_,rfl,?_⟩
      dsimp only [gN,slm,List.set_cons_succ,List.set_cons_zero]
      walk_at "go"
      have b0:=Int.emod_nonneg (mixedZ c (60+(1+(j:Int)))) (show min (1+(j:Int)) sp≠0 by omega)
      have b1:=Int.emod_lt_of_pos (mixedZ c (60+(1+(j:Int)))) (show 0<min (1+(j:Int)) sp by omega)
      generalize mixedZ c (60+(1+(j:Int))) % min (1+(j:Int)) sp=back at b0 b1
      have hq:0≤pk2 (c / 4 % 2) (1+(j:Int)-1-back) back∧pk2 (c / 4 % 2) (1+(j:Int)-1-back) back<1+(j:Int):=by unfold pk2; split <;> omega
      have hk:=hp'.all _ (mem_getD (p:=p) (k:=(1+(j:Int)).toNat) (by omega))
      have hbl:=hb.1
      refine wp_put rfl (by walk_at "ev") (by walk_at "ev") (ixN_in hk.1 (by rw [List.length_map]; omega)) ?_
      dsimp only [List.set_cons_succ,List.set_cons_zero]
      rw [set_mapI]
      exact ⟨_,_,_,hb.put hp' (by omega) (by omega),rfl⟩
    · rintro ρ ⟨bs,v8,v9,hb,rfl⟩
      walk_at "go"
      refine wp_for (by walk_at "ev") (fun j ρ=>∃ bs v8 v9 v10 v11,Par p bs∧ρ=[.bo (.scr ns),.bo (.int 14),.pu (.int (ns.getD (0:Int).toNat 0)),.pu (.int M),.pu (.int c),.pu (.lst (p.map D.int)),.pu (.int sp),.ol (bs.map D.int),v8,v9,v10,v11])
        ⟨bs,v8,v9,.un,.un,hb,rfl⟩ ?_ ?_
      · rintro j d ρ hd ⟨bs,v8,v9,v10,v11,hb,rfl⟩
        obtain ⟨hj,rfl⟩:=upL_at hd
        refine ⟨_,rfl,?_⟩
        dsimp only [gN,slm,List.set_cons_succ,List.set_cons_zero]
        walk_at "go"
        have hN0:=mixedZ_nn (ns.getD (3+(j:Int)).toNat 0) (3+(j:Int))
        have hN1:mixedZ (ns.getD (3+(j:Int)).toNat 0) (3+(j:Int))<2147483629:=Int.emod_lt_of_pos _ (by decide)
        generalize mixedZ (ns.getD (3+(j:Int)).toNat 0) (3+(j:Int))=N at hN0 hN1
        refine wp_ifp (by walk_at "ev") (fun c1=>?_) (fun _=>wp_pass ⟨_,_,_,_,_,hb,rfl⟩)
        walk_at "go"
        have a0:=Int.emod_nonneg (N*16807 % 2147483587) (show M-1≠0 by omega)
        have a1:=Int.emod_lt_of_pos (N*16807 % 2147483587) (show 0<M-1 by omega)
        generalize N*16807 % 2147483587 % (M-1)=at' at a0 a1
        walk_at "go"
        have b0:=Int.emod_nonneg (N*69621 % 1000003) (show min (1+at') sp≠0 by omega)
        have b1:=Int.emod_lt_of_pos (N*69621 % 1000003) (show 0<min (1+at') sp by omega)
        generalize N*69621 % 1000003 % min (1+at') sp=back at b0 b1
        have hq:0≤pk2 (c / 4 % 2) (1+at'-1-back) back∧pk2 (c / 4 % 2) (1+at'-1-back) back<1+at':=by unfold pk2; split <;> omega
        have hk:=hp'.all _ (mem_getD (p:=p) (k:=(1+at').toNat) (by omega))
        have hbl:=hb.1
        refine wp_put rfl (by walk_at "ev") (by walk_at "ev") (ixN_in hk.1 (by rw [List.length_map]; omega)) ?_
        dsimp only [List.set_cons_succ,List.set_cons_zero]
        rw [set_mapI]
        have hb2:=hb.put hp' (j:=(pk2 (c / 4 % 2) (1+at'-1-back) back).toNat) (k:=(1+at').toNat) (by omega) (by omega)
        have hb3:=hb2.1
        have h6:0<pk3 (c / 8 % 3) 40 40 6:=by unfold pk3; split <;> (try split) <;> decide
        generalize bs.set (p.getD (1+at').toNat 0).toNat (p.getD (pk2 (c / 4 % 2) (1+at'-1-back) back).toNat 0)=bs2 at hb2 hb3 ⊢
        refine wp_ifp (by walk_at "ev") (fun c1=>?_) (fun _=>wp_pass ⟨_,_,_,_,_,hb2,rfl⟩)
        refine wp_put rfl (by walk_at "ev") (by walk_at "ev") (ixN_in hk.1 (by rw [List.length_map]; omega)) ?_
        dsimp only [List.set_cons_succ,List.set_cons_zero]
        rw [set_mapI]
        exact ⟨_,_,_,_,_,hb2.cut (by omega),rfl⟩
      · rintro ρ ⟨bs,v8,v9,v10,v11,hb,rfl⟩
        walk_at "go"
        exact wp_ret (by walk_at "ev") ⟨p,bs,rfl,hp',by omega,hb⟩)
  exact ⟨p,bs,e,hp,hm,hb⟩
def lev (bs:List Int):Nat→Int→Int
  | 0,_=>1
  | n+1,w=>if bs.getD w.toNat 0=-1 then 1 else lev bs n (bs.getD w.toNat 0)+1
theorem place {p:List Int} (hp:Names p p.length) {w:Int} (h0:0≤w) (h1:w<p.length):∃ k:Nat,k<p.length∧p.getD k 0=w:=by
  have hperm:w∈p:=by
    have key:∀ (m:Nat) (q:List Int),q.length=m→q.Nodup→(∀ x∈q,0≤x∧x<(m:Int))→∀ w:Int,0≤w→w<m→w∈q:=by
      intro m
      induction m with
      | zero=>intro q _ _ _ w a b; omega
      | succ m ih =>
        intro q hl hn ha w a b
        by_cases hm:(m:Int)∈q
        · by_cases hw:w=m
          · rw [hw]; exact hm
          · have:=ih (q.erase (m:Int)) (by rw [List.length_erase_of_mem hm]; omega) (hn.erase _) (fun x hx=>by
              have h1:=(hn.mem_erase_iff.mp hx)
              have h2:=ha x h1.2
              have h3:=h1.1
              omega) w a (by omega)
            exact List.mem_of_mem_erase this
        · -- pigeonhole: m+1 unlike numbers below m
          exfalso
          have big:∀ (m:Nat) (q:List Int),q.Nodup→(∀ x∈q,0≤x∧x<(m:Int))→q.length≤m:=by
            intro m
            induction m with
            | zero =>
              intro q hn ha
              cases q with
              | nil=>exact Nat.le_refl _
              | cons x r=>have:=ha x List.mem_cons_self; omega
            | succ m ih2 =>
              intro q hn ha
              by_cases hm:(m:Int)∈q
              · have:=ih2 (q.erase (m:Int)) (hn.erase _) (fun x hx=>by
                  have h1:=(hn.mem_erase_iff.mp hx)
                  have h2:=ha x h1.2
                  have h3:=h1.1
                  omega)
                rw [List.length_erase_of_mem hm] at this
                omega
              · have:=ih2 q hn (fun x hx=>by
                  have h2:=ha x hx
                  have h3:x≠m:=fun z=>hm (z ▸ hx)
                  omega)
                omega
          have:=big m q hn (fun x hx=>by
            have h2:=ha x hx
            have h3:x≠m:=fun z=>hm (z ▸ hx)
            omega)
          omega
    exact key p.length p rfl hp.nd hp.all w h0 h1
  obtain ⟨k,hk,e⟩:=List.getElem_of_mem hperm
  exact ⟨k,hk,by rw [List.getD_eq_getElem?_getD,List.getElem?_eq_getElem hk]; exact e⟩
theorem nd_inj {p:List Int} (hn:p.Nodup) {j k:Nat} (hj:j<p.length) (hk:k<p.length) (e:p.getD j 0=p.getD k 0):j=k:=by
  rw [List.getD_eq_getElem?_getD,List.getD_eq_getElem?_getD,List.getElem?_eq_getElem hj,List.getElem?_eq_getElem hk] at e
  have pw:=List.pairwise_iff_getElem.mp hn
  rcases Nat.lt_trichotomy j k with h | h | h
  · exact absurd e (pw j k hj hk h)
  · exact h
  · exact absurd e.symm (pw k j hk hj h)
theorem lev_step {p bs:List Int} (hp:Names p p.length) (hb:Par p bs) {k:Nat} (hk:k<p.length):bs.getD (p.getD k 0).toNat 0=-1∨∃ j,j<k∧bs.getD (p.getD k 0).toNat 0=p.getD j 0:=by
  have ha:=hp.all _ (mem_getD hk)
  have h1:=hb.1
  rcases hb.2 (p.getD k 0).toNat (by omega) with e | ⟨j,k',hjk,hk',e1,e2⟩
  · exact .inl e
  · refine .inr ⟨j,?_,e2.symm⟩
    have:k'=k:=nd_inj hp.nd hk' hk (by omega)
    omega
theorem lev_more {p bs:List Int} (hp:Names p p.length) (hb:Par p bs):∀ (k:Nat),k<p.length→∀ n,k≤n→lev bs (n+1) (p.getD k 0)=lev bs (k+1) (p.getD k 0)∧1≤lev bs (k+1) (p.getD k 0)∧lev bs (k+1) (p.getD k 0)≤k+1:=by
  intro k
  induction k using Nat.strongRecOn with
  | _ k ih =>
    intro hk n hn
    have un:∀ n,lev bs (n+1) (p.getD k 0)=if bs.getD (p.getD k 0).toNat 0=-1 then 1 else lev bs n (bs.getD (p.getD k 0).toNat 0)+1:=fun _=>rfl
    rcases lev_step hp hb hk with e | ⟨j,hj,e⟩
    · rw [un,un,if_pos e,if_pos e]
      omega
    · have ha:=hp.all _ (mem_getD (p:=p) (k:=j) (by omega))
      rw [un,un,if_neg (by omega),if_neg (by omega),e]
      obtain ⟨n',rfl⟩:∃ n',n=n'+1:=⟨n-1,by omega⟩
      obtain ⟨k',rfl⟩:∃ k',k=k'+1:=⟨k-1,by omega⟩
      obtain ⟨f1,f2,f3⟩:=ih j hj (by omega) n' (by omega)
      obtain ⟨g1,g2,g3⟩:=ih j hj (by omega) k' (by omega)
      rw [f1,g1]
      omega
def levs (bs:List Int):List Int:=(List.range bs.length).map fun w=>lev bs bs.length (w:Nat)
theorem level_of {p bs:List Int} (hp:Names p p.length) (hb:Par p bs) (w:Int) (h0:0≤w) (h1:w<bs.length):F_level_of [.lst (bs.map D.int),.int w]=some (.int (lev bs bs.length w)):=by
  have hbl:=hb.1
  obtain ⟨k0,hk0,ek0⟩:=place hp h0 (by omega)
  refine run_eqF F_level_of_def ?_
  rw [st_level_of]
  unfold B_level_of
  walk_at "go"
  have tot:∃ n,p.length=n+1:=⟨p.length-1,by omega⟩
  obtain ⟨n,en⟩:=tot
  refine wp_while (fun m ρ=>∃ (k:Nat) (l:Int),k<p.length∧m=k∧1≤l∧l+k≤p.length∧ρ=[.bo (.lst (bs.map D.int)),.bo (.int w),.pu (.int l),.pu (.int (bs.getD (p.getD k 0).toNat 0))]∧l+lev bs (k+1) (p.getD k 0)=lev bs bs.length w+1) k0 ?_ ?_
  · refine ⟨k0,1,hk0,rfl,by omega,by omega,by rw [ek0],?_⟩
    have:=(lev_more hp hb k0 hk0 n (by omega)).1
    rw [ek0] at this ⊢
    rw [hbl,en,this]
    omega
  · rintro m' ρ ⟨m,l,hk,em,hl,hlk,rfl,hv⟩
    refine ⟨_,by walk_at "ev", fun c=>?_,fun c=>?_⟩
    · have c':=of_decide_eq_true c
      rcases lev_step hp hb hk with e | ⟨j,hj,e⟩
      · exact absurd e c'
      · have hj':=hp.all _ (mem_getD (p:=p) (k:=j) (by omega))
        rw [e]
        walk_at "go"
        refine wp_ifp (by walk_at "ev") (fun c2=>?_) (fun _=>?_)
        · rw [List.length_map] at c2
          omega
        · walk_at "go"
          refine ⟨j,by omega,j,l+1,by omega,rfl,by omega,by omega,rfl,?_⟩
          have un:lev bs (m+1) (p.getD m 0)=if bs.getD (p.getD m 0).toNat 0=-1 then 1 else lev bs m (bs.getD (p.getD m 0).toNat 0)+1:=rfl
          rw [un,if_neg c',e] at hv
          obtain ⟨m2,em2⟩:∃ m2,m=m2+1:=⟨m-1,by omega⟩
          rw [em2,(lev_more hp hb j (by omega) m2 (by omega)).1] at hv
          omega
    · have c':bs.getD (p.getD m 0).toNat 0=-1:=Decidable.byContradiction fun z=>by
        rw [decide_eq_true (show bs.getD (p.getD m 0).toNat 0≠-1 from z)] at c
        cases c
      walk_at "go"
      refine wp_ret (by walk_at "ev") ?_
      have un:lev bs (m+1) (p.getD m 0)=if bs.getD (p.getD m 0).toNat 0=-1 then 1 else lev bs m (bs.getD (p.getD m 0).toNat 0)+1:=rfl
      rw [un,if_pos c'] at hv
      congr 1
      omega
theorem levels {p bs:List Int} (hp:Names p p.length) (hb:Par p bs) (hm:bs.length≤1000):F_levels [.lst (bs.map D.int)]=some (.lst ((levs bs).map D.int)):=by
  have hline:sizeLine=16777216:=sizeLine_eq
  have hbl:=hb.1
  refine run_eqF F_levels_def ?_
  rw [st_levels]
  unfold B_levels
  walk_at "go"
  refine wp_for (by walk_at "ev") (fun j ρ=>∃ v1,ρ=[.bo (.lst (bs.map D.int)),v1]) ⟨_,rfl⟩ ?_ ?_
  · rintro j d ρ hd ⟨v1,rfl⟩
    rw [List.getElem?_map] at hd
    have hj:j<bs.length:=by
      cases e:bs[j]? with
      | none=>rw [e] at hd; cases hd
      | some x=>exact (List.getElem?_eq_some_iff.mp e).1
    have ed:d=.int (bs.getD j 0):=by
      rw [List.getElem?_eq_getElem hj] at hd
      rw [List.getD_eq_getElem?_getD,List.getElem?_eq_getElem hj]
      exact (Option.some.inj hd).symm
    subst ed
    refine ⟨_,rfl,?_⟩
    dsimp only [gN,slm,List.set_cons_succ,List.set_cons_zero]
    have hr:-1≤bs.getD j 0∧bs.getD j 0<bs.length:=by
      rcases hb.2 j hj with e | ⟨a,b,h1,h2,_,e⟩
      · omega
      · have:=hp.all _ (mem_getD (p:=p) (k:=a) (by omega))
        omega
    refine wp_if (by walk_at "ev") (fun c=>?_) (fun _=>wp_pass ⟨_,rfl⟩)
    exfalso
    have:(decide (-1≤bs.getD j 0)&&decide (bs.getD j 0<((bs.map D.int).length:Nat)))=true:=by
      rw [List.length_map,Bool.and_eq_true,decide_eq_true_iff,decide_eq_true_iff]; exact hr
    rw [this] at c
    cases c
  · rintro ρ ⟨v1,rfl⟩
    refine wp_ret (ev_lst (ev_comp0 (by walk_at "ev") (fun d=>match d with | .int w=>.int (lev bs bs.length w) | d=>d) ?_)) ?_
    · intro d hd
      obtain ⟨i,hi⟩:=List.getElem?_of_mem hd
      obtain ⟨h1,rfl⟩:=upL_at hi
      rw [List.length_map] at h1
      refine ⟨_,rfl,?_⟩
      exact ev_call (by walk_at "ev") (level_of hp hb _ (by omega) (by omega))
    · congr 1
      unfold upL levs
      rw [List.length_map,List.map_map,List.map_map]
      have:((bs.length:Int)).toNat=bs.length:=by omega
      rw [this]
      refine List.map_congr_left fun i _=>?_
      show D.int (lev bs bs.length (0+(i:Int)))=D.int (lev bs bs.length (i:Int))
      rw [show (0:Int)+(i:Int)=(i:Int) by omega]
theorem nd_len {α:Type} [DecidableEq α]:∀ {l m:List α},l.Nodup→(∀ x∈l,x∈m)→l.length≤m.length
  | [],_,_,_=>Nat.zero_le _
  | x::l,m,h,hs=>by
    obtain ⟨h1,h2⟩:=List.nodup_cons.mp h
    have hx:x∈m:=hs x List.mem_cons_self
    have:=nd_len (m:=m.erase x) h2 fun y hy=>(List.mem_erase_of_ne (fun z:y=x=>h1 (z ▸ hy))).mpr (hs y (List.mem_cons_of_mem _ hy))
    rw [List.length_erase_of_mem hx] at this
    have:=List.length_pos_of_mem hx
    show l.length+1≤_
    omega
abbrev intsD (cs:List Int):D:=.lst (cs.map D.int)
theorem lenI (r:List Int):lenD (intsD r)=some (.int r.length):=by show some (D.int ((r.map D.int).length:Nat))=_; rw [List.length_map]
def rangeI (n:Nat):List Int:=(List.range n).map fun (i:Nat)=>(i:Int)
theorem rangeI_D (n:Nat):upL 0 n=(rangeI n).map D.int:=by
  unfold upL rangeI
  rw [List.map_map]
  refine List.map_congr_left fun i _=>?_
  show D.int (0+(i:Int))=_
  rw [Int.zero_add]; rfl
theorem cut_b {xs:List D} (k:Nat):cutL xs none (some (k:Int))=xs.take k:=by
  unfold cutL
  rw [HT.sIx_none,HT.sIx_nat,List.drop_zero,Nat.sub_zero]
  by_cases h:k≤xs.length
  · rw [Nat.min_eq_left h]
  · rw [Nat.min_eq_right (by omega),List.take_of_length_le (Nat.le_refl _),List.take_of_length_le (by omega)]
def bh (bs:List Int) (w:Int):Int:=bs.getD w.toNat 0
def ready (bs left:List Int):List Int:=left.filter fun w=>decide (w∉left.map (bh bs))
def key (hs:List Int) (w:Int):List Int:=[-(hs.getD w.toNat 0),w]
def ord (bs hs left:List Int):List Int:=(srtZ ((ready bs left).map (key hs))).map fun z=>z.getD 1 0
def turn (bs hs:List Int) (b:Nat) (left:List Int):List Int:=srtI ((ord bs hs left).take b)
def lf (bs hs:List Int) (b:Nat) (l0:List Int):Nat→List Int
  | 0=>l0
  | j+1=>(lf bs hs b l0 j).filter fun w=>decide (w∉turn bs hs b (lf bs hs b l0 j))
theorem ord_perm (bs hs left:List Int):(ord bs hs left).Perm (ready bs left):=by
  have h:=(srtZ_perm ((ready bs left).map (key hs))).map fun z=>z.getD 1 0
  rw [List.map_map] at h
  have e:(ready bs left).map ((fun z:List Int=>z.getD 1 0)∘key hs)=ready bs left:=by
    rw [show ((fun z:List Int=>z.getD 1 0)∘key hs)=id from rfl,List.map_id]
  rw [e] at h
  exact h
theorem turn_mem {bs hs:List Int} {b:Nat} {left:List Int} {w:Int} (h:w∈turn bs hs b left):w∈ready bs left :=
  (ord_perm bs hs left).mem_iff.mp (List.mem_of_mem_take ((srtI_perm _).mem_iff.mp h))
theorem turn_left {bs hs:List Int} {b:Nat} {left:List Int} {w:Int} (h:w∈turn bs hs b left):w∈left:=(List.mem_filter.mp (turn_mem h)).1
theorem turn_nd {bs hs:List Int} {b:Nat} {left:List Int} (h:left.Nodup):(turn bs hs b left).Nodup :=
  (srtI_perm _).nodup_iff.mpr (((ord_perm bs hs left).nodup_iff.mpr (h.filter _)).sublist (List.take_sublist _ _))
theorem turn_ne {bs hs:List Int} {b:Nat} {left:List Int} (hb:1≤b) (h:ready bs left≠[]):turn bs hs b left≠[]:=fun z=>by
  have h1:=(srtI_perm ((ord bs hs left).take b)).length_eq
  have h2:=(ord_perm bs hs left).length_eq
  unfold turn at z
  rw [z,List.length_nil,List.length_take] at h1
  have:0<(ready bs left).length:=List.length_pos_iff.mpr h
  omega
theorem turn_split {bs hs:List Int} {b:Nat} {left:List Int} (h:left.Nodup):left.Perm (turn bs hs b left++left.filter fun w=>decide (w∉turn bs hs b left)):=by
  have h1:(turn bs hs b left).Perm (left.filter fun w=>decide (w∈turn bs hs b left)):=by
    refine (List.perm_ext_iff_of_nodup (turn_nd h) (h.filter _)).mpr fun w=>?_
    rw [List.mem_filter]
    exact ⟨fun z=>⟨turn_left z,decide_eq_true z⟩,fun z=>of_decide_eq_true z.2⟩
  have h2:=(List.filter_append_perm (fun w=>decide (w∈turn bs hs b left)) left).symm
  refine h2.trans ((h1.symm.append_right _).trans ?_)
  refine List.Perm.append_left _ (List.Perm.of_eq (List.filter_congr fun w _=>?_))
  by_cases z:w∈turn bs hs b left <;> simp [z]
structure LfOk (n:Nat) (left:List Int):Prop where
  nd:left.Nodup
  rg:∀ w∈left,0≤w∧w<(n:Int)
theorem LfOk.next {n:Nat} {left:List Int} (h:LfOk n left) (p:Int→Bool):LfOk n (left.filter p):=⟨h.nd.filter _,fun w hw=>h.rg w (List.mem_filter.mp hw).1⟩
theorem lf_ok {n:Nat} {bs hs:List Int} {b:Nat} {l0:List Int} (h:LfOk n l0):∀ j,LfOk n (lf bs hs b l0 j)
  | 0=>h
  | j+1=>(lf_ok h j).next _
theorem ready_ne {p bs:List Int} (hp:Names p p.length) (hb:Par p bs):∀ {left:List Int},LfOk bs.length left→left≠[]→ready bs left≠[]:=by
  intro left h hne
  have hbl:=hb.1
  have pl:∀ w∈left,∃ k,k<p.length∧p.getD k 0=w:=fun w hw=>place hp (h.rg w hw).1 (by have:=(h.rg w hw).2; omega)
  have mx:∃ k,k<p.length∧p.getD k 0∈left∧∀ j,j<p.length→p.getD j 0∈left→j≤k:=by
    obtain ⟨w,hw⟩:=List.exists_mem_of_ne_nil left hne
    obtain ⟨k0,hk0,e0⟩:=pl w hw
    have key:∀ d k,p.length-k≤d→k<p.length→p.getD k 0∈left→∃ k,k<p.length∧p.getD k 0∈left∧∀ j,j<p.length→p.getD j 0∈left→j≤k:=by
      intro d
      induction d with
      | zero=>intro k h1 h2 _; omega
      | succ d ih =>
        intro k h1 h2 h3
        by_cases q:∃ j,j<p.length∧p.getD j 0∈left∧k<j
        · obtain ⟨j,j1,j2,j3⟩:=q
          exact ih j (by omega) j1 j2
        · exact ⟨k,h2,h3,fun j j1 j2=>Classical.byContradiction fun z=>q ⟨j,j1,j2,by omega⟩⟩
    exact key p.length k0 (by omega) hk0 (by rw [e0]; exact hw)
  obtain ⟨k,hk,hm,top⟩:=mx
  intro z
  have:p.getD k 0∈ready bs left:=by
    refine List.mem_filter.mpr ⟨hm,decide_eq_true fun q=>?_⟩
    obtain ⟨v,hv,ev⟩:=List.mem_map.mp q
    obtain ⟨j,hj,ej⟩:=pl v hv
    have hjk:=top j hj (by rw [ej]; exact hv)
    have hpk:=hp.all _ (mem_getD hk)
    have ev:bs.getD v.toNat 0=p.getD k 0:=ev
    rcases lev_step hp hb hj with e | ⟨i,hi,e⟩
    · rw [ej,ev] at e; omega
    · rw [ej,ev] at e
      have:=nd_inj hp.nd hk (by omega) e
      omega
  rw [z] at this
  cases this
theorem lf_len {p bs hs:List Int} {b:Nat} {l0:List Int} (hp:Names p p.length) (hb:Par p bs) (h1:1≤b) (h:LfOk bs.length l0) {j:Nat} (hne:lf bs hs b l0 j≠[]):(lf bs hs b l0 (j+1)).length<(lf bs hs b l0 j).length:=by
  have ok:=lf_ok (bs:=bs) (hs:=hs) (b:=b) h j
  have sp:=(turn_split (bs:=bs) (hs:=hs) (b:=b) ok.nd).length_eq
  have tn:=turn_ne (hs:=hs) h1 (ready_ne hp hb ok hne)
  have:0<(turn bs hs b (lf bs hs b l0 j)).length:=List.length_pos_iff.mpr tn
  rw [List.length_append] at sp
  show ((lf bs hs b l0 j).filter _).length < _
  omega
theorem flat_perm {bs hs:List Int} {b n:Nat} {l0:List Int} (h:LfOk n l0):∀ k,l0.Perm (((List.range k).map fun j=>turn bs hs b (lf bs hs b l0 j)).flatten++lf bs hs b l0 k)
  | 0=>List.Perm.refl _
  | k+1=>by
    have ih:=flat_perm (bs:=bs) (hs:=hs) (b:=b) h k
    have sp:=turn_split (bs:=bs) (hs:=hs) (b:=b) (lf_ok (bs:=bs) (hs:=hs) (b:=b) h k).nd
    rw [List.range_succ,List.map_append,List.flatten_append]
    refine ih.trans ((sp.append_left _).trans (List.Perm.of_eq ?_))
    simp [lf]
def kfD (hs:List Int):D→List Int
  | .int w=>key hs w
  | _=>[]
theorem key_inj {hs:List Int} {a b:Int} (h:key hs a=key hs b):a=b:=by
  unfold key at h
  injection h with _ h
  injection h
theorem nd_keys {hs:List Int}:∀ {l:List Int},l.Nodup→((l.map D.int).map (kfD hs)).Nodup
  | [],_=>by simp
  | w::l,h=>by
    obtain ⟨h1,h2⟩:=List.nodup_cons.mp h
    refine List.nodup_cons.mpr ⟨fun q=>?_,nd_keys h2⟩
    obtain ⟨d,hd,e⟩:=List.mem_map.mp q
    obtain ⟨v,hv,rfl⟩:=List.mem_map.mp hd
    exact h1 (by rw [← key_inj (show key hs v=key hs w from e)]; exact hv)
theorem srt_ord (bs hs:List Int) {left:List Int} (h:left.Nodup):srtBy (kfD hs) ((ready bs left).map D.int)=(ord bs hs left).map D.int:=by
  refine (srtBy_uniq (kg:=kfD hs) (fun _ _=>rfl) (nd_keys (h.filter _)) ((ord_perm bs hs left).map _) ?_).symm
  unfold ord
  rw [List.map_map,List.pairwise_map]
  refine List.Pairwise.imp_of_mem (fun {x y} hx hy z=>?_) (srtZ_up ((ready bs left).map (key hs)))
  obtain ⟨v,_,rfl⟩:=List.mem_map.mp ((srtZ_perm _).mem_iff.mp hx)
  obtain ⟨w,_,rfl⟩:=List.mem_map.mp ((srtZ_perm _).mem_iff.mp hy)
  exact z
theorem rangeI_ok (n:Nat):LfOk n (rangeI n):=by
  refine ⟨?_,fun w hw=>?_⟩
  · unfold rangeI
    rw [List.nodup_iff_pairwise_ne,List.pairwise_map]
    exact (List.nodup_iff_pairwise_ne.mp List.nodup_range).imp fun h z=>h (by omega)
  · obtain ⟨i,hi,rfl⟩:=List.mem_map.mp hw
    have:=List.mem_range.mp hi
    omega
theorem rangeI_bh (bs:List Int):(rangeI bs.length).map (bh bs)=bs:=by
  unfold rangeI
  rw [List.map_map]
  refine List.ext_getElem (by simp) fun i h1 h2=>?_
  simp [bh,h2]
theorem get_mapI {xs:List Int} {k:Nat} (h:k<xs.length):(xs.map D.int)[k]?=some (.int (xs.getD k 0)):=by
  rw [List.getElem?_map,List.getD_eq_getElem?_getD,List.getElem?_eq_getElem h]; rfl
theorem not_in {l:List Int} {w:Int}:some (!decide (w∈l))=some (decide (w∉l)):=by
  by_cases h:w∈l <;> simp [h]
theorem levs_len (bs:List Int):(levs bs).length=bs.length:=by unfold levs; rw [List.length_map,List.length_range]
theorem count_zero {l:List Int} {w:Int}:decide (((l.count w:Nat):Int)=0)=decide (w∉l):=by
  rw [Bool.eq_iff_iff,decide_eq_true_iff,decide_eq_true_iff]
  constructor
  · intro h
    exact List.count_eq_zero.mp (by omega)
  · intro h
    rw [List.count_eq_zero.mpr h]; rfl
theorem turns {p bs:List Int} (hp:Names p p.length) (hb:Par p bs) (h40:bs.length≤40) (b:Nat) (h1:1≤b):∃ k,lf bs (levs bs) b (rangeI bs.length) k=[]∧(∀ i,i<k→lf bs (levs bs) b (rangeI bs.length) i≠[])∧F_tree_turns [intsD bs,.int (b:Int)]=some (.lst ((List.range k).map fun j=>intsD (turn bs (levs bs) b (lf bs (levs bs) b (rangeI bs.length) j)))):=by
  have hline:sizeLine=16777216:=sizeLine_eq
  have hbl:=hb.1
  have hsl:=levs_len bs
  have lok:=lf_ok (bs:=bs) (hs:=levs bs) (b:=b) (rangeI_ok bs.length)
  have elev:=levels hp hb (by omega)
  generalize hhs:levs bs=hs at *
  obtain ⟨d,e,k,hk,hkk,rfl⟩:=run_ofF F_tree_turns_def (ds:=[intsD bs,.int (b:Int)]) (P:=fun d=>∃ k,lf bs hs b (rangeI bs.length) k=[]∧(∀ i,i<k→lf bs hs b (rangeI bs.length) i≠[])∧d=.lst ((List.range k).map fun j=>intsD (turn bs hs b (lf bs hs b (rangeI bs.length) j)))) (by
    rw [st_tree_turns]
    unfold B_tree_turns
    have erg:∀ {ρ:Rho},dVar 0 ρ=some (intsD bs)→dRg1 (dF1 lenD (dVar 0)) ρ=some ((rangeI bs.length).map D.int):=fun h=>by
      rw [ev_rg1 (ev_f1 h (lenI bs)) (by omega),Int.toNat_natCast,rangeI_D]
    refine wp_seq (wp_set (ev_call (ev_cons rfl rfl) elev) ?_)
    walk_at "st"
    refine wp_seq (wp_setO (ds:=((rangeI bs.length).map fun w=>((bs.count w:Nat):Int)).map D.int) ?_ (by simp only [List.length_cons,List.length_nil]; omega) ?_)
    · rw [ev_compA0 D.int (erg rfl) (fun w=>.int ((bs.count w:Nat):Int)) fun w hw=>⟨_,rfl,ev_count rfl rfl⟩,List.map_map]
      rfl
    walk_at "st"
    refine wp_seq (wp_set (ev_lst (erg rfl)) ?_)
    walk_at "st"
    refine wp_seq (wp_setO (ds:=[]) rfl (by simp only [List.length_cons,List.length_nil]; omega) ?_)
    walk_at "st"
    refine wp_seq (wp_while (fun m ρ=>∃ (j:Nat) (W:List Int) (v6 v7 v8:Sl),m=(lf bs hs b (rangeI bs.length) j).length∧j+m≤bs.length∧(∀ i,i<j→lf bs hs b (rangeI bs.length) i≠[])∧W.length=bs.length∧(∀ w:Nat,w<bs.length→W.getD w 0=((((lf bs hs b (rangeI bs.length) j).map (bh bs)).count (w:Int):Nat):Int)) ∧
      ρ=[.bo (intsD bs),.bo (.int (b:Int)),.pu (intsD hs),.ol (W.map D.int),.pu (intsD (lf bs hs b (rangeI bs.length) j)),.ol ((List.range j).map fun i=>intsD (turn bs hs b (lf bs hs b (rangeI bs.length) i))),v6,v7,v8]) (rangeI bs.length).length ⟨0,_,_,_,_,rfl,?_,(fun i h=>absurd h (by omega)),?_,?_,rfl⟩ ?_)
    · unfold rangeI; rw [List.length_map,List.length_range]; omega
    · rw [List.length_map]; unfold rangeI; rw [List.length_map,List.length_range]
    · intro w hw
      show _=((((rangeI bs.length).map (bh bs)).count (w:Int):Nat):Int)
      rw [rangeI_bh]
      unfold rangeI
      rw [List.map_map,List.getD_eq_getElem?_getD,List.getElem?_map,List.getElem?_range hw]
      rfl
    · rintro m ρ ⟨j,W,v6,v7,v8,em,hjm,hpre,hW,hc,rfl⟩
      have ok:=lok j
      have hnext:=lf_len (hs:=hs) (j:=j) hp hb h1 (rangeI_ok bs.length)
      have hlen:(lf bs hs b (rangeI bs.length) j).length≤bs.length:=by
        have key:∀ j,(lf bs hs b (rangeI bs.length) j).length≤bs.length:=by
          intro j
          induction j with
          | zero=>show (rangeI bs.length).length≤_; unfold rangeI; rw [List.length_map,List.length_range]; omega
          | succ j ih=>exact Nat.le_trans (List.length_filter_le _ _) ih
        exact key j
      by_cases hne:lf bs hs b (rangeI bs.length) j=[]
      · refine ⟨false,?_,(fun z=>by cases z),fun _=>?_⟩
        · refine ev_tru (d:=intsD (lf bs hs b (rangeI bs.length) j)) rfl ?_
          rw [hne]; rfl
        · walk_at "go"
          exact wp_ret (by walk_at "ev") ⟨j,hne,hpre,rfl⟩
      · refine ⟨true,?_,fun _=>?_,fun z=>by cases z⟩
        · refine ev_tru (d:=intsD (lf bs hs b (rangeI bs.length) j)) rfl ?_
          cases q:lf bs hs b (rangeI bs.length) j with
          | nil=>exact absurd q hne
          | cons x r=>rfl
        · have hnext:=hnext hne
          have enx:lf bs hs b (rangeI bs.length) (j+1)=(lf bs hs b (rangeI bs.length) j).filter fun w=>decide (w∉turn bs hs b (lf bs hs b (rangeI bs.length) j)):=rfl
          have ers:(List.range (j+1)).map (fun i=>intsD (turn bs hs b (lf bs hs b (rangeI bs.length) i)))=(List.range j).map (fun i=>intsD (turn bs hs b (lf bs hs b (rangeI bs.length) i)))++[intsD (turn bs hs b (lf bs hs b (rangeI bs.length) j))]:=by rw [List.range_succ,List.map_append]; rfl
          generalize hL:lf bs hs b (rangeI bs.length) j=L at *
          generalize hN:lf bs hs b (rangeI bs.length) (j+1)=L' at *
          refine wp_seq (wp_set (d:=intsD (ready bs L)) (ev_lst ?_) ?_)
          · rw [ev_compA D.int (ev_asL (d:=intsD L) rfl rfl) (fun w=>decide (w∉L.map (bh bs))) D.int fun w hw=>⟨_,rfl,?_,fun _=>rfl⟩]
            · rfl
            · have hr:=ok.rg w hw
              rw [ev_t (ev_eqF (ev_ix rfl rfl (ixI (ns:=W) hr.1 (by omega))) rfl)]
              have:=hc w.toNat (by omega)
              rw [this,← count_zero]
              have ew:((w.toNat:Nat):Int)=w:=by omega
              rw [ew]
          walk_at "st"
          have hrl:(ready bs L).length≤L.length:=List.length_filter_le _ _
          have hol:(ord bs hs L).length=(ready bs L).length:=(ord_perm bs hs L).length_eq
          refine wp_seq (wp_set (d:=intsD (turn bs hs b L)) (ev_lst ?_) ?_)
          · refine dSrtI_of (ns:=(ord bs hs L).take b) (ev_asL (d:=.lst (((ord bs hs L).take b).map D.int)) (ev_lst ?_) rfl) (by rw [List.length_take]; omega)
            rw [ev_sl (ds:=(ord bs hs L).map D.int) (ev_asL (d:=intsD (ord bs hs L)) (ev_lst ?_) rfl) rfl (ev_oSome rfl),cut_b,List.map_take]
            rw [dSortK_of (kfD hs) (ds:=(ready bs L).map D.int) (ev_asL (d:=intsD (ready bs L)) rfl rfl) (fun d hd=>?_) (nd_keys (ok.nd.filter _)) (by rw [List.length_map]; omega),srt_ord bs hs ok.nd]
            obtain ⟨w,hw,rfl⟩:=List.mem_map.mp hd
            have hr:=ok.rg w (List.mem_filter.mp hw).1
            exact ⟨ev_tup (ev_cons (ev_neg (ev_ix rfl rfl (ixI (ns:=hs) hr.1 (by omega)))) (ev_cons rfl rfl)),fun z=>by cases z⟩
          walk_at "st"
          have hT:∀ w∈turn bs hs b L,0≤w∧w<(bs.length:Int):=fun w hw=>ok.rg w (turn_left hw)
          have hsp:=turn_split (bs:=bs) (hs:=hs) (b:=b) ok.nd
          rw [← enx] at hsp
          generalize turn bs hs b L=T at *
          refine wp_seq (wp_for (ev_asL (d:=intsD T) rfl rfl) (fun i ρ=>∃ (W':List Int) (v8:Sl),W'.length=bs.length∧(∀ w:Nat,w<bs.length→W'.getD w 0=W.getD w 0-((((T.take i).map (bh bs)).count (w:Int):Nat):Int))∧ρ=[.bo (intsD bs),.bo (.int (b:Int)),.pu (intsD hs),.ol (W'.map D.int),.pu (intsD L),.ol ((List.range j).map fun i=>intsD (turn bs hs b (lf bs hs b (rangeI bs.length) i))),.pu (intsD (ready bs L)),.pu (intsD T),v8]) ⟨W,_,hW,fun w _=>by simp,rfl⟩ ?_ ?_)
          · rintro i d ρ hd ⟨W',v8',hW',hc',rfl⟩
            rw [List.getElem?_map] at hd
            cases er:T[i]? with
            | none=>rw [er] at hd; cases hd
            | some w =>
              rw [er] at hd
              cases hd
              have hr:=hT w (List.mem_of_getElem? er)
              have htk:(T.take (i+1)).map (bh bs)=(T.take i).map (bh bs)++[bs.getD w.toNat 0]:=by rw [List.take_succ,er,List.map_append]; rfl
              refine ⟨_,rfl,?_⟩
              dsimp only [gN,slm,List.set_cons_succ,List.set_cons_zero]
              refine wp_ifp (ev_t (ev_neF (ev_ix rfl rfl (ixI (ns:=bs) hr.1 (by omega))) (ev_neg rfl))) (fun c=>?_) fun c=>wp_pass ⟨W',_,hW',fun k hk=>?_,rfl⟩
              · have hv:0≤bs.getD w.toNat 0∧bs.getD w.toNat 0<(bs.length:Int):=by
                  rcases hb.2 w.toNat (by omega) with z | ⟨x,y,z1,z2,_,z3⟩
                  · exact absurd z c
                  · have:=hp.all _ (mem_getD (p:=p) (k:=x) (by omega))
                    omega
                have hv':(bs.getD w.toNat 0).toNat<W'.length:=by omega
                refine wp_augP (ds:=W'.map D.int) (n:=bs.getD w.toNat 0) (j:=(bs.getD w.toNat 0).toNat) (x:=W'.getD (bs.getD w.toNat 0).toNat 0) (y:=1) rfl (ev_ix rfl rfl (ixI (ns:=bs) hr.1 (by omega))) (ixN_in hv.1 (by rw [List.length_map]; omega)) (get_mapI hv') rfl ?_
                dsimp only [List.set_cons_succ,List.set_cons_zero]
                rw [set_mapI]
                refine ⟨_,_,by rw [List.length_set]; exact hW',fun k hk=>?_,rfl⟩
                rw [getD_setI hv',htk,List.count_append,List.count_singleton]
                have h0:=hc' k hk
                by_cases e:k=(bs.getD w.toNat 0).toNat
                · rw [if_pos e,← e,h0]
                  have:(bs.getD w.toNat 0==(k:Int))=true:=by rw [beq_iff_eq]; omega
                  rw [this,if_pos rfl]
                  omega
                · rw [if_neg e,h0]
                  have:(bs.getD w.toNat 0==(k:Int))=false:=by rw [beq_eq_false_iff_ne]; omega
                  rw [this,if_neg Bool.false_ne_true]
                  omega
              · have c:bs.getD w.toNat 0=-1:=Classical.not_not.mp c
                rw [htk,List.count_append,List.count_singleton,c,hc' k hk]
                have:((-1:Int)==(k:Int))=false:=by rw [beq_eq_false_iff_ne]; omega
                rw [this,if_neg Bool.false_ne_true]
                omega
          · rintro ρ ⟨W',v8',hW',hc',rfl⟩
            rw [List.length_map,List.take_length] at hc'
            refine wp_seq (wp_set (d:=intsD L') (ev_lst ?_) ?_)
            · rw [ev_compA D.int (ev_asL (d:=intsD L) rfl rfl) (fun w=>decide (w∉T)) D.int fun w hw=>⟨_,rfl,?_,fun _=>rfl⟩,enx]
              rw [ev_t (ev_inI (neg:=true) (ns:=T) rfl rfl),if_pos rfl]
              exact not_in
            walk_at "st"
            refine wp_app (ds:=(List.range j).map fun i=>intsD (turn bs hs b (lf bs hs b (rangeI bs.length) i))) (d:=intsD T) rfl rfl (by rw [List.length_map,List.length_range]; omega) ?_
            dsimp only [List.set_cons_succ,List.set_cons_zero]
            refine ⟨L'.length,by omega,j+1,W',.pu (intsD (ready bs L)),.pu (intsD T),v8',by rw [hN],by omega,fun i hi=>?_,hW',fun w hw=>?_,?_⟩
            · by_cases q:i=j
              · rw [q,hL]; exact hne
              · exact hpre i (by omega)
            · rw [hN,hc' w hw,hc w hw,(hsp.map (bh bs)).count_eq,List.map_append,List.count_append]
              omega
            · rw [ers,hN])
  exact ⟨k,hk,hkk,e⟩
def dupZ (h b:Int):Int:=if h % b≠0 then h / b+1 else h / b
theorem divided_up (h b:Int) (h0:0<b) (h1:b<2 ^ 64):F_divided_up [.int h,.int b]=some (.int (dupZ h b)):=by
  refine run_eqF F_divided_up_def ?_
  rw [st_divided_up]
  unfold B_divided_up
  walk_at "go"
  refine wp_if (by walk_at "ev") (fun c=>?_) (fun c=>?_)
  · refine wp_ret (by walk_at "ev") ?_
    unfold dupZ
    rw [if_pos (by simpa using c)]
  · walk_at "go"
    refine wp_ret (by walk_at "ev") ?_
    unfold dupZ
    rw [if_neg (by simpa using c)]
def high (hs:List Int) (l:Int):List Int:=hs.filter fun h=>decide (l≤h)
def shownZ (hs:List Int) (b l:Int):Int:=if l<1∨(high hs l).length=0 then 0 else dupZ (high hs l).length b+l-1
theorem shown_by_level (hs:List Int) (b l:Int) (h0:0<b) (h1:b<2 ^ 64):F_shown_by_level [.lst (hs.map D.int),.int b,.int l]=some (.int (shownZ hs b l)):=by
  refine run_eqF F_shown_by_level_def ?_
  rw [st_shown_by_level]
  unfold B_shown_by_level
  walk_at "go"
  refine wp_set (ev_f1 (ev_lst (ev_compI (xs:=hs) (by walk_at "ev") (fun h=>decide (l≤h)) D.int ?_)) rfl) ?_
  · intro x hx
    exact ⟨_,rfl,by walk_at "ev", fun _=>by walk_at "ev"⟩
  walk_at "go"
  rw [List.length_map]
  have eh:((hs.filter fun h=>decide (l≤h)).length:Int)=((high hs l).length:Int):=rfl
  rw [eh]
  have e0:decide (((high hs l).length:Int)=0)=decide ((high hs l).length=0):=by rw [Bool.eq_iff_iff]; simp
  refine wp_if (by walk_at "ev") (fun c=>?_) (fun c=>?_)
  · refine wp_ret (by walk_at "ev") ?_
    unfold shownZ
    rw [if_pos (by rw [e0] at c; simpa using c)]
  · walk_at "go"
    refine wp_ret (ev_sub (ev_add (ev_call (by walk_at "ev") (divided_up _ _ h0 h1)) (by walk_at "ev")) (by walk_at "ev")) ?_
    unfold shownZ
    rw [if_neg (by rw [e0] at c; simpa using c)]
def hi (lv:Int→Int) (h:Int) (L:List Int):List Int:=L.filter fun w=>decide (h≤lv w)
theorem hi_mem {lv:Int→Int} {h w:Int} {L:List Int}:w∈hi lv h L↔w∈L∧h≤lv w:=by
  unfold hi; rw [List.mem_filter,decide_eq_true_iff]
structure Tn0 (f:Int→Int) (b:Nat) (L T L2:List Int):Prop where
  nd:L.Nodup
  ndT:T.Nodup
  nd2:L2.Nodup
  rd:∀ w∈T,w∈L∧w∉L.map f
  few:T.length≤b
  m2:∀ w,w∈L2↔w∈L∧w∉T
structure Tn (f lv:Int→Int) (b:Nat) (L T L2:List Int):Prop extends Tn0 f b L T L2 where
  top:∀ w∈L,w∉L.map f→w∉T→T.length=b∧∀ v∈T,lv w≤lv v
def Cl (f lv:Int→Int) (L:List Int):Prop:=∀ w∈L,(f w∉L∧lv w=1)∨(f w∈L∧lv w=lv (f w)+1)
theorem Tn0.cl {f lv:Int→Int} {b:Nat} {L T L2:List Int} (h:Tn0 f b L T L2) (c:Cl f lv L):Cl f lv L2:=fun w hw=>by
  obtain ⟨h1,h2⟩:=(h.m2 w).mp hw
  rcases c w h1 with ⟨a,e⟩ | ⟨a,e⟩
  · exact .inl ⟨fun z=>a ((h.m2 _).mp z).1,e⟩
  · exact .inr ⟨(h.m2 _).mpr ⟨a,fun z=>(h.rd _ z).2 (List.mem_map.mpr ⟨w,h1,rfl⟩)⟩,e⟩
theorem Tn0.up {f lv:Int→Int} {b:Nat} {L T L2:List Int} (h:Tn0 f b L T L2) (c:Cl f lv L) {w:Int} (hw:w∈T):lv w=1∨(f w∈L2∧lv w=lv (f w)+1):=by
  rcases c w (h.rd w hw).1 with ⟨a,e⟩ | ⟨a,e⟩
  · exact .inl e
  · exact .inr ⟨(h.m2 _).mpr ⟨a,fun z=>(h.rd _ z).2 (List.mem_map.mpr ⟨w,(h.rd w hw).1,rfl⟩)⟩,e⟩
theorem Tn0.split {f lv:Int→Int} {b:Nat} {L T L2:List Int} (h:Tn0 f b L T L2) (x:Int):(hi lv x L).length=(hi lv x T).length+(hi lv x L2).length:=by
  have p:L.Perm (T++L2):=by
    refine (List.perm_ext_iff_of_nodup h.nd ?_).mpr fun w=>?_
    · exact List.nodup_append.mpr ⟨h.ndT,h.nd2,fun a ha b hb e=>((h.m2 b).mp hb).2 (e ▸ ha)⟩
    · rw [List.mem_append,h.m2]
      constructor
      · intro z
        by_cases q:w∈T
        · exact .inl q
        · exact .inr ⟨z,q⟩
      · rintro (z | z)
        · exact (h.rd w z).1
        · exact z.1
  have:=(p.filter fun w=>decide (x≤lv w)).length_eq
  rw [List.filter_append,List.length_append] at this
  exact this
theorem hi_le (lv:Int→Int) (x:Int) (T:List Int):(hi lv x T).length≤T.length:=List.length_filter_le _ _
theorem hi_all {lv:Int→Int} {x:Int} {T:List Int} (h:∀ v∈T,x≤lv v):(hi lv x T).length=T.length:=by
  unfold hi
  rw [List.filter_eq_self.mpr fun w hw=>decide_eq_true (h w hw)]
def rdy (f:Int→Int) (L:List Int):List Int:=L.filter fun w=>decide (w∉L.map f)
theorem rdy_mem {f:Int→Int} {L:List Int} {w:Int}:w∈rdy f L↔w∈L∧w∉L.map f:=by
  unfold rdy; rw [List.mem_filter,decide_eq_true_iff]
theorem Tn.less {f lv:Int→Int} {b:Nat} {L T L2:List Int} (h:Tn f lv b L T L2) {x:Int} (hx:(hi lv x T).length<b) {w:Int} (h1:w∈L) (h2:w∉L.map f) (h3:x≤lv w):w∈T :=
  Classical.byContradiction fun z=>by
    obtain ⟨e,hv⟩:=h.top w h1 h2 z
    have:=hi_all (lv:=lv) (x:=x) (T:=T) fun v q=>by have:=hv v q; omega
    omega
theorem Tn.next {f lv:Int→Int} {b:Nat} {L T L2:List Int} (h:Tn f lv b L T L2) (c:Cl f lv L) {x:Int} (hx:(hi lv x T).length<b):(hi lv x (rdy f L2)).length≤(hi lv x T).length:=by
  have hn:(hi lv x (rdy f L2)).Nodup:=(h.nd2.filter _).filter _
  have:=nd_len (m:=(hi lv x T).map f) hn fun w hw=>by
    obtain ⟨h1,h2⟩:=hi_mem.mp hw
    obtain ⟨h3,h4⟩:=rdy_mem.mp h1
    obtain ⟨h5,h6⟩:=(h.m2 w).mp h3
    by_cases q:w∈L.map f
    · obtain ⟨v,hv,e⟩:=List.mem_map.mp q
      have hvT:v∈T:=Classical.byContradiction fun z=>h4 (List.mem_map.mpr ⟨v,(h.m2 v).mpr ⟨hv,z⟩,e⟩)
      refine List.mem_map.mpr ⟨v,hi_mem.mpr ⟨hvT,?_⟩,e⟩
      rcases c v hv with ⟨a,_⟩ | ⟨_,e2⟩
      · exact absurd (e ▸ h5) a
      · rw [e] at e2; omega
    · exact absurd (h.less hx h5 q h2) h6
  rw [List.length_map] at this
  exact this
theorem Tn.rdy_le {f lv:Int→Int} {b:Nat} {L T L2:List Int} (h:Tn f lv b L T L2) (x:Int):(hi lv x T).length≤(hi lv x (rdy f L)).length :=
  nd_len (h.ndT.filter _) fun w hw=>by
    obtain ⟨h1,h2⟩:=hi_mem.mp hw
    exact hi_mem.mpr ⟨rdy_mem.mpr (h.rd w h1),h2⟩
inductive Runs (f lv:Int→Int) (b:Nat):List Int→Nat→Prop
  | nil:Runs f lv b [] 0
  | cons {L T L2:List Int} {t:Nat}:Tn f lv b L T L2→L≠[]→Runs f lv b L2 t→Runs f lv b L (t+1)
inductive Runs0 (f:Int→Int) (b:Nat):List Int→Nat→Prop
  | nil:Runs0 f b [] 0
  | cons {L T L2:List Int} {t:Nat}:Tn0 f b L T L2→L≠[]→Runs0 f b L2 t→Runs0 f b L (t+1)
theorem Runs.zero {f lv:Int→Int} {b:Nat} {L:List Int} {t:Nat} (r:Runs f lv b L t):Runs0 f b L t:=by
  induction r with
  | nil=>exact .nil
  | cons h ne _ ih=>exact .cons h.toTn0 ne ih
theorem Runs0.most {f lv:Int→Int} {b:Nat} {L:List Int} {t:Nat} (r:Runs0 f b L t) (hb:1≤b):Cl f lv L→∀ h:Int,1≤h→hi lv h L≠[]→h≤t∧((hi lv h L).length:Int)≤b*(t-h+1):=by
  induction r with
  | nil=>intro _ h _ z; exact absurd rfl z
  | @cons L T L2 t tn ne r ih =>
    intro c h h1 hne
    have ih:=ih (tn.cl c)
    have sp:=tn.split (lv:=lv) h
    have hT:=hi_le lv h T
    have few:=tn.few
    by_cases q:hi lv h L2=[]
    · rw [q,List.length_nil] at sp
      have ht:h≤t+1:=by
        by_cases e:h=1
        · omega
        · obtain ⟨w,hw⟩:=List.exists_mem_of_ne_nil _ hne
          obtain ⟨w1,w2⟩:=hi_mem.mp hw
          have wT:w∈T:=Classical.byContradiction fun z=>by
            have:w∈hi lv h L2:=hi_mem.mpr ⟨(tn.m2 w).mpr ⟨w1,z⟩,w2⟩
            rw [q] at this; cases this
          rcases tn.up c wT with a | ⟨a,e2⟩
          · omega
          · have:=(ih (h-1) (by omega) (List.ne_nil_of_mem (hi_mem.mpr ⟨a,by omega⟩))).1
            omega
      refine ⟨by omega,?_⟩
      have h3:(b:Int)*1≤b*(((t+1:Nat):Int)-h+1):=Int.mul_le_mul_of_nonneg_left (by omega) (by omega)
      omega
    · obtain ⟨i1,i2⟩:=ih h h1 q
      refine ⟨by omega,?_⟩
      have e:(b:Int)*(((t+1:Nat):Int)-h+1)=b*(t-h+1)+b:=by
        rw [show (((t+1:Nat):Int)-h+1)=(t-h+1)+1 by omega,Int.mul_add,Int.mul_one]
      omega
theorem Runs.some {f lv:Int→Int} {b:Nat} {L:List Int} {t:Nat} (r:Runs f lv b L t) (hb:1≤b):Cl f lv L→L≠[]→1≤t∧(((∃ w∈L,lv w=t)∧∀ w∈L,lv w≤t)∨∃ h:Int,1≤h∧h<t∧(b:Nat)≤(hi lv h (rdy f L)).length∧(b:Int)*(t-h)<((hi lv h L).length:Int)):=by
  induction r with
  | nil=>intro _ z; exact absurd rfl z
  | @cons L T L2 t tn ne r ih =>
    intro c _
    have ih:=ih (tn.cl c)
    refine ⟨by omega,?_⟩
    by_cases q:L2=[]
    · have ht:t=0:=by
        cases r with
        | nil=>rfl
        | cons _ ne2 _=>exact absurd q ne2
      left
      have al:∀ w∈L,lv w=1:=fun w hw=>by
        have wT:w∈T:=Classical.byContradiction fun z=>by
          have:w∈L2:=(tn.m2 w).mpr ⟨hw,z⟩
          rw [q] at this; cases this
        rcases tn.up c wT with a | ⟨a,_⟩
        · exact a
        · rw [q] at a; cases a
      obtain ⟨w,hw⟩:=List.exists_mem_of_ne_nil _ ne
      exact ⟨⟨w,hw,by rw [al w hw,ht]; rfl⟩,fun v hv=>by rw [al v hv,ht]; decide⟩
    · obtain ⟨t1,hh⟩:=ih q
      have e:∀ h:Int,(b:Int)*(((t+1:Nat):Int)-h)=b*(t-h)+b:=fun h=>by
        rw [show (((t+1:Nat):Int)-h)=(t-h)+1 by omega,Int.mul_add,Int.mul_one]
      rcases hh with ⟨⟨w,hw,ew⟩,mx⟩ | ⟨h,h1,h2,h3,h4⟩
      · obtain ⟨w1,w2⟩:=(tn.m2 w).mp hw
        by_cases al:∀ v∈L,lv v≤t
        · right
          have nr:w∉L.map f:=fun z=>by
            obtain ⟨v,hv,ev⟩:=List.mem_map.mp z
            rcases c v hv with ⟨a,_⟩ | ⟨_,e2⟩
            · exact a (ev ▸ w1)
            · have:=al v hv
              rw [ev] at e2
              omega
          obtain ⟨f1,f2⟩:=tn.top w w1 nr w2
          have hT:=hi_all (lv:=lv) (x:=(t:Int)) (T:=T) fun v hv=>by have:=f2 v hv; omega
          have sp:=tn.split (lv:=lv) (t:Int)
          have r1:=tn.rdy_le (t:Int)
          have pos:0<(hi lv (t:Int) L2).length:=List.length_pos_of_mem (hi_mem.mpr ⟨hw,by omega⟩)
          refine ⟨(t:Int),by omega,by omega,by omega,?_⟩
          rw [e,Int.sub_self,Int.mul_zero]
          omega
        · left
          have le1:∀ v∈L,lv v≤t+1:=fun v hv=>by
            by_cases z:v∈T
            · rcases tn.up c z with a | ⟨a,e2⟩
              · omega
              · have:=mx _ a
                omega
            · have:=mx v ((tn.m2 v).mpr ⟨hv,z⟩)
              omega
          obtain ⟨v,hv,gv⟩:∃ v,v∈L∧(t:Int)<lv v:=Classical.byContradiction fun z=>al fun v hv=>Classical.byContradiction fun y=>z ⟨v,hv,by omega⟩
          have:=le1 v hv
          exact ⟨⟨v,hv,by omega⟩,fun w hw=>by have:=le1 w hw; omega⟩
      · right
        have full:(hi lv h T).length=b:=by
          have hT:=hi_le lv h T
          have few:=tn.few
          by_cases z:(hi lv h T).length<b
          · have:=tn.next c z
            omega
          · omega
        have sp:=tn.split (lv:=lv) h
        have r1:=tn.rdy_le h
        refine ⟨h,h1,by omega,by omega,?_⟩
        rw [e]
        omega
def lvw (hs:List Int) (w:Int):Int:=hs.getD w.toNat 0
theorem turn_len {bs hs left:List Int} {b:Nat}:(turn bs hs b left).length≤b:=by
  unfold turn; rw [(srtI_perm _).length_eq,List.length_take]; omega
theorem ord_up (bs hs left:List Int):(ord bs hs left).Pairwise fun v w=>lvw hs w≤lvw hs v:=by
  unfold ord
  rw [List.pairwise_map]
  refine List.Pairwise.imp_of_mem (fun {x y} hx hy z=>?_) (srtZ_up ((ready bs left).map (key hs)))
  obtain ⟨v,_,rfl⟩:=List.mem_map.mp ((srtZ_perm _).mem_iff.mp hx)
  obtain ⟨w,_,rfl⟩:=List.mem_map.mp ((srtZ_perm _).mem_iff.mp hy)
  show lvw hs w≤lvw hs v
  have z:L2.lexLt [-(lvw hs w),w] [-(lvw hs v),v]=false:=z
  unfold L2.lexLt at z
  split at z
  · omega
  · have:=of_decide_eq_false z; omega
theorem turn_tn {bs hs left:List Int} {b:Nat} (h:left.Nodup):Tn (bh bs) (lvw hs) b left (turn bs hs b left) (left.filter fun w=>decide (w∉turn bs hs b left)) where
  nd:=h
  ndT:=turn_nd h
  nd2:=h.filter _
  rd w hw:=by have:=List.mem_filter.mp (turn_mem hw); exact ⟨this.1,of_decide_eq_true this.2⟩
  few:=turn_len
  top w h1 h2 h3:=by
    have hr:w∈ready bs left:=List.mem_filter.mpr ⟨h1,decide_eq_true h2⟩
    have ho:=(ord_perm bs hs left).mem_iff.mpr hr
    have hn:w∉(ord bs hs left).take b:=fun z=>h3 ((srtI_perm _).mem_iff.mpr z)
    have hd:w∈(ord bs hs left).drop b:=by
      rw [← List.take_append_drop b (ord bs hs left)] at ho
      exact (List.mem_append.mp ho).resolve_left hn
    have hlen:b<(ord bs hs left).length:=by have:=List.length_pos_of_mem hd; rw [List.length_drop] at this; omega
    refine ⟨?_,fun v hv=>?_⟩
    · unfold turn; rw [(srtI_perm _).length_eq,List.length_take]; omega
    · have up:=ord_up bs hs left
      rw [← List.take_append_drop b (ord bs hs left)] at up
      exact (List.pairwise_append.mp up).2.2 v ((srtI_perm _).mem_iff.mp hv) w hd
  m2 w:=by rw [List.mem_filter,decide_eq_true_iff]
theorem runs_lf {bs hs l0:List Int} {b n k:Nat} (ok:LfOk n l0) (hk:lf bs hs b l0 k=[]) (hkk:∀ i,i<k→lf bs hs b l0 i≠[]):∀ t i,i+t=k→Runs (bh bs) (lvw hs) b (lf bs hs b l0 i) t
  | 0, i, e => by have:i=k:=by omega
                  rw [this,hk]; exact .nil
  | t+1,i,e=>.cons (turn_tn (lf_ok ok i).nd) (hkk i (by omega)) (runs_lf ok hk hkk t (i+1) (by omega))
theorem rangeI_mem {n:Nat} {v:Int}:v∈rangeI n↔0≤v∧v<(n:Int):=by
  constructor
  · exact (rangeI_ok n).rg v
  · intro h
    exact List.mem_map.mpr ⟨v.toNat,List.mem_range.mpr (by omega),by omega⟩
theorem lvw_levs {bs:List Int} {w:Int} (h0:0≤w) (h1:w<bs.length):lvw (levs bs) w=lev bs bs.length w:=by
  unfold lvw levs
  rw [List.getD_eq_getElem?_getD,List.getElem?_map,List.getElem?_range (by omega)]
  show lev bs bs.length ((w.toNat:Nat):Int)=_
  rw [show ((w.toNat:Nat):Int)=w by omega]
theorem cl_all {p bs:List Int} (hp:Names p p.length) (hb:Par p bs):Cl (bh bs) (lvw (levs bs)) (rangeI bs.length):=fun w hw=>by
  have hbl:=hb.1
  have hr:=rangeI_mem.mp hw
  obtain ⟨k,hk,ek⟩:=place hp hr.1 (by omega)
  obtain ⟨m,em⟩:∃ m,p.length=m+1:=⟨p.length-1,by omega⟩
  have ul:lev bs (m+1) w=if bs.getD w.toNat 0=-1 then 1 else lev bs m (bs.getD w.toNat 0)+1:=rfl
  have e0:lvw (levs bs) w=lev bs (m+1) w:=by rw [lvw_levs hr.1 hr.2,hbl,em]
  rw [e0,ul]
  rcases lev_step hp hb hk with e | ⟨j,hj,e⟩
  · rw [ek] at e
    exact .inl ⟨fun z=>by have:=(rangeI_mem.mp z).1; unfold bh at this; omega,if_pos e⟩
  · rw [ek] at e
    have ha:=hp.all _ (mem_getD (p:=p) (k:=j) (by omega))
    rw [if_neg (by omega)]
    refine .inr ⟨rangeI_mem.mpr (by unfold bh; omega),?_⟩
    show lev bs m (bs.getD w.toNat 0)+1=lvw (levs bs) (bs.getD w.toNat 0)+1
    rw [lvw_levs (by omega) (by omega),hbl,em,e]
    obtain ⟨m2,rfl⟩:∃ m2,m=m2+1:=⟨m-1,by omega⟩
    rw [(lev_more hp hb j (by omega) m2 (by omega)).1,(lev_more hp hb j (by omega) (m2+1) (by omega)).1]
theorem lvw_rg {p bs:List Int} (hp:Names p p.length) (hb:Par p bs) {w:Int} (hw:w∈rangeI bs.length):1≤lvw (levs bs) w∧lvw (levs bs) w≤bs.length:=by
  have hbl:=hb.1
  have hr:=rangeI_mem.mp hw
  obtain ⟨k,hk,ek⟩:=place hp hr.1 (by omega)
  obtain ⟨m,em⟩:∃ m,p.length=m+1:=⟨p.length-1,by omega⟩
  have:=lev_more hp hb k hk m (by omega)
  rw [ek] at this
  rw [lvw_levs hr.1 hr.2,hbl,em]
  omega
theorem hi_high {hs:List Int} (x:Int):(hi (lvw hs) x (rangeI hs.length)).length=(high hs x).length:=by
  have e:hs=(rangeI hs.length).map (lvw hs):=by
    unfold rangeI
    rw [List.map_map]
    refine List.ext_getElem (by simp) fun i h1 h2=>?_
    simp [lvw,h1]
  have:high hs x=(hi (lvw hs) x (rangeI hs.length)).map (lvw hs):=by
    unfold high
    conv=>lhs; rw [e]
    rw [List.filter_map]
    rfl
  rw [this,List.length_map]
theorem dup_bd {N b:Int} (hb:0<b):b*(dupZ N b-1)<N∧N≤b*dupZ N b:=by
  unfold dupZ
  have h1:=Int.emod_add_mul_ediv N b
  have h2:=Int.emod_nonneg N (show b≠0 by omega)
  have h3:=Int.emod_lt_of_pos N hb
  generalize N / b=q at *
  generalize N % b=r at *
  split
  · rw [Int.add_sub_cancel,Int.mul_add,Int.mul_one]; omega
  · rw [Int.mul_sub,Int.mul_one]; omega
theorem shown_le {p bs:List Int} (hp:Names p p.length) (hb:Par p bs) {b k:Nat} (h1:1≤b) (rn:Runs0 (bh bs) b (rangeI bs.length) k) (h:Int):shownZ (levs bs) b h≤k:=by
  have hsl:=levs_len bs
  have cl:=cl_all hp hb
  have hh:∀ x,(hi (lvw (levs bs)) x (rangeI bs.length)).length=(high (levs bs) x).length:=fun x=>by rw [← hi_high x,hsl]
  unfold shownZ
  split
  · omega
  · rename_i q
    have q1:hi (lvw (levs bs)) h (rangeI bs.length)≠[]:=fun z=>by
      have:=hh h
      rw [z,List.length_nil] at this
      omega
    obtain ⟨_,m2⟩:=rn.most h1 cl h (by omega) q1
    rw [hh] at m2
    have d:=dup_bd (N:=((high (levs bs) h).length:Int)) (b:=(b:Int)) (by omega)
    have:dupZ ((high (levs bs) h).length:Int) b-1<k-h+1:=Int.lt_of_mul_lt_mul_left (Int.lt_of_lt_of_le d.1 m2) (by omega)
    omega
theorem hu {p bs:List Int} (hp:Names p p.length) (hb:Par p bs) {b k:Nat} (h1:1≤b) (hk:lf bs (levs bs) b (rangeI bs.length) k=[]) (hkk:∀ i,i<k→lf bs (levs bs) b (rangeI bs.length) i≠[]):(∃ H:Nat,H≤bs.length∧shownZ (levs bs) b H=k)∧∀ h:Int,shownZ (levs bs) b h≤k:=by
  have hsl:=levs_len bs
  have rn:=runs_lf (rangeI_ok bs.length) hk hkk k 0 (by omega)
  have rn:Runs (bh bs) (lvw (levs bs)) b (rangeI bs.length) k:=rn
  have cl:=cl_all hp hb
  have lr:=fun w hw=>lvw_rg (w:=w) hp hb hw
  have hh:∀ x,(hi (lvw (levs bs)) x (rangeI bs.length)).length=(high (levs bs) x).length:=fun x=>by rw [← hi_high x,hsl]
  have most:∀ h:Int,shownZ (levs bs) b h≤k:=shown_le hp hb h1 rn.zero
  refine ⟨?_,most⟩
  by_cases hn:rangeI bs.length=[]
  · have k0:k=0:=by
      by_cases z:k=0
      · exact z
      · exact absurd hn (hkk 0 (by omega))
    exact ⟨0,by omega,by rw [k0]; unfold shownZ; rw [if_pos (by omega)]; rfl⟩
  · have key:∀ h:Int,1≤h→(b:Int)*(k-h)<((hi (lvw (levs bs)) h (rangeI bs.length)).length:Int)→hi (lvw (levs bs)) h (rangeI bs.length)≠[]→∃ H:Nat,H≤bs.length∧shownZ (levs bs) b H=k:=fun h g1 g2 g3=>by
      have hle:h≤bs.length:=by
        obtain ⟨w,hw⟩:=List.exists_mem_of_ne_nil _ g3
        obtain ⟨w1,w2⟩:=hi_mem.mp hw
        have:=(lr w w1).2
        omega
      refine ⟨h.toNat,by omega,?_⟩
      have eh:((h.toNat:Nat):Int)=h:=by omega
      rw [eh]
      have ms:=most h
      have pos:=List.length_pos_iff.mpr g3
      rw [hh] at g2 pos
      unfold shownZ at ms ⊢
      rw [if_neg (by omega)] at ms ⊢
      have d:=dup_bd (N:=((high (levs bs) h).length:Int)) (b:=(b:Int)) (by omega)
      have:(k:Int)-h<dupZ ((high (levs bs) h).length:Int) b:=Int.lt_of_mul_lt_mul_left (Int.lt_of_lt_of_le g2 d.2) (by omega)
      omega
    obtain ⟨t1,hs⟩:=rn.some h1 cl hn
    rcases hs with ⟨⟨w,hw,ew⟩,_⟩ | ⟨h,g1,g2,_,g4⟩
    · have m:=hi_mem.mpr ⟨hw,show (k:Int)≤lvw (levs bs) w by omega⟩
      have:=List.length_pos_of_mem m
      exact key k (by omega) (by rw [Int.sub_self,Int.mul_zero]; omega) (List.ne_nil_of_mem m)
    · refine key h g1 g4 fun z=>?_
      rw [z,List.length_nil] at g4
      have:(b:Int)*0≤b*(k-h):=Int.mul_le_mul_of_nonneg_left (by omega) (by omega)
      omega
theorem why {p bs:List Int} (hp:Names p p.length) (hb:Par p bs) (h40:bs.length≤40) {b k:Nat} (h1:1≤b) (h20:b≤20) {TD:List D} (e5:F_tree_turns [intsD bs,.int (b:Int)]=some (.lst TD)) (hl:TD.length=k) (hH:∃ H:Nat,H≤bs.length∧shownZ (levs bs) b H=k):∃ l:Nat,F_why_tree [intsD bs,.int (b:Int)]=some (.int (l:Int))∧l≤40∧(k:Int)≤shownZ (levs bs) b l∧∀ i:Nat,i<l→shownZ (levs bs) b i<k:=by
  obtain ⟨H,hH1,hH2⟩:=hH
  have elev:=levels hp hb (by omega)
  obtain ⟨d,e,l,rfl,r⟩:=run_ofF F_why_tree_def (ds:=[intsD bs,.int (b:Int)]) (P:=fun d=>∃ l:Nat,d=.int (l:Int)∧l≤40∧(k:Int)≤shownZ (levs bs) b l∧∀ i:Nat,i<l→shownZ (levs bs) b i<k) (by
    rw [st_why_tree]
    unfold B_why_tree
    refine wp_seq (wp_set (d:=.int (k:Int)) (ev_f1 (ev_call (ev_cons rfl (ev_cons rfl rfl)) e5) (by rw [← hl]; rfl)) ?_)
    walk_at "st"
    refine wp_seq (wp_set (ev_call (ev_cons rfl rfl) elev) ?_)
    walk_at "st"
    refine wp_seq (wp_set (d:=.int ((0:Nat):Int)) rfl ?_)
    walk_at "st"
    refine wp_seq (wp_while (fun m ρ=>∃ l:Nat,l+m=H∧(∀ i:Nat,i<l→shownZ (levs bs) b i<k)∧ρ=[.bo (intsD bs),.bo (.int (b:Int)),.pu (.int (k:Int)),.pu (intsD (levs bs)),.pu (.int (l:Int))]) H ⟨0,by omega,fun i hi=>absurd hi (by omega),rfl⟩ ?_)
    rintro m ρ ⟨l,hm,hlo,rfl⟩
    refine ⟨_,ev_t (ev_lt (ev_call (ev_cons rfl (ev_cons rfl (ev_cons rfl rfl))) (shown_by_level _ _ _ (by omega) (by omega))) rfl),fun c=>?_,fun c=>?_⟩
    · have c:=of_decide_eq_true c
      have hne:l≠H:=fun z=>by rw [z,hH2] at c; omega
      refine wp_aug (x:=(l:Int)) (y:=1) rfl rfl ?_
      walk_at "st"
      refine ⟨m-1,by omega,l+1,by omega,fun i hi=>?_,rfl⟩
      by_cases z:i=l
      · rw [z]; exact c
      · exact hlo i (by omega)
    · have c:=of_decide_eq_false c
      exact wp_ret rfl ⟨l,rfl,by omega,by omega,hlo⟩)
  exact ⟨l,e,r⟩
abbrev Mat:=List (List Bool)
def rowB (r:List Bool):List D:=r.map D.bl
def rowsB (M:Mat):List (List D):=M.map rowB
def rowsV (M:Mat):List D:=(rowsB M).map D.lst
def at2 (M:Mat) (a b:Nat):Bool:=(M.getD a []).getD b false
structure Sq (M:Mat) (n:Nat):Prop where
  len:M.length=n
  row:∀ r∈M,r.length=n
def putT (M:Mat) (a b:Nat):Mat:=M.set a ((M.getD a []).set b true)
def orRow (x y:List Bool):List Bool:=List.zipWith (fun p q=>p || q) x y
def stepW (c:Nat) (M:Mat) (a:Nat):Mat:=if at2 M a c=true then M.set a (orRow (M.getD a []) (M.getD c [])) else M
def innerW (n:Nat) (M:Mat) (c:Nat):Mat:=(List.range n).foldl (stepW c) M
def closeW (n:Nat) (M:Mat):Mat:=(List.range n).foldl (innerW n) M
def noneW (n:Nat):Mat:=List.replicate n (List.replicate n false)
def needW (n:Nat) (ps:List (Nat×Nat)):Mat:=ps.foldl (fun M p=>putT M p.1 p.2) (noneW n)
theorem Sq.mem {M:Mat} {n a:Nat} (h:Sq M n) (ha:a<n):M.getD a []∈M:=by
  rw [List.getD_eq_getElem?_getD,List.getElem?_eq_getElem (by rw [h.len]; exact ha)]
  exact List.getElem_mem _
theorem Sq.rl {M:Mat} {n a:Nat} (h:Sq M n) (ha:a<n):(M.getD a []).length=n:=h.row _ (h.mem ha)
theorem Sq.set {M:Mat} {n a:Nat} {r:List Bool} (h:Sq M n) (hr:r.length=n):Sq (M.set a r) n:=by
  refine ⟨by rw [List.length_set]; exact h.len,fun x hx=>?_⟩
  rcases List.mem_or_eq_of_mem_set hx with hx | rfl
  · exact h.row x hx
  · exact hr
theorem Sq.get {M:Mat} {n a:Nat} (h:Sq M n) (ha:a<n):M[a]?=some (M.getD a []):=by
  have:=h.len
  rw [List.getD_eq_getElem?_getD,List.getElem?_eq_getElem (by omega)]
  rfl
theorem or_len {x y:List Bool} {n:Nat} (hx:x.length=n) (hy:y.length=n):(orRow x y).length=n:=by
  unfold orRow; rw [List.length_zipWith,hx,hy,Nat.min_self]
theorem or_get {x y:List Bool} {n b:Nat} (hx:x.length=n) (hy:y.length=n):(orRow x y).getD b false=(x.getD b false || y.getD b false):=by
  unfold orRow
  rw [List.getD_eq_getElem?_getD,List.getElem?_zipWith,List.getD_eq_getElem?_getD,List.getD_eq_getElem?_getD]
  by_cases hb:b<n
  · rw [List.getElem?_eq_getElem (by omega),List.getElem?_eq_getElem (by omega)]
    rfl
  · rw [List.getElem?_eq_none (by omega),List.getElem?_eq_none (by omega)]
    rfl
theorem Sq.stepW {M:Mat} {n c a:Nat} (h:Sq M n) (hc:c<n) (ha:a<n):Sq (stepW c M a) n:=by
  unfold My.stepW
  split
  · exact h.set (or_len (h.rl ha) (h.rl hc))
  · exact h
theorem Sq.foldl {f:Mat→Nat→Mat} {n:Nat} (hf:∀ M a,a<n→Sq M n→Sq (f M a) n) {M:Mat} (h:Sq M n):∀ j,j≤n→Sq ((List.range j).foldl f M) n
  | 0,_=>h
  | j+1,hj=>by
    rw [List.range_succ,List.foldl_append]
    exact hf _ j (by omega) (Sq.foldl hf h j (by omega))
theorem Sq.inner {M:Mat} {n c:Nat} (h:Sq M n) (hc:c<n) {j:Nat} (hj:j≤n):Sq ((List.range j).foldl (My.stepW c) M) n:=Sq.foldl (fun M a ha h=>h.stepW hc ha) h j hj
theorem Sq.close {M:Mat} {n:Nat} (h:Sq M n) {j:Nat} (hj:j≤n):Sq ((List.range j).foldl (innerW n) M) n:=Sq.foldl (fun M a ha h=>h.inner ha (Nat.le_refl _)) h j hj
theorem fold_succ {α:Type} (f:α→Nat→α) (x:α) (j:Nat):(List.range (j+1)).foldl f x=f ((List.range j).foldl f x) j:=by rw [List.range_succ,List.foldl_append]; rfl
theorem Sq.none (n:Nat):Sq (noneW n) n:=⟨List.length_replicate ..,fun r hr=>by rw [List.eq_of_mem_replicate hr,List.length_replicate]⟩
theorem Sq.putT {M:Mat} {n a b:Nat} (h:Sq M n) (ha:a<n):Sq (My.putT M a b) n:=h.set (by rw [List.length_set]; exact h.rl ha)
theorem Sq.need {n:Nat} {ps:List (Nat×Nat)} (h:∀ p∈ps,p.1<n):Sq (needW n ps) n:=by
  unfold needW
  have key:∀ (ps:List (Nat×Nat)) (M:Mat),(∀ p∈ps,p.1<n)→Sq M n→Sq (ps.foldl (fun M p=>My.putT M p.1 p.2) M) n:=by
    intro ps
    induction ps with
    | nil=>exact fun M _ h=>h
    | cons p r ih=>exact fun M hp h=>ih _ (fun q hq=>hp q (List.mem_cons_of_mem _ hq)) (h.putT (hp p List.mem_cons_self))
  exact key ps _ h (Sq.none n)
theorem at_set {M:Mat} {n a:Nat} {r:List Bool} (h:Sq M n) (ha:a<n) (x y:Nat):at2 (M.set a r) x y=if x=a then r.getD y false else at2 M x y:=by
  unfold at2
  have:=h.len
  rw [List.getD_eq_getElem?_getD (l:=M.set a r),List.getElem?_set]
  by_cases c:a=x
  · subst c
    rw [if_pos rfl,if_pos (by omega),if_pos rfl]
    rfl
  · rw [if_neg c,if_neg (Ne.symm c),List.getD_eq_getElem?_getD (l:=M)]
theorem at_step {M:Mat} {n c a:Nat} (h:Sq M n) (hc:c<n) (ha:a<n) (x y:Nat):at2 (stepW c M a) x y=(at2 M x y || (decide (x=a)&&at2 M a c&&at2 M c y)):=by
  unfold My.stepW
  split
  · rename_i e
    rw [at_set h ha,e]
    split
    · rename_i q
      subst q
      rw [or_get (h.rl ha) (h.rl hc),decide_eq_true rfl]
      rfl
    · rename_i q
      rw [decide_eq_false q]; simp
  · rename_i e
    rw [Bool.not_eq_true] at e
    rw [e]; simp
theorem at_put {M:Mat} {n a b:Nat} (h:Sq M n) (ha:a<n) (hb:b<n) (x y:Nat):at2 (putT M a b) x y=(at2 M x y || (decide (x=a)&&decide (y=b))):=by
  unfold My.putT
  rw [at_set h ha]
  split
  · rename_i q
    subst q
    rw [List.getD_eq_getElem?_getD,List.getElem?_set,decide_eq_true rfl]
    by_cases c:b=y
    · subst c
      rw [if_pos rfl,if_pos (by rw [h.rl ha]; exact hb)]
      simp
    · rw [if_neg c,decide_eq_false (Ne.symm c),← List.getD_eq_getElem?_getD]
      simp
      rfl
  · rename_i q
    rw [decide_eq_false q]; simp
theorem at_none (n x y:Nat):at2 (noneW n) x y=false:=by
  unfold at2 noneW
  rw [List.getD_eq_getElem?_getD (l:=List.replicate n (List.replicate n false)),List.getElem?_replicate]
  split
  · show (List.replicate n false).getD y false=false
    rw [List.getD_eq_getElem?_getD,List.getElem?_replicate]
    split <;> rfl
  · rfl
def Up (rk:Nat→Nat) (M:Mat):Prop:=∀ a b,at2 M a b=true→rk a<rk b
theorem Up.step {rk:Nat→Nat} {M:Mat} {n c a:Nat} (h:Sq M n) (hc:c<n) (ha:a<n) (u:Up rk M):Up rk (stepW c M a):=fun x y e=>by
  rw [at_step h hc ha,Bool.or_eq_true] at e
  rcases e with e | e
  · exact u x y e
  · rw [Bool.and_eq_true,Bool.and_eq_true] at e
    have:=of_decide_eq_true e.1.1
    subst this
    exact Nat.lt_trans (u _ _ e.1.2) (u _ _ e.2)
theorem Up.inner {rk:Nat→Nat} {M:Mat} {n c:Nat} (h:Sq M n) (hc:c<n) (u:Up rk M):∀ j,j≤n→Up rk ((List.range j).foldl (stepW c) M)
  | 0,_=>u
  | j+1,hj=>by rw [fold_succ]; exact (Up.inner h hc u j (by omega)).step (h.inner hc (by omega)) hc (by omega)
theorem Up.close {rk:Nat→Nat} {M:Mat} {n:Nat} (h:Sq M n) (u:Up rk M):∀ j,j≤n→Up rk ((List.range j).foldl (innerW n) M)
  | 0,_=>u
  | j+1,hj=>by rw [fold_succ]; exact Up.inner (h.close (by omega)) (by omega) (Up.close h u j (by omega)) n (Nat.le_refl _)
theorem Up.need {rk:Nat→Nat} {n:Nat} {ps:List (Nat×Nat)} (hp:∀ p∈ps,p.1<n∧p.2<n∧rk p.1<rk p.2):Up rk (needW n ps):=by
  unfold needW
  have key:∀ (ps:List (Nat×Nat)) (M:Mat),(∀ p∈ps,p.1<n∧p.2<n∧rk p.1<rk p.2)→Sq M n→Up rk M→Up rk (ps.foldl (fun M p=>putT M p.1 p.2) M):=by
    intro ps
    induction ps with
    | nil=>exact fun M _ _ h=>h
    | cons p r ih =>
      intro M hp h u
      have q:=hp p List.mem_cons_self
      refine ih _ (fun q hq=>hp q (List.mem_cons_of_mem _ hq)) (h.putT q.1) fun x y e=>?_
      rw [at_put h q.1 q.2.1,Bool.or_eq_true] at e
      rcases e with e | e
      · exact u x y e
      · rw [Bool.and_eq_true] at e
        rw [of_decide_eq_true e.1,of_decide_eq_true e.2]
        exact q.2.2
  exact key ps _ hp (Sq.none n) fun a b e=>by rw [at_none] at e; cases e
theorem ixL {xs:List D} {a:Nat} {d:D} (h:xs[a]?=some d):ixD (.lst xs) (a:Int)=some d:=by
  have hl:=(List.getElem?_eq_some_iff.mp h).1
  show atI xs (a:Int)=some d
  unfold atI
  rw [ixN_in (by omega) (by omega)]
  simpa using h
theorem ixNn {n a:Nat} (h:a<n):ixN n (a:Int)=some a:=by rw [ixN_in (by omega) (by omega)]; simp
theorem rowsV_get {M:Mat} {n a:Nat} (h:Sq M n) (ha:a<n):(rowsV M)[a]?=some (.lst (rowB (M.getD a []))):=by
  unfold rowsV rowsB
  rw [List.getElem?_map,List.getElem?_map,h.get ha]
  rfl
theorem rowB_get {r:List Bool} {b:Nat} (hb:b<r.length):(rowB r)[b]?=some (.bl (r.getD b false)):=by
  unfold rowB
  rw [List.getElem?_map,List.getD_eq_getElem?_getD,List.getElem?_eq_getElem hb]
  rfl
theorem rowsB_set (M:Mat) (a:Nat) (r:List Bool):(rowsB M).set a (rowB r)=rowsB (M.set a r):=by unfold rowsB; rw [List.map_set]
theorem rowsV_set (M:Mat) (a:Nat) (r:List Bool):(rowsV M).set a (.lst (rowB r))=rowsV (M.set a r):=by unfold rowsV; rw [← rowsB_set,List.map_set]
theorem rowB_set (r:List Bool) (b:Nat):(rowB r).set b (.bl true)=rowB (r.set b true):=by unfold rowB; rw [List.map_set]
theorem upL0 (n:Nat):upL 0 n=(List.range n).map fun (i:Nat)=>.int (i:Int):=by
  unfold upL
  exact List.map_congr_left fun i _=>by rw [Int.zero_add]
theorem cell_ev {ρ:Rho} {a b c:DE} {M:Mat} {n x y:Nat} (h:Sq M n) (hx:x<n) (hy:y<n) (ha:a ρ=some (.lst (rowsV M))) (hb:b ρ=some (.int (x:Int))) (hc:c ρ=some (.int (y:Int))):dIx (dIx a b) c ρ=some (.bl (at2 M x y)) :=
  ev_ix (ev_ix ha hb (ixL (rowsV_get h hx))) hc (ixL (rowB_get (by rw [h.rl hx]; exact hy)))
theorem flat_bl (r:List Bool):flatL (rowB r)=true:=by
  unfold flatL rowB
  rw [List.all_map]
  exact List.all_eq_true.mpr fun _ _=>rfl
def natD (x:Nat):D:=.int (x:Int)
def natsD (xs:List Nat):D:=.lst (xs.map natD)
def posR (n:Nat) (r:List Bool):List Nat:=(List.range n).filter fun b=>r.getD b false
theorem rg_ev {ρ:Rho} {a:DE} {n:Nat} (hn:n≤1000) (h:a ρ=some (.int (n:Int))):dRg1 a ρ=some ((List.range n).map natD):=by
  have hline:sizeLine=16777216:=sizeLine_eq
  rw [ev_rg1 h ⟨by omega,by omega⟩,Int.toNat_natCast,upL0]
  rfl
def needsD (ps:List (Nat×Nat)):D:=.lst (ps.map fun p=>.lst [.int (p.1:Int),.int (p.2:Int)])
structure Ord (n:Nat) (ps:List (Nat×Nat)):Prop where
  big:n≤14
  len:ps.length≤1000
  up:∃ rk:Nat→Nat,∀ p∈ps,p.1<n∧p.2<n∧rk p.1<rk p.2
theorem Ord.lt {n:Nat} {ps:List (Nat×Nat)} (h:Ord n ps):∀ p∈ps,p.1<n∧p.2<n:=fun p hp=>let ⟨rk,h⟩:=h.up; ⟨(h p hp).1,(h p hp).2.1⟩
theorem rep_false:∀ n:Nat,(List.replicate n [D.bl false]).flatten=rowB (List.replicate n false)
  | 0=>rfl
  | n+1=>by rw [List.replicate_succ,List.flatten_cons,rep_false n,List.replicate_succ]; rfl
theorem false_rows {ρ:Rho} {k:Nat} {cs:List Nat} {a b:DE} {n:Nat} (hn:n≤1000) (ha:a ρ=some (.int (n:Int))) (hb:∀ x:Nat,b ((r0 k cs ρ).set 0 (.pu (natD x)))=some (.int (n:Int))):dCompM k cs (dRg1 a) (gN true 0) dTrue (dRep (dCons (dC (.bl false)) dNil) b) ρ=some (rowsB (noneW n)):=by
  have hline:sizeLine=16777216:=sizeLine_eq
  rw [ev_compM0 natD (rg_ev hn ha) (fun _=>rowB (List.replicate n false)) fun x _=>⟨(r0 k cs ρ).set 0 (.pu (natD x)),rfl,by
    rw [ev_rep (ds:=[.bl false]) (i:=(n:Int)) rfl (hb x) ⟨by omega,by omega,by simp only [List.length_cons,List.length_nil]; omega⟩,Int.toNat_natCast,rep_false]⟩]
  unfold rowsB noneW
  rw [List.map_const',List.map_replicate,List.length_range]
theorem either (x y:List Bool):F_either [.lst (rowB x),.lst (rowB y)]=some (.lst (rowB (orRow x y))):=by
  refine run_eqF F_either_def ?_
  rw [st_either]
  unfold B_either
  have e1:zpL (rowB x) (rowB y)=(x.zip y).map fun p=>.tup [.bl p.1,.bl p.2]:=by
    unfold zpL rowB
    rw [List.zipWith_map,List.map_zip_eq_zipWith]
    rfl
  refine wp_ret (ev_lst (ev_compA0 (fun p:Bool×Bool=>D.tup [.bl p.1,.bl p.2]) (by rw [ev_zipB (xs:=rowB x) (ys:=rowB y) rfl rfl (flat_bl x) (flat_bl y),e1]) (fun p=>D.bl (p.1 || p.2)) fun p _=>⟨_,rfl,ev_orV rfl fun _=>rfl⟩)) ?_
  show D.lst _=D.lst _
  congr 1
  unfold orRow rowB
  rw [List.map_zip_eq_zipWith,List.map_zipWith]
  rfl
theorem toldG {n:Nat} {ps:List (Nat×Nat)} (hb:n≤14) (lt:∀ p∈ps,p.1<n∧p.2<n):F_told_order [.int (n:Int),needsD ps]=some (.lst (rowsV (needW n ps))):=by
  refine run_eqG F_told_order_def ?_
  rw [st_told_order]
  unfold B_told_order
  refine wp_seq (wp_setM (false_rows (by omega) rfl fun _=>rfl) (by simp only [List.length_cons,List.length_nil]; omega) ?_)
  walk_at "st"
  refine wp_seq (wp_for (ds:=ps.map fun p=>.lst [.int (p.1:Int),.int (p.2:Int)]) rfl (fun j ρ=>∃ v3 v4,ρ=[.bo (.int (n:Int)),.bo (needsD ps),.om (rowsB (needW n (ps.take j))),v3,v4]) ⟨_,_,rfl⟩ ?_ ?_)
  · rintro j d ρ hd ⟨v3,v4,rfl⟩
    rw [List.getElem?_map] at hd
    have hj:j<ps.length:=by
      by_cases c:j<ps.length
      · exact c
      · rw [List.getElem?_eq_none (by omega)] at hd; cases hd
    rw [List.getElem?_eq_getElem hj] at hd
    cases hd
    have hp:=lt ps[j] (List.getElem_mem hj)
    have sq:Sq (needW n (ps.take j)) n:=Sq.need fun p hp=>(lt p (List.mem_of_mem_take hp)).1
    refine ⟨_,rfl,?_⟩
    dsimp only [gN,slm,List.set_cons_succ,List.set_cons_zero]
    refine wp_seq (wp_ifF (ev_not (x:=true) (ev_and (x:=true) (y:=true) (ev_t ?_) fun _=>ev_t ?_)) (wp_pass ?_))
    · rw [ev_chain (i:=0) (j:=(ps[j].1:Int)) (k:=(n:Int)) rfl rfl rfl]
      congr 2
      simp
      omega
    · rw [ev_chain (i:=0) (j:=(ps[j].2:Int)) (k:=(n:Int)) rfl rfl rfl]
      congr 2
      simp
      omega
    · have hlen:(rowsB (needW n (ps.take j))).length=n:=by unfold rowsB; rw [List.length_map]; exact sq.len
      refine wp_put2 (r:=ps[j].1) (j:=ps[j].2) (ds:=rowB ((needW n (ps.take j)).getD ps[j].1 [])) (n:=(ps[j].1:Int)) (m:=(ps[j].2:Int)) rfl rfl rfl (by rw [hlen]; exact ixNn hp.1) ?_ rfl ?_ ?_
      · unfold rowsB; rw [List.getElem?_map,sq.get hp.1]; rfl
      · unfold rowB; rw [List.length_map,sq.rl hp.1]; exact ixNn hp.2
      · refine ⟨.bo (.int (ps[j].1:Int)),.bo (.int (ps[j].2:Int)),?_⟩
        rw [rowB_set,rowsB_set]
        have:needW n (ps.take (j+1))=putT (needW n (ps.take j)) ps[j].1 ps[j].2:=by
          unfold needW
          rw [List.take_succ_eq_append_getElem hj,List.foldl_append]
          rfl
        rw [this]
        rfl
  · rintro ρ ⟨v3,v4,rfl⟩
    refine wp_frzR (wp_retX rfl ?_)
    rw [List.length_map,List.take_length]
    rfl
theorem told {n:Nat} {ps:List (Nat×Nat)} (h:Ord n ps):F_told_order [.int (n:Int),needsD ps]=some (.lst (rowsV (needW n ps))):=toldG h.big h.lt
def cloD (n:Nat) (ps:List (Nat×Nat)):Mat:=closeW n (needW n ps)
theorem Ord.sq {n:Nat} {ps:List (Nat×Nat)} (h:Ord n ps):Sq (needW n ps) n:=Sq.need fun p hp=>(h.lt p hp).1
theorem Ord.sqc {n:Nat} {ps:List (Nat×Nat)} (h:Ord n ps):Sq (cloD n ps) n:=h.sq.close (Nat.le_refl _)
theorem Ord.diag {n:Nat} {ps:List (Nat×Nat)} (h:Ord n ps) (x:Nat):at2 (cloD n ps) x x=false:=by
  obtain ⟨rk,hr⟩:=h.up
  have u:Up rk (cloD n ps):=Up.close h.sq (Up.need hr) n (Nat.le_refl _)
  cases e:at2 (cloD n ps) x x with
  | false=>rfl
  | true=>exact absurd (u x x e) (Nat.lt_irrefl _)
def aheadL (n:Nat) (ps:List (Nat×Nat)):List (List Nat):=(cloD n ps).map (posR n)
def listsD (xs:List (List Nat)):D:=.lst (xs.map natsD)
theorem row_ev {ρ:Rho} {k:Nat} {cs:List Nat} {a:DE} {b:DE} {n:Nat} {r:List Bool} (hn:n≤1000) (hr:r.length=n) (ha:a ρ=some (.int (n:Int))) (hb:∀ x:Nat,x<n→dIx b (dVar 0) ((r0 k cs ρ).set 0 (.pu (natD x)))=some (.bl (r.getD x false))) (hv:∀ x:Nat,dVarI 0 ((r0 k cs ρ).set 0 (.pu (natD x)))=some (natD x)) :
    dLst (dComp k cs (dRg1 a) (gN true 0) (dTru (dIx b (dVar 0))) (dVarI 0)) ρ=some (natsD (posR n r)):=by
  refine ev_lst ?_
  rw [ev_compA natD (rg_ev hn ha) (fun x=>r.getD x false) natD fun x hx=>⟨_,rfl,ev_tru (hb x (List.mem_range.mp hx)) rfl,fun _=>hv x⟩]
  rfl
theorem ahead {n:Nat} {ps:List (Nat×Nat)} (h:Ord n ps):F_ahead_of [.int (n:Int),needsD ps]=some (listsD (aheadL n ps)):=by
  have hb:=h.big
  refine run_eqF F_ahead_of_def ?_
  rw [st_ahead_of]
  unfold B_ahead_of
  refine wp_seq (wp_setO (ev_callF (ev_cons rfl (ev_cons rfl rfl)) (told h)) (by simp only [List.length_cons,List.length_nil]; omega) ?_)
  walk_at "st"
  refine wp_seq (wp_for (rg_ev (by omega) rfl) (fun j ρ=>∃ v3 v4,ρ=[.bo (.int (n:Int)),.bo (needsD ps),.ol (rowsV ((List.range j).foldl (innerW n) (needW n ps))),v3,v4]) ⟨_,_,rfl⟩ ?_ ?_)
  · rintro c d ρ hd ⟨v3,v4,rfl⟩
    rw [List.getElem?_map] at hd
    have hc:c<n:=by
      by_cases q:c<n
      · exact q
      · rw [List.getElem?_eq_none (by simp; omega)] at hd; cases hd
    rw [List.getElem?_range hc] at hd
    cases hd
    have sq:=h.sq.close (j:=c) (by omega)
    rw [fold_succ]
    generalize (List.range c).foldl (innerW n) (needW n ps)=M at sq ⊢
    refine ⟨_,rfl,?_⟩
    dsimp only [gN,slm,List.set_cons_succ,List.set_cons_zero]
    refine wp_for (rg_ev (by omega) rfl) (fun j ρ=>∃ v4,ρ=[.bo (.int (n:Int)),.bo (needsD ps),.ol (rowsV ((List.range j).foldl (stepW c) M)),.pu (natD c),v4]) ⟨_,rfl⟩ ?_ ?_
    · rintro a d ρ hd ⟨v4,rfl⟩
      rw [List.getElem?_map] at hd
      have ha:a<n:=by
        by_cases q:a<n
        · exact q
        · rw [List.getElem?_eq_none (by simp; omega)] at hd; cases hd
      rw [List.getElem?_range ha] at hd
      cases hd
      have sq':=sq.inner hc (j:=a) (by omega)
      rw [fold_succ]
      generalize (List.range a).foldl (stepW c) M=M' at sq' ⊢
      refine ⟨_,rfl,?_⟩
      dsimp only [gN,slm,List.set_cons_succ,List.set_cons_zero]
      refine wp_if (ev_tru (cell_ev sq' ha hc rfl rfl rfl) rfl) (fun e=>?_) fun e=>wp_pass ?_
      · refine wp_put (n:=(a:Int)) (j:=a) rfl (ev_call (ev_cons (ev_ix (e:=.lst (rowB (M'.getD a []))) rfl rfl (ixL (rowsV_get sq' ha))) (ev_cons (ev_ix (e:=.lst (rowB (M'.getD c []))) rfl rfl (ixL (rowsV_get sq' hc))) rfl)) (either _ _)) rfl ?_ ?_
        · have:(rowsV M').length=n:=by unfold rowsV rowsB; rw [List.length_map,List.length_map]; exact sq'.len
          rw [this]; exact ixNn ha
        · refine ⟨.pu (natD a),?_⟩
          rw [rowsV_set]
          unfold stepW
          rw [if_pos e]
          rfl
      · refine ⟨.pu (natD a),?_⟩
        unfold stepW
        rw [if_neg (by rw [e]; exact Bool.false_ne_true)]
    · rintro ρ ⟨v4,rfl⟩
      rw [List.length_map,List.length_range]
      exact ⟨_,_,rfl⟩
  · rintro ρ ⟨v3,v4,rfl⟩
    rw [List.length_map,List.length_range]
    have sq:=h.sqc
    have dg:=h.diag
    have ec:(List.range n).foldl (innerW n) (needW n ps)=cloD n ps:=rfl
    rw [ec]
    unfold aheadL
    generalize cloD n ps=M at sq dg ⊢
    refine wp_seq (wp_ifF (ev_tru (x:=false) (ev_f1 (e:=.bl false) (ev_lst (ev_compA0 natD (rg_ev (n:=n) (by omega) rfl) (fun _=>.bl false) fun x hx=>⟨_,rfl,?_⟩)) ?_) rfl) (wp_pass ?_))
    · have hx:=List.mem_range.mp hx
      refine ev_scal ?_ rfl
      rw [cell_ev sq hx hx rfl rfl rfl,dg]
    · have:((List.range n).map fun _=>D.bl false)=((List.range n).map fun _=>false).map D.bl:=by rw [List.map_map]; rfl
      rw [this]
      show (trus _).map _=_
      rw [trus_bl]
      show some (D.bl (((List.range n).map fun _=>false).any id))=_
      rw [List.any_map]
      congr 2
      rw [List.any_eq_false]
      intro x _
      exact Bool.false_ne_true
    · refine wp_ret (ev_lst (ev_compA0 (fun r=>D.lst (rowB r)) (ev_asL (d:=.lst (rowsV M)) rfl (by unfold rowsV rowsB; rw [List.map_map]; rfl)) (fun r=>natsD (posR n r)) fun r hr=>⟨_,rfl,?_⟩)) ?_
      · exact row_ev (r:=r) (by omega) (sq.row r hr) rfl (fun x hx=>ev_ix rfl rfl (ixL (rowB_get (by rw [sq.row r hr]; exact hx)))) fun x=>rfl
      · show D.lst _=D.lst _
        rw [List.map_map]
        rfl
theorem ev_inN {ρ:Rho} {a b:DE} {x:Nat} {xs:List Nat} (ha:a ρ=some (natD x)) (hb:b ρ=some (natsD xs)):dIn false a b ρ=some (.bl (decide (x∈xs))):=by
  have e:natsD xs=.lst ((xs.map fun (y:Nat)=>(y:Int)).map D.int):=by unfold natsD; rw [List.map_map]; rfl
  rw [e] at hb
  rw [ev_inI (i:=(x:Int)) ha hb,if_neg Bool.false_ne_true]
  congr 2
  rw [Bool.eq_iff_iff,decide_eq_true_iff,decide_eq_true_iff,List.mem_map]
  constructor
  · rintro ⟨y,hy,e⟩
    have:y=x:=by omega
    rw [← this]; exact hy
  · exact fun h=>⟨x,h,rfl⟩
theorem any_ev {bs:List Bool}:anyD (.lst (bs.map D.bl))=some (.bl (bs.any id)):=by
  show (trus _).map _=_
  rw [trus_bl]; rfl
theorem between {L:List (List Nat)} {row:List Nat} {b:Nat} (h:∀ c∈row,c<L.length):F_comes_between [listsD L,natsD row,natD b]=some (.bl (row.any fun c=>decide (b∈L.getD c []))):=by
  refine run_eqF F_comes_between_def ?_
  rw [st_comes_between]
  unfold B_comes_between
  refine wp_ret (ev_f1 (ev_lst (ev_compA0 natD (ev_asL (d:=natsD row) rfl rfl) (fun c=>.bl (decide (b∈L.getD c []))) fun c hc=>⟨_,rfl,ev_inN (x:=b) (xs:=L.getD c []) rfl (ev_ix (d:=listsD L) rfl rfl (ixL ?_))⟩)) (e:=.bl (row.any fun c=>decide (b∈L.getD c []))) ?_) rfl
  · rw [List.getElem?_map,List.getD_eq_getElem?_getD,List.getElem?_eq_getElem (h c hc)]; rfl
  · have:(row.map fun c=>D.bl (decide (b∈L.getD c [])))=(row.map fun c=>decide (b∈L.getD c [])).map D.bl:=by rw [List.map_map]; rfl
    rw [this,any_ev,List.any_map]
    rfl
def nearL (n:Nat) (M:Mat):List (List Nat):=M.map fun r=>(posR n r).filter fun b=>!((posR n r).any fun c=>at2 M c b)
theorem pos_lt {n:Nat} {r:List Bool} {b:Nat} (h:b∈posR n r):b<n:=List.mem_range.mp (List.mem_filter.mp h).1
theorem pos_mem {n:Nat} {r:List Bool} {b:Nat} (hb:b<n):decide (b∈posR n r)=r.getD b false:=by
  unfold posR
  rw [Bool.eq_iff_iff,decide_eq_true_iff,List.mem_filter,List.mem_range]
  exact ⟨fun h=>h.2,fun h=>⟨hb,h⟩⟩
theorem ahead_at {n:Nat} {M:Mat} (h:Sq M n) {c b:Nat} (hc:c<n) (hb:b<n):decide (b∈(M.map (posR n)).getD c [])=at2 M c b:=by
  have e:(M.map (posR n)).getD c []=posR n (M.getD c []):=by
    rw [List.getD_eq_getElem?_getD,List.getElem?_map,h.get hc]; rfl
  rw [e,pos_mem hb]
  rfl
theorem straight {n:Nat} {ps:List (Nat×Nat)} (h:Ord n ps):F_straight_ahead [.int (n:Int),needsD ps]=some (listsD (nearL n (cloD n ps))):=by
  have ea:=ahead h
  refine run_eqF F_straight_ahead_def ?_
  rw [st_straight_ahead]
  unfold B_straight_ahead
  walk_at "go"
  have sq:=h.sqc
  unfold aheadL
  generalize cloD n ps=M at sq ⊢
  have hlen:=sq.len
  refine wp_ret (ev_lst (ev_compA0 (fun r=>natsD (posR n r)) (ev_asL (d:=listsD (M.map (posR n))) rfl (by unfold listsD; rw [List.map_map]; rfl)) (fun r=>natsD ((posR n r).filter fun b=>!((posR n r).any fun c=>at2 M c b))) fun r hr=>⟨_,rfl,ev_lst ?_⟩)) ?_
  · rw [ev_compA natD (ev_asL (d:=natsD (posR n r)) rfl rfl) (fun b=>!((posR n r).any fun c=>at2 M c b)) natD fun b hb=>⟨_,rfl,ev_not (ev_tru (ev_call (ev_cons rfl (ev_cons rfl (ev_cons rfl rfl))) (between (L:=M.map (posR n)) (row:=posR n r) (b:=b) fun c hc=>by rw [List.length_map,hlen]; exact pos_lt hc)) ?_),fun _=>rfl⟩]
    show some _=some _
    congr 1
    rw [Bool.eq_iff_iff,List.any_eq_true,List.any_eq_true]
    constructor
    · rintro ⟨c,hc,e⟩
      rw [ahead_at sq (pos_lt hc) (pos_lt hb)] at e
      exact ⟨c,hc,e⟩
    · rintro ⟨c,hc,e⟩
      exact ⟨c,hc,by rw [ahead_at sq (pos_lt hc) (pos_lt hb)]; exact e⟩
  · show D.lst _=D.lst _
    unfold nearL
    rw [List.map_map]
    rfl
theorem needs_ins (ps:List (Nat×Nat)) (k:Nat) (p:Nat×Nat):(ps.map fun p=>D.lst [.int (p.1:Int),.int (p.2:Int)]).take k++D.lst [.int (p.1:Int),.int (p.2:Int)]::(ps.map fun p=>D.lst [.int (p.1:Int),.int (p.2:Int)]).drop k=(ps.take k++p::ps.drop k).map fun p=>D.lst [.int (p.1:Int),.int (p.2:Int)]:=by
  rw [List.map_append,List.map_cons,List.map_take,List.map_drop]
def Rl (R:Nat→Nat→Prop) (M:Mat):Prop:=∀ a b,at2 M a b=true→R a b
theorem Rl.step {R:Nat→Nat→Prop} (tr:∀ x y z,R x y→R y z→R x z) {M:Mat} {n c a:Nat} (h:Sq M n) (hc:c<n) (ha:a<n) (u:Rl R M):Rl R (stepW c M a):=fun x y e=>by
  rw [at_step h hc ha,Bool.or_eq_true] at e
  rcases e with e | e
  · exact u x y e
  · rw [Bool.and_eq_true,Bool.and_eq_true] at e
    have:=of_decide_eq_true e.1.1
    subst this
    exact tr _ _ _ (u _ _ e.1.2) (u _ _ e.2)
theorem Rl.inner {R:Nat→Nat→Prop} (tr:∀ x y z,R x y→R y z→R x z) {M:Mat} {n c:Nat} (h:Sq M n) (hc:c<n) (u:Rl R M):∀ j,j≤n→Rl R ((List.range j).foldl (stepW c) M)
  | 0,_=>u
  | j+1,hj=>by rw [fold_succ]; exact (Rl.inner tr h hc u j (by omega)).step tr (h.inner hc (by omega)) hc (by omega)
theorem Rl.close {R:Nat→Nat→Prop} (tr:∀ x y z,R x y→R y z→R x z) {M:Mat} {n:Nat} (h:Sq M n) (u:Rl R M):∀ j,j≤n→Rl R ((List.range j).foldl (innerW n) M)
  | 0,_=>u
  | j+1,hj=>by rw [fold_succ]; exact Rl.inner tr (h.close (by omega)) (by omega) (Rl.close tr h u j (by omega)) n (Nat.le_refl _)
theorem need_at {n:Nat} {ps:List (Nat×Nat)} (hp:∀ p∈ps,p.1<n∧p.2<n) (x y:Nat):at2 (needW n ps) x y=true↔(x,y)∈ps:=by
  have key:∀ (ps:List (Nat×Nat)) (M:Mat),(∀ p∈ps,p.1<n∧p.2<n)→Sq M n→(at2 (ps.foldl (fun M p=>putT M p.1 p.2) M) x y=true↔at2 M x y=true∨(x,y)∈ps):=by
    intro ps
    induction ps with
    | nil=>exact fun M _ _=>by simp
    | cons p r ih =>
      intro M hp h
      have q:=hp p List.mem_cons_self
      rw [List.foldl_cons,ih _ (fun q hq=>hp q (List.mem_cons_of_mem _ hq)) (h.putT q.1),at_put h q.1 q.2,Bool.or_eq_true,Bool.and_eq_true,decide_eq_true_iff,decide_eq_true_iff,List.mem_cons]
      have:(x,y)=p↔x=p.1∧y=p.2:=by cases p; simp
      rw [this,or_assoc]
  unfold needW
  rw [key ps _ hp (Sq.none n),at_none]
  simp
theorem inner_at {M:Mat} {n c:Nat} (h:Sq M n) (hc:c<n) (x y:Nat):∀ j,j≤n→at2 ((List.range j).foldl (stepW c) M) x y=(at2 M x y || (decide (x<j)&&at2 M x c&&at2 M c y))
  | 0,_=>by simp
  | j+1,hj=>by
    have sq:=h.inner hc (j:=j) (by omega)
    rw [fold_succ,at_step sq hc (by omega),inner_at h hc x y j (by omega),inner_at h hc j c j (by omega),inner_at h hc c y j (by omega)]
    by_cases e:x=j
    · subst e
      have e1:decide (x<x+1)=true:=decide_eq_true (Nat.lt_succ_self x)
      have e2:decide (x<x)=false:=decide_eq_false (Nat.lt_irrefl x)
      rw [e1,e2]
      cases at2 M x y <;> cases at2 M x c <;> cases at2 M c y <;> cases at2 M c c <;> cases decide (c<x) <;> simp
    · have e1:decide (x<j+1)=decide (x<j):=by
        by_cases q:x<j
        · rw [decide_eq_true q,decide_eq_true (by omega)]
        · rw [decide_eq_false q,decide_eq_false (by omega)]
      rw [e1,decide_eq_false e]
      simp
def Tr (M:Mat) (k:Nat):Prop:=∀ c,c<k→∀ x y,at2 M x c=true→at2 M c y=true→at2 M x y=true
theorem at_lt {M:Mat} {n x y:Nat} (h:Sq M n) (e:at2 M x y=true):x<n:=by
  by_cases q:x<n
  · exact q
  · have e0:M.getD x []=[]:=by rw [List.getD_eq_getElem?_getD,List.getElem?_eq_none (by have:=h.len; omega)]; rfl
    unfold at2 at e
    rw [e0] at e
    simp at e
theorem Tr.close {M:Mat} {n:Nat} (h:Sq M n):∀ j,j≤n→Tr ((List.range j).foldl (innerW n) M) j
  | 0,_=>fun c hc=>absurd hc (Nat.not_lt_zero c)
  | j+1,hj=>by
    have ih:=Tr.close h j (by omega)
    have sq:=h.close (j:=j) (by omega)
    rw [fold_succ]
    generalize (List.range j).foldl (innerW n) M=N at ih sq
    have e:∀ x y,at2 (innerW n N j) x y=true↔at2 N x y=true∨(at2 N x j=true∧at2 N j y=true):=fun x y=>by
      unfold innerW
      rw [inner_at sq (by omega) x y n (Nat.le_refl _),Bool.or_eq_true,Bool.and_eq_true,Bool.and_eq_true]
      constructor
      · rintro (q | ⟨⟨_,q1⟩,q2⟩)
        · exact .inl q
        · exact .inr ⟨q1,q2⟩
      · rintro (q | ⟨q1,q2⟩)
        · exact .inl q
        · exact .inr ⟨⟨decide_eq_true (at_lt sq q1),q1⟩,q2⟩
    intro c hc x y h1 h2
    rw [e] at h1 h2 ⊢
    by_cases q:c=j
    · subst q
      have a1:at2 N x c=true:=h1.elim id And.left
      have a2:at2 N c y=true:=h2.elim id And.right
      exact .inr ⟨a1,a2⟩
    · have hc':c<j:=by omega
      rcases h1 with h1 | ⟨h1,h1'⟩
      · rcases h2 with h2 | ⟨h2,h2'⟩
        · exact .inl (ih c hc' x y h1 h2)
        · exact .inr ⟨ih c hc' x j h1 h2,h2'⟩
      · rcases h2 with h2 | ⟨h2,h2'⟩
        · exact .inr ⟨h1,ih c hc' j y h1' h2⟩
        · exact .inr ⟨h1,h2'⟩
theorem keep_close {M:Mat} {n:Nat} (h:Sq M n) (x y:Nat) (e:at2 M x y=true):∀ j,j≤n→at2 ((List.range j).foldl (innerW n) M) x y=true
  | 0,_=>e
  | j+1,hj=>by
    rw [fold_succ]
    show at2 ((List.range n).foldl (stepW j) ((List.range j).foldl (innerW n) M)) x y=true
    rw [inner_at (h.close (by omega)) (by omega) x y n (Nat.le_refl _),keep_close h x y e j (by omega)]
    rfl
inductive Way (ps:List (Nat×Nat)):Nat→Nat→Prop
  | one {x y} (h:(x,y)∈ps):Way ps x y
  | go {x y z} (h:Way ps x y) (r:Way ps y z):Way ps x z
theorem clo_way {n:Nat} {ps:List (Nat×Nat)} (hp:∀ p∈ps,p.1<n∧p.2<n) {x y:Nat} (e:at2 (cloD n ps) x y=true):Way ps x y:=by
  have sq:Sq (needW n ps) n:=Sq.need fun p h=>(hp p h).1
  exact Rl.close (R:=Way ps) (fun _ _ _ a b=>Way.go a b) sq (fun a b e=>.one ((need_at hp a b).mp e)) n (Nat.le_refl _) x y e
theorem way_clo {n:Nat} {ps:List (Nat×Nat)} (hp:∀ p∈ps,p.1<n∧p.2<n) {x y:Nat} (w:Way ps x y):at2 (cloD n ps) x y=true:=by
  have sq:Sq (needW n ps) n:=Sq.need fun p h=>(hp p h).1
  have hl:∀ {x y:Nat},Way ps x y→y<n:=fun {x y} w=>by
    induction w with
    | one e=>exact (hp _ e).2
    | go _ _ _ i=>exact i
  induction w with
  | one e=>exact keep_close sq _ _ ((need_at hp _ _).mpr e) n (Nat.le_refl _)
  | @go x y z a b i1 i2=>exact Tr.close sq n (Nat.le_refl _) y (hl a) x z i1 i2
def kLt (a b:List Int×Nat):Bool:=if a.1=b.1 then decide (a.2<b.2) else L2.lexLt a.1 b.1
def marksOf (n:Nat) (P:List Nat):List Nat:=(List.range n).map fun w=>if w∈P then P.idxOf w+1 else 0
theorem marksOf_len (n:Nat) (P:List Nat):(marksOf n P).length=n:=by unfold marksOf; simp
theorem marksOf_at {n w:Nat} {P:List Nat} (h:w<n):(marksOf n P).getD w 0=if w∈P then P.idxOf w+1 else 0:=by
  unfold marksOf
  rw [List.getD_eq_getElem?_getD,List.getElem?_map,List.getElem?_range h]; rfl
def freeW (n:Nat) (S:List (List Nat)) (P:List Nat):List Nat:=(List.range n).filter fun w=>decide (w∉P)&&(S.getD w []).all fun l=>decide (l∈P)
theorem freeW_mem {n w:Nat} {S:List (List Nat)} {P:List Nat}:w∈freeW n S P↔w<n∧w∉P∧∀ l∈S.getD w [],l∈P:=by
  unfold freeW
  rw [List.mem_filter,List.mem_range,Bool.and_eq_true,decide_eq_true_iff,List.all_eq_true]
  simp only [decide_eq_true_iff]
def keyW (S:List (List Nat)) (M:List Nat) (w:Nat):List Int:=dnI ((S.getD w []).map fun l=>((M.getD l 0:Nat):Int))
def pickW (n:Nat) (S:List (List Nat)) (P:List Nat):Nat:=match freeW n S P with
  | []=>0
  | x::r=>bestBy (fun v b=>kLt (keyW S (marksOf n P) v,v) (keyW S (marksOf n P) b,b)) x r
def picks (n:Nat) (S:List (List Nat)):Nat→List Nat
  | 0=>[]
  | m+1=>picks n S m++[pickW n S (picks n S m)]
theorem picks_len (n:Nat) (S:List (List Nat)):∀ m,(picks n S m).length=m
  | 0=>rfl
  | m+1=>by show (picks n S m++[_]).length=_; rw [List.length_append,picks_len n S m]; rfl
theorem max_of (rk:Nat→Nat):∀ {l:List Nat},l≠[]→∃ w∈l,∀ v∈l,rk v≤rk w
  | [],h=>absurd rfl h
  | [x],_=>⟨x,List.mem_singleton.mpr rfl,fun v hv=>by rw [List.mem_singleton.mp hv]; exact Nat.le_refl _⟩
  | x::y::l,_=>by
    obtain ⟨w,hw,mx⟩:=max_of rk (l:=y::l) (by simp)
    by_cases c:rk w≤rk x
    · refine ⟨x,List.mem_cons_self,fun v hv=>?_⟩
      rcases List.mem_cons.mp hv with e | hv
      · rw [e]; exact Nat.le_refl _
      · exact Nat.le_trans (mx v hv) c
    · refine ⟨w,List.mem_cons_of_mem _ hw,fun v hv=>?_⟩
      rcases List.mem_cons.mp hv with e | hv
      · rw [e]; omega
      · exact mx v hv
structure Onward (n:Nat) (S:List (List Nat)):Prop where
  len:S.length=n
  lt:∀ w,w<n→∀ l∈S.getD w [],l<n
  up:∃ rk:Nat→Nat,∀ w,w<n→∀ l∈S.getD w [],rk w<rk l
theorem free_ne {n:Nat} {S:List (List Nat)} {P:List Nat} (h:Onward n S) (hl:P.length<n):freeW n S P≠[]:=by
  obtain ⟨rk,up⟩:=h.up
  have ne:(List.range n).filter (fun w=>decide (w∉P))≠[]:=fun z=>by
    have sub:∀ w∈List.range n,w∈P:=fun w hw=>Classical.byContradiction fun q=>by
      have:w∈(List.range n).filter (fun w=>decide (w∉P)):=List.mem_filter.mpr ⟨hw,decide_eq_true q⟩
      rw [z] at this
      cases this
    have:=nd_len List.nodup_range sub
    rw [List.length_range] at this
    omega
  obtain ⟨w,hw,mx⟩:=max_of rk ne
  obtain ⟨h1,h2⟩:=List.mem_filter.mp hw
  have h1:=List.mem_range.mp h1
  refine List.ne_nil_of_mem (a:=w) (freeW_mem.mpr ⟨h1,of_decide_eq_true h2,fun l hl=>Classical.byContradiction fun q=>?_⟩)
  have:=mx l (List.mem_filter.mpr ⟨List.mem_range.mpr (h.lt w h1 l hl),decide_eq_true q⟩)
  have:=up w h1 l hl
  omega
theorem pick_mem {n:Nat} {S:List (List Nat)} {P:List Nat} (h:freeW n S P≠[]):pickW n S P∈freeW n S P:=by
  unfold pickW
  cases e:freeW n S P with
  | nil=>exact absurd e h
  | cons x r=>exact bestBy_mem
theorem picks_free {n:Nat} {S:List (List Nat)} (h:Onward n S) {m:Nat} (hm:m<n):pickW n S (picks n S m)∈freeW n S (picks n S m):=pick_mem (free_ne h (by rw [picks_len]; exact hm))
theorem picks_nd {n:Nat} {S:List (List Nat)} (h:Onward n S):∀ m,m≤n→(picks n S m).Nodup∧∀ w∈picks n S m,w<n
  | 0,_=>⟨List.nodup_nil,fun _ z=>by cases z⟩
  | m+1,hm=>by
    obtain ⟨h1,h2⟩:=picks_nd h m (by omega)
    obtain ⟨f1,f2,_⟩:=freeW_mem.mp (picks_free h (m:=m) (by omega))
    refine ⟨List.nodup_append.mpr ⟨h1,by simp,fun a ha b hb e=>?_⟩,fun w hw=>?_⟩
    · rw [List.mem_singleton.mp hb] at e
      exact f2 (e ▸ ha)
    · rcases List.mem_append.mp hw with hw | hw
      · exact h2 w hw
      · rw [List.mem_singleton.mp hw]; exact f1
theorem picks_all {n:Nat} {S:List (List Nat)} (h:Onward n S) {w:Nat} (hw:w<n):w∈picks n S n:=Classical.byContradiction fun q=>by
  obtain ⟨h1,h2⟩:=picks_nd h n (Nat.le_refl _)
  have:=nd_len (l:=w::picks n S n) (m:=List.range n) (List.nodup_cons.mpr ⟨q,h1⟩) fun x hx=>by
    rcases List.mem_cons.mp hx with e | hx
    · rw [e]; exact List.mem_range.mpr hw
    · exact List.mem_range.mpr (h2 x hx)
  rw [List.length_cons,picks_len,List.length_range] at this
  omega
theorem picks_pre (n:Nat) (S:List (List Nat)) (m:Nat):∀ d,∃ t,picks n S (m+d)=picks n S m++t
  | 0=>⟨[],by simp⟩
  | d+1=>by
    obtain ⟨t,e⟩:=picks_pre n S m d
    refine ⟨t++[pickW n S (picks n S (m+d))],?_⟩
    show picks n S (m+d)++[pickW n S (picks n S (m+d))]=_
    rw [← List.append_assoc,← e]
def foundW (n:Nat) (S:List (List Nat)):List Nat:=marksOf n (picks n S n)
theorem found_at {n:Nat} {S:List (List Nat)} (h:Onward n S) {m w:Nat} (hm:m≤n) (hw:w<n):((foundW n S).getD w 0≤m↔w∈picks n S m)∧(w∈picks n S m→(foundW n S).getD w 0=(marksOf n (picks n S m)).getD w 0):=by
  obtain ⟨t,e⟩:=picks_pre n S m (n-m)
  rw [show m+(n-m)=n by omega] at e
  have ef:(foundW n S).getD w 0=(picks n S n).idxOf w+1:=by unfold foundW; rw [marksOf_at hw,if_pos (picks_all h hw)]
  have len:=picks_len n S m
  by_cases q:w∈picks n S m
  · have e1:(picks n S n).idxOf w=(picks n S m).idxOf w:=by rw [e,List.idxOf_append,if_pos q]
    have:=List.idxOf_lt_length_of_mem q
    refine ⟨⟨fun _=>q,fun _=>by omega⟩,fun _=>by rw [ef,e1,marksOf_at hw,if_pos q]⟩
  · have e1:(picks n S n).idxOf w=t.idxOf w+(picks n S m).length:=by rw [e,List.idxOf_append,if_neg q]
    exact ⟨⟨fun z=>absurd z (by omega),fun z=>absurd z q⟩,fun z=>absurd z q⟩
theorem found_pick {n:Nat} {S:List (List Nat)} (h:Onward n S) {m:Nat} (hm:m<n):(foundW n S).getD (pickW n S (picks n S m)) 0=m+1:=by
  obtain ⟨f1,f2,_⟩:=freeW_mem.mp (picks_free h hm)
  have hin:pickW n S (picks n S m)∈picks n S (m+1):=List.mem_append_right _ (List.mem_singleton.mpr rfl)
  rw [(found_at h hm f1).2 hin,marksOf_at f1,if_pos hin]
  show (picks n S m++[pickW n S (picks n S m)]).idxOf _+1=_
  rw [List.idxOf_append,if_neg f2,picks_len]
  simp
theorem marks_set {n:Nat} {P:List Nat} {w:Nat} (hw:w<n) (hP:w∉P):(marksOf n P).set w (P.length+1)=marksOf n (P++[w]):=by
  refine List.ext_getElem (by rw [List.length_set,marksOf_len,marksOf_len]) fun i h1 h2=>?_
  have g:∀ Q (h:i<(marksOf n Q).length),(marksOf n Q)[i]=if i∈Q then Q.idxOf i+1 else 0:=fun Q h=>by
    have hi:i<n:=by rw [marksOf_len] at h; exact h
    rw [← marksOf_at hi,List.getD_eq_getElem?_getD,List.getElem?_eq_getElem h]; rfl
  rw [List.getElem_set,g,g]
  by_cases c:w=i
  · subst c
    rw [if_pos rfl,if_pos (List.mem_append_right _ (List.mem_singleton.mpr rfl)),List.idxOf_append,if_neg hP]
    simp
  · rw [if_neg c]
    by_cases q:i∈P
    · rw [if_pos q,if_pos (List.mem_append_left _ q),List.idxOf_append,if_pos q]
    · rw [if_neg q,if_neg fun z=>(List.mem_append.mp z).elim q fun z=>c (List.mem_singleton.mp z).symm]
theorem key_found {n:Nat} {S:List (List Nat)} (h:Onward n S) {m w:Nat} (hm:m<n) (hw:w∈freeW n S (picks n S m)):keyW S (foundW n S) w=keyW S (marksOf n (picks n S m)) w:=by
  obtain ⟨h1,_,h3⟩:=freeW_mem.mp hw
  unfold keyW
  congr 1
  refine List.map_congr_left fun l hl=>?_
  rw [(found_at h (Nat.le_of_lt hm) (h.lt w h1 l hl)).2 (h3 l hl)]
theorem found_perm {n:Nat} {S:List (List Nat)} (h:Onward n S):((List.range n).map fun m=>m+1).Perm (foundW n S):=by
  obtain ⟨h1,h2⟩:=picks_nd h n (Nat.le_refl _)
  have p:(picks n S n).Perm (List.range n):=(List.perm_ext_iff_of_nodup h1 List.nodup_range).mpr fun w=>⟨fun z=>List.mem_range.mpr (h2 w z),fun z=>picks_all h (List.mem_range.mp z)⟩
  have e:∀ m,m≤n→(picks n S m).map (fun w=>(foundW n S).getD w 0)=(List.range m).map fun m=>m+1:=by
    intro m
    induction m with
    | zero=>intro _; rfl
    | succ m ih =>
      intro hm
      show (picks n S m++[_]).map _=_
      rw [List.map_append,ih (by omega),List.range_succ,List.map_append]
      show _++[_]=_++[m+1]
      have:=found_pick h (m:=m) (by omega)
      dsimp only
      rw [this]
  have q:=p.map fun w=>(foundW n S).getD w 0
  rw [e n (Nat.le_refl _)] at q
  refine q.trans (List.Perm.of_eq ?_)
  refine List.ext_getElem (by rw [List.length_map,List.length_range]; unfold foundW; rw [marksOf_len]) fun i a b=>?_
  rw [List.getElem_map,List.getElem_range,List.getD_eq_getElem?_getD,List.getElem?_eq_getElem b]; rfl
theorem picks_succ (n:Nat) (S:List (List Nat)) (m:Nat):picks n S (m+1)=picks n S m++[pickW n S (picks n S m)]:=rfl
theorem picks_zero (n:Nat) (S:List (List Nat)):picks n S 0=[]:=rfl
theorem pickW_eq (n:Nat) (S:List (List Nat)) (P:List Nat):pickW n S P=(match freeW n S P with | []=>0 | x::r=>bestBy (fun v b=>kLt (keyW S (marksOf n P) v,v) (keyW S (marksOf n P) b,b)) x r):=rfl
theorem freeW_eq (n:Nat) (S:List (List Nat)) (P:List Nat):freeW n S P=(List.range n).filter fun w=>decide (w∉P)&&(S.getD w []).all fun l=>decide (l∈P):=rfl
theorem keyW_eq (S:List (List Nat)) (M:List Nat) (w:Nat):keyW S M w=dnI ((S.getD w []).map fun l=>((M.getD l 0:Nat):Int)):=rfl
theorem foundW_len (n:Nat) (S:List (List Nat)):(foundW n S).length=n:=marksOf_len _ _
theorem foundW_eq (n:Nat) (S:List (List Nat)):foundW n S=marksOf n (picks n S n):=rfl
theorem ltD_ints (n:Nat):∀ xs ys:List Int,lexD (ltD n) (xs.map D.int) (ys.map D.int)=L2.lexLt xs ys
  | [],[]=>rfl
  | [],_::_=>rfl
  | _::_,[]=>rfl
  | x::xs,y::ys=>by
    rw [List.map_cons,List.map_cons]
    unfold lexD L2.lexLt
    rw [ltD_ints n xs ys]
    by_cases c:x=y
    · rw [if_pos (by rw [c]),if_pos c]
    · rw [if_neg fun z=>c (D.int.inj z),if_neg c]
      cases n <;> rfl
theorem ints_inj:∀ {xs ys:List Int},xs.map D.int=ys.map D.int→xs=ys
  | [],[],_=>rfl
  | [],_::_,h=>by cases h
  | _::_,[],h=>by cases h
  | x::xs,y::ys,h=>by
    rw [List.map_cons,List.map_cons] at h
    injection h with h1 h2
    rw [D.int.inj h1,ints_inj h2]
def keyD (xs:List Int) (v:Nat):D:=.tup [.lst (xs.map D.int),natD v]
theorem ltD_key (xs ys:List Int) (v w:Nat):ltD 20 (keyD xs v) (keyD ys w)=kLt (xs,v) (ys,w):=by
  show lexD (ltD 19) [.lst (xs.map D.int),natD v] [.lst (ys.map D.int),natD w]=_
  unfold lexD lexD lexD kLt
  dsimp only
  by_cases c:xs=ys
  · rw [if_pos (by rw [c]),if_pos c]
    by_cases e:v=w
    · rw [if_pos (by rw [e]),decide_eq_false (by omega)]
    · rw [if_neg fun z=>e (by have:=D.int.inj z; omega)]
      show decide ((v:Int)<(w:Int))=_
      rw [Bool.eq_iff_iff,decide_eq_true_iff,decide_eq_true_iff]
      omega
  · rw [if_neg fun z=>c (ints_inj (D.lst.inj z)),if_neg c]
    exact ltD_ints 18 xs ys
theorem ord_ints (n:Nat) (xs ys:List Int):ordb (n+1) (.lst (xs.map D.int)) (.lst (ys.map D.int))=true:=by
  show ((List.zip (xs.map D.int) (ys.map D.int)).all fun p=>cmpb n p.1 p.2&&ordb n p.1 p.2)=true
  refine List.all_eq_true.mpr fun p hp=>?_
  obtain ⟨a,b⟩:=p
  obtain ⟨h1,h2⟩:=List.of_mem_zip hp
  obtain ⟨x,_,rfl⟩:=List.mem_map.mp h1
  obtain ⟨y,_,rfl⟩:=List.mem_map.mp h2
  cases n <;> rfl
theorem ord_key (xs ys:List Int) (v w:Nat):ordb 20 (keyD xs v) (keyD ys w)=true:=by
  show ((cmpb 19 (.lst (xs.map D.int)) (.lst (ys.map D.int))&&ordb 19 (.lst (xs.map D.int)) (.lst (ys.map D.int)))&&((cmpb 19 (natD v) (natD w)&&ordb 19 (natD v) (natD w))&&true))=true
  rw [cmp_ints,ord_ints]
  rfl
theorem nat_get {G:List Nat} {l:Nat} (h:l<G.length):(G.map natD)[l]?=some (natD (G.getD l 0)):=by
  rw [List.getElem?_map,List.getD_eq_getElem?_getD,List.getElem?_eq_getElem h]; rfl
theorem nats_ints (xs:List Nat):xs.map natD=(xs.map fun (x:Nat)=>(x:Int)).map D.int:=by rw [List.map_map]; rfl
theorem falling {row G:List Nat} (hr:∀ l∈row,l<G.length) (hl:row.length<64):F_falling_marks [natsD row,natsD G]=some (.lst ((dnI (row.map fun l=>((G.getD l 0:Nat):Int))).map D.int)):=by
  refine run_eqF F_falling_marks_def ?_
  rw [st_falling_marks]
  unfold B_falling_marks
  refine wp_ret (ev_lst (dSrtR_of (ns:=row.map fun l=>((G.getD l 0:Nat):Int)) (ev_asL (d:=.lst ((row.map fun l=>((G.getD l 0:Nat):Int)).map D.int)) (ev_lst ?_) rfl) (by rw [List.length_map]; exact hl))) rfl
  rw [ev_compA0 natD (ev_asL (d:=natsD row) rfl rfl) (fun l=>natD (G.getD l 0)) fun l hl=>⟨_,rfl,ev_scal (ev_ix rfl rfl (ixL (nat_get (hr l hl)))) rfl⟩,List.map_map]
  rfl
theorem en_lists {n:Nat} {S:List (List Nat)} (h:S.length=n):enL (S.map natsD)=(List.range n).map fun i=>D.tup [natD i,natsD (S.getD i [])]:=by
  refine List.ext_getElem? fun i=>?_
  unfold enL
  rw [List.getElem?_mapIdx,List.getElem?_map,List.getElem?_map]
  by_cases hi:i<n
  · have hS:S.getD i []=S[i]:=by rw [List.getD_eq_getElem?_getD,List.getElem?_eq_getElem (by omega)]; rfl
    rw [List.getElem?_range hi,List.getElem?_eq_getElem (by omega)]
    show some (D.tup [natD i,natsD S[i]])=some (D.tup [natD i,natsD (S.getD i [])])
    rw [hS]
  · rw [List.getElem?_eq_none (by omega),List.getElem?_eq_none (by rw [List.length_range]; omega)]
    rfl
theorem lists_get {n:Nat} {S:List (List Nat)} (h:S.length=n) {w:Nat} (hw:w<n):(S.map natsD)[w]?=some (natsD (S.getD w [])):=by
  rw [List.getElem?_map,List.getElem?_eq_getElem (by omega),List.getD_eq_getElem?_getD,List.getElem?_eq_getElem (by omega)]; rfl
def Short (S:List (List Nat)):Prop:=∀ w,(S.getD w []).length<64
theorem nn_mark {n w:Nat} {P:List Nat} (hw:w<n):decide ((((marksOf n P).getD w 0:Nat):Int)=0)=decide (w∉P):=by
  rw [marksOf_at hw,Bool.eq_iff_iff,decide_eq_true_iff,decide_eq_true_iff]
  by_cases c:w∈P
  · rw [if_pos c]; constructor
    · intro h; omega
    · intro h; exact absurd c h
  · rw [if_neg c]; exact ⟨fun _=>c,fun _=>rfl⟩
theorem next_marked {n:Nat} {S:List (List Nat)} {P:List Nat} (h:Onward n S) (hs:Short S) (hl:P.length<n):F_next_marked [listsD S,natsD (marksOf n P)]=some (natD (pickW n S P)):=by
  have hln:=marksOf_len n P
  refine run_eqF F_next_marked_def ?_
  rw [st_next_marked]
  unfold B_next_marked
  refine wp_seq (wp_set (d:=natsD (freeW n S P)) (ev_lst ?_) ?_)
  · rw [ev_compA (fun i=>D.tup [natD i,natsD (S.getD i [])]) (xs:=List.range n) (by
      show dEn _ _=_
      unfold dEn
      rw [ev_asL (d:=listsD S) rfl rfl]
      exact congrArg some (en_lists h.len)) (fun w=>decide (w∉P)&&(S.getD w []).all fun l=>decide (l∈P)) natD fun w hw=>⟨_,rfl,?_,fun _=>rfl⟩]
    · rw [freeW_eq]
    · have hw:=List.mem_range.mp hw
      refine ev_and ?_ fun _=>?_
      · rw [ev_t (ev_eqF (i:=(((marksOf n P).getD w 0:Nat):Int)) (j:=0) (ev_ix rfl rfl (ixL (nat_get (by omega)))) rfl),nn_mark hw]
      · refine ev_tru (d:=.bl ((S.getD w []).all fun l=>decide (l∈P))) (ev_f1 (ev_lst (ds:=((S.getD w []).map fun l=>(((marksOf n P).getD l 0:Nat):Int)).map D.int) ?_) ?_) rfl
        · rw [ev_compA0 natD (ev_asL (d:=natsD (S.getD w [])) rfl rfl) (fun l=>natD ((marksOf n P).getD l 0)) fun l hl=>⟨_,rfl,ev_scal (ev_ix rfl rfl (ixL (nat_get (by rw [hln]; exact h.lt w hw l hl)))) rfl⟩,List.map_map]
          rfl
        · show (trus _).map _=_
          rw [trus_int]
          show some (D.bl _)=_
          congr 2
          dsimp only
          rw [List.map_map,List.all_map,Bool.eq_iff_iff,List.all_eq_true,List.all_eq_true]
          have key:∀ l∈S.getD w [],((((marksOf n P).getD l 0:Nat):Int) != 0)=decide (l∈P):=fun l hl=>by
            have:=nn_mark (P:=P) (h.lt w hw l hl)
            rw [bne,show ((((marksOf n P).getD l 0:Nat):Int)==0)=decide ((((marksOf n P).getD l 0:Nat):Int)=0) from rfl,this]
            by_cases c:l∈P <;> simp [c]
          exact ⟨fun a l hl=>by rw [← key l hl]; exact a l hl,fun a l hl=>by show ((((marksOf n P).getD l 0:Nat):Int) != 0)=true; rw [key l hl]; exact a l hl⟩
  walk_at "st"
  have ne:=free_ne h hl
  have mem:∀ w∈freeW n S P,w<n:=fun w hw=>(freeW_mem.mp hw).1
  rw [pickW_eq]
  cases e:freeW n S P with
  | nil=>exact absurd e ne
  | cons x r =>
    rw [e] at mem
    dsimp only
    have kk:∀ d∈natD x::r.map natD,∃ w,w∈x::r∧d=natD w:=fun d hd=>by
      rcases List.mem_cons.mp hd with rfl | hd
      · exact ⟨x,List.mem_cons_self,rfl⟩
      · obtain ⟨w,hw,rfl⟩:=List.mem_map.mp hd
        exact ⟨w,List.mem_cons_of_mem _ hw,rfl⟩
    refine wp_ret (d:=natD (bestBy (fun v b=>kLt (keyW S (marksOf n P) v,v) (keyW S (marksOf n P) b,b)) x r)) ?_ rfl
    rw [dMinK_of (x:=natD x) (r:=r.map natD) (fun d=>match d with | .int w=>keyD (keyW S (marksOf n P) w.toNat) w.toNat | d=>d) (ev_asL (d:=natsD (x::r)) rfl rfl) (fun d hd=>?_) fun d hd d' hd'=>?_]
    · rw [bestBy_map natD]
      congr 2
      refine bestBy_congr fun v _ b _=>?_
      exact ltD_key _ _ v b
    · obtain ⟨w,hw,rfl⟩:=kk d hd
      have hwn:=mem w hw
      show dTup _ _=some (keyD (keyW S (marksOf n P) w) w)
      rw [keyW_eq]
      refine ev_tup (ev_cons (ev_call (ev_cons (ev_ix rfl rfl (ixL (lists_get h.len hwn))) (ev_cons rfl rfl)) (falling (row:=S.getD w []) (G:=marksOf n P) (fun l hl=>by rw [hln]; exact h.lt w hwn l hl) (hs w))) (ev_cons rfl rfl))
    · obtain ⟨w,_,rfl⟩:=kk d hd
      obtain ⟨w',_,rfl⟩:=kk d' hd'
      exact ord_key _ _ _ _
theorem marks_of {n:Nat} {ps:List (Nat×Nat)} {S:List (List Nat)} (hn:n≤14) (es:F_straight_ahead [.int (n:Int),needsD ps]=some (listsD S)) (h:Onward n S) (hs:Short S):F_marks [.int (n:Int),needsD ps]=some (natsD (foundW n S)):=by
  have hline:sizeLine=16777216:=sizeLine_eq
  refine run_eqF F_marks_def ?_
  rw [st_marks]
  unfold B_marks
  refine wp_seq (wp_set (ev_call (ev_cons rfl (ev_cons rfl rfl)) es) ?_)
  walk_at "st"
  refine wp_seq (wp_setO (ds:=(marksOf n []).map natD) ?_ (by simp only [List.length_cons,List.length_nil]; omega) ?_)
  · rw [ev_rep (ds:=[.int 0]) (i:=(n:Int)) (ev_cons rfl rfl) rfl (by simp only [List.length_cons,List.length_nil]; omega)]
    congr 1
    rw [Int.toNat_natCast]
    unfold marksOf
    clear hn es h
    induction n with
    | zero=>rfl
    | succ n ih =>
      rw [List.replicate_succ',List.flatten_append,ih,List.range_succ,List.map_append,List.map_append]
      rfl
  walk_at "st"
  refine wp_seq (wp_for (ds:=upL 1 n) ?_ (fun j ρ=>∃ v4,ρ=[.bo (.int (n:Int)),.bo (needsD ps),.pu (listsD S),.ol ((marksOf n (picks n S j)).map natD),v4]) ⟨_,by rw [picks_zero]⟩ ?_ ?_)
  · rw [ev_rg2 rfl (ev_add rfl rfl) (by omega)]
    congr 2
    omega
  · rintro j d ρ hd ⟨v4,rfl⟩
    obtain ⟨hj,rfl⟩:=upL_at hd
    refine ⟨_,rfl,?_⟩
    dsimp only [gN,slm,List.set_cons_succ,List.set_cons_zero]
    obtain ⟨f1,f2,_⟩:=freeW_mem.mp (picks_free h (m:=j) hj)
    refine wp_put (n:=((pickW n S (picks n S j):Nat):Int)) (j:=pickW n S (picks n S j)) rfl rfl (ev_call (ev_cons rfl (ev_cons rfl rfl)) (next_marked h hs (by rw [picks_len]; exact hj))) (ixNn (by rw [List.length_map,marksOf_len]; exact f1)) ?_
    dsimp only [List.set_cons_succ,List.set_cons_zero]
    have e:((marksOf n (picks n S j)).map natD).set (pickW n S (picks n S j)) (.int (1+(j:Int)))=(marksOf n (picks n S (j+1))).map natD:=by
      have:=marks_set f1 f2
      rw [picks_len] at this
      rw [picks_succ,← this,List.map_set]
      congr 1
      show D.int _=D.int _
      congr 1
      omega
    rw [e]
    exact ⟨_,rfl⟩
  · rintro ρ ⟨v4,rfl⟩
    walk_at "go"
    refine wp_ret rfl ?_
    rw [upL_len,foundW_eq]
    rfl
theorem onward {n:Nat} {ps:List (Nat×Nat)} (h:Ord n ps):Onward n (nearL n (cloD n ps))∧Short (nearL n (cloD n ps)):=by
  have sq:=h.sqc
  have hlen:=sq.len
  have row:∀ w,w<n→(nearL n (cloD n ps)).getD w []=(posR n ((cloD n ps).getD w [])).filter fun b=>!((posR n ((cloD n ps).getD w [])).any fun c=>at2 (cloD n ps) c b):=fun w hw=>by
    unfold nearL
    rw [List.getD_eq_getElem?_getD,List.getElem?_map,sq.get hw]; rfl
  have mem:∀ w,w<n→∀ l∈(nearL n (cloD n ps)).getD w [],l<n∧at2 (cloD n ps) w l=true:=fun w hw l hl=>by
    rw [row w hw] at hl
    have:=(List.mem_filter.mp hl).1
    refine ⟨pos_lt this,?_⟩
    unfold posR at this
    exact (List.mem_filter.mp this).2
  refine ⟨⟨by unfold nearL; rw [List.length_map]; exact hlen,fun w hw l hl=>(mem w hw l hl).1,?_⟩,fun w=>?_⟩
  · obtain ⟨rk,up⟩:=h.up
    have u:Up rk (cloD n ps):=Up.close h.sq (Up.need up) n (Nat.le_refl _)
    exact ⟨rk,fun w hw l hl=>u w l (mem w hw l hl).2⟩
  · by_cases hw:w<n
    · rw [row w hw]
      have h1:=List.length_filter_le (fun b=>!((posR n ((cloD n ps).getD w [])).any fun c=>at2 (cloD n ps) c b)) (posR n ((cloD n ps).getD w []))
      have h2:(posR n ((cloD n ps).getD w [])).length≤n:=by
        unfold posR
        have:=List.length_filter_le (fun b=>((cloD n ps).getD w []).getD b false) (List.range n)
        rw [List.length_range] at this
        exact this
      have:=h.big
      omega
    · rw [List.getD_eq_getElem?_getD,List.getElem?_eq_none (by unfold nearL; rw [List.length_map]; omega)]
      show 0<64
      omega
def rdyP (M:Mat) (L:List Nat):List Nat:=L.filter fun w=>!(L.any fun f=>at2 M f w)
def mkS (Fo R:List Nat):List Nat:=R.mergeSort fun a b=>decide (Fo.getD b 0≤Fo.getD a 0)
def turnP (M:Mat) (Fo L:List Nat):List Nat:=(mkS Fo (rdyP M L)).take 2
def lfP (M:Mat) (Fo l0:List Nat):Nat→List Nat
  | 0=>l0
  | j+1=>(lfP M Fo l0 j).filter fun w=>decide (w∉turnP M Fo (lfP M Fo l0 j))
theorem mkS_perm (Fo R:List Nat):(mkS Fo R).Perm R:=List.mergeSort_perm _ _
theorem mkS_dn (Fo R:List Nat):(mkS Fo R).Pairwise fun a b=>Fo.getD b 0≤Fo.getD a 0:=by
  have h:=List.pairwise_mergeSort (le:=fun a b=>decide (Fo.getD b 0≤Fo.getD a 0)) (fun a b c h1 h2=>by rw [decide_eq_true_iff] at *; omega) (fun a b=>by rw [Bool.or_eq_true,decide_eq_true_iff,decide_eq_true_iff]; omega) R
  exact h.imp fun h=>of_decide_eq_true h
theorem rdyP_mem {M:Mat} {L:List Nat} {w:Nat}:w∈rdyP M L↔w∈L∧∀ f∈L,at2 M f w=false:=by
  unfold rdyP
  rw [List.mem_filter,Bool.not_eq_true',List.any_eq_false]
  simp only [Bool.not_eq_true]
theorem turnP_mem {M:Mat} {Fo L:List Nat} {w:Nat} (h:w∈turnP M Fo L):w∈rdyP M L:=(mkS_perm _ _).mem_iff.mp (List.mem_of_mem_take h)
theorem turnP_left {M:Mat} {Fo L:List Nat} {w:Nat} (h:w∈turnP M Fo L):w∈L:=(rdyP_mem.mp (turnP_mem h)).1
theorem turnP_nd {M:Mat} {Fo L:List Nat} (h:L.Nodup):(turnP M Fo L).Nodup:=((mkS_perm _ _).nodup_iff.mpr (h.filter _)).sublist (List.take_sublist _ _)
theorem turnP_len (M:Mat) (Fo L:List Nat):(turnP M Fo L).length≤2:=by unfold turnP; rw [List.length_take]; omega
theorem turnP_ne {M:Mat} {Fo L:List Nat} (h:rdyP M L≠[]):turnP M Fo L≠[]:=fun z=>by
  have h2:=(mkS_perm Fo (rdyP M L)).length_eq
  have:0<(rdyP M L).length:=List.length_pos_iff.mpr h
  have h1:(turnP M Fo L).length=0:=by rw [z]; rfl
  unfold turnP at h1
  rw [List.length_take] at h1
  omega
theorem min_of (rk:Nat→Nat):∀ {l:List Nat},l≠[]→∃ w∈l,∀ v∈l,rk w≤rk v
  | [],h=>absurd rfl h
  | [x],_=>⟨x,List.mem_singleton.mpr rfl,fun v hv=>by rw [List.mem_singleton.mp hv]; exact Nat.le_refl _⟩
  | x::y::l,_=>by
    obtain ⟨w,hw,mx⟩:=min_of rk (l:=y::l) (by simp)
    by_cases c:rk x≤rk w
    · refine ⟨x,List.mem_cons_self,fun v hv=>?_⟩
      rcases List.mem_cons.mp hv with e | hv
      · rw [e]; exact Nat.le_refl _
      · exact Nat.le_trans c (mx v hv)
    · refine ⟨w,List.mem_cons_of_mem _ hw,fun v hv=>?_⟩
      rcases List.mem_cons.mp hv with e | hv
      · rw [e]; omega
      · exact mx v hv
theorem rdyP_ne {M:Mat} {rk:Nat→Nat} (up:Up rk M) {L:List Nat} (h:L≠[]):rdyP M L≠[]:=by
  obtain ⟨w,hw,mn⟩:=min_of rk h
  refine List.ne_nil_of_mem (a:=w) (rdyP_mem.mpr ⟨hw,fun f hf=>?_⟩)
  cases e:at2 M f w with
  | false=>rfl
  | true =>
    have:=up f w e
    have:=mn f hf
    omega
theorem turnP_split {M:Mat} {Fo L:List Nat} (h:L.Nodup):L.Perm (turnP M Fo L++L.filter fun w=>decide (w∉turnP M Fo L)):=by
  have h1:(turnP M Fo L).Perm (L.filter fun w=>decide (w∈turnP M Fo L)):=by
    refine (List.perm_ext_iff_of_nodup (turnP_nd h) (h.filter _)).mpr fun w=>?_
    rw [List.mem_filter]
    exact ⟨fun z=>⟨turnP_left z,decide_eq_true z⟩,fun z=>of_decide_eq_true z.2⟩
  have h2:=(List.filter_append_perm (fun w=>decide (w∈turnP M Fo L)) L).symm
  refine h2.trans ((h1.symm.append_right _).trans ?_)
  refine List.Perm.append_left _ (List.Perm.of_eq (List.filter_congr fun w _=>?_))
  by_cases z:w∈turnP M Fo L <;> simp [z]
structure LfP (M:Mat) (n:Nat) (L:List Nat):Prop where
  nd:L.Nodup
  lt:∀ w∈L,w<n
  cl:∀ f∈L,∀ w,at2 M f w=true→w∈L
theorem LfP.next {M:Mat} {n:Nat} {Fo L:List Nat} (h:LfP M n L):LfP M n (L.filter fun w=>decide (w∉turnP M Fo L)):=by
  refine ⟨h.nd.filter _,fun w hw=>h.lt w (List.mem_filter.mp hw).1,fun f hf w e=>?_⟩
  have hfL:=(List.mem_filter.mp hf).1
  refine List.mem_filter.mpr ⟨h.cl f hfL w e,decide_eq_true fun z=>?_⟩
  have:=(rdyP_mem.mp (turnP_mem z)).2 f hfL
  rw [e] at this
  cases this
theorem lfP_ok {M:Mat} {n:Nat} {Fo l0:List Nat} (h:LfP M n l0):∀ j,LfP M n (lfP M Fo l0 j)
  | 0=>h
  | j+1=>(lfP_ok h j).next
theorem lfP_0 {M:Mat} {n:Nat} (sq:Sq M n):LfP M n (List.range n):=by
  refine ⟨List.nodup_range,fun w hw=>List.mem_range.mp hw,fun f hf w e=>List.mem_range.mpr ?_⟩
  have hf:=List.mem_range.mp hf
  unfold at2 at e
  have hl:=sq.rl hf
  by_cases c:w<n
  · exact c
  · rw [List.getD_eq_getElem?_getD (l:=M.getD f []),List.getElem?_eq_none (by omega)] at e; cases e
theorem flatP_perm {M:Mat} {n:Nat} {Fo l0:List Nat} (h:LfP M n l0):∀ k,l0.Perm (((List.range k).map fun j=>turnP M Fo (lfP M Fo l0 j)).flatten++lfP M Fo l0 k)
  | 0=>List.Perm.refl _
  | k+1=>by
    have ih:=flatP_perm (Fo:=Fo) h k
    have sp:=turnP_split (M:=M) (Fo:=Fo) (lfP_ok (Fo:=Fo) h k).nd
    rw [List.range_succ,List.map_append,List.flatten_append]
    refine ih.trans ((sp.append_left _).trans (List.Perm.of_eq ?_))
    simp [lfP]
theorem lfP_len {M:Mat} {n:Nat} {rk:Nat→Nat} (up:Up rk M) {Fo l0:List Nat} (h:LfP M n l0) {j:Nat} (hne:lfP M Fo l0 j≠[]):(lfP M Fo l0 (j+1)).length<(lfP M Fo l0 j).length:=by
  have sp:=(turnP_split (M:=M) (Fo:=Fo) (lfP_ok (Fo:=Fo) h j).nd).length_eq
  have:0<(turnP M Fo (lfP M Fo l0 j)).length:=List.length_pos_iff.mpr (turnP_ne (rdyP_ne up hne))
  rw [List.length_append] at sp
  show ((lfP M Fo l0 j).filter _).length < _
  omega
theorem lfP_le {M:Mat} {Fo l0:List Nat}:∀ j,(lfP M Fo l0 j).length≤l0.length
  | 0=>Nat.le_refl _
  | j+1=>Nat.le_trans (List.length_filter_le _ _) (lfP_le j)
theorem ev_ninN {ρ:Rho} {a b:DE} {x:Nat} {xs:List Nat} (ha:a ρ=some (natD x)) (hb:b ρ=some (natsD xs)):dIn true a b ρ=some (.bl (decide (x∉xs))):=by
  have hb':b ρ=some (.lst ((xs.map fun (y:Nat)=>(y:Int)).map D.int)):=by rw [hb]; unfold natsD; rw [nats_ints]
  rw [ev_inI (neg:=true) (i:=(x:Int)) ha hb',if_pos rfl]
  refine congrArg (fun z=>some (D.bl z)) ?_
  have e:(x:Int)∈xs.map (fun (y:Nat)=>(y:Int))↔x∈xs:=by
    rw [List.mem_map]
    constructor
    · rintro ⟨y,hy,e⟩
      have:y=x:=by omega
      rw [← this]; exact hy
    · exact fun h=>⟨x,h,rfl⟩
  by_cases z:x∈xs
  · rw [decide_eq_true (e.mpr z),decide_eq_false (fun q=>q z)]; rfl
  · rw [decide_eq_false (fun q=>z (e.mp q)),decide_eq_true z]; rfl
theorem nd_at {l:List Nat} (h:l.Nodup) {i j:Nat} (hi:i<l.length) (hj:j<l.length) (e:l[i]=l[j]):i=j:=by
  have pw:=List.pairwise_iff_getElem.mp h
  rcases Nat.lt_trichotomy i j with q | q | q
  · exact absurd e (pw i j hi hj q)
  · exact q
  · exact absurd e.symm (pw j i hj hi q)
def mkD (Fo:List Nat):D→Int
  | .int w=>((Fo.getD w.toNat 0:Nat):Int)
  | _=>0
theorem mk_nd {n:Nat} {Fo:List Nat} (hF:Fo.Nodup) (hl:Fo.length=n):∀ {R:List Nat},R.Nodup→(∀ w∈R,w<n)→((R.map natD).map (mkD Fo)).Nodup
  | [],_,_=>by simp
  | w::R,h,hr=>by
    obtain ⟨h1,h2⟩:=List.nodup_cons.mp h
    rw [List.map_cons,List.map_cons]
    refine List.nodup_cons.mpr ⟨fun q=>?_,mk_nd hF hl h2 fun v hv=>hr v (List.mem_cons_of_mem _ hv)⟩
    obtain ⟨d,hd,e⟩:=List.mem_map.mp q
    obtain ⟨v,hv,rfl⟩:=List.mem_map.mp hd
    have hv':=hr v (List.mem_cons_of_mem _ hv)
    have hw':=hr w List.mem_cons_self
    have e:((Fo.getD v 0:Nat):Int)=((Fo.getD w 0:Nat):Int):=e
    have e:Fo.getD v 0=Fo.getD w 0:=by omega
    rw [List.getD_eq_getElem?_getD,List.getElem?_eq_getElem (by omega),List.getD_eq_getElem?_getD,List.getElem?_eq_getElem (by omega)] at e
    have:v=w:=nd_at hF (by omega) (by omega) (show Fo[v]=Fo[w] from e)
    exact h1 (this ▸ hv)
theorem srt_mk {n:Nat} {Fo R:List Nat} (hF:Fo.Nodup) (hl:Fo.length=n) (hR:R.Nodup) (hr:∀ w∈R,w<n):srtBy (fun d=>sgn true (mkD Fo d)) (R.map natD)=(mkS Fo R).map natD:=by
  refine (srtBy_uniq (kg:=fun d=>sgn true (mkD Fo d)) (fun _ _=>rfl) (nd_sgn (mk_nd hF hl hR hr)) ((mkS_perm Fo R).map _) ?_).symm
  rw [List.pairwise_map]
  refine (mkS_dn Fo R).imp fun {a b} h=>sgn_lt (b:=true) ?_
  show ((Fo.getD b 0:Nat):Int)≤((Fo.getD a 0:Nat):Int)
  omega
theorem turnP_ev {ρ:Rho} {n:Nat} {Fo R:List Nat} {cs:List Nat} {a e:DE} {b:Bool} (hF:Fo.Nodup) (hl:Fo.length=n) (hn:n≤14) (hR:R.Nodup) (hr:∀ w∈R,w<n) (ha:a ρ=some (natsD R)) (kf:D→Int) (hk:∀ w∈R,e (kR cs ρ (natD w))=some (.int (kf (natD w)))) (hs:∀ w∈R,sgn b (kf (natD w))=sgn true (mkD Fo (natD w))) (hnd:((R.map natD).map kf).Nodup) :
    dLst (dSl (dLst (dSortI b cs a e)) oNone (oSome (dC (.int 2)))) ρ=some (natsD ((mkS Fo R).take 2)):=by
  have hlen:R.length≤n:=by
    have:=nd_len (m:=List.range n) hR fun w hw=>List.mem_range.mpr (hr w hw)
    rwa [List.length_range] at this
  have es:dSortI b cs a e ρ=some ((mkS Fo R).map natD):=by
    rw [dSortI_of (ds:=R.map natD) kf (ev_asL (d:=natsD R) ha rfl) (fun d hd=>by obtain ⟨w,hw,rfl⟩:=List.mem_map.mp hd; exact hk w hw) hnd (by rw [List.length_map]; omega),← srt_mk hF hl hR hr]
    congr 1
    refine srtBy_uniq (kg:=fun d=>sgn b (kf d)) (fun d hd=>?_) (nd_sgn (mk_nd hF hl hR hr)) (srtBy_perm _ _) (srtBy_up _ _)
    obtain ⟨w,hw,rfl⟩:=List.mem_map.mp hd
    exact (hs w hw).symm
  refine ev_lst ?_
  rw [ev_sl (ds:=(mkS Fo R).map natD) (ev_asL (d:=.lst ((mkS Fo R).map natD)) (ev_lst es) rfl) rfl (ev_oSome rfl),show (2:Int)=((2:Nat):Int) from rfl,cut_b,List.map_take]
theorem left_ev {ρ:Rho} {L T:List Nat} {k:Nat} {cs:List Nat} {a:DE} (ha:a ρ=some (natsD L)) (hT:∀ w,dVar 1 ((r0 k cs ρ).set 0 (.pu (natD w)))=some (natsD T)) (h0:∀ w,dVar 0 ((r0 k cs ρ).set 0 (.pu (natD w)))=some (natD w)) (h1:∀ w,dVarI 0 ((r0 k cs ρ).set 0 (.pu (natD w)))=some (natD w)) :
    dLst (dComp k cs (asL a) (gN true 0) (dT (dIn true (dVar 0) (dVar 1))) (dVarI 0)) ρ=some (natsD (L.filter fun w=>decide (w∉T))):=by
  refine ev_lst ?_
  rw [ev_compA natD (ev_asL (d:=natsD L) ha rfl) (fun w=>decide (w∉T)) natD fun w hw=>⟨_,rfl,ev_t (ev_ninN (h0 w) (hT w)),fun _=>h1 w⟩]
theorem ahead_get {n:Nat} {ps:List (Nat×Nat)} (h:Ord n ps) {f w:Nat} (hf:f<n) (hw:w<n) {ρ:Rho} {a b c:DE} (ha:a ρ=some (natD w)) (hb:b ρ=some (listsD (aheadL n ps))) (hc:c ρ=some (natD f)):dIn false a (dIx b c) ρ=some (.bl (at2 (cloD n ps) f w)):=by
  have hlen:(aheadL n ps).length=n:=by unfold aheadL; rw [List.length_map]; exact h.sqc.len
  rw [ev_inN (x:=w) (xs:=(aheadL n ps).getD f []) ha (ev_ix (d:=listsD (aheadL n ps)) hb hc (ixL (lists_get hlen hf)))]
  congr 2
  exact ahead_at h.sqc hf hw
theorem pairs {n:Nat} {ps:List (Nat×Nat)} {Fo:List Nat} (h:Ord n ps) (hF:Fo.Nodup) (hFl:Fo.length=n) (em:F_marks [.int (n:Int),needsD ps]=some (natsD Fo)):∃ k,lfP (cloD n ps) Fo (List.range n) k=[]∧(∀ i,i<k→lfP (cloD n ps) Fo (List.range n) i≠[])∧F_pair_turns [.int (n:Int),needsD ps]=some (.lst ((List.range k).map fun j=>natsD (turnP (cloD n ps) Fo (lfP (cloD n ps) Fo (List.range n) j)))):=by
  have hline:sizeLine=16777216:=sizeLine_eq
  have hn:=h.big
  have lok:=lfP_ok (Fo:=Fo) (lfP_0 h.sqc)
  have ea:=ahead h
  obtain ⟨rk,hrk⟩:=h.up
  have up:Up rk (cloD n ps):=Up.close h.sq (Up.need hrk) n (Nat.le_refl _)
  have hdec:=fun j=>lfP_len (Fo:=Fo) (j:=j) up (lfP_0 h.sqc)
  have hle:=fun j=>lfP_le (M:=cloD n ps) (Fo:=Fo) (l0:=List.range n) j
  have ag:=fun {f w:Nat} (hf:f<n) (hw:w<n) {ρ:Rho} {a b c:DE}=>ahead_get h hf hw (ρ:=ρ) (a:=a) (b:=b) (c:=c)
  generalize hM:cloD n ps=M at *
  obtain ⟨d,e,k,hk,hkk,rfl⟩:=run_ofF F_pair_turns_def (ds:=[.int (n:Int),needsD ps]) (P:=fun d=>∃ k,lfP M Fo (List.range n) k=[]∧(∀ i,i<k→lfP M Fo (List.range n) i≠[])∧d=.lst ((List.range k).map fun j=>natsD (turnP M Fo (lfP M Fo (List.range n) j)))) (by
    rw [st_pair_turns]
    unfold B_pair_turns
    refine wp_seq (wp_set (ev_call (ev_cons rfl (ev_cons rfl rfl)) em) ?_)
    walk_at "st"
    refine wp_seq (wp_set (ev_call (ev_cons rfl (ev_cons rfl rfl)) ea) ?_)
    walk_at "st"
    refine wp_seq (wp_set (d:=natsD (List.range n)) (ev_lst (rg_ev (n:=n) (by omega) rfl)) ?_)
    walk_at "st"
    refine wp_seq (wp_setO (ds:=[]) rfl (by simp only [List.length_cons,List.length_nil]; omega) ?_)
    walk_at "st"
    refine wp_seq (wp_while (fun m ρ=>∃ (j:Nat) (v6 v7:Sl),m=(lfP M Fo (List.range n) j).length∧j+m≤n∧(∀ i,i<j→lfP M Fo (List.range n) i≠[]) ∧
      ρ=[.bo (.int (n:Int)),.bo (needsD ps),.pu (natsD Fo),.pu (listsD (aheadL n ps)),.pu (natsD (lfP M Fo (List.range n) j)),.ol ((List.range j).map fun i=>natsD (turnP M Fo (lfP M Fo (List.range n) i))),v6,v7]) (List.range n).length ⟨0,_,_,rfl,?_,(fun i h=>absurd h (by omega)),rfl⟩ ?_)
    · rw [List.length_range]; omega
    · rintro m ρ ⟨j,v6,v7,emm,hjm,hpre,rfl⟩
      have ok:=lok j
      by_cases hne:lfP M Fo (List.range n) j=[]
      · refine ⟨false,?_,(fun z=>by cases z),fun _=>?_⟩
        · refine ev_tru (d:=natsD (lfP M Fo (List.range n) j)) rfl ?_
          rw [hne]; rfl
        · walk_at "go"
          exact wp_ret rfl ⟨j,hne,hpre,rfl⟩
      · refine ⟨true,?_,fun _=>?_,fun z=>by cases z⟩
        · refine ev_tru (d:=natsD (lfP M Fo (List.range n) j)) rfl ?_
          cases q:lfP M Fo (List.range n) j with
          | nil=>exact absurd q hne
          | cons x r=>rfl
        · have hnext:=hdec j hne
          have enx:lfP M Fo (List.range n) (j+1)=(lfP M Fo (List.range n) j).filter fun w=>decide (w∉turnP M Fo (lfP M Fo (List.range n) j)):=rfl
          have ers:(List.range (j+1)).map (fun i=>natsD (turnP M Fo (lfP M Fo (List.range n) i)))=(List.range j).map (fun i=>natsD (turnP M Fo (lfP M Fo (List.range n) i)))++[natsD (turnP M Fo (lfP M Fo (List.range n) j))]:=by rw [List.range_succ,List.map_append]; rfl
          generalize hL:lfP M Fo (List.range n) j=L at *
          generalize hN:lfP M Fo (List.range n) (j+1)=L' at *
          refine wp_seq (wp_set (d:=natsD (rdyP M L)) (ev_lst ?_) ?_)
          · rw [ev_compA natD (ev_asL (d:=natsD L) rfl rfl) (fun w=>!(L.any fun f=>at2 M f w)) natD fun w hw=>⟨_,rfl,?_,fun _=>rfl⟩]
            · rfl
            · refine ev_not (ev_tru (d:=.bl (L.any fun f=>at2 M f w)) (ev_f1 (ev_lst (ds:=(L.map fun f=>at2 M f w).map D.bl) ?_) ?_) rfl)
              · rw [ev_compA0 natD (ev_asL (d:=natsD L) rfl rfl) (fun f=>.bl (at2 M f w)) fun f hf=>⟨_,rfl,ag (ok.lt f hf) (ok.lt w hw) rfl rfl rfl⟩,List.map_map]
                rfl
              · rw [any_ev,List.any_map]
                rfl
          walk_at "st"
          have hRn:(rdyP M L).Nodup:=ok.nd.filter _
          have hRl:∀ w∈rdyP M L,w<n:=fun w hw=>ok.lt w (rdyP_mem.mp hw).1
          refine wp_seq (wp_set (d:=natsD (turnP M Fo L)) (turnP_ev (R:=rdyP M L) hF hFl hn hRn hRl rfl (mkD Fo) (fun w hw=>ev_ix rfl rfl (ixL (nat_get (by rw [hFl]; exact hRl w hw)))) (fun w _=>rfl) (mk_nd hF hFl hRn hRl)) ?_)
          walk_at "st"
          refine wp_seq (wp_set (d:=natsD L') ?_ ?_)
          · rw [enx]
            exact left_ev (T:=turnP M Fo L) rfl (fun _=>rfl) (fun _=>rfl) fun _=>rfl
          walk_at "st"
          refine wp_app (ds:=(List.range j).map fun i=>natsD (turnP M Fo (lfP M Fo (List.range n) i))) (d:=natsD (turnP M Fo L)) rfl rfl (by rw [List.length_map,List.length_range]; omega) ?_
          dsimp only [List.set_cons_succ,List.set_cons_zero]
          refine ⟨L'.length,by omega,j+1,_,_,by rw [hN],by omega,fun i hi=>?_,by rw [ers,hN]⟩
          by_cases q:i=j
          · rw [q,hL]; exact hne
          · exact hpre i (by omega))
  exact ⟨k,hk,hkk,e⟩
theorem lex_sub {a:Int}:∀ {xs ys:List Int},xs.Pairwise (fun x y=>y<x)→ys.Pairwise (fun x y=>y<x)→L2.lexLt xs ys=false→(∀ v∈xs,a≤v→(∀ u∈ys,v<u→u∈xs)→v∈ys)→∀ u∈ys,a≤u→u∈xs
  | _,[],_,_,_,_=>fun u hu=>by cases hu
  | [],y::ys,_,_,h,_=>by cases h
  | x::xs,y::ys,dx,dy,h,st=>by
    obtain ⟨x1,x2⟩:=List.pairwise_cons.mp dx
    obtain ⟨y1,y2⟩:=List.pairwise_cons.mp dy
    unfold L2.lexLt at h
    by_cases c:x=y
    · subst c
      rw [if_pos rfl] at h
      have ih:=lex_sub (a:=a) x2 y2 h fun v hv ha hu=>by
        have:=st v (List.mem_cons_of_mem _ hv) ha fun u hu' hvu=>by
          rcases List.mem_cons.mp hu' with e | hu'
          · rw [e]; exact List.mem_cons_self
          · exact List.mem_cons_of_mem _ (hu u hu' hvu)
        rcases List.mem_cons.mp this with e | this
        · have:=x1 v hv
          omega
        · exact this
      intro u hu ha
      rcases List.mem_cons.mp hu with e | hu
      · rw [e]; exact List.mem_cons_self
      · exact List.mem_cons_of_mem _ (ih u hu ha)
    · rw [if_neg c] at h
      have hxy:=of_decide_eq_false h
      intro u hu ha
      exfalso
      have huy:u≤y:=by
        rcases List.mem_cons.mp hu with e | hu
        · omega
        · have:=y1 u hu; omega
      have:=st x List.mem_cons_self (by omega) fun u' hu' hlt=>by
        exfalso
        rcases List.mem_cons.mp hu' with e | hu'
        · omega
        · have:=y1 u' hu'; omega
      rcases List.mem_cons.mp this with e | this
      · exact c e
      · have:=y1 x this; omega
def fallA (al:Nat→Nat) (S:Nat→List Nat) (w:Nat):List Int:=dnI ((S w).map fun l=>((al l:Nat):Int))
structure CG (R:Nat→Nat→Prop) (al:Nat→Nat) (S:Nat→List Nat) (V:Nat→Prop):Prop where
  tr:∀ {x y z},R x y→R y z→R x z
  dn:∀ {x y},R x y→al y<al x
  inj:∀ {x y},V x→V y→al x=al y→x=y
  s0:∀ w,(S w).Nodup
  s1:∀ {w l},l∈S w→R w l
  s2:∀ {w l z},l∈S w→R w z→R z l→False
  s3:∀ {w l},R w l→(∀ z,R w z→R z l→False)→l∈S w
  lex:∀ {x y},V x→V y→al y<al x→L2.lexLt (fallA al S x) (fallA al S y)=false
  vR:∀ {x y},R x y→V x∧V y
  bd:∃ N,∀ x,V x→al x≤N
theorem fallA_mem {al:Nat→Nat} {S:Nat→List Nat} {w:Nat} {v:Int}:v∈fallA al S w↔∃ l,l∈S w∧v=((al l:Nat):Int):=by
  unfold fallA
  rw [(dnI_perm _).mem_iff,List.mem_map]
  exact ⟨fun ⟨l,h,e⟩=>⟨l,h,e.symm⟩,fun ⟨l,h,e⟩=>⟨l,h,e.symm⟩⟩
theorem CG.fall {R:Nat→Nat→Prop} {al:Nat→Nat} {S:Nat→List Nat} {V:Nat→Prop} (c:CG R al S V) (w:Nat):(fallA al S w).Pairwise fun x y=>y<x:=by
  have nd:((S w).map fun l=>((al l:Nat):Int)).Nodup:=by
    rw [List.nodup_iff_pairwise_ne,List.pairwise_map]
    refine List.Pairwise.imp_of_mem (fun {a b} ha hb h z=>h (c.inj (c.vR (c.s1 ha)).2 (c.vR (c.s1 hb)).2 (by omega))) (List.nodup_iff_pairwise_ne.mp (c.s0 w))
  have nd2:(fallA al S w).Nodup:=(dnI_perm _).nodup_iff.mpr nd
  have h1:=dnI_dn ((S w).map fun l=>((al l:Nat):Int))
  have h2:=List.nodup_iff_pairwise_ne.mp nd2
  exact (h1.and h2).imp fun ⟨p,q⟩=>by omega
theorem CG.top {R:Nat→Nat→Prop} {al:Nat→Nat} {S:Nat→List Nat} {V:Nat→Prop} (c:CG R al S V) {P:Nat→Prop} {a:Nat}:∀ (m y:Nat),(∀ x,V x→al x≤al y+m)→V y→P y→a≤al y→∃ z,P z∧a≤al z∧(z=y∨R z y)∧∀ z',P z'→a≤al z'→R z' z→False
  | m,y,hm,hv,hp,ha=>by
    by_cases q:∃ z',P z'∧a≤al z'∧R z' y
    · obtain ⟨z',p1,p2,p3⟩:=q
      have hd:=c.dn p3
      cases m with
      | zero=>exact absurd (hm z' (c.vR p3).1) (by omega)
      | succ m =>
        obtain ⟨z,h1,h2,h3,h4⟩:=CG.top c (P:=P) (a:=a) m z' (fun x hx=>by have:=hm x hx; omega) (c.vR p3).1 p1 p2
        refine ⟨z,h1,h2,.inr ?_,h4⟩
        rcases h3 with rfl | h3
        · exact p3
        · exact c.tr h3 p3
    · exact ⟨y,hp,ha,.inl rfl,fun z' h1 h2 h3=>q ⟨z',h1,h2,h3⟩⟩
theorem CG.cross {R:Nat→Nat→Prop} {al:Nat→Nat} {S:Nat→List Nat} {V:Nat→Prop} (c:CG R al S V) {P Bk:Nat→Prop} {D a:Nat} (hD:∀ y,P y→a≤al y→R D y) (hPD:∀ w,R D w→P w)
    (hB:∀ x,Bk x→V x∧(x=D∨al D<al x)) (hf:∀ x w,Bk x→R x w→a≤al w→P w∨Bk w):∀ (m x:Nat),al x≤m→Bk x→∀ y,P y→a≤al y→R x y:=by
  obtain ⟨N,bd⟩:=c.bd
  have top:∀ y,P y→a≤al y→∃ z,P z∧a≤al z∧(z=y∨R z y)∧∀ z',P z'→a≤al z'→R z' z→False:=fun y hp ha=>c.top N y (fun x hx=>by have:=bd x hx; omega) (c.vR (hD y hp ha)).2 hp ha
  have y0:∀ y,P y→a≤al y→(∀ z',P z'→a≤al z'→R z' y→False)→y∈S D:=fun y hp ha hy=>c.s3 (hD y hp ha) fun z h1 h2=>hy z (hPD z h1) (by have:=c.dn h2; omega) h2
  intro m
  induction m with
  | zero =>
    intro x hx hb y hp ha
    obtain ⟨hv,e⟩:=hB x hb
    rcases e with rfl | e
    · exact hD y hp ha
    · omega
  | succ m ih =>
    intro x hx hb y hp ha
    obtain ⟨hv,e⟩:=hB x hb
    rcases e with rfl | e
    · exact hD y hp ha
    · by_cases q:∃ w,R x w∧Bk w
      · obtain ⟨w,h1,h2⟩:=q
        have:=c.dn h1
        exact c.tr h1 (ih w (by omega) h2 y hp ha)
      · have fol:∀ w,R x w→a≤al w→P w:=fun w h1 h2=>(hf x w hb h1 h2).resolve_right fun z=>q ⟨w,h1,z⟩
        have vD:V D:=(c.vR (hD y hp ha)).1
        have sub:=lex_sub (a:=(a:Int)) (c.fall x) (c.fall D) (c.lex hv vD e) fun v hv' hav hu=>by
          obtain ⟨w,hw,rfl⟩:=fallA_mem.mp hv'
          have hRw:=c.s1 hw
          have hPw:=fol w hRw (by omega)
          refine fallA_mem.mpr ⟨w,y0 w hPw (by omega) fun z' h1 h2 h3=>?_,rfl⟩
          obtain ⟨z,g1,g2,g3,g4⟩:=top z' h1 h2
          have hzw:R z w:=by
            rcases g3 with rfl | g3
            · exact h3
            · exact c.tr g3 h3
          have hz:=y0 z g1 g2 g4
          have hlt:=c.dn hzw
          obtain ⟨z2,k1,k2⟩:=fallA_mem.mp (hu ((al z:Nat):Int) (fallA_mem.mpr ⟨z,hz,rfl⟩) (by omega))
          have:z=z2:=c.inj (c.vR (c.s1 hz)).2 (c.vR (c.s1 k1)).2 (by omega)
          rw [← this] at k1
          exact c.s2 hw (c.s1 k1) hzw
        obtain ⟨z,g1,g2,g3,g4⟩:=top y hp ha
        have hz:=y0 z g1 g2 g4
        obtain ⟨z2,k1,k2⟩:=fallA_mem.mp (sub ((al z:Nat):Int) (fallA_mem.mpr ⟨z,hz,rfl⟩) (by omega))
        have:z=z2:=c.inj (c.vR (c.s1 hz)).2 (c.vR (c.s1 k1)).2 (by omega)
        rw [← this] at k1
        rcases g3 with rfl | g3
        · exact c.s1 k1
        · exact c.tr (c.s1 k1) g3
theorem bestBy_min {α:Type} {lt:α→α→Bool} (h1:∀ a b,lt a b=true→lt b a=false) (h2:∀ a b c,lt b a=false→lt c b=false→lt c a=false):∀ {b:α} {l:List α},∀ v∈b::l,lt v (bestBy lt b l)=false
  | b,[]=>fun v hv=>by
    rw [List.mem_singleton.mp hv]
    show lt b b=false
    cases e:lt b b with
    | false=>rfl
    | true=>rw [h1 _ _ e] at e; cases e
  | b,x::r=>fun v hv=>by
    have ir:∀ a,lt a a=false:=fun a=>by
      cases e:lt a a with
      | false=>rfl
      | true=>rw [h1 _ _ e] at e; cases e
    have ih:=bestBy_min h1 h2 (b:=if lt x b=true then x else b) (l:=r)
    show lt v (bestBy lt (if lt x b=true then x else b) r)=false
    have hb:=ih _ List.mem_cons_self
    cases e:lt x b with
    | true =>
      rw [e] at ih hb
      simp only [if_true] at ih hb ⊢
      rcases List.mem_cons.mp hv with rfl | hv
      · exact h2 _ _ _ hb (h1 _ _ e)
      · exact ih v hv
    | false =>
      rw [e] at ih hb
      simp only [Bool.false_eq_true,if_false] at ih hb ⊢
      rcases List.mem_cons.mp hv with rfl | hv
      · exact hb
      · rcases List.mem_cons.mp hv with rfl | hv
        · exact h2 _ _ _ hb e
        · exact ih v (List.mem_cons_of_mem _ hv)
theorem kLt_as (a b:List Int×Nat) (h:kLt a b=true):kLt b a=false:=by
  unfold kLt at h ⊢
  by_cases c:a.1=b.1
  · rw [if_pos c] at h; rw [if_pos c.symm]
    have:=of_decide_eq_true h
    exact decide_eq_false (by omega)
  · rw [if_neg c] at h; rw [if_neg (Ne.symm c)]
    exact lex_as _ _ h
theorem kLt_tr (a b c:List Int×Nat) (h1:kLt b a=false) (h2:kLt c b=false):kLt c a=false:=by
  unfold kLt at h1 h2 ⊢
  by_cases e1:b.1=a.1
  · rw [if_pos e1] at h1
    by_cases e2:c.1=b.1
    · rw [if_pos e2] at h2
      rw [if_pos (e2.trans e1)]
      have:=of_decide_eq_false h1
      have:=of_decide_eq_false h2
      exact decide_eq_false (by omega)
    · rw [if_neg e2] at h2
      rw [if_neg fun z=>e2 (z.trans e1.symm),← e1]
      exact h2
  · rw [if_neg e1] at h1
    by_cases e2:c.1=b.1
    · rw [if_neg fun z=>e1 (e2.symm.trans z),e2]
      exact h1
    · rw [if_neg e2] at h2
      have h3:=lex_tr _ _ _ h1 h2
      by_cases e3:c.1=a.1
      · exfalso
        rw [e3] at h2
        exact e1 (lex_eq _ _ h1 h2)
      · rw [if_neg e3]; exact h3
theorem head_lt:∀ {xs ys:List Int} {v:Int},xs.Pairwise (fun x y=>y<x)→v∈xs→(∀ u∈ys,u<v)→L2.lexLt xs ys=false
  | [],_,_,_,h,_=>by cases h
  | _::_,[],_,_,_,_=>rfl
  | x::xs,y::ys,v,dx,hv,hy=>by
    have hx:v≤x:=by
      rcases List.mem_cons.mp hv with e | hv
      · omega
      · have:=(List.pairwise_cons.mp dx).1 v hv; omega
    have hyx:=hy y List.mem_cons_self
    unfold L2.lexLt
    rw [if_neg (by omega)]
    exact decide_eq_false (by omega)
def alW (n:Nat) (S:List (List Nat)) (w:Nat):Nat:=(foundW n S).getD w 0
theorem al_pos {n:Nat} {S:List (List Nat)} (h:Onward n S) {w:Nat} (hw:w<n):1≤alW n S w:=by
  have:=(found_at h (m:=0) (Nat.zero_le _) hw).1
  rw [picks_zero] at this
  unfold alW
  have:¬ (foundW n S).getD w 0≤0:=fun z=>by have:=this.mp z; cases this
  omega
theorem al_le {n:Nat} {S:List (List Nat)} (h:Onward n S) {w:Nat} (hw:w<n):alW n S w≤n:=(found_at h (Nat.le_refl _) hw).1.mpr (picks_all h hw)
theorem al_pick {n:Nat} {S:List (List Nat)} (h:Onward n S) {w:Nat} (hw:w<n):∃ m,m<n∧alW n S w=m+1∧w=pickW n S (picks n S m):=by
  have h1:=al_pos h hw
  have h2:=al_le h hw
  refine ⟨alW n S w-1,by omega,by omega,?_⟩
  have hm:alW n S w-1<n:=by omega
  have pk:=found_pick h hm
  have pf:=(freeW_mem.mp (picks_free h hm)).1
  have nd:(foundW n S).Nodup:=by
    refine (found_perm h).nodup_iff.mp ?_
    rw [List.nodup_iff_pairwise_ne,List.pairwise_map]
    exact (List.nodup_iff_pairwise_ne.mp List.nodup_range).imp fun h z=>h (by omega)
  have len:=foundW_len n S
  refine nd_at nd (by omega) (by omega) ?_
  have e:(foundW n S).getD w 0=(foundW n S).getD (pickW n S (picks n S (alW n S w-1))) 0:=by
    rw [pk]
    show alW n S w=_
    omega
  rw [List.getD_eq_getElem?_getD,List.getElem?_eq_getElem (by omega),List.getD_eq_getElem?_getD,List.getElem?_eq_getElem (by omega)] at e
  exact e
theorem al_inj {n:Nat} {S:List (List Nat)} (h:Onward n S) {x y:Nat} (hx:x<n) (hy:y<n) (e:alW n S x=alW n S y):x=y:=by
  obtain ⟨m,_,e1,e2⟩:=al_pick h hx
  obtain ⟨m',_,e1',e2'⟩:=al_pick h hy
  have:m=m':=by omega
  rw [e2,e2',this]
theorem al_step {n:Nat} {S:List (List Nat)} (h:Onward n S) {w l:Nat} (hw:w<n) (hl:l∈S.getD w []):alW n S l<alW n S w:=by
  obtain ⟨m,hm,e1,e2⟩:=al_pick h hw
  obtain ⟨_,_,f3⟩:=freeW_mem.mp (picks_free h hm)
  rw [← e2] at f3
  have:=(found_at h (Nat.le_of_lt hm) (h.lt w hw l hl)).1.mpr (f3 l hl)
  unfold alW at e1 ⊢
  omega
theorem fall_key {n:Nat} {S:List (List Nat)} (w:Nat):fallA (alW n S) (fun w=>S.getD w []) w=keyW S (foundW n S) w:=by
  rw [keyW_eq]; rfl
theorem cg_of {n:Nat} {S:List (List Nat)} {M:Mat} (h:Onward n S) (sq:Sq M n) {rk:Nat→Nat} (up:Up rk M) (tr:∀ x y z,at2 M x y=true→at2 M y z=true→at2 M x z=true)
    (s0:∀ w,(S.getD w []).Nodup) (sm:∀ w,w<n→∀ l,l∈S.getD w []↔at2 M w l=true∧∀ c,at2 M w c=true→at2 M c l=false) (lt:∀ x y,at2 M x y=true→x<n∧y<n):CG (fun x y=>at2 M x y=true) (alW n S) (fun w=>S.getD w []) (fun w=>w<n):=by
  have out:∀ w l,l∈S.getD w []→w<n:=fun w l hl=>by
    by_cases c:w<n
    · exact c
    · rw [List.getD_eq_getElem?_getD,List.getElem?_eq_none (by rw [h.len]; omega)] at hl; cases hl
  have s1:∀ {w l},l∈S.getD w []→at2 M w l=true:=fun {w l} hl=>((sm w (out w l hl) l).mp hl).1
  have s3:∀ {w l},at2 M w l=true→(∀ z,at2 M w z=true→at2 M z l=true→False)→l∈S.getD w []:=fun {w l} e hz=>(sm w (lt _ _ e).1 l).mpr ⟨e,fun c hc=>by
    cases q:at2 M c l with
    | false=>rfl
    | true=>exact (hz c hc q).elim⟩
  have dn:∀ (m:Nat) {x y},rk y-rk x≤m→at2 M x y=true→alW n S y<alW n S x:=by
    intro m
    induction m with
    | zero=>intro x y hm e; have:=up x y e; omega
    | succ m ih =>
      intro x y hm e
      by_cases q:∃ z,at2 M x z=true∧at2 M z y=true
      · obtain ⟨z,q1,q2⟩:=q
        have r1:=up x z q1
        have r2:=up z y q2
        have:=ih (by omega) q1
        have:=ih (by omega) q2
        omega
      · exact al_step h (lt _ _ e).1 (s3 e fun z a b=>q ⟨z,a,b⟩)
  have dn':∀ {x y},at2 M x y=true→alW n S y<alW n S x:=fun {x y} e=>dn _ (Nat.le_refl _) e
  have c0:CG (fun x y=>at2 M x y=true) (alW n S) (fun w=>S.getD w []) (fun w=>w<n)→True:=fun _=>trivial
  have strict:∀ w,(fallA (alW n S) (fun w=>S.getD w []) w).Pairwise fun x y=>y<x:=fun w=>by
    have nd:((S.getD w []).map fun l=>((alW n S l:Nat):Int)).Nodup:=by
      rw [List.nodup_iff_pairwise_ne,List.pairwise_map]
      refine List.Pairwise.imp_of_mem (fun {a b} ha hb h' z=>h' (al_inj h (lt _ _ (s1 ha)).2 (lt _ _ (s1 hb)).2 (by omega))) (List.nodup_iff_pairwise_ne.mp (s0 w))
    have nd2:(fallA (alW n S) (fun w=>S.getD w []) w).Nodup:=(dnI_perm _).nodup_iff.mpr nd
    have h1:=dnI_dn ((S.getD w []).map fun l=>((alW n S l:Nat):Int))
    exact (h1.and (List.nodup_iff_pairwise_ne.mp nd2)).imp fun ⟨p,q⟩=>by omega
  refine ⟨fun {x y z} a b=>tr x y z a b,dn',fun hx hy e=>al_inj h hx hy e,s0,s1,fun {w l z} hl a b=>?_,s3,fun {x y} hx hy e=>?_,fun {x y} e=>lt x y e,n,fun x hx=>al_le h hx⟩
  · have:=((sm w (out w l hl) l).mp hl).2 z a
    rw [b] at this
    cases this
  · obtain ⟨m,hm,e1,e2⟩:=al_pick h hy
    have pf:=picks_free h hm
    have fx:=(found_at h (Nat.le_of_lt hm) hx).1
    have hxm:x∉picks n S m:=fun z=>by
      have:=fx.mpr z
      unfold alW at e e1
      omega
    by_cases q:x∈freeW n S (picks n S m)
    · have hk:kLt (keyW S (marksOf n (picks n S m)) x,x) (keyW S (marksOf n (picks n S m)) y,y)=false:=by
        rw [e2]
        rw [pickW_eq]
        cases ef:freeW n S (picks n S m) with
        | nil=>rw [ef] at q; cases q
        | cons z r =>
          rw [ef] at q
          exact bestBy_min (lt:=fun v b=>kLt (keyW S (marksOf n (picks n S m)) v,v) (keyW S (marksOf n (picks n S m)) b,b)) (fun a b=>kLt_as _ _) (fun a b c=>kLt_tr _ _ _) x q
      rw [← e2] at pf
      rw [← key_found h hm q,← key_found h hm pf] at hk
      rw [fall_key,fall_key]
      unfold kLt at hk
      dsimp only at hk
      by_cases c:keyW S (foundW n S) x=keyW S (foundW n S) y
      · rw [c]
        cases z:L2.lexLt (keyW S (foundW n S) y) (keyW S (foundW n S) y) with
        | false=>rfl
        | true=>have:=lex_as _ _ z; rw [z] at this; cases this
      · rw [if_neg c] at hk; exact hk
    · have:∃ l,l∈S.getD x []∧l∉picks n S m:=Classical.byContradiction fun z=>q (freeW_mem.mpr ⟨hx,hxm,fun l hl=>Classical.byContradiction fun y=>z ⟨l,hl,y⟩⟩)
      obtain ⟨l,hl,hlm⟩:=this
      have fl:=(found_at h (Nat.le_of_lt hm) (h.lt x hx l hl)).1
      refine head_lt (v:=((alW n S l:Nat):Int)) (strict x) (fallA_mem.mpr ⟨l,hl,rfl⟩) fun u hu=>?_
      obtain ⟨l',hl',rfl⟩:=fallA_mem.mp hu
      have:=al_step h hy hl'
      have:¬ (foundW n S).getD l 0≤m:=fun z=>hlm (fl.mp z)
      unfold alW at *
      omega
def lmk (Fo T:List Nat):Nat:=if T.length<2 then 0 else Fo.getD (T.getD 1 0) 0
theorem take_shape {Fo R T:List Nat} (e:T=(mkS Fo R).take 2) (h:T≠[]):(∃ a,T=[a])∨∃ a b,T=[a,b]∧Fo.getD b 0≤Fo.getD a 0:=by
  have dn:=mkS_dn Fo R
  cases q:mkS Fo R with
  | nil=>rw [q] at e; exact absurd e h
  | cons a r =>
    rw [q] at e dn
    cases r with
    | nil=>exact .inl ⟨a,e⟩
    | cons b r=>exact .inr ⟨a,b,e,(List.pairwise_cons.mp dn).1 b List.mem_cons_self⟩
theorem take_top {Fo R:List Nat} {z:Nat} (hz:z∈R) (hn:z∉(mkS Fo R).take 2):((mkS Fo R).take 2).length=2∧∀ v∈(mkS Fo R).take 2,Fo.getD z 0≤Fo.getD v 0:=by
  have dn:=mkS_dn Fo R
  have ho:=(mkS_perm Fo R).mem_iff.mpr hz
  have hd:z∈(mkS Fo R).drop 2:=by
    rw [← List.take_append_drop 2 (mkS Fo R)] at ho
    exact (List.mem_append.mp ho).resolve_left hn
  have hl:2<(mkS Fo R).length:=by have:=List.length_pos_of_mem hd; rw [List.length_drop] at this; omega
  refine ⟨by rw [List.length_take]; omega,fun v hv=>?_⟩
  rw [← List.take_append_drop 2 (mkS Fo R)] at dn
  exact (List.pairwise_append.mp dn).2.2 v hv z hd
abbrev Lw (M:Mat) (Fo:List Nat) (n j:Nat):List Nat:=lfP M Fo (List.range n) j
abbrev Tw (M:Mat) (Fo:List Nat) (n j:Nat):List Nat:=turnP M Fo (Lw M Fo n j)
def Dw (M:Mat) (Fo:List Nat) (n j:Nat):Nat:=(Tw M Fo n j).getD 0 0
structure Sch (M:Mat) (Fo:List Nat) (n k:Nat):Prop where
  up:∃ rk:Nat→Nat,Up rk M
  tr:∀ x y z,at2 M x y=true→at2 M y z=true→at2 M x z=true
  dn:∀ x y,at2 M x y=true→Fo.getD y 0<Fo.getD x 0
  inj:∀ x y,x<n→y<n→Fo.getD x 0=Fo.getD y 0→x=y
  pos:∀ x,x<n→1≤Fo.getD x 0
  sq:Sq M n
  ne:∀ j,j<k→Lw M Fo n j≠[]
section
variable {M:Mat} {Fo:List Nat} {n k:Nat}
theorem Sch.ok (h:Sch M Fo n k) (j:Nat):LfP M n (Lw M Fo n j):=lfP_ok (lfP_0 h.sq) j
theorem Lw_next {j w:Nat}:w∈Lw M Fo n (j+1)↔w∈Lw M Fo n j∧w∉Tw M Fo n j:=by
  show w∈(lfP M Fo (List.range n) j).filter _↔_
  rw [List.mem_filter,decide_eq_true_iff]
theorem Lw_sub {w s:Nat}:∀ d,w∈Lw M Fo n (s+d)→w∈Lw M Fo n s
  | 0,h=>h
  | d+1,h=>Lw_sub d (Lw_next.mp h).1
theorem Lw_le {w s t:Nat} (hst:s≤t) (h:w∈Lw M Fo n t):w∈Lw M Fo n s:=by
  obtain ⟨d,rfl⟩:∃ d,t=s+d:=⟨t-s,by omega⟩
  exact Lw_sub d h
theorem Tw_in {w t:Nat} (h:w∈Tw M Fo n t):w∈Lw M Fo n t:=turnP_left h
theorem Tw_dis {w s t:Nat} (h:w∈Tw M Fo n t) (hst:t<s) (hs:w∈Lw M Fo n s):False:=(Lw_next.mp (Lw_le (show t+1≤s by omega) hs)).2 h
theorem Sch.tne (h:Sch M Fo n k) {j:Nat} (hj:j<k):Tw M Fo n j≠[]:=by
  obtain ⟨rk,up⟩:=h.up
  exact turnP_ne (rdyP_ne up (h.ne j hj))
theorem Sch.shape (h:Sch M Fo n k) {j:Nat} (hj:j<k):(∃ a,Tw M Fo n j=[a])∨∃ a b,Tw M Fo n j=[a,b]∧Fo.getD b 0≤Fo.getD a 0:=take_shape rfl (h.tne hj)
theorem Sch.din (h:Sch M Fo n k) {j:Nat} (hj:j<k):Dw M Fo n j∈Tw M Fo n j:=by
  unfold Dw
  cases e:Tw M Fo n j with
  | nil=>exact absurd e (h.tne hj)
  | cons a r=>exact List.mem_cons_self
theorem Sch.ready (h:Sch M Fo n k) {j w:Nat} (hw:w∈Lw M Fo n j):w∈rdyP M (Lw M Fo n j)∨∃ z,z∈rdyP M (Lw M Fo n j)∧at2 M z w=true:=by
  obtain ⟨rk,up⟩:=h.up
  by_cases q:(Lw M Fo n j).filter (fun z=>at2 M z w)=[]
  · refine .inl (rdyP_mem.mpr ⟨hw,fun f hf=>?_⟩)
    cases e:at2 M f w with
    | false=>rfl
    | true =>
      have:f∈(Lw M Fo n j).filter (fun z=>at2 M z w):=List.mem_filter.mpr ⟨hf,e⟩
      rw [q] at this; cases this
  · obtain ⟨z,hz,mn⟩:=min_of rk q
    obtain ⟨z1,z2⟩:=List.mem_filter.mp hz
    refine .inr ⟨z,rdyP_mem.mpr ⟨z1,fun f hf=>?_⟩,z2⟩
    cases e:at2 M f z with
    | false=>rfl
    | true =>
      have:=mn f (List.mem_filter.mpr ⟨hf,h.tr _ _ _ e z2⟩)
      have:=up f z e
      omega
theorem Sch.ahead (h:Sch M Fo n k) {j y:Nat} (hj:j<k) (hy:y∈Lw M Fo n (j+1)) (hl:lmk Fo (Tw M Fo n j)<Fo.getD y 0):at2 M (Dw M Fo n j) y=true:=by
  obtain ⟨y1,y2⟩:=Lw_next.mp hy
  have low:∀ z,z∈rdyP M (Lw M Fo n j)→z∉Tw M Fo n j→Fo.getD z 0≤lmk Fo (Tw M Fo n j):=fun z hz hn=>by
    obtain ⟨t1,t2⟩:=take_top hz hn
    have t1:(Tw M Fo n j).length=2:=t1
    unfold lmk
    rw [if_neg (by omega)]
    refine t2 _ ?_
    show (Tw M Fo n j).getD 1 0∈Tw M Fo n j
    rw [List.getD_eq_getElem?_getD,List.getElem?_eq_getElem (by omega)]
    exact List.getElem_mem _
  rcases h.ready y1 with q | ⟨z,q1,q2⟩
  · have:=low y q y2
    omega
  · have hd:=h.dn _ _ q2
    have hz:z∈Tw M Fo n j:=Classical.byContradiction fun q=>by have:=low z q1 q; omega
    have:z=Dw M Fo n j:=by
      unfold Dw
      unfold lmk at hl
      rcases h.shape hj with ⟨a,e⟩ | ⟨a,b,e,hb⟩
      · rw [e] at hz ⊢
        exact List.mem_singleton.mp hz
      · rw [e] at hz hl ⊢
        rcases List.mem_cons.mp hz with e' | hz
        · exact e'
        · exfalso
          rw [List.mem_singleton.mp hz] at hd
          have hl:Fo.getD b 0<Fo.getD y 0:=hl
          omega
    rw [← this]
    exact q2
end
inductive Cuts (dm lm:Nat→Nat):Nat→List (Nat×Nat)→Prop
  | nil:Cuts dm lm 0 []
  | cons {s d:Nat} {l:List (Nat×Nat)}:s≤d→(∀ t,s≤t→t<d→dm d<lm t)→(s=0∨lm (s-1)≤dm d)→Cuts dm lm s l→Cuts dm lm (d+1) ((s,d)::l)
def blk (T:Nat→List Nat) (s d:Nat):List Nat:=((List.range (d-s)).map fun i=>T (s+i)).flatten++[(T d).getD 0 0]
theorem blk_mem {T:Nat→List Nat} {s d x:Nat}:x∈blk T s d↔(∃ t,s≤t∧t<d∧x∈T t)∨x=(T d).getD 0 0:=by
  unfold blk
  rw [List.mem_append,List.mem_singleton,List.mem_flatten]
  constructor
  · rintro (⟨l,hl,hx⟩ | e)
    · obtain ⟨i,hi,rfl⟩:=List.mem_map.mp hl
      have:=List.mem_range.mp hi
      exact .inl ⟨s+i,by omega,by omega,hx⟩
    · exact .inr e
  · rintro (⟨t,h1,h2,hx⟩ | e)
    · refine .inl ⟨T t,List.mem_map.mpr ⟨t-s,List.mem_range.mpr (by omega),?_⟩,hx⟩
      show T (s+(t-s))=T t
      congr 1
      omega
    · exact .inr e
section
variable {M:Mat} {Fo:List Nat} {n k:Nat}
theorem Sch.cross (h:Sch M Fo n k) {S:Nat→List Nat} (c:CG (fun x y=>at2 M x y=true) (fun w=>Fo.getD w 0) S (fun w=>w<n)) {s d e:Nat} (hsd:s≤d) (hde:d<e) (hek:e<k)
    (A2:∀ t,s≤t→t<d→Fo.getD (Dw M Fo n d) 0<lmk Fo (Tw M Fo n t)) (A1:∀ t,d+1≤t→t<e→Fo.getD (Dw M Fo n e) 0<lmk Fo (Tw M Fo n t)) (B:lmk Fo (Tw M Fo n d)≤Fo.getD (Dw M Fo n e) 0) {x y:Nat} (hx:x∈blk (Tw M Fo n) s d) (hy:y∈blk (Tw M Fo n) (d+1) e):at2 M x y=true:=by
  have hd:d<k:=by omega
  have above:∀ t a w,t<k→a<lmk Fo (Tw M Fo n t)→w∈Tw M Fo n t→a<Fo.getD w 0:=fun t a w ht ha hw=>by
    unfold lmk at ha
    rcases h.shape ht with ⟨p,e'⟩ | ⟨p,q,e',hq⟩
    · rw [e'] at ha
      exact absurd ha (by simp)
    · rw [e'] at ha hw
      have ha:a<Fo.getD q 0:=ha
      rcases List.mem_cons.mp hw with rfl | hw
      · omega
      · rw [List.mem_singleton.mp hw]; exact ha
  have eL:Dw M Fo n e∈Lw M Fo n (d+1):=Lw_le (show d+1≤e by omega) (Tw_in (h.din hek))
  have en:=(h.ok _).lt _ eL
  have B':lmk Fo (Tw M Fo n d)<Fo.getD (Dw M Fo n e) 0:=by
    have:=h.pos _ en
    unfold lmk at B ⊢
    rcases h.shape hd with ⟨p,e'⟩ | ⟨p,q,e',hq⟩
    · rw [e']; show 0 < _; omega
    · rw [e'] at B ⊢
      have B:Fo.getD q 0≤Fo.getD (Dw M Fo n e) 0:=B
      show Fo.getD q 0 < _
      have qT:q∈Tw M Fo n d:=by rw [e']; simp
      have qn:=(h.ok _).lt _ (Tw_in qT)
      by_cases z:Fo.getD q 0=Fo.getD (Dw M Fo n e) 0
      · have:=h.inj _ _ qn en z
        rw [this] at qT
        exact (Tw_dis qT (Nat.lt_succ_self d) eL).elim
      · omega
  have yy:y∈Lw M Fo n (d+1)∧Fo.getD (Dw M Fo n e) 0≤Fo.getD y 0:=by
    rcases blk_mem.mp hy with ⟨t,t1,t2,t3⟩ | e'
    · exact ⟨Lw_le t1 (Tw_in t3),Nat.le_of_lt (above t _ y (by omega) (A1 t t1 t2) t3)⟩
    · have e':y=Dw M Fo n e:=e'
      rw [e']
      exact ⟨eL,Nat.le_refl _⟩
  have dL:=Tw_in (h.din hd)
  have inS:∀ x,x∈blk (Tw M Fo n) s d→x∈Lw M Fo n s:=fun x hx=>by
    rcases blk_mem.mp hx with ⟨t,t1,t2,t3⟩ | e'
    · exact Lw_le t1 (Tw_in t3)
    · have e':x=Dw M Fo n d:=e'
      rw [e']; exact Lw_le hsd dL
  refine c.cross (P:=fun w=>w∈Lw M Fo n (d+1)) (Bk:=fun w=>w∈blk (Tw M Fo n) s d) (D:=Dw M Fo n d) (a:=Fo.getD (Dw M Fo n e) 0) (fun y h1 h2=>h.ahead hd h1 (by omega)) (fun w hw=>?_) (fun x hx=>⟨(h.ok _).lt _ (inS x hx),?_⟩) (fun x w hx hw ha=>?_) _ x (Nat.le_refl _) hx y yy.1 yy.2
  · refine Lw_next.mpr ⟨(h.ok d).cl _ dL w hw,fun z=>?_⟩
    have:=(rdyP_mem.mp (turnP_mem z)).2 _ dL
    rw [hw] at this; cases this
  · rcases blk_mem.mp hx with ⟨t,t1,t2,t3⟩ | e'
    · exact .inr (above t _ x (by omega) (A2 t t1 t2) t3)
    · exact .inl e'
  · by_cases q:w∈Lw M Fo n (d+1)
    · exact .inl q
    · right
      have wS:=(h.ok s).cl x (inS x hx) w hw
      have find:∀ m t,t+m=d+1→w∈Lw M Fo n t→∃ u,t≤u∧u≤d∧w∈Tw M Fo n u:=by
        intro m
        induction m with
        | zero=>intro t ht hwt; rw [show t=d+1 by omega] at hwt; exact absurd hwt q
        | succ m ih =>
          intro t ht hwt
          by_cases z:w∈Tw M Fo n t
          · exact ⟨t,Nat.le_refl _,by omega,z⟩
          · obtain ⟨u,u1,u2,u3⟩:=ih (t+1) (by omega) (Lw_next.mpr ⟨hwt,z⟩)
            exact ⟨u,by omega,u2,u3⟩
      obtain ⟨u,u1,u2,u3⟩:=find (d+1-s) s (by omega) wS
      by_cases z:u<d
      · exact blk_mem.mpr (.inl ⟨u,u1,z,u3⟩)
      · have:u=d:=by omega
        subst this
        refine blk_mem.mpr (.inr ?_)
        rcases h.shape hd with ⟨p,e'⟩ | ⟨p,r,e',hr⟩
        · rw [e'] at u3 ⊢
          exact List.mem_singleton.mp u3
        · rw [e'] at u3 ⊢
          rcases List.mem_cons.mp u3 with e2 | u3
          · exact e2
          · exfalso
            unfold lmk at B'
            rw [e'] at B'
            have B':Fo.getD r 0<Fo.getD (Dw M Fo n e) 0:=B'
            rw [List.mem_singleton.mp u3] at ha
            omega
theorem Sch.two (h:Sch M Fo n k) {t a:Nat} (ht:t<k) (ha:a<lmk Fo (Tw M Fo n t)):(Tw M Fo n t).length=2:=by
  unfold lmk at ha
  have:=turnP_len M Fo (Lw M Fo n t)
  by_cases c:(Tw M Fo n t).length<2
  · rw [if_pos c] at ha; omega
  · have:(Tw M Fo n t).length≤2:=this
    omega
theorem flat_two {T:Nat→List Nat} {s:Nat}:∀ m,(∀ i,i<m→(T (s+i)).length=2)→(((List.range m).map fun i=>T (s+i)).flatten).length=2*m
  | 0,_=>rfl
  | m+1,h=>by
    rw [List.range_succ,List.map_append,List.flatten_append,List.length_append,flat_two m fun i hi=>h i (by omega)]
    have:=h m (by omega)
    show 2*m+([T (s+m)].flatten).length=_
    rw [List.flatten_singleton,this]
    omega
theorem Sch.blk_len (h:Sch M Fo n k) {s d:Nat} (hsd:s≤d) (hd:d<k) (A:∀ t,s≤t→t<d→Fo.getD (Dw M Fo n d) 0<lmk Fo (Tw M Fo n t)):(blk (Tw M Fo n) s d).length=2*(d-s)+1:=by
  unfold blk
  rw [List.length_append,flat_two (d-s) fun i hi=>h.two (by omega) (A (s+i) (by omega) (by omega))]
  rfl
theorem flat_add (T:Nat→List Nat) (s:Nat):∀ m,((List.range (s+m)).map T).flatten=((List.range s).map T).flatten++((List.range m).map fun i=>T (s+i)).flatten
  | 0=>by simp
  | m+1=>by
    rw [show s+(m+1)=(s+m)+1 by omega,List.range_succ,List.map_append,List.flatten_append,flat_add T s m,List.range_succ,List.map_append,List.flatten_append,List.append_assoc]
    rfl
theorem Sch.sub (h:Sch M Fo n k) {e:Nat} {l:List (Nat×Nat)} (c:Cuts (fun d=>Fo.getD (Dw M Fo n d) 0) (fun t=>lmk Fo (Tw M Fo n t)) e l):e≤k→((l.map fun p=>blk (Tw M Fo n) p.1 p.2).reverse.flatten).Sublist ((List.range e).map (Tw M Fo n)).flatten:=by
  induction c with
  | nil=>intro _; exact List.Sublist.refl _
  | @cons s d l hsd _ _ _ ih =>
    intro hk
    rw [List.map_cons,List.reverse_cons,List.flatten_append,List.flatten_singleton]
    have e1:((List.range (d+1)).map (Tw M Fo n)).flatten=((List.range s).map (Tw M Fo n)).flatten++(((List.range (d-s)).map fun i=>Tw M Fo n (s+i)).flatten++Tw M Fo n d):=by
      rw [List.range_succ,List.map_append,List.flatten_append]
      have:d=s+(d-s):=by omega
      rw [show (List.range d).map (Tw M Fo n)=(List.range (s+(d-s))).map (Tw M Fo n) by rw [← this],flat_add,List.append_assoc]
      simp
    rw [e1]
    refine (ih (by omega)).append ?_
    unfold blk
    refine (List.Sublist.refl _).append ?_
    exact List.singleton_sublist.mpr (h.din (j:=d) (by omega))
theorem Sch.sum (h:Sch M Fo n k) {e:Nat} {l:List (Nat×Nat)} (c:Cuts (fun d=>Fo.getD (Dw M Fo n d) 0) (fun t=>lmk Fo (Tw M Fo n t)) e l):e≤k→(l.map fun p=>((blk (Tw M Fo n) p.1 p.2).length+1) / 2).sum=e:=by
  induction c with
  | nil=>intro _; rfl
  | @cons s d l hsd A _ _ ih =>
    intro hk
    rw [List.map_cons,List.sum_cons,ih (by omega),h.blk_len hsd (by omega) A]
    omega
theorem Sch.adj (h:Sch M Fo n k) {S:Nat→List Nat} (cg:CG (fun x y=>at2 M x y=true) (fun w=>Fo.getD w 0) S (fun w=>w<n)) {e:Nat} {l:List (Nat×Nat)} (c:Cuts (fun d=>Fo.getD (Dw M Fo n d) 0) (fun t=>lmk Fo (Tw M Fo n t)) e l):e≤k→∀ (i:Nat) (p q:Nat×Nat),l[i]?=some p→l[i+1]?=some q→∀ x∈blk (Tw M Fo n) q.1 q.2,∀ y∈blk (Tw M Fo n) p.1 p.2,at2 M x y=true:=by
  induction c with
  | nil=>intro _ i p q h1; cases h1
  | @cons s d l hsd A B cc ih =>
    intro hk i p q h1 h2 x hx y hy
    cases i with
    | succ i=>exact ih (by omega) i p q (by simpa using h1) (by simpa using h2) x hx y hy
    | zero =>
      cases h1
      have h2:l[0]?=some q:=by simpa using h2
      cases cc with
      | nil=>cases h2
      | @cons s2 d2 l2 hsd2 A2 _ _ =>
        cases h2
        refine h.cross cg (s:=s2) (d:=d2) (e:=d) hsd2 (by omega) (by omega) A2 A ?_ hx hy
        rcases B with B | B
        · omega
        · exact B
end
theorem lenN (T:List Nat):lenD (natsD T)=some (.int (T.length:Int)):=by
  show some (D.int (((T.map natD).length:Nat):Int))=_
  rw [List.length_map]
theorem least_ev {T Fo:List Nat} (h:∀ w∈T,w<Fo.length):F_least_mark [natsD T,natsD Fo]=some (natD (lmk Fo T)):=by
  refine run_eqF F_least_mark_def ?_
  rw [st_least_mark]
  unfold B_least_mark
  refine wp_seq (wp_ifp (ev_t (ev_lt (ev_f1 rfl (lenN T)) rfl)) (fun c=>?_) fun c=>wp_pass ?_)
  · refine wp_ret rfl ?_
    unfold lmk
    rw [if_pos (by omega)]; rfl
  · have h1:T.getD 1 0∈T:=by rw [List.getD_eq_getElem?_getD,List.getElem?_eq_getElem (by omega)]; exact List.getElem_mem _
    refine wp_ret (ev_scal (ev_ix rfl (ev_ix rfl rfl (ixL (a:=1) (nat_get (by omega)))) (ixL (nat_get (h _ h1)))) rfl) ?_
    unfold lmk
    rw [if_neg (by omega)]
section
variable {M:Mat} {Fo:List Nat} {n k:Nat}
theorem TD_get {j:Nat} (hj:j<k):((List.range k).map fun j=>natsD (Tw M Fo n j))[j]?=some (natsD (Tw M Fo n j)):=by
  rw [List.getElem?_map,List.getElem?_range hj]; rfl
theorem Sch.tlt (h:Sch M Fo n k) (hFl:Fo.length=n) {j w:Nat} (hw:w∈Tw M Fo n j):w<Fo.length:=by rw [hFl]; exact (h.ok j).lt w (Tw_in hw)
theorem Sch.dget (h:Sch M Fo n k) {j:Nat} (hj:j<k):0<(Tw M Fo n j).length:=List.length_pos_iff.mpr (h.tne hj)
theorem cut_ev (h:Sch M Fo n k) (hFl:Fo.length=n) {d:Nat} (hd:d<k):∃ s:Nat,s≤d∧(∀ t,s≤t→t<d→Fo.getD (Dw M Fo n d) 0<lmk Fo (Tw M Fo n t))∧(s=0∨lmk Fo (Tw M Fo n (s-1))≤Fo.getD (Dw M Fo n d) 0)∧F_last_cut [.lst ((List.range k).map fun j=>natsD (Tw M Fo n j)),natsD Fo,.int (d:Int)]=some (.int ((s:Int)-1)):=by
  have tget:=fun {j:Nat} (hj:j<k)=>TD_get (M:=M) (Fo:=Fo) (n:=n) hj
  generalize hTD:((List.range k).map fun j=>natsD (Tw M Fo n j))=TD at *
  obtain ⟨x,e,s,rfl,r⟩:=run_ofF F_last_cut_def (ds:=[.lst TD,natsD Fo,.int (d:Int)]) (P:=fun x=>∃ s:Nat,x=.int ((s:Int)-1)∧s≤d∧(∀ t,s≤t→t<d→Fo.getD (Dw M Fo n d) 0<lmk Fo (Tw M Fo n t))∧(s=0∨lmk Fo (Tw M Fo n (s-1))≤Fo.getD (Dw M Fo n d) 0)) (by
    rw [st_last_cut]
    unfold B_last_cut
    refine wp_seq (wp_set (d:=.int ((d:Int)-1)) (ev_sub rfl rfl) ?_)
    walk_at "st"
    refine wp_seq (wp_while (fun m ρ=>∃ s:Nat,m=s∧s≤d∧(∀ t,s≤t→t<d→Fo.getD (Dw M Fo n d) 0<lmk Fo (Tw M Fo n t))∧ρ=[.bo (.lst TD),.bo (natsD Fo),.bo (.int (d:Int)),.pu (.int ((s:Int)-1))]) d ⟨d,rfl,Nat.le_refl _,fun t h1 h2=>absurd h2 (by omega),rfl⟩ ?_)
    rintro m ρ ⟨s,rfl,hsd,hA,rfl⟩
    cases m with
    | zero =>
      refine ⟨_,ev_and (y:=false) (ev_t (ev_ge rfl rfl)) fun c=>?_,fun c=>?_,fun c=>?_⟩
      · have c:=of_decide_eq_true c
        exact absurd c (by omega)
      · rw [Bool.and_false] at c; cases c
      · exact wp_ret rfl ⟨0,rfl,by omega,hA,.inl rfl⟩
    | succ s =>
      have es:(((s+1:Nat):Int)-1)=(s:Int):=by omega
      rw [es]
      have hs:s<k:=by omega
      refine ⟨_,ev_and (ev_t (ev_ge rfl rfl)) fun _=>ev_t (ev_gt (ev_call (ev_cons (ev_ix rfl rfl (ixL (tget hs))) (ev_cons rfl rfl)) (least_ev fun w hw=>h.tlt hFl hw)) (ev_ix rfl (ev_ix (ev_ix rfl rfl (ixL (tget hd))) rfl (ixL (a:=0) (nat_get (h.dget hd)))) (ixL (nat_get (h.tlt hFl (h.din hd)))))),fun c=>?_,fun c=>?_⟩
      · rw [Bool.and_eq_true,decide_eq_true_iff,decide_eq_true_iff] at c
        refine wp_aug (x:=(s:Int)) (y:=1) rfl rfl ?_
        walk_at "st"
        refine ⟨s,by omega,s,rfl,by omega,fun t h1 h2=>?_,rfl⟩
        by_cases z:t=s
        · rw [z]
          have:=c.2
          unfold Dw
          omega
        · exact hA t (by omega) h2
      · rw [decide_eq_true (show (0:Int)≤(s:Int) by omega),Bool.true_and] at c
        have c:=of_decide_eq_false c
        refine wp_ret rfl ⟨s+1,by rw [es],hsd,hA,.inr ?_⟩
        show lmk Fo (Tw M Fo n s)≤Fo.getD (Dw M Fo n d) 0
        unfold Dw
        omega)
  exact ⟨s,r.1,r.2.1,r.2.2,e⟩
theorem flat_le {T:Nat→List Nat} {s:Nat}:∀ m,(∀ i,(T i).length≤2)→(((List.range m).map fun i=>T (s+i)).flatten).length≤2*m
  | 0,_=>Nat.le_refl _
  | m+1,h=>by
    have ih:=flat_le (T:=T) (s:=s) m h
    rw [List.range_succ,List.map_append,List.flatten_append,List.length_append]
    have:=h (s+m)
    show _+([T (s+m)].flatten).length≤_
    rw [List.flatten_singleton]
    omega
theorem blk_ev (h:Sch M Fo n k) (hk:k≤14) {s d:Nat} (hsd:s≤d) (hd:d<k):F_block_between [.lst ((List.range k).map fun j=>natsD (Tw M Fo n j)),.int ((s:Int)-1),.int (d:Int)]=some (natsD (blk (Tw M Fo n) s d)):=by
  have hline:sizeLine=16777216:=sizeLine_eq
  have tget:=fun {j:Nat} (hj:j<k)=>TD_get (M:=M) (Fo:=Fo) (n:=n) hj
  have ecut:cutL ((List.range k).map fun j=>natsD (Tw M Fo n j)) (some ((s:Nat):Int)) (some ((d:Nat):Int))=(List.range (d-s)).map fun i=>natsD (Tw M Fo n (s+i)):=by
    unfold cutL
    rw [HT.sIx_nat,HT.sIx_nat,List.length_map,List.length_range,Nat.min_eq_left (by omega),Nat.min_eq_left (by omega)]
    refine List.ext_getElem? fun i=>?_
    by_cases hi:i<d-s
    · rw [List.getElem?_take,if_pos hi,List.getElem?_drop,tget (by omega),List.getElem?_map,List.getElem?_range hi]; rfl
    · rw [List.getElem?_take,if_neg hi,List.getElem?_map,List.getElem?_eq_none (by rw [List.length_range]; omega)]; rfl
  generalize hTD:((List.range k).map fun j=>natsD (Tw M Fo n j))=TD at *
  have hle:=fun i=>turnP_len M Fo (Lw M Fo n i)
  refine run_eqF F_block_between_def ?_
  rw [st_block_between]
  unfold B_block_between
  refine wp_seq (wp_setO (ds:=[]) rfl (by simp only [List.length_cons,List.length_nil]; omega) ?_)
  walk_at "st"
  refine wp_seq (wp_for (ds:=(List.range (d-s)).map fun i=>natsD (Tw M Fo n (s+i))) (ev_asL (d:=.lst ((List.range (d-s)).map fun i=>natsD (Tw M Fo n (s+i)))) (ev_lst ?_) rfl) (fun j ρ=>∃ v4,ρ=[.pu (.lst TD),.bo (.int ((s:Int)-1)),.bo (.int (d:Int)),.ol ((((List.range j).map fun i=>Tw M Fo n (s+i)).flatten).map natD),v4]) ⟨_,rfl⟩ ?_ ?_)
  · rw [ev_sl (ds:=TD) (ev_asL (d:=.lst TD) rfl rfl) (ev_oSome (i:=(s:Int)) (by rw [ev_add (i:=(s:Int)-1) (j:=1) rfl rfl,Int.sub_add_cancel])) (ev_oSome rfl),ecut]
  · rintro j x ρ hx ⟨v4,rfl⟩
    rw [List.getElem?_map] at hx
    by_cases hj:j<d-s
    · rw [List.getElem?_range hj] at hx
      cases hx
      refine ⟨_,rfl,?_⟩
      dsimp only [gN,slm,List.set_cons_succ,List.set_cons_zero]
      have l1:=flat_le (T:=Tw M Fo n) (s:=s) j hle
      have l2:=hle (s+j)
      refine wp_ext (es:=(Tw M Fo n (s+j)).map natD) rfl rfl (by rw [List.length_map,List.length_map]; have:(Tw M Fo n (s+j)).length≤2:=l2; omega) ?_
      dsimp only [List.set_cons_succ,List.set_cons_zero]
      have e:(((List.range j).map fun i=>Tw M Fo n (s+i)).flatten).map natD++(Tw M Fo n (s+j)).map natD=(((List.range (j+1)).map fun i=>Tw M Fo n (s+i)).flatten).map natD:=by
        rw [List.range_succ,List.map_append,List.flatten_append,List.map_append]
        simp
      rw [e]
      exact ⟨_,rfl⟩
    · rw [List.getElem?_eq_none (by simp; omega)] at hx; cases hx
  · rintro ρ ⟨v4,rfl⟩
    rw [List.length_map,List.length_range]
    have l1:=flat_le (T:=Tw M Fo n) (s:=s) (d-s) hle
    refine wp_seq (wp_app (d:=natD ((Tw M Fo n d).getD 0 0)) rfl (ev_ix (ev_ix rfl rfl (ixL (tget hd))) rfl (ixL (a:=0) (nat_get (h.dget hd)))) (by rw [List.length_map]; omega) ?_)
    dsimp only [List.set_cons_succ,List.set_cons_zero]
    walk_at "go"
    refine wp_ret rfl ?_
    show D.lst _=D.lst _
    unfold blk
    rw [List.map_append]
    rfl
theorem why_ev {ps:List (Nat×Nat)} (h:Sch M Fo n k) (hFl:Fo.length=n) (hk:k≤14) (em:F_marks [.int (n:Int),needsD ps]=some (natsD Fo)) (e5:F_pair_turns [.int (n:Int),needsD ps]=some (.lst ((List.range k).map fun j=>natsD (Tw M Fo n j)))):∃ l,Cuts (fun d=>Fo.getD (Dw M Fo n d) 0) (fun t=>lmk Fo (Tw M Fo n t)) k l∧F_why_pairs [.int (n:Int),needsD ps]=some (.lst ((l.map fun p=>natsD (blk (Tw M Fo n) p.1 p.2)).reverse)):=by
  have hline:sizeLine=16777216:=sizeLine_eq
  have cut:=fun {d:Nat} (hd:d<k)=>cut_ev h hFl hd
  have bev:=fun {s d:Nat} (hsd:s≤d) (hd:d<k)=>blk_ev h hk hsd hd
  have hlen:lenD (.lst ((List.range k).map fun j=>natsD (Tw M Fo n j)))=some (.int (k:Int)):=by
    show some (D.int ((((List.range k).map fun j=>natsD (Tw M Fo n j)).length:Nat):Int))=_
    rw [List.length_map,List.length_range]
  generalize hTD:((List.range k).map fun j=>natsD (Tw M Fo n j))=TD at *
  obtain ⟨x,e,l,hc,rfl⟩:=run_ofF F_why_pairs_def (ds:=[.int (n:Int),needsD ps]) (P:=fun x=>∃ l,Cuts (fun d=>Fo.getD (Dw M Fo n d) 0) (fun t=>lmk Fo (Tw M Fo n t)) k l∧x=.lst ((l.map fun p=>natsD (blk (Tw M Fo n) p.1 p.2)).reverse)) (by
    rw [st_why_pairs]
    unfold B_why_pairs
    refine wp_seq (wp_set (ev_call (ev_cons rfl (ev_cons rfl rfl)) em) ?_)
    walk_at "st"
    refine wp_seq (wp_set (ev_call (ev_cons rfl (ev_cons rfl rfl)) e5) ?_)
    walk_at "st"
    refine wp_seq (wp_setO (ds:=[]) rfl (by simp only [List.length_cons,List.length_nil]; omega) ?_)
    walk_at "st"
    refine wp_seq (wp_set (d:=.int ((k:Int)-1)) (ev_sub (ev_f1 rfl hlen) rfl) ?_)
    walk_at "st"
    refine wp_seq (wp_while (fun m ρ=>∃ (e:Nat) (l:List (Nat×Nat)) (v6:Sl),m=e∧l.length+e≤k∧(∀ l',Cuts (fun d=>Fo.getD (Dw M Fo n d) 0) (fun t=>lmk Fo (Tw M Fo n t)) e l'→Cuts (fun d=>Fo.getD (Dw M Fo n d) 0) (fun t=>lmk Fo (Tw M Fo n t)) k (l++l'))∧ρ=[.bo (.int (n:Int)),.bo (needsD ps),.pu (natsD Fo),.pu (.lst TD),.ol (l.map fun p=>natsD (blk (Tw M Fo n) p.1 p.2)),.pu (.int ((e:Int)-1)),v6]) k ⟨k,[],_,rfl,by simp,fun l' h=>h,rfl⟩ ?_)
    rintro m ρ ⟨e,l,v6,rfl,hl,hc,rfl⟩
    cases m with
    | zero =>
      refine ⟨false,by rw [ev_t (ev_ge rfl rfl)]; rfl,(fun z=>by cases z),fun _=>?_⟩
      refine wp_seq (wp_rev rfl ?_)
      dsimp only [List.set_cons_succ,List.set_cons_zero]
      walk_at "go"
      refine wp_ret rfl ⟨l,?_,rfl⟩
      have:=hc [] .nil
      rw [List.append_nil] at this
      exact this
    | succ d =>
      have es:(((d+1:Nat):Int)-1)=(d:Int):=by omega
      rw [es]
      have hd:d<k:=by omega
      refine ⟨true,by rw [ev_t (ev_ge rfl rfl),decide_eq_true (show (0:Int)≤(d:Int) by omega)],fun _=>?_,fun z=>by cases z⟩
      obtain ⟨s,hsd,hA,hB,ec⟩:=cut hd
      refine wp_seq (wp_set (ev_call (ev_cons rfl (ev_cons rfl (ev_cons rfl rfl))) ec) ?_)
      walk_at "st"
      refine wp_seq (wp_app (d:=natsD (blk (Tw M Fo n) s d)) rfl (ev_call (ev_cons rfl (ev_cons rfl (ev_cons rfl rfl))) (bev hsd hd)) (by rw [List.length_map]; omega) ?_)
      dsimp only [List.set_cons_succ,List.set_cons_zero]
      refine wp_set (d:=.int ((s:Int)-1)) rfl ?_
      walk_at "st"
      refine ⟨s,by omega,s,l++[(s,d)],.pu (.int ((s:Int)-1)),rfl,by rw [List.length_append]; simp; omega,fun l' hl'=>?_,?_⟩
      · rw [List.append_assoc]
        exact hc _ (.cons hsd hA hB hl')
      · rw [List.map_append]
        rfl)
  exact ⟨l,hc,e⟩
end
theorem near_mem {n:Nat} {ps:List (Nat×Nat)} (h:Ord n ps) {w:Nat} (hw:w<n) (l:Nat):l∈(nearL n (cloD n ps)).getD w []↔at2 (cloD n ps) w l=true∧∀ c,at2 (cloD n ps) w c=true→at2 (cloD n ps) c l=false:=by
  have sq:=h.sqc
  have lt:∀ x y,at2 (cloD n ps) x y=true→x<n∧y<n:=fun x y e=>by
    have hx:=at_lt sq e
    refine ⟨hx,?_⟩
    unfold at2 at e
    have hl:=sq.rl hx
    by_cases c:y<n
    · exact c
    · rw [List.getD_eq_getElem?_getD (l:=(cloD n ps).getD x []),List.getElem?_eq_none (by omega)] at e; cases e
  have row:(nearL n (cloD n ps)).getD w []=(posR n ((cloD n ps).getD w [])).filter fun b=>!((posR n ((cloD n ps).getD w [])).any fun c=>at2 (cloD n ps) c b):=by
    unfold nearL
    rw [List.getD_eq_getElem?_getD,List.getElem?_map,sq.get hw]; rfl
  have pos:∀ b,b∈posR n ((cloD n ps).getD w [])↔at2 (cloD n ps) w b=true:=fun b=>by
    unfold posR
    rw [List.mem_filter,List.mem_range]
    exact ⟨fun z=>z.2,fun z=>⟨(lt w b z).2,z⟩⟩
  rw [row,List.mem_filter,pos,Bool.not_eq_true',List.any_eq_false]
  constructor
  · rintro ⟨a,b⟩
    refine ⟨a,fun c hc=>?_⟩
    have:=b c ((pos c).mpr hc)
    simpa using this
  · rintro ⟨a,b⟩
    refine ⟨a,fun c hc=>?_⟩
    rw [b c ((pos c).mp hc)]
    exact Bool.false_ne_true
theorem near_nd {n:Nat} {ps:List (Nat×Nat)} (h:Ord n ps) (w:Nat):((nearL n (cloD n ps)).getD w []).Nodup:=by
  have sq:=h.sqc
  by_cases hw:w<n
  · have row:(nearL n (cloD n ps)).getD w []=(posR n ((cloD n ps).getD w [])).filter fun b=>!((posR n ((cloD n ps).getD w [])).any fun c=>at2 (cloD n ps) c b):=by
      unfold nearL
      rw [List.getD_eq_getElem?_getD,List.getElem?_map,sq.get hw]; rfl
    rw [row]
    unfold posR
    exact (List.nodup_range.filter _).filter _
  · rw [List.getD_eq_getElem?_getD,List.getElem?_eq_none (by unfold nearL; rw [List.length_map,sq.len]; omega)]
    exact List.nodup_nil
theorem clo_lt {n:Nat} {ps:List (Nat×Nat)} (h:Ord n ps) (x y:Nat) (e:at2 (cloD n ps) x y=true):x<n∧y<n:=by
  have sq:=h.sqc
  have hx:=at_lt sq e
  refine ⟨hx,?_⟩
  unfold at2 at e
  have hl:=sq.rl hx
  by_cases c:y<n
  · exact c
  · rw [List.getD_eq_getElem?_getD (l:=(cloD n ps).getD x []),List.getElem?_eq_none (by omega)] at e; cases e
theorem le_flat {T:Nat→List Nat}:∀ k,(∀ j,j<k→T j≠[])→k≤(((List.range k).map T).flatten).length
  | 0,_=>Nat.zero_le _
  | k+1,h=>by
    have ih:=le_flat k fun j hj=>h j (by omega)
    have:=List.length_pos_iff.mpr (h k (by omega))
    rw [List.range_succ,List.map_append,List.flatten_append,List.length_append]
    show k+1≤_+([T k].flatten).length
    rw [List.flatten_singleton]
    omega
structure Known (n:Nat) (ps:List (Nat×Nat)) (Fo:List Nat) (k:Nat) (l:List (Nat×Nat)):Prop where
  sch:Sch (cloD n ps) Fo n k
  k14:k≤14
  cg:∃ S,CG (fun x y=>at2 (cloD n ps) x y=true) (fun w=>Fo.getD w 0) S (fun w=>w<n)
  turns:F_pair_turns [.int (n:Int),needsD ps]=some (.lst ((List.range k).map fun j=>natsD (Tw (cloD n ps) Fo n j)))
  flat:(List.range n).Perm (((List.range k).map fun j=>Tw (cloD n ps) Fo n j).flatten)
  cuts:Cuts (fun d=>Fo.getD (Dw (cloD n ps) Fo n d) 0) (fun t=>lmk Fo (Tw (cloD n ps) Fo n t)) k l
  why:F_why_pairs [.int (n:Int),needsD ps]=some (.lst ((l.map fun p=>natsD (blk (Tw (cloD n ps) Fo n) p.1 p.2)).reverse))
theorem known {n:Nat} {ps:List (Nat×Nat)} (ho:Ord n ps):∃ Fo k l,Known n ps Fo k l:=by
  have hn:=ho.big
  have es:=straight ho
  obtain ⟨on,sh⟩:=onward ho
  have em:=marks_of hn es on sh
  have hFl:(foundW n (nearL n (cloD n ps))).length=n:=foundW_len _ _
  have hF:(foundW n (nearL n (cloD n ps))).Nodup:=by
    refine (found_perm on).nodup_iff.mp ?_
    rw [List.nodup_iff_pairwise_ne,List.pairwise_map]
    exact (List.nodup_iff_pairwise_ne.mp List.nodup_range).imp fun h z=>h (by omega)
  obtain ⟨rk,hrk⟩:=ho.up
  have up:Up rk (cloD n ps):=Up.close ho.sq (Up.need hrk) n (Nat.le_refl _)
  have tr:∀ x y z,at2 (cloD n ps) x y=true→at2 (cloD n ps) y z=true→at2 (cloD n ps) x z=true:=fun x y z a b=>way_clo ho.lt (.go (clo_way ho.lt a) (clo_way ho.lt b))
  have cg:=cg_of on ho.sqc up tr (near_nd ho) (fun w hw l=>near_mem ho hw l) (clo_lt ho)
  obtain ⟨k,hk,hkk,e5⟩:=pairs ho hF hFl em
  have sch:Sch (cloD n ps) (foundW n (nearL n (cloD n ps))) n k:=⟨⟨rk,up⟩,tr,fun x y e=>cg.dn e,fun x y hx hy e=>cg.inj hx hy e,fun x hx=>al_pos on hx,ho.sqc,hkk⟩
  have fp:=flatP_perm (Fo:=foundW n (nearL n (cloD n ps))) (lfP_0 ho.sqc) k
  rw [hk,List.append_nil] at fp
  have k14:k≤14:=by
    have:=le_flat (T:=Tw (cloD n ps) (foundW n (nearL n (cloD n ps))) n) k fun j hj=>sch.tne hj
    have e:=fp.length_eq
    rw [List.length_range] at e
    have e:n=(((List.range k).map (Tw (cloD n ps) (foundW n (nearL n (cloD n ps))) n)).flatten).length:=e
    omega
  obtain ⟨l,hc,ew⟩:=why_ev sch hFl k14 em e5
  exact ⟨_,k,l,sch,k14,⟨_,cg⟩,e5,fp,hc,ew⟩
theorem sum_rev_nat (l:List Nat):l.reverse.sum=l.sum:=(List.reverse_perm l).sum_nat
theorem half_int (x:Nat):((x:Int)+1) / 2=(((x+1) / 2:Nat):Int):=by omega
theorem sum_cast:∀ l:List Nat,((l.map fun (x:Nat)=>(x:Int)).sum:Int)=((l.sum:Nat):Int)
  | []=>rfl
  | x::l=>by rw [List.map_cons,List.sum_cons,List.sum_cons,sum_cast l]; omega
theorem Known.half {n:Nat} {ps:List (Nat×Nat)} {Fo:List Nat} {k:Nat} {l:List (Nat×Nat)} (K:Known n ps Fo k l) {ρ:Rho} {a:DE} (ha:a ρ=some (.lst (((l.map fun p=>blk (Tw (cloD n ps) Fo n) p.1 p.2).reverse).map natsD))) (hv:∀ b:List Nat,dVar 0 ((r0 1 [] ρ).set 0 (.pu (natsD b)))=some (natsD b)):dF1 sumD (dLst (dComp 1 [] (asL a) (gN true 0) dTrue (dFdiv (dAdd (dF1 lenD (dVar 0)) (dC (.int 1))) (dC (.int 2))))) ρ=some (.int (k:Int)):=by
  refine ev_f1 (ev_lst (ds:=((((l.map fun p=>blk (Tw (cloD n ps) Fo n) p.1 p.2).reverse).map fun b=>(b.length+1) / 2).map fun (x:Nat)=>(x:Int)).map D.int) ?_) ?_
  · rw [ev_compA0 natsD (ev_asL ha rfl) (fun b=>.int ((((b.length+1) / 2:Nat)):Int)) fun b hb=>⟨_,rfl,?_⟩,List.map_map,List.map_map]
    · rfl
    · show dFdiv _ _ ((r0 1 [] ρ).set 0 (.pu (natsD b)))=_
      rw [ev_fdiv (i:=(b.length:Int)+1) (j:=2) (ev_add (i:=(b.length:Int)) (j:=1) (ev_f1 (hv b) (lenN b)) rfl) rfl (fdok (by decide) (by decide)),half_int]
  · rw [sumD_ints,sum_cast,List.map_reverse,sum_rev_nat,List.map_map]
    have:=K.sch.sum K.cuts (Nat.le_refl _)
    show some (D.int (((l.map fun p=>((blk (Tw (cloD n ps) Fo n) p.1 p.2).length+1) / 2).sum:Nat):Int))=_
    rw [this]
theorem turns_shown {p bs:List Int} (hp:Names p p.length) (hb:Par p bs) (hm:bs.length≤1000) (b l:Int) (h0:0<b) (h1:b<2 ^ 64):F_turns_shown [.lst (bs.map D.int),.int b,.int l]=some (.int (shownZ (levs bs) b l)):=by
  refine run_eqF F_turns_shown_def ?_
  rw [st_turns_shown]
  unfold B_turns_shown
  exact wp_ret (ev_call (ev_cons (ev_call (by walk_at "ev") (levels hp hb hm)) (by walk_at "ev")) (shown_by_level _ _ _ h0 h1)) rfl
def Told (bs:List Int) (n:Nat) (ps:List (Nat×Nat)):Prop:=∀ v u:Nat,(v,u)∈ps↔v<n∧bs.getD v 0=(u:Int)
abbrev cst (x:Nat):Int:=(x:Int)
theorem cst_mem {L:List Nat} {w:Nat}:(w:Int)∈L.map cst↔w∈L:=by
  rw [List.mem_map]
  constructor
  · rintro ⟨y,hy,e⟩
    have e:(y:Int)=(w:Int):=e
    have:y=w:=by omega
    rw [← this]; exact hy
  · exact fun h=>⟨w,h,rfl⟩
theorem cst_nd {L:List Nat} (h:L.Nodup):(L.map cst).Nodup:=by
  rw [List.nodup_iff_pairwise_ne,List.pairwise_map]
  exact (List.nodup_iff_pairwise_ne.mp h).imp fun h z=>h (by have z:((_:Nat):Int)=((_:Nat):Int):=z; omega)
section
variable {n:Nat} {ps:List (Nat×Nat)} {Fo:List Nat} {k:Nat} {l:List (Nat×Nat)} {bs:List Int}
theorem Known.fin (K:Known n ps Fo k l):Lw (cloD n ps) Fo n k=[]:=by
  have h1:=(flatP_perm (Fo:=Fo) (lfP_0 K.sch.sq) k).length_eq
  have h2:=K.flat.length_eq
  rw [List.length_append] at h1
  have h1:(List.range n).length=(((List.range k).map fun j=>Tw (cloD n ps) Fo n j).flatten).length+(Lw (cloD n ps) Fo n k).length:=h1
  exact List.length_eq_zero_iff.mp (by omega)
theorem Known.tn (K:Known n ps Fo k l) (ho:Ord n ps) (hps:Told bs n ps) (j:Nat):Tn0 (bh bs) 2 ((Lw (cloD n ps) Fo n j).map cst) ((Tw (cloD n ps) Fo n j).map cst) ((Lw (cloD n ps) Fo n (j+1)).map cst) where
  nd:=cst_nd (K.sch.ok j).nd
  ndT:=cst_nd (turnP_nd (K.sch.ok j).nd)
  nd2:=cst_nd (K.sch.ok (j+1)).nd
  rd:=fun w hw=>by
    obtain ⟨x,hx,rfl⟩:=List.mem_map.mp hw
    obtain ⟨h1,h2⟩:=rdyP_mem.mp (turnP_mem hx)
    refine ⟨List.mem_map.mpr ⟨x,h1,rfl⟩,fun z=>?_⟩
    obtain ⟨y,hy,e⟩:=List.mem_map.mp z
    obtain ⟨v,hv,rfl⟩:=List.mem_map.mp hy
    have e:bs.getD v 0=(x:Int):=e
    have hin:=(hps v x).mpr ⟨(K.sch.ok j).lt v hv,e⟩
    have:=h2 v hv
    rw [way_clo ho.lt (.one hin)] at this
    cases this
  few:=by rw [List.length_map]; exact turnP_len _ _ _
  m2:=fun w=>by
    constructor
    · intro hw
      obtain ⟨x,hx,rfl⟩:=List.mem_map.mp hw
      obtain ⟨h1,h2⟩:=Lw_next.mp hx
      exact ⟨List.mem_map.mpr ⟨x,h1,rfl⟩,fun z=>h2 (cst_mem.mp z)⟩
    · rintro ⟨h1,h2⟩
      obtain ⟨x,hx,rfl⟩:=List.mem_map.mp h1
      exact List.mem_map.mpr ⟨x,Lw_next.mpr ⟨hx,fun z=>h2 (cst_mem.mpr z)⟩,rfl⟩
theorem Known.runs (K:Known n ps Fo k l) (ho:Ord n ps) (hps:Told bs n ps):∀ t i,i+t=k→Runs0 (bh bs) 2 ((Lw (cloD n ps) Fo n i).map cst) t
  | 0,i,e=>by
    have:i=k:=by omega
    rw [this,K.fin]
    exact .nil
  | t+1,i,e=>.cons (K.tn ho hps i) (fun z=>K.sch.ne i (by omega) (List.map_eq_nil_iff.mp z)) (K.runs ho hps t (i+1) (by omega))
end
theorem span_len {Tt:Nat→List Nat} (h2:∀ t,(Tt t).length≤2) {tau:Nat→Nat} {B:List Nat} {a e:Nat} (nd:B.Nodup) (hB:∀ w∈B,a≤tau w∧tau w<e∧w∈Tt (tau w)):B.length≤2*(e-a):=by
  have h1:=nd_len (m:=((List.range (e-a)).map fun i=>Tt (a+i)).flatten) nd fun w hw=>by
    obtain ⟨h1,h2,h3⟩:=hB w hw
    refine List.mem_flatten.mpr ⟨Tt (tau w),List.mem_map.mpr ⟨tau w-a,List.mem_range.mpr (by omega),?_⟩,h3⟩
    show Tt (a+(tau w-a))=_
    rw [show a+(tau w-a)=tau w by omega]
  have:=flat_le (T:=Tt) (s:=a) (e-a) h2
  omega
section
variable {M:Mat} {Fo:List Nat} {n k:Nat}
theorem Sch.least (h:Sch M Fo n k) {S:Nat→List Nat} (cg:CG (fun x y=>at2 M x y=true) (fun w=>Fo.getD w 0) S (fun w=>w<n)) (fnd:(((List.range k).map (Tw M Fo n)).flatten).Nodup) {tau:Nat→Nat} {Tt:Nat→List Nat} {K:Nat} (ht:∀ w,w<n→tau w<K∧w∈Tt (tau w)) (hinc:∀ x y,at2 M x y=true→tau x<tau y) (h2:∀ t,(Tt t).length≤2)
    {e:Nat} {l:List (Nat×Nat)} (c:Cuts (fun d=>Fo.getD (Dw M Fo n d) 0) (fun t=>lmk Fo (Tw M Fo n t)) e l):e≤k→l=[]∨∃ p r E,l=p::r∧E≤K∧(l.map fun p=>((blk (Tw M Fo n) p.1 p.2).length+1) / 2).sum≤E∧∃ x,x∈blk (Tw M Fo n) p.1 p.2∧tau x+1=E:=by
  induction c with
  | nil=>intro _; exact .inl rfl
  | @cons s d l hsd A B cc ih =>
    intro hk
    right
    have full:=Cuts.cons hsd A B cc
    have sub:=h.sub full hk
    have adj:=h.adj cg full hk
    rw [List.map_cons,List.reverse_cons,List.flatten_append,List.flatten_singleton] at sub
    have pre:(((List.range (d+1)).map (Tw M Fo n)).flatten).Sublist (((List.range k).map (Tw M Fo n)).flatten):=by
      have:=flat_add (Tw M Fo n) (d+1) (k-(d+1))
      rw [show d+1+(k-(d+1))=k by omega] at this
      rw [this]
      exact List.sublist_append_left _ _
    have bnd:(blk (Tw M Fo n) s d).Nodup:=fnd.sublist (((List.sublist_append_right _ _).trans sub).trans pre)
    have blt:∀ w∈blk (Tw M Fo n) s d,w<n:=fun w hw=>by
      rcases blk_mem.mp hw with ⟨t,_,_,hx⟩ | e'
      · exact (h.ok t).lt w (Tw_in hx)
      · have e':w=Dw M Fo n d:=e'
        rw [e']; exact (h.ok d).lt _ (Tw_in (h.din (j:=d) (by omega)))
    have bne:blk (Tw M Fo n) s d≠[]:=by unfold blk; exact fun z=>by have:=List.append_eq_nil_iff.mp z; cases this.2
    obtain ⟨x,hx,mx⟩:=max_of tau bne
    have hxK:=(ht x (blt x hx)).1
    refine ⟨(s,d),l,tau x+1,rfl,by omega,?_,x,hx,rfl⟩
    rw [List.map_cons,List.sum_cons]
    rcases ih (by omega) with rfl | ⟨q,r,E,rfl,hE,hsum,y,hy,ey⟩
    · have:=span_len h2 (tau:=tau) (a:=0) (e:=tau x+1) bnd fun w hw=>⟨Nat.zero_le _,by have:=mx w hw; omega,(ht w (blt w hw)).2⟩
      show ((blk (Tw M Fo n) s d).length+1) / 2+0≤_
      omega
    · have lo:∀ w∈blk (Tw M Fo n) s d,E≤tau w:=fun w hw=>by
        have:=hinc y w (adj 0 (s,d) q rfl rfl y hy w hw)
        omega
      have:=span_len h2 (tau:=tau) (a:=E) (e:=tau x+1) bnd fun w hw=>⟨lo w hw,by have:=mx w hw; omega,(ht w (blt w hw)).2⟩
      have:=lo x hx
      show ((blk (Tw M Fo n) s d).length+1) / 2+_≤_
      omega
end
theorem tree_time {p bs:List Int} (hp:Names p p.length) (hb:Par p bs) {b K:Nat} (hk:lf bs (levs bs) b (rangeI bs.length) K=[]) {ps:List (Nat×Nat)} (hps:Told bs bs.length ps):∃ tau:Nat→Nat,(∀ w,w<bs.length→tau w<K∧w∈(turn bs (levs bs) b (lf bs (levs bs) b (rangeI bs.length) (tau w))).map Int.toNat)∧∀ v u,(v,u)∈ps→u<bs.length→tau v<tau u:=by
  have lok:=lf_ok (bs:=bs) (hs:=levs bs) (b:=b) (rangeI_ok bs.length)
  have fp:=flat_perm (bs:=bs) (hs:=levs bs) (b:=b) (rangeI_ok bs.length) K
  rw [hk,List.append_nil] at fp
  have cl:=cl_all hp hb
  have clj:∀ j,Cl (bh bs) (lvw (levs bs)) (lf bs (levs bs) b (rangeI bs.length) j):=fun j=>by
    induction j with
    | zero=>exact cl
    | succ j ih=>exact (turn_tn (lok j).nd).toTn0.cl ih
  have ex:∀ w:Nat,w<bs.length→∃ t,t<K∧(w:Int)∈turn bs (levs bs) b (lf bs (levs bs) b (rangeI bs.length) t):=fun w hw=>by
    have hw':=fp.mem_iff.mp (rangeI_mem.mpr (show 0≤(w:Int)∧(w:Int)<(bs.length:Nat) by omega))
    obtain ⟨tt,htt,hx⟩:=List.mem_flatten.mp hw'
    obtain ⟨t,ht,rfl⟩:=List.mem_map.mp htt
    exact ⟨t,List.mem_range.mp ht,hx⟩
  have sub:∀ d s,∀ w∈lf bs (levs bs) b (rangeI bs.length) (s+d),w∈lf bs (levs bs) b (rangeI bs.length) s:=by
    intro d
    induction d with
    | zero=>intro s w h; exact h
    | succ d ih=>intro s w h; exact ih s w (List.mem_filter.mp h).1
  have pick:∀ w:Nat,∃ t,w<bs.length→t<K∧(w:Int)∈turn bs (levs bs) b (lf bs (levs bs) b (rangeI bs.length) t):=fun w=>by
    by_cases hw:w<bs.length
    · obtain ⟨t,ht⟩:=ex w hw
      exact ⟨t,fun _=>ht⟩
    · exact ⟨0,fun z=>absurd z hw⟩
  refine ⟨fun w=>(pick w).choose,fun w hw=>?_,fun v u hvu hu=>?_⟩
  · obtain ⟨h1,h2⟩:=(pick w).choose_spec hw
    exact ⟨h1,List.mem_map.mpr ⟨(w:Int),h2,Int.toNat_natCast w⟩⟩
  · obtain ⟨hv,e⟩:=(hps v u).mp hvu
    obtain ⟨_,v2⟩:=(pick v).choose_spec hv
    obtain ⟨_,u2⟩:=(pick u).choose_spec hu
    show (pick v).choose<(pick u).choose
    generalize (pick v).choose=tv at *
    generalize (pick u).choose=tu at *
    have tn:=turn_tn (bs:=bs) (hs:=levs bs) (b:=b) (lok tv).nd
    have fu:bh bs (v:Int)=(u:Int):=e
    have ul:=(lvw_rg hp hb (rangeI_mem.mpr (show 0≤(u:Int)∧(u:Int)<(bs.length:Nat) by omega))).1
    have lv2:lvw (levs bs) (v:Int)=lvw (levs bs) (u:Int)+1:=by
      rcases cl (v:Int) (rangeI_mem.mpr (by omega)) with ⟨a,_⟩ | ⟨_,a⟩
      · rw [fu] at a
        exact absurd (rangeI_mem.mpr (by omega)) a
      · rw [fu] at a; exact a
    have uin:(u:Int)∈lf bs (levs bs) b (rangeI bs.length) (tv+1):=by
      rcases tn.toTn0.up (clj tv) v2 with a | ⟨a,_⟩
      · omega
      · rw [fu] at a; exact a
    refine Classical.byContradiction fun z=>?_
    have:(u:Int)∈lf bs (levs bs) b (rangeI bs.length) (tu+1):=sub (tv-tu) (tu+1) _ (by rw [show tu+1+(tv-tu)=tv+1 by omega]; exact uin)
    have:=(List.mem_filter.mp this).2
    exact (of_decide_eq_true this) u2
theorem same_many {p bs:List Int} (hp:Names p p.length) (hb:Par p bs) {K:Nat} (hk:lf bs (levs bs) 2 (rangeI bs.length) K=[]) (hkk:∀ i,i<K→lf bs (levs bs) 2 (rangeI bs.length) i≠[]) {ps:List (Nat×Nat)} (ho:Ord bs.length ps) (hps:Told bs bs.length ps) {Fo:List Nat} {k:Nat} {l:List (Nat×Nat)} (Kn:Known bs.length ps Fo k l):k=K:=by
  obtain ⟨⟨H,_,hH⟩,_⟩:=hu hp hb (b:=2) (by omega) hk hkk
  have h1:=shown_le hp hb (b:=2) (k:=k) (by omega) (Kn.runs ho hps k 0 (by omega)) H
  obtain ⟨tau,t1,t2⟩:=tree_time hp hb hk hps
  obtain ⟨S,cg⟩:=Kn.cg
  have inc:∀ x y,at2 (cloD bs.length ps) x y=true→tau x<tau y:=fun x y e=>by
    have w:=clo_way ho.lt e
    clear e
    induction w with
    | one h=>exact t2 _ _ h (ho.lt _ h).2
    | go _ _ a b=>exact Nat.lt_trans a b
  have fnd:(((List.range k).map (Tw (cloD bs.length ps) Fo bs.length)).flatten).Nodup:=Kn.flat.nodup_iff.mp List.nodup_range
  have sum:=Kn.sch.sum Kn.cuts (Nat.le_refl _)
  have h2:k≤K:=by
    rcases Kn.sch.least (Tt:=fun t=>(turn bs (levs bs) 2 (lf bs (levs bs) 2 (rangeI bs.length) t)).map Int.toNat) cg fnd t1 inc (fun t=>by rw [List.length_map]; exact turn_len) Kn.cuts (Nat.le_refl _) with e | ⟨p,r,E,e,hE,hs,_⟩
    · rw [e] at sum
      have sum:0=k:=sum
      omega
    · omega
  have:(K:Int)≤k:=by rw [← hH]; exact h1
  omega
theorem copyO_ev {ps:List (Nat×Nat)} {ρ:Rho} {a:DE} (ha:a ρ=some (needsD ps)):dLst (dComp 1 [] (asL a) (gN false 0) dTrue (dLst (gFlat (dLof (dVar 0))))) ρ=some (needsD ps):=by
  refine ev_lst ?_
  rw [ev_compA0 (fun p:Nat×Nat=>D.lst [.int (p.1:Int),.int (p.2:Int)]) (ev_asL (d:=needsD ps) ha rfl) (fun p=>D.lst [.int (p.1:Int),.int (p.2:Int)]) fun p _=>⟨_,rfl,ev_lst (ev_flat (ev_lof rfl rfl) rfl)⟩]
theorem par_rg {p bs:List Int} (hp:Names p p.length) (hb:Par p bs) {w:Nat} (hw:w<bs.length) (h:bs.getD w 0≠-1):∃ u:Nat,bs.getD w 0=(u:Int)∧u<bs.length∧∃ i j,i<j∧j<p.length∧p.getD j 0=(w:Int)∧p.getD i 0=(u:Int):=by
  have hbl:=hb.1
  rcases hb.2 w hw with e | ⟨i,j,h1,h2,e1,e2⟩
  · exact absurd e h
  · have ha:=hp.all _ (mem_getD (p:=p) (k:=i) (by omega))
    exact ⟨(bs.getD w 0).toNat,by omega,by omega,i,j,h1,h2,e1,by omega⟩
def rkOf (p:List Int) (x:Nat):Nat:=p.idxOf (x:Int)
theorem rkOf_at {p:List Int} {m i x:Nat} (hp:Names p m) (hi:i<p.length) (e:p.getD i 0=(x:Int)):rkOf p x=i:=by
  rw [List.getD_eq_getElem?_getD,List.getElem?_eq_getElem hi] at e
  have e:p[i]=(x:Int):=e
  unfold rkOf
  rw [← e]
  have h1:p.idxOf p[i]<p.length:=List.idxOf_lt_length_of_mem (List.getElem_mem hi)
  have h2:p[p.idxOf p[i]]=p[i]:=List.getElem_idxOf h1
  have pw:=List.pairwise_iff_getElem.mp hp.nd
  rcases Nat.lt_trichotomy (p.idxOf p[i]) i with q | q | q
  · exact absurd h2 (pw _ _ h1 hi q)
  · exact q
  · exact absurd h2.symm (pw _ _ hi h1 q)
theorem law_true (ns:List Int) (hl:ns.length≤63) (hbits:∀ m∈ns,Builtin.Int.intBits m≤1048576):F_law [.scr ns]=some (.bl true):=by
  have hline:sizeLine=16777216:=sizeLine_eq
  obtain ⟨p,bs,e1,hp,hm,hb⟩:=behind ns hl
  have hbl:=hb.1
  obtain ⟨K,hk,hkk,e5⟩:=turns hp hb (by omega) 2 (by omega)
  obtain ⟨hH,most⟩:=hu hp hb (b:=2) (by omega) hk hkk
  obtain ⟨lv,e6,l40,hl1,hl2⟩:=why hp hb (by omega) (b:=2) (k:=K) (by omega) (by omega) e5 (by rw [List.length_map,List.length_range]) hH
  have hl3:shownZ (levs bs) ((2:Nat):Int) lv=K:=by have:=most lv; omega
  have e7:=turns_shown hp hb (by omega) ((2:Nat):Int) (lv:Int) (by omega) (by omega)
  rw [hl3] at e7
  have hTl:lenD (.lst ((List.range K).map fun j=>intsD (turn bs (levs bs) 2 (lf bs (levs bs) 2 (rangeI bs.length) j))))=some (.int (K:Int)):=by
    show some (D.int ((((List.range K).map fun j=>intsD (turn bs (levs bs) 2 (lf bs (levs bs) 2 (rangeI bs.length) j))).length:Nat):Int))=_
    rw [List.length_map,List.length_range]
  have same:=fun {ps:List (Nat×Nat)} (ho:Ord bs.length ps) (hps:Told bs bs.length ps) {Fo:List Nat} {k:Nat} {l:List (Nat×Nat)} (Kn:Known bs.length ps Fo k l)=>same_many hp hb hk hkk ho hps Kn
  generalize ((List.range K).map fun j=>intsD (turn bs (levs bs) 2 (lf bs (levs bs) 2 (rangeI bs.length) j)))=TD at *
  have e5:F_tree_turns [intsD bs,.int 2]=some (.lst TD):=e5
  have e6:F_why_tree [intsD bs,.int 2]=some (.int (lv:Int)):=e6
  have e7:F_turns_shown [intsD bs,.int 2,.int (lv:Int)]=some (.int (K:Int)):=e7
  refine run_eqF F_law_def ?_
  rw [st_law]
  unfold B_law
  refine wp_seq (wp_set (ev_call (ev_cons rfl (ev_cons rfl rfl)) e1) ?_)
  walk_at "st"
  refine wp_seq (wp_setO (ds:=[]) rfl (by simp only [List.length_cons,List.length_nil]; omega) ?_)
  walk_at "st"
  refine wp_seq (wp_for (ds:=upL 0 bs.length) ?_ (fun j ρ=>∃ (ps:List (Nat×Nat)) (v3 v4:Sl),ps.length≤j∧(∀ v u:Nat,(v,u)∈ps↔v<j∧bs.getD v 0=(u:Int))∧ρ=[.bo (.scr ns),.pu (intsD bs),.ol (ps.map fun p=>.lst [.int (p.1:Int),.int (p.2:Int)]),v3,v4,.un,.un]) ⟨[],_,_,Nat.le_refl _,(fun v u=>⟨(fun h=>by cases h),fun h=>absurd h.1 (by omega)⟩),rfl⟩ ?_ ?_)
  · rw [ev_rg1 (ev_f1 rfl (lenI bs)) (by omega),Int.toNat_natCast]
  · rintro j d ρ hd ⟨ps,v3,v4,hlen,hps,rfl⟩
    obtain ⟨hj,rfl⟩:=upL_at hd
    refine ⟨_,rfl,?_⟩
    dsimp only [gN,slm,List.set_cons_succ,List.set_cons_zero]
    rw [show (0:Int)+(j:Int)=(j:Int) by omega]
    refine wp_ifp (ev_t (ev_neF (ev_ix rfl rfl (ixI (ns:=bs) (i:=(j:Int)) (by omega) (by omega))) (ev_neg rfl))) (fun c=>?_) fun c=>wp_pass ⟨ps,_,_,by omega,fun v u=>?_,rfl⟩
    · rw [Int.toNat_natCast] at c
      obtain ⟨u,eu,hu,_⟩:=par_rg hp hb hj c
      have hmx:=mixed (ns.getD (2:Int).toNat 0) (j:Int) (by omega) (by omega)
      refine wp_seq (wp_set (ev_mod (ev_call (ev_cons (ev_call (ev_cons rfl (ev_cons rfl rfl)) (cell_at ns 2 (by omega))) (ev_cons rfl rfl)) hmx) (ev_add (ev_f1 rfl rfl) rfl) (by rw [List.length_map]; omega)) ?_)
      walk_at "st"
      rw [List.length_map]
      have b0:=Int.emod_nonneg (mixedZ (ns.getD (2:Int).toNat 0) (j:Int)) (show ((ps.length:Nat):Int)+1≠0 by omega)
      have b1:=Int.emod_lt_of_pos (mixedZ (ns.getD (2:Int).toNat 0) (j:Int)) (show 0<((ps.length:Nat):Int)+1 by omega)
      generalize mixedZ (ns.getD (2:Int).toNat 0) (j:Int) % (((ps.length:Nat):Int)+1)=at' at b0 b1
      refine wp_ins (n:=at') (d:=.lst [.int (j:Int),.int (u:Int)]) rfl rfl (ev_lst (ev_cons rfl (ev_cons (by rw [ev_ix rfl rfl (ixI (ns:=bs) (i:=(j:Int)) (by omega) (by omega)),Int.toNat_natCast,eu]) rfl))) ⟨b0,by rw [List.length_map]; omega,by rw [List.length_map]; omega⟩ ?_
      dsimp only [List.set_cons_succ,List.set_cons_zero]
      rw [needs_ins ps at'.toNat (j,u)]
      refine ⟨ps.take at'.toNat++(j,u)::ps.drop at'.toNat,.pu (.int (j:Int)),.pu (.int at'),?_,fun v u'=>?_,rfl⟩
      · rw [List.length_append,List.length_cons,List.length_take,List.length_drop]; omega
      · have hmem:(v,u')∈ps.take at'.toNat++(j,u)::ps.drop at'.toNat↔(v,u')=(j,u)∨(v,u')∈ps:=by
          rw [List.mem_append,List.mem_cons]
          conv=>rhs; rw [← List.take_append_drop at'.toNat ps,List.mem_append]
          constructor
          · rintro (h | h | h)
            · exact .inr (.inl h)
            · exact .inl h
            · exact .inr (.inr h)
          · rintro (h | h | h)
            · exact .inr (.inl h)
            · exact .inl h
            · exact .inr (.inr h)
        rw [hmem,hps]
        constructor
        · rintro (h | h)
          · cases h
            exact ⟨by omega,eu⟩
          · exact ⟨by omega,h.2⟩
        · rintro ⟨h1,h2⟩
          by_cases z:v=j
          · subst z
            left
            have:u'=u:=by omega
            rw [this]
          · exact .inr ⟨by omega,h2⟩
    · rw [Int.toNat_natCast] at c
      have c:bs.getD j 0=-1:=Classical.not_not.mp c
      rw [hps]
      constructor
      · rintro ⟨h1,h2⟩; exact ⟨by omega,h2⟩
      · rintro ⟨h1,h2⟩
        refine ⟨?_,h2⟩
        by_cases z:v=j
        · rw [z,c] at h2; omega
        · omega
  · rintro ρ ⟨ps,v3,v4,hlen,hps,rfl⟩
    rw [upL_len] at hlen hps
    have hps:Told bs bs.length ps:=hps
    have ho:Ord bs.length ps:=by
      refine ⟨by omega,by omega,fun w=>p.length-rkOf p w,fun q hq=>?_⟩
      obtain ⟨h1,h2⟩:=(hps q.1 q.2).mp hq
      obtain ⟨u,eu,hu,i,j,hij,hjp,ej,ei⟩:=par_rg hp hb h1 (by rw [h2]; omega)
      have:u=q.2:=by omega
      subst this
      refine ⟨h1,hu,?_⟩
      have r1:=rkOf_at hp hjp ej
      have r2:=rkOf_at hp (show i<p.length by omega) ei
      show p.length-rkOf p q.1<p.length-rkOf p q.2
      rw [r1,r2]
      omega
    obtain ⟨Fo,k,l,Kn⟩:=known ho
    have ek:=same ho hps Kn
    subst ek
    have et:=Kn.turns
    have ew:=Kn.why
    have hhalf:=fun {ρ:Rho} {a:DE}=>Kn.half (ρ:=ρ) (a:=a)
    have eBL:(l.map fun p=>natsD (blk (Tw (cloD bs.length ps) Fo bs.length) p.1 p.2)).reverse=((l.map fun p=>blk (Tw (cloD bs.length ps) Fo bs.length) p.1 p.2).reverse).map natsD:=by rw [List.map_reverse,List.map_map]; rfl
    rw [eBL] at ew
    have hPl:lenD (.lst ((List.range k).map fun j=>natsD (Tw (cloD bs.length ps) Fo bs.length j)))=some (.int (k:Int)):=by
      show some (D.int ((((List.range k).map fun j=>natsD (Tw (cloD bs.length ps) Fo bs.length j)).length:Nat):Int))=_
      rw [List.length_map,List.length_range]
    generalize ((l.map fun p=>blk (Tw (cloD bs.length ps) Fo bs.length) p.1 p.2).reverse).map natsD=BD at *
    generalize ((List.range k).map fun j=>natsD (Tw (cloD bs.length ps) Fo bs.length j))=PD at *
    refine wp_seq (wp_set (d:=.int (k:Int)) (ev_f1 (ev_call (ev_cons (ev_lst (ev_lof rfl rfl)) (ev_cons rfl rfl)) e5) hTl) ?_)
    walk_at "st"
    refine wp_seq (wp_ifF ?_ (wp_pass ?_))
    · rw [ev_t (ev_neF (i:=(k:Int)) (j:=(k:Int)) (ev_f1 (ev_call (ev_cons (ev_f1 rfl (lenI bs)) (ev_cons (copyO_ev rfl) rfl)) et) hPl) rfl),decide_eq_false (fun z=>z rfl)]
    refine wp_seq (wp_ifF ?_ (wp_pass ?_))
    · rw [ev_t (ev_neF (i:=(k:Int)) (j:=(k:Int)) (ev_call (ev_cons (ev_lst (ev_lof rfl rfl)) (ev_cons rfl (ev_cons (ev_call (ev_cons (ev_lst (ev_lof rfl rfl)) (ev_cons rfl rfl)) e6) rfl))) e7) rfl),decide_eq_false (fun z=>z rfl)]
    refine wp_seq (wp_set (ev_call (ev_cons (ev_f1 rfl (lenI bs)) (ev_cons (copyO_ev rfl) rfl)) ew) ?_)
    walk_at "st"
    refine wp_ret ?_ rfl
    rw [ev_eqF (i:=(k:Int)) (j:=(k:Int)) (hhalf rfl fun _=>rfl) rfl]
    simp
instance (priority:=high) tabsI:Tabs:=⟨[((80:Addr),("next_marked.<locals>.<lambda>" : Str)),((90:Addr),("pair_turns.<locals>.<lambda>" : Str)),((135:Addr),("tree_turns.<locals>.<lambda>" : Str))]⟩
theorem all_mk {K:PySem.W.Frag} {h:Heap} {mg:Str→Option Value} {fa:Addr} (X:K.In h) (G:h.Ns mainGlobals mg) (hfa:mg "law" = some (.ref fa))
    {f0:Addr} {od0 an0:Option Addr} {sl0:Array (Option Value)} {oc0 kV0 dc0 pm0 cd0 ct0:Value}
    {f1:Addr} {od1 an1:Option Addr} {sl1:Array (Option Value)} {oc1 kV1 dc1 pm1 cd1 ct1:Value}
    {f2:Addr} {od2 an2:Option Addr} {sl2:Array (Option Value)} {oc2 kV2 dc2 pm2 cd2 ct2:Value}
    {f3:Addr} {od3 an3:Option Addr} {sl3:Array (Option Value)} {oc3 kV3 dc3 pm3 cd3 ct3:Value}
    {f4:Addr} {od4 an4:Option Addr} {sl4:Array (Option Value)} {oc4 kV4 dc4 pm4 cd4 ct4:Value}
    {f5:Addr} {od5 an5:Option Addr} {sl5:Array (Option Value)} {oc5 kV5 dc5 pm5 cd5 ct5:Value}
    {f6:Addr} {od6 an6:Option Addr} {sl6:Array (Option Value)} {oc6 kV6 dc6 pm6 cd6 ct6:Value}
    {f7:Addr} {od7 an7:Option Addr} {sl7:Array (Option Value)} {oc7 kV7 dc7 pm7 cd7 ct7:Value}
    {f8:Addr} {od8 an8:Option Addr} {sl8:Array (Option Value)} {oc8 kV8 dc8 pm8 cd8 ct8:Value}
    {f9:Addr} {od9 an9:Option Addr} {sl9:Array (Option Value)} {oc9 kV9 dc9 pm9 cd9 ct9:Value}
    {f10:Addr} {od10 an10:Option Addr} {sl10:Array (Option Value)} {oc10 kV10 dc10 pm10 cd10 ct10:Value}
    {f11:Addr} {od11 an11:Option Addr} {sl11:Array (Option Value)} {oc11 kV11 dc11 pm11 cd11 ct11:Value}
    {f12:Addr} {od12 an12:Option Addr} {sl12:Array (Option Value)} {oc12 kV12 dc12 pm12 cd12 ct12:Value}
    {f13:Addr} {od13 an13:Option Addr} {sl13:Array (Option Value)} {oc13 kV13 dc13 pm13 cd13 ct13:Value}
    {f14:Addr} {od14 an14:Option Addr} {sl14:Array (Option Value)} {oc14 kV14 dc14 pm14 cd14 ct14:Value}
    {f15:Addr} {od15 an15:Option Addr} {sl15:Array (Option Value)} {oc15 kV15 dc15 pm15 cd15 ct15:Value}
    {f16:Addr} {od16 an16:Option Addr} {sl16:Array (Option Value)} {oc16 kV16 dc16 pm16 cd16 ct16:Value}
    {f17:Addr} {od17 an17:Option Addr} {sl17:Array (Option Value)} {oc17 kV17 dc17 pm17 cd17 ct17:Value}
    {f18:Addr} {od18 an18:Option Addr} {sl18:Array (Option Value)} {oc18 kV18 dc18 pm18 cd18 ct18:Value}
    {f19:Addr} {od19 an19:Option Addr} {sl19:Array (Option Value)} {oc19 kV19 dc19 pm19 cd19 ct19:Value}
    {f20:Addr} {od20 an20:Option Addr} {sl20:Array (Option Value)} {oc20 kV20 dc20 pm20 cd20 ct20:Value}
    {f21:Addr} {od21 an21:Option Addr} {sl21:Array (Option Value)} {oc21 kV21 dc21 pm21 cd21 ct21:Value}
    {f22:Addr} {od22 an22:Option Addr} {sl22:Array (Option Value)} {oc22 kV22 dc22 pm22 cd22 ct22:Value}
    {f23:Addr} {od23 an23:Option Addr} {sl23:Array (Option Value)} {oc23 kV23 dc23 pm23 cd23 ct23:Value}
    {f24:Addr} {od24 an24:Option Addr} {sl24:Array (Option Value)} {oc24 kV24 dc24 pm24 cd24 ct24:Value}
    {t_BENCHES:Tok}
    (a0:PySem.W.nsIn K mainGlobals "divided_up" = some (some (.ref f0))) (l0:K.lookup f0=some ⟨oc0,od0,.func (PySem.W.fnOf "divided_up" "divided_up" (defArgs s_divided_up) (defBody s_divided_up) (defScope s_divided_up) .none kV0 dc0 pm0 an0 cd0 ct0),sl0⟩) (c0:PySem.W.codeIn K cd0 "divided_up" = true) (k0:PySem.W.keepIn K (.ref f0)=true)
    (a1:PySem.W.nsIn K mainGlobals "ahead_of" = some (some (.ref f1))) (l1:K.lookup f1=some ⟨oc1,od1,.func (PySem.W.fnOf "ahead_of" "ahead_of" (defArgs s_ahead_of) (defBody s_ahead_of) (defScope s_ahead_of) .none kV1 dc1 pm1 an1 cd1 ct1),sl1⟩) (c1:PySem.W.codeIn K cd1 "ahead_of" = true) (k1:PySem.W.keepIn K (.ref f1)=true)
    (a2:PySem.W.nsIn K mainGlobals "told_order" = some (some (.ref f2))) (l2:K.lookup f2=some ⟨oc2,od2,.func (PySem.W.fnOf "told_order" "told_order" (defArgs s_told_order) (defBody s_told_order) (defScope s_told_order) .none kV2 dc2 pm2 an2 cd2 ct2),sl2⟩) (c2:PySem.W.codeIn K cd2 "told_order" = true) (k2:PySem.W.keepIn K (.ref f2)=true)
    (a3:PySem.W.nsIn K mainGlobals "either" = some (some (.ref f3))) (l3:K.lookup f3=some ⟨oc3,od3,.func (PySem.W.fnOf "either" "either" (defArgs s_either) (defBody s_either) (defScope s_either) .none kV3 dc3 pm3 an3 cd3 ct3),sl3⟩) (c3:PySem.W.codeIn K cd3 "either" = true) (k3:PySem.W.keepIn K (.ref f3)=true)
    (a4:PySem.W.nsIn K mainGlobals "straight_ahead" = some (some (.ref f4))) (l4:K.lookup f4=some ⟨oc4,od4,.func (PySem.W.fnOf "straight_ahead" "straight_ahead" (defArgs s_straight_ahead) (defBody s_straight_ahead) (defScope s_straight_ahead) .none kV4 dc4 pm4 an4 cd4 ct4),sl4⟩) (c4:PySem.W.codeIn K cd4 "straight_ahead" = true) (k4:PySem.W.keepIn K (.ref f4)=true)
    (a5:PySem.W.nsIn K mainGlobals "comes_between" = some (some (.ref f5))) (l5:K.lookup f5=some ⟨oc5,od5,.func (PySem.W.fnOf "comes_between" "comes_between" (defArgs s_comes_between) (defBody s_comes_between) (defScope s_comes_between) .none kV5 dc5 pm5 an5 cd5 ct5),sl5⟩) (c5:PySem.W.codeIn K cd5 "comes_between" = true) (k5:PySem.W.keepIn K (.ref f5)=true)
    (a6:PySem.W.nsIn K mainGlobals "marks" = some (some (.ref f6))) (l6:K.lookup f6=some ⟨oc6,od6,.func (PySem.W.fnOf "marks" "marks" (defArgs s_marks) (defBody s_marks) (defScope s_marks) .none kV6 dc6 pm6 an6 cd6 ct6),sl6⟩) (c6:PySem.W.codeIn K cd6 "marks" = true) (k6:PySem.W.keepIn K (.ref f6)=true)
    (a7:PySem.W.nsIn K mainGlobals "next_marked" = some (some (.ref f7))) (l7:K.lookup f7=some ⟨oc7,od7,.func (PySem.W.fnOf "next_marked" "next_marked" (defArgs s_next_marked) (defBody s_next_marked) (defScope s_next_marked) .none kV7 dc7 pm7 an7 cd7 ct7),sl7⟩) (c7:PySem.W.codeIn K cd7 "next_marked" = true) (k7:PySem.W.keepIn K (.ref f7)=true)
    (a8:PySem.W.nsIn K mainGlobals "falling_marks" = some (some (.ref f8))) (l8:K.lookup f8=some ⟨oc8,od8,.func (PySem.W.fnOf "falling_marks" "falling_marks" (defArgs s_falling_marks) (defBody s_falling_marks) (defScope s_falling_marks) .none kV8 dc8 pm8 an8 cd8 ct8),sl8⟩) (c8:PySem.W.codeIn K cd8 "falling_marks" = true) (k8:PySem.W.keepIn K (.ref f8)=true)
    (a9:PySem.W.nsIn K mainGlobals "pair_turns" = some (some (.ref f9))) (l9:K.lookup f9=some ⟨oc9,od9,.func (PySem.W.fnOf "pair_turns" "pair_turns" (defArgs s_pair_turns) (defBody s_pair_turns) (defScope s_pair_turns) .none kV9 dc9 pm9 an9 cd9 ct9),sl9⟩) (c9:PySem.W.codeIn K cd9 "pair_turns" = true) (k9:PySem.W.keepIn K (.ref f9)=true)
    (a10:PySem.W.nsIn K mainGlobals "why_pairs" = some (some (.ref f10))) (l10:K.lookup f10=some ⟨oc10,od10,.func (PySem.W.fnOf "why_pairs" "why_pairs" (defArgs s_why_pairs) (defBody s_why_pairs) (defScope s_why_pairs) .none kV10 dc10 pm10 an10 cd10 ct10),sl10⟩) (c10:PySem.W.codeIn K cd10 "why_pairs" = true) (k10:PySem.W.keepIn K (.ref f10)=true)
    (a11:PySem.W.nsIn K mainGlobals "last_cut" = some (some (.ref f11))) (l11:K.lookup f11=some ⟨oc11,od11,.func (PySem.W.fnOf "last_cut" "last_cut" (defArgs s_last_cut) (defBody s_last_cut) (defScope s_last_cut) .none kV11 dc11 pm11 an11 cd11 ct11),sl11⟩) (c11:PySem.W.codeIn K cd11 "last_cut" = true) (k11:PySem.W.keepIn K (.ref f11)=true)
    (a12:PySem.W.nsIn K mainGlobals "least_mark" = some (some (.ref f12))) (l12:K.lookup f12=some ⟨oc12,od12,.func (PySem.W.fnOf "least_mark" "least_mark" (defArgs s_least_mark) (defBody s_least_mark) (defScope s_least_mark) .none kV12 dc12 pm12 an12 cd12 ct12),sl12⟩) (c12:PySem.W.codeIn K cd12 "least_mark" = true) (k12:PySem.W.keepIn K (.ref f12)=true)
    (a13:PySem.W.nsIn K mainGlobals "block_between" = some (some (.ref f13))) (l13:K.lookup f13=some ⟨oc13,od13,.func (PySem.W.fnOf "block_between" "block_between" (defArgs s_block_between) (defBody s_block_between) (defScope s_block_between) .none kV13 dc13 pm13 an13 cd13 ct13),sl13⟩) (c13:PySem.W.codeIn K cd13 "block_between" = true) (k13:PySem.W.keepIn K (.ref f13)=true)
    (a14:PySem.W.nsIn K mainGlobals "levels" = some (some (.ref f14))) (l14:K.lookup f14=some ⟨oc14,od14,.func (PySem.W.fnOf "levels" "levels" (defArgs s_levels) (defBody s_levels) (defScope s_levels) .none kV14 dc14 pm14 an14 cd14 ct14),sl14⟩) (c14:PySem.W.codeIn K cd14 "levels" = true) (k14:PySem.W.keepIn K (.ref f14)=true)
    (a15:PySem.W.nsIn K mainGlobals "level_of" = some (some (.ref f15))) (l15:K.lookup f15=some ⟨oc15,od15,.func (PySem.W.fnOf "level_of" "level_of" (defArgs s_level_of) (defBody s_level_of) (defScope s_level_of) .none kV15 dc15 pm15 an15 cd15 ct15),sl15⟩) (c15:PySem.W.codeIn K cd15 "level_of" = true) (k15:PySem.W.keepIn K (.ref f15)=true)
    (a16:PySem.W.nsIn K mainGlobals "tree_turns" = some (some (.ref f16))) (l16:K.lookup f16=some ⟨oc16,od16,.func (PySem.W.fnOf "tree_turns" "tree_turns" (defArgs s_tree_turns) (defBody s_tree_turns) (defScope s_tree_turns) .none kV16 dc16 pm16 an16 cd16 ct16),sl16⟩) (c16:PySem.W.codeIn K cd16 "tree_turns" = true) (k16:PySem.W.keepIn K (.ref f16)=true)
    (a17:PySem.W.nsIn K mainGlobals "turns_shown" = some (some (.ref f17))) (l17:K.lookup f17=some ⟨oc17,od17,.func (PySem.W.fnOf "turns_shown" "turns_shown" (defArgs s_turns_shown) (defBody s_turns_shown) (defScope s_turns_shown) .none kV17 dc17 pm17 an17 cd17 ct17),sl17⟩) (c17:PySem.W.codeIn K cd17 "turns_shown" = true) (k17:PySem.W.keepIn K (.ref f17)=true)
    (a18:PySem.W.nsIn K mainGlobals "shown_by_level" = some (some (.ref f18))) (l18:K.lookup f18=some ⟨oc18,od18,.func (PySem.W.fnOf "shown_by_level" "shown_by_level" (defArgs s_shown_by_level) (defBody s_shown_by_level) (defScope s_shown_by_level) .none kV18 dc18 pm18 an18 cd18 ct18),sl18⟩) (c18:PySem.W.codeIn K cd18 "shown_by_level" = true) (k18:PySem.W.keepIn K (.ref f18)=true)
    (a19:PySem.W.nsIn K mainGlobals "why_tree" = some (some (.ref f19))) (l19:K.lookup f19=some ⟨oc19,od19,.func (PySem.W.fnOf "why_tree" "why_tree" (defArgs s_why_tree) (defBody s_why_tree) (defScope s_why_tree) .none kV19 dc19 pm19 an19 cd19 ct19),sl19⟩) (c19:PySem.W.codeIn K cd19 "why_tree" = true) (k19:PySem.W.keepIn K (.ref f19)=true)
    (a20:PySem.W.nsIn K mainGlobals "_law_cell_at" = some (some (.ref f20))) (l20:K.lookup f20=some ⟨oc20,od20,.func (PySem.W.fnOf "_law_cell_at" "_law_cell_at" (defArgs s_l_cell_at) (defBody s_l_cell_at) (defScope s_l_cell_at) .none kV20 dc20 pm20 an20 cd20 ct20),sl20⟩) (c20:PySem.W.codeIn K cd20 "_law_cell_at" = true) (k20:PySem.W.keepIn K (.ref f20)=true)
    (a21:PySem.W.nsIn K mainGlobals "_law_mixed" = some (some (.ref f21))) (l21:K.lookup f21=some ⟨oc21,od21,.func (PySem.W.fnOf "_law_mixed" "_law_mixed" (defArgs s_l_mixed) (defBody s_l_mixed) (defScope s_l_mixed) .none kV21 dc21 pm21 an21 cd21 ct21),sl21⟩) (c21:PySem.W.codeIn K cd21 "_law_mixed" = true) (k21:PySem.W.keepIn K (.ref f21)=true)
    (a22:PySem.W.nsIn K mainGlobals "_law_names" = some (some (.ref f22))) (l22:K.lookup f22=some ⟨oc22,od22,.func (PySem.W.fnOf "_law_names" "_law_names" (defArgs s_l_names) (defBody s_l_names) (defScope s_l_names) .none kV22 dc22 pm22 an22 cd22 ct22),sl22⟩) (c22:PySem.W.codeIn K cd22 "_law_names" = true) (k22:PySem.W.keepIn K (.ref f22)=true)
    (a23:PySem.W.nsIn K mainGlobals "_law_behind" = some (some (.ref f23))) (l23:K.lookup f23=some ⟨oc23,od23,.func (PySem.W.fnOf "_law_behind" "_law_behind" (defArgs s_l_behind) (defBody s_l_behind) (defScope s_l_behind) .none kV23 dc23 pm23 an23 cd23 ct23),sl23⟩) (c23:PySem.W.codeIn K cd23 "_law_behind" = true) (k23:PySem.W.keepIn K (.ref f23)=true)
    (a24:PySem.W.nsIn K mainGlobals "law" = some (some (.ref f24))) (l24:K.lookup f24=some ⟨oc24,od24,.func (PySem.W.fnOf "law" "law" (defArgs s_law) (defBody s_law) (defScope s_law) .none kV24 dc24 pm24 an24 cd24 ct24),sl24⟩) (c24:PySem.W.codeIn K cd24 "law" = true) (k24:PySem.W.keepIn K (.ref f24)=true)
    (z_all:PySem.W.nsIn K mainGlobals "all" = some none)
    (z_any:PySem.W.nsIn K mainGlobals "any" = some none)
    (z_enumerate:PySem.W.nsIn K mainGlobals "enumerate" = some none)
    (z_len:PySem.W.nsIn K mainGlobals "len" = some none)
    (z_list:PySem.W.nsIn K mainGlobals "list" = some none)
    (z_min:PySem.W.nsIn K mainGlobals "min" = some none)
    (z_range:PySem.W.nsIn K mainGlobals "range" = some none)
    (z_sorted:PySem.W.nsIn K mainGlobals "sorted" = some none)
    (z_sum:PySem.W.nsIn K mainGlobals "sum" = some none)
    (z_zip:PySem.W.nsIn K mainGlobals "zip" = some none)
    (c_BENCHES:PySem.W.nsIn K mainGlobals "BENCHES" = some (some (.int 2 t_BENCHES)))
    (e_next_marked:cd7=.ref 82) (h_next_marked:PySem.W.codeHdIn K 82 80=true) (tb_next_marked:((80:Addr),("next_marked.<locals>.<lambda>" : Str))∈Tabs.ts)
    (e_pair_turns:cd9=.ref 92) (h_pair_turns:PySem.W.codeHdIn K 92 90=true) (tb_pair_turns:((90:Addr),("pair_turns.<locals>.<lambda>" : Str))∈Tabs.ts)
    (e_tree_turns:cd16=.ref 137) (h_tree_turns:PySem.W.codeHdIn K 137 135=true) (tb_tree_turns:((135:Addr),("tree_turns.<locals>.<lambda>" : Str))∈Tabs.ts) :
    ∃ a:Adr,Txt K mg a∧a.f_law=fa∧∀ (s:Shared) (v:Value),BindsTo s a.d_law ⟨[v],[]⟩ [("_law_script", v)]:=by
  have e:=hfa.symm.trans (PySem.W.mg_of X G a24)
  cases e
  have F0:=fun_mk (st:=s_divided_up) l0 c0 k0
  have F1:=fun_mk (st:=s_ahead_of) l1 c1 k1
  have F2:=fun_mk (st:=s_told_order) l2 c2 k2
  have F3:=fun_mk (st:=s_either) l3 c3 k3
  have F4:=fun_mk (st:=s_straight_ahead) l4 c4 k4
  have F5:=fun_mk (st:=s_comes_between) l5 c5 k5
  have F6:=fun_mk (st:=s_marks) l6 c6 k6
  have F7:=fun_mk (st:=s_next_marked) l7 c7 k7
  have F8:=fun_mk (st:=s_falling_marks) l8 c8 k8
  have F9:=fun_mk (st:=s_pair_turns) l9 c9 k9
  have F10:=fun_mk (st:=s_why_pairs) l10 c10 k10
  have F11:=fun_mk (st:=s_last_cut) l11 c11 k11
  have F12:=fun_mk (st:=s_least_mark) l12 c12 k12
  have F13:=fun_mk (st:=s_block_between) l13 c13 k13
  have F14:=fun_mk (st:=s_levels) l14 c14 k14
  have F15:=fun_mk (st:=s_level_of) l15 c15 k15
  have F16:=fun_mk (st:=s_tree_turns) l16 c16 k16
  have F17:=fun_mk (st:=s_turns_shown) l17 c17 k17
  have F18:=fun_mk (st:=s_shown_by_level) l18 c18 k18
  have F19:=fun_mk (st:=s_why_tree) l19 c19 k19
  have F20:=fun_mk (st:=s_l_cell_at) l20 c20 k20
  have F21:=fun_mk (st:=s_l_mixed) l21 c21 k21
  have F22:=fun_mk (st:=s_l_names) l22 c22 k22
  have F23:=fun_mk (st:=s_l_behind) l23 c23 k23
  have F24:=fun_mk (st:=s_law) l24 c24 k24
  have b0:=F0.binds (ps:=["total", "parts"]) fun _ _ _ _ _ _ us hl=>match us,hl with | [_,_],_=>rfl
  have b1:=F1.binds (ps:=["many", "needs"]) fun _ _ _ _ _ _ us hl=>match us,hl with | [_,_],_=>rfl
  have b2:=F2.binds (ps:=["many", "needs"]) fun _ _ _ _ _ _ us hl=>match us,hl with | [_,_],_=>rfl
  have b3:=F3.binds (ps:=["truths", "others"]) fun _ _ _ _ _ _ us hl=>match us,hl with | [_,_],_=>rfl
  have b4:=F4.binds (ps:=["many", "needs"]) fun _ _ _ _ _ _ us hl=>match us,hl with | [_,_],_=>rfl
  have b5:=F5.binds (ps:=["ahead", "row", "later"]) fun _ _ _ _ _ _ us hl=>match us,hl with | [_,_,_],_=>rfl
  have b6:=F6.binds (ps:=["many", "needs"]) fun _ _ _ _ _ _ us hl=>match us,hl with | [_,_],_=>rfl
  have b7:=F7.binds (ps:=["straight", "given"]) fun _ _ _ _ _ _ us hl=>match us,hl with | [_,_],_=>rfl
  have b8:=F8.binds (ps:=["works", "given"]) fun _ _ _ _ _ _ us hl=>match us,hl with | [_,_],_=>rfl
  have b9:=F9.binds (ps:=["many", "needs"]) fun _ _ _ _ _ _ us hl=>match us,hl with | [_,_],_=>rfl
  have b10:=F10.binds (ps:=["many", "needs"]) fun _ _ _ _ _ _ us hl=>match us,hl with | [_,_],_=>rfl
  have b11:=F11.binds (ps:=["turns", "given", "last"]) fun _ _ _ _ _ _ us hl=>match us,hl with | [_,_,_],_=>rfl
  have b12:=F12.binds (ps:=["turn", "given"]) fun _ _ _ _ _ _ us hl=>match us,hl with | [_,_],_=>rfl
  have b13:=F13.binds (ps:=["turns", "cut", "last"]) fun _ _ _ _ _ _ us hl=>match us,hl with | [_,_,_],_=>rfl
  have b14:=F14.binds (ps:=["behind"]) fun _ _ _ _ _ _ us hl=>match us,hl with | [_],_=>rfl
  have b15:=F15.binds (ps:=["behind", "work"]) fun _ _ _ _ _ _ us hl=>match us,hl with | [_,_],_=>rfl
  have b16:=F16.binds (ps:=["behind", "benches"]) fun _ _ _ _ _ _ us hl=>match us,hl with | [_,_],_=>rfl
  have b17:=F17.binds (ps:=["behind", "benches", "level"]) fun _ _ _ _ _ _ us hl=>match us,hl with | [_,_,_],_=>rfl
  have b18:=F18.binds (ps:=["heights", "benches", "level"]) fun _ _ _ _ _ _ us hl=>match us,hl with | [_,_,_],_=>rfl
  have b19:=F19.binds (ps:=["behind", "benches"]) fun _ _ _ _ _ _ us hl=>match us,hl with | [_,_],_=>rfl
  have b20:=F20.binds (ps:=["_law_script", "_law_k"]) fun _ _ _ _ _ _ us hl=>match us,hl with | [_,_],_=>rfl
  have b21:=F21.binds (ps:=["_law_cell", "_law_k"]) fun _ _ _ _ _ _ us hl=>match us,hl with | [_,_],_=>rfl
  have b22:=F22.binds (ps:=["_law_cell", "_law_many"]) fun _ _ _ _ _ _ us hl=>match us,hl with | [_,_],_=>rfl
  have b23:=F23.binds (ps:=["_law_script", "_law_most"]) fun _ _ _ _ _ _ us hl=>match us,hl with | [_,_],_=>rfl
  have b24:=F24.binds (ps:=["_law_script"]) fun _ _ _ _ _ _ us hl=>match us,hl with | [_],_=>rfl
  exact ⟨⟨f0,_,f1,_,f2,_,f3,_,f4,_,f5,_,f6,_,f7,_,f8,_,f9,_,f10,_,f11,_,f12,_,f13,_,f14,_,f15,_,f16,_,f17,_,f18,_,f19,_,f20,_,f21,_,f22,_,f23,_,fa,_,82,80,92,90,137,135⟩,⟨F0,b0,PySem.W.mg_of X G a0,F1,b1,PySem.W.mg_of X G a1,F2,b2,PySem.W.mg_of X G a2,F3,b3,PySem.W.mg_of X G a3,F4,b4,PySem.W.mg_of X G a4,F5,b5,PySem.W.mg_of X G a5,F6,b6,PySem.W.mg_of X G a6,F7,b7,PySem.W.mg_of X G a7,F8,b8,PySem.W.mg_of X G a8,F9,b9,PySem.W.mg_of X G a9,F10,b10,PySem.W.mg_of X G a10,F11,b11,PySem.W.mg_of X G a11,F12,b12,PySem.W.mg_of X G a12,F13,b13,PySem.W.mg_of X G a13,F14,b14,PySem.W.mg_of X G a14,F15,b15,PySem.W.mg_of X G a15,F16,b16,PySem.W.mg_of X G a16,F17,b17,PySem.W.mg_of X G a17,F18,b18,PySem.W.mg_of X G a18,F19,b19,PySem.W.mg_of X G a19,F20,b20,PySem.W.mg_of X G a20,F21,b21,PySem.W.mg_of X G a21,F22,b22,PySem.W.mg_of X G a22,F23,b23,PySem.W.mg_of X G a23,F24,b24,PySem.W.mg_of X G a24,e_next_marked,h_next_marked,tb_next_marked,e_pair_turns,h_pair_turns,tb_pair_turns,e_tree_turns,h_tree_turns,tb_tree_turns,PySem.W.mg_none_of X G z_all,PySem.W.mg_none_of X G z_any,PySem.W.mg_none_of X G z_enumerate,PySem.W.mg_none_of X G z_len,PySem.W.mg_none_of X G z_list,PySem.W.mg_none_of X G z_min,PySem.W.mg_none_of X G z_range,PySem.W.mg_none_of X G z_sorted,PySem.W.mg_none_of X G z_sum,PySem.W.mg_none_of X G z_zip,⟨_,PySem.W.mg_of X G c_BENCHES⟩⟩,rfl,fun s v=>.of_eq rfl⟩
theorem lookup_in {p:Addr} {q:Str}:∀ {l:List (Addr×Str)},l.lookup p=some q→(p,q)∈l
  | [],h=>by cases h
  | (a,b)::l,h=>by
    rw [List.lookup_cons] at h
    cases e:p==a with
    | true=>rw [e] at h; cases h; rw [beq_iff_eq.mp e]; exact List.mem_cons_self
    | false=>rw [e] at h; exact List.mem_cons_of_mem _ (lookup_in h)
theorem walk {l:PySem.W.OpenLaw} {q:Program} {loose:List Str} {XP:(Str→Option Value)→Heap→Prop} {YP:World→Heap→Prop} {d:DefRec} {K:Params→PySem.W.Frag} (hn:l.most=some 63) (hdf:d.params.defaults=[])
    (hY:∀ (w:World) (h:Heap),YP w h→(K w.params).In h) (hT0:∀ (w:World) (h:Heap),YP w h→h.get? 80=some (PySem.W.tabObj #[])) (hN0:∀ w:World,(K w.params).lookup 80=none) (hC0:∀ w:World,PySem.W.codeHdIn (K w.params) 82 80=true) (hT1:∀ (w:World) (h:Heap),YP w h→h.get? 90=some (PySem.W.tabObj #[])) (hN1:∀ w:World,(K w.params).lookup 90=none) (hC1:∀ w:World,PySem.W.codeHdIn (K w.params) 92 90=true) (hT2:∀ (w:World) (h:Heap),YP w h→h.get? 135=some (PySem.W.tabObj #[])) (hN2:∀ w:World,(K w.params).lookup 135=none) (hC2:∀ w:World,PySem.W.codeHdIn (K w.params) 137 135=true)
    (F:∀ (w:World) (mg:Str→Option Value) (fa:Addr) (h:Heap),(K w.params).In h→h.Ns mainGlobals mg→mg d.name=some (.ref fa)→∃ a:Adr,Txt (K w.params) mg a∧a.f_law=fa∧∀ (s:Shared) (v:Value),BindsTo s a.d_law ⟨[v],[]⟩ [("_law_script", v)]) :
    PySem.W.WalkO q loose XP YP l.row.toRowW d [] (fun f vs=>PySem.call f vs) :=
  L2.walk_ofT (n:=63) (k:=9) (x := "_law_script") (CX:=fun _=>CX0) (sp:=fun w=>sp_law (K w.params)) [((80:Addr),("next_marked.<locals>.<lambda>" : Str)),((90:Addr),("pair_turns.<locals>.<lambda>" : Str)),((135:Addr),("tree_turns.<locals>.<lambda>" : Str))] hn (by decide) hdf ⟨rfl,by decide,by decide⟩ hY
    (fun w h Y p q e=>by
      have m:=lookup_in e; simp only [List.mem_cons,Prod.mk.injEq,List.not_mem_nil,or_false] at m; rcases m with ⟨rfl,_⟩ | ⟨rfl,_⟩ | ⟨rfl,_⟩
      · exact hT0 w h Y
      · exact hT1 w h Y
      · exact hT2 w h Y)
    (fun w p q e=>by
      have m:=lookup_in e; simp only [List.mem_cons,Prod.mk.injEq,List.not_mem_nil,or_false] at m; rcases m with ⟨rfl,_⟩ | ⟨rfl,_⟩ | ⟨rfl,_⟩
      · exact ⟨hN0 w,82,hC0 w⟩
      · exact ⟨hN1 w,92,hC1 w⟩
      · exact ⟨hN2 w,137,hC2 w⟩)
    (fun w mg fa h KX G e=>by
      obtain ⟨a,T,rfl,hb⟩:=F w mg fa h KX G e
      exact ⟨a.d_law,hb,fun base kb nb bm=>(ok_law T bm).imp fun vs H Q E h=>sp_law_of law_true h⟩)
    (fun _ H a ns hl hbits ht hS=>⟨a,ns,rfl,hS,hl,hbits,(fun p hp=>by
      have m:p∈([((80:Addr),("next_marked.<locals>.<lambda>" : Str)),((90:Addr),("pair_turns.<locals>.<lambda>" : Str)),((135:Addr),("tree_turns.<locals>.<lambda>" : Str))]:List (Addr×Str)):=hp
      simp only [List.mem_cons,List.not_mem_nil,or_false] at m
      rcases m with rfl | rfl | rfl
      · exact ⟨0,ht _ _ (by first | rfl | simp)⟩
      · exact ⟨0,ht _ _ (by first | rfl | simp)⟩
      · exact ⟨0,ht _ _ (by first | rfl | simp)⟩),fun _=>rfl⟩) fun _ _ _ _ _ z=>z
end My
open PySem PySem.W PyProof.Rows
set_option maxRecDepth 100000 in
set_option maxHeartbeats 0 in
theorem PySem.Challenge.cw_leastfloor_k66_whole_trees_on_two_benche_holds : PySem.Challenge.rw_leastfloor_k66_whole_trees_on_two_benche.Holds := by
  w_on; o_law; k_head; (case hw => w_witness2)
  k_fill
  refine My.walk (l := PySem.Challenge.rw_leastfloor_k66_whole_trees_on_two_benche) rfl rfl (fun w h Y => by first | exact PySem.W.kIn_of Y | exact PySem.W.km_in_of Y) (fun w h Y => PySem.W.km_tabs_of Y _ (by k_mem)) (fun w => by kernel_rfl) (fun w => by kernel_rfl) (fun w h Y => PySem.W.km_tabs_of Y _ (by k_mem)) (fun w => by kernel_rfl) (fun w => by kernel_rfl) (fun w h Y => PySem.W.km_tabs_of Y _ (by k_mem)) (fun w => by kernel_rfl) (fun w => by kernel_rfl) ?F
  case F =>
    intro w mg fa h KX G hmg
    refine' My.all_mk KX G hmg ?a0 ?l0 ?c0 ?k0 ?a1 ?l1 ?c1 ?k1 ?a2 ?l2 ?c2 ?k2 ?a3 ?l3 ?c3 ?k3 ?a4 ?l4 ?c4 ?k4 ?a5 ?l5 ?c5 ?k5 ?a6 ?l6 ?c6 ?k6 ?a7 ?l7 ?c7 ?k7 ?a8 ?l8 ?c8 ?k8 ?a9 ?l9 ?c9 ?k9 ?a10 ?l10 ?c10 ?k10 ?a11 ?l11 ?c11 ?k11 ?a12 ?l12 ?c12 ?k12 ?a13 ?l13 ?c13 ?k13 ?a14 ?l14 ?c14 ?k14 ?a15 ?l15 ?c15 ?k15 ?a16 ?l16 ?c16 ?k16 ?a17 ?l17 ?c17 ?k17 ?a18 ?l18 ?c18 ?k18 ?a19 ?l19 ?c19 ?k19 ?a20 ?l20 ?c20 ?k20 ?a21 ?l21 ?c21 ?k21 ?a22 ?l22 ?c22 ?k22 ?a23 ?l23 ?c23 ?k23 ?a24 ?l24 ?c24 ?k24 ?z_all ?z_any ?z_enumerate ?z_len ?z_list ?z_min ?z_range ?z_sorted ?z_sum ?z_zip ?c_BENCHES ?e_next_marked ?h_next_marked ?tb_next_marked ?e_pair_turns ?h_pair_turns ?tb_pair_turns ?e_tree_turns ?h_tree_turns ?tb_tree_turns
    (case a0 => k_is); (case l0 => k_is); (case c0 => k_is); (case k0 => k_is)
    (case a1 => k_is); (case l1 => k_is); (case c1 => k_is); (case k1 => k_is)
    (case a2 => k_is); (case l2 => k_is); (case c2 => k_is); (case k2 => k_is)
    (case a3 => k_is); (case l3 => k_is); (case c3 => k_is); (case k3 => k_is)
    (case a4 => k_is); (case l4 => k_is); (case c4 => k_is); (case k4 => k_is)
    (case a5 => k_is); (case l5 => k_is); (case c5 => k_is); (case k5 => k_is)
    (case a6 => k_is); (case l6 => k_is); (case c6 => k_is); (case k6 => k_is)
    (case a7 => k_is); (case l7 => k_is); (case c7 => k_is); (case k7 => k_is)
    (case a8 => k_is); (case l8 => k_is); (case c8 => k_is); (case k8 => k_is)
    (case a9 => k_is); (case l9 => k_is); (case c9 => k_is); (case k9 => k_is)
    (case a10 => k_is); (case l10 => k_is); (case c10 => k_is); (case k10 => k_is)
    (case a11 => k_is); (case l11 => k_is); (case c11 => k_is); (case k11 => k_is)
    (case a12 => k_is); (case l12 => k_is); (case c12 => k_is); (case k12 => k_is)
    (case a13 => k_is); (case l13 => k_is); (case c13 => k_is); (case k13 => k_is)
    (case a14 => k_is); (case l14 => k_is); (case c14 => k_is); (case k14 => k_is)
    (case a15 => k_is); (case l15 => k_is); (case c15 => k_is); (case k15 => k_is)
    (case a16 => k_is); (case l16 => k_is); (case c16 => k_is); (case k16 => k_is)
    (case a17 => k_is); (case l17 => k_is); (case c17 => k_is); (case k17 => k_is)
    (case a18 => k_is); (case l18 => k_is); (case c18 => k_is); (case k18 => k_is)
    (case a19 => k_is); (case l19 => k_is); (case c19 => k_is); (case k19 => k_is)
    (case a20 => k_is); (case l20 => k_is); (case c20 => k_is); (case k20 => k_is)
    (case a21 => k_is); (case l21 => k_is); (case c21 => k_is); (case k21 => k_is)
    (case a22 => k_is); (case l22 => k_is); (case c22 => k_is); (case k22 => k_is)
    (case a23 => k_is); (case l23 => k_is); (case c23 => k_is); (case k23 => k_is)
    (case a24 => k_is); (case l24 => k_is); (case c24 => k_is); (case k24 => k_is)
    (case z_all => k_is); (case z_any => k_is); (case z_enumerate => k_is); (case z_len => k_is)
    (case z_list => k_is); (case z_min => k_is); (case z_range => k_is); (case z_sorted => k_is)
    (case z_sum => k_is); (case z_zip => k_is); (case c_BENCHES => k_is); (case e_next_marked => rfl)
    (case h_next_marked => kernel_rfl); (case tb_next_marked => exact List.mem_cons_self); (case e_pair_turns => rfl); (case h_pair_turns => kernel_rfl)
    (case tb_pair_turns => exact (List.mem_cons_of_mem _ List.mem_cons_self)); (case e_tree_turns => rfl); (case h_tree_turns => kernel_rfl); (case tb_tree_turns => exact (List.mem_cons_of_mem _ (List.mem_cons_of_mem _ List.mem_cons_self)))
#print axioms PySem.Challenge.cw_leastfloor_k66_whole_trees_on_two_benche_holds
