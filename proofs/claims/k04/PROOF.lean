import PyProof.Rows.All
import Wide.All
import OpenK.AllK
import Wide.FinOn
import Lean
import PyProof.EqAt
import PyProof.EqKinds
import PyProof.TupleCall
import PySem.Challenge.RW_leastfloor_k04_moments_and_busy
set_option compiler.extract_closed false
set_option Elab.async false
set_option linter.all false
set_option maxRecDepth 100000
namespace L2
open PySem PySem.Spec PyProof.Rows
abbrev Key:=Sum Int Str
def keyIs:Key→Value→Bool
  | .inl k,v=>Value.isInt k v
  | .inr x,v=>Value.isStrOf x v
def keyH (w:World):Key→Int
  | .inl k=>hashInt k
  | .inr x=>hashStr w x
theorem keyIs_shape:∀ {k:Key} {v:Value},keyIs k v=true→(∃ i t,k=Sum.inl i∧v=Value.int i t)∨(∃ x t,k=Sum.inr x∧v=Value.str x t)
  | .inl i,v,h=>by
    obtain ⟨t,e⟩:=Value.isInt_shape (k:=i) (v:=v) h
    exact .inl ⟨i,t,rfl,e⟩
  | .inr x,v,h=>by
    obtain ⟨t,e⟩:=Value.isStrOf_shape (x:=x) (v:=v) h
    exact .inr ⟨x,t,rfl,e⟩
theorem key_ll (a b:Int):decide ((Sum.inl a:Key)=Sum.inl b)=(a==b):=by
  by_cases e:a=b
  · subst e; simp
  · have h:¬ (Sum.inl a:Key)=Sum.inl b:=fun q=>e (Sum.inl.inj q)
    rw [decide_eq_false h]
    exact (beq_eq_false_iff_ne.mpr e).symm
theorem key_rr (a b:Str):decide ((Sum.inr a:Key)=Sum.inr b)=decide (a=b):=by
  by_cases e:a=b
  · subst e; simp
  · have h:¬ (Sum.inr a:Key)=Sum.inr b:=fun q=>e (Sum.inr.inj q)
    rw [decide_eq_false h,decide_eq_false e]
theorem key_lr (a:Int) (b:Str):decide ((Sum.inl a:Key)=Sum.inr b)=false:=decide_eq_false (fun q=>nomatch q)
theorem key_rl (a:Str) (b:Int):decide ((Sum.inr a:Key)=Sum.inl b)=false:=decide_eq_false (fun q=>nomatch q)
def mixKind (prog:Program) (w:World):PySem.KeyKind prog w Key where
  is:=keyIs
  hash:=keyH w
  inj:=fun v a b ha hb=>by
    rcases keyIs_shape ha with ⟨i,t,rfl,rfl⟩ | ⟨x,t,rfl,rfl⟩
    · rcases keyIs_shape hb with ⟨j,u,rfl,e⟩ | ⟨y,u,rfl,e⟩
      · injection e with e1 _; rw [e1]
      · exact nomatch e
    · rcases keyIs_shape hb with ⟨j,u,rfl,e⟩ | ⟨y,u,rfl,e⟩
      · exact nomatch e
      · injection e with e1 _; rw [e1]
  byValue:=fun k v h=>by
    rcases keyIs_shape h with ⟨i,t,rfl,rfl⟩ | ⟨x,t,rfl,rfl⟩ <;> rfl
  pyHash:=fun hv h=>by
    rcases keyIs_shape hv with ⟨i,t,rfl,rfl⟩ | ⟨x,t,rfl,rfl⟩
    · exact wpAny_pyHash_int h
    · exact wpAny_pyHash_str h
  eqBool:=fun hu hv h=>by
    rcases keyIs_shape hu with ⟨i,t,rfl,rfl⟩ | ⟨x,t,rfl,rfl⟩
    · rcases keyIs_shape hv with ⟨j,u,rfl,rfl⟩ | ⟨y,u,rfl,rfl⟩
      · rw [key_ll] at h; exact wpAny_eqBool_int h
      · rw [key_lr] at h; exact SeqAt.EqAt.int_str i t y u _ _ _ _ h
    · rcases keyIs_shape hv with ⟨j,u,rfl,rfl⟩ | ⟨y,u,rfl,rfl⟩
      · rw [key_rl] at h; exact SeqAt.EqAt.str_int x t j u _ _ _ _ h
      · rw [key_rr] at h; exact wpAny_eqBool_str h
  «strs»:=fun k x t v h=>by
    rcases keyIs_shape h with ⟨i,u,rfl,e⟩ | ⟨y,u,rfl,e⟩
    · exact nomatch e
    · injection e with e1 _
      subst e1
      cases v <;> rfl
end L2
namespace L2
open PySem PySem.Spec PyProof.Rows
inductive V where
  | non | bl (b:Bool) | int (i:Int) | str (x:Str) | byt (b:Array UInt8) | flt (b:UInt64) | ref (a:Addr) | ty (n:String)
  deriving DecidableEq
def RelV:V→Value→Prop
  | .non,u=>u=Value.none
  | .bl b,u=>u=Value.bool b
  | .int i,u=>∃ t,u=Value.int i t
  | .str x,u=>∃ t,u=Value.str x t
  | .byt b,u=>∃ t,u=Value.bytes b t
  | .flt b,u=>∃ t,u=Value.float b t
  | .ref a,u=>u=Value.ref a
  | .ty n,u=>u=Value.type n
abbrev Vals:List V→List Value→Prop:=Paired RelV
theorem Vals.length {xs:List V} {us:List Value} (r:Vals xs us):xs.length=us.length:=Paired.length r
theorem Vals.get:∀ {xs:List V} {us:List Value} {i:Nat} {x:V},Vals xs us→xs[i]?=some x→∃ u,us[i]?=some u∧RelV x u
  | _,_,_,_,.nil,e=>by simp at e
  | _,_,0,_,.cons r _,e=>by simp at e; subst e; exact ⟨_,rfl,r⟩
  | _,_,i+1,x,.cons _ t,e=>by
    obtain ⟨u,h1,h2⟩:=Vals.get (i:=i) (x:=x) t (by simpa using e)
    exact ⟨u,by simpa using h1,h2⟩
theorem Vals.set {x:V} {u:Value} (r:RelV x u):∀ {xs:List V} {us:List Value} (i:Nat),Vals xs us→Vals (xs.set i x) (us.set i u)
  | _,_,_,.nil=>.nil
  | _,_,0,.cons _ t=>.cons r t
  | _,_,i+1,.cons q t=>.cons q (Vals.set r i t)
theorem Vals.append:∀ {xs ys:List V} {us ws:List Value},Vals xs us→Vals ys ws→Vals (xs++ys) (us++ws)
  | _,_,_,_,.nil,s=>s
  | _,_,_,_,.cons r t,s=>.cons r (Vals.append t s)
theorem Vals.take:∀ {xs:List V} {us:List Value} (n:Nat),Vals xs us→Vals (xs.take n) (us.take n)
  | _,_,0,_=>.nil
  | _,_,_+1,.nil=>.nil
  | _,_,n+1,.cons r t=>.cons r (Vals.take n t)
theorem Vals.drop:∀ {xs:List V} {us:List Value} (n:Nat),Vals xs us→Vals (xs.drop n) (us.drop n)
  | _,_,0,r=>r
  | _,_,_+1,.nil=>.nil
  | _,_,n+1,.cons _ t=>Vals.drop n t
def RelO:Option V→Option Value→Prop
  | some v,some u=>RelV v u
  | none,none=>True
  | _,_=>False
def KV {κ:Type}:List (κ×V)→List (κ×Value)→Prop:=Paired fun (p:κ×V) (q:κ×Value)=>p.1=q.1∧RelV p.2 q.2
def kV:Key→V
  | .inl i=>.int i
  | .inr x=>.str x
inductive HO where
  | lst (xs:List V)
  | tup (xs:List V)
  | dK (kvs:List (Key×V)) | dT (kvs:List (List Key×V))
  | set (S:Int→Bool) (n:Nat)
  | ins (C dx:Addr) (fs:List (Str×V))
  | own (x:Addr)
  | xd (fs:List (Str×V))
  | met (f x:Addr)
  | rng (lo hi:Int)
  | frz (o:Obj) (u:HO)
  | tbl (ps:Array Value)
  | ext (φ:Heap→Prop)
abbrev Hp:=Addr→Option HO
def upd (H:Hp) (a:Addr) (o:HO):Hp:=fun b=>if b=a then some o else H b
theorem upd_same {H:Hp} {a:Addr} {o:HO}:upd H a o a=some o:=by unfold upd; rw [if_pos rfl]
theorem upd_ne {H:Hp} {a b:Addr} {o:HO} (h:b≠a):upd H a o b=H b:=by unfold upd; rw [if_neg h]
theorem ne_of_none {H:Hp} {a b:Addr} {o:HO} (h:H a=some o) (h':H b=none):a≠b:=by
  intro e; subst e; rw [h] at h'; cases h'
section
variable (P:Program) (w:World)
def ObjOk (H:Hp) (h:Heap) (a:Addr):HO→Prop
  | .lst xs=>xs.length≤sizeLine∧∃ (its:List Value) (n:Nat),Vals xs its∧h.get? a=some { cls:=.type "list", data:=.seq its.toArray n }
  | .tup xs=>xs.length≤sizeLine∧∃ its:List Value,Vals xs its∧IsTup h a its.toArray
  | .dK kvs=>kvs.length≤sizeLine∧(a==sysModules)=false∧∃ vs,KV kvs vs∧h.DictOf (mixKind P w) a vs
  | .dT kvs=>kvs.length≤sizeLine∧(a==sysModules)=false∧∃ xs:List (List Key×Addr×Value),
      Paired (fun (p:List Key×V) (q:List Key×Addr×Value)=>p.1=q.1∧H q.2.1=some (.tup (p.1.map kV))∧RelV p.2 q.2.2) kvs xs ∧
      ∃ o es ep,h.get? a=some o∧o.ExactDict∧o.data=.dict es ep∧es.toList=xs.map (entryOfKey (tupleKind (mixKind P w)))∧(xs.map (·.1)).Nodup
  | .set S n=>h.SetOf (intKind P w) a S n
  | .ins C dx fs=>H dx=some (.own a)∧fs.length≤1000∧dx≠a∧h.get? a=some (PySem.W.instObj C dx) ∧
      ∃ mA,h.Ns1 dx mA∧(∀ f,RelO (fs.lookup f) (mA f))∧PySem.Within mA (fs.map (·.1))
  | .own _=>∃ o,h.get? a=some o
  | .xd fs=>∃ mA,h.Ns1 a mA∧∀ f,RelO (fs.lookup f) (mA f)
  | .rng lo hi=>∃ t u v,h.get? a=some { cls:=.type "range", data:=.fields #[.int lo t,.int hi u,.int 1 v] }
  | .frz o u=>h.get? a=some o∧ObjOk H h a u
  | .tbl ps=>∃ (q:Str) (t:Tok) (qs:Array Value),ps[0]?=some (.str q t)∧h.get? a=some { cls:=.none,data:=.fields qs }∧TriplesOk qs.toList ∧
      ∀ pos v,codeAmong pos qs.toList=some v→∃ c o u vs t,v=.ref c∧H c=some (.frz o u)∧o.data=.fields vs∧vs[1]?=some (.str q t)
  | .met f x=>h.get? a=some (PySem.W.methodObj (.ref f) (.ref x))
  | .ext φ=>φ h∧(∃ o,h.get? a=some o)∧∀ h1 h2:Heap,φ h1→(∀ o,h1.get? a=some o→h2.get? a=some o)→φ h2
def HOk (H:Hp) (h:Heap):Prop:=∀ a o,H a=some o→ObjOk P w H h a o
end
section
variable {P:Program} {w:World} {H H':Hp} {h h':Heap} {a:Addr} {o:HO}
theorem ObjOk.lt (x:ObjOk P w H h a o):a<h.objs.size:=by
  cases o with
  | lst xs=>obtain ⟨_,_,_,_,e⟩:=x; exact Heap.lt_size e
  | tup xs=>obtain ⟨_,_,_,p⟩:=x; exact p.lt
  | dK kvs=>obtain ⟨_,_,_,_,o,_,_,e,_⟩:=x; exact Heap.lt_size e
  | dT kvs=>obtain ⟨_,_,_,_,o,_,_,e,_⟩:=x; exact Heap.lt_size e
  | set S n=>obtain ⟨o,_,_,_,e,_⟩:=x; exact Heap.lt_size e
  | ins C dx fs=>obtain ⟨_,_,_,e,_⟩:=x; exact Heap.lt_size e
  | own y=>obtain ⟨_,e⟩:=x; exact Heap.lt_size e
  | xd fs=>obtain ⟨_,⟨_,_,_,e,_⟩,_⟩:=x; exact Heap.lt_size e
  | rng lo hi=>obtain ⟨_,_,_,e⟩:=x; exact Heap.lt_size e
  | frz ob u=>obtain ⟨e,_⟩:=x; exact Heap.lt_size e
  | tbl ps=>obtain ⟨_,_,_,_,e,_⟩:=x; exact Heap.lt_size e
  | met f y=>exact Heap.lt_size (show h.get? a=some _ from x)
  | ext φ=>obtain ⟨_,⟨_,e⟩,_⟩:=x; exact Heap.lt_size e
theorem Paired.mapP {α β:Type} {F G:α→β→Prop}:∀ {l₁:List α} {l₂:List β},Paired F l₁ l₂→(∀ a b,F a b→G a b)→Paired G l₁ l₂
  | _,_,.nil,_=>.nil
  | _,_,.cons r t,f=>.cons (f _ _ r) (Paired.mapP t f)
theorem ObjOk.stay (x:ObjOk P w H h a o) (k:∀ b u,(b=a∨H b=some (.own a))→h.get? b=some u→h'.get? b=some u)
    (ho:∀ b,H b=some (.own a)→H' b=some (.own a)) (ht:∀ b xs,H b=some (.tup xs)→H' b=some (.tup xs)) (hz:∀ b o u,H b=some (.frz o u)→H' b=some (.frz o u):=by first | exact fun _ _ _ q=>q | (intro b o u q; rw [upd_ne (ne_of_none q (by assumption))]; exact q)):ObjOk P w H' h' a o:=by
  induction o with
  | lst xs=>obtain ⟨z,its,n,r,e⟩:=x; exact ⟨z,its,n,r,k _ _ (.inl rfl) e⟩
  | tup xs=>obtain ⟨z,its,r,ob,e,c⟩:=x; exact ⟨z,its,r,ob,k _ _ (.inl rfl) e,c⟩
  | dK kvs=>obtain ⟨z,y,vs,r,ob,es,ep,e,c⟩:=x; exact ⟨z,y,vs,r,ob,es,ep,k _ _ (.inl rfl) e,c⟩
  | dT kvs =>
    obtain ⟨z,y,xs,r,ob,es,ep,e,c⟩:=x
    exact ⟨z,y,xs,Paired.mapP r fun p q z=>⟨z.1,ht _ _ z.2.1,z.2.2⟩,ob,es,ep,k _ _ (.inl rfl) e,c⟩
  | set S n=>obtain ⟨ob,es,ep,t,e,c⟩:=x; exact ⟨ob,es,ep,t,k _ _ (.inl rfl) e,c⟩
  | ins C dx fs =>
    obtain ⟨d,z,ne,e,mA,⟨od,es,ep,e2,c⟩,r⟩:=x
    exact ⟨ho _ d,z,ne,k _ _ (.inl rfl) e,mA,⟨od,es,ep,k _ _ (.inr d) e2,c⟩,r⟩
  | own y=>obtain ⟨ob,e⟩:=x; exact ⟨ob,k _ _ (.inl rfl) e⟩
  | xd fs=>obtain ⟨mA,⟨od,es,ep,e,c⟩,r⟩:=x; exact ⟨mA,⟨od,es,ep,k _ _ (.inl rfl) e,c⟩,r⟩
  | rng lo hi=>obtain ⟨t,u,v,e⟩:=x; exact ⟨t,u,v,k _ _ (.inl rfl) e⟩
  | frz ob u ih=>obtain ⟨e,q⟩:=x; exact ⟨k _ _ (.inl rfl) e,ih q⟩
  | tbl ps =>
    obtain ⟨q,t,qs,h0,h1,h2,h3⟩:=x
    refine ⟨q,t,qs,h0,k _ _ (.inl rfl) h1,h2,fun pos v e=>?_⟩
    obtain ⟨c,o,u,vs,t2,e1,e2,e3⟩:=h3 pos v e
    exact ⟨c,o,u,vs,t2,e1,hz _ _ _ e2,e3⟩
  | met f y =>
    have e:h.get? a=some (PySem.W.methodObj (.ref f) (.ref y)):=x
    show h'.get? a=some (PySem.W.methodObj (.ref f) (.ref y))
    exact k a _ (.inl rfl) e
  | ext φ=>obtain ⟨p,⟨o,e⟩,st⟩:=x; exact ⟨st _ _ p fun o q=>k _ _ (.inl rfl) q,⟨o,k _ _ (.inl rfl) e⟩,st⟩
theorem HOk.lt (x:HOk P w H h) (e:H a=some o):a<h.objs.size:=(x a o e).lt
theorem HOk.fresh (x:HOk P w H h) (e:h.objs.size≤a):H a=none:=by
  cases q:H a with
  | none=>rfl
  | some u=>exact absurd (Nat.lt_of_lt_of_le (x.lt q) e) (Nat.lt_irrefl _)
theorem HOk.kept (x:HOk P w H h) (k:∀ b u,h.get? b=some u→h'.get? b=some u):HOk P w H h':=fun a o e =>
  (x a o e).stay (fun b u _ q=>k b u q) (fun _ q=>q) fun _ _ q=>q
theorem HOk.laid (x:HOk P w H h) (k:∀ b u,h.get? b=some u→h'.get? b=some u) (hp:h.objs.size≤a) (new:ObjOk P w (upd H a o) h' a o):HOk P w (upd H a o) h':=fun b u e=>by
  have hn:=x.fresh hp
  by_cases hb:b=a
  · subst hb; rw [upd_same] at e; cases e; exact new
  · rw [upd_ne hb] at e
    exact (x b u e).stay (fun c v _ q=>k c v q) (fun c q=>by rw [upd_ne (ne_of_none q hn)]; exact q) fun c xs q=>by rw [upd_ne (ne_of_none q hn)]; exact q
end
def Rd (H:Hp) (a:Addr) (u:HO):Prop:=H a=some u∨∃ o,H a=some (.frz o u)
theorem Rd.ok {P:Program} {w:World} {H:Hp} {h:Heap} {a:Addr} {u:HO} (r:Rd H a u) (x:HOk P w H h):ObjOk P w H h a u:=by
  rcases r with r | ⟨o,r⟩
  · exact x a u r
  · obtain ⟨_,q⟩:=x a _ r
    exact q
def Mut:Option HO→Prop
  | some (.lst _)=>True
  | some (.dK _)=>True
  | some (.dT _)=>True
  | some (.set _ _)=>True
  | some (.ins _ _ _)=>True
  | some (.ext _)=>True
  | _=>False
section
variable {P:Program} {w:World} {H:Hp} {h h':Heap} {x e:Addr} {o':HO}
theorem HOk.write (ok:HOk P w H h) (mu:Mut (H x)) (he:e=x∨H e=some (.own x)) (k:∀ b u,b≠e→h.get? b=some u→h'.get? b=some u) (heo:∃ u,h'.get? e=some u)
    (new:ObjOk P w (upd H x o') h' x o'):HOk P w (upd H x o') h':=fun b u q=>by
  have nown:∀ c y,H c=some (.own y)→c≠x:=fun c y r z=>by subst z; rw [r] at mu; exact mu
  have ntup:∀ c xs,H c=some (.tup xs)→c≠x:=fun c xs r z=>by subst z; rw [r] at mu; exact mu
  have nfrz:∀ c o u,H c=some (.frz o u)→c≠x:=fun c o u r z=>by subst z; rw [r] at mu; exact mu
  by_cases hb:b=x
  · subst hb; rw [upd_same] at q; cases q; exact new
  · rw [upd_ne hb] at q
    by_cases hbe:b=e
    · have q':H b=some (.own x):=by
        rcases he with z | z
        · exact absurd (hbe.trans z) hb
        · rw [hbe]; exact z
      rw [q] at q'; cases q'
      obtain ⟨v,hv⟩:=heo
      exact ⟨v,by rw [hbe]; exact hv⟩
    · refine (ok b u q).stay (fun c v hc r=>k c v ?_ r) (fun c r=>by rw [upd_ne (nown c b r)]; exact r) (fun c xs r=>by rw [upd_ne (ntup c xs r)]; exact r) fun c o u r=>by rw [upd_ne (nfrz c o u r)]; exact r
      rcases hc with rfl | hc
      · exact hbe
      · rintro rfl
        rcases he with z | z
        · exact nown c b hc z
        · rw [hc] at z; cases z; exact hb rfl
end
structure Un (fs ex:List Addr) (H H':Hp) (h h':Heap):Prop where
  keep:∀ b o,h.get? b=some o→H b=none→b∉fs→b∉ex→h'.get? b=some o
  slot:∀ b o,h.get? b=some o→H b=none→b∈fs→b∉ex→∃ sl,h'.get? b=some { o with slots:=sl }
  free:∀ b o,h.get? b=some o→H b=none→b∉ex→H' b=none
  there:∀ b o,h.get? b=some o→b∉ex→∃ o',h'.get? b=some o'
  tups:∀ b xs,H b=some (.tup xs)→H' b=some (.tup xs)
  frzs:∀ b o u,H b=some (.frz o u)→H' b=some (.frz o u)
  tbls:∀ b ps,H b=some (.tbl ps)→∃ more,H' b=some (.tbl (ps++more))
section
variable {fs fs' ex ex':List Addr} {H H1 H2:Hp} {h h1 h2 h':Heap} {a x e:Addr} {o:HO}
theorem Un.any (u:Un fs ex H H1 h h1) {b:Addr} {ob:Obj} (q:h.get? b=some ob) (n:H b=none) (hx:b∉ex):∃ sl,h1.get? b=some { ob with slots:=sl }:=by
  by_cases hb:b∈fs
  · exact u.slot b ob q n hb hx
  · exact ⟨ob.slots,u.keep b ob q n hb hx⟩
theorem Un.kept (k:∀ b u,h.get? b=some u→h'.get? b=some u):Un fs ex H H h h' :=
  ⟨fun b ob q _ _ _=>k b ob q,fun b ob q _ _ _=>⟨ob.slots,k b ob q⟩,fun _ _ _ n _=>n,fun b ob q _=>⟨ob,k b ob q⟩,fun _ _ q=>q,fun _ _ _ q=>q,fun _ ps q=>⟨#[],by rw [q]; simp⟩⟩
theorem Un.refl:Un fs ex H H h h:=Un.kept fun _ _ q=>q
theorem Un.laid (k:∀ b u,h.get? b=some u→h'.get? b=some u) (hp:h.objs.size≤a) (hn:H a=none):Un fs ex H (upd H a o) h h' where
  keep:=fun b u q _ _ _=>k b u q
  slot:=fun b u q _ _ _=>⟨u.slots,k b u q⟩
  free:=fun b u q n _=>by rw [upd_ne (Nat.ne_of_lt (Nat.lt_of_lt_of_le (Heap.lt_size q) hp))]; exact n
  there:=fun b u q _=>⟨u,k b u q⟩
  tups:=fun b xs q=>by rw [upd_ne (ne_of_none q hn)]; exact q
  frzs:=fun b u xs q=>by rw [upd_ne (ne_of_none q hn)]; exact q
  tbls:=fun b ps q=>⟨#[],by rw [upd_ne (ne_of_none q hn),q]; simp⟩
theorem Un.write (mu:Mut (H x)) (he:e=x∨H e=some (.own x)) (k:∀ b u,b≠e→h.get? b=some u→h'.get? b=some u) (heo:∃ u,h'.get? e=some u):Un fs ex H (upd H x o) h h':=by
  have hx:∀ b,H b=none→b≠x:=fun b n z=>by subst z; rw [n] at mu; exact mu
  have hb:∀ b,H b=none→b≠e:=fun b n z=>by
    subst z
    rcases he with r | r
    · exact hx b n r
    · rw [n] at r; cases r
  have hm:∀ b u,H b=some u→¬ Mut (some u)→b≠x:=fun b u q nm z=>by subst z; rw [q] at mu; exact nm mu
  refine ⟨fun b u q n _ _=>k b u (hb b n) q,fun b u q n _ _=>⟨u.slots,k b u (hb b n) q⟩,fun b u q n _=>by rw [upd_ne (hx b n)]; exact n,fun b u q _=>?_,
    fun b xs q=>by rw [upd_ne (hm b _ q fun z=>z)]; exact q,fun b u xs q=>by rw [upd_ne (hm b _ q fun z=>z)]; exact q,fun b ps q=>⟨#[],by rw [upd_ne (hm b _ q fun z=>z),q]; simp⟩⟩
  by_cases hbe:b=e
  · subst hbe; exact heo
  · exact ⟨u,k b u hbe q⟩
end
def trk (h:Heap) (H:Hp):List Addr:=(List.range h.objs.size).filter fun a=>(H a).isSome
def hidT (h:Heap) (H:Hp):Heap:=PySem.W.hideAll h (trk h H)
theorem hidT_size (h:Heap) (H:Hp):(hidT h H).objs.size=h.objs.size:=PySem.W.hideAll_size _ _
theorem hidT_get {h:Heap} {H:Hp} {b:Addr} {o:Obj} (e:h.get? b=some o) (n:H b=none):(hidT h H).get? b=some o :=
  PySem.W.hideAll_get _ e fun hm=>by
    have q:(H b).isSome=true:=(List.mem_filter.mp hm).2
    rw [n] at q; simp at q
theorem of_hidT {h:Heap} {H:Hp} {b:Addr} {o:Obj} (e:(hidT h H).get? b=some o):h.get? b=some o∧H b=none:=by
  have e':h.get? b=some o:=PySem.W.of_hideAll (trk h H) e
  refine ⟨e',?_⟩
  cases q:H b with
  | none=>rfl
  | some x =>
    have hm:b∈trk h H:=List.mem_filter.mpr ⟨List.mem_range.mpr (Heap.lt_size e'),by simp [q]⟩
    have z:(hidT h H).get? b=none:=PySem.W.hideAll_none (trk h H) hm
    rw [z] at e; cases e
def allNews (g h:Heap) (L:Addr):List (Addr×Obj):=(List.range h.objs.size).filterMap fun a=>if a=L∨(g.get? a).isSome=true then none else (h.get? a).map fun o=>(a,o)
theorem mem_allNews {g h:Heap} {L a:Addr} {o:Obj} (h1:a≠L) (h2:g.get? a=none) (h3:h.get? a=some o):(a,o)∈allNews g h L :=
  List.mem_filterMap.mpr ⟨a,List.mem_range.mpr (Heap.lt_size h3),by simp [h1,h2,h3]⟩
theorem of_mem_allNews {g h:Heap} {L:Addr} {p:Addr×Obj} (hp:p∈allNews g h L):p.1≠L∧g.get? p.1=none∧h.get? p.1=some p.2:=by
  obtain ⟨b,_,e⟩:=List.mem_filterMap.mp hp
  split at e
  · cases e
  · rename_i hn
    cases q:h.get? b with
    | none=>rw [q] at e; simp at e
    | some u =>
      rw [q] at e
      simp only [Option.map_some,Option.some.injEq] at e
      subst e
      refine ⟨fun z=>hn (.inl z),?_,q⟩
      show g.get? b=none
      cases r:g.get? b with
      | none=>rfl
      | some v=>exact (hn (.inr (by simp [r]))).elim
def rest (g h:Heap) (L d:Addr):List (Addr×Obj):=(allNews g h L).filter fun p=>decide (p.1≠d)
theorem news_all {g h:Heap} {L:Addr}:News g L h (allNews g h L):=fun p hp=>let ⟨a,b,c⟩:=of_mem_allNews hp; ⟨c,a,b⟩
end L2
namespace L2
open PySem PySem.Spec PyProof.Rows
structure Mod (K:PySem.W.Frag) (mg:Str→Option Value) (base:Heap):Prop where
  kin:K.In base
  glob:base.Ns mainGlobals mg
  blt:∃ mb,base.Ns builtinsNs mb∧∀ x:Str,x ≠ "__name__" → mb x=bootBuiltins x
  nolimit:base.NoLimit
structure Cx where
  prog:Program
  w:World
  K:PySem.W.Frag
  mg:Str→Option Value
  base:Heap
  A:Around
  N:List Str
  s₀:Shared
  H₀:Hp
  env:Env
  outer:List Env
  stack:List Env
  ex:List Addr
  fn:Str→Bool
  calm:Bool
  pn:List (Addr×Obj)
  xe:Value→Shared→Prop
def frs (l:List Env):List Addr:=l.filterMap (·.frame)
abbrev Cx.fs (X:Cx):List Addr:=frs X.outer
def Vis (sc:Scope) (x:Str):Prop:=sc.names.lookup x=some .local∨sc.names.lookup x=some .cell∨sc.names.lookup x=some .free
def Loc (sc:Scope) (x:Str):Prop:=sc.names.lookup x=some .local∨sc.names.lookup x=some .cell
def Look (env:Env) (h:Heap) (m:Str→Option Value) (x:Str) (u:Value):Prop :=
  (env.kindOf x=some .local∧m x=some u)∨((env.kindOf x=some .cell∨env.kindOf x=some .free)∧∃ c,env.cells.lookup x=some c∧h.IsCell c (some u))
structure Cx.Ok (X:Cx):Prop where
  mod:Mod X.K X.mg X.base
  kind:X.env.scope.kind=.function
  glob:X.env.globals=mainGlobals
  blt:X.env.builtins=builtinsNs
  above:X.s₀.heap.objs.size≤X.env.locals
  inj:∀ x y c,X.env.cells.lookup x=some c→X.env.cells.lookup y=some c→x=y
  has:∀ x,(X.env.kindOf x=some .cell∨X.env.kindOf x=some .free)→∃ c,X.env.cells.lookup x=some c
  cab:∀ x c,X.fn x=true→X.env.cells.lookup x=some c→X.s₀.heap.objs.size≤c
  hd:X.calm=true→X.A.handled=none
  frames:X.A.frames=some X.stack
  stk:X.stack=X.outer∨(X.stack=X.env::X.outer∧X.env.frame=some X.env.locals)
  exf:∀ b∈X.ex,b≠X.env.locals∧∀ x c,X.env.cells.lookup x=some c→c≠b
  bs:∀ b o,X.base.get? b=some o→X.s₀.heap.get? b=some o∧X.H₀ b=none
  bsz:X.base.objs.size≤X.s₀.heap.objs.size
  noex:∀ b o,X.base.get? b=some o→b∉X.ex
  exfs:∀ b∈X.ex,b∉X.fs
  funs:X.s₀.heap.FunFrames X.base X.outer
  frf:∀ b∈X.fs,X.H₀ b=none
structure Inv (X:Cx) (pins:List (Addr×Obj)) (σ:List (Option V)) (H:Hp) (s:Shared):Prop where
  ok:X.Ok
  os:s.os=X.s₀.os
  bare:AllBare s.gens
  base:Un X.fs X.ex X.H₀ H X.s₀.heap s.heap
  loc:∃ m,s.heap.Ns X.env.locals m∧∀ (i:Nat) (x:Str) (v:V),X.N[i]?=some x→σ[i]?=some (some v)→Vis X.env.scope x→∃ u,RelV v u∧Look X.env s.heap m x u
  cell:∀ x c,X.env.cells.lookup x=some c→∃ v,s.heap.IsCell c v
  free:H X.env.locals=none
  freeC:∀ x c,X.env.cells.lookup x=some c→H c=none
  pin:∀ p∈X.pn++pins,s.heap.get? p.1=some p.2∧H p.1=none∧p.1≠X.env.locals∧p.1∉X.fs∧∀ v,p.2.data≠.cell v
  hok:HOk X.prog X.w H s.heap
  len:σ.length=X.N.length
section
variable {X:Cx} {pins:List (Addr×Obj)} {σ:List (Option V)} {H H':Hp} {s:Shared} {h':Heap}
theorem Cx.Ok.nofr (ok:X.Ok) {b:Addr} {o:Obj} (e:X.base.get? b=some o):b∉X.fs:=fun hb=>by
  have:=(ok.funs.mem hb).1
  rw [e] at this; cases this
theorem Inv.bs (I:Inv X pins σ H s):∀ b o,X.base.get? b=some o→s.heap.get? b=some o∧H b=none:=fun b o e =>
  ⟨I.base.keep b o (I.ok.bs b o e).1 (I.ok.bs b o e).2 (I.ok.nofr e) (I.ok.noex b o e),I.base.free b o (I.ok.bs b o e).1 (I.ok.bs b o e).2 (I.ok.noex b o e)⟩
theorem Inv.bk (I:Inv X pins σ H s):∀ b o,X.base.get? b=some o→s.heap.get? b=some o:=fun b o e=>(I.bs b o e).1
theorem Inv.mod (I:Inv X pins σ H s):Mod X.K X.mg X.base:=I.ok.mod
theorem Inv.kIn (I:Inv X pins σ H s):X.K.In s.heap:=I.ok.mod.kin.keeps I.bk
theorem Inv.fr (I:Inv X pins σ H s):∃ m,Fr X.base X.env.locals s.heap m :=
  let ⟨m,hn,_⟩:=I.loc
  ⟨m,hn,I.bk,Nat.le_trans I.ok.bsz I.ok.above⟩
theorem Inv.lt (I:Inv X pins σ H s):X.env.locals<s.heap.objs.size:=let ⟨_,hn,_⟩:=I.loc; hn.lt
theorem Inv.sz (I:Inv X pins σ H s):X.s₀.heap.objs.size≤s.heap.objs.size:=Nat.le_trans I.ok.above (Nat.le_of_lt I.lt)
theorem Inv.nofs (I:Inv X pins σ H s) {a:Addr} (h:s.heap.objs.size≤a):a∉X.fs:=fun hb=>by
  obtain ⟨_,o,ho,_⟩:=I.ok.funs.mem hb
  exact absurd (Nat.lt_of_lt_of_le (Heap.lt_size ho) (Nat.le_trans I.sz h)) (Nat.lt_irrefl _)
theorem Inv.cne (I:Inv X pins σ H s):∀ x c,X.env.cells.lookup x=some c→c≠X.env.locals:=fun x c e z=>by
  obtain ⟨v,o,ho,hd⟩:=I.cell x c e
  obtain ⟨m,⟨o',es,ep,ho',hd',_⟩,_⟩:=I.loc
  rw [z,ho'] at ho; cases ho; rw [hd'] at hd; cases hd
theorem Inv.funs (I:Inv X pins σ H s):s.heap.FunFrames X.base X.outer:=by
  have all:∀ (l:List Env),(∀ b∈frs l,b∈X.fs)→X.s₀.heap.FunFrames X.base l→s.heap.FunFrames X.base l:=by
    intro l
    induction l with
    | nil=>intro _ _; trivial
    | cons env r ih =>
      intro hs hl
      obtain ⟨hk,⟨L,o,hf,hn,ho,hd⟩,hr⟩:=hl
      have hL:L∈X.fs:=hs L (by unfold frs; rw [List.filterMap_cons,hf]; exact List.mem_cons_self)
      obtain ⟨sl,e⟩:=I.base.slot L o ho (I.ok.frf L hL) hL fun z=>I.ok.exfs L z hL
      exact ⟨hk,⟨L,_,hf,hn,e,hd⟩,ih (fun b hb=>hs b (by unfold frs; rw [List.filterMap_cons,hf]; exact List.mem_cons_of_mem _ hb)) hr⟩
  exact all X.outer (fun _ hb=>hb) I.ok.funs
theorem Inv.stack (I:Inv X pins σ H s):s.heap.FunFrames X.base X.stack:=by
  rcases I.ok.stk with e | ⟨e,hf⟩
  · rw [e]; exact I.funs
  · rw [e]
    obtain ⟨m,hn,_⟩:=I.loc
    refine .cons (by rw [I.ok.kind]; decide) hf hn ?_ I.funs
    exact Heap.get?_none_of_le (Nat.le_trans I.ok.bsz I.ok.above)
theorem Inv.stkSub (I:Inv X pins σ H s):∀ b∈frs X.stack,b∈X.env.locals::X.fs:=fun b hb=>by
  rcases I.ok.stk with e | ⟨e,hf⟩
  · rw [e] at hb; exact List.mem_cons_of_mem _ hb
  · rw [e] at hb
    unfold frs at hb
    rw [List.filterMap_cons,hf] at hb
    exact hb
theorem Inv.stkFree (I:Inv X pins σ H s):∀ b∈frs X.stack,H b=none:=fun b hb=>by
  rcases List.mem_cons.mp (I.stkSub b hb) with e | hb
  · rw [e]; exact I.free
  · obtain ⟨_,o,ho,_⟩:=I.ok.funs.mem hb
    exact I.base.free b o ho (I.ok.frf b hb) fun z=>I.ok.exfs b z hb
theorem Inv.step {g':Array GenState} {t':Nat} {d':Drawn} {ch:List Addr} (I:Inv X pins σ H s)
    (hch:∀ b∈ch,(b∈X.ex∨X.s₀.heap.objs.size≤b)∧b≠X.env.locals∧(∀ x c,X.env.cells.lookup x=some c→c≠b)∧∀ p∈X.pn++pins,p.1≠b)
    (keep:∀ b o,b≠X.env.locals→b∉X.fs→b∉ch→s.heap.get? b=some o→H b=none→h'.get? b=some o)
    (slot:∀ b o,b≠X.env.locals→b∈X.fs→b∉ch→s.heap.get? b=some o→H b=none→∃ sl,h'.get? b=some { o with slots:=sl }) (free:∀ b o,b∉ch→s.heap.get? b=some o→H b=none→H' b=none)
    (there:∀ b o,b∉ch→s.heap.get? b=some o→∃ o',h'.get? b=some o')
    (tups:∀ b xs,H b=some (.tup xs)→H' b=some (.tup xs)) (frzs:∀ b o u,H b=some (.frz o u)→H' b=some (.frz o u)) (tbls:∀ b ps,H b=some (.tbl ps)→∃ more,H' b=some (.tbl (ps++more)))
    (ns:∀ m,s.heap.Ns X.env.locals m→h'.Ns X.env.locals m) (hok:HOk X.prog X.w H' h') (hg:AllBare g') :
    Inv X pins σ H' { s with heap:=h',gens:=g',drawn:=d',toks:=t' }:=by
  have neL:∀ b o,X.s₀.heap.get? b=some o→b≠X.env.locals:=fun b o e=>Nat.ne_of_lt (Nat.lt_of_lt_of_le (Heap.lt_size e) I.ok.above)
  have neC:∀ b o,X.s₀.heap.get? b=some o→b∉X.ex→b∉ch:=fun b o e hx hb=>by
    rcases (hch b hb).1 with z | z
    · exact hx z
    · exact absurd (Nat.lt_of_lt_of_le (Heap.lt_size e) z) (Nat.lt_irrefl _)
  have cellK:∀ x c,X.env.cells.lookup x=some c→∀ v,s.heap.IsCell c v→h'.IsCell c v:=fun x c e v ⟨o,ho,hd⟩=>by
    have nch:c∉ch:=fun z=>(hch c z).2.2.1 x c e rfl
    by_cases hc:c∈X.fs
    · obtain ⟨sl,q⟩:=slot c o (I.cne x c e) hc nch ho (I.freeC x c e)
      exact ⟨_,q,hd⟩
    · exact ⟨o,keep c o (I.cne x c e) hc nch ho (I.freeC x c e),hd⟩
  refine ⟨I.ok,I.os,hg,⟨fun b o e n hb hx=>?_,fun b o e n hb hx=>?_,fun b o e n hx=>?_,fun b o e hx=>?_,fun b xs e=>tups b xs (I.base.tups b xs e),fun b o xs e=>frzs b o xs (I.base.frzs b o xs e),fun b ps e=>?_⟩,?_,fun x c e=>?_,?_,fun x c e=>?_,fun p hp=>?_,hok,I.len⟩
  · exact keep b o (neL b o e) hb (neC b o e hx) (I.base.keep b o e n hb hx) (I.base.free b o e n hx)
  · obtain ⟨sl,e1⟩:=I.base.slot b o e n hb hx
    obtain ⟨sl',e2⟩:=slot b _ (neL b o e) hb (neC b o e hx) e1 (I.base.free b o e n hx)
    exact ⟨sl',e2⟩
  · obtain ⟨o',e1⟩:=I.base.there b o e hx
    exact free b o' (neC b o e hx) e1 (I.base.free b o e n hx)
  · obtain ⟨o',e1⟩:=I.base.there b o e hx
    exact there b o' (neC b o e hx) e1
  · obtain ⟨m1,e1⟩:=I.base.tbls b ps e
    obtain ⟨m2,e2⟩:=tbls b _ e1
    exact ⟨m1++m2,by rw [e2,Array.append_assoc]⟩
  · obtain ⟨m,hn,hl⟩:=I.loc
    refine ⟨m,ns m hn,fun i x v e1 e2 e3=>?_⟩
    obtain ⟨u,r,l⟩:=hl i x v e1 e2 e3
    refine ⟨u,r,?_⟩
    rcases l with l | ⟨k,c,e,z⟩
    · exact .inl l
    · exact .inr ⟨k,c,e,cellK x c e _ z⟩
  · obtain ⟨v,z⟩:=I.cell x c e
    exact ⟨v,cellK x c e v z⟩
  · obtain ⟨m,⟨o,_,_,ho,_⟩,_⟩:=I.loc
    exact free _ o (fun z=>(hch _ z).2.1 rfl) ho I.free
  · obtain ⟨v,o,ho,hd⟩:=I.cell x c e
    exact free c o (fun z=>(hch c z).2.2.1 x c e rfl) ho (I.freeC x c e)
  · obtain ⟨e,n,ne,nf,d⟩:=I.pin p hp
    have nch:p.1∉ch:=fun z=>(hch p.1 z).2.2.2 p hp rfl
    exact ⟨keep p.1 p.2 ne nf nch e n,free p.1 p.2 nch e n,ne,nf,d⟩
theorem Inv.un {t':Nat} (I:Inv X pins σ H s) (u:Un X.fs [] H H' s.heap h') (hok:HOk X.prog X.w H' h'):Inv X pins σ H' { s with heap:=h',toks:=t' }:=by
  obtain ⟨m,⟨o,es,ep,ho,r⟩,_⟩:=id I.loc
  obtain ⟨sl,hL⟩:=u.any ho I.free (by simp)
  exact I.step (g':=s.gens) (d':=s.drawn) (ch:=[]) (fun _ z=>nomatch z) (fun b o _ hb _ e n=>u.keep b o e n hb (by simp)) (fun b o _ hb _ e n=>u.slot b o e n hb (by simp)) (fun b o _ e n=>u.free b o e n (by simp)) (fun b o _ e=>u.there b o e (by simp)) u.tups u.frzs u.tbls (fun m' hm=>by
    obtain ⟨o',es',ep',ho',r'⟩:=hm
    rw [ho] at ho'; cases ho'
    exact ⟨_,es',ep',hL,r'⟩) hok I.bare
theorem Inv.call {g':Array GenState} {t':Nat} {d':Drawn} {ch:List Addr} (I:Inv X pins σ H s) (u:Un (frs X.stack) ch H H' s.heap h') (hok:HOk X.prog X.w H' h') (hg:AllBare g')
    (hch:∀ b∈ch,(b∈X.ex∨X.s₀.heap.objs.size≤b)∧b≠X.env.locals∧(∀ x c,X.env.cells.lookup x=some c→c≠b)∧∀ p∈X.pn++pins,p.1≠b) :
    Inv X pins σ H' { s with heap:=h',gens:=g',drawn:=d',toks:=t' }:=by
  obtain ⟨m,⟨o,es,ep,ho,r⟩,_⟩:=id I.loc
  obtain ⟨sl,hL⟩:=u.any ho I.free fun z=>(hch _ z).2.1 rfl
  exact I.step (ch:=ch) hch (fun b o hL hb hc e n=>u.keep b o e n (fun z=>(List.mem_cons.mp (I.stkSub b z)).elim hL hb) hc) (fun b o _ _ hc e n=>u.any e n hc) (fun b o hc e n=>u.free b o e n hc) (fun b o hc e=>u.there b o e hc) u.tups u.frzs u.tbls (fun m' hm=>by
    obtain ⟨o',es',ep',ho',r'⟩:=hm
    rw [ho] at ho'; cases ho'
    exact ⟨_,es',ep',hL,r'⟩) hok hg
theorem Inv.turned {t':Nat} {it:Addr} (I:Inv X pins σ H s) (k:∀ b o,b≠it→s.heap.get? b=some o→h'.get? b=some o) (hn:H it=none) (hL:it≠X.env.locals)
    (h1:it∈X.ex∨X.s₀.heap.objs.size≤it) (h2:∀ x c,X.env.cells.lookup x=some c→c≠it) (h3:∀ p∈X.pn++pins,p.1≠it):Inv X pins σ H { s with heap:=h',toks:=t' }:=by
  have nit:∀ b u,H b=some u→b≠it:=fun b u e z=>by rw [z,hn] at e; cases e
  refine I.step (g':=s.gens) (d':=s.drawn) (ch:=[it]) (fun b hb=>?_) (fun b o _ _ hc e _=>k b o (fun z=>hc (by simp [z])) e) (fun b o _ _ hc e _=>⟨o.slots,k b o (fun z=>hc (by simp [z])) e⟩) (fun _ _ _ _ n=>n)
    (fun b o hc e=>⟨o,k b o (fun z=>hc (by simp [z])) e⟩) (fun _ _ e=>e) (fun _ _ _ e=>e) (fun b ps e=>⟨#[],by rw [e]; simp⟩) (fun m hm=>?_) (fun b u e=>?_) I.bare
  · have e:b=it:=by simpa using hb
    subst e
    exact ⟨h1,hL,h2,h3⟩
  · obtain ⟨o,es,ep,ho,r⟩:=hm
    exact ⟨o,es,ep,k _ o (Ne.symm hL) ho,r⟩
  · refine (I.hok b u e).stay (fun c v hc q=>k c v ?_ q) (fun _ q=>q) fun _ _ q=>q
    rcases hc with z | z
    · rw [z]; exact nit b u e
    · exact nit c _ z
theorem Inv.tok (I:Inv X pins σ H s) (t:Nat):Inv X pins σ H { s with toks:=t }:=I.un (h':=s.heap) (t':=t) Un.refl I.hok
theorem Inv.kept {t':Nat} (I:Inv X pins σ H s) (k:∀ b u,s.heap.get? b=some u→h'.get? b=some u):Inv X pins σ H { s with heap:=h',toks:=t' }:=I.un (Un.kept k) (I.hok.kept k)
theorem Inv.laid {a:Addr} {o:HO} {t':Nat} (I:Inv X pins σ H s) (k:∀ b u,s.heap.get? b=some u→h'.get? b=some u) (hp:s.heap.objs.size≤a) (new:ObjOk X.prog X.w (upd H a o) h' a o) :
    Inv X pins σ (upd H a o) { s with heap:=h',toks:=t' }:=I.un (Un.laid k hp (I.hok.fresh hp)) (I.hok.laid k hp new)
theorem Inv.write {x e:Addr} {o:HO} {t':Nat} (I:Inv X pins σ H s) (mu:Mut (H x)) (he:e=x∨H e=some (.own x)) (k:∀ b u,b≠e→s.heap.get? b=some u→h'.get? b=some u) (heo:∃ u,h'.get? e=some u)
    (new:ObjOk X.prog X.w (upd H x o) h' x o):Inv X pins σ (upd H x o) { s with heap:=h',toks:=t' }:=I.un (Un.write mu he k heo) (I.hok.write mu he k heo new)
theorem Inv.weak {σ':List (Option V)} (I:Inv X pins σ H s) (hl:σ'.length=σ.length) (w:∀ (i:Nat) v,σ'[i]?=some (some v)→σ[i]?=some (some v)):Inv X pins σ' H s :=
  ⟨I.ok,I.os,I.bare,I.base,let ⟨m,hn,hl'⟩:=I.loc; ⟨m,hn,fun i x v e1 e2 e3=>hl' i x v e1 (w i v e2) e3⟩,I.cell,I.free,I.freeC,I.pin,I.hok,hl.trans I.len⟩
theorem Inv.pins_of {pins':List (Addr×Obj)} (I:Inv X pins σ H s) (h:∀ p∈pins',s.heap.get? p.1=some p.2∧H p.1=none∧p.1≠X.env.locals∧p.1∉X.fs∧∀ v,p.2.data≠.cell v):Inv X pins' σ H s :=
  ⟨I.ok,I.os,I.bare,I.base,I.loc,I.cell,I.free,I.freeC,fun p hp=>(List.mem_append.mp hp).elim (fun z=>I.pin p (List.mem_append_left _ z)) (h p),I.hok,I.len⟩
theorem nodup_ix {N:List Str} (hN:N.Nodup) {i j:Nat} {x:Str} (a:N[i]?=some x) (b:N[j]?=some x):i=j:=by
  obtain ⟨h1,e1⟩:=List.getElem?_eq_some_iff.mp a
  obtain ⟨h2,e2⟩:=List.getElem?_eq_some_iff.mp b
  exact (List.getElem_inj hN).mp (e1.trans e2.symm)
theorem store_ok2 {M:Model} {A:Around} {E:Value→Shared→Prop} {i:Nat} {x:Str} {v:V} {u:Value} {Q:Unit→Shared→Prop} (I:Inv X pins σ H s) (hN:X.N.Nodup) (hi:X.N[i]?=some x) (hx:Loc X.env.scope x) (r:RelV v u)
    (h:∀ s',Inv X pins (σ.set i (some v)) H s'→(∃ a,Heap.SameBut a s.heap s'.heap∧(a=X.env.locals∨X.env.cells.lookup x=some a))→Q () s') (hf:X.fn x=true∨X.env.scope.names.lookup x=some .local:=by first | exact .inl rfl | exact .inr rfl | assumption):wpAny M A (storeName X.env x u) Q E s:=by
  obtain ⟨m,hn,hl⟩:=id I.loc
  have hcls:(X.env.scope.kind==.class || (X.env.scope.kind==.module&&X.env.locals != X.env.globals))=false:=by rw [I.ok.kind]; rfl
  have hiσ:i < σ.length:=by rw [I.len]; exact (List.getElem?_eq_some_iff.mp hi).1
  have cne:=I.cne
  have tracked:∀ {a:Addr} {h':Heap},(∃ o,s.heap.get? a=some o∧H a=none)→Heap.SameBut a s.heap h'→HOk X.prog X.w H h':=fun {a h'} ha hs b ob e=>by
    obtain ⟨_,_,hfree⟩:=ha
    refine (I.hok b ob e).stay (fun c w' hc q=>(hs.2 c ?_).trans q) (fun _ q=>q) fun _ _ q=>q
    rintro rfl
    rcases hc with rfl | hc
    · rw [hfree] at e; cases e
    · rw [hfree] at hc; cases hc
  rcases hx with hk | hk
  · refine wpAny_storeName_local hk hn (fun h' hn' hs=>?_) hcls
    obtain ⟨oL,_,_,hoL,_⟩:=id hn
    refine h _ ⟨I.ok,I.os,I.bare,⟨fun b o e n hb hx=>?_,fun b o e n hb hx=>?_,I.base.free,fun b o e hx=>?_,I.base.tups,I.base.frzs,I.base.tbls⟩,⟨_,hn',fun j y v' e1 e2 e3=>?_⟩,fun y c e=>?_,I.free,I.freeC,fun p hp=>?_,tracked ⟨oL,hoL,I.free⟩ hs,by simpa using I.len⟩ ⟨_,hs,.inl rfl⟩
    · exact (hs.2 b (Nat.ne_of_lt (Nat.lt_of_lt_of_le (Heap.lt_size e) I.ok.above))).trans (I.base.keep b o e n hb hx)
    · obtain ⟨sl,e1⟩:=I.base.slot b o e n hb hx
      exact ⟨sl,(hs.2 b (Nat.ne_of_lt (Nat.lt_of_lt_of_le (Heap.lt_size e) I.ok.above))).trans e1⟩
    · obtain ⟨o',e1⟩:=I.base.there b o e hx
      exact ⟨o',(hs.2 b (Nat.ne_of_lt (Nat.lt_of_lt_of_le (Heap.lt_size e) I.ok.above))).trans e1⟩
    · by_cases hj:j=i
      · subst hj
        rw [hi] at e1; cases e1
        rw [List.getElem?_set_self hiσ] at e2
        cases e2
        exact ⟨u,r,.inl ⟨hk,by simp⟩⟩
      · rw [List.getElem?_set_ne (Ne.symm hj)] at e2
        obtain ⟨u',r',q⟩:=hl j y v' e1 e2 e3
        refine ⟨u',r',?_⟩
        rcases q with ⟨k,e⟩ | ⟨k,c,e,z⟩
        · refine .inl ⟨k,?_⟩
          have:y≠x:=fun e=>hj (nodup_ix hN e1 (e ▸ hi))
          simp [this,e]
        · exact .inr ⟨k,c,e,z.sameBut hs (cne y c e)⟩
    · obtain ⟨w',z⟩:=I.cell y c e
      exact ⟨w',z.sameBut hs (cne y c e)⟩
    · obtain ⟨e,n,ne,nf,d⟩:=I.pin p hp
      exact ⟨(hs.2 p.1 ne).trans e,n,ne,nf,d⟩
  · have hfn:X.fn x=true:=by
      rcases hf with z | z
      · exact z
      · rw [z] at hk; cases hk
    obtain ⟨c,hc⟩:=I.ok.has x (.inl hk)
    obtain ⟨w',z⟩:=I.cell x c hc
    refine wpAny_storeName_cell I.ok.kind hk hc z (fun h' hc' hs=>?_)
    obtain ⟨oc,hoc,hocd⟩:=id z
    refine h { s with heap:=h' } ⟨I.ok,I.os,I.bare,⟨fun b o e n hb hx=>?_,fun b o e n hb hx=>?_,I.base.free,fun b o e hx=>?_,I.base.tups,I.base.frzs,I.base.tbls⟩,⟨m,hn.sameBut hs (Ne.symm (cne x c hc)),fun j y v' e1 e2 e3=>?_⟩,fun y c' e=>?_,I.free,I.freeC,fun p hp=>?_,tracked ⟨oc,hoc,I.freeC x c hc⟩ hs,by simpa using I.len⟩ ⟨c,hs,.inr hc⟩
    · exact (hs.2 b (Nat.ne_of_lt (Nat.lt_of_lt_of_le (Heap.lt_size e) (I.ok.cab x c hfn hc)))).trans (I.base.keep b o e n hb hx)
    · obtain ⟨sl,e1⟩:=I.base.slot b o e n hb hx
      exact ⟨sl,(hs.2 b (Nat.ne_of_lt (Nat.lt_of_lt_of_le (Heap.lt_size e) (I.ok.cab x c hfn hc)))).trans e1⟩
    · obtain ⟨o',e1⟩:=I.base.there b o e hx
      exact ⟨o',(hs.2 b (Nat.ne_of_lt (Nat.lt_of_lt_of_le (Heap.lt_size e) (I.ok.cab x c hfn hc)))).trans e1⟩
    · by_cases hj:j=i
      · subst hj
        rw [hi] at e1; cases e1
        rw [List.getElem?_set_self hiσ] at e2
        cases e2
        exact ⟨u,r,.inr ⟨.inl hk,c,hc,hc'⟩⟩
      · rw [List.getElem?_set_ne (Ne.symm hj)] at e2
        obtain ⟨u',r',q⟩:=hl j y v' e1 e2 e3
        refine ⟨u',r',?_⟩
        rcases q with q | ⟨k,c',e,z'⟩
        · exact .inl q
        · refine .inr ⟨k,c',e,z'.sameBut hs ?_⟩
          rintro rfl
          exact hj (nodup_ix hN e1 (I.ok.inj _ _ _ e hc ▸ hi))
    · by_cases hcc:c'=c
      · subst hcc; exact ⟨_,hc'⟩
      · obtain ⟨w2,z2⟩:=I.cell y c' e
        exact ⟨w2,z2.sameBut hs hcc⟩
    · obtain ⟨e,n,ne,nf,d⟩:=I.pin p hp
      refine ⟨(hs.2 p.1 ?_).trans e,n,ne,nf,d⟩
      intro q
      rw [q,hoc] at e
      have q':oc=p.2:=Option.some.inj e
      exact d w' (by rw [← q']; exact hocd)
theorem store_ok {M:Model} {A:Around} {E:Value→Shared→Prop} {i:Nat} {x:Str} {v:V} {u:Value} {Q:Unit→Shared→Prop} (I:Inv X pins σ H s) (hN:X.N.Nodup) (hi:X.N[i]?=some x) (hx:Loc X.env.scope x) (r:RelV v u)
    (h:∀ s',Inv X pins (σ.set i (some v)) H s'→Q () s') (hf:X.fn x=true∨X.env.scope.names.lookup x=some .local:=by first | exact .inl rfl | exact .inr rfl | assumption):wpAny M A (storeName X.env x u) Q E s :=
  store_ok2 I hN hi hx r (fun s' I' _=>h s' I') hf
theorem Inv.call' {s':Shared} {ch:List Addr} (I:Inv X pins σ H s) (ho:s'.os=s.os) (u:Un (frs X.stack) ch H H' s.heap s'.heap) (hok:HOk X.prog X.w H' s'.heap) (hg:AllBare s'.gens)
    (hch:∀ b∈ch,(b∈X.ex∨X.s₀.heap.objs.size≤b)∧b≠X.env.locals∧(∀ x c,X.env.cells.lookup x=some c→c≠b)∧∀ p∈X.pn++pins,p.1≠b):Inv X pins σ H' s':=by
  obtain ⟨h',g',d',t',o'⟩:=s'
  have e:o'=s.os:=ho
  subst e
  exact I.call (g':=g') (t':=t') (d':=d') u hok hg hch
end
abbrev XK:=Value→Option Addr→Hp→Prop
abbrev St:=List (Option V)
abbrev VK:=V→Hp→Prop
abbrev TE:=St→Hp→VK→Prop
abbrev TT:=St→Hp→(Bool→Hp→Prop)→Prop
abbrev TA:=St→Hp→(List V→Hp→Prop)→Prop
structure Ends where
  nx:St→Hp→Prop
  rt:VK
  bk:St→Hp→Prop:=fun _ _=>False
  ct:St→Hp→Prop:=fun _ _=>False
abbrev TS:=Ends→St→Hp→Prop
def EP (X:Cx) (pins:List (Addr×Obj)) (σ:St) (Q:VK) (u:Value) (s':Shared):Prop:=∃ v H',Inv X pins σ H' s'∧RelV v u∧Q v H'
def TP (X:Cx) (pins:List (Addr×Obj)) (σ:St) (Q:Bool→Hp→Prop) (b:Bool) (s':Shared):Prop:=∃ H',Inv X pins σ H' s'∧Q b H'
def AP (X:Cx) (pins:List (Addr×Obj)) (σ:St) (Q:List V→Hp→Prop) (us:List Value) (s':Shared):Prop:=∃ vs H',Inv X pins σ H' s'∧Vals vs us∧Q vs H'
def SP (X:Cx) (pins:List (Addr×Obj)) (D:Ends) (f:Flow) (s':Shared):Prop :=
  match f with
  | .next=>∃ σ' H',Inv X pins σ' H' s'∧D.nx σ' H'
  | .brk=>∃ σ' H',Inv X pins σ' H' s'∧D.bk σ' H'
  | .cont=>∃ σ' H',Inv X pins σ' H' s'∧D.ct σ' H'
  | .ret u=>∃ v σ' H',Inv X pins σ' H' s'∧RelV v u∧D.rt v H'
def PE (X:Cx) (e:Expr) (t:TE):Prop :=
  ∀ (pins:List (Addr×Obj)) (s:Shared) (σ:St) (H:Hp) (Q:VK),Inv X pins σ H s→t σ H Q→wpAny (model X.prog X.w) X.A (eval e X.env) (EP X pins σ Q) X.xe s
def PT (X:Cx) (e:Expr) (t:TT):Prop :=
  ∀ (pins:List (Addr×Obj)) (s:Shared) (σ:St) (H:Hp) (Q:Bool→Hp→Prop),Inv X pins σ H s→t σ H Q→wpAny (model X.prog X.w) X.A (isTrue e X.env (eval e X.env)) (TP X pins σ Q) X.xe s
def PW (X:Cx) (e:Expr) (t:TT):Prop :=
  ∀ (whole:Sem Value) (pins:List (Addr×Obj)) (s:Shared) (σ:St) (H:Hp) (Q:Bool→Hp→Prop),Inv X pins σ H s→t σ H Q→wpAny (model X.prog X.w) X.A (isTrue e X.env whole) (TP X pins σ Q) X.xe s
theorem PW.pt {X:Cx} {e:Expr} {t:TT} (h:PW X e t):PT X e t:=h _
def PA (X:Cx) (es:List Expr) (t:TA):Prop :=
  ∀ (pos:Pos) (pins:List (Addr×Obj)) (s:Shared) (σ:St) (H:Hp) (Q:List V→Hp→Prop),Inv X pins σ H s→t σ H Q→wpAny (model X.prog X.w) X.A (spliced (backTo pos (starEach es X.env))) (AP X pins σ Q) X.xe s
def PS (X:Cx) (st:Stmt) (t:TS):Prop :=
  ∀ (pins:List (Addr×Obj)) (s:Shared) (σ:St) (H:Hp) (D:Ends),Inv X pins σ H s→t D σ H→wpAny (model X.prog X.w) X.A (exec st X.env) (SP X pins D) X.xe s
def PSs (X:Cx) (st:List Stmt) (t:TS):Prop :=
  ∀ (pins:List (Addr×Obj)) (s:Shared) (σ:St) (H:Hp) (D:Ends),Inv X pins σ H s→t D σ H→wpAny (model X.prog X.w) X.A (execs st X.env) (SP X pins D) X.xe s
theorem thn {α:Type} {t:Sem α} {Q Q':α→Shared→Prop} {M:Model} {A:Around} {E:Value→Shared→Prop} {s:Shared} (h:wpAny M A t Q E s) (hQ:∀ a s,Q a s→Q' a s):wpAny M A t Q' E s:=wpAny_mono h hQ fun _ _ x=>x
end L2
namespace L2
open PySem PySem.Spec PyProof.Rows
section
variable {X:Cx}
def tVar (i:Nat):TE:=fun σ H Q=>∃ v,σ[i]?=some (some v)∧Q v H
def tC (v:V):TE:=fun _ H Q=>Q v H
theorem pe_var {i:Nat} {x:Str} {pos:Pos} (hN:X.N[i]?=some x) (hv:Vis X.env.scope x) (hd:(x==("__debug__" : Str))=false:=by decide) (hcd:(x==("__classdict__" : Str))=false:=by decide):PE X (.Name x pos) (tVar i):=by
  intro pins s σ H Q I h
  obtain ⟨v,e,h⟩:=h
  obtain ⟨m,hn,hl⟩:=I.loc
  obtain ⟨u,r,l⟩:=hl i x v hN e hv
  have fin:EP X pins σ Q u s:=⟨v,H,I,r,h⟩
  rcases l with ⟨hk,hm⟩ | ⟨hk,c,hc,hcell⟩
  · exact wpAny_Name (wpAny_loadName_local I.ok.kind hk hn hm fin) hd
  · rcases hk with hk | hk
    · exact wpAny_Name (wpAny_loadName_cell I.ok.kind hk hc hcell fin) hd
    · exact wpAny_Name (wpAny_loadName_free I.ok.kind hk hc hcell fin hcd) hd
theorem pe_int {i j pos}:PE X (.Constant (.int i) j pos) (tC (.int i)):=fun _ _ _ H _ I h=>wpAny_Constant_int ⟨.int i,H,I.tok _,⟨_,rfl⟩,h⟩
theorem pe_bl {b j pos}:PE X (.Constant (.bool b) j pos) (tC (.bl b)):=fun _ _ _ H _ I h=>Constant_bool ⟨.bl b,H,I,rfl,h⟩
def Gl (X:Cx) (x:Str):Prop:=X.env.kindOf x=some .globalImplicit
theorem ld_glob {E:Value→Shared→Prop} {pins:List (Addr×Obj)} {s:Shared} {σ:St} {H:Hp} {x:Str} {u:Value} {pos:Pos} {Q:Value→Shared→Prop} (I:Inv X pins σ H s) (hg:Gl X x) (hm:X.mg x=some u) (h:Q u s)
    (hd:(x==("__debug__" : Str))=false:=by decide):wpAny (model X.prog X.w) X.A (eval (.Name x pos) X.env) Q E s :=
  Calls.Name_function_global I.ok.kind hg (Calls.loadGlobal_global (by rw [I.ok.glob]; exact I.mod.glob.keeps I.bk) hm h) hd
theorem ld_blt {E:Value→Shared→Prop} {pins:List (Addr×Obj)} {s:Shared} {σ:St} {H:Hp} {x:Str} {u:Value} {pos:Pos} {Q:Value→Shared→Prop} (I:Inv X pins σ H s) (hg:Gl X x) (hm:X.mg x=none) (hv:bootBuiltins x=some u) (h:Q u s)
    (hn:x ≠ "__name__" := by decide) (hd:(x==("__debug__" : Str))=false:=by decide):wpAny (model X.prog X.w) X.A (eval (.Name x pos) X.env) Q E s:=by
  obtain ⟨mb,h1,h2⟩:=I.mod.blt
  exact Calls.Name_function_global I.ok.kind hg (Calls.loadGlobal_builtin (by rw [I.ok.glob]; exact I.mod.glob.keeps I.bk) hm (by rw [I.ok.blt]; exact h1.keeps I.bk) ((h2 x hn).trans hv) h) hd
theorem pe_glob {x:Str} {v:V} {u:Value} {pos:Pos} (hg:Gl X x) (hm:X.mg x=some u) (r:RelV v u) (hd:(x==("__debug__" : Str))=false:=by decide):PE X (.Name x pos) (tC v) :=
  fun _ _ _ H _ I h=>ld_glob I hg hm ⟨v,H,I,r,h⟩ hd
theorem pe_bltn {x:Str} {v:V} {u:Value} {pos:Pos} (hg:Gl X x) (hm:X.mg x=none) (hv:bootBuiltins x=some u) (r:RelV v u) (hn:x ≠ "__name__" := by decide) (hd:(x==("__debug__" : Str))=false:=by decide):PE X (.Name x pos) (tC v) :=
  fun _ _ _ H _ I h=>ld_blt I hg hm hv ⟨v,H,I,r,h⟩ hn hd
variable {a b:Expr} {ta tb:TE} {pos:Pos}
variable {tA tB':TT} {rest:List Expr}
def tAnd (t u:TT):TT:=fun σ H Q=>t σ H fun c H1=>if c=true then u σ H1 Q else Q false H1
def tOr (t u:TT):TT:=fun σ H Q=>t σ H fun c H1=>if c=true then Q true H1 else u σ H1 Q
def tNot (t:TT):TT:=fun σ H Q=>t σ H fun c H1=>Q (!c) H1
theorem pw_and1 (ha:PT X a tA):PW X (.BoolOp .And [a] pos) tA:=by
  intro wh pins s σ H Q I h
  refine isTrue_and (thn (ha pins s σ H Q I h) fun c s1 e=>?_)
  cases c with
  | true=>exact isTrue_and_nil e
  | false=>exact e
theorem pw_or1 (ha:PT X a tA):PW X (.BoolOp .Or [a] pos) tA:=by
  intro wh pins s σ H Q I h
  refine isTrue_or (thn (ha pins s σ H Q I h) fun c s1 e=>?_)
  cases c with
  | false=>exact isTrue_or_nil e
  | true=>exact e
theorem pw_and (ha:PT X a tA) (hb:PW X (.BoolOp .And (b::rest) pos) tB'):PW X (.BoolOp .And (a::b::rest) pos) (tAnd tA tB'):=by
  intro wh pins s σ H Q I h
  refine isTrue_and (thn (ha pins s σ H _ I h) fun c s1 ⟨H1,I1,q1⟩=>?_)
  cases c with
  | true=>exact hb wh pins s1 σ H1 Q I1 q1
  | false=>exact ⟨H1,I1,q1⟩
theorem pw_or (ha:PT X a tA) (hb:PW X (.BoolOp .Or (b::rest) pos) tB'):PW X (.BoolOp .Or (a::b::rest) pos) (tOr tA tB'):=by
  intro wh pins s σ H Q I h
  refine isTrue_or (thn (ha pins s σ H _ I h) fun c s1 ⟨H1,I1,q1⟩=>?_)
  cases c with
  | true=>exact ⟨H1,I1,q1⟩
  | false=>exact hb wh pins s1 σ H1 Q I1 q1
theorem pt_not (ha:PT X a tA):PT X (.UnaryOp .Not a pos) (tNot tA):=by
  intro pins s σ H Q I h
  exact isTrue_not (ha pins s σ H (fun c H1=>Q (!c) H1) I h)
def tAndV (ta tb:TE):TE:=fun σ H Q=>ta σ H fun x H1=>∃ c,x=.bl c∧if c=true then tb σ H1 Q else Q (.bl false) H1
def tNotV (ta:TE):TE:=fun σ H Q=>ta σ H fun x H1=>∃ c,x=.bl c∧Q (.bl (!c)) H1
theorem pe_one {op} {t:TE} (h:PE X a t):PE X (.BoolOp op [a] pos) t:=fun pins s σ H Q I hw=>BoolOp_one (h pins s σ H Q I hw)
theorem pe_and (ha:PE X a ta) (hb:PE X (.BoolOp .And (b::rest) pos) tb):PE X (.BoolOp .And (a::b::rest) pos) (tAndV ta tb):=by
  intro pins s σ H Q I h
  refine BoolOp_and (thn (ha pins s σ H _ I h) fun v s1 ⟨x,H1,I1,r1,q1⟩=>?_)
  obtain ⟨c,rfl,q1⟩:=q1
  cases r1
  refine wpAny_truthy_bool ?_
  cases c with
  | true=>exact hb pins s1 σ H1 Q I1 q1
  | false=>exact ⟨.bl false,H1,I1,rfl,q1⟩
theorem pe_not (ha:PE X a ta):PE X (.UnaryOp .Not a pos) (tNotV ta):=by
  intro pins s σ H Q I h
  refine UnaryOp_ (thn (ha pins s σ H _ I h) fun v s1 ⟨x,H1,I1,r1,q1⟩=>?_)
  obtain ⟨c,rfl,q1⟩:=q1
  cases r1
  exact not_of (wpAny_truthy_bool ⟨.bl (!c),H1,I1,rfl,q1⟩)
end
end L2
namespace L2
open PySem PySem.Spec PyProof.Rows
def SqL (K:PySem.W.Frag) (H:Hp) (a:Addr) (xs:List V):Prop :=
  Rd H a (.lst xs) ∨
    ∃ (o:Obj) (its:Array Value) (n:Nat),K.lookup a=some o∧o.cls=.type "list" ∧ o.dict=none∧o.data=.seq its n∧its.size≤sizeLine∧Vals xs its.toList
def SqT (K:PySem.W.Frag) (H:Hp) (a:Addr) (xs:List V):Prop :=
  Rd H a (.tup xs) ∨
    ∃ (o:Obj) (its:Array Value) (n:Nat),K.lookup a=some o∧o.cls=.type "tuple" ∧ o.data=.seq its n∧its.size≤sizeLine∧Vals xs its.toList
def absV:Value→Option V
  | .none=>some .non
  | .bool b=>some (.bl b)
  | .int i _=>some (.int i)
  | .str x _=>some (.str x)
  | .bytes b _=>some (.byt b)
  | .float b _=>some (.flt b)
  | .ref a=>some (.ref a)
  | .type n=>some (.ty n)
  | _=>none
theorem RelV.abs {x:V} {u:Value} (r:RelV x u):absV u=some x:=by
  cases x with
  | non=>cases r; rfl
  | bl _=>cases r; rfl
  | int _=>obtain ⟨t,rfl⟩:=r; rfl
  | str _=>obtain ⟨t,rfl⟩:=r; rfl
  | byt _=>obtain ⟨t,rfl⟩:=r; rfl
  | flt _=>obtain ⟨t,rfl⟩:=r; rfl
  | ref _=>cases r; rfl
  | ty _=>cases r; rfl
theorem RelV.inj {x y:V} {u:Value} (r:RelV x u) (q:RelV y u):x=y:=Option.some.inj (r.abs.symm.trans q.abs)
theorem Vals.inj:∀ {xs ys:List V} {us:List Value},Vals xs us→Vals ys us→xs=ys
  | _,_,_,.nil,.nil=>rfl
  | _,_,_,.cons r t,.cons r' t'=>by rw [r.inj r',Vals.inj t t']
section
variable {X:Cx} {pins:List (Addr×Obj)} {σ:St} {H:Hp} {s:Shared} {a:Addr} {xs ys:List V}
theorem SqL.of {K:PySem.W.Frag} (h:H a=some (.lst xs)):SqL K H a xs:=.inl (.inl h)
theorem Inv.list (I:Inv X pins σ H s) (h:SqL X.K H a xs):∃ its:List Value,Vals xs its∧PlainL s.heap a its.toArray∧xs.length≤sizeLine:=by
  rcases h with h | ⟨o,its,n,hk,hc,hd,hs,hz,r⟩
  · obtain ⟨z,its,n,r,e⟩:=h.ok I.hok
    exact ⟨its,r,⟨_,n,e,rfl,rfl,rfl⟩,z⟩
  · refine ⟨its.toList,r,⟨o,n,I.kIn a o hk,hc,hd,by simpa using hs⟩,?_⟩
    have e:=r.length
    simp only [Array.length_toList] at e
    omega
theorem Inv.tuple (I:Inv X pins σ H s) (h:SqT X.K H a xs):∃ its:List Value,Vals xs its∧IsTup s.heap a its.toArray∧xs.length≤sizeLine:=by
  rcases h with h | ⟨o,its,n,hk,hc,hs,hz,r⟩
  · obtain ⟨z,its,r,p⟩:=h.ok I.hok
    exact ⟨its,r,p,z⟩
  · refine ⟨its.toList,r,⟨o,I.kIn a o hk,hc,n,by simpa using hs⟩,?_⟩
    have e:=r.length
    simp only [Array.length_toList] at e
    omega
theorem Inv.list_inj (I:Inv X pins σ H s) (h:SqL X.K H a xs) (h':SqL X.K H a ys):xs=ys:=by
  obtain ⟨its,r,⟨o,n,e,_,_,d⟩,_⟩:=I.list h
  obtain ⟨its',r',⟨o',n',e',_,_,d'⟩,_⟩:=I.list h'
  rw [e] at e'; cases e'
  rw [d] at d'
  injection d' with d1 _
  have:its=its':=by simpa using congrArg Array.toList d1
  subst this
  exact r.inj r'
end
abbrev Cx.wish (X:Cx) (E:Value→Shared→Prop):Cx:={ X with xe:=E }
abbrev Cx.nox (X:Cx):Cx:=X.wish fun _ _=>False
theorem Cx.Ok.wish {X:Cx} (ok:X.Ok) (E:Value→Shared→Prop):(X.wish E).Ok :=
  ⟨ok.mod,ok.kind,ok.glob,ok.blt,ok.above,ok.inj,ok.has,ok.cab,ok.hd,ok.frames,ok.stk,ok.exf,ok.bs,ok.bsz,ok.noex,ok.exfs,ok.funs,ok.frf⟩
theorem Cx.Ok.unwish {X:Cx} {E:Value→Shared→Prop} (ok:(X.wish E).Ok):X.Ok :=
  ⟨ok.mod,ok.kind,ok.glob,ok.blt,ok.above,ok.inj,ok.has,ok.cab,ok.hd,ok.frames,ok.stk,ok.exf,ok.bs,ok.bsz,ok.noex,ok.exfs,ok.funs,ok.frf⟩
section
variable {X:Cx} {pins:List (Addr×Obj)} {σ:St} {H:Hp} {s:Shared} {E:Value→Shared→Prop}
theorem Inv.wish (I:Inv X pins σ H s) (E:Value→Shared→Prop):Inv (X.wish E) pins σ H s:=⟨I.ok.wish E,I.os,I.bare,I.base,I.loc,I.cell,I.free,I.freeC,I.pin,I.hok,I.len⟩
theorem Inv.unwish (I:Inv (X.wish E) pins σ H s):Inv X pins σ H s:=⟨I.ok.unwish,I.os,I.bare,I.base,I.loc,I.cell,I.free,I.freeC,I.pin,I.hok,I.len⟩
theorem SP.unwish {D:Ends} {f:Flow} {s':Shared} (h:SP (X.wish E) pins D f s'):SP X pins D f s':=by
  cases f with
  | next=>obtain ⟨σ',H',I,q⟩:=h; exact ⟨σ',H',I.unwish,q⟩
  | brk=>obtain ⟨σ',H',I,q⟩:=h; exact ⟨σ',H',I.unwish,q⟩
  | cont=>obtain ⟨σ',H',I,q⟩:=h; exact ⟨σ',H',I.unwish,q⟩
  | ret u=>obtain ⟨v,σ',H',I,r,q⟩:=h; exact ⟨v,σ',H',I.unwish,r,q⟩
theorem PSs.nox {st:List Stmt} {t:TS} (h:PSs X.nox st t):PSs X st t:=fun pins s σ H D I hw =>
  wpAny_mono (h pins s σ H D (I.wish _) hw) (fun _ _ q=>q.unwish) fun _ _ z=>False.elim z
end
section
variable {X:Cx} {st:Stmt} {rest:List Stmt} {t u:TS} {e:Expr} {te:TE} {pos:Pos}
def tNext:TS:=fun D σ H=>D.nx σ H
def tSeq (t u:TS):TS:=fun D σ H=>t { D with nx:=u D } σ H
theorem pss_nil:PSs X [] tNext:=fun _ _ σ H _ I h=>wpAny_execs_nil ⟨σ,H,I,h⟩
theorem pss_cons (h1:PS X st t) (h2:PSs X rest u):PSs X (st::rest) (tSeq t u):=by
  intro pins s σ H D I h
  refine wpAny_execs_cons (thn (h1 pins s σ H { D with nx:=u D } I h) fun f s1 q=>?_)
  cases f with
  | next =>
    obtain ⟨σ',H',I',q⟩:=q
    exact h2 pins s1 σ' H' D I' q
  | ret v=>exact q
  | brk=>exact q
  | cont=>exact q
theorem pss_one (h1:PS X st t):PSs X [st] t:=by
  intro pins s σ H D I h
  refine wpAny_execs_cons (thn (h1 pins s σ H D I h) fun f s1 q=>?_)
  cases f with
  | next=>exact wpAny_execs_nil q
  | ret v=>exact q
  | brk=>exact q
  | cont=>exact q
theorem Inv.quiet {pins:List (Addr×Obj)} {σ:St} {H:Hp} {s:Shared} (I:Inv X pins σ H s):interactive X.env=false:=by simp [interactive,I.ok.kind]
def tDrop (te:TE):TS:=fun D σ H=>te σ H fun _ H1=>D.nx σ H1
theorem ps_expr (he:PE X e te) (hs:swapsWith e none pos.line X.env=pure false:=by rfl):PS X (.Expr e pos) (tDrop te):=by
  intro pins s σ H D I h
  exact wpAny_Expr_any (thn (he pins s σ H _ I h) fun v s1 ⟨x,H1,I1,r1,q1⟩=>⟨σ,H1,I1,q1⟩) I.quiet hs
def tRet (te:TE):TS:=fun D σ H=>te σ H D.rt
theorem ps_ret (he:PE X e te):PS X (.Return (some e) pos) (tRet te):=by
  intro pins s σ H D I h
  exact wpAny_Return_some (thn (he pins s σ H _ I h) fun v s1 ⟨x,H1,I1,r1,q1⟩=>⟨x,σ,H1,I1,r1,q1⟩)
def tIfS (c:TT) (t u:TS):TS:=fun D σ H=>c σ H fun b H1=>if b=true then t D σ H1 else u D σ H1
theorem ps_if {c:Expr} {a b:List Stmt} {tc:TT} (hc:PT X c tc) (ha:PSs X a t) (hb:PSs X b u):PS X (.If c a b pos) (tIfS tc t u):=by
  intro pins s σ H D I h
  refine wpAny_If (thn (hc pins s σ H _ I h) fun d s1 ⟨H1,I1,q1⟩=>?_)
  cases d with
  | true=>exact ha pins s1 σ H1 D I1 q1
  | false=>exact hb pins s1 σ H1 D I1 q1
end
abbrev TG:=V→St→Hp→(St→Hp→Prop)→Prop
def PG (X:Cx) (target:Expr) (t:TG):Prop :=
  ∀ (pins:List (Addr×Obj)) (s:Shared) (σ:St) (H:Hp) (v:V) (u:Value) (Q:St→Hp→Prop),Inv X pins σ H s→RelV v u→t v σ H Q →
    wpAny (model X.prog X.w) X.A (assign target X.env u) (fun _ s'=>∃ σ' H',Inv X pins σ' H' s'∧Q σ' H') X.xe s
abbrev TSet:=V→V→V→Hp→(Hp→Prop)→Prop
def PSet (X:Cx) (t:TSet):Prop :=
  ∀ (pins:List (Addr×Obj)) (s:Shared) (σ:St) (H:Hp) (o i v:V) (ov iv u:Value) (Q:Hp→Prop),Inv X pins σ H s→RelV o ov→RelV i iv→RelV v u→t o i v H Q →
    wpAny (model X.prog X.w) X.A (setItem ov iv u) (fun _ s'=>∃ H',Inv X pins σ H' s'∧Q H') X.xe s
section
variable {X:Cx} {pos:Pos}
def gName (i:Nat):TG:=fun v σ H Q=>Q (σ.set i (some v)) H
theorem pg_name {i:Nat} {x:Str} (hN:X.N.Nodup) (hi:X.N[i]?=some x) (hx:Loc X.env.scope x) (hf:X.fn x=true∨X.env.scope.names.lookup x=some .local:=by first | exact .inl rfl | exact .inr rfl | assumption):PG X (.Name x pos) (gName i):=by
  intro pins s σ H v u Q I r h
  exact wpAny_assign_Name (store_ok I hN hi hx r (fun s' I'=>⟨_,H,I',h⟩) hf)
def gSub (to ti:TE) (t:TSet):TG:=fun v σ H Q=>to σ H fun o H1=>ti σ H1 fun i H2=>t o i v H2 fun H3=>Q σ H3
theorem pg_sub {o i:Expr} {to ti:TE} {t:TSet} (ho:PE X o to) (hi:PE X i ti) (hs:PSet X t)
    (ha:∀ v,assign (.Subscript o i pos) X.env v=(do
      let ov ← holding [v] (eval o X.env)
      let iv ← holding [v,ov] (eval i X.env)
      standAt pos
      holding [v,ov,iv] (setItem ov iv v)
      release [v,ov,iv] []):=by intro _; rfl):PG X (.Subscript o i pos) (gSub to ti t):=by
  intro pins s σ H v u Q I r h
  rw [ha]
  refine wpAny_bind (wpAny_holding (thn (ho pins s σ H _ I h) fun ov s1 ⟨x,H1,I1,r1,q1⟩=>?_))
  refine wpAny_bind (wpAny_holding (thn (hi pins s1 σ H1 _ I1 q1) fun iv s2 ⟨y,H2,I2,r2,q2⟩=>?_))
  refine wpAny_bind (wpAny_standAt (wpAny_bind (wpAny_holding (thn (hs pins s2 σ H2 x y v ov iv u _ I2 r1 r2 r q2) fun _ s3 ⟨H3,I3,q3⟩=>?_))))
  exact wpAny_release ⟨σ,H3,I3,q3⟩
def tAsg (te:TE) (g:TG):TS:=fun D σ H=>te σ H fun x H1=>g x σ H1 D.nx
theorem ps_asg {tg e:Expr} {te:TE} {g:TG} (he:PE X e te) (hg:PG X tg g) (hs:swapsWithSole [tg] e pos.line X.env=pure false:=by rfl) (hw:swappedStores [tg] e X.env=pure none:=by rfl)
    (h1:(assignEach [tg] X.env).map (·.2)=[assign tg X.env]:=by rfl):PS X (.Assign [tg] e pos) (tAsg te g):=by
  intro pins s σ H D I h
  refine wpAny_Assign_stores (thn (he pins s σ H _ I h) fun v s1 ⟨x,H1,I1,r1,q1⟩=>?_) hs hw
  rw [h1]
  exact thn (hg pins s1 σ H1 x v _ I1 r1 q1) fun _ s2 q=>q
theorem ps_set {i:Nat} {x:Str} {e:Expr} {te:TE} {pos':Pos} (hN:X.N.Nodup) (hi:X.N[i]?=some x) (hx:Loc X.env.scope x) (he:PE X e te) (hs:swapsWith e (some (.Name x pos')) pos.line X.env=pure false:=by rfl) (hf:X.fn x=true∨X.env.scope.names.lookup x=some .local:=by first | exact .inl rfl | exact .inr rfl | assumption) :
    PS X (.Assign [.Name x pos'] e pos) (tAsg te (gName i)):=by
  intro pins s σ H D I h
  refine wpAny_Assign_Name (thn (he pins s σ H _ I h) fun v s1 ⟨y,H1,I1,r1,q1⟩=>?_) hs
  exact store_ok I1 hN hi hx r1 (fun s2 I2=>⟨_,H1,I2,q1⟩) hf
end
section
variable {X:Cx} {pos:Pos}
end
structure It where
  go:Nat→Hp→Prop
  yld:Nat→Hp→V→Hp→Prop
  stop:Nat→Hp→Prop
def FpOk (X:Cx) (pins:List (Addr×Obj)) (H:Hp) (b:Addr):Prop :=
  H b=none∧b≠X.env.locals∧b∉X.fs∧(b∈X.ex∨X.s₀.heap.objs.size≤b)∧(∀ x c,X.env.cells.lookup x=some c→c≠b)∧∀ p∈X.pn++pins,p.1≠b
theorem Inv.fpOk {X:Cx} {pins:List (Addr×Obj)} {σ:St} {H H':Hp} {s:Shared} {b:Addr} (I:Inv X pins σ H s) (hb:s.heap.objs.size≤b) (hn:H' b=none):FpOk X pins H' b:=by
  refine ⟨hn,Nat.ne_of_gt (Nat.lt_of_lt_of_le I.lt hb),I.nofs hb,.inr (Nat.le_trans I.sz hb),fun x c e z=>?_,fun p hp z=>?_⟩
  · obtain ⟨v,q⟩:=I.cell x c e
    exact absurd (Nat.lt_of_lt_of_le q.lt (by rw [z]; exact hb)) (Nat.lt_irrefl _)
  · exact absurd (Nat.lt_of_lt_of_le (Heap.lt_size (I.pin p hp).1) (by rw [z]; exact hb)) (Nat.lt_irrefl _)
structure Turn (P:Program) (w:World) (K:PySem.W.Frag) (tg:Expr) (J:It) (fp:List Addr) (it:Addr) (tn:Nat→Heap→Prop):Prop where
  mem:it∈fp
  obj:∀ i h,tn i h→∀ b∈fp,∃ o,h.get? b=some o∧∀ v,o.data≠.cell v
  keep:∀ i h h',tn i h→(∀ b∈fp,∀ o,h.get? b=some o→h'.get? b=some o)→tn i h'
  item:∀ (X:Cx),X.prog=P→X.w=w→X.K=K→X.calm=true→∀ (i:Nat) (pins:List (Addr×Obj)) (s:Shared) (σ:St) (H:Hp) (E:Value→Shared→Prop),Inv X pins σ H s→(∀ b∈fp,FpOk X pins H b)→tn i s.heap→J.go i H →
    wpAny (model P w) X.A (pyNext (.ref it)) (fun r s1=>∃ u,r=some u ∧
      wpAny (model P w) X.A (letOwnedTupleGo tg (.ref it) u) (fun _ s2=>∃ x H',Inv X pins σ H' s2∧RelV x u∧J.yld i H x H'∧tn (i+1) s2.heap∧∀ b∈fp,H' b=none) E s1) E s
  done:∀ (X:Cx),X.prog=P→X.w=w→X.K=K→X.calm=true→∀ (i:Nat) (pins:List (Addr×Obj)) (s:Shared) (σ:St) (H:Hp) (E:Value→Shared→Prop),Inv X pins σ H s→(∀ b∈fp,FpOk X pins H b)→tn i s.heap→J.stop i H →
    wpAny (model P w) X.A (pyNext (.ref it)) (fun r s1=>r=none∧Inv X pins σ H s1) E s
  self:∀ (A:Around) (i:Nat) (s:Shared) (Q:Value→Shared→Prop) (E:Value→Shared→Prop),tn i s.heap→Q (.ref it) s→wpAny (model P w) A (pyIter (.ref it)) Q E s
abbrev TI:=St→Hp→(It→Hp→Prop)→Prop
def PIE (X:Cx) (pins:List (Addr×Obj)) (σ:St) (tg:Expr) (R:It→Hp→Prop) (itv:Value) (s2:Shared):Prop :=
  ∃ (it:Addr) (fp:List Addr) (tn:Nat→Heap→Prop) (J:It) (H':Hp),itv=.ref it∧Inv X pins σ H' s2∧Turn X.prog X.w X.K tg J fp it tn∧tn 0 s2.heap∧(∀ b∈fp,FpOk X pins H' b)∧R J H'
def PI (X:Cx) (tg iter:Expr) (wi:TI):Prop :=
  ∀ (pins:List (Addr×Obj)) (s:Shared) (σ:St) (H:Hp) (R:It→Hp→Prop),Inv X pins σ H s→wi σ H R →
    wpAny (model X.prog X.w) X.A (eval iter X.env) (fun v s1=>wpAny (model X.prog X.w) X.A (pyIter v) (PIE X pins σ tg R) X.xe s1) X.xe s
theorem go_of {M:Model} {A:Around} {E:Value→Shared→Prop} {s:Shared} {tg:Expr} {it:Addr} {u:Value} {o:Obj} {n:String} {vs:Array Value} {Q:Unit→Shared→Prop} (ho:s.heap.get? it=some o) (hc:o.cls=.type n) (hd:o.data=.fields vs)
    (hn:["enumerate", "zip", "dict_itemiterator", "dict_reverseitemiterator", "odict_iterator", "itertools.zip_longest", "itertools.pairwise"].contains n=false) (hQ:Q () s):wpAny M A (letOwnedTupleGo tg (.ref it) u) Q E s:=by
  unfold letOwnedTupleGo
  cases tg <;> first
    | exact wpAny_pure hQ
    | (cases u <;> first
        | exact wpAny_pure hQ
        | (refine wpAny_bind (wpAny_load ho ?_)
           rw [hc,hd]
           show wpAny M A (if (["enumerate", "zip", "dict_itemiterator", "dict_reverseitemiterator", "odict_iterator", "itertools.zip_longest", "itertools.pairwise"].contains n&&vs[0]?==some (rawInt _))=true then _ else _) Q E s
           rw [if_neg (by intro h; rw [hn,Bool.false_and] at h; cases h)]
           exact wpAny_pure hQ))
def Itl (K:PySem.W.Frag) (a:Addr):It :=
  ⟨fun i H=>∃ xs x,SqL K H a xs∧xs[i]?=some x,fun i H x H'=>H'=H∧∀ xs,SqL K H a xs→xs[i]?=some x,fun i H=>∃ xs,SqL K H a xs∧xs.length≤i⟩
def Itr (lo:Int) (n:Nat):It:=⟨fun i _=>i<n,fun i H x H'=>H'=H∧x=.int (lo+i),fun i _=>n≤i⟩
theorem turn_list {P:Program} {w:World} {K:PySem.W.Frag} {tg:Expr} (a it:Addr):Turn P w K tg (Itl K a) [it] it (fun i h=>h.IsListIter it a i) where
  mem:=by simp
  obj:=fun i h st b hb=>by
    have e:b=it:=by simpa using hb
    subst e
    obtain ⟨o,e,c,d⟩:=st
    exact ⟨o,e,fun v z=>by rw [d] at z; cases z⟩
  keep:=fun i h h' st k=>st.at fun o e=>k it (by simp) o e
  item:=by
    intro X hP hw hK hc i pins s σ H E I hf st hg
    subst hP hw hK
    obtain ⟨xs,x,hq,hx⟩:=hg
    obtain ⟨its,rv,p,hz⟩:=I.list hq
    obtain ⟨u,hu,ru⟩:=rv.get hx
    obtain ⟨f0,f1,f2,f3,f4,f5⟩:=hf it (by simp)
    refine wpAny_pyNext_list_item st p.isList (x:=u) (by simpa using hu) fun h' st' sb=>?_
    have I1:Inv X pins σ H { s with heap:=h' }:=I.turned (t':=s.toks) (fun b o hb e=>(sb.2 b hb).trans e) f0 f1 f3 f4 f5
    obtain ⟨o,e,c,d⟩:=id st'
    exact ⟨u,rfl,go_of (s:={ s with heap:=h' }) e c d (by decide) ⟨x,H,I1,ru,⟨rfl,fun ys hy=>by rw [I.list_inj hy hq]; exact hx⟩,st',fun b hb=>(hf b hb).1⟩⟩
  done:=by
    intro X hP hw hK hc i pins s σ H E I hf st hg
    subst hP hw hK
    obtain ⟨xs,hq,hx⟩:=hg
    obtain ⟨its,rv,p,hz⟩:=I.list hq
    obtain ⟨f0,f1,f2,f3,f4,f5⟩:=hf it (by simp)
    have hl:=rv.length
    exact wpAny_pyNext_list_end (I.ok.hd hc) st p.isList (by simp; omega) fun h' eb=>⟨rfl,I.turned (t':=s.toks) (fun b o hb e=>eb b o hb e) f0 f1 f3 f4 f5⟩
  self:=fun _ _ _ _ _ st h=>wpAny_pyIter_listiter st h
theorem turn_range {P:Program} {w:World} {K:PySem.W.Frag} {tg:Expr} (it:Addr) (lo:Int) (n:Nat):Turn P w K tg (Itr lo n) [it] it (fun i h=>IsRangeIter h it (lo+(i:Nat)*1) ((n:Int)-(i:Nat)) 1) where
  mem:=by simp
  obj:=fun i h st b hb=>by
    have e:b=it:=by simpa using hb
    subst e
    exact ⟨_,st,fun v z=>by
      have z':Data.fields _=Data.cell v:=z
      cases z'⟩
  keep:=fun i h h' st k=>k it (by simp) _ st
  item:=by
    intro X hP hw hK hc i pins s σ H E I hf st hg
    subst hP hw hK
    obtain ⟨f0,f1,f2,f3,f4,f5⟩:=hf it (by simp)
    have W:=Walks.range (prog:=X.prog) (w:=X.w) (I.ok.hd hc) it lo 1 n
    refine W.item i s _ _ hg st fun v h' tk hv st' kk=>?_
    obtain ⟨t,rfl⟩:=hv
    have I1:Inv X pins σ H { s with heap:=h',toks:=tk }:=I.turned (fun b o hb e=>kk b o (by simpa using hb) e) f0 f1 f3 f4 f5
    refine ⟨_,rfl,go_of (s:={ s with heap:=h',toks:=tk }) (n := "range_iterator") st' rfl rfl (by decide) ⟨.int (lo+i),H,I1,⟨t,?_⟩,⟨rfl,rfl⟩,st',fun b hb=>(hf b hb).1⟩⟩
    rw [Int.mul_one]
  done:=by
    intro X hP hw hK hc i pins s σ H E I hf st hg
    subst hP hw hK
    obtain ⟨f0,f1,f2,f3,f4,f5⟩:=hf it (by simp)
    exact wpAny_pyNext_range_end (I.ok.hd hc) st (by have:n≤i:=hg; omega) fun h' eb=>⟨rfl,I.turned (t':=s.toks) (fun b o hb e=>eb b o hb e) f0 f1 f3 f4 f5⟩
  self:=fun _ _ _ _ _ st h=>wpAny_pyIter_rangeiter st h
end L2
namespace L2
open PySem PySem.Spec PyProof.Rows
section
variable {X:Cx} {tg:Expr}
def iList (K:PySem.W.Frag) (tl:TE):TI:=fun σ H R=>tl σ H fun x H1=>∃ a,x=.ref a∧(∃ xs,SqL K H1 a xs)∧R (Itl K a) H1
theorem pi_list {l:Expr} {tl:TE} (hl:PE X l tl):PI X tg l (iList X.K tl):=by
  intro pins s σ H R I h
  refine thn (hl pins s σ H _ I h) fun v s1 ⟨x,H1,I1,r1,q1⟩=>?_
  obtain ⟨a,e,⟨xs,hq⟩,q⟩:=q1
  subst e
  cases r1
  obtain ⟨its,rv,p,hz⟩:=I1.list hq
  refine wpAny_pyIter_list p.isList ?_
  refine ⟨s1.heap.objs.size,[s1.heap.objs.size],_,_,H1,rfl,I1.kept (t':=s1.toks) fun b o e=>Heap.get?_push_of_some _ e,turn_list a _,⟨_,Heap.get?_push_size _ rfl,rfl,rfl⟩,fun b hb=>?_,q⟩
  have e:b=s1.heap.objs.size:=by simpa using hb
  subst e
  exact I1.fpOk (Nat.le_refl _) (I1.hok.fresh (Nat.le_refl _))
theorem range_it {pins:List (Addr×Obj)} {σ:St} {H:Hp} {s:Shared} {R:It→Hp→Prop} {E:Value→Shared→Prop} {lo hi:Int} {t u v:Tok} {tk:Nat} (I:Inv X pins σ H s) (h1:-(2 ^ 62)≤lo) (h2:lo<2 ^ 62) (h3:-(2 ^ 62)≤hi) (h4:hi<2 ^ 62)
    (q:R (Itr lo (hi-lo).toNat) H):wpAny (model X.prog X.w) X.A (pyIter (.ref s.heap.objs.size)) (PIE X pins σ tg R) E { s with heap:=s.heap.push { cls:=.type "range", data:=.fields #[.int lo t,.int hi u,.int 1 v] },toks:=tk }:=by
  refine wpAny_pyIter_range (IsRange.new ..) (small_one h1 h2 h3 h4) ?_
  have I1:Inv X pins σ H { s with heap:=s.heap.push { cls:=.type "range", data:=.fields #[.int lo t,.int hi u,.int 1 v] },toks:=tk }:=I.kept fun b o e=>Heap.get?_push_of_some _ e
  refine ⟨(s.heap.push { cls:=.type "range", data:=.fields #[.int lo t,.int hi u,.int 1 v] }).objs.size,[(s.heap.push { cls:=.type "range", data:=.fields #[.int lo t,.int hi u,.int 1 v] }).objs.size],_,_,H,rfl,
    I1.kept (t':=tk) fun b o e=>Heap.get?_push_of_some _ e,turn_range _ lo (hi-lo).toNat,?_,fun b hb=>?_,q⟩
  · have e1:lo+((0:Nat):Int)*1=lo:=by simp
    have e2:(((hi-lo).toNat:Nat):Int)-((0:Nat):Int)=Builtin.Range.rangeSize lo hi 1:=by rw [rangeSize_one]; split <;> omega
    show IsRangeIter _ _ (lo+((0:Nat):Int)*1) ((((hi-lo).toNat:Nat):Int)-((0:Nat):Int)) 1
    rw [e1,e2]
    exact Heap.get?_push_size _ rfl
  · have e:b=(s.heap.push { cls:=.type "range", data:=.fields #[.int lo t,.int hi u,.int 1 v] }).objs.size:=by simpa using hb
    subst e
    exact I1.fpOk (Nat.le_refl _) (I1.hok.fresh (Nat.le_refl _))
def iRng1 (ta:TA):TI:=fun σ H R=>ta σ H fun vs H1=>∃ j:Int,vs=[.int j]∧-(2 ^ 62)≤j∧j<2 ^ 62∧R (Itr 0 j.toNat) H1
theorem pi_range1 {a:Expr} {ta:TA} {p pos:Pos} (hg:Gl X "range") (hm:X.mg "range" = none) (ha:PA X [a] ta) (hs:starEach [a] X.env=[(false,eval a X.env)]:=by rfl):PI X tg (.Call (.Name "range" p) [a] [] pos) (iRng1 ta):=by
  intro pins s σ H R I h
  refine Call_ (ld_blt I hg hm boot_range (PyProof.Rows.callWith_type1 (thn (ha pos pins s σ H _ I h) fun us s1 ⟨vs,H1,I1,r1,q1⟩=>?_) hs rfl))
  obtain ⟨j,e,q1,q2,q⟩:=q1
  subst e
  cases r1 with
  | cons r rr =>
    cases rr
    obtain ⟨t,rfl⟩:=r
    exact call_range_1 (range_it I1 (by omega) (by omega) q1 q2 (by simpa using q))
def tFor (wi:TI) (g:TG) (tb:TS):TS:=fun D σ H=>wi σ H fun J H1=>∃ W:Nat→Nat→St→Hp→Prop,(∃ m,W 0 m σ H1)∧∀ i m σ H,W i m σ H →
  (J.stop i H∧D.nx σ H)∨(J.go i H∧∃ N:St→Hp→Prop,(∀ σ' H',N σ' H'→∃ m',m'<m∧W (i+1) m' σ' H')∧∀ x H',J.yld i H x H'→g x σ H' fun σ2 H2=>tb { D with nx:=N,ct:=N,bk:=D.nx } σ2 H2)
def pinsAt (fp:List Addr) (h:Heap):List (Addr×Obj):=fp.filterMap fun b=>(h.get? b).map fun o=>(b,o)
theorem mem_pinsAt {fp:List Addr} {h:Heap} {b:Addr} {o:Obj} (hb:b∈fp) (e:h.get? b=some o):(b,o)∈pinsAt fp h:=List.mem_filterMap.mpr ⟨b,hb,by rw [e]; rfl⟩
theorem of_pinsAt {fp:List Addr} {h:Heap} {p:Addr×Obj} (hp:p∈pinsAt fp h):p.1∈fp∧h.get? p.1=some p.2:=by
  obtain ⟨b,hb,e⟩:=List.mem_filterMap.mp hp
  cases q:h.get? b with
  | none=>rw [q] at e; cases e
  | some o =>
    rw [q] at e
    have e':(b,o)=p:=Option.some.inj e
    subst e'
    exact ⟨hb,q⟩
theorem Inv.pinned {pins:List (Addr×Obj)} {σ:St} {H:Hp} {s:Shared} {fp:List Addr} (I:Inv X pins σ H s) (hf:∀ b∈fp,FpOk X pins H b) (ho:∀ b∈fp,∃ o,s.heap.get? b=some o∧∀ v,o.data≠.cell v):Inv X (pins++pinsAt fp s.heap) σ H s :=
  I.pins_of fun p hp=>(List.mem_append.mp hp).elim (fun z=>I.pin p (List.mem_append_right _ z)) fun z=>by
    obtain ⟨hb,e⟩:=of_pinsAt z
    obtain ⟨f0,f1,f2,_⟩:=hf p.1 hb
    obtain ⟨o,e',d⟩:=ho p.1 hb
    rw [e] at e'; cases e'
    exact ⟨e,f0,f1,f2,d⟩
theorem Inv.unpinned {pins pl:List (Addr×Obj)} {σ:St} {H:Hp} {s:Shared} (I:Inv X (pins++pl) σ H s):Inv X pins σ H s:=I.pins_of fun p hp=>I.pin p (List.mem_append_right _ (List.mem_append_left _ hp))
theorem ps_for {iter:Expr} {body:List Stmt} {wi:TI} {g:TG} {tb:TS} {pos:Pos} (hp:PassesOwn (model X.prog X.w) X.A X.env X.xe) (hc:X.calm=true) (hi:PI X tg iter wi) (hg:PG X tg g) (hb:PSs X body tb)
    (hs:∀ x,foldedSetIterable iter X.env x=pure x:=by intro _; rfl):PS X (.For tg iter body [] pos) (tFor wi g tb):=by
  intro pins s σ H D I h
  refine wpAny_For (thn (hi pins s σ H _ I h) fun v s1 h1=>thn h1 fun itv s2 h2=>?_) hs
  obtain ⟨it,fp,tn,J,H2,e,I2,T,st2,f2,W,⟨m0,w0⟩,turn⟩:=h2
  subst e
  have stat:∀ {H':Hp},(∀ b∈fp,H' b=none)→∀ b∈fp,FpOk X pins H' b:=fun hn b hb=>⟨hn b hb,(f2 b hb).2⟩
  refine codeAny_forLoop_any (fun n s'=>∃ i σ' H',Inv X pins σ' H' s'∧tn i s'.heap∧(∀ b∈fp,H' b=none)∧W i n σ' H') ?_ m0 ⟨0,σ,H2,I2,st2,fun b hb=>(f2 b hb).1,w0⟩
  rintro n s3 ⟨i,σ3,H3,I3,st3,fr3,w3⟩
  rcases turn i n σ3 H3 w3 with ⟨stop,qn⟩ | ⟨go,N,hN,step⟩
  · refine wpAny_passesOwn hp (thn (T.done X rfl rfl rfl hc i pins s3 σ3 H3 X.xe I3 (stat fr3) st3 stop) fun r s4 ⟨hr,I4⟩=>?_)
    subst hr
    exact wpAny_execs_nil ⟨σ3,H3,I4,qn⟩
  · refine wpAny_passesOwn hp (thn (T.item X rfl rfl rfl hc i pins s3 σ3 H3 X.xe I3 (stat fr3) st3 go) fun r s4 ⟨u,hr,h4⟩=>?_)
    subst hr
    refine wpAny_passesOwn hp (thn h4 fun _ s5 ⟨x,H5,I5,r5,y5,st5,fr5⟩=>?_)
    have I5':=I5.pinned (stat fr5) (T.obj _ _ st5)
    refine wpAny_passesOwn hp (thn (hg _ s5 σ3 H5 x u _ I5' r5 (step x H5 y5)) fun _ s6 ⟨σ6,H6,I6,q6⟩=>?_)
    refine wpAny_passesOwn hp (thn (hb _ s6 σ6 H6 _ I6 q6) fun f s7 q7=>?_)
    have again:∀ {σ7:St} {H7:Hp},Inv X (pins++pinsAt fp s5.heap) σ7 H7 s7→N σ7 H7→∃ m,m<n∧∃ i σ' H',Inv X pins σ' H' s7∧tn i s7.heap∧(∀ b∈fp,H' b=none)∧W i m σ' H':=fun {σ7 H7} I7 n7=>by
      obtain ⟨m',hm,w7⟩:=hN σ7 H7 n7
      refine ⟨m',hm,i+1,σ7,H7,I7.unpinned,T.keep _ _ _ st5 fun b hb o e=>(I7.pin (b,o) (List.mem_append_right _ (List.mem_append_right _ (mem_pinsAt hb e)))).1,fun b hb=>?_,w7⟩
      obtain ⟨o,e,d⟩:=T.obj _ _ st5 b hb
      exact (I7.pin (b,o) (List.mem_append_right _ (List.mem_append_right _ (mem_pinsAt hb e)))).2.1
    cases f with
    | next=>obtain ⟨σ7,H7,I7,n7⟩:=q7; exact again I7 n7
    | cont=>obtain ⟨σ7,H7,I7,n7⟩:=q7; exact again I7 n7
    | brk=>obtain ⟨σ7,H7,I7,q7⟩:=q7; exact ⟨σ7,H7,I7.unpinned,q7⟩
    | ret v=>obtain ⟨x7,σ7,H7,I7,r7,q7⟩:=q7; exact ⟨x7,σ7,H7,I7.unpinned,r7,q7⟩
end
end L2
namespace L2
open PySem PySem.Spec PyProof.Rows
abbrev R2:=V→V→Hp→VK→Prop
def OpR (X:Cx) (f:Value→Value→Sem Value) (r:R2):Prop :=
  ∀ (pins:List (Addr×Obj)) (s:Shared) (σ:St) (H:Hp) (x y:V) (v u:Value) (Q:VK),Inv X pins σ H s→RelV x v→RelV y u→r x y H Q →
    wpAny (model X.prog X.w) X.A (f v u) (EP X pins σ Q) X.xe s
def UnR (X:Cx) (f:Value→Sem Value) (r:V→Hp→VK→Prop):Prop :=
  ∀ (pins:List (Addr×Obj)) (s:Shared) (σ:St) (H:Hp) (x:V) (v:Value) (Q:VK),Inv X pins σ H s→RelV x v→r x H Q →
    wpAny (model X.prog X.w) X.A (f v) (EP X pins σ Q) X.xe s
def CallR (X:Cx) (f:Value) (r:List V→Hp→VK→Prop):Prop :=
  ∀ (pins:List (Addr×Obj)) (s:Shared) (σ:St) (H:Hp) (xs:List V) (us:List Value) (Q:VK),Inv X pins σ H s→Vals xs us→r xs H Q →
    wpAny (model X.prog X.w) X.A (call f us) (EP X pins σ Q) X.xe s
def TruR (X:Cx) (r:V→Hp→(Bool→Hp→Prop)→Prop):Prop :=
  ∀ (pins:List (Addr×Obj)) (s:Shared) (σ:St) (H:Hp) (x:V) (v:Value) (Q:Bool→Hp→Prop),Inv X pins σ H s→RelV x v→r x H Q →
    wpAny (model X.prog X.w) X.A (truthy v) (TP X pins σ Q) X.xe s
def tOp (r:R2) (ta tb:TE):TE:=fun σ H Q=>ta σ H fun x H1=>tb σ H1 fun y H2=>r x y H2 Q
def tUn (r:V→Hp→VK→Prop) (ta:TE):TE:=fun σ H Q=>ta σ H fun x H1=>r x H1 Q
def rI (C:Int→Int→Prop) (g:Int→Int→V):R2:=fun x y H Q=>∃ i j,x=.int i∧y=.int j∧C i j∧Q (g i j) H
def rI0 (g:Int→Int→V):R2:=fun x y H Q=>∃ i j,x=.int i∧y=.int j∧Q (g i j) H
def rU (g:Int→V):V→Hp→VK→Prop:=fun x H Q=>∃ i,x=.int i∧Q (g i) H
section
variable {X:Cx} {a b c:Expr} {ta tb tc:TE} {pos:Pos}
theorem binT (ha:PE X a ta) (hb:PE X b tb) {pins:List (Addr×Obj)} {s:Shared} {σ:St} {H:Hp} {R:V→V→Hp→Prop} (I:Inv X pins σ H s)
    (h:ta σ H fun x H1=>tb σ H1 fun y H2=>R x y H2) {Q:Value→Shared→Prop} {f:Value→Value→Sem Value}
    (hf:∀ v u s2 x y H2,Inv X pins σ H2 s2→RelV x v→RelV y u→R x y H2→wpAny (model X.prog X.w) X.A (f v u) Q X.xe s2) :
    wpAny (model X.prog X.w) X.A (eval a X.env) (fun v s₁=>wpAny (model X.prog X.w) X.A (eval b X.env) (fun u s₂=>wpAny (model X.prog X.w) X.A (f v u) Q X.xe s₂) X.xe s₁) X.xe s:=by
  refine thn (ha pins s σ H _ I h) fun v s1 ⟨x,H1,I1,r1,q1⟩=>?_
  refine thn (hb pins s1 σ H1 _ I1 q1) fun u s2 ⟨y,H2,I2,r2,q2⟩=>?_
  exact hf v u s2 x y H2 I2 r1 r2 q2
theorem pe_op {op:Operator} {r:R2} (ho:OpR X (binaryOp op) r) (ha:PE X a ta) (hb:PE X b tb):PE X (.BinOp a op b pos) (tOp r ta tb):=by
  intro pins s σ H Q I h
  exact wpAny_BinOp (binT ha hb I h fun v u s2 x y H2 I2 rx ry q=>ho pins s2 σ H2 x y v u Q I2 rx ry q)
theorem pe_un {op:UnaryOp} {r:V→Hp→VK→Prop} (ho:UnR X (unaryOp op) r) (ha:PE X a ta):PE X (.UnaryOp op a pos) (tUn r ta):=by
  intro pins s σ H Q I h
  exact UnaryOp_ (thn (ha pins s σ H _ I h) fun v s1 ⟨x,H1,I1,r1,q1⟩=>ho pins s1 σ H1 x v Q I1 r1 q1)
theorem opI {f:Value→Value→Sem Value} {C:Int→Int→Prop} {g:Int→Int→Int}
    (rule:∀ (i j:Int) (t u:Tok) (s:Shared) (Q:Value→Shared→Prop) (E:Value→Shared→Prop),C i j→Q (.int (g i j) s.toks) { s with toks:=s.toks+1 }→wpAny (model X.prog X.w) X.A (f (.int i t) (.int j u)) Q E s) :
    OpR X f (rI C fun i j=>.int (g i j)):=by
  intro pins s σ H x y v u Q I rx ry h
  obtain ⟨i,j,rfl,rfl,hc,q⟩:=h
  obtain ⟨t,rfl⟩:=rx
  obtain ⟨t',rfl⟩:=ry
  exact rule i j t t' s _ _ hc ⟨.int (g i j),H,I.tok _,⟨_,rfl⟩,q⟩
theorem opI0 {f:Value→Value→Sem Value} {g:Int→Int→Int}
    (rule:∀ (i j:Int) (t u:Tok) (s:Shared) (Q:Value→Shared→Prop) (E:Value→Shared→Prop),Q (.int (g i j) s.toks) { s with toks:=s.toks+1 }→wpAny (model X.prog X.w) X.A (f (.int i t) (.int j u)) Q E s) :
    OpR X f (rI0 fun i j=>.int (g i j)):=by
  intro pins s σ H x y v u Q I rx ry h
  obtain ⟨i,j,rfl,rfl,q⟩:=h
  obtain ⟨t,rfl⟩:=rx
  obtain ⟨t',rfl⟩:=ry
  exact rule i j t t' s _ _ ⟨.int (g i j),H,I.tok _,⟨_,rfl⟩,q⟩
theorem opB0 {f:Value→Value→Sem Value} {g:Int→Int→Bool}
    (rule:∀ (i j:Int) (t u:Tok) (s:Shared) (Q:Value→Shared→Prop) (E:Value→Shared→Prop),Q (.bool (g i j)) s→wpAny (model X.prog X.w) X.A (f (.int i t) (.int j u)) Q E s) :
    OpR X f (rI0 fun i j=>.bl (g i j)):=by
  intro pins s σ H x y v u Q I rx ry h
  obtain ⟨i,j,rfl,rfl,q⟩:=h
  obtain ⟨t,rfl⟩:=rx
  obtain ⟨t',rfl⟩:=ry
  exact rule i j t t' s _ _ ⟨.bl (g i j),H,I,rfl,q⟩
def CPow (i j:Int):Prop:=0≤j∧j≤1000000∧i.natAbs<2 ^ 64
def CMul (i j:Int):Prop:=(-(2 ^ 64)<i∧i<2 ^ 64)∨(-(2 ^ 64)<j∧j<2 ^ 64)
theorem CMul.ok {i j:Int} (h:CMul i j):IntMulOk i j:=by
  rcases h with ⟨h1,h2⟩ | ⟨h1,h2⟩
  · exact .of_left (intBits_le_64 h1 h2)
  · exact .of_right (intBits_le_64 h1 h2)
theorem op_add:OpR X (binaryOp .Add) (rI0 fun i j=>.int (i+j)):=opI0 fun _ _ _ _ _ _ _ q=>add_int q
theorem op_sub:OpR X (binaryOp .Sub) (rI0 fun i j=>.int (i-j)):=opI0 fun _ _ _ _ _ _ _ q=>sub_int q
theorem op_mod:OpR X (binaryOp .Mod) (rI (fun _ j=>0<j) fun i j=>.int (i % j)):=opI fun i j _ _ _ _ _ hc q=>by
  have h1:(0:Int)<j:=hc
  exact mod_int' (by omega) (by rw [Int.fmod_eq_emod_of_nonneg i (by omega)]; exact q)
theorem op_pow:OpR X (binaryOp .Pow) (rI CPow fun i j=>.int (i ^ j.toNat)):=opI fun _ _ _ _ _ _ _ hc q=>pow_int_small hc.1 hc.2.1 hc.2.2 q
theorem unI {f:Value→Sem Value} {g:Int→Int}
    (rule:∀ (i:Int) (t:Tok) (s:Shared) (Q:Value→Shared→Prop) (E:Value→Shared→Prop),Q (.int (g i) s.toks) { s with toks:=s.toks+1 }→wpAny (model X.prog X.w) X.A (f (.int i t)) Q E s) :
    UnR X f (rU fun i=>.int (g i)):=by
  intro pins s σ H x v Q I rx h
  obtain ⟨i,rfl,q⟩:=h
  obtain ⟨t,rfl⟩:=rx
  exact rule i t s _ _ ⟨.int (g i),H,I.tok _,⟨_,rfl⟩,q⟩
theorem un_neg:UnR X (unaryOp .USub) (rU fun i=>.int (-i)):=unI fun _ _ _ _ _ q=>neg_int q
end
def scal:V→V→Bool
  | .non,.non=>true | .non,.int _=>true | .int _,.non=>true | .non,.bl _=>true | .bl _,.non=>true | .non,.str _=>true | .str _,.non=>true
  | .int _,.int _=>true | .bl _,.bl _=>true | .str _,.str _=>true | .byt _,.byt _=>true
  | .int _,.str _=>true | .str _,.int _=>true | .bl _,.str _=>true | .str _,.bl _=>true
  | _,_=>false
def rEq:R2:=fun x y H Q=>scal x y=true∧Q (.bl (decide (x=y))) H
def rNe:R2:=fun x y H Q=>scal x y=true∧Q (.bl (!decide (x=y))) H
theorem dec_int {i j:Int}:decide (V.int i=V.int j)=(i==j):=by
  rw [Bool.eq_iff_iff]
  simp
theorem dec_bl {i j:Bool}:decide (V.bl i=V.bl j)=(i==j):=by
  rw [Bool.eq_iff_iff]
  simp
theorem dec_str {i j:Str}:decide (V.str i=V.str j)=(i==j):=by
  rw [Bool.eq_iff_iff]
  simp
theorem dec_byt {i j:Array UInt8}:decide (V.byt i=V.byt j)=(i.toList==j.toList):=by
  rw [Bool.eq_iff_iff]
  cases i
  cases j
  simp
section
variable {X:Cx} {a b c:Expr} {ta tb tc:TE} {pos:Pos}
theorem fin_bl {pins:List (Addr×Obj)} {σ:St} {H:Hp} {s:Shared} {Q:VK} {k k':Bool} (I:Inv X pins σ H s) (q:Q (.bl k) H) (e:k=k'):EP X pins σ Q (.bool k') s:=by
  subst e
  exact ⟨.bl k,H,I,rfl,q⟩
theorem op_eq:OpR X (compareOp .Eq) rEq:=by
  intro pins s σ H x y v u Q I rx ry h
  obtain ⟨hs,q⟩:=h
  cases x with
  | non =>
    cases rx
    cases y with
    | non=>cases ry; exact PySem.EqNone.eq_none_none (fin_bl I q (by simp))
    | bl j=>cases ry; exact PySem.EqNone.eq_none_bool (fin_bl I q (by simp))
    | int j=>obtain ⟨t',rfl⟩:=ry; exact PySem.EqNone.eq_none_int (fin_bl I q (by simp))
    | str j=>obtain ⟨t',rfl⟩:=ry; exact PySem.EqNone.eq_none_str (fin_bl I q (by simp))
    | _=>exact absurd (show false=true from hs) Bool.false_ne_true
  | bl i =>
    cases rx
    cases y with
    | non=>cases ry; exact PySem.EqNone.eq_bool_none (fin_bl I q (by simp))
    | bl j=>cases ry; exact eq_bool (fin_bl I q dec_bl)
    | str j=>obtain ⟨t',rfl⟩:=ry; exact PySem.EqMixed.eq_bool_str (fin_bl I q (by simp))
    | _=>exact absurd (show false=true from hs) Bool.false_ne_true
  | int i =>
    obtain ⟨t,rfl⟩:=rx
    cases y with
    | non=>cases ry; exact PySem.EqNone.eq_int_none (fin_bl I q (by simp))
    | int j=>obtain ⟨t',rfl⟩:=ry; exact eq_int (fin_bl I q dec_int)
    | str j=>obtain ⟨t',rfl⟩:=ry; exact PySem.EqMixed.eq_int_str (fin_bl I q (by simp))
    | _=>exact absurd (show false=true from hs) Bool.false_ne_true
  | str i =>
    obtain ⟨t,rfl⟩:=rx
    cases y with
    | non=>cases ry; exact PySem.EqNone.eq_str_none (fin_bl I q (by simp))
    | bl j=>cases ry; exact PySem.EqMixed.eq_str_bool (fin_bl I q (by simp))
    | int j=>obtain ⟨t',rfl⟩:=ry; exact PySem.EqMixed.eq_str_int (fin_bl I q (by simp))
    | str j=>obtain ⟨t',rfl⟩:=ry; exact eq_str (fin_bl I q dec_str)
    | _=>exact absurd (show false=true from hs) Bool.false_ne_true
  | byt i =>
    obtain ⟨t,rfl⟩:=rx
    cases y with
    | byt j=>obtain ⟨t',rfl⟩:=ry; exact PySem.W.eq_bytes (fin_bl I q dec_byt)
    | _=>exact absurd (show false=true from hs) Bool.false_ne_true
  | _=>cases y <;> exact absurd (show false=true from hs) Bool.false_ne_true
theorem op_ne:OpR X (compareOp .NotEq) rNe:=by
  intro pins s σ H x y v u Q I rx ry h
  obtain ⟨hs,q⟩:=h
  cases x with
  | non =>
    cases rx
    cases y with
    | non=>cases ry; exact PySem.EqNone.ne_none_none (fin_bl I q (by simp))
    | bl j=>cases ry; exact PySem.EqNone.ne_none_bool (fin_bl I q (by simp))
    | int j=>obtain ⟨t',rfl⟩:=ry; exact PySem.EqNone.ne_none_int (fin_bl I q (by simp))
    | str j=>obtain ⟨t',rfl⟩:=ry; exact PySem.EqNone.ne_none_str (fin_bl I q (by simp))
    | _=>exact absurd (show false=true from hs) Bool.false_ne_true
  | bl i =>
    cases rx
    cases y with
    | non=>cases ry; exact PySem.EqNone.ne_bool_none (fin_bl I q (by simp))
    | bl j=>cases ry; exact ne_bool (fin_bl I q (congrArg not dec_bl))
    | str j=>obtain ⟨t',rfl⟩:=ry; exact PySem.EqMixed.ne_bool_str (fin_bl I q (by simp))
    | _=>exact absurd (show false=true from hs) Bool.false_ne_true
  | int i =>
    obtain ⟨t,rfl⟩:=rx
    cases y with
    | non=>cases ry; exact PySem.EqNone.ne_int_none (fin_bl I q (by simp))
    | int j=>obtain ⟨t',rfl⟩:=ry; exact ne_int (fin_bl I q (congrArg not dec_int))
    | str j=>obtain ⟨t',rfl⟩:=ry; exact PySem.EqMixed.ne_int_str (fin_bl I q (by simp))
    | _=>exact absurd (show false=true from hs) Bool.false_ne_true
  | str i =>
    obtain ⟨t,rfl⟩:=rx
    cases y with
    | non=>cases ry; exact PySem.EqNone.ne_str_none (fin_bl I q (by simp))
    | bl j=>cases ry; exact PySem.EqMixed.ne_str_bool (fin_bl I q (by simp))
    | int j=>obtain ⟨t',rfl⟩:=ry; exact PySem.EqMixed.ne_str_int (fin_bl I q (by simp))
    | str j=>obtain ⟨t',rfl⟩:=ry; exact ne_str (fin_bl I q (congrArg not dec_str))
    | _=>exact absurd (show false=true from hs) Bool.false_ne_true
  | byt i =>
    obtain ⟨t,rfl⟩:=rx
    cases y with
    | byt j=>obtain ⟨t',rfl⟩:=ry; exact PySem.W.ne_bytes (fin_bl I q (congrArg not dec_byt))
    | _=>exact absurd (show false=true from hs) Bool.false_ne_true
  | _=>cases y <;> exact absurd (show false=true from hs) Bool.false_ne_true
theorem op_lt:OpR X (compareOp .Lt) (rI0 fun i j=>.bl (decide (i<j))):=opB0 fun _ _ _ _ _ _ _ q=>lt_int q
theorem op_le:OpR X (compareOp .LtE) (rI0 fun i j=>.bl (decide (i≤j))):=opB0 fun _ _ _ _ _ _ _ q=>le_int q
theorem op_gt:OpR X (compareOp .Gt) (rI0 fun i j=>.bl (decide (j<i))):=opB0 fun _ _ _ _ _ _ _ q=>gt_int q
theorem nomark (b:Expr) {op:CmpOp} (h:op≠.In:=by decide) (h2:op≠.NotIn:=by decide):behindInMarks op b=false:=by
  have e1:(op==CmpOp.In)=false:=by cases op <;> first | rfl | exact absurd rfl h
  have e2:(op==CmpOp.NotIn)=false:=by cases op <;> first | rfl | exact absurd rfl h2
  cases b <;> simp [behindInMarks,e1,e2]
theorem pe_cmpR {op:CmpOp} {r:R2} (ho:OpR X (compareOp op) r) (ha:PE X a ta) (hb:PE X b tb) (hm:behindInMarks op b=false):PE X (.Compare a [op] [b] pos) (tOp r ta tb):=by
  intro pins s σ H Q I h
  exact wpAny_Compare1 (binT ha hb I h fun v u s2 x y H2 I2 rx ry q=>ho pins s2 σ H2 x y v u Q I2 rx ry q) hm
def tTest (t:TE):TT:=fun σ H Q=>t σ H fun x H'=>∃ k,x=.bl k∧Q k H'
theorem pt_cmpR {op:CmpOp} {r:R2} (ho:OpR X (compareOp op) r) (ha:PE X a ta) (hb:PE X b tb) (hm:behindInMarks op b=false):PT X (.Compare a [op] [b] pos) (tTest (tOp r ta tb)):=by
  intro pins s σ H Q I h
  refine wpAny_isTrue_Compare1 (thn (ha pins s σ H _ I h) fun v s1 ⟨x,H1,I1,r1,q1⟩=>thn (hb pins s1 σ H1 _ I1 q1) fun u s2 ⟨y,H2,I2,r2,q2⟩ =>
    thn (ho pins s2 σ H2 x y v u _ I2 r1 r2 q2) fun c s3 ⟨z,H3,I3,r3,k,e,q3⟩=>?_) hm
  subst e
  cases r3
  exact wpAny_truthy_bool ⟨H3,I3,q3⟩
def tChain (r r':R2) (ta tb tc:TE):TE:=fun σ H Q=>ta σ H fun x H1=>tb σ H1 fun y H2=>r x y H2 fun z H3=>∃ k,z=.bl k ∧
  (if k=true then tc σ H3 fun w' H4=>r' y w' H4 Q else Q (.bl false) H3)
theorem pt_chain {op op':CmpOp} {r r':R2} (ho:OpR X (compareOp op) r) (ho':OpR X (compareOp op') r') (ha:PE X a ta) (hb:PE X b tb) (hc:PE X c tc)
    (hm:lastMarks [op,op'] [b,c]=false:=by with_unfolding_all rfl):PT X (.Compare a [op,op'] [b,c] pos) (tTest (tChain r r' ta tb tc)):=by
  intro pins s σ H Q I h
  refine isTrue_chain (thn (ha pins s σ H _ I h) fun v s1 ⟨x,H1,I1,r1,q1⟩=>test_link (thn (hb pins s1 σ H1 _ I1 q1) fun u s2 ⟨y,H2,I2,r2,q2⟩ =>
    thn (ho pins s2 σ H2 x y v u _ I2 r1 r2 q2) fun d s3 ⟨z,H3,I3,r3,k,e,q3⟩=>?_)) hm
  subst e
  cases r3
  refine wpAny_truthy_bool ?_
  cases k with
  | false =>
    obtain ⟨k',e',q'⟩:=q3
    cases e'
    exact ite_ff ⟨H3,I3,q'⟩
  | true =>
    refine ite_tt (test_last (thn (hc pins s3 σ H3 _ I3 q3) fun w' s4 ⟨z',H4,I4,r4,q4⟩=>thn (ho' pins s4 σ H4 y z' u w' _ I4 r2 r4 q4) fun d' s5 ⟨z2,H5,I5,r5,k2,e2,q5⟩=>?_))
    subst e2
    cases r5
    exact wpAny_truthy_bool ⟨H5,I5,q5⟩
def TruV (K:PySem.W.Frag) (x:V) (H:Hp) (k:Bool):Prop :=
  match x with
  | .non=>k=false
  | .bl b=>k=b
  | .int i=>k=(i != 0)
  | .str y=>y.length≤sizeLine∧k=((y.length:Int) != 0)
  | .byt y=>y.size≤sizeLine∧k=((y.size:Int) != 0)
  | .ref p=>(∃ xs,SqL K H p xs∧k=!xs.isEmpty)∨(∃ xs,SqT K H p xs∧k=!xs.isEmpty)∨∃ kvs,H p=some (.dK kvs)∧k=!kvs.isEmpty
  | _=>False
theorem isEmpty_kv {κ:Type} {kvs:List (κ×V)} {vs:List (κ×Value)} (r:KV kvs vs):(!vs.isEmpty)=!kvs.isEmpty:=by
  cases r <;> rfl
theorem isEmpty_of {xs:List V} {its:List Value} (r:Vals xs its):(!its.toArray.isEmpty)=!xs.isEmpty:=by
  cases r <;> simp
theorem line63:(sizeLine:Nat)<2 ^ 63:=by rw [sizeLine_eq]; decide
theorem tru_ok:TruR X (fun x H Q=>∃ k,TruV X.K x H k∧Q k H):=by
  intro pins s σ H x v Q I rx h
  obtain ⟨k,e,q⟩:=h
  have hl:=line63
  have hs:sizeLine=16777216:=sizeLine_eq
  cases x with
  | non =>
    cases rx
    have e':k=false:=e
    subst e'
    exact truthy_none ⟨H,I,q⟩
  | bl b =>
    cases rx
    have e':k=b:=e
    subst e'
    exact wpAny_truthy_bool ⟨H,I,q⟩
  | int i =>
    obtain ⟨t,rfl⟩:=rx
    have e':k=(i != 0):=e
    subst e'
    exact PySem.P.truthy_int ⟨H,I,q⟩
  | str y =>
    obtain ⟨t,rfl⟩:=rx
    obtain ⟨hy,e'⟩:y.length≤sizeLine∧k=((y.length:Int) != 0):=e
    subst e'
    exact PySem.P.truthy_str (by omega) ⟨H,I.tok _,q⟩
  | byt y =>
    obtain ⟨t,rfl⟩:=rx
    obtain ⟨hy,e'⟩:y.size≤sizeLine∧k=((y.size:Int) != 0):=e
    subst e'
    exact PySem.W.truthy_bytes (by omega) ⟨H,I.tok _,q⟩
  | ref p =>
    cases rx
    have e':(∃ xs,SqL X.K H p xs∧k=!xs.isEmpty)∨(∃ xs,SqT X.K H p xs∧k=!xs.isEmpty)∨∃ kvs,H p=some (.dK kvs)∧k=!kvs.isEmpty:=e
    rcases e' with ⟨xs,hx,e'⟩ | ⟨xs,hx,e'⟩ | ⟨kvs,hx,e'⟩
    · subst e'
      obtain ⟨its,r,pl,hz⟩:=I.list hx
      have hlen:=r.length
      exact wpAny_truthy_list pl.isList (by simp only [List.size_toArray]; omega) ⟨H,I.tok _,by rw [isEmpty_of r]; exact q⟩
    · subst e'
      obtain ⟨its,r,pl,hz⟩:=I.tuple hx
      have hlen:=r.length
      exact truthy_tuple pl (by simp only [List.size_toArray]; omega) ⟨H,I.tok _,by rw [isEmpty_of r]; exact q⟩
    · subst e'
      obtain ⟨hz,hS,vs,r,m⟩:kvs.length≤sizeLine∧(p==sysModules)=false∧∃ vs,KV kvs vs∧s.heap.DictOf (mixKind X.prog X.w) p vs:=I.hok p _ hx
      have hlen:kvs.length=vs.length:=Paired.length r
      exact wpAny_truthy_dict hS m (by omega) ⟨H,I.tok _,by rw [isEmpty_kv r]; exact q⟩
  | _=>exact (show False from e).elim
theorem pt_truth (ha:PE X a ta) (he:∀ whole,isTrue a X.env whole=(do let v ← whole; standAt a.pos; holding [v] (truthy v))) :
    PT X a (fun σ H Q=>ta σ H fun x H'=>∃ k,TruV X.K x H' k∧Q k H'):=by
  intro pins s σ H Q I h
  exact isTrue_plain (thn (ha pins s σ H _ I h) fun v s1 ⟨x,H1,I1,r1,q1⟩=>tru_ok pins s1 σ H1 x v Q I1 r1 q1) (he _)
theorem vals1 {x:V} {us:List Value} (r:Vals [x] us):∃ u,us=[u]∧RelV x u:=by
  cases r with
  | cons r1 r2=>cases r2; exact ⟨_,rfl,r1⟩
theorem vals2 {x y:V} {us:List Value} (r:Vals [x,y] us):∃ u w',us=[u,w']∧RelV x u∧RelV y w':=by
  cases r with
  | cons r1 r2 =>
    cases r2 with
    | cons r3 r4=>cases r4; exact ⟨_,_,rfl,r1,r3⟩
theorem call_max2 (hc:X.calm=true):CallR X (.builtin "max") (fun xs H Q=>∃ i j,xs=[.int i,.int j]∧Q (.int (if j > i then j else i)) H):=by
  intro pins s σ H xs us Q I r h
  obtain ⟨i,j,rfl,q⟩:=h
  obtain ⟨u,w',rfl,⟨t,rfl⟩,⟨t',rfl⟩⟩:=vals2 r
  refine max_two_ints (I.ok.hd hc) fun h' tk k=>⟨_,H,I.kept k,?_,q⟩
  by_cases hj:j > i
  · rw [if_pos hj,if_pos hj]; exact ⟨_,rfl⟩
  · rw [if_neg hj,if_neg hj]; exact ⟨_,rfl⟩
def LenV (K:PySem.W.Frag) (x:V) (H:Hp) (n:Nat):Prop :=
  match x with
  | .str y=>y.length≤sizeLine∧n=y.length
  | .byt y=>y.size≤sizeLine∧n=y.size
  | .ref p=>(∃ xs,SqL K H p xs∧n=xs.length)∨∃ xs,SqT K H p xs∧n=xs.length
  | _=>False
theorem call_len:CallR X (.builtin "len") (fun xs H Q=>∃ x n,xs=[x]∧LenV X.K x H n∧Q (.int n) H):=by
  intro pins s σ H xs us Q I r h
  obtain ⟨x,n,rfl,e,q⟩:=h
  obtain ⟨u,rfl,rx⟩:=vals1 r
  have hl:=line63
  have hs:sizeLine=16777216:=sizeLine_eq
  cases x with
  | str y =>
    obtain ⟨t,rfl⟩:=rx
    obtain ⟨hy,e'⟩:y.length≤sizeLine∧n=y.length:=e
    subst e'
    exact len_str (by omega) ⟨.int _,H,I.tok _,⟨_,rfl⟩,q⟩
  | byt y =>
    obtain ⟨t,rfl⟩:=rx
    obtain ⟨hy,e'⟩:y.size≤sizeLine∧n=y.size:=e
    subst e'
    exact PySem.W.len_bytes (by omega) ⟨.int _,H,I.tok _,⟨_,rfl⟩,q⟩
  | ref p =>
    cases rx
    have e':(∃ xs,SqL X.K H p xs∧n=xs.length)∨∃ xs,SqT X.K H p xs∧n=xs.length:=e
    rcases e' with ⟨xs,hx,e'⟩ | ⟨xs,hx,e'⟩
    · subst e'
      obtain ⟨its,r',pl,hz⟩:=I.list hx
      have hlen:=r'.length
      exact Calls.call_len_list pl.isList (by simp only [List.size_toArray]; omega) ⟨.int xs.length,H,I.tok _,⟨_,by simp only [List.size_toArray]; rw [hlen]⟩,q⟩
    · subst e'
      obtain ⟨its,r',pl,hz⟩:=I.tuple hx
      have hlen:=r'.length
      exact len_tuple pl (by simp only [List.size_toArray]; omega) ⟨.int xs.length,H,I.tok _,⟨_,by simp only [List.size_toArray]; rw [hlen]⟩,q⟩
  | _=>exact (show False from e).elim
end
end L2
namespace L2
open PySem PySem.Spec PyProof.Rows
structure ObjM (h:Heap) (x dx C:Addr) (mA:Str→Option Value):Prop where
  obj:h.get? x=some (PySem.W.instObj C dx)
  ns:h.Ns1 dx mA
  ne:dx≠x
theorem lookIn_ns {h:Heap} {dx:Addr} {mA:Str→Option Value} (n:h.Ns1 dx mA):∃ od,h.get? dx=some od∧∀ name,PySem.W.lookIn name od=some (mA name):=by
  obtain ⟨o,es,ep,ho,hd,hk,_,hm⟩:=n
  refine ⟨o,ho,fun name=>?_⟩
  have e:=hm name
  unfold nsFind findBy at e
  rw [← Array.find?_toList] at e
  unfold PySem.W.lookIn
  rw [hd]
  dsimp only
  split
  · rename_i y q
    rw [q] at e
    exact congrArg some e
  · rename_i q
    rw [q] at e
    have a:es.toList.any (·.refKey)=false:=by
      rw [List.any_eq_false]
      intro y hy
      obtain ⟨z,t,hkey⟩:=hk y (Array.mem_toList_iff.mp hy)
      simp [DictEntry.refKey,hkey]
    have a':¬ es.toList.any (·.refKey)=true:=by rw [a]; exact Bool.false_ne_true
    rw [if_neg a']
    exact congrArg some e
theorem ObjM.look {h:Heap} {x dx C:Addr} {mA:Str→Option Value} (I:ObjM h x dx C mA):∃ od,PySem.W.InstAt h x (PySem.W.instObj C dx) C (some od)∧∀ name,PySem.W.lookIn name od=some (mA name) :=
  let ⟨od,ho,hl⟩:=lookIn_ns I.ns
  ⟨od,⟨I.obj,rfl,rfl,ho⟩,hl⟩
section
variable {prog:Program} {w:World} {A:Around} {E:Value→Shared→Prop} {s:Shared} {K:PySem.W.Frag} {x dx C f:Addr} {mA:Str→Option Value} {name:Str} {v:Value}
end
section
variable {P:Program} {w:World} {H H':Hp} {h h':Heap} {a C dx:Addr} {fs fs':List (Str×V)}
theorem ins_get (hok:HOk P w H h) (e:H a=some (.ins C dx fs)):∃ mA,ObjM h a dx C mA∧(∀ f,RelO (fs.lookup f) (mA f))∧PySem.Within mA (fs.map (·.1))∧fs.length≤1000∧H dx=some (.own a):=by
  obtain ⟨d,z,ne,ob,mA,n,r,q⟩:=(show ObjOk P w H h a (.ins C dx fs) from hok a _ e)
  exact ⟨mA,⟨ob,n,ne⟩,r,q,z,d⟩
end
structure Cls (K:PySem.W.Frag) (C:Addr):Prop where
  pg:PySem.W.plainGet K C Str.empty=true
  hd:PySem.W.hasDictIn K C=true
  po:PySem.W.plainOver K C=true
  sa:PySem.W.findIn K (.ref C) "__setattr__" = some (some (.builtin "object.__setattr__"))
theorem Cls.get {K:PySem.W.Frag} {C:Addr} (c:Cls K C) (f:Str):PySem.W.plainGet K C f=true:=c.pg
structure Con (K:PySem.W.Frag) (C:Addr) (f:Str) (v:V) (u:Value):Prop where
  at_:PySem.W.findIn K (.ref C) f=some (some u)
  rel:RelV v u
  get:PySem.W.specialIn K u "__get__" = some none
  cp:PySem.W.copiedNames.contains f=false
structure Meth (K:PySem.W.Frag) (C:Addr) (m:Str) (f:Addr):Prop where
  at_:PySem.W.findIn K (.ref C) m=some (some (.ref f))
  fn:PySem.W.isFn K (.ref f)=true
  kp:PySem.W.keepIn K (.ref f)=true
section
variable {X:Cx} {pins:List (Addr×Obj)} {σ:St} {H:Hp} {s:Shared} {a C dx:Addr} {fs:List (Str×V)} {f:Str} {v:V} {A:Around} {E:Value→Shared→Prop}
end
section
variable {X:Cx} {o e value:Expr} {f:Str} {pos pos' tpos:Pos} {ta tv:TE}
end
section
variable {X:Cx} {pins:List (Addr×Obj)} {σ:St} {H:Hp} {s:Shared} {A:Around} {E:Value→Shared→Prop} {Q:Value→Shared→Prop} {c:Value} {b:Bool}
inductive TyOf (K:PySem.W.Frag) (H:Hp):V→Value→Prop where
  | non:TyOf K H .non (.type "NoneType")
  | bl (x:Bool):TyOf K H (.bl x) (.type "bool")
  | int (i:Int):TyOf K H (.int i) (.type "int")
  | str (x:Str):TyOf K H (.str x) (.type "str")
  | flt (x:UInt64):TyOf K H (.flt x) (.type "float")
  | lst {a:Addr} {xs:List V} (e:H a=some (.lst xs)):TyOf K H (.ref a) (.type "list")
  | frz {a:Addr} {o:Obj} {xs:List V} (e:H a=some (.frz o (.lst xs))):TyOf K H (.ref a) (.type "list")
  | tup {a:Addr} {xs:List V} (e:H a=some (.tup xs)):TyOf K H (.ref a) (.type "tuple")
  | dK {a:Addr} {kvs:List (Key×V)} (e:H a=some (.dK kvs)):TyOf K H (.ref a) (.type "dict")
  | dT {a:Addr} {kvs:List (List Key×V)} (e:H a=some (.dT kvs)):TyOf K H (.ref a) (.type "dict")
  | ins {a C dx:Addr} {fs:List (Str×V)} (e:H a=some (.ins C dx fs)) (cl:Cls K C) (ha:PySem.W.findIn K (.ref C) "__class__" = some (some (.builtin "object.__class__")))
      (hn:PySem.W.specialIn K (.builtin "object.__class__") "__get__" = some (some (.builtin "getset_descriptor.__get__"))) (htk:PySem.W.takesIn K (.builtin "object.__class__")=some true)
      (hm:PySem.W.mroIn K C (.type "object")=some true):TyOf K H (.ref a) (.ref C)
theorem isinst_ok {x:V} {u t:Value} (I:Inv X pins σ H s) (rx:RelV x u) (ty:TyOf X.K H x t) (e:PySem.W.kitOne X.K t c=some b) (h:∀ tk,Q (.bool b) { s with toks:=tk }) :
    wpAny (model X.prog X.w) A (call (.builtin "isinstance") [u,c]) Q E s:=by
  cases ty with
  | non=>cases (show u=Value.none from rx); exact PySem.W.kia_one PySem.W.kitx_none I.kIn True.intro e (fun z=>nomatch z) h
  | bl y=>cases (show u=Value.bool y from rx); exact PySem.W.kia_one PySem.W.kitx_bool I.kIn True.intro e (fun z=>nomatch z) h
  | int i=>obtain ⟨t,q⟩:=(show ∃ t,u=Value.int i t from rx); cases q; exact PySem.W.kia_one PySem.W.kitx_int I.kIn True.intro e (fun z=>nomatch z) h
  | str y=>obtain ⟨t,q⟩:=(show ∃ t,u=Value.str y t from rx); cases q; exact PySem.W.kia_one PySem.W.kitx_str I.kIn True.intro e (fun z=>nomatch z) h
  | flt y=>obtain ⟨t,q⟩:=(show ∃ t,u=Value.float y t from rx); cases q; exact PySem.W.kia_one PySem.W.kitx_float I.kIn True.intro e (fun z=>nomatch z) h
  | @lst a xs ea =>
    cases (show u=Value.ref a from rx)
    obtain ⟨_,_,n,_,h1⟩:=(show ObjOk X.prog X.w H s.heap a (.lst xs) from I.hok a _ ea)
    exact PySem.W.kia_one PySem.W.kitx_list I.kIn ⟨_,h1,rfl⟩ e (fun z=>nomatch z) h
  | @frz a ob xs ea =>
    cases (show u=Value.ref a from rx)
    obtain ⟨_,_,_,n,_,h1⟩:=(show ObjOk X.prog X.w H s.heap a (.frz ob (.lst xs)) from I.hok a _ ea)
    exact PySem.W.kia_one PySem.W.kitx_list I.kIn ⟨_,h1,rfl⟩ e (fun z=>nomatch z) h
  | @tup a xs ea =>
    cases (show u=Value.ref a from rx)
    obtain ⟨_,_,_,p⟩:=(show ObjOk X.prog X.w H s.heap a (.tup xs) from I.hok a _ ea)
    obtain ⟨o,h1,h2,_⟩:=p
    exact PySem.W.kia_one PySem.W.kitx_tuple I.kIn ⟨o,h1,h2⟩ e (fun z=>nomatch z) h
  | @dK a kvs ea =>
    cases (show u=Value.ref a from rx)
    obtain ⟨_,_,vs,_,p⟩:=(show ObjOk X.prog X.w H s.heap a (.dK kvs) from I.hok a _ ea)
    obtain ⟨o,es,ep,h1,h2,_⟩:=p
    exact PySem.W.kia_one PySem.W.kitx_dict I.kIn ⟨o,h1,h2.1⟩ e (fun z=>nomatch z) h
  | @dT a kvs ea =>
    cases (show u=Value.ref a from rx)
    obtain ⟨_,_,xs,_,o,es,ep,h1,h2,_⟩:=(show ObjOk X.prog X.w H s.heap a (.dT kvs) from I.hok a _ ea)
    exact PySem.W.kia_one PySem.W.kitx_dict I.kIn ⟨o,h1,h2.1⟩ e (fun z=>nomatch z) h
  | @ins a C dx fs ea cl ha hn htk hm =>
    cases (show u=Value.ref a from rx)
    obtain ⟨mA,O,_⟩:=ins_get I.hok ea
    obtain ⟨od,J,_⟩:=O.look
    exact PySem.W.kia_one (PySem.W.kitx_own (cl.get _) cl.hd ha hn htk hm) I.kIn J e (fun z=>nomatch z) h
end
end L2
namespace L2
open PySem PySem.Spec PyProof.Rows
structure Room (k:Nat) (A:Around):Prop where
  hd:A.handled=none
  dp:A.depth+3*k+5<recursionLimit
  un:A.units+16*k+200<cLine
theorem Room.mono {j k:Nat} {A:Around} (r:Room k A) (h:j≤k):Room j A:=⟨r.hd,by have:=r.dp; omega,by have:=r.un; omega⟩
theorem Room.deeper {k:Nat} {A:Around} (r:Room (k+1) A) (env:Env):Room k (A.deeper env) :=
  ⟨r.hd,by have:=r.dp; show A.depth+1+3*k+5 < _; omega,by have:=r.un; show A.units+3+16*k+200 < _; omega⟩
theorem Room.depth {k:Nat} {A:Around} (r:Room k A):A.depth<recursionLimit:=by have:=r.dp; omega
theorem Room.units {k:Nat} {A:Around} (r:Room k A):A.units+64<cLine:=by have:=r.un; omega
def tNil:TA:=fun _ H Q=>Q [] H
def tCons (ta:TE) (tr:TA):TA:=fun σ H Q=>ta σ H fun x H1=>tr σ H1 fun xs H2=>Q (x::xs) H2
section
variable {X:Cx} {e:Expr} {es:List Expr} {te:TE} {t:TA} {pos:Pos}
theorem pa_nil:PA X [] tNil:=fun _ _ _ _ H Q I h=>Calls.spliced_nil ⟨[],H,I,.nil,h⟩
theorem pa_cons (ha:PE X e te) (hr:PA X es t) (hs:starEach (e::es) X.env=(false,eval e X.env)::starEach es X.env:=by rfl):PA X (e::es) (tCons te t):=by
  intro pos pins s σ H Q I h
  rw [hs]
  show wpAny _ _ (spliced ((false,eval e X.env)::backTo pos (starEach es X.env))) _ _ s
  refine Calls.spliced_cons (thn (ha pins s σ H _ I h) fun u s1 ⟨x,H1,I1,r1,q1⟩=>?_)
  exact thn (hr pos pins s1 σ H1 _ I1 q1) fun us s2 ⟨xs,H2,I2,r2,q2⟩=>⟨x::xs,H2,I2,.cons r1 r2,q2⟩
def tTup (t:TA):TE:=fun σ H Q=>t σ H fun xs H1=>xs.length≤sizeLine∧∀ p,H1 p=none→Q (.ref p) (upd H1 p (.tup xs))
def tLst (t:TA):TE:=fun σ H Q=>t σ H fun xs H1=>xs.length≤sizeLine∧∀ p,H1 p=none→Q (.ref p) (upd H1 p (.lst xs))
theorem pe_tup {x1} (h:PA X es t):PE X (.Tuple es x1 pos) (tTup t):=by
  intro pins s σ H Q I hq
  refine wpAny_Tuple_spliced (thn (h pos pins s σ H _ I hq) fun us s1 ⟨xs,H1,I1,r,z,q⟩=>⟨by rw [← r.length]; exact z,?_⟩)
  have hf:H1 s1.heap.objs.size=none:=I1.hok.fresh (Nat.le_refl _)
  refine ⟨.ref s1.heap.objs.size,upd H1 s1.heap.objs.size (.tup xs),I1.laid (t':=s1.toks) (fun b u e=>Heap.get?_push_of_some _ e) (Nat.le_refl _) ?_,rfl,q _ hf⟩
  exact ⟨z,us,r,⟨_,Heap.get?_push_size _ rfl,rfl,_,rfl⟩⟩
theorem pe_lst (h:PA X es t):PE X (.List es pos) (tLst t):=by
  intro pins s σ H Q I hq
  refine wpAny_List_spliced (thn (h pos pins s σ H _ I hq) fun us s1 ⟨xs,H1,I1,r,z,q⟩=>⟨by rw [← r.length]; exact z,?_⟩)
  have hf:H1 s1.heap.objs.size=none:=I1.hok.fresh (Nat.le_refl _)
  refine ⟨.ref s1.heap.objs.size,upd H1 s1.heap.objs.size (.lst xs),I1.laid (t':=s1.toks) (fun b u e=>Heap.get?_push_of_some _ e) (Nat.le_refl _) ?_,rfl,q _ hf⟩
  exact ⟨z,us,0,r,Heap.get?_push_size _ rfl⟩
end
abbrev Sp:=List V→Hp→VK→XK→Prop
abbrev CXT:=List Env→Hp→Shared→XK→Value→Shared→Prop
structure Env0 (P:Program) (w:World) (K:PySem.W.Frag) (mg:Str→Option Value) (base:Heap) (A:Around) (outer:List Env) (s:Shared) (H:Hp):Prop where
  frames:A.frames=some outer
  mod:Mod K mg base
  bs:∀ b o,base.get? b=some o→s.heap.get? b=some o∧H b=none
  bsz:base.objs.size≤s.heap.objs.size
  funs:s.heap.FunFrames base outer
  frf:∀ b∈frs outer,H b=none
  hok:HOk P w H s.heap
  bare:AllBare s.gens
def CE (outer:List Env) (P:Program) (w:World) (H:Hp) (s:Shared) (Q:VK) (u:Value) (s':Shared):Prop :=
  ∃ v H',s'.os=s.os∧AllBare s'.gens∧Un (frs outer) [] H H' s.heap s'.heap∧HOk P w H' s'.heap∧RelV v u∧Q v H'
def CR (CX:CXT) (outer:List Env) (P:Program) (w:World) (H:Hp) (s:Shared) (Q:VK) (E:XK) (r:Result) (s':Shared):Prop :=
  match r with
  | .ok (.ret u)=>CE outer P w H s Q u s'
  | .ok _=>False
  | .error e=>CX outer H s E e s'
structure FnOk (P:Program) (w:World) (K:PySem.W.Frag) (mg:Str→Option Value) (base:Heap) (CX:CXT) (k:Nat) (f:Addr) (fd:FuncData) (ps:List Str) (sp:Sp):Prop where
  len:∀ vs H Q E,sp vs H Q E→vs.length=ps.length
  run:∀ (A:Around) (outer:List Env) (s:Shared) (H:Hp) (args:Args) (us:List Value) (vs:List V) (Q:VK) (E:XK),Room k A→Env0 P w K mg base A outer s H→BindsTo s fd args (ps.zip us)→Vals vs us→sp vs H Q E →
    codeAny (model P w) A (.call (.ref f) args) (CR CX outer P w H s Q E) s
theorem FnOk.imp {P:Program} {w:World} {K:PySem.W.Frag} {mg:Str→Option Value} {base:Heap} {CX:CXT} {k:Nat} {f:Addr} {fd:FuncData} {ps:List Str} {sp sp':Sp} (F:FnOk P w K mg base CX k f fd ps sp)
    (h:∀ vs H Q E,sp' vs H Q E→sp vs H Q E):FnOk P w K mg base CX k f fd ps sp' :=
  ⟨fun vs H Q E q=>F.len vs H Q E (h _ _ _ _ q),fun A outer s H args us vs Q E hr he hb hv hs=>F.run A outer s H args us vs Q E hr he hb hv (h _ _ _ _ hs)⟩
section
variable {X:Cx} {pins:List (Addr×Obj)} {σ:St} {H:Hp} {s s':Shared}
theorem Inv.env0 (I:Inv X pins σ H s):Env0 X.prog X.w X.K X.mg X.base X.A X.stack s H :=
  ⟨I.ok.frames,I.ok.mod,I.bs,Nat.le_trans I.ok.bsz I.sz,I.stack,I.stkFree,I.hok,I.bare⟩
theorem Inv.after {Q:VK} {u:Value} (I:Inv X pins σ H s) (h:CE X.stack X.prog X.w H s Q u s'):EP X pins σ Q u s':=by
  obtain ⟨v,H',os,bare,un,hok,r,q⟩:=h
  obtain ⟨hh,g,d,t,os'⟩:=s'
  obtain rfl:os'=s.os:=os
  exact ⟨v,H',I.call (h':=hh) (g':=g) (d':=d) (t':=t) (ch:=[]) un hok bare (fun b z=>absurd z (by simp)),r,q⟩
end
def tCall (sp:Sp) (dvs:List V) (E:XK) (t:TA):TE:=fun σ H Q=>t σ H fun vs H1=>sp (vs++dvs) H1 Q E
def Binds (K:PySem.W.Frag) (fd:FuncData) (ps:List Str) (ds:List Value):Prop :=
  ∀ (s:Shared) (us:List Value),K.In s.heap→(us++ds).length=ps.length→BindsTo s fd ⟨us,[]⟩ (ps.zip (us++ds))
theorem Binds.all {K:PySem.W.Frag} {fd:FuncData} {ps:List Str} (h:∀ us:List Value,us.length=ps.length→bindArgs fd ⟨us,[]⟩=pure (ps.zip us)):Binds K fd ps []:=fun s us _ hl=>by
  rw [List.append_nil] at hl ⊢
  exact .of_eq (h us hl)
def Passes (CX:CXT) (X:Cx) (E:XK):Prop:=∀ (pins:List (Addr×Obj)) (σ:St) (H:Hp) (s:Shared) (e:Value) (s':Shared),Inv X pins σ H s→CX X.stack H s E e s'→X.xe e s'
section
variable {X:Cx} {CX:CXT} {k:Nat} {f C:Addr} {fd:FuncData} {ps:List Str} {sp:Sp} {dvs:List V} {ds:List Value} {E:XK} {x m:Str} {p pos apos:Pos} {e o:Expr} {es:List Expr} {ta:TE} {t:TA}
theorem run_fn {pins:List (Addr×Obj)} {σ:St} {H:Hp} {s:Shared} {Q:VK} {us:List Value} {vs:List V} (F:FnOk X.prog X.w X.K X.mg X.base CX k f fd ps sp) (hr:Room k X.A) (hb:Binds X.K fd ps ds) (hd:Vals dvs ds) (hx:Passes CX X E)
    (I:Inv X pins σ H s) (r:Vals vs us) (h:sp (vs++dvs) H Q E):wpAny (model X.prog X.w) X.A (call (.ref f) us) (EP X pins σ Q) X.xe s:=by
  have r2:Vals (vs++dvs) (us++ds):=r.append hd
  have hl:(us++ds).length=ps.length:=by rw [← r2.length]; exact F.len _ _ _ _ h
  refine wpAny_call (codeAny_mono (F.run X.A X.stack s H ⟨us,[]⟩ (us++ds) (vs++dvs) Q E hr I.env0 (hb s us I.kIn hl) r2 h) fun r s' hq=>?_)
  cases r with
  | error e=>exact hx pins σ H s e s' I hq
  | ok fl =>
    cases fl with
    | ret u=>exact I.after hq
    | next=>exact False.elim hq
    | brk=>exact False.elim hq
    | cont=>exact False.elim hq
theorem pe_call (F:FnOk X.prog X.w X.K X.mg X.base CX k f fd ps sp) (hr:Room k X.A) (hg:Gl X x) (hm:X.mg x=some (.ref f)) (hk:PySem.W.keepIn X.K (.ref f)=true) (hb:Binds X.K fd ps ds) (hd:Vals dvs ds) (hx:Passes CX X E)
    (ha:PA X (e::es) t) (hdb:(x==("__debug__" : Str))=false:=by decide) (he:starEach (e::es) X.env=(false,eval e X.env)::starEach es X.env:=by rfl) (hpl:(backTo pos (starEach es X.env)).any (·.1)=false:=by rfl) :
    PE X (.Call (.Name x p) (e::es) [] pos) (tCall sp dvs E t):=by
  intro pins s σ H Q I h
  refine wpAny_Call_Name_kw (ld_glob I hg hm ?_ hdb)
  refine PySem.W.callWith_K (h₀:=X.base) I.ok.mod.kin hk (thn (ha pos pins s σ H _ I h) fun us s1 ⟨vs,H1,I1,r,q⟩=>⟨I1.kIn,?_⟩) he hpl
  exact run_fn F hr hb hd hx I1 r q
structure Mk (K:PySem.W.Frag) (C f:Addr):Prop where
  makes:PySem.W.makesIn K C=true
  init:PySem.W.findIn K (.ref C) "__init__" = some (some (.ref f))
  fn:PySem.W.isFn K (.ref f)=true
  kp:PySem.W.keepIn K (.ref C)=true
end
section
variable {X:Cx} {CX:CXT} {k:Nat} {f C:Addr} {fd:FuncData} {ps ks:List Str} {sp:Sp} {E:XK} {x m:Str} {p pos apos kpos:Pos} {e o:Expr} {es:List Expr} {kws:List Keyword} {te ta:TE} {t tk:TA} {nm:Option Str}
structure KBinds (K:PySem.W.Frag) (fd:FuncData) (ps ks:List Str) (g:List Value→List Value→List Value) (gV:List V→List V→List V):Prop where
  to:∀ (s:Shared) (us ws:List Value),K.In s.heap→(g us ws).length=ps.length→BindsTo s fd ⟨us,ks.zip ws⟩ (ps.zip (g us ws))
  rel:∀ {vs:List V} {us:List Value} {zs:List V} {ws:List Value},Vals vs us→Vals zs ws→Vals (gV vs zs) (g us ws)
variable {g:List Value→List Value→List Value} {gV:List V→List V→List V}
end
structure FnScope (N P:List Str) (sc:Scope):Prop where
  kind:sc.kind=.function
  co:sc.isCoroutine=false
  gen:sc.isGenerator=false
  nd:N.Nodup
  pre:N.take P.length=P
  par:∀ x∈P,sc.names.lookup x=some .local∨sc.names.lookup x=some .cell
  nofree:∀ y∈sc.names,y.2≠.free
theorem bindL_out {kindOf:Str→Option NameKind} {x:Str}:∀ {binds:List (Str×Value)} {m:Str→Option Value},(∀ v,(x,v)∉binds)→bindL kindOf binds m x=m x
  | [],_,_=>rfl
  | (n,v)::r,m,h=>by
    unfold bindL
    rw [bindL_out fun w hw=>h w (List.mem_cons_of_mem _ hw)]
    split
    · have:x≠n:=by rintro rfl; exact h v List.mem_cons_self
      simp [this]
    · rfl
theorem bindC_out {kindOf:Str→Option NameKind} {x:Str}:∀ {binds:List (Str×Value)} {m:Str→Option Value},(∀ v,(x,v)∉binds)→bindC kindOf binds m x=m x
  | [],_,_=>rfl
  | (n,v)::r,m,h=>by
    unfold bindC
    rw [bindC_out fun w hw=>h w (List.mem_cons_of_mem _ hw)]
    split
    · rfl
    · have:x≠n:=by rintro rfl; exact h v List.mem_cons_self
      simp [this]
theorem bindL_get {kindOf:Str→Option NameKind} {x:Str} {v:Value}:∀ {P:List Str} {vs:List Value} {i:Nat} {m:Str→Option Value},P.Nodup→P[i]?=some x→vs[i]?=some v→kindOf x=some .local →
    bindL kindOf (P.zip vs) m x=some v
  | [],_,_,_,_,h,_,_=>by simp at h
  | _::_,[],_,_,_,_,h,_=>by simp at h
  | p::P,w::vs,0,m,nd,h1,h2,hk=>by
    simp at h1 h2; subst h1; subst h2
    show bindL kindOf ((p,w)::P.zip vs) m p=_
    unfold bindL
    rw [bindL_out fun v hv=>(List.nodup_cons.mp nd).1 (List.of_mem_zip hv).1,if_pos hk]
    simp
  | p::P,w::vs,i+1,m,nd,h1,h2,hk=>by
    show bindL kindOf ((p,w)::P.zip vs) m x=_
    unfold bindL
    exact bindL_get (i:=i) (List.nodup_cons.mp nd).2 (by simpa using h1) (by simpa using h2) hk
theorem bindC_get {kindOf:Str→Option NameKind} {x:Str} {v:Value}:∀ {P:List Str} {vs:List Value} {i:Nat} {m:Str→Option Value},P.Nodup→P[i]?=some x→vs[i]?=some v→kindOf x≠some .local →
    bindC kindOf (P.zip vs) m x=some v
  | [],_,_,_,_,h,_,_=>by simp at h
  | _::_,[],_,_,_,_,h,_=>by simp at h
  | p::P,w::vs,0,m,nd,h1,h2,hk=>by
    simp at h1 h2; subst h1; subst h2
    show bindC kindOf ((p,w)::P.zip vs) m p=_
    unfold bindC
    rw [bindC_out fun v hv=>(List.nodup_cons.mp nd).1 (List.of_mem_zip hv).1,if_neg hk]
    simp
  | p::P,w::vs,i+1,m,nd,h1,h2,hk=>by
    show bindC kindOf ((p,w)::P.zip vs) m x=_
    unfold bindC
    exact bindC_get (i:=i) (List.nodup_cons.mp nd).2 (by simpa using h1) (by simpa using h2) hk
def start (N:List Str) (vs:List V):St:=vs.map some++List.replicate (N.length-vs.length) none
def cxOf (CX:CXT) (P:Program) (w:World) (K:PySem.W.Frag) (mg:Str→Option Value) (base:Heap) (N:List Str) (qual:Str) (scope:Scope) (f:Addr) (cd:Value) (A:Around) (outer:List Env) (s:Shared) (H:Hp) (E:XK):Cx where
  prog:=P
  w:=w
  K:=K
  mg:=mg
  base:=base
  A:=A.deeper (envOfC qual scope s.heap.objs.size f cd)
  N:=N
  s₀:=s
  H₀:=H
  env:=envOfC qual scope s.heap.objs.size f cd
  outer:=outer
  stack:=envOfC qual scope s.heap.objs.size f cd::outer
  ex:=[]
  calm:=true
  fn:=fun _=>true
  pn:=[]
  xe:=fun e s'=>wpAny (model P w) (A.deeper (envOfC qual scope s.heap.objs.size f cd)) (leaving (envOfC qual scope s.heap.objs.size f cd) e) (fun _ s''=>CX outer H s E e s'') (fun e' s''=>CX outer H s E e' s'') s'
theorem cell_has {sc:Scope} {n:Nat} {x:Str} (h:sc.names.lookup x=some .cell):∃ c,(cellsFrom n sc.names []).lookup x=some c:=by
  have q:=PySem.W.cellsFrom_some sc.names n [] (.inl h)
  exact Option.isSome_iff_exists.mp q
theorem inv_start {CX:CXT} {P:Program} {w:World} {K:PySem.W.Frag} {mg:Str→Option Value} {base:Heap} {N ps:List Str} {qual:Str} {scope:Scope} {f:Addr} {cd:Value} {A:Around} {outer:List Env} {s s1:Shared} {H:Hp} {E:XK} {us:List Value} {vs:List V}
    (S:FnScope N ps scope) (hd:A.handled=none) (e0:Env0 P w K mg base A outer s H) (hl:vs.length=ps.length) (r:Vals vs us)
    (x:InCallC s s.heap.objs.size (bindL (envOfC qual scope s.heap.objs.size f cd).kindOf (ps.zip us) fun _=>none) (cellsFrom (s.heap.objs.size+1) scope.names []) (bindC (envOfC qual scope s.heap.objs.size f cd).kindOf (ps.zip us) fun _=>none) s1) :
    Inv (cxOf CX P w K mg base N qual scope f cd A outer s H E) [] (start N vs) H s1:=by
  have hpl:ps.length≤N.length:=by have:=congrArg List.length S.pre; rw [List.length_take] at this; omega
  obtain ⟨h1,tk,rfl,hk⟩:=x.done
  have noA:∀ b:Addr,b∉(cxOf CX P w K mg base N qual scope f cd A outer s H E).ex:=fun b z=>absurd (show b∈([]:List Addr) from z) (by simp)
  refine ⟨⟨e0.mod,S.kind,rfl,rfl,Nat.le_refl _,fun y z c h1 h2=>?_,fun y hy=>?_,fun y c _ h=>?_,fun _=>hd,Around.frames_deeper e0.frames,.inr ⟨rfl,rfl⟩,fun b z=>absurd z (noA b),e0.bs,e0.bsz,fun b _ _=>noA b,fun b z=>absurd z (noA b),e0.funs,e0.frf⟩,
    rfl,e0.bare,Un.kept hk,⟨_,x.toInCall.ns,fun i y v h1 h2 h3=>?_⟩,fun y c h=>⟨_,x.cell y c h⟩,e0.hok.fresh (Nat.le_refl _),fun y c h=>?_,fun p hp=>absurd (show p∈([]:List (Addr×Obj)) from hp) (by simp),e0.hok.kept hk,?_⟩
  · exact name_of_addr x.apart (PySem.mem_of_lookup h1) (PySem.mem_of_lookup h2)
  · have hy:scope.names.lookup y=some .cell∨scope.names.lookup y=some .free:=hy
    rcases hy with hy | hy
    · exact cell_has hy
    · exact absurd rfl (S.nofree _ (PySem.mem_of_lookup hy))
  · exact Nat.le_of_lt (x.above y c (PySem.mem_of_lookup h))
  · have hi:i<vs.length:=by
      unfold start at h2
      by_cases hi:i<vs.length
      · exact hi
      · rw [List.getElem?_append_right (by simpa using hi)] at h2
        rw [List.getElem?_replicate] at h2
        split at h2 <;> cases h2
    have ha:vs[i]?=some v:=by
      unfold start at h2
      rw [List.getElem?_append_left (by simpa using hi),List.getElem?_map] at h2
      cases e:vs[i]? with
      | none=>rw [e] at h2; cases h2
      | some a=>rw [e] at h2; cases h2; rfl
    obtain ⟨u,hu,rv⟩:=r.get ha
    have hp:ps[i]?=some y:=by
      rw [← S.pre,List.getElem?_take_of_lt (by omega)]; exact h1
    have ndP:ps.Nodup:=by rw [← S.pre]; exact S.nd.sublist (List.take_sublist _ _)
    refine ⟨u,rv,?_⟩
    rcases S.par y (List.mem_of_getElem? hp) with k | k
    · exact .inl ⟨k,bindL_get ndP hp hu k⟩
    · obtain ⟨c,e⟩:=cell_has (n:=s.heap.objs.size+1) k
      refine .inr ⟨.inl k,c,e,?_⟩
      have q:=x.cell y c e
      rw [bindC_get ndP hp hu (by show scope.names.lookup y≠_; rw [k]; decide)] at q
      exact q
  · exact e0.hok.fresh (Nat.le_of_lt (x.above y c (PySem.mem_of_lookup h)))
  · unfold start
    show _=N.length
    rw [List.length_append,List.length_map,List.length_replicate]
    omega
theorem fn_of {CX:CXT} {P:Program} {w:World} {K:PySem.W.Frag} {mg:Str→Option Value} {base:Heap} {k:Nat} {f:Addr} {name qual:Str} {params:Arguments} {body:List Stmt} {scope:Scope} {dV kV doc pm cdv ct oc:Value} {an od:Option Addr}
    {osl:Array (Option Value)} {N ps:List Str} {sp:Sp} (lk:K.lookup f=some ⟨oc,od,.func (PySem.W.fnOf name qual params body scope dV kV doc pm an cdv ct),osl⟩) (hcd:PySem.W.codeIn K cdv qual=true) (S:FnScope N ps scope)
    (len:∀ vs H Q E,sp vs H Q E→vs.length=ps.length)
    (hbody:∀ (A:Around) (outer:List Env) (s:Shared) (H:Hp) (vs:List V) (Q:VK) (E:XK),Room k (A.deeper (envOfC qual scope s.heap.objs.size f cdv))→sp vs H Q E →
      ∃ t,PSs (cxOf CX P w K mg base N qual scope f cdv A outer s H E) body t∧t { nx:=fun _ H'=>Q .non H',rt:=Q } (start N vs) H) :
    FnOk P w K mg base CX (k+1) f (PySem.W.fnOf name qual params body scope dV kV doc pm an cdv ct) ps sp:=by
  refine ⟨len,fun A outer s H args us vs Q E hr e0 hb r hsp=>?_⟩
  have hl:=len _ _ _ _ hsp
  have KX:K.In s.heap:=e0.mod.kin.keeps fun b o e=>(e0.bs b o e).1
  have lim:s.heap.NoLimit:=e0.mod.nolimit.keeps fun b o e=>(e0.bs b o e).1
  have hkind:∀ y∈ps.zip us,scope.names.lookup y.1=some .local∨(scope.names.lookup y.1=some .cell∧((cellsFrom (s.heap.objs.size+1) scope.names []).lookup y.1).isSome=true):=fun ⟨n,v⟩ hy=>by
    rcases S.par n (List.of_mem_zip hy).1 with q | q
    · exact .inl q
    · exact .inr ⟨q,PySem.W.cellsFrom_some _ _ _ (.inl q)⟩
  refine codeAny_call_function hr.depth (KX _ _ lk) rfl S.co S.gen rfl (PySem.W.codeRec_of KX hcd) (hb _ _ _ _ ?_)
  refine wpAny_newFunctionEnv_cells S.kind hkind fun env he s1 x=>?_
  subst he
  refine ⟨lim.keeps x.toInCall.keep,codeAny_func ?_⟩
  obtain ⟨t,ht,hq⟩:=hbody A outer s H vs Q E (hr.deeper _) hsp
  have I:Inv (cxOf CX P w K mg base N qual scope f cdv A outer s H E) [] (start N vs) H s1:=inv_start S hr.hd e0 hl r x
  refine wpAny_mono (ht [] s1 (start N vs) H _ I hq) (fun fl s' hs=>?_) fun e s' hs=>hs
  have fin:∀ {σ':St} {H':Hp} {v:V} {u:Value},Inv (cxOf CX P w K mg base N qual scope f cdv A outer s H E) [] σ' H' s'→RelV v u→Q v H'→CE outer P w H s Q u s' :=
    fun {σ' H' v u} J rv q=>⟨v,H',J.os,J.bare,J.base,J.hok,rv,q⟩
  cases fl with
  | ret u =>
    obtain ⟨v,σ',H',J,rv,q⟩:=hs
    exact fin J rv q
  | next =>
    obtain ⟨σ',H',J,q⟩:=hs
    exact fin (v:=V.non) (u:=Value.none) J rfl q
  | brk =>
    obtain ⟨_,_,_,q⟩:=hs
    exact False.elim q
  | cont =>
    obtain ⟨_,_,_,q⟩:=hs
    exact False.elim q
end L2
namespace L2
open PySem PySem.Spec PyProof.Rows
section
variable {X:Cx} {x:Str} {p pos:Pos} {e:Expr} {es:List Expr} {t:TA} {id T:String} {r:List V→Hp→VK→Prop}
def tCB (r:List V→Hp→VK→Prop) (t:TA):TE:=fun σ H Q=>t σ H fun vs H1=>r vs H1 Q
theorem pe_callB (hc:CallR X (.builtin id) r) (hg:Gl X x) (hm:X.mg x=none) (hv:bootBuiltins x=some (.builtin id)) (ha:PA X (e::es) t) (hn:x ≠ "__name__" := by decide) (hdb:(x==("__debug__" : Str))=false:=by decide)
    (he:starEach (e::es) X.env=(false,eval e X.env)::starEach es X.env:=by rfl) (hpl:(backTo pos (starEach es X.env)).any (·.1)=false:=by rfl):PE X (.Call (.Name x p) (e::es) [] pos) (tCB r t):=by
  intro pins s σ H Q I h
  refine wpAny_Call_Name_kw (ld_blt I hg hm hv ?_ hn hdb)
  exact PyProof.Rows.callWith_builtin1 (thn (ha pos pins s σ H _ I h) fun us s1 ⟨vs,H1,I1,r1,q1⟩=>hc pins s1 σ H1 vs us Q I1 r1 q1) he hpl
theorem pe_callTy (hc:CallR X (.type T) r) (hg:Gl X x) (hm:X.mg x=none) (hv:bootBuiltins x=some (.type T)) (ha:PA X (e::es) t) (hn:x ≠ "__name__" := by decide) (hdb:(x==("__debug__" : Str))=false:=by decide)
    (he:starEach (e::es) X.env=(false,eval e X.env)::starEach es X.env:=by rfl) (hpl:(backTo pos (starEach es X.env)).any (·.1)=false:=by rfl):PE X (.Call (.Name x p) (e::es) [] pos) (tCB r t):=by
  intro pins s σ H Q I h
  refine wpAny_Call_Name_kw (ld_blt I hg hm hv ?_ hn hdb)
  exact PyProof.Rows.callWith_type1 (thn (ha pos pins s σ H _ I h) fun us s1 ⟨vs,H1,I1,r1,q1⟩=>hc pins s1 σ H1 vs us Q I1 r1 q1) he hpl
end
end L2
namespace HT
open PySem PyProof.Rows
def lexLt:List Int→List Int→Bool
  | [],[]=>false
  | [],_::_=>true
  | _::_,[]=>false
  | x::xs,y::ys=>if x=y then lexLt xs ys else decide (x<y)
section
open PySem.SeqAt
open PySem.AutoSeq1 (wpAny_loadPart')
open PySem.MeetsSeq PySem.MeetsSeq2 PySem.MeetsSeq3
end
section
variable {prog:Program} {w:World} {A:Around} {E:Value→Shared→Prop} {s:Shared}
def sIx (n d:Nat):Option Int→Nat
  | none=>d
  | some v=>if v<0 then (v+(n:Int)).toNat else min v.toNat n
theorem sIx_nat (n d k:Nat):sIx n d (some (k:Int))=min k n:=by
  show (if (k:Int)<0 then ((k:Int)+(n:Int)).toNat else min (k:Int).toNat n)=min k n
  rw [if_neg (by omega),Int.toNat_natCast]
end
end HT
namespace L2
open PySem PySem.Spec PyProof.Rows
abbrev TO:=St→Hp→(Option Int→Hp→Prop)→Prop
def PO (X:Cx) (e:Option Expr) (t:TO):Prop :=
  ∀ (pins:List (Addr×Obj)) (s:Shared) (σ:St) (H:Hp) (Q:Option Int→Hp→Prop),Inv X pins σ H s→t σ H Q →
    wpAny (model X.prog X.w) X.A (evalPart e X.env) (fun u s'=>∃ o H',Inv X pins σ H' s'∧IsPart u o∧Q o H') X.xe s
def tNoPart:TO:=fun _ H Q=>Q none H
def tPart (t:TE):TO:=fun σ H Q=>t σ H fun x H1=>∃ i,x=.int i∧Q (some i) H1
theorem intsAre_of {ns:List Int}:∀ {us:List Value},Vals (ns.map V.int) us→IntsAre us ns:=by
  induction ns with
  | nil=>intro us r; rw [List.map_nil] at r; cases r; exact .nil
  | cons n ns ih =>
    intro us r
    rw [List.map_cons] at r
    cases r with
    | cons r1 r2 =>
      obtain ⟨t,e⟩:=r1
      subst e
      exact .cons n t (ih r2)
section
variable {X:Cx} {e:Expr} {te:TE} {lo hi:Option Expr} {tl th:TO} {pos p2:Pos}
theorem po_none:PO X none tNoPart:=by
  intro pins s σ H Q I h
  rw [evalPart_none]
  exact wpAny_pure ⟨none,H,I,.none,h⟩
theorem po_some (h:PE X e te):PO X (some e) (tPart te):=by
  intro pins s σ H Q I hw
  rw [evalPart_some]
  refine thn (h pins s σ H _ I hw) fun u s1 ⟨x,H1,I1,r1,q1⟩=>?_
  obtain ⟨i,rfl,q⟩:=q1
  obtain ⟨t,rfl⟩:=r1
  exact ⟨some i,H1,I1,.int i t,q⟩
def SlR (X:Cx) (r:V→Option Int→Option Int→Hp→VK→Prop):Prop :=
  ∀ (pins:List (Addr×Obj)) (s:Shared) (σ:St) (H:Hp) (x:V) (v vl vu:Value) (lo hi:Option Int) (sl:Addr) (Q:VK),Inv X pins σ H s→RelV x v→s.heap.IsSliceOf sl vl vu .none→IsPart vl lo→IsPart vu hi→r x lo hi H Q →
    ∃ T id,typeLookup (.type T) "__getitem__" = pure (some (.builtin id))∧s.TypeIs v T∧wpAny (model X.prog X.w) X.A (getItem v (.ref sl)) (EP X pins σ Q) X.xe s
def tSl (r:V→Option Int→Option Int→Hp→VK→Prop) (te:TE) (tl th:TO):TE:=fun σ H Q=>te σ H fun x H1=>tl σ H1 fun l H2=>th σ H2 fun u H3=>r x l u H3 Q
theorem pe_slice {r:V→Option Int→Option Int→Hp→VK→Prop} (hr:SlR X r) (he:PE X e te) (hl:PO X lo tl) (hu:PO X hi th):PE X (.Subscript e (.Slice lo hi none p2) pos) (tSl r te tl th):=by
  intro pins s σ H Q I h
  refine Subscript_ (thn (he pins s σ H _ I h) fun v s1 ⟨x,H1,I1,r1,q1⟩=>?_)
  refine wpAny_Slice (thn (hl pins s1 σ H1 _ I1 q1) fun vl s2 ⟨l,H2,I2,pl,q2⟩=>thn (hu pins s2 σ H2 _ I2 q2) fun vu s3 ⟨u,H3,I3,pu,q3⟩=>?_)
  rw [evalPart_none]
  refine wpAny_pure ?_
  have I4:Inv X pins σ H3 { s3 with heap:=s3.heap.push { cls:=.type "slice", data:=.fields #[vl,vu,.none] } }:=I3.kept (t':=s3.toks) fun b ob q=>Heap.get?_push_of_some _ q
  obtain ⟨T,id,hT,ht,hg⟩:=hr pins { s3 with heap:=s3.heap.push { cls:=.type "slice", data:=.fields #[vl,vu,.none] } } σ H3 x v vl vu l u s3.heap.objs.size Q I4 r1 (Heap.IsSliceOf.new ..) pl pu q3
  show wpAny (model X.prog X.w) X.A (subscriptTail e (.Slice lo hi none p2) v (.ref s3.heap.objs.size)) (EP X pins σ Q) X.xe { s3 with heap:=s3.heap.push { cls:=.type "slice", data:=.fields #[vl,vu,.none] } }
  exact tail_any (ops:=[.ref s3.heap.objs.size,v]) ht hT hg (by with_unfolding_all rfl)
def cutV (xs:List V) (lo hi:Option Int):List V:=(xs.drop (HT.sIx xs.length 0 lo)).take (HT.sIx xs.length xs.length hi-HT.sIx xs.length 0 lo)
theorem cutV_length (xs:List V) (lo hi:Option Int):(cutV xs lo hi).length≤xs.length:=by
  unfold cutV
  rw [List.length_take,List.length_drop]
  omega
end
end L2
namespace L2
open PySem PySem.Spec PyProof.Rows
def ixN (n:Nat) (i:Int):Option Nat:=if 0≤i then (if i<n then some i.toNat else none) else if -(n:Int)≤i then some (i+n).toNat else none
def atI {α:Type} (xs:List α) (i:Int):Option α:=(ixN xs.length i).bind fun j=>xs[j]?
theorem ixN_seq {n:Nat} {i:Int} {j:Nat} (h:ixN n i=some j):seqIndex? i n=some j∧j<n∧-(n:Int)≤i∧i<n:=by
  unfold ixN at h
  by_cases h0:0≤i
  · rw [if_pos h0] at h
    by_cases h1:i<n
    · rw [if_pos h1] at h
      have e:i.toNat=j:=Option.some.inj h
      exact ⟨by rw [seqIndex_of h0 h1,e],by omega,by omega,h1⟩
    · rw [if_neg h1] at h; cases h
  · rw [if_neg h0] at h
    by_cases h1:-(n:Int)≤i
    · rw [if_pos h1] at h
      have e:(i+n).toNat=j:=Option.some.inj h
      exact ⟨by rw [seqIndex_neg (by omega) h1,e],by omega,h1,by omega⟩
    · rw [if_neg h1] at h; cases h
theorem atI_get {α:Type} {xs:List α} {i:Int} {v:α} (h:atI xs i=some v):∃ j,seqIndex? i xs.length=some j∧xs[j]?=some v∧j<xs.length∧-(xs.length:Int)≤i∧i<xs.length:=by
  unfold atI at h
  cases e:ixN xs.length i with
  | none=>rw [e] at h; cases h
  | some j =>
    rw [e] at h
    obtain ⟨h1,h2,h3,h4⟩:=ixN_seq e
    exact ⟨j,h1,h,h2,h3,h4⟩
def PlainIx (b:Expr):Prop:=∀ o i,subscripted b false o i=operate [o,i] (getItem o i)
def IxR (X:Cx) (r:R2):Prop :=
  ∀ (value slice:Expr) (pins:List (Addr×Obj)) (s:Shared) (σ:St) (H:Hp) (x y:V) (v u:Value) (Q:VK),Inv X pins σ H s→RelV x v→RelV y u→r x y H Q →
    subscripted slice false v u=operate [v,u] (getItem v u)→wpAny (model X.prog X.w) X.A (subscriptTail value slice v u) (EP X pins σ Q) X.xe s
def MtR (X:Cx) (id:String) (r:V→List V→Hp→VK→Prop):Prop :=
  ∀ (pins:List (Addr×Obj)) (s:Shared) (σ:St) (H:Hp) (x:V) (xs:List V) (v:Value) (us:List Value) (Q:VK),Inv X pins σ H s→RelV x v→Vals xs us→r x xs H Q →
    wpAny (model X.prog X.w) X.A (call (.builtin id) (v::us)) (EP X pins σ Q) X.xe s
section
variable {X:Cx} {a b:Expr} {ta tb:TE} {pos:Pos}
theorem IxR.or {r r':R2} (h:IxR X r) (h':IxR X r'):IxR X (fun x y H Q=>r x y H Q∨r' x y H Q):=by
  intro value slice pins s σ H x y v u Q I rx ry q hs
  rcases q with q | q
  · exact h value slice pins s σ H x y v u Q I rx ry q hs
  · exact h' value slice pins s σ H x y v u Q I rx ry q hs
theorem pe_ix {r:R2} (hr:IxR X r) (ha:PE X a ta) (hb:PE X b tb) (hs:PlainIx b):PE X (.Subscript a b pos) (tOp r ta tb):=by
  intro pins s σ H Q I h
  exact Subscript_ (binT ha hb I h fun v u s2 x y H2 I2 rx ry q=>hr a b pins s2 σ H2 x y v u Q I2 rx ry q (hs _ _))
def rIxL (K:PySem.W.Frag):R2:=fun x y H Q=>∃ p xs i v,x=.ref p∧y=.int i∧SqL K H p xs∧atI xs i=some v∧Q v H
def rIxT (K:PySem.W.Frag):R2:=fun x y H Q=>∃ p xs i v,x=.ref p∧y=.int i∧SqT K H p xs∧atI xs i=some v∧Q v H
def rIxS:R2:=fun x y H Q=>∃ z i c,x=.str z∧y=.int i∧z.length≤sizeLine∧atI z.cps.toList i=some c∧Q (.str ⟨#[c]⟩) H
theorem ix_list:IxR X (rIxL X.K):=by
  intro value slice pins s σ H x y v u Q I rx ry h hs
  obtain ⟨p,xs,i,z,rfl,rfl,hq,he,q⟩:=h
  cases rx
  obtain ⟨t,rfl⟩:=ry
  obtain ⟨its,r,pl,hz⟩:=I.list hq
  obtain ⟨j,h1,h2,h3,h4,h5⟩:=atI_get he
  obtain ⟨w,ew,rw'⟩:=r.get h2
  have hl:=r.length
  have hn:=line63
  have fin:EP X pins σ Q w s:=⟨z,H,I,rw',q⟩
  by_cases h0:0≤i
  · have hj:i.toNat=j:=by
      rw [seqIndex_of h0 h5] at h1
      exact Option.some.inj h1
    exact item_listR pl.isList h0 (by omega) (by rw [hj]; simpa using ew) fin hs
  · have hj:(i+(its.toArray.size:Int)).toNat=j:=by
      rw [seqIndex_neg (by omega) h4] at h1
      rw [List.size_toArray,← hl]
      exact Option.some.inj h1
    exact subscriptTail_builtinR (x:=w) pl.isList.typeIs slot_list_getitem.lookup
      (wpAny_getItem_list_neg (Q:=fun r s'=>r=w∧EP X pins σ Q r s') pl.isList (by omega) (by rw [List.size_toArray] <;> omega) (by omega) (by rw [hj]; simpa using ew) ⟨rfl,fin⟩) hs
theorem ix_tup:IxR X (rIxT X.K):=by
  intro value slice pins s σ H x y v u Q I rx ry h hs
  obtain ⟨p,xs,i,z,rfl,rfl,hq,he,q⟩:=h
  cases rx
  obtain ⟨t,rfl⟩:=ry
  obtain ⟨its,r,pl,hz⟩:=I.tuple hq
  obtain ⟨j,h1,h2,h3,h4,h5⟩:=atI_get he
  obtain ⟨w,ew,rw'⟩:=r.get h2
  have hl:=r.length
  have hn:=line63
  have fin:EP X pins σ Q w s:=⟨z,H,I,rw',q⟩
  exact subscriptTail_builtinR (x:=w) pl.typeIs slot_tuple_getitem.lookup
    (getItem_tuple (j:=j) (Q:=fun r s'=>r=w∧EP X pins σ Q r s') pl (by omega) (by omega) (by rw [List.size_toArray,← hl]; exact h1) (by simpa using ew) ⟨rfl,fin⟩) hs
theorem ix_str:IxR X rIxS:=by
  intro value slice pins s σ H x y v u Q I rx ry h hs
  obtain ⟨z,i,c,rfl,rfl,hz,he,q⟩:=h
  obtain ⟨t,rfl⟩:=rx
  obtain ⟨t',rfl⟩:=ry
  obtain ⟨j,h1,h2,h3,h4,h5⟩:=atI_get he
  have hl:z.cps.toList.length=z.length:=by simp [Str.length]
  rw [hl] at h1 h4 h5
  have hn:=line63
  exact tail_any (typeIs_str s z t) slot_str_getitem.lookup (getItem_str (c:=c) (by
    have e1:decide (i < -(2 ^ 63:Int))=false:=decide_eq_false (by omega)
    have e2:decide (i ≥ 2 ^ 63)=false:=decide_eq_false (by omega)
    rw [e1,e2,Bool.or_false]) (by rw [h1]; simpa using h2) ⟨.str ⟨#[c]⟩,H,I.tok _,⟨_,rfl⟩,q⟩) hs
def rIx (K:PySem.W.Frag):R2:=fun x y H Q=>rIxL K x y H Q∨rIxT K x y H Q∨rIxS x y H Q
theorem ix_seq:IxR X (rIx X.K):=ix_list.or (ix_tup.or ix_str)
theorem mapSeq_set (its:List Value) (n j:Nat) (u:Value):Obj.mapSeq (·.setIfInBounds j u) { cls:=.type "list", data:=.seq its.toArray n }={ cls:=.type "list", data:=.seq (its.set j u).toArray n }:=by
  simp [Obj.mapSeq]
theorem Inv.lst {pins:List (Addr×Obj)} {σ:St} {H:Hp} {s:Shared} {p:Addr} {xs:List V} (I:Inv X pins σ H s) (h:H p=some (.lst xs)) :
    ∃ (its:List Value) (n:Nat),Vals xs its∧s.heap.get? p=some { cls:=.type "list", data:=.seq its.toArray n }∧xs.length≤sizeLine:=by
  obtain ⟨z,its,n,r,e⟩:=I.hok p _ h
  exact ⟨its,n,r,e,z⟩
theorem Inv.lstUpd {pins:List (Addr×Obj)} {σ:St} {H:Hp} {s:Shared} {p:Addr} {xs ys:List V} {its its':List Value} {n n':Nat} {f:Obj→Obj} (I:Inv X pins σ H s) (h:H p=some (.lst xs))
    (ho:s.heap.get? p=some { cls:=.type "list", data:=.seq its.toArray n }) (hf:f { cls:=.type "list", data:=.seq its.toArray n }={ cls:=.type "list", data:=.seq its'.toArray n' }) (r:Vals ys its') (hz:ys.length≤sizeLine) (t:Nat) :
    Inv X pins σ (upd H p (.lst ys)) { s with heap:=s.heap.update p f,toks:=t }:=by
  have e:(s.heap.update p f).get? p=some { cls:=.type "list", data:=.seq its'.toArray n' }:=by
    rw [Heap.get?_update_self f ho (by rw [hf] <;> rfl),hf]
  refine I.write (x:=p) (e:=p) (by rw [h]; trivial) (.inl rfl) (fun b u hb q=>(Heap.get?_update_other _ _ (Ne.symm hb)).trans q) ⟨_,e⟩ ?_
  exact ⟨hz,its',n',r,e⟩
def rSetL:V→V→V→Hp→(Hp→Prop)→Prop:=fun o i v H Q=>∃ p xs k j,o=.ref p∧i=.int k∧H p=some (.lst xs)∧ixN xs.length k=some j∧Q (upd H p (.lst (xs.set j v)))
theorem set_list:PSet X rSetL:=by
  intro pins s σ H o i v ov iv u Q I ro ri rv h
  obtain ⟨p,xs,k,j,rfl,rfl,hp,hj,q⟩:=h
  cases ro
  obtain ⟨t,rfl⟩:=ri
  obtain ⟨its,n,r,ho,hz⟩:=I.lst hp
  obtain ⟨h1,h2,h3,h4⟩:=ixN_seq hj
  have hl:=r.length
  have hn:=line63
  have I':Inv X pins σ (upd H p (.lst (xs.set j v))) { s with heap:=s.heap.update p (Obj.mapSeq (·.setIfInBounds j u)) } :=
    I.lstUpd hp ho (mapSeq_set its n j u) (r.set rv j) (by rw [List.length_set]; exact hz) s.toks
  by_cases h0:0≤k
  · have hk:k.toNat=j:=by
      rw [seqIndex_of h0 h4] at h1
      exact Option.some.inj h1
    exact PySem.W.ki_setAt ho h0 (by omega) (by rw [List.size_toArray,← hl]; exact h4) (by rw [hk]; exact ⟨_,I',q⟩)
  · have hk:(k+(its.toArray.size:Int)).toNat=j:=by
      rw [seqIndex_neg (by omega) h3] at h1
      rw [List.size_toArray,← hl]
      exact Option.some.inj h1
    exact PySem.W.ki_setBack ho (by omega) (by rw [List.size_toArray,← hl]; exact h3) (by omega) (by rw [hk]; exact ⟨_,I',q⟩)
theorem slice_bounds (lo hi:Option Int) (n:Nat):(sliceBounds lo hi none n).1=((HT.sIx n 0 lo:Nat):Int)∧(sliceBounds lo hi none n).2.1=((HT.sIx n n hi:Nat):Int)∧(sliceBounds lo hi none n).2.2=1:=by
  refine ⟨?_,?_,rfl⟩
  · cases lo with
    | none=>simp [sliceBounds,HT.sIx]
    | some i =>
      simp only [sliceBounds,HT.sIx,Option.getD_none,show (1:Int) > 0 by decide,if_true]
      by_cases h:i<0
      · simp only [h,if_true] <;> omega
      · simp only [h,if_false] <;> omega
  · cases hi with
    | none=>simp [sliceBounds,HT.sIx]
    | some i =>
      simp only [sliceBounds,HT.sIx,Option.getD_none,show (1:Int) > 0 by decide,if_true]
      by_cases h:i<0
      · simp only [h,if_true] <;> omega
      · simp only [h,if_false] <;> omega
theorem slicePick_cut (its:List Value) (lo hi:Option Int):slicePick its.toArray lo hi none=((its.drop (HT.sIx its.length 0 lo)).take (HT.sIx its.length its.length hi-HT.sIx its.length 0 lo)).toArray:=by
  obtain ⟨h1,h2,h3⟩:=slice_bounds lo hi its.toArray.size
  unfold slicePick
  rw [h1,h2,h3]
  simp only [sliceRange_one,pick_run,List.size_toArray] <;> rfl
def rSlL (K:PySem.W.Frag):V→Option Int→Option Int→Hp→VK→Prop:=fun x lo hi H Q=>∃ a xs,x=.ref a∧SqL K H a xs∧∀ p,H p=none→Q (.ref p) (upd H p (.lst (cutV xs lo hi)))
theorem sl_list:SlR X (rSlL X.K):=by
  intro pins s σ H x v vl vu lo hi sl Q I rx hs pl pu h
  obtain ⟨a,xs,rfl,hx,q⟩:=h
  cases rx
  obtain ⟨its,r,ht,hz⟩:=I.list hx
  have hlen:=r.length
  refine ⟨"list", _,slot_list_getitem.lookup,ht.isList.typeIs,?_⟩
  refine wpAny_getItem_list_slice ht.isList hs pl pu .none (by simp) ?_ (by rw [List.size_toArray] <;> omega)
  rw [slicePick_cut,← hlen]
  refine ⟨.ref s.heap.objs.size,_,I.laid (t':=s.toks) (o:=.lst (cutV xs lo hi)) (fun b ob q=>Heap.get?_push_of_some _ q) (Nat.le_refl _) ?_,rfl,q _ (I.hok.fresh (Nat.le_refl _))⟩
  exact ⟨Nat.le_trans (cutV_length xs lo hi) hz,_,0,(r.drop (HT.sIx xs.length 0 lo)).take (HT.sIx xs.length xs.length hi-HT.sIx xs.length 0 lo),Heap.get?_push_size _ rfl⟩
def flatV:V→Bool
  | .non=>true
  | .bl _=>true
  | .int _=>true
  | .str _=>true
  | _=>false
def eqV:V→V→Bool
  | .non,.non=>true
  | .bl a,.bl b=>a==b
  | .bl a,.int b=>(if a then 1 else 0)==b
  | .int a,.bl b=>a==(if b then 1 else 0)
  | .int a,.int b=>a==b
  | .str a,.str b=>a==b
  | _,_=>false
theorem eqAt_V {A:Around} {s:Shared} {y x:V} {u v:Value} (ry:RelV y u) (rx:RelV x v) (fy:flatV y=true) (fx:flatV x=true):SeqAt.EqAt A s u v (eqV y x):=by
  cases y with
  | non =>
    cases ry
    cases x with
    | non=>cases rx; exact SeqAt.EqAt.same _
    | bl b=>cases rx; exact SeqAt.EqAt.none_bool b
    | int b=>obtain ⟨t,rfl⟩:=rx; exact SeqAt.EqAt.none_int b t
    | str b=>obtain ⟨t,rfl⟩:=rx; exact SeqAt.EqAt.none_str b t
    | _=>exact absurd (show false=true from fx) Bool.false_ne_true
  | bl a =>
    cases ry
    cases x with
    | non=>cases rx; exact SeqAt.EqAt.bool_none a
    | bl b=>cases rx; exact SeqAt.EqAt.bool_bool a b
    | int b=>obtain ⟨t,rfl⟩:=rx; exact SeqAt.EqAt.bool_int a b t
    | str b=>obtain ⟨t,rfl⟩:=rx; exact SeqAt.EqAt.bool_str a b t
    | _=>exact absurd (show false=true from fx) Bool.false_ne_true
  | int a =>
    obtain ⟨t',rfl⟩:=ry
    cases x with
    | non=>cases rx; exact SeqAt.EqAt.int_none a t'
    | bl b=>cases rx; exact SeqAt.EqAt.int_bool a t' b
    | int b=>obtain ⟨t,rfl⟩:=rx; exact SeqAt.EqAt.int_int a t' b t
    | str b=>obtain ⟨t,rfl⟩:=rx; exact SeqAt.EqAt.int_str a t' b t
    | _=>exact absurd (show false=true from fx) Bool.false_ne_true
  | str a =>
    obtain ⟨t',rfl⟩:=ry
    cases x with
    | non=>cases rx; exact SeqAt.EqAt.str_none a t'
    | bl b=>cases rx; exact SeqAt.EqAt.str_bool a t' b
    | int b=>obtain ⟨t,rfl⟩:=rx; exact SeqAt.EqAt.str_int a t' b t
    | str b=>obtain ⟨t,rfl⟩:=rx; exact SeqAt.EqAt.str_str a t' b t
    | _=>exact absurd (show false=true from fx) Bool.false_ne_true
  | _=>exact absurd (show false=true from fy) Bool.false_ne_true
def eqU (x:V) (u:Value):Bool:=match u with
  | .none=>eqV .non x
  | .bool b=>eqV (.bl b) x
  | .int i _=>eqV (.int i) x
  | .str z _=>eqV (.str z) x
  | _=>false
theorem eqU_of {x y:V} {u:Value} (r:RelV y u) (f:flatV y=true):eqU x u=eqV y x:=by
  cases y with
  | non=>cases r; rfl
  | bl b=>cases r; rfl
  | int i=>obtain ⟨t,rfl⟩:=r; rfl
  | str z=>obtain ⟨t,rfl⟩:=r; rfl
  | _=>exact absurd (show false=true from f) Bool.false_ne_true
theorem any_eqU {x:V}:∀ {xs:List V} {us:List Value},Vals xs us→xs.all flatV=true→us.any (eqU x)=xs.any fun y=>eqV y x
  | _,_,.nil,_=>rfl
  | y::xs,u::us,.cons r t,f=>by
    rw [List.all_cons,Bool.and_eq_true] at f
    rw [List.any_cons,List.any_cons,eqU_of r f.1,any_eqU t f.2]
theorem mem_eqAt {A:Around} {s:Shared} {x:V} {v:Value} (rx:RelV x v) (fx:flatV x=true):∀ {xs:List V} {us:List Value},Vals xs us→xs.all flatV=true→∀ u∈us,SeqAt.EqAt A s u v (eqU x u)
  | _,_,.nil,_=>fun u hu=>by cases hu
  | y::xs,u::us,.cons r t,f=>fun u' hu=>by
    rw [List.all_cons,Bool.and_eq_true] at f
    rcases List.mem_cons.mp hu with rfl | hu
    · rw [eqU_of r f.1]; exact eqAt_V r rx f.1 fx
    · exact mem_eqAt rx fx t f.2 u' hu
def inV (x:V) (xs:List V):Bool:=xs.any fun y=>eqV y x
def rIn (K:PySem.W.Frag) (neg:Bool):R2:=fun x y H Q=>∃ p xs,y=.ref p∧(SqL K H p xs∨SqT K H p xs)∧flatV x=true∧xs.all flatV=true∧Q (.bl (if neg then !inV x xs else inV x xs)) H
theorem op_notIn_seq:OpR X (compareOp .NotIn) (rIn X.K true):=by
  intro pins s σ H x y v u Q I rx ry h
  obtain ⟨p,xs,rfl,hq,fx,fs,q⟩:=h
  cases ry
  rcases hq with hq | hq
  · obtain ⟨its,r,pl,hz⟩:=I.list hq
    refine SeqAt.notIn_listAt (eqU x) pl.isList (fun w hw=>mem_eqAt rx fx r fs w (by simpa using hw)) ⟨.bl _,H,I,rfl,?_⟩
    rw [show its.toArray.any (eqU x)=its.any (eqU x) by simp,any_eqU r fs]
    exact q
  · obtain ⟨its,r,pl,hz⟩:=I.tuple hq
    refine SeqAt.notIn_tupleAt (eqU x) pl (fun w hw=>mem_eqAt rx fx r fs w (by simpa using hw)) ⟨.bl _,H,I,rfl,?_⟩
    rw [show its.toArray.any (eqU x)=its.any (eqU x) by simp,any_eqU r fs]
    exact q
theorem CallR.or {f:Value} {r r':List V→Hp→VK→Prop} (h:CallR X f r) (h':CallR X f r'):CallR X f (fun xs H Q=>r xs H Q∨r' xs H Q):=by
  intro pins s σ H xs us Q I rs q
  rcases q with q | q
  · exact h pins s σ H xs us Q I rs q
  · exact h' pins s σ H xs us Q I rs q
theorem call_list_of:CallR X (.type "list") (fun xs H Q=>∃ p ys,xs=[.ref p]∧(SqL X.K H p ys∨SqT X.K H p ys)∧∀ l,H l=none→Q (.ref l) (upd H l (.lst ys))):=by
  intro pins s σ H xs us Q I r h
  obtain ⟨p,ys,rfl,hq,q⟩:=h
  obtain ⟨u,rfl,rx⟩:=vals1 r
  cases rx
  have fin:∀ (its:List Value),Vals ys its→ys.length≤sizeLine→∀ (h':Heap) (c':Nat),(∀ b o',s.heap.get? b=some o'→h'.get? b=some o') →
      h'.get? s.heap.objs.size=some { cls:=.type "list", dict:=none,data:=.seq its.toArray c',slots:=#[] }→EP X pins σ Q (.ref s.heap.objs.size) { s with heap:=h' }:=fun its r' hz h' c' kp e =>
    ⟨.ref s.heap.objs.size,_,I.laid (t':=s.toks) kp (Nat.le_refl _) (show ObjOk X.prog X.w _ h' _ (.lst ys) from ⟨hz,its,c',r',e⟩),rfl,q _ (I.hok.fresh (Nat.le_refl _))⟩
  rcases hq with hq | hq
  · obtain ⟨its,r',pl,hz⟩:=I.list hq
    have hlen:=r'.length
    obtain ⟨o,ho,hc,n,hd⟩:=pl.isList
    exact call_list_seq p (.inl rfl) ho hc hd (fun h' c' kp e=>fin its r' hz h' c' kp e) (by simp only [List.size_toArray] <;> omega)
  · obtain ⟨its,r',pl,hz⟩:=I.tuple hq
    have hlen:=r'.length
    obtain ⟨o,ho,hc,n,hd⟩:=pl
    exact call_list_seq p (.inr rfl) ho hc hd (fun h' c' kp e=>fin its r' hz h' c' kp e) (by simp only [List.size_toArray] <;> omega)
def tyV (K:PySem.W.Frag) (T:String) (x:V) (H:Hp):Prop:=match x with
  | .str _=>T = "str"
  | .int _=>T = "int"
  | .ref p=>(T = "list" ∧ ∃ xs,SqL K H p xs)∨(T = "tuple" ∧ ∃ o,K.lookup p=some o∧o.cls=.type "tuple" ∧ o.dict=none) ∨
      (T = "dict" ∧ ((∃ kvs,H p=some (.dK kvs))∨∃ kvs,H p=some (.dT kvs)))∨(T = "set" ∧ ∃ S n,H p=some (.set S n))
  | _=>False
theorem tyV_is {pins:List (Addr×Obj)} {σ:St} {H:Hp} {s:Shared} {T:String} {x:V} {v:Value} (I:Inv X pins σ H s) (r:RelV x v) (ty:tyV X.K T x H) :
    s.TypeIs v T∧∀ a,v=.ref a→∃ ob,s.heap.get? a=some ob∧ob.dict=none:=by
  cases x with
  | str z =>
    obtain ⟨t,rfl⟩:=r
    cases (show T = "str" from ty)
    exact ⟨typeIs_str s z t,fun _ e=>nomatch e⟩
  | int i =>
    obtain ⟨t,rfl⟩:=r
    cases (show T = "int" from ty)
    exact ⟨typeIs_int s i t,fun _ e=>nomatch e⟩
  | ref p =>
    cases r
    rcases ty with ⟨rfl,xs,hq⟩ | ⟨rfl,o,hk,hc,hd⟩ | ⟨rfl,hk⟩ | ⟨rfl,S,n,hk⟩
    · obtain ⟨its,_,pl,_⟩:=I.list hq
      refine ⟨pl.isList.typeIs,fun a e=>?_⟩
      cases e
      obtain ⟨o,n,e,c,hd,_⟩:=pl
      exact ⟨o,e,hd⟩
    · refine ⟨⟨o,I.kIn p o hk,hc⟩,fun a e=>?_⟩
      cases e
      exact ⟨o,I.kIn _ o hk,hd⟩
    · have z:∃ o,s.heap.get? p=some o∧o.ExactDict:=by
        rcases hk with ⟨kvs,hk⟩ | ⟨kvs,hk⟩
        · obtain ⟨_,_,_,_,o,_,_,e,ex,_⟩:=I.hok p _ hk
          exact ⟨o,e,ex⟩
        · obtain ⟨_,_,_,_,o,_,_,e,ex,_⟩:=I.hok p _ hk
          exact ⟨o,e,ex⟩
      obtain ⟨o,e,ex⟩:=z
      refine ⟨⟨o,e,ex.1⟩,fun a e2=>?_⟩
      cases e2
      exact ⟨o,e,ex.2.1⟩
    · obtain ⟨o,_,_,_,e,ex,_⟩:=I.hok p _ hk
      refine ⟨⟨o,e,ex.1⟩,fun a e2=>?_⟩
      cases e2
      exact ⟨o,e,ex.2.1⟩
  | _=>exact False.elim ty
def tBM (K:PySem.W.Frag) (T:String) (r:V→List V→Hp→VK→Prop) (to:TE) (t:TA):TE:=fun σ H Q=>to σ H fun x H1=>tyV K T x H1∧t σ H1 fun xs H2=>r x xs H2 Q
variable {o e:Expr} {es:List Expr} {to:TE} {t:TA} {name:Str} {apos cpos:Pos} {T id:String} {r:V→List V→Hp→VK→Prop}
theorem pe_bm (pa:PlainAttrs T) (slot:Slot T name id) (hty:typeOf (.builtin id)=pure (.type "method_descriptor")) (hm:MtR X id r) (ho:PE X o to) (ha:PA X (e::es) t)
    (hbase:attributeBase o name X.env (eval o X.env)=eval o X.env:=by rfl)
    (hfew:((backTo cpos (starEach (e::es) X.env)).all (fun x=>!x.1)&&(backToKw cpos (keywordEach [] X.env)).all (fun x=>x.1.isSome)
      && decide ((e::es).length+([]:List Keyword).length+(if ([]:List Keyword).isEmpty then 0 else 1)<30))=true:=by rfl)
    (hline:(apos.endLine==cpos.line)=true:=by rfl) (hs:starEach (e::es) X.env=(false,eval e X.env)::starEach es X.env:=by rfl) (hplain:(backTo cpos (starEach es X.env)).any (·.1)=false:=by rfl) :
    PE X (.Call (.Attribute o name apos) (e::es) [] cpos) (tBM X.K T r to t):=by
  intro pins s σ H Q I h
  refine wpAny_Call_method_late hbase hfew hline rfl (thn (ho pins s σ H _ I h) fun v s1 ⟨x,H1,I1,r1,ty,q1⟩=>?_)
  obtain ⟨h1,h2⟩:=tyV_is I1 r1 ty
  refine ⟨T,id,pa,slot,hty,h1,h2,?_⟩
  have hA:=ha cpos pins s1 σ H1 _ I1 q1
  rw [hs] at hA ⊢
  refine Calls.callWith_builtin (by show (false || (backTo cpos (starEach es X.env)).any (·.1))=false; rw [hplain] <;> rfl) (Calls.evalArgs_plain ?_)
  exact thn hA fun us s2 ⟨vs,H2,I2,r2,q2⟩=>hm pins s2 σ H2 x vs v us Q I2 r1 r2 q2
end
end L2
namespace L2
open PySem PySem.Spec PyProof.Rows
def MtM (X:Cx) (id:String) (r:V→List V→Hp→VK→Prop):Prop :=
  ∀ (pins:List (Addr×Obj)) (s:Shared) (σ:St) (H:Hp) (x:V) (xs:List V) (v:Value) (us:List Value) (Q:VK),Inv X pins σ H s→RelV x v→Vals xs us→r x xs H Q →
    wpAny (model X.prog X.w) X.A (call (.builtin id) (v::us)) (EP X pins σ Q) X.xe s
theorem Vals.one:∀ {x:V} {us:List Value},Vals [x] us→∃ u,us=[u]∧RelV x u
  | _,_,.cons r .nil=>⟨_,rfl,r⟩
theorem Vals.rep {xs:List V} {us:List Value} (h:Vals xs us):∀ k:Nat,Vals (List.replicate k xs).flatten (List.replicate k us).flatten
  | 0=>.nil
  | k+1=>by
    rw [List.replicate_succ,List.replicate_succ,List.flatten_cons,List.flatten_cons]
    exact Vals.append h (Vals.rep h k)
theorem foldl_rep (its:List Value):∀ (k:Nat) (acc:List Value),
    List.foldl (fun x1 x2=>x1++x2) acc.toArray (List.replicate k its.toArray)=(acc++(List.replicate k its).flatten).toArray
  | 0,acc=>by simp
  | k+1,acc=>by
    have e:acc.toArray++its.toArray=(acc++its).toArray:=by simp
    have e2:(acc++its)++(List.replicate k its).flatten=acc++(List.replicate (k+1) its).flatten:=by
      rw [List.replicate_succ,List.flatten_cons,List.append_assoc]
    rw [← e2,← foldl_rep its k (acc++its),← e,List.replicate_succ,List.foldl_cons]
section
variable {X:Cx} {pins:List (Addr×Obj)} {σ:St} {H:Hp} {s:Shared} {l b:Addr} {xs ys zs:List V}
theorem Inv.lset {its its':List Value} {n:Nat} {f:Array Value→Array Value} {t':Nat} (I:Inv X pins σ H s) (hH:H l=some (.lst xs))
    (e:s.heap.get? l=some { cls:=.type "list", data:=.seq its.toArray n }) (hf:f its.toArray=its'.toArray) (hv:Vals ys its') (hz:ys.length≤sizeLine) :
    Inv X pins σ (upd H l (.lst ys)) { s with heap:=s.heap.update l (Obj.mapSeq f),toks:=t' }:=by
  have q:=PySem.IsL.update e f
  rw [hf] at q
  refine I.write (x:=l) (e:=l) (by rw [hH]; exact trivial) (.inl rfl) (fun b' u hb hu=>(Heap.get?_update_other s.heap (Obj.mapSeq f) (Ne.symm hb)).trans hu) ⟨_,q⟩ ?_
  exact ⟨hz,its',_,hv,q⟩
theorem Inv.lnew {its:List Value} {t':Nat} (I:Inv X pins σ H s) (hv:Vals ys its) (hz:ys.length≤sizeLine) :
    Inv X pins σ (upd H s.heap.objs.size (.lst ys)) { s with heap:=s.heap.push { cls:=.type "list", data:=.seq its.toArray },toks:=t' } :=
  I.laid (fun _ _ q=>Heap.get?_push_of_some _ q) (Nat.le_refl _) ⟨hz,its,0,hv,Heap.get?_push_size _ rfl⟩
theorem Inv.fresh (I:Inv X pins σ H s):H s.heap.objs.size=none:=I.hok.fresh (Nat.le_refl _)
theorem Inv.lstM (I:Inv X pins σ H s) (hH:H l=some (.lst xs)):xs.length≤sizeLine∧∃ (its:List Value) (n:Nat),Vals xs its∧xs.length=its.length∧s.heap.get? l=some { cls:=.type "list", data:=.seq its.toArray n }:=by
  obtain ⟨z,its,n,r,e⟩:=I.hok l _ hH
  exact ⟨z,its,n,r,r.length,e⟩
theorem notLongL {n:Nat} (h:n≤sizeLine):Builtin.List.listTooLong n=false:=by
  unfold Builtin.List.listTooLong
  exact decide_eq_false (by omega)
end
section
variable {X:Cx}
def rAppend:V→List V→Hp→VK→Prop:=fun x vs H Q=>∃ l xs y,x=.ref l∧vs=[y]∧H l=some (.lst xs)∧xs.length<sizeLine∧Q .non (upd H l (.lst (xs++[y])))
theorem mt_append:MtM X "list.append" rAppend:=by
  intro pins s σ H x vs v us Q I rx rv h
  obtain ⟨l,xs,y,rfl,rfl,hH,hz,q⟩:=h
  cases rx
  obtain ⟨u,rfl,ru⟩:=rv.one
  obtain ⟨z,its,n,r,hl,e⟩:=I.lstM hH
  refine call_meets F.slot_list_append ⟨_,e,rfl⟩ F.entry_list_append (F.args_list_append_2 _ _) (PySem.list_append l its.toArray n u (by rw [List.size_toArray]; omega)) ⟨e,?_⟩
  refine ⟨.non,_,I.lset (its':=its++[u]) hH e (by simp) (r.append (.cons ru .nil)) ?_,rfl,q⟩
  rw [List.length_append,List.length_singleton]
  omega
def rRep:R2:=fun x y H Q=>∃ l k xs,x=.ref l∧y=.int k∧H l=some (.lst xs)∧-(2 ^ 63)≤k∧k<2 ^ 63∧xs.length*k.toNat≤sizeLine ∧
  ∀ p,H p=none→Q (.ref p) (upd H p (.lst (List.replicate k.toNat xs).flatten))
theorem len_rep {α:Type} (xs:List α) (k:Nat):(List.replicate k xs).flatten.length=k*xs.length:=by
  induction k with
  | zero=>simp
  | succ k ih=>rw [List.replicate_succ,List.flatten_cons,List.length_append,ih,Nat.succ_mul,Nat.add_comm]
theorem op_rep:OpR X (binaryOp .Mult) rRep:=by
  intro pins s σ H x y v u Q I rx ry h
  obtain ⟨l,k,xs,rfl,rfl,hH,h1,h2,hz,q⟩:=h
  cases rx
  obtain ⟨t,rfl⟩:=ry
  obtain ⟨z,its,n,r,hl,e⟩:=I.lstM hH
  have hlen:its.toArray.size*k.toNat≤sizeLine:=by rw [List.size_toArray,← hl]; exact hz
  have hcap:¬ its.toArray.size*k.toNat > (2 ^ 63-1) / 8:=by
    have:(sizeLine:Nat)≤(2 ^ 63-1) / 8:=by decide
    omega
  have hfit:¬ (!Builtin.List.listFitsIndex k)=true:=by
    rw [fitsIndex_both h1 h2]
    exact Bool.false_ne_true
  have hlong:¬ Builtin.List.listTooLong (its.toArray.size*k.toNat)=true:=by
    rw [notLongL hlen]
    exact Bool.false_ne_true
  have hnew:List.foldl (fun x1 x2=>x1++x2) #[] (List.replicate (if its.toArray.isEmpty=true then 0 else k.toNat) its.toArray)=(List.replicate k.toNat its).flatten.toArray:=by
    have f0:∀ m:Nat,List.foldl (fun x1 x2=>x1++x2) #[] (List.replicate m its.toArray)=(List.replicate m its).flatten.toArray:=fun m=>by
      have:=foldl_rep its m []
      rw [List.nil_append] at this
      exact this
    rw [f0]
    cases its with
    | nil=>simp
    | cons a r'=>rw [if_neg (by simp)]
  refine wpAny_binaryOp_repeat_ref (T := "list") (U := "int") (by decide) ⟨_,e,rfl⟩ (fun s'=>typeIs_int s' k t) noFill_list_mul F.fills_int_mul F.slot_int_rmul repeat_list F.slot_int_index.lookup
    (call_meets F.slot_int_rmul (typeIs_int s k t) F.entry_int_rmul (F.args_int_rmul_2 _ _) (int___rmul___int_list k t l its.toArray n)
      ⟨e,rfl,⟨_,e,rfl⟩,call_meets F.slot_list_mul ⟨_,e,rfl⟩ F.entry_list_mul (F.args_list_mul_2 _ _) (AutoListH.list___mul___list_int_3 l its.toArray n k t hfit hcap hlong) ⟨e,?_⟩⟩)
  rw [hnew]
  exact ⟨.ref _,_,I.lnew (t':=s.toks) (r.rep k.toNat) (by rw [len_rep,Nat.mul_comm]; exact hz),rfl,q _ I.fresh⟩
end
section
variable {prog:Program} {w:World} {A:Around} {E:Value→Shared→Prop} {s:Shared}
end
section
variable {X:Cx}
end
end L2
namespace Att
open PySem PySem.W PySem.Calls PyProof.Rows
theorem ints_of_wellAll {P:Params} {h:Heap}:∀ (ns:List Int) (vs:List Value),WellAll P h vs (ns.map WData.int)→IntsAre vs ns:=by
  intro ns
  induction ns with
  | nil =>
    intro vs w
    rw [List.map_nil] at w
    cases w
    exact .nil
  | cons n ns ih =>
    intro vs w
    rw [List.map_cons] at w
    cases w with
    | cons a b =>
      cases a
      exact .cons _ _ (ih _ b)
theorem script_of {l:OpenLaw} {n:Nat} (hn:l.most=some n) {P:Params} {h:Heap} {args:List WData} {vals:List Value}
    (hpre:l.row.toRowW.claim.pre args=true) (hwl:WellAll P h vals args) :
    ∃ a vs ns,vals=[Value.ref a]∧args=[WData.list (ns.map WData.int)]∧h.get? a=some { cls:=.type "list", data:=.seq vs.toArray }∧IntsAre vs ns∧ns.length≤n:=by
  have hsh:WShape.hasAll [] args [.list .int]=true:=(pre_splitW hpre).1
  have hc:l.pre.holds [] { args:=args }=true:=(pre_splitW hpre).2
  obtain ⟨d,r,rfl,h1,h2⟩:=hasAllW_cons hsh
  obtain rfl:=hasAllW_nil h2
  obtain ⟨xs,rfl,h3⟩:=hasW_list h1
  obtain ⟨ns,rfl⟩:=items_int h3
  have hlen:ns.length≤n:=by
    unfold OpenLaw.pre at hc
    have h4:(WTm.not (.lt (.lit (.int (n:Int))) (.len (.arg 0)))).holds [] { args:=[.list (ns.map .int)] }=true:=by
      have h4:=(holds_andW hc).1
      rw [hn] at h4
      exact h4
    have h5:=condW_of h4 (w_not (w_lt w_lit (w_len_list (w_arg rfl))))
    rw [List.length_map] at h5
    refine Nat.le_of_not_lt fun q=>?_
    have q':(n:Int)<((ns.length:Nat):Int):=by omega
    first
      | (rw [decide_eq_true q'] at h5; exact absurd h5 (by decide))
      | (simp at h5; omega)
  cases hwl with
  | cons w1 w2 =>
    cases w2
    cases w1 with
    | list ho hall=>exact ⟨_,_,ns,rfl,rfl,ho,ints_of_wellAll ns _ hall,hlen⟩
theorem post_true (l:OpenLaw) (args:List WData):l.row.toRowW.claim.post args (.bool true) args=true :=
  postW_of (r:=l.row.toRowW) (X:=(true==true))
    (show WShape.has [] (.bool true) .bool=true by first | rfl | decide | simp [WShape.has,WShape.arms,WShape.armsAll])
    (show (WTm.eq .res (.lit (.bool true))).value [] { args:=args,res:=some (.bool true),after:=args }=some (.bool (true==true)) from w_eq_bool (w_res rfl) w_lit) rfl
section
variable {prog:Program} {w:World} {A:Around} {E:Value→Shared→Prop} {s:Shared} {K:Frag}
def ledger (h:Heap) (L d:Addr):List (Addr×Obj):=(List.range h.objs.size).filterMap fun a=>if a=L∨a=d then none else (h.get? a).map fun o=>(a,o)
end
end Att
namespace L2
open PySem PySem.Spec PyProof.Rows
theorem vals_ints:∀ {vs:List Value} {ns:List Int},IntsAre vs ns→Vals (ns.map V.int) vs
  | _,_,.nil=>.nil
  | _,_,.cons n t h=>.cons ⟨t,rfl⟩ (vals_ints h)
def Only (H:Hp):Prop:=∀ b,H b=none∨∃ o xs,H b=some (.frz o (.lst xs))
theorem law_call {P:Program} {w:World} {K:PySem.W.Frag} {mg mb:Str→Option Value} {CX:CXT} {k:Nat} {fa a:Addr} {fd:FuncData} {x:Str} {sp:Sp} {s₁:Shared} {vs:List Value} {ns:List Int}
    (KX:K.In s₁.heap) (hns:s₁.heap.Ns mainGlobals mg) (hb:s₁.heap.Ns builtinsNs mb) (hbb:∀ x:Str,x ≠ "__name__" → mb x=bootBuiltins x) (hlim:s₁.heap.NoLimit) (hg:s₁.gens=#[])
    (ha:s₁.heap.get? a=some { cls:=.type "list", data:=.seq vs.toArray }) (hi:IntsAre vs ns) (hl:ns.length≤sizeLine) (hr:Room k callerA)
    (F:∀ base:Heap,K.In base→base.Ns mainGlobals mg→FnOk P w K mg base CX k fa fd [x] sp) (hbind:∀ (s:Shared) (u:Value),BindsTo s fd ⟨[u],[]⟩ [(x,u)])
    (hsp:∀ H:Hp,Only H→SqL K H a (ns.map V.int)→sp [.ref a] H (fun v _=>v=.bl true) fun _ _ _=>False)
    (hCX:∀ H e s',CX [] H s₁ (fun _ _ _=>False) e s'→False) :
    codeAny (model P w) callerA (.call (.ref fa) ⟨[.ref a],[]⟩) (fun r s'=>r=.ok (.ret (.bool true))∧OldK s₁.heap s'.heap∧s'.os=s₁.os∧AllBare s'.gens) s₁:=by
  have rv:=vals_ints hi
  have lenV:=hi.length
  have core:∀ H:Hp,Only H→SqL K H a (ns.map V.int)→HOk P w H s₁.heap→(∀ b,H b≠none→b=a)→(H a≠none→K.lookup a=none) →
      codeAny (model P w) callerA (.call (.ref fa) ⟨[.ref a],[]⟩) (fun r s'=>r=.ok (.ret (.bool true))∧OldK s₁.heap s'.heap∧s'.os=s₁.os∧AllBare s'.gens) s₁:=by
    intro H hO hS hok hA hK
    have base_of:∀ {b:Addr} {o:Obj},s₁.heap.get? b=some o→H b=none→(hidT s₁.heap H).get? b=some o:=fun e n=>hidT_get e n
    have noA:∀ {b:Addr} {o:Obj} {es:Array DictEntry} {ep:Nat},s₁.heap.get? b=some o→o.data=.dict es ep→H b=none:=fun {b o es ep} e d=>by
      cases q:H b with
      | none=>rfl
      | some u =>
        have e':b=a:=hA b (by rw [q]; simp)
        subst e'
        rw [ha] at e; cases e
        have d':Data.seq vs.toArray _=Data.dict es ep:=d
        cases d'
    have nsK:∀ {b:Addr} {m:Str→Option Value},s₁.heap.Ns b m→(hidT s₁.heap H).Ns b m:=fun {b m} ⟨o,es,ep,e,d,r⟩=>⟨o,es,ep,base_of e (noA e d),d,r⟩
    have hKb:K.In (hidT s₁.heap H):=fun b o e=>base_of (KX b o e) (by
      cases q:H b with
      | none=>rfl
      | some u =>
        have e':b=a:=hA b (by rw [q]; simp)
        subst e'
        rw [hK (by rw [q]; simp)] at e; cases e)
    have hM:Mod K mg (hidT s₁.heap H):=⟨hKb,nsK hns,⟨mb,nsK hb,hbb⟩,let ⟨mc,h1,h2⟩:=hlim; ⟨mc,nsK h1,h2⟩⟩
    have e0:Env0 P w K mg (hidT s₁.heap H) callerA [] s₁ H:=⟨rfl,hM,fun b o e=>of_hidT e,Nat.le_of_eq (hidT_size _ _),trivial,fun b hb=>absurd (show b∈([]:List Addr) from hb) (by simp),hok,.of_eq hg⟩
    refine codeAny_mono ((F _ hKb (nsK hns)).run callerA [] s₁ H ⟨[.ref a],[]⟩ [.ref a] [.ref a] _ _ hr e0 (hbind s₁ (.ref a)) (.cons rfl .nil) (hsp H hO hS)) fun r s' h=>?_
    cases r with
    | error e=>exact (hCX H e s' h).elim
    | ok fl =>
      cases fl with
      | next=>exact False.elim h
      | brk=>exact False.elim h
      | cont=>exact False.elim h
      | ret u =>
        obtain ⟨v,H',os,bare,un,hok',r',q⟩:=h
        have q':v=.bl true:=q
        subst q'
        obtain rfl:u=Value.bool true:=r'
        refine ⟨rfl,OldK.of_keep fun b o e=>?_,os,bare⟩
        cases q:H b with
        | none=>exact un.keep b o e q (by intro z; exact absurd (show b∈([]:List Addr) from z) (by simp)) (by simp)
        | some u =>
          rcases hO b with z | ⟨ob,xs,z⟩
          · rw [q] at z; cases z
          · have z2:=un.frzs b ob _ z
            obtain ⟨e1,_⟩:=hok b _ z
            obtain ⟨e2,_⟩:=hok' b _ z2
            rw [e] at e1; cases e1
            exact e2
  cases hk:K.lookup a with
  | some o =>
    have e:=KX a o hk
    rw [ha] at e
    cases e
    refine core (fun _=>none) (fun _=>.inl rfl) (.inr ⟨_,vs.toArray,_,hk,rfl,rfl,rfl,by rw [List.size_toArray,lenV]; exact hl,by simpa using rv⟩) (fun b u z=>by have z':(none:Option HO)=some u:=z; cases z') (fun b z=>absurd rfl z) fun z=>absurd rfl z
  | none =>
    refine core (fun b=>if b=a then some (.frz { cls:=.type "list", data:=.seq vs.toArray } (.lst (ns.map V.int))) else none) (fun b=>?_) (.inl (.inr ⟨{ cls:=.type "list", data:=.seq vs.toArray },if_pos rfl⟩)) (fun b u z=>?_) (fun b z=>?_) fun _=>hk
    · by_cases hb:b=a
      · exact .inr ⟨_,_,if_pos hb⟩
      · exact .inl (if_neg hb)
    · by_cases hb:b=a
      · have z':=(if_pos hb).symm.trans z
        cases z'
        subst hb
        exact ⟨ha,by rw [List.length_map]; exact hl,vs,_,rv,ha⟩
      · have z':=(if_neg hb).symm.trans z
        cases z'
    · by_cases hb:b=a
      · exact hb
      · exact absurd (if_neg hb) z
end L2
namespace L2
open PySem PySem.Spec PyProof.Rows
abbrev KOf {K:PySem.W.Frag} {h:Heap} (_:K.In h):PySem.W.Frag:=K
end L2
namespace L2
open PySem PySem.Spec PyProof.Rows
def defArgs (s:Stmt):Arguments:=match s with
  | .FunctionDef _ a _ _ _ _ _ _ _ _=>a
  | _=>{ posonlyargs:=[],args:=[],vararg:=none,kwonlyargs:=[],kw_defaults:=[],kwarg:=none,defaults:=[] }
def defBody (s:Stmt):List Stmt:=match s with
  | .FunctionDef _ _ b _ _ _ _ _ _ _=>b
  | _=>[]
def defScope (s:Stmt):Scope:=match s with
  | .FunctionDef _ _ _ _ _ _ sc _ _ _=>sc
  | _=>{ kind:=.function,names:=[],isGenerator:=false,isCoroutine:=false }
abbrev CX0:CXT:=fun _ _ _ _ _ _=>False
abbrev E0:XK:=fun _ _ _=>False
theorem pass0 {X:Cx}:Passes CX0 X E0:=fun _ _ _ _ _ _ _ h=>h.elim
structure Fun (K:PySem.W.Frag) (x qual:Str) (st:Stmt) (f:Addr) (fd:FuncData):Prop where
  ex:∃ (oc:Value) (od:Option Addr) (kV doc pm:Value) (an:Option Addr) (cdv ct:Value) (osl:Array (Option Value)),
    fd=PySem.W.fnOf x qual (defArgs st) (defBody st) (defScope st) .none kV doc pm an cdv ct∧K.lookup f=some ⟨oc,od,.func fd,osl⟩∧PySem.W.codeIn K cdv qual=true
  kp:PySem.W.keepIn K (.ref f)=true
section
variable {P:Program} {w:World} {K:PySem.W.Frag} {mg:Str→Option Value} {base:Heap}
theorem Fun.ok {x qual:Str} {st:Stmt} {f:Addr} {fd:FuncData} {N ps:List Str} {k:Nat} {sp:Sp} (F:Fun K x qual st f fd) (S:FnScope N ps (defScope st)) (len:∀ vs H Q E,sp vs H Q E→vs.length=ps.length)
    (hbody:∀ (cdv:Value) (A:Around) (outer:List Env) (s:Shared) (H:Hp) (vs:List V) (Q:VK) (E:XK),Room k (A.deeper (envOfC qual (defScope st) s.heap.objs.size f cdv))→sp vs H Q E →
      ∃ t,PSs (cxOf CX0 P w K mg base N qual (defScope st) f cdv A outer s H E).nox (defBody st) t∧t { nx:=fun _ H'=>Q .non H',rt:=Q } (start N vs) H):FnOk P w K mg base CX0 (k+1) f fd ps sp:=by
  obtain ⟨oc,od,kV,doc,pm,an,cdv,ct,osl,rfl,lk,hcd⟩:=F.ex
  refine fn_of lk hcd S len fun A outer s H vs Q E hr hsp=>?_
  obtain ⟨t,h,q⟩:=hbody cdv A outer s H vs Q E hr hsp
  exact ⟨t,h.nox,q⟩
theorem Fun.binds {x qual:Str} {st:Stmt} {f:Addr} {fd:FuncData} {ps:List Str} (F:Fun K x qual st f fd)
    (h:∀ (kV doc pm:Value) (an:Option Addr) (cdv ct:Value) (us:List Value),us.length=ps.length→bindArgs (PySem.W.fnOf x qual (defArgs st) (defBody st) (defScope st) .none kV doc pm an cdv ct) ⟨us,[]⟩=pure (ps.zip us)):Binds K fd ps []:=by
  obtain ⟨oc,od,kV,doc,pm,an,cdv,ct,osl,rfl,lk,hcd⟩:=F.ex
  exact .all (h kV doc pm an cdv ct)
theorem fun_mk {x qual:Str} {st:Stmt} {f:Addr} {oc:Value} {od an:Option Addr} {osl:Array (Option Value)} {kV doc pm cdv ct:Value} (l:K.lookup f=some ⟨oc,od,.func (PySem.W.fnOf x qual (defArgs st) (defBody st) (defScope st) .none kV doc pm an cdv ct),osl⟩)
    (c:PySem.W.codeIn K cdv qual=true) (k:PySem.W.keepIn K (.ref f)=true):Fun K x qual st f (PySem.W.fnOf x qual (defArgs st) (defBody st) (defScope st) .none kV doc pm an cdv ct):=⟨⟨oc,od,kV,doc,pm,an,cdv,ct,osl,rfl,l,c⟩,k⟩
end
section
variable {X:Cx}
theorem pv (i:Nat) {x:Str} {pos:Pos} (hN:X.N[i]?=some x:=by rfl) (hv:Vis X.env.scope x:=by first | exact Or.inl rfl | exact Or.inr (Or.inl rfl) | exact Or.inr (Or.inr rfl)) (hd:(x==("__debug__" : Str))=false:=by decide)
    (hcd:(x==("__classdict__" : Str))=false:=by decide):PE X (.Name x pos) (tVar i):=pe_var hN hv hd hcd
end
theorem iteF {A B:Prop} (h:B):if false=true then A else B:=by
  rw [if_neg Bool.false_ne_true]
  exact h
theorem iteT {A B:Prop} (h:A):if true=true then A else B:=by
  rw [if_pos rfl]
  exact h
def Same (H H':Hp):Prop:=∀ b o,H b=some o→H' b=some o
theorem Same.refl (H:Hp):Same H H:=fun _ _ h=>h
theorem Same.trans {H H1 H2:Hp} (a:Same H H1) (b:Same H1 H2):Same H H2:=fun c o h=>b c o (a c o h)
theorem Same.free {H H':Hp} (e:Same H H') {l:Addr} (h:H' l=Option.none):H l=Option.none:=by
  cases q:H l with
  | none=>rfl
  | some o =>
    rw [e l o q] at h
    cases h
end L2
namespace L2
open PySem PySem.Spec PyProof.Rows
section
variable {X:Cx}
theorem op_mulB:OpR X (binaryOp .Mult) (rI IntMulOk fun i j=>.int (i*j)):=opI fun _ _ _ _ _ _ _ hc q=>mul_int q hc
theorem call_isi:CallR X (.builtin "isinstance") (fun xs H Q=>∃ x n t b,xs=[x,.ty n]∧TyOf X.K H x t∧PySem.W.kitOne X.K t (.type n)=some b∧Q (.bl b) H):=by
  intro pins s σ H xs us Q I r h
  obtain ⟨x,n,t,b,rfl,ty,e,q⟩:=h
  obtain ⟨u,w',rfl,rx,ry⟩:=vals2 r
  cases ry
  exact isinst_ok I rx ty e fun tk=>⟨.bl b,H,I.tok _,rfl,q⟩
theorem range_all_eq {α:Type} [DecidableEq α] {ns ms:List α} (d:α) (h:ns.length=ms.length):((List.range ns.length).all fun j=>decide (ns.getD j d=ms.getD j d))=decide (ns=ms):=by
  rw [Bool.eq_iff_iff,List.all_eq_true,decide_eq_true_iff]
  constructor
  · intro H
    refine List.ext_getElem h fun i h1 h2=>?_
    have:=of_decide_eq_true (H i (List.mem_range.mpr h1))
    rw [List.getD_eq_getElem?_getD,List.getD_eq_getElem?_getD,List.getElem?_eq_getElem h1,List.getElem?_eq_getElem h2] at this
    exact this
  · rintro rfl i _
    simp
theorem eqAt_items {α:Type} [DecidableEq α] {A:Around} {s:Shared} {us ws:List Value} {ns ms:List α} {d:α} (hl:us.length=ns.length) (hl2:ws.length=ms.length)
    (h:∀ (j:Nat) (u v:Value) (a b:α),us[j]?=some u→ws[j]?=some v→ns[j]?=some a→ms[j]?=some b→SeqAt.EqAt A s u v (decide (a=b))) :
    ∀ j (h1:j<us.toArray.size) (h2:j<ws.toArray.size),SeqAt.EqAt A s us.toArray[j] ws.toArray[j] (decide (ns.getD j d=ms.getD j d)):=by
  intro j h1 h2
  have h1':j<us.length:=by simpa using h1
  have h2':j<ws.length:=by simpa using h2
  have q:=h j us[j] ws[j] ns[j] ms[j] (List.getElem?_eq_getElem h1') (List.getElem?_eq_getElem h2') (List.getElem?_eq_getElem (by omega)) (List.getElem?_eq_getElem (by omega))
  have e1:ns.getD j d=ns[j]:=by rw [List.getD_eq_getElem?_getD,List.getElem?_eq_getElem (by omega)]; rfl
  have e2:ms.getD j d=ms[j]:=by rw [List.getD_eq_getElem?_getD,List.getElem?_eq_getElem (by omega)]; rfl
  rw [e1,e2]
  simpa using q
theorem rcAt_lists {α:Type} [DecidableEq α] [Inhabited α] {A:Around} {s:Shared} {l b:Addr} {us ws:List Value} {ns ms:List α} (p1:s.heap.IsList l us.toArray) (p2:s.heap.IsList b ws.toArray) (hl:us.length=ns.length) (hl2:ws.length=ms.length) (hu:A.units<cLine)
    (h:∀ (j:Nat) (u v:Value) (a b:α),us[j]?=some u→ws[j]?=some v→ns[j]?=some a→ms[j]?=some b→SeqAt.EqAt A.in1 s u v (decide (a=b))) :
    SeqAt.RcAt A s (.ref l) (.ref b) (decide (ns=ms)):=by
  by_cases hs:ns.length=ms.length
  · have q:=SeqAt.RcAt.lists (e:=fun j=>decide (ns.getD j default=ms.getD j default)) p1 p2 (by simp; omega) hu (eqAt_items hl hl2 h)
    have e:((List.range us.toArray.size).all fun j=>decide (ns.getD j default=ms.getD j default))=decide (ns=ms):=by
      rw [List.size_toArray,hl]; exact range_all_eq default hs
    rw [e] at q
    exact q
  · have q:=SeqAt.RcAt.lists_lengths p1 p2 (by simp; omega) hu
    have e:decide (ns=ms)=false:=decide_eq_false fun z=>hs (by rw [z])
    rw [e]
    exact q
theorem rcNeAt_lists {α:Type} [DecidableEq α] [Inhabited α] {A:Around} {s:Shared} {l b:Addr} {us ws:List Value} {ns ms:List α} (p1:s.heap.IsList l us.toArray) (p2:s.heap.IsList b ws.toArray) (hl:us.length=ns.length) (hl2:ws.length=ms.length) (hu:A.units<cLine)
    (h:∀ (j:Nat) (u v:Value) (a b:α),us[j]?=some u→ws[j]?=some v→ns[j]?=some a→ms[j]?=some b→SeqAt.EqAt A.in1 s u v (decide (a=b))) :
    SeqAt.RcNeAt A s (.ref l) (.ref b) (!decide (ns=ms)):=by
  by_cases hs:ns.length=ms.length
  · have q:=SeqAt.RcNeAt.lists (e:=fun j=>decide (ns.getD j default=ms.getD j default)) p1 p2 (by simp; omega) hu (eqAt_items hl hl2 h)
    have e:((List.range us.toArray.size).all fun j=>decide (ns.getD j default=ms.getD j default))=decide (ns=ms):=by
      rw [List.size_toArray,hl]; exact range_all_eq default hs
    rw [e] at q
    exact q
  · have q:=SeqAt.RcNeAt.lists_lengths p1 p2 (by simp; omega) hu
    have e:decide (ns=ms)=false:=decide_eq_false fun z=>hs (by rw [z])
    rw [e]
    exact q
end
open PySem.W in
theorem bits_of_lay {ns:List Int} (h:WData.layableAll [WData.list (ns.map WData.int)]=true):∀ n∈ns,Builtin.Int.intBits n≤1048576:=by
  have w:WData.weight (.list (ns.map WData.int))≤2 ^ 20:=by
    unfold WData.layableAll WData.layable at h
    simp only [List.all_cons,List.all_nil,Bool.and_true,Bool.and_eq_true,decide_eq_true_eq] at h
    exact h.2
  have key:∀ (ms:List Int),∀ n∈ms,Builtin.Int.intBits n≤WData.weightAll (ms.map WData.int):=by
    intro ms
    induction ms with
    | nil=>intro n hn; cases hn
    | cons m ms ih =>
      intro n hn
      rw [List.map_cons,WData.weightAll]
      rcases List.mem_cons.mp hn with rfl | hn
      · have e:WData.weight (.int n)=Builtin.Int.intBits n:=by simp [WData.weight,Builtin.Int.intBits]
        omega
      · have:=ih n hn
        omega
  intro n hn
  have q:=key ns n hn
  have e:WData.weight (.list (ns.map WData.int))=WData.weightAll (ns.map WData.int):=by simp [WData.weight]
  rw [e] at w
  exact Nat.le_trans q w
theorem walk_ofB {l:PySem.W.OpenLaw} {n k:Nat} {q:Program} {loose:List Str} {XP:(Str→Option Value)→Heap→Prop} {YP:World→Heap→Prop} {d:DefRec} {K:Params→PySem.W.Frag} {CX:World→CXT} {sp:World→Sp} {x:Str}
    (hn:l.most=some n) (hn2:n≤sizeLine) (hdf:d.params.defaults=[]) (hr:Room k callerA)
    (hY:∀ (w:World) (h:Heap),YP w h→(K w.params).In h)
    (F:∀ (w:World) (mg:Str→Option Value) (fa:Addr) (h:Heap),(K w.params).In h→h.Ns mainGlobals mg→mg d.name=some (.ref fa) →
      ∃ fd:FuncData,(∀ (s:Shared) (u:Value),BindsTo s fd ⟨[u],[]⟩ [(x,u)]) ∧
        ∀ base:Heap,(K w.params).In base→base.Ns mainGlobals mg→FnOk l.prog w (K w.params) mg base (CX w) k fa fd [x] (sp w))
    (hsp:∀ (w:World) (H:Hp) (a:Addr) (ns:List Int),ns.length≤n→(∀ m∈ns,Builtin.Int.intBits m≤1048576)→Only H→SqL (K w.params) H a (ns.map V.int)→sp w [.ref a] H (fun v _=>v=.bl true) fun _ _ _=>False)
    (hCX:∀ (w:World) (H:Hp) (s:Shared) (e:Value) (s':Shared),CX w [] H s (fun _ _ _=>False) e s'→False) :
    PySem.W.WalkO q loose XP YP l.row.toRowW d [] (fun f vs=>PySem.call f vs):=by
  intro w s₀ s₁ mg mb G Y fa o pm cd doc dV kV ho hd hcd hD hmg hg args vals as hpre hlay hrd hwl hlo
  obtain rfl:dV=.none:=PySem.W.Dflts.none hD hdf
  obtain rfl:kV=.none:=PySem.W.Dflts.noKw hD
  obtain ⟨a,vs,ns,rfl,rfl,hobj,hints,hlen⟩:=Att.script_of hn hpre hwl
  have KX:=hY w _ Y
  obtain ⟨fd,hb,hF⟩:=F w mg fa _ KX G.T.g hmg
  refine PySem.W.enter_call (codeAny_mono (law_call KX G.T.g G.T.b G.T.builtins G.T.nolimit hg hobj hints (Nat.le_trans hlen hn2) hr hF hb (fun H hO hS=>hsp w H a ns hlen (bits_of_lay hlay) hO hS) fun H e s'=>hCX w H s₁ e s') fun r s' hq=>?_)
  obtain ⟨rfl,h2,h3,h4⟩:=hq
  exact ⟨.inl ⟨.bool true,.bool true,[],rfl,fun _=>rfl,.bool true,Att.post_true l _,fun _=>⟨List.Pairwise.nil,fun _ hm=>(nomatch hm)⟩⟩,h2,h3,h4⟩
end L2
namespace L2
open PySem PySem.Spec PyProof.Rows
def compCx (X:Cx) (N':List Str) (scope:Scope) (cl:List (Str×Addr)) (C:Addr) (s3:Shared) (H3:Hp) (fp:List Addr) (pins:List (Addr×Obj)):Cx :=
  { X with N:=N',s₀:=s3,H₀:=H3,env:=compEnvC scope cl C X.env,outer:=X.stack,stack:=X.stack,ex:=fp,fn:=fun _=>false,pn:=X.pn++pins,xe:=fun _ _=>False }
structure Frees (X:Cx) (N':List Str) (scope:Scope) (cl:List (Str×Addr)) (σ σ0:St):Prop where
  sub:∀ x c,cl.lookup x=some c→X.env.cells.lookup x=some c
  vals:∀ (j:Nat) (x:Str) (v:V),N'[j]?=some x→σ0[j]?=some (some v)→∃ (i:Nat) (c:Addr),X.N[i]?=some x∧σ[i]?=some (some v)∧Vis X.env.scope x∧X.env.kindOf x≠some .local∧cl.lookup x=some c ∧
    ((relabel scope X.env).names.lookup x=some .cell∨(relabel scope X.env).names.lookup x=some .free)
  has:∀ x,((relabel scope X.env).names.lookup x=some .cell∨(relabel scope X.env).names.lookup x=some .free)→∃ c,cl.lookup x=some c
  len:σ0.length=N'.length
section
variable {prog:Program} {w:World} {A:Around} {R:Result→Shared→Prop} {s:Shared}
theorem compLoop_gen {elt target iter:Expr} {ifs:List Expr} {scope:Scope} {pos:Pos} {it acc:Value} {env:Env} (I:Nat→Shared→Prop)
    (turn:∀ n s,I n s→wpAny (model prog w) A (pyNext it) (fun r s₁=>match r with
      | none=>R (.ok .next) s₁
      | some v=>wpAny (model prog w) A (letOwnedTupleGo target it v) (fun _ s₀=>wpAny (model prog w) A (assign target env v) (fun _ s₂ =>
          wpAny (model prog w) A (forIn ifs true fun c r=>if r=true then do let ok ← isTrue c env (eval c env); pure (ForInStep.yield ok) else pure (ForInStep.yield r)) (fun ok s₃ =>
            if ok=true then wpAny (model prog w) A (eval elt env) (fun x s₄ =>
              wpAny (model prog w) A (call (.builtin "list.append") [acc,x]) (fun _ s₅=>∃ m,m<n∧I m s₅) (fun _ _=>False) s₄) (fun _ _=>False) s₃
            else ∃ m,m<n∧I m s₃) (fun _ _=>False) s₂) (fun _ _=>False) s₀) (fun _ _=>False) s₁) (fun _ _=>False) s)
    (n:Nat) (h:I n s) :
    codeAny (model prog w) A (.compLoop (.ListComp elt [⟨target,iter,ifs,0⟩] scope pos) 0 it acc env) R s:=by
  refine codeAny_loop rfl I (fun n s hI=>?_) n h
  show wpAny _ A ((compTurn (.ListComp elt [⟨target,iter,ifs,0⟩] scope pos) 0 it acc env).onRaise (fun x=>do noteFrame x env; theTreesLotGoes x)) _ _ s
  refine wpAny_noted ?_
  rw [compTurn_list]
  refine wpAny_bind (wpAny_standAt (wpAny_bind (wpAny_mono (turn n s hI) (fun r s₁ h₁=>?_) fun _ _ h'=>h'.elim)))
  cases r with
  | none=>exact wpAny_pure h₁
  | some v =>
    refine wpAny_bind (wpAny_mono h₁ (fun _ s₀ h₀=>?_) fun _ _ h'=>h'.elim)
    refine wpAny_bind (wpAny_mono h₀ (fun _ s₂ h₂=>wpAny_bind (wpAny_mono h₂ (fun ok s₃ h₃=>?_) fun _ _ h'=>h'.elim)) fun _ _ h'=>h'.elim)
    cases ok with
    | false=>exact wpAny_pure ⟨rfl,h₃⟩
    | true =>
      exact wpAny_bind (wpAny_bind (wpAny_mono h₃ (fun x s₄ h₄=>wpAny_bind (wpAny_mono h₄ (fun _ s₅ h₅=>wpAny_pure (wpAny_pure ⟨rfl,h₅⟩)) fun _ _ h'=>h'.elim)) fun _ _ h'=>h'.elim))
end
def compW (J:It) (g:TG) (tt:TT) (te:TE) (σ0:St) (H1:Hp) (Q:VK):Prop:=∀ D,H1 D=none→∃ W:Nat→Nat→List V→Hp→Prop,(∃ m,W 0 m [] (upd H1 D (.lst []))) ∧
  ∀ i m ys H,W i m ys H→(J.stop i H∧H D=some (.lst ys)∧Q (.ref D) H) ∨
    (J.go i H∧∀ x H',J.yld i H x H'→g x σ0 H' fun σ2 H2=>tt σ2 H2 fun c H3 =>
      if c=true then te σ2 H3 fun v H4=>H4 D=some (.lst ys)∧ys.length<sizeLine∧∃ m',m'<m∧W (i+1) m' (ys++[v]) (upd H4 D (.lst (ys++[v])))
      else ∃ m',m'<m∧W (i+1) m' ys H3)
def Keepg (g:TG) (σ0:St):Prop:=∀ x H (Q:St→Hp→Prop),g x σ0 H Q→g x σ0 H fun σ2 H2=>Q σ2 H2∧σ2.length=σ0.length∧∀ (j:Nat) v,σ0[j]?=some (some v)→σ2[j]?=some (some v)
section
variable {X:Cx} {tg elt iter:Expr} {ifs:List Expr} {scope:Scope} {cl:List (Str×Addr)} {N':List Str} {σ0:St→St} {g:TG} {tt:TT} {te:TE}
theorem comp_block {pos:Pos} {pins:List (Addr×Obj)} {σ:St} {H1:Hp} {s2:Shared} {it:Addr} {fp:List Addr} {tn:Nat→Heap→Prop} {J:It} {Q:VK} {RR:Value→Addr→Result→Shared→Prop}
    (hc:X.calm=true) (hcell:∀ y∈scope.names,y.2≠.cell) (hkind:scope.kind=.function)
    (I:Inv X pins σ H1 s2) (T:Turn X.prog X.w X.K tg J fp it tn) (st:tn 0 s2.heap) (hfp:∀ b∈fp,FpOk X pins H1 b) (fr:Frees X N' scope cl σ (σ0 σ)) (hk:Keepg g (σ0 σ))
    (hg:∀ C s3 H3 fp pins,PG (compCx X N' scope cl C s3 H3 fp pins) tg g)
    (ht:∀ C s3 H3 fp pins (pl:List (Addr×Obj)) (s:Shared) (σ:St) (H:Hp) (Q:Bool→Hp→Prop),Inv (compCx X N' scope cl C s3 H3 fp pins) pl σ H s→tt σ H Q →
      wpAny (model X.prog X.w) X.A (forIn ifs true fun c r=>if r=true then do let ok ← isTrue c (compEnvC scope cl C X.env) (eval c (compEnvC scope cl C X.env)); pure (ForInStep.yield ok) else pure (ForInStep.yield r)) (TP (compCx X N' scope cl C s3 H3 fp pins) pl σ Q) (fun _ _=>False) s)
    (he:∀ C s3 H3 fp pins,PE (compCx X N' scope cl C s3 H3 fp pins) elt te) (hw:compW J g tt te (σ0 σ) H1 Q)
    (hRR:∀ D C s' H' m,Inv X pins σ H' s'→s'.heap.Ns C m→H' C=none→C≠X.env.locals→X.s₀.heap.objs.size≤C→(∀ x c,X.env.cells.lookup x=some c→c≠C)→(∀ p∈X.pn++pins,p.1≠C)→Q (.ref D) H'→RR (.ref D) C (.ok .next) s') :
    wpAny (model X.prog X.w) X.A (newList []) (fun acc s₃=>wpAny (model X.prog X.w) X.A (newFunctionEnv scope X.env.globals cl [] X.env.qual none .none (some X.env)) (fun cenv s₄ =>
      codeAny (model X.prog X.w) X.A (.compStart (.ListComp elt [⟨tg,iter,ifs,0⟩] scope pos) 0 (.ref it) acc { cenv with scope:=relabel scope X.env }) (RR acc cenv.locals) s₄) X.xe s₃) X.xe s2:=by
  refine wpAny_newObj_type (hd:=by size_fits) (wpAny_newFunctionEnv hcell (by intro y hy; simp at hy) (fun h₁ hns₁ hsb₁=>?_) hkind)
  dsimp only at hns₁ hsb₁ ⊢
  have I3:Inv X pins σ (upd H1 s2.heap.objs.size (.lst [])) { s2 with heap:=s2.heap.push { cls:=.type "list", dict:=none,data:=.seq ([]:List Value).toArray } }:=I.lnew (t':=s2.toks) (its:=[]) (ys:=[]) .nil (Nat.zero_le _)
  obtain ⟨W,⟨m0,w0⟩,turn⟩:=hw s2.heap.objs.size I.fresh
  have hfpo:=T.obj 0 _ st
  have fpl:∀ b∈fp,b<s2.heap.objs.size:=fun b hb=>by
    obtain ⟨o,e,_⟩:=hfpo b hb
    exact Heap.lt_size e
  have fD:∀ b∈fp,upd H1 s2.heap.objs.size (.lst []) b=none:=fun b hb=>by
    rw [upd_ne (Nat.ne_of_lt (fpl b hb))]
    exact (hfp b hb).1
  generalize hs3:({ s2 with heap:=s2.heap.push { cls:=.type "list", dict:=none,data:=.seq ([]:List Value).toArray } }:Shared)=s3 at I3
  have es3:s3.heap=s2.heap.push { cls:=.type "list", dict:=none,data:=.seq ([]:List Value).toArray }:=by rw [← hs3]
  have st3:tn 0 s3.heap:=T.keep _ _ _ st fun b hb o e=>by rw [es3]; exact Heap.get?_push_of_some _ e
  rw [← es3] at hns₁ hsb₁ ⊢
  have sz3:s2.heap.objs.size<s3.heap.objs.size:=by rw [es3,Heap.size_push]; exact Nat.lt_succ_self _
  generalize upd H1 s2.heap.objs.size (.lst [])=H3 at I3 fD w0
  have old:∀ b o,s3.heap.get? b=some o→h₁.get? b=some o:=fun b o e=>hsb₁.extBut b o (Nat.ne_of_lt (Heap.lt_size e)) (Heap.get?_push_of_some _ e)
  have fpl3:∀ b∈fp,b<s3.heap.objs.size:=fun b hb=>Nat.lt_trans (fpl b hb) sz3
  have stk:∀ b∈fp,b∉frs X.stack:=fun b hb z=>by
    rcases List.mem_cons.mp (I3.stkSub b z) with e | e
    · exact (hfp b hb).2.1 e
    · exact (hfp b hb).2.2.1 e
  have ok:(compCx X N' scope cl s3.heap.objs.size s3 H3 fp pins).Ok:=by
    refine ⟨I3.ok.mod,hkind,I3.ok.glob,I3.ok.blt,Nat.le_refl _,fun x y c h1 h2=>I3.ok.inj x y c (fr.sub x c h1) (fr.sub y c h2),fun x h=>fr.has x h,fun x c h _=>(by cases h),I3.ok.hd,I3.ok.frames,.inl rfl,
      fun b hb=>⟨Nat.ne_of_lt (fpl3 b hb),fun x c e=>(hfp b hb).2.2.2.2.1 x c (fr.sub x c e)⟩,I3.bs,Nat.le_trans I3.ok.bsz I3.sz,fun b o e hb=>?_,fun b hb=>stk b hb,I3.stack,I3.stkFree⟩
    rcases (hfp b hb).2.2.2.1 with z | z
    · exact I3.ok.noex b o e z
    · have l1:b<X.base.objs.size:=Heap.lt_size e
      have l2:X.base.objs.size≤X.s₀.heap.objs.size:=I3.ok.bsz
      have l3:X.s₀.heap.objs.size≤b:=z
      exact absurd (Nat.lt_of_lt_of_le l1 (Nat.le_trans l2 l3)) (Nat.lt_irrefl _)
  have lt3:X.env.locals<s3.heap.objs.size:=I3.lt
  have start:Inv (compCx X N' scope cl s3.heap.objs.size s3 H3 fp pins) [] (σ0 σ) H3 { s3 with heap:=h₁ }:=by
    refine ⟨ok,rfl,I3.bare,Un.kept old,⟨_,hns₁,fun j x v e1 e2 _=>?_⟩,fun x c e=>?_,I3.hok.fresh (Nat.le_refl _),fun x c e=>I3.freeC x c (fr.sub x c e),fun p hp=>?_,I3.hok.kept old,fr.len⟩
    · obtain ⟨i,c,q1,q2,q3,q4,q5,q6⟩:=fr.vals j x v e1 e2
      obtain ⟨m,hn,hl⟩:=I3.loc
      obtain ⟨u,r,l⟩:=hl i x v q1 q2 q3
      refine ⟨u,r,.inr ⟨q6,c,q5,?_⟩⟩
      rcases l with ⟨k,_⟩ | ⟨_,c',e',z⟩
      · exact absurd k q4
      · rw [fr.sub x c q5] at e'
        cases e'
        obtain ⟨o,ho,hd⟩:=z
        exact ⟨o,old _ _ ho,hd⟩
    · obtain ⟨v,o,ho,hd⟩:=I3.cell x c (fr.sub x c e)
      exact ⟨v,o,old _ _ ho,hd⟩
    · have hp':p∈X.pn++pins:=by simpa [compCx] using hp
      obtain ⟨e,n,ne,nf,d⟩:=I3.pin p hp'
      refine ⟨old _ _ e,n,Nat.ne_of_lt (Heap.lt_size e),fun z=>?_,d⟩
      rcases List.mem_cons.mp (I3.stkSub p.1 z) with q | q
      · exact ne q
      · exact nf q
  have hst₁:tn 0 h₁:=T.keep _ _ _ st3 fun b _ o e=>old b o e
  have fpok:∀ {H':Hp},(∀ b∈fp,H' b=none)→∀ b∈fp,FpOk (compCx X N' scope cl s3.heap.objs.size s3 H3 fp pins) [] H' b:=fun {H'} hn b hb =>
    ⟨hn b hb,Nat.ne_of_lt (fpl3 b hb),stk b hb,.inl hb,fun x c e=>(hfp b hb).2.2.2.2.1 x c (fr.sub x c e),fun p hp=>(hfp b hb).2.2.2.2.2 p (by simpa [compCx] using hp)⟩
  have loop:codeAny (model X.prog X.w) X.A (.compLoop (.ListComp elt [⟨tg,iter,ifs,0⟩] scope pos) 0 (.ref it) (.ref s2.heap.objs.size) (compEnvC scope cl s3.heap.objs.size X.env)) (RR (.ref s2.heap.objs.size) s3.heap.objs.size) { s3 with heap:=h₁ }:=by
    refine compLoop_gen (fun n s'=>∃ i ys H',Inv (compCx X N' scope cl s3.heap.objs.size s3 H3 fp pins) [] (σ0 σ) H' s'∧tn i s'.heap∧(∀ b∈fp,H' b=none)∧W i n ys H') ?_ m0 ⟨0,[],H3,start,hst₁,fD,w0⟩
    rintro n s4 ⟨i,ys,H4,I4,st4,fr4,w4⟩
    rcases turn i n ys H4 w4 with ⟨stop,eD,q⟩ | ⟨go,step⟩
    · refine thn (T.done (compCx X N' scope cl s3.heap.objs.size s3 H3 fp pins) rfl rfl rfl hc i [] s4 _ H4 _ I4 (fpok fr4) st4 stop) fun r s5 ⟨hr,I5⟩=>?_
      subst hr
      obtain ⟨m5,n5,_⟩:=I5.loc
      have J5:Inv X pins σ H4 s5:=I3.call' I5.os I5.base I5.hok I5.bare fun b hb=>⟨(hfp b hb).2.2.2.1,(hfp b hb).2.1,(hfp b hb).2.2.2.2.1,(hfp b hb).2.2.2.2.2⟩
      exact hRR _ _ s5 H4 m5 J5 n5 I5.free (Nat.ne_of_gt lt3) I3.sz (fun x c e z=>by
        obtain ⟨v,o,ho,_⟩:=I3.cell x c e
        exact absurd (Heap.lt_size ho) (by rw [z]; exact Nat.lt_irrefl _)) (fun p hp z=>by
        have e:=(I3.pin p hp).1
        exact absurd (Heap.lt_size e) (by rw [z]; exact Nat.lt_irrefl _)) q
    · refine thn (T.item (compCx X N' scope cl s3.heap.objs.size s3 H3 fp pins) rfl rfl rfl hc i [] s4 _ H4 _ I4 (fpok fr4) st4 go) fun r s5 ⟨u,hr,h5⟩=>?_
      subst hr
      refine thn h5 fun _ s6 ⟨x,H6,I6,r6,y6,st6,fr6⟩=>?_
      have I6':=I6.pinned (fpok fr6) (T.obj _ _ st6)
      refine thn (hg _ _ _ _ _ _ s6 _ H6 x u _ I6' r6 (hk _ _ _ (step x H6 y6))) fun _ s7 ⟨σ7,H7,I7,q7,l7,k7⟩=>?_
      have again:∀ {s8:Shared} {H8:Hp} {m:Nat} {zs:List V},Inv (compCx X N' scope cl s3.heap.objs.size s3 H3 fp pins) ([]++pinsAt fp s6.heap) σ7 H8 s8→m<n→W (i+1) m zs H8 →
          ∃ m,m<n∧∃ i ys H',Inv (compCx X N' scope cl s3.heap.objs.size s3 H3 fp pins) [] (σ0 σ) H' s8∧tn i s8.heap∧(∀ b∈fp,H' b=none)∧W i m ys H':=fun {s8 H8 m zs} I8 hm w8=>by
        refine ⟨m,hm,i+1,zs,H8,(Inv.unpinned I8).weak l7.symm k7,T.keep _ _ _ st6 fun b hb o e=>(I8.pin (b,o) (List.mem_append_right _ (List.mem_append_right _ (mem_pinsAt hb e)))).1,fun b hb=>?_,w8⟩
        obtain ⟨o,e,d⟩:=T.obj _ _ st6 b hb
        exact (I8.pin (b,o) (List.mem_append_right _ (List.mem_append_right _ (mem_pinsAt hb e)))).2.1
      refine thn (ht _ _ _ _ _ _ s7 σ7 H7 _ I7 q7) fun c s8 ⟨H8,I8,q8⟩=>?_
      cases c with
      | false =>
        rw [if_neg Bool.false_ne_true] at q8 ⊢
        obtain ⟨m',hm,w8⟩:=q8
        exact again I8 hm w8
      | true =>
        rw [if_pos rfl] at q8 ⊢
        refine thn (he _ _ _ _ _ _ s8 σ7 H8 _ I8 q8) fun v s9 ⟨y,H9,I9,r9,e9,z9,m',hm,w9⟩=>?_
        exact thn (mt_append _ s9 σ7 H9 (.ref s2.heap.objs.size) [y] (.ref s2.heap.objs.size) [v] (fun _ H'=>H'=upd H9 s2.heap.objs.size (.lst (ys++[y]))) I9 rfl (.cons r9 .nil) ⟨_,ys,y,rfl,rfl,e9,z9,rfl⟩)
          fun _ s10 ⟨_,H10,I10,_,e10⟩=>by subst e10; exact again I10 hm w9
  subst hs3
  exact codeAny_compStart_list loop (T.self _ 0 _ _ _ hst₁ loop)
def tComp (wi:TI) (g:TG) (tt:TT) (te:TE) (σ0:St→St):TE:=fun σ H Q=>wi σ H fun J H1=>compW J g tt te (σ0 σ) H1 Q
def tTrue:TT:=fun _ H Q=>Q true H
variable {pos:Pos} {wi:TI}
theorem pe_compG (hc:X.calm=true) (hi:PI X tg iter wi) (fr:∀ σ:St,σ.length=X.N.length→Frees X N' scope cl σ (σ0 σ)) (hk:∀ σ,Keepg g (σ0 σ))
    (hg:∀ C s3 H3 fp pins,PG (compCx X N' scope cl C s3 H3 fp pins) tg g)
    (ht:∀ C s3 H3 fp pins (pl:List (Addr×Obj)) (s:Shared) (σ:St) (H:Hp) (Q:Bool→Hp→Prop),Inv (compCx X N' scope cl C s3 H3 fp pins) pl σ H s→tt σ H Q →
      wpAny (model X.prog X.w) X.A (forIn ifs true fun c r=>if r=true then do let ok ← isTrue c (compEnvC scope cl C X.env) (eval c (compEnvC scope cl C X.env)); pure (ForInStep.yield ok) else pure (ForInStep.yield r)) (TP (compCx X N' scope cl C s3 H3 fp pins) pl σ Q) (fun _ _=>False) s)
    (he:∀ C s3 H3 fp pins,PE (compCx X N' scope cl C s3 H3 fp pins) elt te)
    (hclos:closureFor scope X.env=pure cl) (hcell:∀ y∈scope.names,y.2≠.cell) (hkind:scope.kind=.function) (hnames:∀ y∈scope.names,y.2=.local→scope.names.lookup y.1=some .local)
    (hs:∀ x,foldedSetIterable iter X.env x=pure x):PE X (.ListComp elt [⟨tg,iter,ifs,0⟩] scope pos) (tComp wi g tt te σ0):=by
  intro pins s σ H Q I h
  rw [eval_ListComp]
  refine wpAny_comprehension_free (use:=none) rfl hs hclos hkind hnames (thn (hi pins s σ H _ I h) fun v s1 h1=>thn h1 fun itv s2 h2=>?_)
  obtain ⟨it,fp,tn,J,H2,e,I2,T,st2,f2,q⟩:=h2
  subst e
  refine comp_block (RR:=fun acc C=>compPost (model X.prog X.w) X.A X.xe none (EP X pins σ Q) acc C) hc hcell hkind I2 T st2 f2 (fr σ I.len) (hk σ) hg ht he q ?_
  intro D C s' H' m I' hn hC h1 h2 h3 h4 q'
  refine ⟨m,hn,fun h'' hs''=>⟨.ref D,H',?_,rfl,q'⟩⟩
  exact I'.turned (t':=s'.toks) (fun b o hb e=>hs''.extBut b o hb e) hC h1 (.inr h2) h3 h4
def tSetC (t:TE) (i:Nat):TS:=fun D σ H=>t σ H fun x H1=>D.nx (σ.set i (some x)) H1
theorem ps_setCG {i:Nat} {x:Str} {pos' spos:Pos} (hN:X.N.Nodup) (hi':X.N[i]?=some x) (hx:Loc X.env.scope x) (hf:X.fn x=true∨X.env.scope.names.lookup x=some .local)
    (hc:X.calm=true) (hi:PI X tg iter wi) (fr:∀ σ:St,σ.length=X.N.length→Frees X N' scope cl σ (σ0 σ)) (hk:∀ σ,Keepg g (σ0 σ))
    (hg:∀ C s3 H3 fp pins,PG (compCx X N' scope cl C s3 H3 fp pins) tg g)
    (ht:∀ C s3 H3 fp pins (pl:List (Addr×Obj)) (s:Shared) (σ:St) (H:Hp) (Q:Bool→Hp→Prop),Inv (compCx X N' scope cl C s3 H3 fp pins) pl σ H s→tt σ H Q →
      wpAny (model X.prog X.w) X.A (forIn ifs true fun c r=>if r=true then do let ok ← isTrue c (compEnvC scope cl C X.env) (eval c (compEnvC scope cl C X.env)); pure (ForInStep.yield ok) else pure (ForInStep.yield r)) (TP (compCx X N' scope cl C s3 H3 fp pins) pl σ Q) (fun _ _=>False) s)
    (he:∀ C s3 H3 fp pins,PE (compCx X N' scope cl C s3 H3 fp pins) elt te)
    (hclos:closureFor scope X.env=pure cl) (hcell:∀ y∈scope.names,y.2≠.cell) (hkind:scope.kind=.function) (hnames:∀ y∈scope.names,y.2=.local→scope.names.lookup y.1=some .local)
    (hs:∀ x,foldedSetIterable iter X.env x=pure x) (hsw:swapsWith (.ListComp elt [⟨tg,iter,ifs,0⟩] scope pos) (some (.Name x pos')) spos.line X.env=pure true) :
    PS X (.Assign [.Name x pos'] (.ListComp elt [⟨tg,iter,ifs,0⟩] scope pos) spos) (tSetC (tComp wi g tt te σ0) i):=by
  intro pins s σ H D I h
  rw [exec_Assign_Name_used _ _ _ _ hsw]
  refine wpAny_bind (wpAny_standAt (wpAny_bind ?_))
  show wpAny _ X.A (do let _ ← comprehension (.ListComp elt [⟨tg,iter,ifs,0⟩] scope pos) scope X.env _ (newList []) false (eval iter X.env) (some (assign (.Name x pos') X.env))) _ _ s
  refine wpAny_bind (wpAny_mono (wpAny_comprehension_free (Q:=fun _ s'=>SP X pins D .next s') (use:=some (assign (.Name x pos') X.env)) rfl hs hclos hkind hnames (thn (hi pins s σ H _ I h) fun v s1 h1=>thn h1 fun itv s2 h2=>?_))
    (fun _ s' hq=>wpAny_pure (wpAny_pure hq)) fun _ _ e=>e)
  obtain ⟨it,fp,tn,J,H2,e,I2,T,st2,f2,q⟩:=h2
  subst e
  refine comp_block (RR:=fun acc C=>compPost (model X.prog X.w) X.A X.xe (some (assign (.Name x pos') X.env)) (fun _ s'=>SP X pins D .next s') acc C) hc hcell hkind I2 T st2 f2 (fr σ I.len) (hk σ) hg ht he q ?_
  intro Dl C s' H' m I' hn hC h1 h2 h3 h4 q'
  show wpAny _ _ (assign (.Name x pos') X.env (.ref Dl)) _ _ s'
  refine wpAny_assign_Name (store_ok2 (v:=.ref Dl) I' hN hi' hx rfl (fun s'' I'' ⟨a,hsb,ha⟩=>?_) hf)
  have hne:C≠a:=by
    rcases ha with rfl | ha
    · exact h1
    · exact Ne.symm (h3 x a ha)
  refine ⟨m,hn.sameBut hsb hne,fun h'' hs''=>⟨_,H',?_,q'⟩⟩
  exact I''.turned (t':=s''.toks) (fun b o hb e=>hs''.extBut b o hb e) hC h1 (.inr h2) h3 h4
end
end L2
namespace L2
open PySem PySem.Spec PyProof.Rows
section
variable {X:Cx} {iter elt c:Expr} {scope:Scope} {y z:Str} {py pos:Pos} {wi:TI} {te:TE} {tt:TT}
theorem tests0 {N':List Str} {cl:List (Str×Addr)}:∀ C s3 H3 fp pins (pl:List (Addr×Obj)) (s:Shared) (σ:St) (H:Hp) (Q:Bool→Hp→Prop),Inv (compCx X N' scope cl C s3 H3 fp pins) pl σ H s→tTrue σ H Q →
    wpAny (model X.prog X.w) X.A (forIn ([]:List Expr) true fun c r=>if r=true then do let ok ← isTrue c (compEnvC scope cl C X.env) (eval c (compEnvC scope cl C X.env)); pure (ForInStep.yield ok) else pure (ForInStep.yield r)) (TP (compCx X N' scope cl C s3 H3 fp pins) pl σ Q) (fun _ _=>False) s :=
  fun _ _ _ _ _ _ _ _ H _ I h=>wpAny_tests_nil ⟨H,I,h⟩
theorem tests1 {N':List Str} {cl:List (Str×Addr)} (ht:∀ C s3 H3 fp pins,PT (compCx X N' scope cl C s3 H3 fp pins) c tt):∀ C s3 H3 fp pins (pl:List (Addr×Obj)) (s:Shared) (σ:St) (H:Hp) (Q:Bool→Hp→Prop),Inv (compCx X N' scope cl C s3 H3 fp pins) pl σ H s→tt σ H Q →
    wpAny (model X.prog X.w) X.A (forIn [c] true fun c r=>if r=true then do let ok ← isTrue c (compEnvC scope cl C X.env) (eval c (compEnvC scope cl C X.env)); pure (ForInStep.yield ok) else pure (ForInStep.yield r)) (TP (compCx X N' scope cl C s3 H3 fp pins) pl σ Q) (fun _ _=>False) s :=
  fun C s3 H3 fp pins pl s σ H Q I h=>wpAny_tests_one (ht C s3 H3 fp pins pl s σ H Q I h)
end
end L2
namespace L2
open PySem PySem.Spec PyProof.Rows
section
variable {X:Cx}
theorem Vals.insert {xs:List V} {us:List Value} {y:V} {u:Value} (k:Nat) (h:Vals xs us) (r:RelV y u):Vals (xs.take k++y::xs.drop k) (us.take k++u::us.drop k) :=
  Vals.append (h.take k) (.cons r (h.drop k))
def rInsert:V→List V→Hp→VK→Prop:=fun x vs H Q=>∃ l xs i y,x=.ref l∧vs=[.int i,y]∧H l=some (.lst xs)∧0≤i∧i≤xs.length∧xs.length<sizeLine∧Q .non (upd H l (.lst (xs.take i.toNat++y::xs.drop i.toNat)))
theorem mt_insert:MtM X "list.insert" rInsert:=by
  intro pins s σ H x vs v us Q I rx rv h
  obtain ⟨l,xs,i,y,rfl,rfl,hH,h0,h1,hz,q⟩:=h
  cases rx
  obtain ⟨u,w',rfl,⟨t,rfl⟩,ru⟩:=vals2 rv
  obtain ⟨z,its,n,r,hl,e⟩:=I.lstM hH
  have hn:=line63
  refine call_meets F.slot_list_insert ⟨_,e,rfl⟩ F.entry_list_insert (F.args_list_insert_3 _ _ _) (AutoListH.list_insert_list_int_val_1 l its.toArray n i t w' (by rw [fitsIndex_both (by omega) (by omega)]; exact Bool.false_ne_true) (by rw [List.size_toArray]; omega)) ⟨e,?_⟩
  refine ⟨.non,_,I.lset (its':=its.take i.toNat++w'::its.drop i.toNat) hH e ?_ (Vals.insert _ r ru) ?_,rfl,q⟩
  · have hk:(if i<0 then (i+((its.toArray.size:Nat):Int)).toNat else min i.toNat its.toArray.size)=i.toNat:=by
      rw [if_neg (by omega),List.size_toArray]
      omega
    dsimp only
    rw [hk]
    apply Array.ext'
    simp
    exact List.take_of_length_le (by simp)
  · rw [List.length_append,List.length_cons,List.length_take,List.length_drop]
    omega
end
section
variable {prog:Program} {w:World} {A:Around} {R:Result→Shared→Prop} {I:Addr} {fp wr:List Addr} {n:Nat} {P:Nat→Value→Prop} {St:Nat→Heap→Prop} {kw:List (Str×Value)}
end
section
variable {prog:Program} {w:World} {A:Around} {E:Value→Shared→Prop} {s:Shared}
end
section
variable {X:Cx}
end
section
variable {X:Cx}
theorem pe_globI {x:Str} {i:Int} {pos:Pos} (hg:Gl X x) (hm:∃ t,X.mg x=some (.int i t)) (hd:(x==("__debug__" : Str))=false:=by decide):PE X (.Name x pos) (tC (.int i)):=by
  obtain ⟨t,e⟩:=hm
  exact pe_glob hg e ⟨t,rfl⟩ hd
end
theorem bt_len:bootBuiltins "len" = some (.builtin "len"):=by decide +kernel
theorem bt_max:bootBuiltins "max" = some (.builtin "max"):=by decide +kernel
theorem bt_isinstance:bootBuiltins "isinstance" = some (.builtin "isinstance"):=by decide +kernel
theorem bt_sorted:bootBuiltins "sorted" = some (.builtin "sorted"):=by decide +kernel
theorem bt_int:bootBuiltins "int" = some (.type "int"):=by decide +kernel
theorem bt_bool:bootBuiltins "bool" = some (.type "bool"):=by decide +kernel
theorem bt_list:bootBuiltins "list" = some (.type "list"):=by decide +kernel
theorem bt_set:bootBuiltins "set" = some (.type "set"):=by decide +kernel
theorem bt_tuple:bootBuiltins "tuple" = some (.type "tuple"):=by decide +kernel
theorem same_new {H:Hp} {a:Addr} {o:HO} (h:H a=none):Same H (upd H a o):=fun b u e=>by
  rw [upd_ne (ne_of_none e h)]
  exact e
theorem Paired.mono {α β:Type} {F G:α→β→Prop}:∀ {as:List α} {bs:List β},Paired F as bs→(∀ a b,a∈as→F a b→G a b)→Paired G as bs
  | _,_,.nil,_=>.nil
  | _,_,.cons r t,h=>.cons (h _ _ List.mem_cons_self r) (Paired.mono t fun a b m=>h a b (List.mem_cons_of_mem _ m))
theorem Paired.append {α β:Type} {F:α→β→Prop}:∀ {as cs:List α} {bs ds:List β},Paired F as bs→Paired F cs ds→Paired F (as++cs) (bs++ds)
  | _,_,_,_,.nil,s=>s
  | _,_,_,_,.cons r t,s=>.cons r (Paired.append t s)
theorem Paired.take {α β:Type} {F:α→β→Prop}:∀ (n:Nat) {as:List α} {bs:List β},Paired F as bs→Paired F (as.take n) (bs.take n)
  | 0,_,_,_=>.nil
  | _+1,_,_,.nil=>.nil
  | n+1,_,_,.cons r t=>.cons r (Paired.take n t)
theorem Paired.drop {α β:Type} {F:α→β→Prop}:∀ (n:Nat) {as:List α} {bs:List β},Paired F as bs→Paired F (as.drop n) (bs.drop n)
  | 0,_,_,h=>h
  | _+1,_,_,.nil=>.nil
  | n+1,_,_,.cons _ t=>Paired.drop n t
section
variable {X:Cx} {K:PySem.W.Frag}
theorem sl_listK (h:X.K=K):SlR X (rSlL K):=by subst h; exact sl_list
theorem op_notIn_seqK (h:X.K=K):OpR X (compareOp .NotIn) (rIn K true):=by subst h; exact op_notIn_seq
theorem call_list_ofK (h:X.K=K):CallR X (.type "list") (fun xs H Q=>∃ p ys,xs=[.ref p]∧(SqL K H p ys∨SqT K H p ys)∧∀ l,H l=none→Q (.ref l) (upd H l (.lst ys))):=by subst h; exact call_list_of
theorem call_isiK (h:X.K=K):CallR X (.builtin "isinstance") (fun xs H Q=>∃ x n t b,xs=[x,.ty n]∧TyOf K H x t∧PySem.W.kitOne K t (.type n)=some b∧Q (.bl b) H):=by subst h; exact call_isi
theorem pt_truthK {a:Expr} {ta:TE} (h:X.K=K) (ha:PE X a ta) (he:∀ whole,isTrue a X.env whole=(do let v ← whole; standAt a.pos; holding [v] (truthy v))) :
    PT X a (fun σ H Q=>ta σ H fun x H'=>∃ k,TruV K x H' k∧Q k H'):=by subst h; exact pt_truth ha he
end
end L2
namespace L2
open PySem PySem.Spec PyProof.Rows
section
variable {X:Cx}
end
end L2
namespace L2
open PySem PySem.Spec PyProof.Rows
section
variable {prog:Program} {w:World} {A:Around} {E:Value→Shared→Prop}
end
section
variable {X:Cx} {pos:Pos}
end
end L2
namespace L2
open PySem PySem.Spec PyProof.Rows
section
variable {κ:Type} [DecidableEq κ]
end
section
variable {P:Program} {w:World} {H:Hp} {h:Heap} {a:Addr}
end
section
variable {X:Cx} {pins:List (Addr×Obj)} {σ:St} {H:Hp} {s:Shared} {a:Addr} {y v:V} {u r:Value} {o:Option V} {A:Around} {E:Value→Shared→Prop}
end
section
variable {X:Cx} {pins:List (Addr×Obj)} {σ:St} {H:Hp} {s:Shared} {a:Addr} {kvs:List (Key×V)} {k:Key} {u:Value} {A:Around} {E:Value→Shared→Prop}
end
section
variable {X:Cx} {o i e value:Expr} {pos pos' tpos:Pos} {td ty tv:TE}
end
section
variable {X:Cx} {pos:Pos}
end
structure M1 (X:Cx) (o:Expr) (m:Str) (apos:Pos) (e:Expr) (cpos:Pos):Prop where
  base:attributeBase o m X.env (eval o X.env)=eval o X.env
  few:((backTo cpos (starEach [e] X.env)).all (fun x=>!x.1)&&(backToKw cpos (keywordEach [] X.env)).all (fun x=>x.1.isSome)
    && decide (([e]:List Expr).length+([]:List Keyword).length+(if ([]:List Keyword).isEmpty then 0 else 1)<30))=true
  line:(apos.endLine==cpos.line)=true
  trees:backTo cpos (starEach [e] X.env)=[(false,eval e X.env)]
structure M2 (X:Cx) (o:Expr) (m:Str) (apos:Pos) (e f:Expr) (cpos:Pos):Prop where
  base:attributeBase o m X.env (eval o X.env)=eval o X.env
  few:((backTo cpos (starEach [e,f] X.env)).all (fun x=>!x.1)&&(backToKw cpos (keywordEach [] X.env)).all (fun x=>x.1.isSome)
    && decide (([e,f]:List Expr).length+([]:List Keyword).length+(if ([]:List Keyword).isEmpty then 0 else 1)<30))=true
  line:(apos.endLine==cpos.line)=true
  trees:backTo cpos (starEach [e,f] X.env)=[(false,eval e X.env),(false,eval f X.env)]
section
variable {X:Cx} {pins:List (Addr×Obj)} {σ:St} {H:Hp} {s:Shared} {a:Addr} {y d:V} {u r:Value} {o:Option V} {A:Around} {E:Value→Shared→Prop}
end
section
variable {X:Cx} {o e f:Expr} {apos cpos:Pos} {td ty tx:TE}
end
section
variable {X:Cx} {pins:List (Addr×Obj)} {σ:St} {H:Hp} {s:Shared} {a:Addr} {kvs:List (Key×V)} {A:Around} {E:Value→Shared→Prop}
end
section
variable {X:Cx} {pins:List (Addr×Obj)} {σ:St} {H:Hp} {s:Shared} {a:Addr} {y:V} {u:Value} {A:Around} {E:Value→Shared→Prop}
end
end L2
namespace Tm
open PySem PyProof.Rows
def gallop':Bool→Keyed→Array Keyed→Nat→Nat→Nat→StateT SortSt Sem (Option Nat):=sortPriv% PySem.Builtin.gallop
def mergeLo':Array Keyed→Array Keyed→StateT SortSt Sem (Array Keyed):=sortPriv% PySem.Builtin.mergeLo
def mergeHi':Array Keyed→Array Keyed→StateT SortSt Sem (Array Keyed):=sortPriv% PySem.Builtin.mergeHi
abbrev setG (st:SortSt) (g:Nat):SortSt:=SortSt.mk' (kindOf st) (arrOf st) (pendingOf st) g (failedOf st)
def setMinGallop' (g:Nat):StateT SortSt Sem Unit:=modify fun s=>setG s g
theorem gallop'_eq (left:Bool) (key:Keyed) (arr:Array Keyed) (base n hint:Nat):gallop' left key arr base n hint=(do
  let beyond (i:Nat):StateT SortSt Sem (Option Bool):=do
    let x ← elem' arr (base+i)
    if left then lt' x key else return (← lt' key x).map (!·)
  let mut lastofs:=0
  let mut ofs:=1
  let mut lo:=0
  let mut hi:=0
  let some right ← beyond hint | return none
  if right then
    let maxofs:=n-hint
    for _ in [0:n] do
      if ofs ≥ maxofs then break
      let some more ← beyond (hint+ofs) | return none
      if !more then break
      lastofs:=ofs
      ofs:=2*ofs+1
    lo:=hint+lastofs+1
    hi:=hint+min ofs maxofs
  else
    let maxofs:=hint+1
    for _ in [0:n] do
      if ofs ≥ maxofs then break
      let some found ← beyond (hint-ofs) | return none
      if found then break
      lastofs:=ofs
      ofs:=2*ofs+1
    lo:=hint+1-min ofs maxofs
    hi:=hint-lastofs
  for _ in [0:n] do
    if lo ≥ hi then break
    let m:=lo+(hi-lo) / 2
    let some more ← beyond m | return none
    if more then lo:=m+1 else hi:=m
  return some hi):=rfl
theorem mergeLo'_eq (a b:Array Keyed):mergeLo' a b=(do
  rule "list.sort.merge-lo"
  let total:=a.size+b.size
  let done (out:Array Keyed) (ia ib:Nat):=out++a.extract ia a.size++b.extract ib b.size
  let lastOfA (out:Array Keyed) (ia ib:Nat):=out++b.extract ib b.size++a.extract ia a.size
  let mut out:Array Keyed:=#[← elem' b 0]
  let mut ia:=0
  let mut ib:=1
  if ib==b.size then return done out ia ib
  if ia+1==a.size then return lastOfA out ia ib
  let mut minGallop:=gallopOf (← get)
  for _ in [0:total] do
    let mut acount:=0
    let mut bcount:=0
    for _ in [0:total] do
      let some bWins ← lt' (← elem' b ib) (← elem' a ia) | return done out ia ib
      if bWins then
        out:=out.push (← elem' b ib); ib:=ib+1; bcount:=bcount+1; acount:=0
        if ib==b.size then return done out ia ib
        if bcount ≥ minGallop then break
      else
        out:=out.push (← elem' a ia); ia:=ia+1; acount:=acount+1; bcount:=0
        if ia+1==a.size then return lastOfA out ia ib
        if acount ≥ minGallop then break
    rule "list.sort.gallop"
    minGallop:=minGallop+1
    for _ in [0:total] do
      if minGallop > 1 then minGallop:=minGallop-1
      setMinGallop' minGallop
      let some k ← gallop' false (← elem' b ib) a ia (a.size-ia) 0 | return done out ia ib
      acount:=k
      if k > 0 then
        out:=out++a.extract ia (ia+k); ia:=ia+k
        if ia+1==a.size then return lastOfA out ia ib
        if ia==a.size then return done out ia ib
      out:=out.push (← elem' b ib); ib:=ib+1
      if ib==b.size then return done out ia ib
      let some k ← gallop' true (← elem' a ia) b ib (b.size-ib) 0 | return done out ia ib
      bcount:=k
      if k > 0 then
        out:=out++b.extract ib (ib+k); ib:=ib+k
        if ib==b.size then return done out ia ib
      out:=out.push (← elem' a ia); ia:=ia+1
      if ia+1==a.size then return lastOfA out ia ib
      if acount<7&&bcount<7 then break
    minGallop:=minGallop+1
    setMinGallop' minGallop
  unsupported "internal:list.sort.merge-bound"):=rfl
end Tm
namespace Tm
open PySem PyProof.Rows
section
variable {M:Model} {A:Around} {E:Value→Shared→Prop} {s:Shared} {κ:SortKind} {G:Keyed→Prop} {C:Keyed→Keyed→Bool}
def CmpOk (M:Model) (A:Around) (E:Value→Shared→Prop) (s:Shared) (κ:SortKind) (G:Keyed→Prop) (C:Keyed→Keyed→Bool):Prop :=
  ∀ {x y:Keyed} {Q:Option Bool→SortSt→Prop} {st:SortSt},G x→G y→kindOf st=κ→Q (some (C x y)) st→wpS M A E s (lt' x y) Q st
structure OrdC (C:Keyed→Keyed→Bool):Prop where
  as:∀ x y,C x y=true→C y x=false
  tr:∀ x y z,C y x=false→C z y=false→C z x=false
theorem wpS_elem {arr:Array Keyed} {i:Nat} {x:Keyed} {Q:Keyed→SortSt→Prop} {st:SortSt} (e:arr[i]?=some x) (h:Q x st):wpS M A E s (elem' arr i) Q st:=by
  rw [elem'_eq,e]
  exact wpS_pure h
def bey (left:Bool) (key:Keyed) (C:Keyed→Keyed→Bool) (x:Keyed):Bool:=if left=true then C x key else !(C key x)
theorem wpS_beyond (hC:CmpOk M A E s κ G C) {left:Bool} {key:Keyed} {arr:Array Keyed} {i:Nat} {x:Keyed} {Q:Option Bool→SortSt→Prop} {st:SortSt} (hk:kindOf st=κ) (gk:G key) (e:arr[i]?=some x) (gx:G x) (h:Q (some (bey left key C x)) st) :
    wpS M A E s (do let x ← elem' arr i; if left=true then lt' x key else do let r ← lt' key x; pure (r.map (!·))) Q st:=by
  refine wpS_bind (wpS_elem e ?_)
  unfold bey at h
  cases left with
  | true=>exact hC gx gk hk h
  | false=>exact wpS_bind (hC gk gx hk (wpS_pure h))
theorem wpS_gallop (hC:CmpOk M A E s κ G C) {left:Bool} {key:Keyed} {arr:Array Keyed} {base n hint:Nat} {Q:Option Nat→SortSt→Prop} {st:SortSt} (hk:kindOf st=κ) (gk:G key) (B:Nat→Bool)
    (hb:∀ i,i<n→∃ x,arr[base+i]?=some x∧G x∧bey left key C x=B i) (mono:∀ i j,i≤j→j<n→B j=true→B i=true) (hh:hint<n)
    (h:∀ k,k≤n→(∀ i,i<k→B i=true)→(∀ i,k≤i→i<n→B i=false)→Q (some k) st):wpS M A E s (gallop' left key arr base n hint) Q st:=by
  have ask:∀ (i:Nat) (Q:Option Bool→SortSt→Prop),i<n→Q (some (B i)) st→wpS M A E s (do let x ← elem' arr (base+i); if left=true then lt' x key else do let r ← lt' key x; pure (r.map (!·))) Q st:=fun i Q hi q=>by
    obtain ⟨x,e,gx,eb⟩:=hb i hi
    exact wpS_beyond hC hk gk e gx (by rw [eb]; exact q)
  have monoF:∀ i j,i≤j→j<n→B i=false→B j=false:=fun i j hij hj e=>by
    cases q:B j with
    | false=>rfl
    | true=>rw [mono i j hij hj q] at e; cases e
  rw [gallop'_eq]
  dsimp only
  refine wpS_bind (ask hint _ hh ?_)
  dsimp only
  cases hB:B hint with
  | true =>
    rw [if_pos rfl]
    refine wpS_bind (wpS_mono (wpS_forRange (I:=fun x c st'=>st'=st∧∃ la ofs,c=(none,la,ofs)∧x+1≤ofs∧la<ofs∧la<n-hint∧B (hint+la)=true)
      (Q:=fun c st'=>st'=st∧∃ la ofs,c=(none,la,ofs)∧la<ofs∧la<n-hint∧B (hint+la)=true∧(n-hint≤ofs∨(ofs<n-hint∧B (hint+ofs)=false))) ?step ?fin ⟨rfl,0,1,rfl,by omega,by omega,by omega,hB⟩) ?post)
    case fin =>
      rintro c st' ⟨rfl,la,ofs,rfl,a1,a2,a3,a4⟩
      exact ⟨rfl,la,ofs,rfl,a2,a3,a4,.inl (by omega)⟩
    case post =>
      rintro c st' ⟨rfl,la,ofs,rfl,a2,a3,a4,a5⟩
      dsimp only
      have hhi:∀ i,hint+min ofs (n-hint)≤i→i<n→B i=false:=fun i h1 h2=>by
        rcases a5 with a5 | ⟨a5,a6⟩
        · omega
        · exact monoF _ i (by omega) h2 a6
      refine wpS_bind (wpS_mono (wpS_forRange (I:=fun x c st''=>st''=st'∧∃ lo hi,c=(none,lo,hi)∧lo≤hi∧hi≤n∧hi-lo≤n-x∧(∀ i,i<lo→B i=true)∧(∀ i,hi≤i→i<n→B i=false))
        (Q:=fun c st''=>st''=st'∧∃ lo hi,c=(none,lo,hi)∧lo=hi∧hi≤n∧(∀ i,i<lo→B i=true)∧(∀ i,hi≤i→i<n→B i=false)) ?step2 ?fin2 ⟨rfl,hint+la+1,hint+min ofs (n-hint),rfl,by omega,by omega,by omega,fun i hi=>mono i _ (by omega) (by omega) a4,hhi⟩) ?post2)
      case fin2 =>
        rintro c st'' ⟨rfl,lo,hi,rfl,a1,a2,a3,a4,a5⟩
        exact ⟨rfl,lo,hi,rfl,by omega,a2,a4,a5⟩
      case post2 =>
        rintro c st'' ⟨rfl,lo,hi,rfl,rfl,a2,a4,a5⟩
        exact wpS_pure (h lo a2 a4 a5)
      case step2 =>
        rintro x c st'' _ hx ⟨rfl,lo,hi,rfl,a1,a2,a3,a4,a5⟩
        dsimp only
        by_cases c:lo ≥ hi
        · rw [if_pos c]
          exact wpS_pure ⟨rfl,lo,hi,rfl,by omega,a2,a4,a5⟩
        · rw [if_neg c]
          refine wpS_bind (ask _ _ (by omega) ?_)
          dsimp only
          cases q:B (lo+(hi-lo) / 2) with
          | true =>
            rw [if_pos rfl]
            exact wpS_pure ⟨rfl,_,_,rfl,by omega,a2,by omega,fun i hi'=>mono i _ (by omega) (by omega) q,a5⟩
          | false =>
            rw [if_neg Bool.false_ne_true]
            exact wpS_pure ⟨rfl,_,_,rfl,by omega,by omega,by omega,a4,fun i h1 h2=>monoF _ i h1 h2 q⟩
    case step =>
      rintro x c st' _ hx ⟨rfl,la,ofs,rfl,a1,a2,a3,a4⟩
      dsimp only
      by_cases c:ofs ≥ n-hint
      · rw [if_pos c]
        exact wpS_pure ⟨rfl,la,ofs,rfl,a2,a3,a4,.inl c⟩
      · rw [if_neg c]
        refine wpS_bind (ask _ _ (by omega) ?_)
        dsimp only
        cases q:B (hint+ofs) with
        | true =>
          rw [if_neg (by decide)]
          exact wpS_pure ⟨rfl,_,_,rfl,by omega,by omega,by omega,q⟩
        | false =>
          rw [if_pos (by decide)]
          exact wpS_pure ⟨rfl,_,_,rfl,a2,a3,a4,.inr ⟨by omega,q⟩⟩
  | false =>
    rw [if_neg Bool.false_ne_true]
    refine wpS_bind (wpS_mono (wpS_forRange (I:=fun x c st'=>st'=st∧∃ la ofs,c=(none,la,ofs)∧x+1≤ofs∧la<ofs∧la<hint+1∧B (hint-la)=false)
      (Q:=fun c st'=>st'=st∧∃ la ofs,c=(none,la,ofs)∧la<ofs∧la<hint+1∧B (hint-la)=false∧(hint+1≤ofs∨(ofs<hint+1∧B (hint-ofs)=true))) ?step ?fin ⟨rfl,0,1,rfl,by omega,by omega,by omega,hB⟩) ?post)
    case fin =>
      rintro c st' ⟨rfl,la,ofs,rfl,a1,a2,a3,a4⟩
      exact ⟨rfl,la,ofs,rfl,a2,a3,a4,.inl (by omega)⟩
    case post =>
      rintro c st' ⟨rfl,la,ofs,rfl,a2,a3,a4,a5⟩
      dsimp only
      have hlo:∀ i,i<hint+1-min ofs (hint+1)→B i=true:=fun i hi=>by
        rcases a5 with a5 | ⟨a5,a6⟩
        · omega
        · exact mono i _ (by omega) (by omega) a6
      refine wpS_bind (wpS_mono (wpS_forRange (I:=fun x c st''=>st''=st'∧∃ lo hi,c=(none,lo,hi)∧lo≤hi∧hi≤n∧hi-lo≤n-x∧(∀ i,i<lo→B i=true)∧(∀ i,hi≤i→i<n→B i=false))
        (Q:=fun c st''=>st''=st'∧∃ lo hi,c=(none,lo,hi)∧lo=hi∧hi≤n∧(∀ i,i<lo→B i=true)∧(∀ i,hi≤i→i<n→B i=false)) ?step2 ?fin2 ⟨rfl,hint+1-min ofs (hint+1),hint-la,rfl,by omega,by omega,by omega,hlo,fun i h1 h2=>monoF _ i h1 h2 a4⟩) ?post2)
      case fin2 =>
        rintro c st'' ⟨rfl,lo,hi,rfl,a1,a2,a3,a4,a5⟩
        exact ⟨rfl,lo,hi,rfl,by omega,a2,a4,a5⟩
      case post2 =>
        rintro c st'' ⟨rfl,lo,hi,rfl,rfl,a2,a4,a5⟩
        exact wpS_pure (h lo a2 a4 a5)
      case step2 =>
        rintro x c st'' _ hx ⟨rfl,lo,hi,rfl,a1,a2,a3,a4,a5⟩
        dsimp only
        by_cases c:lo ≥ hi
        · rw [if_pos c]
          exact wpS_pure ⟨rfl,lo,hi,rfl,by omega,a2,a4,a5⟩
        · rw [if_neg c]
          refine wpS_bind (ask _ _ (by omega) ?_)
          dsimp only
          cases q:B (lo+(hi-lo) / 2) with
          | true =>
            rw [if_pos rfl]
            exact wpS_pure ⟨rfl,_,_,rfl,by omega,a2,by omega,fun i hi'=>mono i _ (by omega) (by omega) q,a5⟩
          | false =>
            rw [if_neg Bool.false_ne_true]
            exact wpS_pure ⟨rfl,_,_,rfl,by omega,by omega,by omega,a4,fun i h1 h2=>monoF _ i h1 h2 q⟩
    case step =>
      rintro x c st' _ hx ⟨rfl,la,ofs,rfl,a1,a2,a3,a4⟩
      dsimp only
      by_cases c:ofs ≥ hint+1
      · rw [if_pos c]
        exact wpS_pure ⟨rfl,la,ofs,rfl,a2,a3,a4,.inl c⟩
      · rw [if_neg c]
        refine wpS_bind (ask _ _ (by omega) ?_)
        dsimp only
        cases q:B (hint-ofs) with
        | true =>
          rw [if_pos rfl]
          exact wpS_pure ⟨rfl,_,_,rfl,a2,a3,a4,.inr ⟨by omega,q⟩⟩
        | false =>
          rw [if_neg Bool.false_ne_true]
          exact wpS_pure ⟨rfl,_,_,rfl,by omega,by omega,by omega,q⟩
end
end Tm
namespace Tm
open PySem PyProof.Rows
section pure
variable {α:Type} {C:α→α→Bool}
structure OrdG (C:α→α→Bool):Prop where
  as:∀ x y,C x y=true→C y x=false
  tr:∀ x y z,C y x=false→C z y=false→C z x=false
def Le (C:α→α→Bool) (x y:α):Prop:=C y x=false
abbrev Srt (C:α→α→Bool) (l:List α):Prop:=l.Pairwise (Le C)
structure ML (C:α→α→Bool) (L out A B:List α):Prop where
  so:Srt C out
  oa:∀ x∈out,∀ y∈A,Le C x y
  ob:∀ x∈out,∀ y∈B,Le C x y
  pm:(out++(A++B)).Perm L
  sa:Srt C A
  sb:Srt C B
theorem ML.len {L out A B:List α} (h:ML C L out A B):out.length+A.length+B.length=L.length:=by
  have:=h.pm.length_eq
  rw [List.length_append,List.length_append] at this
  omega
theorem ML.chA {L out X A B:List α} (h:ML C L out (X++A) B) (hx:∀ x∈X,∀ y∈B,Le C x y):ML C L (out++X) A B:=by
  obtain ⟨s1,s2,s3⟩:=List.pairwise_append.mp h.sa
  refine ⟨List.pairwise_append.mpr ⟨h.so,s1,fun x hx y hy=>h.oa x hx y (List.mem_append_left _ hy)⟩,fun x hx' y hy=>?_,fun x hx' y hy=>?_,?_,s2,h.sb⟩
  · rcases List.mem_append.mp hx' with z | z
    · exact h.oa x z y (List.mem_append_right _ hy)
    · exact s3 x z y hy
  · rcases List.mem_append.mp hx' with z | z
    · exact h.ob x z y hy
    · exact hx x z y hy
  · have:=h.pm
    rw [List.append_assoc] at this
    rw [List.append_assoc]
    exact this
theorem ML.chB {L out X A B:List α} (h:ML C L out A (X++B)) (hx:∀ x∈X,∀ y∈A,Le C x y):ML C L (out++X) A B:=by
  obtain ⟨s1,s2,s3⟩:=List.pairwise_append.mp h.sb
  refine ⟨List.pairwise_append.mpr ⟨h.so,s1,fun x hx y hy=>h.ob x hx y (List.mem_append_left _ hy)⟩,fun x hx' y hy=>?_,fun x hx' y hy=>?_,?_,h.sa,s2⟩
  · rcases List.mem_append.mp hx' with z | z
    · exact h.oa x z y hy
    · exact hx x z y hy
  · rcases List.mem_append.mp hx' with z | z
    · exact h.ob x z y (List.mem_append_right _ hy)
    · exact s3 x z y hy
  · refine List.Perm.trans ?_ h.pm
    rw [List.append_assoc]
    refine List.Perm.append_left out ?_
    rw [← List.append_assoc,← List.append_assoc]
    exact List.Perm.append_right _ List.perm_append_comm
def Done (C:α→α→Bool) (L r:List α):Prop:=Srt C r∧r.Perm L
theorem ML.endA {L out A B:List α} (h:ML C L out A B) (hB:B=[]):Done C L (out++A++B):=by
  subst hB
  rw [List.append_nil]
  refine ⟨List.pairwise_append.mpr ⟨h.so,h.sa,h.oa⟩,?_⟩
  have:=h.pm
  rw [List.append_nil] at this
  exact this
theorem ML.endB {L out A B:List α} (h:ML C L out A B) (hA:A=[]):Done C L (out++A++B):=by
  subst hA
  rw [List.append_nil]
  exact ⟨List.pairwise_append.mpr ⟨h.so,h.sb,h.ob⟩,h.pm⟩
theorem ML.endL {L out A B:List α} (h:ML C L out A B) (hl:∀ y∈B,∀ x∈A,Le C y x):Done C L (out++B++A):=by
  refine ⟨List.pairwise_append.mpr ⟨List.pairwise_append.mpr ⟨h.so,h.sb,h.ob⟩,h.sa,fun x hx y hy=>?_⟩,?_⟩
  · rcases List.mem_append.mp hx with z | z
    · exact h.oa x z y hy
    · exact hl x z y hy
  · refine List.Perm.trans ?_ h.pm
    rw [List.append_assoc]
    exact List.Perm.append_left out List.perm_append_comm
theorem le_of_lt (o:OrdG C) {x y:α} (h:C x y=true):Le C x y:=o.as x y h
theorem le_head (o:OrdG C) {x y:α} {l:List α} (h:Le C x y) (s:Srt C (y::l)):∀ z∈y::l,Le C x z:=fun z hz=>by
  rcases List.mem_cons.mp hz with rfl | hz
  · exact h
  · exact o.tr x y z h ((List.pairwise_cons.mp s).1 z hz)
end pure
end Tm
namespace Tm
open PySem PyProof.Rows
section
variable {C:Keyed→Keyed→Bool}
theorem le_refl (o:OrdG C) (x:Keyed):Le C x x:=by
  unfold Le
  cases h:C x x with
  | false=>rfl
  | true=>rw [o.as x x h] at h; cases h
theorem srt_get (o:OrdG C) {l:List Keyed} (s:Srt C l) {i j:Nat} {x y:Keyed} (hij:i≤j) (hx:l[i]?=some x) (hy:l[j]?=some y):Le C x y:=by
  by_cases c:i=j
  · subst c
    rw [hx] at hy
    cases hy
    exact le_refl o x
  · obtain ⟨hi,rfl⟩:=List.getElem?_eq_some_iff.mp hx
    obtain ⟨hj,rfl⟩:=List.getElem?_eq_some_iff.mp hy
    exact List.pairwise_iff_getElem.mp s i j hi hj (by omega)
theorem bey_mono (o:OrdG C) {left:Bool} {key x y:Keyed} (h:Le C x y) (e:bey left key C y=true):bey left key C x=true:=by
  unfold bey at *
  cases left with
  | true =>
    rw [if_pos rfl] at *
    cases q:C x key with
    | true=>rfl
    | false =>
      have:C y key=false:=o.tr key x y q h
      rw [this] at e; cases e
  | false =>
    rw [if_neg Bool.false_ne_true] at *
    have e:C key y=false:=by simpa using e
    have:C key x=false:=o.tr x y key h e
    rw [this]; rfl
variable {M:Model} {A:Around} {E:Value→Shared→Prop} {s:Shared} {κ:SortKind} {G:Keyed→Prop}
theorem wpS_gal (hC:CmpOk M A E s κ G C) (o:OrdG C) {left:Bool} {key:Keyed} {arr:Array Keyed} {base n hint:Nat} {Q:Option Nat→SortSt→Prop} {st:SortSt} {seg:List Keyed} (hk:kindOf st=κ) (gk:G key) (hs:seg=(arr.toList.drop base).take n) (hl:seg.length=n) (sr:Srt C seg) (gs:∀ x∈seg,G x) (hh:hint<n)
    (h:∀ k,k≤n→(∀ x∈seg.take k,bey left key C x=true)→(∀ x∈seg.drop k,bey left key C x=false)→Q (some k) st):wpS M A E s (gallop' left key arr base n hint) Q st:=by
  have at_:∀ i,i<n→∃ x,seg[i]?=some x∧arr[base+i]?=some x:=fun i hi=>by
    have e:seg[i]?=some seg[i]:=List.getElem?_eq_getElem (by omega)
    refine ⟨seg[i],e,?_⟩
    rw [← e,hs,List.getElem?_take_of_lt hi,List.getElem?_drop,Array.getElem?_toList]
  refine wpS_gallop hC hk gk (fun i=>match seg[i]? with | some x=>bey left key C x | none=>false) (fun i hi=>?_) (fun i j hij hj e=>?_) hh fun k hk2 h1 h2=>h k hk2 (fun x hx=>?_) fun x hx=>?_
  · obtain ⟨x,e1,e2⟩:=at_ i hi
    exact ⟨x,e2,gs x (List.mem_of_getElem? e1),by rw [e1]⟩
  · obtain ⟨x,e1,_⟩:=at_ i (by omega)
    obtain ⟨y,e2,_⟩:=at_ j hj
    rw [e1]
    rw [e2] at e
    exact bey_mono o (srt_get o sr hij e1 e2) e
  · obtain ⟨i,hi⟩:=List.getElem?_of_mem hx
    have hlt:=(List.getElem?_eq_some_iff.mp hi).1
    rw [List.length_take] at hlt
    rw [List.getElem?_take_of_lt (by omega)] at hi
    have:=h1 i (by omega)
    rw [hi] at this
    exact this
  · obtain ⟨i,hi⟩:=List.getElem?_of_mem hx
    have hlt:=(List.getElem?_eq_some_iff.mp hi).1
    rw [List.length_drop] at hlt
    rw [List.getElem?_drop] at hi
    have:=h2 (k+i) (by omega) (by omega)
    rw [hi] at this
    exact this
theorem ext_toList (a:Array Keyed) (i j:Nat):(a.extract i j).toList=(a.toList.drop i).take (j-i):=by
  rw [Array.toList_extract,List.extract_eq_take_drop]
theorem ext_end (a:Array Keyed) (i:Nat):(a.extract i a.size).toList=a.toList.drop i:=by
  rw [ext_toList,List.take_of_length_le (by rw [List.length_drop,Array.length_toList]; exact Nat.le_refl _)]
theorem drop_at {a:Array Keyed} {i:Nat} (h:i<a.size):a.toList.drop i=a[i]::a.toList.drop (i+1):=by
  rw [List.drop_eq_getElem_cons (by rw [Array.length_toList]; exact h),Array.getElem_toList]
theorem drop_chunk (l:List Keyed) (i k:Nat):l.drop i=(l.drop i).take k++l.drop (i+k):=by
  rw [← List.drop_drop,List.take_append_drop]
structure MA (C:Keyed→Keyed→Bool) (a b out:Array Keyed) (ia ib:Nat):Prop where
  ml:ML C (a.toList++b.toList) out.toList (a.toList.drop ia) (b.toList.drop ib)
  la:ia≤a.size
  lb:ib≤b.size
theorem MA.len {a b out:Array Keyed} {ia ib:Nat} (h:MA C a b out ia ib):out.size+(a.size-ia)+(b.size-ib)=a.size+b.size:=by
  have:=h.ml.len
  rw [List.length_drop,List.length_drop,List.length_append,Array.length_toList,Array.length_toList,Array.length_toList] at this
  exact this
theorem MA.pushA {a b out:Array Keyed} {ia ib:Nat} (h:MA C a b out ia ib) (hi:ia<a.size) (hx:∀ y∈b.toList.drop ib,Le C a[ia] y):MA C a b (out.push a[ia]) (ia+1) ib:=by
  refine ⟨?_,by omega,h.lb⟩
  rw [Array.toList_push]
  have m:=h.ml
  rw [drop_at hi] at m
  exact ML.chA (X:=[a[ia]]) m fun x hx'=>by rw [List.mem_singleton.mp hx']; exact hx
theorem MA.pushB {a b out:Array Keyed} {ia ib:Nat} (h:MA C a b out ia ib) (hi:ib<b.size) (hx:∀ y∈a.toList.drop ia,Le C b[ib] y):MA C a b (out.push b[ib]) ia (ib+1):=by
  refine ⟨?_,h.la,by omega⟩
  rw [Array.toList_push]
  have m:=h.ml
  rw [drop_at hi] at m
  exact ML.chB (X:=[b[ib]]) m fun x hx'=>by rw [List.mem_singleton.mp hx']; exact hx
theorem MA.chA {a b out:Array Keyed} {ia ib k:Nat} (h:MA C a b out ia ib) (hk:k≤a.size-ia) (hx:∀ x∈(a.toList.drop ia).take k,∀ y∈b.toList.drop ib,Le C x y):MA C a b (out++a.extract ia (ia+k)) (ia+k) ib:=by
  have:=h.la
  refine ⟨?_,by omega,h.lb⟩
  rw [Array.toList_append,ext_toList,show ia+k-ia=k by omega]
  have m:=h.ml
  rw [drop_chunk a.toList ia k] at m
  exact ML.chA m hx
theorem MA.chB {a b out:Array Keyed} {ia ib k:Nat} (h:MA C a b out ia ib) (hk:k≤b.size-ib) (hx:∀ x∈(b.toList.drop ib).take k,∀ y∈a.toList.drop ia,Le C x y):MA C a b (out++b.extract ib (ib+k)) ia (ib+k):=by
  have:=h.lb
  refine ⟨?_,h.la,by omega⟩
  rw [Array.toList_append,ext_toList,show ib+k-ib=k by omega]
  have m:=h.ml
  rw [drop_chunk b.toList ib k] at m
  exact ML.chB m hx
abbrev Dn (C:Keyed→Keyed→Bool) (a b r:Array Keyed):Prop:=Done C (a.toList++b.toList) r.toList
theorem MA.done {a b out:Array Keyed} {ia ib:Nat} (h:MA C a b out ia ib) (e:ia=a.size∨ib=b.size):Dn C a b (out++a.extract ia a.size++b.extract ib b.size):=by
  unfold Dn
  rw [Array.toList_append,Array.toList_append,ext_end,ext_end]
  rcases e with e | e
  · exact h.ml.endB (List.drop_eq_nil_of_le (by rw [Array.length_toList]; omega))
  · exact h.ml.endA (List.drop_eq_nil_of_le (by rw [Array.length_toList]; omega))
theorem MA.last {a b out:Array Keyed} {ia ib:Nat} (h:MA C a b out ia ib) (e:ia+1=a.size) (hl:∀ y∈b.toList,∀ x∈a.toList.drop (a.size-1),Le C y x):Dn C a b (out++b.extract ib b.size++a.extract ia a.size):=by
  unfold Dn
  rw [Array.toList_append,Array.toList_append,ext_end,ext_end]
  exact h.ml.endL fun y hy x hx=>hl y (List.mem_of_mem_drop hy) x (by rw [show a.size-1=ia by omega]; exact hx)
end
end Tm
set_option pp.maxSteps 1000000
set_option pp.deepTerms true
namespace Tm
open PySem PyProof.Rows
section
variable {M:Model} {A:Around} {E:Value→Shared→Prop} {s:Shared} {κ:SortKind} {G:Keyed→Prop} {C:Keyed→Keyed→Bool}
abbrev S5:=Option (Array Keyed)×Array Keyed×Nat×Nat×Nat
abbrev S6:=Option (Array Keyed)×Array Keyed×Nat×Nat×Nat×Nat
abbrev S7:=Option (Array Keyed)×Array Keyed×Nat×Nat×Nat×Nat×Nat
structure Two (G:Keyed→Prop) (C:Keyed→Keyed→Bool) (a b:Array Keyed):Prop where
  ga:∀ x∈a.toList,G x
  gb:∀ x∈b.toList,G x
  sa:Srt C a.toList
  sb:Srt C b.toList
  fst:∀ (h:0<b.size),∀ x∈a.toList,Le C b[0] x
  lst:∀ y∈b.toList,∀ x∈a.toList.drop (a.size-1),Le C y x
theorem lo_tail {a b:Array Keyed} (t:Two G C a b) {out:Array Keyed} {ia ib mg k k1:Nat} {st:SortSt} (m:MA C a b out ia ib) (h1:ia+1<a.size) (h2:ib<b.size) (hx:∀ y∈b.toList.drop ib,Le C (a[ia]'(by omega)) y) {R:ForInStep S7→SortSt→Prop}
    (ret:∀ r out ia ib mg ac bc,Dn C a b r→R (.done (some r,out,ia,ib,mg,ac,bc)) st)
    (brk:∀ out' ia ib mg ac bc,MA C a b out' ia ib→ia+1<a.size→ib<b.size→out.size≤out'.size→R (.done (none,out',ia,ib,mg,ac,bc)) st)
    (yld:∀ out' ia ib mg ac bc,MA C a b out' ia ib→ia+1<a.size→ib<b.size→out.size≤out'.size→R (.yield (none,out',ia,ib,mg,ac,bc)) st) :
    wpS M A E s (do
      let x2 ← elem' a ia
      if (ia+1+1==a.size)=true then pure (ForInStep.done (some (out.push x2++b.extract ib b.size++a.extract (ia+1) a.size),out.push x2,ia+1,ib,mg,k,k1))
      else if (decide (k<7)&&decide (k1<7))=true then pure (ForInStep.done (none,out.push x2,ia+1,ib,mg,k,k1))
      else pure (ForInStep.yield (none,out.push x2,ia+1,ib,mg,k,k1))) R st:=by
  refine wpS_bind (wpS_elem (x:=a[ia]'(by omega)) (Array.getElem?_eq_getElem (by omega)) ?_)
  have m':=m.pushA (by omega) hx
  have hsz:(out.push (a[ia]'(by omega))).size=out.size+1:=Array.size_push _
  by_cases q1:(ia+1+1==a.size)=true
  · rw [if_pos q1]
    exact wpS_pure (ret _ _ _ _ _ _ _ (m'.last (by simpa using q1) t.lst))
  · rw [if_neg q1]
    have q1:ia+1+1<a.size:=by simp at q1; omega
    by_cases q2:(decide (k<7)&&decide (k1<7))=true
    · rw [if_pos q2]
      exact wpS_pure (brk _ _ _ _ _ _ m' q1 h2 (by omega))
    · rw [if_neg q2]
      exact wpS_pure (yld _ _ _ _ _ _ m' q1 h2 (by omega))
theorem lo_half (hC:CmpOk M A E s κ G C) (o:OrdG C) {a b:Array Keyed} (t:Two G C a b) {out:Array Keyed} {ia ib mg k bc:Nat} {st:SortSt} (hk:kindOf st=κ) (m:MA C a b out ia ib) (h1:ia+1<a.size) (h2:ib<b.size) (hx:∀ x∈a.toList.drop ia,Le C (b[ib]'h2) x) {R:ForInStep S7→SortSt→Prop}
    (ret:∀ r out ia ib mg ac bc,Dn C a b r→R (.done (some r,out,ia,ib,mg,ac,bc)) st)
    (brk:∀ out' ia ib mg ac bc,MA C a b out' ia ib→ia+1<a.size→ib<b.size→out.size≤out'.size→R (.done (none,out',ia,ib,mg,ac,bc)) st)
    (yld:∀ out' ia ib mg ac bc,MA C a b out' ia ib→ia+1<a.size→ib<b.size→out.size≤out'.size→R (.yield (none,out',ia,ib,mg,ac,bc)) st) :
    wpS M A E s (do
      let y ← elem' b ib
      if (ib+1==b.size)=true then pure (ForInStep.done (some (out.push y++a.extract ia a.size++b.extract (ib+1) b.size),out.push y,ia,ib+1,mg,k,bc))
      else do
        let x ← elem' a ia
        let __x ← gallop' true x b (ib+1) (b.size-(ib+1)) 0
        match __x with
        | some k1 =>
          if k1 > 0 then
            if (ib+1+k1==b.size)=true then pure (ForInStep.done (some (out.push y++b.extract (ib+1) (ib+1+k1)++a.extract ia a.size++b.extract (ib+1+k1) b.size),out.push y++b.extract (ib+1) (ib+1+k1),ia,ib+1+k1,mg,k,k1))
            else do
              let x2 ← elem' a ia
              if (ia+1+1==a.size)=true then pure (ForInStep.done (some ((out.push y++b.extract (ib+1) (ib+1+k1)).push x2++b.extract (ib+1+k1) b.size++a.extract (ia+1) a.size),(out.push y++b.extract (ib+1) (ib+1+k1)).push x2,ia+1,ib+1+k1,mg,k,k1))
              else if (decide (k<7)&&decide (k1<7))=true then pure (ForInStep.done (none,(out.push y++b.extract (ib+1) (ib+1+k1)).push x2,ia+1,ib+1+k1,mg,k,k1))
              else pure (ForInStep.yield (none,(out.push y++b.extract (ib+1) (ib+1+k1)).push x2,ia+1,ib+1+k1,mg,k,k1))
          else do
            let x2 ← elem' a ia
            if (ia+1+1==a.size)=true then pure (ForInStep.done (some ((out.push y).push x2++b.extract (ib+1) b.size++a.extract (ia+1) a.size),(out.push y).push x2,ia+1,ib+1,mg,k,k1))
            else if (decide (k<7)&&decide (k1<7))=true then pure (ForInStep.done (none,(out.push y).push x2,ia+1,ib+1,mg,k,k1))
            else pure (ForInStep.yield (none,(out.push y).push x2,ia+1,ib+1,mg,k,k1))
        | _=>pure (ForInStep.done (some (out.push y++a.extract ia a.size++b.extract (ib+1) b.size),out.push y,ia,ib+1,mg,k,bc))) R st:=by
  refine wpS_bind (wpS_elem (x:=b[ib]) (Array.getElem?_eq_getElem h2) ?_)
  have m':=m.pushB h2 hx
  have hsz:(out.push b[ib]).size=out.size+1:=Array.size_push _
  by_cases q1:(ib+1==b.size)=true
  · rw [if_pos q1]
    exact wpS_pure (ret _ _ _ _ _ _ _ (m'.done (.inr (by simpa using q1))))
  rw [if_neg q1]
  have q1:ib+1<b.size:=by simp at q1; omega
  have hia:ia<a.size:=by omega
  refine wpS_bind (wpS_elem (x:=a[ia]) (Array.getElem?_eq_getElem hia) ?_)
  have mema:a[ia]∈a.toList:=by simp
  have sb':=m'.ml.sb
  refine wpS_bind (wpS_gal hC o (seg:=b.toList.drop (ib+1)) hk (t.ga _ mema) ?_ (by rw [List.length_drop,Array.length_toList]) sb' (fun x hx=>t.gb x (List.mem_of_mem_drop hx)) (by omega) fun k1 hk1 b1 b2=>?_)
  · rw [List.take_of_length_le (by rw [List.length_drop,Array.length_toList]; exact Nat.le_refl _)]
  have b1:∀ y∈(b.toList.drop (ib+1)).take k1,C y a[ia]=true:=b1
  have b2:∀ y∈b.toList.drop (ib+1+k1),Le C a[ia] y:=fun y hy=>b2 y (by rw [List.drop_drop]; exact hy)
  dsimp only
  have sda:=m'.ml.sa
  rw [drop_at hia] at sda
  by_cases q2:k1 > 0
  · rw [if_pos q2]
    have m2:=m'.chB (k:=k1) (by omega) fun y hy x hx=>by
      rw [drop_at hia] at hx
      exact le_head o (le_of_lt o (b1 y hy)) sda x hx
    by_cases q3:(ib+1+k1==b.size)=true
    · rw [if_pos q3]
      exact wpS_pure (ret _ _ _ _ _ _ _ (m2.done (.inr (by simpa using q3))))
    · rw [if_neg q3]
      have q3:ib+1+k1<b.size:=by simp at q3; omega
      have hs2:out.size≤(out.push b[ib]++b.extract (ib+1) (ib+1+k1)).size:=by rw [Array.size_append]; omega
      exact lo_tail t m2 h1 q3 b2 ret (fun o' i j g x y z1 z2 z3 z4=>brk o' i j g x y z1 z2 z3 (by omega)) fun o' i j g x y z1 z2 z3 z4=>yld o' i j g x y z1 z2 z3 (by omega)
  · rw [if_neg q2]
    have e0:k1=0:=by omega
    exact lo_tail t m' h1 q1 (by rw [e0] at b2; exact b2) ret (fun o' i j g x y z1 z2 z3 z4=>brk o' i j g x y z1 z2 z3 (by omega)) fun o' i j g x y z1 z2 z3 z4=>yld o' i j g x y z1 z2 z3 (by omega)
theorem wpS_mergeLo (hC:CmpOk M A E s κ G C) (o:OrdG C) {a b:Array Keyed} (t:Two G C a b) {Q:Array Keyed→SortSt→Prop} {st:SortSt} (hk:kindOf st=κ) (ha:0<a.size) (hb:0<b.size)
    (h:∀ r g,Dn C a b r→Q r (setG st g)) :
    wpS M A E s (mergeLo' a b) Q st:=by
  rw [mergeLo'_eq]
  refine wpS_bind (wpS_lift (wpAny_rule ⟨rfl,?_⟩))
  dsimp only
  refine wpS_bind (wpS_elem (x:=b[0]) (Array.getElem?_eq_getElem hb) ?_)
  have m0:MA C a b #[b[0]] 0 1:=by
    have:MA C a b #[] 0 0:=⟨⟨List.Pairwise.nil,fun x hx=>(by cases hx),fun x hx=>(by cases hx),List.Perm.refl _,t.sa,t.sb⟩,Nat.zero_le _,Nat.zero_le _⟩
    exact this.pushB hb (t.fst hb)
  have hst:st=setG st (gallopOf st):=rfl
  by_cases c1:(1==b.size)=true
  · rw [if_pos c1]
    rw [hst]
    exact wpS_pure (h _ _ (m0.done (.inr (by simpa using c1))))
  rw [if_neg c1]
  by_cases c2:(0+1==a.size)=true
  · rw [if_pos c2]
    rw [hst]
    exact wpS_pure (h _ _ (m0.last (by simpa using c2) t.lst))
  rw [if_neg c2]
  have c1:1<b.size:=by simp at c1; omega
  have c2:0+1<a.size:=by simp at c2; omega
  refine wpS_bind (wpS_get ?_)
  refine wpS_bind (wpS_mono (wpS_forRange
    (I:=fun x (c:S5) st'=>(∃ g,st'=setG st g)∧∃ out ia ib mg,c=(none,out,ia,ib,mg)∧MA C a b out ia ib∧ia+1<a.size∧ib<b.size∧x+1≤out.size)
    (Q:=fun (c:S5) st'=>(∃ g,st'=setG st g)∧∃ r out ia ib mg,c=(some r,out,ia,ib,mg)∧Dn C a b r) ?step ?fin ⟨⟨_,hst⟩,_,_,_,_,rfl,m0,c2,c1,Nat.le_refl _⟩) ?post)
  case fin =>
    rintro c st' ⟨_,out,ia,ib,mg,rfl,m,h1,h2,h3⟩
    have:=m.len
    omega
  case post =>
    rintro c st' ⟨⟨g,rfl⟩,r,out,ia,ib,mg,rfl,d⟩
    exact wpS_pure (h _ _ d)
  case step =>
    rintro x c st' _ hx ⟨⟨g,rfl⟩,out,ia,ib,mg,rfl,m,h1,h2,h3⟩
    dsimp only
    refine wpS_bind (wpS_mono (wpS_forRange
      (I:=fun y (c:S6) st'=>st'=setG st g∧∃ out' ia ib ac bc,c=(none,out',ia,ib,ac,bc)∧MA C a b out' ia ib∧ia+1<a.size∧ib<b.size∧out.size+y≤out'.size)
      (Q:=fun (c:S6) st'=>st'=setG st g∧((∃ r out ia ib ac bc,c=(some r,out,ia,ib,ac,bc)∧Dn C a b r)∨∃ out' ia ib ac bc,c=(none,out',ia,ib,ac,bc)∧MA C a b out' ia ib∧ia+1<a.size∧ib<b.size∧out.size+1≤out'.size))
      ?step1 ?fin1 ⟨rfl,_,_,_,_,_,rfl,m,h1,h2,Nat.le_refl _⟩) ?post1)
    case fin1 =>
      rintro c st' ⟨rfl,out',ia,ib,ac,bc,rfl,m,h1,h2,h3⟩
      exact ⟨rfl,.inr ⟨out',ia,ib,ac,bc,rfl,m,h1,h2,by omega⟩⟩
    case step1 =>
      rintro y c st' _ hy ⟨rfl,out',ia,ib,ac,bc,rfl,m,h1,h2,h3⟩
      dsimp only
      have ea:a[ia]?=some a[ia]:=Array.getElem?_eq_getElem (by omega)
      have eb:b[ib]?=some b[ib]:=Array.getElem?_eq_getElem (by omega)
      have mema:a[ia]∈a.toList:=by simp
      have memb:b[ib]∈b.toList:=by simp
      refine wpS_bind (wpS_elem eb (wpS_bind (wpS_elem ea (wpS_bind (hC (t.gb _ memb) (t.ga _ mema) hk ?_)))))
      dsimp only
      have sda:=m.ml.sa
      have sdb:=m.ml.sb
      rw [drop_at (by omega)] at sda sdb
      cases w:C b[ib] a[ia] with
      | true =>
        rw [if_pos rfl]
        refine wpS_bind (wpS_elem eb ?_)
        have m':=m.pushB h2 (by rw [drop_at (show ia<a.size by omega)]; exact le_head o (le_of_lt o w) sda)
        have hsz:(out'.push b[ib]).size=out'.size+1:=Array.size_push _
        by_cases q1:(ib+1==b.size)=true
        · rw [if_pos q1]
          exact wpS_pure ⟨rfl,.inl ⟨_,_,_,_,_,_,rfl,m'.done (.inr (by simpa using q1))⟩⟩
        · rw [if_neg q1]
          have q1:ib+1<b.size:=by simp at q1; omega
          by_cases q2:bc+1 ≥ mg
          · rw [if_pos q2]
            exact wpS_pure ⟨rfl,.inr ⟨_,_,_,_,_,rfl,m',h1,q1,by omega⟩⟩
          · rw [if_neg q2]
            exact wpS_pure ⟨rfl,_,_,_,_,_,rfl,m',h1,q1,by omega⟩
      | false =>
        rw [if_neg Bool.false_ne_true]
        refine wpS_bind (wpS_elem ea ?_)
        have m':=m.pushA (by omega) (by rw [drop_at h2]; exact le_head o w sdb)
        have hsz:(out'.push a[ia]).size=out'.size+1:=Array.size_push _
        by_cases q1:(ia+1+1==a.size)=true
        · rw [if_pos q1]
          exact wpS_pure ⟨rfl,.inl ⟨_,_,_,_,_,_,rfl,m'.last (by simpa using q1) t.lst⟩⟩
        · rw [if_neg q1]
          have q1:ia+1+1<a.size:=by simp at q1; omega
          by_cases q2:ac+1 ≥ mg
          · rw [if_pos q2]
            exact wpS_pure ⟨rfl,.inr ⟨_,_,_,_,_,rfl,m',q1,h2,by omega⟩⟩
          · rw [if_neg q2]
            exact wpS_pure ⟨rfl,_,_,_,_,_,rfl,m',q1,h2,by omega⟩
    case post1 =>
      rintro c st' ⟨rfl,⟨r,out',ia,ib,ac,bc,rfl,d⟩ | ⟨out',ia,ib,ac,bc,rfl,m,h1,h2,h4⟩⟩
      · exact wpS_pure ⟨⟨g,rfl⟩,_,_,_,_,_,rfl,d⟩
      dsimp only
      refine wpS_bind (wpS_lift (wpAny_rule ⟨rfl,?_⟩))
      refine wpS_bind (wpS_mono (wpS_forRange
        (I:=fun y (c:S7) st'=>(∃ g,st'=setG st g)∧∃ out'' ia ib mg ac bc,c=(none,out'',ia,ib,mg,ac,bc)∧MA C a b out'' ia ib∧ia+1<a.size∧ib<b.size∧out'.size≤out''.size)
        (Q:=fun (c:S7) st'=>(∃ g,st'=setG st g)∧((∃ r out ia ib mg ac bc,c=(some r,out,ia,ib,mg,ac,bc)∧Dn C a b r)∨∃ out'' ia ib mg ac bc,c=(none,out'',ia,ib,mg,ac,bc)∧MA C a b out'' ia ib∧ia+1<a.size∧ib<b.size∧out'.size≤out''.size))
        ?step2 ?fin2 ⟨⟨g,rfl⟩,_,_,_,_,_,_,rfl,m,h1,h2,Nat.le_refl _⟩) ?post2)
      case fin2 =>
        rintro c st' ⟨hg,out'',ia,ib,mg,ac,bc,rfl,m,h1,h2,h3⟩
        exact ⟨hg,.inr ⟨_,_,_,_,_,_,rfl,m,h1,h2,h3⟩⟩
      case post2 =>
        rintro c st' ⟨⟨g2,rfl⟩,⟨r,out'',ia,ib,mg,ac,bc,rfl,d⟩ | ⟨out'',ia,ib,mg,ac,bc,rfl,m,h1,h2,h5⟩⟩
        · exact wpS_pure ⟨⟨g2,rfl⟩,_,_,_,_,_,rfl,d⟩
        · exact wpS_bind (wpS_modify (wpS_pure ⟨⟨_,rfl⟩,_,_,_,_,rfl,m,h1,h2,(show x+1+1≤out''.size by omega)⟩))
      case step2 =>
        rintro y c st' _ hy ⟨⟨g2,rfl⟩,out'',ia,ib,mg,ac,bc,rfl,m,h1,h2,h3⟩
        dsimp only
        by_cases hm:mg > 1
        · rw [if_pos hm]
          refine wpS_bind (wpS_modify ?_)
          have hkk:kindOf (setG (setG st g2) (mg-1))=κ:=hk
          have memb:b[ib]∈b.toList:=by simp
          refine wpS_bind (wpS_elem (x:=b[ib]) (Array.getElem?_eq_getElem h2) ?_)
          refine wpS_bind (wpS_gal hC o (seg:=a.toList.drop ia) hkk (t.gb _ memb) (by rw [List.take_of_length_le (by rw [List.length_drop,Array.length_toList]; exact Nat.le_refl _)]) (by rw [List.length_drop,Array.length_toList]) m.ml.sa (fun x hx=>t.ga x (List.mem_of_mem_drop hx)) (by omega) fun k hk1 b1 b2=>?_)
          have sdb:=m.ml.sb
          rw [drop_at h2] at sdb
          have b1:∀ x∈(a.toList.drop ia).take k,∀ y∈b.toList.drop ib,Le C x y:=fun x hx y hy=>by
            have:=b1 x hx
            unfold bey at this
            rw [drop_at h2] at hy
            exact le_head o (show Le C x b[ib] by unfold Le; simpa using this) sdb y hy
          have b2:∀ x∈a.toList.drop (ia+k),Le C b[ib] x:=fun x hx=>by
            have:=b2 x (by rw [List.drop_drop]; exact hx)
            unfold bey at this
            exact le_of_lt o (by simpa using this)
          dsimp only
          by_cases q0:k > 0
          · rw [if_pos q0]
            have m2:=m.chA hk1 b1
            have hs2:out''.size≤(out''++a.extract ia (ia+k)).size:=by rw [Array.size_append]; omega
            by_cases q1:(ia+k+1==a.size)=true
            · rw [if_pos q1]
              exact wpS_pure ⟨⟨_,rfl⟩,.inl ⟨_,_,_,_,_,_,_,rfl,m2.last (by simpa using q1) t.lst⟩⟩
            rw [if_neg q1]
            by_cases q2:(ia+k==a.size)=true
            · rw [if_pos q2]
              exact wpS_pure ⟨⟨_,rfl⟩,.inl ⟨_,_,_,_,_,_,_,rfl,m2.done (.inl (by simpa using q2))⟩⟩
            rw [if_neg q2]
            have q3:ia+k+1<a.size:=by simp at q1 q2; have:=m2.la; omega
            exact lo_half hC o t hkk m2 q3 h2 b2 (fun r out ia ib mg ac bc d=>⟨⟨_,rfl⟩,.inl ⟨_,_,_,_,_,_,_,rfl,d⟩⟩) (fun o' i j g x y z1 z2 z3 z4=>⟨⟨_,rfl⟩,.inr ⟨_,_,_,_,_,_,rfl,z1,z2,z3,by omega⟩⟩) fun o' i j g x y z1 z2 z3 z4=>⟨⟨_,rfl⟩,_,_,_,_,_,_,rfl,z1,z2,z3,by omega⟩
          · rw [if_neg q0]
            have e0:k=0:=by omega
            exact lo_half hC o t hkk m h1 h2 (by rw [e0] at b2; exact b2) (fun r out ia ib mg ac bc d=>⟨⟨_,rfl⟩,.inl ⟨_,_,_,_,_,_,_,rfl,d⟩⟩) (fun o' i j g x y z1 z2 z3 z4=>⟨⟨_,rfl⟩,.inr ⟨_,_,_,_,_,_,rfl,z1,z2,z3,by omega⟩⟩) fun o' i j g x y z1 z2 z3 z4=>⟨⟨_,rfl⟩,_,_,_,_,_,_,rfl,z1,z2,z3,by omega⟩
        · rw [if_neg hm]
          refine wpS_bind (wpS_modify ?_)
          have hkk:kindOf (setG (setG st g2) mg)=κ:=hk
          have memb:b[ib]∈b.toList:=by simp
          refine wpS_bind (wpS_elem (x:=b[ib]) (Array.getElem?_eq_getElem h2) ?_)
          refine wpS_bind (wpS_gal hC o (seg:=a.toList.drop ia) hkk (t.gb _ memb) (by rw [List.take_of_length_le (by rw [List.length_drop,Array.length_toList]; exact Nat.le_refl _)]) (by rw [List.length_drop,Array.length_toList]) m.ml.sa (fun x hx=>t.ga x (List.mem_of_mem_drop hx)) (by omega) fun k hk1 b1 b2=>?_)
          have sdb:=m.ml.sb
          rw [drop_at h2] at sdb
          have b1:∀ x∈(a.toList.drop ia).take k,∀ y∈b.toList.drop ib,Le C x y:=fun x hx y hy=>by
            have:=b1 x hx
            unfold bey at this
            rw [drop_at h2] at hy
            exact le_head o (show Le C x b[ib] by unfold Le; simpa using this) sdb y hy
          have b2:∀ x∈a.toList.drop (ia+k),Le C b[ib] x:=fun x hx=>by
            have:=b2 x (by rw [List.drop_drop]; exact hx)
            unfold bey at this
            exact le_of_lt o (by simpa using this)
          dsimp only
          by_cases q0:k > 0
          · rw [if_pos q0]
            have m2:=m.chA hk1 b1
            have hs2:out''.size≤(out''++a.extract ia (ia+k)).size:=by rw [Array.size_append]; omega
            by_cases q1:(ia+k+1==a.size)=true
            · rw [if_pos q1]
              exact wpS_pure ⟨⟨_,rfl⟩,.inl ⟨_,_,_,_,_,_,_,rfl,m2.last (by simpa using q1) t.lst⟩⟩
            rw [if_neg q1]
            by_cases q2:(ia+k==a.size)=true
            · rw [if_pos q2]
              exact wpS_pure ⟨⟨_,rfl⟩,.inl ⟨_,_,_,_,_,_,_,rfl,m2.done (.inl (by simpa using q2))⟩⟩
            rw [if_neg q2]
            have q3:ia+k+1<a.size:=by simp at q1 q2; have:=m2.la; omega
            exact lo_half hC o t hkk m2 q3 h2 b2 (fun r out ia ib mg ac bc d=>⟨⟨_,rfl⟩,.inl ⟨_,_,_,_,_,_,_,rfl,d⟩⟩) (fun o' i j g x y z1 z2 z3 z4=>⟨⟨_,rfl⟩,.inr ⟨_,_,_,_,_,_,rfl,z1,z2,z3,by omega⟩⟩) fun o' i j g x y z1 z2 z3 z4=>⟨⟨_,rfl⟩,_,_,_,_,_,_,rfl,z1,z2,z3,by omega⟩
          · rw [if_neg q0]
            have e0:k=0:=by omega
            exact lo_half hC o t hkk m h1 h2 (by rw [e0] at b2; exact b2) (fun r out ia ib mg ac bc d=>⟨⟨_,rfl⟩,.inl ⟨_,_,_,_,_,_,_,rfl,d⟩⟩) (fun o' i j g x y z1 z2 z3 z4=>⟨⟨_,rfl⟩,.inr ⟨_,_,_,_,_,_,rfl,z1,z2,z3,by omega⟩⟩) fun o' i j g x y z1 z2 z3 z4=>⟨⟨_,rfl⟩,_,_,_,_,_,_,rfl,z1,z2,z3,by omega⟩
end
end Tm
namespace Tm
open PySem PyProof.Rows
theorem mergeHi'_eq (a b:Array Keyed):mergeHi' a b=(do
  rule "list.sort.merge-hi"
  let total:=a.size+b.size
  let done (out:Array Keyed) (na nb:Nat):=a.extract 0 na++b.extract 0 nb++out.reverse
  let firstOfB (out:Array Keyed) (na nb:Nat):=b.extract 0 nb++a.extract 0 na++out.reverse
  let mut na:=a.size-1
  let mut nb:=b.size
  let mut out:Array Keyed:=#[← elem' a na]
  if na==0 then return done out na nb
  if nb==1 then return firstOfB out na nb
  let mut minGallop:=gallopOf (← get)
  for _ in [0:total] do
    let mut acount:=0
    let mut bcount:=0
    for _ in [0:total] do
      let some aWins ← lt' (← elem' b (nb-1)) (← elem' a (na-1)) | return done out na nb
      if aWins then
        na:=na-1; out:=out.push (← elem' a na); acount:=acount+1; bcount:=0
        if na==0 then return done out na nb
        if acount ≥ minGallop then break
      else
        nb:=nb-1; out:=out.push (← elem' b nb); bcount:=bcount+1; acount:=0
        if nb==1 then return firstOfB out na nb
        if bcount ≥ minGallop then break
    rule "list.sort.gallop"
    minGallop:=minGallop+1
    for _ in [0:total] do
      if minGallop > 1 then minGallop:=minGallop-1
      setMinGallop' minGallop
      let some at_ ← gallop' false (← elem' b (nb-1)) a 0 na (na-1) | return done out na nb
      let k:=na-at_
      acount:=k
      if k > 0 then
        out:=out++(a.extract at_ na).reverse; na:=at_
        if na==0 then return done out na nb
      nb:=nb-1; out:=out.push (← elem' b nb)
      if nb==1 then return firstOfB out na nb
      let some at_ ← gallop' true (← elem' a (na-1)) b 0 nb (nb-1) | return done out na nb
      let k:=nb-at_
      bcount:=k
      if k > 0 then
        out:=out++(b.extract at_ nb).reverse; nb:=at_
        if nb==1 then return firstOfB out na nb
        if nb==0 then return done out na nb
      na:=na-1; out:=out.push (← elem' a na)
      if na==0 then return done out na nb
      if acount<7&&bcount<7 then break
    minGallop:=minGallop+1
    setMinGallop' minGallop
  unsupported "internal:list.sort.merge-bound"):=rfl
section pure
variable {α:Type} {C:α→α→Bool}
structure MH (C:α→α→Bool) (L S A B:List α):Prop where
  so:Srt C S
  oa:∀ x∈A,∀ z∈S,Le C x z
  ob:∀ x∈B,∀ z∈S,Le C x z
  pm:((A++B)++S).Perm L
  sa:Srt C A
  sb:Srt C B
theorem MH.len {L S A B:List α} (h:MH C L S A B):S.length+A.length+B.length=L.length:=by
  have:=h.pm.length_eq
  rw [List.length_append,List.length_append] at this
  omega
theorem MH.chA {L S X A B:List α} (h:MH C L S (A++X) B) (hx:∀ y∈B,∀ x∈X,Le C y x):MH C L (X++S) A B:=by
  obtain ⟨s1,s2,s3⟩:=List.pairwise_append.mp h.sa
  refine ⟨List.pairwise_append.mpr ⟨s2,h.so,fun x hx z hz=>h.oa x (List.mem_append_right _ hx) z hz⟩,fun x hx' z hz=>?_,fun y hy z hz=>?_,?_,s1,h.sb⟩
  · rcases List.mem_append.mp hz with q | q
    · exact s3 x hx' z q
    · exact h.oa x (List.mem_append_left _ hx') z q
  · rcases List.mem_append.mp hz with q | q
    · exact hx y hy z q
    · exact h.ob y hy z q
  · refine List.Perm.trans ?_ h.pm
    rw [← List.append_assoc]
    refine List.Perm.append_right S ?_
    rw [List.append_assoc,List.append_assoc]
    exact List.Perm.append_left A List.perm_append_comm
theorem MH.chB {L S X A B:List α} (h:MH C L S A (B++X)) (hx:∀ y∈A,∀ x∈X,Le C y x):MH C L (X++S) A B:=by
  obtain ⟨s1,s2,s3⟩:=List.pairwise_append.mp h.sb
  refine ⟨List.pairwise_append.mpr ⟨s2,h.so,fun x hx z hz=>h.ob x (List.mem_append_right _ hx) z hz⟩,fun x hx' z hz=>?_,fun y hy z hz=>?_,?_,h.sa,s1⟩
  · rcases List.mem_append.mp hz with q | q
    · exact hx x hx' z q
    · exact h.oa x hx' z q
  · rcases List.mem_append.mp hz with q | q
    · exact s3 y hy z q
    · exact h.ob y (List.mem_append_left _ hy) z q
  · have:=h.pm
    rw [← List.append_assoc] at this
    rw [← List.append_assoc]
    exact this
theorem MH.end_ {L S A B:List α} (h:MH C L S A B) (e:A=[]∨B=[]):Done C L (A++B++S):=by
  refine ⟨List.pairwise_append.mpr ⟨?_,h.so,fun x hx z hz=>?_⟩,h.pm⟩
  · rcases e with e | e
    · subst e; exact h.sb
    · subst e; rw [List.append_nil]; exact h.sa
  · rcases List.mem_append.mp hx with q | q
    · exact h.oa x q z hz
    · exact h.ob x q z hz
theorem MH.first {L S A B:List α} (h:MH C L S A B) (hl:∀ y∈B,∀ x∈A,Le C y x):Done C L (B++A++S):=by
  refine ⟨List.pairwise_append.mpr ⟨List.pairwise_append.mpr ⟨h.sb,h.sa,hl⟩,h.so,fun x hx z hz=>?_⟩,?_⟩
  · rcases List.mem_append.mp hx with q | q
    · exact h.ob x q z hz
    · exact h.oa x q z hz
  · exact (List.Perm.append_right S List.perm_append_comm).trans h.pm
theorem le_last (o:OrdG C) {x y:α} {l:List α} (h:Le C y x) (s:Srt C (l++[y])):∀ z∈l++[y],Le C z x:=fun z hz=>by
  rcases List.mem_append.mp hz with q | q
  · exact o.tr z y x ((List.pairwise_append.mp s).2.2 z q y (List.mem_singleton.mpr rfl)) h
  · rw [List.mem_singleton.mp q]; exact h
end pure
section
variable {C:Keyed→Keyed→Bool}
structure MB (C:Keyed→Keyed→Bool) (a b out:Array Keyed) (na nb:Nat):Prop where
  mh:MH C (a.toList++b.toList) out.toList.reverse (a.toList.take na) (b.toList.take nb)
  la:na≤a.size
  lb:nb≤b.size
theorem MB.len {a b out:Array Keyed} {na nb:Nat} (h:MB C a b out na nb):out.size+na+nb=a.size+b.size:=by
  have:=h.mh.len
  have:=h.la
  have:=h.lb
  rw [List.length_reverse,List.length_take,List.length_take,List.length_append,Array.length_toList,Array.length_toList,Array.length_toList] at *
  omega
theorem take_at {a:Array Keyed} {i:Nat} (h:i<a.size):a.toList.take (i+1)=a.toList.take i++[a[i]]:=by
  rw [List.take_add_one,Array.getElem?_toList,Array.getElem?_eq_getElem h]
  rfl
theorem take_chunk (l:List Keyed) {i k:Nat} (h:i≤k):l.take k=l.take i++(l.take k).drop i:=by
  have:l.take i=(l.take k).take i:=by rw [List.take_take,Nat.min_eq_left h]
  rw [this,List.take_append_drop]
theorem MB.pushA {a b out:Array Keyed} {na nb:Nat} (h:MB C a b out (na+1) nb) (hi:na<a.size) (hx:∀ y∈b.toList.take nb,Le C y a[na]):MB C a b (out.push a[na]) na nb:=by
  refine ⟨?_,by omega,h.lb⟩
  rw [Array.toList_push,List.reverse_append]
  have m:=h.mh
  rw [take_at hi] at m
  exact MH.chA (X:=[a[na]]) m fun y hy x hx'=>by rw [List.mem_singleton.mp hx']; exact hx y hy
theorem MB.pushB {a b out:Array Keyed} {na nb:Nat} (h:MB C a b out na (nb+1)) (hi:nb<b.size) (hx:∀ y∈a.toList.take na,Le C y b[nb]):MB C a b (out.push b[nb]) na nb:=by
  refine ⟨?_,h.la,by omega⟩
  rw [Array.toList_push,List.reverse_append]
  have m:=h.mh
  rw [take_at hi] at m
  exact MH.chB (X:=[b[nb]]) m fun y hy x hx'=>by rw [List.mem_singleton.mp hx']; exact hx y hy
theorem ext_rev (a out:Array Keyed) (i j:Nat) (h:j≤a.size):(out++(a.extract i j).reverse).toList.reverse=(a.toList.take j).drop i++out.toList.reverse:=by
  rw [Array.toList_append,List.reverse_append,Array.toList_reverse,List.reverse_reverse,ext_toList,List.drop_take]
theorem MB.chA {a b out:Array Keyed} {na nb k:Nat} (h:MB C a b out na nb) (hk:k≤na) (hx:∀ y∈b.toList.take nb,∀ x∈(a.toList.take na).drop k,Le C y x):MB C a b (out++(a.extract k na).reverse) k nb:=by
  have:=h.la
  refine ⟨?_,by omega,h.lb⟩
  rw [ext_rev _ _ _ _ h.la]
  have m:=h.mh
  rw [take_chunk a.toList hk] at m
  exact MH.chA m hx
theorem MB.chB {a b out:Array Keyed} {na nb k:Nat} (h:MB C a b out na nb) (hk:k≤nb) (hx:∀ y∈a.toList.take na,∀ x∈(b.toList.take nb).drop k,Le C y x):MB C a b (out++(b.extract k nb).reverse) na k:=by
  have:=h.lb
  refine ⟨?_,h.la,by omega⟩
  rw [ext_rev _ _ _ _ h.lb]
  have m:=h.mh
  rw [take_chunk b.toList hk] at m
  exact MH.chB m hx
theorem ext_beg (a:Array Keyed) (i:Nat):(a.extract 0 i).toList=a.toList.take i:=by rw [ext_toList,List.drop_zero,Nat.sub_zero]
theorem MB.done {a b out:Array Keyed} {na nb:Nat} (h:MB C a b out na nb) (e:na=0∨nb=0):Dn C a b (a.extract 0 na++b.extract 0 nb++out.reverse):=by
  unfold Dn
  rw [Array.toList_append,Array.toList_append,ext_beg,ext_beg,Array.toList_reverse]
  exact h.mh.end_ (e.imp (fun e=>by rw [e]; rfl) fun e=>by rw [e]; rfl)
theorem MB.first {a b out:Array Keyed} {na nb:Nat} (h:MB C a b out na nb) (e:nb=1) (hb:0<b.size) (hl:∀ x∈a.toList,Le C b[0] x):Dn C a b (b.extract 0 nb++a.extract 0 na++out.reverse):=by
  unfold Dn
  rw [Array.toList_append,Array.toList_append,ext_beg,ext_beg,Array.toList_reverse]
  refine h.mh.first fun y hy x hx=>?_
  rw [e,take_at hb,List.take_zero,List.nil_append] at hy
  rw [List.mem_singleton.mp hy]
  exact hl x (List.mem_of_mem_take hx)
end
end Tm
namespace Tm
open PySem PyProof.Rows
section
variable {M:Model} {A:Around} {E:Value→Shared→Prop} {s:Shared} {κ:SortKind} {G:Keyed→Prop} {C:Keyed→Keyed→Bool}
abbrev T5:=Option (Array Keyed)×Nat×Nat×Array Keyed×Nat
abbrev T6:=Option (Array Keyed)×Nat×Nat×Array Keyed×Nat×Nat
abbrev T7:=Option (Array Keyed)×Nat×Nat×Array Keyed×Nat×Nat×Nat
theorem top_le (o:OrdG C) {a:Array Keyed} {n:Nat} (h0:0<n) (h:n-1<a.size) (sr:Srt C (a.toList.take n)):∀ x∈a.toList.take n,Le C x a[n-1]:=by
  obtain ⟨n,rfl⟩:∃ k,n=k+1:=⟨n-1,by omega⟩
  have h':n<a.size:=h
  rw [take_at h'] at sr ⊢
  exact le_last o (le_refl o _) sr
theorem hi_tail {a b:Array Keyed} {out:Array Keyed} {na nb mg k k1:Nat} {st:SortSt} (m:MB C a b out na nb) (h1:0<na) (h2:1<nb) (hx:∀ (h:na-1<a.size),∀ y∈b.toList.take nb,Le C y a[na-1]) {R:ForInStep T7→SortSt→Prop}
    (ret:∀ r na nb out mg ac bc,Dn C a b r→R (.done (some r,na,nb,out,mg,ac,bc)) st)
    (brk:∀ na nb out' mg ac bc,MB C a b out' na nb→0<na→1<nb→out.size≤out'.size→R (.done (none,na,nb,out',mg,ac,bc)) st)
    (yld:∀ na nb out' mg ac bc,MB C a b out' na nb→0<na→1<nb→out.size≤out'.size→R (.yield (none,na,nb,out',mg,ac,bc)) st) :
    wpS M A E s (do
      let x2 ← elem' a (na-1)
      if (na-1==0)=true then pure (ForInStep.done (some (a.extract 0 (na-1)++b.extract 0 nb++(out.push x2).reverse),na-1,nb,out.push x2,mg,k,k1))
      else if (decide (k<7)&&decide (k1<7))=true then pure (ForInStep.done (none,na-1,nb,out.push x2,mg,k,k1))
      else pure (ForInStep.yield (none,na-1,nb,out.push x2,mg,k,k1))) R st:=by
  have la:=m.la
  obtain ⟨na,rfl⟩:∃ n,na=n+1:=⟨na-1,by omega⟩
  rw [Nat.add_sub_cancel]
  have hna:na<a.size:=by omega
  refine wpS_bind (wpS_elem (x:=a[na]) (Array.getElem?_eq_getElem hna) ?_)
  have m':=m.pushA hna (hx hna)
  have hsz:(out.push a[na]).size=out.size+1:=Array.size_push _
  by_cases q1:(na==0)=true
  · rw [if_pos q1]
    exact wpS_pure (ret _ _ _ _ _ _ _ (m'.done (.inl (by simpa using q1))))
  · rw [if_neg q1]
    have q1:0<na:=by simp at q1; omega
    by_cases q2:(decide (k<7)&&decide (k1<7))=true
    · rw [if_pos q2]
      exact wpS_pure (brk _ _ _ _ _ _ m' q1 h2 (by omega))
    · rw [if_neg q2]
      exact wpS_pure (yld _ _ _ _ _ _ m' q1 h2 (by omega))
theorem hi_half (hC:CmpOk M A E s κ G C) (o:OrdG C) {a b:Array Keyed} (t:Two G C a b) (hb0:0<b.size) {out:Array Keyed} {na nb mg k bc:Nat} {st:SortSt} (hk:kindOf st=κ) (m:MB C a b out na nb) (h1:0<na) (h2:1<nb) (hx:∀ (h:nb-1<b.size),∀ x∈a.toList.take na,Le C x b[nb-1]) {R:ForInStep T7→SortSt→Prop}
    (ret:∀ r na nb out mg ac bc,Dn C a b r→R (.done (some r,na,nb,out,mg,ac,bc)) st)
    (brk:∀ na nb out' mg ac bc,MB C a b out' na nb→0<na→1<nb→out.size≤out'.size→R (.done (none,na,nb,out',mg,ac,bc)) st)
    (yld:∀ na nb out' mg ac bc,MB C a b out' na nb→0<na→1<nb→out.size≤out'.size→R (.yield (none,na,nb,out',mg,ac,bc)) st) :
    wpS M A E s (do
      let y ← elem' b (nb-1)
      if (nb-1==1)=true then pure (ForInStep.done (some (b.extract 0 (nb-1)++a.extract 0 na++(out.push y).reverse),na,nb-1,out.push y,mg,k,bc))
      else do
        let x ← elem' a (na-1)
        let __x ← gallop' true x b 0 (nb-1) (nb-1-1)
        match __x with
        | some k1 =>
          if nb-1-k1 > 0 then
            if (k1==1)=true then pure (ForInStep.done (some (b.extract 0 k1++a.extract 0 na++(out.push y++(b.extract k1 (nb-1)).reverse).reverse),na,k1,out.push y++(b.extract k1 (nb-1)).reverse,mg,k,nb-1-k1))
            else if (k1==0)=true then pure (ForInStep.done (some (a.extract 0 na++b.extract 0 k1++(out.push y++(b.extract k1 (nb-1)).reverse).reverse),na,k1,out.push y++(b.extract k1 (nb-1)).reverse,mg,k,nb-1-k1))
            else do
              let x2 ← elem' a (na-1)
              if (na-1==0)=true then pure (ForInStep.done (some (a.extract 0 (na-1)++b.extract 0 k1++((out.push y++(b.extract k1 (nb-1)).reverse).push x2).reverse),na-1,k1,(out.push y++(b.extract k1 (nb-1)).reverse).push x2,mg,k,nb-1-k1))
              else if (decide (k<7)&&decide (nb-1-k1<7))=true then pure (ForInStep.done (none,na-1,k1,(out.push y++(b.extract k1 (nb-1)).reverse).push x2,mg,k,nb-1-k1))
              else pure (ForInStep.yield (none,na-1,k1,(out.push y++(b.extract k1 (nb-1)).reverse).push x2,mg,k,nb-1-k1))
          else do
            let x2 ← elem' a (na-1)
            if (na-1==0)=true then pure (ForInStep.done (some (a.extract 0 (na-1)++b.extract 0 (nb-1)++((out.push y).push x2).reverse),na-1,nb-1,(out.push y).push x2,mg,k,nb-1-k1))
            else if (decide (k<7)&&decide (nb-1-k1<7))=true then pure (ForInStep.done (none,na-1,nb-1,(out.push y).push x2,mg,k,nb-1-k1))
            else pure (ForInStep.yield (none,na-1,nb-1,(out.push y).push x2,mg,k,nb-1-k1))
        | _=>pure (ForInStep.done (some (a.extract 0 na++b.extract 0 (nb-1)++(out.push y).reverse),na,nb-1,out.push y,mg,k,bc))) R st:=by
  have la:=m.la
  have lb:=m.lb
  obtain ⟨nb,rfl⟩:∃ n,nb=n+1:=⟨nb-1,by omega⟩
  rw [Nat.add_sub_cancel] at *
  have hnb:nb<b.size:=by omega
  refine wpS_bind (wpS_elem (x:=b[nb]) (Array.getElem?_eq_getElem hnb) ?_)
  have m':=m.pushB hnb (hx hnb)
  have hsz:(out.push b[nb]).size=out.size+1:=Array.size_push _
  by_cases q1:(nb==1)=true
  · rw [if_pos q1]
    exact wpS_pure (ret _ _ _ _ _ _ _ (m'.first (by simpa using q1) hb0 (t.fst hb0)))
  rw [if_neg q1]
  have q1:1<nb:=by simp at q1; omega
  have hna:na-1<a.size:=by omega
  refine wpS_bind (wpS_elem (x:=a[na-1]) (Array.getElem?_eq_getElem hna) ?_)
  have mema:a[na-1]∈a.toList:=by simp
  refine wpS_bind (wpS_gal hC o (seg:=b.toList.take nb) hk (t.ga _ mema) (by rw [List.drop_zero]) (by rw [List.length_take,Array.length_toList]; omega) m'.mh.sb (fun x hx=>t.gb x (List.mem_of_mem_take hx)) (by omega) fun k1 hk1 b1 b2=>?_)
  have b1:∀ y∈b.toList.take k1,Le C y a[na-1]:=fun y hy=>by
    have:=b1 y (by rw [List.take_take,Nat.min_eq_left hk1]; exact hy)
    exact le_of_lt o this
  have b2:∀ y∈(b.toList.take nb).drop k1,Le C a[na-1] y:=b2
  dsimp only
  have sda:=m'.mh.sa
  have ena:na-1+1=na:=by omega
  have la2:∀ x∈a.toList.take na,Le C x a[na-1]:=top_le o h1 hna sda
  by_cases q2:nb-k1 > 0
  · rw [if_pos q2]
    have m2:=m'.chB (k:=k1) (by omega) fun x hx y hy=>o.tr x a[na-1] y (la2 x hx) (b2 y hy)
    by_cases q3:(k1==1)=true
    · rw [if_pos q3]
      exact wpS_pure (ret _ _ _ _ _ _ _ (m2.first (by simpa using q3) hb0 (t.fst hb0)))
    rw [if_neg q3]
    by_cases q4:(k1==0)=true
    · rw [if_pos q4]
      exact wpS_pure (ret _ _ _ _ _ _ _ (m2.done (.inr (by simpa using q4))))
    rw [if_neg q4]
    have q5:1<k1:=by simp at q3 q4; omega
    have hs2:out.size≤(out.push b[nb]++(b.extract k1 nb).reverse).size:=by rw [Array.size_append]; omega
    exact hi_tail m2 h1 q5 (fun _=>b1) ret (fun i j o' g x y z1 z2 z3 z4=>brk i j o' g x y z1 z2 z3 (by omega)) fun i j o' g x y z1 z2 z3 z4=>yld i j o' g x y z1 z2 z3 (by omega)
  · rw [if_neg q2]
    have e0:k1=nb:=by omega
    exact hi_tail m' h1 q1 (fun _=>by rw [e0] at b1; exact b1) ret (fun i j o' g x y z1 z2 z3 z4=>brk i j o' g x y z1 z2 z3 (by omega)) fun i j o' g x y z1 z2 z3 z4=>yld i j o' g x y z1 z2 z3 (by omega)
theorem wpS_mergeHi (hC:CmpOk M A E s κ G C) (o:OrdG C) {a b:Array Keyed} (t:Two G C a b) {Q:Array Keyed→SortSt→Prop} {st:SortSt} (hk:kindOf st=κ) (ha:0<a.size) (hb:0<b.size)
    (h:∀ r g,Dn C a b r→Q r (setG st g)) :
    wpS M A E s (mergeHi' a b) Q st:=by
  rw [mergeHi'_eq]
  refine wpS_bind (wpS_lift (wpAny_rule ⟨rfl,?_⟩))
  dsimp only
  have hl:a.size-1<a.size:=by omega
  refine wpS_bind (wpS_elem (x:=a[a.size-1]) (Array.getElem?_eq_getElem hl) ?_)
  have m0:MB C a b #[a[a.size-1]] (a.size-1) b.size:=by
    have:MB C a b #[] (a.size-1+1) b.size:=by
      refine ⟨?_,by omega,Nat.le_refl _⟩
      rw [List.take_of_length_le (by rw [Array.length_toList]; omega),List.take_of_length_le (by rw [Array.length_toList]; exact Nat.le_refl _)]
      exact ⟨List.Pairwise.nil,fun x _ z hz=>(by cases hz),fun x _ z hz=>(by cases hz),(by rw [show ((#[]:Array Keyed).toList.reverse)=[] from rfl,List.append_nil]),t.sa,t.sb⟩
    refine this.pushA hl fun y hy=>t.lst y (List.mem_of_mem_take hy) _ ?_
    rw [drop_at hl]
    exact List.mem_cons_self
  have hst:st=setG st (gallopOf st):=rfl
  by_cases c1:(a.size-1==0)=true
  · rw [if_pos c1]
    rw [hst]
    exact wpS_pure (h _ _ (m0.done (.inl (by simpa using c1))))
  rw [if_neg c1]
  by_cases c2:(b.size==1)=true
  · rw [if_pos c2]
    rw [hst]
    exact wpS_pure (h _ _ (m0.first (by simpa using c2) hb (t.fst hb)))
  rw [if_neg c2]
  have c1:0<a.size-1:=by simp at c1; omega
  have c2:1<b.size:=by simp at c2; omega
  refine wpS_bind (wpS_get ?_)
  refine wpS_bind (wpS_mono (wpS_forRange
    (I:=fun x (c:T5) st'=>(∃ g,st'=setG st g)∧∃ na nb out mg,c=(none,na,nb,out,mg)∧MB C a b out na nb∧0<na∧1<nb∧x+1≤out.size)
    (Q:=fun (c:T5) st'=>(∃ g,st'=setG st g)∧∃ r na nb out mg,c=(some r,na,nb,out,mg)∧Dn C a b r) ?step ?fin ⟨⟨_,hst⟩,_,_,_,_,rfl,m0,c1,c2,Nat.le_refl _⟩) ?post)
  case fin =>
    rintro c st' ⟨_,na,nb,out,mg,rfl,m,h1,h2,h3⟩
    have:=m.len
    omega
  case post =>
    rintro c st' ⟨⟨g,rfl⟩,r,na,nb,out,mg,rfl,d⟩
    exact wpS_pure (h _ _ d)
  case step =>
    rintro x c st' _ hx ⟨⟨g,rfl⟩,na,nb,out,mg,rfl,m,h1,h2,h3⟩
    dsimp only
    refine wpS_bind (wpS_mono (wpS_forRange
      (I:=fun y (c:T6) st'=>st'=setG st g∧∃ na nb out' ac bc,c=(none,na,nb,out',ac,bc)∧MB C a b out' na nb∧0<na∧1<nb∧out.size+y≤out'.size)
      (Q:=fun (c:T6) st'=>st'=setG st g∧((∃ r na nb out ac bc,c=(some r,na,nb,out,ac,bc)∧Dn C a b r)∨∃ na nb out' ac bc,c=(none,na,nb,out',ac,bc)∧MB C a b out' na nb∧0<na∧1<nb∧out.size+1≤out'.size))
      ?step1 ?fin1 ⟨rfl,_,_,_,_,_,rfl,m,h1,h2,Nat.le_refl _⟩) ?post1)
    case fin1 =>
      rintro c st' ⟨rfl,na,nb,out',ac,bc,rfl,m,h1,h2,h3⟩
      exact ⟨rfl,.inr ⟨na,nb,out',ac,bc,rfl,m,h1,h2,by omega⟩⟩
    case step1 =>
      rintro y c st' _ hy ⟨rfl,na,nb,out',ac,bc,rfl,m,h1,h2,h3⟩
      dsimp only
      have la:=m.la
      have lb:=m.lb
      obtain ⟨na,rfl⟩:∃ n,na=n+1:=⟨na-1,by omega⟩
      obtain ⟨nb,rfl⟩:∃ n,nb=n+1:=⟨nb-1,by omega⟩
      rw [Nat.add_sub_cancel,Nat.add_sub_cancel]
      have hna:na<a.size:=by omega
      have hnb:nb<b.size:=by omega
      have ea:a[na]?=some a[na]:=Array.getElem?_eq_getElem hna
      have eb:b[nb]?=some b[nb]:=Array.getElem?_eq_getElem hnb
      have mema:a[na]∈a.toList:=by simp
      have memb:b[nb]∈b.toList:=by simp
      refine wpS_bind (wpS_elem eb (wpS_bind (wpS_elem ea (wpS_bind (hC (t.gb _ memb) (t.ga _ mema) hk ?_)))))
      dsimp only
      have sda:=m.mh.sa
      have sdb:=m.mh.sb
      rw [take_at hna] at sda
      rw [take_at hnb] at sdb
      cases w:C b[nb] a[na] with
      | true =>
        rw [if_pos rfl]
        refine wpS_bind (wpS_elem ea ?_)
        have m':=m.pushA hna (by rw [take_at hnb]; exact le_last o (le_of_lt o w) sdb)
        have hsz:(out'.push a[na]).size=out'.size+1:=Array.size_push _
        by_cases q1:(na==0)=true
        · rw [if_pos q1]
          exact wpS_pure ⟨rfl,.inl ⟨_,_,_,_,_,_,rfl,m'.done (.inl (by simpa using q1))⟩⟩
        · rw [if_neg q1]
          have q1:0<na:=by simp at q1; omega
          by_cases q2:ac+1 ≥ mg
          · rw [if_pos q2]
            exact wpS_pure ⟨rfl,.inr ⟨_,_,_,_,_,rfl,m',q1,h2,by omega⟩⟩
          · rw [if_neg q2]
            exact wpS_pure ⟨rfl,_,_,_,_,_,rfl,m',q1,h2,by omega⟩
      | false =>
        rw [if_neg Bool.false_ne_true]
        refine wpS_bind (wpS_elem eb ?_)
        have m':=m.pushB hnb (by rw [take_at hna]; exact le_last o w sda)
        have hsz:(out'.push b[nb]).size=out'.size+1:=Array.size_push _
        by_cases q1:(nb==1)=true
        · rw [if_pos q1]
          exact wpS_pure ⟨rfl,.inl ⟨_,_,_,_,_,_,rfl,m'.first (by simpa using q1) hb (t.fst hb)⟩⟩
        · rw [if_neg q1]
          have q1:1<nb:=by simp at q1; omega
          by_cases q2:bc+1 ≥ mg
          · rw [if_pos q2]
            exact wpS_pure ⟨rfl,.inr ⟨_,_,_,_,_,rfl,m',h1,q1,by omega⟩⟩
          · rw [if_neg q2]
            exact wpS_pure ⟨rfl,_,_,_,_,_,rfl,m',h1,q1,by omega⟩
    case post1 =>
      rintro c st' ⟨rfl,⟨r,na,nb,out',ac,bc,rfl,d⟩ | ⟨na,nb,out',ac,bc,rfl,m,h1,h2,h4⟩⟩
      · exact wpS_pure ⟨⟨g,rfl⟩,_,_,_,_,_,rfl,d⟩
      dsimp only
      refine wpS_bind (wpS_lift (wpAny_rule ⟨rfl,?_⟩))
      refine wpS_bind (wpS_mono (wpS_forRange
        (I:=fun y (c:T7) st'=>(∃ g,st'=setG st g)∧∃ na nb out'' mg ac bc,c=(none,na,nb,out'',mg,ac,bc)∧MB C a b out'' na nb∧0<na∧1<nb∧out'.size≤out''.size)
        (Q:=fun (c:T7) st'=>(∃ g,st'=setG st g)∧((∃ r na nb out mg ac bc,c=(some r,na,nb,out,mg,ac,bc)∧Dn C a b r)∨∃ na nb out'' mg ac bc,c=(none,na,nb,out'',mg,ac,bc)∧MB C a b out'' na nb∧0<na∧1<nb∧out'.size≤out''.size))
        ?step2 ?fin2 ⟨⟨g,rfl⟩,_,_,_,_,_,_,rfl,m,h1,h2,Nat.le_refl _⟩) ?post2)
      case fin2 =>
        rintro c st' ⟨hg,na,nb,out'',mg,ac,bc,rfl,m,h1,h2,h3⟩
        exact ⟨hg,.inr ⟨_,_,_,_,_,_,rfl,m,h1,h2,h3⟩⟩
      case post2 =>
        rintro c st' ⟨⟨g2,rfl⟩,⟨r,na,nb,out'',mg,ac,bc,rfl,d⟩ | ⟨na,nb,out'',mg,ac,bc,rfl,m,h1,h2,h5⟩⟩
        · exact wpS_pure ⟨⟨g2,rfl⟩,_,_,_,_,_,rfl,d⟩
        · exact wpS_bind (wpS_modify (wpS_pure ⟨⟨_,rfl⟩,_,_,_,_,rfl,m,h1,h2,(show x+1+1≤out''.size by omega)⟩))
      case step2 =>
        rintro y c st' _ hy ⟨⟨g2,rfl⟩,na,nb,out'',mg,ac,bc,rfl,m,h1,h2,h3⟩
        dsimp only
        by_cases hm:mg > 1
        · rw [if_pos hm]
          refine wpS_bind (wpS_modify ?_)
          have hkk:kindOf (setG (setG st g2) (mg-1))=κ:=hk
          have la:=m.la
          have lb:=m.lb
          have hnb:nb-1<b.size:=by omega
          have memb:b[nb-1]∈b.toList:=by simp
          refine wpS_bind (wpS_elem (x:=b[nb-1]) (Array.getElem?_eq_getElem hnb) ?_)
          refine wpS_bind (wpS_gal hC o (seg:=a.toList.take na) hkk (t.gb _ memb) (by rw [List.drop_zero]) (by rw [List.length_take,Array.length_toList]; omega) m.mh.sa (fun x hx=>t.ga x (List.mem_of_mem_take hx)) (by omega) fun k hk1 b1 b2=>?_)
          have sdb:=m.mh.sb
          have enb:nb-1+1=nb:=by omega
          have lb2:∀ x∈b.toList.take nb,Le C x b[nb-1]:=top_le o (by omega) hnb sdb
          have b1:∀ x∈a.toList.take k,Le C x b[nb-1]:=fun x hx=>by
            have:=b1 x (by rw [List.take_take,Nat.min_eq_left hk1]; exact hx)
            unfold bey at this
            unfold Le
            simpa using this
          have b2:∀ y∈b.toList.take nb,∀ x∈(a.toList.take na).drop k,Le C y x:=fun y hy x hx=>by
            have:=b2 x hx
            unfold bey at this
            exact o.tr y b[nb-1] x (lb2 y hy) (le_of_lt o (by simpa using this))
          dsimp only
          by_cases q0:na-k > 0
          · rw [if_pos q0]
            have m2:=m.chA (by omega) b2
            have hs2:out''.size≤(out''++(a.extract k na).reverse).size:=by rw [Array.size_append]; omega
            by_cases q1:(k==0)=true
            · rw [if_pos q1]
              exact wpS_pure ⟨⟨_,rfl⟩,.inl ⟨_,_,_,_,_,_,_,rfl,m2.done (.inl (by simpa using q1))⟩⟩
            rw [if_neg q1]
            have q3:0<k:=by simp at q1; omega
            exact hi_half hC o t hb hkk m2 q3 h2 (fun _=>b1) (fun r na nb out mg ac bc d=>⟨⟨_,rfl⟩,.inl ⟨_,_,_,_,_,_,_,rfl,d⟩⟩) (fun i j o' g x y z1 z2 z3 z4=>⟨⟨_,rfl⟩,.inr ⟨_,_,_,_,_,_,rfl,z1,z2,z3,by omega⟩⟩) fun i j o' g x y z1 z2 z3 z4=>⟨⟨_,rfl⟩,_,_,_,_,_,_,rfl,z1,z2,z3,by omega⟩
          · rw [if_neg q0]
            have e0:k=na:=by omega
            exact hi_half hC o t hb hkk m h1 h2 (fun _=>by rw [e0] at b1; exact b1) (fun r na nb out mg ac bc d=>⟨⟨_,rfl⟩,.inl ⟨_,_,_,_,_,_,_,rfl,d⟩⟩) (fun i j o' g x y z1 z2 z3 z4=>⟨⟨_,rfl⟩,.inr ⟨_,_,_,_,_,_,rfl,z1,z2,z3,by omega⟩⟩) fun i j o' g x y z1 z2 z3 z4=>⟨⟨_,rfl⟩,_,_,_,_,_,_,rfl,z1,z2,z3,by omega⟩
        · rw [if_neg hm]
          refine wpS_bind (wpS_modify ?_)
          have hkk:kindOf (setG (setG st g2) mg)=κ:=hk
          have la:=m.la
          have lb:=m.lb
          have hnb:nb-1<b.size:=by omega
          have memb:b[nb-1]∈b.toList:=by simp
          refine wpS_bind (wpS_elem (x:=b[nb-1]) (Array.getElem?_eq_getElem hnb) ?_)
          refine wpS_bind (wpS_gal hC o (seg:=a.toList.take na) hkk (t.gb _ memb) (by rw [List.drop_zero]) (by rw [List.length_take,Array.length_toList]; omega) m.mh.sa (fun x hx=>t.ga x (List.mem_of_mem_take hx)) (by omega) fun k hk1 b1 b2=>?_)
          have sdb:=m.mh.sb
          have enb:nb-1+1=nb:=by omega
          have lb2:∀ x∈b.toList.take nb,Le C x b[nb-1]:=top_le o (by omega) hnb sdb
          have b1:∀ x∈a.toList.take k,Le C x b[nb-1]:=fun x hx=>by
            have:=b1 x (by rw [List.take_take,Nat.min_eq_left hk1]; exact hx)
            unfold bey at this
            unfold Le
            simpa using this
          have b2:∀ y∈b.toList.take nb,∀ x∈(a.toList.take na).drop k,Le C y x:=fun y hy x hx=>by
            have:=b2 x hx
            unfold bey at this
            exact o.tr y b[nb-1] x (lb2 y hy) (le_of_lt o (by simpa using this))
          dsimp only
          by_cases q0:na-k > 0
          · rw [if_pos q0]
            have m2:=m.chA (by omega) b2
            have hs2:out''.size≤(out''++(a.extract k na).reverse).size:=by rw [Array.size_append]; omega
            by_cases q1:(k==0)=true
            · rw [if_pos q1]
              exact wpS_pure ⟨⟨_,rfl⟩,.inl ⟨_,_,_,_,_,_,_,rfl,m2.done (.inl (by simpa using q1))⟩⟩
            rw [if_neg q1]
            have q3:0<k:=by simp at q1; omega
            exact hi_half hC o t hb hkk m2 q3 h2 (fun _=>b1) (fun r na nb out mg ac bc d=>⟨⟨_,rfl⟩,.inl ⟨_,_,_,_,_,_,_,rfl,d⟩⟩) (fun i j o' g x y z1 z2 z3 z4=>⟨⟨_,rfl⟩,.inr ⟨_,_,_,_,_,_,rfl,z1,z2,z3,by omega⟩⟩) fun i j o' g x y z1 z2 z3 z4=>⟨⟨_,rfl⟩,_,_,_,_,_,_,rfl,z1,z2,z3,by omega⟩
          · rw [if_neg q0]
            have e0:k=na:=by omega
            exact hi_half hC o t hb hkk m h1 h2 (fun _=>by rw [e0] at b1; exact b1) (fun r na nb out mg ac bc d=>⟨⟨_,rfl⟩,.inl ⟨_,_,_,_,_,_,_,rfl,d⟩⟩) (fun i j o' g x y z1 z2 z3 z4=>⟨⟨_,rfl⟩,.inr ⟨_,_,_,_,_,_,rfl,z1,z2,z3,by omega⟩⟩) fun i j o' g x y z1 z2 z3 z4=>⟨⟨_,rfl⟩,_,_,_,_,_,_,rfl,z1,z2,z3,by omega⟩
end
end Tm
namespace Tm
open PySem PyProof.Rows
def gk (xs:Array Keyed) (i:Nat):Keyed:=xs[i]?.getD (.none,.none)
theorem gk_some {xs:Array Keyed} {i:Nat} (h:i<xs.size):xs[i]?=some (gk xs i):=by
  unfold gk
  rw [Array.getElem?_eq_getElem h]
  rfl
theorem gk_congr {xs ys:Array Keyed} {i j:Nat} (h:xs[i]?=ys[j]?):gk xs i=gk ys j:=by unfold gk; rw [h]
theorem gk_bubble {xs:Array Keyed} {src d:Nat} (hs:src<xs.size) (hd:d≤src) (k:Nat):gk (bubble xs src d) k=if k=src-d then gk xs src else if src-d<k∧k≤src then gk xs (k-1) else gk xs k:=by
  have e:=getElem?_bubble hs d hd k
  by_cases h1:k=src-d
  · rw [if_pos h1] at e ⊢; exact gk_congr e
  · rw [if_neg h1] at e ⊢
    by_cases h2:src-d<k∧k≤src
    · rw [if_pos h2] at e ⊢; exact gk_congr e
    · rw [if_neg h2] at e ⊢; exact gk_congr e
theorem gk_mirror {xs:Array Keyed} {i j:Nat} (hj:j≤xs.size) (k:Nat):gk (mirror xs i j ((j-i) / 2)) k=if i≤k∧k<j then gk xs (i+j-1-k) else gk xs k:=by
  have e:=getElem?_mirror_all (i:=i) hj k
  by_cases h1:i≤k∧k<j
  · rw [if_pos h1] at e ⊢; exact gk_congr e
  · rw [if_neg h1] at e ⊢; exact gk_congr e
def Up (C:Keyed→Keyed→Bool) (xs:Array Keyed) (lo hi:Nat):Prop:=∀ i j,lo≤i→i≤j→j<hi→Le C (gk xs i) (gk xs j)
def Dw (C:Keyed→Keyed→Bool) (xs:Array Keyed) (lo hi:Nat):Prop:=∀ i j,lo≤i→i≤j→j<hi→Le C (gk xs j) (gk xs i)
structure SB (κ:SortKind) (a₀:Array Keyed) (st:SortSt):Prop where
  perm:(arrOf st).Perm a₀
  kind:kindOf st=κ
  failed:failedOf st=none
theorem SB.size {κ:SortKind} {a₀:Array Keyed} {st:SortSt} (h:SB κ a₀ st):(arrOf st).size=a₀.size:=h.perm.size_eq
theorem SB.setArr {κ:SortKind} {a₀:Array Keyed} {st:SortSt} (h:SB κ a₀ st) {xs:Array Keyed} (hp:xs.Perm (arrOf st)):SB κ a₀ (PyProof.Rows.setArr st xs):=⟨hp.trans h.perm,h.kind,h.failed⟩
def Good (G:Keyed→Prop) (a₀:Array Keyed):Prop:=∀ x∈a₀.toList,G x
theorem SB.good {κ:SortKind} {a₀:Array Keyed} {st:SortSt} {G:Keyed→Prop} (h:SB κ a₀ st) (g:Good G a₀) {i:Nat} (hi:i<a₀.size):G (gk (arrOf st) i):=by
  have hi':i<(arrOf st).size:=by rw [h.size]; exact hi
  refine g _ ((Array.perm_iff_toList_perm.mp h.perm).mem_iff.mp ?_)
  have:=gk_some hi'
  rw [← Array.getElem?_toList] at this
  exact List.mem_of_getElem? this
section
variable {M:Model} {A:Around} {E:Value→Shared→Prop} {s:Shared} {κ:SortKind} {G:Keyed→Prop} {C:Keyed→Keyed→Bool} {a₀:Array Keyed}
theorem wpS_lta (hC:CmpOk M A E s κ G C) (g:Good G a₀) {st:SortSt} {i j:Nat} {Q:Option Bool→SortSt→Prop} (hB:SB κ a₀ st) (hi:i<a₀.size) (hj:j<a₀.size)
    (h:Q (some (C (gk (arrOf st) i) (gk (arrOf st) j))) st):wpS M A E s (ltAt' i j) Q st:=by
  rw [ltAt'_eq]
  refine wpS_bind (wpS_get ?_)
  show wpS _ _ _ _ (do let x ← elem' (arrOf st) i; let y ← elem' (arrOf st) j; lt' x y) Q st
  exact wpS_bind (wpS_elem (gk_some (by rw [hB.size]; exact hi)) (wpS_bind (wpS_elem (gk_some (by rw [hB.size]; exact hj)) (hC (hB.good g hi) (hB.good g hj) hB.kind h))))
theorem wpS_binary (hC:CmpOk M A E s κ G C) (o:OrdG C) (g:Good G a₀) {st:SortSt} {lo n ok:Nat} {Q:Bool→SortSt→Prop} (hn:lo+n≤a₀.size) (hok:ok≤n) (hB:SB κ a₀ st) (hs:Up C (arrOf st) lo (lo+ok))
    (h:∀ xs,SB κ a₀ (setArr st xs)→(∀ k,k<lo∨lo+n≤k→gk xs k=gk (arrOf st) k)→Up C xs lo (lo+n)→Q true (setArr st xs)):wpS M A E s (binarySort' lo n ok) Q st:=by
  rw [binarySort'_eq]
  refine wpS_bind (wpS_mono (wpS_forRange (I:=fun k c st'=>c=(none,())∧∃ xs,st'=setArr st xs∧SB κ a₀ st'∧(∀ k,k<lo∨lo+n≤k→gk xs k=gk (arrOf st) k)∧Up C xs lo (lo+min k n))
    (Q:=fun c st'=>c=(none,())∧∃ xs,st'=setArr st xs∧SB κ a₀ st'∧(∀ k,k<lo∨lo+n≤k→gk xs k=gk (arrOf st) k)∧Up C xs lo (lo+n)) ?step ?fin ?init) ?post)
  case post =>
    rintro c st' ⟨rfl,xs,rfl,hB',hf,hs'⟩
    exact wpS_pure (h xs hB' hf hs')
  case init =>
    refine ⟨rfl,arrOf st,rfl,hB,fun _ _=>rfl,fun i j h1 hij hj=>?_⟩
    by_cases h1:ok=0
    · have:i=j:=by omega
      subst this; exact le_refl o _
    · exact hs i j (by omega) hij (by omega)
  case fin =>
    rintro c st' ⟨hc,xs,e,hB',hf,hs'⟩
    refine ⟨hc,xs,e,hB',hf,?_⟩
    rwa [show min (max (max ok 1) n) n=n by omega] at hs'
  case step =>
    rintro k c st' hak hkn ⟨rfl,xs,rfl,hB',hf,hs'⟩
    rw [show min k n=k by omega] at hs'
    have hk:lo+k<a₀.size:=by omega
    refine wpS_bind (wpS_mono (wpS_forRange (I:=fun x c st''=>st''=setArr st xs∧∃ l r,c=(none,l,r)∧l≤r∧r≤k∧r-l≤k-x ∧
        (∀ i,i<l→Le C (gk xs (lo+i)) (gk xs (lo+k)))∧(∀ i,r≤i→i<k→Le C (gk xs (lo+k)) (gk xs (lo+i))))
      (Q:=fun c st''=>st''=setArr st xs∧∃ l r,c=(none,l,r)∧l≤k ∧
        (∀ i,i<l→Le C (gk xs (lo+i)) (gk xs (lo+k)))∧(∀ i,l≤i→i<k→Le C (gk xs (lo+k)) (gk xs (lo+i)))) ?istep ?ifin ?iinit) ?ipost)
    case iinit=>exact ⟨rfl,0,k,rfl,by omega,by omega,by omega,fun i hi=>by omega,fun i h1 h2=>by omega⟩
    case ifin =>
      rintro c st'' ⟨rfl,l,r,rfl,hlr,hrk,hm,hlo,hhi⟩
      have:l=r:=by omega
      subst this
      exact ⟨rfl,l,l,rfl,hrk,hlo,hhi⟩
    case istep =>
      rintro x c st'' _ hxk ⟨rfl,l,r,rfl,hlr,hrk,hm,hlo,hhi⟩
      dsimp only
      by_cases hge:l ≥ r
      · rw [if_pos hge]
        have:l=r:=by omega
        subst this
        exact wpS_pure ⟨rfl,l,l,rfl,hrk,hlo,hhi⟩
      · rw [if_neg hge]
        refine wpS_bind (wpS_lta hC g hB' hk (by omega) ?_)
        cases w:C (gk (arrOf (setArr st xs)) (lo+k)) (gk (arrOf (setArr st xs)) (lo+(l+r) / 2)) with
        | true =>
          dsimp only
          rw [if_pos rfl]
          refine wpS_pure ⟨rfl,l,(l+r) / 2,rfl,by omega,by omega,by omega,hlo,fun i h1 h2=>?_⟩
          exact o.tr _ _ _ (le_of_lt o w) (hs' _ _ (by omega) (by omega) (by omega))
        | false =>
          dsimp only
          rw [if_neg Bool.false_ne_true]
          refine wpS_pure ⟨rfl,(l+r) / 2+1,r,rfl,by omega,by omega,by omega,fun i h1=>?_,hhi⟩
          exact o.tr _ _ _ (hs' _ _ (by omega) (show lo+i≤lo+(l+r) / 2 by omega) (by omega)) w
    case ipost =>
      rintro c st'' ⟨rfl,l,r,rfl,hlk,hlo,hhi⟩
      show wpS _ _ _ _ (do moveDown' (lo+k) (lo+l); pure (ForInStep.yield (none,()))) _ _
      rw [moveDown'_eq]
      have hks:lo+k<(arrOf (setArr st xs)).size:=by rw [hB'.size]; exact hk
      refine wpS_bind (wpS_modify (wpS_pure ⟨rfl,bubble xs (lo+k) (lo+k-(lo+l)),rfl,hB'.setArr (bubble_perm _ _ _),fun i hi=>?_,?_⟩))
      · rw [gk_bubble hks (by omega),if_neg (by omega),if_neg (by omega)]
        exact hf i hi
      rw [show min (k+1) n=k+1 by omega]
      have hks:lo+k<xs.size:=hks
      intro i j hli hij hj
      show Le C (gk (bubble xs (lo+k) (lo+k-(lo+l))) i) (gk (bubble xs (lo+k) (lo+k-(lo+l))) j)
      rw [gk_bubble hks (by omega),gk_bubble hks (by omega),show lo+k-(lo+k-(lo+l))=lo+l by omega]
      have hlo':∀ i,lo≤i→i<lo+l→Le C (gk xs i) (gk xs (lo+k)):=fun i h1 h2=>by have:=hlo (i-lo) (by omega); rwa [show lo+(i-lo)=i by omega] at this
      have hhi':∀ i,lo+l≤i→i<lo+k→Le C (gk xs (lo+k)) (gk xs i):=fun i h1 h2=>by have:=hhi (i-lo) (by omega) (by omega); rwa [show lo+(i-lo)=i by omega] at this
      repeat' split
      all_goals first
        | (exfalso; omega)
        | exact le_refl o _
        | exact hlo' _ (by omega) (by omega)
        | exact hhi' _ (by omega) (by omega)
        | exact hs' _ _ (by omega) (by omega) (by omega)
end
end Tm
namespace Tm
open PySem PyProof.Rows
section
variable {M:Model} {A:Around} {E:Value→Shared→Prop} {s:Shared} {κ:SortKind} {G:Keyed→Prop} {C:Keyed→Keyed→Bool} {a₀:Array Keyed}
theorem le_same (o:OrdG C) {xs:Array Keyed} {i j:Nat} (h:i=j):Le C (gk xs i) (gk xs j):=by
  subst h; exact le_refl o _
structure Run (κ:SortKind) (a₀:Array Keyed) (st:SortSt) (lo nrem:Nat) (xs:Array Keyed):Prop where
  sb:SB κ a₀ (setArr st xs)
  out:∀ k,k<lo∨lo+nrem≤k→gk xs k=gk (arrOf st) k
theorem Run.size {st:SortSt} {lo nrem:Nat} {xs:Array Keyed} (r:Run κ a₀ st lo nrem xs):xs.size=a₀.size:=r.sb.size
theorem Run.mirror {st:SortSt} {lo nrem i j:Nat} {xs:Array Keyed} (r:Run κ a₀ st lo nrem xs) (hi:lo≤i) (hj:j≤lo+nrem) (hn:lo+nrem≤a₀.size):Run κ a₀ st lo nrem (mirror xs i j ((j-i) / 2)):=by
  refine ⟨r.sb.setArr (mirror_perm _ _ _ _),fun k hk=>?_⟩
  rw [gk_mirror (by rw [r.size]; omega),if_neg (by omega)]
  exact r.out k hk
theorem wpS_rev {st:SortSt} {i j:Nat} {Q:Unit→SortSt→Prop} (h:Q () (setArr st (mirror (arrOf st) i j ((j-i) / 2)))):wpS M A E s (reverseSlice' i j) Q st:=by
  rw [reverseSlice'_eq]; exact wpS_modify h
theorem wpS_asc (hC:CmpOk M A E s κ G C) (o:OrdG C) (g:Good G a₀) {st:SortSt} {lo nrem a:Nat} {xs:Array Keyed} {Q:Option (Option Nat)×Nat→SortSt→Prop} (hn:lo+nrem≤a₀.size) (ha:1≤a) (han:a≤nrem) (r:Run κ a₀ st lo nrem xs) (hs:Up C xs lo (lo+a))
    (h:∀ n,a≤n→n≤nrem→Up C xs lo (lo+n)→(n=nrem∨C (gk xs (lo+n)) (gk xs (lo+n-1))=true)→Q (none,n) (setArr st xs)) :
    wpS M A E s (forIn [a:nrem] ((none,a):Option (Option Nat)×Nat) fun _ __s=>do
      let __x ← ltAt' (lo+__s.snd) (lo+__s.snd-1)
      match __x with
      | some smaller=>if smaller=true then pure (ForInStep.done (none,__s.snd)) else pure (ForInStep.yield (none,__s.snd+1))
      | _=>pure (ForInStep.done (some none,__s.snd))) Q (setArr st xs):=by
  refine wpS_forRange (I:=fun x c st'=>st'=setArr st xs∧c=(none,x)∧Up C xs lo (lo+x)) ?step ?fin ⟨rfl,rfl,hs⟩
  case fin =>
    rintro c st' ⟨rfl,rfl,hs'⟩
    rw [show max a nrem=nrem by omega] at hs' ⊢
    exact h nrem han (Nat.le_refl _) hs' (.inl rfl)
  case step =>
    rintro x c st' hax hxn ⟨rfl,rfl,hs'⟩
    dsimp only
    refine wpS_bind (wpS_lta hC g r.sb (by omega) (by omega) ?_)
    cases w:C (gk (arrOf (setArr st xs)) (lo+x)) (gk (arrOf (setArr st xs)) (lo+x-1)) with
    | true =>
      dsimp only
      rw [if_pos rfl]
      exact wpS_pure (h x hax (by omega) hs' (.inr w))
    | false =>
      dsimp only
      rw [if_neg Bool.false_ne_true]
      refine wpS_pure ⟨rfl,rfl,fun i j hi hij hj=>?_⟩
      by_cases hjx:j<lo+x
      · exact hs' i j hi hij hjx
      · have hj':j=lo+x:=by omega
        subst hj'
        by_cases hi':i=lo+x
        · subst hi'; exact le_refl o _
        · exact o.tr _ _ _ (hs' i (lo+x-1) hi (by omega) (by omega)) w
def descP (lo n nrem:Nat):StateT SortSt Sem (Option Nat):=do
  let mut n:=n
  rule "list.sort.descending-run"
  n:=n+1
  let mut neq:=0
  for _ in [n:nrem] do
    let some smaller ← ltAt' (lo+n) (lo+n-1) | return none
    if smaller then
      if neq > 0 then reverseSlice' (lo+n-(neq+1)) (lo+n)
      neq:=0
    else
      let some larger ← ltAt' (lo+n-1) (lo+n) | return none
      if larger then break
      neq:=neq+1
    n:=n+1
  if neq > 0 then reverseSlice' (lo+n-(neq+1)) (lo+n)
  reverseSlice' lo (lo+n)
  for _ in [n:nrem] do
    let some smaller ← ltAt' (lo+n) (lo+n-1) | return none
    if smaller then break
    n:=n+1
  return some n
theorem wpS_descP (hC:CmpOk M A E s κ G C) (o:OrdG C) (g:Good G a₀) {st:SortSt} {lo n nrem:Nat} {xs:Array Keyed} {Q:Option Nat→SortSt→Prop} (hn:lo+nrem≤a₀.size) (hnn:n+1≤nrem) (r:Run κ a₀ st lo nrem xs) (hs:Dw C xs lo (lo+(n+1)))
    (h:∀ m ys,Run κ a₀ st lo nrem ys→1≤m→m≤nrem→Up C ys lo (lo+m)→Q (some m) (setArr st ys)):wpS M A E s (descP lo n nrem) Q (setArr st xs):=by
  have tail:∀ (m:Nat) (ys:Array Keyed),Run κ a₀ st lo nrem ys→1≤m→m≤nrem→Dw C ys lo (lo+m)→Run κ a₀ st lo nrem (mirror ys lo (lo+m) ((lo+m-lo) / 2))∧Up C (mirror ys lo (lo+m) ((lo+m-lo) / 2)) lo (lo+m):=fun m ys r1 h1 h2 hd=>by
    refine ⟨r1.mirror (Nat.le_refl _) (by omega) hn,fun i j hi hij hj=>?_⟩
    have hsz:lo+m≤ys.size:=by rw [r1.size]; omega
    rw [gk_mirror hsz,gk_mirror hsz,if_pos (by omega),if_pos (by omega)]
    exact hd _ _ (by omega) (by omega) (by omega)
  have eqv:∀ (ys:Array Keyed) (m q:Nat),Run κ a₀ st lo nrem ys→m≤nrem→q+1≤m→Dw C ys lo (lo+m)→(∀ i j,lo+m-(q+1)≤i→i<lo+m→lo+m-(q+1)≤j→j<lo+m→Le C (gk ys i) (gk ys j))→Dw C (mirror ys (lo+m-(q+1)) (lo+m) ((lo+m-(lo+m-(q+1))) / 2)) lo (lo+m):=fun ys m q r1 h1 h2 hd he i j hi hij hj=>by
    have hsz:lo+m≤ys.size:=by rw [r1.size]; omega
    rw [gk_mirror hsz,gk_mirror hsz]
    repeat' split
    all_goals first
      | (exfalso; omega)
      | exact he _ _ (by omega) (by omega) (by omega) (by omega)
      | exact hd _ _ (by omega) (by omega) (by omega)
  unfold descP
  refine wpS_bind (wpS_lift (wpAny_rule ⟨rfl,?_⟩))
  dsimp only
  refine wpS_bind (wpS_mono (wpS_forRange (I:=fun x (c:Option (Option Nat)×Nat×Nat) st'=>∃ neq ys,c=(none,x,neq)∧st'=setArr st ys∧Run κ a₀ st lo nrem ys∧Dw C ys lo (lo+x)∧neq+1≤x∧(∀ i j,lo+x-(neq+1)≤i→i<lo+x→lo+x-(neq+1)≤j→j<lo+x→Le C (gk ys i) (gk ys j)))
    (Q:=fun (c:Option (Option Nat)×Nat×Nat) st'=>∃ m neq ys,c=(none,m,neq)∧st'=setArr st ys∧Run κ a₀ st lo nrem ys∧1≤m∧m≤nrem∧Dw C ys lo (lo+m)∧neq+1≤m∧(∀ i j,lo+m-(neq+1)≤i→i<lo+m→lo+m-(neq+1)≤j→j<lo+m→Le C (gk ys i) (gk ys j))) ?step ?fin ?init) ?post)
  case init=>exact ⟨0,xs,rfl,rfl,r,hs,by omega,fun i j h1 h2 h3 h4=>le_same o (by omega)⟩
  case fin =>
    rintro c st' ⟨neq,ys,rfl,rfl,r1,hd,h1,h2⟩
    rw [show max (n+1) nrem=nrem by omega] at hd h1 h2 ⊢
    exact ⟨nrem,neq,ys,rfl,rfl,r1,by omega,Nat.le_refl _,hd,h1,h2⟩
  case step =>
    rintro x c st' hax hxn ⟨neq,ys,rfl,rfl,r1,hd,h1,h2⟩
    dsimp only
    refine wpS_bind (wpS_lta hC g r1.sb (by omega) (by omega) ?_)
    have one:∀ (zs:Array Keyed) (i j:Nat),lo+(x+1)-(0+1)≤i→i<lo+(x+1)→lo+(x+1)-(0+1)≤j→j<lo+(x+1)→Le C (gk zs i) (gk zs j):=fun zs i j h1 h2 h3 h4=>by
      have:i=j:=by omega
      subst this; exact le_refl o _
    cases w:C (gk (arrOf (setArr st ys)) (lo+x)) (gk (arrOf (setArr st ys)) (lo+x-1)) with
    | true =>
      dsimp only
      rw [if_pos rfl]
      have grow:∀ zs:Array Keyed,Dw C zs lo (lo+x)→gk zs (lo+x)=gk ys (lo+x)→Le C (gk ys (lo+x)) (gk zs (lo+x-1))→Dw C zs lo (lo+(x+1)):=fun zs hz e1 e2 i j hi hij hj=>by
        by_cases hjx:j<lo+x
        · exact hz i j hi hij hjx
        · have hj':j=lo+x:=by omega
          subst hj'
          by_cases hi':i=lo+x
          · subst hi'; exact le_refl o _
          · rw [e1]; exact o.tr _ _ _ e2 (hz i (lo+x-1) hi (by omega) (by omega))
      have w':C (gk ys (lo+x)) (gk ys (lo+x-1))=true:=w
      by_cases hq:neq > 0
      · rw [if_pos hq]
        refine wpS_bind (wpS_rev (wpS_pure ⟨0,_,rfl,rfl,r1.mirror (by omega) (by omega) hn,grow _ (eqv ys x neq r1 (by omega) h1 hd h2) ?_ ?_,by omega,one _⟩))
        · rw [gk_mirror (show lo+x≤ys.size by rw [r1.size]; omega),if_neg (by omega)]
        · rw [gk_mirror (show lo+x≤ys.size by rw [r1.size]; omega),if_pos (by omega)]
          exact o.tr _ _ _ (le_of_lt o w') (h2 _ _ (by omega) (by omega) (by omega) (by omega))
      · rw [if_neg hq]
        exact wpS_pure ⟨0,ys,rfl,rfl,r1,grow ys hd rfl (le_of_lt o w'),by omega,one _⟩
    | false =>
      dsimp only
      rw [if_neg Bool.false_ne_true]
      refine wpS_bind (wpS_lta hC g r1.sb (by omega) (by omega) ?_)
      cases w2:C (gk (arrOf (setArr st ys)) (lo+x-1)) (gk (arrOf (setArr st ys)) (lo+x)) with
      | true =>
        dsimp only
        rw [if_pos rfl]
        exact wpS_pure ⟨x,neq,ys,rfl,rfl,r1,by omega,by omega,hd,h1,h2⟩
      | false =>
        dsimp only
        rw [if_neg Bool.false_ne_true]
        have w':Le C (gk ys (lo+x-1)) (gk ys (lo+x)):=w
        have w2':Le C (gk ys (lo+x)) (gk ys (lo+x-1)):=w2
        refine wpS_pure ⟨neq+1,ys,rfl,rfl,r1,fun i j hi hij hj=>?_,by omega,fun i j a1 a2 a3 a4=>?_⟩
        · by_cases hjx:j<lo+x
          · exact hd i j hi hij hjx
          · have hj':j=lo+x:=by omega
            subst hj'
            by_cases hi':i=lo+x
            · subst hi'; exact le_refl o _
            · exact o.tr _ _ _ w2' (hd i (lo+x-1) hi (by omega) (by omega))
        · by_cases c1:i=lo+x
          · by_cases c2:j=lo+x
            · rw [c1,c2]; exact le_refl o _
            · rw [c1]; exact o.tr _ _ _ w2' (h2 _ _ (by omega) (by omega) (by omega) (by omega))
          · by_cases c2:j=lo+x
            · rw [c2]; exact o.tr _ _ _ (h2 _ _ (by omega) (by omega) (by omega) (by omega)) w'
            · exact h2 _ _ (by omega) (by omega) (by omega) (by omega)
  case post =>
    rintro c st' ⟨m,neq,ys,rfl,rfl,r1,hm1,hm2,hd,h1,h2⟩
    dsimp only
    by_cases hq:neq > 0
    · rw [if_pos hq]
      refine wpS_bind (wpS_rev ?_)
      have r2:=r1.mirror (i:=lo+m-(neq+1)) (j:=lo+m) (by omega) (by omega) hn
      obtain ⟨r3,u3⟩:=tail m _ r2 hm1 hm2 (eqv ys m neq r1 hm2 h1 hd h2)
      refine wpS_bind (wpS_rev ?_)
      exact wpS_bind (wpS_asc (st:=st) hC o g hn hm1 hm2 r3 u3 fun k a1 a2 a3 _=>wpS_pure (h k _ r3 (by omega) a2 a3))
    · rw [if_neg hq]
      obtain ⟨r3,u3⟩:=tail m _ r1 hm1 hm2 hd
      refine wpS_bind (wpS_rev ?_)
      exact wpS_bind (wpS_asc (st:=st) hC o g hn hm1 hm2 r3 u3 fun k a1 a2 a3 _=>wpS_pure (h k _ r3 (by omega) a2 a3))
theorem wpS_count (hC:CmpOk M A E s κ G C) (o:OrdG C) (g:Good G a₀) {st:SortSt} {lo nrem:Nat} {Q:Option Nat→SortSt→Prop} (hn:lo+nrem≤a₀.size) (h1:1≤nrem) (hB:SB κ a₀ st)
    (h:∀ m ys,Run κ a₀ st lo nrem ys→1≤m→m≤nrem→Up C ys lo (lo+m)→Q (some m) (setArr st ys)):wpS M A E s (countRun' lo nrem) Q st:=by
  rw [countRun'_eq]
  dsimp only
  have r0:Run κ a₀ st lo nrem (arrOf st):=⟨hB,fun _ _=>rfl⟩
  have hst:setArr st (arrOf st)=st:=rfl
  refine wpS_bind (wpS_asc (st:=st) (xs:=arrOf st) hC o g hn (Nat.le_refl 1) h1 r0 (fun i j hi hij hj=>le_same o (by omega)) fun n a1 a2 a3 a4=>?_)
  dsimp only
  by_cases hnn:n=nrem
  · rw [if_pos (by simpa using hnn)]
    exact wpS_pure (h n _ r0 a1 a2 a3)
  rw [if_neg (by simpa using hnn)]
  have hlt:=a4.resolve_left hnn
  by_cases hgt:n > 1
  · rw [if_pos hgt]
    refine wpS_bind (wpS_lta hC g hB (by omega) (by omega) ?_)
    cases w:C (gk (arrOf st) lo) (gk (arrOf st) (lo+n-1)) with
    | true =>
      dsimp only
      rw [if_pos rfl]
      exact wpS_pure (h n _ r0 a1 a2 a3)
    | false =>
      dsimp only
      rw [if_neg Bool.false_ne_true]
      have eqv:∀ i j,lo≤i→i<lo+n→lo≤j→j<lo+n→Le C (gk (arrOf st) i) (gk (arrOf st) j):=fun i j h1 h2 h3 h4 =>
        o.tr _ _ _ (a3 i (lo+n-1) h1 (by omega) (by omega)) (o.tr _ _ _ w (a3 lo j (Nat.le_refl _) h3 h4))
      refine wpS_bind (wpS_rev ?_)
      have hsz:lo+n≤(arrOf st).size:=by rw [hB.size]; omega
      refine wpS_descP (lo:=lo) (n:=n) hC o g hn (by omega) (r0.mirror (Nat.le_refl _) (by omega) hn) (fun i j hi hij hj=>?_) h
      rw [gk_mirror hsz,gk_mirror hsz]
      repeat' split
      all_goals first
        | (exfalso; omega)
        | exact eqv _ _ (by omega) (by omega) (by omega) (by omega)
        | exact le_refl o _
        | (have hj':j=lo+n:=by omega
           subst hj'
           exact o.tr _ _ _ (le_of_lt o hlt) (eqv _ _ (by omega) (by omega) (by omega) (by omega)))
        | (have:i=j:=by omega
           subst this; exact le_refl o _)
  · rw [if_neg hgt]
    have hn1:n=1:=by omega
    subst hn1
    refine wpS_descP (lo:=lo) (n:=1) (xs:=arrOf st) hC o g hn (by omega) r0 (fun i j hi hij hj=>?_) h
    by_cases hi':i=j
    · subst hi'; exact le_refl o _
    · have hi0:i=lo:=by omega
      have hj1:j=lo+1:=by omega
      subst hi0; subst hj1
      exact le_of_lt o hlt
end
end Tm
namespace Tm
open PySem PyProof.Rows
theorem mergeAt'_eq (i:Nat):mergeAt' i=(do
  let s ← get
  let (some (sa,na,power),some (sb,nb,_)):=((pendingOf s)[i]?,(pendingOf s)[i+1]?) | unsupported "internal:list.sort.pending"
  set (setPending s (((pendingOf s).setIfInBounds i (sa,na+nb,power)).eraseIdxIfInBounds (i+1)))
  let some k ← gallop' false (← elem' (arrOf s) sb) (arrOf s) sa na 0 | return false
  let (sa,na):=(sa+k,na-k)
  if na==0 then return true
  let some nb ← gallop' true (← elem' (arrOf s) (sa+na-1)) (arrOf s) sb nb (nb-1) | return false
  if nb==0 then return true
  let x:=(arrOf s).extract sa sb
  let y:=(arrOf s).extract sb (sb+nb)
  let merged ← if na≤nb then mergeLo' x y else mergeHi' x y
  modify fun s=>setArr s (merged.toList.zipIdx.foldl (fun a (p,j)=>a.setIfInBounds (sa+j) p) (arrOf s))
  return (failedOf (← get)).isNone):=rfl
section
variable {M:Model} {A:Around} {E:Value→Shared→Prop} {s:Shared} {κ:SortKind} {G:Keyed→Prop} {C:Keyed→Keyed→Bool} {a₀:Array Keyed}
theorem wpS_set {σ:Type} {x:σ} {Q:PUnit→σ→Prop} {st:σ} (h:Q ⟨⟩ x):wpS M A E s (set x:StateT σ Sem PUnit) Q st:=by
  unfold wpS; rw [StateT.run_set]; exact wpAny_pure ⟨rfl,h⟩
theorem gk_list (xs:Array Keyed) (k:Nat):gk xs k=(xs.toList[k]?).getD (.none,.none):=by unfold gk; rw [Array.getElem?_toList]
theorem seg_get {xs:Array Keyed} {lo n i:Nat} (h:lo+n≤xs.size) (hi:i<n):((xs.toList.drop lo).take n)[i]?=some (gk xs (lo+i)):=by
  rw [List.getElem?_take_of_lt hi,List.getElem?_drop,Array.getElem?_toList]
  exact gk_some (by omega)
theorem seg_len {xs:Array Keyed} {lo n:Nat} (h:lo+n≤xs.size):((xs.toList.drop lo).take n).length=n:=by
  rw [List.length_take,List.length_drop,Array.length_toList]; omega
theorem up_of_srt (o:OrdG C) {xs:Array Keyed} {lo n:Nat} (h:lo+n≤xs.size) (sr:Srt C ((xs.toList.drop lo).take n)):Up C xs lo (lo+n):=fun i j hi hij hj=>by
  have e1:=seg_get (i:=i-lo) h (by omega)
  have e2:=seg_get (i:=j-lo) h (by omega)
  rw [show lo+(i-lo)=i by omega] at e1
  rw [show lo+(j-lo)=j by omega] at e2
  exact srt_get o sr (by omega) e1 e2
theorem srt_of_up {xs:Array Keyed} {lo n:Nat} (h:lo+n≤xs.size) (u:Up C xs lo (lo+n)):Srt C ((xs.toList.drop lo).take n):=by
  refine List.pairwise_iff_getElem.mpr fun i j hi hj hij=>?_
  rw [seg_len h] at hi hj
  have e1:=seg_get (i:=i) h hi
  have e2:=seg_get (i:=j) h hj
  rw [List.getElem?_eq_getElem (by rw [seg_len h]; exact hi)] at e1
  rw [List.getElem?_eq_getElem (by rw [seg_len h]; exact hj)] at e2
  rw [Option.some.inj e1,Option.some.inj e2]
  exact u _ _ (by omega) (by omega) (by omega)
theorem put_all (p:Nat):∀ (l:List Keyed) (n:Nat) (xs:Array Keyed),p+n+l.length≤xs.size→((l.zipIdx n).foldl (fun a q=>a.setIfInBounds (p+q.2) q.1) xs).toList=xs.toList.take (p+n)++l++xs.toList.drop (p+n+l.length)
  | [],n,xs,_=>by
    show xs.toList=_
    rw [List.append_nil,List.length_nil,Nat.add_zero,List.take_append_drop]
  | x::l,n,xs,h=>by
    rw [List.length_cons] at h
    rw [List.zipIdx_cons,List.foldl_cons,put_all p l (n+1) _ (by rw [Array.size_setIfInBounds]; omega),Array.toList_setIfInBounds]
    have hl:p+n<xs.toList.length:=by rw [Array.length_toList]; omega
    rw [show p+(n+1)=p+n+1 by omega,List.take_add_one,List.take_set_of_le (Nat.le_refl _),List.getElem?_set_self hl,List.drop_set_of_lt (by omega),List.length_cons]
    show xs.toList.take (p+n)++[x]++l++_=xs.toList.take (p+n)++(x::l)++_
    rw [show p+n+1+l.length=p+n+(l.length+1) by omega]
    simp
theorem wpS_mergeAt (hC:CmpOk M A E s κ G C) (o:OrdG C) (g:Good G a₀) {st:SortSt} {i sa na sb nb pw pw2:Nat} {L1 L2:List (Nat×Nat×Nat)} {Q:Bool→SortSt→Prop} (hB:SB κ a₀ st) (hp:(pendingOf st).toList=L1++(sa,na,pw)::(sb,nb,pw2)::L2) (hi:L1.length=i)
    (hab:sb=sa+na) (hna:0<na) (hnb:0<nb) (hsz:sb+nb≤a₀.size) (ua:Up C (arrOf st) sa sb) (ub:Up C (arrOf st) sb (sb+nb))
    (h:∀ st',SB κ a₀ st'→(pendingOf st').toList=L1++(sa,na+nb,pw)::L2→(∀ k,k<sa∨sb+nb≤k→gk (arrOf st') k=gk (arrOf st) k)→Up C (arrOf st') sa (sa+(na+nb))→Q true st'):wpS M A E s (mergeAt' i) Q st:=by
  subst hab
  have hs0:=hB.size
  generalize hxs:arrOf st=xs at *
  rw [mergeAt'_eq]
  refine wpS_bind (wpS_get ?_)
  have e1:(pendingOf st)[i]?=some (sa,na,pw):=by
    rw [← Array.getElem?_toList,hp,← hi,List.getElem?_append_right (Nat.le_refl _),Nat.sub_self]; rfl
  have e2:(pendingOf st)[i+1]?=some (sa+na,nb,pw2):=by
    rw [← Array.getElem?_toList,hp,← hi,List.getElem?_append_right (by omega),show L1.length+1-L1.length=1 by omega]; rfl
  rw [e1,e2]
  dsimp only
  refine wpS_bind (wpS_set ?_)
  generalize hst1:setPending st (((pendingOf st).setIfInBounds i (sa,na+nb,pw)).eraseIdxIfInBounds (i+1))=st1
  have hP:(pendingOf st1).toList=L1++(sa,na+nb,pw)::L2:=by
    rw [← hst1]
    show (((pendingOf st).setIfInBounds i (sa,na+nb,pw)).eraseIdxIfInBounds (i+1)).toList=_
    rw [Array.toList_eraseIdxIfInBounds,Array.toList_setIfInBounds,hp,← hi,List.set_append_right _ _ (Nat.le_refl _),Nat.sub_self,List.eraseIdx_append_of_length_le (by omega),show L1.length+1-L1.length=1 by omega]
    rfl
  have hA1:arrOf st1=xs:=by rw [← hst1]; exact hxs
  have hB1:SB κ a₀ st1:=by rw [← hst1]; exact ⟨hB.perm,hB.kind,hB.failed⟩
  have hk1:kindOf st1=κ:=hB1.kind
  clear hst1 e1 e2 hp
  rw [hxs]
  let sg (lo n:Nat):List Keyed:=(xs.toList.drop lo).take n
  have gs:∀ x∈xs.toList,G x:=fun x hx=>g x ((Array.perm_iff_toList_perm.mp (hxs ▸ hB.perm)).mem_iff.mp hx)
  have sA:=srt_of_up (n:=na) (by omega) ua
  have sB:=srt_of_up (n:=nb) (by omega) ub
  have hb0:sa+na<xs.size:=by omega
  have eB:(xs.toList.drop (sa+na)).take nb=gk xs (sa+na)::((xs.toList.drop (sa+na)).take nb).drop 1:=by
    have:=seg_get (xs:=xs) (lo:=sa+na) (n:=nb) (i:=0) (by omega) hnb
    cases q:(xs.toList.drop (sa+na)).take nb with
    | nil=>rw [q] at this; cases this
    | cons a r=>rw [q] at this; rw [show gk xs (sa+na)=a from (Option.some.inj this).symm]; rfl
  refine wpS_bind (wpS_elem (gk_some hb0) ?_)
  have gb0:G (gk xs (sa+na)):=gs _ (by have:=gk_some hb0; rw [← Array.getElem?_toList] at this; exact List.mem_of_getElem? this)
  refine wpS_bind (wpS_gal hC o (seg:=(xs.toList.drop sa).take na) hk1 gb0 rfl (seg_len (by omega)) sA (fun x hx=>gs x (List.mem_of_mem_drop (List.mem_of_mem_take hx))) hna fun k hk b1 b2=>?_)
  generalize hLA:(xs.toList.drop sa).take na=LA at *
  generalize hLB:(xs.toList.drop (sa+na)).take nb=LB at *
  have lA:LA.length=na:=by rw [← hLA]; exact seg_len (by omega)
  have lB:LB.length=nb:=by rw [← hLB]; exact seg_len (by omega)
  have b1:∀ x∈LA.take k,∀ y∈LB,Le C x y:=fun x hx y hy=>by
    have:=b1 x hx
    unfold bey at this
    rw [eB] at hy sB
    exact le_head o (show Le C x _ by unfold Le; simpa using this) sB y hy
  have b2:∀ x∈LA.drop k,Le C (gk xs (sa+na)) x:=fun x hx=>by
    have:=b2 x hx
    unfold bey at this
    exact le_of_lt o (by simpa using this)
  have hsplit:xs.toList=xs.toList.take sa++(LA++(LB++xs.toList.drop (sa+na+nb))):=by
    rw [← hLA,← hLB]
    conv=>lhs; rw [← List.take_append_drop sa xs.toList]
    congr 1
    conv=>lhs; rw [← List.take_append_drop na (xs.toList.drop sa),List.drop_drop]
    congr 1
    conv=>lhs; rw [← List.take_append_drop nb (xs.toList.drop (sa+na)),List.drop_drop]
  have both:((xs.toList.drop sa).take (na+nb))=LA++LB:=by
    rw [← hLA,← hLB,List.take_add,List.drop_drop]
  dsimp only
  have same:Up C xs sa (sa+(na+nb))→Q true st1:=fun u=>h st1 hB1 hP (fun k _=>by rw [hA1]) (by rw [hA1]; exact u)
  by_cases q1:(na-k==0)=true
  · rw [if_pos q1]
    have ek:k=na:=by simp at q1; omega
    refine wpS_pure (same (up_of_srt o (by omega) ?_))
    rw [both]
    refine List.pairwise_append.mpr ⟨sA,sB,fun x hx y hy=>b1 x ?_ y hy⟩
    rw [ek,List.take_of_length_le (by omega)]; exact hx
  rw [if_neg q1]
  have q1:0<na-k:=by simp at q1; omega
  have hlast:sa+k+(na-k)-1<xs.size:=by omega
  refine wpS_bind (wpS_elem (gk_some hlast) ?_)
  have elast:LA[na-1]?=some (gk xs (sa+k+(na-k)-1)):=by
    have:=seg_get (xs:=xs) (lo:=sa) (n:=na) (i:=na-1) (by omega) (by omega)
    rw [hLA] at this
    rw [this,show sa+(na-1)=sa+k+(na-k)-1 by omega]
  generalize hal:gk xs (sa+k+(na-k)-1)=al at *
  have mal:al∈LA:=List.mem_of_getElem? elast
  have gal:G al:=gs _ (by rw [hsplit]; exact List.mem_append_right _ (List.mem_append_left _ mal))
  have toal:∀ x∈LA,Le C x al:=fun x hx=>by
    obtain ⟨j,hj⟩:=List.getElem?_of_mem hx
    have:=(List.getElem?_eq_some_iff.mp hj).1
    exact srt_get o sA (by omega) hj elast
  refine wpS_bind (wpS_gal hC o (seg:=LB) hk1 gal hLB.symm lB sB (fun x hx=>gs x (by rw [hsplit]; exact List.mem_append_right _ (List.mem_append_right _ (List.mem_append_left _ hx)))) (by omega) fun k2 hk2 d1 d2=>?_)
  have d1:∀ y∈LB.take k2,Le C y al:=fun y hy=>le_of_lt o (d1 y hy)
  have d2:∀ y∈LB.drop k2,Le C al y:=d2
  dsimp only
  by_cases q2:(k2==0)=true
  · rw [if_pos q2]
    have ek:k2=0:=by simpa using q2
    refine wpS_pure (same (up_of_srt o (by omega) ?_))
    rw [both]
    refine List.pairwise_append.mpr ⟨sA,sB,fun x hx y hy=>o.tr x al y (toal x hx) (d2 y ?_)⟩
    rw [ek,List.drop_zero]; exact hy
  rw [if_neg q2]
  have q2:0<k2:=by simp at q2; omega
  have ex:(xs.extract (sa+k) (sa+na)).toList=LA.drop k:=by
    rw [ext_toList,← hLA,List.drop_take,List.drop_drop,show sa+na-(sa+k)=na-k by omega]
  have ey:(xs.extract (sa+na) (sa+na+k2)).toList=LB.take k2:=by
    rw [ext_toList,← hLB,List.take_take,Nat.min_eq_left hk2,show sa+na+k2-(sa+na)=k2 by omega]
  have lx:(xs.extract (sa+k) (sa+na)).size=na-k:=by rw [← Array.length_toList,ex,List.length_drop,lA]
  have ly:(xs.extract (sa+na) (sa+na+k2)).size=k2:=by rw [← Array.length_toList,ey,List.length_take,lB]; omega
  have sA':=sA
  rw [← List.take_append_drop k LA] at sA'
  obtain ⟨sA1,sA2,sA3⟩:=List.pairwise_append.mp sA'
  have sB':=sB
  rw [← List.take_append_drop k2 LB] at sB'
  obtain ⟨sB1,sB2,sB3⟩:=List.pairwise_append.mp sB'
  have t:Two G C (xs.extract (sa+k) (sa+na)) (xs.extract (sa+na) (sa+na+k2)):=by
    refine ⟨fun x hx=>?_,fun x hx=>?_,by rw [ex]; exact sA2,by rw [ey]; exact sB1,fun h0 x hx=>?_,fun y hy x hx=>?_⟩
    · rw [ex] at hx; exact gs x (by rw [hsplit]; exact List.mem_append_right _ (List.mem_append_left _ (List.mem_of_mem_drop hx)))
    · rw [ey] at hx; exact gs x (by rw [hsplit]; exact List.mem_append_right _ (List.mem_append_right _ (List.mem_append_left _ (List.mem_of_mem_take hx))))
    · rw [ex] at hx
      have:(xs.extract (sa+na) (sa+na+k2))[0]=gk xs (sa+na):=by
        rw [Array.getElem_extract]
        have:=gk_some hb0
        rw [Array.getElem?_eq_getElem hb0] at this
        exact Option.some.inj this
      rw [this]
      exact b2 x hx
    · rw [ey] at hy
      rw [ex,lx] at hx
      have:x=al:=by
        obtain ⟨j,hj⟩:=List.getElem?_of_mem hx
        have hlt:=(List.getElem?_eq_some_iff.mp hj).1
        rw [List.length_drop,List.length_drop,lA] at hlt
        rw [List.getElem?_drop,List.getElem?_drop,show k+(na-k-1+j)=na-1 by omega,elast] at hj
        exact (Option.some.inj hj).symm
      rw [this]
      exact d1 y hy
  have fin:∀ (r:Array Keyed) (gg:Nat),Dn C (xs.extract (sa+k) (sa+na)) (xs.extract (sa+na) (sa+na+k2)) r→wpS M A E s (do
      modify fun s=>setArr s (r.toList.zipIdx.foldl (fun a (x:Keyed×Nat)=>match x with | (p,j)=>a.setIfInBounds (sa+k+j) p) (arrOf s))
      let x ← get
      pure (failedOf x).isNone) Q (setG st1 gg):=fun r gg d=>by
    have d:Done C (LA.drop k++LB.take k2) r.toList:=by have d':=d; unfold Dn at d'; rw [ex,ey] at d'; exact d'
    have lr:r.toList.length=na-k+k2:=by rw [d.2.length_eq,List.length_append,List.length_drop,List.length_take,lA,lB]; omega
    have efold:(r.toList.zipIdx.foldl (fun a (x:Keyed×Nat)=>match x with | (p,j)=>a.setIfInBounds (sa+k+j) p) xs).toList=xs.toList.take (sa+k)++r.toList++xs.toList.drop (sa+k+r.toList.length):=by
      have:=put_all (sa+k) r.toList 0 xs (by omega)
      rw [Nat.add_zero] at this
      exact this
    generalize hys:(r.toList.zipIdx.foldl (fun a (x:Keyed×Nat)=>match x with | (p,j)=>a.setIfInBounds (sa+k+j) p) xs)=ys at efold
    have t1:xs.toList.take (sa+k)=xs.toList.take sa++LA.take k:=by
      rw [List.take_add,← hLA,List.take_take,Nat.min_eq_left (by omega)]
    have t2:xs.toList.drop (sa+k+r.toList.length)=LB.drop k2++xs.toList.drop (sa+na+nb):=by
      have e3:xs.toList.drop (sa+na+nb)=(xs.toList.drop (sa+na+k2)).drop (nb-k2):=by rw [List.drop_drop,show sa+na+k2+(nb-k2)=sa+na+nb by omega]
      rw [lr,show sa+k+(na-k+k2)=sa+na+k2 by omega,← hLB,List.drop_take,List.drop_drop,e3,List.take_append_drop]
    have eys:ys.toList=xs.toList.take sa++(LA.take k++(r.toList++(LB.drop k2++xs.toList.drop (sa+na+nb)))):=by
      rw [efold,t1,t2]; simp
    generalize hPRE:xs.toList.take sa=PRE at *
    generalize hRST:xs.toList.drop (sa+na+nb)=RST at *
    have lPRE:PRE.length=sa:=by rw [← hPRE,List.length_take,Array.length_toList]; omega
    have e:LA++(LB++RST)=LA.take k++((LA.drop k++LB.take k2)++(LB.drop k2++RST)):=by
      rw [List.append_assoc (LA.drop k),← List.append_assoc (LB.take k2),List.take_append_drop,← List.append_assoc (LA.take k),List.take_append_drop]
    have pm:ys.toList.Perm xs.toList:=by
      rw [eys,hsplit,e]
      exact List.Perm.append_left _ (List.Perm.append_left _ (List.Perm.append d.2 (List.Perm.refl _)))
    have lmid:(LA.take k++(r.toList++LB.drop k2)).length=na+nb:=by
      rw [List.length_append,List.length_append,List.length_take,List.length_drop,lr,lA,lB]; omega
    have eys2:ys.toList=PRE++((LA.take k++(r.toList++LB.drop k2))++RST):=by rw [eys]; simp
    have exs2:xs.toList=PRE++((LA++LB)++RST):=by rw [hsplit]; simp
    have lys:ys.size=xs.size:=by rw [← Array.length_toList,← Array.length_toList]; exact pm.length_eq
    refine wpS_bind (wpS_modify (wpS_bind (wpS_get (wpS_pure ?_))))
    show Q (failedOf st1).isNone _
    rw [hB1.failed]
    have harr:arrOf (setG st1 gg)=xs:=hA1
    rw [harr,hys]
    refine h _ ⟨?_,hB1.kind,hB1.failed⟩ hP (fun j hj=>?_) ?_
    · refine (Array.perm_iff_toList_perm.mpr ?_:Array.Perm ys xs).trans (hxs ▸ hB.perm)
      exact pm
    · show gk ys j=gk xs j
      rw [gk_list,gk_list,eys2,exs2]
      rcases hj with hj | hj
      · rw [List.getElem?_append_left (by omega),List.getElem?_append_left (by omega)]
      · rw [List.getElem?_append_right (by omega),List.getElem?_append_right (by omega),List.getElem?_append_right (by omega),List.getElem?_append_right (by rw [List.length_append]; omega),lmid,List.length_append,lA,lB]
    · show Up C ys sa (sa+(na+nb))
      refine up_of_srt o (by omega) ?_
      rw [eys2,List.drop_append_of_le_length (by omega),List.drop_of_length_le (by omega),List.nil_append,← lmid,List.take_left']
      · refine List.pairwise_append.mpr ⟨sA1,List.pairwise_append.mpr ⟨d.1,sB2,fun x hx y hy=>?_⟩,fun x hx y hy=>?_⟩
        · rcases List.mem_append.mp (d.2.mem_iff.mp hx) with z | z
          · exact o.tr x al y (toal x (List.mem_of_mem_drop z)) (d2 y hy)
          · exact sB3 x z y hy
        · rcases List.mem_append.mp hy with z | z
          · rcases List.mem_append.mp (d.2.mem_iff.mp z) with z | z
            · exact sA3 x hx y z
            · exact b1 x hx y (List.mem_of_mem_take z)
          · exact b1 x hx y (List.mem_of_mem_drop z)
      · rfl
  by_cases q3:na-k≤k2
  · rw [if_pos q3]
    refine wpS_bind (wpS_mergeLo hC o t hk1 (by omega) (by omega) fun r gg d=>?_)
    exact fin r gg d
  · rw [if_neg q3]
    refine wpS_bind (wpS_mergeHi hC o t hk1 (by omega) (by omega) fun r gg d=>?_)
    exact fin r gg d
end
end Tm
namespace Tm
open PySem PyProof.Rows
def prs (st:SortSt):List (Nat×Nat):=(pendingOf st).toList.map fun q=>(q.1,q.2.1)
def Runs (C:Keyed→Keyed→Bool) (xs:Array Keyed):Nat→List (Nat×Nat)→Nat→Prop
  | a,[],e=>a=e
  | a,q::r,e=>q.1=a∧0<q.2∧Up C xs a (a+q.2)∧Runs C xs (a+q.2) r e
section
variable {C:Keyed→Keyed→Bool}
theorem Runs.le {xs:Array Keyed}:∀ {l:List (Nat×Nat)} {a e:Nat},Runs C xs a l e→a+l.length≤e
  | [],a,e,h=>by have h:a=e:=h; simp; omega
  | q::r,a,e,h=>by
    have:=Runs.le h.2.2.2
    have:=h.2.1
    rw [List.length_cons]
    omega
theorem Runs.app {xs:Array Keyed}:∀ {l1 l2:List (Nat×Nat)} {a e:Nat},Runs C xs a (l1++l2) e↔∃ m,Runs C xs a l1 m∧Runs C xs m l2 e
  | [],l2,a,e=>⟨fun h=>⟨a,rfl,h⟩,fun ⟨m,h1,h2⟩=>by have h1:a=m:=h1; subst h1; exact h2⟩
  | q::l1,l2,a,e=>by
    constructor
    · rintro ⟨h1,h2,h3,h4⟩
      obtain ⟨m,k1,k2⟩:=Runs.app.mp h4
      exact ⟨m,⟨h1,h2,h3,k1⟩,k2⟩
    · rintro ⟨m,⟨h1,h2,h3,k1⟩,k2⟩
      exact ⟨h1,h2,h3,Runs.app.mpr ⟨m,k1,k2⟩⟩
theorem Up.congr {xs ys:Array Keyed} {lo hi:Nat} (h:Up C xs lo hi) (e:∀ k,lo≤k→k<hi→gk ys k=gk xs k):Up C ys lo hi:=fun i j hi' hij hj=>by
  rw [e i hi' (by omega),e j (by omega) hj]; exact h i j hi' hij hj
theorem Runs.congr {xs ys:Array Keyed}:∀ {l:List (Nat×Nat)} {a e:Nat},Runs C xs a l e→(∀ k,a≤k→k<e→gk ys k=gk xs k)→Runs C ys a l e
  | [],a,e,h,_=>h
  | q::r,a,e,h,g=>by
    have:=Runs.le h.2.2.2
    exact ⟨h.1,h.2.1,h.2.2.1.congr fun k h1 h2=>g k h1 (by omega),Runs.congr h.2.2.2 fun k h1 h2=>g k (by omega) h2⟩
theorem split2 {α:Type} {l:List α} {i:Nat} (h:i+1<l.length):∃ L1 a b L2,l=L1++a::b::L2∧L1.length=i:=by
  refine ⟨l.take i,l[i],l[i+1],l.drop (i+2),?_,by rw [List.length_take]; omega⟩
  conv=>lhs; rw [← List.take_append_drop i l,List.drop_eq_getElem_cons (by omega),List.drop_eq_getElem_cons (by omega)]
variable {M:Model} {A:Around} {E:Value→Shared→Prop} {s:Shared} {κ:SortKind} {G:Keyed→Prop} {a₀:Array Keyed}
theorem wpS_mergeRuns (hC:CmpOk M A E s κ G C) (o:OrdG C) (g:Good G a₀) {st:SortSt} {i e:Nat} {Q:Bool→SortSt→Prop} (hB:SB κ a₀ st) (hr:Runs C (arrOf st) 0 (prs st) e) (he:e≤a₀.size) (hi:i+1<(pendingOf st).size)
    (h:∀ st',SB κ a₀ st'→Runs C (arrOf st') 0 (prs st') e→(∀ k,e≤k→gk (arrOf st') k=gk (arrOf st) k)→(pendingOf st').size+1=(pendingOf st).size→Q true st'):wpS M A E s (mergeAt' i) Q st:=by
  obtain ⟨L1,⟨sa,na,pw⟩,⟨sb,nb,pw2⟩,L2,hp,hl⟩:=split2 (l:=(pendingOf st).toList) (i:=i) (by rw [Array.length_toList]; exact hi)
  have hr':=hr
  unfold prs at hr'
  rw [hp,List.map_append] at hr'
  obtain ⟨m,r1,r2⟩:=Runs.app.mp hr'
  obtain ⟨ea,h1,ua,eb,h2,ub,r3⟩:=r2
  have ea:sa=m:=ea
  have eb:sb=m+na:=eb
  have h1:0<na:=h1
  have h2:0<nb:=h2
  have ua:Up C (arrOf st) m (m+na):=ua
  have ub:Up C (arrOf st) (m+na) (m+na+nb):=ub
  have r3:Runs C (arrOf st) (m+na+nb) (L2.map fun q=>(q.1,q.2.1)) e:=r3
  have l1:0+(L1.map fun q=>(q.1,q.2.1)).length≤m:=Runs.le r1
  have l3:m+na+nb+(L2.map fun q=>(q.1,q.2.1)).length≤e:=Runs.le r3
  subst ea
  subst eb
  refine wpS_mergeAt hC o g hB hp hl rfl h1 h2 (by omega) ua ub fun st' hB' hp' ho hu=>h st' hB' ?_ (fun k hk=>ho k (by omega)) ?_
  · unfold prs
    rw [hp',List.map_append]
    refine Runs.app.mpr ⟨sa,r1.congr fun k a1 a2=>ho k (.inl a2),rfl,?_,hu,?_⟩
    · show 0<na+nb; omega
    · show Runs C (arrOf st') (sa+(na+nb)) _ e
      rw [← Nat.add_assoc]
      exact r3.congr fun k a1 a2=>ho k (.inr a1)
  · rw [← Array.length_toList,← Array.length_toList,hp,hp']
    simp; omega
theorem pick_lt {n:Nat} (c:Prop) [Decidable c] (h:¬ n≤1):(if c then n-2-1 else n-2)+1<n:=by split <;> omega
theorem map_modify {α β:Type} (g:α→β) (f:α→α) (h:∀ x,g (f x)=g x) (l:List α) (i:Nat):(l.modify i f).map g=l.map g:=by
  refine List.ext_getElem? fun j=>?_
  rw [List.getElem?_map,List.getElem?_map,List.getElem?_modify]
  cases l[j]? with
  | none=>rfl
  | some x =>
    show some (g (if i=j then f x else x))=some (g x)
    split
    · rw [h]
    · rfl
theorem wpS_runs (hC:CmpOk M A E s κ G C) (o:OrdG C) (g:Good G a₀) {st:SortSt} {Q:Unit→SortSt→Prop} (hB:SB κ a₀ st) (hp:pendingOf st=#[]) (h2:2≤a₀.size)
    (h:∀ st',(arrOf st').Perm a₀→failedOf st'=none→Up C (arrOf st') 0 a₀.size→Q () st'):wpS M A E s sortRuns' Q st:=by
  rw [sortRuns'_eq]
  refine wpS_bind (wpS_get ?_)
  dsimp only
  simp only [hB.size]
  generalize minRun' a₀.size a₀.size 0=mr
  refine wpS_bind (wpS_mono (wpS_forRange
    (I:=fun x (c:Option Unit×Nat) st'=>∃ lo,c=(none,lo)∧SB κ a₀ st'∧Runs C (arrOf st') 0 (prs st') lo∧lo≤a₀.size∧min x a₀.size≤lo)
    (Q:=fun (c:Option Unit×Nat) st'=>c=(none,a₀.size)∧SB κ a₀ st'∧Runs C (arrOf st') 0 (prs st') a₀.size) ?step ?fin ?init) ?post)
  case init=>exact ⟨0,rfl,hB,by unfold prs; rw [hp]; rfl,Nat.zero_le _,by omega⟩
  case fin =>
    rintro c st' ⟨lo,rfl,hB',hr,h1,h3⟩
    have:lo=a₀.size:=by omega
    subst this
    exact ⟨rfl,hB',hr⟩
  case step =>
    rintro x c st' _ hx ⟨lo,rfl,hB',hr,h1,h3⟩
    dsimp only
    by_cases c1:lo ≥ a₀.size
    · rw [if_pos c1]
      have:lo=a₀.size:=by omega
      subst this
      exact wpS_pure ⟨rfl,hB',hr⟩
    rw [if_neg c1]
    refine wpS_bind (wpS_count hC o g (by omega) (by omega) hB' fun m ys r1 m1 m2 u1=>?_)
    dsimp only
    by_cases c2:m<mr
    · rw [if_pos c2]
      refine wpS_bind (wpS_lift (wpAny_rule ⟨rfl,?_⟩))
      refine wpS_bind (wpS_binary hC o g (by omega) (by omega) r1.sb u1 fun zs sz oz hz=>?_)
      rw [if_neg (by decide)]
      have rz:Run κ a₀ st' lo (a₀.size-lo) zs:=⟨sz,fun k hk=>(oz k (by omega)).trans (r1.out k hk)⟩
      have ho:=rz.out
      have hr2:Runs C (arrOf (setArr st' zs)) 0 (prs (setArr st' zs)) lo:=Runs.congr (l:=prs st') hr fun k _ h2=>ho k (.inl h2)
      have push:∀ st2:SortSt,SB κ a₀ st2→Runs C (arrOf st2) 0 (prs st2) lo→Up C (arrOf st2) lo (lo+(min (a₀.size-lo) mr))→(∃ lo',((none,lo+(min (a₀.size-lo) mr)):Option Unit×Nat)=(none,lo')∧SB κ a₀ (setPending st2 ((pendingOf st2).push (lo,(min (a₀.size-lo) mr),0)))∧Runs C (arrOf (setPending st2 ((pendingOf st2).push (lo,(min (a₀.size-lo) mr),0)))) 0 (prs (setPending st2 ((pendingOf st2).push (lo,(min (a₀.size-lo) mr),0)))) lo'∧lo'≤a₀.size∧min (x+1) a₀.size≤lo'):=fun st2 hb hr hu=>by
        refine ⟨lo+(min (a₀.size-lo) mr),rfl,⟨hb.perm,hb.kind,hb.failed⟩,?_,by omega,by omega⟩
        unfold prs
        show Runs C (arrOf st2) 0 (((pendingOf st2).push (lo,(min (a₀.size-lo) mr),0)).toList.map fun q=>(q.1,q.2.1)) (lo+(min (a₀.size-lo) mr))
        rw [Array.toList_push,List.map_append]
        exact Runs.app.mpr ⟨lo,hr,rfl,by show 0<(min (a₀.size-lo) mr); omega,hu,rfl⟩
      refine wpS_bind (wpS_get ?_)
      cases hb:(pendingOf (setArr st' zs)).back? with
      | none=>exact wpS_bind (wpS_modify (wpS_pure (push _ rz.sb hr2 hz)))
      | some q =>
        obtain ⟨s1,n1,p1⟩:=q
        dsimp only
        refine wpS_bind (wpS_mono (wpS_forRange
          (I:=fun y (c:Option Unit×Unit) st2=>c=(none,())∧SB κ a₀ st2∧Runs C (arrOf st2) 0 (prs st2) lo∧Up C (arrOf st2) lo (lo+(min (a₀.size-lo) mr)))
          (Q:=fun (c:Option Unit×Unit) st2=>c=(none,())∧SB κ a₀ st2∧Runs C (arrOf st2) 0 (prs st2) lo∧Up C (arrOf st2) lo (lo+(min (a₀.size-lo) mr))) ?_ (fun _ _ hh=>hh) ⟨rfl,rz.sb,hr2,hz⟩) ?_)
        · rintro y c st2 _ _ ⟨rfl,hb2,hr3,hu⟩
          refine wpS_bind (wpS_get ?_)
          by_cases q1:(pendingOf st2).size > 1
          · rw [if_pos q1,Array.getElem?_eq_getElem (show (pendingOf st2).size-2<(pendingOf st2).size by omega)]
            generalize (pendingOf st2)[(pendingOf st2).size-2]'(show (pendingOf st2).size-2<(pendingOf st2).size by omega)=pq
            obtain ⟨p1,p2,p3⟩:=pq
            dsimp only
            split
            · exact wpS_pure ⟨rfl,hb2,hr3,hu⟩
            · refine wpS_bind (wpS_mergeRuns hC o g hb2 hr3 h1 (by omega) fun st3 hb3 hr4 ho3 _=>?_)
              exact wpS_pure ⟨rfl,hb3,hr4,hu.congr fun k a1 a2=>ho3 k a1⟩
          · rw [if_neg q1]
            exact wpS_pure ⟨rfl,hb2,hr3,hu⟩
        · rintro c st2 ⟨rfl,hb2,hr3,hu⟩
          dsimp only
          refine wpS_bind (wpS_modify (wpS_bind (wpS_modify (wpS_pure (push _ ⟨hb2.perm,hb2.kind,hb2.failed⟩ ?_ hu)))))
          show Runs C (arrOf st2) 0 (((pendingOf st2).modify ((pendingOf st2).size-1) _).toList.map fun q=>(q.1,q.2.1)) lo
          rw [Array.toList_modify]
          refine Eq.mpr (congrArg (fun l=>Runs C (arrOf st2) 0 l lo) (map_modify _ _ ?_ _ _)) hr3
          intro x
          rfl
    · rw [if_neg c2]
      have rz:=r1
      have ho:=rz.out
      have hz:=u1
      generalize ys=zs at *
      have hr2:Runs C (arrOf (setArr st' zs)) 0 (prs (setArr st' zs)) lo:=Runs.congr (l:=prs st') hr fun k _ h2=>ho k (.inl h2)
      have push:∀ st2:SortSt,SB κ a₀ st2→Runs C (arrOf st2) 0 (prs st2) lo→Up C (arrOf st2) lo (lo+m)→(∃ lo',((none,lo+m):Option Unit×Nat)=(none,lo')∧SB κ a₀ (setPending st2 ((pendingOf st2).push (lo,m,0)))∧Runs C (arrOf (setPending st2 ((pendingOf st2).push (lo,m,0)))) 0 (prs (setPending st2 ((pendingOf st2).push (lo,m,0)))) lo'∧lo'≤a₀.size∧min (x+1) a₀.size≤lo'):=fun st2 hb hr hu=>by
        refine ⟨lo+m,rfl,⟨hb.perm,hb.kind,hb.failed⟩,?_,by omega,by omega⟩
        unfold prs
        show Runs C (arrOf st2) 0 (((pendingOf st2).push (lo,m,0)).toList.map fun q=>(q.1,q.2.1)) (lo+m)
        rw [Array.toList_push,List.map_append]
        exact Runs.app.mpr ⟨lo,hr,rfl,by show 0<m; omega,hu,rfl⟩
      refine wpS_bind (wpS_get ?_)
      cases hb:(pendingOf (setArr st' zs)).back? with
      | none=>exact wpS_bind (wpS_modify (wpS_pure (push _ rz.sb hr2 hz)))
      | some q =>
        obtain ⟨s1,n1,p1⟩:=q
        dsimp only
        refine wpS_bind (wpS_mono (wpS_forRange
          (I:=fun y (c:Option Unit×Unit) st2=>c=(none,())∧SB κ a₀ st2∧Runs C (arrOf st2) 0 (prs st2) lo∧Up C (arrOf st2) lo (lo+m))
          (Q:=fun (c:Option Unit×Unit) st2=>c=(none,())∧SB κ a₀ st2∧Runs C (arrOf st2) 0 (prs st2) lo∧Up C (arrOf st2) lo (lo+m)) ?_ (fun _ _ hh=>hh) ⟨rfl,rz.sb,hr2,hz⟩) ?_)
        · rintro y c st2 _ _ ⟨rfl,hb2,hr3,hu⟩
          refine wpS_bind (wpS_get ?_)
          by_cases q1:(pendingOf st2).size > 1
          · rw [if_pos q1,Array.getElem?_eq_getElem (show (pendingOf st2).size-2<(pendingOf st2).size by omega)]
            generalize (pendingOf st2)[(pendingOf st2).size-2]'(show (pendingOf st2).size-2<(pendingOf st2).size by omega)=pq
            obtain ⟨p1,p2,p3⟩:=pq
            dsimp only
            split
            · exact wpS_pure ⟨rfl,hb2,hr3,hu⟩
            · refine wpS_bind (wpS_mergeRuns hC o g hb2 hr3 h1 (by omega) fun st3 hb3 hr4 ho3 _=>?_)
              exact wpS_pure ⟨rfl,hb3,hr4,hu.congr fun k a1 a2=>ho3 k a1⟩
          · rw [if_neg q1]
            exact wpS_pure ⟨rfl,hb2,hr3,hu⟩
        · rintro c st2 ⟨rfl,hb2,hr3,hu⟩
          dsimp only
          refine wpS_bind (wpS_modify (wpS_bind (wpS_modify (wpS_pure (push _ ⟨hb2.perm,hb2.kind,hb2.failed⟩ ?_ hu)))))
          show Runs C (arrOf st2) 0 (((pendingOf st2).modify ((pendingOf st2).size-1) _).toList.map fun q=>(q.1,q.2.1)) lo
          rw [Array.toList_modify]
          refine Eq.mpr (congrArg (fun l=>Runs C (arrOf st2) 0 l lo) (map_modify _ _ ?_ _ _)) hr3
          intro x
          rfl
  case post =>
    rintro c st' ⟨rfl,hB',hr⟩
    dsimp only
    refine wpS_bind (wpS_mono (wpS_forRange
      (I:=fun x (c:Option Unit×Unit) st2=>c=(none,())∧SB κ a₀ st2∧Runs C (arrOf st2) 0 (prs st2) a₀.size∧(pendingOf st2).size≤max 1 (a₀.size-x))
      (Q:=fun (c:Option Unit×Unit) st2=>c=(none,())∧SB κ a₀ st2∧Runs C (arrOf st2) 0 (prs st2) a₀.size∧(pendingOf st2).size≤1) ?_ ?_ ⟨rfl,hB',hr,?_⟩) ?_)
    · rintro x c st2 _ hx ⟨rfl,hb2,hr3,hl⟩
      refine wpS_bind (wpS_get ?_)
      by_cases q1:(pendingOf st2).size≤1
      · rw [if_pos q1]
        exact wpS_pure ⟨rfl,hb2,hr3,q1⟩
      rw [if_neg q1]
      refine wpS_bind (wpS_mergeRuns hC o g hb2 hr3 (Nat.le_refl _) (pick_lt _ q1) fun st3 hb3 hr4 _ hs=>?_)
      exact wpS_pure ⟨rfl,hb3,hr4,by omega⟩
    · rintro c st2 ⟨rfl,hb2,hr3,hl⟩
      exact ⟨rfl,hb2,hr3,by omega⟩
    · have:=hr.le
      unfold prs at this
      rw [List.length_map,Array.length_toList] at this
      omega
    · rintro c st2 ⟨rfl,hb2,hr3,hl⟩
      refine wpS_pure (h st2 hb2.perm hb2.failed ?_)
      cases hq:prs st2 with
      | nil =>
        rw [hq] at hr3
        have:0=a₀.size:=hr3
        omega
      | cons q r =>
        have hlen:(prs st2).length=(pendingOf st2).size:=by unfold prs; rw [List.length_map,Array.length_toList]
        rw [hq,List.length_cons] at hlen
        have hr0:r=[]:=List.eq_nil_of_length_eq_zero (by omega)
        subst hr0
        rw [hq] at hr3
        obtain ⟨k1,k2,k3,k4⟩:=hr3
        have k4:0+q.2=a₀.size:=k4
        rw [k4] at k3
        exact k3
end
end Tm
namespace Tm
open PySem PyProof.Rows
def GI (x:Keyed):Prop:=∃ n t,x.1=.int n t
def CI (x y:Keyed):Bool:=decide (numOf x.1<numOf y.1)
theorem ordI:OrdG CI:=by
  refine ⟨fun x y h=>?_,fun x y z h1 h2=>?_⟩
  · unfold CI at *
    have:=of_decide_eq_true h
    exact decide_eq_false (by omega)
  · unfold CI at *
    have:=of_decide_eq_false h1
    have:=of_decide_eq_false h2
    exact decide_eq_false (by omega)
section
variable {prog:Program} {w:World} {A:Around} {E:Value→Shared→Prop} {s:Shared}
theorem cmpI:CmpOk (model prog w) A E s oneType' GI CI:=fun {x y Q st} gx gy hk h=>by
  obtain ⟨a,t,ea⟩:=gx
  obtain ⟨b,u,eb⟩:=gy
  rw [lt'_eq]
  refine wpS_bind (wpS_get ?_)
  rw [hk,keyLt'_oneType,ea,eb]
  refine wpS_bind (wpS_lift (wpAny_attempt (oneLt_int ⟨rfl,?_⟩)))
  refine wpS_pure ?_
  unfold CI at h
  rw [ea,eb] at h
  exact h
theorem K_gk (xs:Array Keyed) (i:Nat):K xs i=numOf (gk xs i).1:=by
  unfold K gk
  cases xs[i]? <;> rfl
theorem list_sort_many {a:Addr} {vs:List Value} {ns:List Int} {n:Nat} {P:Fin→Shared→Prop} (ho:s.heap.get? a=some (seqObj "list" vs.toArray n))
    (hI:IntsAre vs ns) (h64:vs.length≤100000)
    (h:∀ (out:Array Value) (ns':List Int),IntsAre out.toList ns'→ns'.Perm ns→ns'.Pairwise (·≤·)→P (.done (.ret .none)) { s with heap:=sortedHeap s.heap a vs out }) :
    wpAny (model prog w) A (Builtin.«list.sort» ⟨[.ref a],[]⟩) P E s:=by
  rw [list_sort_plain]
  have ha:a<s.heap.objs.size:=Heap.lt_size ho
  refine wpAny_bind (listItems_at ho rfl ?_)
  refine wpAny_bind (listUpdate_at ho rfl ?_ (hsz:=by rw [List.size_toArray,sizeLine_eq]; omega))
  obtain ⟨e1,ho1⟩:∃ e1,(s.heap.update a (Obj.mapSeq fun _=>#[])).get? a=some (seqObj "list" #[] e1):=⟨_,get?_update_seq ho (fun _=>#[])⟩
  refine wpAny_bind (seqEpoch_at ho1 rfl ?_)
  refine wpAny_bind (wpAny_newTuple ?_)
  refine wpAny_bind (wpAny_newList ?_)
  refine wpAny_holding ?_
  have ho6:(((s.heap.update a (Obj.mapSeq fun _=>#[])).push (seqObj "tuple" vs.toArray 0)).push (seqObj "list" #[] 0)).get? a=some (seqObj "list" #[] e1):=by
    rw [Heap.get?_push_ne _ _ _ (by rw [size_push',Heap.size_update]; exact Nat.ne_of_lt (Nat.lt_succ_of_lt ha)),Heap.get?_push_ne _ _ _ (by rw [Heap.size_update]; exact Nat.ne_of_lt ha)]
    exact ho1
  show wpAny (model prog w) A _ P E { s with heap:=((s.heap.update a (Obj.mapSeq fun _=>#[])).push (seqObj "tuple" vs.toArray 0)).push (seqObj "list" #[] 0) }
  dsimp only
  have hsz:vs.toArray.size=vs.length:=by simp
  have fin:∀ st':SortSt,(arrOf st').Perm (pairsOf vs)→SortedTo (arrOf st') (pairsOf vs).size→P (.done (.ret .none)) { s with heap:=sortedHeap s.heap a vs ((arrOf st').map (·.2)) }:=by
    intro st' hp hs
    obtain ⟨ns',h1,h2,h3⟩:=sorted_out hI hp hs
    exact h _ ns' h1 h2 h3
  by_cases h2:vs.toArray.size<2
  · rw [if_pos h2,if_pos h2]
    refine wpAny_bind (wpAny_pure ?_)
    rw [StateT.run_pure]
    refine wpAny_bind (wpAny_pure ?_)
    dsimp only
    refine wpAny_bind (seqEpoch_at ho6 rfl ?_)
    refine wpAny_bind (listUpdate_at ho6 rfl ?_ (hsz2:=by rw [Array.size_map]; show (pairsOf vs).size≤_; rw [pairsOf_size,sizeLine_eq]; omega))
    simp only [bne_self_eq_false,Bool.false_eq_true,if_false]
    refine wpAny_pure (fin (SortSt.mk' general' (vs.toArray.zip vs.toArray) #[] 7 none) (Array.Perm.refl _) ?_)
    intro i j hij hj
    have:i=j:=by rw [pairsOf_size] at hj; omega
    subst this; exact Int.le_refl _
  · rw [if_neg h2,if_neg h2]
    obtain ⟨v₁,v₂,rest,rfl⟩:∃ v₁ v₂ rest,vs=v₁::v₂::rest:=by
      match vs,hsz,h2 with
      | [],_,h2=>simp at h2
      | [_],_,h2=>simp at h2
      | v₁::v₂::rest,_,_=>exact ⟨v₁,v₂,rest,rfl⟩
    rw [keyKind_ints hI]
    refine wpAny_bind (wpAny_pure ?_)
    refine wpAny_bind (wpAny_mono (wpS_runs (κ:=oneType') (G:=GI) (C:=CI) (a₀:=pairsOf (v₁::v₂::rest)) (st:=SortSt.mk' oneType' ((v₁::v₂::rest).toArray.zip (v₁::v₂::rest).toArray) #[] 7 none)
      (Q:=fun _ st'=>(arrOf st').Perm (pairsOf (v₁::v₂::rest))∧failedOf st'=none∧SortedTo (arrOf st') (pairsOf (v₁::v₂::rest)).size)
      cmpI ordI hI.intKeys ⟨Array.Perm.refl _,rfl,rfl⟩ rfl (by rw [pairsOf_size]; simp) fun st' a1 a2 a3=>⟨a1,a2,fun i j hij hj=>?_⟩) ?_ fun _ _ e=>e)
    · have:=a3 i j (Nat.zero_le _) hij hj
      unfold Le CI at this
      have:=of_decide_eq_false this
      rw [K_gk,K_gk]
      omega
    rintro ⟨⟨⟩,st'⟩ s' ⟨rfl,hp,hf,hs⟩
    dsimp only
    refine wpAny_bind (seqEpoch_at ho6 rfl ?_)
    refine wpAny_bind (listUpdate_at ho6 rfl ?_ (hsz2:=by refine Nat.le_trans (Nat.le_of_eq ((Array.size_map ..).trans (hp.size_eq.trans (pairsOf_size _)))) ?_; rw [sizeLine_eq]; omega))
    rw [hf]
    simp only [bne_self_eq_false,Bool.false_eq_true,if_false]
    exact wpAny_pure (fin st' hp hs)
end
end Tm
namespace VL
open PySem L2
open Classical
inductive D where
  | non | bl (b:Bool) | int (i:Int) | str (x:Str) | ty (n:String)
  | lst (xs:List D) | tup (xs:List D) | ins (C:Addr) | scr (ns:List Int) | dct (kvs:List (Int×Int))
def dkv (p:Int×Int):Key×V:=(.inl p.1,.int p.2)
abbrev No:Addr→Prop:=fun _=>False
def KL (K:PySem.W.Frag) (a:Addr) (xs:List V):Prop :=
  ∃ (o:Obj) (its:Array Value) (n:Nat),K.lookup a=some o∧o.cls=.type "list" ∧ o.dict=none∧o.data=.seq its n∧its.size≤sizeLine∧Vals xs its.toList
mutual
inductive Is (K:PySem.W.Frag) (H:Hp) (Z:Addr→Prop):V→D→Prop
  | non:Is K H Z .non .non
  | bl (b:Bool):Is K H Z (.bl b) (.bl b)
  | int (i:Int):Is K H Z (.int i) (.int i)
  | str (x:Str):Is K H Z (.str x) (.str x)
  | ty (n:String):Is K H Z (.ty n) (.ty n)
  | lst {a:Addr} {vs:List V} {ds:List D} (hz:¬ Z a) (h:Rd H a (.lst vs)) (hl:vs.length≤sizeLine) (r:IsL K H Z vs ds):Is K H Z (.ref a) (.lst ds)
  | tup {a:Addr} {vs:List V} {ds:List D} (hz:¬ Z a) (h:H a=some (.tup vs)) (hl:vs.length≤sizeLine) (r:IsL K H Z vs ds):Is K H Z (.ref a) (.tup ds)
  | ins {a C dx:Addr} (hz:¬ Z a) (h:H a=some (.ins C dx [])):Is K H Z (.ref a) (.ins C)
  | dct {a:Addr} {kvs:List (Int×Int)} (hz:¬ Z a) (h:Rd H a (.dK (kvs.map dkv))) (hl:kvs.length≤sizeLine):Is K H Z (.ref a) (.dct kvs)
  | scr {a:Addr} {ns:List Int} (hz:¬ Z a) (h:Rd H a (.lst (ns.map V.int))) (hl:ns.length≤sizeLine):Is K H Z (.ref a) (.scr ns)
  | scrK {a:Addr} {ns:List Int} (h:KL K a (ns.map V.int)) (hl:ns.length≤sizeLine):Is K H Z (.ref a) (.scr ns)
inductive IsL (K:PySem.W.Frag) (H:Hp) (Z:Addr→Prop):List V→List D→Prop
  | nil:IsL K H Z [] []
  | cons {v:V} {d:D} {vs:List V} {ds:List D} (h:Is K H Z v d) (r:IsL K H Z vs ds):IsL K H Z (v::vs) (d::ds)
end
def Kp (Z:Addr→Prop) (H:Hp) (Z':Addr→Prop) (H':Hp):Prop:=∀ a o,H a=some o→¬ Z a→H' a=some o∧¬ Z' a
theorem Kp.refl {Z:Addr→Prop} {H:Hp}:Kp Z H Z H:=fun _ _ h z=>⟨h,z⟩
theorem Kp.trans {Z Z1 Z2:Addr→Prop} {H H1 H2:Hp} (a:Kp Z H Z1 H1) (b:Kp Z1 H1 Z2 H2):Kp Z H Z2 H2:=fun c o h z=>b c o (a c o h z).1 (a c o h z).2
theorem Kp.same {Z:Addr→Prop} {H H':Hp} (s:Same H H'):Kp Z H Z H':=fun _ _ h z=>⟨s _ _ h,z⟩
theorem Kp.less {Z Z':Addr→Prop} {H:Hp} (h:∀ a,Z' a→Z a):Kp Z H Z' H:=fun a _ e z=>⟨e,fun q=>z (h a q)⟩
theorem Rd.kp {Z Z':Addr→Prop} {H H':Hp} {a:Addr} {u:HO} (k:Kp Z H Z' H') (hz:¬ Z a) (h:Rd H a u):Rd H' a u∧¬ Z' a:=by
  rcases h with h | ⟨o,h⟩
  · exact ⟨.inl (k _ _ h hz).1,(k _ _ h hz).2⟩
  · exact ⟨.inr ⟨o,(k _ _ h hz).1⟩,(k _ _ h hz).2⟩
mutual
theorem Is.kp {Z Z':Addr→Prop} {H H':Hp} (k:Kp Z H Z' H'):∀ {v:V} {d:D},Is K H Z v d→Is K H' Z' v d
  | _,_,.non=>.non
  | _,_,.bl b=>.bl b
  | _,_,.int b=>.int b
  | _,_,.str b=>.str b
  | _,_,.ty b=>.ty b
  | _,_,.lst hz h hl r=>.lst (Rd.kp k hz h).2 (Rd.kp k hz h).1 hl (IsL.kp k r)
  | _,_,.tup hz h hl r=>.tup (k _ _ h hz).2 (k _ _ h hz).1 hl (IsL.kp k r)
  | _,_,.ins hz h=>.ins (k _ _ h hz).2 (k _ _ h hz).1
  | _,_,.dct hz h hl=>.dct (Rd.kp k hz h).2 (Rd.kp k hz h).1 hl
  | _,_,.scr hz h hl=>.scr (Rd.kp k hz h).2 (Rd.kp k hz h).1 hl
  | _,_,.scrK h hl=>.scrK h hl
theorem IsL.kp {Z Z':Addr→Prop} {H H':Hp} (k:Kp Z H Z' H'):∀ {v:List V} {d:List D},IsL K H Z v d→IsL K H' Z' v d
  | _,_,.nil=>.nil
  | _,_,.cons h r=>.cons (Is.kp k h) (IsL.kp k r)
end
theorem Is.same {Z:Addr→Prop} {H H':Hp} {v:V} {d:D} (h:Is K H Z v d) (s:Same H H'):Is K H' Z v d:=h.kp (Kp.same s)
theorem IsL.same {Z:Addr→Prop} {H H':Hp} {v:List V} {d:List D} (h:IsL K H Z v d) (s:Same H H'):IsL K H' Z v d:=h.kp (Kp.same s)
theorem Is.all {Z:Addr→Prop} {H:Hp} {v:V} {d:D} (h:Is K H Z v d):Is K H No v d:=h.kp (Kp.less fun _ z=>z.elim)
theorem IsL.all {Z:Addr→Prop} {H:Hp} {v:List V} {d:List D} (h:IsL K H Z v d):IsL K H No v d:=h.kp (Kp.less fun _ z=>z.elim)
def D.scal:D→Bool
  | .lst _=>false
  | .tup _=>false
  | .ins _=>false
  | .scr _=>false
  | .dct _=>false
  | _=>true
theorem Is.scal {Z Z':Addr→Prop} {H H':Hp} {v:V} {d:D} (h:Is K H Z v d) (e:d.scal=true):Is K H' Z' v d:=by
  cases h with
  | non=>exact .non
  | bl b=>exact .bl b
  | int b=>exact .int b
  | str b=>exact .str b
  | ty b=>exact .ty b
  | lst _ _ _ _=>cases e
  | tup _ _ _ _=>cases e
  | ins _ _=>cases e
  | dct _ _ _=>cases e
  | scr _ _ _=>cases e
  | scrK _ _=>cases e
section
variable {H:Hp} {Z:Addr→Prop}
theorem IsL.paired:∀ {vs:List V} {ds:List D},IsL K H Z vs ds→Paired (Is K H Z) vs ds
  | _,_,.nil=>.nil
  | _,_,.cons h r=>.cons h (IsL.paired r)
theorem IsL.of:∀ {vs:List V} {ds:List D},Paired (Is K H Z) vs ds→IsL K H Z vs ds
  | _,_,.nil=>.nil
  | _,_,.cons h r=>.cons h (IsL.of r)
theorem IsL.length {vs:List V} {ds:List D} (h:IsL K H Z vs ds):vs.length=ds.length:=Paired.length h.paired
theorem IsL.get:∀ {vs:List V} {ds:List D} {i:Nat} {d:D},IsL K H Z vs ds→ds[i]?=some d→∃ v,vs[i]?=some v∧Is K H Z v d
  | _,_,0,_,.cons h _,e=>by cases e; exact ⟨_,rfl,h⟩
  | _,_,i+1,_,.cons _ r,e=>by
    obtain ⟨v,e1,h1⟩:=IsL.get (i:=i) r (by simpa using e)
    exact ⟨v,by simpa using e1,h1⟩
theorem IsL.append {vs us:List V} {ds es:List D} (a:IsL K H Z vs ds) (b:IsL K H Z us es):IsL K H Z (vs++us) (ds++es):=.of (Paired.append a.paired b.paired)
theorem IsL.take (n:Nat) {vs:List V} {ds:List D} (a:IsL K H Z vs ds):IsL K H Z (vs.take n) (ds.take n):=.of (Paired.take n a.paired)
theorem IsL.drop (n:Nat) {vs:List V} {ds:List D} (a:IsL K H Z vs ds):IsL K H Z (vs.drop n) (ds.drop n):=.of (Paired.drop n a.paired)
theorem IsL.set {v:V} {d:D} (q:Is K H Z v d):∀ {vs:List V} {ds:List D} (n:Nat),IsL K H Z vs ds→IsL K H Z (vs.set n v) (ds.set n d)
  | _,_,_,.nil=>.nil
  | _,_,0,.cons _ r=>.cons q r
  | _,_,n+1,.cons h r=>.cons h (IsL.set q n r)
theorem IsL.one {v:V} {d:D} (q:Is K H Z v d):IsL K H Z [v] [d]:=.cons q .nil
theorem IsL.ints:∀ {vs:List V} {ns:List Int},IsL K H Z vs (ns.map D.int)→vs=ns.map V.int
  | _,[],.nil=>rfl
  | _,n::ns,.cons (.int _) r=>by rw [IsL.ints (ns:=ns) r]; rfl
theorem IsL.ofInts:∀ (ns:List Int),IsL K H Z (ns.map V.int) (ns.map D.int)
  | []=>.nil
  | n::ns=>.cons (.int n) (IsL.ofInts ns)
end
inductive Sl where
  | un | pu (d:D) | bo (d:D) | ol (ds:List D) | om (rows:List (List D)) | od (kvs:List (Int×Int))
  | pm (a:Addr) (ps:List Addr) (rows:List (List D)) | pd (a:Addr) (kvs:List (Int×Int))
abbrev Rho:=List Sl
abbrev Own:=Nat→List Addr
def tot (Z:Addr→Prop) (os:Own):Addr→Prop:=fun a=>Z a∨∃ i,a∈os i
def SlOk (K:PySem.W.Frag) (B H:Hp) (T:Addr→Prop) (o:List Addr):Sl→Option V→Prop
  | .un,_=>o=[]
  | .pu d,v=>o=[]∧∃ u,v=some u∧Is K H T u d
  | .bo d,v=>o=[]∧∃ u,v=some u∧Is K B No u d
  | .ol ds,v=>∃ a vs,o=[a]∧v=some (.ref a)∧H a=some (.lst vs)∧vs.length≤sizeLine∧IsL K H T vs ds
  | .om rows,v=>∃ a ps,o=a::ps∧v=some (.ref a)∧H a=some (.lst (ps.map V.ref))∧ps.length≤sizeLine∧Paired (fun p ds=>∃ vs,H p=some (.lst vs)∧vs.length≤sizeLine∧IsL K H T vs ds) ps rows
  | .od kvs,v=>∃ a,o=[a]∧v=some (.ref a)∧H a=some (.dK (kvs.map dkv))∧kvs.length≤sizeLine
  | .pm a ps rows,v=>o=a::ps∧v=some (.ref a)∧H a=some (.lst (ps.map V.ref))∧ps.length≤sizeLine∧Paired (fun p ds=>∃ vs,H p=some (.lst vs)∧vs.length≤sizeLine∧IsL K H T vs ds) ps rows
  | .pd a kvs,v=>o=[a]∧v=some (.ref a)∧H a=some (.dK (kvs.map dkv))∧kvs.length≤sizeLine
class Tabs where
  ts:List (Addr×Str)
def TabIn [Tabs] (H:Hp):Prop:=∀ p∈Tabs.ts,∃ t,H p.1=some (.tbl #[.str p.2 t])
theorem TabIn.same [Tabs] {H H':Hp} (h:TabIn H) (s:Same H H'):TabIn H':=fun p hp=>let ⟨t,e⟩:=h p hp; ⟨t,s _ _ e⟩
def ZT [Tabs] (Z:Addr→Prop) (H:Hp):Prop:=(∀ a,Z a→∃ o,H a=some o)∧TabIn H
structure Fr [Tabs] (K:PySem.W.Frag) (B:Hp) (Z:Addr→Prop) (os:Own) (ρ:Rho) (σ:St) (H:Hp):Prop where
  keep:Same B H
  zin:∀ a,Z a→∃ o,H a=some o
  len:σ.length=ρ.length
  nd:∀ i,(os i).Nodup
  dj:∀ i j a,a∈os i→a∈os j→i=j
  new:∀ i a,a∈os i→B a=none∧¬ Z a
  sl:∀ i,SlOk K B H (tot Z os) (os i) (ρ.getD i .un) ((σ[i]?).join)
  tab:TabIn B
variable [Tabs]
theorem Fr.tabH {B H:Hp} {Z:Addr→Prop} {os:Own} {ρ:Rho} {σ:St} (f:Fr K B Z os ρ σ H):TabIn H:=f.tab.same f.keep
theorem Paired.any {α β:Type} {F:α→β→Prop}:∀ {as:List α} {bs:List β} {a:α},Paired F as bs→a∈as→∃ b,F a b
  | _,_,_,.cons r t,h=>by
    rcases List.mem_cons.mp h with rfl | h
    · exact ⟨_,r⟩
    · exact Paired.any t h
theorem SlOk.dom {B H:Hp} {T:Addr→Prop} {o:List Addr} {s:Sl} {v:Option V} (h:SlOk K B H T o s v) {a:Addr} (ha:a∈o):∃ u,H a=some u:=by
  cases s with
  | un=>cases h; cases ha
  | pu d=>obtain ⟨rfl,_⟩:=h; cases ha
  | bo d=>obtain ⟨rfl,_⟩:=h; cases ha
  | ol ds =>
    obtain ⟨b,vs,rfl,_,e,_⟩:=h
    cases List.mem_singleton.mp ha
    exact ⟨_,e⟩
  | om rows =>
    obtain ⟨b,ps,rfl,_,e,_,r⟩:=h
    rcases List.mem_cons.mp ha with rfl | ha
    · exact ⟨_,e⟩
    · obtain ⟨_,vs,q,_⟩:=Paired.any r ha
      exact ⟨_,q⟩
  | od kvs =>
    obtain ⟨b,rfl,_,e,_⟩:=h
    cases List.mem_singleton.mp ha
    exact ⟨_,e⟩
  | pm b ps rows =>
    obtain ⟨rfl,_,e,_,r⟩:=h
    rcases List.mem_cons.mp ha with rfl | ha
    · exact ⟨_,e⟩
    · obtain ⟨_,vs,q,_⟩:=Paired.any r ha
      exact ⟨_,q⟩
  | pd b kvs =>
    obtain ⟨rfl,_,e,_⟩:=h
    cases List.mem_singleton.mp ha
    exact ⟨_,e⟩
theorem SlOk.kp {B B' H H':Hp} {T T':Addr→Prop} {o:List Addr} {s:Sl} {v:Option V} (h:SlOk K B H T o s v) (k:Kp T H T' H') (hb:Same B B') (ho:∀ a∈o,∀ u,H a=some u→H' a=some u):SlOk K B' H' T' o s v:=by
  cases s with
  | un=>exact h
  | pu d=>obtain ⟨e,u,e2,i⟩:=h; exact ⟨e,u,e2,i.kp k⟩
  | bo d=>obtain ⟨e,u,e2,i⟩:=h; exact ⟨e,u,e2,i.same hb⟩
  | ol ds=>obtain ⟨a,vs,rfl,e2,e3,hl,i⟩:=h; exact ⟨a,vs,rfl,e2,ho _ (List.mem_singleton.mpr rfl) _ e3,hl,i.kp k⟩
  | om rows =>
    obtain ⟨a,ps,rfl,e2,e3,hl,i⟩:=h
    exact ⟨a,ps,rfl,e2,ho _ List.mem_cons_self _ e3,hl,Paired.mono i fun p ds hp ⟨vs,q,hv,j⟩=>⟨vs,ho _ (List.mem_cons_of_mem _ hp) _ q,hv,j.kp k⟩⟩
  | od kvs=>obtain ⟨a,rfl,e2,e3,hl⟩:=h; exact ⟨a,rfl,e2,ho _ (List.mem_singleton.mpr rfl) _ e3,hl⟩
  | pm a ps rows =>
    obtain ⟨rfl,e2,e3,hl,i⟩:=h
    exact ⟨rfl,e2,ho _ List.mem_cons_self _ e3,hl,Paired.mono i fun p ds hp ⟨vs,q,hv,j⟩=>⟨vs,ho _ (List.mem_cons_of_mem _ hp) _ q,hv,j.kp k⟩⟩
  | pd a kvs=>obtain ⟨rfl,e2,e3,hl⟩:=h; exact ⟨rfl,e2,ho _ (List.mem_singleton.mpr rfl) _ e3,hl⟩
section
variable {B H H':Hp} {Z:Addr→Prop} {os:Own} {ρ:Rho} {σ:St}
theorem Fr.grow (f:Fr K B Z os ρ σ H) (s:Same H H'):Fr K B Z os ρ σ H' where
  keep:=f.keep.trans s
  zin:=fun a z=>let ⟨o,e⟩:=f.zin a z; ⟨o,s _ _ e⟩
  len:=f.len
  nd:=f.nd
  dj:=f.dj
  new:=f.new
  sl:=fun i=>(f.sl i).kp (Kp.same s) (Same.refl _) fun a _ u e=>s _ _ e
  tab:=f.tab
theorem Fr.out (f:Fr K B Z os ρ σ H) {p:Addr} (hp:H p=none):¬ tot Z os p:=by
  rintro (z | ⟨i,z⟩)
  · obtain ⟨o,e⟩:=f.zin p z
    rw [hp] at e; cases e
  · obtain ⟨xs,e⟩:=(f.sl i).dom z
    rw [hp] at e; cases e
def putO (os:Own) (i:Nat) (o:List Addr):Own:=fun j=>if j=i then o else os j
theorem putO_same {os:Own} {i:Nat} {o:List Addr}:putO os i o i=o:=if_pos rfl
theorem putO_ne {os:Own} {i j:Nat} {o:List Addr} (h:j≠i):putO os i o j=os j:=if_neg h
theorem getD_set_same {α:Type} {l:List α} {i:Nat} {x d:α} (h:i<l.length):(l.set i x).getD i d=x:=by
  rw [List.getD_eq_getElem?_getD,List.getElem?_set_self h]; rfl
theorem getD_set_ne {α:Type} {l:List α} {i j:Nat} {x d:α} (h:j≠i):(l.set i x).getD j d=l.getD j d:=by
  rw [List.getD_eq_getElem?_getD,List.getElem?_set_ne (Ne.symm h),← List.getD_eq_getElem?_getD]
theorem Fr.step (f:Fr K B Z os ρ σ H) {i:Nat} (hi:i < ρ.length) {o:List Addr} {s:Sl} {v:Option V}
    (hk:∀ a u,H a=some u→a∉os i→H' a=some u) (hs:∀ a,a∈os i→∃ u,H' a=some u) (hn:o.Nodup) (ho:∀ a∈o,a∈os i∨H a=none) (ok:SlOk K B H' (tot Z (putO os i o)) o s v) :
    Fr K B Z (putO os i o) (ρ.set i s) (σ.set i v) H'∧Kp (tot Z os) H (tot Z (putO os i o)) H':=by
  have no:∀ a u,H a=some u→a∉os i→a∉o:=fun a u e n q=>by
    rcases ho a q with z | z
    · exact n z
    · rw [z] at e; cases e
  have kp:Kp (tot Z os) H (tot Z (putO os i o)) H':=fun a u e t=>by
    have ni:a∉os i:=fun q=>t (.inr ⟨i,q⟩)
    refine ⟨hk a u e ni,?_⟩
    rintro (z | ⟨j,z⟩)
    · exact t (.inl z)
    · by_cases hj:j=i
      · subst hj; rw [putO_same] at z; exact no a u e ni z
      · rw [putO_ne hj] at z; exact t (.inr ⟨j,z⟩)
  refine ⟨⟨fun a u e=>hk a u (f.keep a u e) fun q=>?_,fun a z=>?_,?_,fun j=>?_,fun j k a h1 h2=>?_,fun j a h=>?_,fun j=>?_,f.tab⟩,kp⟩
  · have:=(f.new i a q).1; rw [e] at this; cases this
  · obtain ⟨u,e⟩:=f.zin a z
    exact ⟨u,hk a u e fun q=>(f.new i a q).2 z⟩
  · rw [List.length_set,List.length_set]; exact f.len
  · by_cases hj:j=i
    · subst hj; rw [putO_same]; exact hn
    · rw [putO_ne hj]; exact f.nd j
  · have dom:∀ k,a∈os k→∃ u,H a=some u:=fun k z=>let ⟨xs,e⟩:=(f.sl k).dom z; ⟨_,e⟩
    by_cases hj:j=i
    · by_cases hk':k=i
      · rw [hj,hk']
      · subst hj
        rw [putO_same] at h1; rw [putO_ne hk'] at h2
        rcases ho a h1 with z | z
        · exact f.dj _ _ a z h2
        · obtain ⟨u,e⟩:=dom k h2; rw [z] at e; cases e
    · by_cases hk':k=i
      · subst hk'
        rw [putO_ne hj] at h1; rw [putO_same] at h2
        rcases ho a h2 with z | z
        · exact f.dj _ _ a h1 z
        · obtain ⟨u,e⟩:=dom j h1; rw [z] at e; cases e
      · rw [putO_ne hj] at h1; rw [putO_ne hk'] at h2
        exact f.dj _ _ a h1 h2
  · by_cases hj:j=i
    · subst hj
      rw [putO_same] at h
      rcases ho a h with z | z
      · exact f.new _ a z
      · exact ⟨Same.free f.keep z,fun q=>f.out z (.inl q)⟩
    · rw [putO_ne hj] at h; exact f.new j a h
  · by_cases hj:j=i
    · subst hj
      have hσ:j < σ.length:=by rw [f.len]; exact hi
      rw [putO_same,getD_set_same hi,List.getElem?_set_self hσ]
      exact ok
    · rw [putO_ne hj,getD_set_ne hj,List.getElem?_set_ne (Ne.symm hj)]
      exact (f.sl j).kp kp (Same.refl _) fun a ha u e=>hk a u e fun q=>hj (f.dj _ _ a ha q)
theorem Fr.put (f:Fr K B Z os ρ σ H) {i:Nat} (hi:i < ρ.length) {v:V} {d:D} (h:Is K H (tot Z os) v d) :
    Fr K B Z (putO os i []) (ρ.set i (.pu d)) (σ.set i (some v)) H∧Kp (tot Z os) H (tot Z (putO os i [])) H:=by
  refine f.step hi (fun a u e _=>e) (fun a ha=>let ⟨xs,e⟩:=(f.sl i).dom ha; ⟨_,e⟩) List.nodup_nil (fun a h=>by cases h) ⟨rfl,v,rfl,h.kp (Kp.less ?_)⟩
  rintro a (z | ⟨j,z⟩)
  · exact .inl z
  · by_cases hj:j=i
    · subst hj; rw [putO_same] at z; cases z
    · rw [putO_ne hj] at z; exact .inr ⟨j,z⟩
end
end VL
namespace VL
open PySem L2
open Classical
noncomputable section
abbrev DE:=Rho→Option D
section
variable [Tabs] {K:PySem.W.Frag}
def SemB (K:PySem.W.Frag) (t:TE) (e:DE):Prop:=∀ {B:Hp} {Z:Addr→Prop} {os:Own} {ρ:Rho} {σ:L2.St} {H:Hp} {Q:VK} {d:D},Fr K B Z os ρ σ H→e ρ=some d→(∀ v H',Same H H'→Is K H' No v d→Q v H')→t σ H Q
def SemI (K:PySem.W.Frag) (t:TE) (e:DE):Prop:=∀ {B:Hp} {Z:Addr→Prop} {os:Own} {ρ:Rho} {σ:L2.St} {H:Hp} {Q:VK} {d:D},Fr K B Z os ρ σ H→e ρ=some d→(∀ v H',Same H H'→Is K H' (tot Z os) v d→Q v H')→t σ H Q
def SemF (K:PySem.W.Frag) (t:TE) (e:Rho→Option (List D)):Prop:=∀ {B:Hp} {Z:Addr→Prop} {os:Own} {ρ:Rho} {σ:L2.St} {H:Hp} {Q:VK} {ds:List D},Fr K B Z os ρ σ H→e ρ=some ds →
  (∀ p vs H',Same H H'→H p=none→H' p=some (.lst vs)→vs.length≤sizeLine→IsL K H' (fun a=>a=p∨tot Z os a) vs ds→Q (.ref p) H')→t σ H Q
def SemT (K:PySem.W.Frag) (t:TT) (e:Rho→Option Bool):Prop:=∀ {B:Hp} {Z:Addr→Prop} {os:Own} {ρ:Rho} {σ:L2.St} {H:Hp} {Q:Bool→Hp→Prop} {b:Bool},Fr K B Z os ρ σ H→e ρ=some b→(∀ H',Same H H'→Q b H')→t σ H Q
inductive Args (K:PySem.W.Frag) (H:Hp) (T:Addr→Prop):List Bool→List V→List D→Prop
  | nil:Args K H T [] [] []
  | own {ms:List Bool} {v:V} {d:D} {vs:List V} {ds:List D}:Is K H T v d→Args K H T ms vs ds→Args K H T (true::ms) (v::vs) (d::ds)
  | any {ms:List Bool} {v:V} {d:D} {vs:List V} {ds:List D}:Is K H No v d→Args K H T ms vs ds→Args K H T (false::ms) (v::vs) (d::ds)
def SemA (K:PySem.W.Frag) (ms:List Bool) (t:TA) (e:Rho→Option (List D)):Prop:=∀ {B:Hp} {Z:Addr→Prop} {os:Own} {ρ:Rho} {σ:L2.St} {H:Hp} {Q:List V→Hp→Prop} {ds:List D},Fr K B Z os ρ σ H→e ρ=some ds→(∀ vs H',Same H H'→Args K H' (tot Z os) ms vs ds→Q vs H')→t σ H Q
theorem Args.len {H:Hp} {T:Addr→Prop} {ms:List Bool} {vs:List V} {ds:List D} (a:Args K H T ms vs ds):vs.length=ms.length∧ds.length=ms.length:=by
  induction a with
  | nil=>exact ⟨rfl,rfl⟩
  | own h _ ih=>simp [ih.1,ih.2]
  | any h _ ih=>simp [ih.1,ih.2]
theorem Args.lown {H:Hp} {T:Addr→Prop}:∀ {n:Nat} {vs:List V} {ds:List D},Args K H T (List.replicate n true) vs ds→IsL K H T vs ds
  | 0,_,_,.nil=>.nil
  | _+1,_,_,.own h r=>.cons h r.lown
theorem SemI.b {t:TE} {e:DE} (h:SemI K t e):SemB K t e:=fun f q k=>h f q fun v H' s i=>k v H' s i.all
theorem SemF.i {t:TE} {e:Rho→Option (List D)} (h:SemF K t e):SemI K t (fun ρ=>(e ρ).map D.lst):=fun {B Z os ρ σ H Q d} f q k=>by
  dsimp only at q
  cases q1:e ρ with
  | none=>rw [q1] at q; cases q
  | some ds =>
    rw [q1] at q
    cases q
    refine h f q1 fun p vs H' s hp hp' hl i=>k _ _ s (.lst (f.out hp) (.inl hp') hl (i.kp (Kp.less fun a z=>.inr z)))
def lof:D→Option (List D)
  | .lst ds=>some ds
  | .scr ns=>some (ns.map D.int)
  | _=>none
theorem Is.seq {H:Hp} {Z:Addr→Prop} {v:V} {d:D} {ds:List D} (h:Is K H Z v d) (e:lof d=some ds):∃ p vs,v=.ref p∧vs.length≤sizeLine∧vs.length=ds.length∧∀ H' Z',Kp Z H Z' H'→SqL K H' p vs∧IsL K H' Z' vs ds:=by
  cases h with
  | lst hz h hl r=>cases e; exact ⟨_,_,rfl,hl,r.length,fun H' Z' k=>⟨.inl (Rd.kp k hz h).1,r.kp k⟩⟩
  | scr hz h hl=>cases e; exact ⟨_,_,rfl,by rw [List.length_map]; exact hl,by simp,fun H' Z' k=>⟨.inl (Rd.kp k hz h).1,.ofInts _⟩⟩
  | scrK h hl=>cases e; exact ⟨_,_,rfl,by rw [List.length_map]; exact hl,by simp,fun H' Z' k=>⟨.inr h,.ofInts _⟩⟩
  | _=>cases e
noncomputable def gScal (e:DE):DE:=fun ρ=>match e ρ with
  | some d=>if d.scal=true then some d else none
  | none=>none
theorem SemB.i {t:TE} {e:DE} (h:SemB K t e):SemI K t (gScal e):=fun {B Z os ρ σ H Q d} f q k=>by
  unfold gScal at q
  cases q1:e ρ with
  | none=>rw [q1] at q; cases q
  | some d' =>
    rw [q1] at q
    have q':(if d'.scal=true then some d' else none)=some d:=q
    by_cases c:d'.scal=true
    · rw [if_pos c] at q'
      cases q'
      exact h f q1 fun v H' s i=>k v H' s (i.scal c)
    · rw [if_neg c] at q'; cases q'
noncomputable def dVar (i:Nat):DE:=fun ρ=>match ρ.getD i .un with
  | .pu d=>some d
  | .bo d=>some d
  | .ol ds=>some (.lst ds)
  | .om rows=>some (.lst (rows.map D.lst))
  | .od kvs=>some (.dct kvs)
  | .pm _ _ rows=>some (.lst (rows.map D.lst))
  | .pd _ kvs=>some (.dct kvs)
  | .un=>none
noncomputable def dVarI (i:Nat):DE:=fun ρ=>match ρ.getD i .un with
  | .pu d=>some d
  | _=>none
omit [Tabs] in
theorem join_some {α:Type} {o:Option (Option α)} {u:α} (h:o.join=some u):o=some (some u):=by
  cases o with
  | none=>cases h
  | some x=>rw [show x=some u from h]
theorem rows_is {H:Hp} {T:Addr→Prop}:∀ {ps:List Addr} {rows:List (List D)},Paired (fun p ds=>∃ vs,H p=some (.lst vs)∧vs.length≤sizeLine∧IsL K H T vs ds) ps rows→IsL K H No (ps.map V.ref) (rows.map D.lst)
  | _,_,.nil=>.nil
  | _,_,.cons ⟨vs,e,hl,i⟩ r=>.cons (.lst (fun z=>z) (.inl e) hl i.all) (rows_is r)
theorem sb_var (i:Nat):SemB K (tVar i) (dVar i):=fun {B Z os ρ σ H Q d} f q k=>by
  have s:=f.sl i
  unfold dVar at q
  cases e:ρ.getD i .un with
  | un=>rw [e] at q; cases q
  | pu d' =>
    rw [e] at q s
    cases q
    obtain ⟨_,u,hu,i⟩:=s
    exact ⟨u,join_some hu,k u H (Same.refl _) i.all⟩
  | bo d' =>
    rw [e] at q s
    cases q
    obtain ⟨_,u,hu,i⟩:=s
    exact ⟨u,join_some hu,k u H (Same.refl _) (i.same f.keep)⟩
  | ol ds =>
    rw [e] at q s
    cases q
    obtain ⟨a,vs,_,hu,hH,hl,i⟩:=s
    exact ⟨_,join_some hu,k _ H (Same.refl _) (.lst (fun z=>z) (.inl hH) hl i.all)⟩
  | om rows =>
    rw [e] at q s
    cases q
    obtain ⟨a,ps,_,hu,hH,hl,i⟩:=s
    exact ⟨_,join_some hu,k _ H (Same.refl _) (.lst (fun z=>z) (.inl hH) (by rw [List.length_map]; exact hl) (rows_is i))⟩
  | od kvs =>
    rw [e] at q s
    cases q
    obtain ⟨a,_,hu,hH,hl⟩:=s
    exact ⟨_,join_some hu,k _ H (Same.refl _) (.dct (fun z=>z) (.inl hH) hl)⟩
  | pm a ps rows =>
    rw [e] at q s
    cases q
    obtain ⟨_,hu,hH,hl,i⟩:=s
    exact ⟨_,join_some hu,k _ H (Same.refl _) (.lst (fun z=>z) (.inl hH) (by rw [List.length_map]; exact hl) (rows_is i))⟩
  | pd a kvs =>
    rw [e] at q s
    cases q
    obtain ⟨_,hu,hH,hl⟩:=s
    exact ⟨_,join_some hu,k _ H (Same.refl _) (.dct (fun z=>z) (.inl hH) hl)⟩
theorem si_var (i:Nat):SemI K (tVar i) (dVarI i):=fun {B Z os ρ σ H Q d} f q k=>by
  have s:=f.sl i
  unfold dVarI at q
  cases e:ρ.getD i .un with
  | pu d' =>
    rw [e] at q s
    cases q
    obtain ⟨_,u,hu,i⟩:=s
    exact ⟨u,join_some hu,k u H (Same.refl _) i⟩
  | _=>rw [e] at q; cases q
noncomputable def dC (d:D):DE:=fun _=>some d
theorem si_int {i:Int}:SemI K (tC (.int i)) (dC (.int i)):=fun f q k=>by cases q; exact k _ _ (Same.refl _) (.int i)
theorem si_bl {i:Bool}:SemI K (tC (.bl i)) (dC (.bl i)):=fun f q k=>by cases q; exact k _ _ (Same.refl _) (.bl i)
noncomputable def dII (f:Int→Int→Option D) (a b:DE):DE:=fun ρ=>match a ρ with
  | some (.int i)=>(match b ρ with
    | some (.int j)=>f i j
    | _=>none)
  | _=>none
theorem dII_some {f:Int→Int→Option D} {a b:DE} {ρ:Rho} {d:D} (h:dII f a b ρ=some d):∃ i j,a ρ=some (.int i)∧b ρ=some (.int j)∧f i j=some d:=by
  unfold dII at h
  split at h
  · rename_i i e1
    split at h
    · rename_i j e2
      exact ⟨i,j,e1,e2,h⟩
    · cases h
  · cases h
theorem Is.isInt {H:Hp} {Z:Addr→Prop} {v:V} {i:Int} (h:Is K H Z v (.int i)):v=.int i:=by cases h; rfl
theorem Is.isBl {H:Hp} {Z:Addr→Prop} {v:V} {i:Bool} (h:Is K H Z v (.bl i)):v=.bl i:=by cases h; rfl
variable {ta tb tc:TE} {a b c:DE}
theorem si_op0 {g:Int→Int→V} (gd:Int→Int→D) (hg:∀ i j H Z,Is K H Z (g i j) (gd i j)) (ha:SemB K ta a) (hb:SemB K tb b):SemI K (tOp (rI0 g) ta tb) (dII (fun i j=>some (gd i j)) a b):=fun {B Z os ρ σ H Q d} f q k=>by
  obtain ⟨i,j,e1,e2,e3⟩:=dII_some q
  cases e3
  refine ha f e1 fun v H1 s1 i1=>hb (f.grow s1) e2 fun u H2 s2 i2=>?_
  exact ⟨i,j,i1.isInt,i2.isInt,k _ _ (s1.trans s2) (hg i j _ _)⟩
noncomputable def gC (C:Int→Int→Prop) (g:Int→Int→D):Int→Int→Option D:=fun i j=>if C i j then some (g i j) else none
theorem gC_pos {C:Int→Int→Prop} {g:Int→Int→D} {i j:Int} (h:C i j):gC C g i j=some (g i j):=if_pos h
theorem si_opC {C:Int→Int→Prop} {g:Int→Int→V} (gd:Int→Int→D) (hg:∀ i j H Z,Is K H Z (g i j) (gd i j)) (ha:SemB K ta a) (hb:SemB K tb b):SemI K (tOp (rI C g) ta tb) (dII (gC C gd) a b):=fun {B Z os ρ σ H Q d} f q k=>by
  obtain ⟨i,j,e1,e2,e3⟩:=dII_some q
  unfold gC at e3
  by_cases c:C i j
  · rw [if_pos c] at e3
    cases e3
    refine ha f e1 fun v H1 s1 i1=>hb (f.grow s1) e2 fun u H2 s2 i2=>?_
    exact ⟨i,j,i1.isInt,i2.isInt,c,k _ _ (s1.trans s2) (hg i j _ _)⟩
  · rw [if_neg c] at e3; cases e3
noncomputable def dAdd:DE→DE→DE:=dII fun i j=>some (.int (i+j))
noncomputable def dSub:DE→DE→DE:=dII fun i j=>some (.int (i-j))
noncomputable def dMul:DE→DE→DE:=dII (gC IntMulOk fun i j=>.int (i*j))
noncomputable def dMod:DE→DE→DE:=dII (gC (fun _ j=>0<j) fun i j=>.int (i % j))
noncomputable def dPow:DE→DE→DE:=dII (gC CPow fun i j=>.int (i ^ j.toNat))
noncomputable def dLt:DE→DE→DE:=dII fun i j=>some (.bl (decide (i<j)))
noncomputable def dLe:DE→DE→DE:=dII fun i j=>some (.bl (decide (i≤j)))
noncomputable def dGt:DE→DE→DE:=dII fun i j=>some (.bl (decide (j<i)))
theorem si_add (ha:SemB K ta a) (hb:SemB K tb b):SemI K (tOp (rI0 fun i j=>.int (i+j)) ta tb) (dAdd a b):=si_op0 (fun i j=>.int (i+j)) (fun _ _ _ _=>.int _) ha hb
theorem si_sub (ha:SemB K ta a) (hb:SemB K tb b):SemI K (tOp (rI0 fun i j=>.int (i-j)) ta tb) (dSub a b):=si_op0 (fun i j=>.int (i-j)) (fun _ _ _ _=>.int _) ha hb
theorem si_mul (ha:SemB K ta a) (hb:SemB K tb b):SemI K (tOp (rI IntMulOk fun i j=>.int (i*j)) ta tb) (dMul a b):=si_opC (fun i j=>.int (i*j)) (fun _ _ _ _=>.int _) ha hb
theorem si_mod (ha:SemB K ta a) (hb:SemB K tb b):SemI K (tOp (rI (fun _ j=>0<j) fun i j=>.int (i % j)) ta tb) (dMod a b):=si_opC (fun i j=>.int (i % j)) (fun _ _ _ _=>.int _) ha hb
theorem si_pow (ha:SemB K ta a) (hb:SemB K tb b):SemI K (tOp (rI CPow fun i j=>.int (i ^ j.toNat)) ta tb) (dPow a b):=si_opC (fun i j=>.int (i ^ j.toNat)) (fun _ _ _ _=>.int _) ha hb
theorem si_lt (ha:SemB K ta a) (hb:SemB K tb b):SemI K (tOp (rI0 fun i j=>.bl (decide (i<j))) ta tb) (dLt a b):=si_op0 (fun i j=>.bl (decide (i<j))) (fun _ _ _ _=>.bl _) ha hb
theorem si_le (ha:SemB K ta a) (hb:SemB K tb b):SemI K (tOp (rI0 fun i j=>.bl (decide (i≤j))) ta tb) (dLe a b):=si_op0 (fun i j=>.bl (decide (i≤j))) (fun _ _ _ _=>.bl _) ha hb
theorem si_gt (ha:SemB K ta a) (hb:SemB K tb b):SemI K (tOp (rI0 fun i j=>.bl (decide (j<i))) ta tb) (dGt a b):=si_op0 (fun i j=>.bl (decide (j<i))) (fun _ _ _ _=>.bl _) ha hb
noncomputable def dNeg (a:DE):DE:=fun ρ=>match a ρ with
  | some (.int i)=>some (.int (-i))
  | _=>none
theorem si_neg (ha:SemB K ta a):SemI K (tUn (rU fun i=>.int (-i)) ta) (dNeg a):=fun {B Z os ρ σ H Q d} f q k=>by
  unfold dNeg at q
  split at q
  · rename_i i e1
    cases q
    exact ha f e1 fun v H1 s1 i1=>⟨i,i1.isInt,k _ _ s1 (.int _)⟩
  · cases q
noncomputable def dChain (p q:Int→Int→Bool) (a b c:DE):DE:=fun ρ=>match a ρ with
  | some (.int i)=>(match b ρ with
    | some (.int j)=>if p i j=true then (match c ρ with
      | some (.int k)=>some (.bl (q j k))
      | _=>none) else some (.bl false)
    | _=>none)
  | _=>none
theorem si_chain {p q:Int→Int→Bool} (ha:SemB K ta a) (hb:SemB K tb b) (hc:SemB K tc c):SemI K (tChain (rI0 fun i j=>.bl (p i j)) (rI0 fun i j=>.bl (q i j)) ta tb tc) (dChain p q a b c):=fun {B Z os ρ σ H Q d} f e k=>by
  unfold dChain at e
  split at e
  · rename_i i e1
    split at e
    · rename_i j e2
      refine ha f e1 fun v H1 s1 i1=>hb (f.grow s1) e2 fun u H2 s2 i2=>⟨i,j,i1.isInt,i2.isInt,p i j,rfl,?_⟩
      by_cases hp:p i j=true
      · rw [if_pos hp] at e ⊢
        split at e
        · rename_i l e3
          cases e
          exact hc (f.grow (s1.trans s2)) e3 fun w H3 s3 i3=>⟨j,l,i2.isInt,i3.isInt,k _ _ ((s1.trans s2).trans s3) (.bl _)⟩
        · cases e
      · rw [if_neg hp] at e ⊢
        cases e
        exact k _ _ (s1.trans s2) (.bl _)
    · cases e
  · cases e
noncomputable def dT (a:DE):Rho→Option Bool:=fun ρ=>match a ρ with
  | some (.bl b)=>some b
  | _=>none
theorem st_test (ha:SemB K ta a):SemT K (tTest ta) (dT a):=fun {B Z os ρ σ H Q d} f q k=>by
  unfold dT at q
  split at q
  · rename_i b e
    cases q
    exact ha f e fun v H1 s1 i1=>⟨_,i1.isBl,k _ s1⟩
  · cases q
def truD:D→Option Bool
  | .non=>some false
  | .bl b=>some b
  | .int i=>some (i != 0)
  | .str y=>if y.length≤sizeLine then some ((y.length:Int) != 0) else none
  | .lst ds=>some (!ds.isEmpty)
  | .tup ds=>some (!ds.isEmpty)
  | .scr ns=>some (!ns.isEmpty)
  | _=>none
theorem isEmpty_is {H:Hp} {Z:Addr→Prop} {vs:List V} {ds:List D} (h:IsL K H Z vs ds):vs.isEmpty=ds.isEmpty:=by cases h <;> rfl
theorem tru_is {H:Hp} {Z:Addr→Prop} {v:V} {d:D} {b:Bool} (h:Is K H Z v d) (e:truD d=some b):TruV K v H b:=by
  cases h with
  | non=>cases e; rfl
  | bl b=>cases e; rfl
  | int i=>cases e; rfl
  | str x =>
    have e:(if x.length≤sizeLine then some ((x.length:Int) != 0) else none)=some b:=e
    by_cases c:x.length≤sizeLine
    · rw [if_pos c] at e; cases e; exact ⟨c,rfl⟩
    · rw [if_neg c] at e; cases e
  | ty n=>cases e
  | lst hz h hl r=>cases e; exact .inl ⟨_,.inl h,by rw [isEmpty_is r]⟩
  | tup hz h hl r=>cases e; exact .inr (.inl ⟨_,.inl (.inl h),by rw [isEmpty_is r]⟩)
  | ins _ _=>cases e
  | dct _ _ _=>cases e
  | scr hz h hl=>cases e; exact .inl ⟨_,.inl h,by cases ‹List Int› <;> rfl⟩
  | scrK h hl=>cases e; exact .inl ⟨_,.inr h,by cases ‹List Int› <;> rfl⟩
noncomputable def dTru (a:DE):Rho→Option Bool:=fun ρ=>match a ρ with
  | some d=>truD d
  | none=>none
theorem st_tru (ha:SemB K ta a):SemT K (fun σ H Q=>ta σ H fun x H'=>∃ k,TruV K x H' k∧Q k H') (dTru a):=fun {B Z os ρ σ H Q b} f q k=>by
  unfold dTru at q
  split at q
  · rename_i d e
    exact ha f e fun v H1 s1 i1=>⟨b,tru_is i1 q,k _ s1⟩
  · cases q
variable {tA tB':TT} {x y:Rho→Option Bool}
noncomputable def dAnd (x y:Rho→Option Bool):Rho→Option Bool:=fun ρ=>match x ρ with
  | some true=>y ρ
  | some false=>some false
  | none=>none
noncomputable def dOr (x y:Rho→Option Bool):Rho→Option Bool:=fun ρ=>match x ρ with
  | some true=>some true
  | some false=>y ρ
  | none=>none
noncomputable def dNot (x:Rho→Option Bool):Rho→Option Bool:=fun ρ=>match x ρ with
  | some b=>some (!b)
  | none=>none
theorem st_and (ha:SemT K tA x) (hb:SemT K tB' y):SemT K (tAnd tA tB') (dAnd x y):=fun {B Z os ρ σ H Q b} f q k=>by
  unfold dAnd at q
  split at q
  · rename_i e
    exact ha f e fun H1 s1=>iteT (hb (f.grow s1) q fun H2 s2=>k _ (s1.trans s2))
  · rename_i e
    cases q
    exact ha f e fun H1 s1=>iteF (k _ s1)
  · cases q
theorem st_or (ha:SemT K tA x) (hb:SemT K tB' y):SemT K (tOr tA tB') (dOr x y):=fun {B Z os ρ σ H Q b} f q k=>by
  unfold dOr at q
  split at q
  · rename_i e
    cases q
    exact ha f e fun H1 s1=>iteT (k _ s1)
  · rename_i e
    exact ha f e fun H1 s1=>iteF (hb (f.grow s1) q fun H2 s2=>k _ (s1.trans s2))
  · cases q
theorem st_not (ha:SemT K tA x):SemT K (tNot tA) (dNot x):=fun {B Z os ρ σ H Q b} f q k=>by
  unfold dNot at q
  split at q
  · rename_i c e
    cases q
    exact ha f e fun H1 s1=>k _ s1
  · cases q
noncomputable def dTrue:Rho→Option Bool:=fun _=>some true
theorem st_true:SemT K tTrue dTrue:=fun f q k=>by cases q; exact k _ (Same.refl _)
noncomputable def dAndV (a b:DE):DE:=fun ρ=>match a ρ with
  | some (.bl true)=>b ρ
  | some (.bl false)=>some (.bl false)
  | _=>none
noncomputable def dNotV (a:DE):DE:=fun ρ=>match a ρ with
  | some (.bl c)=>some (.bl (!c))
  | _=>none
theorem si_andV (ha:SemB K ta a) (hb:SemI K tb b):SemI K (tAndV ta tb) (dAndV a b):=fun {B Z os ρ σ H Q d} f q k=>by
  unfold dAndV at q
  split at q
  · rename_i e
    exact ha f e fun v H1 s1 i1=>⟨true,i1.isBl,iteT (hb (f.grow s1) q fun v H2 s2=>k _ _ (s1.trans s2))⟩
  · rename_i e
    cases q
    exact ha f e fun v H1 s1 i1=>⟨false,i1.isBl,iteF (k _ _ s1 (.bl _))⟩
  · cases q
theorem si_notV (ha:SemB K ta a):SemI K (tNotV ta) (dNotV a):=fun {B Z os ρ σ H Q d} f q k=>by
  unfold dNotV at q
  split at q
  · rename_i c e
    cases q
    exact ha f e fun v H1 s1 i1=>⟨c,i1.isBl,k _ _ s1 (.bl _)⟩
  · cases q
end
end
end VL
namespace L2
open PySem PySem.Spec PyProof.Rows
section
variable {X:Cx} {pins:List (Addr×Obj)} {σ:St} {H:Hp} {s:Shared} {l:Addr} {xs:List V}
theorem Inv.lstR (I:Inv X pins σ H s) (hH:Rd H l (.lst xs)):xs.length≤sizeLine∧∃ (its:List Value) (n:Nat),Vals xs its∧xs.length=its.length∧s.heap.get? l=some { cls:=.type "list", data:=.seq its.toArray n }:=by
  obtain ⟨z,its,n,r,e⟩:=hH.ok I.hok
  exact ⟨z,its,n,r,r.length,e⟩
def rCatR:R2:=fun x y H Q=>∃ l b xs zs,x=.ref l∧y=.ref b∧Rd H l (.lst xs)∧Rd H b (.lst zs)∧xs.length+zs.length≤sizeLine∧∀ p,H p=none→Q (.ref p) (upd H p (.lst (xs++zs)))
theorem op_catR:OpR X (binaryOp .Add) rCatR:=by
  intro pins s σ H x y v u Q I rx ry h
  obtain ⟨l,b,xs,zs,rfl,rfl,hH,hB,hz,q⟩:=h
  cases rx
  cases ry
  obtain ⟨z,its,n,r,hl,e⟩:=I.lstR hH
  obtain ⟨z2,its2,n2,r2,hl2,e2⟩:=I.lstR hB
  refine PySem.P.add_list e e2 ?_ (by rw [List.size_toArray,List.size_toArray]; omega)
  have ea:its.toArray++its2.toArray=(its++its2).toArray:=by simp
  rw [ea]
  exact ⟨.ref _,_,I.lnew (t':=s.toks) (r.append r2) (by rw [List.length_append]; omega),rfl,q _ I.fresh⟩
theorem ix_seqK {K:PySem.W.Frag} (h:X.K=K):IxR X (rIx K):=by subst h; exact ix_seq
theorem call_lenK {K:PySem.W.Frag} (h:X.K=K):CallR X (.builtin "len") (fun xs H Q=>∃ x n,xs=[x]∧LenV K x H n∧Q (.int n) H):=by subst h; exact call_len
end
end L2
namespace VL
open PySem L2
open Classical
noncomputable section
section
variable [Tabs] {K:PySem.W.Frag} {ta tb tc:TE} {a b c:DE}
noncomputable def dCons (a:DE) (es:Rho→Option (List D)):Rho→Option (List D):=fun ρ=>match a ρ with
  | some d=>(match es ρ with
    | some ds=>some (d::ds)
    | none=>none)
  | none=>none
noncomputable def dNil:Rho→Option (List D):=fun _=>some []
theorem dCons_some {a:DE} {es:Rho→Option (List D)} {ρ:Rho} {ds:List D} (h:dCons a es ρ=some ds):∃ d r,a ρ=some d∧es ρ=some r∧ds=d::r:=by
  unfold dCons at h
  split at h
  · rename_i d e1
    split at h
    · rename_i r e2
      exact ⟨d,r,e1,e2,(Option.some.inj h).symm⟩
    · cases h
  · cases h
theorem sa_nil:SemA K [] tNil dNil:=fun f q k=>by cases q; exact k _ _ (Same.refl _) .nil
theorem sa_own {ms:List Bool} {tr:TA} {es:Rho→Option (List D)} (ha:SemI K ta a) (hr:SemA K ms tr es):SemA K (true::ms) (tCons ta tr) (dCons a es):=fun {B Z os ρ σ H Q ds} f q k=>by
  obtain ⟨d,r,e1,e2,rfl⟩:=dCons_some q
  exact ha f e1 fun v H1 s1 i1=>hr (f.grow s1) e2 fun vs H2 s2 i2=>k _ _ (s1.trans s2) (.own (i1.same s2) i2)
theorem sa_any {ms:List Bool} {tr:TA} {es:Rho→Option (List D)} (ha:SemB K ta a) (hr:SemA K ms tr es):SemA K (false::ms) (tCons ta tr) (dCons a es):=fun {B Z os ρ σ H Q ds} f q k=>by
  obtain ⟨d,r,e1,e2,rfl⟩:=dCons_some q
  exact ha f e1 fun v H1 s1 i1=>hr (f.grow s1) e2 fun vs H2 s2 i2=>k _ _ (s1.trans s2) (.any (i1.same s2) i2)
theorem kp_new {T:Addr→Prop} {H:Hp} {p:Addr} {o:HO} (hp:H p=none):Kp T H (fun a=>a=p∨T a) (upd H p o):=fun a u e z=>by
  have hne:a≠p:=ne_of_none e hp
  exact ⟨by rw [upd_ne hne]; exact e,fun q=>q.elim hne z⟩
theorem sf_lst {n:Nat} {t:TA} {es:Rho→Option (List D)} (h:SemA K (List.replicate n true) t es) (hn:n≤sizeLine):SemF K (tLst t) es:=fun {B Z os ρ σ H Q ds} f q k=>by
  refine h f q fun vs H1 s1 a=>?_
  have hl:vs.length≤sizeLine:=by have:=a.len.1; rw [List.length_replicate] at this; omega
  exact ⟨hl,fun p hp=>k p vs _ (s1.trans (same_new hp)) (Same.free s1 hp) upd_same hl (a.lown.kp (kp_new hp))⟩
noncomputable def dTup (es:Rho→Option (List D)):DE:=fun ρ=>(es ρ).map D.tup
theorem si_tup {n:Nat} {t:TA} {es:Rho→Option (List D)} (h:SemA K (List.replicate n true) t es) (hn:n≤sizeLine):SemI K (tTup t) (dTup es):=fun {B Z os ρ σ H Q d} f q k=>by
  unfold dTup at q
  cases q1:es ρ with
  | none=>rw [q1] at q; cases q
  | some ds =>
    rw [q1] at q
    cases q
    refine h f q1 fun vs H1 s1 a=>?_
    have hl:vs.length≤sizeLine:=by have:=a.len.1; rw [List.length_replicate] at this; omega
    exact ⟨hl,fun p hp=>k _ _ (s1.trans (same_new hp)) (.tup ((f.grow s1).out hp) upd_same hl ((a.lown.kp (kp_new hp)).kp (Kp.less fun a z=>.inr z)))⟩
noncomputable def dLst (es:Rho→Option (List D)):DE:=fun ρ=>(es ρ).map D.lst
theorem SemF.l {t:TE} {e:Rho→Option (List D)} (h:SemF K t e):SemI K t (dLst e):=h.i
def ixD:D→Int→Option D
  | .lst ds,i=>atI ds i
  | .tup ds,i=>atI ds i
  | .scr ns,i=>(atI ns i).map D.int
  | .str z,i=>if z.length≤sizeLine then (atI z.cps.toList i).map fun c=>.str ⟨#[c]⟩ else none
  | _,_=>none
theorem atI_is {H:Hp} {Z:Addr→Prop} {vs:List V} {ds:List D} {i:Int} {d:D} (r:IsL K H Z vs ds) (h:atI ds i=some d):∃ v,atI vs i=some v∧Is K H Z v d:=by
  unfold atI at h ⊢
  rw [r.length]
  cases e:ixN ds.length i with
  | none=>rw [e] at h; cases h
  | some j =>
    rw [e] at h
    obtain ⟨v,e1,i1⟩:=r.get (i:=j) (show ds[j]?=some d from h)
    exact ⟨v,e1,i1⟩
theorem atI_mapI {ns:List Int} {i:Int} {n:Int} (h:atI ns i=some n):atI (ns.map V.int) i=some (.int n):=by
  unfold atI at h ⊢
  rw [List.length_map]
  cases e:ixN ns.length i with
  | none=>rw [e] at h; cases h
  | some j =>
    rw [e] at h
    have h':ns[j]?=some n:=h
    show (ns.map V.int)[j]?=some (.int n)
    rw [List.getElem?_map,h']
    rfl
theorem ix_is {H:Hp} {Z:Addr→Prop} {v:V} {d e:D} {i:Int} {Q:VK} (h:Is K H Z v d) (q:ixD d i=some e) (k:∀ u,Is K H Z u e→Q u H):rIx K v (.int i) H Q:=by
  cases h with
  | lst hz h hl r =>
    obtain ⟨u,e1,i1⟩:=atI_is r (show atI _ i=some e from q)
    exact .inl ⟨_,_,i,u,rfl,rfl,.inl h,e1,k u i1⟩
  | tup hz h hl r =>
    obtain ⟨u,e1,i1⟩:=atI_is r (show atI _ i=some e from q)
    exact .inr (.inl ⟨_,_,i,u,rfl,rfl,.inl (.inl h),e1,k u i1⟩)
  | str z =>
    have q:(if z.length≤sizeLine then (atI z.cps.toList i).map fun c=>D.str ⟨#[c]⟩ else none)=some e:=q
    by_cases c:z.length≤sizeLine
    · rw [if_pos c] at q
      cases e2:atI z.cps.toList i with
      | none=>rw [e2] at q; cases q
      | some cp =>
        rw [e2] at q
        cases q
        exact .inr (.inr ⟨z,i,cp,rfl,rfl,c,e2,k _ (.str _)⟩)
    · rw [if_neg c] at q; cases q
  | @scr p ns hz h hl =>
    have q:(atI ns i).map D.int=some e:=q
    cases e2:atI ns i with
    | none=>rw [e2] at q; cases q
    | some n=>rw [e2] at q; cases q; exact .inl ⟨_,_,i,_,rfl,rfl,.inl h,atI_mapI e2,k _ (.int n)⟩
  | @scrK p ns h hl =>
    have q:(atI ns i).map D.int=some e:=q
    cases e2:atI ns i with
    | none=>rw [e2] at q; cases q
    | some n=>rw [e2] at q; cases q; exact .inl ⟨_,_,i,_,rfl,rfl,.inr h,atI_mapI e2,k _ (.int n)⟩
  | _=>cases q
noncomputable def dIx (a b:DE):DE:=fun ρ=>match a ρ with
  | some d=>(match b ρ with
    | some (.int i)=>ixD d i
    | _=>none)
  | none=>none
theorem dIx_some {ρ:Rho} {d:D} (h:dIx a b ρ=some d):∃ e i,a ρ=some e∧b ρ=some (.int i)∧ixD e i=some d:=by
  unfold dIx at h
  split at h
  · rename_i e e1
    split at h
    · rename_i i e2
      exact ⟨e,i,e1,e2,h⟩
    · cases h
  · cases h
theorem sb_ix (ha:SemB K ta a) (hb:SemB K tb b):SemB K (tOp (rIx K) ta tb) (dIx a b):=fun {B Z os ρ σ H Q d} f q k=>by
  obtain ⟨e,i,e1,e2,e3⟩:=dIx_some q
  refine ha f e1 fun v H1 s1 i1=>hb (f.grow s1) e2 fun u H2 s2 i2=>?_
  rw [i2.isInt]
  exact ix_is (i1.same s2) e3 fun w i3=>k _ _ (s1.trans s2) i3
theorem si_ix (ha:SemI K ta a) (hb:SemB K tb b):SemI K (tOp (rIx K) ta tb) (dIx a b):=fun {B Z os ρ σ H Q d} f q k=>by
  obtain ⟨e,i,e1,e2,e3⟩:=dIx_some q
  refine ha f e1 fun v H1 s1 i1=>hb (f.grow s1) e2 fun u H2 s2 i2=>?_
  rw [i2.isInt]
  exact ix_is (i1.same s2) e3 fun w i3=>k _ _ (s1.trans s2) i3
def D.v:D→V
  | .bl b=>.bl b
  | .int i=>.int i
  | .str x=>.str x
  | .ty n=>.ty n
  | _=>.non
theorem D.v_is {H:Hp} {Z:Addr→Prop} {d:D} (h:d.scal=true):Is K H Z d.v d:=by
  cases d with
  | non=>exact .non
  | bl b=>exact .bl b
  | int b=>exact .int b
  | str b=>exact .str b
  | ty b=>exact .ty b
  | _=>cases h
noncomputable def dF1 (g:D→Option D) (a:DE):DE:=fun ρ=>match a ρ with
  | some d=>g d
  | none=>none
theorem si_f1 {r:List V→Hp→VK→Prop} {g:D→Option D} (hg:∀ {H v d e} {Q:VK},Is K H No v d→g d=some e→e.scal=true∧(Q e.v H→r [v] H Q)) (ha:SemB K ta a):SemI K (tCB r (tCons ta tNil)) (dF1 g a):=fun {B Z os ρ σ H Q d} f q k=>by
  unfold dF1 at q
  split at q
  · rename_i e e1
    refine ha f e1 fun v H1 s1 i1=>?_
    obtain ⟨hs,hr⟩:=hg (Q:=Q) i1 q
    exact hr (k _ _ s1 (D.v_is hs))
  · cases q
def lenD:D→Option D
  | .lst ds=>some (.int ds.length)
  | .tup ds=>some (.int ds.length)
  | .scr ns=>some (.int ns.length)
  | .str y=>if y.length≤sizeLine then some (.int y.length) else none
  | _=>none
theorem len_is {H:Hp} {v:V} {d e:D} {Q:VK} (h:Is K H No v d) (q:lenD d=some e):e.scal=true∧(Q e.v H→∃ x n,[v]=[x]∧LenV K x H n∧Q (.int n) H):=by
  cases h with
  | lst hz h hl r=>cases q; exact ⟨rfl,fun k=>⟨_,_,rfl,.inl ⟨_,.inl h,rfl⟩,by rw [r.length]; exact k⟩⟩
  | tup hz h hl r=>cases q; exact ⟨rfl,fun k=>⟨_,_,rfl,.inr ⟨_,.inl (.inl h),rfl⟩,by rw [r.length]; exact k⟩⟩
  | str z =>
    have q:(if z.length≤sizeLine then some (D.int z.length) else none)=some e:=q
    by_cases c:z.length≤sizeLine
    · rw [if_pos c] at q; cases q; exact ⟨rfl,fun k=>⟨_,_,rfl,⟨c,rfl⟩,k⟩⟩
    · rw [if_neg c] at q; cases q
  | scr hz h hl=>cases q; exact ⟨rfl,fun k=>⟨_,_,rfl,.inl ⟨_,.inl h,rfl⟩,by rw [List.length_map]; exact k⟩⟩
  | scrK h hl=>cases q; exact ⟨rfl,fun k=>⟨_,_,rfl,.inl ⟨_,.inr h,rfl⟩,by rw [List.length_map]; exact k⟩⟩
  | _=>cases q
theorem si_len (ha:SemB K ta a):SemI K (tCB (fun xs H Q=>∃ x n,xs=[x]∧LenV K x H n∧Q (.int n) H) (tCons ta tNil)) (dF1 lenD a):=si_f1 (fun h q=>len_is h q) ha
def asInts:List D→Option (List Int)
  | []=>some []
  | .int i::r=>(asInts r).map (i::·)
  | _=>none
theorem asInts_map:∀ (ns:List Int),asInts (ns.map D.int)=some ns
  | []=>rfl
  | n::ns=>by show (asInts (ns.map D.int)).map (n::·)=_; rw [asInts_map ns]; rfl
theorem asInts_some:∀ {ds:List D} {ns:List Int},asInts ds=some ns→ds=ns.map D.int
  | [],ns,h=>by cases h; rfl
  | .int i::r,ns,h=>by
    have h:(asInts r).map (i::·)=some ns:=h
    cases e:asInts r with
    | none=>rw [e] at h; cases h
    | some ms=>rw [e] at h; cases h; rw [asInts_some e]; rfl
  | .non::_,_,h=>by cases h
  | .bl _::_,_,h=>by cases h
  | .str _::_,_,h=>by cases h
  | .ty _::_,_,h=>by cases h
  | .lst _::_,_,h=>by cases h
  | .tup _::_,_,h=>by cases h
  | .ins _::_,_,h=>by cases h
  | .dct _::_,_,h=>by cases h
  | .scr _::_,_,h=>by cases h
def ofInts (g:List Int→Option D):D→Option D
  | .lst ds=>(asInts ds).bind g
  | _=>none
noncomputable def dMax2:DE→DE→DE:=dII fun i j=>some (.int (if j > i then j else i))
theorem si_max2 (ha:SemB K ta a) (hb:SemB K tb b):SemI K (tCB (fun xs H Q=>∃ i j,xs=[.int i,.int j]∧Q (.int (if j > i then j else i)) H) (tCons ta (tCons tb tNil))) (dMax2 a b):=fun {B Z os ρ σ H Q d} f q k=>by
  obtain ⟨i,j,e1,e2,e3⟩:=dII_some q
  cases e3
  refine ha f e1 fun v H1 s1 i1=>hb (f.grow s1) e2 fun u H2 s2 i2=>⟨i,j,by rw [i1.isInt,i2.isInt],k _ _ (s1.trans s2) (.int _)⟩
def D.tyn:D→String
  | .non => "NoneType"
  | .bl _ => "bool"
  | .int _ => "int"
  | .str _ => "str"
  | .lst _ => "list"
  | .tup _ => "tuple"
  | .ty _ => "type"
  | .ins _ => "object"
  | .dct _ => "object"
  | .scr _ => "script"
def isiT:String→String→Option Bool
  | "int", "int" => some true
  | "int", "bool" => some false
  | "int", "list" => some false
  | "int", "tuple" => some false
  | "int", "str" => some false
  | "bool", "int" => some true
  | "bool", "bool" => some true
  | "bool", "list" => some false
  | "bool", "tuple" => some false
  | "list", "list" => some true
  | "list", "tuple" => some false
  | "list", "int" => some false
  | "list", "str" => some false
  | "tuple", "tuple" => some true
  | "tuple", "list" => some false
  | "tuple", "int" => some false
  | "str", "str" => some true
  | "str", "list" => some false
  | "str", "int" => some false
  | "NoneType", "int" => some false
  | "NoneType", "list" => some false
  | "NoneType", "tuple" => some false
  | _,_=>none
noncomputable def dIsi (n:String) (a:DE):DE:=fun ρ=>match a ρ with
  | some d=>(isiT d.tyn n).map D.bl
  | none=>none
theorem isiT_kit {x n:String} {b:Bool} (h:isiT x n=some b):PySem.W.kitOne K (.type x) (.type n)=some b:=by
  unfold isiT at h
  split at h <;> first | (cases h; rfl) | (cases h; with_unfolding_all rfl) | cases h
theorem tyOf_is {H:Hp} {v:V} {d:D} {n:String} {b:Bool} (h:Is K H No v d) (e:isiT d.tyn n=some b):TyOf K H v (.type d.tyn):=by
  cases h with
  | non=>exact .non
  | bl b=>exact .bl b
  | int b=>exact .int b
  | str b=>exact .str b
  | ty n=>unfold isiT at e; simp [D.tyn] at e
  | lst hz h hl r=>rcases h with h | ⟨o,h⟩; exact .lst h; exact .frz h
  | tup hz h hl r=>exact .tup h
  | ins _ _=>unfold isiT at e; simp [D.tyn] at e
  | dct _ _ _=>unfold isiT at e; simp [D.tyn] at e
  | scr _ _ _=>unfold isiT at e; simp [D.tyn] at e
  | scrK _ _=>unfold isiT at e; simp [D.tyn] at e
theorem si_isi {n:String} (ha:SemB K ta a):SemI K (tCB (fun xs H Q=>∃ x n t b,xs=[x,.ty n]∧TyOf K H x t∧PySem.W.kitOne K t (.type n)=some b∧Q (.bl b) H) (tCons ta (tCons (tC (.ty n)) tNil))) (dIsi n a):=fun {B Z os ρ σ H Q d} f q k=>by
  unfold dIsi at q
  split at q
  · rename_i e e1
    cases q1:isiT e.tyn n with
    | none=>rw [q1] at q; cases q
    | some b =>
      rw [q1] at q
      cases q
      exact ha f e1 fun v H1 s1 i1=>⟨v,n,_,b,rfl,tyOf_is i1 q1,isiT_kit q1,k _ _ s1 (.bl b)⟩
  · cases q
def cutL {α:Type} (xs:List α) (lo hi:Option Int):List α:=(xs.drop (HT.sIx xs.length 0 lo)).take (HT.sIx xs.length xs.length hi-HT.sIx xs.length 0 lo)
theorem cut_is {H:Hp} {Z:Addr→Prop} {vs:List V} {ds:List D} {lo hi:Option Int} (r:IsL K H Z vs ds):IsL K H Z (cutV vs lo hi) (cutL ds lo hi):=by
  unfold cutV cutL
  rw [r.length]
  exact (r.drop _).take _
def SemO (K:PySem.W.Frag) (t:TO) (e:Rho→Option (Option Int)):Prop:=∀ {B:Hp} {Z:Addr→Prop} {os:Own} {ρ:Rho} {σ:L2.St} {H:Hp} {Q:Option Int→Hp→Prop} {o:Option Int},Fr K B Z os ρ σ H→e ρ=some o→(∀ H',Same H H'→Q o H')→t σ H Q
noncomputable def oNone:Rho→Option (Option Int):=fun _=>some none
noncomputable def oSome (a:DE):Rho→Option (Option Int):=fun ρ=>match a ρ with
  | some (.int i)=>some (some i)
  | _=>none
theorem so_none:SemO K tNoPart oNone:=fun f q k=>by cases q; exact k _ (Same.refl _)
theorem so_some (ha:SemB K ta a):SemO K (tPart ta) (oSome a):=fun {B Z os ρ σ H Q o} f q k=>by
  unfold oSome at q
  split at q
  · rename_i i e
    cases q
    exact ha f e fun v H1 s1 i1=>⟨i,i1.isInt,k _ s1⟩
  · cases q
def asL (a:DE):Rho→Option (List D):=fun ρ=>match a ρ with
  | some d=>lof d
  | none=>none
theorem asL_some {a:DE} {ρ:Rho} {ds:List D} (h:asL a ρ=some ds):∃ d,a ρ=some d∧lof d=some ds:=by
  unfold asL at h
  split at h
  · exact ⟨_,by assumption,h⟩
  · cases h
noncomputable def dSl (a:DE) (lo hi:Rho→Option (Option Int)):Rho→Option (List D):=fun ρ=>match asL a ρ with
  | some ds=>(match lo ρ with
    | some l=>(match hi ρ with
      | some h=>some (cutL ds l h)
      | none=>none)
    | none=>none)
  | _=>none
theorem dSl_some {lo hi:Rho→Option (Option Int)} {ρ:Rho} {ds:List D} (h:dSl a lo hi ρ=some ds):∃ es l u,asL a ρ=some es∧lo ρ=some l∧hi ρ=some u∧ds=cutL es l u:=by
  unfold dSl at h
  split at h
  · rename_i es e1
    split at h
    · rename_i l e2
      split at h
      · rename_i u e3
        exact ⟨es,l,u,e1,e2,e3,(Option.some.inj h).symm⟩
      · cases h
    · cases h
  · cases h
theorem Is.isLst {H:Hp} {Z:Addr→Prop} {v:V} {ds:List D} (h:Is K H Z v (.lst ds)):∃ p vs,v=.ref p∧¬ Z p∧Rd H p (.lst vs)∧vs.length≤sizeLine∧IsL K H Z vs ds:=by
  cases h with
  | lst hz h hl r=>exact ⟨_,_,rfl,hz,h,hl,r⟩
theorem Is.isTup {H:Hp} {Z:Addr→Prop} {v:V} {ds:List D} (h:Is K H Z v (.tup ds)):∃ p vs,v=.ref p∧¬ Z p∧H p=some (.tup vs)∧vs.length≤sizeLine∧IsL K H Z vs ds:=by
  cases h with
  | tup hz h hl r=>exact ⟨_,_,rfl,hz,h,hl,r⟩
theorem sf_sl {tl th:TO} {lo hi:Rho→Option (Option Int)} (ha:SemI K ta a) (hl:SemO K tl lo) (hh:SemO K th hi):SemF K (tSl (rSlL K) ta tl th) (dSl a lo hi):=fun {B Z os ρ σ H Q ds} f q k=>by
  obtain ⟨es,l,u,e1,e2,e3,rfl⟩:=dSl_some q
  obtain ⟨d,e1,ed⟩:=asL_some e1
  refine ha f e1 fun v H1 s1 i1=>hl (f.grow s1) e2 fun H2 s2=>hh (f.grow (s1.trans s2)) e3 fun H3 s3=>?_
  obtain ⟨p,vs,rfl,hn,_,hr⟩:=i1.seq ed
  obtain ⟨hr,r⟩:=hr H3 _ (Kp.same (s2.trans s3))
  have s13:=(s1.trans s2).trans s3
  exact ⟨p,vs,rfl,hr,fun n hn'=>k n _ _ (s13.trans (same_new hn')) (Same.free s13 hn') upd_same (Nat.le_trans (cutV_length _ _ _) hn) ((cut_is r).kp (kp_new hn'))⟩
def flatL (ds:List D):Bool:=ds.all D.scal
theorem IsL.flat {H H':Hp} {Z Z':Addr→Prop}:∀ {vs:List V} {ds:List D},IsL K H Z vs ds→flatL ds=true→IsL K H' Z' vs ds
  | _,_,.nil,_=>.nil
  | _,_,.cons h r,e=>by
    have e:=(Bool.and_eq_true _ _).mp (show (D.scal _&&flatL _)=true from e)
    exact .cons (h.scal e.1) (r.flat e.2)
noncomputable def gFlat (e:Rho→Option (List D)):Rho→Option (List D):=fun ρ=>match e ρ with
  | some ds=>if flatL ds=true then some ds else none
  | none=>none
theorem gFlat_some {e:Rho→Option (List D)} {ρ:Rho} {ds:List D} (h:gFlat e ρ=some ds):e ρ=some ds∧flatL ds=true:=by
  unfold gFlat at h
  split at h
  · rename_i es e1
    by_cases c:flatL es=true
    · rw [if_pos c] at h; cases h; exact ⟨e1,c⟩
    · rw [if_neg c] at h; cases h
  · cases h
theorem sf_slB {tl th:TO} {lo hi:Rho→Option (Option Int)} (ha:SemB K ta a) (hl:SemO K tl lo) (hh:SemO K th hi):SemF K (tSl (rSlL K) ta tl th) (gFlat (dSl a lo hi)):=fun {B Z os ρ σ H Q ds} f q k=>by
  obtain ⟨q,hf⟩:=gFlat_some q
  obtain ⟨es,l,u,e1,e2,e3,rfl⟩:=dSl_some q
  obtain ⟨d,e1,ed⟩:=asL_some e1
  refine ha f e1 fun v H1 s1 i1=>hl (f.grow s1) e2 fun H2 s2=>hh (f.grow (s1.trans s2)) e3 fun H3 s3=>?_
  obtain ⟨p,vs,rfl,hn,_,hr⟩:=i1.seq ed
  obtain ⟨hr,r⟩:=hr H3 _ (Kp.same (s2.trans s3))
  have s13:=(s1.trans s2).trans s3
  exact ⟨p,vs,rfl,hr,fun n hn'=>k n _ _ (s13.trans (same_new hn')) (Same.free s13 hn') upd_same (Nat.le_trans (cutV_length _ _ _) hn) ((cut_is r).flat hf)⟩
noncomputable def dLof (a:DE):Rho→Option (List D):=fun ρ=>match a ρ with
  | some (.tup ds)=>some ds
  | some d=>lof d
  | _=>none
theorem dLof_some {ρ:Rho} {ds:List D} (h:dLof a ρ=some ds):a ρ=some (.tup ds)∨∃ d,a ρ=some d∧lof d=some ds:=by
  unfold dLof at h
  split at h
  · rename_i es e; cases h; exact .inl e
  · rename_i d _ e; exact .inr ⟨d,e,h⟩
  · cases h
theorem sf_list (ha:SemI K ta a):SemF K (tCB (fun xs H Q=>∃ p ys,xs=[.ref p]∧(SqL K H p ys∨SqT K H p ys)∧∀ l,H l=none→Q (.ref l) (upd H l (.lst ys))) (tCons ta tNil)) (dLof a):=fun {B Z os ρ σ H Q ds} f q k=>by
  rcases dLof_some q with e1 | ⟨d,e1,ed⟩
  · refine ha f e1 fun v H1 s1 i1=>?_
    obtain ⟨p,vs,rfl,hz,hr,hn,r⟩:=i1.isTup
    exact ⟨p,vs,rfl,.inr (.inl (.inl hr)),fun n hn'=>k n _ _ (s1.trans (same_new hn')) (Same.free s1 hn') upd_same hn (r.kp (kp_new hn'))⟩
  · refine ha f e1 fun v H1 s1 i1=>?_
    obtain ⟨p,vs,rfl,hn,_,hr⟩:=i1.seq ed
    obtain ⟨hr,r⟩:=hr H1 _ Kp.refl
    exact ⟨p,vs,rfl,.inl hr,fun n hn'=>k n _ _ (s1.trans (same_new hn')) (Same.free s1 hn') upd_same hn (r.kp (kp_new hn'))⟩
noncomputable def dCat (a b:DE):Rho→Option (List D):=fun ρ=>match a ρ with
  | some (.lst ds)=>(match b ρ with
    | some (.lst es)=>if ds.length+es.length≤sizeLine then some (ds++es) else none
    | _=>none)
  | _=>none
theorem dCat_some {ρ:Rho} {ds:List D} (h:dCat a b ρ=some ds):∃ xs ys,a ρ=some (.lst xs)∧b ρ=some (.lst ys)∧xs.length+ys.length≤sizeLine∧ds=xs++ys:=by
  unfold dCat at h
  split at h
  · rename_i xs e1
    split at h
    · rename_i ys e2
      by_cases c:xs.length+ys.length≤sizeLine
      · rw [if_pos c] at h; exact ⟨xs,ys,e1,e2,c,(Option.some.inj h).symm⟩
      · rw [if_neg c] at h; cases h
    · cases h
  · cases h
theorem sf_cat (ha:SemI K ta a) (hb:SemI K tb b):SemF K (tOp rCatR ta tb) (dCat a b):=fun {B Z os ρ σ H Q ds} f q k=>by
  obtain ⟨xs,ys,e1,e2,hc,rfl⟩:=dCat_some q
  refine ha f e1 fun v H1 s1 i1=>hb (f.grow s1) e2 fun u H2 s2 i2=>?_
  obtain ⟨p,vs,rfl,hz,hr,hn,r⟩:=(i1.same s2).isLst
  obtain ⟨p2,us,rfl,hz2,hr2,hn2,r2⟩:=i2.isLst
  have hl:vs.length+us.length≤sizeLine:=by rw [r.length,r2.length]; exact hc
  have s12:=s1.trans s2
  exact ⟨p,p2,vs,us,rfl,rfl,hr,hr2,hl,fun n hn'=>k n _ _ (s12.trans (same_new hn')) (Same.free s12 hn') upd_same (by rw [List.length_append]; exact hl) ((r.append r2).kp (kp_new hn'))⟩
noncomputable def dRep (a:Rho→Option (List D)) (b:DE):Rho→Option (List D):=fun ρ=>match a ρ with
  | some ds=>(match b ρ with
    | some (.int n)=>if -(2 ^ 63)≤n∧n<2 ^ 63∧ds.length*n.toNat≤sizeLine then some (List.replicate n.toNat ds).flatten else none
    | _=>none)
  | none=>none
theorem IsL.rep {H:Hp} {Z:Addr→Prop} {vs:List V} {ds:List D} (r:IsL K H Z vs ds):∀ n,IsL K H Z (List.replicate n vs).flatten (List.replicate n ds).flatten
  | 0=>.nil
  | n+1=>by rw [List.replicate_succ,List.flatten_cons,List.replicate_succ,List.flatten_cons]; exact r.append (r.rep n)
theorem sf_rep {a:Rho→Option (List D)} (ha:SemF K ta a) (hb:SemB K tb b):SemF K (tOp rRep ta tb) (dRep a b):=fun {B Z os ρ σ H Q ds} f q k=>by
  unfold dRep at q
  split at q
  · rename_i es e1
    split at q
    · rename_i n e2
      by_cases c:-(2 ^ 63)≤n∧n<2 ^ 63∧es.length*n.toNat≤sizeLine
      · rw [if_pos c] at q
        cases q
        refine ha f e1 fun p vs H1 s1 hp hp' hl i1=>hb (f.grow s1) e2 fun u H2 s2 i2=>?_
        rw [i2.isInt]
        have i1':=(i1.same s2).kp (Kp.less (Z':=tot Z os) fun a z=>.inr z)
        have hlen:vs.length*n.toNat≤sizeLine:=by rw [i1.length]; exact c.2.2
        have s12:=s1.trans s2
        refine ⟨p,n,vs,rfl,rfl,s2 _ _ hp',c.1,c.2.1,hlen,fun x hx=>k x _ _ (s12.trans (same_new hx)) (Same.free s12 hx) upd_same ?_ ((i1'.rep _).kp (kp_new hx))⟩
        rw [len_rep,Nat.mul_comm]; exact hlen
      · rw [if_neg c] at q; cases q
    · cases q
  · cases q
def inS:D→List D→Option Bool
  | .int i,ds=>(asInts ds).map fun ns=>decide (i∈ns)
  | _,_=>none
theorem inV_ints' (k:Int) (hs:List Int):inV (.int k) (hs.map V.int)=decide (k∈hs):=by
  unfold inV
  rw [List.any_map,Bool.eq_iff_iff,List.any_eq_true,decide_eq_true_iff]
  constructor
  · rintro ⟨x,hx,e⟩
    have e':(x==k)=true:=e
    rw [← beq_iff_eq.mp e']
    exact hx
  · intro h
    exact ⟨k,h,show (k==k)=true from beq_self_eq_true k⟩
theorem flat_ints' (hs:List Int):(hs.map V.int).all flatV=true:=by
  rw [List.all_map,List.all_eq_true]
  intro x _
  rfl
noncomputable def dIn (neg:Bool) (a b:DE):DE:=fun ρ=>match a ρ with
  | some d=>(match b ρ with
    | some (.lst ds)=>(inS d ds).map fun c=>.bl (if neg then !c else c)
    | some (.tup ds)=>(inS d ds).map fun c=>.bl (if neg then !c else c)
    | _=>none)
  | none=>none
theorem inS_is {H:Hp} {Z:Addr→Prop} {v:V} {d:D} {vs:List V} {ds:List D} {c:Bool} (i:Is K H Z v d) (r:IsL K H Z vs ds) (h:inS d ds=some c):flatV v=true∧vs.all flatV=true∧inV v vs=c:=by
  cases i with
  | int i =>
    have h:(asInts ds).map (fun ns=>decide (i∈ns))=some c:=h
    cases e:asInts ds with
    | none=>rw [e] at h; cases h
    | some ns =>
      rw [e] at h
      cases h
      have e2:=asInts_some e
      subst e2
      rw [r.ints]
      exact ⟨rfl,flat_ints' ns,inV_ints' i ns⟩
  | _=>cases h
theorem si_in {neg:Bool} (ha:SemB K ta a) (hb:SemB K tb b):SemI K (tOp (rIn K neg) ta tb) (dIn neg a b):=fun {B Z os ρ σ H Q d} f q k=>by
  unfold dIn at q
  split at q
  · rename_i e e1
    split at q
    · rename_i ds e2
      cases q1:inS e ds with
      | none=>rw [q1] at q; cases q
      | some c =>
        rw [q1] at q
        cases q
        refine ha f e1 fun v H1 s1 i1=>hb (f.grow s1) e2 fun u H2 s2 i2=>?_
        obtain ⟨p,vs,rfl,hz,hr,hn,r⟩:=i2.isLst
        obtain ⟨h1,h2,h3⟩:=inS_is (i1.same s2) r q1
        exact ⟨p,vs,rfl,.inl (.inl hr),h1,h2,by rw [h3]; exact k _ _ (s1.trans s2) (.bl _)⟩
    · rename_i ds e2
      cases q1:inS e ds with
      | none=>rw [q1] at q; cases q
      | some c =>
        rw [q1] at q
        cases q
        refine ha f e1 fun v H1 s1 i1=>hb (f.grow s1) e2 fun u H2 s2 i2=>?_
        obtain ⟨p,vs,rfl,hz,hr,hn,r⟩:=i2.isTup
        obtain ⟨h1,h2,h3⟩:=inS_is (i1.same s2) r q1
        exact ⟨p,vs,rfl,.inr (.inl (.inl hr)),h1,h2,by rw [h3]; exact k _ _ (s1.trans s2) (.bl _)⟩
    · cases q
  · cases q
end
end
end VL
namespace VL
open PySem L2
open Classical
noncomputable section
instance:Inhabited D:=⟨.non⟩
theorem rd_lst {H:Hp} {a:Addr} {xs ys:List V} (h:Rd H a (.lst xs)) (h':Rd H a (.lst ys)):xs=ys:=by
  rcases h with h | ⟨o,h⟩ <;> rcases h' with h' | ⟨o',h'⟩ <;> rw [h] at h' <;> cases h' <;> rfl
def cmpb:Nat→D→D→Bool
  | _,.int _,.int _=>true
  | _,.bl _,.bl _=>true
  | _,.str _,.str _=>true
  | _,.non,.non=>true
  | n+1,.lst xs,.lst ys=>decide (xs.length≠ys.length) || (List.zip xs ys).all fun p=>cmpb n p.1 p.2
  | n+1,.tup xs,.tup ys=>decide (xs.length=ys.length)&&(List.zip xs ys).all fun p=>cmpb n p.1 p.2
  | _,_,_=>false
theorem zip_at {xs ys:List D} {j:Nat} {a b:D} {p:D×D→Bool} (h:(List.zip xs ys).all p=true) (e1:xs[j]?=some a) (e2:ys[j]?=some b):p (a,b)=true :=
  List.all_eq_true.mp h _ (List.mem_of_getElem? (i:=j) (List.getElem?_zip_eq_some.mpr ⟨e1,e2⟩))
inductive Cm:Nat→D→D→Prop
  | int {n:Nat} (a b:Int):Cm n (.int a) (.int b)
  | bl {n:Nat} (a b:Bool):Cm n (.bl a) (.bl b)
  | str {n:Nat} (a b:Str):Cm n (.str a) (.str b)
  | non {n:Nat}:Cm n .non .non
  | lst {n:Nat} {xs ys:List D} (h:xs.length=ys.length→(List.zip xs ys).all (fun p=>cmpb n p.1 p.2)=true):Cm (n+1) (.lst xs) (.lst ys)
  | tup {n:Nat} {xs ys:List D} (hl:xs.length=ys.length) (h:(List.zip xs ys).all (fun p=>cmpb n p.1 p.2)=true):Cm (n+1) (.tup xs) (.tup ys)
theorem cmpb_inv {n:Nat} {d e:D} (hc:cmpb n d e=true):Cm n d e:=by
  unfold cmpb at hc
  split at hc
  · exact .int _ _
  · exact .bl _ _
  · exact .str _ _
  · exact .non
  · exact .lst fun hl=>by simpa [hl] using hc
  · rw [Bool.and_eq_true] at hc; exact .tup (of_decide_eq_true hc.1) hc.2
  · cases hc
theorem Is.v_int {H:Hp} {Z:Addr→Prop} {v:V} {a:Int} (i:Is K H Z v (.int a)):v=.int a:=by cases i; rfl
theorem Is.v_bl {H:Hp} {Z:Addr→Prop} {v:V} {a:Bool} (i:Is K H Z v (.bl a)):v=.bl a:=by cases i; rfl
theorem Is.v_str {H:Hp} {Z:Addr→Prop} {v:V} {a:Str} (i:Is K H Z v (.str a)):v=.str a:=by cases i; rfl
theorem Is.v_non {H:Hp} {Z:Addr→Prop} {v:V} (i:Is K H Z v .non):v=.non:=by cases i; rfl
theorem Is.v_lst {H:Hp} {Z:Addr→Prop} {v:V} {ds:List D} (i:Is K H Z v (.lst ds)):∃ a vs,v=.ref a∧¬ Z a∧Rd H a (.lst vs)∧vs.length≤sizeLine∧IsL K H Z vs ds:=by
  cases i with | lst hz h hl r=>exact ⟨_,_,rfl,hz,h,hl,r⟩
theorem Is.v_tup {H:Hp} {Z:Addr→Prop} {v:V} {ds:List D} (i:Is K H Z v (.tup ds)):∃ a vs,v=.ref a∧¬ Z a∧H a=some (.tup vs)∧vs.length≤sizeLine∧IsL K H Z vs ds:=by
  cases i with | tup hz h hl r=>exact ⟨_,_,rfl,hz,h,hl,r⟩
theorem Is.inj {H:Hp} {Z Z':Addr→Prop}:∀ (n:Nat) {v:V} {d e:D},cmpb n d e=true→Is K H Z v d→Is K H Z' v e→d=e:=by
  intro n
  induction n using Nat.strongRecOn with | ind n ih=>?_
  have lists:∀ {m:Nat},m<n→∀ {vs:List V} {ds es:List D},(List.zip ds es).all (fun p=>cmpb m p.1 p.2)=true→IsL K H Z vs ds→IsL K H Z' vs es→ds=es:=by
    intro m hm vs ds es hc r r'
    have l1:=r.length
    have l2:=r'.length
    refine List.ext_getElem (by omega) fun k h1 h2=>?_
    obtain ⟨v,e1,i1⟩:=r.get (List.getElem?_eq_getElem h1)
    obtain ⟨v',e2,i2⟩:=r'.get (List.getElem?_eq_getElem h2)
    rw [e1] at e2
    cases e2
    exact ih m hm (zip_at hc (List.getElem?_eq_getElem h1) (List.getElem?_eq_getElem h2)) i1 i2
  intro v d e hc i j
  cases cmpb_inv hc with
  | int=>have h:=i.v_int; rw [j.v_int] at h; cases h; rfl
  | bl=>have h:=i.v_bl; rw [j.v_bl] at h; cases h; rfl
  | str=>have h:=i.v_str; rw [j.v_str] at h; cases h; rfl
  | non=>rfl
  | lst h =>
    obtain ⟨p,xs,rfl,z1,h1,l1,g1⟩:=i.v_lst
    obtain ⟨q,ys,e,z2,h2,l2,g2⟩:=j.v_lst
    cases e
    have e:=rd_lst h1 h2
    subst e
    rw [lists (Nat.lt_succ_self _) (h (by have:=g1.length; have:=g2.length; omega)) g1 g2]
  | tup hl h =>
    obtain ⟨p,xs,rfl,z1,h1,l1,g1⟩:=i.v_tup
    obtain ⟨q,ys,e,z2,h2,l2,g2⟩:=j.v_tup
    cases e
    rw [h1] at h2
    cases h2
    rw [lists (Nat.lt_succ_self _) h g1 g2]
section
variable {X:Cx} {pins:List (Addr×Obj)} {σ:L2.St} {H:Hp} {s:Shared}
theorem dec_lst (xs ys:List D):decide (D.lst xs=D.lst ys)=decide (xs=ys):=by
  rw [Bool.eq_iff_iff,decide_eq_true_iff,decide_eq_true_iff]
  exact ⟨fun h=>D.lst.inj h,fun h=>by rw [h]⟩
theorem dec_tup (xs ys:List D):decide (D.tup xs=D.tup ys)=decide (xs=ys):=by
  rw [Bool.eq_iff_iff,decide_eq_true_iff,decide_eq_true_iff]
  exact ⟨fun h=>D.tup.inj h,fun h=>by rw [h]⟩
theorem dec_int (a b:Int):decide (D.int a=D.int b)=(a==b):=by
  rw [Bool.eq_iff_iff,decide_eq_true_iff,beq_iff_eq]
  exact ⟨fun h=>D.int.inj h,fun h=>by rw [h]⟩
theorem dec_bl (a b:Bool):decide (D.bl a=D.bl b)=(a==b):=by
  rw [Bool.eq_iff_iff,decide_eq_true_iff,beq_iff_eq]
  exact ⟨fun h=>D.bl.inj h,fun h=>by rw [h]⟩
theorem dec_str (a b:Str):decide (D.str a=D.str b)=(a==b):=by
  rw [Bool.eq_iff_iff,decide_eq_true_iff,beq_iff_eq]
  exact ⟨fun h=>D.str.inj h,fun h=>by rw [h]⟩
theorem rc_tups {A:Around} {l b:Addr} {us ws:List Value} {ns ms:List D} (p1:s.heap.IsTuple l us.toArray) (p2:s.heap.IsTuple b ws.toArray) (hl:us.length=ns.length) (hl2:ws.length=ms.length) (hs:ns.length=ms.length) (hu:A.units<cLine)
    (h:∀ (j:Nat) (u v:Value) (a b:D),us[j]?=some u→ws[j]?=some v→ns[j]?=some a→ms[j]?=some b→SeqAt.EqAt A.in1 s u v (decide (a=b))) :
    SeqAt.RcAt A s (.ref l) (.ref b) (decide (ns=ms)):=by
  have q:=SeqAt.RcAt.tuples (e:=fun j=>decide (ns.getD j default=ms.getD j default)) p1 p2 hu (eqAt_items hl hl2 h)
  have e:((List.range (min us.toArray.size ws.toArray.size)).all fun j=>decide (ns.getD j default=ms.getD j default))=decide (ns=ms):=by
    rw [List.size_toArray,List.size_toArray,hl,hl2,← hs,Nat.min_self]; exact range_all_eq default hs
  have e2:(us.toArray.size==ws.toArray.size)=true:=by simp; omega
  rw [e,e2,Bool.and_true] at q
  exact q
theorem rcNe_tups {A:Around} {l b:Addr} {us ws:List Value} {ns ms:List D} (p1:s.heap.IsTuple l us.toArray) (p2:s.heap.IsTuple b ws.toArray) (hl:us.length=ns.length) (hl2:ws.length=ms.length) (hs:ns.length=ms.length) (hu:A.units<cLine)
    (h:∀ (j:Nat) (u v:Value) (a b:D),us[j]?=some u→ws[j]?=some v→ns[j]?=some a→ms[j]?=some b→SeqAt.EqAt A.in1 s u v (decide (a=b))) :
    SeqAt.RcNeAt A s (.ref l) (.ref b) (!decide (ns=ms)):=by
  have q:=SeqAt.RcNeAt.tuples (e:=fun j=>decide (ns.getD j default=ms.getD j default)) p1 p2 hu (eqAt_items hl hl2 h)
  have e:((List.range (min us.toArray.size ws.toArray.size)).all fun j=>decide (ns.getD j default=ms.getD j default))=decide (ns=ms):=by
    rw [List.size_toArray,List.size_toArray,hl,hl2,← hs,Nat.min_self]; exact range_all_eq default hs
  have e2:(us.toArray.size==ws.toArray.size)=true:=by simp; omega
  rw [e,e2,Bool.and_true] at q
  exact q
theorem in1_units {A:Around}:A.in1.units=A.units+1:=rfl
theorem items_is {n:Nat} {A:Around} {xs ys:List V} {us ws:List Value} {ds es:List D} (hc:(List.zip ds es).all (fun p=>cmpb n p.1 p.2)=true) (r1:Vals xs us) (r2:Vals ys ws) (g1:IsL K H No xs ds) (g2:IsL K H No ys es)
    (ih:∀ {v w:V} {d e:D} {u x:Value},RelV v u→RelV w x→Is K H No v d→Is K H No w e→cmpb n d e=true→SeqAt.EqAt A s u x (decide (d=e))) :
    ∀ (j:Nat) (u v:Value) (a b:D),us[j]?=some u→ws[j]?=some v→ds[j]?=some a→es[j]?=some b→SeqAt.EqAt A s u v (decide (a=b)):=by
  intro j u v a b e1 e2 e3 e4
  obtain ⟨x,f1,i1⟩:=g1.get e3
  obtain ⟨y,f2,i2⟩:=g2.get e4
  obtain ⟨u',q1,k1⟩:=r1.get f1
  obtain ⟨v',q2,k2⟩:=r2.get f2
  rw [e1] at q1; cases q1
  rw [e2] at q2; cases q2
  exact ih k1 k2 i1 i2 (zip_at hc e3 e4)
theorem eqAt_is (I:Inv X pins σ H s):∀ (n:Nat) {A:Around},A.units+n<cLine→∀ {v w:V} {d e:D} {u x:Value},RelV v u→RelV w x→Is K H No v d→Is K H No w e→cmpb n d e=true→SeqAt.EqAt A s u x (decide (d=e)):=by
  intro n
  induction n using Nat.strongRecOn with | ind n ih=>?_
  intro A hu v w d e u x r1 r2 i1 i2 hc
  have hc0:=hc
  cases cmpb_inv hc with
  | int a b=>rw [i1.v_int] at r1; rw [i2.v_int] at r2; obtain ⟨t,rfl⟩:=r1; obtain ⟨t',rfl⟩:=r2; rw [dec_int]; exact SeqAt.EqAt.int_int a t b t'
  | bl a b=>rw [i1.v_bl] at r1; rw [i2.v_bl] at r2; cases r1; cases r2; rw [dec_bl]; exact SeqAt.EqAt.bool_bool a b
  | str a b=>rw [i1.v_str] at r1; rw [i2.v_str] at r2; obtain ⟨t,rfl⟩:=r1; obtain ⟨t',rfl⟩:=r2; rw [dec_str]; exact SeqAt.EqAt.str_str a t b t'
  | non=>rw [i1.v_non] at r1; rw [i2.v_non] at r2; cases r1; cases r2; rw [decide_eq_true rfl]; exact SeqAt.EqAt.same _
  | @lst n ds es h =>
    have j1:=i1
    have j2:=i2
    obtain ⟨p,xs,rfl,z1,h1,l1,g1⟩:=i1.v_lst
    obtain ⟨q,ys,rfl,z2,h2,l2,g2⟩:=i2.v_lst
    cases r1
    cases r2
    by_cases hpq:p=q
    · subst hpq
      rw [decide_eq_true (Is.inj _ hc0 j1 j2)]
      exact SeqAt.EqAt.same _
    · obtain ⟨_,us,m1,k1,n1,o1⟩:=I.lstR h1
      obtain ⟨_,ws,m2,k2,n2,o2⟩:=I.lstR h2
      rw [dec_lst]
      have e1:=g1.length
      have e2:=g2.length
      refine SeqAt.EqAt.of_refs hpq ?_
      by_cases hl:ds.length=es.length
      · exact rcAt_lists ⟨_,o1,rfl,_,rfl⟩ ⟨_,o2,rfl,_,rfl⟩ (by omega) (by omega) (by omega) (items_is (h hl) k1 k2 g1 g2 (ih n (Nat.lt_succ_self _) (by rw [in1_units]; omega)))
      · have q:=SeqAt.RcAt.lists_lengths (A:=A) (s:=s) (items:=us.toArray) (items2:=ws.toArray) ⟨_,o1,rfl,_,rfl⟩ ⟨_,o2,rfl,_,rfl⟩ (by simp; omega) (by omega)
        have e:decide (ds=es)=false:=decide_eq_false fun z=>hl (by rw [z])
        rw [e]
        exact q
  | @tup n ds es hl h =>
    have j1:=i1
    have j2:=i2
    obtain ⟨p,xs,rfl,z1,h1,l1,g1⟩:=i1.v_tup
    obtain ⟨q,ys,rfl,z2,h2,l2,g2⟩:=i2.v_tup
    cases r1
    cases r2
    by_cases hpq:p=q
    · subst hpq
      rw [decide_eq_true (Is.inj _ hc0 j1 j2)]
      exact SeqAt.EqAt.same _
    · obtain ⟨us,k1,o1,_⟩:=I.tuple (xs:=xs) (.inl (.inl h1))
      obtain ⟨ws,k2,o2,_⟩:=I.tuple (xs:=ys) (.inl (.inl h2))
      rw [dec_tup]
      have e1:=g1.length
      have e2:=g2.length
      have n1:=k1.length
      have n2:=k2.length
      exact SeqAt.EqAt.of_refs hpq (rc_tups o1 o2 (by omega) (by omega) hl (by omega) (items_is h k1 k2 g1 g2 (ih n (Nat.lt_succ_self _) (by rw [in1_units]; omega))))
def rEqD (K:PySem.W.Frag) (neg:Bool):R2:=fun x y H Q=>∃ d e,Is K H No x d∧Is K H No y e∧cmpb 20 d e=true∧Q (.bl (if neg=true then !decide (d=e) else decide (d=e))) H
theorem op_eqD (hu:X.A.units+64<cLine):OpR X (compareOp .Eq) (rEqD K false):=by
  intro pins s σ H x y v u Q I rx ry h
  obtain ⟨d,e,i1,i2,hc,h⟩:=h
  rw [if_neg Bool.false_ne_true] at h
  cases cmpb_inv hc with
  | int a b=>obtain rfl:=i1.v_int; obtain rfl:=i2.v_int; exact op_eq pins s σ H _ _ v u Q I rx ry ⟨rfl,by rw [show decide (V.int a=V.int b)=decide (D.int a=D.int b) from decide_eq_decide.mpr ⟨fun q=>by cases q; rfl,fun q=>by cases q; rfl⟩]; exact h⟩
  | bl a b=>obtain rfl:=i1.v_bl; obtain rfl:=i2.v_bl; exact op_eq pins s σ H _ _ v u Q I rx ry ⟨rfl,by rw [show decide (V.bl a=V.bl b)=decide (D.bl a=D.bl b) from decide_eq_decide.mpr ⟨fun q=>by cases q; rfl,fun q=>by cases q; rfl⟩]; exact h⟩
  | str a b=>obtain rfl:=i1.v_str; obtain rfl:=i2.v_str; exact op_eq pins s σ H _ _ v u Q I rx ry ⟨rfl,by rw [show decide (V.str a=V.str b)=decide (D.str a=D.str b) from decide_eq_decide.mpr ⟨fun q=>by cases q; rfl,fun q=>by cases q; rfl⟩]; exact h⟩
  | non=>obtain rfl:=i1.v_non; obtain rfl:=i2.v_non; exact op_eq pins s σ H _ _ v u Q I rx ry ⟨rfl,by rw [show decide (V.non=V.non)=decide (D.non=D.non) from decide_eq_decide.mpr ⟨fun q=>rfl,fun q=>rfl⟩]; exact h⟩
  | @lst n ds es hh =>
    obtain ⟨p,xs,rfl,z1,h1,l1,g1⟩:=i1.v_lst
    obtain ⟨q,ys,rfl,z2,h2,l2,g2⟩:=i2.v_lst
    cases rx
    cases ry
    obtain ⟨_,us,m1,k1,n1,o1⟩:=I.lstR h1
    obtain ⟨_,ws,m2,k2,n2,o2⟩:=I.lstR h2
    rw [dec_lst] at h
    have e1:=g1.length
    have e2:=g2.length
    by_cases hl:ds.length=es.length
    · exact rcAt_lists ⟨_,o1,rfl,_,rfl⟩ ⟨_,o2,rfl,_,rfl⟩ (by omega) (by omega) (by omega) (items_is (hh hl) k1 k2 g1 g2 (eqAt_is I 19 (by rw [in1_units]; omega))) X.prog X.w X.xe _ ⟨.bl _,H,I,rfl,h⟩
    · have q:=SeqAt.RcAt.lists_lengths (A:=X.A) (s:=s) (items:=us.toArray) (items2:=ws.toArray) ⟨_,o1,rfl,_,rfl⟩ ⟨_,o2,rfl,_,rfl⟩ (by simp; omega) (by omega)
      have e:decide (ds=es)=false:=decide_eq_false fun z=>hl (by rw [z])
      rw [e] at h
      exact q X.prog X.w X.xe _ ⟨.bl _,H,I,rfl,h⟩
  | @tup n ds es hl hh =>
    obtain ⟨p,xs,rfl,z1,h1,l1,g1⟩:=i1.v_tup
    obtain ⟨q,ys,rfl,z2,h2,l2,g2⟩:=i2.v_tup
    cases rx
    cases ry
    obtain ⟨us,k1,o1,_⟩:=I.tuple (xs:=xs) (.inl (.inl h1))
    obtain ⟨ws,k2,o2,_⟩:=I.tuple (xs:=ys) (.inl (.inl h2))
    rw [dec_tup] at h
    have e1:=g1.length
    have e2:=g2.length
    have n1:=k1.length
    have n2:=k2.length
    exact rc_tups o1 o2 (by omega) (by omega) hl (by omega) (items_is hh k1 k2 g1 g2 (eqAt_is I 19 (by rw [in1_units]; omega))) X.prog X.w X.xe _ ⟨.bl _,H,I,rfl,h⟩
theorem op_neD (hu:X.A.units+64<cLine):OpR X (compareOp .NotEq) (rEqD K true):=by
  intro pins s σ H x y v u Q I rx ry h
  obtain ⟨d,e,i1,i2,hc,h⟩:=h
  rw [if_pos rfl] at h
  cases cmpb_inv hc with
  | int a b=>obtain rfl:=i1.v_int; obtain rfl:=i2.v_int; exact op_ne pins s σ H _ _ v u Q I rx ry ⟨rfl,by rw [show decide (V.int a=V.int b)=decide (D.int a=D.int b) from decide_eq_decide.mpr ⟨fun q=>by cases q; rfl,fun q=>by cases q; rfl⟩]; exact h⟩
  | bl a b=>obtain rfl:=i1.v_bl; obtain rfl:=i2.v_bl; exact op_ne pins s σ H _ _ v u Q I rx ry ⟨rfl,by rw [show decide (V.bl a=V.bl b)=decide (D.bl a=D.bl b) from decide_eq_decide.mpr ⟨fun q=>by cases q; rfl,fun q=>by cases q; rfl⟩]; exact h⟩
  | str a b=>obtain rfl:=i1.v_str; obtain rfl:=i2.v_str; exact op_ne pins s σ H _ _ v u Q I rx ry ⟨rfl,by rw [show decide (V.str a=V.str b)=decide (D.str a=D.str b) from decide_eq_decide.mpr ⟨fun q=>by cases q; rfl,fun q=>by cases q; rfl⟩]; exact h⟩
  | non=>obtain rfl:=i1.v_non; obtain rfl:=i2.v_non; exact op_ne pins s σ H _ _ v u Q I rx ry ⟨rfl,by rw [show decide (V.non=V.non)=decide (D.non=D.non) from decide_eq_decide.mpr ⟨fun q=>rfl,fun q=>rfl⟩]; exact h⟩
  | @lst n ds es hh =>
    obtain ⟨p,xs,rfl,z1,h1,l1,g1⟩:=i1.v_lst
    obtain ⟨q,ys,rfl,z2,h2,l2,g2⟩:=i2.v_lst
    cases rx
    cases ry
    obtain ⟨_,us,m1,k1,n1,o1⟩:=I.lstR h1
    obtain ⟨_,ws,m2,k2,n2,o2⟩:=I.lstR h2
    rw [dec_lst] at h
    have e1:=g1.length
    have e2:=g2.length
    by_cases hl:ds.length=es.length
    · exact rcNeAt_lists ⟨_,o1,rfl,_,rfl⟩ ⟨_,o2,rfl,_,rfl⟩ (by omega) (by omega) (by omega) (items_is (hh hl) k1 k2 g1 g2 (eqAt_is I 19 (by rw [in1_units]; omega))) X.prog X.w X.xe _ ⟨.bl _,H,I,rfl,h⟩
    · have q:=SeqAt.RcNeAt.lists_lengths (A:=X.A) (s:=s) (items:=us.toArray) (items2:=ws.toArray) ⟨_,o1,rfl,_,rfl⟩ ⟨_,o2,rfl,_,rfl⟩ (by simp; omega) (by omega)
      have e:decide (ds=es)=false:=decide_eq_false fun z=>hl (by rw [z])
      rw [e] at h
      exact q X.prog X.w X.xe _ ⟨.bl _,H,I,rfl,h⟩
  | @tup n ds es hl hh =>
    obtain ⟨p,xs,rfl,z1,h1,l1,g1⟩:=i1.v_tup
    obtain ⟨q,ys,rfl,z2,h2,l2,g2⟩:=i2.v_tup
    cases rx
    cases ry
    obtain ⟨us,k1,o1,_⟩:=I.tuple (xs:=xs) (.inl (.inl h1))
    obtain ⟨ws,k2,o2,_⟩:=I.tuple (xs:=ys) (.inl (.inl h2))
    rw [dec_tup] at h
    have e1:=g1.length
    have e2:=g2.length
    have n1:=k1.length
    have n2:=k2.length
    exact rcNe_tups o1 o2 (by omega) (by omega) hl (by omega) (items_is hh k1 k2 g1 g2 (eqAt_is I 19 (by rw [in1_units]; omega))) X.prog X.w X.xe _ ⟨.bl _,H,I,rfl,h⟩
end
section
variable {ta tb:TE} {a b:DE}
noncomputable def dEq (neg:Bool) (a b:DE):DE:=fun ρ=>match a ρ with
  | some d=>(match b ρ with
    | some e=>if cmpb 20 d e=true then some (.bl (if neg=true then !decide (d=e) else decide (d=e))) else none
    | none=>none)
  | none=>none
theorem si_eq [Tabs] {neg:Bool} (ha:SemB K ta a) (hb:SemB K tb b):SemI K (tOp (rEqD K neg) ta tb) (dEq neg a b):=fun {B Z os ρ σ H Q d} f q k=>by
  unfold dEq at q
  split at q
  · rename_i x e1
    split at q
    · rename_i y e2
      by_cases c:cmpb 20 x y=true
      · rw [if_pos c] at q
        cases q
        exact ha f e1 fun v H1 s1 i1=>hb (f.grow s1) e2 fun u H2 s2 i2=>⟨x,y,i1.same s2,i2,c,k _ _ (s1.trans s2) (.bl _)⟩
      · rw [if_neg c] at q; cases q
    · cases q
  · cases q
end
end
end VL
namespace L2
open PySem PySem.Spec PyProof.Rows
section
variable {X:Cx}
end
end L2
namespace VL
open PySem L2
open Classical
noncomputable section
variable [Tabs] {K:PySem.W.Frag}
def SemO' (K:PySem.W.Frag) (t:TE) (e:DE):Prop:=∀ {B:Hp} {Z:Addr→Prop} {os:Own} {ρ:Rho} {σ:L2.St} {H:Hp} {Q:VK} {d:D},Fr K B Z os ρ σ H→e ρ=some d→(∀ v H',Same H H'→Is K B No v d→Q v H')→t σ H Q
noncomputable def dVarO (i:Nat):DE:=fun ρ=>match ρ.getD i .un with
  | .bo d=>some d
  | _=>none
theorem so_var (i:Nat):SemO' K (tVar i) (dVarO i):=fun {B Z os ρ σ H Q d} f q k=>by
  have s:=f.sl i
  unfold dVarO at q
  cases e:ρ.getD i .un with
  | bo d' =>
    rw [e] at q s
    cases q
    obtain ⟨_,u,hu,i⟩:=s
    exact ⟨u,join_some hu,k u H (Same.refl _) i⟩
  | _=>rw [e] at q; cases q
def ER (K:PySem.W.Frag) (m:Bool) (Bx H:Hp) (T:Addr→Prop) (x:V) (d:D):Prop:=match m with
  | true=>Is K H T x d
  | false=>Is K Bx No x d
structure Walk (K:PySem.W.Frag) (m:Bool) (Bx:Hp) (J:It) (H1:Hp) (T:Addr→Prop) (ds:List D):Prop where
  len:ds.length≤sizeLine
  go:∀ (i:Nat) (d:D) (H2:Hp) (T2:Addr→Prop),Kp T H1 T2 H2→Same Bx H2→(∀ a,T2 a→∃ o,H2 a=some o)→ds[i]?=some d→J.go i H2∧∀ x H3,J.yld i H2 x H3→Same H2 H3∧ER K m Bx H3 T2 x d
  stop:∀ (i:Nat) (H2:Hp) (T2:Addr→Prop),Kp T H1 T2 H2→Same Bx H2→ds.length=i→J.stop i H2
def SemW (K:PySem.W.Frag) (m:Bool) (wi:TI) (e:Rho→Option (List D)):Prop:=∀ {B:Hp} {Z:Addr→Prop} {os:Own} {ρ:Rho} {σ:L2.St} {H:Hp} {R:It→Hp→Prop} {ds:List D},Fr K B Z os ρ σ H→e ρ=some ds→(∀ J H1,Same H H1→Walk K m B J H1 (tot Z os) ds→R J H1)→wi σ H R
def SemWC (K:PySem.W.Frag) (m:Bool) (wi:TI) (e:Rho→Option (List D)):Prop:=∀ {B:Hp} {Z:Addr→Prop} {os:Own} {ρ:Rho} {σ:L2.St} {H:Hp} {R:It→Hp→Prop} {ds:List D},Fr K B Z os ρ σ H→e ρ=some ds→(∀ J H1,Same H H1→Walk K m H1 J H1 (tot Z os) ds→R J H1)→wi σ H R
theorem SemW.c {wi:TI} {e:Rho→Option (List D)} (h:SemW K true wi e):SemWC K true wi e:=fun f q k=>h f q fun J H1 s w=>k J H1 s ⟨w.len,fun i d H2 T2 kp sm hd e=>w.go i d H2 T2 kp ((f.keep.trans s).trans sm) hd e,fun i H2 T2 kp sm hl=>w.stop i H2 T2 kp ((f.keep.trans s).trans sm) hl⟩
theorem walk_list {m:Bool} {Bx H1:Hp} {T:Addr→Prop} {p:Addr} {vs:List V} {ds:List D} (hl:ds.length≤sizeLine) (hd0:∀ H2 T2,Kp T H1 T2 H2→Same Bx H2→SqL K H2 p vs) (hn:vs.length=ds.length)
    (hi:∀ H2 T2 (i:Nat) v d,Kp T H1 T2 H2→Same Bx H2→vs[i]?=some v→ds[i]?=some d→ER K m Bx H2 T2 v d):Walk K m Bx (Itl K p) H1 T ds:=by
  refine ⟨hl,fun i d H2 T2 kp sb hd e=>?_,fun i H2 T2 kp sb hi=>⟨vs,hd0 H2 T2 kp sb,by omega⟩⟩
  have hr2:=hd0 H2 T2 kp sb
  have hi':i<vs.length:=by rw [hn]; exact (List.getElem?_eq_some_iff.mp e).1
  have e1:vs[i]?=some vs[i]:=List.getElem?_eq_getElem hi'
  refine ⟨⟨vs,_,hr2,e1⟩,fun x H3 ⟨e3,hx⟩=>?_⟩
  subst e3
  have:=hx vs hr2
  rw [e1] at this
  cases this
  exact ⟨Same.refl _,hi _ T2 i _ d kp sb e1 e⟩
theorem sw_list {tl:TE} {a:DE} (ha:SemI K tl a):SemW K true (iList K tl) (asL a):=fun {B Z os ρ σ H R ds} f q k=>by
  obtain ⟨d,q,ed⟩:=asL_some q
  refine ha f q fun v H1 s1 i1=>?_
  obtain ⟨p,vs,rfl,hl,hn,hr⟩:=i1.seq ed
  refine ⟨p,rfl,⟨vs,(hr H1 _ Kp.refl).1⟩,k _ _ s1 (walk_list (vs:=vs) (by omega) (fun H2 T2 kp _=>(hr H2 T2 kp).1) hn fun H2 T2 i v d kp _ e1 e2=>?_)⟩
  obtain ⟨v',f1,i2⟩:=(hr H2 T2 kp).2.get e2
  rw [e1] at f1
  cases f1
  exact i2
theorem sw_listO {tl:TE} {a:DE} (ha:SemO' K tl a):SemW K false (iList K tl) (asL a):=fun {B Z os ρ σ H R ds} f q k=>by
  obtain ⟨d,q,ed⟩:=asL_some q
  refine ha f q fun v H1 s1 i1=>?_
  obtain ⟨p,vs,rfl,hl,hn,hr⟩:=i1.seq ed
  refine ⟨p,rfl,⟨vs,(hr H1 No (Kp.same (f.keep.trans s1))).1⟩,k _ _ s1 (walk_list (vs:=vs) (by omega) (fun H2 T2 kp sb=>(hr H2 No (Kp.same sb)).1) hn fun H2 T2 i v d kp sb e1 e2=>?_)⟩
  obtain ⟨v',f1,i2⟩:=(hr B No Kp.refl).2.get e2
  rw [e1] at f1
  cases f1
  exact i2
theorem swc_listB {tl:TE} {a:DE} (ha:SemB K tl a):SemWC K false (iList K tl) (asL a):=fun {B Z os ρ σ H R ds} f q k=>by
  obtain ⟨d,q,ed⟩:=asL_some q
  refine ha f q fun v H1 s1 i1=>?_
  obtain ⟨p,vs,rfl,hl,hn,hr⟩:=i1.seq ed
  refine ⟨p,rfl,⟨vs,(hr H1 _ Kp.refl).1⟩,k _ _ s1 (walk_list (vs:=vs) (by omega) (fun H2 T2 kp sb=>(hr H2 No (Kp.same sb)).1) hn fun H2 T2 i v d kp sb e1 e2=>?_)⟩
  obtain ⟨v',f1,i2⟩:=(hr H1 No Kp.refl).2.get e2
  rw [e1] at f1
  cases f1
  exact i2
def upL (lo:Int) (n:Nat):List D:=(List.range n).map fun (i:Nat)=>.int (lo+(i:Int))
theorem upL_len {lo:Int} {n:Nat}:(upL lo n).length=n:=by unfold upL; rw [List.length_map,List.length_range]
theorem upL_get {lo:Int} {n i:Nat} {d:D} (h:(upL lo n)[i]?=some d):i<n∧d=.int (lo+i):=by
  unfold upL at h
  rw [List.getElem?_map] at h
  by_cases hi:i<n
  · rw [List.getElem?_range hi] at h; cases h; exact ⟨hi,rfl⟩
  · rw [List.getElem?_eq_none (by rw [List.length_range]; omega)] at h; cases h
theorem walk_range {m:Bool} {Bx H1:Hp} {T:Addr→Prop} {lo:Int} {n:Nat} (hn:n≤sizeLine):Walk K m Bx (Itr lo n) H1 T (upL lo n):=by
  refine ⟨by rw [upL_len]; exact hn,fun i d H2 T2 kp _ hd e=>?_,fun i H2 T2 kp _ hi=>by rw [upL_len] at hi; exact Nat.le_of_eq hi⟩
  obtain ⟨hi,rfl⟩:=upL_get e
  refine ⟨hi,fun x H3 ⟨e3,ex⟩=>?_⟩
  subst e3 ex
  cases m
  · exact ⟨Same.refl _,.int _⟩
  · exact ⟨Same.refl _,.int _⟩
noncomputable def dRg1 (a:DE):Rho→Option (List D):=fun ρ=>match a ρ with
  | some (.int j)=>if -(2 ^ 62)≤j∧j.toNat≤sizeLine then some (upL 0 j.toNat) else none
  | _=>none
theorem sw_range1 {ta:TE} {a:DE} (ha:SemB K ta a):SemW K true (iRng1 (tCons ta tNil)) (dRg1 a):=fun {B Z os ρ σ H R ds} f q k=>by
  unfold dRg1 at q
  split at q
  · rename_i j e
    by_cases c:-(2 ^ 62)≤j∧j.toNat≤sizeLine
    · rw [if_pos c] at q
      cases q
      have hs:sizeLine=16777216:=sizeLine_eq
      exact ha f e fun v H1 s1 i1=>⟨j,by rw [i1.isInt],c.1,by omega,k _ _ s1 (walk_range c.2)⟩
    · rw [if_neg c] at q; cases q
  · cases q
abbrev DG:=D→Rho→Option Rho
def SemG (K:PySem.W.Frag) (m:Bool) (g:TG) (e:DG):Prop:=∀ {B:Hp} {Z:Addr→Prop} {os:Own} {ρ:Rho} {σ:L2.St} {H:Hp} {Q:L2.St→Hp→Prop} {v:V} {d:D} {ρ':Rho},Fr K B Z os ρ σ H→ER K m B H (tot Z os) v d→e d ρ=some ρ' →
  (∀ os' σ',Fr K B Z os' ρ' σ' H→Kp (tot Z os) H (tot Z os') H→Q σ' H)→g v σ H Q
def slm (m:Bool) (d:D):Sl:=match m with
  | true=>.pu d
  | false=>.bo d
noncomputable def gN (m:Bool) (i:Nat):DG:=fun d ρ=>some (ρ.set i (slm m d))
theorem Fr.putm {B H:Hp} {Z:Addr→Prop} {os:Own} {ρ:Rho} {σ:L2.St} (f:Fr K B Z os ρ σ H) {m:Bool} (i:Nat) {v:V} {d:D} (h:ER K m B H (tot Z os) v d) :
    ∃ os',Fr K B Z os' (ρ.set i (slm m d)) (σ.set i (some v)) H∧Kp (tot Z os) H (tot Z os') H:=by
  by_cases hi:i < ρ.length
  · cases m with
    | true=>exact ⟨_,f.put hi h⟩
    | false=>exact ⟨_,f.step (s:=.bo d) (v:=some v) hi (fun a u e _=>e) (fun a ha=>let ⟨xs,e⟩:=(f.sl i).dom ha; ⟨_,e⟩) List.nodup_nil (fun a h=>by cases h) ⟨rfl,v,rfl,h⟩⟩
  · have e1:ρ.set i (slm m d)=ρ:=List.set_eq_of_length_le (by omega)
    have e2:σ.set i (some v)=σ:=List.set_eq_of_length_le (by rw [f.len]; omega)
    rw [e1,e2]
    exact ⟨os,f,Kp.refl⟩
theorem sg_name {m:Bool} (i:Nat):SemG K m (gName i) (gN m i):=fun {B Z os ρ σ H Q v d ρ'} f h q k=>by
  cases q
  obtain ⟨os',f',kp⟩:=f.putm i h
  exact k os' _ f' kp
theorem Fr.tin {B H:Hp} {Z:Addr→Prop} {os:Own} {ρ:Rho} {σ:L2.St} (f:Fr K B Z os ρ σ H):∀ a,tot Z os a→∃ o,H a=some o:=by
  rintro a (z | ⟨i,z⟩)
  · exact f.zin a z
  · obtain ⟨xs,e⟩:=(f.sl i).dom z
    exact ⟨_,e⟩
theorem Fr.zt {B H:Hp} {Z:Addr→Prop} {os:Own} {ρ:Rho} {σ:L2.St} (f:Fr K B Z os ρ σ H):ZT (tot Z os) H:=⟨f.tin,f.tabH⟩
def view:Sl→Sl
  | .pu d=>.pu d
  | .bo d=>.bo d
  | .ol ds=>.bo (.lst ds)
  | .om rows=>.bo (.lst (rows.map D.lst))
  | .od kvs=>.bo (.dct kvs)
  | .pm _ _ rows=>.bo (.lst (rows.map D.lst))
  | .pd _ kvs=>.bo (.dct kvs)
  | .un=>.un
def r0 (k:Nat) (cs:List Nat) (ρ:Rho):Rho:=List.replicate k .un++cs.map fun i=>view (ρ.getD i .un)
def s0 (k:Nat) (cs:List Nat) (σ:L2.St):L2.St:=List.replicate k none++cs.map fun i=>(σ[i]?).join
theorem blockFr {B H1 H:Hp} {Z:Addr→Prop} {os:Own} {ρ:Rho} {σ:L2.St} {Dl:Addr} {o:HO} (f:Fr K B Z os ρ σ H1) (hD:H1 Dl=none) (s:Same H1 H) (hd:H Dl=some o) (k:Nat) (cs:List Nat) :
    Fr K H1 (fun a=>a=Dl∨tot Z os a) (fun _=>[]) (r0 k cs ρ) (s0 k cs σ) H where
  keep:=s
  zin:=fun a z=>by
    rcases z with rfl | z
    · exact ⟨o,hd⟩
    · obtain ⟨u,e⟩:=f.tin a z
      exact ⟨u,s _ _ e⟩
  len:=by unfold r0 s0; simp
  nd:=fun _=>List.nodup_nil
  dj:=fun _ _ _ h=>by cases h
  tab:=f.tabH
  new:=fun _ _ h=>by cases h
  sl:=fun j=>by
    have kp:Kp (tot Z os) H1 (tot (fun a=>a=Dl∨tot Z os a) fun _=>[]) H:=fun a u e z=>by
      refine ⟨s _ _ e,?_⟩
      rintro ((rfl | q) | ⟨_,q⟩)
      · rw [hD] at e; cases e
      · exact z q
      · cases q
    unfold r0 s0
    rw [List.getD_eq_getElem?_getD]
    by_cases hj:j<k
    · rw [List.getElem?_append_left (by simpa using hj),List.getElem?_append_left (by simpa using hj),List.getElem?_replicate,if_pos hj]
      exact rfl
    · rw [List.getElem?_append_right (by simpa using hj),List.getElem?_append_right (by simpa using hj),List.length_replicate,List.length_replicate,List.getElem?_map,List.getElem?_map]
      cases e:cs[j-k]? with
      | none=>exact rfl
      | some i =>
        have h:=f.sl i
        show SlOk K _ _ _ _ (view (ρ.getD i .un)) ((σ[i]?).join)
        cases e2:ρ.getD i .un with
        | un=>exact rfl
        | pu d =>
          rw [e2] at h
          obtain ⟨_,u,hu,i1⟩:=h
          exact ⟨rfl,u,hu,i1.kp kp⟩
        | bo d =>
          rw [e2] at h
          obtain ⟨_,u,hu,i1⟩:=h
          exact ⟨rfl,u,hu,i1.same f.keep⟩
        | ol ds =>
          rw [e2] at h
          obtain ⟨a,vs,_,hu,hH,hl,i1⟩:=h
          exact ⟨rfl,_,hu,.lst (fun z=>z) (.inl hH) hl i1.all⟩
        | om rows =>
          rw [e2] at h
          obtain ⟨a,ps,_,hu,hH,hl,i1⟩:=h
          exact ⟨rfl,_,hu,.lst (fun z=>z) (.inl hH) (by rw [List.length_map]; exact hl) (rows_is i1)⟩
        | od kvs =>
          rw [e2] at h
          obtain ⟨a,_,hu,hH,hl⟩:=h
          exact ⟨rfl,_,hu,.dct (fun z=>z) (.inl hH) hl⟩
        | pm a ps rows =>
          rw [e2] at h
          obtain ⟨_,hu,hH,hl,i1⟩:=h
          exact ⟨rfl,_,hu,.lst (fun z=>z) (.inl hH) (by rw [List.length_map]; exact hl) (rows_is i1)⟩
        | pd a kvs =>
          rw [e2] at h
          obtain ⟨_,hu,hH,hl⟩:=h
          exact ⟨rfl,_,hu,.dct (fun z=>z) (.inl hH) hl⟩
def compGo (g:DG) (t:Rho→Option Bool) (e:DE) (ρ0:Rho):List D→Option (List D)
  | []=>some []
  | d::ds=>match g d ρ0 with
    | none=>none
    | some ρ1=>match t ρ1 with
      | none=>none
      | some false=>compGo g t e ρ0 ds
      | some true=>match e ρ1 with
        | none=>none
        | some y=>match compGo g t e ρ0 ds with
          | none=>none
          | some ys=>some (y::ys)
noncomputable def dComp (k:Nat) (cs:List Nat) (it:Rho→Option (List D)) (g:DG) (t:Rho→Option Bool) (e:DE):Rho→Option (List D):=fun ρ=>match it ρ with
  | some ds=>compGo g t e (r0 k cs ρ) ds
  | none=>none
theorem sf_comp {m:Bool} {k:Nat} {cs:List Nat} {wi:TI} {g:TG} {tt:TT} {te:TE} {it:Rho→Option (List D)} {gd:DG} {td:Rho→Option Bool} {ed:DE} (hw:SemWC K m wi it) (hg:SemG K m g gd) (ht:SemT K tt td) (he:SemI K te ed) :
    SemF K (tComp wi g tt te (s0 k cs)) (dComp k cs it gd td ed):=fun {B Z os ρ σ H Q ds} f q kk=>by
  unfold dComp at q
  split at q
  · rename_i xs e0
    refine hw f e0 fun J H1 s1 W Dl hD=>?_
    have f1:=f.grow s1
    have sD:∀ {H2:Hp} {ys:List V},Same H1 H2→Same H1 (upd H2 Dl (.lst ys)):=fun {H2 ys} s a o e=>by
      rw [upd_ne (ne_of_none e hD)]; exact s _ _ e
    refine ⟨fun i m ys H2=>m=xs.length-i∧i≤xs.length∧Same H1 H2∧H2 Dl=some (.lst ys)∧ys.length≤i∧∃ done rest,IsL K H2 (fun a=>a=Dl∨tot Z os a) ys done∧compGo gd td ed (r0 k cs ρ) (xs.drop i)=some rest∧done++rest=ds,
      ⟨_,rfl,Nat.zero_le _,sD (Same.refl _),upd_same,Nat.le_refl _,[],ds,.nil,q,rfl⟩,?_⟩
    rintro i mm ys H2 ⟨rfl,hi,s2,eD,hly,done,rest,il,q2,ed2⟩
    have kp12:Kp (tot Z os) H1 (fun a=>a=Dl∨tot Z os a) H2:=fun a u e z=>⟨s2 _ _ e,fun w=>w.elim (ne_of_none e hD) z⟩
    by_cases hlt:i<xs.length
    · have ex:xs[i]?=some xs[i]:=List.getElem?_eq_getElem hlt
      have ef:=blockFr f1 hD s2 eD k cs
      obtain ⟨go,yl⟩:=W.go i xs[i] H2 _ kp12 s2 (fun a z=>ef.zin a z) ex
      refine .inr ⟨go,fun x H3 hy=>?_⟩
      obtain ⟨s3,er⟩:=yl x H3 hy
      have eD3:=s3 _ _ eD
      have s13:=s2.trans s3
      have ef3:=blockFr f1 hD s13 eD3 k cs
      rw [List.drop_eq_getElem_cons hlt] at q2
      unfold compGo at q2
      have er':ER K m H1 H3 (tot (fun a=>a=Dl∨tot Z os a) fun _=>[]) x xs[i]:=by
        cases m with
        | false=>exact er
        | true=>exact Is.kp (Kp.less fun a z=>z.elim id fun ⟨_,w⟩=>by cases w) er
      split at q2
      · cases q2
      · rename_i ρ1 e1
        refine hg ef3 er' e1 fun os1 σ1 fr1 k1=>?_
        split at q2
        · cases q2
        · rename_i e2
          refine ht fr1 e2 fun H4 s4=>iteF ⟨_,by omega,rfl,hlt,s13.trans s4,s4 _ _ eD3,by omega,done,rest,(il.same s3).same s4,q2,ed2⟩
        · rename_i e2
          refine ht fr1 e2 fun H4 s4=>iteT ?_
          split at q2
          · cases q2
          · rename_i y e3
            split at q2
            · cases q2
            · rename_i rs e4
              cases q2
              refine he (fr1.grow s4) e3 fun v H5 s5 i5=>?_
              have s35:=s4.trans s5
              have eD5:=s35 _ _ eD3
              have hl:=W.len
              have kp5:∀ (zs:List V),Kp (fun a=>a=Dl∨tot Z os a) H5 (fun a=>a=Dl∨tot Z os a) (upd H5 Dl (.lst zs)):=fun zs a u e z=>⟨by rw [upd_ne (fun w=>z (.inl w))]; exact e,z⟩
              have i5':Is K H5 (fun a=>a=Dl∨tot Z os a) v y:=i5.kp (Kp.less fun a z=>.inl z)
              refine ⟨eD5,by omega,_,by omega,rfl,hlt,sD (s13.trans s35),upd_same,by rw [List.length_append,List.length_singleton]; omega,done++[y],rs,?_,e4,by rw [List.append_assoc]; exact ed2⟩
              exact ((il.same s3).same s35 |>.kp (kp5 _)).append (.one (i5'.kp (kp5 _)))
    · have e:i=xs.length:=by omega
      subst e
      rw [List.drop_length] at q2
      cases q2
      rw [List.append_nil] at ed2
      subst ed2
      have hl:=W.len
      exact .inl ⟨W.stop _ H2 _ kp12 s2 rfl,eD,kk Dl ys H2 (s1.trans s2) (Same.free s1 hD) eD (by omega) il⟩
  · cases q
inductive Fm where
  | v | l | m | x (E:XK) (C:Addr)
def RtOk (fr:Fm) (K:PySem.W.Frag) (B H:Hp) (Z:Addr→Prop) (v:V) (d:D):Prop:=match fr with
  | .v=>Is K H Z v d
  | .l=>(∃ p vs ds,v=.ref p∧d=.lst ds∧B p=none∧H p=some (.lst vs)∧vs.length≤sizeLine∧IsL K H (fun a=>a=p∨Z a) vs ds)∨∃ p kvs,v=.ref p∧d=.dct kvs∧B p=none∧H p=some (.dK (kvs.map dkv))∧kvs.length≤sizeLine
  | .m=>∃ p ps rows,v=.ref p∧d=.lst (rows.map D.lst)∧B p=none∧(∀ a∈ps,B a=none)∧(p::ps).Nodup∧H p=some (.lst (ps.map V.ref))∧ps.length≤sizeLine∧Paired (fun q ds=>∃ vs,H q=some (.lst vs)∧vs.length≤sizeLine∧IsL K H (fun a=>(a=p∨a∈ps)∨Z a) vs ds) ps rows
  | .x _ _=>Is K H Z v d
theorem rows_isZ {H:Hp} {Z T:Addr→Prop} (hT:∀ a,Z a→T a):∀ {ps:List Addr} {rows:List (List D)},(∀ p∈ps,¬ Z p)→Paired (fun p ds=>∃ vs,H p=some (.lst vs)∧vs.length≤sizeLine∧IsL K H T vs ds) ps rows→IsL K H Z (ps.map V.ref) (rows.map D.lst)
  | _,_,_,.nil=>.nil
  | _,_,hz,.cons ⟨vs,h,hl,r⟩ t=>.cons (.lst (hz _ List.mem_cons_self) (.inl h) hl (r.kp (Kp.less hT))) (rows_isZ hT (fun p hp=>hz p (List.mem_cons_of_mem _ hp)) t)
theorem RtOk.is {fr:Fm} {B H:Hp} {Z:Addr→Prop} {v:V} {d:D} (hz:∀ a,Z a→∃ o,B a=some o) (h:RtOk fr K B H Z v d):Is K H Z v d:=by
  have nz:∀ {p:Addr},B p=none→¬ Z p:=fun {p} e z=>by obtain ⟨o,q⟩:=hz p z; rw [e] at q; cases q
  cases fr with
  | v=>exact h
  | x E C=>exact h
  | l =>
    rcases h with ⟨p,vs,ds,rfl,rfl,hb,hh,hl,r⟩ | ⟨p,kvs,rfl,rfl,hb,hh,hl⟩
    · exact .lst (nz hb) (.inl hh) hl (r.kp (Kp.less fun a z=>.inr z))
    · exact .dct (nz hb) (.inl hh) hl
  | m =>
    obtain ⟨p,ps,rows,rfl,rfl,hb,hbs,_,hh,hl,r⟩:=h
    exact .lst (nz hb) (.inl hh) (by rw [List.length_map]; exact hl) (rows_isZ (fun a z=>.inr z) (fun q hq=>nz (hbs q hq)) r)
def spD (fr:Fm) (K:PySem.W.Frag) (ms:List Bool) (F:List D→Option D):Sp:=fun vs H Q _=>∃ (Z:Addr→Prop) (ds:List D) (d:D),ZT Z H∧Args K H Z ms vs ds∧F ds=some d∧∀ v H',Same H H'→RtOk fr K H H' Z v d→Q v H'
noncomputable def dCall (F:List D→Option D) (es:Rho→Option (List D)):DE:=fun ρ=>match es ρ with
  | some ds=>F ds
  | none=>none
theorem si_call {fr:Fm} {ms:List Bool} {F:List D→Option D} {t:TA} {es:Rho→Option (List D)} {E:XK} (ha:SemA K ms t es):SemI K (tCall (spD fr K ms F) [] E t) (dCall F es):=fun {B Z os ρ σ H Q d} f q k=>by
  unfold dCall at q
  split at q
  · rename_i ds e
    refine ha f e fun vs H1 s1 a=>?_
    show spD fr K ms F (vs++[]) H1 Q E
    rw [List.append_nil]
    exact ⟨tot Z os,ds,d,(f.grow s1).zt,a,q,fun v H2 s2 i=>k v H2 (s1.trans s2) (i.is (f.grow s1).tin)⟩
  · cases q
end
end VL
namespace L2
open PySem PySem.Spec PyProof.Rows
section
variable {X:Cx}
end
end L2
namespace VL
open PySem L2
open Classical
noncomputable section
variable [Tabs] {K:PySem.W.Frag}
inductive Res where
  | nx (ρ:Rho) | rt (d:D) | bk (ρ:Rho) | ct (ρ:Rho) | no
variable {fr:Fm}
abbrev DS:=Rho→Res
def Post (fr:Fm) (K:PySem.W.Frag) (B:Hp) (Z:Addr→Prop) (os:Own) (H:Hp) (E:Ends):Res→Prop
  | .nx ρ'=>∀ os' σ' H',Fr K B Z os' ρ' σ' H'→Kp (tot Z os) H (tot Z os') H'→E.nx σ' H'
  | .bk ρ'=>∀ os' σ' H',Fr K B Z os' ρ' σ' H'→Kp (tot Z os) H (tot Z os') H'→E.bk σ' H'
  | .ct ρ'=>∀ os' σ' H',Fr K B Z os' ρ' σ' H'→Kp (tot Z os) H (tot Z os') H'→E.ct σ' H'
  | .rt d=>match fr with
    | .x E0 C=>∀ H',Same B H'→E0 (.ref C) none H'
    | fr=>∀ v H',Same B H'→RtOk fr K B H' Z v d→E.rt v H'
  | .no=>False
def SemS (fr:Fm) (K:PySem.W.Frag) (t:TS) (s:DS):Prop:=∀ {B:Hp} {Z:Addr→Prop} {os:Own} {ρ:Rho} {σ:L2.St} {H:Hp} {E:Ends},Fr K B Z os ρ σ H→Post fr K B Z os H E (s ρ)→t E σ H
theorem Post.kp {B:Hp} {Z:Addr→Prop} {os os1:Own} {H H1:Hp} {E:Ends} {r:Res} (k:Kp (tot Z os) H (tot Z os1) H1) (p:Post fr K B Z os H E r):Post fr K B Z os1 H1 E r:=by
  cases r with
  | nx ρ'=>exact fun os' σ' H' f k'=>p os' σ' H' f (k.trans k')
  | bk ρ'=>exact fun os' σ' H' f k'=>p os' σ' H' f (k.trans k')
  | ct ρ'=>exact fun os' σ' H' f k'=>p os' σ' H' f (k.trans k')
  | rt d=>exact p
  | no=>exact p
@[irreducible] noncomputable def sPass:DS:=fun ρ=>.nx ρ
theorem ss_pass:SemS fr K tNext sPass:=fun f p=>by unfold sPass at p; exact p _ _ _ f Kp.refl
@[irreducible] noncomputable def sSeq (s u:DS):DS:=fun ρ=>match s ρ with
  | .nx ρ'=>u ρ'
  | r=>r
theorem ss_seq {t u:TS} {s w:DS} (h1:SemS fr K t s) (h2:SemS fr K u w):SemS fr K (tSeq t u) (sSeq s w):=fun {B Z os ρ σ H E} f p=>by
  refine h1 f ?_
  unfold sSeq at p
  cases e:s ρ with
  | nx ρ'=>rw [e] at p; exact fun os' σ' H' f' k=>h2 f' (p.kp k)
  | bk ρ'=>rw [e] at p; exact p
  | ct ρ'=>rw [e] at p; exact p
  | rt d=>rw [e] at p; exact p
  | no=>rw [e] at p; exact p
@[irreducible] noncomputable def sRet (a:DE):DS:=fun ρ=>match a ρ with
  | some d=>.rt d
  | none=>.no
theorem ss_ret {ta:TE} {a:DE} (h:SemI K ta a):SemS .v K (tRet ta) (sRet a):=fun {B Z os ρ σ H E} f p=>by
  unfold sRet at p
  cases e:a ρ with
  | none=>rw [e] at p; exact p.elim
  | some d=>rw [e] at p; exact h f e fun v H1 s1 i1=>p v H1 (f.keep.trans s1) (i1.kp (Kp.less fun a z=>.inl z))
@[irreducible] noncomputable def sIf (c:Rho→Option Bool) (s u:DS):DS:=fun ρ=>match c ρ with
  | some true=>s ρ
  | some false=>u ρ
  | none=>.no
theorem ss_if {tc:TT} {t u:TS} {c:Rho→Option Bool} {s w:DS} (hc:SemT K tc c) (h1:SemS fr K t s) (h2:SemS fr K u w):SemS fr K (tIfS tc t u) (sIf c s w):=fun {B Z os ρ σ H E} f p=>by
  unfold sIf at p
  split at p
  · rename_i e
    exact hc f e fun H1 s1=>iteT (h1 (f.grow s1) (p.kp (Kp.same s1)))
  · rename_i e
    exact hc f e fun H1 s1=>iteF (h2 (f.grow s1) (p.kp (Kp.same s1)))
  · exact p.elim
@[irreducible] noncomputable def sSet (i:Nat) (a:DE):DS:=fun ρ=>match a ρ with
  | some d=>.nx (ρ.set i (.pu d))
  | none=>.no
theorem ss_set {i:Nat} {ta:TE} {a:DE} (h:SemI K ta a):SemS fr K (tAsg ta (gName i)) (sSet i a):=fun {B Z os ρ σ H E} f p=>by
  unfold sSet at p
  cases e:a ρ with
  | none=>rw [e] at p; exact p.elim
  | some d =>
    rw [e] at p
    refine h f e fun v H1 s1 i1=>?_
    obtain ⟨os',f',k⟩:=(f.grow s1).putm (m:=true) i i1
    exact p os' _ _ f' ((Kp.same s1).trans k)
theorem ss_setC {i:Nat} {ta:TE} {a:DE} (h:SemI K ta a):SemS fr K (tSetC ta i) (sSet i a):=ss_set (i:=i) h
@[irreducible] noncomputable def sSetO (i:Nat) (a:Rho→Option (List D)):DS:=fun ρ=>match a ρ with
  | some ds=>if i < ρ.length then .nx (ρ.set i (.ol ds)) else .no
  | none=>.no
theorem ss_setO {i:Nat} {ta:TE} {a:Rho→Option (List D)} (h:SemF K ta a):SemS fr K (tAsg ta (gName i)) (sSetO i a):=fun {B Z os ρ σ H E} f p=>by
  unfold sSetO at p
  split at p
  · rename_i ds e
    by_cases hi:i < ρ.length
    · rw [if_pos hi] at p
      refine h f e fun x vs H1 s1 hx hx1 hl i1=>?_
      have st:=f.step (H':=H1) (i:=i) hi (o:=[x]) (s:=.ol ds) (v:=some (.ref x)) (fun a u e _=>s1 _ _ e) (fun a ha=>let ⟨xs,e⟩:=(f.sl i).dom ha; ⟨_,s1 _ _ e⟩) (by simp) (fun a ha=>by rw [List.mem_singleton.mp ha]; exact .inr hx)
        ⟨x,vs,rfl,rfl,hx1,hl,i1.kp (Kp.less fun a z=>?_)⟩
      · exact p _ _ _ st.1 st.2
      · rcases z with z | ⟨j,z⟩
        · exact .inr (.inl z)
        · by_cases hj:j=i
          · subst hj; rw [putO_same] at z; exact .inl (List.mem_singleton.mp z)
          · rw [putO_ne hj] at z; exact .inr (.inr ⟨j,z⟩)
    · rw [if_neg hi] at p; exact p.elim
  · exact p.elim
def frz (i:Nat) (ρ:Rho):Rho:=match ρ.getD i .un with
  | .ol ds=>ρ.set i (.pu (.lst ds))
  | .om rows=>ρ.set i (.pu (.lst (rows.map D.lst)))
  | .od kvs=>ρ.set i (.pu (.dct kvs))
  | _=>ρ
theorem set_self {σ:L2.St} {i:Nat} {v:V} (h:(σ[i]?).join=some v):σ.set i (some v)=σ:=by
  have e:=join_some h
  refine List.ext_getElem? fun j=>?_
  by_cases hj:i=j
  · subst hj
    rw [List.getElem?_set_self (List.getElem?_eq_some_iff.mp e).1,e]
  · rw [List.getElem?_set_ne hj]
theorem getD_lt {ρ:Rho} {i:Nat} {s:Sl} (h:ρ.getD i .un=s) (hs:s≠.un):i < ρ.length:=by
  by_cases hi:i < ρ.length
  · exact hi
  · rw [List.getD_eq_getElem?_getD,List.getElem?_eq_none (by omega)] at h
    exact absurd h.symm hs
theorem Fr.freeze {B H:Hp} {Z:Addr→Prop} {os:Own} {ρ:Rho} {σ:L2.St} (f:Fr K B Z os ρ σ H) (i:Nat):∃ os',Fr K B Z os' (frz i ρ) σ H∧Kp (tot Z os) H (tot Z os') H:=by
  unfold frz
  have less:∀ a,tot Z (putO os i []) a→tot Z os a:=by
    rintro a (z | ⟨j,z⟩)
    · exact .inl z
    · by_cases hj:j=i
      · subst hj; rw [putO_same] at z; cases z
      · rw [putO_ne hj] at z; exact .inr ⟨j,z⟩
  cases e:ρ.getD i .un with
  | ol ds =>
    have s:=f.sl i
    rw [e] at s
    obtain ⟨a,vs,eo,hu,hH,hl,i1⟩:=s
    have hi:=getD_lt e (by intro z; cases z)
    have st:=f.step (H':=H) (i:=i) hi (o:=[]) (s:=.pu (.lst ds)) (v:=some (.ref a)) (fun a u e _=>e) (fun a ha=>let ⟨xs,e⟩:=(f.sl i).dom ha; ⟨_,e⟩) List.nodup_nil (fun a h=>by cases h)
      ⟨rfl,_,rfl,.lst (fun z=>?_) (.inl hH) hl (i1.kp (Kp.less less))⟩
    · rw [set_self hu] at st
      exact ⟨_,st⟩
    · rcases z with z | ⟨j,z⟩
      · exact (f.new i a (by rw [eo]; exact List.mem_singleton.mpr rfl)).2 z
      · by_cases hj:j=i
        · subst hj; rw [putO_same] at z; cases z
        · rw [putO_ne hj] at z; exact hj (f.dj j i a z (by rw [eo]; exact List.mem_singleton.mpr rfl))
  | od kvs =>
    have s:=f.sl i
    rw [e] at s
    obtain ⟨a,eo,hu,hH,hl⟩:=s
    have hi:=getD_lt e (by intro z; cases z)
    have st:=f.step (H':=H) (i:=i) hi (o:=[]) (s:=.pu (.dct kvs)) (v:=some (.ref a)) (fun a u e _=>e) (fun a ha=>let ⟨xs,e⟩:=(f.sl i).dom ha; ⟨_,e⟩) List.nodup_nil (fun a h=>by cases h)
      ⟨rfl,_,rfl,.dct (fun z=>?_) (.inl hH) hl⟩
    · rw [set_self hu] at st
      exact ⟨_,st⟩
    · rcases z with z | ⟨j,z⟩
      · exact (f.new i a (by rw [eo]; exact List.mem_singleton.mpr rfl)).2 z
      · by_cases hj:j=i
        · subst hj; rw [putO_same] at z; cases z
        · rw [putO_ne hj] at z; exact hj (f.dj j i a z (by rw [eo]; exact List.mem_singleton.mpr rfl))
  | om rows =>
    have s:=f.sl i
    rw [e] at s
    obtain ⟨a,ps,eo,hu,hH,hl,i1⟩:=s
    have hi:=getD_lt e (by intro z; cases z)
    have out:∀ b,b∈os i→¬ tot Z (putO os i []) b:=by
      rintro b hb (z | ⟨j,z⟩)
      · exact (f.new i b hb).2 z
      · by_cases hj:j=i
        · subst hj; rw [putO_same] at z; cases z
        · rw [putO_ne hj] at z; exact hj (f.dj j i b z hb)
    have rowsI:∀ {ps:List Addr} {rows:List (List D)},(∀ p∈ps,p∈os i)→Paired (fun p ds=>∃ vs,H p=some (.lst vs)∧vs.length≤sizeLine∧IsL K H (tot Z os) vs ds) ps rows→IsL K H (tot Z (putO os i [])) (ps.map V.ref) (rows.map D.lst):=by
      intro ps rows hp r
      induction r with
      | nil=>exact .nil
      | cons h _ ih =>
        obtain ⟨vs,q,hv,j⟩:=h
        exact .cons (.lst (out _ (hp _ List.mem_cons_self)) (.inl q) hv (j.kp (Kp.less less))) (ih fun p h=>hp p (List.mem_cons_of_mem _ h))
    have st:=f.step (H':=H) (i:=i) hi (o:=[]) (s:=.pu (.lst (rows.map D.lst))) (v:=some (.ref a)) (fun a u e _=>e) (fun a ha=>let ⟨xs,e⟩:=(f.sl i).dom ha; ⟨_,e⟩) List.nodup_nil (fun a h=>by cases h)
      ⟨rfl,_,rfl,.lst (out a (by rw [eo]; exact List.mem_cons_self)) (.inl hH) (by rw [List.length_map]; exact hl) (rowsI (fun p hp=>by rw [eo]; exact List.mem_cons_of_mem _ hp) i1)⟩
    rw [set_self hu] at st
    exact ⟨_,st⟩
  | un=>exact ⟨os,f,Kp.refl⟩
  | pu d=>exact ⟨os,f,Kp.refl⟩
  | bo d=>exact ⟨os,f,Kp.refl⟩
  | pm _ _ _=>exact ⟨os,f,Kp.refl⟩
  | pd _ _=>exact ⟨os,f,Kp.refl⟩
@[irreducible] noncomputable def sFrz (i:Nat) (s:DS):DS:=fun ρ=>s (frz i ρ)
theorem ss_frz {t:TS} {s:DS} (i:Nat) (h:SemS fr K t s):SemS fr K t (sFrz i s):=fun {B Z os ρ σ H E} f p=>by
  obtain ⟨os',f',k⟩:=f.freeze i
  unfold sFrz at p
  exact h f' (Post.kp k p)
theorem Fr.mutO {B H:Hp} {Z:Addr→Prop} {os:Own} {ρ:Rho} {σ:L2.St} (f:Fr K B Z os ρ σ H) {i:Nat} {a:Addr} {ds ds':List D} {vs':List V} (e:ρ.getD i .un=.ol ds) (hu:(σ[i]?).join=some (.ref a)) (hl:vs'.length≤sizeLine) (h:IsL K H (tot Z os) vs' ds') :
    ∃ os',Fr K B Z os' (ρ.set i (.ol ds')) σ (upd H a (.lst vs'))∧Kp (tot Z os) H (tot Z os') (upd H a (.lst vs')):=by
  have s:=f.sl i
  rw [e] at s
  obtain ⟨b,vs,eo,hu',hH,_,_⟩:=s
  rw [hu] at hu'
  cases hu'
  have hi:=getD_lt e (by intro z; cases z)
  have ha:a∈os i:=by rw [eo]; exact List.mem_singleton.mpr rfl
  have st:=f.step (H':=upd H a (.lst vs')) (i:=i) hi (o:=[a]) (s:=.ol ds') (v:=some (.ref a)) (fun b u e n=>by rw [upd_ne (fun z=>n (by rw [z]; exact ha))]; exact e) (fun b hb=>?_) (by simp) (fun b hb=>by rw [List.mem_singleton.mp hb]; exact .inl ha)
    ⟨a,vs',rfl,rfl,upd_same,hl,h.kp fun b u e z=>⟨?_,fun q=>z ?_⟩⟩
  · rw [set_self hu] at st
    exact ⟨_,st⟩
  · rw [eo] at hb; rw [List.mem_singleton.mp hb]; exact ⟨_,upd_same⟩
  · rw [upd_ne (fun w=>z (.inr ⟨i,by rw [w]; exact ha⟩))]; exact e
  · rcases q with q | ⟨j,q⟩
    · exact .inl q
    · by_cases hj:j=i
      · subst hj; rw [putO_same] at q; exact .inr ⟨j,by rw [List.mem_singleton.mp q]; exact ha⟩
      · rw [putO_ne hj] at q; exact .inr ⟨j,q⟩
theorem ol_of {B H:Hp} {Z:Addr→Prop} {os:Own} {ρ:Rho} {σ:L2.St} (f:Fr K B Z os ρ σ H) {i:Nat} {ds:List D} (e:ρ.getD i .un=.ol ds):∃ a vs,(σ[i]?).join=some (.ref a)∧H a=some (.lst vs)∧vs.length≤sizeLine∧IsL K H (tot Z os) vs ds:=by
  have s:=f.sl i
  rw [e] at s
  obtain ⟨b,vs,eo,hu',hH,hl,r⟩:=s
  exact ⟨b,vs,hu',hH,hl,r⟩
@[irreducible] noncomputable def sApp (i:Nat) (a:DE):DS:=fun ρ=>match ρ.getD i .un with
  | .ol ds=>(match a ρ with
    | some d=>if ds.length<sizeLine then .nx (ρ.set i (.ol (ds++[d]))) else .no
    | none=>.no)
  | _=>.no
theorem ss_app {i:Nat} {ta:TE} {a:DE} (h:SemI K ta a):SemS fr K (tDrop (tBM K "list" rAppend (tVar i) (tCons ta tNil))) (sApp i a):=fun {B Z os ρ σ H E} f p=>by
  unfold sApp at p
  split at p
  · rename_i ds e
    split at p
    · rename_i d e2
      by_cases hz:ds.length<sizeLine
      · rw [if_pos hz] at p
        obtain ⟨x,vs,hu,hH,hl,r⟩:=ol_of f e
        refine ⟨_,join_some hu,.inl ⟨rfl,_,SqL.of hH⟩,h f e2 fun v H1 s1 i1=>?_⟩
        have f1:=f.grow s1
        have r1:=r.same s1
        have hlen:vs.length<sizeLine:=by rw [r.length]; exact hz
        obtain ⟨os',f',k⟩:=f1.mutO (vs':=vs++[v]) (ds':=ds++[d]) e hu (by rw [List.length_append,List.length_singleton]; omega) (r1.append (.one i1))
        exact ⟨x,vs,v,rfl,rfl,s1 _ _ hH,hlen,p os' _ _ f' ((Kp.same s1).trans k)⟩
      · rw [if_neg hz] at p; exact p.elim
    · exact p.elim
  · exact p.elim
@[irreducible] noncomputable def sIns (i:Nat) (a b:DE):DS:=fun ρ=>match ρ.getD i .un with
  | .ol ds=>(match a ρ with
    | some (.int n)=>(match b ρ with
      | some d=>if 0≤n∧n≤ds.length∧ds.length<sizeLine then .nx (ρ.set i (.ol (ds.take n.toNat++d::ds.drop n.toNat))) else .no
      | none=>.no)
    | _=>.no)
  | _=>.no
theorem ss_ins {i:Nat} {ta tb:TE} {a b:DE} (ha:SemB K ta a) (hb:SemI K tb b):SemS fr K (tDrop (tBM K "list" rInsert (tVar i) (tCons ta (tCons tb tNil)))) (sIns i a b):=fun {B Z os ρ σ H E} f p=>by
  unfold sIns at p
  split at p
  · rename_i ds e
    split at p
    · rename_i n e2
      split at p
      · rename_i d e3
        by_cases hz:0≤n∧n≤ds.length∧ds.length<sizeLine
        · rw [if_pos hz] at p
          obtain ⟨x,vs,hu,hH,hl,r⟩:=ol_of f e
          refine ⟨_,join_some hu,.inl ⟨rfl,_,SqL.of hH⟩,ha f e2 fun v H1 s1 i1=>hb (f.grow s1) e3 fun w H2 s2 i2=>?_⟩
          have s12:=s1.trans s2
          have f1:=f.grow s12
          have r1:=r.same s12
          have hlen:=r.length
          obtain ⟨os',f',k⟩:=f1.mutO (vs':=vs.take n.toNat++w::vs.drop n.toNat) (ds':=ds.take n.toNat++d::ds.drop n.toNat) e hu (by rw [List.length_append,List.length_cons,List.length_take,List.length_drop]; omega) ((r1.take _).append (.cons i2 (r1.drop _)))
          exact ⟨x,vs,n,w,rfl,by rw [i1.isInt],s12 _ _ hH,hz.1,by omega,by omega,p os' _ _ f' ((Kp.same s12).trans k)⟩
        · rw [if_neg hz] at p; exact p.elim
      · exact p.elim
    · exact p.elim
  · exact p.elim
@[irreducible] noncomputable def sPut (i:Nat) (b a:DE):DS:=fun ρ=>match ρ.getD i .un with
  | .ol ds=>(match a ρ with
    | some d=>(match b ρ with
      | some (.int n)=>(match ixN ds.length n with
        | some j=>.nx (ρ.set i (.ol (ds.set j d)))
        | none=>.no)
      | _=>.no)
    | none=>.no)
  | _=>.no
theorem ss_put {i:Nat} {ta tb:TE} {a b:DE} (ha:SemI K ta a) (hb:SemB K tb b):SemS fr K (tAsg ta (gSub (tVar i) tb rSetL)) (sPut i b a):=fun {B Z os ρ σ H E} f p=>by
  unfold sPut at p
  split at p
  · rename_i ds e
    split at p
    · rename_i d e2
      split at p
      · rename_i n e3
        split at p
        · rename_i j e4
          obtain ⟨x,vs,hu,hH,hl,r⟩:=ol_of f e
          refine ha f e2 fun v H1 s1 i1=>⟨_,join_some hu,hb (f.grow s1) e3 fun w H2 s2 i2=>?_⟩
          have s12:=s1.trans s2
          have f1:=f.grow s12
          have r1:=r.same s12
          obtain ⟨os',f',k⟩:=f1.mutO (vs':=vs.set j v) (ds':=ds.set j d) e hu (by rw [List.length_set]; exact hl) (r1.set (i1.same s2) j)
          exact ⟨x,vs,n,j,rfl,i2.isInt,s12 _ _ hH,by rw [r.length]; exact e4,p os' _ _ f' ((Kp.same s12).trans k)⟩
        · exact p.elim
      · exact p.elim
    · exact p.elim
  · exact p.elim
def forD (g:DG) (b:DS):List D→DS
  | [],ρ=>.nx ρ
  | d::ds,ρ=>match g d ρ with
    | none=>.no
    | some ρ1=>match b ρ1 with
      | .nx ρ2=>forD g b ds ρ2
      | .ct ρ2=>forD g b ds ρ2
      | .bk ρ2=>.nx ρ2
      | .rt d=>.rt d
      | .no=>.no
@[irreducible] noncomputable def sFor (it:Rho→Option (List D)) (g:DG) (b:DS):DS:=fun ρ=>match it ρ with
  | some ds=>forD g b ds ρ
  | none=>.no
theorem ss_for {m:Bool} {wi:TI} {t:TG} {tb:TS} {it:Rho→Option (List D)} {g:DG} {b:DS} (hw:SemW K m wi it) (hg:SemG K m t g) (hb:SemS fr K tb b):SemS fr K (tFor wi t tb) (sFor it g b):=fun {B Z os ρ σ H E} f p=>by
  unfold sFor at p
  split at p
  · rename_i ds e0
    refine hw f e0 fun J H1 s1 W=>?_
    refine ⟨fun i m σ' H'=>∃ os' ρ',m=ds.length-i∧i≤ds.length∧Fr K B Z os' ρ' σ' H'∧Kp (tot Z os) H1 (tot Z os') H'∧Post fr K B Z os H1 E (forD g b (ds.drop i) ρ'),⟨_,os,ρ,rfl,Nat.zero_le _,f.grow s1,Kp.refl,Post.kp (Kp.same s1) p⟩,?_⟩
    rintro i mm σ2 H2 ⟨os2,ρ2,rfl,hi,f2,k2,p2⟩
    by_cases hlt:i<ds.length
    · have ex:ds[i]?=some ds[i]:=List.getElem?_eq_getElem hlt
      obtain ⟨go,yl⟩:=W.go i ds[i] H2 _ k2 f2.keep f2.tin ex
      rw [List.drop_eq_getElem_cons hlt] at p2
      refine .inr ⟨go,fun σ' H'=>∃ os' ρ',Fr K B Z os' ρ' σ' H'∧Kp (tot Z os) H1 (tot Z os') H'∧Post fr K B Z os H1 E (forD g b (ds.drop (i+1)) ρ'),fun σ' H' ⟨os',ρ',h1,h2,h3⟩=>⟨_,by omega,os',ρ',rfl,hlt,h1,h2,h3⟩,fun x H3 hy=>?_⟩
      obtain ⟨s3,er⟩:=yl x H3 hy
      unfold forD at p2
      split at p2
      · exact p2.elim
      · rename_i ρ1 e1
        have er':ER K m B H3 (tot Z os2) x ds[i]:=er
        refine hg (f2.grow s3) er' e1 fun os3 σ3 f3 k3=>hb f3 ?_
        have k13:Kp (tot Z os) H1 (tot Z os3) H3:=(k2.trans (Kp.same s3)).trans k3
        split at p2
        · rename_i ρ4 e4
          rw [e4]
          exact fun os' σ' H' f' k'=>⟨os',_,f',k13.trans k',p2⟩
        · rename_i ρ4 e4
          rw [e4]
          exact fun os' σ' H' f' k'=>⟨os',_,f',k13.trans k',p2⟩
        · rename_i ρ4 e4
          rw [e4]
          exact fun os' σ' H' f' k'=>p2 os' σ' H' f' (k13.trans k')
        · rename_i d e4
          rw [e4]
          exact p2
        · exact p2.elim
    · have e:i=ds.length:=by omega
      subst e
      rw [List.drop_length] at p2
      exact .inl ⟨W.stop _ H2 _ k2 f2.keep rfl,p2 os2 σ2 H2 f2 k2⟩
  · exact p.elim
def stD (n:Nat) (ms:List Bool) (ds:List D):Rho:=List.zipWith slm ms ds++List.replicate (n-ds.length) .un
@[irreducible] def runD (n:Nat) (ms:List Bool) (b:DS) (ds:List D):Option D:=match b (stD n ms ds) with
  | .rt d=>some d
  | .nx _=>some .non
  | _=>none
theorem startFr {H:Hp} {Z:Addr→Prop} {N:List Str} {ms:List Bool} {vs:List V} {ds:List D} (hz:ZT Z H) (h:Args K H Z ms vs ds):Fr K H Z (fun _=>[]) (stD N.length ms ds) (L2.start N vs) H where
  keep:=Same.refl _
  zin:=hz.1
  tab:=hz.2
  len:=by
    unfold stD L2.start
    have:=h.len
    simp only [List.length_append,List.length_map,List.length_replicate,List.length_zipWith]
    omega
  nd:=fun _=>List.nodup_nil
  dj:=fun _ _ _ h=>by cases h
  new:=fun _ _ h=>by cases h
  sl:=fun j=>by
    have hl:=h.len
    have key:∀ {ms:List Bool} {vs:List V} {ds:List D} (j:Nat),Args K H Z ms vs ds→j<ms.length→SlOk K H H (tot Z fun _=>[]) [] (((List.zipWith slm ms ds)[j]?).getD .un) ((vs.map some)[j]?.join):=by
      intro ms vs ds j h
      induction h generalizing j with
      | nil=>intro hj; simp at hj
      | own i _ ih =>
        intro hj
        cases j with
        | zero=>exact ⟨rfl,_,rfl,i.kp (Kp.less fun a z=>z.elim id fun ⟨_,w⟩=>by cases w)⟩
        | succ j=>exact ih j (by simpa using hj)
      | any i _ ih =>
        intro hj
        cases j with
        | zero=>exact ⟨rfl,_,rfl,i⟩
        | succ j=>exact ih j (by simpa using hj)
    unfold stD L2.start
    rw [List.getD_eq_getElem?_getD]
    by_cases hj:j<ms.length
    · rw [List.getElem?_append_left (by rw [List.length_zipWith]; omega),List.getElem?_append_left (by rw [List.length_map]; omega)]
      exact key j h hj
    · rw [List.getElem?_append_right (by rw [List.length_zipWith]; omega),List.getElem?_replicate]
      split <;> exact rfl
theorem Fun.okD {P:Program} {w:World} {mg:Str→Option Value} {base:Heap} {x qual:Str} {st:Stmt} {f:Addr} {fd:FuncData} {N ps:List Str} {k:Nat} (F:Fun K x qual st f fd) (S:FnScope N ps (defScope st)) (ms:List Bool) (hms:ms.length=ps.length) (b:DS)
    (hbody:∀ (cdv:Value) (A:Around) (outer:List Env) (s:Shared) (H:Hp) (E:XK),Room k (A.deeper (PyProof.Rows.envOfC qual (defScope st) s.heap.objs.size f cdv)) →
      ∃ t,PSs (cxOf CX0 P w K mg base N qual (defScope st) f cdv A outer s H E).nox (defBody st) t∧SemS .v K t b):FnOk P w K mg base CX0 (k+1) f fd ps (spD .v K ms (runD N.length ms b)):=by
  refine F.ok S (fun vs H Q E h=>?_) (fun cdv A outer s H vs Q E hr h=>?_)
  · obtain ⟨Z,ds,d,hz,a,_⟩:=h
    rw [a.len.1,hms]
  · obtain ⟨Z,ds,d,hz,a,e,k⟩:=h
    obtain ⟨t,h1,h2⟩:=hbody cdv A outer s H E hr
    refine ⟨t,h1,h2 (startFr hz a) ?_⟩
    unfold runD at e
    split at e
    · rename_i d' e1
      cases e
      rw [e1]
      exact fun v H' s' i=>k v H' s' i
    · rename_i ρ e1
      cases e
      rw [e1]
      exact fun os' σ' H' f' _=>k _ H' f'.keep .non
    · cases e
end
end VL
namespace L2
open PySem PySem.Spec PyProof.Rows
open VL (s0)
section
variable {X:Cx}
inductive SubL (X:Cx):List (Str×Addr)→Prop
  | nil:SubL X []
  | cons {z:Str} {c:Addr} {r:List (Str×Addr)}:X.env.cells.lookup z=some c→SubL X r→SubL X ((z,c)::r)
theorem SubL.sub {cl:List (Str×Addr)} (h:SubL X cl):∀ x c,cl.lookup x=some c→X.env.cells.lookup x=some c:=by
  induction h with
  | nil=>intro x c e; cases e
  | @cons z c r h _ ih =>
    intro x c' e
    rw [List.lookup_cons] at e
    cases q:x==z with
    | true=>rw [q] at e; cases e; rw [eq_of_beq q]; exact h
    | false=>rw [q] at e; exact ih x c' e
inductive CapL (X:Cx) (scope:Scope) (cl:List (Str×Addr)):List Nat→List Str→Prop
  | nil:CapL X scope cl [] []
  | cons {i:Nat} {z:Str} {c:Addr} {is:List Nat} {zs:List Str}:X.N[i]?=some z→(X.env.scope.names.lookup z=some .cell∨X.env.scope.names.lookup z=some .free)→cl.lookup z=some c →
      ((relabel scope X.env).names.lookup z=some .cell∨(relabel scope X.env).names.lookup z=some .free)→CapL X scope cl is zs→CapL X scope cl (i::is) (z::zs)
theorem CapL.get {scope:Scope} {cl:List (Str×Addr)} {is:List Nat} {zs:List Str} (h:CapL X scope cl is zs):∀ (j:Nat) (z:Str),zs[j]?=some z→∃ i c,is[j]?=some i∧X.N[i]?=some z∧(X.env.scope.names.lookup z=some .cell∨X.env.scope.names.lookup z=some .free)∧cl.lookup z=some c ∧
      ((relabel scope X.env).names.lookup z=some .cell∨(relabel scope X.env).names.lookup z=some .free):=by
  induction h with
  | nil=>intro j z e; simp at e
  | cons h1 h2 h3 h4 _ ih =>
    intro j z e
    cases j with
    | zero=>cases e; exact ⟨_,_,rfl,h1,h2,h3,h4⟩
    | succ j=>exact ih j z (by simpa using e)
theorem CapL.len {scope:Scope} {cl:List (Str×Addr)} {is:List Nat} {zs:List Str} (h:CapL X scope cl is zs):is.length=zs.length:=by
  induction h with
  | nil=>rfl
  | cons _ _ _ _ _ ih=>simp [ih]
theorem Frees.many {scope:Scope} {cl:List (Str×Addr)} {is:List Nat} {ts zs:List Str} {k:Nat} {σ:St} (hk:ts.length=k) (hs:SubL X cl) (hc:CapL X scope cl is zs)
    (ha:((relabel scope X.env).names.all fun y=>!(y.2==.cell || y.2==.free) || zs.contains y.1)=true):Frees X (ts++zs) scope cl σ (s0 k is σ) where
  sub:=hs.sub
  vals:=fun j x v e1 e2=>by
    unfold s0 at e2
    by_cases hj:j<k
    · rw [List.getElem?_append_left (by simpa using hj),List.getElem?_replicate,if_pos hj] at e2; cases e2
    · rw [List.getElem?_append_right (by simpa using hj),List.length_replicate,List.getElem?_map] at e2
      rw [List.getElem?_append_right (by omega),hk] at e1
      obtain ⟨i,c,f1,f2,f3,f4,f5⟩:=hc.get _ _ e1
      rw [f1] at e2
      have e3:(σ[i]?).join=some v:=Option.some.inj e2
      refine ⟨i,c,f2,VL.join_some e3,?_,?_,f4,f5⟩
      · rcases f3 with q | q
        · exact .inr (.inl q)
        · exact .inr (.inr q)
      · intro w
        have w:X.env.scope.names.lookup x=some .local:=w
        rcases f3 with q | q <;> rw [q] at w <;> cases w
  has:=fun x h=>by
    have key:∀ kd,(relabel scope X.env).names.lookup x=some kd→(kd==NameKind.cell || kd==NameKind.free)=true→x∈zs:=fun kd e q=>by
      have m:=List.all_eq_true.mp ha _ (PySem.mem_of_lookup e)
      rw [q] at m
      have:zs.contains x=true:=by simpa using m
      exact List.contains_iff_mem.mp this
    have mem:x∈zs:=by
      rcases h with h | h
      · exact key _ h rfl
      · exact key _ h rfl
    obtain ⟨j,hj⟩:=List.getElem?_of_mem mem
    obtain ⟨i,c,_,_,_,f4,_⟩:=hc.get j x hj
    exact ⟨c,f4⟩
  len:=by unfold s0; rw [List.length_append,List.length_append,List.length_replicate,List.length_map,hk,hc.len]
def Low (k:Nat) (g:TG):Prop:=∀ x σ H (Q:St→Hp→Prop),g x σ H Q→∃ σ2 H2,Q σ2 H2∧σ2.length=σ.length∧(∀ j,k≤j→σ2[j]?=σ[j]?)∧∀ Q':St→Hp→Prop,Q' σ2 H2→g x σ H Q'
theorem low_name {k i:Nat} (h:i<k):Low k (gName i):=fun x σ H Q q=>⟨_,_,q,List.length_set,fun j hj=>by rw [List.getElem?_set_ne (by omega)],fun _ z=>z⟩
theorem Low.keep {k:Nat} {g:TG} {cs:List Nat} (h:Low k g) (σ:St):Keepg g (s0 k cs σ):=fun x H Q q=>by
  obtain ⟨σ1,H1,q1,l1,k1,g1⟩:=h _ _ _ _ q
  refine g1 _ ⟨q1,l1,fun j v e=>?_⟩
  by_cases hj:j<k
  · unfold s0 at e
    rw [List.getElem?_append_left (by simpa using hj),List.getElem?_replicate,if_pos hj] at e; cases e
  · rw [k1 j (by omega)]; exact e
theorem pgb {N':List Str} {scope:Scope} {cl:List (Str×Addr)} {i:Nat} {y:Str} {py:Pos} (nd:N'.Nodup) (hi:N'[i]?=some y) (hx:scope.names.lookup y=some .local) {C:Addr} {s3:Shared} {H3:Hp} {fp:List Addr} {pins:List (Addr×Obj)} :
    PG (compCx X N' scope cl C s3 H3 fp pins) (.Name y py) (gName i):=pg_name nd hi (.inl (lookup_relabel_local hx)) (.inr (lookup_relabel_local hx))
variable {tg elt iter c:Expr} {scope:Scope} {cl:List (Str×Addr)} {ts zs:List Str} {is:List Nat} {k:Nat} {g:TG} {tt:TT} {te:TE} {wi:TI} {pos:Pos}
theorem pe_cN0 (hc:X.calm=true) (hi:PI X tg iter wi) (hk:ts.length=k) (hs:SubL X cl) (hcp:CapL X scope cl is zs) (ha:((relabel scope X.env).names.all fun y=>!(y.2==.cell || y.2==.free) || zs.contains y.1)=true) (hl:Low k g)
    (hg:∀ C s3 H3 fp pins,PG (compCx X (ts++zs) scope cl C s3 H3 fp pins) tg g) (he:∀ C s3 H3 fp pins,PE (compCx X (ts++zs) scope cl C s3 H3 fp pins) elt te)
    (hclos:closureFor scope X.env=pure cl) (hcell:∀ y∈scope.names,y.2≠.cell) (hkind:scope.kind=.function) (hnames:∀ y∈scope.names,y.2=.local→scope.names.lookup y.1=some .local)
    (hf:∀ x,foldedSetIterable iter X.env x=pure x:=by intro _; rfl):PE X (.ListComp elt [⟨tg,iter,[],0⟩] scope pos) (tComp wi g tTrue te (s0 k is)) :=
  pe_compG hc hi (fun _ _=>Frees.many hk hs hcp ha) (fun σ=>hl.keep σ) hg tests0 he hclos hcell hkind hnames hf
theorem pe_cN1 (hc:X.calm=true) (hi:PI X tg iter wi) (hk:ts.length=k) (hs:SubL X cl) (hcp:CapL X scope cl is zs) (ha:((relabel scope X.env).names.all fun y=>!(y.2==.cell || y.2==.free) || zs.contains y.1)=true) (hl:Low k g)
    (hg:∀ C s3 H3 fp pins,PG (compCx X (ts++zs) scope cl C s3 H3 fp pins) tg g) (ht:∀ C s3 H3 fp pins,PT (compCx X (ts++zs) scope cl C s3 H3 fp pins) c tt) (he:∀ C s3 H3 fp pins,PE (compCx X (ts++zs) scope cl C s3 H3 fp pins) elt te)
    (hclos:closureFor scope X.env=pure cl) (hcell:∀ y∈scope.names,y.2≠.cell) (hkind:scope.kind=.function) (hnames:∀ y∈scope.names,y.2=.local→scope.names.lookup y.1=some .local)
    (hf:∀ x,foldedSetIterable iter X.env x=pure x:=by intro _; rfl):PE X (.ListComp elt [⟨tg,iter,[c],0⟩] scope pos) (tComp wi g tt te (s0 k is)) :=
  pe_compG hc hi (fun _ _=>Frees.many hk hs hcp ha) (fun σ=>hl.keep σ) hg (tests1 ht) he hclos hcell hkind hnames hf
theorem ps_cN0 {i:Nat} {x:Str} {pos' spos:Pos} (hN:X.N.Nodup) (hi':X.N[i]?=some x) (hxl:X.env.scope.names.lookup x=some .local) (hc:X.calm=true) (hi:PI X tg iter wi) (hk:ts.length=k) (hs:SubL X cl) (hcp:CapL X scope cl is zs) (ha:((relabel scope X.env).names.all fun y=>!(y.2==.cell || y.2==.free) || zs.contains y.1)=true) (hl:Low k g)
    (hg:∀ C s3 H3 fp pins,PG (compCx X (ts++zs) scope cl C s3 H3 fp pins) tg g) (he:∀ C s3 H3 fp pins,PE (compCx X (ts++zs) scope cl C s3 H3 fp pins) elt te)
    (hclos:closureFor scope X.env=pure cl) (hcell:∀ y∈scope.names,y.2≠.cell) (hkind:scope.kind=.function) (hnames:∀ y∈scope.names,y.2=.local→scope.names.lookup y.1=some .local)
    (hf:∀ x,foldedSetIterable iter X.env x=pure x:=by intro _; rfl) (hsw:swapsWith (.ListComp elt [⟨tg,iter,[],0⟩] scope pos) (some (.Name x pos')) spos.line X.env=pure true:=by rfl):PS X (.Assign [.Name x pos'] (.ListComp elt [⟨tg,iter,[],0⟩] scope pos) spos) (tSetC (tComp wi g tTrue te (s0 k is)) i) :=
 ps_setCG hN hi' (.inl hxl) (.inr hxl) hc hi (fun _ _=>Frees.many hk hs hcp ha) (fun σ=>hl.keep σ) hg tests0 he hclos hcell hkind hnames hf hsw
theorem pi_listK {K:PySem.W.Frag} {l:Expr} {tl:TE} (h:X.K=K) (hl:PE X l tl):PI X tg l (iList K tl):=by subst h; exact pi_list hl
end
end L2
namespace VL
open PySem L2
def sp_law [Tabs] (K:PySem.W.Frag):Sp:=fun vs H Q _=>∃ (a:Addr) (ns:List Int),vs=[.ref a]∧SqL K H a (ns.map V.int)∧ns.length≤63∧(∀ m∈ns,Builtin.Int.intBits m≤1048576)∧TabIn H∧∀ H',Q (.bl true) H'
theorem sp_law_of [Tabs] {K:PySem.W.Frag} {F:List D→Option D} (ht:∀ ns:List Int,ns.length≤63→(∀ m∈ns,Builtin.Int.intBits m≤1048576)→F [.scr ns]=some (.bl true)) {vs:List V} {H:Hp} {Q:VK} {E:XK} (h:sp_law K vs H Q E):spD .v K [false] F vs H Q E:=by
  obtain ⟨a,ns,rfl,hS,hl,hb,htab,k⟩:=h
  have hz:ns.length≤sizeLine:=Nat.le_trans hl (by decide)
  refine ⟨No,[.scr ns],.bl true,⟨fun a z=>z.elim,htab⟩,.any ?_ .nil,ht ns hl hb,fun v H' s i=>by cases i; exact k H'⟩
  rcases hS with hS | hS
  · exact .scr (fun z=>z) hS hz
  · exact .scrK hS hz
end VL
namespace L2
open PySem PySem.Spec PyProof.Rows
section
variable {X:Cx} {K:PySem.W.Frag}
end
end L2
namespace VL
open PySem L2
open Classical
noncomputable section
section
variable [Tabs] {K:PySem.W.Frag} {ta tb tc:TE} {a b c:DE}
end
end
end VL
namespace VL
open PySem L2
open Classical
noncomputable section
instance (priority:=low) noTabs:Tabs:=⟨[]⟩
structure Wk where
  nx:Rho→Prop
  rt:D→Prop
  bk:Rho→Prop:=fun _=>False
  ct:Rho→Prop:=fun _=>False
@[irreducible] def Wp (s:DS) (ρ:Rho) (W:Wk):Prop:=match s ρ with
  | .nx ρ'=>W.nx ρ'
  | .rt d=>W.rt d
  | .bk ρ'=>W.bk ρ'
  | .ct ρ'=>W.ct ρ'
  | .no=>False
section
variable {s u b:DS} {ρ:Rho} {W:Wk} {i:Nat} {a e k:DE} {d:D} {c:Rho→Option Bool} {es:Rho→Option (List D)} {ds:List D} {g:DG}
theorem wp_seq (h:Wp s ρ { W with nx:=fun ρ'=>Wp u ρ' W }):Wp (sSeq s u) ρ W:=by
  unfold Wp sSeq at *
  cases e:s ρ <;> rw [e] at h <;> exact h
theorem wp_pass (h:W.nx ρ):Wp sPass ρ W:=by unfold Wp sPass; exact h
theorem wp_ret (h:a ρ=some d) (k:W.rt d):Wp (sRet a) ρ W:=by unfold Wp sRet; rw [h]; exact k
theorem wp_if {x:Bool} (h:c ρ=some x) (ht:x=true→Wp s ρ W) (hf:x=false→Wp u ρ W):Wp (sIf c s u) ρ W:=by
  unfold Wp sIf at *
  rw [h]
  cases x
  · exact hf rfl
  · exact ht rfl
theorem wp_ifp {p:Prop} {_:Decidable p} (h:c ρ=some (decide p)) (ht:p→Wp s ρ W) (hf:¬ p→Wp u ρ W):Wp (sIf c s u) ρ W:=by
  refine wp_if h (fun q=>ht (of_decide_eq_true q)) fun q=>hf (of_decide_eq_false q)
theorem wp_ifF (h:c ρ=some false) (ht:Wp u ρ W):Wp (sIf c s u) ρ W:=wp_if h (fun q=>by cases q) fun _=>ht
theorem wp_set (h:a ρ=some d) (k:W.nx (ρ.set i (.pu d))):Wp (sSet i a) ρ W:=by unfold Wp sSet; rw [h]; exact k
theorem wp_setO (h:es ρ=some ds) (hi:i < ρ.length) (k:W.nx (ρ.set i (.ol ds))):Wp (sSetO i es) ρ W:=by unfold Wp sSetO; rw [h]; simp only [if_pos hi]; exact k
theorem wp_frz (h:Wp s (frz i ρ) W):Wp (sFrz i s) ρ W:=by unfold Wp sFrz at *; exact h
theorem wp_app (h0:ρ.getD i .un=.ol ds) (h:a ρ=some d) (hl:ds.length<sizeLine) (k:W.nx (ρ.set i (.ol (ds++[d])))):Wp (sApp i a) ρ W:=by unfold Wp sApp; rw [h0]; simp only [h,if_pos hl]; exact k
theorem wp_ins {n:Int} (h0:ρ.getD i .un=.ol ds) (h:a ρ=some (.int n)) (h1:e ρ=some d) (hl:0≤n∧n≤ds.length∧ds.length<sizeLine) (k:W.nx (ρ.set i (.ol (ds.take n.toNat++d::ds.drop n.toNat)))):Wp (sIns i a e) ρ W:=by
  unfold Wp sIns; rw [h0]; simp only [h,h1,if_pos hl]; exact k
theorem wp_put {n:Int} {j:Nat} (h0:ρ.getD i .un=.ol ds) (h1:a ρ=some d) (h:e ρ=some (.int n)) (hj:ixN ds.length n=some j) (k:W.nx (ρ.set i (.ol (ds.set j d)))):Wp (sPut i e a) ρ W:=by
  unfold Wp sPut; rw [h0]; simp only [h,h1,hj]; exact k
theorem wp_for {it:Rho→Option (List D)} (h:it ρ=some ds) (I:Nat→Rho→Prop) (h0:I 0 ρ)
    (hs:∀ (j:Nat) (d:D) (ρ:Rho),ds[j]?=some d→I j ρ→∃ ρ1,g d ρ=some ρ1∧Wp b ρ1 { W with nx:=I (j+1),ct:=I (j+1),bk:=W.nx })
    (he:∀ ρ,I ds.length ρ→W.nx ρ):Wp (sFor it g b) ρ W:=by
  have key:∀ (n j:Nat) (ρ:Rho),n=ds.length-j→j≤ds.length→I j ρ→Wp (fun ρ=>forD g b (ds.drop j) ρ) ρ W:=by
    intro n
    induction n with
    | zero =>
      intro j ρ hn hj hI
      have e:j=ds.length:=by omega
      subst e
      unfold Wp
      simp only [List.drop_length,forD]
      exact he ρ hI
    | succ n ih =>
      intro j ρ hn hj hI
      have hlt:j<ds.length:=by omega
      obtain ⟨ρ1,e1,w1⟩:=hs j ds[j] ρ (List.getElem?_eq_getElem hlt) hI
      unfold Wp
      dsimp only
      rw [List.drop_eq_getElem_cons hlt]
      unfold forD
      rw [e1]
      unfold Wp at w1
      dsimp only
      cases e2:b ρ1 with
      | nx ρ2=>rw [e2] at w1; have q:=ih (j+1) ρ2 (by omega) hlt w1; unfold Wp at q; exact q
      | ct ρ2=>rw [e2] at w1; have q:=ih (j+1) ρ2 (by omega) hlt w1; unfold Wp at q; exact q
      | bk ρ2=>rw [e2] at w1; exact w1
      | rt d=>rw [e2] at w1; exact w1
      | no=>rw [e2] at w1; exact w1
  have:=key _ 0 ρ rfl (Nat.zero_le _) h0
  unfold Wp at this
  unfold Wp sFor
  rw [h]
  exact this
end
section
variable {ρ:Rho} {a b c:DE} {i j k:Int} {d e:D} {es:Rho→Option (List D)} {ds:List D}
theorem ev_add (ha:a ρ=some (.int i)) (hb:b ρ=some (.int j)):dAdd a b ρ=some (.int (i+j)):=by unfold dAdd dII; rw [ha,hb]
theorem ev_sub (ha:a ρ=some (.int i)) (hb:b ρ=some (.int j)):dSub a b ρ=some (.int (i-j)):=by unfold dSub dII; rw [ha,hb]
theorem ev_mul (ha:a ρ=some (.int i)) (hb:b ρ=some (.int j)) (h:IntMulOk i j):dMul a b ρ=some (.int (i*j)):=by unfold dMul dII; rw [ha,hb]; exact gC_pos h
theorem ev_mod (ha:a ρ=some (.int i)) (hb:b ρ=some (.int j)) (h:0<j):dMod a b ρ=some (.int (i % j)):=by unfold dMod dII; rw [ha,hb]; exact gC_pos (C:=fun _ j=>0<j) h
theorem ev_pow (ha:a ρ=some (.int i)) (hb:b ρ=some (.int j)) (h:CPow i j):dPow a b ρ=some (.int (i ^ j.toNat)):=by unfold dPow dII; rw [ha,hb]; exact gC_pos h
theorem ev_lt (ha:a ρ=some (.int i)) (hb:b ρ=some (.int j)):dLt a b ρ=some (.bl (decide (i<j))):=by unfold dLt dII; rw [ha,hb]
theorem ev_le (ha:a ρ=some (.int i)) (hb:b ρ=some (.int j)):dLe a b ρ=some (.bl (decide (i≤j))):=by unfold dLe dII; rw [ha,hb]
theorem ev_gt (ha:a ρ=some (.int i)) (hb:b ρ=some (.int j)):dGt a b ρ=some (.bl (decide (j<i))):=by unfold dGt dII; rw [ha,hb]
theorem ev_chain {p q:Int→Int→Bool} (ha:a ρ=some (.int i)) (hb:b ρ=some (.int j)) (hc:c ρ=some (.int k)):dChain p q a b c ρ=some (.bl (p i j&&q j k)):=by
  unfold dChain; rw [ha,hb]; dsimp only
  cases e:p i j
  · rfl
  · rw [if_pos rfl,hc]; rfl
theorem ev_max2 (ha:a ρ=some (.int i)) (hb:b ρ=some (.int j)):dMax2 a b ρ=some (.int (max i j)):=by
  have e:(if j > i then j else i)=max i j:=by split <;> omega
  unfold dMax2 dII; rw [ha,hb,← e]
theorem ev_t {x:Bool} (ha:a ρ=some (.bl x)):dT a ρ=some x:=by unfold dT; rw [ha]
theorem ev_tru {x:Bool} (ha:a ρ=some d) (h:truD d=some x):dTru a ρ=some x:=by unfold dTru; rw [ha]; exact h
theorem ev_not {p:Rho→Option Bool} {x:Bool} (ha:p ρ=some x):dNot p ρ=some (!x):=by unfold dNot; rw [ha]
theorem ev_and {p q:Rho→Option Bool} {x y:Bool} (ha:p ρ=some x) (hb:x=true→q ρ=some y):dAnd p q ρ=some (x&&y):=by
  unfold dAnd; rw [ha]; cases x
  · rfl
  · rw [hb rfl]; rfl
theorem ev_or {p q:Rho→Option Bool} {x y:Bool} (ha:p ρ=some x) (hb:x=false→q ρ=some y):dOr p q ρ=some (x || y):=by
  unfold dOr; rw [ha]; cases x
  · rw [hb rfl]; rfl
  · rfl
theorem ev_scal (ha:a ρ=some d) (h:d.scal=true):gScal a ρ=some d:=by unfold gScal; rw [ha]; exact if_pos h
theorem ev_lst (h:es ρ=some ds):dLst es ρ=some (.lst ds):=by unfold dLst; rw [h]; rfl
theorem ev_tup (h:es ρ=some ds):dTup es ρ=some (.tup ds):=by unfold dTup; rw [h]; rfl
theorem ev_cons (h:a ρ=some d) (h2:es ρ=some ds):dCons a es ρ=some (d::ds):=by unfold dCons; rw [h,h2]
theorem ev_ix (ha:a ρ=some d) (hb:b ρ=some (.int i)) (h:ixD d i=some e):dIx a b ρ=some e:=by unfold dIx; rw [ha,hb]; exact h
theorem ev_f1 {g:D→Option D} (ha:a ρ=some d) (h:g d=some e):dF1 g a ρ=some e:=by unfold dF1; rw [ha]; exact h
theorem ev_call {F:List D→Option D} (h:es ρ=some ds) (h2:F ds=some d):dCall F es ρ=some d:=by unfold dCall; rw [h]; exact h2
theorem ev_eq {neg:Bool} (ha:a ρ=some d) (hb:b ρ=some e) (h:cmpb 20 d e=true):dEq neg a b ρ=some (.bl (if neg=true then !decide (d=e) else decide (d=e))):=by unfold dEq; rw [ha,hb]; exact if_pos h
theorem ev_eqI {neg:Bool} (ha:a ρ=some (.int i)) (hb:b ρ=some (.int j)):dEq neg a b ρ=some (.bl (if neg=true then !decide (i=j) else decide (i=j))):=by
  rw [ev_eq ha hb rfl]
  have e:decide (D.int i=D.int j)=decide (i=j):=by rw [dec_int]; rw [Bool.eq_iff_iff]; simp
  rw [e]
theorem ev_eqF (ha:a ρ=some (.int i)) (hb:b ρ=some (.int j)):dEq false a b ρ=some (.bl (decide (i=j))):=ev_eqI (neg:=false) ha hb
theorem ev_neF (ha:a ρ=some (.int i)) (hb:b ρ=some (.int j)):dEq true a b ρ=some (.bl (decide (i≠j))):=by
  rw [ev_eqI (neg:=true) ha hb,if_pos rfl]
  congr 2
  rw [Bool.eq_iff_iff]
  simp
theorem ev_eqSame {d:D} (ha:a ρ=some d) (hb:b ρ=some d) (h:cmpb 20 d d=true):dEq false a b ρ=some (.bl true):=by
  rw [ev_eq ha hb h,if_neg Bool.false_ne_true,decide_eq_true rfl]
theorem cmp_ints {n:Nat} (xs ys:List Int):cmpb (n+1) (.lst (xs.map D.int)) (.lst (ys.map D.int))=true:=by
  show (decide _ || (List.zip (xs.map D.int) (ys.map D.int)).all fun p=>cmpb n p.1 p.2)=true
  rw [Bool.or_eq_true]
  refine .inr (List.all_eq_true.mpr fun q hq=>?_)
  obtain ⟨a,b⟩:=q
  obtain ⟨h1,h2⟩:=List.of_mem_zip hq
  obtain ⟨x,_,rfl⟩:=List.mem_map.mp h1
  obtain ⟨y,_,rfl⟩:=List.mem_map.mp h2
  cases n <;> rfl
theorem ev_asL (ha:a ρ=some d) (h:lof d=some ds):asL a ρ=some ds:=by unfold asL; rw [ha]; exact h
theorem ev_rep (h:es ρ=some ds) (hb:b ρ=some (.int i)) (hc:-(2 ^ 63)≤i∧i<2 ^ 63∧ds.length*i.toNat≤sizeLine):dRep es b ρ=some (List.replicate i.toNat ds).flatten:=by unfold dRep; rw [h,hb]; exact if_pos hc
theorem ev_sl {lo hi:Rho→Option (Option Int)} {l u:Option Int} (h:asL a ρ=some ds) (h1:lo ρ=some l) (h2:hi ρ=some u):dSl a lo hi ρ=some (cutL ds l u):=by unfold dSl; rw [h,h1,h2]
theorem ev_flat (h:es ρ=some ds) (hf:flatL ds=true):gFlat es ρ=some ds:=by unfold gFlat; rw [h]; exact if_pos hf
theorem ev_cat {xs ys:List D} (ha:a ρ=some (.lst xs)) (hb:b ρ=some (.lst ys)) (h:xs.length+ys.length≤sizeLine):dCat a b ρ=some (xs++ys):=by unfold dCat; rw [ha,hb]; exact if_pos h
theorem ev_inI {neg:Bool} {ns:List Int} (ha:a ρ=some (.int i)) (hb:b ρ=some (.lst (ns.map D.int))):dIn neg a b ρ=some (.bl (if neg=true then !decide (i∈ns) else decide (i∈ns))):=by
  unfold dIn; rw [ha,hb]; dsimp only [inS]; rw [asInts_map]; rfl
theorem run_of {n:Nat} {ms:List Bool} {b:DS} {ds:List D} {P:D→Prop} (h:Wp b (stD n ms ds) { nx:=fun _=>P .non,rt:=P }):∃ d,runD n ms b ds=some d∧P d:=by
  unfold Wp at h
  unfold runD
  cases e:b (stD n ms ds) with
  | nx ρ=>rw [e] at h; exact ⟨_,rfl,h⟩
  | rt d=>rw [e] at h; exact ⟨_,rfl,h⟩
  | bk ρ=>rw [e] at h; exact h.elim
  | ct ρ=>rw [e] at h; exact h.elim
  | no=>rw [e] at h; exact h.elim
theorem run_eq {n:Nat} {ms:List Bool} {b:DS} {ds:List D} {d:D} (h:Wp b (stD n ms ds) { nx:=fun _=>D.non=d,rt:=fun x=>x=d }):runD n ms b ds=some d:=by
  obtain ⟨x,e,rfl⟩:=run_of (P:=fun x=>x=d) h
  exact e
theorem run_ofF {F:List D→Option D} {n:Nat} {ms:List Bool} {b:DS} (hF:F=runD n ms b) {ds:List D} {P:D→Prop} (h:Wp b (stD n ms ds) { nx:=fun _=>P .non,rt:=P }):∃ d,F ds=some d∧P d:=by rw [hF]; exact run_of h
theorem run_eqF {F:List D→Option D} {n:Nat} {ms:List Bool} {b:DS} (hF:F=runD n ms b) {ds:List D} {d:D} (h:Wp b (stD n ms ds) { nx:=fun _=>D.non=d,rt:=fun x=>x=d }):F ds=some d:=by rw [hF]; exact run_eq h
theorem imul {i j:Int} (h:(-(2 ^ 64)<i∧i<2 ^ 64)∨(-(2 ^ 64)<j∧j<2 ^ 64)):IntMulOk i j:=CMul.ok h
theorem ixI {ns:List Int} {i:Int} (h0:0≤i) (h1:i<ns.length):ixD (.lst (ns.map D.int)) i=some (.int (ns.getD i.toNat 0)):=by
  show atI (ns.map D.int) i=_
  unfold atI ixN
  rw [if_pos h0,List.length_map,if_pos h1]
  show (ns.map D.int)[i.toNat]?=_
  have hi:i.toNat<ns.length:=by omega
  rw [List.getElem?_map,List.getElem?_eq_getElem hi,List.getD_eq_getElem?_getD,List.getElem?_eq_getElem hi]
  rfl
theorem ixS {ns:List Int} {i:Int} (h0:0≤i) (h1:i<ns.length):ixD (.scr ns) i=some (.int (ns.getD i.toNat 0)):=by
  show (atI ns i).map D.int=_
  unfold atI ixN
  rw [if_pos h0,if_pos h1]
  have hi:i.toNat<ns.length:=by omega
  show (ns[i.toNat]?).map D.int=_
  rw [List.getElem?_eq_getElem hi,List.getD_eq_getElem?_getD,List.getElem?_eq_getElem hi]
  rfl
def pk3 (i x y z:Int):Int:=if i=0 then x else if i=1 then y else z
theorem ix3I (c x y z:Int):ixD (.lst [.int x,.int y,.int z]) (c % 3)=some (.int (pk3 (c % 3) x y z)):=by
  have h:c % 3=0∨c % 3=1∨c % 3=2:=by omega
  rcases h with h | h | h <;> rw [h] <;> rfl
theorem ixN_in {n:Nat} {i:Int} (h0:0≤i) (h1:i<n):ixN n i=some i.toNat:=by unfold ixN; rw [if_pos h0,if_pos h1]
end
end
end VL
namespace L2
open PySem PySem.Spec PyProof.Rows
section
variable {prog:Program} {w:World} {A:Around} {R:Result→Shared→Prop} {I:Addr} {fp wr:List Addr} {n:Nat} {P:Nat→Value→Prop} {St:Nat→Heap→Prop} {kw:List (Str×Value)}
end
section
variable {prog:Program} {w:World} {A:Around} {E:Value→Shared→Prop} {s:Shared}
end
section
variable {X:Cx}
end
section
variable {X:Cx} {K:PySem.W.Frag}
end
end L2
namespace VL
open PySem L2
open Classical
noncomputable section
section
variable [Tabs] {K:PySem.W.Frag} {ta tb tc:TE} {a b c:DE}
theorem ev_compA {α:Type} {ρ:Rho} {k:Nat} {cs:List Nat} {it:Rho→Option (List D)} {g:DG} {t:Rho→Option Bool} {el:DE} (emb:α→D) {xs:List α} (h:it ρ=some (xs.map emb)) (p:α→Bool) (f:α→D)
    (hs:∀ x∈xs,∃ ρ1,g (emb x) (r0 k cs ρ)=some ρ1∧t ρ1=some (p x)∧(p x=true→el ρ1=some (f x))):dComp k cs it g t el ρ=some ((xs.filter p).map f):=by
  unfold dComp
  rw [h]
  dsimp only
  clear h
  induction xs with
  | nil=>rfl
  | cons x r ih =>
    obtain ⟨ρ1,e1,e2,e3⟩:=hs x List.mem_cons_self
    have ih:=ih fun d hd=>hs d (List.mem_cons_of_mem _ hd)
    rw [List.map_cons]
    unfold compGo
    rw [e1]
    dsimp only
    rw [e2]
    cases hp:p x with
    | false =>
      dsimp only
      rw [ih,List.filter_cons_of_neg (by simp [hp])]
    | true =>
      dsimp only
      rw [e3 hp,ih,List.filter_cons_of_pos hp]
      rfl
theorem ev_compA0 {α:Type} {ρ:Rho} {k:Nat} {cs:List Nat} {it:Rho→Option (List D)} {g:DG} {el:DE} (emb:α→D) {xs:List α} (h:it ρ=some (xs.map emb)) (f:α→D)
    (hs:∀ x∈xs,∃ ρ1,g (emb x) (r0 k cs ρ)=some ρ1∧el ρ1=some (f x)):dComp k cs it g dTrue el ρ=some (xs.map f):=by
  have:=ev_compA (ρ:=ρ) (k:=k) (cs:=cs) (it:=it) (g:=g) (t:=dTrue) (el:=el) emb h (fun _=>true) f fun d hd=>let ⟨ρ1,e1,e2⟩:=hs d hd; ⟨ρ1,e1,rfl,fun _=>e2⟩
  rw [this,List.filter_eq_self.mpr fun _ _=>rfl]
theorem cmp_lst {n:Nat} {xs ys:List D} (h:∀ x∈xs,∀ y∈ys,cmpb n x y=true):cmpb (n+1) (.lst xs) (.lst ys)=true:=by
  show (decide _ || (List.zip xs ys).all fun p=>cmpb n p.1 p.2)=true
  rw [Bool.or_eq_true]
  refine .inr (List.all_eq_true.mpr fun q hq=>?_)
  obtain ⟨a,b⟩:=q
  obtain ⟨h1,h2⟩:=List.of_mem_zip hq
  exact h a h1 b h2
theorem cmp_tup2 {n:Nat} {a b a' b':D} (h1:cmpb n a a'=true) (h2:cmpb n b b'=true):cmpb (n+1) (.tup [a,b]) (.tup [a',b'])=true:=by
  show (decide _&&(List.zip [a,b] [a',b']).all fun p=>cmpb n p.1 p.2)=true
  rw [Bool.and_eq_true]
  refine ⟨rfl,?_⟩
  show (cmpb n a a'&&(cmpb n b b'&&true))=true
  rw [h1,h2]
  rfl
end
end
end VL
namespace L2
end L2
namespace L2
open PySem PySem.Spec PyProof.Rows
open VL (s0)
structure FreesC (X:Cx) (N':List Str) (scope:Scope) (cl:List (Str×Addr)) (σ σ0:St):Prop where
  sub:∀ x c,cl.lookup x=some c→X.env.cells.lookup x=some c
  vals:∀ (j:Nat) (x:Str) (v:V),N'[j]?=some x→σ0[j]?=some (some v)→∃ (i:Nat) (c:Addr),X.N[i]?=some x∧σ[i]?=some (some v)∧Vis X.env.scope x∧X.env.kindOf x≠some .local∧cl.lookup x=some c ∧
    ((relabel scope X.env).names.lookup x=some .cell∨(relabel scope X.env).names.lookup x=some .free)
  vout:∀ (j:Nat) (x:Str) (v:V),N'[j]?=some x→σ0[j]?=some (some v)→(scope.names.all fun y=>!(y.2==.cell) || !(y.1==x))=true
  has:∀ x,((relabel scope X.env).names.lookup x=some .cell∨(relabel scope X.env).names.lookup x=some .free)→scope.names.lookup x=some .cell∨(cl.lookup x).isSome=true
  out:∀ x c,(scope.names.lookup x==some .cell)=true→¬ cl.lookup x=some c
  len:σ0.length=N'.length
section
variable {X:Cx} {tg elt iter:Expr} {ifs:List Expr} {scope:Scope} {cl:List (Str×Addr)} {N':List Str} {σ0:St→St} {g:TG} {tt:TT} {te:TE}
variable {pos:Pos} {wi:TI}
variable {c:Expr} {ts zs:List Str} {is:List Nat} {k:Nat}
end
end L2
namespace L2
open PySem PySem.Spec PyProof.Rows
end L2
namespace L2
open PySem PySem.Spec PyProof.Rows
section
variable {X:Cx}
end
end L2
namespace VL
open PySem L2
open Classical
noncomputable section
variable [Tabs] {K:PySem.W.Frag}
end
end VL
namespace PySem
open Sem (wp)
section
variable {prog:Program} {w:World} {A:Around} {E:Value→Shared→Prop} {s:Shared}
end
end PySem
namespace L2
open PySem PySem.Spec PyProof.Rows
section
variable {X:Cx}
end
end L2
namespace VL
open PySem L2
open Classical
noncomputable section
variable [Tabs] {K:PySem.W.Frag}
end
end VL
namespace VL
open PySem L2
open Classical
noncomputable section
variable [Tabs] {K:PySem.W.Frag} {fr:Fm}
theorem Paired.getF {α β:Type} {F:α→β→Prop}:∀ {ps:List α} {rows:List β} {r:Nat} {y:β},Paired F ps rows→rows[r]?=some y→∃ p,ps[r]?=some p∧F p y
  | _,_,0,_,.cons h _,e=>by cases e; exact ⟨_,rfl,h⟩
  | _,_,r+1,_,.cons _ t,e=>by
    obtain ⟨p,e1,h⟩:=Paired.getF (r:=r) t (by simpa using e)
    exact ⟨p,by simpa using e1,h⟩
end
end VL
namespace VL
open PySem L2
open Classical
noncomputable section
variable [Tabs] {K:PySem.W.Frag} {fr:Fm}
section
variable {s u b:DS} {ρ:Rho} {W:Wk} {i:Nat} {a e k c:DE} {d:D} {rows:List (List D)} {ds:List D}
end
end
end VL
namespace VL
open PySem L2
open Classical
noncomputable section
variable [Tabs] {K:PySem.W.Frag} {fr:Fm}
inductive Puts (K:PySem.W.Frag):List (TE×TE)→List (DE×DE)→Prop
  | nil:Puts K [] []
  | cons {tc ta:TE} {c a:DE} {l:List (TE×TE)} {l':List (DE×DE)} (ha:SemI K ta a) (hc:SemB K tc c) (r:Puts K l l'):Puts K ((tc,ta)::l) ((c,a)::l')
end
end VL
namespace L2
open PySem PySem.Spec PyProof.Rows
structure Hop (fr ch:List Addr) (h h':Heap):Prop where
  keep:∀ b o,b∉fr→b∉ch→h.get? b=some o→h'.get? b=some o
  slot:∀ b o,b∉ch→h.get? b=some o→∃ sl,h'.get? b=some { o with slots:=sl }
section
variable {M:Model} {A:Around} {E:Value→Shared→Prop} {s:Shared} {base:Heap} {env:Env} {outer:List Env} {L e T:Addr} {cls fl:Value} {Q:Unit→Shared→Prop}
end
structure Out (X:Cx) (pins:List (Addr×Obj)) (H:Hp) (b:Addr):Prop where
  h:H b=none
  s0:X.s₀.heap.get? b=none
  loc:b≠X.env.locals
  cell:∀ x c,X.env.cells.lookup x=some c→c≠b
  pin:∀ p∈X.pn++pins,p.1≠b
section
variable {P:Program} {w:World} {H:Hp} {h:Heap} {a:Addr} {o:HO}
theorem ObjOk.live (x:ObjOk P w H h a o):∃ u,h.get? a=some u:=by
  cases o with
  | lst xs=>obtain ⟨_,_,_,_,e⟩:=x; exact ⟨_,e⟩
  | tup xs=>obtain ⟨_,_,_,ob,e,_⟩:=x; exact ⟨_,e⟩
  | dK kvs=>obtain ⟨_,_,_,_,o,_,_,e,_⟩:=x; exact ⟨_,e⟩
  | dT kvs=>obtain ⟨_,_,_,_,o,_,_,e,_⟩:=x; exact ⟨_,e⟩
  | set S n=>obtain ⟨o,_,_,_,e,_⟩:=x; exact ⟨_,e⟩
  | ins C dx fs=>obtain ⟨_,_,_,e,_⟩:=x; exact ⟨_,e⟩
  | own y=>exact x
  | xd fs=>obtain ⟨_,⟨_,_,_,e,_⟩,_⟩:=x; exact ⟨_,e⟩
  | rng lo hi=>obtain ⟨_,_,_,e⟩:=x; exact ⟨_,e⟩
  | frz ob u=>obtain ⟨e,_⟩:=x; exact ⟨_,e⟩
  | tbl ps=>obtain ⟨_,_,_,_,e,_⟩:=x; exact ⟨_,e⟩
  | met f y=>exact ⟨_,show h.get? a=some _ from x⟩
  | ext φ=>obtain ⟨_,e,_⟩:=x; exact e
end
section
variable {X:Cx} {pins:List (Addr×Obj)} {σ:St} {H H':Hp} {s:Shared}
theorem Inv.out (I:Inv X pins σ H s) (hx:X.ex=[]) {b:Addr} (e:s.heap.get? b=none):Out X pins H b where
  h:=by
    cases q:H b with
    | none=>rfl
    | some o=>obtain ⟨u,hu⟩:=(I.hok b o q).live; rw [e] at hu; cases hu
  s0:=by
    cases q:X.s₀.heap.get? b with
    | none=>rfl
    | some o=>obtain ⟨u,hu⟩:=I.base.there b o q (by rw [hx]; simp); rw [e] at hu; cases hu
  loc:=fun z=>by
    obtain ⟨m,⟨o,_,_,ho,_⟩,_⟩:=I.loc
    rw [← z,e] at ho; cases ho
  cell:=fun x c q z=>by
    obtain ⟨v,o,ho,_⟩:=I.cell x c q
    rw [z,e] at ho; cases ho
  pin:=fun p hp z=>by
    have:=(I.pin p hp).1
    rw [z,e] at this; cases this
end
structure OwnX (X:Cx):Prop where
  stk:X.stack=X.env::X.outer
  fr:X.env.frame=some X.env.locals
  ex:X.ex=[]
section
variable {X:Cx} {pins:List (Addr×Obj)} {σ:St} {H:Hp} {s s':Shared} {E:XK} {e:Value}
end
end L2
namespace L2
open PySem PySem.Spec PyProof.Rows
section
variable {X:Cx} {pins:List (Addr×Obj)} {σ:St} {H:Hp} {s:Shared} {a:Addr} {u:HO}
theorem Inv.track (I:Inv X pins σ H s) (o:Out X pins H a) (ob:ObjOk X.prog X.w (upd H a u) s.heap a u):Inv X pins σ (upd H a u) s:=by
  have ne:∀ b v,H b=some v→b≠a:=fun b v q z=>by rw [z,o.h] at q; cases q
  refine ⟨I.ok,I.os,I.bare,⟨I.base.keep,I.base.slot,fun b v q n hx=>?_,I.base.there,fun b xs q=>?_,fun b v xs q=>?_,fun b ps q=>?_⟩,I.loc,I.cell,?_,fun x c e=>?_,fun p hp=>?_,fun b v q=>?_,I.len⟩
  · rw [upd_ne (fun z=>by rw [z,o.s0] at q; cases q)]; exact I.base.free b v q n hx
  · have r:=I.base.tups b xs q; rw [upd_ne (ne b _ r)]; exact r
  · have r:=I.base.frzs b v xs q; rw [upd_ne (ne b _ r)]; exact r
  · obtain ⟨m,r⟩:=I.base.tbls b ps q; exact ⟨m,by rw [upd_ne (ne b _ r)]; exact r⟩
  · rw [upd_ne (Ne.symm o.loc)]; exact I.free
  · rw [upd_ne (o.cell x c e)]; exact I.freeC x c e
  · obtain ⟨e,n,r⟩:=I.pin p hp
    exact ⟨e,by rw [upd_ne (o.pin p hp)]; exact n,r⟩
  · by_cases hb:b=a
    · subst hb; rw [upd_same] at q; cases q; exact ob
    · rw [upd_ne hb] at q
      exact (I.hok b v q).stay (fun c y _ r=>r) (fun c r=>by rw [upd_ne (ne c _ r)]; exact r) (fun c xs r=>by rw [upd_ne (ne c _ r)]; exact r) fun c o u r=>by rw [upd_ne (ne c _ r)]; exact r
end
section
variable {X:Cx} {k:Nat} {f:Addr} {fd:FuncData} {ps:List Str} {sp:Sp} {x y n v:Str} {e:Expr} {es:List Expr} {t:TA} {F:Value} {iv ie:Nat} {p1 p2 p3 p4 p5 p6 p7 p8 pos:Pos}
end
structure ExcK (K:PySem.W.Frag) (C:Addr):Prop where
  ga:PySem.W.findIn K (.ref C) "__getattribute__" = some (some (.builtin "BaseException.__getattribute__"))
  gk:PySem.W.findIn K (.ref C) "__getattr__" = some none
  hd:PySem.W.hasDictIn K C=true
  ca:PySem.W.findIn K (.ref C) "__class__" = some (some (.builtin "object.__class__"))
  sp:PySem.W.specialIn K (.builtin "object.__class__") "__get__" = some (some (.builtin "getset_descriptor.__get__"))
  tk:PySem.W.takesIn K (.builtin "object.__class__")=some true
  mro:PySem.W.mroIn K C (.type "object")=some true
  mrb:PySem.W.mroIn K C (.type "BaseException")=some true
end L2
namespace L2
open PySem PySem.Spec PyProof.Rows
inductive PParts (X:Cx):List Expr→List TE→Prop
  | nil:PParts X [] []
  | text {x:Str} {j p es ts} (hx:x.length≤1000) (h:PParts X es ts):PParts X (.Constant (.str x) j p::es) ts
  | val {e:Expr} {p es ts} {t:TE} (he:PE X e t) (h:PParts X es ts):PParts X (.FormattedValue e (-1) none p::es) (t::ts)
end L2
namespace VL
open PySem L2
open Classical
noncomputable section
variable [Tabs] {K:PySem.W.Frag}
variable {E:XK} {C:Addr}
inductive SemJ (K:PySem.W.Frag):List TE→List DE→Prop
  | nil:SemJ K [] []
  | cons {t ts a as} (h:SemB K t a) (r:SemJ K ts as):SemJ K (t::ts) (a::as)
theorem same_new {H:Hp} {a:Addr} {o:HO} (h:H a=none):Same H (upd H a o):=fun b u e=>by rw [upd_ne (ne_of_none e h)]; exact e
variable {iv ie:Nat}
end
end VL
namespace VL
open PySem L2
open Classical
noncomputable section
variable [Tabs] {K:PySem.W.Frag} {fr:Fm}
end
end VL
namespace Srt
open PySem PySem.W PyProof.Rows
def KOk {α:Type} (lt:Nat→Nat→Bool) (n:Nat):KasT α→(α→Prop)→Prop
  | .ret a,Q=>Q a
  | .ask i j k,Q=>i<n∧j<n∧KOk lt n (k (lt i j)) Q
section
variable {lt:Nat→Nat→Bool} {N:Nat}
theorem KOk.bind {α β:Type} {f:α→KasT β} {Q:β→Prop}:∀ (t:KasT α),KOk lt N t (fun a=>KOk lt N (f a) Q)→KOk lt N (t.bind f) Q
  | .ret _,h=>h
  | .ask _ _ k,h=>⟨h.1,h.2.1,KOk.bind (k _) h.2.2⟩
theorem KOk.mono {α:Type} {Q Q':α→Prop} (hq:∀ a,Q a→Q' a):∀ (t:KasT α),KOk lt N t Q→KOk lt N t Q'
  | .ret a,h=>hq a h
  | .ask _ _ k,h=>⟨h.1,h.2.1,KOk.mono hq (k _) h.2.2⟩
theorem KOk.wp {α:Type} {cmp:Nat→Nat→(Bool→Shared→Prop)→Shared→Prop} {s:Shared} (hc:∀ i j (C:Bool→Shared→Prop),i<N→j<N→C (lt i j) s→cmp i j C s) {Q:α→Shared→Prop} :
    ∀ (t:KasT α),KOk lt N t (fun a=>Q a s)→t.kasWp cmp Q s
  | .ret _,h=>h
  | .ask i j k,h=>hc i j _ h.1 h.2.1 (KOk.wp hc (k _) h.2.2)
structure Ord (lt:Nat→Nat→Bool):Prop where
  tr:∀ a b c,lt b a=false→lt c b=false→lt c a=false
  as:∀ a b,lt a b=true→lt b a=false
abbrev g (p:Array Nat) (i:Nat):Nat:=p.getD i 0
def Up (lt:Nat→Nat→Bool) (p:Array Nat) (k:Nat):Prop:=∀ i j,i≤j→j<k→lt (g p j) (g p i)=false
def Dn (lt:Nat→Nat→Bool) (p:Array Nat) (k:Nat):Prop:=∀ i j,i≤j→j<k→lt (g p i) (g p j)=false
def Eqv (lt:Nat→Nat→Bool) (p:Array Nat) (a b:Nat):Prop:=∀ i j,a≤i→i<b→a≤j→j<b→lt (g p i) (g p j)=false
def Lo (N:Nat) (p:Array Nat):Prop:=p.size=N∧∀ i,g p i<N
theorem Lo.of_perm {p q:Array Nat} (h0:0<N) (h:Lo N p) (hp:q.Perm p):Lo N q:=by
  refine ⟨hp.size_eq.trans h.1,fun i=>?_⟩
  unfold g
  by_cases c:i<q.size
  · have m:q[i]∈p:=hp.mem_iff.mp (Array.getElem_mem c)
    obtain ⟨j,hj,e⟩:=Array.mem_iff_getElem.mp m
    have:=h.2 j
    unfold g at this
    rw [Array.getD_eq_getD_getElem?,Array.getElem?_eq_getElem hj] at this
    rw [Array.getD_eq_getD_getElem?,Array.getElem?_eq_getElem c]
    show q[i]<N
    rw [← e]
    exact this
  · rw [Array.getD_eq_getD_getElem?,Array.getElem?_eq_none (by omega)]
    exact h0
theorem g_rev {p:Array Nat} {i j:Nat} (hj:j≤p.size) (k:Nat):g (kas_rev p i j) k=if i≤k∧k<j then g p (i+j-1-k) else g p k:=by
  unfold g kas_rev
  rw [Array.getD_eq_getD_getElem?,getElem?_mirror_all hj]
  by_cases c:i≤k∧k<j
  · rw [if_pos c,if_pos c,Array.getD_eq_getD_getElem?]
  · rw [if_neg c,if_neg c,Array.getD_eq_getD_getElem?]
theorem g_bub {p:Array Nat} {s d:Nat} (hs:s<p.size) (hd:d≤s) (k:Nat):g (bubble p s d) k=if k=s-d then g p s else if s-d<k∧k≤s then g p (k-1) else g p k:=by
  unfold g
  rw [Array.getD_eq_getD_getElem?,getElem?_bubble hs d hd]
  by_cases c:k=s-d
  · rw [if_pos c,if_pos c,Array.getD_eq_getD_getElem?]
  · rw [if_neg c,if_neg c]
    by_cases c2:s-d<k∧k≤s
    · rw [if_pos c2,if_pos c2,Array.getD_eq_getD_getElem?]
    · rw [if_neg c2,if_neg c2,Array.getD_eq_getD_getElem?]
theorem rev_perm {p:Array Nat} {i j:Nat}:(kas_rev p i j).Perm p:=mirror_perm _ _ _ _
theorem irr (o:Ord lt) (a:Nat):lt a a=false:=by
  cases h:lt a a with
  | false=>rfl
  | true=>rw [o.as a a h] at h; cases h
theorem asc_ok (o:Ord lt) {p:Array Nat} (hp:Lo N p):∀ (f n:Nat),1≤n→Up lt p n→KOk lt N (kas_asc p f n) (fun m=>n≤m∧m≤n+f∧Up lt p m∧(m<n+f→lt (g p m) (g p (m-1))=true))
  | 0,n,_,h=>⟨Nat.le_refl _,Nat.le_refl _,h,fun z=>by omega⟩
  | f+1,n,h1,h=>by
    refine ⟨hp.2 n,hp.2 (n-1),?_⟩
    cases c:lt (p.getD n 0) (p.getD (n-1) 0) with
    | true =>
      dsimp only
      rw [if_pos rfl]
      exact ⟨Nat.le_refl _,by omega,h,fun _=>c⟩
    | false =>
      dsimp only
      rw [if_neg Bool.false_ne_true]
      refine KOk.mono (fun m q=>⟨by omega,by omega,q.2.2.1,fun z=>q.2.2.2 (by omega)⟩) _ (asc_ok o hp f (n+1) (by omega) fun i j hij hj=>?_)
      by_cases e:j<n
      · exact h i j hij e
      · have:j=n:=by omega
        subst this
        by_cases e2:i=j
        · subst e2; exact irr o _
        · exact o.tr _ (g p (j-1)) _ (h i (j-1) (by omega) (by omega)) c
theorem desc_ok (o:Ord lt) (h0:0<N):∀ (f:Nat) (p:Array Nat) (n q:Nat),Lo N p→1≤n→n+f≤N→q+1≤n→Dn lt p n→Eqv lt p (n-(q+1)) n →
    KOk lt N (kas_desc f p n q) (fun r=>r.1.Perm p∧Dn lt r.1 r.2.1∧n≤r.2.1∧r.2.1≤n+f∧r.2.2+1≤r.2.1∧Eqv lt r.1 (r.2.1-(r.2.2+1)) r.2.1)
  | 0,p,n,q,_,_,_,hq,hd,he=>⟨Array.Perm.refl _,hd,Nat.le_refl _,Nat.le_refl _,hq,he⟩
  | f+1,p,n,q,hp,h1,hn,hq,hd,he=>by
    refine ⟨hp.2 n,hp.2 (n-1),?_⟩
    cases c:lt (p.getD n 0) (p.getD (n-1) 0) with
    | true =>
      dsimp only
      rw [if_pos rfl]
      by_cases hq0:q > 0
      · rw [if_pos hq0]
        have hsz:n≤p.size:=by rw [hp.1]; omega
        have gr:∀ k,g (kas_rev p (n-(q+1)) n) k=if n-(q+1)≤k∧k<n then g p (n-(q+1)+n-1-k) else g p k:=g_rev hsz
        refine KOk.mono (fun r z=>⟨z.1.trans rev_perm,z.2.1,by omega,by omega,z.2.2.2.2.1,z.2.2.2.2.2⟩) _ (desc_ok o h0 f _ (n+1) 0 (hp.of_perm h0 rev_perm) (by omega) (by omega) (by omega) (fun i j hij hj=>?_) fun i j hi1 hi2 hj1 hj2=>?_)
        · rw [gr i,gr j]
          have key:∀ k,k<n→lt (g p k) (g p n)=false:=fun k hk=>o.tr _ (g p (n-1)) _ (o.as _ _ c) (hd k (n-1) (by omega) (by omega))
          by_cases cj:n-(q+1)≤j∧j<n
          · rw [if_pos cj]
            by_cases ci:n-(q+1)≤i∧i<n
            · rw [if_pos ci]; exact he _ _ (by omega) (by omega) (by omega) (by omega)
            · rw [if_neg ci]; exact hd _ _ (by omega) (by omega)
          · rw [if_neg cj]
            by_cases ci:n-(q+1)≤i∧i<n
            · rw [if_pos ci]
              have:j=n:=by omega
              subst this
              exact key _ (by omega)
            · rw [if_neg ci]
              by_cases e:j=n
              · subst e
                by_cases e2:i=j
                · subst e2; exact irr o _
                · exact key _ (by omega)
              · exact hd _ _ hij (by omega)
        · have e1:i=n:=by omega
          have e2:j=n:=by omega
          subst e1; subst e2
          exact irr o _
      · rw [if_neg hq0]
        refine KOk.mono (fun r z=>⟨z.1,z.2.1,by omega,by omega,z.2.2.2.2.1,z.2.2.2.2.2⟩) _ (desc_ok o h0 f p (n+1) 0 hp (by omega) (by omega) (by omega) (fun i j hij hj=>?_) fun i j hi1 hi2 hj1 hj2=>?_)
        · by_cases e:j=n
          · subst e
            by_cases e2:i=j
            · subst e2; exact irr o _
            · exact o.tr _ (g p (j-1)) _ (o.as _ _ c) (hd i (j-1) (by omega) (by omega))
          · exact hd _ _ hij (by omega)
        · have e1:i=n:=by omega
          have e2:j=n:=by omega
          subst e1; subst e2
          exact irr o _
    | false =>
      dsimp only
      rw [if_neg Bool.false_ne_true]
      refine ⟨hp.2 (n-1),hp.2 n,?_⟩
      cases d:lt (p.getD (n-1) 0) (p.getD n 0) with
      | true =>
        dsimp only
        rw [if_pos rfl]
        exact ⟨Array.Perm.refl _,hd,Nat.le_refl _,Nat.le_add_right _ _,hq,he⟩
      | false =>
        dsimp only
        rw [if_neg Bool.false_ne_true]
        have key:∀ k,k<n→lt (g p k) (g p n)=false:=fun k hk=>o.tr _ (g p (n-1)) _ d (hd k (n-1) (by omega) (by omega))
        have key2:∀ k,n-(q+1)≤k→k<n→lt (g p n) (g p k)=false:=fun k hk1 hk2=>o.tr _ (g p (n-1)) _ (he (n-1) k (by omega) (by omega) hk1 hk2) c
        refine KOk.mono (fun r z=>⟨z.1,z.2.1,by omega,by omega,z.2.2.2.2.1,z.2.2.2.2.2⟩) _ (desc_ok o h0 f p (n+1) (q+1) hp (by omega) (by omega) (by omega) (fun i j hij hj=>?_) fun i j hi1 hi2 hj1 hj2=>?_)
        · by_cases e:j=n
          · subst e
            by_cases e2:i=j
            · subst e2; exact irr o _
            · exact key _ (by omega)
          · exact hd _ _ hij (by omega)
        · by_cases e:i=n
          · by_cases e2:j=n
            · rw [e,e2]; exact irr o _
            · rw [e]; exact key2 _ (by omega) (by omega)
          · by_cases e2:j=n
            · rw [e2]; exact key _ (by omega)
            · exact he _ _ (by omega) (by omega) (by omega) (by omega)
theorem tail_ok (o:Ord lt) (h0:0<N) {p:Array Nat} {n nrem:Nat} (hp:Lo N p) (h1:1≤n) (hn:n≤nrem) (hr:nrem≤N) (hd:Dn lt p n) :
    KOk lt N (kas_tail3 n nrem p) (fun r=>r.2.Perm p∧Up lt r.2 r.1∧1≤r.1∧r.1≤nrem):=by
  have gr:∀ k,g (kas_rev p 0 n) k=if 0≤k∧k<n then g p (0+n-1-k) else g p k:=g_rev (by rw [hp.1]; omega)
  refine KOk.bind _ (KOk.mono (fun m z=>?_) _ (asc_ok o (hp.of_perm h0 rev_perm) (nrem-n) n h1 fun i j hij hj=>?_))
  · exact ⟨rev_perm,z.2.2.1,by omega,by omega⟩
  · rw [gr i,gr j,if_pos (by omega),if_pos (by omega)]
    exact hd _ _ (by omega) (by omega)
theorem descPart_ok (o:Ord lt) (h0:0<N) {p:Array Nat} {n nrem:Nat} (hp:Lo N p) (h1:1≤n) (hn:n+1≤nrem) (hr:nrem≤N) (hd:Dn lt p (n+1)) :
    KOk lt N (kas_descPart n nrem p) (fun r=>r.2.Perm p∧Up lt r.2 r.1∧1≤r.1∧r.1≤nrem):=by
  refine KOk.bind _ (KOk.mono (fun r z=>?_) _ (desc_ok o h0 (nrem-(n+1)) p (n+1) 0 hp (by omega) (by omega) (by omega) hd fun i j hi1 hi2 hj1 hj2=>?_))
  · obtain ⟨z1,z2,z3,z4,z5,z6⟩:=z
    have hp1:=hp.of_perm h0 z1
    by_cases c:r.2.2 > 0
    · rw [if_pos c]
      have hsz:r.2.1≤r.1.size:=by rw [hp1.1]; omega
      have gr:∀ k,g (kas_rev r.1 (r.2.1-(r.2.2+1)) r.2.1) k=if r.2.1-(r.2.2+1)≤k∧k<r.2.1 then g r.1 (r.2.1-(r.2.2+1)+r.2.1-1-k) else g r.1 k:=g_rev hsz
      refine KOk.mono (fun t q=>⟨q.1.trans (rev_perm.trans z1),q.2⟩) _ (tail_ok o h0 (hp1.of_perm h0 rev_perm) (by omega) (by omega) hr fun i j hij hj=>?_)
      rw [gr i,gr j]
      by_cases cj:r.2.1-(r.2.2+1)≤j∧j<r.2.1
      · rw [if_pos cj]
        by_cases ci:r.2.1-(r.2.2+1)≤i∧i<r.2.1
        · rw [if_pos ci]; exact z6 _ _ (by omega) (by omega) (by omega) (by omega)
        · rw [if_neg ci]; exact z2 _ _ (by omega) (by omega)
      · rw [if_neg cj,if_neg (by omega)]; exact z2 _ _ hij (by omega)
    · rw [if_neg c]
      exact KOk.mono (fun t q=>⟨q.1.trans z1,q.2⟩) _ (tail_ok o h0 hp1 (by omega) (by omega) hr z2)
  · have e1:i=n:=by omega
    have e2:j=n:=by omega
    subst e1; subst e2
    exact irr o _
theorem count_ok (o:Ord lt) {p:Array Nat} (h0:0<N) (hp:Lo N p) :
    KOk lt N (kas_count N p) (fun r=>r.2.Perm p∧Up lt r.2 r.1∧1≤r.1∧r.1≤N):=by
  refine KOk.bind _ (KOk.mono (fun n z=>?_) _ (asc_ok o hp (N-1) 1 (Nat.le_refl _) fun i j hij hj=>?_))
  · obtain ⟨z1,z2,z3,z4⟩:=z
    by_cases c:(n==N)=true
    · rw [if_pos c]
      have:=eq_of_beq c
      exact ⟨Array.Perm.refl _,z3,z1,by omega⟩
    · rw [if_neg c]
      have cn:n≠N:=fun e=>c (by rw [e]; exact beq_self_eq_true _)
      have z5:=z4 (by omega)
      by_cases c2:n > 1
      · rw [if_pos c2]
        refine ⟨hp.2 0,hp.2 (n-1),?_⟩
        cases d:lt (p.getD 0 0) (p.getD (n-1) 0) with
        | true =>
          dsimp only
          rw [if_pos rfl]
          exact ⟨Array.Perm.refl _,z3,z1,by omega⟩
        | false =>
          dsimp only
          rw [if_neg Bool.false_ne_true]
          have gr:∀ k,g (kas_rev p 0 n) k=if 0≤k∧k<n then g p (0+n-1-k) else g p k:=g_rev (by rw [hp.1]; omega)
          have eq:∀ i j,i<n→j<n→lt (g p i) (g p j)=false:=fun i j hi hj=>by
            have a1:lt (g p (n-1)) (g p j)=false:=z3 j (n-1) (by omega) (by omega)
            have a2:lt (g p i) (g p 0)=false:=z3 0 i (by omega) hi
            exact o.tr _ (g p 0) _ (o.tr _ (g p (n-1)) _ a1 d) a2
          refine KOk.mono (fun t q=>⟨q.1.trans rev_perm,q.2⟩) _ (descPart_ok o h0 (hp.of_perm h0 rev_perm) (by omega) (by omega) (Nat.le_refl _) fun i j hij hj=>?_)
          rw [gr i,gr j]
          by_cases cj:j<n
          · rw [if_pos (by omega),if_pos (by omega)]; exact eq _ _ (by omega) (by omega)
          · have:j=n:=by omega
            subst this
            rw [if_neg (show ¬ (0≤j∧j<j) by omega)]
            by_cases ci:i<j
            · rw [if_pos (by omega)]
              exact o.tr _ (g p (j-1)) _ (o.as _ _ z5) (eq _ _ (by omega) (by omega))
            · have:i=j:=by omega
              subst this
              rw [if_neg (by omega)]
              exact irr o _
      · rw [if_neg c2]
        refine descPart_ok o h0 hp (by omega) (by omega) (Nat.le_refl _) fun i j hij hj=>?_
        have n1:n=1:=by omega
        subst n1
        by_cases ci:i=j
        · subst ci; exact irr o _
        · have e1:i=0:=by omega
          have e2:j=1:=by omega
          subst e1; subst e2
          exact o.as _ _ z5
  · have e1:i=j:=by omega
    subst e1
    exact irr o _
theorem place_ok (o:Ord lt) {p:Array Nat} {k:Nat} (hp:Lo N p) (hu:Up lt p k):∀ (f l r:Nat),l≤r→r≤k→r-l≤f→(∀ i,i<l→lt (g p k) (g p i)=false)→(∀ i,r≤i→i<k→lt (g p k) (g p i)=true) →
    KOk lt N (kas_place p k f l r) (fun m=>m≤k∧(∀ i,i<m→lt (g p k) (g p i)=false)∧∀ i,m≤i→i<k→lt (g p k) (g p i)=true)
  | 0,l,r,h1,h2,h3,h4,h5=>⟨by omega,h4,fun i hi=>h5 i (by omega)⟩
  | f+1,l,r,h1,h2,h3,h4,h5=>by
    unfold kas_place
    by_cases c:l ≥ r
    · rw [if_pos c]; exact ⟨by omega,h4,fun i hi=>h5 i (by omega)⟩
    · rw [if_neg c]
      refine ⟨hp.2 k,hp.2 ((l+r) / 2),?_⟩
      cases d:lt (p.getD k 0) (p.getD ((l+r) / 2) 0) with
      | true =>
        dsimp only
        rw [if_pos rfl]
        refine place_ok o hp hu f l ((l+r) / 2) (by omega) (by omega) (by omega) h4 fun i hi1 hi2=>?_
        cases e:lt (g p k) (g p i) with
        | true=>rfl
        | false =>
          have:=o.tr _ (g p i) _ (hu ((l+r) / 2) i hi1 hi2) e
          rw [show lt (g p k) (g p ((l+r) / 2))=true from d] at this
          cases this
      | false =>
        dsimp only
        rw [if_neg Bool.false_ne_true]
        exact place_ok o hp hu f ((l+r) / 2+1) r (by omega) h2 (by omega) (fun i hi=>o.tr _ (g p ((l+r) / 2)) _ (hu i ((l+r) / 2) (by omega) (by omega)) d) h5
theorem bin_ok (o:Ord lt) (h0:0<N):∀ (f:Nat) (p:Array Nat) (k:Nat),Lo N p→k+f=N→Up lt p k→KOk lt N (kas_bin f p k) (fun q=>q.Perm p∧Up lt q N)
  | 0,p,k,_,hk,hu=>⟨Array.Perm.refl _,by rw [← hk]; exact hu⟩
  | f+1,p,k,hp,hk,hu=>by
    refine KOk.bind _ (KOk.mono (fun m z=>?_) _ (place_ok o hp hu k 0 k (Nat.zero_le _) (Nat.le_refl _) (by omega) (fun i hi=>by omega) fun i hi1 hi2=>by omega))
    obtain ⟨z1,z2,z3⟩:=z
    have gb:∀ j,g (bubble p k (k-m)) j=if j=k-(k-m) then g p k else if k-(k-m)<j∧j≤k then g p (j-1) else g p j:=g_bub (by rw [hp.1]; omega) (by omega)
    have em:k-(k-m)=m:=by omega
    rw [em] at gb
    refine KOk.mono (fun q y=>⟨y.1.trans (bubble_perm _ _ _),y.2⟩) _ (bin_ok o h0 f _ (k+1) (hp.of_perm h0 (bubble_perm _ _ _)) (by omega) fun i j hij hj=>?_)
    rw [gb i,gb j]
    by_cases cj:j=m
    · rw [if_pos cj]
      by_cases ci:i=m
      · rw [if_pos ci]; exact irr o _
      · rw [if_neg ci,if_neg (by omega)]; exact z2 i (by omega)
    · rw [if_neg cj]
      by_cases cj2:m<j∧j≤k
      · rw [if_pos cj2]
        by_cases ci:i=m
        · rw [if_pos ci]; exact o.as _ _ (z3 (j-1) (by omega) (by omega))
        · rw [if_neg ci]
          by_cases ci2:m<i∧i≤k
          · rw [if_pos ci2]; exact hu _ _ (by omega) (by omega)
          · rw [if_neg ci2]; exact hu _ _ (by omega) (by omega)
      · rw [if_neg cj2]
        rw [if_neg (by omega),if_neg (by omega)]
        exact hu _ _ hij (by omega)
theorem sort_ok (o:Ord lt) (h0:0<N):KOk lt N (kas_sort N) (fun p=>p.toList.Perm (List.range N)∧Up lt p N):=by
  have hp:Lo N (List.toArray (List.range N)):=by
    refine ⟨by simp,fun i=>?_⟩
    unfold g
    rw [Array.getD_eq_getD_getElem?]
    by_cases c:i<N
    · simp [c]
    · rw [Array.getElem?_eq_none (by simpa using c)]
      exact h0
  have done:∀ q:Array Nat,q.Perm (List.toArray (List.range N))→q.toList.Perm (List.range N):=fun q h=>by
    have:=Array.perm_iff_toList_perm.mp h
    simpa using this
  refine KOk.bind _ (KOk.mono (fun r z=>?_) _ (count_ok o h0 hp))
  obtain ⟨z1,z2,z3,z4⟩:=z
  by_cases c:r.1<N
  · rw [if_pos c]
    have e:max r.1 1=r.1:=by omega
    rw [e]
    exact KOk.mono (fun q y=>⟨done q (y.1.trans z1),y.2⟩) _ (bin_ok o h0 (N-r.1) r.2 r.1 (hp.of_perm h0 z1) (by omega) z2)
  · rw [if_neg c]
    have e:r.1=N:=by omega
    rw [e] at z2
    exact ⟨done _ z1,z2⟩
end
end Srt
namespace L2
open PySem PySem.Spec PyProof.Rows
def lexLt:List Int→List Int→Bool
  | [],[]=>false
  | [],_::_=>true
  | _::_,[]=>false
  | x::xs,y::ys=>if x=y then lexLt xs ys else decide (x<y)
theorem lex_as:∀ a b:List Int,lexLt a b=true→lexLt b a=false
  | [],[],h=>by cases h
  | [],_::_,_=>rfl
  | _::_,[],h=>by cases h
  | x::xs,y::ys,h=>by
    unfold lexLt at h ⊢
    by_cases c:x=y
    · subst c; rw [if_pos rfl] at h ⊢; exact lex_as xs ys h
    · rw [if_neg c] at h
      rw [if_neg (Ne.symm c)]
      have:=of_decide_eq_true h
      exact decide_eq_false (by omega)
theorem lex_tr:∀ a b c:List Int,lexLt b a=false→lexLt c b=false→lexLt c a=false
  | [],[],[],_,_=>rfl
  | [],[],_::_,_,_=>rfl
  | [],_::_,[],_,h=>by cases h
  | [],_::_,_::_,_,_=>rfl
  | _::_,[],_,h,_=>by cases h
  | _::_,_::_,[],_,h=>by cases h
  | x::xs,y::ys,z::zs,h1,h2=>by
    unfold lexLt at h1 h2 ⊢
    by_cases c1:y=x
    · subst c1
      rw [if_pos rfl] at h1
      by_cases c2:z=y
      · subst c2; rw [if_pos rfl] at h2 ⊢; exact lex_tr xs ys zs h1 h2
      · rw [if_neg c2] at h2 ⊢; exact h2
    · rw [if_neg c1] at h1
      have k1:=of_decide_eq_false h1
      by_cases c2:z=y
      · subst c2
        rw [if_neg c1]
        exact h1
      · rw [if_neg c2] at h2
        have k2:=of_decide_eq_false h2
        rw [if_neg (by omega)]
        exact decide_eq_false (by omega)
theorem lex_ord (f:Nat→List Int):Srt.Ord fun i j=>lexLt (f i) (f j):=⟨fun a b c h1 h2=>lex_tr _ _ _ h1 h2,fun a b h=>lex_as _ _ h⟩
theorem lex_eq:∀ a b:List Int,lexLt a b=false→lexLt b a=false→a=b
  | [],[],_,_=>rfl
  | [],_::_,h,_=>by cases h
  | _::_,[],_,h=>by cases h
  | x::xs,y::ys,h1,h2=>by
    unfold lexLt at h1 h2
    by_cases c:x=y
    · subst c; rw [if_pos rfl] at h1 h2; rw [lex_eq xs ys h1 h2]
    · rw [if_neg c] at h1
      rw [if_neg (Ne.symm c)] at h2
      have:=of_decide_eq_false h1
      have:=of_decide_eq_false h2
      omega
section
variable {X:Cx} {pins:List (Addr×Obj)} {σ:St} {H:Hp} {s:Shared}
theorem Inv.newsLaid {h':Heap} {D:Addr} {o:Obj} {u:HO} {m:Str→Option Value} {t':Nat} (I:Inv X pins σ H s) (hx:X.ex=[]) (F:Fr X.base X.env.locals s.heap m) (F':Fr X.base X.env.locals h' m)
    (N':News X.base X.env.locals h' ((D,o)::allNews X.base s.heap X.env.locals)) (hD:s.heap.get? D=none) (new:ObjOk X.prog X.w (upd H D u) h' D u):Inv X pins σ (upd H D u) { s with heap:=h',toks:=t' }:=by
  have keep:∀ b v,b≠X.env.locals→s.heap.get? b=some v→h'.get? b=some v:=fun b v hb q=>by
    cases e:X.base.get? b with
    | some y =>
      have e1:=F.keep b y e
      rw [q] at e1
      cases e1
      exact F'.keep b v e
    | none=>exact (N' (b,v) (List.mem_cons_of_mem _ (mem_allNews hb e q))).1
  obtain ⟨oL,es,ep,hL,rL⟩:=F.ns
  have nL:∀ b w,H b=some w→b≠X.env.locals:=fun b w q z=>by rw [z,I.free] at q; cases q
  have I1:Inv X pins σ H { s with heap:=h',gens:=s.gens,drawn:=s.drawn,toks:=t' }:=by
    refine I.step (ch:=[]) (fun _ z=>nomatch z) (fun b v h1 _ _ q _=>keep b v h1 q) (fun b v h1 _ _ q _=>⟨v.slots,keep b v h1 q⟩) (fun _ _ _ _ n=>n) (fun b v _ q=>?_) (fun _ _ q=>q) (fun _ _ _ q=>q) (fun b ps q=>⟨#[],by rw [q]; simp⟩) (fun m' hm=>?_) (fun b w q=>?_) I.bare
    · by_cases hb:b=X.env.locals
      · subst hb
        obtain ⟨o2,_,_,h2,_⟩:=F'.ns
        exact ⟨o2,h2⟩
      · exact ⟨v,keep b v hb q⟩
    · have e1:=hm.eq_nsMap
      have e2:=F.ns.eq_nsMap
      rw [e1,← e2]
      exact F'.ns
    · refine (I.hok b w q).stay (fun c y hc r=>keep c y ?_ r) (fun _ r=>r) fun _ _ r=>r
      rcases hc with rfl | hc
      · exact nL _ _ q
      · exact nL _ _ hc
  exact I1.track (I.out hx hD) new
end
def TupZ (H:Hp) (ps:List Addr) (zs:List (List Int)):Prop:=Paired (fun p z=>z≠[]∧H p=some (.tup (z.map V.int))) ps zs
def rSortT (K:PySem.W.Frag):List V→Hp→VK→Prop:=fun xs H Q=>∃ (a:Addr) (ps:List Addr) (zs:List (List Int)),xs=[.ref a]∧SqL K H a (ps.map V.ref)∧TupZ H ps zs∧2≤zs.length∧zs.length<64 ∧
  ∀ idx:List Nat,idx.Perm (List.range zs.length)→(idx.Pairwise fun i j=>lexLt (zs.getD j []) (zs.getD i [])=false)→∀ D,H D=none→Q (.ref D) (upd H D (.lst (idx.map fun i=>V.ref (ps.getD i 0))))
theorem ints_lex {prog:Program} {w:World} {A:Around} {Q:Bool→Shared→Prop} {s:Shared}:∀ {x y:List Int} {us vs:List Value} (i:Nat),IntsAre us x→IntsAre vs y→Q (lexLt x y) s→PySem.W.KatLex prog w A true (decide (x.length<y.length)) Q (us.zip vs) i s
  | [],[],_,_,_,.nil,.nil,h=>PySem.W.kat_nil h
  | [],_::_,_,_,_,.nil,.cons _ _ _,h=>PySem.W.kat_nil h
  | _::_,[],_,_,_,.cons _ _ _,.nil,h=>PySem.W.kat_nil h
  | x::xs,y::ys,_,_,i,.cons _ t r1,.cons _ u r2,h=>by
    refine PySem.W.kat_cons (wpAny_eqBool_int ?_)
    unfold lexLt at h
    have el:decide ((x::xs).length<(y::ys).length)=decide (xs.length<ys.length):=by rw [List.length_cons,List.length_cons]; congr 1; apply propext; omega
    by_cases c:x=y
    · subst c
      rw [if_pos rfl] at h
      rw [beq_self_eq_true,el]
      exact PySem.W.kat_yes (ints_lex (i+1) r1 r2 h)
    · rw [if_neg c] at h
      have e:(x==y)=false:=by simp [c]
      rw [e]
      refine PySem.W.kat_no ?_
      cases i with
      | zero=>exact oneLt_int h
      | succ i=>exact PySem.W.kat_one _ _ (PyProof.Rows.lt_int h)
theorem tup_items {X:Cx} {pins:List (Addr×Obj)} {σ:St} {H:Hp} {s:Shared} (I:Inv X pins σ H s) {p:Addr} {z:List Int} (h:H p=some (.tup (z.map V.int))):∃ (o:Obj) (us:List Value) (n:Nat),s.heap.get? p=some o∧o.cls=.type "tuple" ∧ o.data=.seq us.toArray n∧IntsAre us z:=by
  obtain ⟨_,its,rv,o,h1,h2,n,h3⟩:=(show ObjOk X.prog X.w H s.heap p (.tup (z.map V.int)) from I.hok p _ h)
  exact ⟨o,its,n,h1,h2,h3,intsAre_of rv⟩
theorem refs_of {ps:List Addr}:∀ {us:List Value},Vals (ps.map V.ref) us→us=ps.map Value.ref:=by
  induction ps with
  | nil=>intro us r; cases r; rfl
  | cons p ps ih=>intro us r; cases r with | cons h r=>cases (show _=Value.ref p from h); rw [ih r]; rfl
theorem vals_refs:∀ ps:List Addr,Vals (ps.map V.ref) (ps.map Value.ref)
  | []=>.nil
  | _::ps=>.cons rfl (vals_refs ps)
theorem kat_tups {h:Heap}:∀ {ps:List Addr},(∀ p∈ps,∃ (o:Obj) (us:List Value) (n:Nat) (x:Int) (t:Tok) (r:List Value),h.get? p=some o∧o.cls=.type "tuple" ∧ o.data=.seq us.toArray n∧us=.int x t::r)→∃ fs,PySem.W.KatTups h (ps.map Value.ref) fs∧fs.length=ps.length∧∀ f∈fs,∃ (x:Int) (t:Tok),f=.int x t
  | [],_=>⟨[],.nil,rfl,fun _ z=>nomatch z⟩
  | p::ps,hp=>by
    obtain ⟨fs,k,hl,hf⟩:=kat_tups (ps:=ps) fun q hq=>hp q (List.mem_cons_of_mem _ hq)
    obtain ⟨o,us,n,x,t,r,h1,h2,h3,rfl⟩:=hp p List.mem_cons_self
    refine ⟨.int x t::fs,.cons h1 h2 h3 (by simp) k,by simp [hl],fun f hm=>?_⟩
    rcases List.mem_cons.mp hm with rfl | hm
    · exact ⟨x,t,rfl⟩
    · exact hf f hm
theorem call_sortT {X:Cx} {K:PySem.W.Frag} (hK:X.K=K) (hx:X.ex=[]):CallR X (.builtin "sorted") (rSortT K):=by
  subst hK
  intro pins s σ H xs us Q I r h
  obtain ⟨a,ps,zs,rfl,hq,tz,h2,h64,q⟩:=h
  cases r with
  | cons r1 r =>
    cases r
    cases (show _=Value.ref a from r1)
    obtain ⟨its,rv,pl,_⟩:=I.list hq
    have ei:=refs_of rv
    subst ei
    have hl:ps.length=zs.length:=Paired.length tz
    obtain ⟨m,F⟩:=I.fr
    have at_:∀ i,i<zs.length→∃ z,zs[i]?=some z∧z≠[]∧∃ p,ps[i]?=some p∧H p=some (.tup (z.map V.int)):=fun i hi=>by
      obtain ⟨p,e1,g1,g2⟩:=VL.Paired.getF tz (List.getElem?_eq_getElem hi)
      exact ⟨_,List.getElem?_eq_getElem hi,g1,p,e1,g2⟩
    refine PySem.W.kat_sorted (vs:=ps.map Value.ref) F (news_all (h:=s.heap)) pl.isList (by rw [List.length_map]; omega) (by rw [List.length_map]; omega) fun D e1 h' F' N' hlt=>?_
    have keepT:∀ p o,H p≠none→s.heap.get? p=some o→h'.get? p=some o:=fun p o hp e=>by
      have hb:p≠X.env.locals:=fun z=>hp (by rw [z]; exact I.free)
      cases eb:X.base.get? p with
      | some y=>exact absurd (I.bs p y eb).2 hp
      | none=>exact (N' (p,o) (List.mem_cons_of_mem _ (mem_allNews hb eb e))).1
    have it:∀ i,i<zs.length→∃ p z o us n,ps[i]?=some p∧zs[i]?=some z∧z≠[]∧h'.get? p=some o∧o.cls=.type "tuple" ∧ o.data=.seq us.toArray n∧IntsAre us z:=fun i hi=>by
      obtain ⟨z,e1,g1,p,e2,g2⟩:=at_ i hi
      obtain ⟨o,us,n,k1,k2,k3,k4⟩:=tup_items I g2
      exact ⟨p,z,o,us,n,e2,e1,g1,keepT p o (by rw [g2]; exact nofun) k1,k2,k3,k4⟩
    obtain ⟨fs,kt,fl,ff⟩:=kat_tups (h:=h') (ps:=ps) fun p hp=>by
      obtain ⟨i,hi,rfl⟩:=List.mem_iff_getElem.mp hp
      obtain ⟨p',z,o,us,n,e1,e2,g1,k1,k2,k3,k4⟩:=it i (by omega)
      rw [List.getElem?_eq_getElem hi] at e1
      cases e1
      cases k4 with
      | nil=>exact absurd rfl g1
      | cons x t r=>exact ⟨o,_,n,x,t,_,k1,k2,k3,rfl⟩
    refine PySem.W.kat_kind (s:={ s with heap:=h' }) (T:=.type "int") kt (by omega) (fun v hv=>?_) (by decide) ?_
    · obtain ⟨x,t,rfl⟩:=ff v hv
      exact PySem.W.Looks.of_pure rfl
    · show (PySem.W.kas_sort (ps.map Value.ref).length).kasWp _ _ _
      rw [List.length_map,hl]
      refine Srt.KOk.wp (lt:=fun i j=>lexLt (zs.getD i []) (zs.getD j [])) (N:=zs.length) (fun i j C hi hj hC=>?_) _ (Srt.KOk.mono (fun p hp=>?_) _ (Srt.sort_ok (lex_ord fun i=>zs.getD i []) (by omega)))
      · obtain ⟨p,z,o,us,n,e1,e2,g1,k1,k2,k3,k4⟩:=it i hi
        obtain ⟨p',z',o',us',n',e1',e2',g1',k1',k2',k3',k4'⟩:=it j hj
        have ei:(ps.map Value.ref).getD i Value.none=.ref p:=by rw [List.getD_eq_getElem?_getD,List.getElem?_map,e1]; rfl
        have ej:(ps.map Value.ref).getD j Value.none=.ref p':=by rw [List.getD_eq_getElem?_getD,List.getElem?_map,e1']; rfl
        have zi:zs.getD i []=z:=by rw [List.getD_eq_getElem?_getD,e2]; rfl
        have zj:zs.getD j []=z':=by rw [List.getD_eq_getElem?_getD,e2']; rfl
        unfold PySem.W.kas_ask
        rw [ei,ej]
        rw [zi,zj] at hC
        refine PySem.W.kat_lt k1 k3 k1' k3' ?_
        have l1:=IntsAre.length k4
        have l2:=IntsAre.length k4'
        have lx:=ints_lex (prog:=X.prog) (w:=X.w) (A:=X.A.in1.in1) (s:={ s with heap:=h' }) 0 k4 k4' hC
        rw [← l1,← l2] at lx
        exact lx
      · obtain ⟨pm,up⟩:=hp
        have hlen:p.toList.length=zs.length:=by rw [pm.length_eq,List.length_range]
        have lt_:∀ i∈p.toList,i<zs.length:=fun i hi=>List.mem_range.mp (pm.mem_iff.mp hi)
        refine PySem.W.KasFin.intro F' N' (.head fun q hq=>Nat.ne_of_lt (hlt q hq)) fun h'' c F'' N''=>?_
        have nD:=N' _ List.mem_cons_self
        have hD:s.heap.get? D=none:=by
          cases e:s.heap.get? D with
          | none=>rfl
          | some o=>exact absurd (hlt (D,o) (mem_allNews nD.2.1 nD.2.2 e)) (Nat.lt_irrefl _)
        have hn:H D=none:=(I.out hx hD).h
        have eo:(p.toList.map fun i=>(ps.map Value.ref).getD i Value.none)=(p.toList.map fun i=>ps.getD i 0).map Value.ref:=by
          rw [List.map_map]
          refine List.map_congr_left fun i hi=>?_
          have h1:i<ps.length:=by rw [hl]; exact lt_ i hi
          show (ps.map Value.ref).getD i Value.none=Value.ref (ps.getD i 0)
          rw [List.getD_eq_getElem?_getD,List.getElem?_map,List.getElem?_eq_getElem h1,List.getD_eq_getElem?_getD,List.getElem?_eq_getElem h1]
          rfl
        have ev:(p.toList.map fun i=>V.ref (ps.getD i 0))=(p.toList.map fun i=>ps.getD i 0).map V.ref:=by rw [List.map_map]; rfl
        refine ⟨.ref D,upd H D (.lst (p.toList.map fun i=>V.ref (ps.getD i 0))),I.newsLaid (t':=s.toks) hx F F'' N'' hD ?_,rfl,q p.toList pm ?_ D hn⟩
        · rw [eo] at N''
          refine ⟨by rw [List.length_map,hlen]; have:=sizeLine_eq; omega,(p.toList.map fun i=>ps.getD i 0).map Value.ref,c,by rw [ev]; exact vals_refs _,?_⟩
          exact (N'' _ List.mem_cons_self).1
        · rw [List.pairwise_iff_getElem]
          intro i j hi hj hij
          have hu:=up i j (by omega) (by omega)
          have gi:Srt.g p i=p.toList[i]:=by unfold Srt.g; rw [Array.getD_eq_getD_getElem?,Array.getElem?_eq_getElem (by simpa using hi)]; rfl
          have gj:Srt.g p j=p.toList[j]:=by unfold Srt.g; rw [Array.getD_eq_getD_getElem?,Array.getElem?_eq_getElem (by simpa using hj)]; rfl
          rw [gi,gj] at hu
          exact hu
section
open PySem.W
variable {prog:Program} {w:World} {A:Around} {E:Value→Shared→Prop} {s:Shared} {a:Addr} {n:Nat} {vs:List Value}
theorem sort_few {P:PySem.Fin→Shared→Prop} (hn:vs.length<2) (ho:s.heap.get? a=some (seqObj "list" vs.toArray n))
    (k:∀ h' c,(∀ b o,b≠a→s.heap.get? b=some o→h'.get? b=some o)→h'.get? a=some (seqObj "list" vs.toArray c)→P (.done (.ret .none)) { s with heap:=h' }) :
    wpAny (model prog w) A (Builtin.«list.sort» ⟨[.ref a],[]⟩) P E s:=by
  have z:sizeLine=16777216:=sizeLine_eq
  have lt:a<s.heap.objs.size:=Heap.lt_size ho
  obtain ⟨e,o1⟩:∃ e,(s.heap.update a (Obj.mapSeq fun _=>(#[]:Array Value))).get? a=some (seqObj "list" #[] e):=⟨_,get?_update_seq ho fun _=>#[]⟩
  rw [list_sort_plain]
  refine wpAny_bind (listItems_at ho rfl (wpAny_bind (listUpdate_at ho rfl (wpAny_bind (seqEpoch_at o1 rfl (wpAny_bind (wpAny_newTuple (wpAny_bind (wpAny_newList (wpAny_holding ?_) (Nat.zero_le _))) (by show vs.length≤_; omega))))) (by rw [List.size_toArray]; omega) (Nat.zero_le _))))
  dsimp only
  rw [if_pos (show vs.toArray.size<2 by rw [List.size_toArray]; omega),if_pos (show vs.toArray.size<2 by rw [List.size_toArray]; omega)]
  have o2:(((s.heap.update a (Obj.mapSeq fun x=>#[])).push { cls:=Value.type "tuple", data:=Data.seq vs.toArray }).push { cls:=Value.type "list", data:=Data.seq #[] }).get? a=some (seqObj "list" #[] e):=Heap.get?_push_of_some _ (Heap.get?_push_of_some _ o1)
  refine wpAny_bind (wpAny_pure (wpAny_bind (m:=StateT.run (pure ()) _) (wpAny_pure (wpAny_bind (seqEpoch_at o2 rfl ?_)))))
  have em:Array.map (fun x=>x.snd) (arrOf (SortSt.mk' general' (vs.toArray.zip vs.toArray) #[] 7 none))=vs.toArray:=by
    show Array.map (fun x=>x.snd) (vs.toArray.zip vs.toArray)=vs.toArray
    apply Array.toList_inj.mp
    rw [Array.toList_map,Array.toList_zip,List.map_snd_zip]
    exact Nat.le_refl _
  refine wpAny_bind (listUpdate_at o2 rfl ?_ (Nat.zero_le _) (by rw [em,List.size_toArray]; omega))
  show wpAny _ _ (if (e != e)=true then _ else _) _ _ _
  rw [bne_self_eq_false,if_neg Bool.false_ne_true]
  rw [em]
  obtain ⟨c,o3⟩:∃ c,((((s.heap.update a (Obj.mapSeq fun x=>#[])).push { cls:=Value.type "tuple", data:=Data.seq vs.toArray }).push { cls:=Value.type "list", data:=Data.seq #[] }).update a (Obj.mapSeq fun _=>vs.toArray)).get? a=some (seqObj "list" vs.toArray c):=⟨_,get?_update_seq o2 fun _=>vs.toArray⟩
  refine wpAny_pure (k _ c (fun b o hb q=>?_) o3)
  rw [Heap.get?_update_other _ _ (Ne.symm hb)]
  exact Heap.get?_push_of_some _ (Heap.get?_push_of_some _ (by rw [Heap.get?_update_other _ _ (Ne.symm hb)]; exact q))
theorem sorted_few {l:Addr} {Q:Value→Shared→Prop} (hl:s.heap.IsList l vs.toArray) (hn:vs.length<2)
    (k:∀ h' D c,s.heap.objs.size≤D→(∀ b o,s.heap.get? b=some o→h'.get? b=some o)→h'.get? D=some (seqObj "list" vs.toArray c)→Q (.ref D) { s with heap:=h' }) :
    wpAny (model prog w) A (call (.builtin "sorted") [.ref l]) Q E s:=by
  have z:sizeLine=16777216:=sizeLine_eq
  refine Calls.call_function_entry kind_sorted plain_sorted entry_sorted (args_sorted1 _) ?_
  unfold Builtin.«sorted»
  refine wpAny_bind (m:=checkCount "sorted" 1 1 _) (wpAny_pure (wpAny_bind (collect_list hl (wpAny_bind (wpAny_newList ?_ (by omega))) (by omega))))
  generalize hg:(s.heap.push (seqObj "list" #[] 0)).update s.heap.objs.size (Obj.mapSeq fun x=>x++vs.toArray)=g
  have gs:g.objs.size=s.heap.objs.size+1:=by rw [← hg,Heap.size_update,size_push']
  have kg:∀ b o,s.heap.get? b=some o→g.get? b=some o:=fun b o q=>by
    have hb:b<s.heap.objs.size:=Heap.lt_size q
    rw [← hg,Heap.get?_update_other _ _ (Nat.ne_of_gt hb)]
    exact Heap.get?_push_of_some _ q
  have oD:(g.push (seqObj "list" vs.toArray 0)).get? g.objs.size=some (seqObj "list" vs.toArray 0):=Heap.get?_push_size g rfl
  dsimp only
  refine wpAny_bind (wpAny_holding (wpAny_call_entry slot_list_sort ⟨_,oD,rfl⟩ entry_list_sort (sort_few (s:={ s with heap:=g.push (seqObj "list" vs.toArray 0) }) hn oD fun h' c kp hD=>?_) (args_list_sort _)))
  refine ⟨_,rfl,wpAny_pure ⟨_,rfl,k h' g.objs.size c (by omega) (fun b o q=>kp b o (Nat.ne_of_lt (by rw [gs]; exact Nat.lt_succ_of_lt (Heap.lt_size q))) (Heap.get?_push_of_some _ (kg b o q))) hD⟩⟩
end
theorem call_sort01 {X:Cx} {K:PySem.W.Frag} (hK:X.K=K):CallR X (.builtin "sorted") (fun xs H Q=>∃ a vs,xs=[.ref a]∧SqL K H a vs∧vs.length<2∧∀ D,H D=none→Q (.ref D) (upd H D (.lst vs))):=by
  subst hK
  intro pins s σ H xs us Q I r h
  obtain ⟨a,vs,rfl,hq,hn,q⟩:=h
  cases r with
  | cons r1 r =>
    cases r
    cases (show _=Value.ref a from r1)
    obtain ⟨its,rv,pl,hz⟩:=I.list hq
    refine sorted_few pl.isList (by rw [← rv.length]; exact hn) fun h' D c hD kp oD=>?_
    exact ⟨.ref D,upd H D (.lst vs),I.laid (t':=s.toks) kp hD ⟨hz,its,c,rv,oD⟩,rfl,q D (I.hok.fresh hD)⟩
end L2
namespace L2
open PySem PySem.Spec PyProof.Rows
def srtZ (zs:List (List Int)):List (List Int):=zs.mergeSort fun a b=>!lexLt b a
theorem srtZ_perm (zs:List (List Int)):(srtZ zs).Perm zs:=List.mergeSort_perm _ _
theorem srtZ_up (zs:List (List Int)):(srtZ zs).Pairwise fun a b=>lexLt b a=false:=by
  have h:=List.pairwise_mergeSort (le:=fun a b=>!lexLt b a) (fun a b c h1 h2=>by
    rw [Bool.not_eq_true'] at h1 h2 ⊢
    exact lex_tr _ _ _ h1 h2) (fun a b=>by
    cases e:lexLt b a with
    | false=>rfl
    | true=>simp [lex_as _ _ e]) zs
  exact h.imp fun h=>by simpa using h
theorem srtZ_uniq {xs zs:List (List Int)} (p:xs.Perm zs) (h:xs.Pairwise fun a b=>lexLt b a=false):xs=srtZ zs :=
  List.Perm.eq_of_pairwise (fun a b _ _ h1 h2=>lex_eq a b h2 h1) h (srtZ_up zs) (p.trans (srtZ_perm zs).symm)
def rSort1 (K:PySem.W.Frag):List V→Hp→VK→Prop:=fun xs H Q=>∃ a vs,xs=[.ref a]∧SqL K H a vs∧vs.length<2∧∀ D,H D=none→Q (.ref D) (upd H D (.lst vs))
def rSrt (K:PySem.W.Frag):List V→Hp→VK→Prop:=fun xs H Q=>rSortT K xs H Q∨rSort1 K xs H Q
theorem call_srt {X:Cx} {K:PySem.W.Frag} (hK:X.K=K) (hx:X.ex=[]):CallR X (.builtin "sorted") (rSrt K):=CallR.or (call_sortT hK hx) (call_sort01 hK)
end L2
namespace VL
open PySem L2
open Classical
noncomputable section
variable [Tabs] {K:PySem.W.Frag}
def tupD (z:List Int):D:=.tup (z.map D.int)
theorem mapInt_inj:∀ {a b:List Int},a.map D.int=b.map D.int→a=b
  | [],[],_=>rfl
  | [],_::_,h=>by cases h
  | _::_,[],h=>by cases h
  | x::a,y::b,h=>by
    injection h with h1 h2
    injection h1 with h1
    rw [h1,mapInt_inj h2]
theorem tupD_inj (a b:List Int) (h:tupD a=tupD b):a=b:=by
  unfold tupD at h
  injection h with h
  exact mapInt_inj h
noncomputable def dSrt (a:DE):Rho→Option (List D):=fun ρ=>match asL a ρ with
  | some ds=>if h:∃ zs:List (List Int),ds=zs.map tupD∧(∀ z∈zs,z≠[])∧zs.length<64 then some ((srtZ h.choose).map tupD) else none
  | none=>none
theorem dSrt_of {a:DE} {ρ:Rho} {zs:List (List Int)} (e:asL a ρ=some (zs.map tupD)) (hz:∀ z∈zs,z≠[]) (hl:zs.length<64):dSrt a ρ=some ((srtZ zs).map tupD):=by
  have h:∃ zs':List (List Int),zs.map tupD=zs'.map tupD∧(∀ z∈zs',z≠[])∧zs'.length<64:=⟨zs,rfl,hz,hl⟩
  unfold dSrt
  rw [e]
  show (if h:∃ zs':List (List Int),zs.map tupD=zs'.map tupD∧(∀ z∈zs',z≠[])∧zs'.length<64 then some ((srtZ h.choose).map tupD) else none)=_
  rw [dif_pos h,← (List.map_inj_right tupD_inj).mp h.choose_spec.1]
theorem dSrt_some {a:DE} {ρ:Rho} {ds:List D} (q:dSrt a ρ=some ds):∃ zs,asL a ρ=some (zs.map tupD)∧(∀ z∈zs,z≠[])∧zs.length<64∧ds=(srtZ zs).map tupD:=by
  unfold dSrt at q
  split at q
  · rename_i es e
    split at q
    · rename_i h
      cases q
      exact ⟨h.choose,by rw [e]; exact congrArg some h.choose_spec.1,h.choose_spec.2.1,h.choose_spec.2.2,rfl⟩
    · cases q
  · cases q
theorem isl_tups {H:Hp} {T:Addr→Prop}:∀ {zs:List (List Int)} {vs:List V},IsL K H T vs (zs.map tupD)→∃ ps:List Addr,vs=ps.map V.ref∧Paired (fun p z=>¬ T p∧z.length≤sizeLine∧H p=some (.tup (z.map V.int))) ps zs
  | [],_,.nil=>⟨[],rfl,.nil⟩
  | z::zs,_,.cons h r=>by
    obtain ⟨ps,rfl,hp⟩:=isl_tups r
    obtain ⟨p,us,rfl,hz,hr,hl,i⟩:=(show Is K H T _ (.tup (z.map D.int)) from h).isTup
    have e:=IsL.ints i
    subst e
    exact ⟨p::ps,rfl,.cons ⟨hz,by rw [List.length_map] at hl; exact hl,hr⟩ hp⟩
theorem isl_pick {H:Hp} {T:Addr→Prop} {ps:List Addr} {zs:List (List Int)} (hp:Paired (fun p z=>¬ T p∧z.length≤sizeLine∧H p=some (.tup (z.map V.int))) ps zs):∀ {idx:List Nat},(∀ i∈idx,i<zs.length)→IsL K H T (idx.map fun i=>V.ref (ps.getD i 0)) ((idx.map fun i=>zs.getD i []).map tupD)
  | [],_=>.nil
  | i::idx,h=>by
    have hi:=h i List.mem_cons_self
    obtain ⟨p,e1,g1,g2,g3⟩:=Paired.getF hp (List.getElem?_eq_getElem hi)
    refine .cons ?_ (isl_pick hp fun j hj=>h j (List.mem_cons_of_mem _ hj))
    have ep:ps.getD i 0=p:=by rw [List.getD_eq_getElem?_getD,e1]; rfl
    have ez:zs.getD i []=zs[i]:=by rw [List.getD_eq_getElem?_getD,List.getElem?_eq_getElem hi]; rfl
    show Is K H T (.ref (ps.getD i 0)) (tupD (zs.getD i []))
    rw [ep,ez]
    exact .tup g1 g3 (by rw [List.length_map]; exact g2) (.ofInts _)
theorem range_getD (zs:List (List Int)):(List.range zs.length).map (fun i=>zs.getD i [])=zs:=by
  refine List.ext_getElem (by simp) fun i h1 h2=>?_
  simp [h2]
theorem sf_srt {ta:TE} {a:DE} (ha:SemI K ta a):SemF K (tCB (rSrt K) (tCons ta tNil)) (dSrt a):=fun {B Z os ρ σ H Q ds} f q k=>by
  obtain ⟨zs,e,hz,hl,rfl⟩:=dSrt_some q
  obtain ⟨d,e,ed⟩:=asL_some e
  refine ha f e fun v H1 s1 i1=>?_
  obtain ⟨p,vs,rfl,hlv,hn,hr⟩:=i1.seq ed
  obtain ⟨hq,il⟩:=hr H1 _ Kp.refl
  obtain ⟨ps,rfl,hp⟩:=isl_tups il
  have hpl:ps.length=zs.length:=Paired.length hp
  have hs:sizeLine=16777216:=sizeLine_eq
  by_cases h2:2≤zs.length
  · refine .inl ⟨p,ps,zs,rfl,hq,?_,h2,hl,fun idx pm up D hD=>?_⟩
    · have:∀ {ps:List Addr} {zs:List (List Int)},(∀ z∈zs,z≠[])→Paired (fun p z=>¬ tot Z os p∧z.length≤sizeLine∧H1 p=some (.tup (z.map V.int))) ps zs→TupZ H1 ps zs:=by
        intro ps zs hz h
        induction h with
        | nil=>exact .nil
        | cons g t ih=>exact .cons ⟨hz _ List.mem_cons_self,g.2.2⟩ (ih fun z hm=>hz z (List.mem_cons_of_mem _ hm))
      exact this hz hp
    · have lt_:∀ i∈idx,i<zs.length:=fun i hi=>List.mem_range.mp (pm.mem_iff.mp hi)
      have ex:idx.map (fun i=>zs.getD i [])=srtZ zs:=by
        refine srtZ_uniq ?_ ?_
        · have:=pm.map fun i=>zs.getD i []
          rw [range_getD] at this
          exact this
        · exact List.pairwise_map.mpr up
      have il2:IsL K H1 (tot Z os) (idx.map fun i=>V.ref (ps.getD i 0)) ((srtZ zs).map tupD):=by
        rw [← ex]; exact isl_pick hp lt_
      refine k D _ _ (s1.trans (same_new hD)) (Same.free s1 hD) upd_same ?_ (il2.kp (kp_new hD))
      rw [List.length_map,pm.length_eq,List.length_range]; omega
  · refine .inr ⟨p,ps.map V.ref,rfl,hq,by rw [List.length_map,hpl]; omega,fun D hD=>?_⟩
    have ex:zs=srtZ zs:=by
      refine srtZ_uniq (List.Perm.refl _) ?_
      match zs,h2 with
      | [],_=>exact .nil
      | [z],_=>exact .cons (fun _ h=>by cases h) .nil
      | _::_::_,h=>exact absurd (by simp) h
    rw [← ex] at k
    exact k D _ _ (s1.trans (same_new hD)) (Same.free s1 hD) upd_same (by rw [List.length_map,hpl]; omega) (il.kp (kp_new hD))
def t3 (z:Int×Int×Int):D:=.tup [.int z.1,.int z.2.1,.int z.2.2]
end
end VL
namespace L2
open PySem PySem.Spec PyProof.Rows
section
variable {M:Model} {A:Around} {E:Value→Shared→Prop} {s:Shared} {base:Heap} {env:Env} {outer:List Env} {L e T:Addr} {cls fl:Value} {Q:Unit→Shared→Prop}
end
section
variable {X:Cx} {pins:List (Addr×Obj)} {σ:St} {H:Hp} {s s':Shared} {E:XK} {e:Value}
end
section
variable {prog:Program} {w:World} {A:Around} {R:Result→Shared→Prop} {s:Shared}
end
section
variable {X:Cx} {tg elt iter:Expr} {scope:Scope} {cl:List (Str×Addr)} {N':List Str} {σ0:St→St} {g:TG} {te:TE} {E:XK}
variable {pos:Pos} {wi:TI} {ts zs:List Str} {is:List Nat} {k:Nat}
end
end L2
namespace VL
open PySem L2
open Classical
noncomputable section
variable [Tabs] {K:PySem.W.Frag} {E:XK} {C:Addr}
end
end VL
namespace L2
open PySem PySem.Spec PyProof.Rows
def BmOk (mg:Str→Option Value) (base:Heap):Prop:=∃ bm ob,mg "__builtins__" = some (.ref bm)∧bm≠builtinsNs∧base.get? bm=some ob∧ob.cls=.type "module" ∧ ob.dict=some builtinsNs∧ob.data=.plain
structure LamOk (X:Cx) (c P:Addr):Prop where
  code:X.env.code=.ref c
  hd:PySem.W.codeHdIn X.K c P=true
  bm:BmOk X.mg X.base
structure LFrees (X:Cx) (x:Str) (zs:List Str) (is:List Nat) (scope:Scope) (cl:List (Str×Addr)):Prop where
  par:scope.names.lookup x=some .local
  sub:∀ y c,cl.lookup y=some c→X.env.cells.lookup y=some c
  cap:∀ (j:Nat) (z:Str),zs[j]?=some z→∃ i c,is[j]?=some i∧X.N[i]?=some z∧(X.env.scope.names.lookup z=some .cell∨X.env.scope.names.lookup z=some .free)∧cl.lookup z=some c∧scope.names.lookup z=some .free
  has:∀ y,(scope.names.lookup y=some .cell∨scope.names.lookup y=some .free)→∃ c,cl.lookup y=some c
  len:is.length=zs.length
  nocell:∀ y∈scope.names,y.2≠.cell
  kind:scope.kind=.function
  co:scope.isCoroutine=false
  gen:scope.isGenerator=false
inductive LapL (X:Cx) (scope:Scope) (cl:List (Str×Addr)):List Nat→List Str→Prop
  | nil:LapL X scope cl [] []
  | cons {i:Nat} {z:Str} {c:Addr} {is:List Nat} {zs:List Str}:X.N[i]?=some z→(X.env.scope.names.lookup z=some .cell∨X.env.scope.names.lookup z=some .free)→cl.lookup z=some c→scope.names.lookup z=some .free→LapL X scope cl is zs→LapL X scope cl (i::is) (z::zs)
end L2
namespace L2
open PySem PySem.Spec PyProof.Rows
section
variable {X:Cx} {pins:List (Addr×Obj)} {σ:St} {H:Hp} {s:Shared} {m:Str→Option Value} {h':Heap} {kS:Addr} {ok:Obj}
end
section
variable {X:Cx} {pins:List (Addr×Obj)} {σ:St} {m:Str→Option Value} {kS f:Addr} {o:Obj} {q:Str} {params:Arguments} {body:Expr} {scope:Scope} {cl:List (Str×Addr)} {A:Around} {x:Str} {zs:List Str} {is:List Nat} {te:TE} {Fin:List V→Hp→Prop}
structure Nil (X:Cx) (pins:List (Addr×Obj)) (H:Hp) (b:Addr):Prop where
  h:H b=none
  cell:∀ x c,X.env.cells.lookup x=some c→c≠b
  pin:∀ p∈X.pn++pins,p.1≠b
  fs:b∉X.fs
end
end L2
namespace L2
open PySem PySem.Spec PyProof.Rows PySem.Calls
section
open PySem.W
variable {prog:Program} {w:World} {A:Around} {E:Value→Shared→Prop} {s:Shared} {h₀:Heap} {L kS a:Addr} {m:Str→Option Value} {news:List (Addr×Obj)} {vs:List Value}
end
section
variable {X:Cx} {pins:List (Addr×Obj)} {σ:St} {m:Str→Option Value} {kS f:Addr} {o:Obj} {q:Str} {params:Arguments} {body:Expr} {scope:Scope} {cl:List (Str×Addr)} {A:Around} {x:Str} {zs:List Str} {is:List Nat} {te:TE} {Fin:List V→Hp→Prop}
end
end L2
namespace VL
open PySem L2
open Classical
noncomputable section
variable [Tabs] {K:PySem.W.Frag}
end
end VL
namespace L2
open PySem PySem.Spec PyProof.Rows
def tabH (ts:List (Addr×Str)):Hp:=fun b=>(ts.lookup b).map fun q=>.tbl #[.str q 0]
end L2
namespace L2
open PySem PySem.Spec PyProof.Rows
end L2
namespace VL
open PySem L2
open Classical
noncomputable section
variable [Tabs] {K:PySem.W.Frag}
end
end VL
namespace L2
open PySem PySem.Spec PyProof.Rows
end L2
namespace VL
open PySem L2
open Classical
noncomputable section
variable [Tabs] {K:PySem.W.Frag}
end
end VL
namespace PySem.SeqAt
open AutoSeq1 (wpAny_loadPart')
open MeetsSeq MeetsSeq2 MeetsSeq3
section
variable {A:Around} {s:Shared}
end
end PySem.SeqAt
namespace VL
open PySem L2
open Classical
noncomputable section
variable {K:PySem.W.Frag}
def ordb:Nat→D→D→Bool
  | _,.int _,.int _=>true
  | n+1,.lst xs,.lst ys=>(List.zip xs ys).all fun p=>cmpb n p.1 p.2&&ordb n p.1 p.2
  | n+1,.tup xs,.tup ys=>(List.zip xs ys).all fun p=>cmpb n p.1 p.2&&ordb n p.1 p.2
  | _,_,_=>false
section
variable {X:Cx} {pins:List (Addr×Obj)} {σ:L2.St} {H:Hp} {s:Shared}
inductive Om:Nat→D→D→Prop
  | int {n:Nat} (a b:Int):Om n (.int a) (.int b)
  | lst {n:Nat} {xs ys:List D} (h:(List.zip xs ys).all (fun p=>cmpb n p.1 p.2&&ordb n p.1 p.2)=true):Om (n+1) (.lst xs) (.lst ys)
  | tup {n:Nat} {xs ys:List D} (h:(List.zip xs ys).all (fun p=>cmpb n p.1 p.2&&ordb n p.1 p.2)=true):Om (n+1) (.tup xs) (.tup ys)
end
end
end VL
namespace L2
open PySem PySem.Spec PyProof.Rows VL
section
variable {X:Cx} {pins P0 P1:List (Addr×Obj)} {σ:St} {H:Hp} {s:Shared} {h':Heap} {a:Addr} {oa oa':Obj} {t':Nat}
end
section
variable {X:Cx} {pins:List (Addr×Obj)} {σ:St} {f:Addr} {o:Obj} {q:Str} {params:Arguments} {body:Expr} {scope:Scope} {cl:List (Str×Addr)} {x:Str} {zs:List Str} {is:List Nat} {te:TE} {Fin:V→Hp→Prop} {kw:List (Str×Value)} {l I S:Addr} {vs:List V}
end
end L2
namespace L2
open PySem PySem.Spec PyProof.Rows VL
section
variable {X:Cx} {pins:List (Addr×Obj)} {σ:St} {q:Str} {params:Arguments} {body:Expr} {scope:Scope} {cl:List (Str×Addr)} {x:Str} {zs:List Str} {is:List Nat} {te:TE}
end
end L2
namespace VL
open PySem L2
open Classical
noncomputable section
variable [Tabs] {K:PySem.W.Frag}
end
end VL
namespace L2
open PySem PySem.Spec PyProof.Rows
section
variable {X:Cx} {pins:List (Addr×Obj)} {σ:St} {m:Str→Option Value} {kS f:Addr} {o:Obj} {q:Str} {params:Arguments} {body:Expr} {scope:Scope} {cl:List (Str×Addr)} {A:Around} {x:Str} {zs:List Str} {is:List Nat} {te:TE} {Fin:List V→Hp→Prop}
end
end L2
namespace VL
open PySem L2
open Classical
noncomputable section
variable [Tabs] {K:PySem.W.Frag}
end
end VL
namespace VL
open PySem L2
open Classical
noncomputable section
variable [Tabs] {K:PySem.W.Frag} {fr:Fm}
end
end VL
namespace PySem.SeqAt
end PySem.SeqAt
namespace L2
open PySem PySem.Spec PyProof.Rows
end L2
namespace L2
open PySem PySem.Spec PyProof.Rows
end L2
namespace VL
open PySem L2
open Classical
noncomputable section
variable [Tabs] {K:PySem.W.Frag}
end
end VL
namespace VL
open PySem L2
open Classical
noncomputable section
variable [Tabs] {K:PySem.W.Frag}
end
end VL
namespace VL
open PySem L2
open Classical
noncomputable section
variable [Tabs] {K:PySem.W.Frag}
end
end VL
namespace L2
open PySem PySem.Spec PyProof.Rows VL
open Classical
noncomputable section
variable {X:Cx} {K:PySem.W.Frag}
end
end L2
namespace VL
open PySem L2
open Classical
noncomputable section
variable [Tabs] {K:PySem.W.Frag}
end
end VL
namespace L2
open PySem PySem.Spec PyProof.Rows VL
section
variable {X:Cx} {pins:List (Addr×Obj)} {σ:St} {f:Addr} {o:Obj} {q:Str} {params:Arguments} {body:Expr} {scope:Scope} {cl:List (Str×Addr)} {x:Str} {zs:List Str} {is:List Nat} {te:TE} {Fin:V→Hp→Prop} {kw:List (Str×Value)} {l:Addr}
end
section
variable {X:Cx} {pins:List (Addr×Obj)} {σ:St} {q:Str} {params:Arguments} {body:Expr} {scope:Scope} {cl:List (Str×Addr)} {x:Str} {zs:List Str} {is:List Nat} {te:TE}
end
end L2
namespace VL
open PySem L2
open Classical
noncomputable section
variable [Tabs] {K:PySem.W.Frag}
end
end VL
namespace L2
open PySem PySem.Spec PyProof.Rows VL
def Rs (xs:Array Nat):Prop:=xs.toList.Pairwise (· < ·)
theorem Rs.lt {xs:Array Nat} (h:Rs xs) {i j:Nat} (hij:i<j) (hj:j<xs.size):xs[i]'(by omega)<xs[j]:=by
  have:=(List.pairwise_iff_getElem.mp h) i j (by simp; omega) (by simpa using hj) hij
  simpa using this
theorem below_go {xs:Array Nat} (h:Rs xs) (j:Nat):∀ (f lo hi:Nat),hi-lo≤f→lo≤hi→hi≤xs.size→(∀ k,(hk:k<xs.size)→k<lo→xs[k]<j)→(∀ k,(hk:k<xs.size)→hi≤k→j≤xs[k]) →
    SetTable.below.go xs j f lo hi≤xs.size∧(∀ k,(hk:k<xs.size)→k<SetTable.below.go xs j f lo hi→xs[k]<j)∧∀ k,(hk:k<xs.size)→SetTable.below.go xs j f lo hi≤k→j≤xs[k]
  | 0,lo,hi,hf,h1,h2,a,b=>by
    have e:lo=hi:=by omega
    subst e
    exact ⟨h2,a,b⟩
  | f+1,lo,hi,hf,h1,h2,a,b=>by
    unfold SetTable.below.go
    by_cases c:lo<hi
    · rw [if_pos c]
      have hm:(lo+hi) / 2<xs.size:=by omega
      have hg:xs.getD ((lo+hi) / 2) j=xs[(lo+hi) / 2]:=by simp [Array.getD,hm]
      dsimp only
      rw [hg]
      by_cases d:xs[(lo+hi) / 2]<j
      · rw [if_pos d]
        refine below_go h j f _ hi (by omega) (by omega) h2 (fun k hk hk2=>?_) b
        by_cases e:k=(lo+hi) / 2
        · subst e; exact d
        · have:=h.lt (i:=k) (j:=(lo+hi) / 2) (by omega) hm; omega
      · rw [if_neg d]
        refine below_go h j f lo _ (by omega) (by omega) (by omega) a fun k hk hk2=>?_
        by_cases e:k=(lo+hi) / 2
        · subst e; omega
        · have:=h.lt (i:=(lo+hi) / 2) (j:=k) (by omega) hk; omega
    · rw [if_neg c]
      have e:lo=hi:=by omega
      subst e
      exact ⟨h2,a,b⟩
theorem below_is {xs:Array Nat} (h:Rs xs) (j:Nat):SetTable.below xs j≤xs.size∧(∀ k,(hk:k<xs.size)→k<SetTable.below xs j→xs[k]<j)∧∀ k,(hk:k<xs.size)→SetTable.below xs j≤k→j≤xs[k] :=
  below_go h j xs.size 0 xs.size (by omega) (by omega) (Nat.le_refl _) (fun k hk z=>by omega) fun k hk z=>by omega
theorem insert_list {α:Type} (xs:Array α) (p:Nat) (x:α):(SetTable.insertAt xs p x).toList=xs.toList.take p++x::xs.toList.drop p:=by
  unfold SetTable.insertAt
  simp
  exact List.take_of_length_le (by simp)
theorem insert_rs {xs:Array Nat} (h:Rs xs) {j:Nat} (hn:(xs[SetTable.below xs j]?==some j)=false):Rs (SetTable.insertAt xs (SetTable.below xs j) j):=by
  obtain ⟨b1,b2,b3⟩:=below_is h j
  unfold Rs
  rw [insert_list]
  generalize hb:SetTable.below xs j=b at *
  refine List.pairwise_append.mpr ⟨List.Pairwise.sublist (List.take_sublist _ _) h,List.pairwise_cons.mpr ⟨fun y hy=>?_,List.Pairwise.sublist (List.drop_sublist _ _) h⟩,fun y hy z hz=>?_⟩
  · obtain ⟨i,hi,e⟩:=List.getElem_of_mem hy
    rw [List.getElem_drop] at e
    have hi':b+i<xs.size:=by simp at hi; omega
    have h1:=b3 (b+i) hi' (by omega)
    have e':xs[b+i]=y:=by simpa using e
    by_cases c:i=0
    · subst c
      have:xs[b]?=some xs[b]:=Array.getElem?_eq_getElem (by omega)
      rw [this] at hn
      have ne:xs[b]≠j:=fun z=>by rw [z] at hn; simp at hn
      simp only [Nat.add_zero] at e' h1
      omega
    · have h2:=h.lt (i:=b) (j:=b+i) (by omega) hi'
      have h3:=b3 b (by omega) (Nat.le_refl _)
      omega
  · obtain ⟨i,hi,e⟩:=List.getElem_of_mem hy
    rw [List.getElem_take] at e
    have hib:i<b:=by simp at hi; omega
    have hi':i<xs.size:=by omega
    have h1:=b2 i hi' hib
    have e':xs[i]=y:=by simpa using e
    rcases List.mem_cons.mp hz with rfl | hz
    · omega
    · obtain ⟨k,hk,ek⟩:=List.getElem_of_mem hz
      rw [List.getElem_drop] at ek
      have hk':b+k<xs.size:=by simp at hk; omega
      have ek':xs[b+k]=z:=by simpa using ek
      have h2:=b3 (b+k) hk' (by omega)
      omega
def offT (t:SetTable) (j:Nat):Prop:=(t.place[SetTable.below t.place j]?==some j)=false
theorem probe_off (t:SetTable) (f:Nat→Int) (h:Int):∀ (n:Nat) (p:SetTable.Probe),(∀ d,p.dummy=some d→offT t d)→∀ j d,SetTable.probe.go t f h n p=some (.empty j d)→offT t (d.getD j)
  | 0,p,hp,j,d,e=>by cases e
  | n+1,p,hp,j,d,e=>by
    unfold SetTable.probe.go at e
    cases hs:t.slot p.j with
    | empty =>
      rw [hs] at e
      dsimp only at e
      have hoff:offT t p.j:=by
        unfold SetTable.slot at hs
        dsimp only at hs
        unfold offT
        by_cases c:(t.place[SetTable.below t.place p.j]?==some p.j)=true
        · rw [if_pos c] at hs; cases hs
        · simpa using c
      injection e with e
      injection e with e1 e2
      subst e1
      subst e2
      cases hd:p.dummy with
      | none=>exact hoff
      | some x=>exact hp x hd
    | dummy =>
      rw [hs] at e
      dsimp only at e
      have hoff:offT t p.j:=by
        unfold SetTable.slot at hs
        dsimp only at hs
        unfold offT
        by_cases c:(t.place[SetTable.below t.place p.j]?==some p.j)=true
        · rw [if_pos c] at hs; cases hs
        · simpa using c
      refine probe_off t f h n _ (fun x hx=>?_) j d e
      unfold SetTable.advance at hx
      split at hx
      · cases hx; exact hoff
      · cases hx; exact hoff
    | live i =>
      rw [hs] at e
      dsimp only at e
      split at e
      · injection e with e; cases e
      · refine probe_off t f h n _ (fun x hx=>?_) j d e
        unfold SetTable.advance at hx
        split at hx
        · exact hp x hx
        · exact hp x hx
theorem freeSlot_off {t:SetTable} {h:Int} {j:Nat} {b:Bool} (e:t.freeSlot h=some (j,b)):offT t j:=by
  unfold SetTable.freeSlot at e
  split at e
  · rename_i j' d' e'
    injection e with e
    injection e with e1 e2
    subst e1
    exact probe_off t _ h _ _ (fun d hd=>by unfold SetTable.probeStart at hd; cases hd) _ _ e'
  · cases e
theorem range_rs (n:Nat):Rs (Array.range n):=by
  unfold Rs
  rw [Array.toList_range]
  exact List.pairwise_lt_range
structure TabG (led:Bool) (t:SetTable):Prop where
  led:t.led=led
  up:Rs t.place
theorem standIn_g {led:Bool} {t:SetTable} (g:TabG led t) (n:Nat):TabG led (t.standIn n):=⟨g.led,range_rs n⟩
theorem layNew_g {led:Bool} {t:SetTable} (g:TabG led t) (es:Array (Int×Value)) (h:Int) (x:Value):TabG led (layNew t es h x).2.1:=by
  unfold layNew
  split
  · rename_i j b e
    show TabG led (SetTable.orStandIn _ _)
    have g2:TabG led (t.put j).1:=⟨g.led,insert_rs g.up (freeSlot_off e)⟩
    unfold SetTable.orStandIn
    split
    · exact g2
    · exact standIn_g g2 _
  · exact standIn_g g _
theorem fm_rise {α:Type} (f:Nat→Option α) (n:Nat):(((List.range n).filterMap fun j=>(f j).map (j,·)).map (·.1)).Pairwise (· < ·):=by
  rw [List.pairwise_map]
  refine List.Pairwise.filterMap _ (R:=(· < ·)) (fun a a' h b hb b' hb'=>?_) List.pairwise_lt_range
  cases e:f a with
  | none=>rw [e] at hb; cases hb
  | some u=>cases e':f a' with
    | none=>rw [e'] at hb'; cases hb'
    | some u' =>
      rw [e] at hb; rw [e'] at hb'
      cases hb; cases hb'
      exact h
theorem relayAll_g {led:Bool} {t:SetTable} (g:TabG led t) (es:Array (Int×Value)) (n:Nat):TabG led (relayAll t es n).2.1:=by
  unfold relayAll
  split
  · rename_i t' o e
    dsimp only
    split
    · unfold SetTable.relaid SetTable.laid at e
      obtain ⟨ow,e1,e2⟩:=Option.bind_eq_some_iff.mp e
      cases e2
      refine ⟨g.led,?_⟩
      unfold Rs
      dsimp only
      exact fm_rise _ _
    · exact standIn_g g _
  · exact standIn_g g _
def keyOf (e:Int×Value):Int:=match e.2 with
  | .int k _=>k
  | _=>0
def OkE (e:Int×Value):Prop:=∃ (k:Int) (t:Tok),e=(hashInt k,.int k t)
abbrev setO (es:Array (Int×Value)) (ep:Nat) (t:SetTable):Obj:={ cls:=.type "set", data:=.set es ep t }
def SetI (led:Bool) (h:Heap) (S:Addr) (ks:List Int):Prop:=∃ (es:Array (Int×Value)) (ep:Nat) (t:SetTable),h.get? S=some (setO es ep t)∧(∀ e∈es.toList,OkE e)∧es.toList.map keyOf=ks∧t.fits es.size=true∧TabG led t
section
variable {prog:Program} {w:World} {A:Around} {E:Value→Shared→Prop} {s:Shared}
theorem okE_elems {l:List (Int×Value)} (h:∀ e∈l,OkE e):ElemsOf (intKind prog w) l:=fun e he=>by
  obtain ⟨k,t,rfl⟩:=h e he
  exact ⟨⟨k,intKind_is _ _ _ _,rfl⟩,rfl⟩
theorem find_key {k:Int} {l:List (Int×Value)} (h:∀ e∈l,OkE e):(∃ e∈l,(intKind prog w).is k e.2=true)↔k∈l.map keyOf:=by
  rw [List.mem_map]
  constructor
  · rintro ⟨e,he,q⟩
    obtain ⟨j,t,rfl⟩:=h e he
    exact ⟨_,he,(intKind prog w).inj (.int j t) j k (intKind_is _ _ _ _) q⟩
  · rintro ⟨e,he,q⟩
    obtain ⟨j,t,rfl⟩:=h e he
    cases q
    exact ⟨_,he,intKind_is _ _ _ _⟩
theorem put_there {h:Heap} {S:Addr} {es es':Array (Int×Value)} {ep:Nat} {t t':SetTable} (ho:h.get? S=some (setO es ep t)):(h.update S (Obj.putSet es' t')).get? S=some (setO es' (ep+1) t'):=by
  have q:=Heap.get?_update_self (Obj.putSet es' t') ho (by rw [putSet_of es' t' rfl]; rfl)
  rwa [putSet_of es' t' rfl] at q
theorem add_int {led:Bool} {S:Addr} {ks:List Int} {k:Int} {tk:Tok} {Q:Bool→Shared→Prop} (hS:SetI led s.heap S ks) (hroom:ks.length+1<scanBound)
    (h:∀ (b:Bool) (g:Heap) (ks':List Int),Heap.SameBut S s.heap g→SetI led g S ks'→ks'.Perm (if k∈ks then ks else ks++[k])→Q b { s with heap:=g }):wpAny (model prog w) A (setAddHashed S (.int k tk) (hashInt k)) Q E s:=by
  obtain ⟨es,ep,t,ho,hok,rfl,hf,tg⟩:=id hS
  have hlen:es.size+1<scanBound:=by rw [List.length_map,Array.length_toList] at hroom; exact hroom
  have hel:=okE_elems (prog:=prog) (w:=w) hok
  have hky:=find_key (prog:=prog) (w:=w) (k:=k) hok
  unfold setAddHashed setAddHashedIn
  refine wpAny_holding (wpAny_bind (wpAny_setState_of ho rfl hf ?_))
  dsimp only
  rw [byScan_of (knd:=intKind prog w) (x:=.int k tk) rfl (by omega) hel]
  simp only [if_true]
  unfold setAddByScan
  refine wpAny_bind (wpAny_bind (wpAny_rule ?_))
  refine wpAny_bind (wpAny_setScan_of (knd:=intKind prog w) (k:=k) (x:=.int k tk) (intKind_is _ _ _ _) ho rfl hf hel ?_)
  cases hr:List.findIdx? (fun e=>(intKind prog w).is k e.2) es.toList with
  | some j =>
    dsimp only
    obtain ⟨hj,hpj,_⟩:=List.findIdx?_eq_some_iff_getElem.mp hr
    have hm:k∈es.toList.map keyOf:=hky.mp ⟨es.toList[j],List.getElem_mem hj,hpj⟩
    refine wpAny_pure (wpAny_pure ?_)
    have q:=h false s.heap _ (Heap.SameBut.refl S s.heap) hS (by rw [if_pos hm])
    exact q
  | none =>
    dsimp only
    have hm:k∉es.toList.map keyOf:=fun z=>by
      obtain ⟨e,he,hp⟩:=hky.mpr z
      have:=List.findIdx?_eq_none_iff.mp hr e he
      rw [hp] at this; cases this
    have gw:∀ (b:Bool) {u:Shared} {R:Unit→Shared→Prop},R () u→wpAny (model prog w) A (match b with | true=>rule "set.scan.the-table-gave-way" | false=>pure ()) R E u:=fun b _ _ q=>by cases b <;> first | exact wpAny_pure q | exact wpAny_rule q
    have pm:=layNew_perm t es (hashInt k) (.int k tk)
    have fi:=layNew_fits t es (hashInt k) (.int k tk)
    have tg1:=layNew_g tg es (hashInt k) (.int k tk)
    generalize layNew t es (hashInt k) (.int k tk)=N at pm fi tg1 ⊢
    obtain ⟨es1,t1,dum,gave⟩:=N
    dsimp only at pm fi tg1 ⊢
    rw [Array.toList_push] at pm
    have ok1:∀ e∈es1.toList,OkE e:=fun e he=>by
      rcases List.mem_append.mp (pm.mem_iff.mp he) with q | q
      · exact hok e q
      · rw [List.mem_singleton.mp q]; exact ⟨k,tk,rfl⟩
    have pk:(es1.toList.map keyOf).Perm (es.toList.map keyOf++[k]):=by
      have:=pm.map keyOf
      rwa [List.map_append] at this
    have sz:es1.size<scanBound:=by rw [← Array.length_toList,pm.length_eq,List.length_append,Array.length_toList]; exact hlen
    refine wpAny_bind (gw _ ?_)
    have tail:∀ (gf:Bool→Sem Unit) (hgf:∀ (b:Bool) (u:Shared) (R:Unit→Shared→Prop),R () u→wpAny (model prog w) A (gf b) R E u) (t2:SetTable),t2.fits es1.size=true→TabG led t2→wpAny (model prog w) A (do
        storeSet S es1 t2
        if (!dum&&t2.tooFull)=true then do
            gf (relayAll t2 es1 (SetTable.grown es1.size)).2.2
            storeSet S (relayAll t2 es1 (SetTable.grown es1.size)).1 (relayAll t2 es1 (SetTable.grown es1.size)).2.1
            pure (some true)
          else pure (some true)) (fun r u=>wpAny (model prog w) A (match r with | some b=>pure b | none=>setAddHashedIn S (.int k tk) (hashInt k) 99999) Q E u) E s:=by
      intro gf hgf t2 f2 g2
      refine wpAny_bind (wpAny_storeSet_of ho rfl ?_ (fits_of_scanBound sz))
      have h1:=put_there (es':=es1) (t':=t2) ho
      have sb:=Heap.SameBut.update s.heap S (Obj.putSet es1 t2)
      split
      · have p2:=relayAll_perm t2 es1 (SetTable.grown es1.size)
        have f3:=relayAll_fits t2 es1 (SetTable.grown es1.size)
        have g3:=relayAll_g g2 es1 (SetTable.grown es1.size)
        generalize relayAll t2 es1 (SetTable.grown es1.size)=R at p2 f3 g3 ⊢
        obtain ⟨es2,t3,gave2⟩:=R
        dsimp only at p2 f3 g3 ⊢
        have sz2:es2.size=es1.size:=by rw [← Array.length_toList,p2.length_eq,Array.length_toList]
        refine wpAny_bind (hgf _ _ _ ?_)
        refine wpAny_bind (wpAny_storeSet_of h1 rfl ?_ (fits_of_scanBound (by rw [sz2]; exact sz)))
        refine wpAny_pure (wpAny_pure (h true _ _ (sb.trans (Heap.SameBut.update _ S _)) ⟨es2,_,t3,put_there h1,fun e he=>ok1 e (p2.mem_iff.mp he),rfl,f3,g3⟩ ?_))
        rw [if_neg hm]
        exact (p2.map keyOf).trans pk
      · refine wpAny_pure (wpAny_pure (h true _ _ sb ⟨es1,_,t2,h1,ok1,rfl,f2,g2⟩ ?_))
        rw [if_neg hm]
        exact pk
    split
    · refine wpAny_bind ?_
      rw [hashByValue_scannable 8 (x:=.int k tk) rfl]
      refine wpAny_pure ?_
      exact tail _ (fun b _ _ q=>by cases b <;> first | exact wpAny_pure q | exact wpAny_rule q) _ fi tg1
    · refine wpAny_bind (wpAny_pure ?_)
      simp only [if_true]
      exact tail _ (fun b _ _ q=>by cases b <;> first | exact wpAny_pure q | exact wpAny_rule q) _ fi tg1
end
end L2
namespace L2
open PySem PySem.Spec PyProof.Rows VL
structure Once (val:Nat→Int) (i:Nat) (ks:List Int):Prop where
  nd:ks.Nodup
  mem:∀ x,x∈ks↔∃ j,j<i∧val j=x
  len:ks.length≤i
theorem Once.next {val:Nat→Int} {i:Nat} {ks ks':List Int} (h:Once val i ks) (p:ks'.Perm (if val i∈ks then ks else ks++[val i])):Once val (i+1) ks':=by
  have hl:=h.len
  by_cases c:val i∈ks
  · rw [if_pos c] at p
    refine ⟨p.nodup_iff.mpr h.nd,fun x=>?_,by rw [p.length_eq]; omega⟩
    rw [p.mem_iff,h.mem]
    constructor
    · rintro ⟨j,hj,e⟩; exact ⟨j,by omega,e⟩
    · rintro ⟨j,hj,e⟩
      by_cases z:j=i
      · subst z; exact (h.mem x).mp (e ▸ c)
      · exact ⟨j,by omega,e⟩
  · rw [if_neg c] at p
    refine ⟨p.nodup_iff.mpr (List.nodup_append.mpr ⟨h.nd,by simp,fun a ha b hb z=>?_⟩),fun x=>?_,by rw [p.length_eq,List.length_append,List.length_singleton]; omega⟩
    · rw [List.mem_singleton.mp hb] at z; subst z; exact c ha
    · rw [p.mem_iff,List.mem_append,h.mem,List.mem_singleton]
      constructor
      · rintro (⟨j,hj,e⟩ | rfl)
        · exact ⟨j,by omega,e⟩
        · exact ⟨i,by omega,rfl⟩
      · rintro ⟨j,hj,e⟩
        by_cases z:j=i
        · subst z; exact .inr e.symm
        · exact .inl ⟨j,by omega,e⟩
theorem SetI.at {led:Bool} {h h':Heap} {S:Addr} {ks:List Int} (x:SetI led h S ks) (hk:∀ o,h.get? S=some o→h'.get? S=some o):SetI led h' S ks:=by
  obtain ⟨es,ep,t,ho,r⟩:=x
  exact ⟨es,ep,t,hk _ ho,r⟩
section
variable {prog:Program} {w:World} {A:Around} {R:Result→Shared→Prop} {I:Addr} {fp wr:List Addr} {Gn:Array GenState→Array GenState→Prop} {n:Nat} {P:Nat→Value→Prop} {St:Nat→Shared→Prop}
theorem set_loop (W:WalksS prog w A.in1 I fp wr Gn n P St) {led:Bool} (S:Addr) (hSf:S∉fp) (val:Nat→Int) (hv:∀ j v,P j v→∃ t,v=.int (val j) t) (hn:n+1<scanBound) :
    ∀ (k i:Nat) (s:Shared) (ks:List Int),n-i=k→i≤n→St i s→SetI led s.heap S ks→Once val i ks→(∀ (u:Shared) (us:List Int),Moved (S::wr) Gn s u→SetI led u.heap S us→Once val n us→R (.ok (.ret .none)) u) →
      codeAny (model prog w) A (.builtin "set.update.loop" ⟨[.ref S,.ref I],[]⟩) R s:=by
  have nw:S∉wr:=fun z=>hSf (W.sub _ z)
  have sub:∀ b∈wr,b∈S::wr:=fun b z=>List.mem_cons_of_mem _ z
  intro k
  induction k with
  | zero =>
    intro i s ks hk hi st hS ho hR
    have e:i=n:=by omega
    subst e
    refine codeAny_builtin PyProof.Rows.F.entry_set_update_loop ?_
    rw [Around.under_plainId PyProof.Rows.F.plain_set_update_loop _]
    show wpAny _ A.in1 (pyNext (.ref I) >>= _) _ _ _
    refine wpAny_bind (W.done s _ _ st fun u mv=>?_)
    exact wpAny_pure (hR u ks (mv.mono sub) (hS.at fun o e=>mv.heap S _ nw e) ho)
  | succ k ih =>
    intro i s ks hk hi st hS ho hR
    have lt:i<n:=by omega
    refine codeAny_builtin PyProof.Rows.F.entry_set_update_loop ?_
    rw [Around.under_plainId PyProof.Rows.F.plain_set_update_loop _]
    show wpAny _ A.in1 (pyNext (.ref I) >>= _) _ _ _
    refine wpAny_bind (W.item i s _ _ lt st fun v u pv st' mv=>?_)
    obtain ⟨t,rfl⟩:=hv i v pv
    have hS':=hS.at (h':=u.heap) fun o e=>mv.heap S _ nw e
    show wpAny _ A.in1 (holding [.int (val i) t] (setAdd S (.int (val i) t)) >>= _) _ _ _
    refine wpAny_bind (wpAny_holding ?_)
    unfold setAdd
    refine wpAny_holding (wpAny_bind ((intKind prog w).pyHash (k:=val i) (intKind_is _ _ _ _) ?_))
    have room:ks.length+1<scanBound:=by have:=ho.len; omega
    refine add_int (s:={ u with toks:=u.toks+1 }) hS' room fun b g ks' sb hS2 pm=>?_
    refine wpAny_pure ⟨plainId_quiet PyProof.Rows.F.plain_set_update_loop _,ih (i+1) _ ks' (by omega) lt (W.frame _ u _ _ st' (Nat.le_succ _) fun b hb o e=>?_) hS2 (ho.next pm) fun u2 us m2 h2 o2=>?_⟩
    · rw [sb.2 b fun z=>hSf (z ▸ hb)]; exact e
    · refine hR u2 us (Moved.trans W.gtrans ((mv.mono sub).then_heap (Nat.le_succ _) fun b o hb e=>?_) m2) h2 o2
      rw [sb.2 b fun z=>hb (z ▸ List.mem_cons_self)]; exact e
end
section
variable {prog:Program} {w:World} {A:Around} {E:Value→Shared→Prop} {s:Shared}
def ledIn (w:World):Bool:=!(w.params.followText "set-order")
theorem new_set {Q:Value→Shared→Prop} (a:Value) (h:Q (.ref s.heap.objs.size) { s with heap:=s.heap.push (setO #[] 0 (.fresh 0 0 (ledIn w))) }):codeAny (model prog w) A (.call (.builtin "set.__new__") ⟨[.type "set", a],[]⟩) (wants Q E) s:=by
  refine codeAny_of_tree ?_
  show wpAny _ A.in1 (checkBuiltinCall "set.__new__" ⟨[.type "set", a],[]⟩ >>= fun _=>again (.builtin "set.__new__" ⟨[.type "set", a],[]⟩)) _ _ _
  refine wpAny_bind (wpAny_of_eq (PySem.F.newCall_set_1 a) (wpAny_pure ⟨plainId_quiet PySem.F.plain_set_new _,codeAny_builtin PySem.F.entry_set_new ?_⟩))
  rw [Around.under_plainId PySem.F.plain_set_new _]
  unfold Builtin.«set.__new__» Builtin.Frozenset.newClass
  have hsub:=sub_set_self
  obtain ⟨hp,gs,dr,tk,os⟩:=s
  dsimp only
  wp_walk
  refine wpAny_askSetting (wpAny_pure ?_)
  dsimp only
  simp only [newObj]
  exact wpAny_bind (wpAny_alloc (wpAny_pure (wpAny_pure h)))
theorem fresh_i (led:Bool) (h:Heap) (S:Addr) (e:h.get? S=some (setO #[] 0 (.fresh 0 0 led))):SetI led h S []:=⟨#[],0,_,e,fun e he=>(by simp at he),rfl,rfl,⟨rfl,by unfold Rs SetTable.fresh; simp⟩⟩
set_option maxHeartbeats 3200000 in
theorem call_set {l:Addr} {items:Array Value} {ns:List Int} {Q:Value→Shared→Prop} (hh:A.handled=none) (hl:s.heap.IsList l items) (hi:IntsAre items.toList ns) (hb:items.size+1<scanBound)
    (h:∀ (g:Heap) (tk:Nat) (ks:List Int),SetI (ledIn w) g s.heap.objs.size ks→Once (fun i=>ns.getD i 0) items.size ks→(∀ b o,b<s.heap.objs.size→s.heap.get? b=some o→g.get? b=some o)→Q (.ref s.heap.objs.size) { s with heap:=g,toks:=tk }) :
    wpAny (model prog w) A (call (.type "set") [.ref l]) Q E s:=by
  obtain ⟨c,tl,hmro⟩:=PySem.F.called_set.mro
  have hmade:=PySem.F.called_set.made
  have hsub:=PySem.F.called_set.sub
  refine wpAny_call (codeAny_of_tree ?_)
  show wpAny _ _ (callAny (.type "set") _) _ _ _
  refine wpAny_pure ⟨Code.quiet_builtin _ (by decide +kernel),codeAny_builtin PySem.F.entry_type_call ?_⟩
  rw [Around.under_plain (weight_type_call_type "set" [.ref l] []) rfl]
  have q1:=PySem.F.called_set.notType
  have q2:=PySem.F.called_set.canCreate
  have q3:=PySem.F.typeCall_set_1 (.ref l)
  repeat (any_goals (first | assumption | wp_step))
  refine codeAny_mono (new_set (.ref l) (E:=E) (Q:=fun v u=>v=.ref s.heap.objs.size∧u={ s with heap:=s.heap.push (setO #[] 0 (.fresh 0 0 (ledIn w))) }) ⟨rfl,rfl⟩) fun r u hr=>?_
  cases r with
  | error e=>exact hr
  | ok fl =>
    cases fl with
    | ret v =>
      obtain ⟨rfl,rfl⟩:=hr
      generalize hled:ledIn w=led at *
      have at0:(s.heap.push (setO #[] 0 (.fresh 0 0 led))).get? s.heap.objs.size=some (setO #[] 0 (.fresh 0 0 led)):=Heap.get?_push_size _ rfl
      have ty:Shared.TypeIs { s with heap:=s.heap.push (setO #[] 0 (.fresh 0 0 led)) } (.ref s.heap.objs.size) "set" := ⟨_,at0,rfl⟩
      have q4:=PySem.F.called_set.init.lookup
      have q5:=PySem.F.called_set.init.bind (.ref s.heap.objs.size)
      repeat (any_goals (first | assumption | wp_step))
      refine codeAny_mono (codeAny_call_builtin (R:=wants (fun r u=>r=.none∧∃ g tk ks,u={ s with heap:=g,toks:=tk }∧SetI led g s.heap.objs.size ks∧Once (fun i=>ns.getD i 0) items.size ks∧∀ b o,b<s.heap.objs.size→s.heap.get? b=some o→g.get? b=some o) E) PySem.F.called_set.init.plain PySem.F.entry_set_init (check_set_init_1 ty ?_)) fun r2 u2 h2=>?_
      · obtain ⟨ol,hol,hcl,nl,hdl⟩:=hl
        obtain ⟨ocls,odict,odata,oslots⟩:=ol
        simp only at hcl hdl
        subst hcl
        subst hdl
        have holp:(s.heap.push (setO #[] 0 (.fresh 0 0 led))).get? l=some { cls:=.type "list", dict:=odict,data:=.seq items nl,slots:=oslots }:=Heap.get?_push_of_some _ hol
        have q6:=PySem.F.sub_list_set
        have q7:=PySem.F.sub_list_frozenset
        have q8:(Value.type "list" == Value.type "dict")=false:=by decide
        have isl:(s.heap.push (setO #[] 0 (.fresh 0 0 led))).IsList l items:=⟨_,holp,rfl,nl,rfl⟩
        unfold Builtin.«set.__init__» noKeywords Builtin.Frozenset.updateFrom
        generalize hpi:pyIter=pit
        wp_walk
        subst hpi
        refine wpAny_pyIter_list isl ?_
        refine wpAny_bind (wpAny_runValue ?_)
        have ll:l<s.heap.objs.size:=Heap.lt_size hol
        have h3:A.in1.in1.in1.handled=none:=by simp [hh]
        have zz:(s.heap.push (setO #[] 0 (.fresh 0 0 led))).objs.size=s.heap.objs.size+1:=size_push' ..
        have nI:l≠(s.heap.push (setO #[] 0 (.fresh 0 0 led))).objs.size:=by rw [zz]; exact Nat.ne_of_lt (Nat.lt_succ_of_lt ll)
        have nS:s.heap.objs.size∉[(s.heap.push (setO #[] 0 (.fresh 0 0 led))).objs.size,l]:=by
          rw [zz]
          simp only [List.mem_cons,List.not_mem_nil,or_false,not_or]
          exact ⟨Nat.ne_of_lt (Nat.lt_succ_self _),Nat.ne_of_gt ll⟩
        have hval:∀ (i:Nat) (v:Value),items[i]?=some v→∃ t,v=.int ((fun i=>ns.getD i 0) i) t:=fun i v hv=>IntsAre.int_at hi i v (by rw [Array.getElem?_toList]; exact hv)
        refine set_loop ((Walks.list h3 _ l nI items).toS) (led:=led) s.heap.objs.size nS (fun i=>ns.getD i 0) hval hb (items.size-0) 0 _ [] (by omega) (Nat.zero_le _) ⟨⟨_,Heap.get?_push_size _ rfl,rfl,rfl⟩,isl.push _⟩ (fresh_i led _ _ (Heap.get?_push_of_some _ at0)) ⟨List.nodup_nil,fun x=>⟨fun z=>by (cases z),fun ⟨j,hj,_⟩=>by omega⟩,Nat.le_refl _⟩ fun u us mv hS ho=>?_
        obtain ⟨g,gs,dr,tk,os⟩:=u
        have e1:gs=s.gens:=mv.gens
        have e2:dr=s.drawn:=mv.drawn
        have e3:os=s.os:=mv.os
        subst e1
        subst e2
        subst e3
        show wpAny _ _ _ _ _ _
        refine wpAny_pure ?_
        show wpAny _ _ (ret Value.none) _ _ _
        refine wpAny_pure ⟨rfl,g,tk,us,rfl,hS,ho,fun b o hb e=>?_⟩
        refine mv.heap b o ?_ (Heap.get?_push_of_some _ (Heap.get?_push_of_some _ e))
        rw [zz]
        simp only [List.mem_cons,List.not_mem_nil,or_false,not_or]
        exact ⟨Nat.ne_of_lt hb,Nat.ne_of_lt (Nat.lt_succ_of_lt hb)⟩
      · cases r2 with
        | error e=>exact h2
        | ok f2 =>
          cases f2 with
          | ret r =>
            obtain ⟨rfl,g,tk,ks,rfl,hS,ho,hk⟩:=h2
            repeat (any_goals (first | assumption | wp_step))
            exact h _ _ _ hS ho hk
          | _=>exact h2.elim
    | _=>exact hr.elim
end
end L2
namespace L2
open PySem PySem.Spec PyProof.Rows VL
theorem sl_setI_next:Slot "set_iterator" "__next__" "set_iterator.__next__" := .of (owner := "set_iterator") (n := "__next__") (by rw [typeLookup_type,builtinLookup_eq_fast]; kernel_rfl) (by decide +kernel) (by decide +kernel) (by decide +kernel) (by first | exact .inl (by decide +kernel) | exact .inr (by decide +kernel)) (by rw [isSubtype_type]; kernel_rfl)
theorem sl_setI_iter:Slot "set_iterator" "__iter__" "set_iterator.__iter__" := .of (owner := "set_iterator") (n := "__iter__") (by rw [typeLookup_type,builtinLookup_eq_fast]; kernel_rfl) (by decide +kernel) (by decide +kernel) (by decide +kernel) (by first | exact .inl (by decide +kernel) | exact .inr (by decide +kernel)) (by rw [isSubtype_type]; kernel_rfl)
theorem en_setI_next:entryFor table "set_iterator.__next__" = some Builtin.«set_iterator.__next__»:=entryFor_of_tree (by kernel_rfl)
theorem en_setI_iter:entryFor table "set_iterator.__iter__" = some Builtin.«dict_keyiterator.__iter__»:=entryFor_alias (id' := "dict_keyiterator.__iter__") (by kernel_rfl) rfl (by decide +kernel) (by kernel_rfl)
theorem en_set_iter:entryFor table "set.__iter__" = some Builtin.«frozenset.__iter__»:=entryFor_alias (id' := "frozenset.__iter__") (by kernel_rfl) rfl (by decide +kernel) (by kernel_rfl)
theorem ar_setI_next (a:Value):argsOk "set_iterator.__next__" ⟨[a],[]⟩:=by unfold argsOk; kernel_rfl
theorem ar_setI_iter (a:Value):argsOk "set_iterator.__iter__" ⟨[a],[]⟩:=by unfold argsOk; kernel_rfl
def ItAt (h:Heap) (I S:Addr) (n ep:Nat) (first:Value) (i:Nat):Prop:=∃ o,h.get? I=some o∧o.cls=.type "set_iterator" ∧ o.data=.fields #[first,.int (i:Int) 0,.ref S,.int (n:Int) 0,.int (ep:Int) 0]
theorem ItAt.ty {s:Shared} {I S:Addr} {n ep:Nat} {f:Value} {i:Nat} (h:ItAt s.heap I S n ep f i):s.TypeIs (.ref I) "set_iterator" := let ⟨o,ho,hc,_⟩:=h; ⟨o,ho,hc⟩
theorem ItAt.at {h h':Heap} {I S:Addr} {n ep:Nat} {f:Value} {i:Nat} (x:ItAt h I S n ep f i) (e:∀ o,h.get? I=some o→h'.get? I=some o):ItAt h' I S n ep f i:=let ⟨o,ho,r⟩:=x; ⟨o,e _ ho,r⟩
section
variable {prog:Program} {w:World} {A:Around} {E:Value→Shared→Prop} {s:Shared} {I S:Addr} {n ep:Nat} {es:Array (Int×Value)} {t:SetTable}
theorem self_setI {f:Value} {i:Nat} {Q:Value→Shared→Prop} (h:ItAt s.heap I S n ep f i) (q:Q (.ref I) s):wpAny (model prog w) A (pyIter (.ref I)) Q E s:=by
  refine wpAny_pyIter_slot h.ty sl_setI_iter (wpAny_call_entry sl_setI_iter h.ty en_setI_iter ?_ (ar_setI_iter _))
  show wpAny _ _ (ret (.ref I)) _ _ _
  exact wpAny_pure ⟨_,rfl, "set_iterator", _,h.ty,sl_setI_next.lookup,q⟩
theorem nextS {i slot nx:Nat} {x:Value} {Q:Option Value→Shared→Prop} (h:ItAt s.heap I S es.size ep (.int (slot:Int) 0) i) (hS:s.heap.get? S=some (setO es ep t)) (hf:t.fits es.size=true)
    (hn:∀ (E':Value→Shared→Prop) (Q':Option (Value×Nat)→Shared→Prop),Q' (some (x,nx)) s→wpAny (model prog w) A.in1 (setNext S slot i ep) Q' E' s)
    (q:∀ g,ItAt g I S es.size ep (.int (nx:Int) 0) (i+1)→Heap.SameBut I s.heap g→Q (some x) { s with heap:=g }):wpAny (model prog w) A (pyNext (.ref I)) Q E s:=by
  obtain ⟨o,ho,hc,hd⟩:=id h
  unfold pyNext
  refine wpAny_bind (wpAny_attempt (wpAny_callSpecial?_slot (name:=Str.ofString "__next__") h.ty sl_setI_next (wpAny_call_entry sl_setI_next h.ty en_setI_next ?_ (ar_setI_next _))))
  unfold Builtin.«set_iterator.__next__»
  refine wpAny_bind (wpAny_pure ?_)
  refine wpAny_bind (wpAny_fieldsOf ho hd ?_)
  dsimp only
  refine wpAny_bind (wpAny_setEntries_of hS rfl hf ?_)
  rw [if_neg (by simp)]
  refine wpAny_bind ?_
  simp only [Int.toNat_natCast]
  refine hn _ _ ?_
  dsimp only
  refine wpAny_bind (wpAny_setField ho hd (by simp) ?_)
  have h1:(s.heap.update I (Obj.mapFields (·.setIfInBounds 0 (rawInt (nx:Int))))).get? I=some _:=Heap.get?_update_self _ ho (Obj.isFreed_of_fields (Obj.data_mapFields hd _))
  have d1:=Obj.data_mapFields hd (·.setIfInBounds 0 (rawInt (nx:Int)))
  refine wpAny_bind (wpAny_setField h1 d1 (by simp) ?_)
  refine wpAny_pure ⟨_,rfl,wpAny_pure (q _ ⟨_,Heap.get?_update_self _ h1 (Obj.isFreed_of_fields (Obj.data_mapFields d1 _)),(Obj.cls_mapFields ..).trans ((Obj.cls_mapFields ..).trans hc),by rw [Obj.data_mapFields d1]; simp [rawInt]⟩ ((Heap.SameBut.update ..).trans (Heap.SameBut.update ..)))⟩
theorem doneS {i slot:Nat} {Q:Option Value→Shared→Prop} (hh:A.handled=none) (h:ItAt s.heap I S es.size ep (.int (slot:Int) 0) i) (hS:s.heap.get? S=some (setO es ep t)) (hf:t.fits es.size=true)
    (hn:∀ (E':Value→Shared→Prop) (Q':Option (Value×Nat)→Shared→Prop),Q' none s→wpAny (model prog w) A.in1 (setNext S slot i ep) Q' E' s)
    (q:∀ g,Heap.ExtBut I s.heap g→Q none { s with heap:=g }):wpAny (model prog w) A (pyNext (.ref I)) Q E s:=by
  obtain ⟨o,ho,hc,hd⟩:=id h
  unfold pyNext
  refine wpAny_bind (wpAny_attempt (wpAny_callSpecial?_slot (name:=Str.ofString "__next__") h.ty sl_setI_next (wpAny_call_entry sl_setI_next h.ty en_setI_next ?_ (ar_setI_next _))))
  unfold Builtin.«set_iterator.__next__»
  refine wpAny_bind (wpAny_pure ?_)
  refine wpAny_bind (wpAny_fieldsOf ho hd ?_)
  dsimp only
  refine wpAny_bind (wpAny_setEntries_of hS rfl hf ?_)
  rw [if_neg (by simp)]
  refine wpAny_bind ?_
  simp only [Int.toNat_natCast]
  refine hn _ _ ?_
  dsimp only
  refine wpAny_bind (wpAny_setField ho hd (by simp) ?_)
  refine wpAny_bind ?_
  simp only [newExc,newTuple]
  refine wpAny_bind (wpAny_newObj_type ?_ (by size_fits))
  refine wpAny_bind (m:=firstArgMember _ _) (wpAny_of_eq (a:=Value.none) (by first | rfl | (simp only [firstArgMember]; rfl)) ?_)
  refine wpAny_newObj_type ?_ (by size_fits)
  simp only [raiseNew]
  refine wpAny_bind (wpAny_handled ?_)
  rw [show A.in1.handled=none from hh]
  refine wpAny_bind (wpAny_pure (wpAny_throw ?_))
  refine wpAny_bind (wpAny_isInstance (T := "StopIteration") (b:=true) ⟨_,Heap.get?_push_size _ rfl,rfl⟩ isSubtype_stop ?_)
  refine wpAny_pure (q _ fun b u hb e=>?_)
  exact Heap.get?_push_of_some _ (Heap.get?_push_of_some _ ((Heap.get?_update_other _ _ (Ne.symm hb)).trans e))
theorem nextD {T:Addr} {i:Nat} {pl:Array Value} {c p:Nat} {tk:Tok} {x:Value} {hx:Int} {Q:Option Value→Shared→Prop} (h:ItAt s.heap I S es.size ep (.ref T) i) (hS:s.heap.get? S=some (setO es ep t)) (hf:t.fits es.size=true)
    (hT:s.heap.get? T=some (seqObj "tuple" pl c)) (hp:pl[i]?=some (.int (p:Int) tk)) (he:es[p]?=some (hx,x))
    (q:∀ g,ItAt g I S es.size ep (.ref T) (i+1)→Heap.SameBut I s.heap g→Q (some x) { s with heap:=g }):wpAny (model prog w) A (pyNext (.ref I)) Q E s:=by
  obtain ⟨o,ho,hc,hd⟩:=id h
  unfold pyNext
  refine wpAny_bind (wpAny_attempt (wpAny_callSpecial?_slot (name:=Str.ofString "__next__") h.ty sl_setI_next (wpAny_call_entry sl_setI_next h.ty en_setI_next ?_ (ar_setI_next _))))
  unfold Builtin.«set_iterator.__next__»
  refine wpAny_bind (wpAny_pure ?_)
  refine wpAny_bind (wpAny_fieldsOf ho hd ?_)
  dsimp only
  refine wpAny_bind (wpAny_setEntries_of hS rfl hf ?_)
  rw [if_neg (by simp)]
  refine wpAny_bind (wpAny_seqItems hT rfl ?_)
  simp only [Int.toNat_natCast]
  rw [hp]
  dsimp only
  refine wpAny_bind ?_
  unfold setNextDrawn
  refine wpAny_bind (wpAny_setState_of hS rfl hf ?_)
  dsimp only
  simp only [Int.toNat_natCast,bne_self_eq_false,Bool.false_eq_true,if_false]
  rw [he]
  refine wpAny_pure ?_
  refine wpAny_bind (wpAny_setField ho hd (by simp) ?_)
  refine wpAny_pure ⟨_,rfl,wpAny_pure (q _ ⟨_,Heap.get?_update_self _ ho (Obj.isFreed_of_fields (Obj.data_mapFields hd _)),(Obj.cls_mapFields ..).trans hc,by rw [Obj.data_mapFields hd]; simp [rawInt]⟩ (Heap.SameBut.update ..))⟩
theorem doneD {T:Addr} {i:Nat} {pl:Array Value} {c:Nat} {Q:Option Value→Shared→Prop} (hh:A.handled=none) (h:ItAt s.heap I S es.size ep (.ref T) i) (hS:s.heap.get? S=some (setO es ep t)) (hf:t.fits es.size=true)
    (hT:s.heap.get? T=some (seqObj "tuple" pl c)) (hp:pl[i]?=none)
    (q:∀ g,Heap.ExtBut I s.heap g→Q none { s with heap:=g }):wpAny (model prog w) A (pyNext (.ref I)) Q E s:=by
  obtain ⟨o,ho,hc,hd⟩:=id h
  unfold pyNext
  refine wpAny_bind (wpAny_attempt (wpAny_callSpecial?_slot (name:=Str.ofString "__next__") h.ty sl_setI_next (wpAny_call_entry sl_setI_next h.ty en_setI_next ?_ (ar_setI_next _))))
  unfold Builtin.«set_iterator.__next__»
  refine wpAny_bind (wpAny_pure ?_)
  refine wpAny_bind (wpAny_fieldsOf ho hd ?_)
  dsimp only
  refine wpAny_bind (wpAny_setEntries_of hS rfl hf ?_)
  rw [if_neg (by simp)]
  refine wpAny_bind (wpAny_seqItems hT rfl ?_)
  simp only [Int.toNat_natCast]
  rw [hp]
  dsimp only
  refine wpAny_bind (wpAny_setField ho hd (by simp) ?_)
  have h1:(s.heap.update I (Obj.mapFields (·.setIfInBounds 0 (rawInt 0)))).get? I=some _:=Heap.get?_update_self _ ho (Obj.isFreed_of_fields (Obj.data_mapFields hd _))
  have d1:=Obj.data_mapFields hd (·.setIfInBounds 0 (rawInt 0))
  refine wpAny_bind (wpAny_setField h1 d1 (by simp) ?_)
  refine wpAny_bind ?_
  simp only [newExc,newTuple]
  refine wpAny_bind (wpAny_newObj_type ?_ (by size_fits))
  refine wpAny_bind (m:=firstArgMember _ _) (wpAny_of_eq (a:=Value.none) (by first | rfl | (simp only [firstArgMember]; rfl)) ?_)
  refine wpAny_newObj_type ?_ (by size_fits)
  simp only [raiseNew]
  refine wpAny_bind (wpAny_handled ?_)
  rw [show A.in1.handled=none from hh]
  refine wpAny_bind (wpAny_pure (wpAny_throw ?_))
  refine wpAny_bind (wpAny_isInstance (T := "StopIteration") (b:=true) ⟨_,Heap.get?_push_size _ rfl,rfl⟩ isSubtype_stop ?_)
  refine wpAny_pure (q _ fun b u hb e=>?_)
  exact Heap.get?_push_of_some _ (Heap.get?_push_of_some _ ((Heap.get?_update_other _ _ (Ne.symm hb)).trans ((Heap.get?_update_other _ _ (Ne.symm hb)).trans e)))
end
end L2
namespace L2
open PySem PySem.Spec PyProof.Rows VL
theorem erase_perm {α:Type} {l:List α} {i:Nat} (h:i<l.length):(l[i]::l.eraseIdx i).Perm l:=by
  have e:l=l.take i++l[i]::l.drop (i+1):=by rw [List.getElem_cons_drop,List.take_append_drop]
  rw [List.eraseIdx_eq_take_drop_succ]
  conv=>rhs; rw [e]
  exact List.perm_middle.symm
theorem pick_go {α:Type} (nx:Nat→Nat):∀ (f k:Nat) (left:List α) (out:Array α),left.length=f→(pickOrder.go nx f k left out).toList.Perm (out.toList++left)
  | 0,k,left,out,h=>by
    rw [List.eq_nil_of_length_eq_zero h,List.append_nil]
    exact .refl _
  | f+1,k,left,out,h=>by
    have hl:nx k % left.length<left.length:=Nat.mod_lt _ (by omega)
    unfold pickOrder.go
    rw [List.getElem?_eq_getElem hl]
    dsimp only
    refine (pick_go nx f (k+1) _ _ (by rw [List.length_eraseIdx_of_lt hl]; omega)).trans ?_
    rw [Array.toList_push,List.append_assoc]
    exact (erase_perm hl).append_left _
theorem pick_perm {α:Type} (nx:Nat→Nat) (xs:Array α):(pickOrder nx xs).toList.Perm xs.toList:=by
  have:=pick_go nx xs.size 0 xs.toList #[] (by simp)
  unfold pickOrder
  simpa using this
section
variable {prog:Program} {w:World} {A:Around} {E:Value→Shared→Prop} {s:Shared} {I S:Addr} {ep:Nat} {es:Array (Int×Value)} {t:SetTable}
theorem wp_choose {src:Source} {n:Nat} {Q:Nat→Shared→Prop} (hn:n≠0) (h:∀ (i:Nat) (d:Drawn),i<n→Q i { s with drawn:=d }):wpAny (model prog w) A (choose src n) Q E s:=fun Γ p _=>by
  show Sem.wp _ Γ (.choose src n .pure) _ _ _ _
  rw [Sem.wp_choose]
  exact ⟨hn,h _ _ (Nat.mod_lt _ (Nat.pos_of_ne_zero hn))⟩
theorem wp_draw {α:Type}:∀ (n:Nat) (xs:List α) (s:Shared) {Q:List α→Shared→Prop},xs.length=n→(∀ (ys:List α) (d:Drawn),ys.Perm xs→Q ys { s with drawn:=d })→wpAny (model prog w) A (drawOrder n xs) Q E s
  | 0,xs,s,Q,hl,h=>by
    rw [List.eq_nil_of_length_eq_zero hl] at h ⊢
    exact wpAny_pure (h [] s.drawn (.refl _))
  | n+1,[],s,Q,hl,h=>by cases hl
  | n+1,x::r,s,Q,hl,h=>by
    unfold drawOrder
    refine wpAny_bind (wp_choose (by simp) fun i d hi=>?_)
    rw [List.getElem?_eq_getElem hi]
    dsimp only
    refine wpAny_bind (wp_draw n _ _ (by rw [List.length_eraseIdx_of_lt hi]; simp at hl ⊢; exact hl) fun ys d' pm=>wpAny_pure (h _ _ ?_))
    exact (pm.cons _).trans (erase_perm hi)
theorem setNext_T {i slot:Nat} {Q:Option (Value×Nat)→Shared→Prop} (hb:w.params.followText "set-order" = true) (hS:s.heap.get? S=some (setO es ep t)) (hf:t.fits es.size=true)
    (h:Q (((pickOrder (w.params.setOrder S ep) es)[i]?).map fun e=>(e.2,slot)) s):wpAny (model prog w) A (setNext S slot i ep) Q E s:=by
  unfold setNext
  refine wpAny_bind (wpAny_setState_of hS rfl hf ?_)
  dsimp only
  unfold setsByText
  refine wpAny_bind (wpAny_bind (wpAny_askSetting (wpAny_pure ?_)))
  refine wpAny_ite_split (fun _=>?_) fun z=>absurd hb z
  simp only [bne_self_eq_false,Bool.false_eq_true,if_false]
  refine wpAny_bind ?_
  unfold setWalk
  refine wpAny_bind (wpAny_setState_of hS rfl hf ?_)
  dsimp only
  unfold setsByText
  refine wpAny_bind (wpAny_bind (wpAny_askSetting (wpAny_pure ?_)))
  refine wpAny_ite_split (fun _=>?_) fun z=>absurd hb z
  refine wpAny_bind (wpAny_askSetting (wpAny_pure ?_))
  exact wpAny_pure h
theorem setNext_P {i slot:Nat} {Q:Option (Value×Nat)→Shared→Prop} (hb:w.params.followText "set-order" = false) (hd:(!t.plain&&decide (es.size > 1))=false) (hled:t.led=true) (hS:s.heap.get? S=some (setO es ep t)) (hf:t.fits es.size=true)
    (h:Q (match es[SetTable.below t.place slot]?,t.place[SetTable.below t.place slot]? with | some (_,x),some j=>some (x,j+1) | _,_=>none) s):wpAny (model prog w) A (setNext S slot i ep) Q E s:=by
  unfold setNext
  refine wpAny_bind (wpAny_setState_of hS rfl hf ?_)
  dsimp only
  unfold setsByText
  refine wpAny_bind (wpAny_bind (wpAny_askSetting (wpAny_pure ?_)))
  refine wpAny_ite_split (fun z=>?_) fun _=>?_
  · have z:w.params.followText "set-order" = true:=z
    rw [hb] at z; cases z
  refine wpAny_ite_split (fun z=>?_) fun _=>?_
  · have z:(!t.plain&&decide (es.size > 1))=true:=z
    rw [hd] at z; cases z
  refine wpAny_bind ?_
  show wpAny _ _ (if (!t.led&&!es.isEmpty)=true then unsupported "set:maker-not-led" else pure PUnit.unit) _ _ _
  rw [if_neg (by rw [hled]; simp)]
  exact wpAny_pure (wpAny_pure h)
theorem below_zero {xs:Array Nat} (h:Rs xs):SetTable.below xs 0=0:=by
  obtain ⟨b1,b2,_⟩:=below_is h 0
  by_cases c:0<SetTable.below xs 0
  · have:=b2 0 (by omega) c; omega
  · omega
theorem below_succ {xs:Array Nat} (h:Rs xs) {i:Nat} (hi:i<xs.size):SetTable.below xs (xs[i]+1)=i+1:=by
  obtain ⟨b1,b2,b3⟩:=below_is h (xs[i]+1)
  generalize SetTable.below xs (xs[i]+1)=b at *
  by_cases c:b≤i
  · have:=b3 i hi c; omega
  · by_cases d:i+1<b
    · have h1:=b2 (i+1) (by omega) d
      have h2:=h.lt (i:=i) (j:=i+1) (by omega) (by omega)
      omega
    · omega
theorem fits_size {t:SetTable} {n:Nat} (h:t.fits n=true):t.place.size=n:=by
  unfold SetTable.fits at h
  simp at h
  exact h.1
theorem walk_T (hb:w.params.followText "set-order" = true) (hf:t.fits es.size=true) (hne:S≠I) (A':Around) (hh:A'.handled=none) :
    Walks prog w A' I [I,S] [I] es.size (fun i v=>((pickOrder (w.params.setOrder S ep) es).toList.map fun e=>e.2)[i]?=some v) (fun i g=>ItAt g I S es.size ep (.int ((0:Nat):Int) 0) i∧g.get? S=some (setO es ep t)) where
  sub:=fun b hb=>by simp at hb; simp [hb]
  frame:=fun _ _ _ st hk=>⟨st.1.at fun o e=>hk I (by simp) o e,hk S (by simp) _ st.2⟩
  item:=fun i s Q E hi st q=>by
    have hl:i<(pickOrder (w.params.setOrder S ep) es).size:=by
      have:=(pick_perm (w.params.setOrder S ep) es).length_eq
      simp at this; omega
    refine nextS (x:=(pickOrder (w.params.setOrder S ep) es)[i].2) (nx:=0) (t:=t) st.1 st.2 hf (fun E' Q' z=>setNext_T hb st.2 hf (by rw [Array.getElem?_eq_getElem hl]; exact z)) fun g it sb=>?_
    refine q _ g s.toks ?_ ⟨it,(sb.2 S hne).trans st.2⟩ fun b o hb e=>sb.extBut b o (fun z=>hb (by simp [z])) e
    rw [List.getElem?_map,Array.getElem?_toList,Array.getElem?_eq_getElem hl]; rfl
  done:=fun s Q E st q=>by
    refine doneS (t:=t) hh st.1 st.2 hf (fun E' Q' z=>setNext_T hb st.2 hf ?_) fun g ex=>q g s.toks fun b o hb e=>ex b o (fun z=>hb (by simp [z])) e
    rw [Array.getElem?_eq_none (by have:=(pick_perm (w.params.setOrder S ep) es).length_eq; simp at this; omega)]
    exact z
  self:=fun _ _ _ _ st q=>self_setI st.1 q
theorem walk_P (hb:w.params.followText "set-order" = false) (hd:(!t.plain&&decide (es.size > 1))=false) (tg:TabG (ledIn w) t) (hf:t.fits es.size=true) (hne:S≠I) (A':Around) (hh:A'.handled=none) :
    Walks prog w A' I [I,S] [I] es.size (fun i v=>(es.toList.map fun e=>e.2)[i]?=some v) (fun i g=>(∃ sl:Nat,ItAt g I S es.size ep (.int (sl:Int) 0) i∧SetTable.below t.place sl=i)∧g.get? S=some (setO es ep t)) where
  sub:=fun b hb=>by simp at hb; simp [hb]
  frame:=fun _ _ _ st hk=>⟨let ⟨sl,x,y⟩:=st.1; ⟨sl,x.at fun o e=>hk I (by simp) o e,y⟩,hk S (by simp) _ st.2⟩
  item:=fun i s Q E hi st q=>by
    obtain ⟨⟨sl,it0,hbl⟩,hS⟩:=st
    have hled:t.led=true:=by rw [tg.led]; unfold ledIn; rw [hb]; rfl
    have hp:=fits_size hf
    have hip:i<t.place.size:=by omega
    refine nextS (x:=es[i].2) (nx:=t.place[i]+1) (t:=t) it0 hS hf (fun E' Q' z=>setNext_P hb hd hled hS hf ?_) fun g it sb=>?_
    · rw [hbl,Array.getElem?_eq_getElem hi,Array.getElem?_eq_getElem hip]
      exact z
    · refine q _ g s.toks ?_ ⟨⟨_,it,below_succ tg.up hip⟩,(sb.2 S hne).trans hS⟩ fun b o hb e=>sb.extBut b o (fun z=>hb (by simp [z])) e
      rw [List.getElem?_map,Array.getElem?_toList,Array.getElem?_eq_getElem hi]; rfl
  done:=fun s Q E st q=>by
    obtain ⟨⟨sl,it0,hbl⟩,hS⟩:=st
    have hled:t.led=true:=by rw [tg.led]; unfold ledIn; rw [hb]; rfl
    refine doneS (t:=t) hh it0 hS hf (fun E' Q' z=>setNext_P hb hd hled hS hf ?_) fun g ex=>q g s.toks fun b o hb e=>ex b o (fun z=>hb (by simp [z])) e
    rw [hbl,Array.getElem?_eq_none (Nat.le_refl _)]
    exact z
  self:=fun _ _ _ _ st q=>let ⟨_,x,_⟩:=st.1; self_setI x q
theorem walk_D {T:Addr} {ys:List Nat} (hy:ys.Perm (List.range es.size)) (hf:t.fits es.size=true) (hne:S≠I) (hnT:T≠I) (A':Around) (hh:A'.handled=none) :
    Walks prog w A' I [I,S,T] [I] es.size (fun i v=>(ys.map fun p=>(es.getD p (0,.none)).2)[i]?=some v) (fun i g=>ItAt g I S es.size ep (.ref T) i∧g.get? S=some (setO es ep t)∧g.get? T=some (seqObj "tuple" (ys.map fun (i:Nat)=>rawInt (i:Int)).toArray 0)) where
  sub:=fun b hb=>by simp at hb; simp [hb]
  frame:=fun _ _ _ st hk=>⟨st.1.at fun o e=>hk I (by simp) o e,hk S (by simp) _ st.2.1,hk T (by simp) _ st.2.2⟩
  item:=fun i s Q E hi st q=>by
    have hl:i<ys.length:=by rw [hy.length_eq,List.length_range]; exact hi
    have hp:ys[i]<es.size:=List.mem_range.mp (hy.mem_iff.mp (List.getElem_mem hl))
    refine nextD (p:=ys[i]) (tk:=0) (x:=es[ys[i]].2) (hx:=es[ys[i]].1) (t:=t) st.1 st.2.1 hf st.2.2 (by simp [hl,rawInt]) (Array.getElem?_eq_getElem hp) fun g it sb=>?_
    refine q _ g s.toks ?_ ⟨it,(sb.2 S hne).trans st.2.1,(sb.2 T hnT).trans st.2.2⟩ fun b o hb e=>sb.extBut b o (fun z=>hb (by simp [z])) e
    rw [List.getElem?_map,List.getElem?_eq_getElem hl]
    simp [Array.getD,hp]
  done:=fun s Q E st q=>by
    refine doneD (t:=t) hh st.1 st.2.1 hf st.2.2 ?_ fun g ex=>q g s.toks fun b o hb e=>ex b o (fun z=>hb (by simp [z])) e
    have:ys.length=es.size:=by rw [hy.length_eq,List.length_range]
    simp [this]
  self:=fun _ _ _ _ st q=>self_setI st.1 q
theorem iter_set (hS:s.heap.get? S=some (setO es ep t)) (hf:t.fits es.size=true) (tg:TabG (ledIn w) t) (hsz:es.size≤sizeLine) {Q:Value→Shared→Prop}
    (h:∀ (g:Heap) (d:Drawn) (I:Addr) (ord:List Value) (fp:List Addr) (St:Nat→Heap→Prop),ord.Perm (es.toList.map fun e=>e.2)→(∀ b o,s.heap.get? b=some o→g.get? b=some o)→(∀ b∈fp,b<s.heap.objs.size→b=S)→(∀ b∈fp,b<g.objs.size)→s.heap.objs.size≤I →
      (∀ A':Around,A'.handled=none→Walks prog w A' I fp [I] es.size (fun i v=>ord[i]?=some v) St)→St 0 g→Q (.ref I) { s with heap:=g,drawn:=d }):wpAny (model prog w) A (pyIter (.ref S)) Q E s:=by
  have ty:s.TypeIs (.ref S) "set" := ⟨_,hS,rfl⟩
  have lS:S<s.heap.objs.size:=Heap.lt_size hS
  refine wpAny_pyIter_slot ty PySem.F.slot_set_iter (wpAny_call_entry PySem.F.slot_set_iter ty en_set_iter ?_ (PySem.F.args_set_iter_1 _))
  unfold Builtin.«frozenset.__iter__»
  refine wpAny_bind ?_
  unfold Builtin.Frozenset.slot0
  refine wpAny_bind (wpAny_pure (wpAny_pure ?_))
  refine wpAny_bind ?_
  unfold Builtin.Frozenset.sizeOf
  refine wpAny_bind (wpAny_setEntries_of hS rfl hf (wpAny_pure ?_))
  refine wpAny_bind ?_
  unfold setDrawn
  refine wpAny_bind (wpAny_setState_of hS rfl hf ?_)
  dsimp only
  unfold setsByText
  refine wpAny_bind (wpAny_bind (wpAny_askSetting (wpAny_pure ?_)))
  refine wpAny_pure ?_
  have nI:S≠s.heap.objs.size:=Nat.ne_of_lt lS
  refine wpAny_ite_split (fun z=>?_) fun z=>?_
  · refine wpAny_bind (wp_draw es.size (List.range es.size) _ (by simp) fun ys d pm=>?_)
    simp only [newTuple]
    refine wpAny_bind (wpAny_newObj_type ?_ (by show (ys.map fun (i:Nat)=>rawInt (i:Int)).toArray.size≤sizeLine; simp [pm.length_eq]; exact hsz))
    have hS1:(s.heap.push (seqObj "tuple" (ys.map fun (i:Nat)=>rawInt (i:Int)).toArray 0)).get? S=some (setO es ep t):=Heap.get?_push_of_some _ hS
    have hT1:(s.heap.push (seqObj "tuple" (ys.map fun (i:Nat)=>rawInt (i:Int)).toArray 0)).get? s.heap.objs.size=some (seqObj "tuple" (ys.map fun (i:Nat)=>rawInt (i:Int)).toArray 0):=Heap.get?_push_size _ rfl
    have zz:(s.heap.push (seqObj "tuple" (ys.map fun (i:Nat)=>rawInt (i:Int)).toArray 0)).objs.size=s.heap.objs.size+1:=size_push' ..
    have kp:∀ b o,s.heap.get? b=some o→(s.heap.push (seqObj "tuple" (ys.map fun (i:Nat)=>rawInt (i:Int)).toArray 0)).get? b=some o:=fun b o e=>Heap.get?_push_of_some _ e
    show wpAny _ _ _ _ _ { s with heap:=s.heap.push (seqObj "tuple" (ys.map fun (i:Nat)=>rawInt (i:Int)).toArray 0),drawn:=d }
    generalize s.heap.push (seqObj "tuple" (ys.map fun (i:Nat)=>rawInt (i:Int)).toArray 0)=g1 at *
    refine wpAny_bind ?_
    unfold setEpoch
    refine wpAny_bind (wpAny_setState_of hS1 rfl hf (wpAny_pure ?_))
    unfold newFields
    refine wpAny_bind (wpAny_newObj_type ?_ (by size_fits))
    refine wpAny_pure ⟨_,rfl, "set_iterator", _,⟨_,Heap.get?_push_size _ rfl,rfl⟩,sl_setI_next.lookup,?_⟩
    have n1:S≠g1.objs.size:=by rw [zz]; exact Nat.ne_of_lt (Nat.lt_succ_of_lt lS)
    have n2:s.heap.objs.size≠g1.objs.size:=by rw [zz]; exact Nat.ne_of_lt (Nat.lt_succ_self _)
    refine h _ d g1.objs.size (ys.map fun p=>(es.getD p (0,.none)).2) [g1.objs.size,S,s.heap.objs.size] _ ?_ (fun b o e=>Heap.get?_push_of_some _ (kp b o e)) (fun b hb lt=>?_) (fun b hb=>?_) (by rw [zz]; exact Nat.le_succ _) (fun A' hh=>walk_D (t:=t) (ep:=ep) pm hf n1 n2 A' hh) ⟨⟨_,Heap.get?_push_size _ rfl,rfl,rfl⟩,Heap.get?_push_of_some _ hS1,Heap.get?_push_of_some _ hT1⟩
    · refine (pm.map _).trans (List.Perm.of_eq ?_)
      refine List.ext_getElem (by simp) fun i h1 h2=>?_
      have hi:i<es.size:=by simpa using h1
      simp [Array.getD,hi]
    · simp only [List.mem_cons,List.not_mem_nil,or_false] at hb
      rcases hb with rfl | rfl | rfl
      · rw [zz] at lt; exact absurd lt (Nat.not_lt.mpr (Nat.le_succ _))
      · rfl
      · exact absurd lt (Nat.lt_irrefl _)
    · rw [size_push',zz]
      simp only [List.mem_cons,List.not_mem_nil,or_false] at hb
      rcases hb with rfl | rfl | rfl
      · rw [zz]; exact Nat.lt_succ_self _
      · exact Nat.lt_succ_of_lt (Nat.lt_succ_of_lt lS)
      · exact Nat.lt_succ_of_lt (Nat.lt_succ_self _)
  · refine wpAny_bind (wpAny_pure ?_)
    refine wpAny_bind ?_
    unfold setEpoch
    refine wpAny_bind (wpAny_setState_of hS rfl hf (wpAny_pure ?_))
    unfold newFields
    refine wpAny_bind (wpAny_newObj_type ?_ (by size_fits))
    refine wpAny_pure ⟨_,rfl, "set_iterator", _,⟨_,Heap.get?_push_size _ rfl,rfl⟩,sl_setI_next.lookup,?_⟩
    have fpl:∀ b∈[s.heap.objs.size,S],b<s.heap.objs.size→b=S:=fun b hb lt=>by
      simp only [List.mem_cons,List.not_mem_nil,or_false] at hb
      rcases hb with rfl | rfl
      · exact absurd lt (Nat.lt_irrefl _)
      · rfl
    have fpt:∀ (o:Obj),∀ b∈[s.heap.objs.size,S],b<(s.heap.push o).objs.size:=fun o b hb=>by
      rw [size_push']
      simp only [List.mem_cons,List.not_mem_nil,or_false] at hb
      rcases hb with rfl | rfl
      · exact Nat.lt_succ_self _
      · exact Nat.lt_succ_of_lt lS
    cases hb:w.params.followText "set-order" with
    | true =>
      refine h _ s.drawn s.heap.objs.size ((pickOrder (w.params.setOrder S ep) es).toList.map fun e=>e.2) [s.heap.objs.size,S] _ ((pick_perm _ _).map _) (fun b o e=>Heap.get?_push_of_some _ e) fpl (fpt _) (Nat.le_refl _) (fun A' hh=>walk_T (t:=t) hb hf nI A' hh) ⟨⟨_,Heap.get?_push_size _ rfl,rfl,rfl⟩,Heap.get?_push_of_some _ hS⟩
    | false =>
      have hd:(!t.plain&&decide (es.size > 1))=false:=by
        have z:¬ ((!w.params.followText "set-order" && (!t.plain&&decide (es.size > 1)))=true):=z
        rw [hb] at z
        simpa using z
      refine h _ s.drawn s.heap.objs.size (es.toList.map fun e=>e.2) [s.heap.objs.size,S] _ (.refl _) (fun b o e=>Heap.get?_push_of_some _ e) fpl (fpt _) (Nat.le_refl _) (fun A' hh=>walk_P (t:=t) (ep:=ep) hb hd tg hf nI A' hh) ⟨⟨0,⟨_,Heap.get?_push_size _ rfl,rfl,rfl⟩,below_zero tg.up⟩,Heap.get?_push_of_some _ hS⟩
end
end L2
namespace L2
open PySem PySem.Spec PyProof.Rows VL
section
variable {prog:Program} {w:World} {A:Around} {E:Value→Shared→Prop} {s:Shared} {S:Addr} {ep:Nat} {es:Array (Int×Value)} {t:SetTable}
theorem hint_set {Q:Bool→Shared→Prop} (ty:s.TypeIs (.ref S) "set") (q:Q false s):wpAny (model prog w) A (Builtin.List.listLengthHint (.ref S)) Q E s:=by
  unfold Builtin.List.listLengthHint
  refine wpAny_bind (wpAny_specialOf ty PySem.F.slot_set_len.lookup ?_)
  generalize hi:("set.__len__" : String)=i0
  wp_delta
  rw [show splitId i0=some ("set", "__len__") from by subst hi; decide +kernel]
  subst hi
  refine wpAny_bind (wpAny_isInstance (T := "set") (b:=true) ty (by rw [isSubtype_type]; kernel_rfl) ?_)
  refine wpAny_ite_split (fun z=>absurd z (by decide)) fun _=>?_
  refine wpAny_ite_split (fun _=>?_) fun z=>absurd (by decide +kernel) z
  exact wpAny_bind (wpAny_typeOf ty (wpAny_pure q))
theorem extend_set (hh:A.handled=none) (hS:s.heap.get? S=some (setO es ep t)) (hf:t.fits es.size=true) (tg:TabG (ledIn w) t) (hsz:es.size≤sizeLine) {L:Addr} (hL:s.heap.get? L=some (seqObj "list" #[] 0)) {R:Result→Shared→Prop}
    (h:∀ (g:Heap) (tk:Nat) (d:Drawn) (acc:Array Value) (c:Nat),acc.toList.Perm (es.toList.map fun e=>e.2)→g.get? L=some (seqObj "list" acc c)→(∀ b o,b≠L→s.heap.get? b=some o→g.get? b=some o)→R (.ok (.ret (.ref L))) { s with heap:=g,toks:=tk,drawn:=d }) :
    wpAny (model prog w) A.in1 (Builtin.List.listExtendWith (.ref L) (.ref S) (.ref L)) (fun fin u=>match fin with | .done f=>R (.ok f) u | .again c=>c.quiet=true∧codeAny (model prog w) A c R u) (fun e u=>R (.error e) u) s:=by
  have ty:s.TypeIs (.ref S) "set" := ⟨_,hS,rfl⟩
  have ne:L≠S:=fun z=>by
    rw [z,hS] at hL
    have q:Value.type "set" = Value.type "list" := congrArg Obj.cls (Option.some.inj hL)
    injection q with q
    exact absurd q (by decide)
  unfold Builtin.List.listExtendWith
  refine wpAny_bind (wpAny_typeOf ty ?_)
  have n1:Builtin.List.listSameRef (.ref L) (.ref S)=false:=by simp [Builtin.List.listSameRef,ne]
  have n2:(Value.type "set" == Value.type "list")=false:=by decide
  have n3:(Value.type "set" == Value.type "tuple")=false:=by decide
  simp only [n1,n2,n3,Bool.or_false,Bool.false_eq_true,if_false]
  refine wpAny_bind (iter_set hS hf tg hsz fun g d I ord fp St pm kp fpl fpt hI W st=>?_)
  have W:=W A.in1 hh
  have hL1:=kp _ _ hL
  have nL:L∉fp:=fun z=>ne (fpl L z (Heap.lt_size hL))
  have key:∀ (g2:Heap) (c1 tk:Nat),St 0 g2→(∀ b o,b≠L→s.heap.get? b=some o→g2.get? b=some o)→g2.get? L=some (seqObj "list" #[] c1)→codeAny (model prog w) A (.builtin "list.extend.loop" ⟨[.ref L,.ref I,.ref L],[]⟩) R { s with heap:=g2,toks:=tk,drawn:=d }:=by
    intro g2 c1 tk hst hk hL2
    refine codeAny_extend_loopS W.toS hsz L nL (.ref L) es.size 0 _ #[] c1 rfl (Nat.zero_le _) hst hL2 (ItemsOf.nil _) fun u acc c mv hu hacc=>?_
    rw [Moved.eq_with mv]
    refine h u.heap u.toks d acc c ?_ hu fun b o hb e=>mv.heap b o (fun z=>?_) (hk b o hb e)
    · have e:acc.toList=ord:=by
        refine List.ext_getElem? fun j=>?_
        have hl:ord.length=es.size:=by rw [pm.length_eq]; simp
        by_cases c:j<es.size
        · rw [Array.getElem?_toList,Array.getElem?_eq_getElem (by rw [hacc.1]; exact c)]
          exact (hacc.2 j _ (Array.getElem?_eq_getElem (by rw [hacc.1]; exact c))).symm
        · rw [List.getElem?_eq_none (by rw [Array.length_toList,hacc.1]; omega),List.getElem?_eq_none (by omega)]
      rw [e]; exact pm
    · rcases List.mem_cons.mp z with z | z
      · exact hb z
      · have:=Heap.lt_size e
        rw [List.mem_singleton.mp z] at this
        exact absurd (Nat.lt_of_lt_of_le this hI) (Nat.lt_irrefl _)
  refine wpAny_bind (wpAny_holding (hint_set ⟨_,kp _ _ hS,rfl⟩ ?_))
  refine wpAny_ite_split (fun _=>?_) fun _=>wpAny_pure ⟨plainId_quiet PySem.F.plain_extend_loop _,key g 0 s.toks st (fun b o _ e=>kp b o e) hL1⟩
  refine wpAny_bind (wpAny_rule (wpAny_bind ?_))
  show wpAny _ _ (updateSeq L (·.push .none) >>= fun _=>updateSeq L (·.pop)) _ _ _
  have hL2:(g.update L (Obj.mapSeq (·.push Value.none))).get? L=some _:=Heap.get?_update_self _ hL1 rfl
  refine wpAny_bind (wpAny_updateSeq hL1 rfl ?_)
  refine wpAny_updateSeq (hz:=by seq_fits) hL2 rfl ?_
  have hL3:((g.update L (Obj.mapSeq (·.push Value.none))).update L (Obj.mapSeq (·.pop))).get? L=some _:=Heap.get?_update_self _ hL2 rfl
  have oth:∀ b o,b≠L→g.get? b=some o→((g.update L (Obj.mapSeq (·.push Value.none))).update L (Obj.mapSeq (·.pop))).get? b=some o:=fun b o hb e=>(Heap.get?_update_other _ _ (Ne.symm hb)).trans ((Heap.get?_update_other _ _ (Ne.symm hb)).trans e)
  exact wpAny_pure ⟨plainId_quiet PySem.F.plain_extend_loop _,key _ _ _ (W.frame 0 _ _ st fun b hb o e=>oth b o (fun z=>nL (z ▸ hb)) e) (fun b o hb e=>oth b o hb (kp b o e)) hL3⟩
theorem collect_set (hh:A.handled=none) (hS:s.heap.get? S=some (setO es ep t)) (hf:t.fits es.size=true) (tg:TabG (ledIn w) t) (hsz:es.size≤sizeLine) {R:List Value→Shared→Prop}
    (h:∀ (g:Heap) (tk:Nat) (d:Drawn) (vs:List Value),vs.Perm (es.toList.map fun e=>e.2)→(∀ b o,s.heap.get? b=some o→g.get? b=some o)→s.heap.objs.size<g.objs.size→R vs { s with heap:=g,toks:=tk,drawn:=d }):wpAny (model prog w) A (collect (.ref S)) R E s:=by
  unfold collect
  refine wpAny_bind (wpAny_runValue (codeAny_builtin entry_proto_collect' ?_))
  rw [Around.under_plainId PySem.F.plain_proto_collect _]
  show wpAny _ A.in1 (newList [] >>= fun v=>again (.builtin "list.__iadd__" ⟨[v,.ref S],[]⟩)) _ _ _
  refine wpAny_bind (wpAny_newObj_type ?_)
  refine wpAny_pure ⟨plainId_quiet PySem.F.plain_list_iadd _,codeAny_builtin entry_list_iadd' ?_⟩
  rw [Around.under_plainId PySem.F.plain_list_iadd _]
  have hL:(s.heap.push (seqObj "list" #[] 0)).get? s.heap.objs.size=some (seqObj "list" #[] 0):=Heap.get?_push_size _ rfl
  show wpAny _ A.in1 (Builtin.List.listExtendWith (.ref s.heap.objs.size) (.ref S) (.ref s.heap.objs.size)) _ _ { s with heap:=s.heap.push (seqObj "list" #[] 0) }
  have key:=extend_set (prog:=prog) (w:=w) (A:=A) (s:={ s with heap:=s.heap.push (seqObj "list" #[] 0) }) hh (Heap.get?_push_of_some _ hS) hf tg hsz hL (R:=fun (q:Result) (u:Shared)=>∃ (g:Heap) (tk:Nat) (d:Drawn) (acc:Array Value) (c:Nat),q=.ok (.ret (.ref s.heap.objs.size))∧u={ s with heap:=g,toks:=tk,drawn:=d }∧acc.toList.Perm (es.toList.map fun e=>e.2)∧g.get? s.heap.objs.size=some (seqObj "list" acc c)∧∀ b o,s.heap.get? b=some o→g.get? b=some o)
    fun g tk d acc c pm hg kp=>⟨g,tk,d,acc,c,rfl,rfl,pm,hg,fun b o e=>kp b o (Nat.ne_of_lt (Heap.lt_size e)) (Heap.get?_push_of_some _ e)⟩
  refine wpAny_mono key (fun fin u x=>?_) fun e u x=>?_
  · cases fin with
    | done f =>
      obtain ⟨g,tk,d,acc,c,e,rfl,pm,hg,kp⟩:=x
      cases e
      refine wpAny_bind (wpAny_load hg ?_)
      exact wpAny_pure (h g tk d _ pm kp (Heap.lt_size hg))
    | again c1 =>
      refine ⟨x.1,codeAny_mono x.2 fun q u2 y=>?_⟩
      obtain ⟨g,tk,d,acc,c,rfl,rfl,pm,hg,kp⟩:=y
      refine wpAny_bind (wpAny_load hg ?_)
      exact wpAny_pure (h g tk d _ pm kp (Heap.lt_size hg))
  · obtain ⟨_,_,_,_,_,e',_⟩:=x
    cases e'
theorem vals_of {l:List (Int×Value)} (h:∀ e∈l,OkE e):∀ {vs:List Value},vs.Perm (l.map fun e=>e.2)→∃ ns:List Int,IntsAre vs ns∧ns.Perm (l.map keyOf):=by
  have hv:∀ vs:List Value,(∀ v∈vs,∃ k t,v=.int k t)→IntsAre vs (vs.map fun v=>match v with | .int k _=>k | _=>0):=by
    intro vs
    induction vs with
    | nil=>intro _; exact .nil
    | cons v r ih =>
      intro hz
      obtain ⟨k,t,rfl⟩:=hz v List.mem_cons_self
      exact .cons k t (ih fun u hu=>hz u (List.mem_cons_of_mem _ hu))
  intro vs pm
  refine ⟨_,hv vs fun v z=>?_,?_⟩
  · obtain ⟨e,he,rfl⟩:=List.mem_map.mp (pm.mem_iff.mp z)
    obtain ⟨k,t,rfl⟩:=h e he
    exact ⟨k,t,rfl⟩
  · have:=pm.map fun v=>match v with | .int k _=>k | _=>(0:Int)
    rw [List.map_map] at this
    exact this
theorem sorted_set (hh:A.handled=none) {ks:List Int} (hS:SetI (ledIn w) s.heap S ks) (hl:ks.length<1000) {Q:Value→Shared→Prop}
    (h:∀ (g:Heap) (tk:Nat) (d:Drawn) (D:Addr) (out:List Value) (ms:List Int) (c:Nat),IntsAre out ms→ms.Perm ks→ms.Pairwise (·≤·)→s.heap.objs.size≤D→g.get? D=some (seqObj "list" out.toArray c)→(∀ b o,s.heap.get? b=some o→g.get? b=some o)→Q (.ref D) { s with heap:=g,toks:=tk,drawn:=d }):wpAny (model prog w) A (call (.builtin "sorted") [.ref S]) Q E s:=by
  obtain ⟨es,ep,t,ho,hok,rfl,hf,tg⟩:=hS
  have hline:sizeLine=16777216:=sizeLine_eq
  rw [List.length_map,Array.length_toList] at hl
  refine Calls.call_function_entry kind_sorted plain_sorted entry_sorted (args_sorted1 _) ?_
  unfold Builtin.«sorted»
  refine wpAny_bind (m:=checkCount "sorted" 1 1 _) (wpAny_pure ?_)
  refine wpAny_bind (collect_set (A:=A.in1) hh ho hf tg (by omega) fun g tk d vs pm kp big=>?_)
  obtain ⟨ns,hi,pn⟩:=vals_of hok pm
  have hvl:vs.length<1000:=by rw [pm.length_eq,List.length_map,Array.length_toList]; exact hl
  refine wpAny_bind (wpAny_newList ?_ (by omega))
  have hD:(g.push (seqObj "list" vs.toArray 0)).get? g.objs.size=some (seqObj "list" vs.toArray 0):=Heap.get?_push_size _ rfl
  show wpAny _ _ _ _ _ { s with heap:=g.push (seqObj "list" vs.toArray 0),toks:=tk,drawn:=d }
  refine wpAny_bind (wpAny_holding (wpAny_call_entry slot_list_sort ⟨_,hD,rfl⟩ entry_list_sort (Tm.list_sort_many hD hi (by omega) fun out ms a1 a2 a3=>⟨_,rfl,?_⟩) (args_list_sort _)))
  obtain ⟨c,hc⟩:=sortedHeap_at (out:=out) hD
  exact wpAny_pure ⟨_,rfl,h _ tk d g.objs.size out.toList ms c a1 (a2.trans pn) a3 (Nat.le_of_lt big) (by rw [Array.toArray_toList]; exact hc) fun b o e=>(sortedHeap_old (Nat.ne_of_lt (Heap.lt_size (kp b o e))) (by rw [size_push']; exact Nat.lt_succ_of_lt (Heap.lt_size (kp b o e)))).trans (Heap.get?_push_of_some _ (kp b o e))⟩
end
end L2
namespace L2
open PySem PySem.Spec PyProof.Rows VL
theorem Inv.drw {X:Cx} {pins:List (Addr×Obj)} {σ:St} {H:Hp} {s:Shared} {d:Drawn} (I:Inv X pins σ H s):Inv X pins σ H { s with drawn:=d }:=⟨I.ok,I.os,I.bare,I.base,I.loc,I.cell,I.free,I.freeC,I.pin,I.hok,I.len⟩
def SrtS (ns ms:List Int):Prop:=ms.Nodup∧(∀ x,x∈ms↔x∈ns)∧ms.Pairwise (·≤·)
def tSrtS (K:PySem.W.Frag) (ta:TE):TE:=fun σ H Q=>ta σ H fun v H1=>∃ (a:Addr) (ns:List Int),v=.ref a∧SqL K H1 a (ns.map V.int)∧ns.length<800∧∀ ms,SrtS ns ms→∀ D,H1 D=none→Q (.ref D) (upd H1 D (.lst (ms.map V.int)))
theorem pe_srtSet {X:Cx} {K:PySem.W.Frag} {a:Expr} {ta:TE} {p1 p2 q1 q2:Pos} (hK:X.K=K) (hc:X.calm=true) (hg1:Gl X "sorted") (hm1:X.mg "sorted" = none) (hg2:Gl X "set") (hm2:X.mg "set" = none) (ha:PE X a ta)
    (e1:starEach [.Call (.Name "set" p2) [a] [] q2] X.env=[(false,eval (.Call (.Name "set" p2) [a] [] q2) X.env)]:=by rfl) (e2:starEach [a] X.env=[(false,eval a X.env)]:=by rfl) :
    PE X (.Call (.Name "sorted" p1) [.Call (.Name "set" p2) [a] [] q2] [] q1) (tSrtS K ta):=by
  subst hK
  intro pins s σ H Q I h
  have hh:=I.ok.hd hc
  refine wpAny_Call_Name_kw (ld_blt I hg1 hm1 bt_sorted ?_ (by decide) (by decide))
  refine PyProof.Rows.callWith_builtin1 (rest:=[]) ?_ (by rw [e1]; rfl) rfl
  rw [e1]
  show wpAny _ _ (spliced [(false,eval (.Call (.Name "set" p2) [a] [] q2) X.env)]) _ _ s
  refine Calls.spliced_cons ?_
  refine wpAny_Call_Name_kw (ld_blt I hg2 hm2 bt_set ?_ (by decide) (by decide))
  refine PyProof.Rows.callWith_type1 (rest:=[]) ?_ (by rw [e2]; rfl) rfl
  refine thn (pa_cons ha pa_nil (hs:=by rw [e2]; rfl) q2 pins s σ H (fun xs H1=>match xs with
    | [v]=>∃ (a:Addr) (ns:List Int),v=.ref a∧SqL X.K H1 a (ns.map V.int)∧ns.length<800∧∀ ms,SrtS ns ms→∀ D,H1 D=none→Q (.ref D) (upd H1 D (.lst (ms.map V.int)))
    | _=>False) I h) fun us s1 ⟨vs0,H1,I1,r1,z1⟩=>?_
  match vs0,z1 with
  | [v],z1 =>
  obtain ⟨b,ns,rfl,hq,hl,hQ⟩:=z1
  cases r1 with
  | cons r1 r2 =>
  cases r2
  cases (show _=Value.ref b from r1)
  obtain ⟨its,rv,pl,_⟩:=I1.list hq
  have hi:=intsAre_of rv
  have hil:its.length=ns.length:=by rw [← rv.length,List.length_map]
  have hsb:scanBound=4096:=rfl
  refine call_set hh pl.isList (by simpa using hi) (by rw [List.size_toArray]; omega) fun g tk ks hS ho kp=>?_
  refine Calls.spliced_nil ?_
  have I2:Inv X pins σ H1 { s1 with heap:=g,toks:=tk }:=I1.kept fun b u e=>kp b u (Heap.lt_size e) e
  have hkl:=ho.len
  rw [List.size_toArray] at hkl
  refine sorted_set hh hS (by omega) fun g2 tk2 d D out ms c i1 pm up big hD kp2=>?_
  have hml:ms.length=ks.length:=pm.length_eq
  have I3:=I2.laid (a:=D) (o:=.lst (ms.map V.int)) (t':=tk2) kp2 big ⟨by rw [List.length_map,hml]; have:=sizeLine_eq; omega,out,c,vals_ints i1,hD⟩
  refine ⟨.ref D,upd H1 D (.lst (ms.map V.int)),I3.drw,rfl,hQ ms ⟨pm.nodup_iff.mpr ho.nd,fun x=>?_,up⟩ D (I2.hok.fresh big)⟩
  rw [pm.mem_iff,ho.mem,List.size_toArray]
  constructor
  · rintro ⟨j,hj,e⟩
    rw [← e]
    show ns.getD j 0∈ns
    rw [List.getD_eq_getElem?_getD,List.getElem?_eq_getElem (by omega)]
    exact List.getElem_mem _
  · intro hx
    obtain ⟨j,hj,e⟩:=List.getElem_of_mem hx
    exact ⟨j,by omega,by rw [List.getD_eq_getElem?_getD,List.getElem?_eq_getElem hj]; exact e⟩
end L2
namespace VL
open PySem L2
open Classical
noncomputable section
variable [Tabs] {K:PySem.W.Frag}
omit [Tabs] in
theorem srtS_uniq {ns a b:List Int} (h1:SrtS ns a) (h2:SrtS ns b):a=b:=by
  refine List.Perm.eq_of_pairwise (fun x y _ _ p q=>by omega) h1.2.2 h2.2.2 ?_
  refine (List.perm_ext_iff_of_nodup h1.1 h2.1).mpr fun x=>(h1.2.1 x).trans (h2.2.1 x).symm
noncomputable def dSrtS (a:DE):Rho→Option (List D):=fun ρ=>match asL a ρ with
  | some ds=>(match asInts ds with
    | some ns=>if h:ns.length<800∧∃ ms,SrtS ns ms then some ((h.2.choose).map D.int) else none
    | none=>none)
  | none=>none
omit [Tabs] in
theorem dSrtS_of {a:DE} {ρ:Rho} {ns ms:List Int} (h:asL a ρ=some (ns.map D.int)) (hl:ns.length<800) (hm:SrtS ns ms):dSrtS a ρ=some (ms.map D.int):=by
  have hh:ns.length<800∧∃ ms,SrtS ns ms:=⟨hl,ms,hm⟩
  unfold dSrtS
  rw [h]
  dsimp only
  rw [asInts_map]
  dsimp only
  rw [dif_pos hh,srtS_uniq hh.2.choose_spec hm]
theorem sf_srtS {ta:TE} {a:DE} (ha:SemB K ta a):SemF K (tSrtS K ta) (dSrtS a):=fun {B Z os ρ σ H Q es} f q k=>by
  unfold dSrtS at q
  split at q
  · rename_i ds e0
    split at q
    · rename_i ns e1
      split at q
      · rename_i hh
        cases q
        obtain ⟨d,e0,ed⟩:=asL_some e0
        refine ha f e0 fun v H1 s1 i1=>?_
        obtain ⟨p,vs,rfl,hlv,hn,hr⟩:=i1.seq ed
        obtain ⟨hq,il⟩:=hr H1 _ Kp.refl
        have ei:=asInts_some e1
        subst ei
        have ev:=IsL.ints il
        subst ev
        refine ⟨p,ns,rfl,hq,hh.1,fun ms hm D hD=>?_⟩
        rw [srtS_uniq hm hh.2.choose_spec]
        have hs:sizeLine=16777216:=sizeLine_eq
        have hlen:hh.2.choose.length≤ns.length:=by
          have sp:=hh.2.choose_spec
          exact List.Nodup.length_le_of_subset sp.1 fun x hx=>(sp.2.1 x).mp hx
        exact k D _ _ (s1.trans (same_new hD)) (Same.free s1 hD) upd_same (by rw [List.length_map]; have:=hh.1; omega) (.ofInts _)
      · cases q
    · cases q
  · cases q
end
end VL
namespace VL
open PySem L2
open Classical
noncomputable section
variable [Tabs] {K:PySem.W.Frag}
end
end VL
namespace L2
open PySem PySem.Spec PyProof.Rows VL
end L2
namespace VL
open PySem L2
open Classical
noncomputable section
variable [Tabs] {K:PySem.W.Frag}
end
end VL
namespace VL
open PySem L2
open Classical
noncomputable section
variable [Tabs] {K:PySem.W.Frag} {fr:Fm}
end
end VL
namespace VL
open PySem L2
open Classical
noncomputable section
variable [Tabs] {K:PySem.W.Frag} {fr:Fm}
end
end VL
namespace VL
open PySem L2
open Classical
noncomputable section
variable [Tabs] {K:PySem.W.Frag} {fr:Fm}
section
variable {B H:Hp} {Z:Addr→Prop} {os:Own} {ρ:Rho} {σ:L2.St} {i:Nat} {a:Addr} {ps:List Addr} {rows:List (List D)}
end
end
end VL
namespace L2
open PySem PySem.Spec PyProof.Rows VL
section
variable {X:Cx} {tg:Expr}
end
end L2
namespace VL
open PySem L2
open Classical
noncomputable section
variable [Tabs] {K:PySem.W.Frag} {fr:Fm}
end
end VL
namespace PySem
open Sem (wp)
section
variable {prog:Program} {w:World} {A:Around} {E:Value→Shared→Prop} {s:Shared}
end
end PySem
namespace PySem
open Sem (wp)
namespace F
end F
section
variable {prog:Program} {w:World} {A:Around} {E:Value→Shared→Prop} {s:Shared}
end
end PySem
namespace L2
open PySem PySem.Spec PyProof.Rows VL
section
variable {P:Program} {w:World} {H:Hp} {h:Heap}
end
end L2
namespace VL
open PySem L2
open Classical
noncomputable section
variable [Tabs] {K:PySem.W.Frag}
end
end VL
namespace VL
open PySem L2
open Classical
noncomputable section
variable [Tabs] {K:PySem.W.Frag}
def unI:List D→Option (List Int)
  | []=>some []
  | .int n::r=>(unI r).map (n::·)
  | _=>none
omit [Tabs] in
end
end VL
namespace L2
open PySem PySem.Spec PyProof.Rows VL
open Builtin.Str (occurrences subAt strSub partsBetween glued strKind tooLong)
section
variable {X:Cx}
end
end L2
namespace VL
open PySem L2
open Builtin.Str (occurrences subAt strSub partsBetween glued strKind tooLong)
open Classical
noncomputable section
variable [Tabs] {K:PySem.W.Frag} {ta tb:TE} {a b:DE}
end
end VL
namespace L2
open PySem PySem.Spec PyProof.Rows VL
open Builtin.Str (occurrences subAt strSub partsBetween glued strKind tooLong strSliceIndices)
section
variable {X:Cx}
end
end L2
namespace VL
open PySem L2
open Builtin.Str (occurrences subAt strSub partsBetween glued strKind tooLong)
open Classical
noncomputable section
variable [Tabs] {K:PySem.W.Frag} {ta tb:TE} {a b:DE}
end
end VL
namespace L2
open PySem PySem.Spec PyProof.Rows VL
structure MkP (K:PySem.W.Frag) (C:Addr):Prop where
  makes:PySem.W.makesIn K C=true
  init:PySem.W.findIn K (.ref C) "__init__" = some (some (.builtin "object.__init__"))
  kp:PySem.W.keepIn K (.ref C)=true
section
variable {X:Cx}
inductive MTab (X:Cx) (m:Str):List (Addr×Sp)→Prop
  | nil:MTab X m []
  | cons {C f:Addr} {fd:FuncData} {ps:List Str} {sp:Sp} {k:Nat} {tbl:List (Addr×Sp)} (c:Cls X.K C) (hm:Meth X.K C m f) (F:FnOk X.prog X.w X.K X.mg X.base CX0 k f fd ps sp) (hr:Room k X.A) (hb:Binds X.K fd ps []) (r:MTab X m tbl):MTab X m ((C,sp)::tbl)
structure ClsI (K:PySem.W.Frag) (C:Addr):Prop where
  cl:Cls K C
  ha:PySem.W.findIn K (.ref C) "__class__" = some (some (.builtin "object.__class__"))
  hn:PySem.W.specialIn K (.builtin "object.__class__") "__get__" = some (some (.builtin "getset_descriptor.__get__"))
  htk:PySem.W.takesIn K (.builtin "object.__class__")=some true
  hm:PySem.W.mroIn K C (.type "object")=some true
end
end L2
namespace VL
open PySem L2
open Classical
noncomputable section
variable [Tabs] {K:PySem.W.Frag} {ta tb:TE} {a b:DE}
inductive KTab (K:PySem.W.Frag) (c:Addr):List (Addr×Bool)→Prop
  | nil:KTab K c []
  | cons {C:Addr} {b:Bool} {r:List (Addr×Bool)} (k:ClsI K C) (e:PySem.W.kitOne K (.ref C) (.ref c)=some b) (h:KTab K c r):KTab K c ((C,b)::r)
end
end VL
namespace VL
open PySem L2
open Classical
noncomputable section
variable [Tabs] {K:PySem.W.Frag} {fr:Fm}
end
end VL
set_option maxHeartbeats 4000000
namespace My
open PySem L2 VL
def top (i:Nat):Stmt:=PySem.Challenge.pw_leastfloor_k04_moments_and_busy.main.body.getD i (.Pass ⟨0,0,0,0⟩)
noncomputable abbrev s_moments:Stmt:=top 5
noncomputable abbrev s_busy:Stmt:=top 6
noncomputable abbrev s_l_mix:Stmt:=top 8
noncomputable abbrev s_l_whole:Stmt:=top 9
noncomputable abbrev s_l_cell_at:Stmt:=top 10
noncomputable abbrev s_l_rows:Stmt:=top 11
noncomputable abbrev s_l_busy:Stmt:=top 12
noncomputable abbrev s_l_like:Stmt:=top 13
noncomputable abbrev s_law:Stmt:=top 14
theorem sc_moments:FnScope ["rows"] ["rows"] (defScope s_moments):=⟨rfl,rfl,rfl,by decide +kernel,rfl,by decide +kernel,by decide +kernel⟩
theorem sc_busy:FnScope ["rows", "moment"] ["rows", "moment"] (defScope s_busy):=⟨rfl,rfl,rfl,by decide +kernel,rfl,by decide +kernel,by decide +kernel⟩
theorem sc_l_mix:FnScope ["_law_number", "_law_k"] ["_law_number", "_law_k"] (defScope s_l_mix):=⟨rfl,rfl,rfl,by decide +kernel,rfl,by decide +kernel,by decide +kernel⟩
theorem sc_l_whole:FnScope ["_law_found"] ["_law_found"] (defScope s_l_whole):=⟨rfl,rfl,rfl,by decide +kernel,rfl,by decide +kernel,by decide +kernel⟩
theorem sc_l_cell_at:FnScope ["_law_script", "_law_k"] ["_law_script", "_law_k"] (defScope s_l_cell_at):=⟨rfl,rfl,rfl,by decide +kernel,rfl,by decide +kernel,by decide +kernel⟩
theorem sc_l_rows:FnScope ["_law_cells", "_law_unit", "_law_rows_here", "_law_benches", "_law_works", "_law_cell", "_law_bench", "_law_work", "_law_begin", "_law_end"] ["_law_cells", "_law_unit"] (defScope s_l_rows):=⟨rfl,rfl,rfl,by decide +kernel,rfl,by decide +kernel,by decide +kernel⟩
theorem sc_l_busy:FnScope ["_law_rows_here", "_law_moment", "_law_due", "_law_bench", "_law_row"] ["_law_rows_here", "_law_moment"] (defScope s_l_busy):=⟨rfl,rfl,rfl,by decide +kernel,rfl,by decide +kernel,by decide +kernel⟩
theorem sc_l_like:FnScope ["_law_found", "_law_due", "_law_pair"] ["_law_found", "_law_due"] (defScope s_l_like):=⟨rfl,rfl,rfl,by decide +kernel,rfl,by decide +kernel,by decide +kernel⟩
theorem sc_law:FnScope ["_law_script", "_law_unit", "_law_rows_here", "_law_handed", "_law_due", "_law_row", "_law_moment", "_law_at", "_law_found", "_law_cell", "_law_asked", "_law_one"] ["_law_script"] (defScope s_law):=⟨rfl,rfl,rfl,by decide +kernel,rfl,by decide +kernel,by decide +kernel⟩
set_option genInjectivity false in
set_option genSizeOf false in
structure Adr where
  f_moments:Addr
  d_moments:FuncData
  f_busy:Addr
  d_busy:FuncData
  f_l_mix:Addr
  d_l_mix:FuncData
  f_l_whole:Addr
  d_l_whole:FuncData
  f_l_cell_at:Addr
  d_l_cell_at:FuncData
  f_l_rows:Addr
  d_l_rows:FuncData
  f_l_busy:Addr
  d_l_busy:FuncData
  f_l_like:Addr
  d_l_like:FuncData
  f_law:Addr
  d_law:FuncData
structure Txt [Tabs] (K:PySem.W.Frag) (mg:Str→Option Value) (a:Adr):Prop where
  F_moments:Fun K "moments" "moments" s_moments a.f_moments a.d_moments
  b_moments:Binds K a.d_moments ["rows"] []
  m_moments:mg "moments" = some (.ref a.f_moments)
  F_busy:Fun K "busy" "busy" s_busy a.f_busy a.d_busy
  b_busy:Binds K a.d_busy ["rows", "moment"] []
  m_busy:mg "busy" = some (.ref a.f_busy)
  F_l_mix:Fun K "_law_mix" "_law_mix" s_l_mix a.f_l_mix a.d_l_mix
  b_l_mix:Binds K a.d_l_mix ["_law_number", "_law_k"] []
  m_l_mix:mg "_law_mix" = some (.ref a.f_l_mix)
  F_l_whole:Fun K "_law_whole" "_law_whole" s_l_whole a.f_l_whole a.d_l_whole
  b_l_whole:Binds K a.d_l_whole ["_law_found"] []
  m_l_whole:mg "_law_whole" = some (.ref a.f_l_whole)
  F_l_cell_at:Fun K "_law_cell_at" "_law_cell_at" s_l_cell_at a.f_l_cell_at a.d_l_cell_at
  b_l_cell_at:Binds K a.d_l_cell_at ["_law_script", "_law_k"] []
  m_l_cell_at:mg "_law_cell_at" = some (.ref a.f_l_cell_at)
  F_l_rows:Fun K "_law_rows" "_law_rows" s_l_rows a.f_l_rows a.d_l_rows
  b_l_rows:Binds K a.d_l_rows ["_law_cells", "_law_unit"] []
  m_l_rows:mg "_law_rows" = some (.ref a.f_l_rows)
  F_l_busy:Fun K "_law_busy" "_law_busy" s_l_busy a.f_l_busy a.d_l_busy
  b_l_busy:Binds K a.d_l_busy ["_law_rows_here", "_law_moment"] []
  m_l_busy:mg "_law_busy" = some (.ref a.f_l_busy)
  F_l_like:Fun K "_law_like" "_law_like" s_l_like a.f_l_like a.d_l_like
  b_l_like:Binds K a.d_l_like ["_law_found", "_law_due"] []
  m_l_like:mg "_law_like" = some (.ref a.f_l_like)
  F_law:Fun K "law" "law" s_law a.f_law a.d_law
  b_law:Binds K a.d_law ["_law_script"] []
  m_law:mg "law" = some (.ref a.f_law)
  z_bool:mg "bool" = none
  z_int:mg "int" = none
  z_isinstance:mg "isinstance" = none
  z_len:mg "len" = none
  z_list:mg "list" = none
  z_max:mg "max" = none
  z_range:mg "range" = none
  z_set:mg "set" = none
  z_sorted:mg "sorted" = none
  z_tuple:mg "tuple" = none
  c_BEGIN:∃ t,mg "BEGIN" = some (.int 2 t)
  c_BENCH:∃ t,mg "BENCH" = some (.int 0 t)
  c_END:∃ t,mg "END" = some (.int 3 t)
  c_WORK:∃ t,mg "WORK" = some (.int 1 t)
noncomputable section
theorem st_moments (x0:D):stD 1 [false] [x0]=[.bo x0]:=rfl
noncomputable def B_moments:DS:=(sRet (dLst (dSrtS (dLst (dCat (dLst (dComp 1 [] (asL (dVar 0)) (gN false 0) dTrue (gScal (dIx (dVar 0) (dC (.int 2)))))) (dLst (dComp 1 [] (asL (dVar 0)) (gN false 0) dTrue (gScal (dIx (dVar 0) (dC (.int 3)))))))))))
@[irreducible] noncomputable def F_moments:List D→Option D:=runD 1 [false] B_moments
theorem F_moments_def:F_moments=runD 1 [false] B_moments:=by unfold F_moments; rfl
theorem st_busy (x0 x1:D):stD 2 [false,false] [x0,x1]=[.bo x0,.bo x1]:=rfl
noncomputable def B_busy:DS:=(sRet (dLst (dSrt (dLst (dComp 1 [1] (asL (dVar 0)) (gN false 0) (dT (dChain (fun i j=>decide (i≤j)) (fun i j=>decide (i<j)) (dIx (dVar 0) (dC (.int 2))) (dVar 1) (dIx (dVar 0) (dC (.int 3))))) (dTup (dCons (gScal (dIx (dVar 0) (dC (.int 0)))) (dCons (gScal (dIx (dVar 0) (dC (.int 1)))) dNil))))))))
@[irreducible] noncomputable def F_busy:List D→Option D:=runD 2 [false,false] B_busy
theorem F_busy_def:F_busy=runD 2 [false,false] B_busy:=by unfold F_busy; rfl
theorem st_l_mix (x0 x1:D):stD 2 [false,false] [x0,x1]=[.bo x0,.bo x1]:=rfl
noncomputable def B_l_mix:DS:=(sRet (dMod (dMul (dAdd (dAdd (dMul (dVar 0) (dVar 0)) (dMul (dVar 1) (dVar 0))) (dMul (dMul (dC (.int 7)) (dVar 1)) (dVar 1))) (dC (.int 1103515245))) (dC (.int 2147483629))))
@[irreducible] noncomputable def F_l_mix:List D→Option D:=runD 2 [false,false] B_l_mix
theorem F_l_mix_def:F_l_mix=runD 2 [false,false] B_l_mix:=by unfold F_l_mix; rfl
theorem st_l_whole (x0:D):stD 1 [false] [x0]=[.bo x0]:=rfl
noncomputable def B_l_whole:DS:=(sRet (dAndV (dIsi "int" (dVar 0)) (dNotV (dIsi "bool" (dVar 0)))))
@[irreducible] noncomputable def F_l_whole:List D→Option D:=runD 1 [false] B_l_whole
theorem F_l_whole_def:F_l_whole=runD 1 [false] B_l_whole:=by unfold F_l_whole; rfl
theorem st_l_cell_at (x0 x1:D):stD 2 [false,false] [x0,x1]=[.bo x0,.bo x1]:=rfl
noncomputable def B_l_cell_at:DS:=(sSeq (sIf (dT (dLt (dVar 1) (dF1 lenD (dVar 0))))
 (sRet (gScal (dIx (dVar 0) (dVar 1))))
      sPass)
 (sRet (dC (.int 0))))
@[irreducible] noncomputable def F_l_cell_at:List D→Option D:=runD 2 [false,false] B_l_cell_at
theorem F_l_cell_at_def:F_l_cell_at=runD 2 [false,false] B_l_cell_at:=by unfold F_l_cell_at; rfl
theorem st_l_rows (x0 x1:D):stD 10 [false,false] [x0,x1]=[.bo x0,.bo x1,.un,.un,.un,.un,.un,.un,.un,.un]:=rfl
noncomputable def B_l_rows:DS:=(sSeq (sSetO 2 dNil)
 (sSeq (sSetO 3 (dRep (dCons (dC (.int 0)) dNil) (dC (.int 4))))
 (sSeq (sSetO 4 (dRep (dCons (dC (.int 0)) dNil) (dC (.int 6))))
 (sSeq (sFor (asL (dVarO 0)) (gN false 5)
 (sSeq (sSet 6 (dMod (dCall F_l_mix (dCons (dVar 5) (dCons (dC (.int 1)) dNil))) (dC (.int 4))))
 (sSeq (sSet 7 (dMod (dCall F_l_mix (dCons (dVar 5) (dCons (dC (.int 2)) dNil))) (dC (.int 6))))
 (sSeq (sSet 8 (dAdd (dMax2 (dIx (dVar 3) (dVar 6)) (dIx (dVar 4) (dVar 7))) (dMul (dVar 1) (dMax2 (dC (.int 0)) (dSub (dMod (dCall F_l_mix (dCons (dVar 5) (dCons (dC (.int 3)) dNil))) (dC (.int 5))) (dC (.int 2)))))))
 (sSeq (sSet 9 (dAdd (dVar 8) (dMul (dVar 1) (dAdd (dC (.int 1)) (dMod (dCall F_l_mix (dCons (dVar 5) (dCons (dC (.int 4)) dNil))) (dC (.int 4)))))))
 (sSeq (sPut 3 (dVar 6) (dVarI 9))
 (sSeq (sPut 4 (dVar 7) (dVarI 9))
    (sIns 2 (dMod (dCall F_l_mix (dCons (dVar 5) (dCons (dC (.int 5)) dNil))) (dAdd (dF1 lenD (dVar 2)) (dC (.int 1)))) (dLst (dCons (dVarI 6) (dCons (dVarI 7) (dCons (dVarI 8) (dCons (dVarI 9) dNil)))))))))))))
    (sFrz 2 (sRet (dVarI 2)))))))
@[irreducible] noncomputable def F_l_rows:List D→Option D:=runD 10 [false,false] B_l_rows
theorem F_l_rows_def:F_l_rows=runD 10 [false,false] B_l_rows:=by unfold F_l_rows; rfl
theorem st_l_busy (x0 x1:D):stD 5 [false,false] [x0,x1]=[.bo x0,.bo x1,.un,.un,.un]:=rfl
noncomputable def B_l_busy:DS:=(sSeq (sSetO 2 dNil)
 (sSeq (sFor (dRg1 (dC (.int 4))) (gN true 3)
 (sFor (asL (dVarO 0)) (gN false 4)
 (sIf (dAnd (dT (dEq false (dIx (dVar 4) (dC (.int 0))) (dVar 3))) (dAnd (dT (dLe (dIx (dVar 4) (dC (.int 2))) (dVar 1))) (dT (dGt (dIx (dVar 4) (dC (.int 3))) (dVar 1)))))
 (sApp 2 (dTup (dCons (dVarI 3) (dCons (gScal (dIx (dVar 4) (dC (.int 1)))) dNil))))
      sPass)))
    (sFrz 2 (sRet (dVarI 2)))))
@[irreducible] noncomputable def F_l_busy:List D→Option D:=runD 5 [false,false] B_l_busy
theorem F_l_busy_def:F_l_busy=runD 5 [false,false] B_l_busy:=by unfold F_l_busy; rfl
theorem st_l_like (x0 x1:D):stD 3 [false,false] [x0,x1]=[.bo x0,.bo x1,.un]:=rfl
noncomputable def B_l_like:DS:=(sSeq (sIf (dOr (dNot (dTru (dIsi "list" (dVar 0)))) (dT (dEq true (dF1 lenD (dVar 0)) (dF1 lenD (dVar 1)))))
 (sRet (dC (.bl false)))
      sPass)
 (sSeq (sFor (asL (dVarO 0)) (gN false 2)
 (sIf (dOr (dNot (dTru (dIsi "tuple" (dVar 2)))) (dOr (dT (dEq true (dF1 lenD (dVar 2)) (dC (.int 2)))) (dOr (dNot (dTru (dCall F_l_whole (dCons (dIx (dVar 2) (dC (.int 0))) dNil)))) (dNot (dTru (dCall F_l_whole (dCons (dIx (dVar 2) (dC (.int 1))) dNil)))))))
 (sRet (dC (.bl false)))
      sPass))
 (sRet (dEq false (dVar 0) (dVar 1)))))
@[irreducible] noncomputable def F_l_like:List D→Option D:=runD 3 [false,false] B_l_like
theorem F_l_like_def:F_l_like=runD 3 [false,false] B_l_like:=by unfold F_l_like; rfl
theorem st_law (x0:D):stD 12 [false] [x0]=[.bo x0,.un,.un,.un,.un,.un,.un,.un,.un,.un,.un,.un]:=rfl
noncomputable def B_law:DS:=(sSeq (sSet 1 (dIx (dLst (dCons (dC (.int 1)) (dCons (dC (.int 7)) (dCons (dAdd (dPow (dC (.int 10)) (dC (.int 40))) (dC (.int 9))) dNil)))) (dMod (dCall F_l_cell_at (dCons (dVar 0) (dCons (dC (.int 0)) dNil))) (dC (.int 3)))))
 (sSeq (sSet 2 (dCall F_l_rows (dCons (dLst (gFlat (dSl (dVar 0) (oSome (dC (.int 2))) (oSome (dC (.int 63)))))) (dCons (dVar 1) dNil))))
 (sSeq (sSet 3 (dLst (dComp 1 [] (asL (dVarI 2)) (gN true 0) dTrue (dLst (dLof (dVarI 0))))))
 (sSeq (sSetO 4 dNil)
 (sSeq (sFor (asL (dVarI 2)) (gN true 5)
 (sFor (asL (dLst (dSl (dVarI 5) (oSome (dC (.int 2))) oNone))) (gN true 6)
 (sSeq (sSet 7 (dF1 lenD (dLst (dComp 1 [6] (asL (dVar 4)) (gN false 0) (dT (dLt (dVar 0) (dVar 1))) (gScal (dVar 0))))))
 (sIf (dT (dIn true (dVar 6) (dVar 4)))
      (sIns 4 (dVar 7) (dVarI 6))
      sPass))))
 (sSeq (sSet 8 (dCall F_moments (dCons (dVar 3) dNil)))
 (sSeq (sIf (dOr (dNot (dTru (dIsi "list" (dVar 8)))) (dT (dEq true (dVar 8) (dVar 4))))
 (sRet (dC (.bl false)))
      sPass)
 (sSeq (sFor (asL (dVarI 8)) (gN true 6)
 (sIf (dNot (dTru (dCall F_l_whole (dCons (dVar 6) dNil))))
 (sRet (dC (.bl false)))
      sPass))
 (sSeq (sSet 9 (dCall F_l_cell_at (dCons (dVar 0) (dCons (dC (.int 1)) dNil))))
 (sSeq (sFrz 4 (sSet 10 (dLst (dCat (dLst (dCat (dLst (dCons (dC (.int 0)) dNil)) (dLst (dComp 1 [4,9] (dRg1 (dC (.int 12))) (gN true 0) (dT (dGt (dF1 lenD (dVar 1)) (dC (.int 0)))) (gScal (dIx (dVar 1) (dMod (dCall F_l_mix (dCons (dVar 2) (dCons (dVar 0) dNil))) (dF1 lenD (dVar 1))))))))) (dLst (dSl (dVarI 4) (oSome (dNeg (dC (.int 1)))) oNone))))))
 (sSeq (sFor (asL (dVarI 10)) (gN true 6)
 (sFor (asL (dLst (dCons (dMax2 (dC (.int 0)) (dSub (dVar 6) (dC (.int 1)))) (dCons (dVarI 6) dNil)))) (gN true 11)
 (sIf (dNot (dTru (dCall F_l_like (dCons (dCall F_busy (dCons (dVar 3) (dCons (dVar 11) dNil))) (dCons (dCall F_l_busy (dCons (dVar 2) (dCons (dVar 11) dNil))) dNil)))))
 (sRet (dC (.bl false)))
      sPass)))
 (sRet (dEq false (dVar 3) (dVar 2))))))))))))))
@[irreducible] noncomputable def F_law:List D→Option D:=runD 12 [false] B_law
theorem F_law_def:F_law=runD 12 [false] B_law:=by unfold F_law; rfl
end
section
variable [Tabs] {P:Program} {w:World} {K:PySem.W.Frag} {mg:Str→Option Value} {base:Heap} {ad:Adr}
theorem ok_moments (T:Txt K mg ad):FnOk P w K mg base CX0 1 ad.f_moments ad.d_moments ["rows"] (spD .v K [false] F_moments):=by
  rw [F_moments_def]
  exact Fun.okD (N:=["rows"]) T.F_moments sc_moments [false] rfl B_moments fun cdv A outer s H E hr=>⟨_,
 (pss_one (ps_ret (pe_srtSet (K:=K) rfl rfl rfl T.z_sorted rfl T.z_set (pe_op op_catR (pe_cN0 rfl (pi_listK (K:=K) rfl (pv 0)) (ts:=["row"]) (zs:=[]) (k:=1) (is:=[]) rfl .nil .nil rfl (low_name (by decide)) (fun _ _ _ _ _=>(pgb (by decide +kernel) rfl rfl)) (fun _ _ _ _ _=>(pe_ix (ix_seqK (K:=K) rfl) (pv 0) (pe_globI rfl T.c_BEGIN) (fun _ _=>rfl))) rfl (by decide +kernel) rfl (by decide +kernel)) (pe_cN0 rfl (pi_listK (K:=K) rfl (pv 0)) (ts:=["row"]) (zs:=[]) (k:=1) (is:=[]) rfl .nil .nil rfl (low_name (by decide)) (fun _ _ _ _ _=>(pgb (by decide +kernel) rfl rfl)) (fun _ _ _ _ _=>(pe_ix (ix_seqK (K:=K) rfl) (pv 0) (pe_globI rfl T.c_END) (fun _ _=>rfl))) rfl (by decide +kernel) rfl (by decide +kernel)))))),
 (ss_ret (SemF.l (sf_srtS (SemI.b (SemF.l (sf_cat (SemF.l (sf_comp (m:=false) (k:=1) (cs:=[]) (swc_listB (sb_var 0)) (sg_name 0) st_true (SemB.i (sb_ix (sb_var 0) (SemI.b si_int))))) (SemF.l (sf_comp (m:=false) (k:=1) (cs:=[]) (swc_listB (sb_var 0)) (sg_name 0) st_true (SemB.i (sb_ix (sb_var 0) (SemI.b si_int)))))))))))⟩
theorem ok_busy (T:Txt K mg ad):FnOk P w K mg base CX0 1 ad.f_busy ad.d_busy ["rows", "moment"] (spD .v K [false,false] F_busy):=by
  rw [F_busy_def]
  exact Fun.okD (N:=["rows", "moment"]) T.F_busy sc_busy [false,false] rfl B_busy fun cdv A outer s H E hr=>⟨_,
 (pss_one (ps_ret (pe_callB (call_srt (K:=K) rfl rfl) rfl T.z_sorted bt_sorted (pa_cons (pe_cN1 rfl (pi_listK (K:=K) rfl (pv 0)) (ts:=["row"]) (zs:=["moment"]) (k:=1) (is:=[1]) rfl (.cons rfl .nil) (.cons rfl (Or.inl rfl) rfl (by first | exact Or.inl rfl | exact Or.inr rfl) .nil) rfl (low_name (by decide)) (fun _ _ _ _ _=>(pgb (by decide +kernel) rfl rfl)) (fun _ _ _ _ _=>(pt_chain op_le op_lt (pe_ix (ix_seqK (K:=K) rfl) (pv 0) (pe_globI rfl T.c_BEGIN) (fun _ _=>rfl)) (pv 1) (pe_ix (ix_seqK (K:=K) rfl) (pv 0) (pe_globI rfl T.c_END) (fun _ _=>rfl)))) (fun _ _ _ _ _=>(pe_tup (pa_cons (pe_ix (ix_seqK (K:=K) rfl) (pv 0) (pe_globI rfl T.c_BENCH) (fun _ _=>rfl)) (pa_cons (pe_ix (ix_seqK (K:=K) rfl) (pv 0) (pe_globI rfl T.c_WORK) (fun _ _=>rfl)) pa_nil)))) rfl (by decide +kernel) rfl (by decide +kernel)) pa_nil)))),
 (ss_ret (SemF.l (sf_srt (SemF.l (sf_comp (m:=false) (k:=1) (cs:=[1]) (swc_listB (sb_var 0)) (sg_name 0) (st_test (SemI.b (si_chain (p:=fun i j=>decide (i≤j)) (q:=fun i j=>decide (i<j)) (sb_ix (sb_var 0) (SemI.b si_int)) (sb_var 1) (sb_ix (sb_var 0) (SemI.b si_int))))) (si_tup (n:=2) (sa_own (SemB.i (sb_ix (sb_var 0) (SemI.b si_int))) (sa_own (SemB.i (sb_ix (sb_var 0) (SemI.b si_int))) sa_nil)) (by decide)))))))⟩
theorem ok_l_mix (T:Txt K mg ad):FnOk P w K mg base CX0 1 ad.f_l_mix ad.d_l_mix ["_law_number", "_law_k"] (spD .v K [false,false] F_l_mix):=by
  rw [F_l_mix_def]
  exact Fun.okD (N:=["_law_number", "_law_k"]) T.F_l_mix sc_l_mix [false,false] rfl B_l_mix fun cdv A outer s H E hr=>⟨_,
 (pss_one (ps_ret (pe_op op_mod (pe_op op_mulB (pe_op op_add (pe_op op_add (pe_op op_mulB (pv 0) (pv 0)) (pe_op op_mulB (pv 1) (pv 0))) (pe_op op_mulB (pe_op op_mulB pe_int (pv 1)) (pv 1))) pe_int) pe_int))),
 (ss_ret (si_mod (SemI.b (si_mul (SemI.b (si_add (SemI.b (si_add (SemI.b (si_mul (sb_var 0) (sb_var 0))) (SemI.b (si_mul (sb_var 1) (sb_var 0))))) (SemI.b (si_mul (SemI.b (si_mul (SemI.b si_int) (sb_var 1))) (sb_var 1))))) (SemI.b si_int))) (SemI.b si_int)))⟩
theorem ok_l_whole (T:Txt K mg ad):FnOk P w K mg base CX0 1 ad.f_l_whole ad.d_l_whole ["_law_found"] (spD .v K [false] F_l_whole):=by
  rw [F_l_whole_def]
  exact Fun.okD (N:=["_law_found"]) T.F_l_whole sc_l_whole [false] rfl B_l_whole fun cdv A outer s H E hr=>⟨_,
 (pss_one (ps_ret (pe_and (pe_callB (call_isiK (K:=K) rfl) rfl T.z_isinstance bt_isinstance (pa_cons (pv 0) (pa_cons (pe_bltn (v:=.ty "int") rfl T.z_int bt_int rfl) pa_nil))) (pe_one (pe_not (pe_callB (call_isiK (K:=K) rfl) rfl T.z_isinstance bt_isinstance (pa_cons (pv 0) (pa_cons (pe_bltn (v:=.ty "bool") rfl T.z_bool bt_bool rfl) pa_nil)))))))),
 (ss_ret (si_andV (SemI.b (si_isi (n := "int") (sb_var 0))) (si_notV (SemI.b (si_isi (n := "bool") (sb_var 0))))))⟩
theorem ok_l_cell_at (T:Txt K mg ad):FnOk P w K mg base CX0 1 ad.f_l_cell_at ad.d_l_cell_at ["_law_script", "_law_k"] (spD .v K [false,false] F_l_cell_at):=by
  rw [F_l_cell_at_def]
  exact Fun.okD (N:=["_law_script", "_law_k"]) T.F_l_cell_at sc_l_cell_at [false,false] rfl B_l_cell_at fun cdv A outer s H E hr=>⟨_,
 (pss_cons (ps_if (pt_cmpR op_lt (pv 1) (pe_callB (call_lenK (K:=K) rfl) rfl T.z_len bt_len (pa_cons (pv 0) pa_nil)) (nomark _))
 (pss_one (ps_ret (pe_ix (ix_seqK (K:=K) rfl) (pv 0) (pv 1) (fun _ _=>rfl))))
 pss_nil)
 (pss_one (ps_ret pe_int))),
 (ss_seq (ss_if (st_test (SemI.b (si_lt (sb_var 1) (SemI.b (si_len (sb_var 0))))))
 (ss_ret (SemB.i (sb_ix (sb_var 0) (sb_var 1))))
 ss_pass)
 (ss_ret si_int))⟩
theorem ok_l_rows (T:Txt K mg ad):FnOk P w K mg base CX0 2 ad.f_l_rows ad.d_l_rows ["_law_cells", "_law_unit"] (spD .v K [false,false] F_l_rows):=by
  rw [F_l_rows_def]
  exact Fun.okD (N:=["_law_cells", "_law_unit", "_law_rows_here", "_law_benches", "_law_works", "_law_cell", "_law_bench", "_law_work", "_law_begin", "_law_end"]) T.F_l_rows sc_l_rows [false,false] rfl B_l_rows fun cdv A outer s H E hr=>⟨_,
 (pss_cons (ps_set (i:=2) sc_l_rows.nd rfl (Or.inl rfl) (pe_lst pa_nil))
 (pss_cons (ps_set (i:=3) sc_l_rows.nd rfl (Or.inl rfl) (pe_op op_rep (pe_lst (pa_cons pe_int pa_nil)) pe_int))
 (pss_cons (ps_set (i:=4) sc_l_rows.nd rfl (Or.inl rfl) (pe_op op_rep (pe_lst (pa_cons pe_int pa_nil)) pe_int))
 (pss_cons (ps_for PassesOwn.never rfl (pi_listK (K:=K) rfl (pv 0)) (pg_name (i:=5) sc_l_rows.nd rfl (Or.inl rfl))
 (pss_cons (ps_set (i:=6) sc_l_rows.nd rfl (Or.inl rfl) (pe_op op_mod (pe_call (ok_l_mix T) (hr.mono (by decide)) rfl T.m_l_mix T.F_l_mix.kp T.b_l_mix .nil pass0 (pa_cons (pv 5) (pa_cons pe_int pa_nil))) pe_int))
 (pss_cons (ps_set (i:=7) sc_l_rows.nd rfl (Or.inl rfl) (pe_op op_mod (pe_call (ok_l_mix T) (hr.mono (by decide)) rfl T.m_l_mix T.F_l_mix.kp T.b_l_mix .nil pass0 (pa_cons (pv 5) (pa_cons pe_int pa_nil))) pe_int))
 (pss_cons (ps_set (i:=8) sc_l_rows.nd rfl (Or.inl rfl) (pe_op op_add (pe_callB (call_max2 rfl) rfl T.z_max bt_max (pa_cons (pe_ix (ix_seqK (K:=K) rfl) (pv 3) (pv 6) (fun _ _=>rfl)) (pa_cons (pe_ix (ix_seqK (K:=K) rfl) (pv 4) (pv 7) (fun _ _=>rfl)) pa_nil))) (pe_op op_mulB (pv 1) (pe_callB (call_max2 rfl) rfl T.z_max bt_max (pa_cons pe_int (pa_cons (pe_op op_sub (pe_op op_mod (pe_call (ok_l_mix T) (hr.mono (by decide)) rfl T.m_l_mix T.F_l_mix.kp T.b_l_mix .nil pass0 (pa_cons (pv 5) (pa_cons pe_int pa_nil))) pe_int) pe_int) pa_nil))))))
 (pss_cons (ps_set (i:=9) sc_l_rows.nd rfl (Or.inl rfl) (pe_op op_add (pv 8) (pe_op op_mulB (pv 1) (pe_op op_add pe_int (pe_op op_mod (pe_call (ok_l_mix T) (hr.mono (by decide)) rfl T.m_l_mix T.F_l_mix.kp T.b_l_mix .nil pass0 (pa_cons (pv 5) (pa_cons pe_int pa_nil))) pe_int)))))
 (pss_cons (ps_asg (pv 9) (pg_sub (pv 3) (pv 6) set_list))
 (pss_cons (ps_asg (pv 9) (pg_sub (pv 4) (pv 7) set_list))
 (pss_one (ps_expr (pe_bm PySem.F.plainAttrs_list PySem.F.slot_list_insert PySem.F.type_list_insert mt_insert (pv 2) (pa_cons (pe_op op_mod (pe_call (ok_l_mix T) (hr.mono (by decide)) rfl T.m_l_mix T.F_l_mix.kp T.b_l_mix .nil pass0 (pa_cons (pv 5) (pa_cons pe_int pa_nil))) (pe_op op_add (pe_callB (call_lenK (K:=K) rfl) rfl T.z_len bt_len (pa_cons (pv 2) pa_nil)) pe_int)) (pa_cons (pe_lst (pa_cons (pv 6) (pa_cons (pv 7) (pa_cons (pv 8) (pa_cons (pv 9) pa_nil))))) pa_nil))))))))))))
 (pss_one (ps_ret (pv 2))))))),
 (ss_seq (ss_setO (sf_lst (n:=0) sa_nil (by decide)))
 (ss_seq (ss_setO (sf_rep (sf_lst (n:=1) (sa_own si_int sa_nil) (by decide)) (SemI.b si_int)))
 (ss_seq (ss_setO (sf_rep (sf_lst (n:=1) (sa_own si_int sa_nil) (by decide)) (SemI.b si_int)))
 (ss_seq (ss_for (m:=false) (sw_listO (so_var 0)) (sg_name 5)
 (ss_seq (ss_set (si_mod (SemI.b (si_call (sa_any (sb_var 5) (sa_any (SemI.b si_int) sa_nil)))) (SemI.b si_int)))
 (ss_seq (ss_set (si_mod (SemI.b (si_call (sa_any (sb_var 5) (sa_any (SemI.b si_int) sa_nil)))) (SemI.b si_int)))
 (ss_seq (ss_set (si_add (SemI.b (si_max2 (sb_ix (sb_var 3) (sb_var 6)) (sb_ix (sb_var 4) (sb_var 7)))) (SemI.b (si_mul (sb_var 1) (SemI.b (si_max2 (SemI.b si_int) (SemI.b (si_sub (SemI.b (si_mod (SemI.b (si_call (sa_any (sb_var 5) (sa_any (SemI.b si_int) sa_nil)))) (SemI.b si_int))) (SemI.b si_int)))))))))
 (ss_seq (ss_set (si_add (sb_var 8) (SemI.b (si_mul (sb_var 1) (SemI.b (si_add (SemI.b si_int) (SemI.b (si_mod (SemI.b (si_call (sa_any (sb_var 5) (sa_any (SemI.b si_int) sa_nil)))) (SemI.b si_int)))))))))
 (ss_seq (ss_put (si_var 9) (sb_var 6))
 (ss_seq (ss_put (si_var 9) (sb_var 7))
 (ss_ins (SemI.b (si_mod (SemI.b (si_call (sa_any (sb_var 5) (sa_any (SemI.b si_int) sa_nil)))) (SemI.b (si_add (SemI.b (si_len (sb_var 2))) (SemI.b si_int))))) (SemF.l (sf_lst (n:=4) (sa_own (si_var 6) (sa_own (si_var 7) (sa_own (si_var 8) (sa_own (si_var 9) sa_nil)))) (by decide)))))))))))
 (ss_frz 2 (ss_ret (si_var 2)))))))⟩
theorem ok_l_busy (T:Txt K mg ad):FnOk P w K mg base CX0 1 ad.f_l_busy ad.d_l_busy ["_law_rows_here", "_law_moment"] (spD .v K [false,false] F_l_busy):=by
  rw [F_l_busy_def]
  exact Fun.okD (N:=["_law_rows_here", "_law_moment", "_law_due", "_law_bench", "_law_row"]) T.F_l_busy sc_l_busy [false,false] rfl B_l_busy fun cdv A outer s H E hr=>⟨_,
 (pss_cons (ps_set (i:=2) sc_l_busy.nd rfl (Or.inl rfl) (pe_lst pa_nil))
 (pss_cons (ps_for PassesOwn.never rfl (pi_range1 rfl T.z_range (pa_cons pe_int pa_nil)) (pg_name (i:=3) sc_l_busy.nd rfl (Or.inl rfl))
 (pss_one (ps_for PassesOwn.never rfl (pi_listK (K:=K) rfl (pv 0)) (pg_name (i:=4) sc_l_busy.nd rfl (Or.inl rfl))
 (pss_one (ps_if (PW.pt (pw_and (pt_cmpR (op_eqD (K:=K) hr.units) (pe_ix (ix_seqK (K:=K) rfl) (pv 4) pe_int (fun _ _=>rfl)) (pv 3) (nomark _)) (pw_and (pt_cmpR op_le (pe_ix (ix_seqK (K:=K) rfl) (pv 4) pe_int (fun _ _=>rfl)) (pv 1) (nomark _)) (pw_and1 (pt_cmpR op_gt (pe_ix (ix_seqK (K:=K) rfl) (pv 4) pe_int (fun _ _=>rfl)) (pv 1) (nomark _))))))
 (pss_one (ps_expr (pe_bm PySem.F.plainAttrs_list PySem.F.slot_list_append PySem.F.type_list_append mt_append (pv 2) (pa_cons (pe_tup (pa_cons (pv 3) (pa_cons (pe_ix (ix_seqK (K:=K) rfl) (pv 4) pe_int (fun _ _=>rfl)) pa_nil))) pa_nil))))
 pss_nil)))))
 (pss_one (ps_ret (pv 2))))),
 (ss_seq (ss_setO (sf_lst (n:=0) sa_nil (by decide)))
 (ss_seq (ss_for (m:=true) (sw_range1 (SemI.b si_int)) (sg_name 3)
 (ss_for (m:=false) (sw_listO (so_var 0)) (sg_name 4)
 (ss_if (st_and (st_test (SemI.b (si_eq (neg:=false) (sb_ix (sb_var 4) (SemI.b si_int)) (sb_var 3)))) (st_and (st_test (SemI.b (si_le (sb_ix (sb_var 4) (SemI.b si_int)) (sb_var 1)))) (st_test (SemI.b (si_gt (sb_ix (sb_var 4) (SemI.b si_int)) (sb_var 1))))))
 (ss_app (si_tup (n:=2) (sa_own (si_var 3) (sa_own (SemB.i (sb_ix (sb_var 4) (SemI.b si_int))) sa_nil)) (by decide)))
 ss_pass)))
 (ss_frz 2 (ss_ret (si_var 2)))))⟩
theorem ok_l_like (T:Txt K mg ad):FnOk P w K mg base CX0 2 ad.f_l_like ad.d_l_like ["_law_found", "_law_due"] (spD .v K [false,false] F_l_like):=by
  rw [F_l_like_def]
  exact Fun.okD (N:=["_law_found", "_law_due", "_law_pair"]) T.F_l_like sc_l_like [false,false] rfl B_l_like fun cdv A outer s H E hr=>⟨_,
 (pss_cons (ps_if (PW.pt (pw_or (pt_not (pt_truthK (K:=K) rfl (pe_callB (call_isiK (K:=K) rfl) rfl T.z_isinstance bt_isinstance (pa_cons (pv 0) (pa_cons (pe_bltn (v:=.ty "list") rfl T.z_list bt_list rfl) pa_nil))) (fun _=>rfl))) (pw_or1 (pt_cmpR (op_neD (K:=K) hr.units) (pe_callB (call_lenK (K:=K) rfl) rfl T.z_len bt_len (pa_cons (pv 0) pa_nil)) (pe_callB (call_lenK (K:=K) rfl) rfl T.z_len bt_len (pa_cons (pv 1) pa_nil)) (nomark _)))))
 (pss_one (ps_ret pe_bl))
 pss_nil)
 (pss_cons (ps_for PassesOwn.never rfl (pi_listK (K:=K) rfl (pv 0)) (pg_name (i:=2) sc_l_like.nd rfl (Or.inl rfl))
 (pss_one (ps_if (PW.pt (pw_or (pt_not (pt_truthK (K:=K) rfl (pe_callB (call_isiK (K:=K) rfl) rfl T.z_isinstance bt_isinstance (pa_cons (pv 2) (pa_cons (pe_bltn (v:=.ty "tuple") rfl T.z_tuple bt_tuple rfl) pa_nil))) (fun _=>rfl))) (pw_or (pt_cmpR (op_neD (K:=K) hr.units) (pe_callB (call_lenK (K:=K) rfl) rfl T.z_len bt_len (pa_cons (pv 2) pa_nil)) pe_int (nomark _)) (pw_or (pt_not (pt_truthK (K:=K) rfl (pe_call (ok_l_whole T) (hr.mono (by decide)) rfl T.m_l_whole T.F_l_whole.kp T.b_l_whole .nil pass0 (pa_cons (pe_ix (ix_seqK (K:=K) rfl) (pv 2) pe_int (fun _ _=>rfl)) pa_nil)) (fun _=>rfl))) (pw_or1 (pt_not (pt_truthK (K:=K) rfl (pe_call (ok_l_whole T) (hr.mono (by decide)) rfl T.m_l_whole T.F_l_whole.kp T.b_l_whole .nil pass0 (pa_cons (pe_ix (ix_seqK (K:=K) rfl) (pv 2) pe_int (fun _ _=>rfl)) pa_nil)) (fun _=>rfl))))))))
 (pss_one (ps_ret pe_bl))
 pss_nil)))
 (pss_one (ps_ret (pe_cmpR (op_eqD (K:=K) hr.units) (pv 0) (pv 1) (nomark _)))))),
 (ss_seq (ss_if (st_or (st_not (st_tru (K:=K) (SemI.b (si_isi (n := "list") (sb_var 0))))) (st_test (SemI.b (si_eq (neg:=true) (SemI.b (si_len (sb_var 0))) (SemI.b (si_len (sb_var 1)))))))
 (ss_ret si_bl)
 ss_pass)
 (ss_seq (ss_for (m:=false) (sw_listO (so_var 0)) (sg_name 2)
 (ss_if (st_or (st_not (st_tru (K:=K) (SemI.b (si_isi (n := "tuple") (sb_var 2))))) (st_or (st_test (SemI.b (si_eq (neg:=true) (SemI.b (si_len (sb_var 2))) (SemI.b si_int)))) (st_or (st_not (st_tru (K:=K) (SemI.b (si_call (sa_any (sb_ix (sb_var 2) (SemI.b si_int)) sa_nil))))) (st_not (st_tru (K:=K) (SemI.b (si_call (sa_any (sb_ix (sb_var 2) (SemI.b si_int)) sa_nil))))))))
 (ss_ret si_bl)
 ss_pass))
 (ss_ret (si_eq (neg:=false) (sb_var 0) (sb_var 1)))))⟩
theorem ok_law (T:Txt K mg ad):FnOk P w K mg base CX0 3 ad.f_law ad.d_law ["_law_script"] (spD .v K [false] F_law):=by
  rw [F_law_def]
  exact Fun.okD (N:=["_law_script", "_law_unit", "_law_rows_here", "_law_handed", "_law_due", "_law_row", "_law_moment", "_law_at", "_law_found", "_law_cell", "_law_asked", "_law_one"]) T.F_law sc_law [false] rfl B_law fun cdv A outer s H E hr=>⟨_,
 (pss_cons (ps_set (i:=1) sc_law.nd rfl (Or.inl rfl) (pe_ix (ix_seqK (K:=K) rfl) (pe_lst (pa_cons pe_int (pa_cons pe_int (pa_cons (pe_op op_add (pe_op op_pow pe_int pe_int) pe_int) pa_nil)))) (pe_op op_mod (pe_call (ok_l_cell_at T) (hr.mono (by decide)) rfl T.m_l_cell_at T.F_l_cell_at.kp T.b_l_cell_at .nil pass0 (pa_cons (pv 0) (pa_cons pe_int pa_nil))) pe_int) (fun _ _=>rfl)))
 (pss_cons (ps_set (i:=2) sc_law.nd rfl (Or.inl rfl) (pe_call (ok_l_rows T) (hr.mono (by decide)) rfl T.m_l_rows T.F_l_rows.kp T.b_l_rows .nil pass0 (pa_cons (pe_slice (sl_listK (K:=K) rfl) (pv 0) (po_some pe_int) (po_some pe_int)) (pa_cons (pv 1) pa_nil))))
 (pss_cons (ps_cN0 (i:=3) sc_law.nd rfl rfl rfl (pi_listK (K:=K) rfl (pv 2)) (ts:=["_law_row"]) (zs:=[]) (k:=1) (is:=[]) rfl .nil .nil rfl (low_name (by decide)) (fun _ _ _ _ _=>(pgb (by decide +kernel) rfl rfl)) (fun _ _ _ _ _=>(pe_callTy (call_list_ofK (K:=K) rfl) rfl T.z_list bt_list (pa_cons (pv 0) pa_nil))) rfl (by decide +kernel) rfl (by decide +kernel))
 (pss_cons (ps_set (i:=4) sc_law.nd rfl (Or.inr rfl) (pe_lst pa_nil))
 (pss_cons (ps_for PassesOwn.never rfl (pi_listK (K:=K) rfl (pv 2)) (pg_name (i:=5) sc_law.nd rfl (Or.inl rfl))
 (pss_one (ps_for PassesOwn.never rfl (pi_listK (K:=K) rfl (pe_slice (sl_listK (K:=K) rfl) (pv 5) (po_some pe_int) po_none)) (pg_name (i:=6) sc_law.nd rfl (Or.inr rfl))
 (pss_cons (ps_set (i:=7) sc_law.nd rfl (Or.inl rfl) (pe_callB (call_lenK (K:=K) rfl) rfl T.z_len bt_len (pa_cons (pe_cN1 rfl (pi_listK (K:=K) rfl (pv 4)) (ts:=["_law_one"]) (zs:=["_law_moment"]) (k:=1) (is:=[6]) rfl (.cons rfl .nil) (.cons rfl (Or.inl rfl) rfl (by first | exact Or.inl rfl | exact Or.inr rfl) .nil) rfl (low_name (by decide)) (fun _ _ _ _ _=>(pgb (by decide +kernel) rfl rfl)) (fun _ _ _ _ _=>(pt_cmpR op_lt (pv 0) (pv 1) (nomark _))) (fun _ _ _ _ _=>(pv 0)) rfl (by decide +kernel) rfl (by decide +kernel)) pa_nil)))
 (pss_one (ps_if (pt_cmpR (op_notIn_seqK (K:=K) rfl) (pv 6) (pv 4) (by with_unfolding_all rfl))
 (pss_one (ps_expr (pe_bm PySem.F.plainAttrs_list PySem.F.slot_list_insert PySem.F.type_list_insert mt_insert (pv 4) (pa_cons (pv 7) (pa_cons (pv 6) pa_nil)))))
 pss_nil))))))
 (pss_cons (ps_set (i:=8) sc_law.nd rfl (Or.inl rfl) (pe_call (ok_moments T) (hr.mono (by decide)) rfl T.m_moments T.F_moments.kp T.b_moments .nil pass0 (pa_cons (pv 3) pa_nil)))
 (pss_cons (ps_if (PW.pt (pw_or (pt_not (pt_truthK (K:=K) rfl (pe_callB (call_isiK (K:=K) rfl) rfl T.z_isinstance bt_isinstance (pa_cons (pv 8) (pa_cons (pe_bltn (v:=.ty "list") rfl T.z_list bt_list rfl) pa_nil))) (fun _=>rfl))) (pw_or1 (pt_cmpR (op_neD (K:=K) hr.units) (pv 8) (pv 4) (nomark _)))))
 (pss_one (ps_ret pe_bl))
 pss_nil)
 (pss_cons (ps_for PassesOwn.never rfl (pi_listK (K:=K) rfl (pv 8)) (pg_name (i:=6) sc_law.nd rfl (Or.inr rfl))
 (pss_one (ps_if (pt_not (pt_truthK (K:=K) rfl (pe_call (ok_l_whole T) (hr.mono (by decide)) rfl T.m_l_whole T.F_l_whole.kp T.b_l_whole .nil pass0 (pa_cons (pv 6) pa_nil)) (fun _=>rfl)))
 (pss_one (ps_ret pe_bl))
 pss_nil)))
 (pss_cons (ps_set (i:=9) sc_law.nd rfl (Or.inr rfl) (pe_call (ok_l_cell_at T) (hr.mono (by decide)) rfl T.m_l_cell_at T.F_l_cell_at.kp T.b_l_cell_at .nil pass0 (pa_cons (pv 0) (pa_cons pe_int pa_nil))))
 (pss_cons (ps_set (i:=10) sc_law.nd rfl (Or.inl rfl) (pe_op op_catR (pe_op op_catR (pe_lst (pa_cons pe_int pa_nil)) (pe_cN1 rfl (pi_range1 rfl T.z_range (pa_cons pe_int pa_nil)) (ts:=["_law_k"]) (zs:=["_law_due", "_law_cell"]) (k:=1) (is:=[4,9]) rfl (.cons rfl (.cons rfl .nil)) (.cons rfl (Or.inl rfl) rfl (by first | exact Or.inl rfl | exact Or.inr rfl) (.cons rfl (Or.inl rfl) rfl (by first | exact Or.inl rfl | exact Or.inr rfl) .nil)) rfl (low_name (by decide)) (fun _ _ _ _ _=>(pgb (by decide +kernel) rfl rfl)) (fun _ _ _ _ _=>(pt_cmpR op_gt (pe_callB (call_lenK (K:=K) rfl) rfl T.z_len bt_len (pa_cons (pv 1) pa_nil)) pe_int (nomark _))) (fun _ _ _ _ _=>(pe_ix (ix_seqK (K:=K) rfl) (pv 1) (pe_op op_mod (pe_call (ok_l_mix T) (hr.mono (by decide)) rfl T.m_l_mix T.F_l_mix.kp T.b_l_mix .nil pass0 (pa_cons (pv 2) (pa_cons (pv 0) pa_nil))) (pe_callB (call_lenK (K:=K) rfl) rfl T.z_len bt_len (pa_cons (pv 1) pa_nil))) (fun _ _=>rfl))) rfl (by decide +kernel) rfl (by decide +kernel))) (pe_slice (sl_listK (K:=K) rfl) (pv 4) (po_some (pe_un un_neg pe_int)) po_none)))
 (pss_cons (ps_for PassesOwn.never rfl (pi_listK (K:=K) rfl (pv 10)) (pg_name (i:=6) sc_law.nd rfl (Or.inr rfl))
 (pss_one (ps_for PassesOwn.never rfl (pi_listK (K:=K) rfl (pe_lst (pa_cons (pe_callB (call_max2 rfl) rfl T.z_max bt_max (pa_cons pe_int (pa_cons (pe_op op_sub (pv 6) pe_int) pa_nil))) (pa_cons (pv 6) pa_nil)))) (pg_name (i:=11) sc_law.nd rfl (Or.inl rfl))
 (pss_one (ps_if (pt_not (pt_truthK (K:=K) rfl (pe_call (ok_l_like T) (hr.mono (by decide)) rfl T.m_l_like T.F_l_like.kp T.b_l_like .nil pass0 (pa_cons (pe_call (ok_busy T) (hr.mono (by decide)) rfl T.m_busy T.F_busy.kp T.b_busy .nil pass0 (pa_cons (pv 3) (pa_cons (pv 11) pa_nil))) (pa_cons (pe_call (ok_l_busy T) (hr.mono (by decide)) rfl T.m_l_busy T.F_l_busy.kp T.b_l_busy .nil pass0 (pa_cons (pv 2) (pa_cons (pv 11) pa_nil))) pa_nil))) (fun _=>rfl)))
 (pss_one (ps_ret pe_bl))
 pss_nil)))))
 (pss_one (ps_ret (pe_cmpR (op_eqD (K:=K) hr.units) (pv 3) (pv 2) (nomark _))))))))))))))),
 (ss_seq (ss_set (si_ix (SemF.l (sf_lst (n:=3) (sa_own si_int (sa_own si_int (sa_own (si_add (SemI.b (si_pow (SemI.b si_int) (SemI.b si_int))) (SemI.b si_int)) sa_nil))) (by decide))) (SemI.b (si_mod (SemI.b (si_call (sa_any (sb_var 0) (sa_any (SemI.b si_int) sa_nil)))) (SemI.b si_int)))))
 (ss_seq (ss_set (si_call (sa_any (SemI.b (SemF.l (sf_slB (sb_var 0) (so_some (SemI.b si_int)) (so_some (SemI.b si_int))))) (sa_any (sb_var 1) sa_nil))))
 (ss_seq (ss_setC (SemF.l (sf_comp (m:=true) (k:=1) (cs:=[]) (SemW.c (sw_list (si_var 2))) (sg_name 0) st_true (SemF.l (sf_list (si_var 0))))))
 (ss_seq (ss_setO (sf_lst (n:=0) sa_nil (by decide)))
 (ss_seq (ss_for (m:=true) (sw_list (si_var 2)) (sg_name 5)
 (ss_for (m:=true) (sw_list (SemF.l (sf_sl (si_var 5) (so_some (SemI.b si_int)) so_none))) (sg_name 6)
 (ss_seq (ss_set (si_len (SemI.b (SemF.l (sf_comp (m:=false) (k:=1) (cs:=[6]) (swc_listB (sb_var 4)) (sg_name 0) (st_test (SemI.b (si_lt (sb_var 0) (sb_var 1)))) (SemB.i (sb_var 0)))))))
 (ss_if (st_test (SemI.b (si_in (neg:=true) (sb_var 6) (sb_var 4))))
 (ss_ins (sb_var 7) (si_var 6))
 ss_pass))))
 (ss_seq (ss_set (si_call (sa_any (sb_var 3) sa_nil)))
 (ss_seq (ss_if (st_or (st_not (st_tru (K:=K) (SemI.b (si_isi (n := "list") (sb_var 8))))) (st_test (SemI.b (si_eq (neg:=true) (sb_var 8) (sb_var 4)))))
 (ss_ret si_bl)
 ss_pass)
 (ss_seq (ss_for (m:=true) (sw_list (si_var 8)) (sg_name 6)
 (ss_if (st_not (st_tru (K:=K) (SemI.b (si_call (sa_any (sb_var 6) sa_nil)))))
 (ss_ret si_bl)
 ss_pass))
 (ss_seq (ss_set (si_call (sa_any (sb_var 0) (sa_any (SemI.b si_int) sa_nil))))
 (ss_seq (ss_frz 4 (ss_set (SemF.l (sf_cat (SemF.l (sf_cat (SemF.l (sf_lst (n:=1) (sa_own si_int sa_nil) (by decide))) (SemF.l (sf_comp (m:=true) (k:=1) (cs:=[4,9]) (SemW.c (sw_range1 (SemI.b si_int))) (sg_name 0) (st_test (SemI.b (si_gt (SemI.b (si_len (sb_var 1))) (SemI.b si_int)))) (SemB.i (sb_ix (sb_var 1) (SemI.b (si_mod (SemI.b (si_call (sa_any (sb_var 2) (sa_any (sb_var 0) sa_nil)))) (SemI.b (si_len (sb_var 1))))))))))) (SemF.l (sf_sl (si_var 4) (so_some (SemI.b (si_neg (SemI.b si_int)))) so_none))))))
 (ss_seq (ss_for (m:=true) (sw_list (si_var 10)) (sg_name 6)
 (ss_for (m:=true) (sw_list (SemF.l (sf_lst (n:=2) (sa_own (si_max2 (SemI.b si_int) (SemI.b (si_sub (sb_var 6) (SemI.b si_int)))) (sa_own (si_var 6) sa_nil)) (by decide)))) (sg_name 11)
 (ss_if (st_not (st_tru (K:=K) (SemI.b (si_call (sa_any (SemI.b (si_call (sa_any (sb_var 3) (sa_any (sb_var 11) sa_nil)))) (sa_any (SemI.b (si_call (sa_any (sb_var 2) (sa_any (sb_var 11) sa_nil)))) sa_nil))))))
 (ss_ret si_bl)
 ss_pass)))
 (ss_ret (si_eq (neg:=false) (sb_var 3) (sb_var 2))))))))))))))⟩
end
local macro_rules | `(tactic| walk_at "sd")=>`(tactic| first | assumption | omega | decide | (simp only [List.length_map,List.length_cons,List.length_nil]; omega) | ((with_reducible apply And.intro) <;> walk_at "sd"))
local macro_rules | `(tactic| walk_at "fn")=>`(tactic| assumption)
local macro_rules | `(tactic| walk_at "ix")=>`(tactic| first | exact ixS (by omega) (by omega) | exact ixI (by omega) (by omega) | exact ix2I _ _ _ | exact ix3I _ _ _ _ | exact ix4I _ _ _ _ _ | rfl)
local macro_rules | `(tactic| walk_at "ev")=>`(tactic| first
  | ((with_reducible first | apply ev_add | apply ev_sub | apply ev_lt | apply ev_le | apply ev_gt | apply ev_ge | apply ev_max2 | apply ev_min2 | apply ev_cons | apply ev_eqF | apply ev_neF); (· walk_at "ev"); (· walk_at "ev"))
  | ((with_reducible first | apply ev_neg | apply ev_t | apply ev_not | apply ev_notV | apply ev_lst | apply ev_tup | apply ev_oSome); (· walk_at "ev"))
  | ((with_reducible first | apply ev_tru | apply ev_scal | apply ev_f1 | apply ev_asL | apply ev_lof); (· walk_at "ev"); (· rfl))
  | ((with_reducible first | apply ev_and | apply ev_or | apply ev_andV | apply ev_orV); (· walk_at "ev"); (· intro _; walk_at "ev"))
  | ((with_reducible first | show dVar _ _=_ | show dVarI _ _=_ | show dVarO _ _=_ | show dC _ _=_ | show dNil _=_ | show oNone _=_ | show dTrue _=_); rfl)
  | ((with_reducible apply ev_ix); (· walk_at "ev"); (· walk_at "ev"); (· walk_at "ix"))
  | ((with_reducible apply ev_call); (· walk_at "ev"); (· walk_at "fn"))
  | ((with_reducible first | apply ev_chain | apply ev_sl); (· walk_at "ev"); (· walk_at "ev"); (· walk_at "ev"))
  | ((with_reducible apply ev_mul); (· walk_at "ev"); (· walk_at "ev"); (· first | assumption | (apply imul; omega)))
  | ((with_reducible apply ev_fdiv); (· walk_at "ev"); (· walk_at "ev"); (· first | exact fdok (by omega) (by omega) | walk_at "sd"))
  | ((with_reducible first | apply ev_mod | apply ev_rg2); (· walk_at "ev"); (· walk_at "ev"); (· walk_at "sd"))
  | ((with_reducible apply ev_rg1); (· walk_at "ev"); (· walk_at "sd"))
  | ((with_reducible apply ev_rep); (· walk_at "ev"); (· walk_at "ev"); (· simp only [List.length_cons,List.length_nil]; walk_at "sd")))
local macro_rules | `(tactic| walk_at "st")=>`(tactic| dsimp only [List.set_cons_succ,List.set_cons_zero])
local macro_rules | `(tactic| walk_at "go")=>`(tactic| ((try dsimp only); walk_at "go1"))
local macro_rules | `(tactic| walk_at "go1")=>`(tactic| first
  | ((with_reducible apply wp_seq); walk_at "go")
  | ((with_reducible apply wp_frz); dsimp only [frz,List.getD_cons_succ,List.getD_cons_zero,List.set_cons_succ,List.set_cons_zero]; walk_at "go")
  | ((with_reducible apply wp_set); (· walk_at "ev"); walk_at "st"; walk_at "go")
  | ((with_reducible apply wp_setO); (· walk_at "ev"); (· simp only [List.length_cons,List.length_nil]; omega); walk_at "st"; walk_at "go")
  | ((with_reducible apply wp_aug); (· rfl); (· walk_at "ev"); walk_at "st"; walk_at "go")
  | ((with_reducible apply wp_pass); (try dsimp only); walk_at "go")
  | skip)
theorem cell_at (ns:List Int) (k:Int) (h:0≤k):F_l_cell_at [.scr ns,.int k]=some (.int (ns.getD k.toNat 0)):=by
  refine run_eqF F_l_cell_at_def ?_
  rw [st_l_cell_at]
  unfold B_l_cell_at
  walk_at "go"
  refine wp_ifp (by walk_at "ev") (fun c=>?_) fun c=>?_
  · refine wp_ret (by walk_at "ev") rfl
  · walk_at "go"
    refine wp_ret (by walk_at "ev") ?_
    rw [List.getD_eq_getElem?_getD,List.getElem?_eq_none (by omega)]
    rfl
theorem upL_at {lo:Int} {n j:Nat} {d:D} (h:(upL lo n)[j]?=some d):j<n∧d=.int (lo+j):=upL_get h
theorem getD_setI {xs:List Int} {j k:Nat} {v:Int} (h:j<xs.length):(xs.set j v).getD k 0=if k=j then v else xs.getD k 0:=by
  rw [List.getD_eq_getElem?_getD,List.getElem?_set,List.getD_eq_getElem?_getD]
  by_cases c:j=k
  · subst c
    rw [if_pos rfl,if_pos h,if_pos rfl]
    rfl
  · rw [if_neg c,if_neg (Ne.symm c)]
theorem set_mapI (xs:List Int) (j:Nat) (v:Int):(xs.map D.int).set j (.int v)=(xs.set j v).map D.int:=by rw [List.map_set]
local macro_rules | `(tactic| walk_at "fn")=>`(tactic| first | exact cell_at _ _ (by omega))
abbrev R4:=Int×Int×Int×Int
namespace R4
abbrev b (r:R4):Int:=r.1
abbrev w (r:R4):Int:=r.2.1
abbrev s (r:R4):Int:=r.2.2.1
abbrev e (r:R4):Int:=r.2.2.2
end R4
def Dj (x y:R4):Prop:=x.b=y.b→x.e≤y.s∨y.e≤x.s
structure Ap (rs:List R4):Prop where
  pos:∀ r∈rs,r.s<r.e
  dj:rs.Pairwise Dj
theorem Dj.symm {x y:R4} (h:Dj x y):Dj y x:=fun q=>(h q.symm).symm
theorem Ap.perm {rs ss:List R4} (h:Ap rs) (p:ss.Perm rs):Ap ss:=⟨fun r hr=>h.pos r (p.mem_iff.mp hr),(p.pairwise_iff fun h=>Dj.symm h).mpr h.dj⟩
abbrev rowL (r:R4):List D:=[.int r.b,.int r.w,.int r.s,.int r.e]
abbrev rowR (r:R4):D:=.lst (rowL r)
abbrev rowsR (rs:List R4):D:=.lst (rs.map rowR)
def mixZ (x k:Int):Int:=(x*x+k*x+7*k*k)*1103515245 % 2147483629
theorem mix (x k:Int) (hb:Builtin.Int.intBits x≤1048576) (h0:0≤k) (h1:k<1000):F_l_mix [.int x,.int k]=some (.int (mixZ x k)):=by
  refine run_eqF F_l_mix_def ?_
  rw [st_l_mix]
  unfold B_l_mix
  refine wp_ret (ev_mod (ev_mul (ev_add (ev_add (ev_mul rfl rfl (IntMulOk.of_le hb hb (by decide))) (ev_mul rfl rfl (imul (by omega)))) (ev_mul (ev_mul rfl rfl (imul (by omega))) rfl (imul (by omega)))) rfl (imul (by omega))) rfl (by decide)) rfl
theorem mixZ_lt (x k:Int):0≤mixZ x k∧mixZ x k<2147483629:=⟨Int.emod_nonneg _ (by decide),Int.emod_lt_of_pos _ (by decide)⟩
theorem lenRR (rs:List R4):lenD (.lst (rs.map rowR))=some (.int rs.length):=by show some (D.int ((rs.map rowR).length:Nat))=_; rw [List.length_map]
theorem len_map (xs:List Int):lenD (.lst (xs.map D.int))=some (.int (xs.length:Int)):=by show some (D.int ((xs.map D.int).length:Nat))=_; rw [List.length_map]
theorem whole (n:Int):F_l_whole [.int n]=some (.bl true):=by
  refine run_eqF F_l_whole_def ?_
  rw [st_l_whole]
  unfold B_l_whole
  exact wp_ret rfl rfl
theorem ins_rows (rs:List R4) (k:Nat) (r:R4):(rs.map rowR).take k++rowR r::(rs.map rowR).drop k=(rs.take k++r::rs.drop k).map rowR:=by
  rw [List.map_append,List.map_cons,List.map_take,List.map_drop]
theorem ins_perm {α:Type} (rs:List α) (k:Nat) (r:α):(rs.take k++r::rs.drop k).Perm (r::rs):=by
  have:=@List.perm_middle α r (rs.take k) (rs.drop k)
  rw [List.take_append_drop] at this
  exact this
theorem l_rows (cs:List Int) (u:Int) (hu:0<u) (hl:cs.length≤61) (hb:∀ m∈cs,Builtin.Int.intBits m≤1048576):∃ rs:List R4,F_l_rows [.lst (cs.map D.int),.int u]=some (rowsR rs)∧rs.length=cs.length∧Ap rs∧∀ r∈rs,0≤r.b∧r.b<4:=by
  have hline:sizeLine=16777216:=sizeLine_eq
  obtain ⟨d,e,rs,rfl,hrs⟩:=run_ofF F_l_rows_def (ds:=[.lst (cs.map D.int),.int u]) (P:=fun d=>∃ rs:List R4,d=rowsR rs∧rs.length=cs.length∧Ap rs∧∀ r∈rs,0≤r.b∧r.b<4) (by
    rw [st_l_rows]
    unfold B_l_rows
    walk_at "go"
    refine wp_for (ev_asL (d:=.lst (cs.map D.int)) rfl rfl) (fun j ρ=>∃ (rs:List R4) (bs ws:List Int) (v5 v6 v7 v8 v9:Sl),rs.length=j∧Ap rs∧(∀ r∈rs,(0≤r.b∧r.b<4)∧r.e≤bs.getD r.b.toNat 0)∧bs.length=4∧ws.length=6∧ρ=[.bo (.lst (cs.map D.int)),.bo (.int u),.ol (rs.map rowR),.ol (bs.map D.int),.ol (ws.map D.int),v5,v6,v7,v8,v9]) ⟨[],[0,0,0,0],[0,0,0,0,0,0],_,_,_,_,_,rfl,⟨(fun _ h=>by cases h),.nil⟩,(fun _ h=>by cases h),rfl,rfl,rfl⟩ ?_ ?_
    · rintro j d ρ hd ⟨rs,bs,ws,v5,v6,v7,v8,v9,hr,hap,hbe,hbs,hws,rfl⟩
      rw [List.getElem?_map] at hd
      cases er:cs[j]? with
      | none=>rw [er] at hd; cases hd
      | some x =>
        rw [er] at hd
        cases hd
        have hx:=hb x (List.mem_of_getElem? er)
        have hjl:=(List.getElem?_eq_some_iff.mp er).1
        refine ⟨_,rfl,?_⟩
        dsimp only [gN,slm,List.set_cons_succ,List.set_cons_zero]
        have m1:=mixZ_lt x 1
        have m2:=mixZ_lt x 2
        have m3:=mixZ_lt x 3
        have m4:=mixZ_lt x 4
        have m5:=mixZ_lt x 5
        have k1:=mix x 1 hx (by decide) (by decide)
        have k2:=mix x 2 hx (by decide) (by decide)
        have k3:=mix x 3 hx (by decide) (by decide)
        have k4:=mix x 4 hx (by decide) (by decide)
        have k5:=mix x 5 hx (by decide) (by decide)
        generalize mixZ x 1=a1 at *
        generalize mixZ x 2=a2 at *
        generalize mixZ x 3=a3 at *
        generalize mixZ x 4=a4 at *
        generalize mixZ x 5=a5 at *
        refine wp_seq (wp_set (ev_mod (ev_call (ev_cons rfl (ev_cons rfl rfl)) k1) rfl (by decide)) ?_)
        walk_at "st"
        have hB:0≤a1 % 4∧a1 % 4<4:=by omega
        generalize a1 % 4=B at hB
        refine wp_seq (wp_set (ev_mod (ev_call (ev_cons rfl (ev_cons rfl rfl)) k2) rfl (by decide)) ?_)
        walk_at "st"
        have hW:0≤a2 % 6∧a2 % 6<6:=by omega
        generalize a2 % 6=Wk at hW
        refine wp_seq (wp_set (d:=.int (max (bs.getD B.toNat 0) (ws.getD Wk.toNat 0)+u*max 0 (a3 % 5-2))) (ev_add (ev_max2 (ev_ix rfl rfl (ixI (by omega) (by omega))) (ev_ix rfl rfl (ixI (by omega) (by omega)))) (ev_mul rfl (ev_max2 rfl (ev_sub (ev_mod (ev_call (ev_cons rfl (ev_cons rfl rfl)) k3) rfl (by decide)) rfl)) (imul (by omega)))) ?_)
        have hbg:bs.getD B.toNat 0≤max (bs.getD B.toNat 0) (ws.getD Wk.toNat 0)+u*max 0 (a3 % 5-2):=by
          have:=Int.mul_nonneg (show 0≤u by omega) (show 0≤max 0 (a3 % 5-2) by omega)
          omega
        generalize max (bs.getD B.toNat 0) (ws.getD Wk.toNat 0)+u*max 0 (a3 % 5-2)=bg at hbg
        walk_at "st"
        refine wp_seq (wp_set (d:=.int (bg+u*(1+a4 % 4))) (ev_add rfl (ev_mul rfl (ev_add rfl (ev_mod (ev_call (ev_cons rfl (ev_cons rfl rfl)) k4) rfl (by decide))) (imul (by omega)))) ?_)
        have hen:bg<bg+u*(1+a4 % 4):=by
          have:=Int.mul_pos hu (show 0<1+a4 % 4 by omega)
          omega
        generalize bg+u*(1+a4 % 4)=en at hen
        walk_at "st"
        refine wp_seq (wp_put (n:=B) (j:=B.toNat) (ds:=bs.map D.int) (d:=.int en) rfl rfl rfl (by rw [List.length_map]; exact ixN_in (by omega) (by omega)) ?_)
        walk_at "st"
        refine wp_seq (wp_put (n:=Wk) (j:=Wk.toNat) (ds:=ws.map D.int) (d:=.int en) rfl rfl rfl (by rw [List.length_map]; exact ixN_in (by omega) (by omega)) ?_)
        walk_at "st"
        have e1:=Int.emod_nonneg a5 (show ((rs.length:Int)+1)≠0 by omega)
        have e2:=Int.emod_lt_of_pos a5 (show 0<((rs.length:Int)+1) by omega)
        refine wp_ins (n:=a5 % ((rs.length:Int)+1)) (ds:=rs.map rowR) (d:=rowR (B,Wk,bg,en)) rfl (ev_mod (ev_call (ev_cons rfl (ev_cons rfl rfl)) k5) (ev_add (ev_f1 rfl (lenRR rs)) rfl) (by omega)) rfl (by rw [List.length_map]; generalize a5 % ((rs.length:Int)+1)=z at *; omega) ?_
        rw [ins_rows,set_mapI,set_mapI]
        generalize (a5 % ((rs.length:Int)+1)).toNat=kk
        have pm:=ins_perm rs kk (B,Wk,bg,en)
        refine ⟨rs.take kk++(B,Wk,bg,en)::rs.drop kk,_,_,_,_,_,_,_,?_,?_,fun r hm=>?_,?_,?_,rfl⟩
        · rw [pm.length_eq,List.length_cons]; omega
        · refine Ap.perm ⟨fun r hm=>?_,List.pairwise_cons.mpr ⟨fun r hm q=>?_,hap.dj⟩⟩ pm
          · rcases List.mem_cons.mp hm with rfl | hm
            · exact hen
            · exact hap.pos r hm
          · have q:B=r.b:=q
            have:=(hbe r hm).2
            rw [← q] at this
            right
            show r.e≤bg
            omega
        · rw [getD_setI (by omega)]
          rcases List.mem_cons.mp (pm.mem_iff.mp hm) with rfl | hm
          · refine ⟨hB,?_⟩
            show en≤if B.toNat=B.toNat then en else _
            rw [if_pos rfl]; exact Int.le_refl _
          · obtain ⟨h1,h2⟩:=hbe r hm
            refine ⟨h1,?_⟩
            split
            · rename_i z
              rw [z] at h2
              omega
            · exact h2
        · rw [List.length_set]; exact hbs
        · rw [List.length_set]; exact hws
    · rintro ρ ⟨rs,bs,ws,v5,v6,v7,v8,v9,hr,hap,hbe,hbs,hws,rfl⟩
      rw [List.length_map] at hr
      walk_at "go"
      exact wp_ret (by walk_at "ev") ⟨rs,rfl,hr,hap,fun r hr=>(hbe r hr).1⟩)
  exact ⟨rs,e,hrs⟩
def insA (l:List Int) (m:Int):List Int:=l.take (l.filter fun x=>decide (x<m)).length++m::l.drop (l.filter fun x=>decide (x<m)).length
theorem insA_up {m:Int}:∀ {l:List Int},l.Pairwise (· < ·)→m∉l→(insA l m).Pairwise (· < ·)
  | [],_,_=>by show [m].Pairwise _; exact List.pairwise_singleton _ _
  | a::r,h,hn=>by
    obtain ⟨h1,h2⟩:=List.pairwise_cons.mp h
    have hne:m≠a:=fun z=>hn (by rw [z]; exact List.mem_cons_self)
    by_cases c:a<m
    · have e:insA (a::r) m=a::insA r m:=by
        unfold insA
        rw [List.filter_cons_of_pos (p:=fun x=>decide (x<m)) (decide_eq_true c),List.length_cons,List.take_succ_cons,List.drop_succ_cons]
        rfl
      rw [e]
      refine List.pairwise_cons.mpr ⟨fun x hx=>?_,insA_up h2 fun z=>hn (List.mem_cons_of_mem _ z)⟩
      rcases List.mem_cons.mp ((ins_perm r _ m).mem_iff.mp hx) with z | z
      · rw [z]; exact c
      · exact h1 x z
    · have e:(a::r).filter (fun x=>decide (x<m))=[]:=List.filter_eq_nil_iff.mpr fun x hx z=>by
        have z:=of_decide_eq_true z
        rcases List.mem_cons.mp hx with q | q
        · omega
        · have:=h1 x q; omega
      have e2:insA (a::r) m=m::a::r:=by
        unfold insA
        rw [e]
        rfl
      rw [e2]
      refine List.pairwise_cons.mpr ⟨fun x hx=>?_,h⟩
      rcases List.mem_cons.mp hx with q | q
      · omega
      · have:=h1 x q; omega
def DueM (M l:List Int):Prop:=l.Pairwise (· < ·)∧(∀ x,x∈l↔x∈M)∧l.length≤M.length
theorem DueM.next {M l:List Int} (h:DueM M l) (m:Int):(m∈l→DueM (M++[m]) l)∧(m∉l→DueM (M++[m]) (insA l m)):=by
  obtain ⟨h1,h2,h3⟩:=h
  refine ⟨fun hm=>⟨h1,fun x=>?_,by rw [List.length_append]; omega⟩,fun hm=>⟨insA_up h1 hm,fun x=>?_,?_⟩⟩
  · rw [h2,List.mem_append,List.mem_singleton]
    exact ⟨.inl,fun z=>z.elim id fun z=>by rw [z]; exact (h2 m).mp hm⟩
  · unfold insA
    rw [(ins_perm l _ m).mem_iff,List.mem_cons,List.mem_append,List.mem_singleton,h2,Or.comm]
  · unfold insA
    rw [(ins_perm l _ m).length_eq,List.length_cons,List.length_append,List.length_singleton]; omega
def actB (m:Int) (r:R4):Bool:=decide (r.s≤m)&&decide (m<r.e)
def busyZ (rs:List R4) (m:Int):List (List Int):=(rs.filter (actB m)).map fun r=>[r.b,r.w]
theorem busy (rs:List R4) (m:Int) (hl:rs.length≤61):F_busy [rowsR rs,.int m]=some (.lst ((srtZ (busyZ rs m)).map tupD)):=by
  refine run_eqF F_busy_def ?_
  rw [st_busy]
  unfold B_busy
  have lb:(busyZ rs m).length<64:=by
    unfold busyZ
    have:=List.length_filter_le (actB m) rs
    rw [List.length_map]; omega
  have ec:∀ ρ:Rho,ρ=[.bo (rowsR rs),.bo (.int m)]→dComp 1 [1] (asL (dVar 0)) (gN false 0) (dT (dChain (fun i j=>decide (i≤j)) (fun i j=>decide (i<j)) (dIx (dVar 0) (dC (.int 2))) (dVar 1) (dIx (dVar 0) (dC (.int 3))))) (dTup (dCons (gScal (dIx (dVar 0) (dC (.int 0)))) (dCons (gScal (dIx (dVar 0) (dC (.int 1)))) dNil))) ρ=some ((busyZ rs m).map tupD):=by
    rintro ρ rfl
    rw [ev_compA rowR (ev_asL (d:=rowsR rs) rfl rfl) (actB m) (fun r=>tupD [r.b,r.w]) fun r _=>⟨[.bo (rowR r),.bo (.int m)],rfl,ev_t (ev_chain (ev_ix rfl rfl rfl) rfl (ev_ix rfl rfl rfl)),fun _=>ev_tup (ev_cons (ev_scal (ev_ix rfl rfl rfl) rfl) (ev_cons (ev_scal (ev_ix rfl rfl rfl) rfl) rfl))⟩]
    unfold busyZ
    rw [List.map_map]
    rfl
  refine wp_ret (ev_lst (dSrt_of (ev_asL (ev_lst (ec _ rfl)) rfl) (fun z hz=>?_) lb)) rfl
  unfold busyZ at hz
  obtain ⟨r,_,rfl⟩:=List.mem_map.mp hz
  intro q; cases q
def blkZ (rs:List R4) (m:Int) (b:Nat):List (List Int):=(rs.filter fun r=>decide (r.b=(b:Int))&&actB m r).map fun r=>[(b:Int),r.w]
def lbusyZ (rs:List R4) (m:Int):List (List Int):=(List.range 4).flatMap (blkZ rs m)
theorem l_busy (rs:List R4) (m:Int) (hl:rs.length≤61):F_l_busy [rowsR rs,.int m]=some (.lst ((lbusyZ rs m).map tupD)):=by
  have hline:sizeLine=16777216:=sizeLine_eq
  have lblk:∀ (l:List R4) (b:Nat),(blkZ l m b).length≤l.length:=fun l b=>by
    unfold blkZ
    have:=List.length_filter_le (fun r:R4=>decide (r.b=(b:Int))&&actB m r) l
    rw [List.length_map]; exact this
  have lfl:∀ j:Nat,((List.range j).flatMap (blkZ rs m)).length≤j*61:=by
    intro j
    induction j with
    | zero=>exact Nat.le_refl _
    | succ j ih =>
      rw [List.range_succ,List.flatMap_append,List.length_append]
      have:=lblk rs j
      simp only [List.flatMap_cons,List.flatMap_nil,List.append_nil]
      omega
  refine run_eqF F_l_busy_def ?_
  rw [st_l_busy]
  unfold B_l_busy
  refine wp_seq (wp_setO (ds:=[]) rfl (by show 2<5; decide) ?_)
  walk_at "st"
  refine wp_seq (wp_for (ds:=upL 0 4) rfl (fun j ρ=>∃ v3 v4:Sl,ρ=[.bo (rowsR rs),.bo (.int m),.ol (((List.range j).flatMap (blkZ rs m)).map tupD),v3,v4]) ⟨_,_,rfl⟩ ?_ ?_)
  · rintro j d ρ hd ⟨v3,v4,rfl⟩
    obtain ⟨hj,rfl⟩:=upL_at hd
    refine ⟨[.bo (rowsR rs),.bo (.int m),.ol (((List.range j).flatMap (blkZ rs m)).map tupD),.pu (.int (0+(j:Int))),v4],rfl,?_⟩
    rw [show (0:Int)+(j:Int)=(j:Int) by omega]
    refine wp_for (ds:=rs.map rowR) (ev_asL (d:=rowsR rs) rfl rfl) (fun i ρ=>∃ v4:Sl,ρ=[.bo (rowsR rs),.bo (.int m),.ol (((List.range j).flatMap (blkZ rs m)++blkZ (rs.take i) m j).map tupD),.pu (.int (j:Int)),v4]) ⟨v4,by rw [List.take_zero]; unfold blkZ; rw [List.filter_nil,List.map_nil,List.append_nil]⟩ ?_ ?_
    · rintro i d ρ hd ⟨v4,rfl⟩
      rw [List.getElem?_map] at hd
      obtain ⟨r,hr,rfl⟩:=Option.map_eq_some_iff.mp hd
      refine ⟨[.bo (rowsR rs),.bo (.int m),.ol (((List.range j).flatMap (blkZ rs m)++blkZ (rs.take i) m j).map tupD),.pu (.int (j:Int)),.bo (rowR r)],rfl,?_⟩
      have et:rs.take (i+1)=rs.take i++[r]:=by rw [List.take_add_one,hr]; rfl
      have eb:blkZ (rs.take (i+1)) m j=blkZ (rs.take i) m j++if (decide (r.b=(j:Int))&&actB m r)=true then [[(j:Int),r.w]] else []:=by
        unfold blkZ
        rw [et,List.filter_append,List.map_append]
        congr 1
        rw [List.filter_cons]
        split <;> rfl
      have ll:(((List.range j).flatMap (blkZ rs m)++blkZ (rs.take i) m j).map tupD).length<sizeLine:=by
        have:=lfl j
        have:=lblk (rs.take i) j
        rw [List.length_take] at this
        rw [List.length_map,List.length_append]; omega
      refine wp_if (x:=decide (r.b=(j:Int))&&actB m r) (by
        rw [ev_and (ev_t (ev_eqF (ev_ix rfl rfl rfl) rfl)) fun _=>ev_and (ev_t (ev_le (ev_ix rfl rfl rfl) rfl)) fun _=>ev_t (ev_gt (ev_ix rfl rfl rfl) rfl)]
        rfl) (fun c=>?_) fun c=>wp_pass ⟨.bo (rowR r),?_⟩
      · refine wp_app rfl (ev_tup (ev_cons rfl (ev_cons (ev_scal (ev_ix rfl rfl rfl) rfl) rfl))) ll ⟨.bo (rowR r),?_⟩
        rw [eb,if_pos c,← List.append_assoc,List.map_append (l₁:=_++_)]
        rfl
      · rw [eb,if_neg (by rw [c]; exact Bool.false_ne_true),List.append_nil]
    · rintro ρ ⟨v4,rfl⟩
      refine ⟨.pu (.int (j:Int)),v4,?_⟩
      rw [List.length_map,List.take_length,List.range_succ,List.flatMap_append]
      simp only [List.flatMap_cons,List.flatMap_nil,List.append_nil]
  · rintro ρ ⟨v3,v4,rfl⟩
    refine wp_frz ?_
    dsimp only [frz,List.getD_cons_succ,List.getD_cons_zero,List.set_cons_succ,List.set_cons_zero]
    exact wp_ret rfl rfl
theorem lbusy_perm (m:Int):∀ (rs:List R4),(∀ r∈rs,0≤r.b∧r.b<4)→(lbusyZ rs m).Perm (busyZ rs m)
  | [],_=>List.Perm.refl _
  | r::rs,h=>by
    have ih:=lbusy_perm m rs fun r hr=>h r (List.mem_cons_of_mem _ hr)
    obtain ⟨h0,h4⟩:=h r List.mem_cons_self
    have fl:∀ l:List R4,lbusyZ l m=blkZ l m 0++(blkZ l m 1++(blkZ l m 2++blkZ l m 3)):=fun l=>by
      unfold lbusyZ
      show (([0,1,2,3]:List Nat).flatMap (blkZ l m))=_
      simp
    have bk:∀ b:Nat,blkZ (r::rs) m b=if (decide (r.b=(b:Int))&&actB m r)=true then [r.b,r.w]::blkZ rs m b else blkZ rs m b:=fun b=>by
      unfold blkZ
      rw [List.filter_cons]
      split
      · rename_i c
        have:=of_decide_eq_true (Bool.and_eq_true_iff.mp c).1
        rw [List.map_cons,this]
      · rfl
    by_cases a:actB m r=true
    · have e:busyZ (r::rs) m=[r.b,r.w]::busyZ rs m:=by
        unfold busyZ
        rw [List.filter_cons_of_pos a]
        rfl
      rw [e]
      refine List.Perm.trans ?_ (List.Perm.cons _ ih)
      rw [fl,fl,bk,bk,bk,bk,a]
      simp only [Bool.and_true]
      have:r.b=((0:Nat):Int)∨r.b=((1:Nat):Int)∨r.b=((2:Nat):Int)∨r.b=((3:Nat):Int):=by omega
      rcases this with q | q | q | q
      · rw [if_pos (decide_eq_true q),if_neg (by simp; omega),if_neg (by simp; omega),if_neg (by simp; omega)]
        exact List.Perm.refl _
      · rw [if_neg (by simp; omega),if_pos (decide_eq_true q),if_neg (by simp; omega),if_neg (by simp; omega)]
        exact List.perm_middle
      · rw [if_neg (by simp; omega),if_neg (by simp; omega),if_pos (decide_eq_true q),if_neg (by simp; omega)]
        exact (List.Perm.append_left _ List.perm_middle).trans List.perm_middle
      · rw [if_neg (by simp; omega),if_neg (by simp; omega),if_neg (by simp; omega),if_pos (decide_eq_true q)]
        exact (List.Perm.append_left _ ((List.Perm.append_left _ List.perm_middle).trans List.perm_middle)).trans List.perm_middle
    · have e:busyZ (r::rs) m=busyZ rs m:=by
        unfold busyZ
        rw [List.filter_cons_of_neg a]
      rw [e]
      refine List.Perm.trans ?_ ih
      have a:actB m r=false:=by simpa using a
      rw [fl,fl,bk,bk,bk,bk,a]
      simp only [Bool.and_false,Bool.false_eq_true,if_false]
      exact List.Perm.refl _
theorem blk_one {rs:List R4} (ap:Ap rs) (m:Int) (b:Nat):(blkZ rs m b).length≤1:=by
  unfold blkZ
  rw [List.length_map]
  have hp:(rs.filter fun r=>decide (r.b=(b:Int))&&actB m r).Pairwise Dj:=ap.dj.filter _
  cases e:rs.filter fun r=>decide (r.b=(b:Int))&&actB m r with
  | nil=>exact Nat.zero_le _
  | cons x l =>
    cases l with
    | nil=>exact Nat.le_refl _
    | cons y l =>
      exfalso
      have hx:x∈rs.filter fun r=>decide (r.b=(b:Int))&&actB m r:=by rw [e]; exact List.mem_cons_self
      have hy:y∈rs.filter fun r=>decide (r.b=(b:Int))&&actB m r:=by rw [e]; exact List.mem_cons_of_mem _ List.mem_cons_self
      rw [e] at hp
      have d:=(List.pairwise_cons.mp hp).1 y List.mem_cons_self
      have kx:=(List.mem_filter.mp hx).2
      have ky:=(List.mem_filter.mp hy).2
      unfold actB at kx ky
      simp only [Bool.and_eq_true,decide_eq_true_iff] at kx ky
      rcases d (kx.1.trans ky.1.symm) with z | z <;> omega
theorem lbusy_up {rs:List R4} (ap:Ap rs) (m:Int):(lbusyZ rs m).Pairwise fun a b=>L2.lexLt b a=false:=by
  have key:∀ j:Nat,((List.range j).flatMap (blkZ rs m)).Pairwise fun a b=>L2.lexLt b a=false:=by
    intro j
    induction j with
    | zero=>exact List.Pairwise.nil
    | succ j ih =>
      rw [List.range_succ,List.flatMap_append]
      simp only [List.flatMap_cons,List.flatMap_nil,List.append_nil]
      refine List.pairwise_append.mpr ⟨ih,?_,fun x hx y hy=>?_⟩
      · have:=blk_one ap m j
        cases e:blkZ rs m j with
        | nil=>exact List.Pairwise.nil
        | cons a l =>
          rw [e,List.length_cons] at this
          rw [List.eq_nil_of_length_eq_zero (show l.length=0 by omega)]
          exact List.pairwise_singleton _ _
      · obtain ⟨i,hi,hx⟩:=List.mem_flatMap.mp hx
        have hi:=List.mem_range.mp hi
        unfold blkZ at hx hy
        obtain ⟨r,_,rfl⟩:=List.mem_map.mp hx
        obtain ⟨q,_,rfl⟩:=List.mem_map.mp hy
        unfold L2.lexLt
        have h1:¬ ((j:Int)<(i:Int)):=by omega
        have h2:¬ ((j:Int)=(i:Int)):=by omega
        simp [h1,h2]
  exact key 4
theorem busy_same {rs:List R4} (ap:Ap rs) (hb:∀ r∈rs,0≤r.b∧r.b<4) (m:Int):lbusyZ rs m=srtZ (busyZ rs m):=srtZ_uniq (lbusy_perm m rs hb) (lbusy_up ap m)
theorem l_like (zs:List (List Int)) (h2:∀ z∈zs,z.length=2):F_l_like [.lst (zs.map tupD),.lst (zs.map tupD)]=some (.bl true):=by
  have ll:lenD (.lst (zs.map tupD))=some (.int (zs.length:Int)):=by show some (D.int ((zs.map tupD).length:Nat))=_; rw [List.length_map]
  refine run_eqF F_l_like_def ?_
  rw [st_l_like]
  unfold B_l_like
  refine wp_seq (wp_ifF (ev_or (x:=false) (y:=false) (ev_not (x:=true) (ev_tru rfl rfl)) fun _=>?_) (wp_pass ?_))
  · rw [ev_t (ev_neF (ev_f1 rfl ll) (ev_f1 rfl ll))]; simp
  refine wp_seq (wp_for (ds:=zs.map tupD) (ev_asL (d:=.lst (zs.map tupD)) rfl rfl) (fun j ρ=>∃ v2:Sl,ρ=[.bo (.lst (zs.map tupD)),.bo (.lst (zs.map tupD)),v2]) ⟨_,rfl⟩ ?_ ?_)
  · rintro j d ρ hd ⟨v2,rfl⟩
    rw [List.getElem?_map] at hd
    obtain ⟨z,hz,rfl⟩:=Option.map_eq_some_iff.mp hd
    have hz2:=h2 z (List.mem_of_getElem? hz)
    match z,hz2 with
    | [a,b],_ =>
    refine ⟨[.bo (.lst (zs.map tupD)),.bo (.lst (zs.map tupD)),.bo (tupD [a,b])],rfl,?_⟩
    refine wp_ifF (ev_or (x:=false) (y:=false) (ev_not (x:=true) (ev_tru rfl rfl)) fun _=>ev_or (x:=false) (y:=false) (by rw [ev_t (ev_neF (i:=2) (j:=2) rfl rfl)]; simp) fun _=>ev_or (x:=false) (y:=false) (ev_not (x:=true) (ev_tru (ev_call (ev_cons (ev_ix rfl rfl rfl) rfl) (whole a)) rfl)) fun _=>ev_not (x:=true) (ev_tru (ev_call (ev_cons (ev_ix rfl rfl rfl) rfl) (whole b)) rfl)) (wp_pass ⟨_,rfl⟩)
  · rintro ρ ⟨v2,rfl⟩
    refine wp_ret (ev_eqSame rfl rfl (cmp_lst fun x hx y hy=>?_)) rfl
    obtain ⟨p,hp,rfl⟩:=List.mem_map.mp hx
    obtain ⟨q,hq,rfl⟩:=List.mem_map.mp hy
    match p,q,h2 p hp,h2 q hq with
    | [a,b],[c,d],_,_=>exact cmp_tup2 rfl rfl
theorem cutM {α β:Type} (f:α→β) (xs:List α) (l u:Option Int):cutL (xs.map f) l u=(cutL xs l u).map f:=by
  unfold cutL; rw [List.map_take,List.map_drop,List.length_map]
theorem cut_len {α:Type} (xs:List α) (l u:Option Int):(cutL xs l u).length≤xs.length:=by
  unfold cutL; rw [List.length_take,List.length_drop]; omega
theorem flat_ints (ns:List Int):flatL (ns.map D.int)=true:=by unfold flatL; rw [List.all_map]; exact List.all_eq_true.mpr fun _ _=>rfl
def momsOf (rs:List R4):List Int:=rs.map (fun r=>r.s)++rs.map fun r=>r.e
theorem moments {rs:List R4} (hl:rs.length≤61) {ms:List Int} (h:SrtS (momsOf rs) ms):F_moments [rowsR rs]=some (.lst (ms.map D.int)):=by
  have hline:sizeLine=16777216:=sizeLine_eq
  refine run_eqF F_moments_def ?_
  rw [st_moments]
  unfold B_moments
  have e1:dComp 1 [] (asL (dVar 0)) (gN false 0) dTrue (gScal (dIx (dVar 0) (dC (.int 2)))) [.bo (rowsR rs)]=some ((rs.map fun r=>r.s).map D.int):=by
    rw [ev_compA0 rowR (ev_asL (d:=rowsR rs) rfl rfl) (fun r=>D.int r.s) fun r _=>⟨[.bo (rowR r)],rfl,ev_scal (ev_ix rfl rfl rfl) rfl⟩,List.map_map]
    rfl
  have e2:dComp 1 [] (asL (dVar 0)) (gN false 0) dTrue (gScal (dIx (dVar 0) (dC (.int 3)))) [.bo (rowsR rs)]=some ((rs.map fun r=>r.e).map D.int):=by
    rw [ev_compA0 rowR (ev_asL (d:=rowsR rs) rfl rfl) (fun r=>D.int r.e) fun r _=>⟨[.bo (rowR r)],rfl,ev_scal (ev_ix rfl rfl rfl) rfl⟩,List.map_map]
    rfl
  refine wp_ret (ev_lst (dSrtS_of (ns:=momsOf rs) (ev_asL (ev_lst (ds:=(momsOf rs).map D.int) ?_) rfl) ?_ h)) rfl
  · rw [ev_cat (ev_lst e1) (ev_lst e2) (by rw [List.length_map,List.length_map,List.length_map,List.length_map]; omega)]
    unfold momsOf
    rw [List.map_append (l₁:=rs.map fun r=>r.s)]
  · unfold momsOf
    rw [List.length_append,List.length_map,List.length_map]; omega
theorem cmp_rowsR (W V:List R4):cmpb 20 (rowsR W) (rowsR V)=true:=by
  refine cmp_lst fun x hx y hy=>?_
  obtain ⟨p,_,rfl⟩:=List.mem_map.mp hx
  obtain ⟨q,_,rfl⟩:=List.mem_map.mp hy
  exact cmp_ints [p.b,p.w,p.s,p.e] [q.b,q.w,q.s,q.e]
theorem pow40 {ρ:Rho}:dPow (dC (.int 10)) (dC (.int 40)) ρ=some (.int (10 ^ 40)):=ev_pow (i:=10) (j:=40) rfl rfl (by unfold CPow; decide)
def mom2 (rs:List R4):List Int:=rs.flatMap fun r=>[r.s,r.e]
theorem law_true (ns:List Int) (hl:ns.length≤63) (hb:∀ m∈ns,Builtin.Int.intBits m≤1048576):F_law [.scr ns]=some (.bl true):=by
  have hline:sizeLine=16777216:=sizeLine_eq
  refine run_eqF F_law_def ?_
  rw [st_law]
  unfold B_law
  have bits:∀ k,Builtin.Int.intBits (ns.getD k 0)≤1048576:=fun k=>by
    rw [List.getD_eq_getElem?_getD]
    cases e:ns[k]? with
    | none=>decide
    | some x=>exact hb x (List.mem_of_getElem? e)
  refine wp_seq (wp_set (d:=.int (pk3 (ns.getD (0:Int).toNat 0 % 3) 1 7 (10 ^ 40+9))) (ev_ix (ev_lst (ev_cons rfl (ev_cons rfl (ev_cons (ev_add pow40 rfl) rfl)))) (ev_mod (ev_call (ev_cons rfl (ev_cons rfl rfl)) (cell_at ns 0 (by omega))) rfl (by decide)) (ix3I _ _ _ _)) ?_)
  have hu:0<pk3 (ns.getD (0:Int).toNat 0 % 3) 1 7 (10 ^ 40+9):=by
    unfold pk3
    split
    · decide
    · split <;> decide
  generalize pk3 (ns.getD (0:Int).toNat 0 % 3) 1 7 (10 ^ 40+9)=u at hu
  walk_at "st"
  have lcut:(cutL ns (some 2) (some 63)).length≤61:=by
    unfold cutL
    have h2:=HT.sIx_nat ns.length 0 2
    have h3:=HT.sIx_nat ns.length ns.length 63
    rw [List.length_take,List.length_drop]
    have h2:HT.sIx ns.length 0 (some 2)=min 2 ns.length:=h2
    have h3:HT.sIx ns.length ns.length (some 63)=min 63 ns.length:=h3
    rw [h2,h3]
    omega
  obtain ⟨rs,e1,l1,ap,hb4⟩:=l_rows (cutL ns (some 2) (some 63)) u hu lcut fun m hm=>hb m (by
    unfold cutL at hm
    exact List.mem_of_mem_drop (List.mem_of_mem_take hm))
  have hrs:rs.length≤61:=by omega
  refine wp_seq (wp_set (ev_call (ev_cons (ev_lst (ds:=(cutL ns (some 2) (some 63)).map D.int) (ev_flat ?_ (flat_ints _))) (ev_cons rfl rfl)) e1) ?_)
  · rw [ev_sl (ds:=ns.map D.int) (ev_asL (d:=.scr ns) rfl rfl) rfl rfl,cutM]
  walk_at "st"
  refine wp_seq (wp_set (d:=rowsR rs) (ev_lst ?_) ?_)
  · rw [ev_compA0 rowR (ev_asL (d:=rowsR rs) rfl rfl) rowR fun r _=>⟨_,rfl,rfl⟩]
  walk_at "st"
  refine wp_seq (wp_setO (ds:=[]) rfl (by show 4<12; decide) ?_)
  walk_at "st"
  refine wp_seq (wp_for (ds:=rs.map rowR) (ev_asL (d:=rowsR rs) rfl rfl) (fun j ρ=>∃ (du:List Int) (v5 v6 v7:Sl),DueM (mom2 (rs.take j)) du∧ρ=[.bo (.scr ns),.pu (.int u),.pu (rowsR rs),.pu (rowsR rs),.ol (du.map D.int),v5,v6,v7,.un,.un,.un,.un]) ⟨[],.un,.un,.un,⟨List.Pairwise.nil,fun x=>Iff.rfl,Nat.le_refl _⟩,rfl⟩ ?_ ?_)
  · rintro j d ρ hd ⟨du,v5,v6,v7,hdu,rfl⟩
    rw [List.getElem?_map] at hd
    obtain ⟨r,hr,rfl⟩:=Option.map_eq_some_iff.mp hd
    have et:mom2 (rs.take (j+1))=mom2 (rs.take j)++[r.s,r.e]:=by
      unfold mom2
      rw [List.take_add_one,hr,List.flatMap_append]
      simp
    have lm:(mom2 (rs.take (j+1))).length≤122:=by
      have:∀ l:List R4,(mom2 l).length=2*l.length:=by
        intro l
        induction l with
        | nil=>rfl
        | cons a l ih =>
          unfold mom2 at *
          rw [List.flatMap_cons,List.length_append,ih,List.length_cons]
          simp; omega
      rw [this,List.length_take]; omega
    refine ⟨[.bo (.scr ns),.pu (.int u),.pu (rowsR rs),.pu (rowsR rs),.ol (du.map D.int),.pu (rowR r),v6,v7,.un,.un,.un,.un],rfl,?_⟩
    refine wp_for (ds:=[.int r.s,.int r.e]) (ev_asL (ev_lst (ev_sl (ev_asL (d:=rowR r) rfl rfl) rfl rfl)) rfl) (fun i ρ=>∃ (du:List Int) (v6 v7:Sl),DueM (mom2 (rs.take j)++[r.s,r.e].take i) du∧ρ=[.bo (.scr ns),.pu (.int u),.pu (rowsR rs),.pu (rowsR rs),.ol (du.map D.int),.pu (rowR r),v6,v7,.un,.un,.un,.un]) ⟨du,v6,v7,by rw [List.take_zero,List.append_nil]; exact hdu,rfl⟩ ?_ ?_
    · rintro i d ρ hd ⟨du,v6,v7,hdu,rfl⟩
      obtain ⟨m,hm,rfl⟩:∃ m,[r.s,r.e][i]?=some m∧d=.int m:=by
        match i,hd with
        | 0,hd=>exact ⟨_,rfl,(Option.some.inj hd).symm⟩
        | 1,hd=>exact ⟨_,rfl,(Option.some.inj hd).symm⟩
        | i+2,hd=>simp at hd
      have nx:=hdu.next m
      have et2:mom2 (rs.take j)++[r.s,r.e].take i++[m]=mom2 (rs.take j)++[r.s,r.e].take (i+1):=by
        rw [List.append_assoc,List.take_add_one,hm]
        rfl
      rw [et2] at nx
      have ldu:du.length≤124:=by
        have:=hdu.2.2
        rw [et,List.length_append] at lm
        rw [List.length_append,List.length_take] at this
        omega
      refine ⟨[.bo (.scr ns),.pu (.int u),.pu (rowsR rs),.pu (rowsR rs),.ol (du.map D.int),.pu (rowR r),.pu (.int m),v7,.un,.un,.un,.un],rfl,?_⟩
      refine wp_seq (wp_set (d:=.int ((du.filter fun x=>decide (x<m)).length:Int)) (ev_f1 (ev_lst (ds:=(du.filter fun x=>decide (x<m)).map D.int) ?_) (len_map _)) ?_)
      · exact ev_compA D.int (ev_asL (d:=.lst (du.map D.int)) rfl rfl) (fun x=>decide (x<m)) D.int fun x _=>⟨[.bo (.int x),.pu (.int m)],rfl,ev_t (ev_lt rfl rfl),fun _=>ev_scal rfl rfl⟩
      walk_at "st"
      refine wp_if (x:=!decide (m∈du)) (by rw [ev_t (ev_inI (neg:=true) (ns:=du) rfl rfl)]; rfl) (fun c=>?_) fun c=>wp_pass ⟨du,.pu (.int m),.pu (.int ((du.filter fun x=>decide (x<m)).length:Int)),nx.1 (by simpa using c),rfl⟩
      have lf:=List.length_filter_le (fun x=>decide (x<m)) du
      refine wp_ins rfl rfl rfl ⟨by omega,by rw [List.length_map]; omega,by rw [List.length_map]; omega⟩ ⟨insA du m,.pu (.int m),.pu (.int ((du.filter fun x=>decide (x<m)).length:Int)),nx.2 (by simpa using c),?_⟩
      walk_at "st"
      unfold insA
      rw [Int.toNat_natCast,List.map_append,List.map_cons,List.map_take,List.map_drop]
    · rintro ρ ⟨du,v6,v7,hdu,rfl⟩
      refine ⟨du,.pu (rowR r),v6,v7,?_,rfl⟩
      rw [et]
      exact hdu
  rintro ρ ⟨du,v5,v6,v7,hdu,rfl⟩
  rw [List.length_map,List.take_length] at hdu
  have hS:SrtS (momsOf rs) du:=by
    refine ⟨hdu.1.imp fun h=>by omega,fun x=>?_,hdu.1.imp fun h=>by omega⟩
    rw [hdu.2.1]
    unfold mom2 momsOf
    rw [List.mem_flatMap,List.mem_append,List.mem_map,List.mem_map]
    constructor
    · rintro ⟨r,hr,hx⟩
      rcases List.mem_cons.mp hx with z | z
      · exact .inl ⟨r,hr,z.symm⟩
      · exact .inr ⟨r,hr,(List.mem_singleton.mp z).symm⟩
    · rintro (⟨r,hr,z⟩ | ⟨r,hr,z⟩)
      · exact ⟨r,hr,by rw [← z]; exact List.mem_cons_self⟩
      · exact ⟨r,hr,by rw [← z]; exact List.mem_cons_of_mem _ List.mem_cons_self⟩
  have ldu:du.length≤1000:=by
    have:=hdu.2.2
    have l2:∀ l:List R4,(mom2 l).length=2*l.length:=by
      intro l
      induction l with
      | nil=>rfl
      | cons a l ih =>
        unfold mom2 at *
        rw [List.flatMap_cons,List.length_append,ih,List.length_cons]
        simp; omega
    rw [l2] at this
    omega
  refine wp_seq (wp_set (ev_call (ev_cons rfl rfl) (moments hrs hS)) ?_)
  walk_at "st"
  refine wp_seq (wp_ifF (ev_or (x:=false) (y:=false) (ev_not (x:=true) (ev_tru rfl rfl)) fun _=>?_) (wp_pass ?_))
  · rw [ev_t (ev_eq (neg:=true) (d:=.lst (du.map D.int)) (e:=.lst (du.map D.int)) rfl rfl (cmp_ints du du))]
    simp
  refine wp_seq (wp_for (ds:=du.map D.int) (ev_asL (d:=.lst (du.map D.int)) rfl rfl) (fun j ρ=>∃ v6:Sl,ρ=[.bo (.scr ns),.pu (.int u),.pu (rowsR rs),.pu (rowsR rs),.ol (du.map D.int),v5,v6,v7,.pu (.lst (du.map D.int)),.un,.un,.un]) ⟨_,rfl⟩ ?_ ?_)
  · rintro j d ρ hd ⟨v6,rfl⟩
    rw [List.getElem?_map] at hd
    obtain ⟨x,hx,rfl⟩:=Option.map_eq_some_iff.mp hd
    refine ⟨[.bo (.scr ns),.pu (.int u),.pu (rowsR rs),.pu (rowsR rs),.ol (du.map D.int),v5,.pu (.int x),v7,.pu (.lst (du.map D.int)),.un,.un,.un],rfl,?_⟩
    exact wp_ifF (ev_not (x:=true) (ev_tru (ev_call (ev_cons rfl rfl) (whole x)) rfl)) (wp_pass ⟨_,rfl⟩)
  rintro ρ ⟨v6,rfl⟩
  refine wp_seq (wp_set (ev_call (ev_cons rfl (ev_cons rfl rfl)) (cell_at ns 1 (by omega))) ?_)
  walk_at "st"
  have hc:=bits (1:Int).toNat
  generalize ns.getD (1:Int).toNat 0=c at hc
  refine wp_seq (wp_frz ?_)
  show Wp (sSet 10 _) [.bo (.scr ns),.pu (.int u),.pu (rowsR rs),.pu (rowsR rs),.pu (.lst (du.map D.int)),v5,v6,v7,.pu (.lst (du.map D.int)),.pu (.int c),.un,.un] _
  obtain ⟨xs,hx,lx⟩:∃ xs:List Int,dComp 1 [4,9] (dRg1 (dC (.int 12))) (gN true 0) (dT (dGt (dF1 lenD (dVar 1)) (dC (.int 0)))) (gScal (dIx (dVar 1) (dMod (dCall F_l_mix (dCons (dVar 2) (dCons (dVar 0) dNil))) (dF1 lenD (dVar 1))))) [.bo (.scr ns),.pu (.int u),.pu (rowsR rs),.pu (rowsR rs),.pu (.lst (du.map D.int)),v5,v6,v7,.pu (.lst (du.map D.int)),.pu (.int c),.un,.un]=some (xs.map D.int)∧xs.length≤12:=by
    refine ⟨((List.range 12).filter fun _=>decide (0<(du.length:Int))).map fun (k:Nat)=>du.getD (mixZ c (0+(k:Int)) % (du.length:Int)).toNat 0,?_,?_⟩
    · have e0:dRg1 (dC (.int 12)) [.bo (.scr ns),.pu (.int u),.pu (rowsR rs),.pu (rowsR rs),.pu (.lst (du.map D.int)),v5,v6,v7,.pu (.lst (du.map D.int)),.pu (.int c),.un,.un]=some ((List.range 12).map fun (k:Nat)=>D.int (0+(k:Int))):=rfl
      rw [ev_compA (fun (k:Nat)=>D.int (0+(k:Int))) e0 (fun _=>decide (0<(du.length:Int))) (fun (k:Nat)=>D.int (du.getD (mixZ c (0+(k:Int)) % (du.length:Int)).toNat 0)) fun k hk=>?_]
      · rw [List.map_map]; rfl
      · have hk:=List.mem_range.mp hk
        refine ⟨[.pu (.int (0+(k:Int))),.pu (.lst (du.map D.int)),.pu (.int c)],rfl,ev_t (ev_gt (ev_f1 rfl (len_map du)) rfl),fun z=>?_⟩
        have z:=of_decide_eq_true z
        have m0:=Int.emod_nonneg (mixZ c (0+(k:Int))) (show (du.length:Int)≠0 by omega)
        have m1:=Int.emod_lt_of_pos (mixZ c (0+(k:Int))) z
        exact ev_scal (ev_ix rfl (ev_mod (ev_call (ev_cons rfl (ev_cons rfl rfl)) (mix c (0+(k:Int)) hc (by omega) (by omega))) (ev_f1 rfl (len_map du)) z) (ixI m0 m1)) rfl
    · have:=List.length_filter_le (fun _:Nat=>decide (0<(du.length:Int))) (List.range 12)
      rw [List.length_range] at this
      rw [List.length_map]; exact this
  have lc:=cut_len du (some (-1)) none
  refine wp_set (d:=.lst (([0]++xs++cutL du (some (-1)) none).map D.int)) (ev_lst ?_) ?_
  · rw [ev_cat (ev_lst (ev_cat (xs:=[.int 0]) (ev_lst (es:=dCons (dC (.int 0)) dNil) (ds:=[.int 0]) rfl) (ev_lst hx) (by rw [List.length_map]; simp; omega))) (ev_lst (es:=dSl (dVarI 4) (oSome (dNeg (dC (.int 1)))) oNone) (ds:=(cutL du (some (-1)) none).map D.int) ?_) ?_]
    · simp
    · rw [ev_sl (ds:=du.map D.int) (ev_asL (d:=.lst (du.map D.int)) rfl rfl) rfl rfl,cutM]
    · rw [List.length_append,List.length_map,List.length_map]; simp; omega
  walk_at "st"
  generalize [0]++xs++cutL du (some (-1)) none=as
  refine wp_seq (wp_for (ds:=as.map D.int) (ev_asL (d:=.lst (as.map D.int)) rfl rfl) (fun j ρ=>∃ v6 v11:Sl,ρ=[.bo (.scr ns),.pu (.int u),.pu (rowsR rs),.pu (rowsR rs),.pu (.lst (du.map D.int)),v5,v6,v7,.pu (.lst (du.map D.int)),.pu (.int c),.pu (.lst (as.map D.int)),v11]) ⟨_,_,rfl⟩ ?_ ?_)
  · rintro j d ρ hd ⟨v6,v11,rfl⟩
    rw [List.getElem?_map] at hd
    obtain ⟨x,hx,rfl⟩:=Option.map_eq_some_iff.mp hd
    refine ⟨[.bo (.scr ns),.pu (.int u),.pu (rowsR rs),.pu (rowsR rs),.pu (.lst (du.map D.int)),v5,.pu (.int x),v7,.pu (.lst (du.map D.int)),.pu (.int c),.pu (.lst (as.map D.int)),v11],rfl,?_⟩
    refine wp_for (ds:=[max 0 (x-1),x].map D.int) (ev_asL (ev_lst (ev_cons (ev_max2 rfl (ev_sub rfl rfl)) (ev_cons rfl rfl))) rfl) (fun i ρ=>∃ v11:Sl,ρ=[.bo (.scr ns),.pu (.int u),.pu (rowsR rs),.pu (rowsR rs),.pu (.lst (du.map D.int)),v5,.pu (.int x),v7,.pu (.lst (du.map D.int)),.pu (.int c),.pu (.lst (as.map D.int)),v11]) ⟨_,rfl⟩ ?_ ?_
    · rintro i d ρ hd ⟨v11,rfl⟩
      rw [List.getElem?_map] at hd
      obtain ⟨y,_,rfl⟩:=Option.map_eq_some_iff.mp hd
      refine ⟨[.bo (.scr ns),.pu (.int u),.pu (rowsR rs),.pu (rowsR rs),.pu (.lst (du.map D.int)),v5,.pu (.int x),v7,.pu (.lst (du.map D.int)),.pu (.int c),.pu (.lst (as.map D.int)),.pu (.int y)],rfl,?_⟩
      have eb:=l_busy rs y hrs
      rw [busy_same ap hb4 y] at eb
      refine wp_ifF (ev_not (x:=true) (ev_tru (ev_call (ev_cons (ev_call (ev_cons rfl (ev_cons rfl rfl)) (busy rs y hrs)) (ev_cons (ev_call (ev_cons rfl (ev_cons rfl rfl)) eb) rfl)) (l_like _ fun z hz=>?_)) rfl)) (wp_pass ⟨_,rfl⟩)
      have hz:=(srtZ_perm _).mem_iff.mp hz
      unfold busyZ at hz
      obtain ⟨r,_,rfl⟩:=List.mem_map.mp hz
      rfl
    · rintro ρ ⟨v11,rfl⟩
      exact ⟨_,_,rfl⟩
  · rintro ρ ⟨v6,v11,rfl⟩
    exact wp_ret (ev_eqSame rfl rfl (cmp_rowsR rs rs)) rfl
theorem all_mk {K:PySem.W.Frag} {h:Heap} {mg:Str→Option Value} {fa:Addr} (X:K.In h) (G:h.Ns mainGlobals mg) (hfa:mg "law" = some (.ref fa))
    {f0:Addr} {od0 an0:Option Addr} {sl0:Array (Option Value)} {oc0 kV0 dc0 pm0 cd0 ct0:Value}
    {f1:Addr} {od1 an1:Option Addr} {sl1:Array (Option Value)} {oc1 kV1 dc1 pm1 cd1 ct1:Value}
    {f2:Addr} {od2 an2:Option Addr} {sl2:Array (Option Value)} {oc2 kV2 dc2 pm2 cd2 ct2:Value}
    {f3:Addr} {od3 an3:Option Addr} {sl3:Array (Option Value)} {oc3 kV3 dc3 pm3 cd3 ct3:Value}
    {f4:Addr} {od4 an4:Option Addr} {sl4:Array (Option Value)} {oc4 kV4 dc4 pm4 cd4 ct4:Value}
    {f5:Addr} {od5 an5:Option Addr} {sl5:Array (Option Value)} {oc5 kV5 dc5 pm5 cd5 ct5:Value}
    {f6:Addr} {od6 an6:Option Addr} {sl6:Array (Option Value)} {oc6 kV6 dc6 pm6 cd6 ct6:Value}
    {f7:Addr} {od7 an7:Option Addr} {sl7:Array (Option Value)} {oc7 kV7 dc7 pm7 cd7 ct7:Value}
    {f8:Addr} {od8 an8:Option Addr} {sl8:Array (Option Value)} {oc8 kV8 dc8 pm8 cd8 ct8:Value}
    {t_BEGIN:Tok}
    {t_BENCH:Tok}
    {t_END:Tok}
    {t_WORK:Tok}
    (a0:PySem.W.nsIn K mainGlobals "moments" = some (some (.ref f0))) (l0:K.lookup f0=some ⟨oc0,od0,.func (PySem.W.fnOf "moments" "moments" (defArgs s_moments) (defBody s_moments) (defScope s_moments) .none kV0 dc0 pm0 an0 cd0 ct0),sl0⟩) (c0:PySem.W.codeIn K cd0 "moments" = true) (k0:PySem.W.keepIn K (.ref f0)=true)
    (a1:PySem.W.nsIn K mainGlobals "busy" = some (some (.ref f1))) (l1:K.lookup f1=some ⟨oc1,od1,.func (PySem.W.fnOf "busy" "busy" (defArgs s_busy) (defBody s_busy) (defScope s_busy) .none kV1 dc1 pm1 an1 cd1 ct1),sl1⟩) (c1:PySem.W.codeIn K cd1 "busy" = true) (k1:PySem.W.keepIn K (.ref f1)=true)
    (a2:PySem.W.nsIn K mainGlobals "_law_mix" = some (some (.ref f2))) (l2:K.lookup f2=some ⟨oc2,od2,.func (PySem.W.fnOf "_law_mix" "_law_mix" (defArgs s_l_mix) (defBody s_l_mix) (defScope s_l_mix) .none kV2 dc2 pm2 an2 cd2 ct2),sl2⟩) (c2:PySem.W.codeIn K cd2 "_law_mix" = true) (k2:PySem.W.keepIn K (.ref f2)=true)
    (a3:PySem.W.nsIn K mainGlobals "_law_whole" = some (some (.ref f3))) (l3:K.lookup f3=some ⟨oc3,od3,.func (PySem.W.fnOf "_law_whole" "_law_whole" (defArgs s_l_whole) (defBody s_l_whole) (defScope s_l_whole) .none kV3 dc3 pm3 an3 cd3 ct3),sl3⟩) (c3:PySem.W.codeIn K cd3 "_law_whole" = true) (k3:PySem.W.keepIn K (.ref f3)=true)
    (a4:PySem.W.nsIn K mainGlobals "_law_cell_at" = some (some (.ref f4))) (l4:K.lookup f4=some ⟨oc4,od4,.func (PySem.W.fnOf "_law_cell_at" "_law_cell_at" (defArgs s_l_cell_at) (defBody s_l_cell_at) (defScope s_l_cell_at) .none kV4 dc4 pm4 an4 cd4 ct4),sl4⟩) (c4:PySem.W.codeIn K cd4 "_law_cell_at" = true) (k4:PySem.W.keepIn K (.ref f4)=true)
    (a5:PySem.W.nsIn K mainGlobals "_law_rows" = some (some (.ref f5))) (l5:K.lookup f5=some ⟨oc5,od5,.func (PySem.W.fnOf "_law_rows" "_law_rows" (defArgs s_l_rows) (defBody s_l_rows) (defScope s_l_rows) .none kV5 dc5 pm5 an5 cd5 ct5),sl5⟩) (c5:PySem.W.codeIn K cd5 "_law_rows" = true) (k5:PySem.W.keepIn K (.ref f5)=true)
    (a6:PySem.W.nsIn K mainGlobals "_law_busy" = some (some (.ref f6))) (l6:K.lookup f6=some ⟨oc6,od6,.func (PySem.W.fnOf "_law_busy" "_law_busy" (defArgs s_l_busy) (defBody s_l_busy) (defScope s_l_busy) .none kV6 dc6 pm6 an6 cd6 ct6),sl6⟩) (c6:PySem.W.codeIn K cd6 "_law_busy" = true) (k6:PySem.W.keepIn K (.ref f6)=true)
    (a7:PySem.W.nsIn K mainGlobals "_law_like" = some (some (.ref f7))) (l7:K.lookup f7=some ⟨oc7,od7,.func (PySem.W.fnOf "_law_like" "_law_like" (defArgs s_l_like) (defBody s_l_like) (defScope s_l_like) .none kV7 dc7 pm7 an7 cd7 ct7),sl7⟩) (c7:PySem.W.codeIn K cd7 "_law_like" = true) (k7:PySem.W.keepIn K (.ref f7)=true)
    (a8:PySem.W.nsIn K mainGlobals "law" = some (some (.ref f8))) (l8:K.lookup f8=some ⟨oc8,od8,.func (PySem.W.fnOf "law" "law" (defArgs s_law) (defBody s_law) (defScope s_law) .none kV8 dc8 pm8 an8 cd8 ct8),sl8⟩) (c8:PySem.W.codeIn K cd8 "law" = true) (k8:PySem.W.keepIn K (.ref f8)=true)
    (z_bool:PySem.W.nsIn K mainGlobals "bool" = some none)
    (z_int:PySem.W.nsIn K mainGlobals "int" = some none)
    (z_isinstance:PySem.W.nsIn K mainGlobals "isinstance" = some none)
    (z_len:PySem.W.nsIn K mainGlobals "len" = some none)
    (z_list:PySem.W.nsIn K mainGlobals "list" = some none)
    (z_max:PySem.W.nsIn K mainGlobals "max" = some none)
    (z_range:PySem.W.nsIn K mainGlobals "range" = some none)
    (z_set:PySem.W.nsIn K mainGlobals "set" = some none)
    (z_sorted:PySem.W.nsIn K mainGlobals "sorted" = some none)
    (z_tuple:PySem.W.nsIn K mainGlobals "tuple" = some none)
    (c_BEGIN:PySem.W.nsIn K mainGlobals "BEGIN" = some (some (.int 2 t_BEGIN)))
    (c_BENCH:PySem.W.nsIn K mainGlobals "BENCH" = some (some (.int 0 t_BENCH)))
    (c_END:PySem.W.nsIn K mainGlobals "END" = some (some (.int 3 t_END)))
    (c_WORK:PySem.W.nsIn K mainGlobals "WORK" = some (some (.int 1 t_WORK))) :
    ∃ a:Adr,Txt K mg a∧a.f_law=fa∧∀ (s:Shared) (v:Value),BindsTo s a.d_law ⟨[v],[]⟩ [("_law_script", v)]:=by
  have e:=hfa.symm.trans (PySem.W.mg_of X G a8)
  cases e
  have F0:=fun_mk (st:=s_moments) l0 c0 k0
  have F1:=fun_mk (st:=s_busy) l1 c1 k1
  have F2:=fun_mk (st:=s_l_mix) l2 c2 k2
  have F3:=fun_mk (st:=s_l_whole) l3 c3 k3
  have F4:=fun_mk (st:=s_l_cell_at) l4 c4 k4
  have F5:=fun_mk (st:=s_l_rows) l5 c5 k5
  have F6:=fun_mk (st:=s_l_busy) l6 c6 k6
  have F7:=fun_mk (st:=s_l_like) l7 c7 k7
  have F8:=fun_mk (st:=s_law) l8 c8 k8
  have b0:=F0.binds (ps:=["rows"]) fun _ _ _ _ _ _ us hl=>match us,hl with | [_],_=>rfl
  have b1:=F1.binds (ps:=["rows", "moment"]) fun _ _ _ _ _ _ us hl=>match us,hl with | [_,_],_=>rfl
  have b2:=F2.binds (ps:=["_law_number", "_law_k"]) fun _ _ _ _ _ _ us hl=>match us,hl with | [_,_],_=>rfl
  have b3:=F3.binds (ps:=["_law_found"]) fun _ _ _ _ _ _ us hl=>match us,hl with | [_],_=>rfl
  have b4:=F4.binds (ps:=["_law_script", "_law_k"]) fun _ _ _ _ _ _ us hl=>match us,hl with | [_,_],_=>rfl
  have b5:=F5.binds (ps:=["_law_cells", "_law_unit"]) fun _ _ _ _ _ _ us hl=>match us,hl with | [_,_],_=>rfl
  have b6:=F6.binds (ps:=["_law_rows_here", "_law_moment"]) fun _ _ _ _ _ _ us hl=>match us,hl with | [_,_],_=>rfl
  have b7:=F7.binds (ps:=["_law_found", "_law_due"]) fun _ _ _ _ _ _ us hl=>match us,hl with | [_,_],_=>rfl
  have b8:=F8.binds (ps:=["_law_script"]) fun _ _ _ _ _ _ us hl=>match us,hl with | [_],_=>rfl
  exact ⟨⟨f0,_,f1,_,f2,_,f3,_,f4,_,f5,_,f6,_,f7,_,fa,_⟩,⟨F0,b0,PySem.W.mg_of X G a0,F1,b1,PySem.W.mg_of X G a1,F2,b2,PySem.W.mg_of X G a2,F3,b3,PySem.W.mg_of X G a3,F4,b4,PySem.W.mg_of X G a4,F5,b5,PySem.W.mg_of X G a5,F6,b6,PySem.W.mg_of X G a6,F7,b7,PySem.W.mg_of X G a7,F8,b8,PySem.W.mg_of X G a8,PySem.W.mg_none_of X G z_bool,PySem.W.mg_none_of X G z_int,PySem.W.mg_none_of X G z_isinstance,PySem.W.mg_none_of X G z_len,PySem.W.mg_none_of X G z_list,PySem.W.mg_none_of X G z_max,PySem.W.mg_none_of X G z_range,PySem.W.mg_none_of X G z_set,PySem.W.mg_none_of X G z_sorted,PySem.W.mg_none_of X G z_tuple,⟨_,PySem.W.mg_of X G c_BEGIN⟩,⟨_,PySem.W.mg_of X G c_BENCH⟩,⟨_,PySem.W.mg_of X G c_END⟩,⟨_,PySem.W.mg_of X G c_WORK⟩⟩,rfl,fun s v=>.of_eq rfl⟩
theorem walk {l:PySem.W.OpenLaw} {q:Program} {loose:List Str} {XP:(Str→Option Value)→Heap→Prop} {YP:World→Heap→Prop} {d:DefRec} {K:Params→PySem.W.Frag} (hn:l.most=some 63) (hdf:d.params.defaults=[])
    (hY:∀ (w:World) (h:Heap),YP w h→(K w.params).In h)
    (F:∀ (w:World) (mg:Str→Option Value) (fa:Addr) (h:Heap),(K w.params).In h→h.Ns mainGlobals mg→mg d.name=some (.ref fa)→∃ a:Adr,Txt (K w.params) mg a∧a.f_law=fa∧∀ (s:Shared) (v:Value),BindsTo s a.d_law ⟨[v],[]⟩ [("_law_script", v)]) :
    PySem.W.WalkO q loose XP YP l.row.toRowW d [] (fun f vs=>PySem.call f vs) :=
  L2.walk_ofB (n:=63) (k:=3) (x := "_law_script") (CX:=fun _=>CX0) (sp:=fun w=>sp_law (K w.params)) hn (by decide) hdf ⟨rfl,by decide,by decide⟩ hY
    (fun w mg fa h KX G e=>by
      obtain ⟨a,T,rfl,hb⟩:=F w mg fa h KX G e
      exact ⟨a.d_law,hb,fun base kb nb=>(ok_law T).imp fun vs H Q E h=>sp_law_of law_true h⟩)
    (fun _ _ a ns hl hbits _ hS=>⟨a,ns,rfl,hS,hl,hbits,(fun _ h=>by cases h),fun _=>rfl⟩) fun _ _ _ _ _ z=>z
end My
open PySem PySem.W PyProof.Rows
set_option maxRecDepth 100000 in
set_option maxHeartbeats 0 in
theorem PySem.Challenge.cw_leastfloor_k04_moments_and_busy_holds : PySem.Challenge.rw_leastfloor_k04_moments_and_busy.Holds := by
  w_on; o_law; k_head; (case hw => w_witness2)
  k_fill
  refine My.walk (l := PySem.Challenge.rw_leastfloor_k04_moments_and_busy) rfl rfl (fun w h Y => by first | exact PySem.W.kIn_of Y | exact PySem.W.km_in_of Y) ?F
  case F =>
    intro w mg fa h KX G hmg
    refine' My.all_mk KX G hmg ?a0 ?l0 ?c0 ?k0 ?a1 ?l1 ?c1 ?k1 ?a2 ?l2 ?c2 ?k2 ?a3 ?l3 ?c3 ?k3 ?a4 ?l4 ?c4 ?k4 ?a5 ?l5 ?c5 ?k5 ?a6 ?l6 ?c6 ?k6 ?a7 ?l7 ?c7 ?k7 ?a8 ?l8 ?c8 ?k8 ?z_bool ?z_int ?z_isinstance ?z_len ?z_list ?z_max ?z_range ?z_set ?z_sorted ?z_tuple ?c_BEGIN ?c_BENCH ?c_END ?c_WORK
    (case a0 => k_is); (case l0 => k_is); (case c0 => k_is); (case k0 => k_is)
    (case a1 => k_is); (case l1 => k_is); (case c1 => k_is); (case k1 => k_is)
    (case a2 => k_is); (case l2 => k_is); (case c2 => k_is); (case k2 => k_is)
    (case a3 => k_is); (case l3 => k_is); (case c3 => k_is); (case k3 => k_is)
    (case a4 => k_is); (case l4 => k_is); (case c4 => k_is); (case k4 => k_is)
    (case a5 => k_is); (case l5 => k_is); (case c5 => k_is); (case k5 => k_is)
    (case a6 => k_is); (case l6 => k_is); (case c6 => k_is); (case k6 => k_is)
    (case a7 => k_is); (case l7 => k_is); (case c7 => k_is); (case k7 => k_is)
    (case a8 => k_is); (case l8 => k_is); (case c8 => k_is); (case k8 => k_is)
    (case z_bool => k_is); (case z_int => k_is); (case z_isinstance => k_is); (case z_len => k_is)
    (case z_list => k_is); (case z_max => k_is); (case z_range => k_is); (case z_set => k_is)
    (case z_sorted => k_is); (case z_tuple => k_is); (case c_BEGIN => k_is); (case c_BENCH => k_is)
    (case c_END => k_is); (case c_WORK => k_is)
#print axioms PySem.Challenge.cw_leastfloor_k04_moments_and_busy_holds
