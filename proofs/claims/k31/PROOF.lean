import PyProof.Rows.All
import Wide.All
import OpenK.AllK
import Wide.FinOn
import Lean
import PyProof.EqAt
import PyProof.EqKinds
import PyProof.TupleCall
import PySem.Challenge.RW_leastfloor_k31_the_bench_moment_by_momen
set_option compiler.extract_closed false
set_option Elab.async false
set_option linter.all false
set_option maxRecDepth 100000
namespace L2
open PySem PySem.Spec PyProof.Rows
abbrev Key:=Sum Int Str
def keyIs:Key→Value→Bool
  | .inl k,v=>Value.isInt k v
  | .inr x,v=>Value.isStrOf x v
def keyH (w:World):Key→Int
  | .inl k=>hashInt k
  | .inr x=>hashStr w x
theorem keyIs_shape:∀ {k:Key} {v:Value},keyIs k v=true→(∃ i t,k=Sum.inl i∧v=Value.int i t)∨(∃ x t,k=Sum.inr x∧v=Value.str x t)
  | .inl i,v,h=>by
    obtain ⟨t,e⟩:=Value.isInt_shape (k:=i) (v:=v) h
    exact .inl ⟨i,t,rfl,e⟩
  | .inr x,v,h=>by
    obtain ⟨t,e⟩:=Value.isStrOf_shape (x:=x) (v:=v) h
    exact .inr ⟨x,t,rfl,e⟩
theorem key_ll (a b:Int):decide ((Sum.inl a:Key)=Sum.inl b)=(a==b):=by
  by_cases e:a=b
  · subst e; simp
  · have h:¬ (Sum.inl a:Key)=Sum.inl b:=fun q=>e (Sum.inl.inj q)
    rw [decide_eq_false h]
    exact (beq_eq_false_iff_ne.mpr e).symm
theorem key_rr (a b:Str):decide ((Sum.inr a:Key)=Sum.inr b)=decide (a=b):=by
  by_cases e:a=b
  · subst e; simp
  · have h:¬ (Sum.inr a:Key)=Sum.inr b:=fun q=>e (Sum.inr.inj q)
    rw [decide_eq_false h,decide_eq_false e]
theorem key_lr (a:Int) (b:Str):decide ((Sum.inl a:Key)=Sum.inr b)=false:=decide_eq_false (fun q=>nomatch q)
theorem key_rl (a:Str) (b:Int):decide ((Sum.inr a:Key)=Sum.inl b)=false:=decide_eq_false (fun q=>nomatch q)
def mixKind (prog:Program) (w:World):PySem.KeyKind prog w Key where
  is:=keyIs
  hash:=keyH w
  inj:=fun v a b ha hb=>by
    rcases keyIs_shape ha with ⟨i,t,rfl,rfl⟩ | ⟨x,t,rfl,rfl⟩
    · rcases keyIs_shape hb with ⟨j,u,rfl,e⟩ | ⟨y,u,rfl,e⟩
      · injection e with e1 _; rw [e1]
      · exact nomatch e
    · rcases keyIs_shape hb with ⟨j,u,rfl,e⟩ | ⟨y,u,rfl,e⟩
      · exact nomatch e
      · injection e with e1 _; rw [e1]
  byValue:=fun k v h=>by
    rcases keyIs_shape h with ⟨i,t,rfl,rfl⟩ | ⟨x,t,rfl,rfl⟩ <;> rfl
  pyHash:=fun hv h=>by
    rcases keyIs_shape hv with ⟨i,t,rfl,rfl⟩ | ⟨x,t,rfl,rfl⟩
    · exact wpAny_pyHash_int h
    · exact wpAny_pyHash_str h
  eqBool:=fun hu hv h=>by
    rcases keyIs_shape hu with ⟨i,t,rfl,rfl⟩ | ⟨x,t,rfl,rfl⟩
    · rcases keyIs_shape hv with ⟨j,u,rfl,rfl⟩ | ⟨y,u,rfl,rfl⟩
      · rw [key_ll] at h; exact wpAny_eqBool_int h
      · rw [key_lr] at h; exact SeqAt.EqAt.int_str i t y u _ _ _ _ h
    · rcases keyIs_shape hv with ⟨j,u,rfl,rfl⟩ | ⟨y,u,rfl,rfl⟩
      · rw [key_rl] at h; exact SeqAt.EqAt.str_int x t j u _ _ _ _ h
      · rw [key_rr] at h; exact wpAny_eqBool_str h
  «strs»:=fun k x t v h=>by
    rcases keyIs_shape h with ⟨i,u,rfl,e⟩ | ⟨y,u,rfl,e⟩
    · exact nomatch e
    · injection e with e1 _
      subst e1
      cases v <;> rfl
end L2
namespace L2
open PySem PySem.Spec PyProof.Rows
inductive V where
  | non | bl (b:Bool) | int (i:Int) | str (x:Str) | byt (b:Array UInt8) | flt (b:UInt64) | ref (a:Addr) | ty (n:String)
  deriving DecidableEq
def RelV:V→Value→Prop
  | .non,u=>u=Value.none
  | .bl b,u=>u=Value.bool b
  | .int i,u=>∃ t,u=Value.int i t
  | .str x,u=>∃ t,u=Value.str x t
  | .byt b,u=>∃ t,u=Value.bytes b t
  | .flt b,u=>∃ t,u=Value.float b t
  | .ref a,u=>u=Value.ref a
  | .ty n,u=>u=Value.type n
abbrev Vals:List V→List Value→Prop:=Paired RelV
theorem Vals.length {xs:List V} {us:List Value} (r:Vals xs us):xs.length=us.length:=Paired.length r
theorem Vals.get:∀ {xs:List V} {us:List Value} {i:Nat} {x:V},Vals xs us→xs[i]?=some x→∃ u,us[i]?=some u∧RelV x u
  | _,_,_,_,.nil,e=>by simp at e
  | _,_,0,_,.cons r _,e=>by simp at e; subst e; exact ⟨_,rfl,r⟩
  | _,_,i+1,x,.cons _ t,e=>by
    obtain ⟨u,h1,h2⟩:=Vals.get (i:=i) (x:=x) t (by simpa using e)
    exact ⟨u,by simpa using h1,h2⟩
theorem Vals.set {x:V} {u:Value} (r:RelV x u):∀ {xs:List V} {us:List Value} (i:Nat),Vals xs us→Vals (xs.set i x) (us.set i u)
  | _,_,_,.nil=>.nil
  | _,_,0,.cons _ t=>.cons r t
  | _,_,i+1,.cons q t=>.cons q (Vals.set r i t)
theorem Vals.append:∀ {xs ys:List V} {us ws:List Value},Vals xs us→Vals ys ws→Vals (xs++ys) (us++ws)
  | _,_,_,_,.nil,s=>s
  | _,_,_,_,.cons r t,s=>.cons r (Vals.append t s)
theorem Vals.take:∀ {xs:List V} {us:List Value} (n:Nat),Vals xs us→Vals (xs.take n) (us.take n)
  | _,_,0,_=>.nil
  | _,_,_+1,.nil=>.nil
  | _,_,n+1,.cons r t=>.cons r (Vals.take n t)
theorem Vals.drop:∀ {xs:List V} {us:List Value} (n:Nat),Vals xs us→Vals (xs.drop n) (us.drop n)
  | _,_,0,r=>r
  | _,_,_+1,.nil=>.nil
  | _,_,n+1,.cons _ t=>Vals.drop n t
def RelO:Option V→Option Value→Prop
  | some v,some u=>RelV v u
  | none,none=>True
  | _,_=>False
def KV {κ:Type}:List (κ×V)→List (κ×Value)→Prop:=Paired fun (p:κ×V) (q:κ×Value)=>p.1=q.1∧RelV p.2 q.2
def kV:Key→V
  | .inl i=>.int i
  | .inr x=>.str x
inductive HO where
  | lst (xs:List V)
  | tup (xs:List V)
  | dK (kvs:List (Key×V)) | dT (kvs:List (List Key×V))
  | set (S:Int→Bool) (n:Nat)
  | ins (C dx:Addr) (fs:List (Str×V))
  | own (x:Addr)
  | xd (fs:List (Str×V))
  | met (f x:Addr)
  | rng (lo hi:Int)
  | frz (o:Obj) (u:HO)
  | tbl (ps:Array Value)
  | ext (φ:Heap→Prop)
abbrev Hp:=Addr→Option HO
def upd (H:Hp) (a:Addr) (o:HO):Hp:=fun b=>if b=a then some o else H b
theorem upd_same {H:Hp} {a:Addr} {o:HO}:upd H a o a=some o:=by unfold upd; rw [if_pos rfl]
theorem upd_ne {H:Hp} {a b:Addr} {o:HO} (h:b≠a):upd H a o b=H b:=by unfold upd; rw [if_neg h]
theorem ne_of_none {H:Hp} {a b:Addr} {o:HO} (h:H a=some o) (h':H b=none):a≠b:=by
  intro e; subst e; rw [h] at h'; cases h'
section
variable (P:Program) (w:World)
def ObjOk (H:Hp) (h:Heap) (a:Addr):HO→Prop
  | .lst xs=>xs.length≤sizeLine∧∃ (its:List Value) (n:Nat),Vals xs its∧h.get? a=some { cls:=.type "list", data:=.seq its.toArray n }
  | .tup xs=>xs.length≤sizeLine∧∃ its:List Value,Vals xs its∧IsTup h a its.toArray
  | .dK kvs=>kvs.length≤sizeLine∧(a==sysModules)=false∧∃ vs,KV kvs vs∧h.DictOf (mixKind P w) a vs
  | .dT kvs=>kvs.length≤sizeLine∧(a==sysModules)=false∧∃ xs:List (List Key×Addr×Value),
      Paired (fun (p:List Key×V) (q:List Key×Addr×Value)=>p.1=q.1∧H q.2.1=some (.tup (p.1.map kV))∧RelV p.2 q.2.2) kvs xs ∧
      ∃ o es ep,h.get? a=some o∧o.ExactDict∧o.data=.dict es ep∧es.toList=xs.map (entryOfKey (tupleKind (mixKind P w)))∧(xs.map (·.1)).Nodup
  | .set S n=>h.SetOf (intKind P w) a S n
  | .ins C dx fs=>H dx=some (.own a)∧fs.length≤1000∧dx≠a∧h.get? a=some (PySem.W.instObj C dx) ∧
      ∃ mA,h.Ns1 dx mA∧(∀ f,RelO (fs.lookup f) (mA f))∧PySem.Within mA (fs.map (·.1))
  | .own _=>∃ o,h.get? a=some o
  | .xd fs=>∃ mA,h.Ns1 a mA∧∀ f,RelO (fs.lookup f) (mA f)
  | .rng lo hi=>∃ t u v,h.get? a=some { cls:=.type "range", data:=.fields #[.int lo t,.int hi u,.int 1 v] }
  | .frz o u=>h.get? a=some o∧ObjOk H h a u
  | .tbl ps=>∃ (q:Str) (t:Tok) (qs:Array Value),ps[0]?=some (.str q t)∧h.get? a=some { cls:=.none,data:=.fields qs }∧TriplesOk qs.toList ∧
      ∀ pos v,codeAmong pos qs.toList=some v→∃ c o u vs t,v=.ref c∧H c=some (.frz o u)∧o.data=.fields vs∧vs[1]?=some (.str q t)
  | .met f x=>h.get? a=some (PySem.W.methodObj (.ref f) (.ref x))
  | .ext φ=>φ h∧(∃ o,h.get? a=some o)∧∀ h1 h2:Heap,φ h1→(∀ o,h1.get? a=some o→h2.get? a=some o)→φ h2
def HOk (H:Hp) (h:Heap):Prop:=∀ a o,H a=some o→ObjOk P w H h a o
end
section
variable {P:Program} {w:World} {H H':Hp} {h h':Heap} {a:Addr} {o:HO}
theorem ObjOk.lt (x:ObjOk P w H h a o):a<h.objs.size:=by
  cases o with
  | lst xs=>obtain ⟨_,_,_,_,e⟩:=x; exact Heap.lt_size e
  | tup xs=>obtain ⟨_,_,_,p⟩:=x; exact p.lt
  | dK kvs=>obtain ⟨_,_,_,_,o,_,_,e,_⟩:=x; exact Heap.lt_size e
  | dT kvs=>obtain ⟨_,_,_,_,o,_,_,e,_⟩:=x; exact Heap.lt_size e
  | set S n=>obtain ⟨o,_,_,_,e,_⟩:=x; exact Heap.lt_size e
  | ins C dx fs=>obtain ⟨_,_,_,e,_⟩:=x; exact Heap.lt_size e
  | own y=>obtain ⟨_,e⟩:=x; exact Heap.lt_size e
  | xd fs=>obtain ⟨_,⟨_,_,_,e,_⟩,_⟩:=x; exact Heap.lt_size e
  | rng lo hi=>obtain ⟨_,_,_,e⟩:=x; exact Heap.lt_size e
  | frz ob u=>obtain ⟨e,_⟩:=x; exact Heap.lt_size e
  | tbl ps=>obtain ⟨_,_,_,_,e,_⟩:=x; exact Heap.lt_size e
  | met f y=>exact Heap.lt_size (show h.get? a=some _ from x)
  | ext φ=>obtain ⟨_,⟨_,e⟩,_⟩:=x; exact Heap.lt_size e
theorem Paired.mapP {α β:Type} {F G:α→β→Prop}:∀ {l₁:List α} {l₂:List β},Paired F l₁ l₂→(∀ a b,F a b→G a b)→Paired G l₁ l₂
  | _,_,.nil,_=>.nil
  | _,_,.cons r t,f=>.cons (f _ _ r) (Paired.mapP t f)
theorem ObjOk.stay (x:ObjOk P w H h a o) (k:∀ b u,(b=a∨H b=some (.own a))→h.get? b=some u→h'.get? b=some u)
    (ho:∀ b,H b=some (.own a)→H' b=some (.own a)) (ht:∀ b xs,H b=some (.tup xs)→H' b=some (.tup xs)) (hz:∀ b o u,H b=some (.frz o u)→H' b=some (.frz o u):=by first | exact fun _ _ _ q=>q | (intro b o u q; rw [upd_ne (ne_of_none q (by assumption))]; exact q)):ObjOk P w H' h' a o:=by
  induction o with
  | lst xs=>obtain ⟨z,its,n,r,e⟩:=x; exact ⟨z,its,n,r,k _ _ (.inl rfl) e⟩
  | tup xs=>obtain ⟨z,its,r,ob,e,c⟩:=x; exact ⟨z,its,r,ob,k _ _ (.inl rfl) e,c⟩
  | dK kvs=>obtain ⟨z,y,vs,r,ob,es,ep,e,c⟩:=x; exact ⟨z,y,vs,r,ob,es,ep,k _ _ (.inl rfl) e,c⟩
  | dT kvs =>
    obtain ⟨z,y,xs,r,ob,es,ep,e,c⟩:=x
    exact ⟨z,y,xs,Paired.mapP r fun p q z=>⟨z.1,ht _ _ z.2.1,z.2.2⟩,ob,es,ep,k _ _ (.inl rfl) e,c⟩
  | set S n=>obtain ⟨ob,es,ep,t,e,c⟩:=x; exact ⟨ob,es,ep,t,k _ _ (.inl rfl) e,c⟩
  | ins C dx fs =>
    obtain ⟨d,z,ne,e,mA,⟨od,es,ep,e2,c⟩,r⟩:=x
    exact ⟨ho _ d,z,ne,k _ _ (.inl rfl) e,mA,⟨od,es,ep,k _ _ (.inr d) e2,c⟩,r⟩
  | own y=>obtain ⟨ob,e⟩:=x; exact ⟨ob,k _ _ (.inl rfl) e⟩
  | xd fs=>obtain ⟨mA,⟨od,es,ep,e,c⟩,r⟩:=x; exact ⟨mA,⟨od,es,ep,k _ _ (.inl rfl) e,c⟩,r⟩
  | rng lo hi=>obtain ⟨t,u,v,e⟩:=x; exact ⟨t,u,v,k _ _ (.inl rfl) e⟩
  | frz ob u ih=>obtain ⟨e,q⟩:=x; exact ⟨k _ _ (.inl rfl) e,ih q⟩
  | tbl ps =>
    obtain ⟨q,t,qs,h0,h1,h2,h3⟩:=x
    refine ⟨q,t,qs,h0,k _ _ (.inl rfl) h1,h2,fun pos v e=>?_⟩
    obtain ⟨c,o,u,vs,t2,e1,e2,e3⟩:=h3 pos v e
    exact ⟨c,o,u,vs,t2,e1,hz _ _ _ e2,e3⟩
  | met f y =>
    have e:h.get? a=some (PySem.W.methodObj (.ref f) (.ref y)):=x
    show h'.get? a=some (PySem.W.methodObj (.ref f) (.ref y))
    exact k a _ (.inl rfl) e
  | ext φ=>obtain ⟨p,⟨o,e⟩,st⟩:=x; exact ⟨st _ _ p fun o q=>k _ _ (.inl rfl) q,⟨o,k _ _ (.inl rfl) e⟩,st⟩
theorem HOk.lt (x:HOk P w H h) (e:H a=some o):a<h.objs.size:=(x a o e).lt
theorem HOk.fresh (x:HOk P w H h) (e:h.objs.size≤a):H a=none:=by
  cases q:H a with
  | none=>rfl
  | some u=>exact absurd (Nat.lt_of_lt_of_le (x.lt q) e) (Nat.lt_irrefl _)
theorem HOk.kept (x:HOk P w H h) (k:∀ b u,h.get? b=some u→h'.get? b=some u):HOk P w H h':=fun a o e =>
  (x a o e).stay (fun b u _ q=>k b u q) (fun _ q=>q) fun _ _ q=>q
theorem HOk.laid (x:HOk P w H h) (k:∀ b u,h.get? b=some u→h'.get? b=some u) (hp:h.objs.size≤a) (new:ObjOk P w (upd H a o) h' a o):HOk P w (upd H a o) h':=fun b u e=>by
  have hn:=x.fresh hp
  by_cases hb:b=a
  · subst hb; rw [upd_same] at e; cases e; exact new
  · rw [upd_ne hb] at e
    exact (x b u e).stay (fun c v _ q=>k c v q) (fun c q=>by rw [upd_ne (ne_of_none q hn)]; exact q) fun c xs q=>by rw [upd_ne (ne_of_none q hn)]; exact q
end
def Rd (H:Hp) (a:Addr) (u:HO):Prop:=H a=some u∨∃ o,H a=some (.frz o u)
theorem Rd.ok {P:Program} {w:World} {H:Hp} {h:Heap} {a:Addr} {u:HO} (r:Rd H a u) (x:HOk P w H h):ObjOk P w H h a u:=by
  rcases r with r | ⟨o,r⟩
  · exact x a u r
  · obtain ⟨_,q⟩:=x a _ r
    exact q
def Mut:Option HO→Prop
  | some (.lst _)=>True
  | some (.dK _)=>True
  | some (.dT _)=>True
  | some (.set _ _)=>True
  | some (.ins _ _ _)=>True
  | some (.ext _)=>True
  | _=>False
section
variable {P:Program} {w:World} {H:Hp} {h h':Heap} {x e:Addr} {o':HO}
theorem HOk.write (ok:HOk P w H h) (mu:Mut (H x)) (he:e=x∨H e=some (.own x)) (k:∀ b u,b≠e→h.get? b=some u→h'.get? b=some u) (heo:∃ u,h'.get? e=some u)
    (new:ObjOk P w (upd H x o') h' x o'):HOk P w (upd H x o') h':=fun b u q=>by
  have nown:∀ c y,H c=some (.own y)→c≠x:=fun c y r z=>by subst z; rw [r] at mu; exact mu
  have ntup:∀ c xs,H c=some (.tup xs)→c≠x:=fun c xs r z=>by subst z; rw [r] at mu; exact mu
  have nfrz:∀ c o u,H c=some (.frz o u)→c≠x:=fun c o u r z=>by subst z; rw [r] at mu; exact mu
  by_cases hb:b=x
  · subst hb; rw [upd_same] at q; cases q; exact new
  · rw [upd_ne hb] at q
    by_cases hbe:b=e
    · have q':H b=some (.own x):=by
        rcases he with z | z
        · exact absurd (hbe.trans z) hb
        · rw [hbe]; exact z
      rw [q] at q'; cases q'
      obtain ⟨v,hv⟩:=heo
      exact ⟨v,by rw [hbe]; exact hv⟩
    · refine (ok b u q).stay (fun c v hc r=>k c v ?_ r) (fun c r=>by rw [upd_ne (nown c b r)]; exact r) (fun c xs r=>by rw [upd_ne (ntup c xs r)]; exact r) fun c o u r=>by rw [upd_ne (nfrz c o u r)]; exact r
      rcases hc with rfl | hc
      · exact hbe
      · rintro rfl
        rcases he with z | z
        · exact nown c b hc z
        · rw [hc] at z; cases z; exact hb rfl
end
structure Un (fs ex:List Addr) (H H':Hp) (h h':Heap):Prop where
  keep:∀ b o,h.get? b=some o→H b=none→b∉fs→b∉ex→h'.get? b=some o
  slot:∀ b o,h.get? b=some o→H b=none→b∈fs→b∉ex→∃ sl,h'.get? b=some { o with slots:=sl }
  free:∀ b o,h.get? b=some o→H b=none→b∉ex→H' b=none
  there:∀ b o,h.get? b=some o→b∉ex→∃ o',h'.get? b=some o'
  tups:∀ b xs,H b=some (.tup xs)→H' b=some (.tup xs)
  frzs:∀ b o u,H b=some (.frz o u)→H' b=some (.frz o u)
  tbls:∀ b ps,H b=some (.tbl ps)→∃ more,H' b=some (.tbl (ps++more))
section
variable {fs fs' ex ex':List Addr} {H H1 H2:Hp} {h h1 h2 h':Heap} {a x e:Addr} {o:HO}
theorem Un.any (u:Un fs ex H H1 h h1) {b:Addr} {ob:Obj} (q:h.get? b=some ob) (n:H b=none) (hx:b∉ex):∃ sl,h1.get? b=some { ob with slots:=sl }:=by
  by_cases hb:b∈fs
  · exact u.slot b ob q n hb hx
  · exact ⟨ob.slots,u.keep b ob q n hb hx⟩
theorem Un.kept (k:∀ b u,h.get? b=some u→h'.get? b=some u):Un fs ex H H h h' :=
  ⟨fun b ob q _ _ _=>k b ob q,fun b ob q _ _ _=>⟨ob.slots,k b ob q⟩,fun _ _ _ n _=>n,fun b ob q _=>⟨ob,k b ob q⟩,fun _ _ q=>q,fun _ _ _ q=>q,fun _ ps q=>⟨#[],by rw [q]; simp⟩⟩
theorem Un.refl:Un fs ex H H h h:=Un.kept fun _ _ q=>q
theorem Un.laid (k:∀ b u,h.get? b=some u→h'.get? b=some u) (hp:h.objs.size≤a) (hn:H a=none):Un fs ex H (upd H a o) h h' where
  keep:=fun b u q _ _ _=>k b u q
  slot:=fun b u q _ _ _=>⟨u.slots,k b u q⟩
  free:=fun b u q n _=>by rw [upd_ne (Nat.ne_of_lt (Nat.lt_of_lt_of_le (Heap.lt_size q) hp))]; exact n
  there:=fun b u q _=>⟨u,k b u q⟩
  tups:=fun b xs q=>by rw [upd_ne (ne_of_none q hn)]; exact q
  frzs:=fun b u xs q=>by rw [upd_ne (ne_of_none q hn)]; exact q
  tbls:=fun b ps q=>⟨#[],by rw [upd_ne (ne_of_none q hn),q]; simp⟩
theorem Un.write (mu:Mut (H x)) (he:e=x∨H e=some (.own x)) (k:∀ b u,b≠e→h.get? b=some u→h'.get? b=some u) (heo:∃ u,h'.get? e=some u):Un fs ex H (upd H x o) h h':=by
  have hx:∀ b,H b=none→b≠x:=fun b n z=>by subst z; rw [n] at mu; exact mu
  have hb:∀ b,H b=none→b≠e:=fun b n z=>by
    subst z
    rcases he with r | r
    · exact hx b n r
    · rw [n] at r; cases r
  have hm:∀ b u,H b=some u→¬ Mut (some u)→b≠x:=fun b u q nm z=>by subst z; rw [q] at mu; exact nm mu
  refine ⟨fun b u q n _ _=>k b u (hb b n) q,fun b u q n _ _=>⟨u.slots,k b u (hb b n) q⟩,fun b u q n _=>by rw [upd_ne (hx b n)]; exact n,fun b u q _=>?_,
    fun b xs q=>by rw [upd_ne (hm b _ q fun z=>z)]; exact q,fun b u xs q=>by rw [upd_ne (hm b _ q fun z=>z)]; exact q,fun b ps q=>⟨#[],by rw [upd_ne (hm b _ q fun z=>z),q]; simp⟩⟩
  by_cases hbe:b=e
  · subst hbe; exact heo
  · exact ⟨u,k b u hbe q⟩
end
def trk (h:Heap) (H:Hp):List Addr:=(List.range h.objs.size).filter fun a=>(H a).isSome
def hidT (h:Heap) (H:Hp):Heap:=PySem.W.hideAll h (trk h H)
theorem hidT_size (h:Heap) (H:Hp):(hidT h H).objs.size=h.objs.size:=PySem.W.hideAll_size _ _
theorem hidT_get {h:Heap} {H:Hp} {b:Addr} {o:Obj} (e:h.get? b=some o) (n:H b=none):(hidT h H).get? b=some o :=
  PySem.W.hideAll_get _ e fun hm=>by
    have q:(H b).isSome=true:=(List.mem_filter.mp hm).2
    rw [n] at q; simp at q
theorem of_hidT {h:Heap} {H:Hp} {b:Addr} {o:Obj} (e:(hidT h H).get? b=some o):h.get? b=some o∧H b=none:=by
  have e':h.get? b=some o:=PySem.W.of_hideAll (trk h H) e
  refine ⟨e',?_⟩
  cases q:H b with
  | none=>rfl
  | some x =>
    have hm:b∈trk h H:=List.mem_filter.mpr ⟨List.mem_range.mpr (Heap.lt_size e'),by simp [q]⟩
    have z:(hidT h H).get? b=none:=PySem.W.hideAll_none (trk h H) hm
    rw [z] at e; cases e
def allNews (g h:Heap) (L:Addr):List (Addr×Obj):=(List.range h.objs.size).filterMap fun a=>if a=L∨(g.get? a).isSome=true then none else (h.get? a).map fun o=>(a,o)
theorem mem_allNews {g h:Heap} {L a:Addr} {o:Obj} (h1:a≠L) (h2:g.get? a=none) (h3:h.get? a=some o):(a,o)∈allNews g h L :=
  List.mem_filterMap.mpr ⟨a,List.mem_range.mpr (Heap.lt_size h3),by simp [h1,h2,h3]⟩
theorem of_mem_allNews {g h:Heap} {L:Addr} {p:Addr×Obj} (hp:p∈allNews g h L):p.1≠L∧g.get? p.1=none∧h.get? p.1=some p.2:=by
  obtain ⟨b,_,e⟩:=List.mem_filterMap.mp hp
  split at e
  · cases e
  · rename_i hn
    cases q:h.get? b with
    | none=>rw [q] at e; simp at e
    | some u =>
      rw [q] at e
      simp only [Option.map_some,Option.some.injEq] at e
      subst e
      refine ⟨fun z=>hn (.inl z),?_,q⟩
      show g.get? b=none
      cases r:g.get? b with
      | none=>rfl
      | some v=>exact (hn (.inr (by simp [r]))).elim
def rest (g h:Heap) (L d:Addr):List (Addr×Obj):=(allNews g h L).filter fun p=>decide (p.1≠d)
theorem rest_ne {g h:Heap} {L d:Addr}:∀ p∈rest g h L d,p.1≠d:=fun p hp=>of_decide_eq_true (List.mem_filter.mp hp).2
theorem news_all {g h:Heap} {L:Addr}:News g L h (allNews g h L):=fun p hp=>let ⟨a,b,c⟩:=of_mem_allNews hp; ⟨c,a,b⟩
theorem news_at {g h:Heap} {L d:Addr} {o:Obj} (h1:d≠L) (h2:g.get? d=none) (h3:h.get? d=some o):News g L h ((d,o)::rest g h L d):=fun p hp=>by
  rcases List.mem_cons.mp hp with rfl | hp
  · exact ⟨h3,h1,h2⟩
  · exact news_all p (List.mem_filter.mp hp).1
end L2
namespace L2
open PySem PySem.Spec PyProof.Rows
structure Mod (K:PySem.W.Frag) (mg:Str→Option Value) (base:Heap):Prop where
  kin:K.In base
  glob:base.Ns mainGlobals mg
  blt:∃ mb,base.Ns builtinsNs mb∧∀ x:Str,x ≠ "__name__" → mb x=bootBuiltins x
  nolimit:base.NoLimit
structure Cx where
  prog:Program
  w:World
  K:PySem.W.Frag
  mg:Str→Option Value
  base:Heap
  A:Around
  N:List Str
  s₀:Shared
  H₀:Hp
  env:Env
  outer:List Env
  stack:List Env
  ex:List Addr
  fn:Str→Bool
  calm:Bool
  pn:List (Addr×Obj)
  xe:Value→Shared→Prop
def frs (l:List Env):List Addr:=l.filterMap (·.frame)
abbrev Cx.fs (X:Cx):List Addr:=frs X.outer
def Vis (sc:Scope) (x:Str):Prop:=sc.names.lookup x=some .local∨sc.names.lookup x=some .cell∨sc.names.lookup x=some .free
def Loc (sc:Scope) (x:Str):Prop:=sc.names.lookup x=some .local∨sc.names.lookup x=some .cell
def Look (env:Env) (h:Heap) (m:Str→Option Value) (x:Str) (u:Value):Prop :=
  (env.kindOf x=some .local∧m x=some u)∨((env.kindOf x=some .cell∨env.kindOf x=some .free)∧∃ c,env.cells.lookup x=some c∧h.IsCell c (some u))
structure Cx.Ok (X:Cx):Prop where
  mod:Mod X.K X.mg X.base
  kind:X.env.scope.kind=.function
  glob:X.env.globals=mainGlobals
  blt:X.env.builtins=builtinsNs
  above:X.s₀.heap.objs.size≤X.env.locals
  inj:∀ x y c,X.env.cells.lookup x=some c→X.env.cells.lookup y=some c→x=y
  has:∀ x,(X.env.kindOf x=some .cell∨X.env.kindOf x=some .free)→∃ c,X.env.cells.lookup x=some c
  cab:∀ x c,X.fn x=true→X.env.cells.lookup x=some c→X.s₀.heap.objs.size≤c
  hd:X.calm=true→X.A.handled=none
  frames:X.A.frames=some X.stack
  stk:X.stack=X.outer∨(X.stack=X.env::X.outer∧X.env.frame=some X.env.locals)
  exf:∀ b∈X.ex,b≠X.env.locals∧∀ x c,X.env.cells.lookup x=some c→c≠b
  bs:∀ b o,X.base.get? b=some o→X.s₀.heap.get? b=some o∧X.H₀ b=none
  bsz:X.base.objs.size≤X.s₀.heap.objs.size
  noex:∀ b o,X.base.get? b=some o→b∉X.ex
  exfs:∀ b∈X.ex,b∉X.fs
  funs:X.s₀.heap.FunFrames X.base X.outer
  frf:∀ b∈X.fs,X.H₀ b=none
structure Inv (X:Cx) (pins:List (Addr×Obj)) (σ:List (Option V)) (H:Hp) (s:Shared):Prop where
  ok:X.Ok
  os:s.os=X.s₀.os
  bare:AllBare s.gens
  base:Un X.fs X.ex X.H₀ H X.s₀.heap s.heap
  loc:∃ m,s.heap.Ns X.env.locals m∧∀ (i:Nat) (x:Str) (v:V),X.N[i]?=some x→σ[i]?=some (some v)→Vis X.env.scope x→∃ u,RelV v u∧Look X.env s.heap m x u
  cell:∀ x c,X.env.cells.lookup x=some c→∃ v,s.heap.IsCell c v
  free:H X.env.locals=none
  freeC:∀ x c,X.env.cells.lookup x=some c→H c=none
  pin:∀ p∈X.pn++pins,s.heap.get? p.1=some p.2∧H p.1=none∧p.1≠X.env.locals∧p.1∉X.fs∧∀ v,p.2.data≠.cell v
  hok:HOk X.prog X.w H s.heap
  len:σ.length=X.N.length
section
variable {X:Cx} {pins:List (Addr×Obj)} {σ:List (Option V)} {H H':Hp} {s:Shared} {h':Heap}
theorem Cx.Ok.nofr (ok:X.Ok) {b:Addr} {o:Obj} (e:X.base.get? b=some o):b∉X.fs:=fun hb=>by
  have:=(ok.funs.mem hb).1
  rw [e] at this; cases this
theorem Inv.bs (I:Inv X pins σ H s):∀ b o,X.base.get? b=some o→s.heap.get? b=some o∧H b=none:=fun b o e =>
  ⟨I.base.keep b o (I.ok.bs b o e).1 (I.ok.bs b o e).2 (I.ok.nofr e) (I.ok.noex b o e),I.base.free b o (I.ok.bs b o e).1 (I.ok.bs b o e).2 (I.ok.noex b o e)⟩
theorem Inv.bk (I:Inv X pins σ H s):∀ b o,X.base.get? b=some o→s.heap.get? b=some o:=fun b o e=>(I.bs b o e).1
theorem Inv.mod (I:Inv X pins σ H s):Mod X.K X.mg X.base:=I.ok.mod
theorem Inv.kIn (I:Inv X pins σ H s):X.K.In s.heap:=I.ok.mod.kin.keeps I.bk
theorem Inv.nolimit (I:Inv X pins σ H s):s.heap.NoLimit:=I.ok.mod.nolimit.keeps I.bk
theorem Inv.fr (I:Inv X pins σ H s):∃ m,Fr X.base X.env.locals s.heap m :=
  let ⟨m,hn,_⟩:=I.loc
  ⟨m,hn,I.bk,Nat.le_trans I.ok.bsz I.ok.above⟩
theorem Inv.lt (I:Inv X pins σ H s):X.env.locals<s.heap.objs.size:=let ⟨_,hn,_⟩:=I.loc; hn.lt
theorem Inv.sz (I:Inv X pins σ H s):X.s₀.heap.objs.size≤s.heap.objs.size:=Nat.le_trans I.ok.above (Nat.le_of_lt I.lt)
theorem Inv.nofs (I:Inv X pins σ H s) {a:Addr} (h:s.heap.objs.size≤a):a∉X.fs:=fun hb=>by
  obtain ⟨_,o,ho,_⟩:=I.ok.funs.mem hb
  exact absurd (Nat.lt_of_lt_of_le (Heap.lt_size ho) (Nat.le_trans I.sz h)) (Nat.lt_irrefl _)
theorem Inv.cne (I:Inv X pins σ H s):∀ x c,X.env.cells.lookup x=some c→c≠X.env.locals:=fun x c e z=>by
  obtain ⟨v,o,ho,hd⟩:=I.cell x c e
  obtain ⟨m,⟨o',es,ep,ho',hd',_⟩,_⟩:=I.loc
  rw [z,ho'] at ho; cases ho; rw [hd'] at hd; cases hd
theorem Inv.funs (I:Inv X pins σ H s):s.heap.FunFrames X.base X.outer:=by
  have all:∀ (l:List Env),(∀ b∈frs l,b∈X.fs)→X.s₀.heap.FunFrames X.base l→s.heap.FunFrames X.base l:=by
    intro l
    induction l with
    | nil=>intro _ _; trivial
    | cons env r ih =>
      intro hs hl
      obtain ⟨hk,⟨L,o,hf,hn,ho,hd⟩,hr⟩:=hl
      have hL:L∈X.fs:=hs L (by unfold frs; rw [List.filterMap_cons,hf]; exact List.mem_cons_self)
      obtain ⟨sl,e⟩:=I.base.slot L o ho (I.ok.frf L hL) hL fun z=>I.ok.exfs L z hL
      exact ⟨hk,⟨L,_,hf,hn,e,hd⟩,ih (fun b hb=>hs b (by unfold frs; rw [List.filterMap_cons,hf]; exact List.mem_cons_of_mem _ hb)) hr⟩
  exact all X.outer (fun _ hb=>hb) I.ok.funs
theorem Inv.stack (I:Inv X pins σ H s):s.heap.FunFrames X.base X.stack:=by
  rcases I.ok.stk with e | ⟨e,hf⟩
  · rw [e]; exact I.funs
  · rw [e]
    obtain ⟨m,hn,_⟩:=I.loc
    refine .cons (by rw [I.ok.kind]; decide) hf hn ?_ I.funs
    exact Heap.get?_none_of_le (Nat.le_trans I.ok.bsz I.ok.above)
theorem Inv.stkSub (I:Inv X pins σ H s):∀ b∈frs X.stack,b∈X.env.locals::X.fs:=fun b hb=>by
  rcases I.ok.stk with e | ⟨e,hf⟩
  · rw [e] at hb; exact List.mem_cons_of_mem _ hb
  · rw [e] at hb
    unfold frs at hb
    rw [List.filterMap_cons,hf] at hb
    exact hb
theorem Inv.stkFree (I:Inv X pins σ H s):∀ b∈frs X.stack,H b=none:=fun b hb=>by
  rcases List.mem_cons.mp (I.stkSub b hb) with e | hb
  · rw [e]; exact I.free
  · obtain ⟨_,o,ho,_⟩:=I.ok.funs.mem hb
    exact I.base.free b o ho (I.ok.frf b hb) fun z=>I.ok.exfs b z hb
theorem Inv.step {g':Array GenState} {t':Nat} {d':Drawn} {ch:List Addr} (I:Inv X pins σ H s)
    (hch:∀ b∈ch,(b∈X.ex∨X.s₀.heap.objs.size≤b)∧b≠X.env.locals∧(∀ x c,X.env.cells.lookup x=some c→c≠b)∧∀ p∈X.pn++pins,p.1≠b)
    (keep:∀ b o,b≠X.env.locals→b∉X.fs→b∉ch→s.heap.get? b=some o→H b=none→h'.get? b=some o)
    (slot:∀ b o,b≠X.env.locals→b∈X.fs→b∉ch→s.heap.get? b=some o→H b=none→∃ sl,h'.get? b=some { o with slots:=sl }) (free:∀ b o,b∉ch→s.heap.get? b=some o→H b=none→H' b=none)
    (there:∀ b o,b∉ch→s.heap.get? b=some o→∃ o',h'.get? b=some o')
    (tups:∀ b xs,H b=some (.tup xs)→H' b=some (.tup xs)) (frzs:∀ b o u,H b=some (.frz o u)→H' b=some (.frz o u)) (tbls:∀ b ps,H b=some (.tbl ps)→∃ more,H' b=some (.tbl (ps++more)))
    (ns:∀ m,s.heap.Ns X.env.locals m→h'.Ns X.env.locals m) (hok:HOk X.prog X.w H' h') (hg:AllBare g') :
    Inv X pins σ H' { s with heap:=h',gens:=g',drawn:=d',toks:=t' }:=by
  have neL:∀ b o,X.s₀.heap.get? b=some o→b≠X.env.locals:=fun b o e=>Nat.ne_of_lt (Nat.lt_of_lt_of_le (Heap.lt_size e) I.ok.above)
  have neC:∀ b o,X.s₀.heap.get? b=some o→b∉X.ex→b∉ch:=fun b o e hx hb=>by
    rcases (hch b hb).1 with z | z
    · exact hx z
    · exact absurd (Nat.lt_of_lt_of_le (Heap.lt_size e) z) (Nat.lt_irrefl _)
  have cellK:∀ x c,X.env.cells.lookup x=some c→∀ v,s.heap.IsCell c v→h'.IsCell c v:=fun x c e v ⟨o,ho,hd⟩=>by
    have nch:c∉ch:=fun z=>(hch c z).2.2.1 x c e rfl
    by_cases hc:c∈X.fs
    · obtain ⟨sl,q⟩:=slot c o (I.cne x c e) hc nch ho (I.freeC x c e)
      exact ⟨_,q,hd⟩
    · exact ⟨o,keep c o (I.cne x c e) hc nch ho (I.freeC x c e),hd⟩
  refine ⟨I.ok,I.os,hg,⟨fun b o e n hb hx=>?_,fun b o e n hb hx=>?_,fun b o e n hx=>?_,fun b o e hx=>?_,fun b xs e=>tups b xs (I.base.tups b xs e),fun b o xs e=>frzs b o xs (I.base.frzs b o xs e),fun b ps e=>?_⟩,?_,fun x c e=>?_,?_,fun x c e=>?_,fun p hp=>?_,hok,I.len⟩
  · exact keep b o (neL b o e) hb (neC b o e hx) (I.base.keep b o e n hb hx) (I.base.free b o e n hx)
  · obtain ⟨sl,e1⟩:=I.base.slot b o e n hb hx
    obtain ⟨sl',e2⟩:=slot b _ (neL b o e) hb (neC b o e hx) e1 (I.base.free b o e n hx)
    exact ⟨sl',e2⟩
  · obtain ⟨o',e1⟩:=I.base.there b o e hx
    exact free b o' (neC b o e hx) e1 (I.base.free b o e n hx)
  · obtain ⟨o',e1⟩:=I.base.there b o e hx
    exact there b o' (neC b o e hx) e1
  · obtain ⟨m1,e1⟩:=I.base.tbls b ps e
    obtain ⟨m2,e2⟩:=tbls b _ e1
    exact ⟨m1++m2,by rw [e2,Array.append_assoc]⟩
  · obtain ⟨m,hn,hl⟩:=I.loc
    refine ⟨m,ns m hn,fun i x v e1 e2 e3=>?_⟩
    obtain ⟨u,r,l⟩:=hl i x v e1 e2 e3
    refine ⟨u,r,?_⟩
    rcases l with l | ⟨k,c,e,z⟩
    · exact .inl l
    · exact .inr ⟨k,c,e,cellK x c e _ z⟩
  · obtain ⟨v,z⟩:=I.cell x c e
    exact ⟨v,cellK x c e v z⟩
  · obtain ⟨m,⟨o,_,_,ho,_⟩,_⟩:=I.loc
    exact free _ o (fun z=>(hch _ z).2.1 rfl) ho I.free
  · obtain ⟨v,o,ho,hd⟩:=I.cell x c e
    exact free c o (fun z=>(hch c z).2.2.1 x c e rfl) ho (I.freeC x c e)
  · obtain ⟨e,n,ne,nf,d⟩:=I.pin p hp
    have nch:p.1∉ch:=fun z=>(hch p.1 z).2.2.2 p hp rfl
    exact ⟨keep p.1 p.2 ne nf nch e n,free p.1 p.2 nch e n,ne,nf,d⟩
theorem Inv.un {t':Nat} (I:Inv X pins σ H s) (u:Un X.fs [] H H' s.heap h') (hok:HOk X.prog X.w H' h'):Inv X pins σ H' { s with heap:=h',toks:=t' }:=by
  obtain ⟨m,⟨o,es,ep,ho,r⟩,_⟩:=id I.loc
  obtain ⟨sl,hL⟩:=u.any ho I.free (by simp)
  exact I.step (g':=s.gens) (d':=s.drawn) (ch:=[]) (fun _ z=>nomatch z) (fun b o _ hb _ e n=>u.keep b o e n hb (by simp)) (fun b o _ hb _ e n=>u.slot b o e n hb (by simp)) (fun b o _ e n=>u.free b o e n (by simp)) (fun b o _ e=>u.there b o e (by simp)) u.tups u.frzs u.tbls (fun m' hm=>by
    obtain ⟨o',es',ep',ho',r'⟩:=hm
    rw [ho] at ho'; cases ho'
    exact ⟨_,es',ep',hL,r'⟩) hok I.bare
theorem Inv.call {g':Array GenState} {t':Nat} {d':Drawn} {ch:List Addr} (I:Inv X pins σ H s) (u:Un (frs X.stack) ch H H' s.heap h') (hok:HOk X.prog X.w H' h') (hg:AllBare g')
    (hch:∀ b∈ch,(b∈X.ex∨X.s₀.heap.objs.size≤b)∧b≠X.env.locals∧(∀ x c,X.env.cells.lookup x=some c→c≠b)∧∀ p∈X.pn++pins,p.1≠b) :
    Inv X pins σ H' { s with heap:=h',gens:=g',drawn:=d',toks:=t' }:=by
  obtain ⟨m,⟨o,es,ep,ho,r⟩,_⟩:=id I.loc
  obtain ⟨sl,hL⟩:=u.any ho I.free fun z=>(hch _ z).2.1 rfl
  exact I.step (ch:=ch) hch (fun b o hL hb hc e n=>u.keep b o e n (fun z=>(List.mem_cons.mp (I.stkSub b z)).elim hL hb) hc) (fun b o _ _ hc e n=>u.any e n hc) (fun b o hc e n=>u.free b o e n hc) (fun b o hc e=>u.there b o e hc) u.tups u.frzs u.tbls (fun m' hm=>by
    obtain ⟨o',es',ep',ho',r'⟩:=hm
    rw [ho] at ho'; cases ho'
    exact ⟨_,es',ep',hL,r'⟩) hok hg
theorem Inv.turned {t':Nat} {it:Addr} (I:Inv X pins σ H s) (k:∀ b o,b≠it→s.heap.get? b=some o→h'.get? b=some o) (hn:H it=none) (hL:it≠X.env.locals)
    (h1:it∈X.ex∨X.s₀.heap.objs.size≤it) (h2:∀ x c,X.env.cells.lookup x=some c→c≠it) (h3:∀ p∈X.pn++pins,p.1≠it):Inv X pins σ H { s with heap:=h',toks:=t' }:=by
  have nit:∀ b u,H b=some u→b≠it:=fun b u e z=>by rw [z,hn] at e; cases e
  refine I.step (g':=s.gens) (d':=s.drawn) (ch:=[it]) (fun b hb=>?_) (fun b o _ _ hc e _=>k b o (fun z=>hc (by simp [z])) e) (fun b o _ _ hc e _=>⟨o.slots,k b o (fun z=>hc (by simp [z])) e⟩) (fun _ _ _ _ n=>n)
    (fun b o hc e=>⟨o,k b o (fun z=>hc (by simp [z])) e⟩) (fun _ _ e=>e) (fun _ _ _ e=>e) (fun b ps e=>⟨#[],by rw [e]; simp⟩) (fun m hm=>?_) (fun b u e=>?_) I.bare
  · have e:b=it:=by simpa using hb
    subst e
    exact ⟨h1,hL,h2,h3⟩
  · obtain ⟨o,es,ep,ho,r⟩:=hm
    exact ⟨o,es,ep,k _ o (Ne.symm hL) ho,r⟩
  · refine (I.hok b u e).stay (fun c v hc q=>k c v ?_ q) (fun _ q=>q) fun _ _ q=>q
    rcases hc with z | z
    · rw [z]; exact nit b u e
    · exact nit c _ z
theorem Inv.tok (I:Inv X pins σ H s) (t:Nat):Inv X pins σ H { s with toks:=t }:=I.un (h':=s.heap) (t':=t) Un.refl I.hok
theorem Inv.kept {t':Nat} (I:Inv X pins σ H s) (k:∀ b u,s.heap.get? b=some u→h'.get? b=some u):Inv X pins σ H { s with heap:=h',toks:=t' }:=I.un (Un.kept k) (I.hok.kept k)
theorem Inv.laid {a:Addr} {o:HO} {t':Nat} (I:Inv X pins σ H s) (k:∀ b u,s.heap.get? b=some u→h'.get? b=some u) (hp:s.heap.objs.size≤a) (new:ObjOk X.prog X.w (upd H a o) h' a o) :
    Inv X pins σ (upd H a o) { s with heap:=h',toks:=t' }:=I.un (Un.laid k hp (I.hok.fresh hp)) (I.hok.laid k hp new)
theorem Inv.write {x e:Addr} {o:HO} {t':Nat} (I:Inv X pins σ H s) (mu:Mut (H x)) (he:e=x∨H e=some (.own x)) (k:∀ b u,b≠e→s.heap.get? b=some u→h'.get? b=some u) (heo:∃ u,h'.get? e=some u)
    (new:ObjOk X.prog X.w (upd H x o) h' x o):Inv X pins σ (upd H x o) { s with heap:=h',toks:=t' }:=I.un (Un.write mu he k heo) (I.hok.write mu he k heo new)
theorem Inv.weak {σ':List (Option V)} (I:Inv X pins σ H s) (hl:σ'.length=σ.length) (w:∀ (i:Nat) v,σ'[i]?=some (some v)→σ[i]?=some (some v)):Inv X pins σ' H s :=
  ⟨I.ok,I.os,I.bare,I.base,let ⟨m,hn,hl'⟩:=I.loc; ⟨m,hn,fun i x v e1 e2 e3=>hl' i x v e1 (w i v e2) e3⟩,I.cell,I.free,I.freeC,I.pin,I.hok,hl.trans I.len⟩
theorem Inv.pins_of {pins':List (Addr×Obj)} (I:Inv X pins σ H s) (h:∀ p∈pins',s.heap.get? p.1=some p.2∧H p.1=none∧p.1≠X.env.locals∧p.1∉X.fs∧∀ v,p.2.data≠.cell v):Inv X pins' σ H s :=
  ⟨I.ok,I.os,I.bare,I.base,I.loc,I.cell,I.free,I.freeC,fun p hp=>(List.mem_append.mp hp).elim (fun z=>I.pin p (List.mem_append_left _ z)) (h p),I.hok,I.len⟩
theorem nodup_ix {N:List Str} (hN:N.Nodup) {i j:Nat} {x:Str} (a:N[i]?=some x) (b:N[j]?=some x):i=j:=by
  obtain ⟨h1,e1⟩:=List.getElem?_eq_some_iff.mp a
  obtain ⟨h2,e2⟩:=List.getElem?_eq_some_iff.mp b
  exact (List.getElem_inj hN).mp (e1.trans e2.symm)
theorem store_ok2 {M:Model} {A:Around} {E:Value→Shared→Prop} {i:Nat} {x:Str} {v:V} {u:Value} {Q:Unit→Shared→Prop} (I:Inv X pins σ H s) (hN:X.N.Nodup) (hi:X.N[i]?=some x) (hx:Loc X.env.scope x) (r:RelV v u)
    (h:∀ s',Inv X pins (σ.set i (some v)) H s'→(∃ a,Heap.SameBut a s.heap s'.heap∧(a=X.env.locals∨X.env.cells.lookup x=some a))→Q () s') (hf:X.fn x=true∨X.env.scope.names.lookup x=some .local:=by first | exact .inl rfl | exact .inr rfl | assumption):wpAny M A (storeName X.env x u) Q E s:=by
  obtain ⟨m,hn,hl⟩:=id I.loc
  have hcls:(X.env.scope.kind==.class || (X.env.scope.kind==.module&&X.env.locals != X.env.globals))=false:=by rw [I.ok.kind]; rfl
  have hiσ:i < σ.length:=by rw [I.len]; exact (List.getElem?_eq_some_iff.mp hi).1
  have cne:=I.cne
  have tracked:∀ {a:Addr} {h':Heap},(∃ o,s.heap.get? a=some o∧H a=none)→Heap.SameBut a s.heap h'→HOk X.prog X.w H h':=fun {a h'} ha hs b ob e=>by
    obtain ⟨_,_,hfree⟩:=ha
    refine (I.hok b ob e).stay (fun c w' hc q=>(hs.2 c ?_).trans q) (fun _ q=>q) fun _ _ q=>q
    rintro rfl
    rcases hc with rfl | hc
    · rw [hfree] at e; cases e
    · rw [hfree] at hc; cases hc
  rcases hx with hk | hk
  · refine wpAny_storeName_local hk hn (fun h' hn' hs=>?_) hcls
    obtain ⟨oL,_,_,hoL,_⟩:=id hn
    refine h _ ⟨I.ok,I.os,I.bare,⟨fun b o e n hb hx=>?_,fun b o e n hb hx=>?_,I.base.free,fun b o e hx=>?_,I.base.tups,I.base.frzs,I.base.tbls⟩,⟨_,hn',fun j y v' e1 e2 e3=>?_⟩,fun y c e=>?_,I.free,I.freeC,fun p hp=>?_,tracked ⟨oL,hoL,I.free⟩ hs,by simpa using I.len⟩ ⟨_,hs,.inl rfl⟩
    · exact (hs.2 b (Nat.ne_of_lt (Nat.lt_of_lt_of_le (Heap.lt_size e) I.ok.above))).trans (I.base.keep b o e n hb hx)
    · obtain ⟨sl,e1⟩:=I.base.slot b o e n hb hx
      exact ⟨sl,(hs.2 b (Nat.ne_of_lt (Nat.lt_of_lt_of_le (Heap.lt_size e) I.ok.above))).trans e1⟩
    · obtain ⟨o',e1⟩:=I.base.there b o e hx
      exact ⟨o',(hs.2 b (Nat.ne_of_lt (Nat.lt_of_lt_of_le (Heap.lt_size e) I.ok.above))).trans e1⟩
    · by_cases hj:j=i
      · subst hj
        rw [hi] at e1; cases e1
        rw [List.getElem?_set_self hiσ] at e2
        cases e2
        exact ⟨u,r,.inl ⟨hk,by simp⟩⟩
      · rw [List.getElem?_set_ne (Ne.symm hj)] at e2
        obtain ⟨u',r',q⟩:=hl j y v' e1 e2 e3
        refine ⟨u',r',?_⟩
        rcases q with ⟨k,e⟩ | ⟨k,c,e,z⟩
        · refine .inl ⟨k,?_⟩
          have:y≠x:=fun e=>hj (nodup_ix hN e1 (e ▸ hi))
          simp [this,e]
        · exact .inr ⟨k,c,e,z.sameBut hs (cne y c e)⟩
    · obtain ⟨w',z⟩:=I.cell y c e
      exact ⟨w',z.sameBut hs (cne y c e)⟩
    · obtain ⟨e,n,ne,nf,d⟩:=I.pin p hp
      exact ⟨(hs.2 p.1 ne).trans e,n,ne,nf,d⟩
  · have hfn:X.fn x=true:=by
      rcases hf with z | z
      · exact z
      · rw [z] at hk; cases hk
    obtain ⟨c,hc⟩:=I.ok.has x (.inl hk)
    obtain ⟨w',z⟩:=I.cell x c hc
    refine wpAny_storeName_cell I.ok.kind hk hc z (fun h' hc' hs=>?_)
    obtain ⟨oc,hoc,hocd⟩:=id z
    refine h { s with heap:=h' } ⟨I.ok,I.os,I.bare,⟨fun b o e n hb hx=>?_,fun b o e n hb hx=>?_,I.base.free,fun b o e hx=>?_,I.base.tups,I.base.frzs,I.base.tbls⟩,⟨m,hn.sameBut hs (Ne.symm (cne x c hc)),fun j y v' e1 e2 e3=>?_⟩,fun y c' e=>?_,I.free,I.freeC,fun p hp=>?_,tracked ⟨oc,hoc,I.freeC x c hc⟩ hs,by simpa using I.len⟩ ⟨c,hs,.inr hc⟩
    · exact (hs.2 b (Nat.ne_of_lt (Nat.lt_of_lt_of_le (Heap.lt_size e) (I.ok.cab x c hfn hc)))).trans (I.base.keep b o e n hb hx)
    · obtain ⟨sl,e1⟩:=I.base.slot b o e n hb hx
      exact ⟨sl,(hs.2 b (Nat.ne_of_lt (Nat.lt_of_lt_of_le (Heap.lt_size e) (I.ok.cab x c hfn hc)))).trans e1⟩
    · obtain ⟨o',e1⟩:=I.base.there b o e hx
      exact ⟨o',(hs.2 b (Nat.ne_of_lt (Nat.lt_of_lt_of_le (Heap.lt_size e) (I.ok.cab x c hfn hc)))).trans e1⟩
    · by_cases hj:j=i
      · subst hj
        rw [hi] at e1; cases e1
        rw [List.getElem?_set_self hiσ] at e2
        cases e2
        exact ⟨u,r,.inr ⟨.inl hk,c,hc,hc'⟩⟩
      · rw [List.getElem?_set_ne (Ne.symm hj)] at e2
        obtain ⟨u',r',q⟩:=hl j y v' e1 e2 e3
        refine ⟨u',r',?_⟩
        rcases q with q | ⟨k,c',e,z'⟩
        · exact .inl q
        · refine .inr ⟨k,c',e,z'.sameBut hs ?_⟩
          rintro rfl
          exact hj (nodup_ix hN e1 (I.ok.inj _ _ _ e hc ▸ hi))
    · by_cases hcc:c'=c
      · subst hcc; exact ⟨_,hc'⟩
      · obtain ⟨w2,z2⟩:=I.cell y c' e
        exact ⟨w2,z2.sameBut hs hcc⟩
    · obtain ⟨e,n,ne,nf,d⟩:=I.pin p hp
      refine ⟨(hs.2 p.1 ?_).trans e,n,ne,nf,d⟩
      intro q
      rw [q,hoc] at e
      have q':oc=p.2:=Option.some.inj e
      exact d w' (by rw [← q']; exact hocd)
theorem store_ok {M:Model} {A:Around} {E:Value→Shared→Prop} {i:Nat} {x:Str} {v:V} {u:Value} {Q:Unit→Shared→Prop} (I:Inv X pins σ H s) (hN:X.N.Nodup) (hi:X.N[i]?=some x) (hx:Loc X.env.scope x) (r:RelV v u)
    (h:∀ s',Inv X pins (σ.set i (some v)) H s'→Q () s') (hf:X.fn x=true∨X.env.scope.names.lookup x=some .local:=by first | exact .inl rfl | exact .inr rfl | assumption):wpAny M A (storeName X.env x u) Q E s :=
  store_ok2 I hN hi hx r (fun s' I' _=>h s' I') hf
theorem Inv.call' {s':Shared} {ch:List Addr} (I:Inv X pins σ H s) (ho:s'.os=s.os) (u:Un (frs X.stack) ch H H' s.heap s'.heap) (hok:HOk X.prog X.w H' s'.heap) (hg:AllBare s'.gens)
    (hch:∀ b∈ch,(b∈X.ex∨X.s₀.heap.objs.size≤b)∧b≠X.env.locals∧(∀ x c,X.env.cells.lookup x=some c→c≠b)∧∀ p∈X.pn++pins,p.1≠b):Inv X pins σ H' s':=by
  obtain ⟨h',g',d',t',o'⟩:=s'
  have e:o'=s.os:=ho
  subst e
  exact I.call (g':=g') (t':=t') (d':=d') u hok hg hch
end
abbrev XK:=Value→Option Addr→Hp→Prop
abbrev St:=List (Option V)
abbrev VK:=V→Hp→Prop
abbrev TE:=St→Hp→VK→Prop
abbrev TT:=St→Hp→(Bool→Hp→Prop)→Prop
abbrev TA:=St→Hp→(List V→Hp→Prop)→Prop
structure Ends where
  nx:St→Hp→Prop
  rt:VK
  bk:St→Hp→Prop:=fun _ _=>False
  ct:St→Hp→Prop:=fun _ _=>False
abbrev TS:=Ends→St→Hp→Prop
def EP (X:Cx) (pins:List (Addr×Obj)) (σ:St) (Q:VK) (u:Value) (s':Shared):Prop:=∃ v H',Inv X pins σ H' s'∧RelV v u∧Q v H'
def TP (X:Cx) (pins:List (Addr×Obj)) (σ:St) (Q:Bool→Hp→Prop) (b:Bool) (s':Shared):Prop:=∃ H',Inv X pins σ H' s'∧Q b H'
def AP (X:Cx) (pins:List (Addr×Obj)) (σ:St) (Q:List V→Hp→Prop) (us:List Value) (s':Shared):Prop:=∃ vs H',Inv X pins σ H' s'∧Vals vs us∧Q vs H'
def SP (X:Cx) (pins:List (Addr×Obj)) (D:Ends) (f:Flow) (s':Shared):Prop :=
  match f with
  | .next=>∃ σ' H',Inv X pins σ' H' s'∧D.nx σ' H'
  | .brk=>∃ σ' H',Inv X pins σ' H' s'∧D.bk σ' H'
  | .cont=>∃ σ' H',Inv X pins σ' H' s'∧D.ct σ' H'
  | .ret u=>∃ v σ' H',Inv X pins σ' H' s'∧RelV v u∧D.rt v H'
def PE (X:Cx) (e:Expr) (t:TE):Prop :=
  ∀ (pins:List (Addr×Obj)) (s:Shared) (σ:St) (H:Hp) (Q:VK),Inv X pins σ H s→t σ H Q→wpAny (model X.prog X.w) X.A (eval e X.env) (EP X pins σ Q) X.xe s
def PT (X:Cx) (e:Expr) (t:TT):Prop :=
  ∀ (pins:List (Addr×Obj)) (s:Shared) (σ:St) (H:Hp) (Q:Bool→Hp→Prop),Inv X pins σ H s→t σ H Q→wpAny (model X.prog X.w) X.A (isTrue e X.env (eval e X.env)) (TP X pins σ Q) X.xe s
def PW (X:Cx) (e:Expr) (t:TT):Prop :=
  ∀ (whole:Sem Value) (pins:List (Addr×Obj)) (s:Shared) (σ:St) (H:Hp) (Q:Bool→Hp→Prop),Inv X pins σ H s→t σ H Q→wpAny (model X.prog X.w) X.A (isTrue e X.env whole) (TP X pins σ Q) X.xe s
theorem PW.pt {X:Cx} {e:Expr} {t:TT} (h:PW X e t):PT X e t:=h _
def PA (X:Cx) (es:List Expr) (t:TA):Prop :=
  ∀ (pos:Pos) (pins:List (Addr×Obj)) (s:Shared) (σ:St) (H:Hp) (Q:List V→Hp→Prop),Inv X pins σ H s→t σ H Q→wpAny (model X.prog X.w) X.A (spliced (backTo pos (starEach es X.env))) (AP X pins σ Q) X.xe s
def PS (X:Cx) (st:Stmt) (t:TS):Prop :=
  ∀ (pins:List (Addr×Obj)) (s:Shared) (σ:St) (H:Hp) (D:Ends),Inv X pins σ H s→t D σ H→wpAny (model X.prog X.w) X.A (exec st X.env) (SP X pins D) X.xe s
def PSs (X:Cx) (st:List Stmt) (t:TS):Prop :=
  ∀ (pins:List (Addr×Obj)) (s:Shared) (σ:St) (H:Hp) (D:Ends),Inv X pins σ H s→t D σ H→wpAny (model X.prog X.w) X.A (execs st X.env) (SP X pins D) X.xe s
theorem thn {α:Type} {t:Sem α} {Q Q':α→Shared→Prop} {M:Model} {A:Around} {E:Value→Shared→Prop} {s:Shared} (h:wpAny M A t Q E s) (hQ:∀ a s,Q a s→Q' a s):wpAny M A t Q' E s:=wpAny_mono h hQ fun _ _ x=>x
end L2
namespace L2
open PySem PySem.Spec PyProof.Rows
section
variable {X:Cx}
def tVar (i:Nat):TE:=fun σ H Q=>∃ v,σ[i]?=some (some v)∧Q v H
def tC (v:V):TE:=fun _ H Q=>Q v H
theorem pe_var {i:Nat} {x:Str} {pos:Pos} (hN:X.N[i]?=some x) (hv:Vis X.env.scope x) (hd:(x==("__debug__" : Str))=false:=by decide) (hcd:(x==("__classdict__" : Str))=false:=by decide):PE X (.Name x pos) (tVar i):=by
  intro pins s σ H Q I h
  obtain ⟨v,e,h⟩:=h
  obtain ⟨m,hn,hl⟩:=I.loc
  obtain ⟨u,r,l⟩:=hl i x v hN e hv
  have fin:EP X pins σ Q u s:=⟨v,H,I,r,h⟩
  rcases l with ⟨hk,hm⟩ | ⟨hk,c,hc,hcell⟩
  · exact wpAny_Name (wpAny_loadName_local I.ok.kind hk hn hm fin) hd
  · rcases hk with hk | hk
    · exact wpAny_Name (wpAny_loadName_cell I.ok.kind hk hc hcell fin) hd
    · exact wpAny_Name (wpAny_loadName_free I.ok.kind hk hc hcell fin hcd) hd
theorem pe_int {i j pos}:PE X (.Constant (.int i) j pos) (tC (.int i)):=fun _ _ _ H _ I h=>wpAny_Constant_int ⟨.int i,H,I.tok _,⟨_,rfl⟩,h⟩
theorem pe_bl {b j pos}:PE X (.Constant (.bool b) j pos) (tC (.bl b)):=fun _ _ _ H _ I h=>Constant_bool ⟨.bl b,H,I,rfl,h⟩
theorem pe_non {j pos}:PE X (.Constant .none j pos) (tC .non):=fun _ _ _ H _ I h=>Constant_none ⟨.non,H,I,rfl,h⟩
def Gl (X:Cx) (x:Str):Prop:=X.env.kindOf x=some .globalImplicit
theorem ld_glob {E:Value→Shared→Prop} {pins:List (Addr×Obj)} {s:Shared} {σ:St} {H:Hp} {x:Str} {u:Value} {pos:Pos} {Q:Value→Shared→Prop} (I:Inv X pins σ H s) (hg:Gl X x) (hm:X.mg x=some u) (h:Q u s)
    (hd:(x==("__debug__" : Str))=false:=by decide):wpAny (model X.prog X.w) X.A (eval (.Name x pos) X.env) Q E s :=
  Calls.Name_function_global I.ok.kind hg (Calls.loadGlobal_global (by rw [I.ok.glob]; exact I.mod.glob.keeps I.bk) hm h) hd
theorem ld_blt {E:Value→Shared→Prop} {pins:List (Addr×Obj)} {s:Shared} {σ:St} {H:Hp} {x:Str} {u:Value} {pos:Pos} {Q:Value→Shared→Prop} (I:Inv X pins σ H s) (hg:Gl X x) (hm:X.mg x=none) (hv:bootBuiltins x=some u) (h:Q u s)
    (hn:x ≠ "__name__" := by decide) (hd:(x==("__debug__" : Str))=false:=by decide):wpAny (model X.prog X.w) X.A (eval (.Name x pos) X.env) Q E s:=by
  obtain ⟨mb,h1,h2⟩:=I.mod.blt
  exact Calls.Name_function_global I.ok.kind hg (Calls.loadGlobal_builtin (by rw [I.ok.glob]; exact I.mod.glob.keeps I.bk) hm (by rw [I.ok.blt]; exact h1.keeps I.bk) ((h2 x hn).trans hv) h) hd
theorem pe_glob {x:Str} {v:V} {u:Value} {pos:Pos} (hg:Gl X x) (hm:X.mg x=some u) (r:RelV v u) (hd:(x==("__debug__" : Str))=false:=by decide):PE X (.Name x pos) (tC v) :=
  fun _ _ _ H _ I h=>ld_glob I hg hm ⟨v,H,I,r,h⟩ hd
theorem pe_bltn {x:Str} {v:V} {u:Value} {pos:Pos} (hg:Gl X x) (hm:X.mg x=none) (hv:bootBuiltins x=some u) (r:RelV v u) (hn:x ≠ "__name__" := by decide) (hd:(x==("__debug__" : Str))=false:=by decide):PE X (.Name x pos) (tC v) :=
  fun _ _ _ H _ I h=>ld_blt I hg hm hv ⟨v,H,I,r,h⟩ hn hd
variable {a b:Expr} {ta tb:TE} {pos:Pos}
variable {tA tB':TT} {rest:List Expr}
def tAnd (t u:TT):TT:=fun σ H Q=>t σ H fun c H1=>if c=true then u σ H1 Q else Q false H1
def tOr (t u:TT):TT:=fun σ H Q=>t σ H fun c H1=>if c=true then Q true H1 else u σ H1 Q
def tNot (t:TT):TT:=fun σ H Q=>t σ H fun c H1=>Q (!c) H1
theorem pw_and1 (ha:PT X a tA):PW X (.BoolOp .And [a] pos) tA:=by
  intro wh pins s σ H Q I h
  refine isTrue_and (thn (ha pins s σ H Q I h) fun c s1 e=>?_)
  cases c with
  | true=>exact isTrue_and_nil e
  | false=>exact e
theorem pw_or1 (ha:PT X a tA):PW X (.BoolOp .Or [a] pos) tA:=by
  intro wh pins s σ H Q I h
  refine isTrue_or (thn (ha pins s σ H Q I h) fun c s1 e=>?_)
  cases c with
  | false=>exact isTrue_or_nil e
  | true=>exact e
theorem pw_and (ha:PT X a tA) (hb:PW X (.BoolOp .And (b::rest) pos) tB'):PW X (.BoolOp .And (a::b::rest) pos) (tAnd tA tB'):=by
  intro wh pins s σ H Q I h
  refine isTrue_and (thn (ha pins s σ H _ I h) fun c s1 ⟨H1,I1,q1⟩=>?_)
  cases c with
  | true=>exact hb wh pins s1 σ H1 Q I1 q1
  | false=>exact ⟨H1,I1,q1⟩
theorem pw_or (ha:PT X a tA) (hb:PW X (.BoolOp .Or (b::rest) pos) tB'):PW X (.BoolOp .Or (a::b::rest) pos) (tOr tA tB'):=by
  intro wh pins s σ H Q I h
  refine isTrue_or (thn (ha pins s σ H _ I h) fun c s1 ⟨H1,I1,q1⟩=>?_)
  cases c with
  | true=>exact ⟨H1,I1,q1⟩
  | false=>exact hb wh pins s1 σ H1 Q I1 q1
theorem pt_not (ha:PT X a tA):PT X (.UnaryOp .Not a pos) (tNot tA):=by
  intro pins s σ H Q I h
  exact isTrue_not (ha pins s σ H (fun c H1=>Q (!c) H1) I h)
def tAndV (ta tb:TE):TE:=fun σ H Q=>ta σ H fun x H1=>∃ c,x=.bl c∧if c=true then tb σ H1 Q else Q (.bl false) H1
def tNotV (ta:TE):TE:=fun σ H Q=>ta σ H fun x H1=>∃ c,x=.bl c∧Q (.bl (!c)) H1
theorem pe_one {op} {t:TE} (h:PE X a t):PE X (.BoolOp op [a] pos) t:=fun pins s σ H Q I hw=>BoolOp_one (h pins s σ H Q I hw)
theorem pe_and (ha:PE X a ta) (hb:PE X (.BoolOp .And (b::rest) pos) tb):PE X (.BoolOp .And (a::b::rest) pos) (tAndV ta tb):=by
  intro pins s σ H Q I h
  refine BoolOp_and (thn (ha pins s σ H _ I h) fun v s1 ⟨x,H1,I1,r1,q1⟩=>?_)
  obtain ⟨c,rfl,q1⟩:=q1
  cases r1
  refine wpAny_truthy_bool ?_
  cases c with
  | true=>exact hb pins s1 σ H1 Q I1 q1
  | false=>exact ⟨.bl false,H1,I1,rfl,q1⟩
theorem pe_not (ha:PE X a ta):PE X (.UnaryOp .Not a pos) (tNotV ta):=by
  intro pins s σ H Q I h
  refine UnaryOp_ (thn (ha pins s σ H _ I h) fun v s1 ⟨x,H1,I1,r1,q1⟩=>?_)
  obtain ⟨c,rfl,q1⟩:=q1
  cases r1
  exact not_of (wpAny_truthy_bool ⟨.bl (!c),H1,I1,rfl,q1⟩)
end
end L2
namespace L2
open PySem PySem.Spec PyProof.Rows
def SqL (K:PySem.W.Frag) (H:Hp) (a:Addr) (xs:List V):Prop :=
  Rd H a (.lst xs) ∨
    ∃ (o:Obj) (its:Array Value) (n:Nat),K.lookup a=some o∧o.cls=.type "list" ∧ o.dict=none∧o.data=.seq its n∧its.size≤sizeLine∧Vals xs its.toList
def SqT (K:PySem.W.Frag) (H:Hp) (a:Addr) (xs:List V):Prop :=
  Rd H a (.tup xs) ∨
    ∃ (o:Obj) (its:Array Value) (n:Nat),K.lookup a=some o∧o.cls=.type "tuple" ∧ o.data=.seq its n∧its.size≤sizeLine∧Vals xs its.toList
def absV:Value→Option V
  | .none=>some .non
  | .bool b=>some (.bl b)
  | .int i _=>some (.int i)
  | .str x _=>some (.str x)
  | .bytes b _=>some (.byt b)
  | .float b _=>some (.flt b)
  | .ref a=>some (.ref a)
  | .type n=>some (.ty n)
  | _=>none
theorem RelV.abs {x:V} {u:Value} (r:RelV x u):absV u=some x:=by
  cases x with
  | non=>cases r; rfl
  | bl _=>cases r; rfl
  | int _=>obtain ⟨t,rfl⟩:=r; rfl
  | str _=>obtain ⟨t,rfl⟩:=r; rfl
  | byt _=>obtain ⟨t,rfl⟩:=r; rfl
  | flt _=>obtain ⟨t,rfl⟩:=r; rfl
  | ref _=>cases r; rfl
  | ty _=>cases r; rfl
theorem RelV.inj {x y:V} {u:Value} (r:RelV x u) (q:RelV y u):x=y:=Option.some.inj (r.abs.symm.trans q.abs)
theorem Vals.inj:∀ {xs ys:List V} {us:List Value},Vals xs us→Vals ys us→xs=ys
  | _,_,_,.nil,.nil=>rfl
  | _,_,_,.cons r t,.cons r' t'=>by rw [r.inj r',Vals.inj t t']
section
variable {X:Cx} {pins:List (Addr×Obj)} {σ:St} {H:Hp} {s:Shared} {a:Addr} {xs ys:List V}
theorem SqL.of {K:PySem.W.Frag} (h:H a=some (.lst xs)):SqL K H a xs:=.inl (.inl h)
theorem Inv.list (I:Inv X pins σ H s) (h:SqL X.K H a xs):∃ its:List Value,Vals xs its∧PlainL s.heap a its.toArray∧xs.length≤sizeLine:=by
  rcases h with h | ⟨o,its,n,hk,hc,hd,hs,hz,r⟩
  · obtain ⟨z,its,n,r,e⟩:=h.ok I.hok
    exact ⟨its,r,⟨_,n,e,rfl,rfl,rfl⟩,z⟩
  · refine ⟨its.toList,r,⟨o,n,I.kIn a o hk,hc,hd,by simpa using hs⟩,?_⟩
    have e:=r.length
    simp only [Array.length_toList] at e
    omega
theorem Inv.tuple (I:Inv X pins σ H s) (h:SqT X.K H a xs):∃ its:List Value,Vals xs its∧IsTup s.heap a its.toArray∧xs.length≤sizeLine:=by
  rcases h with h | ⟨o,its,n,hk,hc,hs,hz,r⟩
  · obtain ⟨z,its,r,p⟩:=h.ok I.hok
    exact ⟨its,r,p,z⟩
  · refine ⟨its.toList,r,⟨o,I.kIn a o hk,hc,n,by simpa using hs⟩,?_⟩
    have e:=r.length
    simp only [Array.length_toList] at e
    omega
theorem Inv.list_inj (I:Inv X pins σ H s) (h:SqL X.K H a xs) (h':SqL X.K H a ys):xs=ys:=by
  obtain ⟨its,r,⟨o,n,e,_,_,d⟩,_⟩:=I.list h
  obtain ⟨its',r',⟨o',n',e',_,_,d'⟩,_⟩:=I.list h'
  rw [e] at e'; cases e'
  rw [d] at d'
  injection d' with d1 _
  have:its=its':=by simpa using congrArg Array.toList d1
  subst this
  exact r.inj r'
end
abbrev Cx.wish (X:Cx) (E:Value→Shared→Prop):Cx:={ X with xe:=E }
abbrev Cx.nox (X:Cx):Cx:=X.wish fun _ _=>False
theorem Cx.Ok.wish {X:Cx} (ok:X.Ok) (E:Value→Shared→Prop):(X.wish E).Ok :=
  ⟨ok.mod,ok.kind,ok.glob,ok.blt,ok.above,ok.inj,ok.has,ok.cab,ok.hd,ok.frames,ok.stk,ok.exf,ok.bs,ok.bsz,ok.noex,ok.exfs,ok.funs,ok.frf⟩
theorem Cx.Ok.unwish {X:Cx} {E:Value→Shared→Prop} (ok:(X.wish E).Ok):X.Ok :=
  ⟨ok.mod,ok.kind,ok.glob,ok.blt,ok.above,ok.inj,ok.has,ok.cab,ok.hd,ok.frames,ok.stk,ok.exf,ok.bs,ok.bsz,ok.noex,ok.exfs,ok.funs,ok.frf⟩
section
variable {X:Cx} {pins:List (Addr×Obj)} {σ:St} {H:Hp} {s:Shared} {E:Value→Shared→Prop}
theorem Inv.wish (I:Inv X pins σ H s) (E:Value→Shared→Prop):Inv (X.wish E) pins σ H s:=⟨I.ok.wish E,I.os,I.bare,I.base,I.loc,I.cell,I.free,I.freeC,I.pin,I.hok,I.len⟩
theorem Inv.unwish (I:Inv (X.wish E) pins σ H s):Inv X pins σ H s:=⟨I.ok.unwish,I.os,I.bare,I.base,I.loc,I.cell,I.free,I.freeC,I.pin,I.hok,I.len⟩
theorem SP.unwish {D:Ends} {f:Flow} {s':Shared} (h:SP (X.wish E) pins D f s'):SP X pins D f s':=by
  cases f with
  | next=>obtain ⟨σ',H',I,q⟩:=h; exact ⟨σ',H',I.unwish,q⟩
  | brk=>obtain ⟨σ',H',I,q⟩:=h; exact ⟨σ',H',I.unwish,q⟩
  | cont=>obtain ⟨σ',H',I,q⟩:=h; exact ⟨σ',H',I.unwish,q⟩
  | ret u=>obtain ⟨v,σ',H',I,r,q⟩:=h; exact ⟨v,σ',H',I.unwish,r,q⟩
theorem PSs.nox {st:List Stmt} {t:TS} (h:PSs X.nox st t):PSs X st t:=fun pins s σ H D I hw =>
  wpAny_mono (h pins s σ H D (I.wish _) hw) (fun _ _ q=>q.unwish) fun _ _ z=>False.elim z
end
section
variable {X:Cx} {st:Stmt} {rest:List Stmt} {t u:TS} {e:Expr} {te:TE} {pos:Pos}
def tNext:TS:=fun D σ H=>D.nx σ H
def tSeq (t u:TS):TS:=fun D σ H=>t { D with nx:=u D } σ H
theorem pss_nil:PSs X [] tNext:=fun _ _ σ H _ I h=>wpAny_execs_nil ⟨σ,H,I,h⟩
theorem pss_cons (h1:PS X st t) (h2:PSs X rest u):PSs X (st::rest) (tSeq t u):=by
  intro pins s σ H D I h
  refine wpAny_execs_cons (thn (h1 pins s σ H { D with nx:=u D } I h) fun f s1 q=>?_)
  cases f with
  | next =>
    obtain ⟨σ',H',I',q⟩:=q
    exact h2 pins s1 σ' H' D I' q
  | ret v=>exact q
  | brk=>exact q
  | cont=>exact q
theorem pss_one (h1:PS X st t):PSs X [st] t:=by
  intro pins s σ H D I h
  refine wpAny_execs_cons (thn (h1 pins s σ H D I h) fun f s1 q=>?_)
  cases f with
  | next=>exact wpAny_execs_nil q
  | ret v=>exact q
  | brk=>exact q
  | cont=>exact q
def tCont:TS:=fun D σ H=>D.ct σ H
theorem ps_continue:PS X (.Continue pos) tCont:=fun _ _ σ H _ I h=>wpAny_Continue ⟨σ,H,I,h⟩
theorem Inv.quiet {pins:List (Addr×Obj)} {σ:St} {H:Hp} {s:Shared} (I:Inv X pins σ H s):interactive X.env=false:=by simp [interactive,I.ok.kind]
def tDrop (te:TE):TS:=fun D σ H=>te σ H fun _ H1=>D.nx σ H1
theorem ps_expr (he:PE X e te) (hs:swapsWith e none pos.line X.env=pure false:=by rfl):PS X (.Expr e pos) (tDrop te):=by
  intro pins s σ H D I h
  exact wpAny_Expr_any (thn (he pins s σ H _ I h) fun v s1 ⟨x,H1,I1,r1,q1⟩=>⟨σ,H1,I1,q1⟩) I.quiet hs
def tRet (te:TE):TS:=fun D σ H=>te σ H D.rt
theorem ps_ret (he:PE X e te):PS X (.Return (some e) pos) (tRet te):=by
  intro pins s σ H D I h
  exact wpAny_Return_some (thn (he pins s σ H _ I h) fun v s1 ⟨x,H1,I1,r1,q1⟩=>⟨x,σ,H1,I1,r1,q1⟩)
def tIfS (c:TT) (t u:TS):TS:=fun D σ H=>c σ H fun b H1=>if b=true then t D σ H1 else u D σ H1
theorem ps_if {c:Expr} {a b:List Stmt} {tc:TT} (hc:PT X c tc) (ha:PSs X a t) (hb:PSs X b u):PS X (.If c a b pos) (tIfS tc t u):=by
  intro pins s σ H D I h
  refine wpAny_If (thn (hc pins s σ H _ I h) fun d s1 ⟨H1,I1,q1⟩=>?_)
  cases d with
  | true=>exact ha pins s1 σ H1 D I1 q1
  | false=>exact hb pins s1 σ H1 D I1 q1
end
abbrev TG:=V→St→Hp→(St→Hp→Prop)→Prop
abbrev TGs:=List V→St→Hp→(St→Hp→Prop)→Prop
def PG (X:Cx) (target:Expr) (t:TG):Prop :=
  ∀ (pins:List (Addr×Obj)) (s:Shared) (σ:St) (H:Hp) (v:V) (u:Value) (Q:St→Hp→Prop),Inv X pins σ H s→RelV v u→t v σ H Q →
    wpAny (model X.prog X.w) X.A (assign target X.env u) (fun _ s'=>∃ σ' H',Inv X pins σ' H' s'∧Q σ' H') X.xe s
def PGs (X:Cx) (ts:List Expr) (t:TGs):Prop :=
  ∀ (pins:List (Addr×Obj)) (s:Shared) (σ:St) (H:Hp) (vs:List V) (us:List Value) (Q:St→Hp→Prop),Inv X pins σ H s→Vals vs us→t vs σ H Q →
    wpAny (model X.prog X.w) X.A (assignInOrder ((assignEach ts X.env).map (·.2)) us) (fun _ s'=>∃ σ' H',Inv X pins σ' H' s'∧Q σ' H') X.xe s
abbrev TSet:=V→V→V→Hp→(Hp→Prop)→Prop
def PSet (X:Cx) (t:TSet):Prop :=
  ∀ (pins:List (Addr×Obj)) (s:Shared) (σ:St) (H:Hp) (o i v:V) (ov iv u:Value) (Q:Hp→Prop),Inv X pins σ H s→RelV o ov→RelV i iv→RelV v u→t o i v H Q →
    wpAny (model X.prog X.w) X.A (setItem ov iv u) (fun _ s'=>∃ H',Inv X pins σ H' s'∧Q H') X.xe s
abbrev TIp:=V→V→Hp→VK→Prop
def PIp (X:Cx) (op:Operator) (t:TIp):Prop :=
  ∀ (pins:List (Addr×Obj)) (s:Shared) (σ:St) (H:Hp) (x y:V) (v u:Value) (Q:VK),Inv X pins σ H s→RelV x v→RelV y u→t x y H Q →
    wpAny (model X.prog X.w) X.A (inplaceOp op v u) (EP X pins σ Q) X.xe s
section
variable {X:Cx} {pos:Pos}
def gName (i:Nat):TG:=fun v σ H Q=>Q (σ.set i (some v)) H
theorem pg_name {i:Nat} {x:Str} (hN:X.N.Nodup) (hi:X.N[i]?=some x) (hx:Loc X.env.scope x) (hf:X.fn x=true∨X.env.scope.names.lookup x=some .local:=by first | exact .inl rfl | exact .inr rfl | assumption):PG X (.Name x pos) (gName i):=by
  intro pins s σ H v u Q I r h
  exact wpAny_assign_Name (store_ok I hN hi hx r (fun s' I'=>⟨_,H,I',h⟩) hf)
def gNil:TGs:=fun vs σ H Q=>vs=[]∧Q σ H
def gCons (t:TG) (u:TGs):TGs:=fun vs σ H Q=>∃ v r,vs=v::r∧t v σ H fun σ' H'=>u r σ' H' Q
theorem pgs_nil:PGs X [] gNil:=by
  intro pins s σ H vs us Q I r h
  obtain ⟨e,h⟩:=h
  subst e
  cases r
  exact assignInOrder_nil ⟨σ,H,I,h⟩
theorem pgs_cons {e:Expr} {es:List Expr} {t:TG} {u:TGs} (h1:PG X e t) (h2:PGs X es u)
    (hs:(assignEach (e::es) X.env).map (·.2)=assign e X.env::(assignEach es X.env).map (·.2):=by rfl):PGs X (e::es) (gCons t u):=by
  intro pins s σ H vs us Q I r h
  obtain ⟨v,vr,e1,h⟩:=h
  subst e1
  cases r with
  | cons r rr =>
    rw [hs]
    refine assignInOrder_cons (thn (h1 pins s σ H _ _ _ I r h) fun _ s1 ⟨σ1,H1,I1,q1⟩=>?_)
    exact h2 pins s1 σ1 H1 _ _ Q I1 rr q1
def gTup (K:PySem.W.Frag) (n:Nat) (t:TGs):TG:=fun v σ H Q=>∃ a xs,v=.ref a∧SqT K H a xs∧xs.length=n∧t xs σ H Q
theorem pg_tup {es:List Expr} {k:Nat} {t:TGs} {n:Nat} (hc:X.calm=true) (h:PGs X es t)
    (hn:(assignEach es X.env).length=n:=by rfl) (hst:(assignEach es X.env).findIdx? (·.1)=none:=by rfl):PG X (.Tuple es k pos) (gTup X.K n t):=by
  intro pins s σ H v u Q I r hw
  obtain ⟨a,xs,e1,hq,hl,hw⟩:=hw
  subst e1
  cases r
  obtain ⟨its,rv,ht,hz⟩:=I.tuple hq
  refine assign_Tuple_tuple (I.ok.hd hc) ht (by simp [hn,← hl,rv.length]) hst fun h' hx=>?_
  have I1:Inv X pins σ H { s with heap:=h' }:=I.kept (t':=s.toks) fun b o e=>hx b o (Nat.ne_of_lt (Heap.lt_size e)) e
  exact h pins _ σ H xs _ Q I1 (by simpa using rv) hw
def gSub (to ti:TE) (t:TSet):TG:=fun v σ H Q=>to σ H fun o H1=>ti σ H1 fun i H2=>t o i v H2 fun H3=>Q σ H3
theorem pg_sub {o i:Expr} {to ti:TE} {t:TSet} (ho:PE X o to) (hi:PE X i ti) (hs:PSet X t)
    (ha:∀ v,assign (.Subscript o i pos) X.env v=(do
      let ov ← holding [v] (eval o X.env)
      let iv ← holding [v,ov] (eval i X.env)
      standAt pos
      holding [v,ov,iv] (setItem ov iv v)
      release [v,ov,iv] []):=by intro _; rfl):PG X (.Subscript o i pos) (gSub to ti t):=by
  intro pins s σ H v u Q I r h
  rw [ha]
  refine wpAny_bind (wpAny_holding (thn (ho pins s σ H _ I h) fun ov s1 ⟨x,H1,I1,r1,q1⟩=>?_))
  refine wpAny_bind (wpAny_holding (thn (hi pins s1 σ H1 _ I1 q1) fun iv s2 ⟨y,H2,I2,r2,q2⟩=>?_))
  refine wpAny_bind (wpAny_standAt (wpAny_bind (wpAny_holding (thn (hs pins s2 σ H2 x y v ov iv u _ I2 r1 r2 r q2) fun _ s3 ⟨H3,I3,q3⟩=>?_))))
  exact wpAny_release ⟨σ,H3,I3,q3⟩
def tAsg (te:TE) (g:TG):TS:=fun D σ H=>te σ H fun x H1=>g x σ H1 D.nx
theorem ps_asg {tg e:Expr} {te:TE} {g:TG} (he:PE X e te) (hg:PG X tg g) (hs:swapsWithSole [tg] e pos.line X.env=pure false:=by rfl) (hw:swappedStores [tg] e X.env=pure none:=by rfl)
    (h1:(assignEach [tg] X.env).map (·.2)=[assign tg X.env]:=by rfl):PS X (.Assign [tg] e pos) (tAsg te g):=by
  intro pins s σ H D I h
  refine wpAny_Assign_stores (thn (he pins s σ H _ I h) fun v s1 ⟨x,H1,I1,r1,q1⟩=>?_) hs hw
  rw [h1]
  exact thn (hg pins s1 σ H1 x v _ I1 r1 q1) fun _ s2 q=>q
theorem ps_set {i:Nat} {x:Str} {e:Expr} {te:TE} {pos':Pos} (hN:X.N.Nodup) (hi:X.N[i]?=some x) (hx:Loc X.env.scope x) (he:PE X e te) (hs:swapsWith e (some (.Name x pos')) pos.line X.env=pure false:=by rfl) (hf:X.fn x=true∨X.env.scope.names.lookup x=some .local:=by first | exact .inl rfl | exact .inr rfl | assumption) :
    PS X (.Assign [.Name x pos'] e pos) (tAsg te (gName i)):=by
  intro pins s σ H D I h
  refine wpAny_Assign_Name (thn (he pins s σ H _ I h) fun v s1 ⟨y,H1,I1,r1,q1⟩=>?_) hs
  exact store_ok I1 hN hi hx r1 (fun s2 I2=>⟨_,H1,I2,q1⟩) hf
def tAugS (to ti te:TE) (tget:V→V→Hp→VK→Prop) (tip:TIp) (tset:TSet):TS:=fun D σ H=>to σ H fun o H1=>ti σ H1 fun i H2=>tget o i H2 fun x H3=>te σ H3 fun y H4=>tip x y H4 fun z H5=>tset o i z H5 fun H6=>D.nx σ H6
def PGet (X:Cx) (t:V→V→Hp→VK→Prop):Prop :=
  ∀ (pins:List (Addr×Obj)) (s:Shared) (σ:St) (H:Hp) (o i:V) (ov iv:Value) (Q:VK),Inv X pins σ H s→RelV o ov→RelV i iv→t o i H Q →
    wpAny (model X.prog X.w) X.A (getItem ov iv) (EP X pins σ Q) X.xe s
theorem ps_augS {o i e:Expr} {to ti te:TE} {tget:V→V→Hp→VK→Prop} {tip:TIp} {tset:TSet} {op:Operator} {tpos:Pos} (ho:PE X o to) (hi:PE X i ti) (hg:PGet X tget) (he:PE X e te) (hp:PIp X op tip) (hs:PSet X tset)
    (ha:∀ ov iv new,augStore i ov iv new=(do holding [new,ov,iv] (setItem ov iv new); release [new,ov,iv] []; pure .next):=by intros; rfl):PS X (.AugAssign (.Subscript o i tpos) op e pos) (tAugS to ti te tget tip tset):=by
  intro pins s σ H D I h
  refine wpAny_AugAssign_SubscriptAny (thn (ho pins s σ H _ I h) fun ov s1 ⟨x1,H1,I1,r1,q1⟩=>?_) ha
  refine thn (hi pins s1 σ H1 _ I1 q1) fun iv s2 ⟨x2,H2,I2,r2,q2⟩=>?_
  refine thn (hg pins s2 σ H2 x1 x2 ov iv _ I2 r1 r2 q2) fun old s3 ⟨x3,H3,I3,r3,q3⟩=>?_
  refine thn (he pins s3 σ H3 _ I3 q3) fun v s4 ⟨x4,H4,I4,r4,q4⟩=>?_
  refine thn (hp pins s4 σ H4 x3 x4 old v _ I4 r3 r4 q4) fun new s5 ⟨x5,H5,I5,r5,q5⟩=>?_
  exact thn (hs pins s5 σ H5 x1 x2 x5 ov iv new _ I5 r1 r2 r5 q5) fun _ s6 ⟨H6,I6,q6⟩=>⟨σ,H6,I6,q6⟩
def ipI (f:Int→Int→Int):TIp:=fun x y H Q=>∃ i j,x=.int i∧y=.int j∧Q (.int (f i j)) H
theorem ip_sub:PIp X .Sub (ipI fun i j=>i-j):=by
  intro pins s σ H x y v u Q I r1 r2 h
  obtain ⟨i,j,e1,e2,q⟩:=h
  subst e1; subst e2
  obtain ⟨t,rfl⟩:=r1
  obtain ⟨t',rfl⟩:=r2
  exact isub_int ⟨.int _,H,I.tok _,⟨_,rfl⟩,q⟩
end
section
variable {X:Cx} {pos:Pos}
def tWhile (c:TT) (tb:TS):TS:=fun D σ H=>∃ W:Nat→St→Hp→Prop,(∃ m,W m σ H)∧∀ m σ H,W m σ H →
  c σ H fun b H1=>if b=true then ∃ N:St→Hp→Prop,(∀ σ' H',N σ' H'→∃ m',m'<m∧W m' σ' H')∧tb { D with nx:=N,ct:=N,bk:=D.nx } σ H1 else D.nx σ H1
theorem ps_while {c:Expr} {body:List Stmt} {tc:TT} {tb:TS} (hp:PassesOwn (model X.prog X.w) X.A X.env X.xe) (hc:PT X c tc) (hb:PSs X body tb):PS X (.While c body [] pos) (tWhile tc tb):=by
  intro pins s σ H D I h
  obtain ⟨W,⟨m0,w0⟩,turn⟩:=h
  refine wpAny_While (codeAny_whileLoop (fun n s'=>∃ σ' H',Inv X pins σ' H' s'∧W n σ' H') ?_ m0 ⟨σ,H,I,w0⟩)
  rintro n s1 ⟨σ1,H1,I1,w1⟩
  refine wpAny_passesOwn hp (thn (hc pins s1 σ1 H1 _ I1 (turn n σ1 H1 w1)) fun b s2 ⟨H2,I2,q2⟩=>?_)
  cases b with
  | true =>
    obtain ⟨N,hN,q2⟩:=q2
    rw [if_pos rfl]
    refine wpAny_passesOwn hp (thn (hb pins s2 σ1 H2 _ I2 q2) fun f s3 q3=>?_)
    cases f with
    | next =>
      obtain ⟨σ3,H3,I3,n3⟩:=q3
      obtain ⟨m',hm,w3⟩:=hN σ3 H3 n3
      exact ⟨m',hm,σ3,H3,I3,w3⟩
    | cont =>
      obtain ⟨σ3,H3,I3,n3⟩:=q3
      obtain ⟨m',hm,w3⟩:=hN σ3 H3 n3
      exact ⟨m',hm,σ3,H3,I3,w3⟩
    | brk=>exact q3
    | ret v=>exact q3
  | false =>
    rw [if_neg Bool.false_ne_true]
    exact wpAny_execs_nil ⟨σ1,H2,I2,q2⟩
end
structure It where
  go:Nat→Hp→Prop
  yld:Nat→Hp→V→Hp→Prop
  stop:Nat→Hp→Prop
def FpOk (X:Cx) (pins:List (Addr×Obj)) (H:Hp) (b:Addr):Prop :=
  H b=none∧b≠X.env.locals∧b∉X.fs∧(b∈X.ex∨X.s₀.heap.objs.size≤b)∧(∀ x c,X.env.cells.lookup x=some c→c≠b)∧∀ p∈X.pn++pins,p.1≠b
theorem Inv.fpOk {X:Cx} {pins:List (Addr×Obj)} {σ:St} {H H':Hp} {s:Shared} {b:Addr} (I:Inv X pins σ H s) (hb:s.heap.objs.size≤b) (hn:H' b=none):FpOk X pins H' b:=by
  refine ⟨hn,Nat.ne_of_gt (Nat.lt_of_lt_of_le I.lt hb),I.nofs hb,.inr (Nat.le_trans I.sz hb),fun x c e z=>?_,fun p hp z=>?_⟩
  · obtain ⟨v,q⟩:=I.cell x c e
    exact absurd (Nat.lt_of_lt_of_le q.lt (by rw [z]; exact hb)) (Nat.lt_irrefl _)
  · exact absurd (Nat.lt_of_lt_of_le (Heap.lt_size (I.pin p hp).1) (by rw [z]; exact hb)) (Nat.lt_irrefl _)
structure Turn (P:Program) (w:World) (K:PySem.W.Frag) (tg:Expr) (J:It) (fp:List Addr) (it:Addr) (tn:Nat→Heap→Prop):Prop where
  mem:it∈fp
  obj:∀ i h,tn i h→∀ b∈fp,∃ o,h.get? b=some o∧∀ v,o.data≠.cell v
  keep:∀ i h h',tn i h→(∀ b∈fp,∀ o,h.get? b=some o→h'.get? b=some o)→tn i h'
  item:∀ (X:Cx),X.prog=P→X.w=w→X.K=K→X.calm=true→∀ (i:Nat) (pins:List (Addr×Obj)) (s:Shared) (σ:St) (H:Hp) (E:Value→Shared→Prop),Inv X pins σ H s→(∀ b∈fp,FpOk X pins H b)→tn i s.heap→J.go i H →
    wpAny (model P w) X.A (pyNext (.ref it)) (fun r s1=>∃ u,r=some u ∧
      wpAny (model P w) X.A (letOwnedTupleGo tg (.ref it) u) (fun _ s2=>∃ x H',Inv X pins σ H' s2∧RelV x u∧J.yld i H x H'∧tn (i+1) s2.heap∧∀ b∈fp,H' b=none) E s1) E s
  done:∀ (X:Cx),X.prog=P→X.w=w→X.K=K→X.calm=true→∀ (i:Nat) (pins:List (Addr×Obj)) (s:Shared) (σ:St) (H:Hp) (E:Value→Shared→Prop),Inv X pins σ H s→(∀ b∈fp,FpOk X pins H b)→tn i s.heap→J.stop i H →
    wpAny (model P w) X.A (pyNext (.ref it)) (fun r s1=>r=none∧Inv X pins σ H s1) E s
  self:∀ (A:Around) (i:Nat) (s:Shared) (Q:Value→Shared→Prop) (E:Value→Shared→Prop),tn i s.heap→Q (.ref it) s→wpAny (model P w) A (pyIter (.ref it)) Q E s
abbrev TI:=St→Hp→(It→Hp→Prop)→Prop
def PIE (X:Cx) (pins:List (Addr×Obj)) (σ:St) (tg:Expr) (R:It→Hp→Prop) (itv:Value) (s2:Shared):Prop :=
  ∃ (it:Addr) (fp:List Addr) (tn:Nat→Heap→Prop) (J:It) (H':Hp),itv=.ref it∧Inv X pins σ H' s2∧Turn X.prog X.w X.K tg J fp it tn∧tn 0 s2.heap∧(∀ b∈fp,FpOk X pins H' b)∧R J H'
def PI (X:Cx) (tg iter:Expr) (wi:TI):Prop :=
  ∀ (pins:List (Addr×Obj)) (s:Shared) (σ:St) (H:Hp) (R:It→Hp→Prop),Inv X pins σ H s→wi σ H R →
    wpAny (model X.prog X.w) X.A (eval iter X.env) (fun v s1=>wpAny (model X.prog X.w) X.A (pyIter v) (PIE X pins σ tg R) X.xe s1) X.xe s
theorem go_of {M:Model} {A:Around} {E:Value→Shared→Prop} {s:Shared} {tg:Expr} {it:Addr} {u:Value} {o:Obj} {n:String} {vs:Array Value} {Q:Unit→Shared→Prop} (ho:s.heap.get? it=some o) (hc:o.cls=.type n) (hd:o.data=.fields vs)
    (hn:["enumerate", "zip", "dict_itemiterator", "dict_reverseitemiterator", "odict_iterator", "itertools.zip_longest", "itertools.pairwise"].contains n=false) (hQ:Q () s):wpAny M A (letOwnedTupleGo tg (.ref it) u) Q E s:=by
  unfold letOwnedTupleGo
  cases tg <;> first
    | exact wpAny_pure hQ
    | (cases u <;> first
        | exact wpAny_pure hQ
        | (refine wpAny_bind (wpAny_load ho ?_)
           rw [hc,hd]
           show wpAny M A (if (["enumerate", "zip", "dict_itemiterator", "dict_reverseitemiterator", "odict_iterator", "itertools.zip_longest", "itertools.pairwise"].contains n&&vs[0]?==some (rawInt _))=true then _ else _) Q E s
           rw [if_neg (by intro h; rw [hn,Bool.false_and] at h; cases h)]
           exact wpAny_pure hQ))
def Itl (K:PySem.W.Frag) (a:Addr):It :=
  ⟨fun i H=>∃ xs x,SqL K H a xs∧xs[i]?=some x,fun i H x H'=>H'=H∧∀ xs,SqL K H a xs→xs[i]?=some x,fun i H=>∃ xs,SqL K H a xs∧xs.length≤i⟩
def Itr (lo:Int) (n:Nat):It:=⟨fun i _=>i<n,fun i H x H'=>H'=H∧x=.int (lo+i),fun i _=>n≤i⟩
theorem turn_list {P:Program} {w:World} {K:PySem.W.Frag} {tg:Expr} (a it:Addr):Turn P w K tg (Itl K a) [it] it (fun i h=>h.IsListIter it a i) where
  mem:=by simp
  obj:=fun i h st b hb=>by
    have e:b=it:=by simpa using hb
    subst e
    obtain ⟨o,e,c,d⟩:=st
    exact ⟨o,e,fun v z=>by rw [d] at z; cases z⟩
  keep:=fun i h h' st k=>st.at fun o e=>k it (by simp) o e
  item:=by
    intro X hP hw hK hc i pins s σ H E I hf st hg
    subst hP hw hK
    obtain ⟨xs,x,hq,hx⟩:=hg
    obtain ⟨its,rv,p,hz⟩:=I.list hq
    obtain ⟨u,hu,ru⟩:=rv.get hx
    obtain ⟨f0,f1,f2,f3,f4,f5⟩:=hf it (by simp)
    refine wpAny_pyNext_list_item st p.isList (x:=u) (by simpa using hu) fun h' st' sb=>?_
    have I1:Inv X pins σ H { s with heap:=h' }:=I.turned (t':=s.toks) (fun b o hb e=>(sb.2 b hb).trans e) f0 f1 f3 f4 f5
    obtain ⟨o,e,c,d⟩:=id st'
    exact ⟨u,rfl,go_of (s:={ s with heap:=h' }) e c d (by decide) ⟨x,H,I1,ru,⟨rfl,fun ys hy=>by rw [I.list_inj hy hq]; exact hx⟩,st',fun b hb=>(hf b hb).1⟩⟩
  done:=by
    intro X hP hw hK hc i pins s σ H E I hf st hg
    subst hP hw hK
    obtain ⟨xs,hq,hx⟩:=hg
    obtain ⟨its,rv,p,hz⟩:=I.list hq
    obtain ⟨f0,f1,f2,f3,f4,f5⟩:=hf it (by simp)
    have hl:=rv.length
    exact wpAny_pyNext_list_end (I.ok.hd hc) st p.isList (by simp; omega) fun h' eb=>⟨rfl,I.turned (t':=s.toks) (fun b o hb e=>eb b o hb e) f0 f1 f3 f4 f5⟩
  self:=fun _ _ _ _ _ st h=>wpAny_pyIter_listiter st h
theorem turn_range {P:Program} {w:World} {K:PySem.W.Frag} {tg:Expr} (it:Addr) (lo:Int) (n:Nat):Turn P w K tg (Itr lo n) [it] it (fun i h=>IsRangeIter h it (lo+(i:Nat)*1) ((n:Int)-(i:Nat)) 1) where
  mem:=by simp
  obj:=fun i h st b hb=>by
    have e:b=it:=by simpa using hb
    subst e
    exact ⟨_,st,fun v z=>by
      have z':Data.fields _=Data.cell v:=z
      cases z'⟩
  keep:=fun i h h' st k=>k it (by simp) _ st
  item:=by
    intro X hP hw hK hc i pins s σ H E I hf st hg
    subst hP hw hK
    obtain ⟨f0,f1,f2,f3,f4,f5⟩:=hf it (by simp)
    have W:=Walks.range (prog:=X.prog) (w:=X.w) (I.ok.hd hc) it lo 1 n
    refine W.item i s _ _ hg st fun v h' tk hv st' kk=>?_
    obtain ⟨t,rfl⟩:=hv
    have I1:Inv X pins σ H { s with heap:=h',toks:=tk }:=I.turned (fun b o hb e=>kk b o (by simpa using hb) e) f0 f1 f3 f4 f5
    refine ⟨_,rfl,go_of (s:={ s with heap:=h',toks:=tk }) (n := "range_iterator") st' rfl rfl (by decide) ⟨.int (lo+i),H,I1,⟨t,?_⟩,⟨rfl,rfl⟩,st',fun b hb=>(hf b hb).1⟩⟩
    rw [Int.mul_one]
  done:=by
    intro X hP hw hK hc i pins s σ H E I hf st hg
    subst hP hw hK
    obtain ⟨f0,f1,f2,f3,f4,f5⟩:=hf it (by simp)
    exact wpAny_pyNext_range_end (I.ok.hd hc) st (by have:n≤i:=hg; omega) fun h' eb=>⟨rfl,I.turned (t':=s.toks) (fun b o hb e=>eb b o hb e) f0 f1 f3 f4 f5⟩
  self:=fun _ _ _ _ _ st h=>wpAny_pyIter_rangeiter st h
end L2
namespace L2
open PySem PySem.Spec PyProof.Rows
section
variable {X:Cx} {tg:Expr}
def iList (K:PySem.W.Frag) (tl:TE):TI:=fun σ H R=>tl σ H fun x H1=>∃ a,x=.ref a∧(∃ xs,SqL K H1 a xs)∧R (Itl K a) H1
theorem pi_list {l:Expr} {tl:TE} (hl:PE X l tl):PI X tg l (iList X.K tl):=by
  intro pins s σ H R I h
  refine thn (hl pins s σ H _ I h) fun v s1 ⟨x,H1,I1,r1,q1⟩=>?_
  obtain ⟨a,e,⟨xs,hq⟩,q⟩:=q1
  subst e
  cases r1
  obtain ⟨its,rv,p,hz⟩:=I1.list hq
  refine wpAny_pyIter_list p.isList ?_
  refine ⟨s1.heap.objs.size,[s1.heap.objs.size],_,_,H1,rfl,I1.kept (t':=s1.toks) fun b o e=>Heap.get?_push_of_some _ e,turn_list a _,⟨_,Heap.get?_push_size _ rfl,rfl,rfl⟩,fun b hb=>?_,q⟩
  have e:b=s1.heap.objs.size:=by simpa using hb
  subst e
  exact I1.fpOk (Nat.le_refl _) (I1.hok.fresh (Nat.le_refl _))
theorem range_it {pins:List (Addr×Obj)} {σ:St} {H:Hp} {s:Shared} {R:It→Hp→Prop} {E:Value→Shared→Prop} {lo hi:Int} {t u v:Tok} {tk:Nat} (I:Inv X pins σ H s) (h1:-(2 ^ 62)≤lo) (h2:lo<2 ^ 62) (h3:-(2 ^ 62)≤hi) (h4:hi<2 ^ 62)
    (q:R (Itr lo (hi-lo).toNat) H):wpAny (model X.prog X.w) X.A (pyIter (.ref s.heap.objs.size)) (PIE X pins σ tg R) E { s with heap:=s.heap.push { cls:=.type "range", data:=.fields #[.int lo t,.int hi u,.int 1 v] },toks:=tk }:=by
  refine wpAny_pyIter_range (IsRange.new ..) (small_one h1 h2 h3 h4) ?_
  have I1:Inv X pins σ H { s with heap:=s.heap.push { cls:=.type "range", data:=.fields #[.int lo t,.int hi u,.int 1 v] },toks:=tk }:=I.kept fun b o e=>Heap.get?_push_of_some _ e
  refine ⟨(s.heap.push { cls:=.type "range", data:=.fields #[.int lo t,.int hi u,.int 1 v] }).objs.size,[(s.heap.push { cls:=.type "range", data:=.fields #[.int lo t,.int hi u,.int 1 v] }).objs.size],_,_,H,rfl,
    I1.kept (t':=tk) fun b o e=>Heap.get?_push_of_some _ e,turn_range _ lo (hi-lo).toNat,?_,fun b hb=>?_,q⟩
  · have e1:lo+((0:Nat):Int)*1=lo:=by simp
    have e2:(((hi-lo).toNat:Nat):Int)-((0:Nat):Int)=Builtin.Range.rangeSize lo hi 1:=by rw [rangeSize_one]; split <;> omega
    show IsRangeIter _ _ (lo+((0:Nat):Int)*1) ((((hi-lo).toNat:Nat):Int)-((0:Nat):Int)) 1
    rw [e1,e2]
    exact Heap.get?_push_size _ rfl
  · have e:b=(s.heap.push { cls:=.type "range", data:=.fields #[.int lo t,.int hi u,.int 1 v] }).objs.size:=by simpa using hb
    subst e
    exact I1.fpOk (Nat.le_refl _) (I1.hok.fresh (Nat.le_refl _))
def iRng1 (ta:TA):TI:=fun σ H R=>ta σ H fun vs H1=>∃ j:Int,vs=[.int j]∧-(2 ^ 62)≤j∧j<2 ^ 62∧R (Itr 0 j.toNat) H1
def iRng2 (ta:TA):TI:=fun σ H R=>ta σ H fun vs H1=>∃ i j:Int,vs=[.int i,.int j]∧(-(2 ^ 62)≤i∧i<2 ^ 62∧-(2 ^ 62)≤j∧j<2 ^ 62)∧R (Itr i (j-i).toNat) H1
theorem pi_range1 {a:Expr} {ta:TA} {p pos:Pos} (hg:Gl X "range") (hm:X.mg "range" = none) (ha:PA X [a] ta) (hs:starEach [a] X.env=[(false,eval a X.env)]:=by rfl):PI X tg (.Call (.Name "range" p) [a] [] pos) (iRng1 ta):=by
  intro pins s σ H R I h
  refine Call_ (ld_blt I hg hm boot_range (PyProof.Rows.callWith_type1 (thn (ha pos pins s σ H _ I h) fun us s1 ⟨vs,H1,I1,r1,q1⟩=>?_) hs rfl))
  obtain ⟨j,e,q1,q2,q⟩:=q1
  subst e
  cases r1 with
  | cons r rr =>
    cases rr
    obtain ⟨t,rfl⟩:=r
    exact call_range_1 (range_it I1 (by omega) (by omega) q1 q2 (by simpa using q))
theorem pi_range2 {a b:Expr} {ta:TA} {p pos:Pos} (hg:Gl X "range") (hm:X.mg "range" = none) (ha:PA X [a,b] ta) (hs:starEach [a,b] X.env=[(false,eval a X.env),(false,eval b X.env)]:=by rfl) (hs2:starEach [b] X.env=[(false,eval b X.env)]:=by rfl) :
    PI X tg (.Call (.Name "range" p) [a,b] [] pos) (iRng2 ta):=by
  intro pins s σ H R I h
  refine Call_ (ld_blt I hg hm boot_range (PyProof.Rows.callWith_type1 (thn (ha pos pins s σ H _ I h) fun us s1 ⟨vs,H1,I1,r1,q1⟩=>?_) (by rw [hs,hs2]) (by rw [hs2]; rfl)))
  obtain ⟨i,j,e,⟨q1,q2,q3,q4⟩,q⟩:=q1
  subst e
  cases r1 with
  | cons r rr =>
    cases rr with
    | cons r' rr =>
      cases rr
      obtain ⟨t,rfl⟩:=r
      obtain ⟨t',rfl⟩:=r'
      exact call_range_2 (range_it I1 q1 q2 q3 q4 q)
def tFor (wi:TI) (g:TG) (tb:TS):TS:=fun D σ H=>wi σ H fun J H1=>∃ W:Nat→Nat→St→Hp→Prop,(∃ m,W 0 m σ H1)∧∀ i m σ H,W i m σ H →
  (J.stop i H∧D.nx σ H)∨(J.go i H∧∃ N:St→Hp→Prop,(∀ σ' H',N σ' H'→∃ m',m'<m∧W (i+1) m' σ' H')∧∀ x H',J.yld i H x H'→g x σ H' fun σ2 H2=>tb { D with nx:=N,ct:=N,bk:=D.nx } σ2 H2)
def pinsAt (fp:List Addr) (h:Heap):List (Addr×Obj):=fp.filterMap fun b=>(h.get? b).map fun o=>(b,o)
theorem mem_pinsAt {fp:List Addr} {h:Heap} {b:Addr} {o:Obj} (hb:b∈fp) (e:h.get? b=some o):(b,o)∈pinsAt fp h:=List.mem_filterMap.mpr ⟨b,hb,by rw [e]; rfl⟩
theorem of_pinsAt {fp:List Addr} {h:Heap} {p:Addr×Obj} (hp:p∈pinsAt fp h):p.1∈fp∧h.get? p.1=some p.2:=by
  obtain ⟨b,hb,e⟩:=List.mem_filterMap.mp hp
  cases q:h.get? b with
  | none=>rw [q] at e; cases e
  | some o =>
    rw [q] at e
    have e':(b,o)=p:=Option.some.inj e
    subst e'
    exact ⟨hb,q⟩
theorem Inv.pinned {pins:List (Addr×Obj)} {σ:St} {H:Hp} {s:Shared} {fp:List Addr} (I:Inv X pins σ H s) (hf:∀ b∈fp,FpOk X pins H b) (ho:∀ b∈fp,∃ o,s.heap.get? b=some o∧∀ v,o.data≠.cell v):Inv X (pins++pinsAt fp s.heap) σ H s :=
  I.pins_of fun p hp=>(List.mem_append.mp hp).elim (fun z=>I.pin p (List.mem_append_right _ z)) fun z=>by
    obtain ⟨hb,e⟩:=of_pinsAt z
    obtain ⟨f0,f1,f2,_⟩:=hf p.1 hb
    obtain ⟨o,e',d⟩:=ho p.1 hb
    rw [e] at e'; cases e'
    exact ⟨e,f0,f1,f2,d⟩
theorem Inv.unpinned {pins pl:List (Addr×Obj)} {σ:St} {H:Hp} {s:Shared} (I:Inv X (pins++pl) σ H s):Inv X pins σ H s:=I.pins_of fun p hp=>I.pin p (List.mem_append_right _ (List.mem_append_left _ hp))
theorem ps_for {iter:Expr} {body:List Stmt} {wi:TI} {g:TG} {tb:TS} {pos:Pos} (hp:PassesOwn (model X.prog X.w) X.A X.env X.xe) (hc:X.calm=true) (hi:PI X tg iter wi) (hg:PG X tg g) (hb:PSs X body tb)
    (hs:∀ x,foldedSetIterable iter X.env x=pure x:=by intro _; rfl):PS X (.For tg iter body [] pos) (tFor wi g tb):=by
  intro pins s σ H D I h
  refine wpAny_For (thn (hi pins s σ H _ I h) fun v s1 h1=>thn h1 fun itv s2 h2=>?_) hs
  obtain ⟨it,fp,tn,J,H2,e,I2,T,st2,f2,W,⟨m0,w0⟩,turn⟩:=h2
  subst e
  have stat:∀ {H':Hp},(∀ b∈fp,H' b=none)→∀ b∈fp,FpOk X pins H' b:=fun hn b hb=>⟨hn b hb,(f2 b hb).2⟩
  refine codeAny_forLoop_any (fun n s'=>∃ i σ' H',Inv X pins σ' H' s'∧tn i s'.heap∧(∀ b∈fp,H' b=none)∧W i n σ' H') ?_ m0 ⟨0,σ,H2,I2,st2,fun b hb=>(f2 b hb).1,w0⟩
  rintro n s3 ⟨i,σ3,H3,I3,st3,fr3,w3⟩
  rcases turn i n σ3 H3 w3 with ⟨stop,qn⟩ | ⟨go,N,hN,step⟩
  · refine wpAny_passesOwn hp (thn (T.done X rfl rfl rfl hc i pins s3 σ3 H3 X.xe I3 (stat fr3) st3 stop) fun r s4 ⟨hr,I4⟩=>?_)
    subst hr
    exact wpAny_execs_nil ⟨σ3,H3,I4,qn⟩
  · refine wpAny_passesOwn hp (thn (T.item X rfl rfl rfl hc i pins s3 σ3 H3 X.xe I3 (stat fr3) st3 go) fun r s4 ⟨u,hr,h4⟩=>?_)
    subst hr
    refine wpAny_passesOwn hp (thn h4 fun _ s5 ⟨x,H5,I5,r5,y5,st5,fr5⟩=>?_)
    have I5':=I5.pinned (stat fr5) (T.obj _ _ st5)
    refine wpAny_passesOwn hp (thn (hg _ s5 σ3 H5 x u _ I5' r5 (step x H5 y5)) fun _ s6 ⟨σ6,H6,I6,q6⟩=>?_)
    refine wpAny_passesOwn hp (thn (hb _ s6 σ6 H6 _ I6 q6) fun f s7 q7=>?_)
    have again:∀ {σ7:St} {H7:Hp},Inv X (pins++pinsAt fp s5.heap) σ7 H7 s7→N σ7 H7→∃ m,m<n∧∃ i σ' H',Inv X pins σ' H' s7∧tn i s7.heap∧(∀ b∈fp,H' b=none)∧W i m σ' H':=fun {σ7 H7} I7 n7=>by
      obtain ⟨m',hm,w7⟩:=hN σ7 H7 n7
      refine ⟨m',hm,i+1,σ7,H7,I7.unpinned,T.keep _ _ _ st5 fun b hb o e=>(I7.pin (b,o) (List.mem_append_right _ (List.mem_append_right _ (mem_pinsAt hb e)))).1,fun b hb=>?_,w7⟩
      obtain ⟨o,e,d⟩:=T.obj _ _ st5 b hb
      exact (I7.pin (b,o) (List.mem_append_right _ (List.mem_append_right _ (mem_pinsAt hb e)))).2.1
    cases f with
    | next=>obtain ⟨σ7,H7,I7,n7⟩:=q7; exact again I7 n7
    | cont=>obtain ⟨σ7,H7,I7,n7⟩:=q7; exact again I7 n7
    | brk=>obtain ⟨σ7,H7,I7,q7⟩:=q7; exact ⟨σ7,H7,I7.unpinned,q7⟩
    | ret v=>obtain ⟨x7,σ7,H7,I7,r7,q7⟩:=q7; exact ⟨x7,σ7,H7,I7.unpinned,r7,q7⟩
end
end L2
namespace L2
open PySem PySem.Spec PyProof.Rows
abbrev R2:=V→V→Hp→VK→Prop
def OpR (X:Cx) (f:Value→Value→Sem Value) (r:R2):Prop :=
  ∀ (pins:List (Addr×Obj)) (s:Shared) (σ:St) (H:Hp) (x y:V) (v u:Value) (Q:VK),Inv X pins σ H s→RelV x v→RelV y u→r x y H Q →
    wpAny (model X.prog X.w) X.A (f v u) (EP X pins σ Q) X.xe s
def UnR (X:Cx) (f:Value→Sem Value) (r:V→Hp→VK→Prop):Prop :=
  ∀ (pins:List (Addr×Obj)) (s:Shared) (σ:St) (H:Hp) (x:V) (v:Value) (Q:VK),Inv X pins σ H s→RelV x v→r x H Q →
    wpAny (model X.prog X.w) X.A (f v) (EP X pins σ Q) X.xe s
def CallR (X:Cx) (f:Value) (r:List V→Hp→VK→Prop):Prop :=
  ∀ (pins:List (Addr×Obj)) (s:Shared) (σ:St) (H:Hp) (xs:List V) (us:List Value) (Q:VK),Inv X pins σ H s→Vals xs us→r xs H Q →
    wpAny (model X.prog X.w) X.A (call f us) (EP X pins σ Q) X.xe s
def TruR (X:Cx) (r:V→Hp→(Bool→Hp→Prop)→Prop):Prop :=
  ∀ (pins:List (Addr×Obj)) (s:Shared) (σ:St) (H:Hp) (x:V) (v:Value) (Q:Bool→Hp→Prop),Inv X pins σ H s→RelV x v→r x H Q →
    wpAny (model X.prog X.w) X.A (truthy v) (TP X pins σ Q) X.xe s
def tOp (r:R2) (ta tb:TE):TE:=fun σ H Q=>ta σ H fun x H1=>tb σ H1 fun y H2=>r x y H2 Q
def tUn (r:V→Hp→VK→Prop) (ta:TE):TE:=fun σ H Q=>ta σ H fun x H1=>r x H1 Q
def rI (C:Int→Int→Prop) (g:Int→Int→V):R2:=fun x y H Q=>∃ i j,x=.int i∧y=.int j∧C i j∧Q (g i j) H
def rI0 (g:Int→Int→V):R2:=fun x y H Q=>∃ i j,x=.int i∧y=.int j∧Q (g i j) H
def rU (g:Int→V):V→Hp→VK→Prop:=fun x H Q=>∃ i,x=.int i∧Q (g i) H
section
variable {X:Cx} {a b c:Expr} {ta tb tc:TE} {pos:Pos}
theorem binT (ha:PE X a ta) (hb:PE X b tb) {pins:List (Addr×Obj)} {s:Shared} {σ:St} {H:Hp} {R:V→V→Hp→Prop} (I:Inv X pins σ H s)
    (h:ta σ H fun x H1=>tb σ H1 fun y H2=>R x y H2) {Q:Value→Shared→Prop} {f:Value→Value→Sem Value}
    (hf:∀ v u s2 x y H2,Inv X pins σ H2 s2→RelV x v→RelV y u→R x y H2→wpAny (model X.prog X.w) X.A (f v u) Q X.xe s2) :
    wpAny (model X.prog X.w) X.A (eval a X.env) (fun v s₁=>wpAny (model X.prog X.w) X.A (eval b X.env) (fun u s₂=>wpAny (model X.prog X.w) X.A (f v u) Q X.xe s₂) X.xe s₁) X.xe s:=by
  refine thn (ha pins s σ H _ I h) fun v s1 ⟨x,H1,I1,r1,q1⟩=>?_
  refine thn (hb pins s1 σ H1 _ I1 q1) fun u s2 ⟨y,H2,I2,r2,q2⟩=>?_
  exact hf v u s2 x y H2 I2 r1 r2 q2
theorem pe_op {op:Operator} {r:R2} (ho:OpR X (binaryOp op) r) (ha:PE X a ta) (hb:PE X b tb):PE X (.BinOp a op b pos) (tOp r ta tb):=by
  intro pins s σ H Q I h
  exact wpAny_BinOp (binT ha hb I h fun v u s2 x y H2 I2 rx ry q=>ho pins s2 σ H2 x y v u Q I2 rx ry q)
theorem pe_un {op:UnaryOp} {r:V→Hp→VK→Prop} (ho:UnR X (unaryOp op) r) (ha:PE X a ta):PE X (.UnaryOp op a pos) (tUn r ta):=by
  intro pins s σ H Q I h
  exact UnaryOp_ (thn (ha pins s σ H _ I h) fun v s1 ⟨x,H1,I1,r1,q1⟩=>ho pins s1 σ H1 x v Q I1 r1 q1)
theorem opI {f:Value→Value→Sem Value} {C:Int→Int→Prop} {g:Int→Int→Int}
    (rule:∀ (i j:Int) (t u:Tok) (s:Shared) (Q:Value→Shared→Prop) (E:Value→Shared→Prop),C i j→Q (.int (g i j) s.toks) { s with toks:=s.toks+1 }→wpAny (model X.prog X.w) X.A (f (.int i t) (.int j u)) Q E s) :
    OpR X f (rI C fun i j=>.int (g i j)):=by
  intro pins s σ H x y v u Q I rx ry h
  obtain ⟨i,j,rfl,rfl,hc,q⟩:=h
  obtain ⟨t,rfl⟩:=rx
  obtain ⟨t',rfl⟩:=ry
  exact rule i j t t' s _ _ hc ⟨.int (g i j),H,I.tok _,⟨_,rfl⟩,q⟩
theorem opI0 {f:Value→Value→Sem Value} {g:Int→Int→Int}
    (rule:∀ (i j:Int) (t u:Tok) (s:Shared) (Q:Value→Shared→Prop) (E:Value→Shared→Prop),Q (.int (g i j) s.toks) { s with toks:=s.toks+1 }→wpAny (model X.prog X.w) X.A (f (.int i t) (.int j u)) Q E s) :
    OpR X f (rI0 fun i j=>.int (g i j)):=by
  intro pins s σ H x y v u Q I rx ry h
  obtain ⟨i,j,rfl,rfl,q⟩:=h
  obtain ⟨t,rfl⟩:=rx
  obtain ⟨t',rfl⟩:=ry
  exact rule i j t t' s _ _ ⟨.int (g i j),H,I.tok _,⟨_,rfl⟩,q⟩
theorem opB0 {f:Value→Value→Sem Value} {g:Int→Int→Bool}
    (rule:∀ (i j:Int) (t u:Tok) (s:Shared) (Q:Value→Shared→Prop) (E:Value→Shared→Prop),Q (.bool (g i j)) s→wpAny (model X.prog X.w) X.A (f (.int i t) (.int j u)) Q E s) :
    OpR X f (rI0 fun i j=>.bl (g i j)):=by
  intro pins s σ H x y v u Q I rx ry h
  obtain ⟨i,j,rfl,rfl,q⟩:=h
  obtain ⟨t,rfl⟩:=rx
  obtain ⟨t',rfl⟩:=ry
  exact rule i j t t' s _ _ ⟨.bl (g i j),H,I,rfl,q⟩
def CPow (i j:Int):Prop:=0≤j∧j≤1000000∧i.natAbs<2 ^ 64
def CMul (i j:Int):Prop:=(-(2 ^ 64)<i∧i<2 ^ 64)∨(-(2 ^ 64)<j∧j<2 ^ 64)
theorem CMul.ok {i j:Int} (h:CMul i j):IntMulOk i j:=by
  rcases h with ⟨h1,h2⟩ | ⟨h1,h2⟩
  · exact .of_left (intBits_le_64 h1 h2)
  · exact .of_right (intBits_le_64 h1 h2)
theorem op_add:OpR X (binaryOp .Add) (rI0 fun i j=>.int (i+j)):=opI0 fun _ _ _ _ _ _ _ q=>add_int q
theorem op_sub:OpR X (binaryOp .Sub) (rI0 fun i j=>.int (i-j)):=opI0 fun _ _ _ _ _ _ _ q=>sub_int q
theorem op_mod:OpR X (binaryOp .Mod) (rI (fun _ j=>0<j) fun i j=>.int (i % j)):=opI fun i j _ _ _ _ _ hc q=>by
  have h1:(0:Int)<j:=hc
  exact mod_int' (by omega) (by rw [Int.fmod_eq_emod_of_nonneg i (by omega)]; exact q)
theorem op_pow:OpR X (binaryOp .Pow) (rI CPow fun i j=>.int (i ^ j.toNat)):=opI fun _ _ _ _ _ _ _ hc q=>pow_int_small hc.1 hc.2.1 hc.2.2 q
theorem unI {f:Value→Sem Value} {g:Int→Int}
    (rule:∀ (i:Int) (t:Tok) (s:Shared) (Q:Value→Shared→Prop) (E:Value→Shared→Prop),Q (.int (g i) s.toks) { s with toks:=s.toks+1 }→wpAny (model X.prog X.w) X.A (f (.int i t)) Q E s) :
    UnR X f (rU fun i=>.int (g i)):=by
  intro pins s σ H x v Q I rx h
  obtain ⟨i,rfl,q⟩:=h
  obtain ⟨t,rfl⟩:=rx
  exact rule i t s _ _ ⟨.int (g i),H,I.tok _,⟨_,rfl⟩,q⟩
theorem un_neg:UnR X (unaryOp .USub) (rU fun i=>.int (-i)):=unI fun _ _ _ _ _ q=>neg_int q
end
def scal:V→V→Bool
  | .non,.non=>true | .non,.int _=>true | .int _,.non=>true | .non,.bl _=>true | .bl _,.non=>true | .non,.str _=>true | .str _,.non=>true
  | .int _,.int _=>true | .bl _,.bl _=>true | .str _,.str _=>true | .byt _,.byt _=>true
  | .int _,.str _=>true | .str _,.int _=>true | .bl _,.str _=>true | .str _,.bl _=>true
  | _,_=>false
def rEq:R2:=fun x y H Q=>scal x y=true∧Q (.bl (decide (x=y))) H
def rNe:R2:=fun x y H Q=>scal x y=true∧Q (.bl (!decide (x=y))) H
theorem dec_int {i j:Int}:decide (V.int i=V.int j)=(i==j):=by
  rw [Bool.eq_iff_iff]
  simp
theorem dec_bl {i j:Bool}:decide (V.bl i=V.bl j)=(i==j):=by
  rw [Bool.eq_iff_iff]
  simp
theorem dec_str {i j:Str}:decide (V.str i=V.str j)=(i==j):=by
  rw [Bool.eq_iff_iff]
  simp
theorem dec_byt {i j:Array UInt8}:decide (V.byt i=V.byt j)=(i.toList==j.toList):=by
  rw [Bool.eq_iff_iff]
  cases i
  cases j
  simp
section
variable {X:Cx} {a b c:Expr} {ta tb tc:TE} {pos:Pos}
theorem fin_bl {pins:List (Addr×Obj)} {σ:St} {H:Hp} {s:Shared} {Q:VK} {k k':Bool} (I:Inv X pins σ H s) (q:Q (.bl k) H) (e:k=k'):EP X pins σ Q (.bool k') s:=by
  subst e
  exact ⟨.bl k,H,I,rfl,q⟩
theorem op_eq:OpR X (compareOp .Eq) rEq:=by
  intro pins s σ H x y v u Q I rx ry h
  obtain ⟨hs,q⟩:=h
  cases x with
  | non =>
    cases rx
    cases y with
    | non=>cases ry; exact PySem.EqNone.eq_none_none (fin_bl I q (by simp))
    | bl j=>cases ry; exact PySem.EqNone.eq_none_bool (fin_bl I q (by simp))
    | int j=>obtain ⟨t',rfl⟩:=ry; exact PySem.EqNone.eq_none_int (fin_bl I q (by simp))
    | str j=>obtain ⟨t',rfl⟩:=ry; exact PySem.EqNone.eq_none_str (fin_bl I q (by simp))
    | _=>exact absurd (show false=true from hs) Bool.false_ne_true
  | bl i =>
    cases rx
    cases y with
    | non=>cases ry; exact PySem.EqNone.eq_bool_none (fin_bl I q (by simp))
    | bl j=>cases ry; exact eq_bool (fin_bl I q dec_bl)
    | str j=>obtain ⟨t',rfl⟩:=ry; exact PySem.EqMixed.eq_bool_str (fin_bl I q (by simp))
    | _=>exact absurd (show false=true from hs) Bool.false_ne_true
  | int i =>
    obtain ⟨t,rfl⟩:=rx
    cases y with
    | non=>cases ry; exact PySem.EqNone.eq_int_none (fin_bl I q (by simp))
    | int j=>obtain ⟨t',rfl⟩:=ry; exact eq_int (fin_bl I q dec_int)
    | str j=>obtain ⟨t',rfl⟩:=ry; exact PySem.EqMixed.eq_int_str (fin_bl I q (by simp))
    | _=>exact absurd (show false=true from hs) Bool.false_ne_true
  | str i =>
    obtain ⟨t,rfl⟩:=rx
    cases y with
    | non=>cases ry; exact PySem.EqNone.eq_str_none (fin_bl I q (by simp))
    | bl j=>cases ry; exact PySem.EqMixed.eq_str_bool (fin_bl I q (by simp))
    | int j=>obtain ⟨t',rfl⟩:=ry; exact PySem.EqMixed.eq_str_int (fin_bl I q (by simp))
    | str j=>obtain ⟨t',rfl⟩:=ry; exact eq_str (fin_bl I q dec_str)
    | _=>exact absurd (show false=true from hs) Bool.false_ne_true
  | byt i =>
    obtain ⟨t,rfl⟩:=rx
    cases y with
    | byt j=>obtain ⟨t',rfl⟩:=ry; exact PySem.W.eq_bytes (fin_bl I q dec_byt)
    | _=>exact absurd (show false=true from hs) Bool.false_ne_true
  | _=>cases y <;> exact absurd (show false=true from hs) Bool.false_ne_true
theorem op_ne:OpR X (compareOp .NotEq) rNe:=by
  intro pins s σ H x y v u Q I rx ry h
  obtain ⟨hs,q⟩:=h
  cases x with
  | non =>
    cases rx
    cases y with
    | non=>cases ry; exact PySem.EqNone.ne_none_none (fin_bl I q (by simp))
    | bl j=>cases ry; exact PySem.EqNone.ne_none_bool (fin_bl I q (by simp))
    | int j=>obtain ⟨t',rfl⟩:=ry; exact PySem.EqNone.ne_none_int (fin_bl I q (by simp))
    | str j=>obtain ⟨t',rfl⟩:=ry; exact PySem.EqNone.ne_none_str (fin_bl I q (by simp))
    | _=>exact absurd (show false=true from hs) Bool.false_ne_true
  | bl i =>
    cases rx
    cases y with
    | non=>cases ry; exact PySem.EqNone.ne_bool_none (fin_bl I q (by simp))
    | bl j=>cases ry; exact ne_bool (fin_bl I q (congrArg not dec_bl))
    | str j=>obtain ⟨t',rfl⟩:=ry; exact PySem.EqMixed.ne_bool_str (fin_bl I q (by simp))
    | _=>exact absurd (show false=true from hs) Bool.false_ne_true
  | int i =>
    obtain ⟨t,rfl⟩:=rx
    cases y with
    | non=>cases ry; exact PySem.EqNone.ne_int_none (fin_bl I q (by simp))
    | int j=>obtain ⟨t',rfl⟩:=ry; exact ne_int (fin_bl I q (congrArg not dec_int))
    | str j=>obtain ⟨t',rfl⟩:=ry; exact PySem.EqMixed.ne_int_str (fin_bl I q (by simp))
    | _=>exact absurd (show false=true from hs) Bool.false_ne_true
  | str i =>
    obtain ⟨t,rfl⟩:=rx
    cases y with
    | non=>cases ry; exact PySem.EqNone.ne_str_none (fin_bl I q (by simp))
    | bl j=>cases ry; exact PySem.EqMixed.ne_str_bool (fin_bl I q (by simp))
    | int j=>obtain ⟨t',rfl⟩:=ry; exact PySem.EqMixed.ne_str_int (fin_bl I q (by simp))
    | str j=>obtain ⟨t',rfl⟩:=ry; exact ne_str (fin_bl I q (congrArg not dec_str))
    | _=>exact absurd (show false=true from hs) Bool.false_ne_true
  | byt i =>
    obtain ⟨t,rfl⟩:=rx
    cases y with
    | byt j=>obtain ⟨t',rfl⟩:=ry; exact PySem.W.ne_bytes (fin_bl I q (congrArg not dec_byt))
    | _=>exact absurd (show false=true from hs) Bool.false_ne_true
  | _=>cases y <;> exact absurd (show false=true from hs) Bool.false_ne_true
theorem op_lt:OpR X (compareOp .Lt) (rI0 fun i j=>.bl (decide (i<j))):=opB0 fun _ _ _ _ _ _ _ q=>lt_int q
theorem op_le:OpR X (compareOp .LtE) (rI0 fun i j=>.bl (decide (i≤j))):=opB0 fun _ _ _ _ _ _ _ q=>le_int q
theorem op_gt:OpR X (compareOp .Gt) (rI0 fun i j=>.bl (decide (j<i))):=opB0 fun _ _ _ _ _ _ _ q=>gt_int q
theorem op_isN:OpR X (compareOp .Is) (fun x y H Q=>y=.non∧Q (.bl (decide (x=.non))) H):=by
  intro pins s σ H x y v u Q I rx ry h
  obtain ⟨rfl,q⟩:=h
  cases ry
  refine is_none_gen (fin_bl I q ?_)
  cases x <;> first
    | (cases rx; rfl)
    | (obtain ⟨t,rfl⟩:=rx; rfl)
theorem op_notN:OpR X (compareOp .IsNot) (fun x y H Q=>y=.non∧Q (.bl (!decide (x=.non))) H):=by
  intro pins s σ H x y v u Q I rx ry h
  obtain ⟨rfl,q⟩:=h
  cases ry
  refine isnot_none_gen (fin_bl I q ?_)
  cases x <;> first
    | (cases rx; rfl)
    | (obtain ⟨t,rfl⟩:=rx; rfl)
theorem nomark (b:Expr) {op:CmpOp} (h:op≠.In:=by decide) (h2:op≠.NotIn:=by decide):behindInMarks op b=false:=by
  have e1:(op==CmpOp.In)=false:=by cases op <;> first | rfl | exact absurd rfl h
  have e2:(op==CmpOp.NotIn)=false:=by cases op <;> first | rfl | exact absurd rfl h2
  cases b <;> simp [behindInMarks,e1,e2]
theorem pe_cmpR {op:CmpOp} {r:R2} (ho:OpR X (compareOp op) r) (ha:PE X a ta) (hb:PE X b tb) (hm:behindInMarks op b=false):PE X (.Compare a [op] [b] pos) (tOp r ta tb):=by
  intro pins s σ H Q I h
  exact wpAny_Compare1 (binT ha hb I h fun v u s2 x y H2 I2 rx ry q=>ho pins s2 σ H2 x y v u Q I2 rx ry q) hm
def tTest (t:TE):TT:=fun σ H Q=>t σ H fun x H'=>∃ k,x=.bl k∧Q k H'
theorem pt_cmpR {op:CmpOp} {r:R2} (ho:OpR X (compareOp op) r) (ha:PE X a ta) (hb:PE X b tb) (hm:behindInMarks op b=false):PT X (.Compare a [op] [b] pos) (tTest (tOp r ta tb)):=by
  intro pins s σ H Q I h
  refine wpAny_isTrue_Compare1 (thn (ha pins s σ H _ I h) fun v s1 ⟨x,H1,I1,r1,q1⟩=>thn (hb pins s1 σ H1 _ I1 q1) fun u s2 ⟨y,H2,I2,r2,q2⟩ =>
    thn (ho pins s2 σ H2 x y v u _ I2 r1 r2 q2) fun c s3 ⟨z,H3,I3,r3,k,e,q3⟩=>?_) hm
  subst e
  cases r3
  exact wpAny_truthy_bool ⟨H3,I3,q3⟩
def TruV (K:PySem.W.Frag) (x:V) (H:Hp) (k:Bool):Prop :=
  match x with
  | .non=>k=false
  | .bl b=>k=b
  | .int i=>k=(i != 0)
  | .str y=>y.length≤sizeLine∧k=((y.length:Int) != 0)
  | .byt y=>y.size≤sizeLine∧k=((y.size:Int) != 0)
  | .ref p=>(∃ xs,SqL K H p xs∧k=!xs.isEmpty)∨(∃ xs,SqT K H p xs∧k=!xs.isEmpty)∨∃ kvs,H p=some (.dK kvs)∧k=!kvs.isEmpty
  | _=>False
theorem isEmpty_kv {κ:Type} {kvs:List (κ×V)} {vs:List (κ×Value)} (r:KV kvs vs):(!vs.isEmpty)=!kvs.isEmpty:=by
  cases r <;> rfl
theorem isEmpty_of {xs:List V} {its:List Value} (r:Vals xs its):(!its.toArray.isEmpty)=!xs.isEmpty:=by
  cases r <;> simp
theorem line63:(sizeLine:Nat)<2 ^ 63:=by rw [sizeLine_eq]; decide
theorem tru_ok:TruR X (fun x H Q=>∃ k,TruV X.K x H k∧Q k H):=by
  intro pins s σ H x v Q I rx h
  obtain ⟨k,e,q⟩:=h
  have hl:=line63
  have hs:sizeLine=16777216:=sizeLine_eq
  cases x with
  | non =>
    cases rx
    have e':k=false:=e
    subst e'
    exact truthy_none ⟨H,I,q⟩
  | bl b =>
    cases rx
    have e':k=b:=e
    subst e'
    exact wpAny_truthy_bool ⟨H,I,q⟩
  | int i =>
    obtain ⟨t,rfl⟩:=rx
    have e':k=(i != 0):=e
    subst e'
    exact PySem.P.truthy_int ⟨H,I,q⟩
  | str y =>
    obtain ⟨t,rfl⟩:=rx
    obtain ⟨hy,e'⟩:y.length≤sizeLine∧k=((y.length:Int) != 0):=e
    subst e'
    exact PySem.P.truthy_str (by omega) ⟨H,I.tok _,q⟩
  | byt y =>
    obtain ⟨t,rfl⟩:=rx
    obtain ⟨hy,e'⟩:y.size≤sizeLine∧k=((y.size:Int) != 0):=e
    subst e'
    exact PySem.W.truthy_bytes (by omega) ⟨H,I.tok _,q⟩
  | ref p =>
    cases rx
    have e':(∃ xs,SqL X.K H p xs∧k=!xs.isEmpty)∨(∃ xs,SqT X.K H p xs∧k=!xs.isEmpty)∨∃ kvs,H p=some (.dK kvs)∧k=!kvs.isEmpty:=e
    rcases e' with ⟨xs,hx,e'⟩ | ⟨xs,hx,e'⟩ | ⟨kvs,hx,e'⟩
    · subst e'
      obtain ⟨its,r,pl,hz⟩:=I.list hx
      have hlen:=r.length
      exact wpAny_truthy_list pl.isList (by simp only [List.size_toArray]; omega) ⟨H,I.tok _,by rw [isEmpty_of r]; exact q⟩
    · subst e'
      obtain ⟨its,r,pl,hz⟩:=I.tuple hx
      have hlen:=r.length
      exact truthy_tuple pl (by simp only [List.size_toArray]; omega) ⟨H,I.tok _,by rw [isEmpty_of r]; exact q⟩
    · subst e'
      obtain ⟨hz,hS,vs,r,m⟩:kvs.length≤sizeLine∧(p==sysModules)=false∧∃ vs,KV kvs vs∧s.heap.DictOf (mixKind X.prog X.w) p vs:=I.hok p _ hx
      have hlen:kvs.length=vs.length:=Paired.length r
      exact wpAny_truthy_dict hS m (by omega) ⟨H,I.tok _,by rw [isEmpty_kv r]; exact q⟩
  | _=>exact (show False from e).elim
theorem pt_truth (ha:PE X a ta) (he:∀ whole,isTrue a X.env whole=(do let v ← whole; standAt a.pos; holding [v] (truthy v))) :
    PT X a (fun σ H Q=>ta σ H fun x H'=>∃ k,TruV X.K x H' k∧Q k H'):=by
  intro pins s σ H Q I h
  exact isTrue_plain (thn (ha pins s σ H _ I h) fun v s1 ⟨x,H1,I1,r1,q1⟩=>tru_ok pins s1 σ H1 x v Q I1 r1 q1) (he _)
theorem vals1 {x:V} {us:List Value} (r:Vals [x] us):∃ u,us=[u]∧RelV x u:=by
  cases r with
  | cons r1 r2=>cases r2; exact ⟨_,rfl,r1⟩
theorem vals2 {x y:V} {us:List Value} (r:Vals [x,y] us):∃ u w',us=[u,w']∧RelV x u∧RelV y w':=by
  cases r with
  | cons r1 r2 =>
    cases r2 with
    | cons r3 r4=>cases r4; exact ⟨_,_,rfl,r1,r3⟩
theorem call_max2 (hc:X.calm=true):CallR X (.builtin "max") (fun xs H Q=>∃ i j,xs=[.int i,.int j]∧Q (.int (if j > i then j else i)) H):=by
  intro pins s σ H xs us Q I r h
  obtain ⟨i,j,rfl,q⟩:=h
  obtain ⟨u,w',rfl,⟨t,rfl⟩,⟨t',rfl⟩⟩:=vals2 r
  refine max_two_ints (I.ok.hd hc) fun h' tk k=>⟨_,H,I.kept k,?_,q⟩
  by_cases hj:j > i
  · rw [if_pos hj,if_pos hj]; exact ⟨_,rfl⟩
  · rw [if_neg hj,if_neg hj]; exact ⟨_,rfl⟩
theorem call_min2 (hc:X.calm=true):CallR X (.builtin "min") (fun xs H Q=>∃ i j,xs=[.int i,.int j]∧Q (.int (if j<i then j else i)) H):=by
  intro pins s σ H xs us Q I r h
  obtain ⟨i,j,rfl,q⟩:=h
  obtain ⟨u,w',rfl,⟨t,rfl⟩,⟨t',rfl⟩⟩:=vals2 r
  refine min_two_ints (I.ok.hd hc) fun h' tk k=>⟨_,H,I.kept k,?_,q⟩
  by_cases hj:j<i
  · rw [if_pos hj,if_pos hj]; exact ⟨_,rfl⟩
  · rw [if_neg hj,if_neg hj]; exact ⟨_,rfl⟩
def LenV (K:PySem.W.Frag) (x:V) (H:Hp) (n:Nat):Prop :=
  match x with
  | .str y=>y.length≤sizeLine∧n=y.length
  | .byt y=>y.size≤sizeLine∧n=y.size
  | .ref p=>(∃ xs,SqL K H p xs∧n=xs.length)∨∃ xs,SqT K H p xs∧n=xs.length
  | _=>False
theorem call_len:CallR X (.builtin "len") (fun xs H Q=>∃ x n,xs=[x]∧LenV X.K x H n∧Q (.int n) H):=by
  intro pins s σ H xs us Q I r h
  obtain ⟨x,n,rfl,e,q⟩:=h
  obtain ⟨u,rfl,rx⟩:=vals1 r
  have hl:=line63
  have hs:sizeLine=16777216:=sizeLine_eq
  cases x with
  | str y =>
    obtain ⟨t,rfl⟩:=rx
    obtain ⟨hy,e'⟩:y.length≤sizeLine∧n=y.length:=e
    subst e'
    exact len_str (by omega) ⟨.int _,H,I.tok _,⟨_,rfl⟩,q⟩
  | byt y =>
    obtain ⟨t,rfl⟩:=rx
    obtain ⟨hy,e'⟩:y.size≤sizeLine∧n=y.size:=e
    subst e'
    exact PySem.W.len_bytes (by omega) ⟨.int _,H,I.tok _,⟨_,rfl⟩,q⟩
  | ref p =>
    cases rx
    have e':(∃ xs,SqL X.K H p xs∧n=xs.length)∨∃ xs,SqT X.K H p xs∧n=xs.length:=e
    rcases e' with ⟨xs,hx,e'⟩ | ⟨xs,hx,e'⟩
    · subst e'
      obtain ⟨its,r',pl,hz⟩:=I.list hx
      have hlen:=r'.length
      exact Calls.call_len_list pl.isList (by simp only [List.size_toArray]; omega) ⟨.int xs.length,H,I.tok _,⟨_,by simp only [List.size_toArray]; rw [hlen]⟩,q⟩
    · subst e'
      obtain ⟨its,r',pl,hz⟩:=I.tuple hx
      have hlen:=r'.length
      exact len_tuple pl (by simp only [List.size_toArray]; omega) ⟨.int xs.length,H,I.tok _,⟨_,by simp only [List.size_toArray]; rw [hlen]⟩,q⟩
  | _=>exact (show False from e).elim
end
end L2
namespace L2
open PySem PySem.Spec PyProof.Rows
structure ObjM (h:Heap) (x dx C:Addr) (mA:Str→Option Value):Prop where
  obj:h.get? x=some (PySem.W.instObj C dx)
  ns:h.Ns1 dx mA
  ne:dx≠x
theorem lookIn_ns {h:Heap} {dx:Addr} {mA:Str→Option Value} (n:h.Ns1 dx mA):∃ od,h.get? dx=some od∧∀ name,PySem.W.lookIn name od=some (mA name):=by
  obtain ⟨o,es,ep,ho,hd,hk,_,hm⟩:=n
  refine ⟨o,ho,fun name=>?_⟩
  have e:=hm name
  unfold nsFind findBy at e
  rw [← Array.find?_toList] at e
  unfold PySem.W.lookIn
  rw [hd]
  dsimp only
  split
  · rename_i y q
    rw [q] at e
    exact congrArg some e
  · rename_i q
    rw [q] at e
    have a:es.toList.any (·.refKey)=false:=by
      rw [List.any_eq_false]
      intro y hy
      obtain ⟨z,t,hkey⟩:=hk y (Array.mem_toList_iff.mp hy)
      simp [DictEntry.refKey,hkey]
    have a':¬ es.toList.any (·.refKey)=true:=by rw [a]; exact Bool.false_ne_true
    rw [if_neg a']
    exact congrArg some e
theorem ObjM.look {h:Heap} {x dx C:Addr} {mA:Str→Option Value} (I:ObjM h x dx C mA):∃ od,PySem.W.InstAt h x (PySem.W.instObj C dx) C (some od)∧∀ name,PySem.W.lookIn name od=some (mA name) :=
  let ⟨od,ho,hl⟩:=lookIn_ns I.ns
  ⟨od,⟨I.obj,rfl,rfl,ho⟩,hl⟩
section
variable {prog:Program} {w:World} {A:Around} {E:Value→Shared→Prop} {s:Shared} {K:PySem.W.Frag} {x dx C f:Addr} {mA:Str→Option Value} {name:Str} {v:Value}
end
section
variable {P:Program} {w:World} {H H':Hp} {h h':Heap} {a C dx:Addr} {fs fs':List (Str×V)}
theorem ins_get (hok:HOk P w H h) (e:H a=some (.ins C dx fs)):∃ mA,ObjM h a dx C mA∧(∀ f,RelO (fs.lookup f) (mA f))∧PySem.Within mA (fs.map (·.1))∧fs.length≤1000∧H dx=some (.own a):=by
  obtain ⟨d,z,ne,ob,mA,n,r,q⟩:=(show ObjOk P w H h a (.ins C dx fs) from hok a _ e)
  exact ⟨mA,⟨ob,n,ne⟩,r,q,z,d⟩
end
structure Cls (K:PySem.W.Frag) (C:Addr):Prop where
  pg:PySem.W.plainGet K C Str.empty=true
  hd:PySem.W.hasDictIn K C=true
  po:PySem.W.plainOver K C=true
  sa:PySem.W.findIn K (.ref C) "__setattr__" = some (some (.builtin "object.__setattr__"))
theorem Cls.get {K:PySem.W.Frag} {C:Addr} (c:Cls K C) (f:Str):PySem.W.plainGet K C f=true:=c.pg
structure Con (K:PySem.W.Frag) (C:Addr) (f:Str) (v:V) (u:Value):Prop where
  at_:PySem.W.findIn K (.ref C) f=some (some u)
  rel:RelV v u
  get:PySem.W.specialIn K u "__get__" = some none
  cp:PySem.W.copiedNames.contains f=false
structure Meth (K:PySem.W.Frag) (C:Addr) (m:Str) (f:Addr):Prop where
  at_:PySem.W.findIn K (.ref C) m=some (some (.ref f))
  fn:PySem.W.isFn K (.ref f)=true
  kp:PySem.W.keepIn K (.ref f)=true
section
variable {X:Cx} {pins:List (Addr×Obj)} {σ:St} {H:Hp} {s:Shared} {a C dx:Addr} {fs:List (Str×V)} {f:Str} {v:V} {A:Around} {E:Value→Shared→Prop}
end
section
variable {X:Cx} {o e value:Expr} {f:Str} {pos pos' tpos:Pos} {ta tv:TE}
end
section
variable {X:Cx} {pins:List (Addr×Obj)} {σ:St} {H:Hp} {s:Shared} {A:Around} {E:Value→Shared→Prop} {Q:Value→Shared→Prop} {c:Value} {b:Bool}
inductive TyOf (K:PySem.W.Frag) (H:Hp):V→Value→Prop where
  | non:TyOf K H .non (.type "NoneType")
  | bl (x:Bool):TyOf K H (.bl x) (.type "bool")
  | int (i:Int):TyOf K H (.int i) (.type "int")
  | str (x:Str):TyOf K H (.str x) (.type "str")
  | flt (x:UInt64):TyOf K H (.flt x) (.type "float")
  | lst {a:Addr} {xs:List V} (e:H a=some (.lst xs)):TyOf K H (.ref a) (.type "list")
  | frz {a:Addr} {o:Obj} {xs:List V} (e:H a=some (.frz o (.lst xs))):TyOf K H (.ref a) (.type "list")
  | tup {a:Addr} {xs:List V} (e:H a=some (.tup xs)):TyOf K H (.ref a) (.type "tuple")
  | dK {a:Addr} {kvs:List (Key×V)} (e:H a=some (.dK kvs)):TyOf K H (.ref a) (.type "dict")
  | dT {a:Addr} {kvs:List (List Key×V)} (e:H a=some (.dT kvs)):TyOf K H (.ref a) (.type "dict")
  | ins {a C dx:Addr} {fs:List (Str×V)} (e:H a=some (.ins C dx fs)) (cl:Cls K C) (ha:PySem.W.findIn K (.ref C) "__class__" = some (some (.builtin "object.__class__")))
      (hn:PySem.W.specialIn K (.builtin "object.__class__") "__get__" = some (some (.builtin "getset_descriptor.__get__"))) (htk:PySem.W.takesIn K (.builtin "object.__class__")=some true)
      (hm:PySem.W.mroIn K C (.type "object")=some true):TyOf K H (.ref a) (.ref C)
theorem isinst_ok {x:V} {u t:Value} (I:Inv X pins σ H s) (rx:RelV x u) (ty:TyOf X.K H x t) (e:PySem.W.kitOne X.K t c=some b) (h:∀ tk,Q (.bool b) { s with toks:=tk }) :
    wpAny (model X.prog X.w) A (call (.builtin "isinstance") [u,c]) Q E s:=by
  cases ty with
  | non=>cases (show u=Value.none from rx); exact PySem.W.kia_one PySem.W.kitx_none I.kIn True.intro e (fun z=>nomatch z) h
  | bl y=>cases (show u=Value.bool y from rx); exact PySem.W.kia_one PySem.W.kitx_bool I.kIn True.intro e (fun z=>nomatch z) h
  | int i=>obtain ⟨t,q⟩:=(show ∃ t,u=Value.int i t from rx); cases q; exact PySem.W.kia_one PySem.W.kitx_int I.kIn True.intro e (fun z=>nomatch z) h
  | str y=>obtain ⟨t,q⟩:=(show ∃ t,u=Value.str y t from rx); cases q; exact PySem.W.kia_one PySem.W.kitx_str I.kIn True.intro e (fun z=>nomatch z) h
  | flt y=>obtain ⟨t,q⟩:=(show ∃ t,u=Value.float y t from rx); cases q; exact PySem.W.kia_one PySem.W.kitx_float I.kIn True.intro e (fun z=>nomatch z) h
  | @lst a xs ea =>
    cases (show u=Value.ref a from rx)
    obtain ⟨_,_,n,_,h1⟩:=(show ObjOk X.prog X.w H s.heap a (.lst xs) from I.hok a _ ea)
    exact PySem.W.kia_one PySem.W.kitx_list I.kIn ⟨_,h1,rfl⟩ e (fun z=>nomatch z) h
  | @frz a ob xs ea =>
    cases (show u=Value.ref a from rx)
    obtain ⟨_,_,_,n,_,h1⟩:=(show ObjOk X.prog X.w H s.heap a (.frz ob (.lst xs)) from I.hok a _ ea)
    exact PySem.W.kia_one PySem.W.kitx_list I.kIn ⟨_,h1,rfl⟩ e (fun z=>nomatch z) h
  | @tup a xs ea =>
    cases (show u=Value.ref a from rx)
    obtain ⟨_,_,_,p⟩:=(show ObjOk X.prog X.w H s.heap a (.tup xs) from I.hok a _ ea)
    obtain ⟨o,h1,h2,_⟩:=p
    exact PySem.W.kia_one PySem.W.kitx_tuple I.kIn ⟨o,h1,h2⟩ e (fun z=>nomatch z) h
  | @dK a kvs ea =>
    cases (show u=Value.ref a from rx)
    obtain ⟨_,_,vs,_,p⟩:=(show ObjOk X.prog X.w H s.heap a (.dK kvs) from I.hok a _ ea)
    obtain ⟨o,es,ep,h1,h2,_⟩:=p
    exact PySem.W.kia_one PySem.W.kitx_dict I.kIn ⟨o,h1,h2.1⟩ e (fun z=>nomatch z) h
  | @dT a kvs ea =>
    cases (show u=Value.ref a from rx)
    obtain ⟨_,_,xs,_,o,es,ep,h1,h2,_⟩:=(show ObjOk X.prog X.w H s.heap a (.dT kvs) from I.hok a _ ea)
    exact PySem.W.kia_one PySem.W.kitx_dict I.kIn ⟨o,h1,h2.1⟩ e (fun z=>nomatch z) h
  | @ins a C dx fs ea cl ha hn htk hm =>
    cases (show u=Value.ref a from rx)
    obtain ⟨mA,O,_⟩:=ins_get I.hok ea
    obtain ⟨od,J,_⟩:=O.look
    exact PySem.W.kia_one (PySem.W.kitx_own (cl.get _) cl.hd ha hn htk hm) I.kIn J e (fun z=>nomatch z) h
end
end L2
namespace L2
open PySem PySem.Spec PyProof.Rows
structure Room (k:Nat) (A:Around):Prop where
  hd:A.handled=none
  dp:A.depth+3*k+5<recursionLimit
  un:A.units+16*k+200<cLine
theorem Room.mono {j k:Nat} {A:Around} (r:Room k A) (h:j≤k):Room j A:=⟨r.hd,by have:=r.dp; omega,by have:=r.un; omega⟩
theorem Room.deeper {k:Nat} {A:Around} (r:Room (k+1) A) (env:Env):Room k (A.deeper env) :=
  ⟨r.hd,by have:=r.dp; show A.depth+1+3*k+5 < _; omega,by have:=r.un; show A.units+3+16*k+200 < _; omega⟩
theorem Room.depth {k:Nat} {A:Around} (r:Room k A):A.depth<recursionLimit:=by have:=r.dp; omega
theorem Room.units {k:Nat} {A:Around} (r:Room k A):A.units+64<cLine:=by have:=r.un; omega
def tNil:TA:=fun _ H Q=>Q [] H
def tCons (ta:TE) (tr:TA):TA:=fun σ H Q=>ta σ H fun x H1=>tr σ H1 fun xs H2=>Q (x::xs) H2
section
variable {X:Cx} {e:Expr} {es:List Expr} {te:TE} {t:TA} {pos:Pos}
theorem pa_nil:PA X [] tNil:=fun _ _ _ _ H Q I h=>Calls.spliced_nil ⟨[],H,I,.nil,h⟩
theorem pa_cons (ha:PE X e te) (hr:PA X es t) (hs:starEach (e::es) X.env=(false,eval e X.env)::starEach es X.env:=by rfl):PA X (e::es) (tCons te t):=by
  intro pos pins s σ H Q I h
  rw [hs]
  show wpAny _ _ (spliced ((false,eval e X.env)::backTo pos (starEach es X.env))) _ _ s
  refine Calls.spliced_cons (thn (ha pins s σ H _ I h) fun u s1 ⟨x,H1,I1,r1,q1⟩=>?_)
  exact thn (hr pos pins s1 σ H1 _ I1 q1) fun us s2 ⟨xs,H2,I2,r2,q2⟩=>⟨x::xs,H2,I2,.cons r1 r2,q2⟩
def tTup (t:TA):TE:=fun σ H Q=>t σ H fun xs H1=>xs.length≤sizeLine∧∀ p,H1 p=none→Q (.ref p) (upd H1 p (.tup xs))
def tLst (t:TA):TE:=fun σ H Q=>t σ H fun xs H1=>xs.length≤sizeLine∧∀ p,H1 p=none→Q (.ref p) (upd H1 p (.lst xs))
theorem pe_tup {x1} (h:PA X es t):PE X (.Tuple es x1 pos) (tTup t):=by
  intro pins s σ H Q I hq
  refine wpAny_Tuple_spliced (thn (h pos pins s σ H _ I hq) fun us s1 ⟨xs,H1,I1,r,z,q⟩=>⟨by rw [← r.length]; exact z,?_⟩)
  have hf:H1 s1.heap.objs.size=none:=I1.hok.fresh (Nat.le_refl _)
  refine ⟨.ref s1.heap.objs.size,upd H1 s1.heap.objs.size (.tup xs),I1.laid (t':=s1.toks) (fun b u e=>Heap.get?_push_of_some _ e) (Nat.le_refl _) ?_,rfl,q _ hf⟩
  exact ⟨z,us,r,⟨_,Heap.get?_push_size _ rfl,rfl,_,rfl⟩⟩
theorem pe_lst (h:PA X es t):PE X (.List es pos) (tLst t):=by
  intro pins s σ H Q I hq
  refine wpAny_List_spliced (thn (h pos pins s σ H _ I hq) fun us s1 ⟨xs,H1,I1,r,z,q⟩=>⟨by rw [← r.length]; exact z,?_⟩)
  have hf:H1 s1.heap.objs.size=none:=I1.hok.fresh (Nat.le_refl _)
  refine ⟨.ref s1.heap.objs.size,upd H1 s1.heap.objs.size (.lst xs),I1.laid (t':=s1.toks) (fun b u e=>Heap.get?_push_of_some _ e) (Nat.le_refl _) ?_,rfl,q _ hf⟩
  exact ⟨z,us,0,r,Heap.get?_push_size _ rfl⟩
end
abbrev Sp:=List V→Hp→VK→XK→Prop
abbrev CXT:=List Env→Hp→Shared→XK→Value→Shared→Prop
structure Env0 (P:Program) (w:World) (K:PySem.W.Frag) (mg:Str→Option Value) (base:Heap) (A:Around) (outer:List Env) (s:Shared) (H:Hp):Prop where
  frames:A.frames=some outer
  mod:Mod K mg base
  bs:∀ b o,base.get? b=some o→s.heap.get? b=some o∧H b=none
  bsz:base.objs.size≤s.heap.objs.size
  funs:s.heap.FunFrames base outer
  frf:∀ b∈frs outer,H b=none
  hok:HOk P w H s.heap
  bare:AllBare s.gens
def CE (outer:List Env) (P:Program) (w:World) (H:Hp) (s:Shared) (Q:VK) (u:Value) (s':Shared):Prop :=
  ∃ v H',s'.os=s.os∧AllBare s'.gens∧Un (frs outer) [] H H' s.heap s'.heap∧HOk P w H' s'.heap∧RelV v u∧Q v H'
def CR (CX:CXT) (outer:List Env) (P:Program) (w:World) (H:Hp) (s:Shared) (Q:VK) (E:XK) (r:Result) (s':Shared):Prop :=
  match r with
  | .ok (.ret u)=>CE outer P w H s Q u s'
  | .ok _=>False
  | .error e=>CX outer H s E e s'
structure FnOk (P:Program) (w:World) (K:PySem.W.Frag) (mg:Str→Option Value) (base:Heap) (CX:CXT) (k:Nat) (f:Addr) (fd:FuncData) (ps:List Str) (sp:Sp):Prop where
  len:∀ vs H Q E,sp vs H Q E→vs.length=ps.length
  run:∀ (A:Around) (outer:List Env) (s:Shared) (H:Hp) (args:Args) (us:List Value) (vs:List V) (Q:VK) (E:XK),Room k A→Env0 P w K mg base A outer s H→BindsTo s fd args (ps.zip us)→Vals vs us→sp vs H Q E →
    codeAny (model P w) A (.call (.ref f) args) (CR CX outer P w H s Q E) s
theorem FnOk.imp {P:Program} {w:World} {K:PySem.W.Frag} {mg:Str→Option Value} {base:Heap} {CX:CXT} {k:Nat} {f:Addr} {fd:FuncData} {ps:List Str} {sp sp':Sp} (F:FnOk P w K mg base CX k f fd ps sp)
    (h:∀ vs H Q E,sp' vs H Q E→sp vs H Q E):FnOk P w K mg base CX k f fd ps sp' :=
  ⟨fun vs H Q E q=>F.len vs H Q E (h _ _ _ _ q),fun A outer s H args us vs Q E hr he hb hv hs=>F.run A outer s H args us vs Q E hr he hb hv (h _ _ _ _ hs)⟩
section
variable {X:Cx} {pins:List (Addr×Obj)} {σ:St} {H:Hp} {s s':Shared}
theorem Inv.env0 (I:Inv X pins σ H s):Env0 X.prog X.w X.K X.mg X.base X.A X.stack s H :=
  ⟨I.ok.frames,I.ok.mod,I.bs,Nat.le_trans I.ok.bsz I.sz,I.stack,I.stkFree,I.hok,I.bare⟩
theorem Inv.after {Q:VK} {u:Value} (I:Inv X pins σ H s) (h:CE X.stack X.prog X.w H s Q u s'):EP X pins σ Q u s':=by
  obtain ⟨v,H',os,bare,un,hok,r,q⟩:=h
  obtain ⟨hh,g,d,t,os'⟩:=s'
  obtain rfl:os'=s.os:=os
  exact ⟨v,H',I.call (h':=hh) (g':=g) (d':=d) (t':=t) (ch:=[]) un hok bare (fun b z=>absurd z (by simp)),r,q⟩
end
def tCall (sp:Sp) (dvs:List V) (E:XK) (t:TA):TE:=fun σ H Q=>t σ H fun vs H1=>sp (vs++dvs) H1 Q E
def Binds (K:PySem.W.Frag) (fd:FuncData) (ps:List Str) (ds:List Value):Prop :=
  ∀ (s:Shared) (us:List Value),K.In s.heap→(us++ds).length=ps.length→BindsTo s fd ⟨us,[]⟩ (ps.zip (us++ds))
theorem Binds.all {K:PySem.W.Frag} {fd:FuncData} {ps:List Str} (h:∀ us:List Value,us.length=ps.length→bindArgs fd ⟨us,[]⟩=pure (ps.zip us)):Binds K fd ps []:=fun s us _ hl=>by
  rw [List.append_nil] at hl ⊢
  exact .of_eq (h us hl)
def Passes (CX:CXT) (X:Cx) (E:XK):Prop:=∀ (pins:List (Addr×Obj)) (σ:St) (H:Hp) (s:Shared) (e:Value) (s':Shared),Inv X pins σ H s→CX X.stack H s E e s'→X.xe e s'
section
variable {X:Cx} {CX:CXT} {k:Nat} {f C:Addr} {fd:FuncData} {ps:List Str} {sp:Sp} {dvs:List V} {ds:List Value} {E:XK} {x m:Str} {p pos apos:Pos} {e o:Expr} {es:List Expr} {ta:TE} {t:TA}
theorem run_fn {pins:List (Addr×Obj)} {σ:St} {H:Hp} {s:Shared} {Q:VK} {us:List Value} {vs:List V} (F:FnOk X.prog X.w X.K X.mg X.base CX k f fd ps sp) (hr:Room k X.A) (hb:Binds X.K fd ps ds) (hd:Vals dvs ds) (hx:Passes CX X E)
    (I:Inv X pins σ H s) (r:Vals vs us) (h:sp (vs++dvs) H Q E):wpAny (model X.prog X.w) X.A (call (.ref f) us) (EP X pins σ Q) X.xe s:=by
  have r2:Vals (vs++dvs) (us++ds):=r.append hd
  have hl:(us++ds).length=ps.length:=by rw [← r2.length]; exact F.len _ _ _ _ h
  refine wpAny_call (codeAny_mono (F.run X.A X.stack s H ⟨us,[]⟩ (us++ds) (vs++dvs) Q E hr I.env0 (hb s us I.kIn hl) r2 h) fun r s' hq=>?_)
  cases r with
  | error e=>exact hx pins σ H s e s' I hq
  | ok fl =>
    cases fl with
    | ret u=>exact I.after hq
    | next=>exact False.elim hq
    | brk=>exact False.elim hq
    | cont=>exact False.elim hq
theorem pe_call (F:FnOk X.prog X.w X.K X.mg X.base CX k f fd ps sp) (hr:Room k X.A) (hg:Gl X x) (hm:X.mg x=some (.ref f)) (hk:PySem.W.keepIn X.K (.ref f)=true) (hb:Binds X.K fd ps ds) (hd:Vals dvs ds) (hx:Passes CX X E)
    (ha:PA X (e::es) t) (hdb:(x==("__debug__" : Str))=false:=by decide) (he:starEach (e::es) X.env=(false,eval e X.env)::starEach es X.env:=by rfl) (hpl:(backTo pos (starEach es X.env)).any (·.1)=false:=by rfl) :
    PE X (.Call (.Name x p) (e::es) [] pos) (tCall sp dvs E t):=by
  intro pins s σ H Q I h
  refine wpAny_Call_Name_kw (ld_glob I hg hm ?_ hdb)
  refine PySem.W.callWith_K (h₀:=X.base) I.ok.mod.kin hk (thn (ha pos pins s σ H _ I h) fun us s1 ⟨vs,H1,I1,r,q⟩=>⟨I1.kIn,?_⟩) he hpl
  exact run_fn F hr hb hd hx I1 r q
structure Mk (K:PySem.W.Frag) (C f:Addr):Prop where
  makes:PySem.W.makesIn K C=true
  init:PySem.W.findIn K (.ref C) "__init__" = some (some (.ref f))
  fn:PySem.W.isFn K (.ref f)=true
  kp:PySem.W.keepIn K (.ref C)=true
end
def PK (X:Cx) (kws:List Keyword) (t:TA):Prop :=
  ∀ (pos:Pos) (pins:List (Addr×Obj)) (s:Shared) (σ:St) (H:Hp) (Q:List V→Hp→Prop),Inv X pins σ H s→t σ H Q→wpAny (model X.prog X.w) X.A (evalAll ((backToKw pos (keywordEach kws X.env)).map (·.2))) (AP X pins σ Q) X.xe s
section
variable {X:Cx} {CX:CXT} {k:Nat} {f C:Addr} {fd:FuncData} {ps ks:List Str} {sp:Sp} {E:XK} {x m:Str} {p pos apos kpos:Pos} {e o:Expr} {es:List Expr} {kws:List Keyword} {te ta:TE} {t tk:TA} {nm:Option Str}
theorem pk_nil:PK X [] tNil:=fun _ _ _ _ H Q I h=>wpAny_evalAll_nil ⟨[],H,I,.nil,h⟩
theorem pk_cons (ha:PE X e te) (hr:PK X kws t):PK X (⟨nm,e,kpos⟩::kws) (tCons te t):=by
  intro pos pins s σ H Q I h
  show wpAny _ _ (evalAll ((do let v ← eval e X.env; standAt pos; pure v)::(backToKw pos (keywordEach kws X.env)).map (·.2))) _ _ s
  refine wpAny_evalAll_cons (wpAny_bind (thn (ha pins s σ H _ I h) fun u s1 ⟨x,H1,I1,r1,q1⟩=>wpAny_bind (wpAny_standAt (wpAny_pure ?_))))
  exact thn (hr pos pins s1 σ H1 _ I1 q1) fun us s2 ⟨xs,H2,I2,r2,q2⟩=>⟨x::xs,H2,I2,.cons r1 r2,q2⟩
structure KBinds (K:PySem.W.Frag) (fd:FuncData) (ps ks:List Str) (g:List Value→List Value→List Value) (gV:List V→List V→List V):Prop where
  to:∀ (s:Shared) (us ws:List Value),K.In s.heap→(g us ws).length=ps.length→BindsTo s fd ⟨us,ks.zip ws⟩ (ps.zip (g us ws))
  rel:∀ {vs:List V} {us:List Value} {zs:List V} {ws:List Value},Vals vs us→Vals zs ws→Vals (gV vs zs) (g us ws)
variable {g:List Value→List Value→List Value} {gV:List V→List V→List V}
end
structure FnScope (N P:List Str) (sc:Scope):Prop where
  kind:sc.kind=.function
  co:sc.isCoroutine=false
  gen:sc.isGenerator=false
  nd:N.Nodup
  pre:N.take P.length=P
  par:∀ x∈P,sc.names.lookup x=some .local∨sc.names.lookup x=some .cell
  nofree:∀ y∈sc.names,y.2≠.free
theorem bindL_out {kindOf:Str→Option NameKind} {x:Str}:∀ {binds:List (Str×Value)} {m:Str→Option Value},(∀ v,(x,v)∉binds)→bindL kindOf binds m x=m x
  | [],_,_=>rfl
  | (n,v)::r,m,h=>by
    unfold bindL
    rw [bindL_out fun w hw=>h w (List.mem_cons_of_mem _ hw)]
    split
    · have:x≠n:=by rintro rfl; exact h v List.mem_cons_self
      simp [this]
    · rfl
theorem bindC_out {kindOf:Str→Option NameKind} {x:Str}:∀ {binds:List (Str×Value)} {m:Str→Option Value},(∀ v,(x,v)∉binds)→bindC kindOf binds m x=m x
  | [],_,_=>rfl
  | (n,v)::r,m,h=>by
    unfold bindC
    rw [bindC_out fun w hw=>h w (List.mem_cons_of_mem _ hw)]
    split
    · rfl
    · have:x≠n:=by rintro rfl; exact h v List.mem_cons_self
      simp [this]
theorem bindL_get {kindOf:Str→Option NameKind} {x:Str} {v:Value}:∀ {P:List Str} {vs:List Value} {i:Nat} {m:Str→Option Value},P.Nodup→P[i]?=some x→vs[i]?=some v→kindOf x=some .local →
    bindL kindOf (P.zip vs) m x=some v
  | [],_,_,_,_,h,_,_=>by simp at h
  | _::_,[],_,_,_,_,h,_=>by simp at h
  | p::P,w::vs,0,m,nd,h1,h2,hk=>by
    simp at h1 h2; subst h1; subst h2
    show bindL kindOf ((p,w)::P.zip vs) m p=_
    unfold bindL
    rw [bindL_out fun v hv=>(List.nodup_cons.mp nd).1 (List.of_mem_zip hv).1,if_pos hk]
    simp
  | p::P,w::vs,i+1,m,nd,h1,h2,hk=>by
    show bindL kindOf ((p,w)::P.zip vs) m x=_
    unfold bindL
    exact bindL_get (i:=i) (List.nodup_cons.mp nd).2 (by simpa using h1) (by simpa using h2) hk
theorem bindC_get {kindOf:Str→Option NameKind} {x:Str} {v:Value}:∀ {P:List Str} {vs:List Value} {i:Nat} {m:Str→Option Value},P.Nodup→P[i]?=some x→vs[i]?=some v→kindOf x≠some .local →
    bindC kindOf (P.zip vs) m x=some v
  | [],_,_,_,_,h,_,_=>by simp at h
  | _::_,[],_,_,_,_,h,_=>by simp at h
  | p::P,w::vs,0,m,nd,h1,h2,hk=>by
    simp at h1 h2; subst h1; subst h2
    show bindC kindOf ((p,w)::P.zip vs) m p=_
    unfold bindC
    rw [bindC_out fun v hv=>(List.nodup_cons.mp nd).1 (List.of_mem_zip hv).1,if_neg hk]
    simp
  | p::P,w::vs,i+1,m,nd,h1,h2,hk=>by
    show bindC kindOf ((p,w)::P.zip vs) m x=_
    unfold bindC
    exact bindC_get (i:=i) (List.nodup_cons.mp nd).2 (by simpa using h1) (by simpa using h2) hk
def start (N:List Str) (vs:List V):St:=vs.map some++List.replicate (N.length-vs.length) none
def cxOf (CX:CXT) (P:Program) (w:World) (K:PySem.W.Frag) (mg:Str→Option Value) (base:Heap) (N:List Str) (qual:Str) (scope:Scope) (f:Addr) (cd:Value) (A:Around) (outer:List Env) (s:Shared) (H:Hp) (E:XK):Cx where
  prog:=P
  w:=w
  K:=K
  mg:=mg
  base:=base
  A:=A.deeper (envOfC qual scope s.heap.objs.size f cd)
  N:=N
  s₀:=s
  H₀:=H
  env:=envOfC qual scope s.heap.objs.size f cd
  outer:=outer
  stack:=envOfC qual scope s.heap.objs.size f cd::outer
  ex:=[]
  calm:=true
  fn:=fun _=>true
  pn:=[]
  xe:=fun e s'=>wpAny (model P w) (A.deeper (envOfC qual scope s.heap.objs.size f cd)) (leaving (envOfC qual scope s.heap.objs.size f cd) e) (fun _ s''=>CX outer H s E e s'') (fun e' s''=>CX outer H s E e' s'') s'
theorem cell_has {sc:Scope} {n:Nat} {x:Str} (h:sc.names.lookup x=some .cell):∃ c,(cellsFrom n sc.names []).lookup x=some c:=by
  have q:=PySem.W.cellsFrom_some sc.names n [] (.inl h)
  exact Option.isSome_iff_exists.mp q
theorem inv_start {CX:CXT} {P:Program} {w:World} {K:PySem.W.Frag} {mg:Str→Option Value} {base:Heap} {N ps:List Str} {qual:Str} {scope:Scope} {f:Addr} {cd:Value} {A:Around} {outer:List Env} {s s1:Shared} {H:Hp} {E:XK} {us:List Value} {vs:List V}
    (S:FnScope N ps scope) (hd:A.handled=none) (e0:Env0 P w K mg base A outer s H) (hl:vs.length=ps.length) (r:Vals vs us)
    (x:InCallC s s.heap.objs.size (bindL (envOfC qual scope s.heap.objs.size f cd).kindOf (ps.zip us) fun _=>none) (cellsFrom (s.heap.objs.size+1) scope.names []) (bindC (envOfC qual scope s.heap.objs.size f cd).kindOf (ps.zip us) fun _=>none) s1) :
    Inv (cxOf CX P w K mg base N qual scope f cd A outer s H E) [] (start N vs) H s1:=by
  have hpl:ps.length≤N.length:=by have:=congrArg List.length S.pre; rw [List.length_take] at this; omega
  obtain ⟨h1,tk,rfl,hk⟩:=x.done
  have noA:∀ b:Addr,b∉(cxOf CX P w K mg base N qual scope f cd A outer s H E).ex:=fun b z=>absurd (show b∈([]:List Addr) from z) (by simp)
  refine ⟨⟨e0.mod,S.kind,rfl,rfl,Nat.le_refl _,fun y z c h1 h2=>?_,fun y hy=>?_,fun y c _ h=>?_,fun _=>hd,Around.frames_deeper e0.frames,.inr ⟨rfl,rfl⟩,fun b z=>absurd z (noA b),e0.bs,e0.bsz,fun b _ _=>noA b,fun b z=>absurd z (noA b),e0.funs,e0.frf⟩,
    rfl,e0.bare,Un.kept hk,⟨_,x.toInCall.ns,fun i y v h1 h2 h3=>?_⟩,fun y c h=>⟨_,x.cell y c h⟩,e0.hok.fresh (Nat.le_refl _),fun y c h=>?_,fun p hp=>absurd (show p∈([]:List (Addr×Obj)) from hp) (by simp),e0.hok.kept hk,?_⟩
  · exact name_of_addr x.apart (PySem.mem_of_lookup h1) (PySem.mem_of_lookup h2)
  · have hy:scope.names.lookup y=some .cell∨scope.names.lookup y=some .free:=hy
    rcases hy with hy | hy
    · exact cell_has hy
    · exact absurd rfl (S.nofree _ (PySem.mem_of_lookup hy))
  · exact Nat.le_of_lt (x.above y c (PySem.mem_of_lookup h))
  · have hi:i<vs.length:=by
      unfold start at h2
      by_cases hi:i<vs.length
      · exact hi
      · rw [List.getElem?_append_right (by simpa using hi)] at h2
        rw [List.getElem?_replicate] at h2
        split at h2 <;> cases h2
    have ha:vs[i]?=some v:=by
      unfold start at h2
      rw [List.getElem?_append_left (by simpa using hi),List.getElem?_map] at h2
      cases e:vs[i]? with
      | none=>rw [e] at h2; cases h2
      | some a=>rw [e] at h2; cases h2; rfl
    obtain ⟨u,hu,rv⟩:=r.get ha
    have hp:ps[i]?=some y:=by
      rw [← S.pre,List.getElem?_take_of_lt (by omega)]; exact h1
    have ndP:ps.Nodup:=by rw [← S.pre]; exact S.nd.sublist (List.take_sublist _ _)
    refine ⟨u,rv,?_⟩
    rcases S.par y (List.mem_of_getElem? hp) with k | k
    · exact .inl ⟨k,bindL_get ndP hp hu k⟩
    · obtain ⟨c,e⟩:=cell_has (n:=s.heap.objs.size+1) k
      refine .inr ⟨.inl k,c,e,?_⟩
      have q:=x.cell y c e
      rw [bindC_get ndP hp hu (by show scope.names.lookup y≠_; rw [k]; decide)] at q
      exact q
  · exact e0.hok.fresh (Nat.le_of_lt (x.above y c (PySem.mem_of_lookup h)))
  · unfold start
    show _=N.length
    rw [List.length_append,List.length_map,List.length_replicate]
    omega
theorem fn_of {CX:CXT} {P:Program} {w:World} {K:PySem.W.Frag} {mg:Str→Option Value} {base:Heap} {k:Nat} {f:Addr} {name qual:Str} {params:Arguments} {body:List Stmt} {scope:Scope} {dV kV doc pm cdv ct oc:Value} {an od:Option Addr}
    {osl:Array (Option Value)} {N ps:List Str} {sp:Sp} (lk:K.lookup f=some ⟨oc,od,.func (PySem.W.fnOf name qual params body scope dV kV doc pm an cdv ct),osl⟩) (hcd:PySem.W.codeIn K cdv qual=true) (S:FnScope N ps scope)
    (len:∀ vs H Q E,sp vs H Q E→vs.length=ps.length)
    (hbody:∀ (A:Around) (outer:List Env) (s:Shared) (H:Hp) (vs:List V) (Q:VK) (E:XK),Room k (A.deeper (envOfC qual scope s.heap.objs.size f cdv))→sp vs H Q E →
      ∃ t,PSs (cxOf CX P w K mg base N qual scope f cdv A outer s H E) body t∧t { nx:=fun _ H'=>Q .non H',rt:=Q } (start N vs) H) :
    FnOk P w K mg base CX (k+1) f (PySem.W.fnOf name qual params body scope dV kV doc pm an cdv ct) ps sp:=by
  refine ⟨len,fun A outer s H args us vs Q E hr e0 hb r hsp=>?_⟩
  have hl:=len _ _ _ _ hsp
  have KX:K.In s.heap:=e0.mod.kin.keeps fun b o e=>(e0.bs b o e).1
  have lim:s.heap.NoLimit:=e0.mod.nolimit.keeps fun b o e=>(e0.bs b o e).1
  have hkind:∀ y∈ps.zip us,scope.names.lookup y.1=some .local∨(scope.names.lookup y.1=some .cell∧((cellsFrom (s.heap.objs.size+1) scope.names []).lookup y.1).isSome=true):=fun ⟨n,v⟩ hy=>by
    rcases S.par n (List.of_mem_zip hy).1 with q | q
    · exact .inl q
    · exact .inr ⟨q,PySem.W.cellsFrom_some _ _ _ (.inl q)⟩
  refine codeAny_call_function hr.depth (KX _ _ lk) rfl S.co S.gen rfl (PySem.W.codeRec_of KX hcd) (hb _ _ _ _ ?_)
  refine wpAny_newFunctionEnv_cells S.kind hkind fun env he s1 x=>?_
  subst he
  refine ⟨lim.keeps x.toInCall.keep,codeAny_func ?_⟩
  obtain ⟨t,ht,hq⟩:=hbody A outer s H vs Q E (hr.deeper _) hsp
  have I:Inv (cxOf CX P w K mg base N qual scope f cdv A outer s H E) [] (start N vs) H s1:=inv_start S hr.hd e0 hl r x
  refine wpAny_mono (ht [] s1 (start N vs) H _ I hq) (fun fl s' hs=>?_) fun e s' hs=>hs
  have fin:∀ {σ':St} {H':Hp} {v:V} {u:Value},Inv (cxOf CX P w K mg base N qual scope f cdv A outer s H E) [] σ' H' s'→RelV v u→Q v H'→CE outer P w H s Q u s' :=
    fun {σ' H' v u} J rv q=>⟨v,H',J.os,J.bare,J.base,J.hok,rv,q⟩
  cases fl with
  | ret u =>
    obtain ⟨v,σ',H',J,rv,q⟩:=hs
    exact fin J rv q
  | next =>
    obtain ⟨σ',H',J,q⟩:=hs
    exact fin (v:=V.non) (u:=Value.none) J rfl q
  | brk =>
    obtain ⟨_,_,_,q⟩:=hs
    exact False.elim q
  | cont =>
    obtain ⟨_,_,_,q⟩:=hs
    exact False.elim q
end L2
namespace L2
open PySem PySem.Spec PyProof.Rows
section
variable {X:Cx} {x:Str} {p pos:Pos} {e:Expr} {es:List Expr} {t:TA} {id T:String} {r:List V→Hp→VK→Prop}
def tCB (r:List V→Hp→VK→Prop) (t:TA):TE:=fun σ H Q=>t σ H fun vs H1=>r vs H1 Q
theorem pe_callB (hc:CallR X (.builtin id) r) (hg:Gl X x) (hm:X.mg x=none) (hv:bootBuiltins x=some (.builtin id)) (ha:PA X (e::es) t) (hn:x ≠ "__name__" := by decide) (hdb:(x==("__debug__" : Str))=false:=by decide)
    (he:starEach (e::es) X.env=(false,eval e X.env)::starEach es X.env:=by rfl) (hpl:(backTo pos (starEach es X.env)).any (·.1)=false:=by rfl):PE X (.Call (.Name x p) (e::es) [] pos) (tCB r t):=by
  intro pins s σ H Q I h
  refine wpAny_Call_Name_kw (ld_blt I hg hm hv ?_ hn hdb)
  exact PyProof.Rows.callWith_builtin1 (thn (ha pos pins s σ H _ I h) fun us s1 ⟨vs,H1,I1,r1,q1⟩=>hc pins s1 σ H1 vs us Q I1 r1 q1) he hpl
theorem pe_callTy (hc:CallR X (.type T) r) (hg:Gl X x) (hm:X.mg x=none) (hv:bootBuiltins x=some (.type T)) (ha:PA X (e::es) t) (hn:x ≠ "__name__" := by decide) (hdb:(x==("__debug__" : Str))=false:=by decide)
    (he:starEach (e::es) X.env=(false,eval e X.env)::starEach es X.env:=by rfl) (hpl:(backTo pos (starEach es X.env)).any (·.1)=false:=by rfl):PE X (.Call (.Name x p) (e::es) [] pos) (tCB r t):=by
  intro pins s σ H Q I h
  refine wpAny_Call_Name_kw (ld_blt I hg hm hv ?_ hn hdb)
  exact PyProof.Rows.callWith_type1 (thn (ha pos pins s σ H _ I h) fun us s1 ⟨vs,H1,I1,r1,q1⟩=>hc pins s1 σ H1 vs us Q I1 r1 q1) he hpl
end
end L2
namespace HT
open PySem PyProof.Rows
def lexLt:List Int→List Int→Bool
  | [],[]=>false
  | [],_::_=>true
  | _::_,[]=>false
  | x::xs,y::ys=>if x=y then lexLt xs ys else decide (x<y)
section
open PySem.SeqAt
open PySem.AutoSeq1 (wpAny_loadPart')
open PySem.MeetsSeq PySem.MeetsSeq2 PySem.MeetsSeq3
end
section
variable {prog:Program} {w:World} {A:Around} {E:Value→Shared→Prop} {s:Shared}
def sIx (n d:Nat):Option Int→Nat
  | none=>d
  | some v=>if v<0 then (v+(n:Int)).toNat else min v.toNat n
end
end HT
namespace L2
open PySem PySem.Spec PyProof.Rows
abbrev TO:=St→Hp→(Option Int→Hp→Prop)→Prop
def PO (X:Cx) (e:Option Expr) (t:TO):Prop :=
  ∀ (pins:List (Addr×Obj)) (s:Shared) (σ:St) (H:Hp) (Q:Option Int→Hp→Prop),Inv X pins σ H s→t σ H Q →
    wpAny (model X.prog X.w) X.A (evalPart e X.env) (fun u s'=>∃ o H',Inv X pins σ H' s'∧IsPart u o∧Q o H') X.xe s
def tNoPart:TO:=fun _ H Q=>Q none H
def tPart (t:TE):TO:=fun σ H Q=>t σ H fun x H1=>∃ i,x=.int i∧Q (some i) H1
theorem intsAre_of {ns:List Int}:∀ {us:List Value},Vals (ns.map V.int) us→IntsAre us ns:=by
  induction ns with
  | nil=>intro us r; rw [List.map_nil] at r; cases r; exact .nil
  | cons n ns ih =>
    intro us r
    rw [List.map_cons] at r
    cases r with
    | cons r1 r2 =>
      obtain ⟨t,e⟩:=r1
      subst e
      exact .cons n t (ih r2)
section
variable {X:Cx} {e:Expr} {te:TE} {lo hi:Option Expr} {tl th:TO} {pos p2:Pos}
theorem po_none:PO X none tNoPart:=by
  intro pins s σ H Q I h
  rw [evalPart_none]
  exact wpAny_pure ⟨none,H,I,.none,h⟩
theorem po_some (h:PE X e te):PO X (some e) (tPart te):=by
  intro pins s σ H Q I hw
  rw [evalPart_some]
  refine thn (h pins s σ H _ I hw) fun u s1 ⟨x,H1,I1,r1,q1⟩=>?_
  obtain ⟨i,rfl,q⟩:=q1
  obtain ⟨t,rfl⟩:=r1
  exact ⟨some i,H1,I1,.int i t,q⟩
def SlR (X:Cx) (r:V→Option Int→Option Int→Hp→VK→Prop):Prop :=
  ∀ (pins:List (Addr×Obj)) (s:Shared) (σ:St) (H:Hp) (x:V) (v vl vu:Value) (lo hi:Option Int) (sl:Addr) (Q:VK),Inv X pins σ H s→RelV x v→s.heap.IsSliceOf sl vl vu .none→IsPart vl lo→IsPart vu hi→r x lo hi H Q →
    ∃ T id,typeLookup (.type T) "__getitem__" = pure (some (.builtin id))∧s.TypeIs v T∧wpAny (model X.prog X.w) X.A (getItem v (.ref sl)) (EP X pins σ Q) X.xe s
def tSl (r:V→Option Int→Option Int→Hp→VK→Prop) (te:TE) (tl th:TO):TE:=fun σ H Q=>te σ H fun x H1=>tl σ H1 fun l H2=>th σ H2 fun u H3=>r x l u H3 Q
theorem pe_slice {r:V→Option Int→Option Int→Hp→VK→Prop} (hr:SlR X r) (he:PE X e te) (hl:PO X lo tl) (hu:PO X hi th):PE X (.Subscript e (.Slice lo hi none p2) pos) (tSl r te tl th):=by
  intro pins s σ H Q I h
  refine Subscript_ (thn (he pins s σ H _ I h) fun v s1 ⟨x,H1,I1,r1,q1⟩=>?_)
  refine wpAny_Slice (thn (hl pins s1 σ H1 _ I1 q1) fun vl s2 ⟨l,H2,I2,pl,q2⟩=>thn (hu pins s2 σ H2 _ I2 q2) fun vu s3 ⟨u,H3,I3,pu,q3⟩=>?_)
  rw [evalPart_none]
  refine wpAny_pure ?_
  have I4:Inv X pins σ H3 { s3 with heap:=s3.heap.push { cls:=.type "slice", data:=.fields #[vl,vu,.none] } }:=I3.kept (t':=s3.toks) fun b ob q=>Heap.get?_push_of_some _ q
  obtain ⟨T,id,hT,ht,hg⟩:=hr pins { s3 with heap:=s3.heap.push { cls:=.type "slice", data:=.fields #[vl,vu,.none] } } σ H3 x v vl vu l u s3.heap.objs.size Q I4 r1 (Heap.IsSliceOf.new ..) pl pu q3
  show wpAny (model X.prog X.w) X.A (subscriptTail e (.Slice lo hi none p2) v (.ref s3.heap.objs.size)) (EP X pins σ Q) X.xe { s3 with heap:=s3.heap.push { cls:=.type "slice", data:=.fields #[vl,vu,.none] } }
  exact tail_any (ops:=[.ref s3.heap.objs.size,v]) ht hT hg (by with_unfolding_all rfl)
def cutV (xs:List V) (lo hi:Option Int):List V:=(xs.drop (HT.sIx xs.length 0 lo)).take (HT.sIx xs.length xs.length hi-HT.sIx xs.length 0 lo)
theorem cutV_length (xs:List V) (lo hi:Option Int):(cutV xs lo hi).length≤xs.length:=by
  unfold cutV
  rw [List.length_take,List.length_drop]
  omega
end
end L2
namespace L2
open PySem PySem.Spec PyProof.Rows
def ixN (n:Nat) (i:Int):Option Nat:=if 0≤i then (if i<n then some i.toNat else none) else if -(n:Int)≤i then some (i+n).toNat else none
def atI {α:Type} (xs:List α) (i:Int):Option α:=(ixN xs.length i).bind fun j=>xs[j]?
theorem ixN_seq {n:Nat} {i:Int} {j:Nat} (h:ixN n i=some j):seqIndex? i n=some j∧j<n∧-(n:Int)≤i∧i<n:=by
  unfold ixN at h
  by_cases h0:0≤i
  · rw [if_pos h0] at h
    by_cases h1:i<n
    · rw [if_pos h1] at h
      have e:i.toNat=j:=Option.some.inj h
      exact ⟨by rw [seqIndex_of h0 h1,e],by omega,by omega,h1⟩
    · rw [if_neg h1] at h; cases h
  · rw [if_neg h0] at h
    by_cases h1:-(n:Int)≤i
    · rw [if_pos h1] at h
      have e:(i+n).toNat=j:=Option.some.inj h
      exact ⟨by rw [seqIndex_neg (by omega) h1,e],by omega,h1,by omega⟩
    · rw [if_neg h1] at h; cases h
theorem atI_get {α:Type} {xs:List α} {i:Int} {v:α} (h:atI xs i=some v):∃ j,seqIndex? i xs.length=some j∧xs[j]?=some v∧j<xs.length∧-(xs.length:Int)≤i∧i<xs.length:=by
  unfold atI at h
  cases e:ixN xs.length i with
  | none=>rw [e] at h; cases h
  | some j =>
    rw [e] at h
    obtain ⟨h1,h2,h3,h4⟩:=ixN_seq e
    exact ⟨j,h1,h,h2,h3,h4⟩
def PlainIx (b:Expr):Prop:=∀ o i,subscripted b false o i=operate [o,i] (getItem o i)
def IxR (X:Cx) (r:R2):Prop :=
  ∀ (value slice:Expr) (pins:List (Addr×Obj)) (s:Shared) (σ:St) (H:Hp) (x y:V) (v u:Value) (Q:VK),Inv X pins σ H s→RelV x v→RelV y u→r x y H Q →
    subscripted slice false v u=operate [v,u] (getItem v u)→wpAny (model X.prog X.w) X.A (subscriptTail value slice v u) (EP X pins σ Q) X.xe s
def MtR (X:Cx) (id:String) (r:V→List V→Hp→VK→Prop):Prop :=
  ∀ (pins:List (Addr×Obj)) (s:Shared) (σ:St) (H:Hp) (x:V) (xs:List V) (v:Value) (us:List Value) (Q:VK),Inv X pins σ H s→RelV x v→Vals xs us→r x xs H Q →
    wpAny (model X.prog X.w) X.A (call (.builtin id) (v::us)) (EP X pins σ Q) X.xe s
section
variable {X:Cx} {a b:Expr} {ta tb:TE} {pos:Pos}
theorem IxR.or {r r':R2} (h:IxR X r) (h':IxR X r'):IxR X (fun x y H Q=>r x y H Q∨r' x y H Q):=by
  intro value slice pins s σ H x y v u Q I rx ry q hs
  rcases q with q | q
  · exact h value slice pins s σ H x y v u Q I rx ry q hs
  · exact h' value slice pins s σ H x y v u Q I rx ry q hs
theorem pe_ix {r:R2} (hr:IxR X r) (ha:PE X a ta) (hb:PE X b tb) (hs:PlainIx b):PE X (.Subscript a b pos) (tOp r ta tb):=by
  intro pins s σ H Q I h
  exact Subscript_ (binT ha hb I h fun v u s2 x y H2 I2 rx ry q=>hr a b pins s2 σ H2 x y v u Q I2 rx ry q (hs _ _))
def rIxL (K:PySem.W.Frag):R2:=fun x y H Q=>∃ p xs i v,x=.ref p∧y=.int i∧SqL K H p xs∧atI xs i=some v∧Q v H
def rIxT (K:PySem.W.Frag):R2:=fun x y H Q=>∃ p xs i v,x=.ref p∧y=.int i∧SqT K H p xs∧atI xs i=some v∧Q v H
def rIxS:R2:=fun x y H Q=>∃ z i c,x=.str z∧y=.int i∧z.length≤sizeLine∧atI z.cps.toList i=some c∧Q (.str ⟨#[c]⟩) H
theorem ix_list:IxR X (rIxL X.K):=by
  intro value slice pins s σ H x y v u Q I rx ry h hs
  obtain ⟨p,xs,i,z,rfl,rfl,hq,he,q⟩:=h
  cases rx
  obtain ⟨t,rfl⟩:=ry
  obtain ⟨its,r,pl,hz⟩:=I.list hq
  obtain ⟨j,h1,h2,h3,h4,h5⟩:=atI_get he
  obtain ⟨w,ew,rw'⟩:=r.get h2
  have hl:=r.length
  have hn:=line63
  have fin:EP X pins σ Q w s:=⟨z,H,I,rw',q⟩
  by_cases h0:0≤i
  · have hj:i.toNat=j:=by
      rw [seqIndex_of h0 h5] at h1
      exact Option.some.inj h1
    exact item_listR pl.isList h0 (by omega) (by rw [hj]; simpa using ew) fin hs
  · have hj:(i+(its.toArray.size:Int)).toNat=j:=by
      rw [seqIndex_neg (by omega) h4] at h1
      rw [List.size_toArray,← hl]
      exact Option.some.inj h1
    exact subscriptTail_builtinR (x:=w) pl.isList.typeIs slot_list_getitem.lookup
      (wpAny_getItem_list_neg (Q:=fun r s'=>r=w∧EP X pins σ Q r s') pl.isList (by omega) (by rw [List.size_toArray] <;> omega) (by omega) (by rw [hj]; simpa using ew) ⟨rfl,fin⟩) hs
theorem ix_tup:IxR X (rIxT X.K):=by
  intro value slice pins s σ H x y v u Q I rx ry h hs
  obtain ⟨p,xs,i,z,rfl,rfl,hq,he,q⟩:=h
  cases rx
  obtain ⟨t,rfl⟩:=ry
  obtain ⟨its,r,pl,hz⟩:=I.tuple hq
  obtain ⟨j,h1,h2,h3,h4,h5⟩:=atI_get he
  obtain ⟨w,ew,rw'⟩:=r.get h2
  have hl:=r.length
  have hn:=line63
  have fin:EP X pins σ Q w s:=⟨z,H,I,rw',q⟩
  exact subscriptTail_builtinR (x:=w) pl.typeIs slot_tuple_getitem.lookup
    (getItem_tuple (j:=j) (Q:=fun r s'=>r=w∧EP X pins σ Q r s') pl (by omega) (by omega) (by rw [List.size_toArray,← hl]; exact h1) (by simpa using ew) ⟨rfl,fin⟩) hs
theorem ix_str:IxR X rIxS:=by
  intro value slice pins s σ H x y v u Q I rx ry h hs
  obtain ⟨z,i,c,rfl,rfl,hz,he,q⟩:=h
  obtain ⟨t,rfl⟩:=rx
  obtain ⟨t',rfl⟩:=ry
  obtain ⟨j,h1,h2,h3,h4,h5⟩:=atI_get he
  have hl:z.cps.toList.length=z.length:=by simp [Str.length]
  rw [hl] at h1 h4 h5
  have hn:=line63
  exact tail_any (typeIs_str s z t) slot_str_getitem.lookup (getItem_str (c:=c) (by
    have e1:decide (i < -(2 ^ 63:Int))=false:=decide_eq_false (by omega)
    have e2:decide (i ≥ 2 ^ 63)=false:=decide_eq_false (by omega)
    rw [e1,e2,Bool.or_false]) (by rw [h1]; simpa using h2) ⟨.str ⟨#[c]⟩,H,I.tok _,⟨_,rfl⟩,q⟩) hs
def rIx (K:PySem.W.Frag):R2:=fun x y H Q=>rIxL K x y H Q∨rIxT K x y H Q∨rIxS x y H Q
theorem ix_seq:IxR X (rIx X.K):=ix_list.or (ix_tup.or ix_str)
theorem mapSeq_set (its:List Value) (n j:Nat) (u:Value):Obj.mapSeq (·.setIfInBounds j u) { cls:=.type "list", data:=.seq its.toArray n }={ cls:=.type "list", data:=.seq (its.set j u).toArray n }:=by
  simp [Obj.mapSeq]
theorem Inv.lst {pins:List (Addr×Obj)} {σ:St} {H:Hp} {s:Shared} {p:Addr} {xs:List V} (I:Inv X pins σ H s) (h:H p=some (.lst xs)) :
    ∃ (its:List Value) (n:Nat),Vals xs its∧s.heap.get? p=some { cls:=.type "list", data:=.seq its.toArray n }∧xs.length≤sizeLine:=by
  obtain ⟨z,its,n,r,e⟩:=I.hok p _ h
  exact ⟨its,n,r,e,z⟩
theorem Inv.lstUpd {pins:List (Addr×Obj)} {σ:St} {H:Hp} {s:Shared} {p:Addr} {xs ys:List V} {its its':List Value} {n n':Nat} {f:Obj→Obj} (I:Inv X pins σ H s) (h:H p=some (.lst xs))
    (ho:s.heap.get? p=some { cls:=.type "list", data:=.seq its.toArray n }) (hf:f { cls:=.type "list", data:=.seq its.toArray n }={ cls:=.type "list", data:=.seq its'.toArray n' }) (r:Vals ys its') (hz:ys.length≤sizeLine) (t:Nat) :
    Inv X pins σ (upd H p (.lst ys)) { s with heap:=s.heap.update p f,toks:=t }:=by
  have e:(s.heap.update p f).get? p=some { cls:=.type "list", data:=.seq its'.toArray n' }:=by
    rw [Heap.get?_update_self f ho (by rw [hf] <;> rfl),hf]
  refine I.write (x:=p) (e:=p) (by rw [h]; trivial) (.inl rfl) (fun b u hb q=>(Heap.get?_update_other _ _ (Ne.symm hb)).trans q) ⟨_,e⟩ ?_
  exact ⟨hz,its',n',r,e⟩
def rSetL:V→V→V→Hp→(Hp→Prop)→Prop:=fun o i v H Q=>∃ p xs k j,o=.ref p∧i=.int k∧H p=some (.lst xs)∧ixN xs.length k=some j∧Q (upd H p (.lst (xs.set j v)))
theorem set_list:PSet X rSetL:=by
  intro pins s σ H o i v ov iv u Q I ro ri rv h
  obtain ⟨p,xs,k,j,rfl,rfl,hp,hj,q⟩:=h
  cases ro
  obtain ⟨t,rfl⟩:=ri
  obtain ⟨its,n,r,ho,hz⟩:=I.lst hp
  obtain ⟨h1,h2,h3,h4⟩:=ixN_seq hj
  have hl:=r.length
  have hn:=line63
  have I':Inv X pins σ (upd H p (.lst (xs.set j v))) { s with heap:=s.heap.update p (Obj.mapSeq (·.setIfInBounds j u)) } :=
    I.lstUpd hp ho (mapSeq_set its n j u) (r.set rv j) (by rw [List.length_set]; exact hz) s.toks
  by_cases h0:0≤k
  · have hk:k.toNat=j:=by
      rw [seqIndex_of h0 h4] at h1
      exact Option.some.inj h1
    exact PySem.W.ki_setAt ho h0 (by omega) (by rw [List.size_toArray,← hl]; exact h4) (by rw [hk]; exact ⟨_,I',q⟩)
  · have hk:(k+(its.toArray.size:Int)).toNat=j:=by
      rw [seqIndex_neg (by omega) h3] at h1
      rw [List.size_toArray,← hl]
      exact Option.some.inj h1
    exact PySem.W.ki_setBack ho (by omega) (by rw [List.size_toArray,← hl]; exact h3) (by omega) (by rw [hk]; exact ⟨_,I',q⟩)
theorem slice_bounds (lo hi:Option Int) (n:Nat):(sliceBounds lo hi none n).1=((HT.sIx n 0 lo:Nat):Int)∧(sliceBounds lo hi none n).2.1=((HT.sIx n n hi:Nat):Int)∧(sliceBounds lo hi none n).2.2=1:=by
  refine ⟨?_,?_,rfl⟩
  · cases lo with
    | none=>simp [sliceBounds,HT.sIx]
    | some i =>
      simp only [sliceBounds,HT.sIx,Option.getD_none,show (1:Int) > 0 by decide,if_true]
      by_cases h:i<0
      · simp only [h,if_true] <;> omega
      · simp only [h,if_false] <;> omega
  · cases hi with
    | none=>simp [sliceBounds,HT.sIx]
    | some i =>
      simp only [sliceBounds,HT.sIx,Option.getD_none,show (1:Int) > 0 by decide,if_true]
      by_cases h:i<0
      · simp only [h,if_true] <;> omega
      · simp only [h,if_false] <;> omega
theorem slicePick_cut (its:List Value) (lo hi:Option Int):slicePick its.toArray lo hi none=((its.drop (HT.sIx its.length 0 lo)).take (HT.sIx its.length its.length hi-HT.sIx its.length 0 lo)).toArray:=by
  obtain ⟨h1,h2,h3⟩:=slice_bounds lo hi its.toArray.size
  unfold slicePick
  rw [h1,h2,h3]
  simp only [sliceRange_one,pick_run,List.size_toArray] <;> rfl
def rSlL (K:PySem.W.Frag):V→Option Int→Option Int→Hp→VK→Prop:=fun x lo hi H Q=>∃ a xs,x=.ref a∧SqL K H a xs∧∀ p,H p=none→Q (.ref p) (upd H p (.lst (cutV xs lo hi)))
theorem sl_list:SlR X (rSlL X.K):=by
  intro pins s σ H x v vl vu lo hi sl Q I rx hs pl pu h
  obtain ⟨a,xs,rfl,hx,q⟩:=h
  cases rx
  obtain ⟨its,r,ht,hz⟩:=I.list hx
  have hlen:=r.length
  refine ⟨"list", _,slot_list_getitem.lookup,ht.isList.typeIs,?_⟩
  refine wpAny_getItem_list_slice ht.isList hs pl pu .none (by simp) ?_ (by rw [List.size_toArray] <;> omega)
  rw [slicePick_cut,← hlen]
  refine ⟨.ref s.heap.objs.size,_,I.laid (t':=s.toks) (o:=.lst (cutV xs lo hi)) (fun b ob q=>Heap.get?_push_of_some _ q) (Nat.le_refl _) ?_,rfl,q _ (I.hok.fresh (Nat.le_refl _))⟩
  exact ⟨Nat.le_trans (cutV_length xs lo hi) hz,_,0,(r.drop (HT.sIx xs.length 0 lo)).take (HT.sIx xs.length xs.length hi-HT.sIx xs.length 0 lo),Heap.get?_push_size _ rfl⟩
theorem CallR.or {f:Value} {r r':List V→Hp→VK→Prop} (h:CallR X f r) (h':CallR X f r'):CallR X f (fun xs H Q=>r xs H Q∨r' xs H Q):=by
  intro pins s σ H xs us Q I rs q
  rcases q with q | q
  · exact h pins s σ H xs us Q I rs q
  · exact h' pins s σ H xs us Q I rs q
theorem call_list_of:CallR X (.type "list") (fun xs H Q=>∃ p ys,xs=[.ref p]∧(SqL X.K H p ys∨SqT X.K H p ys)∧∀ l,H l=none→Q (.ref l) (upd H l (.lst ys))):=by
  intro pins s σ H xs us Q I r h
  obtain ⟨p,ys,rfl,hq,q⟩:=h
  obtain ⟨u,rfl,rx⟩:=vals1 r
  cases rx
  have fin:∀ (its:List Value),Vals ys its→ys.length≤sizeLine→∀ (h':Heap) (c':Nat),(∀ b o',s.heap.get? b=some o'→h'.get? b=some o') →
      h'.get? s.heap.objs.size=some { cls:=.type "list", dict:=none,data:=.seq its.toArray c',slots:=#[] }→EP X pins σ Q (.ref s.heap.objs.size) { s with heap:=h' }:=fun its r' hz h' c' kp e =>
    ⟨.ref s.heap.objs.size,_,I.laid (t':=s.toks) kp (Nat.le_refl _) (show ObjOk X.prog X.w _ h' _ (.lst ys) from ⟨hz,its,c',r',e⟩),rfl,q _ (I.hok.fresh (Nat.le_refl _))⟩
  rcases hq with hq | hq
  · obtain ⟨its,r',pl,hz⟩:=I.list hq
    have hlen:=r'.length
    obtain ⟨o,ho,hc,n,hd⟩:=pl.isList
    exact call_list_seq p (.inl rfl) ho hc hd (fun h' c' kp e=>fin its r' hz h' c' kp e) (by simp only [List.size_toArray] <;> omega)
  · obtain ⟨its,r',pl,hz⟩:=I.tuple hq
    have hlen:=r'.length
    obtain ⟨o,ho,hc,n,hd⟩:=pl
    exact call_list_seq p (.inr rfl) ho hc hd (fun h' c' kp e=>fin its r' hz h' c' kp e) (by simp only [List.size_toArray] <;> omega)
def tyV (K:PySem.W.Frag) (T:String) (x:V) (H:Hp):Prop:=match x with
  | .str _=>T = "str"
  | .int _=>T = "int"
  | .ref p=>(T = "list" ∧ ∃ xs,SqL K H p xs)∨(T = "tuple" ∧ ∃ o,K.lookup p=some o∧o.cls=.type "tuple" ∧ o.dict=none) ∨
      (T = "dict" ∧ ((∃ kvs,H p=some (.dK kvs))∨∃ kvs,H p=some (.dT kvs)))∨(T = "set" ∧ ∃ S n,H p=some (.set S n))
  | _=>False
theorem tyV_is {pins:List (Addr×Obj)} {σ:St} {H:Hp} {s:Shared} {T:String} {x:V} {v:Value} (I:Inv X pins σ H s) (r:RelV x v) (ty:tyV X.K T x H) :
    s.TypeIs v T∧∀ a,v=.ref a→∃ ob,s.heap.get? a=some ob∧ob.dict=none:=by
  cases x with
  | str z =>
    obtain ⟨t,rfl⟩:=r
    cases (show T = "str" from ty)
    exact ⟨typeIs_str s z t,fun _ e=>nomatch e⟩
  | int i =>
    obtain ⟨t,rfl⟩:=r
    cases (show T = "int" from ty)
    exact ⟨typeIs_int s i t,fun _ e=>nomatch e⟩
  | ref p =>
    cases r
    rcases ty with ⟨rfl,xs,hq⟩ | ⟨rfl,o,hk,hc,hd⟩ | ⟨rfl,hk⟩ | ⟨rfl,S,n,hk⟩
    · obtain ⟨its,_,pl,_⟩:=I.list hq
      refine ⟨pl.isList.typeIs,fun a e=>?_⟩
      cases e
      obtain ⟨o,n,e,c,hd,_⟩:=pl
      exact ⟨o,e,hd⟩
    · refine ⟨⟨o,I.kIn p o hk,hc⟩,fun a e=>?_⟩
      cases e
      exact ⟨o,I.kIn _ o hk,hd⟩
    · have z:∃ o,s.heap.get? p=some o∧o.ExactDict:=by
        rcases hk with ⟨kvs,hk⟩ | ⟨kvs,hk⟩
        · obtain ⟨_,_,_,_,o,_,_,e,ex,_⟩:=I.hok p _ hk
          exact ⟨o,e,ex⟩
        · obtain ⟨_,_,_,_,o,_,_,e,ex,_⟩:=I.hok p _ hk
          exact ⟨o,e,ex⟩
      obtain ⟨o,e,ex⟩:=z
      refine ⟨⟨o,e,ex.1⟩,fun a e2=>?_⟩
      cases e2
      exact ⟨o,e,ex.2.1⟩
    · obtain ⟨o,_,_,_,e,ex,_⟩:=I.hok p _ hk
      refine ⟨⟨o,e,ex.1⟩,fun a e2=>?_⟩
      cases e2
      exact ⟨o,e,ex.2.1⟩
  | _=>exact False.elim ty
def tBM (K:PySem.W.Frag) (T:String) (r:V→List V→Hp→VK→Prop) (to:TE) (t:TA):TE:=fun σ H Q=>to σ H fun x H1=>tyV K T x H1∧t σ H1 fun xs H2=>r x xs H2 Q
variable {o e:Expr} {es:List Expr} {to:TE} {t:TA} {name:Str} {apos cpos:Pos} {T id:String} {r:V→List V→Hp→VK→Prop}
theorem pe_bm (pa:PlainAttrs T) (slot:Slot T name id) (hty:typeOf (.builtin id)=pure (.type "method_descriptor")) (hm:MtR X id r) (ho:PE X o to) (ha:PA X (e::es) t)
    (hbase:attributeBase o name X.env (eval o X.env)=eval o X.env:=by rfl)
    (hfew:((backTo cpos (starEach (e::es) X.env)).all (fun x=>!x.1)&&(backToKw cpos (keywordEach [] X.env)).all (fun x=>x.1.isSome)
      && decide ((e::es).length+([]:List Keyword).length+(if ([]:List Keyword).isEmpty then 0 else 1)<30))=true:=by rfl)
    (hline:(apos.endLine==cpos.line)=true:=by rfl) (hs:starEach (e::es) X.env=(false,eval e X.env)::starEach es X.env:=by rfl) (hplain:(backTo cpos (starEach es X.env)).any (·.1)=false:=by rfl) :
    PE X (.Call (.Attribute o name apos) (e::es) [] cpos) (tBM X.K T r to t):=by
  intro pins s σ H Q I h
  refine wpAny_Call_method_late hbase hfew hline rfl (thn (ho pins s σ H _ I h) fun v s1 ⟨x,H1,I1,r1,ty,q1⟩=>?_)
  obtain ⟨h1,h2⟩:=tyV_is I1 r1 ty
  refine ⟨T,id,pa,slot,hty,h1,h2,?_⟩
  have hA:=ha cpos pins s1 σ H1 _ I1 q1
  rw [hs] at hA ⊢
  refine Calls.callWith_builtin (by show (false || (backTo cpos (starEach es X.env)).any (·.1))=false; rw [hplain] <;> rfl) (Calls.evalArgs_plain ?_)
  exact thn hA fun us s2 ⟨vs,H2,I2,r2,q2⟩=>hm pins s2 σ H2 x vs v us Q I2 r1 r2 q2
end
end L2
namespace L2
open PySem PySem.Spec PyProof.Rows
def MtM (X:Cx) (id:String) (r:V→List V→Hp→VK→Prop):Prop :=
  ∀ (pins:List (Addr×Obj)) (s:Shared) (σ:St) (H:Hp) (x:V) (xs:List V) (v:Value) (us:List Value) (Q:VK),Inv X pins σ H s→RelV x v→Vals xs us→r x xs H Q →
    wpAny (model X.prog X.w) X.A (call (.builtin id) (v::us)) (EP X pins σ Q) X.xe s
theorem Vals.one:∀ {x:V} {us:List Value},Vals [x] us→∃ u,us=[u]∧RelV x u
  | _,_,.cons r .nil=>⟨_,rfl,r⟩
theorem Vals.eraseIdx:∀ {xs:List V} {us:List Value} (i:Nat),Vals xs us→Vals (xs.eraseIdx i) (us.eraseIdx i)
  | _,_,_,.nil=>.nil
  | _,_,0,.cons _ t=>t
  | _,_,i+1,.cons r t=>.cons r (Vals.eraseIdx i t)
theorem len_erase {α:Type}:∀ (l:List α) (i:Nat),(l.eraseIdx i).length≤l.length
  | [],_=>Nat.le_refl _
  | _::_,0=>Nat.le_succ _
  | _::r,i+1=>Nat.succ_le_succ (len_erase r i)
section
variable {X:Cx} {pins:List (Addr×Obj)} {σ:St} {H:Hp} {s:Shared} {l b:Addr} {xs ys zs:List V}
theorem Inv.lset {its its':List Value} {n:Nat} {f:Array Value→Array Value} {t':Nat} (I:Inv X pins σ H s) (hH:H l=some (.lst xs))
    (e:s.heap.get? l=some { cls:=.type "list", data:=.seq its.toArray n }) (hf:f its.toArray=its'.toArray) (hv:Vals ys its') (hz:ys.length≤sizeLine) :
    Inv X pins σ (upd H l (.lst ys)) { s with heap:=s.heap.update l (Obj.mapSeq f),toks:=t' }:=by
  have q:=PySem.IsL.update e f
  rw [hf] at q
  refine I.write (x:=l) (e:=l) (by rw [hH]; exact trivial) (.inl rfl) (fun b' u hb hu=>(Heap.get?_update_other s.heap (Obj.mapSeq f) (Ne.symm hb)).trans hu) ⟨_,q⟩ ?_
  exact ⟨hz,its',_,hv,q⟩
theorem Inv.lnew {its:List Value} {t':Nat} (I:Inv X pins σ H s) (hv:Vals ys its) (hz:ys.length≤sizeLine) :
    Inv X pins σ (upd H s.heap.objs.size (.lst ys)) { s with heap:=s.heap.push { cls:=.type "list", data:=.seq its.toArray },toks:=t' } :=
  I.laid (fun _ _ q=>Heap.get?_push_of_some _ q) (Nat.le_refl _) ⟨hz,its,0,hv,Heap.get?_push_size _ rfl⟩
theorem Inv.fresh (I:Inv X pins σ H s):H s.heap.objs.size=none:=I.hok.fresh (Nat.le_refl _)
theorem Inv.lstM (I:Inv X pins σ H s) (hH:H l=some (.lst xs)):xs.length≤sizeLine∧∃ (its:List Value) (n:Nat),Vals xs its∧xs.length=its.length∧s.heap.get? l=some { cls:=.type "list", data:=.seq its.toArray n }:=by
  obtain ⟨z,its,n,r,e⟩:=I.hok l _ hH
  exact ⟨z,its,n,r,r.length,e⟩
end
section
variable {X:Cx}
def rAppend:V→List V→Hp→VK→Prop:=fun x vs H Q=>∃ l xs y,x=.ref l∧vs=[y]∧H l=some (.lst xs)∧xs.length<sizeLine∧Q .non (upd H l (.lst (xs++[y])))
theorem mt_append:MtM X "list.append" rAppend:=by
  intro pins s σ H x vs v us Q I rx rv h
  obtain ⟨l,xs,y,rfl,rfl,hH,hz,q⟩:=h
  cases rx
  obtain ⟨u,rfl,ru⟩:=rv.one
  obtain ⟨z,its,n,r,hl,e⟩:=I.lstM hH
  refine call_meets F.slot_list_append ⟨_,e,rfl⟩ F.entry_list_append (F.args_list_append_2 _ _) (PySem.list_append l its.toArray n u (by rw [List.size_toArray]; omega)) ⟨e,?_⟩
  refine ⟨.non,_,I.lset (its':=its++[u]) hH e (by simp) (r.append (.cons ru .nil)) ?_,rfl,q⟩
  rw [List.length_append,List.length_singleton]
  omega
def rPopAt:V→List V→Hp→VK→Prop:=fun x vs H Q=>∃ l xs i k y,x=.ref l∧vs=[.int i]∧H l=some (.lst xs)∧-(2 ^ 63)≤i∧i<2 ^ 63∧seqIndex? i xs.length=some k∧xs[k]?=some y∧Q y (upd H l (.lst (xs.eraseIdx k)))
theorem mt_popAt:MtM X "list.pop" rPopAt:=by
  intro pins s σ H x vs v us Q I rx rv h
  obtain ⟨l,xs,i,k,y,rfl,rfl,hH,h1,h2,hk,hy,q⟩:=h
  cases rx
  obtain ⟨u,rfl,ru⟩:=rv.one
  obtain ⟨t,rfl⟩:=ru
  obtain ⟨z,its,n,r,hl,e⟩:=I.lstM hH
  obtain ⟨w,hw,rw'⟩:=r.get hy
  refine call_meets F.slot_list_pop ⟨_,e,rfl⟩ F.entry_list_pop (F.args_list_pop_2 _ _)
    (MeetsSeq.list_pop_at l its.toArray n i t k w (fitsIndex_both h1 h2) (by rw [List.size_toArray,← hl]; exact hk) (by rw [← Array.getElem?_toList]; exact hw) (by rw [List.size_toArray]; omega)) ⟨e,?_⟩
  refine ⟨y,_,I.lset (its':=its.eraseIdx k) hH e ?_ (r.eraseIdx k) ?_,rw',q⟩
  · show its.toArray.eraseIdxIfInBounds k=(its.eraseIdx k).toArray
    rw [List.eraseIdxIfInBounds_toArray]
  · have:=len_erase xs k
    omega
end
section
variable {prog:Program} {w:World} {A:Around} {E:Value→Shared→Prop} {s:Shared}
end
section
variable {X:Cx}
end
end L2
namespace Att
open PySem PySem.W PySem.Calls PyProof.Rows
theorem ints_of_wellAll {P:Params} {h:Heap}:∀ (ns:List Int) (vs:List Value),WellAll P h vs (ns.map WData.int)→IntsAre vs ns:=by
  intro ns
  induction ns with
  | nil =>
    intro vs w
    rw [List.map_nil] at w
    cases w
    exact .nil
  | cons n ns ih =>
    intro vs w
    rw [List.map_cons] at w
    cases w with
    | cons a b =>
      cases a
      exact .cons _ _ (ih _ b)
theorem script_of {l:OpenLaw} {n:Nat} (hn:l.most=some n) {P:Params} {h:Heap} {args:List WData} {vals:List Value}
    (hpre:l.row.toRowW.claim.pre args=true) (hwl:WellAll P h vals args) :
    ∃ a vs ns,vals=[Value.ref a]∧args=[WData.list (ns.map WData.int)]∧h.get? a=some { cls:=.type "list", data:=.seq vs.toArray }∧IntsAre vs ns∧ns.length≤n:=by
  have hsh:WShape.hasAll [] args [.list .int]=true:=(pre_splitW hpre).1
  have hc:l.pre.holds [] { args:=args }=true:=(pre_splitW hpre).2
  obtain ⟨d,r,rfl,h1,h2⟩:=hasAllW_cons hsh
  obtain rfl:=hasAllW_nil h2
  obtain ⟨xs,rfl,h3⟩:=hasW_list h1
  obtain ⟨ns,rfl⟩:=items_int h3
  have hlen:ns.length≤n:=by
    unfold OpenLaw.pre at hc
    have h4:(WTm.not (.lt (.lit (.int (n:Int))) (.len (.arg 0)))).holds [] { args:=[.list (ns.map .int)] }=true:=by
      have h4:=(holds_andW hc).1
      rw [hn] at h4
      exact h4
    have h5:=condW_of h4 (w_not (w_lt w_lit (w_len_list (w_arg rfl))))
    rw [List.length_map] at h5
    refine Nat.le_of_not_lt fun q=>?_
    have q':(n:Int)<((ns.length:Nat):Int):=by omega
    first
      | (rw [decide_eq_true q'] at h5; exact absurd h5 (by decide))
      | (simp at h5; omega)
  cases hwl with
  | cons w1 w2 =>
    cases w2
    cases w1 with
    | list ho hall=>exact ⟨_,_,ns,rfl,rfl,ho,ints_of_wellAll ns _ hall,hlen⟩
theorem post_true (l:OpenLaw) (args:List WData):l.row.toRowW.claim.post args (.bool true) args=true :=
  postW_of (r:=l.row.toRowW) (X:=(true==true))
    (show WShape.has [] (.bool true) .bool=true by first | rfl | decide | simp [WShape.has,WShape.arms,WShape.armsAll])
    (show (WTm.eq .res (.lit (.bool true))).value [] { args:=args,res:=some (.bool true),after:=args }=some (.bool (true==true)) from w_eq_bool (w_res rfl) w_lit) rfl
section
variable {prog:Program} {w:World} {A:Around} {E:Value→Shared→Prop} {s:Shared} {K:Frag}
def ledger (h:Heap) (L d:Addr):List (Addr×Obj):=(List.range h.objs.size).filterMap fun a=>if a=L∨a=d then none else (h.get? a).map fun o=>(a,o)
end
end Att
namespace L2
open PySem PySem.Spec PyProof.Rows
theorem vals_ints:∀ {vs:List Value} {ns:List Int},IntsAre vs ns→Vals (ns.map V.int) vs
  | _,_,.nil=>.nil
  | _,_,.cons n t h=>.cons ⟨t,rfl⟩ (vals_ints h)
end L2
namespace L2
open PySem PySem.Spec PyProof.Rows
abbrev KOf {K:PySem.W.Frag} {h:Heap} (_:K.In h):PySem.W.Frag:=K
end L2
namespace L2
open PySem PySem.Spec PyProof.Rows
def defArgs (s:Stmt):Arguments:=match s with
  | .FunctionDef _ a _ _ _ _ _ _ _ _=>a
  | _=>{ posonlyargs:=[],args:=[],vararg:=none,kwonlyargs:=[],kw_defaults:=[],kwarg:=none,defaults:=[] }
def defBody (s:Stmt):List Stmt:=match s with
  | .FunctionDef _ _ b _ _ _ _ _ _ _=>b
  | _=>[]
def defScope (s:Stmt):Scope:=match s with
  | .FunctionDef _ _ _ _ _ _ sc _ _ _=>sc
  | _=>{ kind:=.function,names:=[],isGenerator:=false,isCoroutine:=false }
abbrev CX0:CXT:=fun _ _ _ _ _ _=>False
abbrev E0:XK:=fun _ _ _=>False
theorem pass0 {X:Cx}:Passes CX0 X E0:=fun _ _ _ _ _ _ _ h=>h.elim
structure Fun (K:PySem.W.Frag) (x qual:Str) (st:Stmt) (f:Addr) (fd:FuncData):Prop where
  ex:∃ (oc:Value) (od:Option Addr) (kV doc pm:Value) (an:Option Addr) (cdv ct:Value) (osl:Array (Option Value)),
    fd=PySem.W.fnOf x qual (defArgs st) (defBody st) (defScope st) .none kV doc pm an cdv ct∧K.lookup f=some ⟨oc,od,.func fd,osl⟩∧PySem.W.codeIn K cdv qual=true
  kp:PySem.W.keepIn K (.ref f)=true
section
variable {P:Program} {w:World} {K:PySem.W.Frag} {mg:Str→Option Value} {base:Heap}
theorem Fun.ok {x qual:Str} {st:Stmt} {f:Addr} {fd:FuncData} {N ps:List Str} {k:Nat} {sp:Sp} (F:Fun K x qual st f fd) (S:FnScope N ps (defScope st)) (len:∀ vs H Q E,sp vs H Q E→vs.length=ps.length)
    (hbody:∀ (cdv:Value) (A:Around) (outer:List Env) (s:Shared) (H:Hp) (vs:List V) (Q:VK) (E:XK),Room k (A.deeper (envOfC qual (defScope st) s.heap.objs.size f cdv))→sp vs H Q E →
      ∃ t,PSs (cxOf CX0 P w K mg base N qual (defScope st) f cdv A outer s H E).nox (defBody st) t∧t { nx:=fun _ H'=>Q .non H',rt:=Q } (start N vs) H):FnOk P w K mg base CX0 (k+1) f fd ps sp:=by
  obtain ⟨oc,od,kV,doc,pm,an,cdv,ct,osl,rfl,lk,hcd⟩:=F.ex
  refine fn_of lk hcd S len fun A outer s H vs Q E hr hsp=>?_
  obtain ⟨t,h,q⟩:=hbody cdv A outer s H vs Q E hr hsp
  exact ⟨t,h.nox,q⟩
theorem Fun.binds {x qual:Str} {st:Stmt} {f:Addr} {fd:FuncData} {ps:List Str} (F:Fun K x qual st f fd)
    (h:∀ (kV doc pm:Value) (an:Option Addr) (cdv ct:Value) (us:List Value),us.length=ps.length→bindArgs (PySem.W.fnOf x qual (defArgs st) (defBody st) (defScope st) .none kV doc pm an cdv ct) ⟨us,[]⟩=pure (ps.zip us)):Binds K fd ps []:=by
  obtain ⟨oc,od,kV,doc,pm,an,cdv,ct,osl,rfl,lk,hcd⟩:=F.ex
  exact .all (h kV doc pm an cdv ct)
theorem fun_mk {x qual:Str} {st:Stmt} {f:Addr} {oc:Value} {od an:Option Addr} {osl:Array (Option Value)} {kV doc pm cdv ct:Value} (l:K.lookup f=some ⟨oc,od,.func (PySem.W.fnOf x qual (defArgs st) (defBody st) (defScope st) .none kV doc pm an cdv ct),osl⟩)
    (c:PySem.W.codeIn K cdv qual=true) (k:PySem.W.keepIn K (.ref f)=true):Fun K x qual st f (PySem.W.fnOf x qual (defArgs st) (defBody st) (defScope st) .none kV doc pm an cdv ct):=⟨⟨oc,od,kV,doc,pm,an,cdv,ct,osl,rfl,l,c⟩,k⟩
end
section
variable {X:Cx}
theorem pv (i:Nat) {x:Str} {pos:Pos} (hN:X.N[i]?=some x:=by rfl) (hv:Vis X.env.scope x:=by first | exact Or.inl rfl | exact Or.inr (Or.inl rfl) | exact Or.inr (Or.inr rfl)) (hd:(x==("__debug__" : Str))=false:=by decide)
    (hcd:(x==("__classdict__" : Str))=false:=by decide):PE X (.Name x pos) (tVar i):=pe_var hN hv hd hcd
end
theorem iteF {A B:Prop} (h:B):if false=true then A else B:=by
  rw [if_neg Bool.false_ne_true]
  exact h
theorem iteT {A B:Prop} (h:A):if true=true then A else B:=by
  rw [if_pos rfl]
  exact h
def Same (H H':Hp):Prop:=∀ b o,H b=some o→H' b=some o
theorem Same.refl (H:Hp):Same H H:=fun _ _ h=>h
theorem Same.trans {H H1 H2:Hp} (a:Same H H1) (b:Same H1 H2):Same H H2:=fun c o h=>b c o (a c o h)
theorem Same.free {H H':Hp} (e:Same H H') {l:Addr} (h:H' l=Option.none):H l=Option.none:=by
  cases q:H l with
  | none=>rfl
  | some o =>
    rw [e l o q] at h
    cases h
end L2
namespace L2
open PySem PySem.Spec PyProof.Rows
section
variable {X:Cx}
theorem op_mulB:OpR X (binaryOp .Mult) (rI IntMulOk fun i j=>.int (i*j)):=opI fun _ _ _ _ _ _ _ hc q=>mul_int q hc
theorem op_fdivB:OpR X (binaryOp .FloorDiv) (rI (fun _ j=>0<j∧j.natAbs.log2<9000) fun i j=>.int (i / j)):=opI fun i j _ _ _ _ _ hc q=>by
  have h1:(0:Int)<j:=hc.1
  exact floordiv_int (by omega) (by rw [Int.fdiv_eq_ediv_of_nonneg i (by omega)]; exact q) (.inl (PyProof.noPylong_of_log2 hc.2))
theorem call_sum (hc:X.calm=true):CallR X (.builtin "sum") (fun xs H Q=>∃ (p:Addr) (ns:List Int),xs=[.ref p]∧SqL X.K H p (ns.map V.int)∧Q (.int ns.sum) H):=by
  intro pins s σ H xs us Q I r h
  obtain ⟨p,ns,rfl,hq,q⟩:=h
  obtain ⟨u,rfl,rx⟩:=vals1 r
  cases rx
  obtain ⟨its,r',pl,hz⟩:=I.list hq
  have hi:=intsAre_of r'
  obtain ⟨ys,hx⟩:=hi.allInts.items
  have hl':s.heap.IsList p (intItems ys):=hx ▸ pl.isList
  refine sum_intListG (I.ok.hd hc) hl' fun h' tk t' hk=>?_
  have e1:ns=ys.toList.map (·.1):=by
    rw [← nums_intItems,← hx]
    exact (show numsOf its.toArray.toList=ns from hi.numsOf).symm
  have e2:preSum (numAt ys) ys.size=ns.sum:=by
    rw [preSum_eq,List.take_of_length_le (by simp),e1]
  rw [e2]
  exact ⟨.int ns.sum,H,I.kept hk,⟨_,rfl⟩,q⟩
theorem call_isi:CallR X (.builtin "isinstance") (fun xs H Q=>∃ x n t b,xs=[x,.ty n]∧TyOf X.K H x t∧PySem.W.kitOne X.K t (.type n)=some b∧Q (.bl b) H):=by
  intro pins s σ H xs us Q I r h
  obtain ⟨x,n,t,b,rfl,ty,e,q⟩:=h
  obtain ⟨u,w',rfl,rx,ry⟩:=vals2 r
  cases ry
  exact isinst_ok I rx ty e fun tk=>⟨.bl b,H,I.tok _,rfl,q⟩
theorem range_all_eq {α:Type} [DecidableEq α] {ns ms:List α} (d:α) (h:ns.length=ms.length):((List.range ns.length).all fun j=>decide (ns.getD j d=ms.getD j d))=decide (ns=ms):=by
  rw [Bool.eq_iff_iff,List.all_eq_true,decide_eq_true_iff]
  constructor
  · intro H
    refine List.ext_getElem h fun i h1 h2=>?_
    have:=of_decide_eq_true (H i (List.mem_range.mpr h1))
    rw [List.getD_eq_getElem?_getD,List.getD_eq_getElem?_getD,List.getElem?_eq_getElem h1,List.getElem?_eq_getElem h2] at this
    exact this
  · rintro rfl i _
    simp
theorem eqAt_items {α:Type} [DecidableEq α] {A:Around} {s:Shared} {us ws:List Value} {ns ms:List α} {d:α} (hl:us.length=ns.length) (hl2:ws.length=ms.length)
    (h:∀ (j:Nat) (u v:Value) (a b:α),us[j]?=some u→ws[j]?=some v→ns[j]?=some a→ms[j]?=some b→SeqAt.EqAt A s u v (decide (a=b))) :
    ∀ j (h1:j<us.toArray.size) (h2:j<ws.toArray.size),SeqAt.EqAt A s us.toArray[j] ws.toArray[j] (decide (ns.getD j d=ms.getD j d)):=by
  intro j h1 h2
  have h1':j<us.length:=by simpa using h1
  have h2':j<ws.length:=by simpa using h2
  have q:=h j us[j] ws[j] ns[j] ms[j] (List.getElem?_eq_getElem h1') (List.getElem?_eq_getElem h2') (List.getElem?_eq_getElem (by omega)) (List.getElem?_eq_getElem (by omega))
  have e1:ns.getD j d=ns[j]:=by rw [List.getD_eq_getElem?_getD,List.getElem?_eq_getElem (by omega)]; rfl
  have e2:ms.getD j d=ms[j]:=by rw [List.getD_eq_getElem?_getD,List.getElem?_eq_getElem (by omega)]; rfl
  rw [e1,e2]
  simpa using q
theorem rcAt_lists {α:Type} [DecidableEq α] [Inhabited α] {A:Around} {s:Shared} {l b:Addr} {us ws:List Value} {ns ms:List α} (p1:s.heap.IsList l us.toArray) (p2:s.heap.IsList b ws.toArray) (hl:us.length=ns.length) (hl2:ws.length=ms.length) (hu:A.units<cLine)
    (h:∀ (j:Nat) (u v:Value) (a b:α),us[j]?=some u→ws[j]?=some v→ns[j]?=some a→ms[j]?=some b→SeqAt.EqAt A.in1 s u v (decide (a=b))) :
    SeqAt.RcAt A s (.ref l) (.ref b) (decide (ns=ms)):=by
  by_cases hs:ns.length=ms.length
  · have q:=SeqAt.RcAt.lists (e:=fun j=>decide (ns.getD j default=ms.getD j default)) p1 p2 (by simp; omega) hu (eqAt_items hl hl2 h)
    have e:((List.range us.toArray.size).all fun j=>decide (ns.getD j default=ms.getD j default))=decide (ns=ms):=by
      rw [List.size_toArray,hl]; exact range_all_eq default hs
    rw [e] at q
    exact q
  · have q:=SeqAt.RcAt.lists_lengths p1 p2 (by simp; omega) hu
    have e:decide (ns=ms)=false:=decide_eq_false fun z=>hs (by rw [z])
    rw [e]
    exact q
theorem rcNeAt_lists {α:Type} [DecidableEq α] [Inhabited α] {A:Around} {s:Shared} {l b:Addr} {us ws:List Value} {ns ms:List α} (p1:s.heap.IsList l us.toArray) (p2:s.heap.IsList b ws.toArray) (hl:us.length=ns.length) (hl2:ws.length=ms.length) (hu:A.units<cLine)
    (h:∀ (j:Nat) (u v:Value) (a b:α),us[j]?=some u→ws[j]?=some v→ns[j]?=some a→ms[j]?=some b→SeqAt.EqAt A.in1 s u v (decide (a=b))) :
    SeqAt.RcNeAt A s (.ref l) (.ref b) (!decide (ns=ms)):=by
  by_cases hs:ns.length=ms.length
  · have q:=SeqAt.RcNeAt.lists (e:=fun j=>decide (ns.getD j default=ms.getD j default)) p1 p2 (by simp; omega) hu (eqAt_items hl hl2 h)
    have e:((List.range us.toArray.size).all fun j=>decide (ns.getD j default=ms.getD j default))=decide (ns=ms):=by
      rw [List.size_toArray,hl]; exact range_all_eq default hs
    rw [e] at q
    exact q
  · have q:=SeqAt.RcNeAt.lists_lengths p1 p2 (by simp; omega) hu
    have e:decide (ns=ms)=false:=decide_eq_false fun z=>hs (by rw [z])
    rw [e]
    exact q
end
open PySem.W in
theorem bits_of_lay {ns:List Int} (h:WData.layableAll [WData.list (ns.map WData.int)]=true):∀ n∈ns,Builtin.Int.intBits n≤1048576:=by
  have w:WData.weight (.list (ns.map WData.int))≤2 ^ 20:=by
    unfold WData.layableAll WData.layable at h
    simp only [List.all_cons,List.all_nil,Bool.and_true,Bool.and_eq_true,decide_eq_true_eq] at h
    exact h.2
  have key:∀ (ms:List Int),∀ n∈ms,Builtin.Int.intBits n≤WData.weightAll (ms.map WData.int):=by
    intro ms
    induction ms with
    | nil=>intro n hn; cases hn
    | cons m ms ih =>
      intro n hn
      rw [List.map_cons,WData.weightAll]
      rcases List.mem_cons.mp hn with rfl | hn
      · have e:WData.weight (.int n)=Builtin.Int.intBits n:=by simp [WData.weight,Builtin.Int.intBits]
        omega
      · have:=ih n hn
        omega
  intro n hn
  have q:=key ns n hn
  have e:WData.weight (.list (ns.map WData.int))=WData.weightAll (ns.map WData.int):=by simp [WData.weight]
  rw [e] at w
  exact Nat.le_trans q w
end L2
namespace L2
open PySem PySem.Spec PyProof.Rows
def compCx (X:Cx) (N':List Str) (scope:Scope) (cl:List (Str×Addr)) (C:Addr) (s3:Shared) (H3:Hp) (fp:List Addr) (pins:List (Addr×Obj)):Cx :=
  { X with N:=N',s₀:=s3,H₀:=H3,env:=compEnvC scope cl C X.env,outer:=X.stack,stack:=X.stack,ex:=fp,fn:=fun _=>false,pn:=X.pn++pins,xe:=fun _ _=>False }
structure Frees (X:Cx) (N':List Str) (scope:Scope) (cl:List (Str×Addr)) (σ σ0:St):Prop where
  sub:∀ x c,cl.lookup x=some c→X.env.cells.lookup x=some c
  vals:∀ (j:Nat) (x:Str) (v:V),N'[j]?=some x→σ0[j]?=some (some v)→∃ (i:Nat) (c:Addr),X.N[i]?=some x∧σ[i]?=some (some v)∧Vis X.env.scope x∧X.env.kindOf x≠some .local∧cl.lookup x=some c ∧
    ((relabel scope X.env).names.lookup x=some .cell∨(relabel scope X.env).names.lookup x=some .free)
  has:∀ x,((relabel scope X.env).names.lookup x=some .cell∨(relabel scope X.env).names.lookup x=some .free)→∃ c,cl.lookup x=some c
  len:σ0.length=N'.length
section
variable {prog:Program} {w:World} {A:Around} {R:Result→Shared→Prop} {s:Shared}
theorem compLoop_gen {elt target iter:Expr} {ifs:List Expr} {scope:Scope} {pos:Pos} {it acc:Value} {env:Env} (I:Nat→Shared→Prop)
    (turn:∀ n s,I n s→wpAny (model prog w) A (pyNext it) (fun r s₁=>match r with
      | none=>R (.ok .next) s₁
      | some v=>wpAny (model prog w) A (letOwnedTupleGo target it v) (fun _ s₀=>wpAny (model prog w) A (assign target env v) (fun _ s₂ =>
          wpAny (model prog w) A (forIn ifs true fun c r=>if r=true then do let ok ← isTrue c env (eval c env); pure (ForInStep.yield ok) else pure (ForInStep.yield r)) (fun ok s₃ =>
            if ok=true then wpAny (model prog w) A (eval elt env) (fun x s₄ =>
              wpAny (model prog w) A (call (.builtin "list.append") [acc,x]) (fun _ s₅=>∃ m,m<n∧I m s₅) (fun _ _=>False) s₄) (fun _ _=>False) s₃
            else ∃ m,m<n∧I m s₃) (fun _ _=>False) s₂) (fun _ _=>False) s₀) (fun _ _=>False) s₁) (fun _ _=>False) s)
    (n:Nat) (h:I n s) :
    codeAny (model prog w) A (.compLoop (.ListComp elt [⟨target,iter,ifs,0⟩] scope pos) 0 it acc env) R s:=by
  refine codeAny_loop rfl I (fun n s hI=>?_) n h
  show wpAny _ A ((compTurn (.ListComp elt [⟨target,iter,ifs,0⟩] scope pos) 0 it acc env).onRaise (fun x=>do noteFrame x env; theTreesLotGoes x)) _ _ s
  refine wpAny_noted ?_
  rw [compTurn_list]
  refine wpAny_bind (wpAny_standAt (wpAny_bind (wpAny_mono (turn n s hI) (fun r s₁ h₁=>?_) fun _ _ h'=>h'.elim)))
  cases r with
  | none=>exact wpAny_pure h₁
  | some v =>
    refine wpAny_bind (wpAny_mono h₁ (fun _ s₀ h₀=>?_) fun _ _ h'=>h'.elim)
    refine wpAny_bind (wpAny_mono h₀ (fun _ s₂ h₂=>wpAny_bind (wpAny_mono h₂ (fun ok s₃ h₃=>?_) fun _ _ h'=>h'.elim)) fun _ _ h'=>h'.elim)
    cases ok with
    | false=>exact wpAny_pure ⟨rfl,h₃⟩
    | true =>
      exact wpAny_bind (wpAny_bind (wpAny_mono h₃ (fun x s₄ h₄=>wpAny_bind (wpAny_mono h₄ (fun _ s₅ h₅=>wpAny_pure (wpAny_pure ⟨rfl,h₅⟩)) fun _ _ h'=>h'.elim)) fun _ _ h'=>h'.elim))
end
def compW (J:It) (g:TG) (tt:TT) (te:TE) (σ0:St) (H1:Hp) (Q:VK):Prop:=∀ D,H1 D=none→∃ W:Nat→Nat→List V→Hp→Prop,(∃ m,W 0 m [] (upd H1 D (.lst []))) ∧
  ∀ i m ys H,W i m ys H→(J.stop i H∧H D=some (.lst ys)∧Q (.ref D) H) ∨
    (J.go i H∧∀ x H',J.yld i H x H'→g x σ0 H' fun σ2 H2=>tt σ2 H2 fun c H3 =>
      if c=true then te σ2 H3 fun v H4=>H4 D=some (.lst ys)∧ys.length<sizeLine∧∃ m',m'<m∧W (i+1) m' (ys++[v]) (upd H4 D (.lst (ys++[v])))
      else ∃ m',m'<m∧W (i+1) m' ys H3)
def Keepg (g:TG) (σ0:St):Prop:=∀ x H (Q:St→Hp→Prop),g x σ0 H Q→g x σ0 H fun σ2 H2=>Q σ2 H2∧σ2.length=σ0.length∧∀ (j:Nat) v,σ0[j]?=some (some v)→σ2[j]?=some (some v)
section
variable {X:Cx} {tg elt iter:Expr} {ifs:List Expr} {scope:Scope} {cl:List (Str×Addr)} {N':List Str} {σ0:St→St} {g:TG} {tt:TT} {te:TE}
theorem comp_block {pos:Pos} {pins:List (Addr×Obj)} {σ:St} {H1:Hp} {s2:Shared} {it:Addr} {fp:List Addr} {tn:Nat→Heap→Prop} {J:It} {Q:VK} {RR:Value→Addr→Result→Shared→Prop}
    (hc:X.calm=true) (hcell:∀ y∈scope.names,y.2≠.cell) (hkind:scope.kind=.function)
    (I:Inv X pins σ H1 s2) (T:Turn X.prog X.w X.K tg J fp it tn) (st:tn 0 s2.heap) (hfp:∀ b∈fp,FpOk X pins H1 b) (fr:Frees X N' scope cl σ (σ0 σ)) (hk:Keepg g (σ0 σ))
    (hg:∀ C s3 H3 fp pins,PG (compCx X N' scope cl C s3 H3 fp pins) tg g)
    (ht:∀ C s3 H3 fp pins (pl:List (Addr×Obj)) (s:Shared) (σ:St) (H:Hp) (Q:Bool→Hp→Prop),Inv (compCx X N' scope cl C s3 H3 fp pins) pl σ H s→tt σ H Q →
      wpAny (model X.prog X.w) X.A (forIn ifs true fun c r=>if r=true then do let ok ← isTrue c (compEnvC scope cl C X.env) (eval c (compEnvC scope cl C X.env)); pure (ForInStep.yield ok) else pure (ForInStep.yield r)) (TP (compCx X N' scope cl C s3 H3 fp pins) pl σ Q) (fun _ _=>False) s)
    (he:∀ C s3 H3 fp pins,PE (compCx X N' scope cl C s3 H3 fp pins) elt te) (hw:compW J g tt te (σ0 σ) H1 Q)
    (hRR:∀ D C s' H' m,Inv X pins σ H' s'→s'.heap.Ns C m→H' C=none→C≠X.env.locals→X.s₀.heap.objs.size≤C→(∀ x c,X.env.cells.lookup x=some c→c≠C)→(∀ p∈X.pn++pins,p.1≠C)→Q (.ref D) H'→RR (.ref D) C (.ok .next) s') :
    wpAny (model X.prog X.w) X.A (newList []) (fun acc s₃=>wpAny (model X.prog X.w) X.A (newFunctionEnv scope X.env.globals cl [] X.env.qual none .none (some X.env)) (fun cenv s₄ =>
      codeAny (model X.prog X.w) X.A (.compStart (.ListComp elt [⟨tg,iter,ifs,0⟩] scope pos) 0 (.ref it) acc { cenv with scope:=relabel scope X.env }) (RR acc cenv.locals) s₄) X.xe s₃) X.xe s2:=by
  refine wpAny_newObj_type (hd:=by size_fits) (wpAny_newFunctionEnv hcell (by intro y hy; simp at hy) (fun h₁ hns₁ hsb₁=>?_) hkind)
  dsimp only at hns₁ hsb₁ ⊢
  have I3:Inv X pins σ (upd H1 s2.heap.objs.size (.lst [])) { s2 with heap:=s2.heap.push { cls:=.type "list", dict:=none,data:=.seq ([]:List Value).toArray } }:=I.lnew (t':=s2.toks) (its:=[]) (ys:=[]) .nil (Nat.zero_le _)
  obtain ⟨W,⟨m0,w0⟩,turn⟩:=hw s2.heap.objs.size I.fresh
  have hfpo:=T.obj 0 _ st
  have fpl:∀ b∈fp,b<s2.heap.objs.size:=fun b hb=>by
    obtain ⟨o,e,_⟩:=hfpo b hb
    exact Heap.lt_size e
  have fD:∀ b∈fp,upd H1 s2.heap.objs.size (.lst []) b=none:=fun b hb=>by
    rw [upd_ne (Nat.ne_of_lt (fpl b hb))]
    exact (hfp b hb).1
  generalize hs3:({ s2 with heap:=s2.heap.push { cls:=.type "list", dict:=none,data:=.seq ([]:List Value).toArray } }:Shared)=s3 at I3
  have es3:s3.heap=s2.heap.push { cls:=.type "list", dict:=none,data:=.seq ([]:List Value).toArray }:=by rw [← hs3]
  have st3:tn 0 s3.heap:=T.keep _ _ _ st fun b hb o e=>by rw [es3]; exact Heap.get?_push_of_some _ e
  rw [← es3] at hns₁ hsb₁ ⊢
  have sz3:s2.heap.objs.size<s3.heap.objs.size:=by rw [es3,Heap.size_push]; exact Nat.lt_succ_self _
  generalize upd H1 s2.heap.objs.size (.lst [])=H3 at I3 fD w0
  have old:∀ b o,s3.heap.get? b=some o→h₁.get? b=some o:=fun b o e=>hsb₁.extBut b o (Nat.ne_of_lt (Heap.lt_size e)) (Heap.get?_push_of_some _ e)
  have fpl3:∀ b∈fp,b<s3.heap.objs.size:=fun b hb=>Nat.lt_trans (fpl b hb) sz3
  have stk:∀ b∈fp,b∉frs X.stack:=fun b hb z=>by
    rcases List.mem_cons.mp (I3.stkSub b z) with e | e
    · exact (hfp b hb).2.1 e
    · exact (hfp b hb).2.2.1 e
  have ok:(compCx X N' scope cl s3.heap.objs.size s3 H3 fp pins).Ok:=by
    refine ⟨I3.ok.mod,hkind,I3.ok.glob,I3.ok.blt,Nat.le_refl _,fun x y c h1 h2=>I3.ok.inj x y c (fr.sub x c h1) (fr.sub y c h2),fun x h=>fr.has x h,fun x c h _=>(by cases h),I3.ok.hd,I3.ok.frames,.inl rfl,
      fun b hb=>⟨Nat.ne_of_lt (fpl3 b hb),fun x c e=>(hfp b hb).2.2.2.2.1 x c (fr.sub x c e)⟩,I3.bs,Nat.le_trans I3.ok.bsz I3.sz,fun b o e hb=>?_,fun b hb=>stk b hb,I3.stack,I3.stkFree⟩
    rcases (hfp b hb).2.2.2.1 with z | z
    · exact I3.ok.noex b o e z
    · have l1:b<X.base.objs.size:=Heap.lt_size e
      have l2:X.base.objs.size≤X.s₀.heap.objs.size:=I3.ok.bsz
      have l3:X.s₀.heap.objs.size≤b:=z
      exact absurd (Nat.lt_of_lt_of_le l1 (Nat.le_trans l2 l3)) (Nat.lt_irrefl _)
  have lt3:X.env.locals<s3.heap.objs.size:=I3.lt
  have start:Inv (compCx X N' scope cl s3.heap.objs.size s3 H3 fp pins) [] (σ0 σ) H3 { s3 with heap:=h₁ }:=by
    refine ⟨ok,rfl,I3.bare,Un.kept old,⟨_,hns₁,fun j x v e1 e2 _=>?_⟩,fun x c e=>?_,I3.hok.fresh (Nat.le_refl _),fun x c e=>I3.freeC x c (fr.sub x c e),fun p hp=>?_,I3.hok.kept old,fr.len⟩
    · obtain ⟨i,c,q1,q2,q3,q4,q5,q6⟩:=fr.vals j x v e1 e2
      obtain ⟨m,hn,hl⟩:=I3.loc
      obtain ⟨u,r,l⟩:=hl i x v q1 q2 q3
      refine ⟨u,r,.inr ⟨q6,c,q5,?_⟩⟩
      rcases l with ⟨k,_⟩ | ⟨_,c',e',z⟩
      · exact absurd k q4
      · rw [fr.sub x c q5] at e'
        cases e'
        obtain ⟨o,ho,hd⟩:=z
        exact ⟨o,old _ _ ho,hd⟩
    · obtain ⟨v,o,ho,hd⟩:=I3.cell x c (fr.sub x c e)
      exact ⟨v,o,old _ _ ho,hd⟩
    · have hp':p∈X.pn++pins:=by simpa [compCx] using hp
      obtain ⟨e,n,ne,nf,d⟩:=I3.pin p hp'
      refine ⟨old _ _ e,n,Nat.ne_of_lt (Heap.lt_size e),fun z=>?_,d⟩
      rcases List.mem_cons.mp (I3.stkSub p.1 z) with q | q
      · exact ne q
      · exact nf q
  have hst₁:tn 0 h₁:=T.keep _ _ _ st3 fun b _ o e=>old b o e
  have fpok:∀ {H':Hp},(∀ b∈fp,H' b=none)→∀ b∈fp,FpOk (compCx X N' scope cl s3.heap.objs.size s3 H3 fp pins) [] H' b:=fun {H'} hn b hb =>
    ⟨hn b hb,Nat.ne_of_lt (fpl3 b hb),stk b hb,.inl hb,fun x c e=>(hfp b hb).2.2.2.2.1 x c (fr.sub x c e),fun p hp=>(hfp b hb).2.2.2.2.2 p (by simpa [compCx] using hp)⟩
  have loop:codeAny (model X.prog X.w) X.A (.compLoop (.ListComp elt [⟨tg,iter,ifs,0⟩] scope pos) 0 (.ref it) (.ref s2.heap.objs.size) (compEnvC scope cl s3.heap.objs.size X.env)) (RR (.ref s2.heap.objs.size) s3.heap.objs.size) { s3 with heap:=h₁ }:=by
    refine compLoop_gen (fun n s'=>∃ i ys H',Inv (compCx X N' scope cl s3.heap.objs.size s3 H3 fp pins) [] (σ0 σ) H' s'∧tn i s'.heap∧(∀ b∈fp,H' b=none)∧W i n ys H') ?_ m0 ⟨0,[],H3,start,hst₁,fD,w0⟩
    rintro n s4 ⟨i,ys,H4,I4,st4,fr4,w4⟩
    rcases turn i n ys H4 w4 with ⟨stop,eD,q⟩ | ⟨go,step⟩
    · refine thn (T.done (compCx X N' scope cl s3.heap.objs.size s3 H3 fp pins) rfl rfl rfl hc i [] s4 _ H4 _ I4 (fpok fr4) st4 stop) fun r s5 ⟨hr,I5⟩=>?_
      subst hr
      obtain ⟨m5,n5,_⟩:=I5.loc
      have J5:Inv X pins σ H4 s5:=I3.call' I5.os I5.base I5.hok I5.bare fun b hb=>⟨(hfp b hb).2.2.2.1,(hfp b hb).2.1,(hfp b hb).2.2.2.2.1,(hfp b hb).2.2.2.2.2⟩
      exact hRR _ _ s5 H4 m5 J5 n5 I5.free (Nat.ne_of_gt lt3) I3.sz (fun x c e z=>by
        obtain ⟨v,o,ho,_⟩:=I3.cell x c e
        exact absurd (Heap.lt_size ho) (by rw [z]; exact Nat.lt_irrefl _)) (fun p hp z=>by
        have e:=(I3.pin p hp).1
        exact absurd (Heap.lt_size e) (by rw [z]; exact Nat.lt_irrefl _)) q
    · refine thn (T.item (compCx X N' scope cl s3.heap.objs.size s3 H3 fp pins) rfl rfl rfl hc i [] s4 _ H4 _ I4 (fpok fr4) st4 go) fun r s5 ⟨u,hr,h5⟩=>?_
      subst hr
      refine thn h5 fun _ s6 ⟨x,H6,I6,r6,y6,st6,fr6⟩=>?_
      have I6':=I6.pinned (fpok fr6) (T.obj _ _ st6)
      refine thn (hg _ _ _ _ _ _ s6 _ H6 x u _ I6' r6 (hk _ _ _ (step x H6 y6))) fun _ s7 ⟨σ7,H7,I7,q7,l7,k7⟩=>?_
      have again:∀ {s8:Shared} {H8:Hp} {m:Nat} {zs:List V},Inv (compCx X N' scope cl s3.heap.objs.size s3 H3 fp pins) ([]++pinsAt fp s6.heap) σ7 H8 s8→m<n→W (i+1) m zs H8 →
          ∃ m,m<n∧∃ i ys H',Inv (compCx X N' scope cl s3.heap.objs.size s3 H3 fp pins) [] (σ0 σ) H' s8∧tn i s8.heap∧(∀ b∈fp,H' b=none)∧W i m ys H':=fun {s8 H8 m zs} I8 hm w8=>by
        refine ⟨m,hm,i+1,zs,H8,(Inv.unpinned I8).weak l7.symm k7,T.keep _ _ _ st6 fun b hb o e=>(I8.pin (b,o) (List.mem_append_right _ (List.mem_append_right _ (mem_pinsAt hb e)))).1,fun b hb=>?_,w8⟩
        obtain ⟨o,e,d⟩:=T.obj _ _ st6 b hb
        exact (I8.pin (b,o) (List.mem_append_right _ (List.mem_append_right _ (mem_pinsAt hb e)))).2.1
      refine thn (ht _ _ _ _ _ _ s7 σ7 H7 _ I7 q7) fun c s8 ⟨H8,I8,q8⟩=>?_
      cases c with
      | false =>
        rw [if_neg Bool.false_ne_true] at q8 ⊢
        obtain ⟨m',hm,w8⟩:=q8
        exact again I8 hm w8
      | true =>
        rw [if_pos rfl] at q8 ⊢
        refine thn (he _ _ _ _ _ _ s8 σ7 H8 _ I8 q8) fun v s9 ⟨y,H9,I9,r9,e9,z9,m',hm,w9⟩=>?_
        exact thn (mt_append _ s9 σ7 H9 (.ref s2.heap.objs.size) [y] (.ref s2.heap.objs.size) [v] (fun _ H'=>H'=upd H9 s2.heap.objs.size (.lst (ys++[y]))) I9 rfl (.cons r9 .nil) ⟨_,ys,y,rfl,rfl,e9,z9,rfl⟩)
          fun _ s10 ⟨_,H10,I10,_,e10⟩=>by subst e10; exact again I10 hm w9
  subst hs3
  exact codeAny_compStart_list loop (T.self _ 0 _ _ _ hst₁ loop)
def tComp (wi:TI) (g:TG) (tt:TT) (te:TE) (σ0:St→St):TE:=fun σ H Q=>wi σ H fun J H1=>compW J g tt te (σ0 σ) H1 Q
def tTrue:TT:=fun _ H Q=>Q true H
variable {pos:Pos} {wi:TI}
theorem pe_compG (hc:X.calm=true) (hi:PI X tg iter wi) (fr:∀ σ:St,σ.length=X.N.length→Frees X N' scope cl σ (σ0 σ)) (hk:∀ σ,Keepg g (σ0 σ))
    (hg:∀ C s3 H3 fp pins,PG (compCx X N' scope cl C s3 H3 fp pins) tg g)
    (ht:∀ C s3 H3 fp pins (pl:List (Addr×Obj)) (s:Shared) (σ:St) (H:Hp) (Q:Bool→Hp→Prop),Inv (compCx X N' scope cl C s3 H3 fp pins) pl σ H s→tt σ H Q →
      wpAny (model X.prog X.w) X.A (forIn ifs true fun c r=>if r=true then do let ok ← isTrue c (compEnvC scope cl C X.env) (eval c (compEnvC scope cl C X.env)); pure (ForInStep.yield ok) else pure (ForInStep.yield r)) (TP (compCx X N' scope cl C s3 H3 fp pins) pl σ Q) (fun _ _=>False) s)
    (he:∀ C s3 H3 fp pins,PE (compCx X N' scope cl C s3 H3 fp pins) elt te)
    (hclos:closureFor scope X.env=pure cl) (hcell:∀ y∈scope.names,y.2≠.cell) (hkind:scope.kind=.function) (hnames:∀ y∈scope.names,y.2=.local→scope.names.lookup y.1=some .local)
    (hs:∀ x,foldedSetIterable iter X.env x=pure x):PE X (.ListComp elt [⟨tg,iter,ifs,0⟩] scope pos) (tComp wi g tt te σ0):=by
  intro pins s σ H Q I h
  rw [eval_ListComp]
  refine wpAny_comprehension_free (use:=none) rfl hs hclos hkind hnames (thn (hi pins s σ H _ I h) fun v s1 h1=>thn h1 fun itv s2 h2=>?_)
  obtain ⟨it,fp,tn,J,H2,e,I2,T,st2,f2,q⟩:=h2
  subst e
  refine comp_block (RR:=fun acc C=>compPost (model X.prog X.w) X.A X.xe none (EP X pins σ Q) acc C) hc hcell hkind I2 T st2 f2 (fr σ I.len) (hk σ) hg ht he q ?_
  intro D C s' H' m I' hn hC h1 h2 h3 h4 q'
  refine ⟨m,hn,fun h'' hs''=>⟨.ref D,H',?_,rfl,q'⟩⟩
  exact I'.turned (t':=s'.toks) (fun b o hb e=>hs''.extBut b o hb e) hC h1 (.inr h2) h3 h4
def tSetC (t:TE) (i:Nat):TS:=fun D σ H=>t σ H fun x H1=>D.nx (σ.set i (some x)) H1
theorem ps_setCG {i:Nat} {x:Str} {pos' spos:Pos} (hN:X.N.Nodup) (hi':X.N[i]?=some x) (hx:Loc X.env.scope x) (hf:X.fn x=true∨X.env.scope.names.lookup x=some .local)
    (hc:X.calm=true) (hi:PI X tg iter wi) (fr:∀ σ:St,σ.length=X.N.length→Frees X N' scope cl σ (σ0 σ)) (hk:∀ σ,Keepg g (σ0 σ))
    (hg:∀ C s3 H3 fp pins,PG (compCx X N' scope cl C s3 H3 fp pins) tg g)
    (ht:∀ C s3 H3 fp pins (pl:List (Addr×Obj)) (s:Shared) (σ:St) (H:Hp) (Q:Bool→Hp→Prop),Inv (compCx X N' scope cl C s3 H3 fp pins) pl σ H s→tt σ H Q →
      wpAny (model X.prog X.w) X.A (forIn ifs true fun c r=>if r=true then do let ok ← isTrue c (compEnvC scope cl C X.env) (eval c (compEnvC scope cl C X.env)); pure (ForInStep.yield ok) else pure (ForInStep.yield r)) (TP (compCx X N' scope cl C s3 H3 fp pins) pl σ Q) (fun _ _=>False) s)
    (he:∀ C s3 H3 fp pins,PE (compCx X N' scope cl C s3 H3 fp pins) elt te)
    (hclos:closureFor scope X.env=pure cl) (hcell:∀ y∈scope.names,y.2≠.cell) (hkind:scope.kind=.function) (hnames:∀ y∈scope.names,y.2=.local→scope.names.lookup y.1=some .local)
    (hs:∀ x,foldedSetIterable iter X.env x=pure x) (hsw:swapsWith (.ListComp elt [⟨tg,iter,ifs,0⟩] scope pos) (some (.Name x pos')) spos.line X.env=pure true) :
    PS X (.Assign [.Name x pos'] (.ListComp elt [⟨tg,iter,ifs,0⟩] scope pos) spos) (tSetC (tComp wi g tt te σ0) i):=by
  intro pins s σ H D I h
  rw [exec_Assign_Name_used _ _ _ _ hsw]
  refine wpAny_bind (wpAny_standAt (wpAny_bind ?_))
  show wpAny _ X.A (do let _ ← comprehension (.ListComp elt [⟨tg,iter,ifs,0⟩] scope pos) scope X.env _ (newList []) false (eval iter X.env) (some (assign (.Name x pos') X.env))) _ _ s
  refine wpAny_bind (wpAny_mono (wpAny_comprehension_free (Q:=fun _ s'=>SP X pins D .next s') (use:=some (assign (.Name x pos') X.env)) rfl hs hclos hkind hnames (thn (hi pins s σ H _ I h) fun v s1 h1=>thn h1 fun itv s2 h2=>?_))
    (fun _ s' hq=>wpAny_pure (wpAny_pure hq)) fun _ _ e=>e)
  obtain ⟨it,fp,tn,J,H2,e,I2,T,st2,f2,q⟩:=h2
  subst e
  refine comp_block (RR:=fun acc C=>compPost (model X.prog X.w) X.A X.xe (some (assign (.Name x pos') X.env)) (fun _ s'=>SP X pins D .next s') acc C) hc hcell hkind I2 T st2 f2 (fr σ I.len) (hk σ) hg ht he q ?_
  intro Dl C s' H' m I' hn hC h1 h2 h3 h4 q'
  show wpAny _ _ (assign (.Name x pos') X.env (.ref Dl)) _ _ s'
  refine wpAny_assign_Name (store_ok2 (v:=.ref Dl) I' hN hi' hx rfl (fun s'' I'' ⟨a,hsb,ha⟩=>?_) hf)
  have hne:C≠a:=by
    rcases ha with rfl | ha
    · exact h1
    · exact Ne.symm (h3 x a ha)
  refine ⟨m,hn.sameBut hsb hne,fun h'' hs''=>⟨_,H',?_,q'⟩⟩
  exact I''.turned (t':=s''.toks) (fun b o hb e=>hs''.extBut b o hb e) hC h1 (.inr h2) h3 h4
end
end L2
namespace L2
open PySem PySem.Spec PyProof.Rows
section
variable {X:Cx} {iter elt c:Expr} {scope:Scope} {y z:Str} {py pos:Pos} {wi:TI} {te:TE} {tt:TT}
theorem tests0 {N':List Str} {cl:List (Str×Addr)}:∀ C s3 H3 fp pins (pl:List (Addr×Obj)) (s:Shared) (σ:St) (H:Hp) (Q:Bool→Hp→Prop),Inv (compCx X N' scope cl C s3 H3 fp pins) pl σ H s→tTrue σ H Q →
    wpAny (model X.prog X.w) X.A (forIn ([]:List Expr) true fun c r=>if r=true then do let ok ← isTrue c (compEnvC scope cl C X.env) (eval c (compEnvC scope cl C X.env)); pure (ForInStep.yield ok) else pure (ForInStep.yield r)) (TP (compCx X N' scope cl C s3 H3 fp pins) pl σ Q) (fun _ _=>False) s :=
  fun _ _ _ _ _ _ _ _ H _ I h=>wpAny_tests_nil ⟨H,I,h⟩
theorem tests1 {N':List Str} {cl:List (Str×Addr)} (ht:∀ C s3 H3 fp pins,PT (compCx X N' scope cl C s3 H3 fp pins) c tt):∀ C s3 H3 fp pins (pl:List (Addr×Obj)) (s:Shared) (σ:St) (H:Hp) (Q:Bool→Hp→Prop),Inv (compCx X N' scope cl C s3 H3 fp pins) pl σ H s→tt σ H Q →
    wpAny (model X.prog X.w) X.A (forIn [c] true fun c r=>if r=true then do let ok ← isTrue c (compEnvC scope cl C X.env) (eval c (compEnvC scope cl C X.env)); pure (ForInStep.yield ok) else pure (ForInStep.yield r)) (TP (compCx X N' scope cl C s3 H3 fp pins) pl σ Q) (fun _ _=>False) s :=
  fun C s3 H3 fp pins pl s σ H Q I h=>wpAny_tests_one (ht C s3 H3 fp pins pl s σ H Q I h)
end
end L2
namespace L2
open PySem PySem.Spec PyProof.Rows
section
variable {X:Cx}
def CallKR (X:Cx) (f:Value) (ks:List Str) (r:List V→List V→Hp→VK→Prop):Prop :=
  ∀ (pins:List (Addr×Obj)) (s:Shared) (σ:St) (H:Hp) (xs zs:List V) (us ws:List Value) (Q:VK),Inv X pins σ H s→Vals xs us→Vals zs ws→r xs zs H Q →
    wpAny (model X.prog X.w) X.A (call f us (ks.zip ws)) (EP X pins σ Q) X.xe s
def tCBK (r:List V→List V→Hp→VK→Prop) (t tk:TA):TE:=fun σ H Q=>t σ H fun vs H1=>tk σ H1 fun zs H2=>r vs zs H2 Q
theorem pe_callBK {x:Str} {id:String} {p pos:Pos} {e:Expr} {es:List Expr} {kws:List Keyword} {ks:List Str} {t tk:TA} {r:List V→List V→Hp→VK→Prop} (hc:CallKR X (.builtin id) ks r) (hg:Gl X x) (hm:X.mg x=none) (hv:bootBuiltins x=some (.builtin id)) (ha:PA X (e::es) t) (hk:PK X kws tk)
    (hks:(backToKw pos (keywordEach kws X.env)).filterMap (·.1)=ks:=by rfl) (hn:x ≠ "__name__" := by decide) (hdb:(x==("__debug__" : Str))=false:=by decide)
    (he:backTo pos (starEach (e::es) X.env)=(false,eval e X.env)::backTo pos (starEach es X.env):=by rfl) (hpl:(backTo pos (starEach (e::es) X.env)).any (·.1)=false:=by rfl)
    (hall:(backToKw pos (keywordEach kws X.env)).all (·.1.isSome)=true:=by rfl) (hkw:(backToKw pos (keywordEach kws X.env)).any (·.1.isNone)=false:=by rfl):PE X (.Call (.Name x p) (e::es) kws pos) (tCBK r t tk):=by
  intro pins s σ H Q I h
  refine wpAny_Call_Name_kw (ld_blt I hg hm hv ?_ hn hdb)
  refine PyProof.Rows.callWith_kw (thn (ha pos pins s σ H _ I h) fun us s1 ⟨vs,H1,I1,r1,q1⟩=>?_) he hpl hall hkw
  refine thn (hk pos pins s1 σ H1 _ I1 q1) fun ws s2 ⟨zs,H2,I2,r2,q2⟩=>?_
  rw [hks]
  exact hc pins s2 σ H2 vs zs us ws Q I2 r1 r2 q2
end
section
variable {prog:Program} {w:World} {A:Around} {R:Result→Shared→Prop} {I:Addr} {fp wr:List Addr} {n:Nat} {P:Nat→Value→Prop} {St:Nat→Heap→Prop} {kw:List (Str×Value)}
end
section
variable {prog:Program} {w:World} {A:Around} {E:Value→Shared→Prop} {s:Shared}
theorem call_function_treeK {id:String} {b:Builtin} {args:List Value} {kw:List (Str×Value)} {Q:Value→Shared→Prop} (hk:builtinKind id=none) (hp:plainId id=true)
    (hb:entryFor table id=some b) (ha:argsOk id ⟨args,kw⟩)
    (hc:wpAny (model prog w) A.in1 (b ⟨args,kw⟩) (fun fin s'=>match fin with
      | .done f=>(match (Except.ok f:Result) with | .ok (.ret v)=>Q v s' | .ok _=>False | .error e=>E e s')
      | .again c'=>c'.quiet=true∧codeAny (model prog w) A c' (fun r s'=>match r with | .ok (.ret v)=>Q v s' | .ok _=>False | .error e=>E e s') s') E s) :
    wpAny (model prog w) A (call (.builtin id) args kw) Q E s:=by
  refine wpAny_call (codeAny_call_builtin hp hb ?_)
  simp only [checkBuiltinCall,hk]
  cases hsig:Manifest.signature? id with
  | none=>exact wpAny_pure hc
  | some sig =>
    simp only [argsOk,hsig] at ha
    have h2:Bind.checkArgs id sig ⟨args,kw⟩=pure ():=ha
    show wpAny _ A.in1 (Bind.checkArgs id sig ⟨args,kw⟩) _ _ s
    rw [h2]; exact wpAny_pure hc
end
section
variable {X:Cx}
end
section
variable {X:Cx}
theorem pe_globI {x:Str} {i:Int} {pos:Pos} (hg:Gl X x) (hm:∃ t,X.mg x=some (.int i t)) (hd:(x==("__debug__" : Str))=false:=by decide):PE X (.Name x pos) (tC (.int i)):=by
  obtain ⟨t,e⟩:=hm
  exact pe_glob hg e ⟨t,rfl⟩ hd
end
theorem bt_len:bootBuiltins "len" = some (.builtin "len"):=by decide +kernel
theorem bt_max:bootBuiltins "max" = some (.builtin "max"):=by decide +kernel
theorem bt_min:bootBuiltins "min" = some (.builtin "min"):=by decide +kernel
theorem bt_sum:bootBuiltins "sum" = some (.builtin "sum"):=by decide +kernel
theorem bt_isinstance:bootBuiltins "isinstance" = some (.builtin "isinstance"):=by decide +kernel
theorem bt_sorted:bootBuiltins "sorted" = some (.builtin "sorted"):=by decide +kernel
theorem bt_int:bootBuiltins "int" = some (.type "int"):=by decide +kernel
theorem bt_bool:bootBuiltins "bool" = some (.type "bool"):=by decide +kernel
theorem bt_list:bootBuiltins "list" = some (.type "list"):=by decide +kernel
theorem bt_set:bootBuiltins "set" = some (.type "set"):=by decide +kernel
theorem bt_enumerate:bootBuiltins "enumerate" = some (.type "enumerate"):=by decide +kernel
theorem same_new {H:Hp} {a:Addr} {o:HO} (h:H a=none):Same H (upd H a o):=fun b u e=>by
  rw [upd_ne (ne_of_none e h)]
  exact e
theorem Paired.mono {α β:Type} {F G:α→β→Prop}:∀ {as:List α} {bs:List β},Paired F as bs→(∀ a b,a∈as→F a b→G a b)→Paired G as bs
  | _,_,.nil,_=>.nil
  | _,_,.cons r t,h=>.cons (h _ _ List.mem_cons_self r) (Paired.mono t fun a b m=>h a b (List.mem_cons_of_mem _ m))
theorem Paired.append {α β:Type} {F:α→β→Prop}:∀ {as cs:List α} {bs ds:List β},Paired F as bs→Paired F cs ds→Paired F (as++cs) (bs++ds)
  | _,_,_,_,.nil,s=>s
  | _,_,_,_,.cons r t,s=>.cons r (Paired.append t s)
theorem Paired.take {α β:Type} {F:α→β→Prop}:∀ (n:Nat) {as:List α} {bs:List β},Paired F as bs→Paired F (as.take n) (bs.take n)
  | 0,_,_,_=>.nil
  | _+1,_,_,.nil=>.nil
  | n+1,_,_,.cons r t=>.cons r (Paired.take n t)
theorem Paired.drop {α β:Type} {F:α→β→Prop}:∀ (n:Nat) {as:List α} {bs:List β},Paired F as bs→Paired F (as.drop n) (bs.drop n)
  | 0,_,_,h=>h
  | _+1,_,_,.nil=>.nil
  | n+1,_,_,.cons _ t=>Paired.drop n t
section
variable {X:Cx} {K:PySem.W.Frag}
theorem sl_listK (h:X.K=K):SlR X (rSlL K):=by subst h; exact sl_list
theorem call_list_ofK (h:X.K=K):CallR X (.type "list") (fun xs H Q=>∃ p ys,xs=[.ref p]∧(SqL K H p ys∨SqT K H p ys)∧∀ l,H l=none→Q (.ref l) (upd H l (.lst ys))):=by subst h; exact call_list_of
theorem call_isiK (h:X.K=K):CallR X (.builtin "isinstance") (fun xs H Q=>∃ x n t b,xs=[x,.ty n]∧TyOf K H x t∧PySem.W.kitOne K t (.type n)=some b∧Q (.bl b) H):=by subst h; exact call_isi
theorem pt_truthK {a:Expr} {ta:TE} (h:X.K=K) (ha:PE X a ta) (he:∀ whole,isTrue a X.env whole=(do let v ← whole; standAt a.pos; holding [v] (truthy v))) :
    PT X a (fun σ H Q=>ta σ H fun x H'=>∃ k,TruV K x H' k∧Q k H'):=by subst h; exact pt_truth ha he
end
end L2
namespace L2
open PySem PySem.Spec PyProof.Rows
def Ite (K:PySem.W.Frag) (a:Addr):It :=
  ⟨fun i H=>∃ xs x,SqL K H a xs∧xs[i]?=some x,fun i H x H'=>∃ (t:Addr) (v:V),x=.ref t∧H t=none∧(∀ xs,SqL K H a xs→xs[i]?=some v)∧H'=upd H t (.tup [.int i,v]),fun i H=>∃ xs,SqL K H a xs∧xs.length≤i⟩
theorem turn_enum {P:Program} {w:World} {K:PySem.W.Frag} {elts:List Expr} {x1} {pos:Pos} (a e it:Addr) (hne:e≠it) :
    Turn P w K (.Tuple elts x1 pos) (Ite K a) [e,it] e (fun i h=>(∃ old,IsEnum h e it (i:Nat) old)∧h.IsListIter it a i) where
  mem:=by simp
  obj:=fun i h st b hb=>by
    obtain ⟨⟨old,he⟩,hit⟩:=st
    have hb':b=e∨b=it:=by simpa using hb
    rcases hb' with rfl | rfl
    · exact ⟨_,he,fun v z=>by
        have z':Data.fields _=Data.cell v:=z
        cases z'⟩
    · obtain ⟨o,ho,c,d⟩:=hit
      exact ⟨o,ho,fun v z=>by rw [d] at z; cases z⟩
  keep:=fun i h h' st k=>by
    obtain ⟨⟨old,he⟩,hit⟩:=st
    exact ⟨⟨old,k e (by simp) _ he⟩,hit.at fun o e=>k it (by simp) o e⟩
  item:=by
    intro X hP hw hK hc i pins s σ H E I hf st hg
    subst hP hw hK
    obtain ⟨⟨old,he⟩,hit⟩:=st
    obtain ⟨xs,x,hq,hx⟩:=hg
    obtain ⟨its,rv,p,hz⟩:=I.list hq
    obtain ⟨u,hu,ru⟩:=rv.get hx
    obtain ⟨f0,f1,f2,f3,f4,f5⟩:=hf e (by simp)
    obtain ⟨g0,g1,g2,g3,g4,g5⟩:=hf it (by simp)
    refine wpAny_pyNext_enum_item he hit p.isList (x:=u) (by simpa using hu) hne fun h₁ heo hit₁ ht₁ hz₁ hk₁=>⟨_,rfl,?_⟩
    refine wpAny_letOwnedTupleGo_enum heo fun h₂ he₂ hs₂=>?_
    replace hs₂:Heap.SameBut e h₁ h₂:=hs₂
    have hlt:e<s.heap.objs.size:=Heap.lt_size he
    have hilt:it<s.heap.objs.size:=by obtain ⟨o,ho,_⟩:=id hit; exact Heap.lt_size ho
    have k₂:∀ b o,b∉[e,it]→s.heap.get? b=some o→h₂.get? b=some o:=fun b o hb q=>by
      have b1:b≠e:=fun z=>hb (by simp [z])
      have b2:b≠it:=fun z=>hb (by simp [z])
      exact hs₂.extBut b o b1 (hk₁ b o b1 b2 q)
    have nit:∀ b u',H b=some u'→b∉[e,it]:=fun b u' q z=>by
      have z':b=e∨b=it:=by simpa using z
      rcases z' with rfl | rfl
      · rw [f0] at q; cases q
      · rw [g0] at q; cases q
    have I1:Inv X pins σ H { s with heap:=h₂,toks:=s.toks+1 }:=by
      refine I.step (g':=s.gens) (d':=s.drawn) (ch:=[e,it]) (fun b hb=>?_) (fun b o _ _ hc' q _=>k₂ b o hc' q) (fun b o _ _ hc' q _=>⟨o.slots,k₂ b o hc' q⟩) (fun _ _ _ _ n=>n)
        (fun b o hc' q=>⟨o,k₂ b o hc' q⟩) (fun _ _ q=>q) (fun _ _ _ q=>q) (fun b ps q=>⟨#[],by rw [q]; simp⟩) (fun m hm=>?_) (fun b u' q=>?_) I.bare
      · have z':b=e∨b=it:=by simpa using hb
        rcases z' with rfl | rfl
        · exact ⟨f3,f1,f4,f5⟩
        · exact ⟨g3,g1,g4,g5⟩
      · obtain ⟨o,es,ep,ho,r⟩:=hm
        exact ⟨o,es,ep,k₂ _ o (fun z=>by
          have z':X.env.locals=e∨X.env.locals=it:=by simpa using z
          rcases z' with z' | z'
          · exact f1 z'.symm
          · exact g1 z'.symm) ho,r⟩
      · refine (I.hok b u' q).stay (fun c v hc' q'=>k₂ c v ?_ q') (fun _ q'=>q') fun _ _ q'=>q'
        rcases hc' with z | z
        · rw [z]; exact nit b u' q
        · exact nit c _ z
    have nH:H s.heap.objs.size=none:=I.fresh
    have tup₂:h₂.get? s.heap.objs.size=some { cls:=.type "tuple", data:=.seq #[.int i s.toks,u] }:=hs₂.extBut _ _ (Nat.ne_of_gt hlt) ht₁
    have I2:Inv X pins σ (upd H s.heap.objs.size (.tup [.int i,x])) { s with heap:=h₂,toks:=s.toks+1 }:=by
      have ob:ObjOk X.prog X.w (upd H s.heap.objs.size (.tup [.int i,x])) h₂ s.heap.objs.size (.tup [.int i,x]) :=
        ⟨by simp only [List.length_cons,List.length_nil]; rw [sizeLine_eq]; decide,[.int i s.toks,u],.cons ⟨_,rfl⟩ (.cons ru .nil),⟨_,tup₂,rfl,_,rfl⟩⟩
      have hk:HOk X.prog X.w (upd H s.heap.objs.size (.tup [.int i,x])) h₂:=fun b u' q=>by
        by_cases hb:b=s.heap.objs.size
        · subst hb; rw [upd_same] at q; cases q; exact ob
        · rw [upd_ne hb] at q
          exact (I1.hok b u' q).stay (fun c v _ q'=>q') (fun c q'=>by rw [upd_ne (ne_of_none q' nH)]; exact q') fun c xs' q'=>by rw [upd_ne (ne_of_none q' nH)]; exact q'
      refine I.step (g':=s.gens) (d':=s.drawn) (ch:=[e,it]) (fun b hb=>?_) (fun b o _ _ hc' q _=>k₂ b o hc' q) (fun b o _ _ hc' q _=>⟨o.slots,k₂ b o hc' q⟩) (fun b o _ q n=>by rw [upd_ne (Nat.ne_of_lt (Heap.lt_size q))]; exact n)
        (fun b o hc' q=>⟨o,k₂ b o hc' q⟩) (fun b xs' q=>by rw [upd_ne (ne_of_none q nH)]; exact q) (fun b o u' q=>by rw [upd_ne (ne_of_none q nH)]; exact q) (fun b ps q=>⟨#[],by rw [upd_ne (ne_of_none q nH),q]; simp⟩) (fun m hm=>?_) hk I.bare
      · have z':b=e∨b=it:=by simpa using hb
        rcases z' with rfl | rfl
        · exact ⟨f3,f1,f4,f5⟩
        · exact ⟨g3,g1,g4,g5⟩
      · obtain ⟨o,es,ep,ho,r⟩:=hm
        exact ⟨o,es,ep,k₂ _ o (fun z=>by
          have z':X.env.locals=e∨X.env.locals=it:=by simpa using z
          rcases z' with z' | z'
          · exact f1 z'.symm
          · exact g1 z'.symm) ho,r⟩
    refine ⟨.ref s.heap.objs.size,_,I2,rfl,⟨_,x,rfl,nH,fun ys hy=>by rw [I.list_inj hy hq]; exact hx,rfl⟩,⟨⟨u,?_⟩,hit₁.extBut hs₂.extBut (Ne.symm hne)⟩,fun b hb=>?_⟩
    · have e1:((i+1:Nat):Int)=(i:Int)+1:=by push_cast; rfl
      rw [e1]
      exact he₂
    · have z':b=e∨b=it:=by simpa using hb
      rcases z' with rfl | rfl
      · rw [upd_ne (Nat.ne_of_lt hlt)]; exact f0
      · rw [upd_ne (Nat.ne_of_lt hilt)]; exact g0
  done:=by
    intro X hP hw hK hc i pins s σ H E I hf st hg
    subst hP hw hK
    obtain ⟨⟨old,he⟩,hit⟩:=st
    obtain ⟨xs,hq,hx⟩:=hg
    obtain ⟨its,rv,p,hz⟩:=I.list hq
    obtain ⟨g0,g1,g2,g3,g4,g5⟩:=hf it (by simp)
    have hl:=rv.length
    exact wpAny_pyNext_enum_end (I.ok.hd hc) he hit p.isList (by simp; omega) fun h' eb=>⟨rfl,I.turned (t':=s.toks) (fun b o hb e=>eb b o hb e) g0 g1 g3 g4 g5⟩
  self:=fun _ _ _ _ _ st h=>by
    obtain ⟨⟨old,he⟩,_⟩:=st
    exact wpAny_pyIter_enum he h
section
variable {X:Cx}
def iEnum (K:PySem.W.Frag) (tl:TE):TI:=fun σ H R=>tl σ H fun x H1=>∃ a,x=.ref a∧(∃ xs,SqL K H1 a xs)∧R (Ite K a) H1
theorem pi_enum {l:Expr} {tl:TE} {elts:List Expr} {x1} {tpos p pos:Pos} (hg:Gl X "enumerate") (hm:X.mg "enumerate" = none) (hl:PE X l tl) (hs:starEach [l] X.env=[(false,eval l X.env)]:=by rfl):PI X (.Tuple elts x1 tpos) (.Call (.Name "enumerate" p) [l] [] pos) (iEnum X.K tl):=by
  intro pins s σ H R I h
  have ha:PA X [l] (tCons tl tNil):=pa_cons hl pa_nil hs
  refine Call_ (ld_blt I hg hm bt_enumerate (PyProof.Rows.callWith_type1 (thn (ha pos pins s σ H (fun vs H1=>match vs with | [x]=>∃ a,x=.ref a∧(∃ xs,SqL X.K H1 a xs)∧R (Ite X.K a) H1 | _=>False) I h) fun us s1 ⟨vs,H1,I1,r1,q1⟩=>?_) hs rfl))
  · match vs,r1,q1 with
    | [x],r1,q1 =>
    obtain ⟨a,rfl,⟨xs,hq⟩,q⟩:=q1
    obtain ⟨u,rfl,ru⟩:=vals1 r1
    cases ru
    obtain ⟨its,rv,pl,hz⟩:=I1.list hq
    refine call_enumerate_list pl.isList fun h' he hit hz' hk=>?_
    refine wpAny_pyIter_enum he ?_
    have I2:Inv X pins σ H1 { s1 with heap:=h' }:=I1.kept (t':=s1.toks) hk
    refine ⟨s1.heap.objs.size+1,[s1.heap.objs.size+1,s1.heap.objs.size],_,_,H1,rfl,I2,turn_enum a _ _ (Nat.succ_ne_self _),⟨⟨_,he⟩,hit⟩,fun b hb=>?_,q⟩
    have z':b=s1.heap.objs.size+1∨b=s1.heap.objs.size:=by simpa using hb
    rcases z' with rfl | rfl
    · exact I1.fpOk (Nat.le_succ _) (I1.hok.fresh (Nat.le_succ _))
    · exact I1.fpOk (Nat.le_refl _) (I1.hok.fresh (Nat.le_refl _))
end
end L2
namespace L2
open PySem PySem.Spec PyProof.Rows
section
variable {prog:Program} {w:World} {A:Around} {E:Value→Shared→Prop}
theorem draw_list {it t:Addr} {items:Array Value} (hne:t≠it):∀ (n i:Nat) (s:Shared) (Q:List Value→Shared→Prop),s.heap.IsListIter it t i→s.heap.IsList t items→i+n≤items.size →
    (∀ h',h'.IsListIter it t (i+n)→Heap.SameBut it s.heap h'→Q ((items.toList.drop i).take n) { s with heap:=h' })→wpAny (model prog w) A (draw (.ref it) n) Q E s
  | 0,i,s,Q,hit,_,_,hQ=>by
    show wpAny _ _ (pure []) Q E s
    exact wpAny_pure (by simpa using hQ s.heap hit (Heap.SameBut.refl ..))
  | n+1,i,s,Q,hit,ht,hle,hQ=>by
    have hlt:i<items.size:=by omega
    show wpAny _ _ (pyNext (.ref it) >>= _) Q E s
    refine wpAny_bind (wpAny_pyNext_list_item hit ht (x:=items[i]) (by simp [hlt]) fun h₁ hit₁ hs₁=>?_)
    refine wpAny_bind (wpAny_holding (draw_list hne n (i+1) _ _ hit₁ (ht.extBut hs₁.extBut hne) (by omega) fun h₂ hit₂ hs₂=>wpAny_pure ?_))
    have hd:items.toList.drop i=items[i]::items.toList.drop (i+1):=by simp [List.drop_eq_getElem_cons,hlt]
    have:=hQ h₂ (by rw [show i+(n+1)=i+1+n by omega]; exact hit₂) (hs₁.trans hs₂)
    rw [hd,List.take_succ_cons] at this
    exact this
theorem unpackItems_list {s:Shared} {t:Addr} {items:Array Value} {Q:List Value→Shared→Prop} (hh:A.handled=none) (ht:s.heap.IsList t items)
    (hQ:∀ h',Heap.ExtBut s.heap.objs.size s.heap h'→Q items.toList { s with heap:=h' }):wpAny (model prog w) A (unpackItems (.ref t) items.size none) Q E s:=by
  have hlt:t≠s.heap.objs.size:=by obtain ⟨o,ho,_⟩:=ht; exact Nat.ne_of_lt (Heap.lt_size ho)
  unfold unpackItems
  refine wpAny_bind ?_
  · unfold notIterableAtAll
    refine wpAny_bind (wpAny_specialOf ht.typeIs F.slot_list_iter.lookup ?_)
    refine wpAny_pure ?_
    simp only [Bool.false_eq_true,if_false]
    refine wpAny_bind (wpAny_holding (wpAny_pyIter_list ht ?_))
    refine wpAny_bind (wpAny_holding (draw_list hlt items.size 0 _ _ ⟨_,Heap.get?_push_size _ rfl,rfl,rfl⟩ (ht.push _) (by omega) fun h₁ hit₁ hs₁=>?_))
    have hall:List.take items.size (List.drop 0 items.toList)=items.toList:=by
      rw [List.drop_zero]; exact List.take_of_length_le (by simp)
    rw [hall]
    rw [if_neg (by simp)]
    have ht₁:h₁.IsList t items:=(ht.push _).extBut hs₁.extBut hlt
    refine wpAny_bind (wpAny_holding (wpAny_pyNext_list_end hh hit₁ ht₁ (by simp) fun h₂ he₂=>?_))
    simp only [Option.isSome_none,Bool.false_eq_true,if_false]
    refine wpAny_pure (hQ h₂ fun b o hb e=>he₂ b o hb (hs₁.extBut b o hb (Heap.get?_push_of_some _ e)))
theorem assign_Tuple_list {s:Shared} {env:Env} {elts:List Expr} {x1} {pos:Pos} {t:Addr} {items:Array Value} {Q:Unit→Shared→Prop} (hh:A.handled=none) (ht:s.heap.IsList t items)
    (hn:(assignEach elts env).length=items.size) (hstar:(assignEach elts env).findIdx? (·.1)=none)
    (h:∀ h',Heap.ExtBut s.heap.objs.size s.heap h'→wpAny (model prog w) A (assignInOrder ((assignEach elts env).map (·.2)) items.toList) Q E { s with heap:=h' }) :
    wpAny (model prog w) A (assign (.Tuple elts x1 pos) env (.ref t)) Q E s:=by
  rw [arm_assign_Tuple]
  refine wpAny_bind (wpAny_standAt ?_)
  unfold unpack
  rw [hn,hstar]
  exact wpAny_bind (wpAny_holding (unpackItems_list hh ht h))
end
section
variable {X:Cx} {pos:Pos}
def gLst (K:PySem.W.Frag) (n:Nat) (t:TGs):TG:=fun v σ H Q=>∃ a xs,v=.ref a∧SqL K H a xs∧xs.length=n∧t xs σ H Q
theorem pg_lst {es:List Expr} {k:Nat} {t:TGs} {n:Nat} (hc:X.calm=true) (h:PGs X es t)
    (hn:(assignEach es X.env).length=n:=by rfl) (hst:(assignEach es X.env).findIdx? (·.1)=none:=by rfl):PG X (.Tuple es k pos) (gLst X.K n t):=by
  intro pins s σ H v u Q I r hw
  obtain ⟨a,xs,e1,hq,hl,hw⟩:=hw
  subst e1
  cases r
  obtain ⟨its,rv,ht,hz⟩:=I.list hq
  refine assign_Tuple_list (I.ok.hd hc) ht.isList (by simp [hn,← hl,rv.length]) hst fun h' hx=>?_
  have I1:Inv X pins σ H { s with heap:=h' }:=I.kept (t':=s.toks) fun b o e=>hx b o (Nat.ne_of_lt (Heap.lt_size e)) e
  exact h pins _ σ H xs _ Q I1 (by simpa using rv) hw
end
end L2
namespace L2
open PySem PySem.Spec PyProof.Rows
section
variable {κ:Type} [DecidableEq κ]
end
section
variable {P:Program} {w:World} {H:Hp} {h:Heap} {a:Addr}
end
section
variable {X:Cx} {pins:List (Addr×Obj)} {σ:St} {H:Hp} {s:Shared} {a:Addr} {y v:V} {u r:Value} {o:Option V} {A:Around} {E:Value→Shared→Prop}
end
section
variable {X:Cx} {pins:List (Addr×Obj)} {σ:St} {H:Hp} {s:Shared} {a:Addr} {kvs:List (Key×V)} {k:Key} {u:Value} {A:Around} {E:Value→Shared→Prop}
end
section
variable {X:Cx} {o i e value:Expr} {pos pos' tpos:Pos} {td ty tv:TE}
end
section
variable {X:Cx} {pos:Pos}
end
structure M1 (X:Cx) (o:Expr) (m:Str) (apos:Pos) (e:Expr) (cpos:Pos):Prop where
  base:attributeBase o m X.env (eval o X.env)=eval o X.env
  few:((backTo cpos (starEach [e] X.env)).all (fun x=>!x.1)&&(backToKw cpos (keywordEach [] X.env)).all (fun x=>x.1.isSome)
    && decide (([e]:List Expr).length+([]:List Keyword).length+(if ([]:List Keyword).isEmpty then 0 else 1)<30))=true
  line:(apos.endLine==cpos.line)=true
  trees:backTo cpos (starEach [e] X.env)=[(false,eval e X.env)]
structure M2 (X:Cx) (o:Expr) (m:Str) (apos:Pos) (e f:Expr) (cpos:Pos):Prop where
  base:attributeBase o m X.env (eval o X.env)=eval o X.env
  few:((backTo cpos (starEach [e,f] X.env)).all (fun x=>!x.1)&&(backToKw cpos (keywordEach [] X.env)).all (fun x=>x.1.isSome)
    && decide (([e,f]:List Expr).length+([]:List Keyword).length+(if ([]:List Keyword).isEmpty then 0 else 1)<30))=true
  line:(apos.endLine==cpos.line)=true
  trees:backTo cpos (starEach [e,f] X.env)=[(false,eval e X.env),(false,eval f X.env)]
section
variable {X:Cx} {pins:List (Addr×Obj)} {σ:St} {H:Hp} {s:Shared} {a:Addr} {y d:V} {u r:Value} {o:Option V} {A:Around} {E:Value→Shared→Prop}
end
section
variable {X:Cx} {o e f:Expr} {apos cpos:Pos} {td ty tx:TE}
end
section
variable {X:Cx} {pins:List (Addr×Obj)} {σ:St} {H:Hp} {s:Shared} {a:Addr} {kvs:List (Key×V)} {A:Around} {E:Value→Shared→Prop}
end
section
variable {X:Cx} {pins:List (Addr×Obj)} {σ:St} {H:Hp} {s:Shared} {a:Addr} {y:V} {u:Value} {A:Around} {E:Value→Shared→Prop}
end
end L2
namespace VL
open PySem L2
open Classical
inductive D where
  | non | bl (b:Bool) | int (i:Int) | str (x:Str) | ty (n:String)
  | lst (xs:List D) | tup (xs:List D) | ins (C:Addr) | scr (ns:List Int)
abbrev No:Addr→Prop:=fun _=>False
def KL (K:PySem.W.Frag) (a:Addr) (xs:List V):Prop :=
  ∃ (o:Obj) (its:Array Value) (n:Nat),K.lookup a=some o∧o.cls=.type "list" ∧ o.dict=none∧o.data=.seq its n∧its.size≤sizeLine∧Vals xs its.toList
mutual
inductive Is (K:PySem.W.Frag) (H:Hp) (Z:Addr→Prop):V→D→Prop
  | non:Is K H Z .non .non
  | bl (b:Bool):Is K H Z (.bl b) (.bl b)
  | int (i:Int):Is K H Z (.int i) (.int i)
  | str (x:Str):Is K H Z (.str x) (.str x)
  | ty (n:String):Is K H Z (.ty n) (.ty n)
  | lst {a:Addr} {vs:List V} {ds:List D} (hz:¬ Z a) (h:Rd H a (.lst vs)) (hl:vs.length≤sizeLine) (r:IsL K H Z vs ds):Is K H Z (.ref a) (.lst ds)
  | tup {a:Addr} {vs:List V} {ds:List D} (hz:¬ Z a) (h:H a=some (.tup vs)) (hl:vs.length≤sizeLine) (r:IsL K H Z vs ds):Is K H Z (.ref a) (.tup ds)
  | ins {a C dx:Addr} (hz:¬ Z a) (h:H a=some (.ins C dx [])):Is K H Z (.ref a) (.ins C)
  | scr {a:Addr} {ns:List Int} (hz:¬ Z a) (h:Rd H a (.lst (ns.map V.int))) (hl:ns.length≤sizeLine):Is K H Z (.ref a) (.scr ns)
  | scrK {a:Addr} {ns:List Int} (h:KL K a (ns.map V.int)) (hl:ns.length≤sizeLine):Is K H Z (.ref a) (.scr ns)
inductive IsL (K:PySem.W.Frag) (H:Hp) (Z:Addr→Prop):List V→List D→Prop
  | nil:IsL K H Z [] []
  | cons {v:V} {d:D} {vs:List V} {ds:List D} (h:Is K H Z v d) (r:IsL K H Z vs ds):IsL K H Z (v::vs) (d::ds)
end
def Kp (Z:Addr→Prop) (H:Hp) (Z':Addr→Prop) (H':Hp):Prop:=∀ a o,H a=some o→¬ Z a→H' a=some o∧¬ Z' a
theorem Kp.refl {Z:Addr→Prop} {H:Hp}:Kp Z H Z H:=fun _ _ h z=>⟨h,z⟩
theorem Kp.trans {Z Z1 Z2:Addr→Prop} {H H1 H2:Hp} (a:Kp Z H Z1 H1) (b:Kp Z1 H1 Z2 H2):Kp Z H Z2 H2:=fun c o h z=>b c o (a c o h z).1 (a c o h z).2
theorem Kp.same {Z:Addr→Prop} {H H':Hp} (s:Same H H'):Kp Z H Z H':=fun _ _ h z=>⟨s _ _ h,z⟩
theorem Kp.less {Z Z':Addr→Prop} {H:Hp} (h:∀ a,Z' a→Z a):Kp Z H Z' H:=fun a _ e z=>⟨e,fun q=>z (h a q)⟩
theorem Rd.kp {Z Z':Addr→Prop} {H H':Hp} {a:Addr} {u:HO} (k:Kp Z H Z' H') (hz:¬ Z a) (h:Rd H a u):Rd H' a u∧¬ Z' a:=by
  rcases h with h | ⟨o,h⟩
  · exact ⟨.inl (k _ _ h hz).1,(k _ _ h hz).2⟩
  · exact ⟨.inr ⟨o,(k _ _ h hz).1⟩,(k _ _ h hz).2⟩
mutual
theorem Is.kp {Z Z':Addr→Prop} {H H':Hp} (k:Kp Z H Z' H'):∀ {v:V} {d:D},Is K H Z v d→Is K H' Z' v d
  | _,_,.non=>.non
  | _,_,.bl b=>.bl b
  | _,_,.int b=>.int b
  | _,_,.str b=>.str b
  | _,_,.ty b=>.ty b
  | _,_,.lst hz h hl r=>.lst (Rd.kp k hz h).2 (Rd.kp k hz h).1 hl (IsL.kp k r)
  | _,_,.tup hz h hl r=>.tup (k _ _ h hz).2 (k _ _ h hz).1 hl (IsL.kp k r)
  | _,_,.ins hz h=>.ins (k _ _ h hz).2 (k _ _ h hz).1
  | _,_,.scr hz h hl=>.scr (Rd.kp k hz h).2 (Rd.kp k hz h).1 hl
  | _,_,.scrK h hl=>.scrK h hl
theorem IsL.kp {Z Z':Addr→Prop} {H H':Hp} (k:Kp Z H Z' H'):∀ {v:List V} {d:List D},IsL K H Z v d→IsL K H' Z' v d
  | _,_,.nil=>.nil
  | _,_,.cons h r=>.cons (Is.kp k h) (IsL.kp k r)
end
theorem Is.same {Z:Addr→Prop} {H H':Hp} {v:V} {d:D} (h:Is K H Z v d) (s:Same H H'):Is K H' Z v d:=h.kp (Kp.same s)
theorem IsL.same {Z:Addr→Prop} {H H':Hp} {v:List V} {d:List D} (h:IsL K H Z v d) (s:Same H H'):IsL K H' Z v d:=h.kp (Kp.same s)
theorem Is.all {Z:Addr→Prop} {H:Hp} {v:V} {d:D} (h:Is K H Z v d):Is K H No v d:=h.kp (Kp.less fun _ z=>z.elim)
theorem IsL.all {Z:Addr→Prop} {H:Hp} {v:List V} {d:List D} (h:IsL K H Z v d):IsL K H No v d:=h.kp (Kp.less fun _ z=>z.elim)
def D.scal:D→Bool
  | .lst _=>false
  | .tup _=>false
  | .ins _=>false
  | .scr _=>false
  | _=>true
theorem Is.scal {Z Z':Addr→Prop} {H H':Hp} {v:V} {d:D} (h:Is K H Z v d) (e:d.scal=true):Is K H' Z' v d:=by
  cases h with
  | non=>exact .non
  | bl b=>exact .bl b
  | int b=>exact .int b
  | str b=>exact .str b
  | ty b=>exact .ty b
  | lst _ _ _ _=>cases e
  | tup _ _ _ _=>cases e
  | ins _ _=>cases e
  | scr _ _ _=>cases e
  | scrK _ _=>cases e
section
variable {H:Hp} {Z:Addr→Prop}
theorem IsL.paired:∀ {vs:List V} {ds:List D},IsL K H Z vs ds→Paired (Is K H Z) vs ds
  | _,_,.nil=>.nil
  | _,_,.cons h r=>.cons h (IsL.paired r)
theorem IsL.of:∀ {vs:List V} {ds:List D},Paired (Is K H Z) vs ds→IsL K H Z vs ds
  | _,_,.nil=>.nil
  | _,_,.cons h r=>.cons h (IsL.of r)
theorem IsL.length {vs:List V} {ds:List D} (h:IsL K H Z vs ds):vs.length=ds.length:=Paired.length h.paired
theorem IsL.get:∀ {vs:List V} {ds:List D} {i:Nat} {d:D},IsL K H Z vs ds→ds[i]?=some d→∃ v,vs[i]?=some v∧Is K H Z v d
  | _,_,0,_,.cons h _,e=>by cases e; exact ⟨_,rfl,h⟩
  | _,_,i+1,_,.cons _ r,e=>by
    obtain ⟨v,e1,h1⟩:=IsL.get (i:=i) r (by simpa using e)
    exact ⟨v,by simpa using e1,h1⟩
theorem IsL.append {vs us:List V} {ds es:List D} (a:IsL K H Z vs ds) (b:IsL K H Z us es):IsL K H Z (vs++us) (ds++es):=.of (Paired.append a.paired b.paired)
theorem IsL.take (n:Nat) {vs:List V} {ds:List D} (a:IsL K H Z vs ds):IsL K H Z (vs.take n) (ds.take n):=.of (Paired.take n a.paired)
theorem IsL.drop (n:Nat) {vs:List V} {ds:List D} (a:IsL K H Z vs ds):IsL K H Z (vs.drop n) (ds.drop n):=.of (Paired.drop n a.paired)
theorem IsL.set {v:V} {d:D} (q:Is K H Z v d):∀ {vs:List V} {ds:List D} (n:Nat),IsL K H Z vs ds→IsL K H Z (vs.set n v) (ds.set n d)
  | _,_,_,.nil=>.nil
  | _,_,0,.cons _ r=>.cons q r
  | _,_,n+1,.cons h r=>.cons h (IsL.set q n r)
theorem IsL.one {v:V} {d:D} (q:Is K H Z v d):IsL K H Z [v] [d]:=.cons q .nil
theorem IsL.ints:∀ {vs:List V} {ns:List Int},IsL K H Z vs (ns.map D.int)→vs=ns.map V.int
  | _,[],.nil=>rfl
  | _,n::ns,.cons (.int _) r=>by rw [IsL.ints (ns:=ns) r]; rfl
theorem IsL.ofInts:∀ (ns:List Int),IsL K H Z (ns.map V.int) (ns.map D.int)
  | []=>.nil
  | n::ns=>.cons (.int n) (IsL.ofInts ns)
end
inductive Sl where
  | un | pu (d:D) | bo (d:D) | ol (ds:List D) | om (rows:List (List D))
abbrev Rho:=List Sl
abbrev Own:=Nat→List Addr
def tot (Z:Addr→Prop) (os:Own):Addr→Prop:=fun a=>Z a∨∃ i,a∈os i
def SlOk (K:PySem.W.Frag) (B H:Hp) (T:Addr→Prop) (o:List Addr):Sl→Option V→Prop
  | .un,_=>o=[]
  | .pu d,v=>o=[]∧∃ u,v=some u∧Is K H T u d
  | .bo d,v=>o=[]∧∃ u,v=some u∧Is K B No u d
  | .ol ds,v=>∃ a vs,o=[a]∧v=some (.ref a)∧H a=some (.lst vs)∧vs.length≤sizeLine∧IsL K H T vs ds
  | .om rows,v=>∃ a ps,o=a::ps∧v=some (.ref a)∧H a=some (.lst (ps.map V.ref))∧ps.length≤sizeLine∧Paired (fun p ds=>∃ vs,H p=some (.lst vs)∧vs.length≤sizeLine∧IsL K H T vs ds) ps rows
class Tabs where
  ts:List (Addr×Str)
def TabIn [Tabs] (H:Hp):Prop:=∀ p∈Tabs.ts,∃ t,H p.1=some (.tbl #[.str p.2 t])
theorem TabIn.same [Tabs] {H H':Hp} (h:TabIn H) (s:Same H H'):TabIn H':=fun p hp=>let ⟨t,e⟩:=h p hp; ⟨t,s _ _ e⟩
def ZT [Tabs] (Z:Addr→Prop) (H:Hp):Prop:=(∀ a,Z a→∃ o,H a=some o)∧TabIn H
structure Fr [Tabs] (K:PySem.W.Frag) (B:Hp) (Z:Addr→Prop) (os:Own) (ρ:Rho) (σ:St) (H:Hp):Prop where
  keep:Same B H
  zin:∀ a,Z a→∃ o,H a=some o
  len:σ.length=ρ.length
  nd:∀ i,(os i).Nodup
  dj:∀ i j a,a∈os i→a∈os j→i=j
  new:∀ i a,a∈os i→B a=none∧¬ Z a
  sl:∀ i,SlOk K B H (tot Z os) (os i) (ρ.getD i .un) ((σ[i]?).join)
  tab:TabIn B
variable [Tabs]
theorem Fr.tabH {B H:Hp} {Z:Addr→Prop} {os:Own} {ρ:Rho} {σ:St} (f:Fr K B Z os ρ σ H):TabIn H:=f.tab.same f.keep
theorem Paired.any {α β:Type} {F:α→β→Prop}:∀ {as:List α} {bs:List β} {a:α},Paired F as bs→a∈as→∃ b,F a b
  | _,_,_,.cons r t,h=>by
    rcases List.mem_cons.mp h with rfl | h
    · exact ⟨_,r⟩
    · exact Paired.any t h
theorem SlOk.dom {B H:Hp} {T:Addr→Prop} {o:List Addr} {s:Sl} {v:Option V} (h:SlOk K B H T o s v) {a:Addr} (ha:a∈o):∃ xs,H a=some (.lst xs):=by
  cases s with
  | un=>cases h; cases ha
  | pu d=>obtain ⟨rfl,_⟩:=h; cases ha
  | bo d=>obtain ⟨rfl,_⟩:=h; cases ha
  | ol ds =>
    obtain ⟨b,vs,rfl,_,e,_⟩:=h
    cases List.mem_singleton.mp ha
    exact ⟨_,e⟩
  | om rows =>
    obtain ⟨b,ps,rfl,_,e,_,r⟩:=h
    rcases List.mem_cons.mp ha with rfl | ha
    · exact ⟨_,e⟩
    · obtain ⟨_,vs,q,_⟩:=Paired.any r ha
      exact ⟨_,q⟩
theorem SlOk.kp {B B' H H':Hp} {T T':Addr→Prop} {o:List Addr} {s:Sl} {v:Option V} (h:SlOk K B H T o s v) (k:Kp T H T' H') (hb:Same B B') (ho:∀ a∈o,∀ u,H a=some u→H' a=some u):SlOk K B' H' T' o s v:=by
  cases s with
  | un=>exact h
  | pu d=>obtain ⟨e,u,e2,i⟩:=h; exact ⟨e,u,e2,i.kp k⟩
  | bo d=>obtain ⟨e,u,e2,i⟩:=h; exact ⟨e,u,e2,i.same hb⟩
  | ol ds=>obtain ⟨a,vs,rfl,e2,e3,hl,i⟩:=h; exact ⟨a,vs,rfl,e2,ho _ (List.mem_singleton.mpr rfl) _ e3,hl,i.kp k⟩
  | om rows =>
    obtain ⟨a,ps,rfl,e2,e3,hl,i⟩:=h
    exact ⟨a,ps,rfl,e2,ho _ List.mem_cons_self _ e3,hl,Paired.mono i fun p ds hp ⟨vs,q,hv,j⟩=>⟨vs,ho _ (List.mem_cons_of_mem _ hp) _ q,hv,j.kp k⟩⟩
section
variable {B H H':Hp} {Z:Addr→Prop} {os:Own} {ρ:Rho} {σ:St}
theorem Fr.grow (f:Fr K B Z os ρ σ H) (s:Same H H'):Fr K B Z os ρ σ H' where
  keep:=f.keep.trans s
  zin:=fun a z=>let ⟨o,e⟩:=f.zin a z; ⟨o,s _ _ e⟩
  len:=f.len
  nd:=f.nd
  dj:=f.dj
  new:=f.new
  sl:=fun i=>(f.sl i).kp (Kp.same s) (Same.refl _) fun a _ u e=>s _ _ e
  tab:=f.tab
theorem Fr.out (f:Fr K B Z os ρ σ H) {p:Addr} (hp:H p=none):¬ tot Z os p:=by
  rintro (z | ⟨i,z⟩)
  · obtain ⟨o,e⟩:=f.zin p z
    rw [hp] at e; cases e
  · obtain ⟨xs,e⟩:=(f.sl i).dom z
    rw [hp] at e; cases e
def putO (os:Own) (i:Nat) (o:List Addr):Own:=fun j=>if j=i then o else os j
theorem putO_same {os:Own} {i:Nat} {o:List Addr}:putO os i o i=o:=if_pos rfl
theorem putO_ne {os:Own} {i j:Nat} {o:List Addr} (h:j≠i):putO os i o j=os j:=if_neg h
theorem getD_set_same {α:Type} {l:List α} {i:Nat} {x d:α} (h:i<l.length):(l.set i x).getD i d=x:=by
  rw [List.getD_eq_getElem?_getD,List.getElem?_set_self h]; rfl
theorem getD_set_ne {α:Type} {l:List α} {i j:Nat} {x d:α} (h:j≠i):(l.set i x).getD j d=l.getD j d:=by
  rw [List.getD_eq_getElem?_getD,List.getElem?_set_ne (Ne.symm h),← List.getD_eq_getElem?_getD]
theorem Fr.step (f:Fr K B Z os ρ σ H) {i:Nat} (hi:i < ρ.length) {o:List Addr} {s:Sl} {v:Option V}
    (hk:∀ a u,H a=some u→a∉os i→H' a=some u) (hs:∀ a,a∈os i→∃ u,H' a=some u) (hn:o.Nodup) (ho:∀ a∈o,a∈os i∨H a=none) (ok:SlOk K B H' (tot Z (putO os i o)) o s v) :
    Fr K B Z (putO os i o) (ρ.set i s) (σ.set i v) H'∧Kp (tot Z os) H (tot Z (putO os i o)) H':=by
  have no:∀ a u,H a=some u→a∉os i→a∉o:=fun a u e n q=>by
    rcases ho a q with z | z
    · exact n z
    · rw [z] at e; cases e
  have kp:Kp (tot Z os) H (tot Z (putO os i o)) H':=fun a u e t=>by
    have ni:a∉os i:=fun q=>t (.inr ⟨i,q⟩)
    refine ⟨hk a u e ni,?_⟩
    rintro (z | ⟨j,z⟩)
    · exact t (.inl z)
    · by_cases hj:j=i
      · subst hj; rw [putO_same] at z; exact no a u e ni z
      · rw [putO_ne hj] at z; exact t (.inr ⟨j,z⟩)
  refine ⟨⟨fun a u e=>hk a u (f.keep a u e) fun q=>?_,fun a z=>?_,?_,fun j=>?_,fun j k a h1 h2=>?_,fun j a h=>?_,fun j=>?_,f.tab⟩,kp⟩
  · have:=(f.new i a q).1; rw [e] at this; cases this
  · obtain ⟨u,e⟩:=f.zin a z
    exact ⟨u,hk a u e fun q=>(f.new i a q).2 z⟩
  · rw [List.length_set,List.length_set]; exact f.len
  · by_cases hj:j=i
    · subst hj; rw [putO_same]; exact hn
    · rw [putO_ne hj]; exact f.nd j
  · have dom:∀ k,a∈os k→∃ u,H a=some u:=fun k z=>let ⟨xs,e⟩:=(f.sl k).dom z; ⟨_,e⟩
    by_cases hj:j=i
    · by_cases hk':k=i
      · rw [hj,hk']
      · subst hj
        rw [putO_same] at h1; rw [putO_ne hk'] at h2
        rcases ho a h1 with z | z
        · exact f.dj _ _ a z h2
        · obtain ⟨u,e⟩:=dom k h2; rw [z] at e; cases e
    · by_cases hk':k=i
      · subst hk'
        rw [putO_ne hj] at h1; rw [putO_same] at h2
        rcases ho a h2 with z | z
        · exact f.dj _ _ a h1 z
        · obtain ⟨u,e⟩:=dom j h1; rw [z] at e; cases e
      · rw [putO_ne hj] at h1; rw [putO_ne hk'] at h2
        exact f.dj _ _ a h1 h2
  · by_cases hj:j=i
    · subst hj
      rw [putO_same] at h
      rcases ho a h with z | z
      · exact f.new _ a z
      · exact ⟨Same.free f.keep z,fun q=>f.out z (.inl q)⟩
    · rw [putO_ne hj] at h; exact f.new j a h
  · by_cases hj:j=i
    · subst hj
      have hσ:j < σ.length:=by rw [f.len]; exact hi
      rw [putO_same,getD_set_same hi,List.getElem?_set_self hσ]
      exact ok
    · rw [putO_ne hj,getD_set_ne hj,List.getElem?_set_ne (Ne.symm hj)]
      exact (f.sl j).kp kp (Same.refl _) fun a ha u e=>hk a u e fun q=>hj (f.dj _ _ a ha q)
theorem Fr.put (f:Fr K B Z os ρ σ H) {i:Nat} (hi:i < ρ.length) {v:V} {d:D} (h:Is K H (tot Z os) v d) :
    Fr K B Z (putO os i []) (ρ.set i (.pu d)) (σ.set i (some v)) H∧Kp (tot Z os) H (tot Z (putO os i [])) H:=by
  refine f.step hi (fun a u e _=>e) (fun a ha=>let ⟨xs,e⟩:=(f.sl i).dom ha; ⟨_,e⟩) List.nodup_nil (fun a h=>by cases h) ⟨rfl,v,rfl,h.kp (Kp.less ?_)⟩
  rintro a (z | ⟨j,z⟩)
  · exact .inl z
  · by_cases hj:j=i
    · subst hj; rw [putO_same] at z; cases z
    · rw [putO_ne hj] at z; exact .inr ⟨j,z⟩
end
end VL
namespace VL
open PySem L2
open Classical
noncomputable section
abbrev DE:=Rho→Option D
section
variable [Tabs] {K:PySem.W.Frag}
def SemB (K:PySem.W.Frag) (t:TE) (e:DE):Prop:=∀ {B:Hp} {Z:Addr→Prop} {os:Own} {ρ:Rho} {σ:L2.St} {H:Hp} {Q:VK} {d:D},Fr K B Z os ρ σ H→e ρ=some d→(∀ v H',Same H H'→Is K H' No v d→Q v H')→t σ H Q
def SemI (K:PySem.W.Frag) (t:TE) (e:DE):Prop:=∀ {B:Hp} {Z:Addr→Prop} {os:Own} {ρ:Rho} {σ:L2.St} {H:Hp} {Q:VK} {d:D},Fr K B Z os ρ σ H→e ρ=some d→(∀ v H',Same H H'→Is K H' (tot Z os) v d→Q v H')→t σ H Q
def SemF (K:PySem.W.Frag) (t:TE) (e:Rho→Option (List D)):Prop:=∀ {B:Hp} {Z:Addr→Prop} {os:Own} {ρ:Rho} {σ:L2.St} {H:Hp} {Q:VK} {ds:List D},Fr K B Z os ρ σ H→e ρ=some ds →
  (∀ p vs H',Same H H'→H p=none→H' p=some (.lst vs)→vs.length≤sizeLine→IsL K H' (fun a=>a=p∨tot Z os a) vs ds→Q (.ref p) H')→t σ H Q
def SemT (K:PySem.W.Frag) (t:TT) (e:Rho→Option Bool):Prop:=∀ {B:Hp} {Z:Addr→Prop} {os:Own} {ρ:Rho} {σ:L2.St} {H:Hp} {Q:Bool→Hp→Prop} {b:Bool},Fr K B Z os ρ σ H→e ρ=some b→(∀ H',Same H H'→Q b H')→t σ H Q
inductive Args (K:PySem.W.Frag) (H:Hp) (T:Addr→Prop):List Bool→List V→List D→Prop
  | nil:Args K H T [] [] []
  | own {ms:List Bool} {v:V} {d:D} {vs:List V} {ds:List D}:Is K H T v d→Args K H T ms vs ds→Args K H T (true::ms) (v::vs) (d::ds)
  | any {ms:List Bool} {v:V} {d:D} {vs:List V} {ds:List D}:Is K H No v d→Args K H T ms vs ds→Args K H T (false::ms) (v::vs) (d::ds)
def SemA (K:PySem.W.Frag) (ms:List Bool) (t:TA) (e:Rho→Option (List D)):Prop:=∀ {B:Hp} {Z:Addr→Prop} {os:Own} {ρ:Rho} {σ:L2.St} {H:Hp} {Q:List V→Hp→Prop} {ds:List D},Fr K B Z os ρ σ H→e ρ=some ds→(∀ vs H',Same H H'→Args K H' (tot Z os) ms vs ds→Q vs H')→t σ H Q
theorem Args.len {H:Hp} {T:Addr→Prop} {ms:List Bool} {vs:List V} {ds:List D} (a:Args K H T ms vs ds):vs.length=ms.length∧ds.length=ms.length:=by
  induction a with
  | nil=>exact ⟨rfl,rfl⟩
  | own h _ ih=>simp [ih.1,ih.2]
  | any h _ ih=>simp [ih.1,ih.2]
theorem Args.lown {H:Hp} {T:Addr→Prop}:∀ {n:Nat} {vs:List V} {ds:List D},Args K H T (List.replicate n true) vs ds→IsL K H T vs ds
  | 0,_,_,.nil=>.nil
  | _+1,_,_,.own h r=>.cons h r.lown
theorem SemI.b {t:TE} {e:DE} (h:SemI K t e):SemB K t e:=fun f q k=>h f q fun v H' s i=>k v H' s i.all
theorem SemF.i {t:TE} {e:Rho→Option (List D)} (h:SemF K t e):SemI K t (fun ρ=>(e ρ).map D.lst):=fun {B Z os ρ σ H Q d} f q k=>by
  dsimp only at q
  cases q1:e ρ with
  | none=>rw [q1] at q; cases q
  | some ds =>
    rw [q1] at q
    cases q
    refine h f q1 fun p vs H' s hp hp' hl i=>k _ _ s (.lst (f.out hp) (.inl hp') hl (i.kp (Kp.less fun a z=>.inr z)))
def lof:D→Option (List D)
  | .lst ds=>some ds
  | .scr ns=>some (ns.map D.int)
  | _=>none
theorem Is.seq {H:Hp} {Z:Addr→Prop} {v:V} {d:D} {ds:List D} (h:Is K H Z v d) (e:lof d=some ds):∃ p vs,v=.ref p∧vs.length≤sizeLine∧vs.length=ds.length∧∀ H' Z',Kp Z H Z' H'→SqL K H' p vs∧IsL K H' Z' vs ds:=by
  cases h with
  | lst hz h hl r=>cases e; exact ⟨_,_,rfl,hl,r.length,fun H' Z' k=>⟨.inl (Rd.kp k hz h).1,r.kp k⟩⟩
  | scr hz h hl=>cases e; exact ⟨_,_,rfl,by rw [List.length_map]; exact hl,by simp,fun H' Z' k=>⟨.inl (Rd.kp k hz h).1,.ofInts _⟩⟩
  | scrK h hl=>cases e; exact ⟨_,_,rfl,by rw [List.length_map]; exact hl,by simp,fun H' Z' k=>⟨.inr h,.ofInts _⟩⟩
  | _=>cases e
noncomputable def gScal (e:DE):DE:=fun ρ=>match e ρ with
  | some d=>if d.scal=true then some d else none
  | none=>none
theorem SemB.i {t:TE} {e:DE} (h:SemB K t e):SemI K t (gScal e):=fun {B Z os ρ σ H Q d} f q k=>by
  unfold gScal at q
  cases q1:e ρ with
  | none=>rw [q1] at q; cases q
  | some d' =>
    rw [q1] at q
    have q':(if d'.scal=true then some d' else none)=some d:=q
    by_cases c:d'.scal=true
    · rw [if_pos c] at q'
      cases q'
      exact h f q1 fun v H' s i=>k v H' s (i.scal c)
    · rw [if_neg c] at q'; cases q'
noncomputable def dVar (i:Nat):DE:=fun ρ=>match ρ.getD i .un with
  | .pu d=>some d
  | .bo d=>some d
  | .ol ds=>some (.lst ds)
  | .om rows=>some (.lst (rows.map D.lst))
  | .un=>none
noncomputable def dVarI (i:Nat):DE:=fun ρ=>match ρ.getD i .un with
  | .pu d=>some d
  | _=>none
omit [Tabs] in
theorem join_some {α:Type} {o:Option (Option α)} {u:α} (h:o.join=some u):o=some (some u):=by
  cases o with
  | none=>cases h
  | some x=>rw [show x=some u from h]
theorem rows_is {H:Hp} {T:Addr→Prop}:∀ {ps:List Addr} {rows:List (List D)},Paired (fun p ds=>∃ vs,H p=some (.lst vs)∧vs.length≤sizeLine∧IsL K H T vs ds) ps rows→IsL K H No (ps.map V.ref) (rows.map D.lst)
  | _,_,.nil=>.nil
  | _,_,.cons ⟨vs,e,hl,i⟩ r=>.cons (.lst (fun z=>z) (.inl e) hl i.all) (rows_is r)
theorem sb_var (i:Nat):SemB K (tVar i) (dVar i):=fun {B Z os ρ σ H Q d} f q k=>by
  have s:=f.sl i
  unfold dVar at q
  cases e:ρ.getD i .un with
  | un=>rw [e] at q; cases q
  | pu d' =>
    rw [e] at q s
    cases q
    obtain ⟨_,u,hu,i⟩:=s
    exact ⟨u,join_some hu,k u H (Same.refl _) i.all⟩
  | bo d' =>
    rw [e] at q s
    cases q
    obtain ⟨_,u,hu,i⟩:=s
    exact ⟨u,join_some hu,k u H (Same.refl _) (i.same f.keep)⟩
  | ol ds =>
    rw [e] at q s
    cases q
    obtain ⟨a,vs,_,hu,hH,hl,i⟩:=s
    exact ⟨_,join_some hu,k _ H (Same.refl _) (.lst (fun z=>z) (.inl hH) hl i.all)⟩
  | om rows =>
    rw [e] at q s
    cases q
    obtain ⟨a,ps,_,hu,hH,hl,i⟩:=s
    exact ⟨_,join_some hu,k _ H (Same.refl _) (.lst (fun z=>z) (.inl hH) (by rw [List.length_map]; exact hl) (rows_is i))⟩
theorem si_var (i:Nat):SemI K (tVar i) (dVarI i):=fun {B Z os ρ σ H Q d} f q k=>by
  have s:=f.sl i
  unfold dVarI at q
  cases e:ρ.getD i .un with
  | pu d' =>
    rw [e] at q s
    cases q
    obtain ⟨_,u,hu,i⟩:=s
    exact ⟨u,join_some hu,k u H (Same.refl _) i⟩
  | _=>rw [e] at q; cases q
noncomputable def dC (d:D):DE:=fun _=>some d
theorem si_int {i:Int}:SemI K (tC (.int i)) (dC (.int i)):=fun f q k=>by cases q; exact k _ _ (Same.refl _) (.int i)
theorem si_bl {i:Bool}:SemI K (tC (.bl i)) (dC (.bl i)):=fun f q k=>by cases q; exact k _ _ (Same.refl _) (.bl i)
theorem si_non:SemI K (tC .non) (dC .non):=fun f q k=>by cases q; exact k _ _ (Same.refl _) .non
noncomputable def dII (f:Int→Int→Option D) (a b:DE):DE:=fun ρ=>match a ρ with
  | some (.int i)=>(match b ρ with
    | some (.int j)=>f i j
    | _=>none)
  | _=>none
theorem dII_some {f:Int→Int→Option D} {a b:DE} {ρ:Rho} {d:D} (h:dII f a b ρ=some d):∃ i j,a ρ=some (.int i)∧b ρ=some (.int j)∧f i j=some d:=by
  unfold dII at h
  split at h
  · rename_i i e1
    split at h
    · rename_i j e2
      exact ⟨i,j,e1,e2,h⟩
    · cases h
  · cases h
theorem Is.isInt {H:Hp} {Z:Addr→Prop} {v:V} {i:Int} (h:Is K H Z v (.int i)):v=.int i:=by cases h; rfl
theorem Is.isBl {H:Hp} {Z:Addr→Prop} {v:V} {i:Bool} (h:Is K H Z v (.bl i)):v=.bl i:=by cases h; rfl
variable {ta tb tc:TE} {a b c:DE}
theorem si_op0 {g:Int→Int→V} (gd:Int→Int→D) (hg:∀ i j H Z,Is K H Z (g i j) (gd i j)) (ha:SemB K ta a) (hb:SemB K tb b):SemI K (tOp (rI0 g) ta tb) (dII (fun i j=>some (gd i j)) a b):=fun {B Z os ρ σ H Q d} f q k=>by
  obtain ⟨i,j,e1,e2,e3⟩:=dII_some q
  cases e3
  refine ha f e1 fun v H1 s1 i1=>hb (f.grow s1) e2 fun u H2 s2 i2=>?_
  exact ⟨i,j,i1.isInt,i2.isInt,k _ _ (s1.trans s2) (hg i j _ _)⟩
noncomputable def gC (C:Int→Int→Prop) (g:Int→Int→D):Int→Int→Option D:=fun i j=>if C i j then some (g i j) else none
theorem gC_pos {C:Int→Int→Prop} {g:Int→Int→D} {i j:Int} (h:C i j):gC C g i j=some (g i j):=if_pos h
theorem si_opC {C:Int→Int→Prop} {g:Int→Int→V} (gd:Int→Int→D) (hg:∀ i j H Z,Is K H Z (g i j) (gd i j)) (ha:SemB K ta a) (hb:SemB K tb b):SemI K (tOp (rI C g) ta tb) (dII (gC C gd) a b):=fun {B Z os ρ σ H Q d} f q k=>by
  obtain ⟨i,j,e1,e2,e3⟩:=dII_some q
  unfold gC at e3
  by_cases c:C i j
  · rw [if_pos c] at e3
    cases e3
    refine ha f e1 fun v H1 s1 i1=>hb (f.grow s1) e2 fun u H2 s2 i2=>?_
    exact ⟨i,j,i1.isInt,i2.isInt,c,k _ _ (s1.trans s2) (hg i j _ _)⟩
  · rw [if_neg c] at e3; cases e3
noncomputable def dAdd:DE→DE→DE:=dII fun i j=>some (.int (i+j))
noncomputable def dSub:DE→DE→DE:=dII fun i j=>some (.int (i-j))
noncomputable def dMul:DE→DE→DE:=dII (gC IntMulOk fun i j=>.int (i*j))
noncomputable def dFdiv:DE→DE→DE:=dII (gC (fun _ j=>0<j∧j.natAbs.log2<9000) fun i j=>.int (i / j))
noncomputable def dMod:DE→DE→DE:=dII (gC (fun _ j=>0<j) fun i j=>.int (i % j))
noncomputable def dPow:DE→DE→DE:=dII (gC CPow fun i j=>.int (i ^ j.toNat))
noncomputable def dLt:DE→DE→DE:=dII fun i j=>some (.bl (decide (i<j)))
noncomputable def dLe:DE→DE→DE:=dII fun i j=>some (.bl (decide (i≤j)))
noncomputable def dGt:DE→DE→DE:=dII fun i j=>some (.bl (decide (j<i)))
theorem si_add (ha:SemB K ta a) (hb:SemB K tb b):SemI K (tOp (rI0 fun i j=>.int (i+j)) ta tb) (dAdd a b):=si_op0 (fun i j=>.int (i+j)) (fun _ _ _ _=>.int _) ha hb
theorem si_sub (ha:SemB K ta a) (hb:SemB K tb b):SemI K (tOp (rI0 fun i j=>.int (i-j)) ta tb) (dSub a b):=si_op0 (fun i j=>.int (i-j)) (fun _ _ _ _=>.int _) ha hb
theorem si_mul (ha:SemB K ta a) (hb:SemB K tb b):SemI K (tOp (rI IntMulOk fun i j=>.int (i*j)) ta tb) (dMul a b):=si_opC (fun i j=>.int (i*j)) (fun _ _ _ _=>.int _) ha hb
theorem si_fdiv (ha:SemB K ta a) (hb:SemB K tb b):SemI K (tOp (rI (fun _ j=>0<j∧j.natAbs.log2<9000) fun i j=>.int (i / j)) ta tb) (dFdiv a b):=si_opC (fun i j=>.int (i / j)) (fun _ _ _ _=>.int _) ha hb
theorem si_mod (ha:SemB K ta a) (hb:SemB K tb b):SemI K (tOp (rI (fun _ j=>0<j) fun i j=>.int (i % j)) ta tb) (dMod a b):=si_opC (fun i j=>.int (i % j)) (fun _ _ _ _=>.int _) ha hb
theorem si_pow (ha:SemB K ta a) (hb:SemB K tb b):SemI K (tOp (rI CPow fun i j=>.int (i ^ j.toNat)) ta tb) (dPow a b):=si_opC (fun i j=>.int (i ^ j.toNat)) (fun _ _ _ _=>.int _) ha hb
theorem si_lt (ha:SemB K ta a) (hb:SemB K tb b):SemI K (tOp (rI0 fun i j=>.bl (decide (i<j))) ta tb) (dLt a b):=si_op0 (fun i j=>.bl (decide (i<j))) (fun _ _ _ _=>.bl _) ha hb
theorem si_le (ha:SemB K ta a) (hb:SemB K tb b):SemI K (tOp (rI0 fun i j=>.bl (decide (i≤j))) ta tb) (dLe a b):=si_op0 (fun i j=>.bl (decide (i≤j))) (fun _ _ _ _=>.bl _) ha hb
theorem si_gt (ha:SemB K ta a) (hb:SemB K tb b):SemI K (tOp (rI0 fun i j=>.bl (decide (j<i))) ta tb) (dGt a b):=si_op0 (fun i j=>.bl (decide (j<i))) (fun _ _ _ _=>.bl _) ha hb
noncomputable def dNeg (a:DE):DE:=fun ρ=>match a ρ with
  | some (.int i)=>some (.int (-i))
  | _=>none
theorem si_neg (ha:SemB K ta a):SemI K (tUn (rU fun i=>.int (-i)) ta) (dNeg a):=fun {B Z os ρ σ H Q d} f q k=>by
  unfold dNeg at q
  split at q
  · rename_i i e1
    cases q
    exact ha f e1 fun v H1 s1 i1=>⟨i,i1.isInt,k _ _ s1 (.int _)⟩
  · cases q
noncomputable def dT (a:DE):Rho→Option Bool:=fun ρ=>match a ρ with
  | some (.bl b)=>some b
  | _=>none
theorem st_test (ha:SemB K ta a):SemT K (tTest ta) (dT a):=fun {B Z os ρ σ H Q d} f q k=>by
  unfold dT at q
  split at q
  · rename_i b e
    cases q
    exact ha f e fun v H1 s1 i1=>⟨_,i1.isBl,k _ s1⟩
  · cases q
def truD:D→Option Bool
  | .non=>some false
  | .bl b=>some b
  | .int i=>some (i != 0)
  | .str y=>if y.length≤sizeLine then some ((y.length:Int) != 0) else none
  | .lst ds=>some (!ds.isEmpty)
  | .tup ds=>some (!ds.isEmpty)
  | .scr ns=>some (!ns.isEmpty)
  | _=>none
theorem isEmpty_is {H:Hp} {Z:Addr→Prop} {vs:List V} {ds:List D} (h:IsL K H Z vs ds):vs.isEmpty=ds.isEmpty:=by cases h <;> rfl
theorem tru_is {H:Hp} {Z:Addr→Prop} {v:V} {d:D} {b:Bool} (h:Is K H Z v d) (e:truD d=some b):TruV K v H b:=by
  cases h with
  | non=>cases e; rfl
  | bl b=>cases e; rfl
  | int i=>cases e; rfl
  | str x =>
    have e:(if x.length≤sizeLine then some ((x.length:Int) != 0) else none)=some b:=e
    by_cases c:x.length≤sizeLine
    · rw [if_pos c] at e; cases e; exact ⟨c,rfl⟩
    · rw [if_neg c] at e; cases e
  | ty n=>cases e
  | lst hz h hl r=>cases e; exact .inl ⟨_,.inl h,by rw [isEmpty_is r]⟩
  | tup hz h hl r=>cases e; exact .inr (.inl ⟨_,.inl (.inl h),by rw [isEmpty_is r]⟩)
  | ins _ _=>cases e
  | scr hz h hl=>cases e; exact .inl ⟨_,.inl h,by cases ‹List Int› <;> rfl⟩
  | scrK h hl=>cases e; exact .inl ⟨_,.inr h,by cases ‹List Int› <;> rfl⟩
noncomputable def dTru (a:DE):Rho→Option Bool:=fun ρ=>match a ρ with
  | some d=>truD d
  | none=>none
theorem st_tru (ha:SemB K ta a):SemT K (fun σ H Q=>ta σ H fun x H'=>∃ k,TruV K x H' k∧Q k H') (dTru a):=fun {B Z os ρ σ H Q b} f q k=>by
  unfold dTru at q
  split at q
  · rename_i d e
    exact ha f e fun v H1 s1 i1=>⟨b,tru_is i1 q,k _ s1⟩
  · cases q
variable {tA tB':TT} {x y:Rho→Option Bool}
noncomputable def dAnd (x y:Rho→Option Bool):Rho→Option Bool:=fun ρ=>match x ρ with
  | some true=>y ρ
  | some false=>some false
  | none=>none
noncomputable def dOr (x y:Rho→Option Bool):Rho→Option Bool:=fun ρ=>match x ρ with
  | some true=>some true
  | some false=>y ρ
  | none=>none
noncomputable def dNot (x:Rho→Option Bool):Rho→Option Bool:=fun ρ=>match x ρ with
  | some b=>some (!b)
  | none=>none
theorem st_and (ha:SemT K tA x) (hb:SemT K tB' y):SemT K (tAnd tA tB') (dAnd x y):=fun {B Z os ρ σ H Q b} f q k=>by
  unfold dAnd at q
  split at q
  · rename_i e
    exact ha f e fun H1 s1=>iteT (hb (f.grow s1) q fun H2 s2=>k _ (s1.trans s2))
  · rename_i e
    cases q
    exact ha f e fun H1 s1=>iteF (k _ s1)
  · cases q
theorem st_or (ha:SemT K tA x) (hb:SemT K tB' y):SemT K (tOr tA tB') (dOr x y):=fun {B Z os ρ σ H Q b} f q k=>by
  unfold dOr at q
  split at q
  · rename_i e
    cases q
    exact ha f e fun H1 s1=>iteT (k _ s1)
  · rename_i e
    exact ha f e fun H1 s1=>iteF (hb (f.grow s1) q fun H2 s2=>k _ (s1.trans s2))
  · cases q
theorem st_not (ha:SemT K tA x):SemT K (tNot tA) (dNot x):=fun {B Z os ρ σ H Q b} f q k=>by
  unfold dNot at q
  split at q
  · rename_i c e
    cases q
    exact ha f e fun H1 s1=>k _ s1
  · cases q
noncomputable def dTrue:Rho→Option Bool:=fun _=>some true
theorem st_true:SemT K tTrue dTrue:=fun f q k=>by cases q; exact k _ (Same.refl _)
noncomputable def dAndV (a b:DE):DE:=fun ρ=>match a ρ with
  | some (.bl true)=>b ρ
  | some (.bl false)=>some (.bl false)
  | _=>none
noncomputable def dNotV (a:DE):DE:=fun ρ=>match a ρ with
  | some (.bl c)=>some (.bl (!c))
  | _=>none
theorem si_andV (ha:SemB K ta a) (hb:SemI K tb b):SemI K (tAndV ta tb) (dAndV a b):=fun {B Z os ρ σ H Q d} f q k=>by
  unfold dAndV at q
  split at q
  · rename_i e
    exact ha f e fun v H1 s1 i1=>⟨true,i1.isBl,iteT (hb (f.grow s1) q fun v H2 s2=>k _ _ (s1.trans s2))⟩
  · rename_i e
    cases q
    exact ha f e fun v H1 s1 i1=>⟨false,i1.isBl,iteF (k _ _ s1 (.bl _))⟩
  · cases q
theorem si_notV (ha:SemB K ta a):SemI K (tNotV ta) (dNotV a):=fun {B Z os ρ σ H Q d} f q k=>by
  unfold dNotV at q
  split at q
  · rename_i c e
    cases q
    exact ha f e fun v H1 s1 i1=>⟨c,i1.isBl,k _ _ s1 (.bl _)⟩
  · cases q
noncomputable def dIsN (a:DE):DE:=fun ρ=>match a ρ with
  | some .non=>some (.bl true)
  | some _=>some (.bl false)
  | none=>none
def D.isNon:D→Bool
  | .non=>true
  | _=>false
theorem isN_is {H:Hp} {Z:Addr→Prop} {v:V} {d:D} (h:Is K H Z v d):decide (v=.non)=d.isNon:=by cases h <;> rfl
theorem dIsN_eq {a:DE} {ρ:Rho} {d:D} (e:a ρ=some d):dIsN a ρ=some (.bl d.isNon):=by
  unfold dIsN; rw [e]; cases d <;> rfl
theorem dIsN_some {a:DE} {ρ:Rho} {d:D} (e:dIsN a ρ=some d):∃ d',a ρ=some d'∧d=.bl d'.isNon:=by
  cases q:a ρ with
  | none=>unfold dIsN at e; rw [q] at e; cases e
  | some d'=>rw [dIsN_eq q] at e; exact ⟨d',rfl,(Option.some.inj e).symm⟩
theorem si_isN (ha:SemB K ta a) (hb:SemB K tb (dC .non)):SemI K (tOp (fun x y H Q=>y=.non∧Q (.bl (decide (x=.non))) H) ta tb) (dIsN a):=fun {B Z os ρ σ H Q d} f q k=>by
  obtain ⟨d',e,rfl⟩:=dIsN_some q
  refine ha f e fun v H1 s1 i1=>hb (f.grow s1) rfl fun u H2 s2 i2=>⟨by cases i2; rfl,?_⟩
  rw [isN_is i1]
  exact k _ _ (s1.trans s2) (.bl _)
noncomputable def dNotN (a:DE):DE:=dNotV (dIsN a)
theorem si_notN (ha:SemB K ta a) (hb:SemB K tb (dC .non)):SemI K (tOp (fun x y H Q=>y=.non∧Q (.bl (!decide (x=.non))) H) ta tb) (dNotN a):=fun {B Z os ρ σ H Q d} f q k=>by
  unfold dNotN dNotV at q
  split at q
  · rename_i c e
    obtain ⟨d',e',e2⟩:=dIsN_some e
    cases q
    refine ha f e' fun v H1 s1 i1=>hb (f.grow s1) rfl fun u H2 s2 i2=>⟨by cases i2; rfl,?_⟩
    rw [isN_is i1]
    rw [← D.bl.inj e2]
    exact k _ _ (s1.trans s2) (.bl _)
  · cases q
end
end
end VL
namespace L2
open PySem PySem.Spec PyProof.Rows
section
variable {X:Cx} {pins:List (Addr×Obj)} {σ:St} {H:Hp} {s:Shared} {l:Addr} {xs:List V}
theorem Inv.lstR (I:Inv X pins σ H s) (hH:Rd H l (.lst xs)):xs.length≤sizeLine∧∃ (its:List Value) (n:Nat),Vals xs its∧xs.length=its.length∧s.heap.get? l=some { cls:=.type "list", data:=.seq its.toArray n }:=by
  obtain ⟨z,its,n,r,e⟩:=hH.ok I.hok
  exact ⟨z,its,n,r,r.length,e⟩
def rCatR:R2:=fun x y H Q=>∃ l b xs zs,x=.ref l∧y=.ref b∧Rd H l (.lst xs)∧Rd H b (.lst zs)∧xs.length+zs.length≤sizeLine∧∀ p,H p=none→Q (.ref p) (upd H p (.lst (xs++zs)))
theorem op_catR:OpR X (binaryOp .Add) rCatR:=by
  intro pins s σ H x y v u Q I rx ry h
  obtain ⟨l,b,xs,zs,rfl,rfl,hH,hB,hz,q⟩:=h
  cases rx
  cases ry
  obtain ⟨z,its,n,r,hl,e⟩:=I.lstR hH
  obtain ⟨z2,its2,n2,r2,hl2,e2⟩:=I.lstR hB
  refine PySem.P.add_list e e2 ?_ (by rw [List.size_toArray,List.size_toArray]; omega)
  have ea:its.toArray++its2.toArray=(its++its2).toArray:=by simp
  rw [ea]
  exact ⟨.ref _,_,I.lnew (t':=s.toks) (r.append r2) (by rw [List.length_append]; omega),rfl,q _ I.fresh⟩
theorem ix_seqK {K:PySem.W.Frag} (h:X.K=K):IxR X (rIx K):=by subst h; exact ix_seq
theorem call_lenK {K:PySem.W.Frag} (h:X.K=K):CallR X (.builtin "len") (fun xs H Q=>∃ x n,xs=[x]∧LenV K x H n∧Q (.int n) H):=by subst h; exact call_len
theorem call_sumK {K:PySem.W.Frag} (hc:X.calm=true) (h:X.K=K):CallR X (.builtin "sum") (fun xs H Q=>∃ (p:Addr) (ns:List Int),xs=[.ref p]∧SqL K H p (ns.map V.int)∧Q (.int ns.sum) H):=by subst h; exact call_sum hc
end
end L2
namespace VL
open PySem L2
open Classical
noncomputable section
section
variable [Tabs] {K:PySem.W.Frag} {ta tb tc:TE} {a b c:DE}
noncomputable def dCons (a:DE) (es:Rho→Option (List D)):Rho→Option (List D):=fun ρ=>match a ρ with
  | some d=>(match es ρ with
    | some ds=>some (d::ds)
    | none=>none)
  | none=>none
noncomputable def dNil:Rho→Option (List D):=fun _=>some []
theorem dCons_some {a:DE} {es:Rho→Option (List D)} {ρ:Rho} {ds:List D} (h:dCons a es ρ=some ds):∃ d r,a ρ=some d∧es ρ=some r∧ds=d::r:=by
  unfold dCons at h
  split at h
  · rename_i d e1
    split at h
    · rename_i r e2
      exact ⟨d,r,e1,e2,(Option.some.inj h).symm⟩
    · cases h
  · cases h
theorem sa_nil:SemA K [] tNil dNil:=fun f q k=>by cases q; exact k _ _ (Same.refl _) .nil
theorem sa_own {ms:List Bool} {tr:TA} {es:Rho→Option (List D)} (ha:SemI K ta a) (hr:SemA K ms tr es):SemA K (true::ms) (tCons ta tr) (dCons a es):=fun {B Z os ρ σ H Q ds} f q k=>by
  obtain ⟨d,r,e1,e2,rfl⟩:=dCons_some q
  exact ha f e1 fun v H1 s1 i1=>hr (f.grow s1) e2 fun vs H2 s2 i2=>k _ _ (s1.trans s2) (.own (i1.same s2) i2)
theorem sa_any {ms:List Bool} {tr:TA} {es:Rho→Option (List D)} (ha:SemB K ta a) (hr:SemA K ms tr es):SemA K (false::ms) (tCons ta tr) (dCons a es):=fun {B Z os ρ σ H Q ds} f q k=>by
  obtain ⟨d,r,e1,e2,rfl⟩:=dCons_some q
  exact ha f e1 fun v H1 s1 i1=>hr (f.grow s1) e2 fun vs H2 s2 i2=>k _ _ (s1.trans s2) (.any (i1.same s2) i2)
theorem kp_new {T:Addr→Prop} {H:Hp} {p:Addr} {o:HO} (hp:H p=none):Kp T H (fun a=>a=p∨T a) (upd H p o):=fun a u e z=>by
  have hne:a≠p:=ne_of_none e hp
  exact ⟨by rw [upd_ne hne]; exact e,fun q=>q.elim hne z⟩
theorem sf_lst {n:Nat} {t:TA} {es:Rho→Option (List D)} (h:SemA K (List.replicate n true) t es) (hn:n≤sizeLine):SemF K (tLst t) es:=fun {B Z os ρ σ H Q ds} f q k=>by
  refine h f q fun vs H1 s1 a=>?_
  have hl:vs.length≤sizeLine:=by have:=a.len.1; rw [List.length_replicate] at this; omega
  exact ⟨hl,fun p hp=>k p vs _ (s1.trans (same_new hp)) (Same.free s1 hp) upd_same hl (a.lown.kp (kp_new hp))⟩
noncomputable def dTup (es:Rho→Option (List D)):DE:=fun ρ=>(es ρ).map D.tup
theorem si_tup {n:Nat} {t:TA} {es:Rho→Option (List D)} (h:SemA K (List.replicate n true) t es) (hn:n≤sizeLine):SemI K (tTup t) (dTup es):=fun {B Z os ρ σ H Q d} f q k=>by
  unfold dTup at q
  cases q1:es ρ with
  | none=>rw [q1] at q; cases q
  | some ds =>
    rw [q1] at q
    cases q
    refine h f q1 fun vs H1 s1 a=>?_
    have hl:vs.length≤sizeLine:=by have:=a.len.1; rw [List.length_replicate] at this; omega
    exact ⟨hl,fun p hp=>k _ _ (s1.trans (same_new hp)) (.tup ((f.grow s1).out hp) upd_same hl ((a.lown.kp (kp_new hp)).kp (Kp.less fun a z=>.inr z)))⟩
noncomputable def dLst (es:Rho→Option (List D)):DE:=fun ρ=>(es ρ).map D.lst
theorem SemF.l {t:TE} {e:Rho→Option (List D)} (h:SemF K t e):SemI K t (dLst e):=h.i
def ixD:D→Int→Option D
  | .lst ds,i=>atI ds i
  | .tup ds,i=>atI ds i
  | .scr ns,i=>(atI ns i).map D.int
  | .str z,i=>if z.length≤sizeLine then (atI z.cps.toList i).map fun c=>.str ⟨#[c]⟩ else none
  | _,_=>none
theorem atI_is {H:Hp} {Z:Addr→Prop} {vs:List V} {ds:List D} {i:Int} {d:D} (r:IsL K H Z vs ds) (h:atI ds i=some d):∃ v,atI vs i=some v∧Is K H Z v d:=by
  unfold atI at h ⊢
  rw [r.length]
  cases e:ixN ds.length i with
  | none=>rw [e] at h; cases h
  | some j =>
    rw [e] at h
    obtain ⟨v,e1,i1⟩:=r.get (i:=j) (show ds[j]?=some d from h)
    exact ⟨v,e1,i1⟩
theorem atI_mapI {ns:List Int} {i:Int} {n:Int} (h:atI ns i=some n):atI (ns.map V.int) i=some (.int n):=by
  unfold atI at h ⊢
  rw [List.length_map]
  cases e:ixN ns.length i with
  | none=>rw [e] at h; cases h
  | some j =>
    rw [e] at h
    have h':ns[j]?=some n:=h
    show (ns.map V.int)[j]?=some (.int n)
    rw [List.getElem?_map,h']
    rfl
theorem ix_is {H:Hp} {Z:Addr→Prop} {v:V} {d e:D} {i:Int} {Q:VK} (h:Is K H Z v d) (q:ixD d i=some e) (k:∀ u,Is K H Z u e→Q u H):rIx K v (.int i) H Q:=by
  cases h with
  | lst hz h hl r =>
    obtain ⟨u,e1,i1⟩:=atI_is r (show atI _ i=some e from q)
    exact .inl ⟨_,_,i,u,rfl,rfl,.inl h,e1,k u i1⟩
  | tup hz h hl r =>
    obtain ⟨u,e1,i1⟩:=atI_is r (show atI _ i=some e from q)
    exact .inr (.inl ⟨_,_,i,u,rfl,rfl,.inl (.inl h),e1,k u i1⟩)
  | str z =>
    have q:(if z.length≤sizeLine then (atI z.cps.toList i).map fun c=>D.str ⟨#[c]⟩ else none)=some e:=q
    by_cases c:z.length≤sizeLine
    · rw [if_pos c] at q
      cases e2:atI z.cps.toList i with
      | none=>rw [e2] at q; cases q
      | some cp =>
        rw [e2] at q
        cases q
        exact .inr (.inr ⟨z,i,cp,rfl,rfl,c,e2,k _ (.str _)⟩)
    · rw [if_neg c] at q; cases q
  | @scr p ns hz h hl =>
    have q:(atI ns i).map D.int=some e:=q
    cases e2:atI ns i with
    | none=>rw [e2] at q; cases q
    | some n=>rw [e2] at q; cases q; exact .inl ⟨_,_,i,_,rfl,rfl,.inl h,atI_mapI e2,k _ (.int n)⟩
  | @scrK p ns h hl =>
    have q:(atI ns i).map D.int=some e:=q
    cases e2:atI ns i with
    | none=>rw [e2] at q; cases q
    | some n=>rw [e2] at q; cases q; exact .inl ⟨_,_,i,_,rfl,rfl,.inr h,atI_mapI e2,k _ (.int n)⟩
  | _=>cases q
noncomputable def dIx (a b:DE):DE:=fun ρ=>match a ρ with
  | some d=>(match b ρ with
    | some (.int i)=>ixD d i
    | _=>none)
  | none=>none
theorem dIx_some {ρ:Rho} {d:D} (h:dIx a b ρ=some d):∃ e i,a ρ=some e∧b ρ=some (.int i)∧ixD e i=some d:=by
  unfold dIx at h
  split at h
  · rename_i e e1
    split at h
    · rename_i i e2
      exact ⟨e,i,e1,e2,h⟩
    · cases h
  · cases h
theorem sb_ix (ha:SemB K ta a) (hb:SemB K tb b):SemB K (tOp (rIx K) ta tb) (dIx a b):=fun {B Z os ρ σ H Q d} f q k=>by
  obtain ⟨e,i,e1,e2,e3⟩:=dIx_some q
  refine ha f e1 fun v H1 s1 i1=>hb (f.grow s1) e2 fun u H2 s2 i2=>?_
  rw [i2.isInt]
  exact ix_is (i1.same s2) e3 fun w i3=>k _ _ (s1.trans s2) i3
theorem si_ix (ha:SemI K ta a) (hb:SemB K tb b):SemI K (tOp (rIx K) ta tb) (dIx a b):=fun {B Z os ρ σ H Q d} f q k=>by
  obtain ⟨e,i,e1,e2,e3⟩:=dIx_some q
  refine ha f e1 fun v H1 s1 i1=>hb (f.grow s1) e2 fun u H2 s2 i2=>?_
  rw [i2.isInt]
  exact ix_is (i1.same s2) e3 fun w i3=>k _ _ (s1.trans s2) i3
def D.v:D→V
  | .bl b=>.bl b
  | .int i=>.int i
  | .str x=>.str x
  | .ty n=>.ty n
  | _=>.non
theorem D.v_is {H:Hp} {Z:Addr→Prop} {d:D} (h:d.scal=true):Is K H Z d.v d:=by
  cases d with
  | non=>exact .non
  | bl b=>exact .bl b
  | int b=>exact .int b
  | str b=>exact .str b
  | ty b=>exact .ty b
  | _=>cases h
noncomputable def dF1 (g:D→Option D) (a:DE):DE:=fun ρ=>match a ρ with
  | some d=>g d
  | none=>none
theorem si_f1 {r:List V→Hp→VK→Prop} {g:D→Option D} (hg:∀ {H v d e} {Q:VK},Is K H No v d→g d=some e→e.scal=true∧(Q e.v H→r [v] H Q)) (ha:SemB K ta a):SemI K (tCB r (tCons ta tNil)) (dF1 g a):=fun {B Z os ρ σ H Q d} f q k=>by
  unfold dF1 at q
  split at q
  · rename_i e e1
    refine ha f e1 fun v H1 s1 i1=>?_
    obtain ⟨hs,hr⟩:=hg (Q:=Q) i1 q
    exact hr (k _ _ s1 (D.v_is hs))
  · cases q
def lenD:D→Option D
  | .lst ds=>some (.int ds.length)
  | .tup ds=>some (.int ds.length)
  | .scr ns=>some (.int ns.length)
  | .str y=>if y.length≤sizeLine then some (.int y.length) else none
  | _=>none
theorem len_is {H:Hp} {v:V} {d e:D} {Q:VK} (h:Is K H No v d) (q:lenD d=some e):e.scal=true∧(Q e.v H→∃ x n,[v]=[x]∧LenV K x H n∧Q (.int n) H):=by
  cases h with
  | lst hz h hl r=>cases q; exact ⟨rfl,fun k=>⟨_,_,rfl,.inl ⟨_,.inl h,rfl⟩,by rw [r.length]; exact k⟩⟩
  | tup hz h hl r=>cases q; exact ⟨rfl,fun k=>⟨_,_,rfl,.inr ⟨_,.inl (.inl h),rfl⟩,by rw [r.length]; exact k⟩⟩
  | str z =>
    have q:(if z.length≤sizeLine then some (D.int z.length) else none)=some e:=q
    by_cases c:z.length≤sizeLine
    · rw [if_pos c] at q; cases q; exact ⟨rfl,fun k=>⟨_,_,rfl,⟨c,rfl⟩,k⟩⟩
    · rw [if_neg c] at q; cases q
  | scr hz h hl=>cases q; exact ⟨rfl,fun k=>⟨_,_,rfl,.inl ⟨_,.inl h,rfl⟩,by rw [List.length_map]; exact k⟩⟩
  | scrK h hl=>cases q; exact ⟨rfl,fun k=>⟨_,_,rfl,.inl ⟨_,.inr h,rfl⟩,by rw [List.length_map]; exact k⟩⟩
  | _=>cases q
theorem si_len (ha:SemB K ta a):SemI K (tCB (fun xs H Q=>∃ x n,xs=[x]∧LenV K x H n∧Q (.int n) H) (tCons ta tNil)) (dF1 lenD a):=si_f1 (fun h q=>len_is h q) ha
def asInts:List D→Option (List Int)
  | []=>some []
  | .int i::r=>(asInts r).map (i::·)
  | _=>none
theorem asInts_map:∀ (ns:List Int),asInts (ns.map D.int)=some ns
  | []=>rfl
  | n::ns=>by show (asInts (ns.map D.int)).map (n::·)=_; rw [asInts_map ns]; rfl
theorem asInts_some:∀ {ds:List D} {ns:List Int},asInts ds=some ns→ds=ns.map D.int
  | [],ns,h=>by cases h; rfl
  | .int i::r,ns,h=>by
    have h:(asInts r).map (i::·)=some ns:=h
    cases e:asInts r with
    | none=>rw [e] at h; cases h
    | some ms=>rw [e] at h; cases h; rw [asInts_some e]; rfl
  | .non::_,_,h=>by cases h
  | .bl _::_,_,h=>by cases h
  | .str _::_,_,h=>by cases h
  | .ty _::_,_,h=>by cases h
  | .lst _::_,_,h=>by cases h
  | .tup _::_,_,h=>by cases h
  | .ins _::_,_,h=>by cases h
  | .scr _::_,_,h=>by cases h
def ofInts (g:List Int→Option D):D→Option D
  | .lst ds=>(asInts ds).bind g
  | _=>none
theorem ofInts_lst (g:List Int→Option D) (ns:List Int):ofInts g (.lst (ns.map D.int))=g ns:=by
  show (asInts (ns.map D.int)).bind g=g ns
  rw [asInts_map]; rfl
theorem ofInts_some {g:List Int→Option D} {d e:D} (h:ofInts g d=some e):∃ ns,d=.lst (ns.map D.int)∧g ns=some e:=by
  cases d with
  | lst ds =>
    have h:(asInts ds).bind g=some e:=h
    cases q:asInts ds with
    | none=>rw [q] at h; cases h
    | some ns=>rw [q] at h; exact ⟨ns,by rw [asInts_some q],h⟩
  | _=>cases h
theorem Is.ints {H:Hp} {Z:Addr→Prop} {v:V} {ns:List Int} (h:Is K H Z v (.lst (ns.map D.int))):∃ p,v=.ref p∧Rd H p (.lst (ns.map V.int)):=by
  generalize e:D.lst (ns.map D.int)=d at h
  cases h with
  | lst hz h hl r=>cases e; rw [← r.ints]; exact ⟨_,rfl,h⟩
  | _=>cases e
def sumD:D→Option D:=ofInts fun ns=>some (.int ns.sum)
theorem si_sum (ha:SemB K ta a):SemI K (tCB (fun xs H Q=>∃ (p:Addr) (ns:List Int),xs=[.ref p]∧SqL K H p (ns.map V.int)∧Q (.int ns.sum) H) (tCons ta tNil)) (dF1 sumD a):=by
  refine si_f1 (fun h q=>?_) ha
  obtain ⟨ns,rfl,e⟩:=ofInts_some q
  cases e
  obtain ⟨p,rfl,r⟩:=h.ints
  exact ⟨rfl,fun k=>⟨p,ns,rfl,.inl r,k⟩⟩
def minL (x:Int) (r:List Int):Int:=r.foldl min x
theorem minL_spec:∀ (r:List Int) (x:Int),minL x r∈x::r∧∀ a∈x::r,minL x r≤a
  | [],x=>⟨List.mem_cons_self,fun a h=>by rw [List.mem_singleton.mp h]; exact Int.le_refl _⟩
  | y::r,x=>by
    obtain ⟨h1,h2⟩:=minL_spec r (min x y)
    have e:minL x (y::r)=minL (min x y) r:=rfl
    rw [e]
    refine ⟨?_,fun a ha=>?_⟩
    · rcases List.mem_cons.mp h1 with q | q
      · rw [q]
        rcases Int.le_total x y with z | z
        · rw [Int.min_eq_left z]; simp
        · rw [Int.min_eq_right z]; simp
      · simp [q]
    · have hm:=h2 (min x y) List.mem_cons_self
      rcases List.mem_cons.mp ha with rfl | ha
      · omega
      · rcases List.mem_cons.mp ha with rfl | ha
        · omega
        · exact h2 a (List.mem_cons_of_mem _ ha)
theorem min_uniq {ns:List Int} {M N:Int} (h1:M∈ns) (h2:∀ a∈ns,M≤a) (h3:N∈ns) (h4:∀ a∈ns,N≤a):M=N:=by
  have:=h2 N h3
  have:=h4 M h1
  omega
noncomputable def dMax2:DE→DE→DE:=dII fun i j=>some (.int (if j > i then j else i))
noncomputable def dMin2:DE→DE→DE:=dII fun i j=>some (.int (if j<i then j else i))
theorem si_max2 (ha:SemB K ta a) (hb:SemB K tb b):SemI K (tCB (fun xs H Q=>∃ i j,xs=[.int i,.int j]∧Q (.int (if j > i then j else i)) H) (tCons ta (tCons tb tNil))) (dMax2 a b):=fun {B Z os ρ σ H Q d} f q k=>by
  obtain ⟨i,j,e1,e2,e3⟩:=dII_some q
  cases e3
  refine ha f e1 fun v H1 s1 i1=>hb (f.grow s1) e2 fun u H2 s2 i2=>⟨i,j,by rw [i1.isInt,i2.isInt],k _ _ (s1.trans s2) (.int _)⟩
theorem si_min2 (ha:SemB K ta a) (hb:SemB K tb b):SemI K (tCB (fun xs H Q=>∃ i j,xs=[.int i,.int j]∧Q (.int (if j<i then j else i)) H) (tCons ta (tCons tb tNil))) (dMin2 a b):=fun {B Z os ρ σ H Q d} f q k=>by
  obtain ⟨i,j,e1,e2,e3⟩:=dII_some q
  cases e3
  refine ha f e1 fun v H1 s1 i1=>hb (f.grow s1) e2 fun u H2 s2 i2=>⟨i,j,by rw [i1.isInt,i2.isInt],k _ _ (s1.trans s2) (.int _)⟩
def D.tyn:D→String
  | .non => "NoneType"
  | .bl _ => "bool"
  | .int _ => "int"
  | .str _ => "str"
  | .lst _ => "list"
  | .tup _ => "tuple"
  | .ty _ => "type"
  | .ins _ => "object"
  | .scr _ => "script"
def isiT:String→String→Option Bool
  | "int", "int" => some true
  | "int", "bool" => some false
  | "int", "list" => some false
  | "int", "tuple" => some false
  | "int", "str" => some false
  | "bool", "int" => some true
  | "bool", "bool" => some true
  | "bool", "list" => some false
  | "bool", "tuple" => some false
  | "list", "list" => some true
  | "list", "tuple" => some false
  | "list", "int" => some false
  | "list", "str" => some false
  | "tuple", "tuple" => some true
  | "tuple", "list" => some false
  | "tuple", "int" => some false
  | "str", "str" => some true
  | "str", "list" => some false
  | "str", "int" => some false
  | "NoneType", "int" => some false
  | "NoneType", "list" => some false
  | "NoneType", "tuple" => some false
  | _,_=>none
noncomputable def dIsi (n:String) (a:DE):DE:=fun ρ=>match a ρ with
  | some d=>(isiT d.tyn n).map D.bl
  | none=>none
theorem isiT_kit {x n:String} {b:Bool} (h:isiT x n=some b):PySem.W.kitOne K (.type x) (.type n)=some b:=by
  unfold isiT at h
  split at h <;> first | (cases h; rfl) | (cases h; with_unfolding_all rfl) | cases h
theorem tyOf_is {H:Hp} {v:V} {d:D} {n:String} {b:Bool} (h:Is K H No v d) (e:isiT d.tyn n=some b):TyOf K H v (.type d.tyn):=by
  cases h with
  | non=>exact .non
  | bl b=>exact .bl b
  | int b=>exact .int b
  | str b=>exact .str b
  | ty n=>unfold isiT at e; simp [D.tyn] at e
  | lst hz h hl r=>rcases h with h | ⟨o,h⟩; exact .lst h; exact .frz h
  | tup hz h hl r=>exact .tup h
  | ins _ _=>unfold isiT at e; simp [D.tyn] at e
  | scr _ _ _=>unfold isiT at e; simp [D.tyn] at e
  | scrK _ _=>unfold isiT at e; simp [D.tyn] at e
theorem si_isi {n:String} (ha:SemB K ta a):SemI K (tCB (fun xs H Q=>∃ x n t b,xs=[x,.ty n]∧TyOf K H x t∧PySem.W.kitOne K t (.type n)=some b∧Q (.bl b) H) (tCons ta (tCons (tC (.ty n)) tNil))) (dIsi n a):=fun {B Z os ρ σ H Q d} f q k=>by
  unfold dIsi at q
  split at q
  · rename_i e e1
    cases q1:isiT e.tyn n with
    | none=>rw [q1] at q; cases q
    | some b =>
      rw [q1] at q
      cases q
      exact ha f e1 fun v H1 s1 i1=>⟨v,n,_,b,rfl,tyOf_is i1 q1,isiT_kit q1,k _ _ s1 (.bl b)⟩
  · cases q
def cutL {α:Type} (xs:List α) (lo hi:Option Int):List α:=(xs.drop (HT.sIx xs.length 0 lo)).take (HT.sIx xs.length xs.length hi-HT.sIx xs.length 0 lo)
theorem cut_is {H:Hp} {Z:Addr→Prop} {vs:List V} {ds:List D} {lo hi:Option Int} (r:IsL K H Z vs ds):IsL K H Z (cutV vs lo hi) (cutL ds lo hi):=by
  unfold cutV cutL
  rw [r.length]
  exact (r.drop _).take _
def SemO (K:PySem.W.Frag) (t:TO) (e:Rho→Option (Option Int)):Prop:=∀ {B:Hp} {Z:Addr→Prop} {os:Own} {ρ:Rho} {σ:L2.St} {H:Hp} {Q:Option Int→Hp→Prop} {o:Option Int},Fr K B Z os ρ σ H→e ρ=some o→(∀ H',Same H H'→Q o H')→t σ H Q
noncomputable def oNone:Rho→Option (Option Int):=fun _=>some none
noncomputable def oSome (a:DE):Rho→Option (Option Int):=fun ρ=>match a ρ with
  | some (.int i)=>some (some i)
  | _=>none
theorem so_none:SemO K tNoPart oNone:=fun f q k=>by cases q; exact k _ (Same.refl _)
theorem so_some (ha:SemB K ta a):SemO K (tPart ta) (oSome a):=fun {B Z os ρ σ H Q o} f q k=>by
  unfold oSome at q
  split at q
  · rename_i i e
    cases q
    exact ha f e fun v H1 s1 i1=>⟨i,i1.isInt,k _ s1⟩
  · cases q
def asL (a:DE):Rho→Option (List D):=fun ρ=>match a ρ with
  | some d=>lof d
  | none=>none
theorem asL_some {a:DE} {ρ:Rho} {ds:List D} (h:asL a ρ=some ds):∃ d,a ρ=some d∧lof d=some ds:=by
  unfold asL at h
  split at h
  · exact ⟨_,by assumption,h⟩
  · cases h
noncomputable def dSl (a:DE) (lo hi:Rho→Option (Option Int)):Rho→Option (List D):=fun ρ=>match asL a ρ with
  | some ds=>(match lo ρ with
    | some l=>(match hi ρ with
      | some h=>some (cutL ds l h)
      | none=>none)
    | none=>none)
  | _=>none
theorem dSl_some {lo hi:Rho→Option (Option Int)} {ρ:Rho} {ds:List D} (h:dSl a lo hi ρ=some ds):∃ es l u,asL a ρ=some es∧lo ρ=some l∧hi ρ=some u∧ds=cutL es l u:=by
  unfold dSl at h
  split at h
  · rename_i es e1
    split at h
    · rename_i l e2
      split at h
      · rename_i u e3
        exact ⟨es,l,u,e1,e2,e3,(Option.some.inj h).symm⟩
      · cases h
    · cases h
  · cases h
theorem Is.isLst {H:Hp} {Z:Addr→Prop} {v:V} {ds:List D} (h:Is K H Z v (.lst ds)):∃ p vs,v=.ref p∧¬ Z p∧Rd H p (.lst vs)∧vs.length≤sizeLine∧IsL K H Z vs ds:=by
  cases h with
  | lst hz h hl r=>exact ⟨_,_,rfl,hz,h,hl,r⟩
theorem Is.isTup {H:Hp} {Z:Addr→Prop} {v:V} {ds:List D} (h:Is K H Z v (.tup ds)):∃ p vs,v=.ref p∧¬ Z p∧H p=some (.tup vs)∧vs.length≤sizeLine∧IsL K H Z vs ds:=by
  cases h with
  | tup hz h hl r=>exact ⟨_,_,rfl,hz,h,hl,r⟩
theorem sf_sl {tl th:TO} {lo hi:Rho→Option (Option Int)} (ha:SemI K ta a) (hl:SemO K tl lo) (hh:SemO K th hi):SemF K (tSl (rSlL K) ta tl th) (dSl a lo hi):=fun {B Z os ρ σ H Q ds} f q k=>by
  obtain ⟨es,l,u,e1,e2,e3,rfl⟩:=dSl_some q
  obtain ⟨d,e1,ed⟩:=asL_some e1
  refine ha f e1 fun v H1 s1 i1=>hl (f.grow s1) e2 fun H2 s2=>hh (f.grow (s1.trans s2)) e3 fun H3 s3=>?_
  obtain ⟨p,vs,rfl,hn,_,hr⟩:=i1.seq ed
  obtain ⟨hr,r⟩:=hr H3 _ (Kp.same (s2.trans s3))
  have s13:=(s1.trans s2).trans s3
  exact ⟨p,vs,rfl,hr,fun n hn'=>k n _ _ (s13.trans (same_new hn')) (Same.free s13 hn') upd_same (Nat.le_trans (cutV_length _ _ _) hn) ((cut_is r).kp (kp_new hn'))⟩
def flatL (ds:List D):Bool:=ds.all D.scal
theorem IsL.flat {H H':Hp} {Z Z':Addr→Prop}:∀ {vs:List V} {ds:List D},IsL K H Z vs ds→flatL ds=true→IsL K H' Z' vs ds
  | _,_,.nil,_=>.nil
  | _,_,.cons h r,e=>by
    have e:=(Bool.and_eq_true _ _).mp (show (D.scal _&&flatL _)=true from e)
    exact .cons (h.scal e.1) (r.flat e.2)
noncomputable def gFlat (e:Rho→Option (List D)):Rho→Option (List D):=fun ρ=>match e ρ with
  | some ds=>if flatL ds=true then some ds else none
  | none=>none
theorem gFlat_some {e:Rho→Option (List D)} {ρ:Rho} {ds:List D} (h:gFlat e ρ=some ds):e ρ=some ds∧flatL ds=true:=by
  unfold gFlat at h
  split at h
  · rename_i es e1
    by_cases c:flatL es=true
    · rw [if_pos c] at h; cases h; exact ⟨e1,c⟩
    · rw [if_neg c] at h; cases h
  · cases h
noncomputable def dLof (a:DE):Rho→Option (List D):=fun ρ=>match a ρ with
  | some (.tup ds)=>some ds
  | some d=>lof d
  | _=>none
theorem dLof_some {ρ:Rho} {ds:List D} (h:dLof a ρ=some ds):a ρ=some (.tup ds)∨∃ d,a ρ=some d∧lof d=some ds:=by
  unfold dLof at h
  split at h
  · rename_i es e; cases h; exact .inl e
  · rename_i d _ e; exact .inr ⟨d,e,h⟩
  · cases h
theorem sf_list (ha:SemI K ta a):SemF K (tCB (fun xs H Q=>∃ p ys,xs=[.ref p]∧(SqL K H p ys∨SqT K H p ys)∧∀ l,H l=none→Q (.ref l) (upd H l (.lst ys))) (tCons ta tNil)) (dLof a):=fun {B Z os ρ σ H Q ds} f q k=>by
  rcases dLof_some q with e1 | ⟨d,e1,ed⟩
  · refine ha f e1 fun v H1 s1 i1=>?_
    obtain ⟨p,vs,rfl,hz,hr,hn,r⟩:=i1.isTup
    exact ⟨p,vs,rfl,.inr (.inl (.inl hr)),fun n hn'=>k n _ _ (s1.trans (same_new hn')) (Same.free s1 hn') upd_same hn (r.kp (kp_new hn'))⟩
  · refine ha f e1 fun v H1 s1 i1=>?_
    obtain ⟨p,vs,rfl,hn,_,hr⟩:=i1.seq ed
    obtain ⟨hr,r⟩:=hr H1 _ Kp.refl
    exact ⟨p,vs,rfl,.inl hr,fun n hn'=>k n _ _ (s1.trans (same_new hn')) (Same.free s1 hn') upd_same hn (r.kp (kp_new hn'))⟩
theorem sf_listB (ha:SemB K ta a):SemF K (tCB (fun xs H Q=>∃ p ys,xs=[.ref p]∧(SqL K H p ys∨SqT K H p ys)∧∀ l,H l=none→Q (.ref l) (upd H l (.lst ys))) (tCons ta tNil)) (gFlat (dLof a)):=fun {B Z os ρ σ H Q ds} f q k=>by
  obtain ⟨q,hf⟩:=gFlat_some q
  rcases dLof_some q with e1 | ⟨d,e1,ed⟩
  · refine ha f e1 fun v H1 s1 i1=>?_
    obtain ⟨p,vs,rfl,hz,hr,hn,r⟩:=i1.isTup
    exact ⟨p,vs,rfl,.inr (.inl (.inl hr)),fun n hn'=>k n _ _ (s1.trans (same_new hn')) (Same.free s1 hn') upd_same hn (r.flat hf)⟩
  · refine ha f e1 fun v H1 s1 i1=>?_
    obtain ⟨p,vs,rfl,hn,_,hr⟩:=i1.seq ed
    obtain ⟨hr,r⟩:=hr H1 _ Kp.refl
    exact ⟨p,vs,rfl,.inl hr,fun n hn'=>k n _ _ (s1.trans (same_new hn')) (Same.free s1 hn') upd_same hn (r.flat hf)⟩
noncomputable def dCat (a b:DE):Rho→Option (List D):=fun ρ=>match a ρ with
  | some (.lst ds)=>(match b ρ with
    | some (.lst es)=>if ds.length+es.length≤sizeLine then some (ds++es) else none
    | _=>none)
  | _=>none
theorem dCat_some {ρ:Rho} {ds:List D} (h:dCat a b ρ=some ds):∃ xs ys,a ρ=some (.lst xs)∧b ρ=some (.lst ys)∧xs.length+ys.length≤sizeLine∧ds=xs++ys:=by
  unfold dCat at h
  split at h
  · rename_i xs e1
    split at h
    · rename_i ys e2
      by_cases c:xs.length+ys.length≤sizeLine
      · rw [if_pos c] at h; exact ⟨xs,ys,e1,e2,c,(Option.some.inj h).symm⟩
      · rw [if_neg c] at h; cases h
    · cases h
  · cases h
theorem sf_cat (ha:SemI K ta a) (hb:SemI K tb b):SemF K (tOp rCatR ta tb) (dCat a b):=fun {B Z os ρ σ H Q ds} f q k=>by
  obtain ⟨xs,ys,e1,e2,hc,rfl⟩:=dCat_some q
  refine ha f e1 fun v H1 s1 i1=>hb (f.grow s1) e2 fun u H2 s2 i2=>?_
  obtain ⟨p,vs,rfl,hz,hr,hn,r⟩:=(i1.same s2).isLst
  obtain ⟨p2,us,rfl,hz2,hr2,hn2,r2⟩:=i2.isLst
  have hl:vs.length+us.length≤sizeLine:=by rw [r.length,r2.length]; exact hc
  have s12:=s1.trans s2
  exact ⟨p,p2,vs,us,rfl,rfl,hr,hr2,hl,fun n hn'=>k n _ _ (s12.trans (same_new hn')) (Same.free s12 hn') upd_same (by rw [List.length_append]; exact hl) ((r.append r2).kp (kp_new hn'))⟩
end
end
end VL
namespace VL
open PySem L2
open Classical
noncomputable section
instance:Inhabited D:=⟨.non⟩
theorem rd_lst {H:Hp} {a:Addr} {xs ys:List V} (h:Rd H a (.lst xs)) (h':Rd H a (.lst ys)):xs=ys:=by
  rcases h with h | ⟨o,h⟩ <;> rcases h' with h' | ⟨o',h'⟩ <;> rw [h] at h' <;> cases h' <;> rfl
def cmpb:Nat→D→D→Bool
  | _,.int _,.int _=>true
  | _,.bl _,.bl _=>true
  | _,.str _,.str _=>true
  | _,.non,.non=>true
  | n+1,.lst xs,.lst ys=>decide (xs.length≠ys.length) || (List.zip xs ys).all fun p=>cmpb n p.1 p.2
  | n+1,.tup xs,.tup ys=>decide (xs.length=ys.length)&&(List.zip xs ys).all fun p=>cmpb n p.1 p.2
  | _,_,_=>false
theorem zip_at {xs ys:List D} {j:Nat} {a b:D} {p:D×D→Bool} (h:(List.zip xs ys).all p=true) (e1:xs[j]?=some a) (e2:ys[j]?=some b):p (a,b)=true :=
  List.all_eq_true.mp h _ (List.mem_of_getElem? (i:=j) (List.getElem?_zip_eq_some.mpr ⟨e1,e2⟩))
inductive Cm:Nat→D→D→Prop
  | int {n:Nat} (a b:Int):Cm n (.int a) (.int b)
  | bl {n:Nat} (a b:Bool):Cm n (.bl a) (.bl b)
  | str {n:Nat} (a b:Str):Cm n (.str a) (.str b)
  | non {n:Nat}:Cm n .non .non
  | lst {n:Nat} {xs ys:List D} (h:xs.length=ys.length→(List.zip xs ys).all (fun p=>cmpb n p.1 p.2)=true):Cm (n+1) (.lst xs) (.lst ys)
  | tup {n:Nat} {xs ys:List D} (hl:xs.length=ys.length) (h:(List.zip xs ys).all (fun p=>cmpb n p.1 p.2)=true):Cm (n+1) (.tup xs) (.tup ys)
theorem cmpb_inv {n:Nat} {d e:D} (hc:cmpb n d e=true):Cm n d e:=by
  unfold cmpb at hc
  split at hc
  · exact .int _ _
  · exact .bl _ _
  · exact .str _ _
  · exact .non
  · exact .lst fun hl=>by simpa [hl] using hc
  · rw [Bool.and_eq_true] at hc; exact .tup (of_decide_eq_true hc.1) hc.2
  · cases hc
theorem Is.v_int {H:Hp} {Z:Addr→Prop} {v:V} {a:Int} (i:Is K H Z v (.int a)):v=.int a:=by cases i; rfl
theorem Is.v_bl {H:Hp} {Z:Addr→Prop} {v:V} {a:Bool} (i:Is K H Z v (.bl a)):v=.bl a:=by cases i; rfl
theorem Is.v_str {H:Hp} {Z:Addr→Prop} {v:V} {a:Str} (i:Is K H Z v (.str a)):v=.str a:=by cases i; rfl
theorem Is.v_non {H:Hp} {Z:Addr→Prop} {v:V} (i:Is K H Z v .non):v=.non:=by cases i; rfl
theorem Is.v_lst {H:Hp} {Z:Addr→Prop} {v:V} {ds:List D} (i:Is K H Z v (.lst ds)):∃ a vs,v=.ref a∧¬ Z a∧Rd H a (.lst vs)∧vs.length≤sizeLine∧IsL K H Z vs ds:=by
  cases i with | lst hz h hl r=>exact ⟨_,_,rfl,hz,h,hl,r⟩
theorem Is.v_tup {H:Hp} {Z:Addr→Prop} {v:V} {ds:List D} (i:Is K H Z v (.tup ds)):∃ a vs,v=.ref a∧¬ Z a∧H a=some (.tup vs)∧vs.length≤sizeLine∧IsL K H Z vs ds:=by
  cases i with | tup hz h hl r=>exact ⟨_,_,rfl,hz,h,hl,r⟩
theorem Is.inj {H:Hp} {Z Z':Addr→Prop}:∀ (n:Nat) {v:V} {d e:D},cmpb n d e=true→Is K H Z v d→Is K H Z' v e→d=e:=by
  intro n
  induction n using Nat.strongRecOn with | ind n ih=>?_
  have lists:∀ {m:Nat},m<n→∀ {vs:List V} {ds es:List D},(List.zip ds es).all (fun p=>cmpb m p.1 p.2)=true→IsL K H Z vs ds→IsL K H Z' vs es→ds=es:=by
    intro m hm vs ds es hc r r'
    have l1:=r.length
    have l2:=r'.length
    refine List.ext_getElem (by omega) fun k h1 h2=>?_
    obtain ⟨v,e1,i1⟩:=r.get (List.getElem?_eq_getElem h1)
    obtain ⟨v',e2,i2⟩:=r'.get (List.getElem?_eq_getElem h2)
    rw [e1] at e2
    cases e2
    exact ih m hm (zip_at hc (List.getElem?_eq_getElem h1) (List.getElem?_eq_getElem h2)) i1 i2
  intro v d e hc i j
  cases cmpb_inv hc with
  | int=>have h:=i.v_int; rw [j.v_int] at h; cases h; rfl
  | bl=>have h:=i.v_bl; rw [j.v_bl] at h; cases h; rfl
  | str=>have h:=i.v_str; rw [j.v_str] at h; cases h; rfl
  | non=>rfl
  | lst h =>
    obtain ⟨p,xs,rfl,z1,h1,l1,g1⟩:=i.v_lst
    obtain ⟨q,ys,e,z2,h2,l2,g2⟩:=j.v_lst
    cases e
    have e:=rd_lst h1 h2
    subst e
    rw [lists (Nat.lt_succ_self _) (h (by have:=g1.length; have:=g2.length; omega)) g1 g2]
  | tup hl h =>
    obtain ⟨p,xs,rfl,z1,h1,l1,g1⟩:=i.v_tup
    obtain ⟨q,ys,e,z2,h2,l2,g2⟩:=j.v_tup
    cases e
    rw [h1] at h2
    cases h2
    rw [lists (Nat.lt_succ_self _) h g1 g2]
section
variable {X:Cx} {pins:List (Addr×Obj)} {σ:L2.St} {H:Hp} {s:Shared}
theorem dec_lst (xs ys:List D):decide (D.lst xs=D.lst ys)=decide (xs=ys):=by
  rw [Bool.eq_iff_iff,decide_eq_true_iff,decide_eq_true_iff]
  exact ⟨fun h=>D.lst.inj h,fun h=>by rw [h]⟩
theorem dec_tup (xs ys:List D):decide (D.tup xs=D.tup ys)=decide (xs=ys):=by
  rw [Bool.eq_iff_iff,decide_eq_true_iff,decide_eq_true_iff]
  exact ⟨fun h=>D.tup.inj h,fun h=>by rw [h]⟩
theorem dec_int (a b:Int):decide (D.int a=D.int b)=(a==b):=by
  rw [Bool.eq_iff_iff,decide_eq_true_iff,beq_iff_eq]
  exact ⟨fun h=>D.int.inj h,fun h=>by rw [h]⟩
theorem dec_bl (a b:Bool):decide (D.bl a=D.bl b)=(a==b):=by
  rw [Bool.eq_iff_iff,decide_eq_true_iff,beq_iff_eq]
  exact ⟨fun h=>D.bl.inj h,fun h=>by rw [h]⟩
theorem dec_str (a b:Str):decide (D.str a=D.str b)=(a==b):=by
  rw [Bool.eq_iff_iff,decide_eq_true_iff,beq_iff_eq]
  exact ⟨fun h=>D.str.inj h,fun h=>by rw [h]⟩
theorem rc_tups {A:Around} {l b:Addr} {us ws:List Value} {ns ms:List D} (p1:s.heap.IsTuple l us.toArray) (p2:s.heap.IsTuple b ws.toArray) (hl:us.length=ns.length) (hl2:ws.length=ms.length) (hs:ns.length=ms.length) (hu:A.units<cLine)
    (h:∀ (j:Nat) (u v:Value) (a b:D),us[j]?=some u→ws[j]?=some v→ns[j]?=some a→ms[j]?=some b→SeqAt.EqAt A.in1 s u v (decide (a=b))) :
    SeqAt.RcAt A s (.ref l) (.ref b) (decide (ns=ms)):=by
  have q:=SeqAt.RcAt.tuples (e:=fun j=>decide (ns.getD j default=ms.getD j default)) p1 p2 hu (eqAt_items hl hl2 h)
  have e:((List.range (min us.toArray.size ws.toArray.size)).all fun j=>decide (ns.getD j default=ms.getD j default))=decide (ns=ms):=by
    rw [List.size_toArray,List.size_toArray,hl,hl2,← hs,Nat.min_self]; exact range_all_eq default hs
  have e2:(us.toArray.size==ws.toArray.size)=true:=by simp; omega
  rw [e,e2,Bool.and_true] at q
  exact q
theorem rcNe_tups {A:Around} {l b:Addr} {us ws:List Value} {ns ms:List D} (p1:s.heap.IsTuple l us.toArray) (p2:s.heap.IsTuple b ws.toArray) (hl:us.length=ns.length) (hl2:ws.length=ms.length) (hs:ns.length=ms.length) (hu:A.units<cLine)
    (h:∀ (j:Nat) (u v:Value) (a b:D),us[j]?=some u→ws[j]?=some v→ns[j]?=some a→ms[j]?=some b→SeqAt.EqAt A.in1 s u v (decide (a=b))) :
    SeqAt.RcNeAt A s (.ref l) (.ref b) (!decide (ns=ms)):=by
  have q:=SeqAt.RcNeAt.tuples (e:=fun j=>decide (ns.getD j default=ms.getD j default)) p1 p2 hu (eqAt_items hl hl2 h)
  have e:((List.range (min us.toArray.size ws.toArray.size)).all fun j=>decide (ns.getD j default=ms.getD j default))=decide (ns=ms):=by
    rw [List.size_toArray,List.size_toArray,hl,hl2,← hs,Nat.min_self]; exact range_all_eq default hs
  have e2:(us.toArray.size==ws.toArray.size)=true:=by simp; omega
  rw [e,e2,Bool.and_true] at q
  exact q
theorem in1_units {A:Around}:A.in1.units=A.units+1:=rfl
theorem items_is {n:Nat} {A:Around} {xs ys:List V} {us ws:List Value} {ds es:List D} (hc:(List.zip ds es).all (fun p=>cmpb n p.1 p.2)=true) (r1:Vals xs us) (r2:Vals ys ws) (g1:IsL K H No xs ds) (g2:IsL K H No ys es)
    (ih:∀ {v w:V} {d e:D} {u x:Value},RelV v u→RelV w x→Is K H No v d→Is K H No w e→cmpb n d e=true→SeqAt.EqAt A s u x (decide (d=e))) :
    ∀ (j:Nat) (u v:Value) (a b:D),us[j]?=some u→ws[j]?=some v→ds[j]?=some a→es[j]?=some b→SeqAt.EqAt A s u v (decide (a=b)):=by
  intro j u v a b e1 e2 e3 e4
  obtain ⟨x,f1,i1⟩:=g1.get e3
  obtain ⟨y,f2,i2⟩:=g2.get e4
  obtain ⟨u',q1,k1⟩:=r1.get f1
  obtain ⟨v',q2,k2⟩:=r2.get f2
  rw [e1] at q1; cases q1
  rw [e2] at q2; cases q2
  exact ih k1 k2 i1 i2 (zip_at hc e3 e4)
theorem eqAt_is (I:Inv X pins σ H s):∀ (n:Nat) {A:Around},A.units+n<cLine→∀ {v w:V} {d e:D} {u x:Value},RelV v u→RelV w x→Is K H No v d→Is K H No w e→cmpb n d e=true→SeqAt.EqAt A s u x (decide (d=e)):=by
  intro n
  induction n using Nat.strongRecOn with | ind n ih=>?_
  intro A hu v w d e u x r1 r2 i1 i2 hc
  have hc0:=hc
  cases cmpb_inv hc with
  | int a b=>rw [i1.v_int] at r1; rw [i2.v_int] at r2; obtain ⟨t,rfl⟩:=r1; obtain ⟨t',rfl⟩:=r2; rw [dec_int]; exact SeqAt.EqAt.int_int a t b t'
  | bl a b=>rw [i1.v_bl] at r1; rw [i2.v_bl] at r2; cases r1; cases r2; rw [dec_bl]; exact SeqAt.EqAt.bool_bool a b
  | str a b=>rw [i1.v_str] at r1; rw [i2.v_str] at r2; obtain ⟨t,rfl⟩:=r1; obtain ⟨t',rfl⟩:=r2; rw [dec_str]; exact SeqAt.EqAt.str_str a t b t'
  | non=>rw [i1.v_non] at r1; rw [i2.v_non] at r2; cases r1; cases r2; rw [decide_eq_true rfl]; exact SeqAt.EqAt.same _
  | @lst n ds es h =>
    have j1:=i1
    have j2:=i2
    obtain ⟨p,xs,rfl,z1,h1,l1,g1⟩:=i1.v_lst
    obtain ⟨q,ys,rfl,z2,h2,l2,g2⟩:=i2.v_lst
    cases r1
    cases r2
    by_cases hpq:p=q
    · subst hpq
      rw [decide_eq_true (Is.inj _ hc0 j1 j2)]
      exact SeqAt.EqAt.same _
    · obtain ⟨_,us,m1,k1,n1,o1⟩:=I.lstR h1
      obtain ⟨_,ws,m2,k2,n2,o2⟩:=I.lstR h2
      rw [dec_lst]
      have e1:=g1.length
      have e2:=g2.length
      refine SeqAt.EqAt.of_refs hpq ?_
      by_cases hl:ds.length=es.length
      · exact rcAt_lists ⟨_,o1,rfl,_,rfl⟩ ⟨_,o2,rfl,_,rfl⟩ (by omega) (by omega) (by omega) (items_is (h hl) k1 k2 g1 g2 (ih n (Nat.lt_succ_self _) (by rw [in1_units]; omega)))
      · have q:=SeqAt.RcAt.lists_lengths (A:=A) (s:=s) (items:=us.toArray) (items2:=ws.toArray) ⟨_,o1,rfl,_,rfl⟩ ⟨_,o2,rfl,_,rfl⟩ (by simp; omega) (by omega)
        have e:decide (ds=es)=false:=decide_eq_false fun z=>hl (by rw [z])
        rw [e]
        exact q
  | @tup n ds es hl h =>
    have j1:=i1
    have j2:=i2
    obtain ⟨p,xs,rfl,z1,h1,l1,g1⟩:=i1.v_tup
    obtain ⟨q,ys,rfl,z2,h2,l2,g2⟩:=i2.v_tup
    cases r1
    cases r2
    by_cases hpq:p=q
    · subst hpq
      rw [decide_eq_true (Is.inj _ hc0 j1 j2)]
      exact SeqAt.EqAt.same _
    · obtain ⟨us,k1,o1,_⟩:=I.tuple (xs:=xs) (.inl (.inl h1))
      obtain ⟨ws,k2,o2,_⟩:=I.tuple (xs:=ys) (.inl (.inl h2))
      rw [dec_tup]
      have e1:=g1.length
      have e2:=g2.length
      have n1:=k1.length
      have n2:=k2.length
      exact SeqAt.EqAt.of_refs hpq (rc_tups o1 o2 (by omega) (by omega) hl (by omega) (items_is h k1 k2 g1 g2 (ih n (Nat.lt_succ_self _) (by rw [in1_units]; omega))))
def rEqD (K:PySem.W.Frag) (neg:Bool):R2:=fun x y H Q=>∃ d e,Is K H No x d∧Is K H No y e∧cmpb 20 d e=true∧Q (.bl (if neg=true then !decide (d=e) else decide (d=e))) H
theorem op_eqD (hu:X.A.units+64<cLine):OpR X (compareOp .Eq) (rEqD K false):=by
  intro pins s σ H x y v u Q I rx ry h
  obtain ⟨d,e,i1,i2,hc,h⟩:=h
  rw [if_neg Bool.false_ne_true] at h
  cases cmpb_inv hc with
  | int a b=>obtain rfl:=i1.v_int; obtain rfl:=i2.v_int; exact op_eq pins s σ H _ _ v u Q I rx ry ⟨rfl,by rw [show decide (V.int a=V.int b)=decide (D.int a=D.int b) from decide_eq_decide.mpr ⟨fun q=>by cases q; rfl,fun q=>by cases q; rfl⟩]; exact h⟩
  | bl a b=>obtain rfl:=i1.v_bl; obtain rfl:=i2.v_bl; exact op_eq pins s σ H _ _ v u Q I rx ry ⟨rfl,by rw [show decide (V.bl a=V.bl b)=decide (D.bl a=D.bl b) from decide_eq_decide.mpr ⟨fun q=>by cases q; rfl,fun q=>by cases q; rfl⟩]; exact h⟩
  | str a b=>obtain rfl:=i1.v_str; obtain rfl:=i2.v_str; exact op_eq pins s σ H _ _ v u Q I rx ry ⟨rfl,by rw [show decide (V.str a=V.str b)=decide (D.str a=D.str b) from decide_eq_decide.mpr ⟨fun q=>by cases q; rfl,fun q=>by cases q; rfl⟩]; exact h⟩
  | non=>obtain rfl:=i1.v_non; obtain rfl:=i2.v_non; exact op_eq pins s σ H _ _ v u Q I rx ry ⟨rfl,by rw [show decide (V.non=V.non)=decide (D.non=D.non) from decide_eq_decide.mpr ⟨fun q=>rfl,fun q=>rfl⟩]; exact h⟩
  | @lst n ds es hh =>
    obtain ⟨p,xs,rfl,z1,h1,l1,g1⟩:=i1.v_lst
    obtain ⟨q,ys,rfl,z2,h2,l2,g2⟩:=i2.v_lst
    cases rx
    cases ry
    obtain ⟨_,us,m1,k1,n1,o1⟩:=I.lstR h1
    obtain ⟨_,ws,m2,k2,n2,o2⟩:=I.lstR h2
    rw [dec_lst] at h
    have e1:=g1.length
    have e2:=g2.length
    by_cases hl:ds.length=es.length
    · exact rcAt_lists ⟨_,o1,rfl,_,rfl⟩ ⟨_,o2,rfl,_,rfl⟩ (by omega) (by omega) (by omega) (items_is (hh hl) k1 k2 g1 g2 (eqAt_is I 19 (by rw [in1_units]; omega))) X.prog X.w X.xe _ ⟨.bl _,H,I,rfl,h⟩
    · have q:=SeqAt.RcAt.lists_lengths (A:=X.A) (s:=s) (items:=us.toArray) (items2:=ws.toArray) ⟨_,o1,rfl,_,rfl⟩ ⟨_,o2,rfl,_,rfl⟩ (by simp; omega) (by omega)
      have e:decide (ds=es)=false:=decide_eq_false fun z=>hl (by rw [z])
      rw [e] at h
      exact q X.prog X.w X.xe _ ⟨.bl _,H,I,rfl,h⟩
  | @tup n ds es hl hh =>
    obtain ⟨p,xs,rfl,z1,h1,l1,g1⟩:=i1.v_tup
    obtain ⟨q,ys,rfl,z2,h2,l2,g2⟩:=i2.v_tup
    cases rx
    cases ry
    obtain ⟨us,k1,o1,_⟩:=I.tuple (xs:=xs) (.inl (.inl h1))
    obtain ⟨ws,k2,o2,_⟩:=I.tuple (xs:=ys) (.inl (.inl h2))
    rw [dec_tup] at h
    have e1:=g1.length
    have e2:=g2.length
    have n1:=k1.length
    have n2:=k2.length
    exact rc_tups o1 o2 (by omega) (by omega) hl (by omega) (items_is hh k1 k2 g1 g2 (eqAt_is I 19 (by rw [in1_units]; omega))) X.prog X.w X.xe _ ⟨.bl _,H,I,rfl,h⟩
theorem op_neD (hu:X.A.units+64<cLine):OpR X (compareOp .NotEq) (rEqD K true):=by
  intro pins s σ H x y v u Q I rx ry h
  obtain ⟨d,e,i1,i2,hc,h⟩:=h
  rw [if_pos rfl] at h
  cases cmpb_inv hc with
  | int a b=>obtain rfl:=i1.v_int; obtain rfl:=i2.v_int; exact op_ne pins s σ H _ _ v u Q I rx ry ⟨rfl,by rw [show decide (V.int a=V.int b)=decide (D.int a=D.int b) from decide_eq_decide.mpr ⟨fun q=>by cases q; rfl,fun q=>by cases q; rfl⟩]; exact h⟩
  | bl a b=>obtain rfl:=i1.v_bl; obtain rfl:=i2.v_bl; exact op_ne pins s σ H _ _ v u Q I rx ry ⟨rfl,by rw [show decide (V.bl a=V.bl b)=decide (D.bl a=D.bl b) from decide_eq_decide.mpr ⟨fun q=>by cases q; rfl,fun q=>by cases q; rfl⟩]; exact h⟩
  | str a b=>obtain rfl:=i1.v_str; obtain rfl:=i2.v_str; exact op_ne pins s σ H _ _ v u Q I rx ry ⟨rfl,by rw [show decide (V.str a=V.str b)=decide (D.str a=D.str b) from decide_eq_decide.mpr ⟨fun q=>by cases q; rfl,fun q=>by cases q; rfl⟩]; exact h⟩
  | non=>obtain rfl:=i1.v_non; obtain rfl:=i2.v_non; exact op_ne pins s σ H _ _ v u Q I rx ry ⟨rfl,by rw [show decide (V.non=V.non)=decide (D.non=D.non) from decide_eq_decide.mpr ⟨fun q=>rfl,fun q=>rfl⟩]; exact h⟩
  | @lst n ds es hh =>
    obtain ⟨p,xs,rfl,z1,h1,l1,g1⟩:=i1.v_lst
    obtain ⟨q,ys,rfl,z2,h2,l2,g2⟩:=i2.v_lst
    cases rx
    cases ry
    obtain ⟨_,us,m1,k1,n1,o1⟩:=I.lstR h1
    obtain ⟨_,ws,m2,k2,n2,o2⟩:=I.lstR h2
    rw [dec_lst] at h
    have e1:=g1.length
    have e2:=g2.length
    by_cases hl:ds.length=es.length
    · exact rcNeAt_lists ⟨_,o1,rfl,_,rfl⟩ ⟨_,o2,rfl,_,rfl⟩ (by omega) (by omega) (by omega) (items_is (hh hl) k1 k2 g1 g2 (eqAt_is I 19 (by rw [in1_units]; omega))) X.prog X.w X.xe _ ⟨.bl _,H,I,rfl,h⟩
    · have q:=SeqAt.RcNeAt.lists_lengths (A:=X.A) (s:=s) (items:=us.toArray) (items2:=ws.toArray) ⟨_,o1,rfl,_,rfl⟩ ⟨_,o2,rfl,_,rfl⟩ (by simp; omega) (by omega)
      have e:decide (ds=es)=false:=decide_eq_false fun z=>hl (by rw [z])
      rw [e] at h
      exact q X.prog X.w X.xe _ ⟨.bl _,H,I,rfl,h⟩
  | @tup n ds es hl hh =>
    obtain ⟨p,xs,rfl,z1,h1,l1,g1⟩:=i1.v_tup
    obtain ⟨q,ys,rfl,z2,h2,l2,g2⟩:=i2.v_tup
    cases rx
    cases ry
    obtain ⟨us,k1,o1,_⟩:=I.tuple (xs:=xs) (.inl (.inl h1))
    obtain ⟨ws,k2,o2,_⟩:=I.tuple (xs:=ys) (.inl (.inl h2))
    rw [dec_tup] at h
    have e1:=g1.length
    have e2:=g2.length
    have n1:=k1.length
    have n2:=k2.length
    exact rcNe_tups o1 o2 (by omega) (by omega) hl (by omega) (items_is hh k1 k2 g1 g2 (eqAt_is I 19 (by rw [in1_units]; omega))) X.prog X.w X.xe _ ⟨.bl _,H,I,rfl,h⟩
end
section
variable {ta tb:TE} {a b:DE}
noncomputable def dEq (neg:Bool) (a b:DE):DE:=fun ρ=>match a ρ with
  | some d=>(match b ρ with
    | some e=>if cmpb 20 d e=true then some (.bl (if neg=true then !decide (d=e) else decide (d=e))) else none
    | none=>none)
  | none=>none
theorem si_eq [Tabs] {neg:Bool} (ha:SemB K ta a) (hb:SemB K tb b):SemI K (tOp (rEqD K neg) ta tb) (dEq neg a b):=fun {B Z os ρ σ H Q d} f q k=>by
  unfold dEq at q
  split at q
  · rename_i x e1
    split at q
    · rename_i y e2
      by_cases c:cmpb 20 x y=true
      · rw [if_pos c] at q
        cases q
        exact ha f e1 fun v H1 s1 i1=>hb (f.grow s1) e2 fun u H2 s2 i2=>⟨x,y,i1.same s2,i2,c,k _ _ (s1.trans s2) (.bl _)⟩
      · rw [if_neg c] at q; cases q
    · cases q
  · cases q
end
end
end VL
namespace L2
open PySem PySem.Spec PyProof.Rows
section
variable {X:Cx}
noncomputable def gSeq (K:PySem.W.Frag) (n:Nat) (t:TGs):TG:=fun v σ H Q=>gTup K n t v σ H Q∨gLst K n t v σ H Q
theorem pg_seq {es:List Expr} {k:Nat} {t:TGs} {n:Nat} {pos:Pos} (hc:X.calm=true) (h:PGs X es t)
    (hn:(assignEach es X.env).length=n:=by rfl) (hst:(assignEach es X.env).findIdx? (·.1)=none:=by rfl):PG X (.Tuple es k pos) (gSeq X.K n t):=by
  intro pins s σ H v u Q I r hw
  rcases hw with hw | hw
  · exact pg_tup hc h hn hst pins s σ H v u Q I r hw
  · exact pg_lst hc h hn hst pins s σ H v u Q I r hw
theorem pg_seqK {K:PySem.W.Frag} {es:List Expr} {k:Nat} {t:TGs} {n:Nat} {pos:Pos} (hK:X.K=K) (hc:X.calm=true) (h:PGs X es t)
    (hn:(assignEach es X.env).length=n:=by rfl) (hst:(assignEach es X.env).findIdx? (·.1)=none:=by rfl):PG X (.Tuple es k pos) (gSeq K n t):=by
  subst hK
  exact pg_seq hc h hn hst
end
end L2
namespace VL
open PySem L2
open Classical
noncomputable section
variable [Tabs] {K:PySem.W.Frag}
def SemO' (K:PySem.W.Frag) (t:TE) (e:DE):Prop:=∀ {B:Hp} {Z:Addr→Prop} {os:Own} {ρ:Rho} {σ:L2.St} {H:Hp} {Q:VK} {d:D},Fr K B Z os ρ σ H→e ρ=some d→(∀ v H',Same H H'→Is K B No v d→Q v H')→t σ H Q
noncomputable def dVarO (i:Nat):DE:=fun ρ=>match ρ.getD i .un with
  | .bo d=>some d
  | _=>none
theorem so_var (i:Nat):SemO' K (tVar i) (dVarO i):=fun {B Z os ρ σ H Q d} f q k=>by
  have s:=f.sl i
  unfold dVarO at q
  cases e:ρ.getD i .un with
  | bo d' =>
    rw [e] at q s
    cases q
    obtain ⟨_,u,hu,i⟩:=s
    exact ⟨u,join_some hu,k u H (Same.refl _) i⟩
  | _=>rw [e] at q; cases q
def ER (K:PySem.W.Frag) (m:Bool) (Bx H:Hp) (T:Addr→Prop) (x:V) (d:D):Prop:=match m with
  | true=>Is K H T x d
  | false=>Is K Bx No x d
structure Walk (K:PySem.W.Frag) (m:Bool) (Bx:Hp) (J:It) (H1:Hp) (T:Addr→Prop) (ds:List D):Prop where
  len:ds.length≤sizeLine
  go:∀ (i:Nat) (d:D) (H2:Hp) (T2:Addr→Prop),Kp T H1 T2 H2→Same Bx H2→(∀ a,T2 a→∃ o,H2 a=some o)→ds[i]?=some d→J.go i H2∧∀ x H3,J.yld i H2 x H3→Same H2 H3∧ER K m Bx H3 T2 x d
  stop:∀ (i:Nat) (H2:Hp) (T2:Addr→Prop),Kp T H1 T2 H2→Same Bx H2→ds.length=i→J.stop i H2
def SemW (K:PySem.W.Frag) (m:Bool) (wi:TI) (e:Rho→Option (List D)):Prop:=∀ {B:Hp} {Z:Addr→Prop} {os:Own} {ρ:Rho} {σ:L2.St} {H:Hp} {R:It→Hp→Prop} {ds:List D},Fr K B Z os ρ σ H→e ρ=some ds→(∀ J H1,Same H H1→Walk K m B J H1 (tot Z os) ds→R J H1)→wi σ H R
def SemWC (K:PySem.W.Frag) (m:Bool) (wi:TI) (e:Rho→Option (List D)):Prop:=∀ {B:Hp} {Z:Addr→Prop} {os:Own} {ρ:Rho} {σ:L2.St} {H:Hp} {R:It→Hp→Prop} {ds:List D},Fr K B Z os ρ σ H→e ρ=some ds→(∀ J H1,Same H H1→Walk K m H1 J H1 (tot Z os) ds→R J H1)→wi σ H R
theorem SemW.c {wi:TI} {e:Rho→Option (List D)} (h:SemW K true wi e):SemWC K true wi e:=fun f q k=>h f q fun J H1 s w=>k J H1 s ⟨w.len,fun i d H2 T2 kp sm hd e=>w.go i d H2 T2 kp ((f.keep.trans s).trans sm) hd e,fun i H2 T2 kp sm hl=>w.stop i H2 T2 kp ((f.keep.trans s).trans sm) hl⟩
theorem Rd.same {H H':Hp} {a:Addr} {u:HO} (h:Rd H a u) (s:Same H H'):Rd H' a u:=by
  rcases h with h | ⟨o,h⟩
  · exact .inl (s _ _ h)
  · exact .inr ⟨o,s _ _ h⟩
theorem walk_list {m:Bool} {Bx H1:Hp} {T:Addr→Prop} {p:Addr} {vs:List V} {ds:List D} (hl:ds.length≤sizeLine) (hd0:∀ H2 T2,Kp T H1 T2 H2→Same Bx H2→SqL K H2 p vs) (hn:vs.length=ds.length)
    (hi:∀ H2 T2 (i:Nat) v d,Kp T H1 T2 H2→Same Bx H2→vs[i]?=some v→ds[i]?=some d→ER K m Bx H2 T2 v d):Walk K m Bx (Itl K p) H1 T ds:=by
  refine ⟨hl,fun i d H2 T2 kp sb hd e=>?_,fun i H2 T2 kp sb hi=>⟨vs,hd0 H2 T2 kp sb,by omega⟩⟩
  have hr2:=hd0 H2 T2 kp sb
  have hi':i<vs.length:=by rw [hn]; exact (List.getElem?_eq_some_iff.mp e).1
  have e1:vs[i]?=some vs[i]:=List.getElem?_eq_getElem hi'
  refine ⟨⟨vs,_,hr2,e1⟩,fun x H3 ⟨e3,hx⟩=>?_⟩
  subst e3
  have:=hx vs hr2
  rw [e1] at this
  cases this
  exact ⟨Same.refl _,hi _ T2 i _ d kp sb e1 e⟩
theorem sw_list {tl:TE} {a:DE} (ha:SemI K tl a):SemW K true (iList K tl) (asL a):=fun {B Z os ρ σ H R ds} f q k=>by
  obtain ⟨d,q,ed⟩:=asL_some q
  refine ha f q fun v H1 s1 i1=>?_
  obtain ⟨p,vs,rfl,hl,hn,hr⟩:=i1.seq ed
  refine ⟨p,rfl,⟨vs,(hr H1 _ Kp.refl).1⟩,k _ _ s1 (walk_list (vs:=vs) (by omega) (fun H2 T2 kp _=>(hr H2 T2 kp).1) hn fun H2 T2 i v d kp _ e1 e2=>?_)⟩
  obtain ⟨v',f1,i2⟩:=(hr H2 T2 kp).2.get e2
  rw [e1] at f1
  cases f1
  exact i2
theorem sw_listO {tl:TE} {a:DE} (ha:SemO' K tl a):SemW K false (iList K tl) (asL a):=fun {B Z os ρ σ H R ds} f q k=>by
  obtain ⟨d,q,ed⟩:=asL_some q
  refine ha f q fun v H1 s1 i1=>?_
  obtain ⟨p,vs,rfl,hl,hn,hr⟩:=i1.seq ed
  refine ⟨p,rfl,⟨vs,(hr H1 No (Kp.same (f.keep.trans s1))).1⟩,k _ _ s1 (walk_list (vs:=vs) (by omega) (fun H2 T2 kp sb=>(hr H2 No (Kp.same sb)).1) hn fun H2 T2 i v d kp sb e1 e2=>?_)⟩
  obtain ⟨v',f1,i2⟩:=(hr B No Kp.refl).2.get e2
  rw [e1] at f1
  cases f1
  exact i2
def upL (lo:Int) (n:Nat):List D:=(List.range n).map fun (i:Nat)=>.int (lo+(i:Int))
theorem upL_len {lo:Int} {n:Nat}:(upL lo n).length=n:=by unfold upL; rw [List.length_map,List.length_range]
theorem upL_get {lo:Int} {n i:Nat} {d:D} (h:(upL lo n)[i]?=some d):i<n∧d=.int (lo+i):=by
  unfold upL at h
  rw [List.getElem?_map] at h
  by_cases hi:i<n
  · rw [List.getElem?_range hi] at h; cases h; exact ⟨hi,rfl⟩
  · rw [List.getElem?_eq_none (by rw [List.length_range]; omega)] at h; cases h
theorem walk_range {m:Bool} {Bx H1:Hp} {T:Addr→Prop} {lo:Int} {n:Nat} (hn:n≤sizeLine):Walk K m Bx (Itr lo n) H1 T (upL lo n):=by
  refine ⟨by rw [upL_len]; exact hn,fun i d H2 T2 kp _ hd e=>?_,fun i H2 T2 kp _ hi=>by rw [upL_len] at hi; exact Nat.le_of_eq hi⟩
  obtain ⟨hi,rfl⟩:=upL_get e
  refine ⟨hi,fun x H3 ⟨e3,ex⟩=>?_⟩
  subst e3 ex
  cases m
  · exact ⟨Same.refl _,.int _⟩
  · exact ⟨Same.refl _,.int _⟩
noncomputable def dRg1 (a:DE):Rho→Option (List D):=fun ρ=>match a ρ with
  | some (.int j)=>if -(2 ^ 62)≤j∧j.toNat≤sizeLine then some (upL 0 j.toNat) else none
  | _=>none
noncomputable def dRg2 (a b:DE):Rho→Option (List D):=fun ρ=>match a ρ with
  | some (.int i)=>(match b ρ with
    | some (.int j)=>if -(2 ^ 62)≤i∧i<2 ^ 62∧-(2 ^ 62)≤j∧j<2 ^ 62∧(j-i).toNat≤sizeLine then some (upL i (j-i).toNat) else none
    | _=>none)
  | _=>none
theorem sw_range1 {ta:TE} {a:DE} (ha:SemB K ta a):SemW K true (iRng1 (tCons ta tNil)) (dRg1 a):=fun {B Z os ρ σ H R ds} f q k=>by
  unfold dRg1 at q
  split at q
  · rename_i j e
    by_cases c:-(2 ^ 62)≤j∧j.toNat≤sizeLine
    · rw [if_pos c] at q
      cases q
      have hs:sizeLine=16777216:=sizeLine_eq
      exact ha f e fun v H1 s1 i1=>⟨j,by rw [i1.isInt],c.1,by omega,k _ _ s1 (walk_range c.2)⟩
    · rw [if_neg c] at q; cases q
  · cases q
theorem sw_range2 {ta tb:TE} {a b:DE} (ha:SemB K ta a) (hb:SemB K tb b):SemW K true (iRng2 (tCons ta (tCons tb tNil))) (dRg2 a b):=fun {B Z os ρ σ H R ds} f q k=>by
  unfold dRg2 at q
  split at q
  · rename_i i e
    split at q
    · rename_i j e2
      by_cases c:-(2 ^ 62)≤i∧i<2 ^ 62∧-(2 ^ 62)≤j∧j<2 ^ 62∧(j-i).toNat≤sizeLine
      · rw [if_pos c] at q
        cases q
        exact ha f e fun v H1 s1 i1=>hb (f.grow s1) e2 fun u H2 s2 i2=>⟨i,j,by rw [i1.isInt,i2.isInt],⟨c.1,c.2.1,c.2.2.1,c.2.2.2.1⟩,k _ _ (s1.trans s2) (walk_range c.2.2.2.2)⟩
      · rw [if_neg c] at q; cases q
    · cases q
  · cases q
def enL (ds:List D):List D:=ds.mapIdx fun i d=>.tup [.int i,d]
theorem enL_get {ds:List D} {i:Nat} {d:D} (h:(enL ds)[i]?=some d):∃ e,ds[i]?=some e∧d=.tup [.int i,e]:=by
  unfold enL at h
  rw [List.getElem?_mapIdx] at h
  cases e:ds[i]? with
  | none=>rw [e] at h; cases h
  | some x=>rw [e] at h; cases h; exact ⟨x,rfl,rfl⟩
noncomputable def dEn (a:DE):Rho→Option (List D):=fun ρ=>match asL a ρ with
  | some ds=>some (enL ds)
  | none=>none
theorem walk_enum {Bx H1:Hp} {T:Addr→Prop} {p:Addr} {vs:List V} {ds:List D} (hl:ds.length≤sizeLine) (hd0:∀ H2 T2,Kp T H1 T2 H2→Same Bx H2→SqL K H2 p vs∧IsL K H2 T2 vs ds):Walk K true Bx (Ite K p) H1 T (enL ds):=by
  have hlen:(enL ds).length=ds.length:=by unfold enL; rw [List.length_mapIdx]
  refine ⟨by rw [hlen]; exact hl,fun i d H2 T2 kp sb hd e=>?_,fun i H2 T2 kp sb hi=>?_⟩
  · obtain ⟨x,ex,rfl⟩:=enL_get e
    obtain ⟨hr2,r2⟩:=hd0 H2 T2 kp sb
    obtain ⟨v,e1,i2⟩:=r2.get ex
    refine ⟨⟨vs,v,hr2,e1⟩,fun y H3 hy=>?_⟩
    obtain ⟨t,w,ey,nt,hw,e3⟩:=hy
    subst e3 ey
    have:=hw vs hr2
    rw [e1] at this
    cases this
    refine ⟨same_new nt,show Is K _ T2 (.ref t) (.tup [.int i,x]) from .tup (fun z=>?_) upd_same (by show 2≤sizeLine; decide) ((IsL.cons (.int _) (.one i2)).same (same_new nt))⟩
    obtain ⟨o,q⟩:=hd t z
    rw [nt] at q; cases q
  · obtain ⟨hr2,r2⟩:=hd0 H2 T2 kp sb
    exact ⟨vs,hr2,by rw [r2.length,← hlen]; exact Nat.le_of_eq hi⟩
theorem dEn_some {a:DE} {ρ:Rho} {ds:List D} (h:dEn a ρ=some ds):∃ es,asL a ρ=some es∧ds=enL es:=by
  unfold dEn at h
  split at h
  · rename_i es e; exact ⟨es,e,(Option.some.inj h).symm⟩
  · cases h
theorem sw_enum {tl:TE} {a:DE} (ha:SemI K tl a):SemW K true (iEnum K tl) (dEn a):=fun {B Z os ρ σ H R ds} f q k=>by
  obtain ⟨es,e,rfl⟩:=dEn_some q
  obtain ⟨d,e,ed⟩:=asL_some e
  refine ha f e fun v H1 s1 i1=>?_
  obtain ⟨p,vs,rfl,hl,hn,hr⟩:=i1.seq ed
  exact ⟨p,rfl,⟨vs,(hr H1 _ Kp.refl).1⟩,k _ _ s1 (walk_enum (by omega) fun H2 T2 kp _=>hr H2 T2 kp)⟩
abbrev DG:=D→Rho→Option Rho
abbrev DGs:=List D→Rho→Option Rho
def SemG (K:PySem.W.Frag) (m:Bool) (g:TG) (e:DG):Prop:=∀ {B:Hp} {Z:Addr→Prop} {os:Own} {ρ:Rho} {σ:L2.St} {H:Hp} {Q:L2.St→Hp→Prop} {v:V} {d:D} {ρ':Rho},Fr K B Z os ρ σ H→ER K m B H (tot Z os) v d→e d ρ=some ρ' →
  (∀ os' σ',Fr K B Z os' ρ' σ' H→Kp (tot Z os) H (tot Z os') H→Q σ' H)→g v σ H Q
def ERL (K:PySem.W.Frag) (m:Bool) (Bx H:Hp) (T:Addr→Prop) (vs:List V) (ds:List D):Prop:=match m with
  | true=>IsL K H T vs ds
  | false=>IsL K Bx No vs ds
def SemGs (K:PySem.W.Frag) (m:Bool) (g:TGs) (e:DGs):Prop:=∀ {B:Hp} {Z:Addr→Prop} {os:Own} {ρ:Rho} {σ:L2.St} {H:Hp} {Q:L2.St→Hp→Prop} {vs:List V} {ds:List D} {ρ':Rho},Fr K B Z os ρ σ H→ERL K m B H (tot Z os) vs ds→e ds ρ=some ρ' →
  (∀ os' σ',Fr K B Z os' ρ' σ' H→Kp (tot Z os) H (tot Z os') H→Q σ' H)→g vs σ H Q
def slm (m:Bool) (d:D):Sl:=match m with
  | true=>.pu d
  | false=>.bo d
noncomputable def gN (m:Bool) (i:Nat):DG:=fun d ρ=>some (ρ.set i (slm m d))
theorem Fr.putm {B H:Hp} {Z:Addr→Prop} {os:Own} {ρ:Rho} {σ:L2.St} (f:Fr K B Z os ρ σ H) {m:Bool} (i:Nat) {v:V} {d:D} (h:ER K m B H (tot Z os) v d) :
    ∃ os',Fr K B Z os' (ρ.set i (slm m d)) (σ.set i (some v)) H∧Kp (tot Z os) H (tot Z os') H:=by
  by_cases hi:i < ρ.length
  · cases m with
    | true=>exact ⟨_,f.put hi h⟩
    | false=>exact ⟨_,f.step (s:=.bo d) (v:=some v) hi (fun a u e _=>e) (fun a ha=>let ⟨xs,e⟩:=(f.sl i).dom ha; ⟨_,e⟩) List.nodup_nil (fun a h=>by cases h) ⟨rfl,v,rfl,h⟩⟩
  · have e1:ρ.set i (slm m d)=ρ:=List.set_eq_of_length_le (by omega)
    have e2:σ.set i (some v)=σ:=List.set_eq_of_length_le (by rw [f.len]; omega)
    rw [e1,e2]
    exact ⟨os,f,Kp.refl⟩
theorem sg_name {m:Bool} (i:Nat):SemG K m (gName i) (gN m i):=fun {B Z os ρ σ H Q v d ρ'} f h q k=>by
  cases q
  obtain ⟨os',f',kp⟩:=f.putm i h
  exact k os' _ f' kp
def gsNil:DGs:=fun ds ρ=>match ds with
  | []=>some ρ
  | _=>none
def gsCons (e:DG) (r:DGs):DGs:=fun ds ρ=>match ds with
  | d::t=>(match e d ρ with
    | some ρ'=>r t ρ'
    | none=>none)
  | []=>none
theorem sgs_nil {m:Bool}:SemGs K m gNil gsNil:=fun {B Z os ρ σ H Q vs ds ρ'} f h q k=>by
  cases ds with
  | nil =>
    cases q
    have e:vs=[]:=by cases m <;> cases h <;> rfl
    exact ⟨e,k os σ f Kp.refl⟩
  | cons d t=>cases q
theorem sgs_cons {m:Bool} {g:TG} {u:TGs} {e:DG} {r:DGs} (hg:SemG K m g e) (hr:SemGs K m u r):SemGs K m (gCons g u) (gsCons e r):=fun {B Z os ρ σ H Q vs ds ρ'} f h q k=>by
  cases ds with
  | nil=>cases q
  | cons d t =>
    have q:(match e d ρ with | some ρ'=>r t ρ' | none=>none)=some ρ':=q
    split at q
    · rename_i ρ1 e1
      obtain ⟨v,vt,rfl,h1,h2⟩:∃ v vt,vs=v::vt∧ER K m B H (tot Z os) v d∧ERL K m B H (tot Z os) vt t:=by
        cases m with
        | true=>cases h with | cons a b=>exact ⟨_,_,rfl,a,b⟩
        | false=>cases h with | cons a b=>exact ⟨_,_,rfl,a,b⟩
      refine ⟨v,vt,rfl,hg f h1 e1 fun os1 σ1 f1 k1=>hr f1 ?_ q fun os2 σ2 f2 k2=>k os2 σ2 f2 (k1.trans k2)⟩
      cases m with
      | true=>exact IsL.kp k1 h2
      | false=>exact h2
    · cases q
noncomputable def gUn (n:Nat) (r:DGs):DG:=fun d ρ=>match d with
  | .tup ds=>if ds.length=n then r ds ρ else none
  | .lst ds=>if ds.length=n then r ds ρ else none
  | _=>none
theorem sg_un {m:Bool} {n:Nat} {u:TGs} {r:DGs} (hr:SemGs K m u r):SemG K m (gSeq K n u) (gUn n r):=fun {B Z os ρ σ H Q v d ρ'} f h q k=>by
  cases d with
  | tup ds =>
    have q:(if ds.length=n then r ds ρ else none)=some ρ':=q
    by_cases c:ds.length=n
    · rw [if_pos c] at q
      cases m with
      | true =>
        obtain ⟨p,vs,rfl,hz,hr',hl,g⟩:=Is.isTup h
        exact .inl ⟨p,vs,rfl,.inl (.inl hr'),by rw [g.length]; exact c,hr f g q k⟩
      | false =>
        obtain ⟨p,vs,rfl,hz,hr',hl,g⟩:=Is.isTup h
        exact .inl ⟨p,vs,rfl,.inl (.inl (f.keep _ _ hr')),by rw [g.length]; exact c,hr f g q k⟩
    · rw [if_neg c] at q; cases q
  | lst ds =>
    have q:(if ds.length=n then r ds ρ else none)=some ρ':=q
    by_cases c:ds.length=n
    · rw [if_pos c] at q
      cases m with
      | true =>
        obtain ⟨p,vs,rfl,hz,hr',hl,g⟩:=Is.isLst h
        exact .inr ⟨p,vs,rfl,.inl hr',by rw [g.length]; exact c,hr f g q k⟩
      | false =>
        obtain ⟨p,vs,rfl,hz,hr',hl,g⟩:=Is.isLst h
        exact .inr ⟨p,vs,rfl,.inl (Rd.same hr' f.keep),by rw [g.length]; exact c,hr f g q k⟩
    · rw [if_neg c] at q; cases q
  | _=>cases q
theorem Fr.tin {B H:Hp} {Z:Addr→Prop} {os:Own} {ρ:Rho} {σ:L2.St} (f:Fr K B Z os ρ σ H):∀ a,tot Z os a→∃ o,H a=some o:=by
  rintro a (z | ⟨i,z⟩)
  · exact f.zin a z
  · obtain ⟨xs,e⟩:=(f.sl i).dom z
    exact ⟨_,e⟩
theorem Fr.zt {B H:Hp} {Z:Addr→Prop} {os:Own} {ρ:Rho} {σ:L2.St} (f:Fr K B Z os ρ σ H):ZT (tot Z os) H:=⟨f.tin,f.tabH⟩
def view:Sl→Sl
  | .pu d=>.pu d
  | .bo d=>.bo d
  | .ol ds=>.bo (.lst ds)
  | .om rows=>.bo (.lst (rows.map D.lst))
  | .un=>.un
def r0 (k:Nat) (cs:List Nat) (ρ:Rho):Rho:=List.replicate k .un++cs.map fun i=>view (ρ.getD i .un)
def s0 (k:Nat) (cs:List Nat) (σ:L2.St):L2.St:=List.replicate k none++cs.map fun i=>(σ[i]?).join
theorem blockFr {B H1 H:Hp} {Z:Addr→Prop} {os:Own} {ρ:Rho} {σ:L2.St} {Dl:Addr} {o:HO} (f:Fr K B Z os ρ σ H1) (hD:H1 Dl=none) (s:Same H1 H) (hd:H Dl=some o) (k:Nat) (cs:List Nat) :
    Fr K H1 (fun a=>a=Dl∨tot Z os a) (fun _=>[]) (r0 k cs ρ) (s0 k cs σ) H where
  keep:=s
  zin:=fun a z=>by
    rcases z with rfl | z
    · exact ⟨o,hd⟩
    · obtain ⟨u,e⟩:=f.tin a z
      exact ⟨u,s _ _ e⟩
  len:=by unfold r0 s0; simp
  nd:=fun _=>List.nodup_nil
  dj:=fun _ _ _ h=>by cases h
  tab:=f.tabH
  new:=fun _ _ h=>by cases h
  sl:=fun j=>by
    have kp:Kp (tot Z os) H1 (tot (fun a=>a=Dl∨tot Z os a) fun _=>[]) H:=fun a u e z=>by
      refine ⟨s _ _ e,?_⟩
      rintro ((rfl | q) | ⟨_,q⟩)
      · rw [hD] at e; cases e
      · exact z q
      · cases q
    unfold r0 s0
    rw [List.getD_eq_getElem?_getD]
    by_cases hj:j<k
    · rw [List.getElem?_append_left (by simpa using hj),List.getElem?_append_left (by simpa using hj),List.getElem?_replicate,if_pos hj]
      exact rfl
    · rw [List.getElem?_append_right (by simpa using hj),List.getElem?_append_right (by simpa using hj),List.length_replicate,List.length_replicate,List.getElem?_map,List.getElem?_map]
      cases e:cs[j-k]? with
      | none=>exact rfl
      | some i =>
        have h:=f.sl i
        show SlOk K _ _ _ _ (view (ρ.getD i .un)) ((σ[i]?).join)
        cases e2:ρ.getD i .un with
        | un=>exact rfl
        | pu d =>
          rw [e2] at h
          obtain ⟨_,u,hu,i1⟩:=h
          exact ⟨rfl,u,hu,i1.kp kp⟩
        | bo d =>
          rw [e2] at h
          obtain ⟨_,u,hu,i1⟩:=h
          exact ⟨rfl,u,hu,i1.same f.keep⟩
        | ol ds =>
          rw [e2] at h
          obtain ⟨a,vs,_,hu,hH,hl,i1⟩:=h
          exact ⟨rfl,_,hu,.lst (fun z=>z) (.inl hH) hl i1.all⟩
        | om rows =>
          rw [e2] at h
          obtain ⟨a,ps,_,hu,hH,hl,i1⟩:=h
          exact ⟨rfl,_,hu,.lst (fun z=>z) (.inl hH) (by rw [List.length_map]; exact hl) (rows_is i1)⟩
def compGo (g:DG) (t:Rho→Option Bool) (e:DE) (ρ0:Rho):List D→Option (List D)
  | []=>some []
  | d::ds=>match g d ρ0 with
    | none=>none
    | some ρ1=>match t ρ1 with
      | none=>none
      | some false=>compGo g t e ρ0 ds
      | some true=>match e ρ1 with
        | none=>none
        | some y=>match compGo g t e ρ0 ds with
          | none=>none
          | some ys=>some (y::ys)
noncomputable def dComp (k:Nat) (cs:List Nat) (it:Rho→Option (List D)) (g:DG) (t:Rho→Option Bool) (e:DE):Rho→Option (List D):=fun ρ=>match it ρ with
  | some ds=>compGo g t e (r0 k cs ρ) ds
  | none=>none
theorem sf_comp {m:Bool} {k:Nat} {cs:List Nat} {wi:TI} {g:TG} {tt:TT} {te:TE} {it:Rho→Option (List D)} {gd:DG} {td:Rho→Option Bool} {ed:DE} (hw:SemWC K m wi it) (hg:SemG K m g gd) (ht:SemT K tt td) (he:SemI K te ed) :
    SemF K (tComp wi g tt te (s0 k cs)) (dComp k cs it gd td ed):=fun {B Z os ρ σ H Q ds} f q kk=>by
  unfold dComp at q
  split at q
  · rename_i xs e0
    refine hw f e0 fun J H1 s1 W Dl hD=>?_
    have f1:=f.grow s1
    have sD:∀ {H2:Hp} {ys:List V},Same H1 H2→Same H1 (upd H2 Dl (.lst ys)):=fun {H2 ys} s a o e=>by
      rw [upd_ne (ne_of_none e hD)]; exact s _ _ e
    refine ⟨fun i m ys H2=>m=xs.length-i∧i≤xs.length∧Same H1 H2∧H2 Dl=some (.lst ys)∧ys.length≤i∧∃ done rest,IsL K H2 (fun a=>a=Dl∨tot Z os a) ys done∧compGo gd td ed (r0 k cs ρ) (xs.drop i)=some rest∧done++rest=ds,
      ⟨_,rfl,Nat.zero_le _,sD (Same.refl _),upd_same,Nat.le_refl _,[],ds,.nil,q,rfl⟩,?_⟩
    rintro i mm ys H2 ⟨rfl,hi,s2,eD,hly,done,rest,il,q2,ed2⟩
    have kp12:Kp (tot Z os) H1 (fun a=>a=Dl∨tot Z os a) H2:=fun a u e z=>⟨s2 _ _ e,fun w=>w.elim (ne_of_none e hD) z⟩
    by_cases hlt:i<xs.length
    · have ex:xs[i]?=some xs[i]:=List.getElem?_eq_getElem hlt
      have ef:=blockFr f1 hD s2 eD k cs
      obtain ⟨go,yl⟩:=W.go i xs[i] H2 _ kp12 s2 (fun a z=>ef.zin a z) ex
      refine .inr ⟨go,fun x H3 hy=>?_⟩
      obtain ⟨s3,er⟩:=yl x H3 hy
      have eD3:=s3 _ _ eD
      have s13:=s2.trans s3
      have ef3:=blockFr f1 hD s13 eD3 k cs
      rw [List.drop_eq_getElem_cons hlt] at q2
      unfold compGo at q2
      have er':ER K m H1 H3 (tot (fun a=>a=Dl∨tot Z os a) fun _=>[]) x xs[i]:=by
        cases m with
        | false=>exact er
        | true=>exact Is.kp (Kp.less fun a z=>z.elim id fun ⟨_,w⟩=>by cases w) er
      split at q2
      · cases q2
      · rename_i ρ1 e1
        refine hg ef3 er' e1 fun os1 σ1 fr1 k1=>?_
        split at q2
        · cases q2
        · rename_i e2
          refine ht fr1 e2 fun H4 s4=>iteF ⟨_,by omega,rfl,hlt,s13.trans s4,s4 _ _ eD3,by omega,done,rest,(il.same s3).same s4,q2,ed2⟩
        · rename_i e2
          refine ht fr1 e2 fun H4 s4=>iteT ?_
          split at q2
          · cases q2
          · rename_i y e3
            split at q2
            · cases q2
            · rename_i rs e4
              cases q2
              refine he (fr1.grow s4) e3 fun v H5 s5 i5=>?_
              have s35:=s4.trans s5
              have eD5:=s35 _ _ eD3
              have hl:=W.len
              have kp5:∀ (zs:List V),Kp (fun a=>a=Dl∨tot Z os a) H5 (fun a=>a=Dl∨tot Z os a) (upd H5 Dl (.lst zs)):=fun zs a u e z=>⟨by rw [upd_ne (fun w=>z (.inl w))]; exact e,z⟩
              have i5':Is K H5 (fun a=>a=Dl∨tot Z os a) v y:=i5.kp (Kp.less fun a z=>.inl z)
              refine ⟨eD5,by omega,_,by omega,rfl,hlt,sD (s13.trans s35),upd_same,by rw [List.length_append,List.length_singleton]; omega,done++[y],rs,?_,e4,by rw [List.append_assoc]; exact ed2⟩
              exact ((il.same s3).same s35 |>.kp (kp5 _)).append (.one (i5'.kp (kp5 _)))
    · have e:i=xs.length:=by omega
      subst e
      rw [List.drop_length] at q2
      cases q2
      rw [List.append_nil] at ed2
      subst ed2
      have hl:=W.len
      exact .inl ⟨W.stop _ H2 _ kp12 s2 rfl,eD,kk Dl ys H2 (s1.trans s2) (Same.free s1 hD) eD (by omega) il⟩
  · cases q
inductive Fm where
  | v | l | m | x (E:XK) (C:Addr)
def RtOk (fr:Fm) (K:PySem.W.Frag) (B H:Hp) (Z:Addr→Prop) (v:V) (d:D):Prop:=match fr with
  | .v=>Is K H Z v d
  | .l=>∃ p vs ds,v=.ref p∧d=.lst ds∧B p=none∧H p=some (.lst vs)∧vs.length≤sizeLine∧IsL K H (fun a=>a=p∨Z a) vs ds
  | .m=>∃ p ps rows,v=.ref p∧d=.lst (rows.map D.lst)∧B p=none∧(∀ a∈ps,B a=none)∧(p::ps).Nodup∧H p=some (.lst (ps.map V.ref))∧ps.length≤sizeLine∧Paired (fun q ds=>∃ vs,H q=some (.lst vs)∧vs.length≤sizeLine∧IsL K H (fun a=>(a=p∨a∈ps)∨Z a) vs ds) ps rows
  | .x _ _=>Is K H Z v d
theorem rows_isZ {H:Hp} {Z T:Addr→Prop} (hT:∀ a,Z a→T a):∀ {ps:List Addr} {rows:List (List D)},(∀ p∈ps,¬ Z p)→Paired (fun p ds=>∃ vs,H p=some (.lst vs)∧vs.length≤sizeLine∧IsL K H T vs ds) ps rows→IsL K H Z (ps.map V.ref) (rows.map D.lst)
  | _,_,_,.nil=>.nil
  | _,_,hz,.cons ⟨vs,h,hl,r⟩ t=>.cons (.lst (hz _ List.mem_cons_self) (.inl h) hl (r.kp (Kp.less hT))) (rows_isZ hT (fun p hp=>hz p (List.mem_cons_of_mem _ hp)) t)
theorem RtOk.is {fr:Fm} {B H:Hp} {Z:Addr→Prop} {v:V} {d:D} (hz:∀ a,Z a→∃ o,B a=some o) (h:RtOk fr K B H Z v d):Is K H Z v d:=by
  have nz:∀ {p:Addr},B p=none→¬ Z p:=fun {p} e z=>by obtain ⟨o,q⟩:=hz p z; rw [e] at q; cases q
  cases fr with
  | v=>exact h
  | x E C=>exact h
  | l =>
    obtain ⟨p,vs,ds,rfl,rfl,hb,hh,hl,r⟩:=h
    exact .lst (nz hb) (.inl hh) hl (r.kp (Kp.less fun a z=>.inr z))
  | m =>
    obtain ⟨p,ps,rows,rfl,rfl,hb,hbs,_,hh,hl,r⟩:=h
    exact .lst (nz hb) (.inl hh) (by rw [List.length_map]; exact hl) (rows_isZ (fun a z=>.inr z) (fun q hq=>nz (hbs q hq)) r)
def spD (fr:Fm) (K:PySem.W.Frag) (ms:List Bool) (F:List D→Option D):Sp:=fun vs H Q _=>∃ (Z:Addr→Prop) (ds:List D) (d:D),ZT Z H∧Args K H Z ms vs ds∧F ds=some d∧∀ v H',Same H H'→RtOk fr K H H' Z v d→Q v H'
noncomputable def dCall (F:List D→Option D) (es:Rho→Option (List D)):DE:=fun ρ=>match es ρ with
  | some ds=>F ds
  | none=>none
theorem si_call {fr:Fm} {ms:List Bool} {F:List D→Option D} {t:TA} {es:Rho→Option (List D)} {E:XK} (ha:SemA K ms t es):SemI K (tCall (spD fr K ms F) [] E t) (dCall F es):=fun {B Z os ρ σ H Q d} f q k=>by
  unfold dCall at q
  split at q
  · rename_i ds e
    refine ha f e fun vs H1 s1 a=>?_
    show spD fr K ms F (vs++[]) H1 Q E
    rw [List.append_nil]
    exact ⟨tot Z os,ds,d,(f.grow s1).zt,a,q,fun v H2 s2 i=>k v H2 (s1.trans s2) (i.is (f.grow s1).tin)⟩
  · cases q
end
end VL
namespace L2
open PySem PySem.Spec PyProof.Rows
section
variable {X:Cx}
theorem get_list:PGet X (rIxL X.K):=by
  intro pins s σ H x y v u Q I rx ry h
  obtain ⟨p,xs,i,z,rfl,rfl,hq,he,q⟩:=h
  cases rx
  obtain ⟨t,rfl⟩:=ry
  obtain ⟨its,r,pl,hz⟩:=I.list hq
  obtain ⟨j,h1,h2,h3,h4,h5⟩:=atI_get he
  obtain ⟨w,ew,rw'⟩:=r.get h2
  have hl:=r.length
  have hn:=line63
  have fin:EP X pins σ Q w s:=⟨z,H,I,rw',q⟩
  by_cases h0:0≤i
  · have hj:i.toNat=j:=by
      rw [seqIndex_of h0 h5] at h1
      exact Option.some.inj h1
    exact wpAny_getItem_list pl.isList h0 (by omega) (by rw [hj]; simpa using ew) fin
  · have hj:(i+(its.toArray.size:Int)).toNat=j:=by
      rw [seqIndex_neg (by omega) h4] at h1
      rw [List.size_toArray,← hl]
      exact Option.some.inj h1
    exact wpAny_getItem_list_neg pl.isList (by omega) (by rw [List.size_toArray] <;> omega) (by omega) (by rw [hj]; simpa using ew) fin
theorem get_listK {K:PySem.W.Frag} (h:X.K=K):PGet X (rIxL K):=by subst h; exact get_list
end
end L2
namespace VL
open PySem L2
open Classical
noncomputable section
variable [Tabs] {K:PySem.W.Frag}
inductive Res where
  | nx (ρ:Rho) | rt (d:D) | bk (ρ:Rho) | ct (ρ:Rho) | no
variable {fr:Fm}
abbrev DS:=Rho→Res
def Post (fr:Fm) (K:PySem.W.Frag) (B:Hp) (Z:Addr→Prop) (os:Own) (H:Hp) (E:Ends):Res→Prop
  | .nx ρ'=>∀ os' σ' H',Fr K B Z os' ρ' σ' H'→Kp (tot Z os) H (tot Z os') H'→E.nx σ' H'
  | .bk ρ'=>∀ os' σ' H',Fr K B Z os' ρ' σ' H'→Kp (tot Z os) H (tot Z os') H'→E.bk σ' H'
  | .ct ρ'=>∀ os' σ' H',Fr K B Z os' ρ' σ' H'→Kp (tot Z os) H (tot Z os') H'→E.ct σ' H'
  | .rt d=>match fr with
    | .x E0 C=>∀ H',Same B H'→E0 (.ref C) none H'
    | fr=>∀ v H',Same B H'→RtOk fr K B H' Z v d→E.rt v H'
  | .no=>False
def SemS (fr:Fm) (K:PySem.W.Frag) (t:TS) (s:DS):Prop:=∀ {B:Hp} {Z:Addr→Prop} {os:Own} {ρ:Rho} {σ:L2.St} {H:Hp} {E:Ends},Fr K B Z os ρ σ H→Post fr K B Z os H E (s ρ)→t E σ H
theorem Post.kp {B:Hp} {Z:Addr→Prop} {os os1:Own} {H H1:Hp} {E:Ends} {r:Res} (k:Kp (tot Z os) H (tot Z os1) H1) (p:Post fr K B Z os H E r):Post fr K B Z os1 H1 E r:=by
  cases r with
  | nx ρ'=>exact fun os' σ' H' f k'=>p os' σ' H' f (k.trans k')
  | bk ρ'=>exact fun os' σ' H' f k'=>p os' σ' H' f (k.trans k')
  | ct ρ'=>exact fun os' σ' H' f k'=>p os' σ' H' f (k.trans k')
  | rt d=>exact p
  | no=>exact p
@[irreducible] noncomputable def sPass:DS:=fun ρ=>.nx ρ
theorem ss_pass:SemS fr K tNext sPass:=fun f p=>by unfold sPass at p; exact p _ _ _ f Kp.refl
@[irreducible] noncomputable def sCnt:DS:=fun ρ=>.ct ρ
theorem ss_cont:SemS fr K tCont sCnt:=fun f p=>by unfold sCnt at p; exact p _ _ _ f Kp.refl
@[irreducible] noncomputable def sSeq (s u:DS):DS:=fun ρ=>match s ρ with
  | .nx ρ'=>u ρ'
  | r=>r
theorem ss_seq {t u:TS} {s w:DS} (h1:SemS fr K t s) (h2:SemS fr K u w):SemS fr K (tSeq t u) (sSeq s w):=fun {B Z os ρ σ H E} f p=>by
  refine h1 f ?_
  unfold sSeq at p
  cases e:s ρ with
  | nx ρ'=>rw [e] at p; exact fun os' σ' H' f' k=>h2 f' (p.kp k)
  | bk ρ'=>rw [e] at p; exact p
  | ct ρ'=>rw [e] at p; exact p
  | rt d=>rw [e] at p; exact p
  | no=>rw [e] at p; exact p
@[irreducible] noncomputable def sRet (a:DE):DS:=fun ρ=>match a ρ with
  | some d=>.rt d
  | none=>.no
theorem ss_ret {ta:TE} {a:DE} (h:SemI K ta a):SemS .v K (tRet ta) (sRet a):=fun {B Z os ρ σ H E} f p=>by
  unfold sRet at p
  cases e:a ρ with
  | none=>rw [e] at p; exact p.elim
  | some d=>rw [e] at p; exact h f e fun v H1 s1 i1=>p v H1 (f.keep.trans s1) (i1.kp (Kp.less fun a z=>.inl z))
@[irreducible] noncomputable def sIf (c:Rho→Option Bool) (s u:DS):DS:=fun ρ=>match c ρ with
  | some true=>s ρ
  | some false=>u ρ
  | none=>.no
theorem ss_if {tc:TT} {t u:TS} {c:Rho→Option Bool} {s w:DS} (hc:SemT K tc c) (h1:SemS fr K t s) (h2:SemS fr K u w):SemS fr K (tIfS tc t u) (sIf c s w):=fun {B Z os ρ σ H E} f p=>by
  unfold sIf at p
  split at p
  · rename_i e
    exact hc f e fun H1 s1=>iteT (h1 (f.grow s1) (p.kp (Kp.same s1)))
  · rename_i e
    exact hc f e fun H1 s1=>iteF (h2 (f.grow s1) (p.kp (Kp.same s1)))
  · exact p.elim
@[irreducible] noncomputable def sSet (i:Nat) (a:DE):DS:=fun ρ=>match a ρ with
  | some d=>.nx (ρ.set i (.pu d))
  | none=>.no
theorem ss_set {i:Nat} {ta:TE} {a:DE} (h:SemI K ta a):SemS fr K (tAsg ta (gName i)) (sSet i a):=fun {B Z os ρ σ H E} f p=>by
  unfold sSet at p
  cases e:a ρ with
  | none=>rw [e] at p; exact p.elim
  | some d =>
    rw [e] at p
    refine h f e fun v H1 s1 i1=>?_
    obtain ⟨os',f',k⟩:=(f.grow s1).putm (m:=true) i i1
    exact p os' _ _ f' ((Kp.same s1).trans k)
theorem ss_setC {i:Nat} {ta:TE} {a:DE} (h:SemI K ta a):SemS fr K (tSetC ta i) (sSet i a):=ss_set (i:=i) h
@[irreducible] noncomputable def sSetO (i:Nat) (a:Rho→Option (List D)):DS:=fun ρ=>match a ρ with
  | some ds=>if i < ρ.length then .nx (ρ.set i (.ol ds)) else .no
  | none=>.no
theorem ss_setO {i:Nat} {ta:TE} {a:Rho→Option (List D)} (h:SemF K ta a):SemS fr K (tAsg ta (gName i)) (sSetO i a):=fun {B Z os ρ σ H E} f p=>by
  unfold sSetO at p
  split at p
  · rename_i ds e
    by_cases hi:i < ρ.length
    · rw [if_pos hi] at p
      refine h f e fun x vs H1 s1 hx hx1 hl i1=>?_
      have st:=f.step (H':=H1) (i:=i) hi (o:=[x]) (s:=.ol ds) (v:=some (.ref x)) (fun a u e _=>s1 _ _ e) (fun a ha=>let ⟨xs,e⟩:=(f.sl i).dom ha; ⟨_,s1 _ _ e⟩) (by simp) (fun a ha=>by rw [List.mem_singleton.mp ha]; exact .inr hx)
        ⟨x,vs,rfl,rfl,hx1,hl,i1.kp (Kp.less fun a z=>?_)⟩
      · exact p _ _ _ st.1 st.2
      · rcases z with z | ⟨j,z⟩
        · exact .inr (.inl z)
        · by_cases hj:j=i
          · subst hj; rw [putO_same] at z; exact .inl (List.mem_singleton.mp z)
          · rw [putO_ne hj] at z; exact .inr (.inr ⟨j,z⟩)
    · rw [if_neg hi] at p; exact p.elim
  · exact p.elim
theorem ss_setOC {i:Nat} {ta:TE} {a:Rho→Option (List D)} (h:SemF K ta a):SemS fr K (tSetC ta i) (sSetO i a):=ss_setO (i:=i) h
def frz (i:Nat) (ρ:Rho):Rho:=match ρ.getD i .un with
  | .ol ds=>ρ.set i (.pu (.lst ds))
  | .om rows=>ρ.set i (.pu (.lst (rows.map D.lst)))
  | _=>ρ
theorem set_self {σ:L2.St} {i:Nat} {v:V} (h:(σ[i]?).join=some v):σ.set i (some v)=σ:=by
  have e:=join_some h
  refine List.ext_getElem? fun j=>?_
  by_cases hj:i=j
  · subst hj
    rw [List.getElem?_set_self (List.getElem?_eq_some_iff.mp e).1,e]
  · rw [List.getElem?_set_ne hj]
theorem getD_lt {ρ:Rho} {i:Nat} {s:Sl} (h:ρ.getD i .un=s) (hs:s≠.un):i < ρ.length:=by
  by_cases hi:i < ρ.length
  · exact hi
  · rw [List.getD_eq_getElem?_getD,List.getElem?_eq_none (by omega)] at h
    exact absurd h.symm hs
theorem Fr.freeze {B H:Hp} {Z:Addr→Prop} {os:Own} {ρ:Rho} {σ:L2.St} (f:Fr K B Z os ρ σ H) (i:Nat):∃ os',Fr K B Z os' (frz i ρ) σ H∧Kp (tot Z os) H (tot Z os') H:=by
  unfold frz
  have less:∀ a,tot Z (putO os i []) a→tot Z os a:=by
    rintro a (z | ⟨j,z⟩)
    · exact .inl z
    · by_cases hj:j=i
      · subst hj; rw [putO_same] at z; cases z
      · rw [putO_ne hj] at z; exact .inr ⟨j,z⟩
  cases e:ρ.getD i .un with
  | ol ds =>
    have s:=f.sl i
    rw [e] at s
    obtain ⟨a,vs,eo,hu,hH,hl,i1⟩:=s
    have hi:=getD_lt e (by intro z; cases z)
    have st:=f.step (H':=H) (i:=i) hi (o:=[]) (s:=.pu (.lst ds)) (v:=some (.ref a)) (fun a u e _=>e) (fun a ha=>let ⟨xs,e⟩:=(f.sl i).dom ha; ⟨_,e⟩) List.nodup_nil (fun a h=>by cases h)
      ⟨rfl,_,rfl,.lst (fun z=>?_) (.inl hH) hl (i1.kp (Kp.less less))⟩
    · rw [set_self hu] at st
      exact ⟨_,st⟩
    · rcases z with z | ⟨j,z⟩
      · exact (f.new i a (by rw [eo]; exact List.mem_singleton.mpr rfl)).2 z
      · by_cases hj:j=i
        · subst hj; rw [putO_same] at z; cases z
        · rw [putO_ne hj] at z; exact hj (f.dj j i a z (by rw [eo]; exact List.mem_singleton.mpr rfl))
  | om rows =>
    have s:=f.sl i
    rw [e] at s
    obtain ⟨a,ps,eo,hu,hH,hl,i1⟩:=s
    have hi:=getD_lt e (by intro z; cases z)
    have out:∀ b,b∈os i→¬ tot Z (putO os i []) b:=by
      rintro b hb (z | ⟨j,z⟩)
      · exact (f.new i b hb).2 z
      · by_cases hj:j=i
        · subst hj; rw [putO_same] at z; cases z
        · rw [putO_ne hj] at z; exact hj (f.dj j i b z hb)
    have rowsI:∀ {ps:List Addr} {rows:List (List D)},(∀ p∈ps,p∈os i)→Paired (fun p ds=>∃ vs,H p=some (.lst vs)∧vs.length≤sizeLine∧IsL K H (tot Z os) vs ds) ps rows→IsL K H (tot Z (putO os i [])) (ps.map V.ref) (rows.map D.lst):=by
      intro ps rows hp r
      induction r with
      | nil=>exact .nil
      | cons h _ ih =>
        obtain ⟨vs,q,hv,j⟩:=h
        exact .cons (.lst (out _ (hp _ List.mem_cons_self)) (.inl q) hv (j.kp (Kp.less less))) (ih fun p h=>hp p (List.mem_cons_of_mem _ h))
    have st:=f.step (H':=H) (i:=i) hi (o:=[]) (s:=.pu (.lst (rows.map D.lst))) (v:=some (.ref a)) (fun a u e _=>e) (fun a ha=>let ⟨xs,e⟩:=(f.sl i).dom ha; ⟨_,e⟩) List.nodup_nil (fun a h=>by cases h)
      ⟨rfl,_,rfl,.lst (out a (by rw [eo]; exact List.mem_cons_self)) (.inl hH) (by rw [List.length_map]; exact hl) (rowsI (fun p hp=>by rw [eo]; exact List.mem_cons_of_mem _ hp) i1)⟩
    rw [set_self hu] at st
    exact ⟨_,st⟩
  | un=>exact ⟨os,f,Kp.refl⟩
  | pu d=>exact ⟨os,f,Kp.refl⟩
  | bo d=>exact ⟨os,f,Kp.refl⟩
@[irreducible] noncomputable def sFrz (i:Nat) (s:DS):DS:=fun ρ=>s (frz i ρ)
theorem ss_frz {t:TS} {s:DS} (i:Nat) (h:SemS fr K t s):SemS fr K t (sFrz i s):=fun {B Z os ρ σ H E} f p=>by
  obtain ⟨os',f',k⟩:=f.freeze i
  unfold sFrz at p
  exact h f' (Post.kp k p)
theorem Fr.mutO {B H:Hp} {Z:Addr→Prop} {os:Own} {ρ:Rho} {σ:L2.St} (f:Fr K B Z os ρ σ H) {i:Nat} {a:Addr} {ds ds':List D} {vs':List V} (e:ρ.getD i .un=.ol ds) (hu:(σ[i]?).join=some (.ref a)) (hl:vs'.length≤sizeLine) (h:IsL K H (tot Z os) vs' ds') :
    ∃ os',Fr K B Z os' (ρ.set i (.ol ds')) σ (upd H a (.lst vs'))∧Kp (tot Z os) H (tot Z os') (upd H a (.lst vs')):=by
  have s:=f.sl i
  rw [e] at s
  obtain ⟨b,vs,eo,hu',hH,_,_⟩:=s
  rw [hu] at hu'
  cases hu'
  have hi:=getD_lt e (by intro z; cases z)
  have ha:a∈os i:=by rw [eo]; exact List.mem_singleton.mpr rfl
  have st:=f.step (H':=upd H a (.lst vs')) (i:=i) hi (o:=[a]) (s:=.ol ds') (v:=some (.ref a)) (fun b u e n=>by rw [upd_ne (fun z=>n (by rw [z]; exact ha))]; exact e) (fun b hb=>?_) (by simp) (fun b hb=>by rw [List.mem_singleton.mp hb]; exact .inl ha)
    ⟨a,vs',rfl,rfl,upd_same,hl,h.kp fun b u e z=>⟨?_,fun q=>z ?_⟩⟩
  · rw [set_self hu] at st
    exact ⟨_,st⟩
  · rw [eo] at hb; rw [List.mem_singleton.mp hb]; exact ⟨_,upd_same⟩
  · rw [upd_ne (fun w=>z (.inr ⟨i,by rw [w]; exact ha⟩))]; exact e
  · rcases q with q | ⟨j,q⟩
    · exact .inl q
    · by_cases hj:j=i
      · subst hj; rw [putO_same] at q; exact .inr ⟨j,by rw [List.mem_singleton.mp q]; exact ha⟩
      · rw [putO_ne hj] at q; exact .inr ⟨j,q⟩
theorem ol_of {B H:Hp} {Z:Addr→Prop} {os:Own} {ρ:Rho} {σ:L2.St} (f:Fr K B Z os ρ σ H) {i:Nat} {ds:List D} (e:ρ.getD i .un=.ol ds):∃ a vs,(σ[i]?).join=some (.ref a)∧H a=some (.lst vs)∧vs.length≤sizeLine∧IsL K H (tot Z os) vs ds:=by
  have s:=f.sl i
  rw [e] at s
  obtain ⟨b,vs,eo,hu',hH,hl,r⟩:=s
  exact ⟨b,vs,hu',hH,hl,r⟩
@[irreducible] noncomputable def sApp (i:Nat) (a:DE):DS:=fun ρ=>match ρ.getD i .un with
  | .ol ds=>(match a ρ with
    | some d=>if ds.length<sizeLine then .nx (ρ.set i (.ol (ds++[d]))) else .no
    | none=>.no)
  | _=>.no
theorem ss_app {i:Nat} {ta:TE} {a:DE} (h:SemI K ta a):SemS fr K (tDrop (tBM K "list" rAppend (tVar i) (tCons ta tNil))) (sApp i a):=fun {B Z os ρ σ H E} f p=>by
  unfold sApp at p
  split at p
  · rename_i ds e
    split at p
    · rename_i d e2
      by_cases hz:ds.length<sizeLine
      · rw [if_pos hz] at p
        obtain ⟨x,vs,hu,hH,hl,r⟩:=ol_of f e
        refine ⟨_,join_some hu,.inl ⟨rfl,_,SqL.of hH⟩,h f e2 fun v H1 s1 i1=>?_⟩
        have f1:=f.grow s1
        have r1:=r.same s1
        have hlen:vs.length<sizeLine:=by rw [r.length]; exact hz
        obtain ⟨os',f',k⟩:=f1.mutO (vs':=vs++[v]) (ds':=ds++[d]) e hu (by rw [List.length_append,List.length_singleton]; omega) (r1.append (.one i1))
        exact ⟨x,vs,v,rfl,rfl,s1 _ _ hH,hlen,p os' _ _ f' ((Kp.same s1).trans k)⟩
      · rw [if_neg hz] at p; exact p.elim
    · exact p.elim
  · exact p.elim
@[irreducible] noncomputable def sPut (i:Nat) (b a:DE):DS:=fun ρ=>match ρ.getD i .un with
  | .ol ds=>(match a ρ with
    | some d=>(match b ρ with
      | some (.int n)=>(match ixN ds.length n with
        | some j=>.nx (ρ.set i (.ol (ds.set j d)))
        | none=>.no)
      | _=>.no)
    | none=>.no)
  | _=>.no
theorem ss_put {i:Nat} {ta tb:TE} {a b:DE} (ha:SemI K ta a) (hb:SemB K tb b):SemS fr K (tAsg ta (gSub (tVar i) tb rSetL)) (sPut i b a):=fun {B Z os ρ σ H E} f p=>by
  unfold sPut at p
  split at p
  · rename_i ds e
    split at p
    · rename_i d e2
      split at p
      · rename_i n e3
        split at p
        · rename_i j e4
          obtain ⟨x,vs,hu,hH,hl,r⟩:=ol_of f e
          refine ha f e2 fun v H1 s1 i1=>⟨_,join_some hu,hb (f.grow s1) e3 fun w H2 s2 i2=>?_⟩
          have s12:=s1.trans s2
          have f1:=f.grow s12
          have r1:=r.same s12
          obtain ⟨os',f',k⟩:=f1.mutO (vs':=vs.set j v) (ds':=ds.set j d) e hu (by rw [List.length_set]; exact hl) (r1.set (i1.same s2) j)
          exact ⟨x,vs,n,j,rfl,i2.isInt,s12 _ _ hH,by rw [r.length]; exact e4,p os' _ _ f' ((Kp.same s12).trans k)⟩
        · exact p.elim
      · exact p.elim
    · exact p.elim
  · exact p.elim
@[irreducible] noncomputable def sAugP (g:Int→Int→Int) (i:Nat) (b a:DE):DS:=fun ρ=>match ρ.getD i .un with
  | .ol ds=>(match b ρ with
    | some (.int n)=>(match ixN ds.length n with
      | some j=>(match ds[j]? with
        | some (.int x)=>(match a ρ with
          | some (.int y)=>.nx (ρ.set i (.ol (ds.set j (.int (g x y)))))
          | _=>.no)
        | _=>.no)
      | none=>.no)
    | _=>.no)
  | _=>.no
theorem ss_augP {i:Nat} {g:Int→Int→Int} {ta tb:TE} {a b:DE} (hb:SemB K tb b) (ha:SemB K ta a):SemS fr K (tAugS (tVar i) tb ta (rIxL K) (ipI g) rSetL) (sAugP g i b a):=fun {B Z os ρ σ H E} f p=>by
  unfold sAugP at p
  split at p
  · rename_i ds e
    split at p
    · rename_i n e3
      split at p
      · rename_i j e4
        split at p
        · rename_i x e5
          split at p
          · rename_i y e6
            obtain ⟨ad,vs,hu,hH,hl,r⟩:=ol_of f e
            refine ⟨_,join_some hu,hb f e3 fun w H1 s1 i1=>?_⟩
            obtain ⟨v,ev,iv⟩:=r.get e5
            refine ⟨ad,vs,n,v,rfl,i1.isInt,SqL.of (s1 _ _ hH),?_,ha (f.grow s1) e6 fun u H2 s2 i2=>⟨x,y,iv.isInt,i2.isInt,?_⟩⟩
            · unfold atI; rw [r.length,e4]; exact ev
            · have s12:=s1.trans s2
              have f1:=f.grow s12
              have r1:=r.same s12
              obtain ⟨os',f',k⟩:=f1.mutO (vs':=vs.set j (.int (g x y))) (ds':=ds.set j (.int (g x y))) e hu (by rw [List.length_set]; exact hl) (r1.set (.int _) j)
              exact ⟨ad,vs,n,j,rfl,i1.isInt,s12 _ _ hH,by rw [r.length]; exact e4,p os' _ _ f' ((Kp.same s12).trans k)⟩
          · exact p.elim
        · exact p.elim
      · exact p.elim
    · exact p.elim
  · exact p.elim
def forD (g:DG) (b:DS):List D→DS
  | [],ρ=>.nx ρ
  | d::ds,ρ=>match g d ρ with
    | none=>.no
    | some ρ1=>match b ρ1 with
      | .nx ρ2=>forD g b ds ρ2
      | .ct ρ2=>forD g b ds ρ2
      | .bk ρ2=>.nx ρ2
      | .rt d=>.rt d
      | .no=>.no
@[irreducible] noncomputable def sFor (it:Rho→Option (List D)) (g:DG) (b:DS):DS:=fun ρ=>match it ρ with
  | some ds=>forD g b ds ρ
  | none=>.no
theorem ss_for {m:Bool} {wi:TI} {t:TG} {tb:TS} {it:Rho→Option (List D)} {g:DG} {b:DS} (hw:SemW K m wi it) (hg:SemG K m t g) (hb:SemS fr K tb b):SemS fr K (tFor wi t tb) (sFor it g b):=fun {B Z os ρ σ H E} f p=>by
  unfold sFor at p
  split at p
  · rename_i ds e0
    refine hw f e0 fun J H1 s1 W=>?_
    refine ⟨fun i m σ' H'=>∃ os' ρ',m=ds.length-i∧i≤ds.length∧Fr K B Z os' ρ' σ' H'∧Kp (tot Z os) H1 (tot Z os') H'∧Post fr K B Z os H1 E (forD g b (ds.drop i) ρ'),⟨_,os,ρ,rfl,Nat.zero_le _,f.grow s1,Kp.refl,Post.kp (Kp.same s1) p⟩,?_⟩
    rintro i mm σ2 H2 ⟨os2,ρ2,rfl,hi,f2,k2,p2⟩
    by_cases hlt:i<ds.length
    · have ex:ds[i]?=some ds[i]:=List.getElem?_eq_getElem hlt
      obtain ⟨go,yl⟩:=W.go i ds[i] H2 _ k2 f2.keep f2.tin ex
      rw [List.drop_eq_getElem_cons hlt] at p2
      refine .inr ⟨go,fun σ' H'=>∃ os' ρ',Fr K B Z os' ρ' σ' H'∧Kp (tot Z os) H1 (tot Z os') H'∧Post fr K B Z os H1 E (forD g b (ds.drop (i+1)) ρ'),fun σ' H' ⟨os',ρ',h1,h2,h3⟩=>⟨_,by omega,os',ρ',rfl,hlt,h1,h2,h3⟩,fun x H3 hy=>?_⟩
      obtain ⟨s3,er⟩:=yl x H3 hy
      unfold forD at p2
      split at p2
      · exact p2.elim
      · rename_i ρ1 e1
        have er':ER K m B H3 (tot Z os2) x ds[i]:=er
        refine hg (f2.grow s3) er' e1 fun os3 σ3 f3 k3=>hb f3 ?_
        have k13:Kp (tot Z os) H1 (tot Z os3) H3:=(k2.trans (Kp.same s3)).trans k3
        split at p2
        · rename_i ρ4 e4
          rw [e4]
          exact fun os' σ' H' f' k'=>⟨os',_,f',k13.trans k',p2⟩
        · rename_i ρ4 e4
          rw [e4]
          exact fun os' σ' H' f' k'=>⟨os',_,f',k13.trans k',p2⟩
        · rename_i ρ4 e4
          rw [e4]
          exact fun os' σ' H' f' k'=>p2 os' σ' H' f' (k13.trans k')
        · rename_i d e4
          rw [e4]
          exact p2
        · exact p2.elim
    · have e:i=ds.length:=by omega
      subst e
      rw [List.drop_length] at p2
      exact .inl ⟨W.stop _ H2 _ k2 f2.keep rfl,p2 os2 σ2 H2 f2 k2⟩
  · exact p.elim
def whN (c:Rho→Option Bool) (b:DS):Nat→DS
  | 0,ρ=>match c ρ with
    | some false=>.nx ρ
    | _=>.no
  | n+1,ρ=>match c ρ with
    | some false=>.nx ρ
    | some true=>(match b ρ with
      | .nx ρ'=>whN c b n ρ'
      | .ct ρ'=>whN c b n ρ'
      | .bk ρ'=>.nx ρ'
      | .rt d=>.rt d
      | .no=>.no)
    | none=>.no
@[irreducible] noncomputable def sWhile (c:Rho→Option Bool) (b:DS):DS:=fun ρ=>if h:∃ n,whN c b n ρ≠.no then whN c b h.choose ρ else .no
theorem whN_mono {c:Rho→Option Bool} {b:DS}:∀ {n:Nat} {ρ:Rho},whN c b n ρ≠.no→whN c b (n+1) ρ=whN c b n ρ
  | 0,ρ,h=>by
    unfold whN at h ⊢
    split at h
    · rename_i e; rw [e]
    · exact absurd rfl h
  | n+1,ρ,h=>by
    have e1:whN c b (n+1+1) ρ=(match c ρ with | some false=>.nx ρ | some true=>(match b ρ with | .nx ρ'=>whN c b (n+1) ρ' | .ct ρ'=>whN c b (n+1) ρ' | .bk ρ'=>.nx ρ' | .rt d=>.rt d | .no=>.no) | none=>.no):=rfl
    have e2:whN c b (n+1) ρ=(match c ρ with | some false=>.nx ρ | some true=>(match b ρ with | .nx ρ'=>whN c b n ρ' | .ct ρ'=>whN c b n ρ' | .bk ρ'=>.nx ρ' | .rt d=>.rt d | .no=>.no) | none=>.no):=rfl
    rw [e1]
    rw [e2] at h ⊢
    cases e3:c ρ with
    | none=>rfl
    | some x =>
      rw [e3] at h
      cases x with
      | false=>rfl
      | true =>
        cases e4:b ρ with
        | nx ρ'=>rw [e4] at h; exact whN_mono h
        | ct ρ'=>rw [e4] at h; exact whN_mono h
        | _=>rfl
theorem whN_le {c:Rho→Option Bool} {b:DS} {n k:Nat} {ρ:Rho} (h:whN c b n ρ≠.no):whN c b (n+k) ρ=whN c b n ρ:=by
  induction k with
  | zero=>rfl
  | succ k ih=>rw [← Nat.add_assoc,whN_mono (by rw [ih]; exact h),ih]
theorem sWhile_of {c:Rho→Option Bool} {b:DS} {n:Nat} {ρ:Rho} {r:Res} (h:whN c b n ρ=r) (hr:r≠.no):sWhile c b ρ=r:=by
  have ex:∃ n,whN c b n ρ≠.no:=⟨n,by rw [h]; exact hr⟩
  unfold sWhile
  rw [dif_pos ex]
  have q:=ex.choose_spec
  generalize ex.choose=m at q
  have e1:=whN_le (k:=n) q
  have e2:=whN_le (k:=m) (show whN c b n ρ≠.no by rw [h]; exact hr)
  rw [Nat.add_comm] at e2
  rw [← e1,e2,h]
theorem ss_while {tc:TT} {tb:TS} {c:Rho→Option Bool} {b:DS} (hc:SemT K tc c) (hb:SemS fr K tb b):SemS fr K (tWhile tc tb) (sWhile c b):=fun {B Z os ρ σ H E} f p=>by
  unfold sWhile at p
  by_cases ex:∃ n,whN c b n ρ≠.no
  · rw [dif_pos ex] at p
    generalize ex.choose=n0 at p
    refine ⟨fun m σ' H'=>∃ os' ρ',Fr K B Z os' ρ' σ' H'∧Kp (tot Z os) H (tot Z os') H'∧Post fr K B Z os H E (whN c b m ρ'),⟨n0,os,ρ,f,Kp.refl,p⟩,?_⟩
    rintro m σ2 H2 ⟨os2,ρ2,f2,k2,p2⟩
    cases m with
    | zero =>
      unfold whN at p2
      split at p2
      · rename_i e
        exact hc f2 e fun H3 s3=>iteF (p2 os2 σ2 H3 (f2.grow s3) (k2.trans (Kp.same s3)))
      · exact p2.elim
    | succ m =>
      have p2:Post fr K B Z os H E (match c ρ2 with | some false=>.nx ρ2 | some true=>(match b ρ2 with | .nx ρ'=>whN c b m ρ' | .ct ρ'=>whN c b m ρ' | .bk ρ'=>.nx ρ' | .rt d=>.rt d | .no=>.no) | none=>.no):=p2
      cases e:c ρ2 with
      | none=>rw [e] at p2; exact p2.elim
      | some x =>
        rw [e] at p2
        cases x with
        | false=>exact hc f2 e fun H3 s3=>iteF (p2 os2 σ2 H3 (f2.grow s3) (k2.trans (Kp.same s3)))
        | true =>
          refine hc f2 e fun H3 s3=>iteT ⟨fun σ' H'=>∃ os' ρ',Fr K B Z os' ρ' σ' H'∧Kp (tot Z os) H (tot Z os') H'∧Post fr K B Z os H E (whN c b m ρ'),fun σ' H' h=>⟨m,Nat.lt_succ_self _,h⟩,hb (f2.grow s3) ?_⟩
          have k3:=k2.trans (Kp.same s3)
          cases e4:b ρ2 with
          | nx ρ'=>rw [e4] at p2; exact fun os' σ' H' f' k'=>⟨os',_,f',k3.trans k',p2⟩
          | ct ρ'=>rw [e4] at p2; exact fun os' σ' H' f' k'=>⟨os',_,f',k3.trans k',p2⟩
          | bk ρ'=>rw [e4] at p2; exact fun os' σ' H' f' k'=>p2 os' σ' H' f' (k3.trans k')
          | rt d=>rw [e4] at p2; exact p2
          | no=>rw [e4] at p2; exact p2.elim
  · rw [dif_neg ex] at p; exact p.elim
def stD (n:Nat) (ms:List Bool) (ds:List D):Rho:=List.zipWith slm ms ds++List.replicate (n-ds.length) .un
@[irreducible] def runD (n:Nat) (ms:List Bool) (b:DS) (ds:List D):Option D:=match b (stD n ms ds) with
  | .rt d=>some d
  | .nx _=>some .non
  | _=>none
@[irreducible] def runF (n:Nat) (ms:List Bool) (b:DS) (ds:List D):Option D:=match b (stD n ms ds) with
  | .rt d=>some d
  | _=>none
theorem startFr {H:Hp} {Z:Addr→Prop} {N:List Str} {ms:List Bool} {vs:List V} {ds:List D} (hz:ZT Z H) (h:Args K H Z ms vs ds):Fr K H Z (fun _=>[]) (stD N.length ms ds) (L2.start N vs) H where
  keep:=Same.refl _
  zin:=hz.1
  tab:=hz.2
  len:=by
    unfold stD L2.start
    have:=h.len
    simp only [List.length_append,List.length_map,List.length_replicate,List.length_zipWith]
    omega
  nd:=fun _=>List.nodup_nil
  dj:=fun _ _ _ h=>by cases h
  new:=fun _ _ h=>by cases h
  sl:=fun j=>by
    have hl:=h.len
    have key:∀ {ms:List Bool} {vs:List V} {ds:List D} (j:Nat),Args K H Z ms vs ds→j<ms.length→SlOk K H H (tot Z fun _=>[]) [] (((List.zipWith slm ms ds)[j]?).getD .un) ((vs.map some)[j]?.join):=by
      intro ms vs ds j h
      induction h generalizing j with
      | nil=>intro hj; simp at hj
      | own i _ ih =>
        intro hj
        cases j with
        | zero=>exact ⟨rfl,_,rfl,i.kp (Kp.less fun a z=>z.elim id fun ⟨_,w⟩=>by cases w)⟩
        | succ j=>exact ih j (by simpa using hj)
      | any i _ ih =>
        intro hj
        cases j with
        | zero=>exact ⟨rfl,_,rfl,i⟩
        | succ j=>exact ih j (by simpa using hj)
    unfold stD L2.start
    rw [List.getD_eq_getElem?_getD]
    by_cases hj:j<ms.length
    · rw [List.getElem?_append_left (by rw [List.length_zipWith]; omega),List.getElem?_append_left (by rw [List.length_map]; omega)]
      exact key j h hj
    · rw [List.getElem?_append_right (by rw [List.length_zipWith]; omega),List.getElem?_replicate]
      split <;> exact rfl
theorem Fun.okD {P:Program} {w:World} {mg:Str→Option Value} {base:Heap} {x qual:Str} {st:Stmt} {f:Addr} {fd:FuncData} {N ps:List Str} {k:Nat} (F:Fun K x qual st f fd) (S:FnScope N ps (defScope st)) (ms:List Bool) (hms:ms.length=ps.length) (b:DS)
    (hbody:∀ (cdv:Value) (A:Around) (outer:List Env) (s:Shared) (H:Hp) (E:XK),Room k (A.deeper (PyProof.Rows.envOfC qual (defScope st) s.heap.objs.size f cdv)) →
      ∃ t,PSs (cxOf CX0 P w K mg base N qual (defScope st) f cdv A outer s H E).nox (defBody st) t∧SemS .v K t b):FnOk P w K mg base CX0 (k+1) f fd ps (spD .v K ms (runD N.length ms b)):=by
  refine F.ok S (fun vs H Q E h=>?_) (fun cdv A outer s H vs Q E hr h=>?_)
  · obtain ⟨Z,ds,d,hz,a,_⟩:=h
    rw [a.len.1,hms]
  · obtain ⟨Z,ds,d,hz,a,e,k⟩:=h
    obtain ⟨t,h1,h2⟩:=hbody cdv A outer s H E hr
    refine ⟨t,h1,h2 (startFr hz a) ?_⟩
    unfold runD at e
    split at e
    · rename_i d' e1
      cases e
      rw [e1]
      exact fun v H' s' i=>k v H' s' i
    · rename_i ρ e1
      cases e
      rw [e1]
      exact fun os' σ' H' f' _=>k _ H' f'.keep .non
    · cases e
theorem Fun.okF {P:Program} {w:World} {mg:Str→Option Value} {base:Heap} {x qual:Str} {st:Stmt} {f:Addr} {fd:FuncData} {N ps:List Str} {k:Nat} (F:Fun K x qual st f fd) (S:FnScope N ps (defScope st)) (ms:List Bool) (hms:ms.length=ps.length) (b:DS)
    (hbody:∀ (cdv:Value) (A:Around) (outer:List Env) (s:Shared) (H:Hp) (E:XK),Room k (A.deeper (PyProof.Rows.envOfC qual (defScope st) s.heap.objs.size f cdv)) →
      ∃ t,PSs (cxOf CX0 P w K mg base N qual (defScope st) f cdv A outer s H E).nox (defBody st) t∧SemS fr K t b) (hfr:∀ E C,fr≠.x E C:=by intro _ _ h; cases h):FnOk P w K mg base CX0 (k+1) f fd ps (spD fr K ms (runF N.length ms b)):=by
  refine F.ok S (fun vs H Q E h=>?_) (fun cdv A outer s H vs Q E hr h=>?_)
  · obtain ⟨Z,ds,d,hz,a,_⟩:=h
    rw [a.len.1,hms]
  · obtain ⟨Z,ds,d,hz,a,e,k⟩:=h
    obtain ⟨t,h1,h2⟩:=hbody cdv A outer s H E hr
    refine ⟨t,h1,h2 (startFr hz a) ?_⟩
    unfold runF at e
    split at e
    · rename_i d' e1
      cases e
      rw [e1]
      cases fr with
      | v=>exact fun v H' s' i=>k v H' s' i
      | l=>exact fun v H' s' i=>k v H' s' i
      | m=>exact fun v H' s' i=>k v H' s' i
      | x E0 C=>exact absurd rfl (hfr E0 C)
    · cases e
end
end VL
namespace L2
open PySem PySem.Spec PyProof.Rows
open VL (s0)
section
variable {X:Cx}
inductive SubL (X:Cx):List (Str×Addr)→Prop
  | nil:SubL X []
  | cons {z:Str} {c:Addr} {r:List (Str×Addr)}:X.env.cells.lookup z=some c→SubL X r→SubL X ((z,c)::r)
theorem SubL.sub {cl:List (Str×Addr)} (h:SubL X cl):∀ x c,cl.lookup x=some c→X.env.cells.lookup x=some c:=by
  induction h with
  | nil=>intro x c e; cases e
  | @cons z c r h _ ih =>
    intro x c' e
    rw [List.lookup_cons] at e
    cases q:x==z with
    | true=>rw [q] at e; cases e; rw [eq_of_beq q]; exact h
    | false=>rw [q] at e; exact ih x c' e
inductive CapL (X:Cx) (scope:Scope) (cl:List (Str×Addr)):List Nat→List Str→Prop
  | nil:CapL X scope cl [] []
  | cons {i:Nat} {z:Str} {c:Addr} {is:List Nat} {zs:List Str}:X.N[i]?=some z→(X.env.scope.names.lookup z=some .cell∨X.env.scope.names.lookup z=some .free)→cl.lookup z=some c →
      ((relabel scope X.env).names.lookup z=some .cell∨(relabel scope X.env).names.lookup z=some .free)→CapL X scope cl is zs→CapL X scope cl (i::is) (z::zs)
theorem CapL.get {scope:Scope} {cl:List (Str×Addr)} {is:List Nat} {zs:List Str} (h:CapL X scope cl is zs):∀ (j:Nat) (z:Str),zs[j]?=some z→∃ i c,is[j]?=some i∧X.N[i]?=some z∧(X.env.scope.names.lookup z=some .cell∨X.env.scope.names.lookup z=some .free)∧cl.lookup z=some c ∧
      ((relabel scope X.env).names.lookup z=some .cell∨(relabel scope X.env).names.lookup z=some .free):=by
  induction h with
  | nil=>intro j z e; simp at e
  | cons h1 h2 h3 h4 _ ih =>
    intro j z e
    cases j with
    | zero=>cases e; exact ⟨_,_,rfl,h1,h2,h3,h4⟩
    | succ j=>exact ih j z (by simpa using e)
theorem CapL.len {scope:Scope} {cl:List (Str×Addr)} {is:List Nat} {zs:List Str} (h:CapL X scope cl is zs):is.length=zs.length:=by
  induction h with
  | nil=>rfl
  | cons _ _ _ _ _ ih=>simp [ih]
theorem Frees.many {scope:Scope} {cl:List (Str×Addr)} {is:List Nat} {ts zs:List Str} {k:Nat} {σ:St} (hk:ts.length=k) (hs:SubL X cl) (hc:CapL X scope cl is zs)
    (ha:((relabel scope X.env).names.all fun y=>!(y.2==.cell || y.2==.free) || zs.contains y.1)=true):Frees X (ts++zs) scope cl σ (s0 k is σ) where
  sub:=hs.sub
  vals:=fun j x v e1 e2=>by
    unfold s0 at e2
    by_cases hj:j<k
    · rw [List.getElem?_append_left (by simpa using hj),List.getElem?_replicate,if_pos hj] at e2; cases e2
    · rw [List.getElem?_append_right (by simpa using hj),List.length_replicate,List.getElem?_map] at e2
      rw [List.getElem?_append_right (by omega),hk] at e1
      obtain ⟨i,c,f1,f2,f3,f4,f5⟩:=hc.get _ _ e1
      rw [f1] at e2
      have e3:(σ[i]?).join=some v:=Option.some.inj e2
      refine ⟨i,c,f2,VL.join_some e3,?_,?_,f4,f5⟩
      · rcases f3 with q | q
        · exact .inr (.inl q)
        · exact .inr (.inr q)
      · intro w
        have w:X.env.scope.names.lookup x=some .local:=w
        rcases f3 with q | q <;> rw [q] at w <;> cases w
  has:=fun x h=>by
    have key:∀ kd,(relabel scope X.env).names.lookup x=some kd→(kd==NameKind.cell || kd==NameKind.free)=true→x∈zs:=fun kd e q=>by
      have m:=List.all_eq_true.mp ha _ (PySem.mem_of_lookup e)
      rw [q] at m
      have:zs.contains x=true:=by simpa using m
      exact List.contains_iff_mem.mp this
    have mem:x∈zs:=by
      rcases h with h | h
      · exact key _ h rfl
      · exact key _ h rfl
    obtain ⟨j,hj⟩:=List.getElem?_of_mem mem
    obtain ⟨i,c,_,_,_,f4,_⟩:=hc.get j x hj
    exact ⟨c,f4⟩
  len:=by unfold s0; rw [List.length_append,List.length_append,List.length_replicate,List.length_map,hk,hc.len]
def Low (k:Nat) (g:TG):Prop:=∀ x σ H (Q:St→Hp→Prop),g x σ H Q→∃ σ2 H2,Q σ2 H2∧σ2.length=σ.length∧(∀ j,k≤j→σ2[j]?=σ[j]?)∧∀ Q':St→Hp→Prop,Q' σ2 H2→g x σ H Q'
def Lows (k:Nat) (g:TGs):Prop:=∀ x σ H (Q:St→Hp→Prop),g x σ H Q→∃ σ2 H2,Q σ2 H2∧σ2.length=σ.length∧(∀ j,k≤j→σ2[j]?=σ[j]?)∧∀ Q':St→Hp→Prop,Q' σ2 H2→g x σ H Q'
theorem low_name {k i:Nat} (h:i<k):Low k (gName i):=fun x σ H Q q=>⟨_,_,q,List.length_set,fun j hj=>by rw [List.getElem?_set_ne (by omega)],fun _ z=>z⟩
theorem lows_nil {k:Nat}:Lows k gNil:=fun x σ H Q q=>⟨_,_,q.2,rfl,fun _ _=>rfl,fun _ z=>⟨q.1,z⟩⟩
theorem lows_cons {t:TG} {u:TGs} {k:Nat} (h1:Low k t) (h2:Lows k u):Lows k (gCons t u):=fun x σ H Q q=>by
  obtain ⟨v,r,e,q⟩:=q
  obtain ⟨σ1,H1,q1,l1,k1,g1⟩:=h1 _ _ _ _ q
  obtain ⟨σ2,H2,q2,l2,k2,g2⟩:=h2 _ _ _ _ q1
  exact ⟨σ2,H2,q2,l2.trans l1,fun j hj=>(k2 j hj).trans (k1 j hj),fun Q' z=>⟨v,r,e,g1 _ (g2 Q' z)⟩⟩
theorem low_seq {K:PySem.W.Frag} {u:TGs} {k n:Nat} (h:Lows k u):Low k (gSeq K n u):=fun x σ H Q q=>by
  rcases q with ⟨a,xs,e,hs,hl,q⟩ | ⟨a,xs,e,hs,hl,q⟩
  · obtain ⟨σ1,H1,q1,l1,k1,g1⟩:=h _ _ _ _ q
    exact ⟨σ1,H1,q1,l1,k1,fun Q' z=>.inl ⟨a,xs,e,hs,hl,g1 Q' z⟩⟩
  · obtain ⟨σ1,H1,q1,l1,k1,g1⟩:=h _ _ _ _ q
    exact ⟨σ1,H1,q1,l1,k1,fun Q' z=>.inr ⟨a,xs,e,hs,hl,g1 Q' z⟩⟩
theorem Low.keep {k:Nat} {g:TG} {cs:List Nat} (h:Low k g) (σ:St):Keepg g (s0 k cs σ):=fun x H Q q=>by
  obtain ⟨σ1,H1,q1,l1,k1,g1⟩:=h _ _ _ _ q
  refine g1 _ ⟨q1,l1,fun j v e=>?_⟩
  by_cases hj:j<k
  · unfold s0 at e
    rw [List.getElem?_append_left (by simpa using hj),List.getElem?_replicate,if_pos hj] at e; cases e
  · rw [k1 j (by omega)]; exact e
theorem pgb {N':List Str} {scope:Scope} {cl:List (Str×Addr)} {i:Nat} {y:Str} {py:Pos} (nd:N'.Nodup) (hi:N'[i]?=some y) (hx:scope.names.lookup y=some .local) {C:Addr} {s3:Shared} {H3:Hp} {fp:List Addr} {pins:List (Addr×Obj)} :
    PG (compCx X N' scope cl C s3 H3 fp pins) (.Name y py) (gName i):=pg_name nd hi (.inl (lookup_relabel_local hx)) (.inr (lookup_relabel_local hx))
variable {tg elt iter c:Expr} {scope:Scope} {cl:List (Str×Addr)} {ts zs:List Str} {is:List Nat} {k:Nat} {g:TG} {tt:TT} {te:TE} {wi:TI} {pos:Pos}
theorem pe_cN0 (hc:X.calm=true) (hi:PI X tg iter wi) (hk:ts.length=k) (hs:SubL X cl) (hcp:CapL X scope cl is zs) (ha:((relabel scope X.env).names.all fun y=>!(y.2==.cell || y.2==.free) || zs.contains y.1)=true) (hl:Low k g)
    (hg:∀ C s3 H3 fp pins,PG (compCx X (ts++zs) scope cl C s3 H3 fp pins) tg g) (he:∀ C s3 H3 fp pins,PE (compCx X (ts++zs) scope cl C s3 H3 fp pins) elt te)
    (hclos:closureFor scope X.env=pure cl) (hcell:∀ y∈scope.names,y.2≠.cell) (hkind:scope.kind=.function) (hnames:∀ y∈scope.names,y.2=.local→scope.names.lookup y.1=some .local)
    (hf:∀ x,foldedSetIterable iter X.env x=pure x:=by intro _; rfl):PE X (.ListComp elt [⟨tg,iter,[],0⟩] scope pos) (tComp wi g tTrue te (s0 k is)) :=
  pe_compG hc hi (fun _ _=>Frees.many hk hs hcp ha) (fun σ=>hl.keep σ) hg tests0 he hclos hcell hkind hnames hf
theorem pe_cN1 (hc:X.calm=true) (hi:PI X tg iter wi) (hk:ts.length=k) (hs:SubL X cl) (hcp:CapL X scope cl is zs) (ha:((relabel scope X.env).names.all fun y=>!(y.2==.cell || y.2==.free) || zs.contains y.1)=true) (hl:Low k g)
    (hg:∀ C s3 H3 fp pins,PG (compCx X (ts++zs) scope cl C s3 H3 fp pins) tg g) (ht:∀ C s3 H3 fp pins,PT (compCx X (ts++zs) scope cl C s3 H3 fp pins) c tt) (he:∀ C s3 H3 fp pins,PE (compCx X (ts++zs) scope cl C s3 H3 fp pins) elt te)
    (hclos:closureFor scope X.env=pure cl) (hcell:∀ y∈scope.names,y.2≠.cell) (hkind:scope.kind=.function) (hnames:∀ y∈scope.names,y.2=.local→scope.names.lookup y.1=some .local)
    (hf:∀ x,foldedSetIterable iter X.env x=pure x:=by intro _; rfl):PE X (.ListComp elt [⟨tg,iter,[c],0⟩] scope pos) (tComp wi g tt te (s0 k is)) :=
  pe_compG hc hi (fun _ _=>Frees.many hk hs hcp ha) (fun σ=>hl.keep σ) hg (tests1 ht) he hclos hcell hkind hnames hf
theorem ps_cN0 {i:Nat} {x:Str} {pos' spos:Pos} (hN:X.N.Nodup) (hi':X.N[i]?=some x) (hxl:X.env.scope.names.lookup x=some .local) (hc:X.calm=true) (hi:PI X tg iter wi) (hk:ts.length=k) (hs:SubL X cl) (hcp:CapL X scope cl is zs) (ha:((relabel scope X.env).names.all fun y=>!(y.2==.cell || y.2==.free) || zs.contains y.1)=true) (hl:Low k g)
    (hg:∀ C s3 H3 fp pins,PG (compCx X (ts++zs) scope cl C s3 H3 fp pins) tg g) (he:∀ C s3 H3 fp pins,PE (compCx X (ts++zs) scope cl C s3 H3 fp pins) elt te)
    (hclos:closureFor scope X.env=pure cl) (hcell:∀ y∈scope.names,y.2≠.cell) (hkind:scope.kind=.function) (hnames:∀ y∈scope.names,y.2=.local→scope.names.lookup y.1=some .local)
    (hf:∀ x,foldedSetIterable iter X.env x=pure x:=by intro _; rfl) (hsw:swapsWith (.ListComp elt [⟨tg,iter,[],0⟩] scope pos) (some (.Name x pos')) spos.line X.env=pure true:=by rfl):PS X (.Assign [.Name x pos'] (.ListComp elt [⟨tg,iter,[],0⟩] scope pos) spos) (tSetC (tComp wi g tTrue te (s0 k is)) i) :=
 ps_setCG hN hi' (.inl hxl) (.inr hxl) hc hi (fun _ _=>Frees.many hk hs hcp ha) (fun σ=>hl.keep σ) hg tests0 he hclos hcell hkind hnames hf hsw
theorem ps_cN1 {i:Nat} {x:Str} {pos' spos:Pos} (hN:X.N.Nodup) (hi':X.N[i]?=some x) (hxl:X.env.scope.names.lookup x=some .local) (hc:X.calm=true) (hi:PI X tg iter wi) (hk:ts.length=k) (hs:SubL X cl) (hcp:CapL X scope cl is zs) (ha:((relabel scope X.env).names.all fun y=>!(y.2==.cell || y.2==.free) || zs.contains y.1)=true) (hl:Low k g)
    (hg:∀ C s3 H3 fp pins,PG (compCx X (ts++zs) scope cl C s3 H3 fp pins) tg g) (ht:∀ C s3 H3 fp pins,PT (compCx X (ts++zs) scope cl C s3 H3 fp pins) c tt) (he:∀ C s3 H3 fp pins,PE (compCx X (ts++zs) scope cl C s3 H3 fp pins) elt te)
    (hclos:closureFor scope X.env=pure cl) (hcell:∀ y∈scope.names,y.2≠.cell) (hkind:scope.kind=.function) (hnames:∀ y∈scope.names,y.2=.local→scope.names.lookup y.1=some .local)
    (hf:∀ x,foldedSetIterable iter X.env x=pure x:=by intro _; rfl) (hsw:swapsWith (.ListComp elt [⟨tg,iter,[c],0⟩] scope pos) (some (.Name x pos')) spos.line X.env=pure true:=by rfl):PS X (.Assign [.Name x pos'] (.ListComp elt [⟨tg,iter,[c],0⟩] scope pos) spos) (tSetC (tComp wi g tt te (s0 k is)) i) :=
 ps_setCG hN hi' (.inl hxl) (.inr hxl) hc hi (fun _ _=>Frees.many hk hs hcp ha) (fun σ=>hl.keep σ) hg (tests1 ht) he hclos hcell hkind hnames hf hsw
theorem pi_listK {K:PySem.W.Frag} {l:Expr} {tl:TE} (h:X.K=K) (hl:PE X l tl):PI X tg l (iList K tl):=by subst h; exact pi_list hl
theorem pi_enumK {K:PySem.W.Frag} {l:Expr} {tl:TE} {elts:List Expr} {x1} {tpos p pos:Pos} (h:X.K=K) (hg:Gl X "enumerate") (hm:X.mg "enumerate" = none) (hl:PE X l tl) (hs:starEach [l] X.env=[(false,eval l X.env)]:=by rfl):PI X (.Tuple elts x1 tpos) (.Call (.Name "enumerate" p) [l] [] pos) (iEnum K tl):=by subst h; exact pi_enum hg hm hl hs
end
end L2
namespace VL
open PySem L2
def sp_law [Tabs] (K:PySem.W.Frag):Sp:=fun vs H Q _=>∃ (a:Addr) (ns:List Int),vs=[.ref a]∧SqL K H a (ns.map V.int)∧ns.length≤63∧(∀ m∈ns,Builtin.Int.intBits m≤1048576)∧TabIn H∧∀ H',Q (.bl true) H'
theorem sp_law_of [Tabs] {K:PySem.W.Frag} {F:List D→Option D} (ht:∀ ns:List Int,ns.length≤63→(∀ m∈ns,Builtin.Int.intBits m≤1048576)→F [.scr ns]=some (.bl true)) {vs:List V} {H:Hp} {Q:VK} {E:XK} (h:sp_law K vs H Q E):spD .v K [false] F vs H Q E:=by
  obtain ⟨a,ns,rfl,hS,hl,hb,htab,k⟩:=h
  have hz:ns.length≤sizeLine:=Nat.le_trans hl (by decide)
  refine ⟨No,[.scr ns],.bl true,⟨fun a z=>z.elim,htab⟩,.any ?_ .nil,ht ns hl hb,fun v H' s i=>by cases i; exact k H'⟩
  rcases hS with hS | hS
  · exact .scr (fun z=>z) hS hz
  · exact .scrK hS hz
end VL
namespace L2
open PySem PySem.Spec PyProof.Rows
section
variable {X:Cx} {K:PySem.W.Frag}
theorem bt_any:bootBuiltins "any" = some (.builtin "any"):=by decide +kernel
def truV:V→Option Bool
  | .bl b=>some b
  | .int i=>some (i != 0)
  | _=>none
theorem kept_it {s:Shared} {h':Heap} {o:Obj} (hk:∀ b x,b∉[s.heap.objs.size]→(s.heap.push o).get? b=some x→h'.get? b=some x):∀ b x,s.heap.get? b=some x→h'.get? b=some x :=
  fun b x e=>hk b x (fun hm=>by rw [List.mem_singleton.mp hm] at e; exact Nat.lt_irrefl _ (Heap.lt_size e)) (Heap.get?_push_of_some _ e)
theorem rany (bs:List Bool):((List.range bs.length).any fun i=>(bs[i]?).getD false)=bs.any id:=by
  rw [Bool.eq_iff_iff,List.any_eq_true,List.any_eq_true]
  constructor
  · rintro ⟨i,hi,h⟩
    have:=List.mem_range.mp hi
    rw [List.getElem?_eq_getElem this] at h
    exact ⟨_,List.getElem_mem this,h⟩
  · rintro ⟨x,hx,h⟩
    obtain ⟨i,hi⟩:=List.getElem?_of_mem hx
    exact ⟨i,List.mem_range.mpr (List.getElem?_eq_some_iff.mp hi).1,by rw [hi]; exact h⟩
def rAA (K:PySem.W.Frag) (f:List Bool→Bool):List V→Hp→VK→Prop:=fun xs H Q=>∃ (p:Addr) (vs:List V) (bs:List Bool),xs=[.ref p]∧SqL K H p vs∧vs.map truV=bs.map some∧Q (.bl (f bs)) H
theorem tru_at {vs:List V} {us:List Value} {bs:List Bool} (r:Vals vs us) (h:vs.map truV=bs.map some) {i:Nat} {u:Value} (e:us[i]?=some u):∃ b,bs[i]?=some b∧∀ {prog:Program} {w:World} {A:Around} {s':Shared} {Q:Bool→Shared→Prop} {E:Value→Shared→Prop},Q b s'→wpAny (model prog w) A (truthy u) Q E s':=by
  have hi:i<vs.length:=by rw [r.length]; exact (List.getElem?_eq_some_iff.mp e).1
  have e1:vs[i]?=some vs[i]:=List.getElem?_eq_getElem hi
  obtain ⟨u',e2,ru⟩:=r.get e1
  rw [e] at e2
  cases e2
  have e3:(bs.map some)[i]?=some (truV vs[i]):=by rw [← h,List.getElem?_map,e1]; rfl
  rw [List.getElem?_map] at e3
  cases e4:bs[i]? with
  | none=>rw [e4] at e3; cases e3
  | some b =>
    rw [e4] at e3
    have e5:some b=truV vs[i]:=Option.some.inj e3
    refine ⟨b,rfl,fun {prog w A s' Q E} q=>?_⟩
    cases e6:vs[i] with
    | bl c =>
      rw [e6] at e5 ru
      cases e5
      cases ru
      exact wpAny_truthy_bool q
    | int n =>
      rw [e6] at e5 ru
      have e5:some b=some (n != 0):=e5
      cases e5
      obtain ⟨t,rfl⟩:=ru
      exact PySem.P.truthy_int q
    | _=>rw [e6] at e5; cases e5
theorem call_anyK (hc:X.calm=true) (hK:X.K=K):CallR X (.builtin "any") (rAA K fun bs=>bs.any id):=by
  subst hK
  intro pins s σ H xs us Q I r h
  obtain ⟨p,vs,bs,rfl,hq,hb,q⟩:=h
  obtain ⟨u,rfl,rx⟩:=vals1 r
  cases rx
  obtain ⟨its,r',pl,hz⟩:=I.list hq
  have hl:=pl.isList
  have hlt:p<s.heap.objs.size:=by obtain ⟨_,e,_⟩:=hl; exact Heap.lt_size e
  refine call_any_walk (wpAny_pyIter_list hl ?_)
  refine ⟨s.heap.objs.size,[s.heap.objs.size,p],[s.heap.objs.size],its.toArray.size,_,_,fun i=>(bs[i]?).getD false,rfl,Walks.list (A:=X.A.in1) (I.ok.hd hc) _ p (Nat.ne_of_lt hlt) its.toArray,
    ⟨⟨_,Heap.get?_push_size _ rfl,rfl,rfl⟩,hl.push _⟩,fun i v s' Q' E' hP hQ=>?_,fun h' tk hk=>?_⟩
  · obtain ⟨b,e,k⟩:=tru_at r' hb (i:=i) (u:=v) (by simpa using hP)
    simp only [e,Option.getD_some] at hQ
    exact k hQ
  · have e:((List.range its.toArray.size).any fun i=>(bs[i]?).getD false)=bs.any id:=by
      have:its.length=bs.length:=by
        have:=congrArg List.length hb
        rw [List.length_map,List.length_map] at this
        rw [← r'.length]; exact this
      rw [List.size_toArray,this]; exact rany bs
    rw [e]
    exact ⟨.bl _,H,I.kept (t':=tk) (kept_it hk),rfl,q⟩
end
end L2
namespace VL
open PySem L2
open Classical
noncomputable section
section
variable [Tabs] {K:PySem.W.Frag} {ta tb tc:TE} {a b c:DE}
def trus:List D→Option (List Bool)
  | []=>some []
  | .bl b::r=>(trus r).map (b::·)
  | .int i::r=>(trus r).map ((i != 0)::·)
  | _=>none
theorem trus_is {H:Hp} {Z:Addr→Prop}:∀ {vs:List V} {ds:List D} {bs:List Bool},IsL K H Z vs ds→trus ds=some bs→vs.map truV=bs.map some
  | _,[],_,.nil,e=>by cases e; rfl
  | _,d::r,bs,.cons h t,e=>by
    unfold trus at e
    split at e
    · rename_i q; cases q
    · rename_i b r' q
      cases q
      cases q:trus r with
      | none=>rw [q] at e; cases e
      | some cs=>rw [q] at e; cases e; rw [List.map_cons,List.map_cons,trus_is t q,h.v_bl]; rfl
    · rename_i b r' q
      cases q
      cases q:trus r with
      | none=>rw [q] at e; cases e
      | some cs=>rw [q] at e; cases e; rw [List.map_cons,List.map_cons,trus_is t q,h.v_int]; rfl
    · cases e
theorem trus_int:∀ (ns:List Int),trus (ns.map D.int)=some (ns.map (· != 0))
  | []=>rfl
  | b::r=>by show (trus (r.map D.int)).map ((b != 0)::·)=_; rw [trus_int r]; rfl
def aaD (g:List Bool→Bool):D→Option D
  | .lst ds=>(trus ds).map fun bs=>.bl (g bs)
  | _=>none
theorem si_aa {g:List Bool→Bool} (ha:SemB K ta a):SemI K (tCB (rAA K g) (tCons ta tNil)) (dF1 (aaD g) a):=by
  refine si_f1 (fun {H v d e Q} h q=>?_) ha
  cases h with
  | lst hz h hl r =>
    rename_i p vs ds
    have q:(trus ds).map (fun bs=>D.bl (g bs))=some e:=q
    cases q1:trus ds with
    | none=>rw [q1] at q; cases q
    | some bs =>
      rw [q1] at q
      cases q
      exact ⟨rfl,fun k=>⟨p,vs,bs,rfl,.inl h,trus_is r q1,k⟩⟩
  | _=>cases q
def anyD:D→Option D:=aaD fun bs=>bs.any id
theorem si_any (ha:SemB K ta a):SemI K (tCB (rAA K fun bs=>bs.any id) (tCons ta tNil)) (dF1 anyD a):=si_aa ha
end
end
end VL
namespace VL
open PySem L2
open Classical
noncomputable section
instance (priority:=low) noTabs:Tabs:=⟨[]⟩
structure Wk where
  nx:Rho→Prop
  rt:D→Prop
  bk:Rho→Prop:=fun _=>False
  ct:Rho→Prop:=fun _=>False
@[irreducible] def Wp (s:DS) (ρ:Rho) (W:Wk):Prop:=match s ρ with
  | .nx ρ'=>W.nx ρ'
  | .rt d=>W.rt d
  | .bk ρ'=>W.bk ρ'
  | .ct ρ'=>W.ct ρ'
  | .no=>False
section
variable {s u b:DS} {ρ:Rho} {W:Wk} {i:Nat} {a e k:DE} {d:D} {c:Rho→Option Bool} {es:Rho→Option (List D)} {ds:List D} {g:DG}
theorem wp_seq (h:Wp s ρ { W with nx:=fun ρ'=>Wp u ρ' W }):Wp (sSeq s u) ρ W:=by
  unfold Wp sSeq at *
  cases e:s ρ <;> rw [e] at h <;> exact h
theorem wp_pass (h:W.nx ρ):Wp sPass ρ W:=by unfold Wp sPass; exact h
theorem wp_cnt (h:W.ct ρ):Wp sCnt ρ W:=by unfold Wp sCnt; exact h
theorem wp_ret (h:a ρ=some d) (k:W.rt d):Wp (sRet a) ρ W:=by unfold Wp sRet; rw [h]; exact k
theorem wp_if {x:Bool} (h:c ρ=some x) (ht:x=true→Wp s ρ W) (hf:x=false→Wp u ρ W):Wp (sIf c s u) ρ W:=by
  unfold Wp sIf at *
  rw [h]
  cases x
  · exact hf rfl
  · exact ht rfl
theorem wp_ifp {p:Prop} {_:Decidable p} (h:c ρ=some (decide p)) (ht:p→Wp s ρ W) (hf:¬ p→Wp u ρ W):Wp (sIf c s u) ρ W:=by
  refine wp_if h (fun q=>ht (of_decide_eq_true q)) fun q=>hf (of_decide_eq_false q)
theorem wp_ifT (h:c ρ=some true) (ht:Wp s ρ W):Wp (sIf c s u) ρ W:=wp_if h (fun _=>ht) fun q=>by cases q
theorem wp_ifF (h:c ρ=some false) (ht:Wp u ρ W):Wp (sIf c s u) ρ W:=wp_if h (fun q=>by cases q) fun _=>ht
theorem wp_set (h:a ρ=some d) (k:W.nx (ρ.set i (.pu d))):Wp (sSet i a) ρ W:=by unfold Wp sSet; rw [h]; exact k
theorem wp_setO (h:es ρ=some ds) (hi:i < ρ.length) (k:W.nx (ρ.set i (.ol ds))):Wp (sSetO i es) ρ W:=by unfold Wp sSetO; rw [h]; simp only [if_pos hi]; exact k
theorem wp_frz (h:Wp s (frz i ρ) W):Wp (sFrz i s) ρ W:=by unfold Wp sFrz at *; exact h
theorem wp_app (h0:ρ.getD i .un=.ol ds) (h:a ρ=some d) (hl:ds.length<sizeLine) (k:W.nx (ρ.set i (.ol (ds++[d])))):Wp (sApp i a) ρ W:=by unfold Wp sApp; rw [h0]; simp only [h,if_pos hl]; exact k
theorem wp_put {n:Int} {j:Nat} (h0:ρ.getD i .un=.ol ds) (h1:a ρ=some d) (h:e ρ=some (.int n)) (hj:ixN ds.length n=some j) (k:W.nx (ρ.set i (.ol (ds.set j d)))):Wp (sPut i e a) ρ W:=by
  unfold Wp sPut; rw [h0]; simp only [h,h1,hj]; exact k
theorem wp_augP {f:Int→Int→Int} {n x y:Int} {j:Nat} (h0:ρ.getD i .un=.ol ds) (h:e ρ=some (.int n)) (hj:ixN ds.length n=some j) (hx:ds[j]?=some (.int x)) (h1:a ρ=some (.int y)) (k:W.nx (ρ.set i (.ol (ds.set j (.int (f x y)))))):Wp (sAugP f i e a) ρ W:=by
  unfold Wp sAugP; rw [h0]; simp only [h,h1,hj,hx]; exact k
theorem wp_for {it:Rho→Option (List D)} (h:it ρ=some ds) (I:Nat→Rho→Prop) (h0:I 0 ρ)
    (hs:∀ (j:Nat) (d:D) (ρ:Rho),ds[j]?=some d→I j ρ→∃ ρ1,g d ρ=some ρ1∧Wp b ρ1 { W with nx:=I (j+1),ct:=I (j+1),bk:=W.nx })
    (he:∀ ρ,I ds.length ρ→W.nx ρ):Wp (sFor it g b) ρ W:=by
  have key:∀ (n j:Nat) (ρ:Rho),n=ds.length-j→j≤ds.length→I j ρ→Wp (fun ρ=>forD g b (ds.drop j) ρ) ρ W:=by
    intro n
    induction n with
    | zero =>
      intro j ρ hn hj hI
      have e:j=ds.length:=by omega
      subst e
      unfold Wp
      simp only [List.drop_length,forD]
      exact he ρ hI
    | succ n ih =>
      intro j ρ hn hj hI
      have hlt:j<ds.length:=by omega
      obtain ⟨ρ1,e1,w1⟩:=hs j ds[j] ρ (List.getElem?_eq_getElem hlt) hI
      unfold Wp
      dsimp only
      rw [List.drop_eq_getElem_cons hlt]
      unfold forD
      rw [e1]
      unfold Wp at w1
      dsimp only
      cases e2:b ρ1 with
      | nx ρ2=>rw [e2] at w1; have q:=ih (j+1) ρ2 (by omega) hlt w1; unfold Wp at q; exact q
      | ct ρ2=>rw [e2] at w1; have q:=ih (j+1) ρ2 (by omega) hlt w1; unfold Wp at q; exact q
      | bk ρ2=>rw [e2] at w1; exact w1
      | rt d=>rw [e2] at w1; exact w1
      | no=>rw [e2] at w1; exact w1
  have:=key _ 0 ρ rfl (Nat.zero_le _) h0
  unfold Wp at this
  unfold Wp sFor
  rw [h]
  exact this
theorem wp_while (I:Nat→Rho→Prop) (n:Nat) (h0:I n ρ) (hs:∀ n ρ,I n ρ→∃ x,c ρ=some x∧(x=true→Wp b ρ { W with nx:=fun ρ'=>∃ m,m<n∧I m ρ',ct:=fun ρ'=>∃ m,m<n∧I m ρ',bk:=W.nx })∧(x=false→W.nx ρ)):Wp (sWhile c b) ρ W:=by
  have key:∀ n ρ,I n ρ→∃ r,whN c b (n+1) ρ=r∧r≠.no∧(match r with | .nx ρ'=>W.nx ρ' | .rt d=>W.rt d | .bk ρ'=>W.bk ρ' | .ct ρ'=>W.ct ρ' | .no=>False):=by
    intro n
    induction n using Nat.strongRecOn with
    | _ n ih =>
      intro ρ hI
      obtain ⟨x,ec,ht,hf⟩:=hs n ρ hI
      have un:whN c b (n+1) ρ=(match c ρ with | some false=>Res.nx ρ | some true=>(match b ρ with | .nx ρ'=>whN c b n ρ' | .ct ρ'=>whN c b n ρ' | .bk ρ'=>.nx ρ' | .rt d=>.rt d | .no=>.no) | none=>.no):=rfl
      rw [un,ec]
      cases x with
      | false=>exact ⟨.nx ρ,rfl,(fun z=>by cases z),hf rfl⟩
      | true =>
        have w:=ht rfl
        unfold Wp at w
        have step:∀ ρ',(∃ m,m<n∧I m ρ')→∃ r,whN c b n ρ'=r∧r≠.no∧(match r with | .nx ρ'=>W.nx ρ' | .rt d=>W.rt d | .bk ρ'=>W.bk ρ' | .ct ρ'=>W.ct ρ' | .no=>False):=by
          rintro ρ' ⟨m,hm,hI'⟩
          obtain ⟨r,e,hr,q⟩:=ih m hm ρ' hI'
          refine ⟨r,?_,hr,q⟩
          obtain ⟨k,rfl⟩:∃ k,n=m+1+k:=⟨n-m-1,by omega⟩
          rw [whN_le (by rw [e]; exact hr),e]
        cases eb:b ρ with
        | nx ρ'=>rw [eb] at w; exact step ρ' w
        | ct ρ'=>rw [eb] at w; exact step ρ' w
        | bk ρ'=>rw [eb] at w; exact ⟨.nx ρ',rfl,(fun z=>by cases z),w⟩
        | rt d=>rw [eb] at w; exact ⟨.rt d,rfl,(fun z=>by cases z),w⟩
        | no=>rw [eb] at w; exact w.elim
  obtain ⟨r,e,hr,q⟩:=key n ρ h0
  unfold Wp
  rw [sWhile_of e hr]
  exact q
end
section
variable {ρ:Rho} {a b c:DE} {i j k:Int} {d e:D} {es:Rho→Option (List D)} {ds:List D}
theorem ev_add (ha:a ρ=some (.int i)) (hb:b ρ=some (.int j)):dAdd a b ρ=some (.int (i+j)):=by unfold dAdd dII; rw [ha,hb]
theorem ev_sub (ha:a ρ=some (.int i)) (hb:b ρ=some (.int j)):dSub a b ρ=some (.int (i-j)):=by unfold dSub dII; rw [ha,hb]
theorem ev_mul (ha:a ρ=some (.int i)) (hb:b ρ=some (.int j)) (h:IntMulOk i j):dMul a b ρ=some (.int (i*j)):=by unfold dMul dII; rw [ha,hb]; exact gC_pos h
theorem ev_fdiv (ha:a ρ=some (.int i)) (hb:b ρ=some (.int j)) (h:0<j∧j.natAbs.log2<9000):dFdiv a b ρ=some (.int (i / j)):=by unfold dFdiv dII; rw [ha,hb]; exact gC_pos (C:=fun _ j=>0<j∧j.natAbs.log2<9000) h
theorem ev_mod (ha:a ρ=some (.int i)) (hb:b ρ=some (.int j)) (h:0<j):dMod a b ρ=some (.int (i % j)):=by unfold dMod dII; rw [ha,hb]; exact gC_pos (C:=fun _ j=>0<j) h
theorem ev_pow (ha:a ρ=some (.int i)) (hb:b ρ=some (.int j)) (h:CPow i j):dPow a b ρ=some (.int (i ^ j.toNat)):=by unfold dPow dII; rw [ha,hb]; exact gC_pos h
theorem ev_lt (ha:a ρ=some (.int i)) (hb:b ρ=some (.int j)):dLt a b ρ=some (.bl (decide (i<j))):=by unfold dLt dII; rw [ha,hb]
theorem ev_le (ha:a ρ=some (.int i)) (hb:b ρ=some (.int j)):dLe a b ρ=some (.bl (decide (i≤j))):=by unfold dLe dII; rw [ha,hb]
theorem ev_gt (ha:a ρ=some (.int i)) (hb:b ρ=some (.int j)):dGt a b ρ=some (.bl (decide (j<i))):=by unfold dGt dII; rw [ha,hb]
theorem ev_neg (ha:a ρ=some (.int i)):dNeg a ρ=some (.int (-i)):=by unfold dNeg; rw [ha]
theorem ev_max2 (ha:a ρ=some (.int i)) (hb:b ρ=some (.int j)):dMax2 a b ρ=some (.int (max i j)):=by
  have e:(if j > i then j else i)=max i j:=by split <;> omega
  unfold dMax2 dII; rw [ha,hb,← e]
theorem ev_min2 (ha:a ρ=some (.int i)) (hb:b ρ=some (.int j)):dMin2 a b ρ=some (.int (min i j)):=by
  have e:(if j<i then j else i)=min i j:=by split <;> omega
  unfold dMin2 dII; rw [ha,hb,← e]
theorem ev_t {x:Bool} (ha:a ρ=some (.bl x)):dT a ρ=some x:=by unfold dT; rw [ha]
theorem ev_tru {x:Bool} (ha:a ρ=some d) (h:truD d=some x):dTru a ρ=some x:=by unfold dTru; rw [ha]; exact h
theorem ev_not {p:Rho→Option Bool} {x:Bool} (ha:p ρ=some x):dNot p ρ=some (!x):=by unfold dNot; rw [ha]
theorem ev_and {p q:Rho→Option Bool} {x y:Bool} (ha:p ρ=some x) (hb:x=true→q ρ=some y):dAnd p q ρ=some (x&&y):=by
  unfold dAnd; rw [ha]; cases x
  · rfl
  · rw [hb rfl]; rfl
theorem ev_or {p q:Rho→Option Bool} {x y:Bool} (ha:p ρ=some x) (hb:x=false→q ρ=some y):dOr p q ρ=some (x || y):=by
  unfold dOr; rw [ha]; cases x
  · rw [hb rfl]; rfl
  · rfl
theorem ev_andV {x y:Bool} (ha:a ρ=some (.bl x)) (hb:x=true→b ρ=some (.bl y)):dAndV a b ρ=some (.bl (x&&y)):=by
  unfold dAndV; rw [ha]; cases x
  · rfl
  · rw [hb rfl]; rfl
theorem ev_notV {x:Bool} (ha:a ρ=some (.bl x)):dNotV a ρ=some (.bl (!x)):=by unfold dNotV; rw [ha]
theorem ev_scal (ha:a ρ=some d) (h:d.scal=true):gScal a ρ=some d:=by unfold gScal; rw [ha]; exact if_pos h
theorem ev_lst (h:es ρ=some ds):dLst es ρ=some (.lst ds):=by unfold dLst; rw [h]; rfl
theorem ev_tup (h:es ρ=some ds):dTup es ρ=some (.tup ds):=by unfold dTup; rw [h]; rfl
theorem ev_cons (h:a ρ=some d) (h2:es ρ=some ds):dCons a es ρ=some (d::ds):=by unfold dCons; rw [h,h2]
theorem ev_ix (ha:a ρ=some d) (hb:b ρ=some (.int i)) (h:ixD d i=some e):dIx a b ρ=some e:=by unfold dIx; rw [ha,hb]; exact h
theorem ev_f1 {g:D→Option D} (ha:a ρ=some d) (h:g d=some e):dF1 g a ρ=some e:=by unfold dF1; rw [ha]; exact h
theorem ev_call {F:List D→Option D} (h:es ρ=some ds) (h2:F ds=some d):dCall F es ρ=some d:=by unfold dCall; rw [h]; exact h2
theorem ev_eq {neg:Bool} (ha:a ρ=some d) (hb:b ρ=some e) (h:cmpb 20 d e=true):dEq neg a b ρ=some (.bl (if neg=true then !decide (d=e) else decide (d=e))):=by unfold dEq; rw [ha,hb]; exact if_pos h
theorem ev_eqI {neg:Bool} (ha:a ρ=some (.int i)) (hb:b ρ=some (.int j)):dEq neg a b ρ=some (.bl (if neg=true then !decide (i=j) else decide (i=j))):=by
  rw [ev_eq ha hb rfl]
  have e:decide (D.int i=D.int j)=decide (i=j):=by rw [dec_int]; rw [Bool.eq_iff_iff]; simp
  rw [e]
theorem ev_eqF (ha:a ρ=some (.int i)) (hb:b ρ=some (.int j)):dEq false a b ρ=some (.bl (decide (i=j))):=ev_eqI (neg:=false) ha hb
theorem ev_neF (ha:a ρ=some (.int i)) (hb:b ρ=some (.int j)):dEq true a b ρ=some (.bl (decide (i≠j))):=by
  rw [ev_eqI (neg:=true) ha hb,if_pos rfl]
  congr 2
  rw [Bool.eq_iff_iff]
  simp
theorem ev_eqSame {d:D} (ha:a ρ=some d) (hb:b ρ=some d) (h:cmpb 20 d d=true):dEq false a b ρ=some (.bl true):=by
  rw [ev_eq ha hb h,if_neg Bool.false_ne_true,decide_eq_true rfl]
theorem cmp_ints {n:Nat} (xs ys:List Int):cmpb (n+1) (.lst (xs.map D.int)) (.lst (ys.map D.int))=true:=by
  show (decide _ || (List.zip (xs.map D.int) (ys.map D.int)).all fun p=>cmpb n p.1 p.2)=true
  rw [Bool.or_eq_true]
  refine .inr (List.all_eq_true.mpr fun q hq=>?_)
  obtain ⟨a,b⟩:=q
  obtain ⟨h1,h2⟩:=List.of_mem_zip hq
  obtain ⟨x,_,rfl⟩:=List.mem_map.mp h1
  obtain ⟨y,_,rfl⟩:=List.mem_map.mp h2
  cases n <;> rfl
theorem ev_asL (ha:a ρ=some d) (h:lof d=some ds):asL a ρ=some ds:=by unfold asL; rw [ha]; exact h
theorem ev_rg1 (ha:a ρ=some (.int i)) (h:-(2 ^ 62)≤i∧i.toNat≤sizeLine):dRg1 a ρ=some (upL 0 i.toNat):=by unfold dRg1; rw [ha]; exact if_pos h
theorem ev_rg2 (ha:a ρ=some (.int i)) (hb:b ρ=some (.int j)) (h:-(2 ^ 62)≤i∧i<2 ^ 62∧-(2 ^ 62)≤j∧j<2 ^ 62∧(j-i).toNat≤sizeLine):dRg2 a b ρ=some (upL i (j-i).toNat):=by unfold dRg2; rw [ha,hb]; exact if_pos h
theorem ev_sl {lo hi:Rho→Option (Option Int)} {l u:Option Int} (h:asL a ρ=some ds) (h1:lo ρ=some l) (h2:hi ρ=some u):dSl a lo hi ρ=some (cutL ds l u):=by unfold dSl; rw [h,h1,h2]
theorem ev_flat (h:es ρ=some ds) (hf:flatL ds=true):gFlat es ρ=some ds:=by unfold gFlat; rw [h]; exact if_pos hf
theorem ev_lof (h:a ρ=some d) (hl:lof d=some ds):dLof a ρ=some ds:=by
  unfold dLof; rw [h]
  cases d with
  | lst xs=>exact hl
  | scr ns=>exact hl
  | _=>cases hl
theorem ev_cat {xs ys:List D} (ha:a ρ=some (.lst xs)) (hb:b ρ=some (.lst ys)) (h:xs.length+ys.length≤sizeLine):dCat a b ρ=some (xs++ys):=by unfold dCat; rw [ha,hb]; exact if_pos h
theorem run_of {n:Nat} {ms:List Bool} {b:DS} {ds:List D} {P:D→Prop} (h:Wp b (stD n ms ds) { nx:=fun _=>P .non,rt:=P }):∃ d,runD n ms b ds=some d∧P d:=by
  unfold Wp at h
  unfold runD
  cases e:b (stD n ms ds) with
  | nx ρ=>rw [e] at h; exact ⟨_,rfl,h⟩
  | rt d=>rw [e] at h; exact ⟨_,rfl,h⟩
  | bk ρ=>rw [e] at h; exact h.elim
  | ct ρ=>rw [e] at h; exact h.elim
  | no=>rw [e] at h; exact h.elim
theorem run_eq {n:Nat} {ms:List Bool} {b:DS} {ds:List D} {d:D} (h:Wp b (stD n ms ds) { nx:=fun _=>D.non=d,rt:=fun x=>x=d }):runD n ms b ds=some d:=by
  obtain ⟨x,e,rfl⟩:=run_of (P:=fun x=>x=d) h
  exact e
theorem run_ofF {F:List D→Option D} {n:Nat} {ms:List Bool} {b:DS} (hF:F=runD n ms b) {ds:List D} {P:D→Prop} (h:Wp b (stD n ms ds) { nx:=fun _=>P .non,rt:=P }):∃ d,F ds=some d∧P d:=by rw [hF]; exact run_of h
theorem run_eqF {F:List D→Option D} {n:Nat} {ms:List Bool} {b:DS} (hF:F=runD n ms b) {ds:List D} {d:D} (h:Wp b (stD n ms ds) { nx:=fun _=>D.non=d,rt:=fun x=>x=d }):F ds=some d:=by rw [hF]; exact run_eq h
theorem imul {i j:Int} (h:(-(2 ^ 64)<i∧i<2 ^ 64)∨(-(2 ^ 64)<j∧j<2 ^ 64)):IntMulOk i j:=CMul.ok h
theorem ixS {ns:List Int} {i:Int} (h0:0≤i) (h1:i<ns.length):ixD (.scr ns) i=some (.int (ns.getD i.toNat 0)):=by
  show (atI ns i).map D.int=_
  unfold atI ixN
  rw [if_pos h0,if_pos h1]
  have hi:i.toNat<ns.length:=by omega
  show (ns[i.toNat]?).map D.int=_
  rw [List.getElem?_eq_getElem hi,List.getD_eq_getElem?_getD,List.getElem?_eq_getElem hi]
  rfl
def pk2 (i x y:Int):Int:=if i=0 then x else y
def pk3 (i x y z:Int):Int:=if i=0 then x else if i=1 then y else z
theorem ix2I (c x y:Int):ixD (.lst [.int x,.int y]) (c % 2)=some (.int (pk2 (c % 2) x y)):=by
  have h:c % 2=0∨c % 2=1:=by omega
  rcases h with h | h <;> rw [h] <;> rfl
theorem ix3I (c x y z:Int):ixD (.lst [.int x,.int y,.int z]) (c % 3)=some (.int (pk3 (c % 3) x y z)):=by
  have h:c % 3=0∨c % 3=1∨c % 3=2:=by omega
  rcases h with h | h | h <;> rw [h] <;> rfl
theorem ixN_in {n:Nat} {i:Int} (h0:0≤i) (h1:i<n):ixN n i=some i.toNat:=by unfold ixN; rw [if_pos h0,if_pos h1]
end
end
end VL
namespace L2
open PySem PySem.Spec PyProof.Rows
section
variable {prog:Program} {w:World} {A:Around} {R:Result→Shared→Prop} {I:Addr} {fp wr:List Addr} {n:Nat} {P:Nat→Value→Prop} {St:Nat→Heap→Prop} {kw:List (Str×Value)}
theorem minD_loop (W:Walks prog w A.in1 I fp wr n P St) (bt:Nat→Nat→Bool) (hcmp:CmpOf prog w A.in1 .Lt P bt) (S:Addr) (hSf:S∉fp) :
    ∀ (k j:Nat) (s:Shared) (vb:Value) (c:Nat),n-(j+1)=k→j+1≤n→St (j+1) s.heap→P (argBest bt j) vb →
    s.heap.get? S=some { cls:=.type "list", dict:=none,data:=.seq #[vb,vb] c,slots:=#[] } →
    (∀ v h' tk,P (argBest bt (n-1)) v→(∀ b o,b∉wr→b≠S→s.heap.get? b=some o→h'.get? b=some o)→R (.ok (.ret v)) { s with heap:=h',toks:=tk }) →
    codeAny (model prog w) A (.builtin "min.loop" ⟨[.ref I,.none,.ref S],kw⟩) R s:=by
  have hSw:S∉wr:=fun h=>hSf (W.sub _ h)
  have hname:(toString "min" ++ toString ".loop" : String) = "min.loop" := by decide
  intro k
  induction k with
  | zero =>
    intro j s vb c hk hj hst hPb hS hR
    have hin:j+1=n:=by omega
    refine codeAny_builtin F.entry_min_loop ?_
    rw [Around.under_plainId F.plain_min_loop _]
    show wpAny _ A.in1 (seqItems? (.ref S) >>= _) _ _ s
    refine wpAny_bind (wpAny_seqItems hS rfl ?_)
    show wpAny _ A.in1 (tryCatch (pyNext (.ref I)) _ >>= _) _ _ s
    refine wpAny_bind (wpAny_tryCatch (W.done s _ _ (hin ▸ hst) fun h' tk hk'=>?_))
    have hS':=hk' S _ hSw hS
    show wpAny _ A.in1 (updateSeq S (fun _=>#[]) >>= _) _ _ _
    refine wpAny_bind ?_
    refine wpAny_updateSeq hS' rfl (wpAny_bind (wpAny_letGo (wpAny_pure ?_)))
    refine hR vb _ tk (by rw [← hin]; exact hPb) fun b o hbw hbS e=>(Heap.get?_update_other _ _ (Ne.symm hbS)).trans (hk' b o hbw e)
  | succ k ih =>
    intro j s vb c hk hj hst hPb hS hR
    have hlt:j+1<n:=by omega
    refine codeAny_builtin F.entry_min_loop ?_
    rw [Around.under_plainId F.plain_min_loop _]
    show wpAny _ A.in1 (seqItems? (.ref S) >>= _) _ _ s
    refine wpAny_bind (wpAny_seqItems hS rfl ?_)
    show wpAny _ A.in1 (tryCatch (pyNext (.ref I)) _ >>= _) _ _ s
    refine wpAny_bind (wpAny_tryCatch (W.item (j+1) s _ _ hlt hst fun v h' tk hP hst' hk'=>?_))
    have hS':=hk' S _ hSw hS
    show wpAny _ A.in1 (tryCatch (holding [v,v] (richCompare .Lt v vb >>= _)) _ >>= _) _ _ _
    refine wpAny_bind (wpAny_tryCatch (wpAny_holding (wpAny_bind (hcmp (j+1) (argBest bt j) v vb _ _ _ hP hPb ?_))))
    refine wpAny_bind (wpAny_holding (wpAny_truthy_bool ?_))
    refine wpAny_bind (wpAny_letGo (wpAny_pure ?_))
    cases hb:bt (j+1) (argBest bt j) with
    | true =>
      simp only [if_true]
      refine wpAny_bind ?_
      refine wpAny_updateSeq hS' rfl (wpAny_bind (wpAny_letGo ?_))
      rw [hname]
      refine wpAny_pure ⟨plainId_quiet F.plain_min_loop _,ih (j+1) _ v _ (by omega) hlt (W.frame _ _ _ hst' fun b hbf o e=>?_) (by simp only [argBest,hb,if_true]; exact hP) (Heap.get?_update_self _ hS' rfl)
        fun v' h'' tk'' hP' hk''=>?_⟩
      · exact (Heap.get?_update_other _ _ (fun h:S=b=>hSf (by rw [h]; exact hbf))).trans e
      · exact hR v' h'' tk'' hP' fun b o hbw hbS e=>hk'' b o hbw hbS ((Heap.get?_update_other _ _ (Ne.symm hbS)).trans (hk' b o hbw e))
    | false =>
      simp only [Bool.false_eq_true,if_false]
      refine wpAny_bind (wpAny_letGo ?_)
      rw [hname]
      refine wpAny_pure ⟨plainId_quiet F.plain_min_loop _,ih (j+1) _ vb c (by omega) hlt hst' (by simp only [argBest,hb,Bool.false_eq_true,if_false]; exact hPb) hS' fun v' h'' tk'' hP' hk''=>?_⟩
      exact hR v' h'' tk'' hP' fun b o hbw hbS e=>hk'' b o hbw hbS (hk' b o hbw e)
theorem minD_first (W:Walks prog w A.in1 I fp wr n P St) (bt:Nat→Nat→Bool) (hcmp:CmpOf prog w A.in1 .Lt P bt) (S:Addr) (hSf:S∉fp) (hn:0<n) {s:Shared} {c:Nat} (hst:St 0 s.heap)
    (hS:s.heap.get? S=some { cls:=.type "list", dict:=none,data:=.seq #[] c,slots:=#[] })
    (hR:∀ v h' tk,P (argBest bt (n-1)) v→(∀ b o,b∉wr→b≠S→s.heap.get? b=some o→h'.get? b=some o)→R (.ok (.ret v)) { s with heap:=h',toks:=tk }) :
    codeAny (model prog w) A (.builtin "min.loop" ⟨[.ref I,.none,.ref S],kw⟩) R s:=by
  have hSw:S∉wr:=fun h=>hSf (W.sub _ h)
  have hname:(toString "min" ++ toString ".loop" : String) = "min.loop" := by decide
  refine codeAny_builtin F.entry_min_loop ?_
  rw [Around.under_plainId F.plain_min_loop _]
  show wpAny _ A.in1 (seqItems? (.ref S) >>= _) _ _ s
  refine wpAny_bind (wpAny_seqItems hS rfl ?_)
  show wpAny _ A.in1 (tryCatch (pyNext (.ref I)) _ >>= _) _ _ s
  refine wpAny_bind (wpAny_tryCatch (W.item 0 s _ _ hn hst fun v h' tk hP hst' hk'=>?_))
  have hS':=hk' S _ hSw hS
  show wpAny _ A.in1 (updateSeq S (fun _=>#[v,v]) >>= _) _ _ _
  refine wpAny_bind ?_
  refine wpAny_updateSeq hS' rfl ?_
  rw [hname]
  refine wpAny_pure ⟨plainId_quiet F.plain_min_loop _,minD_loop W bt hcmp S hSf _ 0 _ v _ rfl hn (W.frame _ _ _ hst' fun b hbf o e=>?_) hP (Heap.get?_update_self _ hS' rfl) fun v' h'' tk'' hP' hk''=>?_⟩
  · exact (Heap.get?_update_other _ _ (fun h:S=b=>hSf (by rw [h]; exact hbf))).trans e
  · exact hR v' h'' tk'' hP' fun b o hbw hbS e=>hk'' b o hbw hbS ((Heap.get?_update_other _ _ (Ne.symm hbS)).trans (hk' b o hbw e))
theorem minD_empty (W:Walks prog w A.in1 I fp wr n P St) (S:Addr) (hSf:S∉fp) (hn:n=0) {s:Shared} {c:Nat} {d:Value} (hst:St 0 s.heap)
    (hS:s.heap.get? S=some { cls:=.type "list", dict:=none,data:=.seq #[] c,slots:=#[] })
    (hR:∀ h' tk,(∀ b o,b∉wr→s.heap.get? b=some o→h'.get? b=some o)→R (.ok (.ret d)) { s with heap:=h',toks:=tk }) :
    codeAny (model prog w) A (.builtin "min.loop" ⟨[.ref I,.none,.ref S],[("default", d)]⟩) R s:=by
  have hSw:S∉wr:=fun h=>hSf (W.sub _ h)
  refine codeAny_builtin F.entry_min_loop ?_
  rw [Around.under_plainId F.plain_min_loop _]
  show wpAny _ A.in1 (seqItems? (.ref S) >>= _) _ _ s
  refine wpAny_bind (wpAny_seqItems hS rfl ?_)
  show wpAny _ A.in1 (tryCatch (pyNext (.ref I)) _ >>= _) _ _ s
  subst hn
  refine wpAny_bind (wpAny_tryCatch (W.done s _ _ hst fun h' tk hk'=>?_))
  show wpAny _ A.in1 (rule _ >>= _) _ _ _
  exact wpAny_bind (wpAny_rule (wpAny_pure (hR h' tk hk')))
end
section
variable {prog:Program} {w:World} {A:Around} {E:Value→Shared→Prop} {s:Shared}
theorem args_minD (a d:Value):argsOk "min" ⟨[a],[("default", d)]⟩:=by unfold argsOk; kernel_rfl
theorem call_minD_walk {x d:Value} {Q:Value→Shared→Prop}
    (h:wpAny (model prog w) A.in1 (pyIter x) (fun it s₂=>∃ I fp wr n P St bt,it=.ref I∧Walks prog w A.in1 I fp wr n P St∧St 0 s₂.heap∧(∀ b∈fp,b<s₂.heap.objs.size)∧CmpOf prog w A.in1 .Lt P bt ∧
      (0<n→∀ v h' tk,P (argBest bt (n-1)) v→(∀ b o,b∉wr→s₂.heap.get? b=some o→h'.get? b=some o)→Q v { s₂ with heap:=h',toks:=tk }) ∧
      (n=0→∀ h' tk,(∀ b o,b∉wr→s₂.heap.get? b=some o→h'.get? b=some o)→Q d { s₂ with heap:=h',toks:=tk })) E s) :
    wpAny (model prog w) A (call (.builtin "min") [x] [("default", d)]) Q E s:=by
  have hname:(toString "min" ++ toString ".loop" : String) = "min.loop" := by decide
  refine call_function_treeK F.kind_min F.plain_min F.entry_min (args_minD _ _) ?_
  show wpAny _ A.in1 (Builtin.Builtins.bindParams "min" ["key", "default"] 0 ⟨[],[("default", d)]⟩ >>= _) _ _ s
  refine wpAny_bind (wpAny_of_eq (show Builtin.Builtins.bindParams "min" ["key", "default"] 0 ⟨[],[("default", d)]⟩=pure [none,some d] from by with_unfolding_all rfl) ?_)
  refine wpAny_bind (wpAny_pure ?_)
  refine wpAny_bind (wpAny_mono h (fun it s₂ h₂=>?_) fun _ _ e=>e)
  obtain ⟨I,fp,wr,n,P,St,bt,rfl,W,hst,hfp,hcmp,hQ1,hQ0⟩:=h₂
  refine wpAny_bind (wpAny_newObj_type ?_)
  have hSf:s₂.heap.objs.size∉fp:=fun hm=>Nat.lt_irrefl _ (hfp _ hm)
  rw [hname]
  refine wpAny_pure ⟨plainId_quiet F.plain_min_loop _,?_⟩
  have hst':St 0 (s₂.heap.push { cls:=.type "list", data:=.seq #[] }):=W.frame _ _ _ hst fun b _ o e=>Heap.get?_push_of_some _ e
  rcases Nat.eq_zero_or_pos n with hn | hn
  · exact minD_empty W s₂.heap.objs.size hSf hn hst' (Heap.get?_push_size _ rfl) fun h' tk hk=>hQ0 hn h' tk fun b o hbw e=>hk b o hbw (Heap.get?_push_of_some _ e)
  · exact minD_first W bt hcmp s₂.heap.objs.size hSf hn hst' (Heap.get?_push_size _ rfl) fun v h' tk hP hk=>hQ1 hn v h' tk hP fun b o hbw e=>hk b o hbw (Nat.ne_of_lt (Heap.lt_size e)) (Heap.get?_push_of_some _ e)
end
section
variable {X:Cx}
theorem call_minD (hc:X.calm=true):CallKR X (.builtin "min") ["default"] (fun xs zs H Q=>∃ (p:Addr) (ns:List Int) (d:V),xs=[.ref p]∧zs=[d]∧SqL X.K H p (ns.map V.int)∧(ns=[]→Q d H)∧∀ M,M∈ns→(∀ a,a∈ns→M≤a)→Q (.int M) H):=by
  intro pins s σ H xs zs us ws Q I r rz h
  obtain ⟨p,ns,d,rfl,rfl,hq,q0,q1⟩:=h
  obtain ⟨u,rfl,rx⟩:=vals1 r
  obtain ⟨dv,rfl,rd⟩:=vals1 rz
  cases rx
  obtain ⟨its,r',pl,hz⟩:=I.list hq
  have hi:=intsAre_of r'
  obtain ⟨ys,e⟩:=hi.allInts.items
  have hns:ns=ys.toList.map (·.1):=by
    rw [← hi.numsOf,← nums_intItems,← e]
  have hl:=pl.isList
  rw [e] at hl
  refine call_minD_walk (iter_intList hl fun s₂ e st hfp hlI=>?_)
  subst e
  refine ⟨_,_,_,_,_,_,_,rfl,Walks.list (A:=X.A.in1) (I.ok.hd hc) _ p hlI (intItems ys),st,hfp,CmpOf.ints_lt (numAt ys) (fun _ _=>intItems_at),fun hn v h' tk hP hk=>?_,fun hn h' tk hk=>?_⟩
  · obtain ⟨t,rfl⟩:=intItems_at (by simpa [intItems] using hP)
    have hsz:0<ys.size:=by simpa [intItems] using hn
    obtain ⟨h1,h2⟩:=argBest_lt (numAt ys) (ys.size-1)
    refine ⟨.int _,H,I.kept (old_kept hk),⟨t,?_⟩,q1 (numAt ys (argBest (fun i j=>decide (numAt ys i<numAt ys j)) (ys.size-1))) ?_ fun a ha=>?_⟩
    · simp [intItems]
    · rw [hns,numAt_eq]; exact PySem.getD_mem (by rw [List.length_map,Array.length_toList]; omega)
    · rw [hns] at ha
      obtain ⟨j,hj,rfl⟩:=mem_getD ha
      rw [List.length_map,Array.length_toList] at hj
      rw [← numAt_eq]; exact h2 j (by omega)
  · have hz':ys.size=0:=by simpa [intItems] using hn
    have hn':ns=[]:=by rw [hns]; exact List.eq_nil_of_length_eq_zero (by rw [List.length_map,Array.length_toList]; exact hz')
    exact ⟨d,H,I.kept (old_kept hk),rd,q0 hn'⟩
end
section
variable {X:Cx} {K:PySem.W.Frag}
theorem call_minDK (hc:X.calm=true) (h:X.K=K):CallKR X (.builtin "min") ["default"] (fun xs zs H Q=>∃ (p:Addr) (ns:List Int) (d:V),xs=[.ref p]∧zs=[d]∧SqL K H p (ns.map V.int)∧(ns=[]→Q d H)∧∀ M,M∈ns→(∀ a,a∈ns→M≤a)→Q (.int M) H):=by subst h; exact call_minD hc
end
end L2
namespace VL
open PySem L2
open Classical
noncomputable section
section
variable [Tabs] {K:PySem.W.Frag} {ta tb tc:TE} {a b c:DE}
noncomputable def dMxD (g:Int→List Int→Int) (a b:DE):DE:=fun ρ=>match a ρ with
  | some (.lst ds)=>(match b ρ with
    | some d=>(match asInts ds with
      | some []=>some d
      | some (x::r)=>some (.int (g x r))
      | none=>none)
    | none=>none)
  | _=>none
theorem dMxD_some {g:Int→List Int→Int} {ρ:Rho} {d:D} (h:dMxD g a b ρ=some d):∃ ns e,a ρ=some (.lst (ns.map D.int))∧b ρ=some e∧((ns=[]∧d=e)∨∃ x r,ns=x::r∧d=.int (g x r)):=by
  unfold dMxD at h
  split at h
  · rename_i ds e1
    split at h
    · rename_i e e2
      cases q:asInts ds with
      | none=>rw [q] at h; cases h
      | some ns =>
        rw [q] at h
        rw [asInts_some q] at e1
        cases ns with
        | nil=>cases h; exact ⟨[],_,e1,e2,.inl ⟨rfl,rfl⟩⟩
        | cons x r=>cases h; exact ⟨x::r,_,e1,e2,.inr ⟨x,r,rfl,rfl⟩⟩
    · cases h
  · cases h
theorem si_minD (ha:SemB K ta a) (hb:SemI K tb b):SemI K (tCBK (fun xs zs H Q=>∃ (p:Addr) (ns:List Int) (d:V),xs=[.ref p]∧zs=[d]∧SqL K H p (ns.map V.int)∧(ns=[]→Q d H)∧∀ M,M∈ns→(∀ a,a∈ns→M≤a)→Q (.int M) H) (tCons ta tNil) (tCons tb tNil)) (dMxD minL a b):=fun {B Z os ρ σ H Q d} f q k=>by
  obtain ⟨ns,e,e1,e2,h⟩:=dMxD_some q
  refine ha f e1 fun v H1 s1 i1=>hb (f.grow s1) e2 fun u H2 s2 i2=>?_
  obtain ⟨p,rfl,rd⟩:=(i1.same s2).ints
  have s12:=s1.trans s2
  refine ⟨p,ns,u,rfl,rfl,.inl rd,fun z=>?_,fun M h1 h2=>?_⟩
  · rcases h with ⟨_,rfl⟩ | ⟨x,r,rfl,rfl⟩
    · exact k _ _ s12 i2
    · cases z
  · rcases h with ⟨rfl,_⟩ | ⟨x,r,rfl,rfl⟩
    · cases h1
    · rw [min_uniq h1 h2 (minL_spec r x).1 (minL_spec r x).2]
      exact k _ _ s12 (.int _)
theorem ev_mxD0 {g:Int→List Int→Int} {ρ:Rho} {d:D} (ha:a ρ=some (.lst [])) (hb:b ρ=some d):dMxD g a b ρ=some d:=by unfold dMxD; rw [ha,hb]; rfl
theorem ev_mxD {g:Int→List Int→Int} {ρ:Rho} {d:D} {x:Int} {r:List Int} (ha:a ρ=some (.lst ((x::r).map D.int))) (hb:b ρ=some d):dMxD g a b ρ=some (.int (g x r)):=by
  unfold dMxD; rw [ha,hb]; dsimp only; rw [asInts_map]
theorem fdok {j:Int} (h0:0<j) (h1:j<2 ^ 64):0<j∧j.natAbs.log2<9000:=by
  refine ⟨h0,(Nat.log2_lt (by omega)).mpr (Nat.lt_of_lt_of_le (m:=2 ^ 64) (by omega) (Nat.pow_le_pow_right (by decide) (by decide)))⟩
theorem ev_compA {α:Type} {ρ:Rho} {k:Nat} {cs:List Nat} {it:Rho→Option (List D)} {g:DG} {t:Rho→Option Bool} {el:DE} (emb:α→D) {xs:List α} (h:it ρ=some (xs.map emb)) (p:α→Bool) (f:α→D)
    (hs:∀ x∈xs,∃ ρ1,g (emb x) (r0 k cs ρ)=some ρ1∧t ρ1=some (p x)∧(p x=true→el ρ1=some (f x))):dComp k cs it g t el ρ=some ((xs.filter p).map f):=by
  unfold dComp
  rw [h]
  dsimp only
  clear h
  induction xs with
  | nil=>rfl
  | cons x r ih =>
    obtain ⟨ρ1,e1,e2,e3⟩:=hs x List.mem_cons_self
    have ih:=ih fun d hd=>hs d (List.mem_cons_of_mem _ hd)
    rw [List.map_cons]
    unfold compGo
    rw [e1]
    dsimp only
    rw [e2]
    cases hp:p x with
    | false =>
      dsimp only
      rw [ih,List.filter_cons_of_neg (by simp [hp])]
    | true =>
      dsimp only
      rw [e3 hp,ih,List.filter_cons_of_pos hp]
      rfl
theorem ev_compA0 {α:Type} {ρ:Rho} {k:Nat} {cs:List Nat} {it:Rho→Option (List D)} {g:DG} {el:DE} (emb:α→D) {xs:List α} (h:it ρ=some (xs.map emb)) (f:α→D)
    (hs:∀ x∈xs,∃ ρ1,g (emb x) (r0 k cs ρ)=some ρ1∧el ρ1=some (f x)):dComp k cs it g dTrue el ρ=some (xs.map f):=by
  have:=ev_compA (ρ:=ρ) (k:=k) (cs:=cs) (it:=it) (g:=g) (t:=dTrue) (el:=el) emb h (fun _=>true) f fun d hd=>let ⟨ρ1,e1,e2⟩:=hs d hd; ⟨ρ1,e1,rfl,fun _=>e2⟩
  rw [this,List.filter_eq_self.mpr fun _ _=>rfl]
theorem cmp_lst {n:Nat} {xs ys:List D} (h:∀ x∈xs,∀ y∈ys,cmpb n x y=true):cmpb (n+1) (.lst xs) (.lst ys)=true:=by
  show (decide _ || (List.zip xs ys).all fun p=>cmpb n p.1 p.2)=true
  rw [Bool.or_eq_true]
  refine .inr (List.all_eq_true.mpr fun q hq=>?_)
  obtain ⟨a,b⟩:=q
  obtain ⟨h1,h2⟩:=List.of_mem_zip hq
  exact h a h1 b h2
theorem cmp_rows {n:Nat} (T S:List (List Int)):cmpb (n+2) (.lst (T.map fun r=>.lst (r.map D.int))) (.lst (S.map fun r=>.lst (r.map D.int)))=true:=by
  refine cmp_lst fun x hx y hy=>?_
  obtain ⟨a,_,rfl⟩:=List.mem_map.mp hx
  obtain ⟨b,_,rfl⟩:=List.mem_map.mp hy
  exact cmp_ints a b
end
end
end VL
namespace L2
end L2
namespace L2
open PySem PySem.Spec PyProof.Rows
open VL (s0)
structure FreesC (X:Cx) (N':List Str) (scope:Scope) (cl:List (Str×Addr)) (σ σ0:St):Prop where
  sub:∀ x c,cl.lookup x=some c→X.env.cells.lookup x=some c
  vals:∀ (j:Nat) (x:Str) (v:V),N'[j]?=some x→σ0[j]?=some (some v)→∃ (i:Nat) (c:Addr),X.N[i]?=some x∧σ[i]?=some (some v)∧Vis X.env.scope x∧X.env.kindOf x≠some .local∧cl.lookup x=some c ∧
    ((relabel scope X.env).names.lookup x=some .cell∨(relabel scope X.env).names.lookup x=some .free)
  vout:∀ (j:Nat) (x:Str) (v:V),N'[j]?=some x→σ0[j]?=some (some v)→(scope.names.all fun y=>!(y.2==.cell) || !(y.1==x))=true
  has:∀ x,((relabel scope X.env).names.lookup x=some .cell∨(relabel scope X.env).names.lookup x=some .free)→scope.names.lookup x=some .cell∨(cl.lookup x).isSome=true
  out:∀ x c,(scope.names.lookup x==some .cell)=true→¬ cl.lookup x=some c
  len:σ0.length=N'.length
section
variable {X:Cx} {tg elt iter:Expr} {ifs:List Expr} {scope:Scope} {cl:List (Str×Addr)} {N':List Str} {σ0:St→St} {g:TG} {tt:TT} {te:TE}
variable {pos:Pos} {wi:TI}
variable {c:Expr} {ts zs:List Str} {is:List Nat} {k:Nat}
end
end L2
namespace L2
open PySem PySem.Spec PyProof.Rows
end L2
namespace L2
open PySem PySem.Spec PyProof.Rows
section
variable {X:Cx}
end
end L2
namespace VL
open PySem L2
open Classical
noncomputable section
variable [Tabs] {K:PySem.W.Frag}
end
end VL
namespace PySem
open Sem (wp)
section
variable {prog:Program} {w:World} {A:Around} {E:Value→Shared→Prop} {s:Shared}
end
end PySem
namespace L2
open PySem PySem.Spec PyProof.Rows
section
variable {X:Cx}
end
end L2
namespace VL
open PySem L2
open Classical
noncomputable section
variable [Tabs] {K:PySem.W.Frag}
end
end VL
namespace VL
open PySem L2
open Classical
noncomputable section
variable [Tabs] {K:PySem.W.Frag} {fr:Fm}
def SemM (K:PySem.W.Frag) (t:TE) (e:Rho→Option (List (List D))):Prop:=∀ {B:Hp} {Z:Addr→Prop} {os:Own} {ρ:Rho} {σ:L2.St} {H:Hp} {Q:VK} {rows:List (List D)},Fr K B Z os ρ σ H→e ρ=some rows →
  (∀ x ps H',Same H H'→H x=none→(∀ a∈ps,H a=none)→(x::ps).Nodup→H' x=some (.lst (ps.map V.ref))→ps.length≤sizeLine→Paired (fun q ds=>∃ vs,H' q=some (.lst vs)∧vs.length≤sizeLine∧IsL K H' (fun a=>(a=x∨a∈ps)∨tot Z os a) vs ds) ps rows→Q (.ref x) H')→t σ H Q
def rowsL (rows:List (List D)):D:=.lst (rows.map D.lst)
noncomputable def dMat (e:Rho→Option (List (List D))):DE:=fun ρ=>(e ρ).map rowsL
def unrow:D→Option (List D)
  | .lst ds=>some ds
  | _=>none
def unrows:List D→Option (List (List D))
  | []=>some []
  | d::r=>match unrow d with
    | some x=>(match unrows r with
      | some y=>some (x::y)
      | none=>none)
    | none=>none
theorem unrows_map:∀ (rows:List (List D)),unrows (rows.map D.lst)=some rows
  | []=>rfl
  | x::r=>by show (match unrow (.lst x) with | some x=>(match unrows (r.map D.lst) with | some y=>some (x::y) | none=>none) | none=>none)=_; rw [unrows_map r]; rfl
noncomputable def dCallM (F:List D→Option D) (es:Rho→Option (List D)):Rho→Option (List (List D)):=fun ρ=>match dCall F es ρ with
  | some (.lst ds)=>unrows ds
  | _=>none
theorem sm_call {ms:List Bool} {F:List D→Option D} {t:TA} {es:Rho→Option (List D)} {E:XK} (ha:SemA K ms t es):SemM K (tCall (spD .m K ms F) [] E t) (dCallM F es):=fun {B Z os ρ σ H Q rows} f q k=>by
  unfold dCallM at q
  split at q
  · rename_i xs e1
    unfold dCall at e1
    split at e1
    · rename_i as e
      refine ha f e fun vs H1 s1 a=>?_
      show spD .m K ms F (vs++[]) H1 Q E
      rw [List.append_nil]
      refine ⟨tot Z os,as,.lst xs,(f.grow s1).zt,a,e1,fun v H2 s2 i=>?_⟩
      obtain ⟨p,ps,rows',rfl,ed,hb,hbs,hn,hh,hl,r⟩:=i
      cases ed
      rw [unrows_map] at q
      cases q
      exact k p ps H2 (s1.trans s2) (Same.free s1 hb) (fun a ha=>Same.free s1 (hbs a ha)) hn hh hl r
    · cases e1
  · cases q
theorem ss_retM {ta:TE} {a:Rho→Option (List (List D))} (h:SemM K ta a):SemS .m K (tRet ta) (sRet (dMat a)):=fun {B Z os ρ σ H E} f p=>by
  unfold sRet dMat at p
  cases e:a ρ with
  | none=>rw [e] at p; exact p.elim
  | some rows =>
    rw [e] at p
    exact h f e fun x ps H1 s1 hx hps hn hH hl r=>p _ _ (f.keep.trans s1) ⟨x,ps,rows,rfl,rfl,Same.free f.keep hx,fun a ha=>Same.free f.keep (hps a ha),hn,hH,hl,Paired.mono r fun q ds _ ⟨vs,h1,h2,h3⟩=>⟨vs,h1,h2,h3.kp (Kp.less fun a z=>z.elim .inl fun z=>.inr (.inl z))⟩⟩
@[irreducible] noncomputable def sRetXM (i:Nat):DS:=fun ρ=>match ρ.getD i .un with
  | .om rows=>.rt (rowsL rows)
  | _=>.no
theorem ss_retXM {i:Nat}:SemS .m K (tRet (tVar i)) (sRetXM i):=fun {B Z os ρ σ H E} f p=>by
  unfold sRetXM at p
  split at p
  · rename_i rows e
    have s:=f.sl i
    rw [e] at s
    obtain ⟨a,ps,eo,hu,hH,hl,r⟩:=s
    have hn:=f.nd i
    rw [eo] at hn
    have ha:a∈os i:=by rw [eo]; exact List.mem_cons_self
    have hp:∀ q∈ps,q∈os i:=fun q hq=>by rw [eo]; exact List.mem_cons_of_mem _ hq
    refine ⟨_,join_some hu,p _ _ f.keep ⟨a,ps,rows,rfl,rfl,(f.new i a ha).1,fun q hq=>(f.new i q (hp q hq)).1,hn,hH,hl,Paired.mono r fun q ds _ ⟨vs,h1,h2,h3⟩=>⟨vs,h1,h2,h3.kp (Kp.less fun b z=>?_)⟩⟩⟩
    rcases z with (rfl | z) | z
    · exact .inr ⟨i,ha⟩
    · exact .inr ⟨i,hp b z⟩
    · exact .inl z
  · exact p.elim
@[irreducible] noncomputable def sSetM (i:Nat) (a:Rho→Option (List (List D))):DS:=fun ρ=>match a ρ with
  | some rows=>if i < ρ.length then .nx (ρ.set i (.om rows)) else .no
  | none=>.no
theorem ss_setM {i:Nat} {ta:TE} {a:Rho→Option (List (List D))} (h:SemM K ta a):SemS fr K (tAsg ta (gName i)) (sSetM i a):=fun {B Z os ρ σ H E} f p=>by
  unfold sSetM at p
  split at p
  · rename_i rows e
    by_cases hi:i < ρ.length
    · rw [if_pos hi] at p
      refine h f e fun x ps H1 s1 hx hps hn hH hl r=>?_
      have st:=f.step (H':=H1) (i:=i) hi (o:=x::ps) (s:=.om rows) (v:=some (.ref x)) (fun a u e _=>s1 _ _ e) (fun a ha=>let ⟨xs,e⟩:=(f.sl i).dom ha; ⟨_,s1 _ _ e⟩) hn (fun a ha=>?_)
        ⟨x,ps,rfl,rfl,hH,hl,Paired.mono r fun q ds _ ⟨vs,h1,h2,h3⟩=>⟨vs,h1,h2,h3.kp (Kp.less fun a z=>?_)⟩⟩
      · exact p _ _ _ st.1 st.2
      · rcases List.mem_cons.mp ha with rfl | ha
        · exact .inr hx
        · exact .inr (hps a ha)
      · rcases z with z | ⟨j,z⟩
        · exact .inr (.inl z)
        · by_cases hj:j=i
          · subst hj; rw [putO_same] at z; exact .inl (List.mem_cons.mp z)
          · rw [putO_ne hj] at z; exact .inr (.inr ⟨j,z⟩)
    · rw [if_neg hi] at p; exact p.elim
  · exact p.elim
theorem ss_setMC {i:Nat} {ta:TE} {a:Rho→Option (List (List D))} (h:SemM K ta a):SemS fr K (tSetC ta i) (sSetM i a):=ss_setM (i:=i) h
theorem Paired.setAt {α β:Type} {F G:α→β→Prop} {p:α} {y:β}:∀ {ps:List α} {rows:List β} {r:Nat},Paired F ps rows→ps.Nodup→(∀ q ds,q≠p→F q ds→G q ds)→ps[r]?=some p→G p y→Paired G ps (rows.set r y)
  | _,_,0,.cons h t,hn,hf,e,g=>by
    cases e
    exact .cons g (Paired.mono t fun q ds hq h=>hf q ds (fun z=>(List.nodup_cons.mp hn).1 (z ▸ hq)) h)
  | _,_,r+1,.cons h t,hn,hf,e,g=>by
    have e':=show _=some p by simpa using e
    exact .cons (hf _ _ (fun z=>(List.nodup_cons.mp hn).1 (z ▸ List.mem_of_getElem? e')) h) (Paired.setAt t (List.nodup_cons.mp hn).2 hf e' g)
theorem Paired.getF {α β:Type} {F:α→β→Prop}:∀ {ps:List α} {rows:List β} {r:Nat} {y:β},Paired F ps rows→rows[r]?=some y→∃ p,ps[r]?=some p∧F p y
  | _,_,0,_,.cons h _,e=>by cases e; exact ⟨_,rfl,h⟩
  | _,_,r+1,_,.cons _ t,e=>by
    obtain ⟨p,e1,h⟩:=Paired.getF (r:=r) t (by simpa using e)
    exact ⟨p,by simpa using e1,h⟩
theorem om_of {B H:Hp} {Z:Addr→Prop} {os:Own} {ρ:Rho} {σ:L2.St} (f:Fr K B Z os ρ σ H) {i:Nat} {rows:List (List D)} (e:ρ.getD i .un=.om rows) :
    ∃ a ps,os i=a::ps∧(σ[i]?).join=some (.ref a)∧H a=some (.lst (ps.map V.ref))∧ps.length≤sizeLine∧ps.length=rows.length∧Paired (fun p ds=>∃ vs,H p=some (.lst vs)∧vs.length≤sizeLine∧IsL K H (tot Z os) vs ds) ps rows:=by
  have s:=f.sl i
  rw [e] at s
  obtain ⟨a,ps,h1,h2,h3,h4,h5⟩:=s
  exact ⟨a,ps,h1,h2,h3,h4,Paired.length h5,h5⟩
theorem Fr.mutM1 {B H:Hp} {Z:Addr→Prop} {os:Own} {ρ:Rho} {σ:L2.St} (f:Fr K B Z os ρ σ H) {i r:Nat} {a p:Addr} {ps:List Addr} {rows:List (List D)} {ds':List D} {vs':List V} (e:ρ.getD i .un=.om rows) (eo:os i=a::ps) (hu:(σ[i]?).join=some (.ref a)) (hr:ps[r]?=some p) (hl:vs'.length≤sizeLine) (h:IsL K H (tot Z os) vs' ds') :
    Fr K B Z (putO os i (a::ps)) (ρ.set i (.om (rows.set r ds'))) σ (upd H p (.lst vs'))∧Kp (tot Z os) H (tot Z (putO os i (a::ps))) (upd H p (.lst vs')):=by
  have s:=f.sl i
  rw [e] at s
  obtain ⟨b,qs,eo',hu',hH,hlp,i1⟩:=s
  rw [eo] at eo'
  cases eo'
  have hi:=getD_lt e (by intro z; cases z)
  have hn:=f.nd i
  rw [eo] at hn
  have hp:p∈ps:=List.mem_of_getElem? hr
  have hpo:p∈os i:=by rw [eo]; exact List.mem_cons_of_mem _ hp
  have hap:a≠p:=fun z=>(List.nodup_cons.mp hn).1 (z ▸ hp)
  have tt:tot Z (putO os i (a::ps))=tot Z os:=by
    funext c
    apply propext
    constructor
    · rintro (z | ⟨j,z⟩)
      · exact .inl z
      · by_cases hj:j=i
        · subst hj; rw [putO_same] at z; exact .inr ⟨j,by rw [eo]; exact z⟩
        · rw [putO_ne hj] at z; exact .inr ⟨j,z⟩
    · rintro (z | ⟨j,z⟩)
      · exact .inl z
      · by_cases hj:j=i
        · subst hj; exact .inr ⟨j,by rw [putO_same,← eo]; exact z⟩
        · exact .inr ⟨j,by rw [putO_ne hj]; exact z⟩
  have kp:Kp (tot Z os) H (tot Z os) (upd H p (.lst vs')):=fun b u e z=>⟨by rw [upd_ne (fun w=>z (.inr ⟨i,by rw [w]; exact hpo⟩))]; exact e,z⟩
  have st:=f.step (H':=upd H p (.lst vs')) (i:=i) hi (o:=a::ps) (s:=.om (rows.set r ds')) (v:=some (.ref a)) (fun b u e n=>by rw [upd_ne (fun z=>n (by rw [z]; exact hpo))]; exact e) (fun b hb=>?_) hn (fun b hb=>by rw [← eo] at hb; exact .inl hb)
    ⟨a,ps,rfl,rfl,by rw [upd_ne hap]; exact hH,hlp,?_⟩
  · rw [set_self hu'] at st
    exact st
  · by_cases hb':b=p
    · rw [hb']; exact ⟨_,upd_same⟩
    · rw [upd_ne hb']; obtain ⟨xs,e⟩:=(f.sl i).dom hb; exact ⟨_,e⟩
  · rw [tt]
    exact Paired.setAt i1 (List.nodup_cons.mp hn).2 (fun q ds hq ⟨vs,h1,h2,h3⟩=>⟨vs,by rw [upd_ne hq]; exact h1,h2,h3.kp kp⟩) hr ⟨vs',upd_same,hl,h.kp kp⟩
theorem Fr.mutM {B H:Hp} {Z:Addr→Prop} {os:Own} {ρ:Rho} {σ:L2.St} (f:Fr K B Z os ρ σ H) {i r:Nat} {a p:Addr} {ps:List Addr} {rows:List (List D)} {ds':List D} {vs':List V} (e:ρ.getD i .un=.om rows) (eo:os i=a::ps) (hu:(σ[i]?).join=some (.ref a)) (hr:ps[r]?=some p) (hl:vs'.length≤sizeLine) (h:IsL K H (tot Z os) vs' ds') :
    ∃ os',Fr K B Z os' (ρ.set i (.om (rows.set r ds'))) σ (upd H p (.lst vs'))∧Kp (tot Z os) H (tot Z os') (upd H p (.lst vs')):=⟨_,f.mutM1 e eo hu hr hl h⟩
theorem row_at {B H:Hp} {Z:Addr→Prop} {os:Own} {ρ:Rho} {σ:L2.St} (f:Fr K B Z os ρ σ H) {i:Nat} {rows:List (List D)} {n:Int} {r:Nat} {ds:List D} (e:ρ.getD i .un=.om rows) (hn:ixN rows.length n=some r) (hd:rows[r]?=some ds) :
    ∃ a ps p vs,os i=a::ps∧(σ[i]?).join=some (.ref a)∧H a=some (.lst (ps.map V.ref))∧atI (ps.map V.ref) n=some (V.ref p)∧ps[r]?=some p∧H p=some (.lst vs)∧vs.length≤sizeLine∧IsL K H (tot Z os) vs ds:=by
  obtain ⟨a,ps,h1,h2,h3,h4,h5,h6⟩:=om_of f e
  obtain ⟨p,e1,vs,g1,g2,g3⟩:=Paired.getF h6 hd
  refine ⟨a,ps,p,vs,h1,h2,h3,?_,e1,g1,g2,g3⟩
  unfold atI
  rw [List.length_map,h5,hn]
  show (ps.map V.ref)[r]?=_
  rw [List.getElem?_map,e1]
  rfl
@[irreducible] noncomputable def sPut2 (i:Nat) (b c a:DE):DS:=fun ρ=>match ρ.getD i .un with
  | .om rows=>(match a ρ with
    | some d=>(match b ρ with
      | some (.int n)=>(match ixN rows.length n with
        | some r=>(match rows[r]? with
          | some ds=>(match c ρ with
            | some (.int m)=>(match ixN ds.length m with
              | some j=>.nx (ρ.set i (.om (rows.set r (ds.set j d))))
              | none=>.no)
            | _=>.no)
          | none=>.no)
        | none=>.no)
      | _=>.no)
    | none=>.no)
  | _=>.no
theorem ss_put2 {i:Nat} {ta tb tc:TE} {a b c:DE} (ha:SemI K ta a) (hb:SemB K tb b) (hc:SemB K tc c):SemS fr K (tAsg ta (gSub (tOp (rIx K) (tVar i) tb) tc rSetL)) (sPut2 i b c a):=fun {B Z os ρ σ H E} f p=>by
  unfold sPut2 at p
  split at p
  · rename_i rows e
    split at p
    · rename_i d e1
      split at p
      · rename_i n e2
        split at p
        · rename_i r e3
          split at p
          · rename_i ds e4
            split at p
            · rename_i m e5
              split at p
              · rename_i j e6
                obtain ⟨x,ps,q,vs,eo,hu,hH,hat,hr,hq,hl,il⟩:=row_at f e e3 e4
                refine ha f e1 fun v H1 s1 i1=>⟨_,join_some hu,hb (f.grow s1) e2 fun w H2 s2 i2=>?_⟩
                have s12:=s1.trans s2
                refine .inl ⟨x,ps.map V.ref,n,.ref q,rfl,i2.isInt,SqL.of (s12 _ _ hH),hat,hc (f.grow s12) e5 fun u H3 s3 i3=>?_⟩
                have s13:=s12.trans s3
                have f3:=f.grow s13
                obtain ⟨os',f',k⟩:=f3.mutM (vs':=vs.set j v) (ds':=ds.set j d) e eo hu hr (by rw [List.length_set]; exact hl) ((il.same s13).set ((i1.same s2).same s3) j)
                exact ⟨q,vs,m,j,rfl,i3.isInt,s13 _ _ hq,by rw [il.length]; exact e6,p os' _ _ f' ((Kp.same s13).trans k)⟩
              · exact p.elim
            · exact p.elim
          · exact p.elim
        · exact p.elim
      · exact p.elim
    · exact p.elim
  · exact p.elim
end
end VL
namespace VL
open PySem L2
open Classical
noncomputable section
variable [Tabs] {K:PySem.W.Frag} {fr:Fm}
theorem blockFrZ {B H1 H:Hp} {Z W:Addr→Prop} {os:Own} {ρ:Rho} {σ:L2.St} (f:Fr K B Z os ρ σ H1) (s:Same H1 H) (hw:∀ a,W a→∃ o,H a=some o) (hk:Kp (tot Z os) H1 W H) (k:Nat) (cs:List Nat) :
    Fr K H1 W (fun _=>[]) (r0 k cs ρ) (s0 k cs σ) H where
  keep:=s
  zin:=hw
  tab:=f.tabH
  len:=by unfold r0 s0; simp
  nd:=fun _=>List.nodup_nil
  dj:=fun _ _ _ h=>by cases h
  new:=fun _ _ h=>by cases h
  sl:=fun j=>by
    have kp:Kp (tot Z os) H1 (tot W fun _=>[]) H:=fun a u e z=>⟨(hk a u e z).1,fun q=>q.elim (hk a u e z).2 fun ⟨_,q⟩=>by cases q⟩
    unfold r0 s0
    rw [List.getD_eq_getElem?_getD]
    by_cases hj:j<k
    · rw [List.getElem?_append_left (by simpa using hj),List.getElem?_append_left (by simpa using hj),List.getElem?_replicate,if_pos hj]
      exact rfl
    · rw [List.getElem?_append_right (by simpa using hj),List.getElem?_append_right (by simpa using hj),List.length_replicate,List.length_replicate,List.getElem?_map,List.getElem?_map]
      cases e:cs[j-k]? with
      | none=>exact rfl
      | some i =>
        have h:=f.sl i
        show SlOk K _ _ _ _ (view (ρ.getD i .un)) ((σ[i]?).join)
        cases e2:ρ.getD i .un with
        | un=>exact rfl
        | pu d =>
          rw [e2] at h
          obtain ⟨_,u,hu,i1⟩:=h
          exact ⟨rfl,u,hu,i1.kp kp⟩
        | bo d =>
          rw [e2] at h
          obtain ⟨_,u,hu,i1⟩:=h
          exact ⟨rfl,u,hu,i1.same f.keep⟩
        | ol ds =>
          rw [e2] at h
          obtain ⟨a,vs,_,hu,hH,hl,i1⟩:=h
          exact ⟨rfl,_,hu,.lst (fun z=>z) (.inl hH) hl i1.all⟩
        | om rows =>
          rw [e2] at h
          obtain ⟨a,ps,_,hu,hH,hl,i1⟩:=h
          exact ⟨rfl,_,hu,.lst (fun z=>z) (.inl hH) (by rw [List.length_map]; exact hl) (rows_is i1)⟩
def compGoM (g:DG) (t:Rho→Option Bool) (e:Rho→Option (List D)) (ρ0:Rho):List D→Option (List (List D))
  | []=>some []
  | d::ds=>match g d ρ0 with
    | none=>none
    | some ρ1=>match t ρ1 with
      | none=>none
      | some false=>compGoM g t e ρ0 ds
      | some true=>match e ρ1 with
        | none=>none
        | some y=>match compGoM g t e ρ0 ds with
          | none=>none
          | some ys=>some (y::ys)
noncomputable def dCompM (k:Nat) (cs:List Nat) (it:Rho→Option (List D)) (g:DG) (t:Rho→Option Bool) (e:Rho→Option (List D)):Rho→Option (List (List D)):=fun ρ=>match it ρ with
  | some ds=>compGoM g t e (r0 k cs ρ) ds
  | none=>none
theorem sm_comp {m:Bool} {k:Nat} {cs:List Nat} {wi:TI} {g:TG} {tt:TT} {te:TE} {it:Rho→Option (List D)} {gd:DG} {td:Rho→Option Bool} {ed:Rho→Option (List D)} (hw:SemWC K m wi it) (hg:SemG K m g gd) (ht:SemT K tt td) (he:SemF K te ed) :
    SemM K (tComp wi g tt te (s0 k cs)) (dCompM k cs it gd td ed):=fun {B Z os ρ σ H Q ds} f q kk=>by
  unfold dCompM at q
  split at q
  · rename_i xs e0
    refine hw f e0 fun J H1 s1 W Dl hD=>?_
    have f1:=f.grow s1
    have sD:∀ {H2:Hp} {ys:List V},Same H1 H2→Same H1 (upd H2 Dl (.lst ys)):=fun {H2 ys} s a o e=>by
      rw [upd_ne (ne_of_none e hD)]; exact s _ _ e
    let ZZ:List Addr→Addr→Prop:=fun ps a=>(a=Dl∨a∈ps)∨tot Z os a
    refine ⟨fun i m ys H2=>m=xs.length-i∧i≤xs.length∧Same H1 H2∧H2 Dl=some (.lst ys)∧ys.length≤i∧∃ ps done rest,ys=ps.map V.ref∧(∀ a∈ps,H1 a=none)∧(Dl::ps).Nodup∧Paired (fun q ds=>∃ vs,H2 q=some (.lst vs)∧vs.length≤sizeLine∧IsL K H2 (ZZ ps) vs ds) ps done∧compGoM gd td ed (r0 k cs ρ) (xs.drop i)=some rest∧done++rest=ds,
      ⟨_,rfl,Nat.zero_le _,sD (Same.refl _),upd_same,Nat.le_refl _,[],[],ds,rfl,(fun a h=>by cases h),(by simp),.nil,q,rfl⟩,?_⟩
    rintro i mm ys H2 ⟨rfl,hi,s2,eD,hly,ps,done,rest,rfl,hps,hnd,il,q2,ed2⟩
    have zin2:∀ a,ZZ ps a→∃ o,H2 a=some o:=by
      rintro a ((rfl | z) | z)
      · exact ⟨_,eD⟩
      · obtain ⟨_,vs,h,_⟩:=Paired.any il z
        exact ⟨_,h⟩
      · obtain ⟨u,e⟩:=f1.tin a z
        exact ⟨u,s2 _ _ e⟩
    have kp12:Kp (tot Z os) H1 (ZZ ps) H2:=fun a u e z=>⟨s2 _ _ e,fun w=>by
      rcases w with (rfl | w) | w
      · rw [hD] at e; cases e
      · rw [hps a w] at e; cases e
      · exact z w⟩
    by_cases hlt:i<xs.length
    · have ex:xs[i]?=some xs[i]:=List.getElem?_eq_getElem hlt
      obtain ⟨go,yl⟩:=W.go i xs[i] H2 _ kp12 s2 zin2 ex
      refine .inr ⟨go,fun x H3 hy=>?_⟩
      obtain ⟨s3,er⟩:=yl x H3 hy
      have eD3:=s3 _ _ eD
      have s13:=s2.trans s3
      have kp13:Kp (tot Z os) H1 (ZZ ps) H3:=kp12.trans (Kp.same s3)
      have ef3:=blockFrZ f1 s13 (fun a z=>let ⟨o,e⟩:=zin2 a z; ⟨o,s3 _ _ e⟩) kp13 k cs
      rw [List.drop_eq_getElem_cons hlt] at q2
      unfold compGoM at q2
      have er':ER K m H1 H3 (tot (ZZ ps) fun _=>[]) x xs[i]:=by
        cases m with
        | false=>exact er
        | true=>exact Is.kp (Kp.less fun a z=>z.elim id fun ⟨_,w⟩=>by cases w) er
      have il3:∀ {H':Hp},Same H2 H'→Paired (fun q ds=>∃ vs,H' q=some (.lst vs)∧vs.length≤sizeLine∧IsL K H' (ZZ ps) vs ds) ps done:=fun {H'} s=>Paired.mono il fun q ds _ ⟨vs,h1,h2,h3⟩=>⟨vs,s _ _ h1,h2,h3.same s⟩
      split at q2
      · cases q2
      · rename_i ρ1 e1
        refine hg ef3 er' e1 fun os1 σ1 fr1 k1=>?_
        split at q2
        · cases q2
        · rename_i e2
          refine ht fr1 e2 fun H4 s4=>iteF ⟨_,by omega,rfl,hlt,s13.trans s4,s4 _ _ eD3,by omega,ps,done,rest,rfl,hps,hnd,il3 (s3.trans s4),q2,ed2⟩
        · rename_i e2
          refine ht fr1 e2 fun H4 s4=>iteT ?_
          split at q2
          · cases q2
          · rename_i y e3
            split at q2
            · cases q2
            · rename_i rs e4
              cases q2
              refine he (fr1.grow s4) e3 fun x2 vs2 H5 s5 hx2 hH5 hl5 i5=>?_
              have s35:=s4.trans s5
              have s25:=s3.trans s35
              have eD5:=s35 _ _ eD3
              have hl:=W.len
              have hx3:H3 x2=none:=Same.free s4 hx2
              have hxD:x2≠Dl:=fun z=>by rw [z,eD3] at hx3; cases hx3
              have hxps:x2∉ps:=fun z=>by
                obtain ⟨o,e⟩:=zin2 x2 (.inl (.inr z))
                rw [s3 _ _ e] at hx3; cases hx3
              have hxt:¬ tot Z os x2:=fun z=>by
                obtain ⟨o,e⟩:=zin2 x2 (.inr z)
                rw [s3 _ _ e] at hx3; cases hx3
              have sub:∀ a,ZZ (ps++[x2]) a→a=x2∨ZZ ps a:=by
                rintro a ((rfl | z) | z)
                · exact .inr (.inl (.inl rfl))
                · rcases List.mem_append.mp z with z | z
                  · exact .inr (.inl (.inr z))
                  · exact .inl (List.mem_singleton.mp z)
                · exact .inr (.inr z)
              have sup:∀ a,a=x2∨ZZ ps a→ZZ (ps++[x2]) a:=by
                rintro a (rfl | (rfl | z) | z)
                · exact .inl (.inr (by simp))
                · exact .inl (.inl rfl)
                · exact .inl (.inr (List.mem_append_left _ z))
                · exact .inr z
              have kp5:∀ (zs:List V),Kp (ZZ ps) H2 (ZZ (ps++[x2])) (upd H5 Dl (.lst zs)):=fun zs a u e z=>⟨by rw [upd_ne (fun w=>z (.inl (.inl w)))]; exact s25 _ _ e,fun w=>by
                rcases sub a w with rfl | w
                · rw [s3 _ _ e] at hx3; cases hx3
                · exact z w⟩
              have kp6:∀ (zs:List V),Kp (ZZ (ps++[x2])) H5 (ZZ (ps++[x2])) (upd H5 Dl (.lst zs)):=fun zs a u e z=>⟨by rw [upd_ne (fun w=>z (.inl (.inl w)))]; exact e,z⟩
              refine ⟨eD5,by rw [List.length_map] at hly ⊢; omega,_,by omega,rfl,hlt,sD (s13.trans s35),upd_same,by rw [List.length_append,List.length_singleton]; omega,ps++[x2],done++[y],rs,by rw [List.map_append]; rfl,fun a ha=>?_,?_,?_,e4,by rw [List.append_assoc]; exact ed2⟩
              · rcases List.mem_append.mp ha with ha | ha
                · exact hps a ha
                · rw [List.mem_singleton.mp ha]; exact Same.free s13 hx3
              · rw [← List.cons_append,List.nodup_append]
                refine ⟨hnd,by simp,fun a h1 b h2=>?_⟩
                rw [List.mem_singleton.mp h2]
                rintro rfl
                rcases List.mem_cons.mp h1 with z | z
                · exact hxD z
                · exact hxps z
              · refine Paired.append (Paired.mono il fun q ds hq ⟨vs,h1,h2,h3⟩=>⟨vs,?_,h2,h3.kp (kp5 _)⟩) (.cons ⟨vs2,?_,hl5,?_⟩ .nil)
                · rw [upd_ne (fun z=>by rw [z] at hq; exact (List.nodup_cons.mp hnd).1 hq)]; exact s25 _ _ h1
                · rw [upd_ne hxD]; exact hH5
                · exact (i5.kp (Kp.less fun a z=>by
                    rcases sub a z with z | z
                    · exact .inl z
                    · exact .inr (.inl z)):IsL K H5 (ZZ (ps++[x2])) vs2 y).kp (kp6 _)
    · have e:i=xs.length:=by omega
      subst e
      rw [List.drop_length] at q2
      cases q2
      rw [List.append_nil] at ed2
      subst ed2
      have hl:=W.len
      rw [List.length_map] at hly
      exact .inl ⟨W.stop _ H2 _ kp12 s2 rfl,eD,kk Dl ps H2 (s1.trans s2) (Same.free s1 hD) (fun a ha=>Same.free s1 (hps a ha)) hnd eD (by omega) il⟩
  · cases q
section
variable {s u b:DS} {ρ:Rho} {W:Wk} {i:Nat} {a e k c:DE} {d:D} {rows:List (List D)} {ds:List D}
theorem wp_setM {es:Rho→Option (List (List D))} (h:es ρ=some rows) (hi:i < ρ.length) (k:W.nx (ρ.set i (.om rows))):Wp (sSetM i es) ρ W:=by unfold Wp sSetM; rw [h]; simp only [if_pos hi]; exact k
theorem wp_retXM (h:ρ.getD i .un=.om rows) (k:W.rt (rowsL rows)):Wp (sRetXM i) ρ W:=by unfold Wp sRetXM; rw [h]; exact k
theorem wp_put2 {n m:Int} {r j:Nat} (h0:ρ.getD i .un=.om rows) (h1:a ρ=some d) (h2:e ρ=some (.int n)) (h3:ixN rows.length n=some r) (h4:rows[r]?=some ds) (h5:c ρ=some (.int m)) (h6:ixN ds.length m=some j) (k:W.nx (ρ.set i (.om (rows.set r (ds.set j d))))):Wp (sPut2 i e c a) ρ W:=by
  unfold Wp sPut2; rw [h0]; simp only [h1,h2,h3,h4,h5,h6]; exact k
theorem ev_callM {F:List D→Option D} {es:Rho→Option (List D)} {xs:List D} (h:es ρ=some xs) (h2:F xs=some (rowsL rows)):dCallM F es ρ=some rows:=by unfold dCallM dCall; rw [h]; simp only [h2]; exact unrows_map rows
theorem ev_mat {es:Rho→Option (List (List D))} (h:es ρ=some rows):dMat es ρ=some (rowsL rows):=by unfold dMat; rw [h]; rfl
theorem ev_compM {α:Type} {k:Nat} {cs:List Nat} {it:Rho→Option (List D)} {g:DG} {t:Rho→Option Bool} {el:Rho→Option (List D)} (emb:α→D) {xs:List α} (h:it ρ=some (xs.map emb)) (p:α→Bool) (f:α→List D)
    (hs:∀ x∈xs,∃ ρ1,g (emb x) (r0 k cs ρ)=some ρ1∧t ρ1=some (p x)∧(p x=true→el ρ1=some (f x))):dCompM k cs it g t el ρ=some ((xs.filter p).map f):=by
  unfold dCompM
  rw [h]
  show compGoM g t el (r0 k cs ρ) (xs.map emb)=_
  clear h
  induction xs with
  | nil=>rfl
  | cons x r ih =>
    obtain ⟨ρ1,e1,e2,e3⟩:=hs x List.mem_cons_self
    rw [List.map_cons]
    unfold compGoM
    rw [e1]
    dsimp only
    rw [e2]
    have q:=ih fun y hy=>hs y (List.mem_cons_of_mem _ hy)
    cases hp:p x with
    | false=>rw [List.filter_cons_of_neg (by rw [hp]; exact Bool.false_ne_true)]; exact q
    | true =>
      rw [List.filter_cons_of_pos hp,List.map_cons]
      dsimp only
      rw [e3 hp]
      dsimp only
      rw [q]
theorem ev_compM0 {α:Type} {k:Nat} {cs:List Nat} {it:Rho→Option (List D)} {g:DG} {el:Rho→Option (List D)} (emb:α→D) {xs:List α} (h:it ρ=some (xs.map emb)) (f:α→List D)
    (hs:∀ x∈xs,∃ ρ1,g (emb x) (r0 k cs ρ)=some ρ1∧el ρ1=some (f x)):dCompM k cs it g dTrue el ρ=some (xs.map f):=by
  have:=ev_compM (k:=k) (cs:=cs) (g:=g) (t:=dTrue) (el:=el) emb h (fun _=>true) f fun x hx=>let ⟨ρ1,e1,e2⟩:=hs x hx; ⟨ρ1,e1,rfl,fun _=>e2⟩
  rw [this,List.filter_eq_self.mpr fun _ _=>rfl]
end
theorem run_eqG {F:List D→Option D} {n:Nat} {ms:List Bool} {b:DS} (hF:F=runF n ms b) {ds:List D} {d:D} (h:Wp b (stD n ms ds) { nx:=fun _=>False,rt:=fun x=>x=d }):F ds=some d:=by
  rw [hF]
  unfold runF
  unfold Wp at h
  cases e:b (stD n ms ds) with
  | rt x=>rw [e] at h; show some x=some d; rw [show x=d from h]
  | nx ρ=>rw [e] at h; exact h.elim
  | bk ρ=>rw [e] at h; exact h.elim
  | ct ρ=>rw [e] at h; exact h.elim
  | no=>rw [e] at h; exact h.elim
theorem run_ofG {F:List D→Option D} {n:Nat} {ms:List Bool} {b:DS} (hF:F=runF n ms b) {ds:List D} {P:D→Prop} (h:Wp b (stD n ms ds) { nx:=fun _=>False,rt:=P }):∃ d,F ds=some d∧P d:=by
  rw [hF]
  unfold runF
  unfold Wp at h
  cases e:b (stD n ms ds) with
  | rt x=>rw [e] at h; exact ⟨x,rfl,h⟩
  | nx ρ=>rw [e] at h; exact h.elim
  | bk ρ=>rw [e] at h; exact h.elim
  | ct ρ=>rw [e] at h; exact h.elim
  | no=>rw [e] at h; exact h.elim
end
end VL
namespace VL
open PySem L2
open Classical
noncomputable section
variable [Tabs] {K:PySem.W.Frag} {fr:Fm}
@[irreducible] noncomputable def sRowPut (i:Nat) (b:DE) (a:Rho→Option (List D)):DS:=fun ρ=>match ρ.getD i .un with
  | .om rows=>(match a ρ with
    | some ds=>(match b ρ with
      | some (.int n)=>(match ixN rows.length n with
        | some r=>.nx (ρ.set i (.om (rows.set r ds)))
        | none=>.no)
      | _=>.no)
    | none=>.no)
  | _=>.no
theorem set_nodup {α:Type} {x:α}:∀ {l:List α} (r:Nat),l.Nodup→x∉l→(l.set r x).Nodup
  | [],_,_,_=>by simp
  | a::l,0,h,hx=>by
    rw [List.set_cons_zero]
    exact List.nodup_cons.mpr ⟨fun z=>hx (List.mem_cons_of_mem _ z),(List.nodup_cons.mp h).2⟩
  | a::l,r+1,h,hx=>by
    rw [List.set_cons_succ]
    refine List.nodup_cons.mpr ⟨fun z=>?_,set_nodup r (List.nodup_cons.mp h).2 fun z=>hx (List.mem_cons_of_mem _ z)⟩
    rcases List.mem_or_eq_of_mem_set z with z | z
    · exact (List.nodup_cons.mp h).1 z
    · exact hx (by rw [← z]; exact List.mem_cons_self)
theorem Paired.setBoth {α β:Type} {F G:α→β→Prop} {x:α} {y:β}:∀ {ps:List α} {rows:List β} (r:Nat),Paired F ps rows→(∀ q ds,q∈ps→F q ds→G q ds)→G x y→Paired G (ps.set r x) (rows.set r y)
  | _,_,_,.nil,_,_=>.nil
  | _,_,0,.cons h t,hf,g=>.cons g (Paired.mono t fun q ds hq h=>hf q ds (List.mem_cons_of_mem _ hq) h)
  | _,_,r+1,.cons h t,hf,g=>.cons (hf _ _ List.mem_cons_self h) (Paired.setBoth r t (fun q ds hq h=>hf q ds (List.mem_cons_of_mem _ hq) h) g)
theorem ss_rowput {i:Nat} {ta tb:TE} {a:Rho→Option (List D)} {b:DE} (ha:SemF K ta a) (hb:SemB K tb b):SemS fr K (tAsg ta (gSub (tVar i) tb rSetL)) (sRowPut i b a):=fun {B Z os ρ σ H E} f p=>by
  unfold sRowPut at p
  split at p
  · rename_i rows e
    split at p
    · rename_i ds e1
      split at p
      · rename_i n e2
        split at p
        · rename_i r e3
          obtain ⟨o,ps,eo,hu,hH,hl,hln,pr⟩:=om_of f e
          refine ha f e1 fun x vs H1 s1 hx hx1 hlv iv=>⟨_,join_some hu,hb (f.grow s1) e2 fun w H2 s2 i2=>?_⟩
          have s12:=s1.trans s2
          have f2:=f.grow s12
          have hi:=getD_lt e (by intro z; cases z)
          have hn:=f.nd i
          rw [eo] at hn
          have hxo:x∉o::ps:=fun z=>by
            obtain ⟨xs,q⟩:=(f.sl i).dom (by rw [eo]; exact z)
            rw [hx] at q; cases q
          have hxo1:o≠x:=fun z=>hxo (by rw [z]; exact List.mem_cons_self)
          have hoi:o∈os i:=by rw [eo]; exact List.mem_cons_self
          have sub:∀ c,tot Z (putO os i (o::ps.set r x)) c→c=x∨tot Z os c:=by
            rintro c (z | ⟨j,z⟩)
            · exact .inr (.inl z)
            · by_cases hj:j=i
              · subst hj
                rw [putO_same] at z
                rcases List.mem_cons.mp z with z | z
                · exact .inr (.inr ⟨j,by rw [z]; exact hoi⟩)
                · rcases List.mem_or_eq_of_mem_set z with z | z
                  · exact .inr (.inr ⟨j,by rw [eo]; exact List.mem_cons_of_mem _ z⟩)
                  · exact .inl z
              · rw [putO_ne hj] at z; exact .inr (.inr ⟨j,z⟩)
          have kp:Kp (tot Z os) H (tot Z (putO os i (o::ps.set r x))) (upd H2 o (.lst ((ps.set r x).map V.ref))):=fun c u q z=>by
            refine ⟨by rw [upd_ne (fun w=>z (.inr ⟨i,by rw [w]; exact hoi⟩))]; exact s12 _ _ q,fun w=>?_⟩
            rcases sub c w with rfl | w
            · rw [hx] at q; cases q
            · exact z w
          have kpx:Kp (fun c=>c=x∨tot Z os c) H1 (tot Z (putO os i (o::ps.set r x))) (upd H2 o (.lst ((ps.set r x).map V.ref))):=fun c u q z=>by
            refine ⟨by rw [upd_ne (fun w=>z (.inr (.inr ⟨i,by rw [w]; exact hoi⟩)))]; exact s2 _ _ q,fun w=>z (sub c w)⟩
          have st:=f.step (H':=upd H2 o (.lst ((ps.set r x).map V.ref))) (i:=i) hi (o:=o::ps.set r x) (s:=.om (rows.set r ds)) (v:=some (.ref o)) (fun c u q nn=>by rw [upd_ne (fun z=>nn (by rw [z]; exact hoi))]; exact s12 _ _ q) (fun c hc=>?_)
            (List.nodup_cons.mpr ⟨fun z=>?_,set_nodup r (List.nodup_cons.mp hn).2 fun z=>hxo (List.mem_cons_of_mem _ z)⟩) (fun c hc=>?_)
            ⟨o,ps.set r x,rfl,rfl,upd_same,by rw [List.length_set]; exact hl,Paired.setBoth r pr (fun q ds' hq ⟨us,h1,h2,h3⟩=>⟨us,?_,h2,h3.kp kp⟩) ⟨vs,?_,hlv,iv.kp kpx⟩⟩
          · rw [set_self hu] at st
            refine ⟨o,ps.map V.ref,n,r,rfl,i2.isInt,s12 _ _ hH,by rw [List.length_map,hln]; exact e3,?_⟩
            rw [← List.map_set]
            exact p _ _ _ st.1 st.2
          · by_cases h:c=o
            · rw [h]; exact ⟨_,upd_same⟩
            · obtain ⟨xs,q⟩:=(f.sl i).dom hc
              exact ⟨_,by rw [upd_ne h]; exact s12 _ _ q⟩
          · rcases List.mem_or_eq_of_mem_set z with z | z
            · exact (List.nodup_cons.mp hn).1 z
            · exact hxo1 z
          · rcases List.mem_cons.mp hc with hc | hc
            · exact .inl (by rw [hc]; exact hoi)
            · rcases List.mem_or_eq_of_mem_set hc with hc | hc
              · exact .inl (by rw [eo]; exact List.mem_cons_of_mem _ hc)
              · exact .inr (by rw [hc]; exact hx)
          · rw [upd_ne (fun z=>(List.nodup_cons.mp hn).1 (by rw [← z]; exact hq))]; exact s12 _ _ h1
          · rw [upd_ne (Ne.symm hxo1)]; exact s2 _ _ hx1
        · exact p.elim
      · exact p.elim
    · exact p.elim
  · exact p.elim
def viewAll (ρ:Rho):Rho:=ρ.map view
theorem viewAll_get (ρ:Rho) (k:Nat):(viewAll ρ).getD k .un=view (ρ.getD k .un):=by
  unfold viewAll
  rw [List.getD_eq_getElem?_getD,List.getElem?_map,List.getD_eq_getElem?_getD]
  cases ρ[k]? <;> rfl
theorem viewFr {B H:Hp} {Z:Addr→Prop} {os:Own} {ρ:Rho} {σ:L2.St} (f:Fr K B Z os ρ σ H):Fr K H (tot Z os) (fun _=>[]) (viewAll ρ) σ H where
  keep:=Same.refl _
  zin:=f.tin
  tab:=f.tabH
  len:=by unfold viewAll; rw [List.length_map]; exact f.len
  nd:=fun _=>List.nodup_nil
  dj:=fun _ _ _ h=>by cases h
  new:=fun _ _ h=>by cases h
  sl:=fun j=>by
    have kp:Kp (tot Z os) H (tot (tot Z os) fun _=>[]) H:=Kp.less fun a z=>z.elim id fun ⟨_,w⟩=>by cases w
    have h:=f.sl j
    rw [viewAll_get]
    cases e2:ρ.getD j .un with
    | un=>exact rfl
    | pu d=>rw [e2] at h; obtain ⟨_,u,hu,i1⟩:=h; exact ⟨rfl,u,hu,i1.kp kp⟩
    | bo d=>rw [e2] at h; obtain ⟨_,u,hu,i1⟩:=h; exact ⟨rfl,u,hu,i1.same f.keep⟩
    | ol ds=>rw [e2] at h; obtain ⟨a,vs,_,hu,hH,hl,i1⟩:=h; exact ⟨rfl,_,hu,.lst (fun z=>z) (.inl hH) hl i1.all⟩
    | om rows=>rw [e2] at h; obtain ⟨a,ps,_,hu,hH,hl,i1⟩:=h; exact ⟨rfl,_,hu,.lst (fun z=>z) (.inl hH) (by rw [List.length_map]; exact hl) (rows_is i1)⟩
theorem viewFrA {B H:Hp} {Z:Addr→Prop} {os:Own} {ρ:Rho} {σ:L2.St} (f:Fr K B Z os ρ σ H) {j:Nat} {p:Addr} {vs:List V} {ds:List D} (hu:(σ[j]?).join=some (.ref p)) (hp:H p=some (.lst vs)) (hl:vs.length≤sizeLine) (r:IsL K H (tot Z os) vs ds):Fr K H (tot Z os) (fun _=>[]) ((viewAll ρ).set j (.bo (.lst ds))) σ H:=by
  have v:=viewFr f
  refine ⟨v.keep,v.zin,by rw [List.length_set]; exact v.len,v.nd,v.dj,v.new,fun k=>?_,v.tab⟩
  by_cases hk:k=j
  · subst hk
    have hj:k<(viewAll ρ).length:=by
      rw [← v.len]
      have:=join_some hu
      exact (List.getElem?_eq_some_iff.mp this).1
    rw [getD_set_same hj]
    exact ⟨rfl,_,hu,.lst (fun z=>z) (.inl hp) hl r.all⟩
  · rw [getD_set_ne hk]
    exact v.sl k
def alR (i j r:Nat) (rows:List (List D)) (ρ:Rho) (ds:List D):Rho:=(viewAll (ρ.set i (.om (rows.set r ds)))).set j (.bo (.lst ds))
def putsD (i j r:Nat) (rows:List (List D)) (ρ:Rho):List (DE×DE)→List D→Option (List D)
  | [],ds=>some ds
  | (c,a)::l,ds=>match a (alR i j r rows ρ ds) with
    | some d=>(match c (alR i j r rows ρ ds) with
      | some (.int n)=>(match ixN ds.length n with
        | some k=>putsD i j r rows ρ l (ds.set k d)
        | none=>none)
      | _=>none)
    | none=>none
inductive Puts (K:PySem.W.Frag):List (TE×TE)→List (DE×DE)→Prop
  | nil:Puts K [] []
  | cons {tc ta:TE} {c a:DE} {l:List (TE×TE)} {l':List (DE×DE)} (ha:SemI K ta a) (hc:SemB K tc c) (r:Puts K l l'):Puts K ((tc,ta)::l) ((c,a)::l')
def tPuts (j:Nat):List (TE×TE)→TS→TS
  | [],u=>u
  | (tc,ta)::l,u=>tSeq (tAsg ta (gSub (tVar j) tc rSetL)) (tPuts j l u)
@[irreducible] noncomputable def sAlias (i j:Nat) (b:DE) (l:List (DE×DE)) (w:DS):DS:=fun ρ=>match ρ.getD i .un with
  | .om rows=>(match b ρ with
    | some (.int n)=>(match ixN rows.length n with
      | some r=>(match rows[r]? with
        | some ds=>(match putsD i j r rows (ρ.set j .un) l ds with
          | some ds'=>if j < ρ.length then w ((ρ.set j .un).set i (.om (rows.set r ds'))) else .no
          | none=>.no)
        | none=>.no)
      | none=>.no)
    | _=>.no)
  | _=>.no
theorem puts_ok {i j r:Nat} {rows:List (List D)} {ρ:Rho} {w:DS} {u:TS} (hw:SemS fr K u w) (hi:i < ρ.length) {B:Hp} {Z:Addr→Prop} {E:Ends} {x p:Addr} {ps:List Addr} (hr:ps[r]?=some p) (hrl:r<rows.length):∀ {l:List (TE×TE)} {l':List (DE×DE)},Puts K l l'→∀ {os:Own} {σ:L2.St} {H:Hp} {ds ds':List D},Fr K B Z os (ρ.set i (.om (rows.set r ds))) σ H→os i=x::ps→(σ[j]?).join=some (.ref p)→putsD i j r rows ρ l' ds=some ds'→Post fr K B Z os H E (w (ρ.set i (.om (rows.set r ds'))))→tPuts j l u E σ H:=by
  intro l l' P
  induction P with
  | nil =>
    intro os σ H ds ds' f eo hu q po
    cases q
    exact hw f po
  | @cons tc ta c a l l' ha hc P ih =>
    intro os σ H ds ds' f eo hu q po
    have e:(ρ.set i (.om (rows.set r ds))).getD i .un=.om (rows.set r ds):=getD_set_same hi
    have hd:(rows.set r ds)[r]?=some ds:=by rw [List.getElem?_set,if_pos rfl,if_pos hrl]
    obtain ⟨y,qs,eo',hux,hH,hl,hln,pr⟩:=om_of f e
    rw [eo] at eo'
    cases eo'
    obtain ⟨p',e1,vs,g1,g2,g3⟩:=Paired.getF pr hd
    rw [hr] at e1
    cases e1
    have vf:=viewFrA f hu g1 g2 g3
    have q':(match a (alR i j r rows ρ ds) with
      | some d=>(match c (alR i j r rows ρ ds) with
        | some (.int n)=>(match ixN ds.length n with
          | some k=>putsD i j r rows ρ l' (ds.set k d)
          | none=>none)
        | _=>none)
      | none=>none)=some ds':=q
    split at q'
    · rename_i d e2
      split at q'
      · rename_i n e3
        split at q'
        · rename_i k e4
          refine ha vf e2 fun v H1 s1 i1=>⟨_,join_some hu,hc (vf.grow s1) e3 fun z H2 s2 i2=>?_⟩
          have s12:=s1.trans s2
          have f2:=f.grow s12
          have i1':Is K H2 (tot Z os) v d:=(i1.same s2).kp (Kp.less fun a z=>.inl z)
          obtain ⟨f',kp⟩:=f2.mutM1 (vs':=vs.set k v) (ds':=ds.set k d) e eo hux hr (by rw [List.length_set]; exact g2) ((g3.same s12).set i1' k)
          refine ⟨p,vs,n,k,rfl,i2.isInt,s12 _ _ g1,by rw [g3.length]; exact e4,?_⟩
          rw [List.set_set,List.set_set] at f'
          exact ih f' putO_same hu q' (Post.kp ((Kp.same s12).trans kp) po)
        · cases q'
      · cases q'
    · cases q'
theorem Fr.drop {B H:Hp} {Z:Addr→Prop} {os:Own} {ρ:Rho} {σ:L2.St} (f:Fr K B Z os ρ σ H) {j:Nat} (hj:j < ρ.length) (v:V):Fr K B Z (putO os j []) (ρ.set j .un) (σ.set j (some v)) H∧Kp (tot Z os) H (tot Z (putO os j [])) H :=
  f.step hj (fun a u e _=>e) (fun a ha=>let ⟨xs,e⟩:=(f.sl j).dom ha; ⟨_,e⟩) List.nodup_nil (fun a h=>by cases h) rfl
theorem ss_alias {i j:Nat} {tb:TE} {b:DE} {l:List (TE×TE)} {l':List (DE×DE)} {u:TS} {w:DS} (hij:i≠j) (hb:SemB K tb b) (P:Puts K l l') (hw:SemS fr K u w):SemS fr K (tSeq (tAsg (tOp (rIx K) (tVar i) tb) (gName j)) (tPuts j l u)) (sAlias i j b l' w):=fun {B Z os ρ σ H E} f p=>by
  unfold sAlias at p
  split at p
  · rename_i rows e
    split at p
    · rename_i n e2
      split at p
      · rename_i r e3
        split at p
        · rename_i ds e4
          split at p
          · rename_i ds' e5
            obtain ⟨x,ps,q,vs,eo,hu,hH,hat,hr,hq,hl,il⟩:=row_at f e e3 e4
            refine ⟨_,join_some hu,hb f e2 fun v H1 s1 i1=>.inl ⟨x,ps.map V.ref,n,.ref q,rfl,i1.isInt,SqL.of (s1 _ _ hH),hat,?_⟩⟩
            have f1:=f.grow s1
            have hi:=getD_lt e (by intro z; cases z)
            have hrl:r<rows.length:=(List.getElem?_eq_some_iff.mp e4).1
            show tPuts j l u E (σ.set j (some (.ref q))) H1
            by_cases hj:j < ρ.length
            · rw [if_pos hj] at p
              obtain ⟨f2,k2⟩:=f1.drop hj (.ref q)
              have e':(ρ.set j .un).getD i .un=.om rows:=by rw [getD_set_ne hij]; exact e
              have es:(ρ.set j .un).set i (.om (rows.set r ds))=ρ.set j .un:=by
                have:rows.set r ds=rows:=by
                  have:=(List.getElem?_eq_some_iff.mp e4).2
                  rw [← this]; exact List.set_getElem_self _
                rw [this]
                refine List.ext_getElem? fun k=>?_
                rw [List.getElem?_set]
                split
                · rename_i hk
                  subst hk
                  have hlt:i<(ρ.set j .un).length:=by rw [List.length_set]; exact hi
                  rw [if_pos hlt]
                  rw [List.getD_eq_getElem?_getD,List.getElem?_eq_getElem hlt] at e'
                  rw [List.getElem?_eq_getElem hlt]
                  exact congrArg some e'.symm
                · rfl
              rw [← es] at f2
              refine puts_ok (ρ:=ρ.set j .un) hw (by rw [List.length_set]; exact hi) hr hrl P f2 (by rw [putO_ne hij]; exact eo) ?_ e5 (Post.kp ((Kp.same s1).trans k2) p)
              rw [List.getElem?_set_self (by rw [f.len]; exact hj)]
              rfl
            · rw [if_neg hj] at p; exact p.elim
          · exact p.elim
        · exact p.elim
      · exact p.elim
    · exact p.elim
  · exact p.elim
theorem wp_rowput {i:Nat} {e:DE} {a:Rho→Option (List D)} {ρ:Rho} {W:Wk} {rows:List (List D)} {ds:List D} {n:Int} {r:Nat} (h0:ρ.getD i .un=.om rows) (h1:a ρ=some ds) (h2:e ρ=some (.int n)) (h3:ixN rows.length n=some r) (k:W.nx (ρ.set i (.om (rows.set r ds)))):Wp (sRowPut i e a) ρ W:=by
  unfold Wp sRowPut; rw [h0]; simp only [h1,h2,h3]; exact k
theorem wp_alias {i j:Nat} {b:DE} {l:List (DE×DE)} {w:DS} {ρ:Rho} {W:Wk} {rows:List (List D)} {ds ds':List D} {n:Int} {r:Nat} (h0:ρ.getD i .un=.om rows) (h1:b ρ=some (.int n)) (h2:ixN rows.length n=some r) (h3:rows[r]?=some ds) (h4:putsD i j r rows (ρ.set j .un) l ds=some ds') (hj:j < ρ.length) (k:Wp w ((ρ.set j .un).set i (.om (rows.set r ds'))) W):Wp (sAlias i j b l w) ρ W:=by
  unfold Wp at k ⊢; unfold sAlias; rw [h0]; simp only [h1,h2,h3,h4,if_pos hj]; exact k
theorem puts_cons {i j r:Nat} {rows:List (List D)} {ρ:Rho} {c a:DE} {l:List (DE×DE)} {ds:List D} {d:D} {n:Int} {k:Nat} {x:Option (List D)} (h1:a (alR i j r rows ρ ds)=some d) (h2:c (alR i j r rows ρ ds)=some (.int n)) (h3:ixN ds.length n=some k) (h:putsD i j r rows ρ l (ds.set k d)=x):putsD i j r rows ρ ((c,a)::l) ds=x:=by
  rw [← h]
  show (match a (alR i j r rows ρ ds) with
      | some d=>(match c (alR i j r rows ρ ds) with
        | some (.int n)=>(match ixN ds.length n with
          | some k=>putsD i j r rows ρ l (ds.set k d)
          | none=>none)
        | _=>none)
      | none=>none)=_
  simp only [h1,h2,h3]
end
end VL
namespace L2
open PySem PySem.Spec PyProof.Rows
structure Hop (fr ch:List Addr) (h h':Heap):Prop where
  keep:∀ b o,b∉fr→b∉ch→h.get? b=some o→h'.get? b=some o
  slot:∀ b o,b∉ch→h.get? b=some o→∃ sl,h'.get? b=some { o with slots:=sl }
section
variable {M:Model} {A:Around} {E:Value→Shared→Prop} {s:Shared} {base:Heap} {env:Env} {outer:List Env} {L e T:Addr} {cls fl:Value} {Q:Unit→Shared→Prop}
end
structure Out (X:Cx) (pins:List (Addr×Obj)) (H:Hp) (b:Addr):Prop where
  h:H b=none
  s0:X.s₀.heap.get? b=none
  loc:b≠X.env.locals
  cell:∀ x c,X.env.cells.lookup x=some c→c≠b
  pin:∀ p∈X.pn++pins,p.1≠b
section
variable {P:Program} {w:World} {H:Hp} {h:Heap} {a:Addr} {o:HO}
theorem ObjOk.live (x:ObjOk P w H h a o):∃ u,h.get? a=some u:=by
  cases o with
  | lst xs=>obtain ⟨_,_,_,_,e⟩:=x; exact ⟨_,e⟩
  | tup xs=>obtain ⟨_,_,_,ob,e,_⟩:=x; exact ⟨_,e⟩
  | dK kvs=>obtain ⟨_,_,_,_,o,_,_,e,_⟩:=x; exact ⟨_,e⟩
  | dT kvs=>obtain ⟨_,_,_,_,o,_,_,e,_⟩:=x; exact ⟨_,e⟩
  | set S n=>obtain ⟨o,_,_,_,e,_⟩:=x; exact ⟨_,e⟩
  | ins C dx fs=>obtain ⟨_,_,_,e,_⟩:=x; exact ⟨_,e⟩
  | own y=>exact x
  | xd fs=>obtain ⟨_,⟨_,_,_,e,_⟩,_⟩:=x; exact ⟨_,e⟩
  | rng lo hi=>obtain ⟨_,_,_,e⟩:=x; exact ⟨_,e⟩
  | frz ob u=>obtain ⟨e,_⟩:=x; exact ⟨_,e⟩
  | tbl ps=>obtain ⟨_,_,_,_,e,_⟩:=x; exact ⟨_,e⟩
  | met f y=>exact ⟨_,show h.get? a=some _ from x⟩
  | ext φ=>obtain ⟨_,e,_⟩:=x; exact e
end
section
variable {X:Cx} {pins:List (Addr×Obj)} {σ:St} {H H':Hp} {s:Shared}
theorem Inv.out (I:Inv X pins σ H s) (hx:X.ex=[]) {b:Addr} (e:s.heap.get? b=none):Out X pins H b where
  h:=by
    cases q:H b with
    | none=>rfl
    | some o=>obtain ⟨u,hu⟩:=(I.hok b o q).live; rw [e] at hu; cases hu
  s0:=by
    cases q:X.s₀.heap.get? b with
    | none=>rfl
    | some o=>obtain ⟨u,hu⟩:=I.base.there b o q (by rw [hx]; simp); rw [e] at hu; cases hu
  loc:=fun z=>by
    obtain ⟨m,⟨o,_,_,ho,_⟩,_⟩:=I.loc
    rw [← z,e] at ho; cases ho
  cell:=fun x c q z=>by
    obtain ⟨v,o,ho,_⟩:=I.cell x c q
    rw [z,e] at ho; cases ho
  pin:=fun p hp z=>by
    have:=(I.pin p hp).1
    rw [z,e] at this; cases this
end
structure OwnX (X:Cx):Prop where
  stk:X.stack=X.env::X.outer
  fr:X.env.frame=some X.env.locals
  ex:X.ex=[]
section
variable {X:Cx} {pins:List (Addr×Obj)} {σ:St} {H:Hp} {s s':Shared} {E:XK} {e:Value}
end
end L2
namespace L2
open PySem PySem.Spec PyProof.Rows
section
variable {X:Cx} {pins:List (Addr×Obj)} {σ:St} {H:Hp} {s:Shared} {a:Addr} {u:HO}
theorem Inv.track (I:Inv X pins σ H s) (o:Out X pins H a) (ob:ObjOk X.prog X.w (upd H a u) s.heap a u):Inv X pins σ (upd H a u) s:=by
  have ne:∀ b v,H b=some v→b≠a:=fun b v q z=>by rw [z,o.h] at q; cases q
  refine ⟨I.ok,I.os,I.bare,⟨I.base.keep,I.base.slot,fun b v q n hx=>?_,I.base.there,fun b xs q=>?_,fun b v xs q=>?_,fun b ps q=>?_⟩,I.loc,I.cell,?_,fun x c e=>?_,fun p hp=>?_,fun b v q=>?_,I.len⟩
  · rw [upd_ne (fun z=>by rw [z,o.s0] at q; cases q)]; exact I.base.free b v q n hx
  · have r:=I.base.tups b xs q; rw [upd_ne (ne b _ r)]; exact r
  · have r:=I.base.frzs b v xs q; rw [upd_ne (ne b _ r)]; exact r
  · obtain ⟨m,r⟩:=I.base.tbls b ps q; exact ⟨m,by rw [upd_ne (ne b _ r)]; exact r⟩
  · rw [upd_ne (Ne.symm o.loc)]; exact I.free
  · rw [upd_ne (o.cell x c e)]; exact I.freeC x c e
  · obtain ⟨e,n,r⟩:=I.pin p hp
    exact ⟨e,by rw [upd_ne (o.pin p hp)]; exact n,r⟩
  · by_cases hb:b=a
    · subst hb; rw [upd_same] at q; cases q; exact ob
    · rw [upd_ne hb] at q
      exact (I.hok b v q).stay (fun c y _ r=>r) (fun c r=>by rw [upd_ne (ne c _ r)]; exact r) (fun c xs r=>by rw [upd_ne (ne c _ r)]; exact r) fun c o u r=>by rw [upd_ne (ne c _ r)]; exact r
end
section
variable {X:Cx} {k:Nat} {f:Addr} {fd:FuncData} {ps:List Str} {sp:Sp} {x y n v:Str} {e:Expr} {es:List Expr} {t:TA} {F:Value} {iv ie:Nat} {p1 p2 p3 p4 p5 p6 p7 p8 pos:Pos}
end
structure ExcK (K:PySem.W.Frag) (C:Addr):Prop where
  ga:PySem.W.findIn K (.ref C) "__getattribute__" = some (some (.builtin "BaseException.__getattribute__"))
  gk:PySem.W.findIn K (.ref C) "__getattr__" = some none
  hd:PySem.W.hasDictIn K C=true
  ca:PySem.W.findIn K (.ref C) "__class__" = some (some (.builtin "object.__class__"))
  sp:PySem.W.specialIn K (.builtin "object.__class__") "__get__" = some (some (.builtin "getset_descriptor.__get__"))
  tk:PySem.W.takesIn K (.builtin "object.__class__")=some true
  mro:PySem.W.mroIn K C (.type "object")=some true
  mrb:PySem.W.mroIn K C (.type "BaseException")=some true
end L2
namespace L2
open PySem PySem.Spec PyProof.Rows
inductive PParts (X:Cx):List Expr→List TE→Prop
  | nil:PParts X [] []
  | text {x:Str} {j p es ts} (hx:x.length≤1000) (h:PParts X es ts):PParts X (.Constant (.str x) j p::es) ts
  | val {e:Expr} {p es ts} {t:TE} (he:PE X e t) (h:PParts X es ts):PParts X (.FormattedValue e (-1) none p::es) (t::ts)
end L2
namespace VL
open PySem L2
open Classical
noncomputable section
variable [Tabs] {K:PySem.W.Frag}
variable {E:XK} {C:Addr}
inductive SemJ (K:PySem.W.Frag):List TE→List DE→Prop
  | nil:SemJ K [] []
  | cons {t ts a as} (h:SemB K t a) (r:SemJ K ts as):SemJ K (t::ts) (a::as)
theorem same_new {H:Hp} {a:Addr} {o:HO} (h:H a=none):Same H (upd H a o):=fun b u e=>by rw [upd_ne (ne_of_none e h)]; exact e
variable {iv ie:Nat}
end
end VL
namespace VL
open PySem L2
open Classical
noncomputable section
variable [Tabs] {K:PySem.W.Frag} {fr:Fm}
noncomputable def dMNil:Rho→Option (List (List D)):=fun _=>some []
theorem sm_nil:SemM K (tLst tNil) dMNil:=fun {B Z os ρ σ H Q rows} f q k=>by
  cases q
  exact ⟨Nat.zero_le _,fun p hp=>k p [] _ (same_new hp) hp (fun _ z=>nomatch z) (List.nodup_cons.mpr ⟨(fun z=>by cases z),List.nodup_nil⟩) upd_same (Nat.zero_le _) .nil⟩
@[irreducible] noncomputable def sAppM (i:Nat) (a:Rho→Option (List D)):DS:=fun ρ=>match ρ.getD i .un with
  | .om rows=>(match a ρ with
    | some ds=>if rows.length<sizeLine then .nx (ρ.set i (.om (rows++[ds]))) else .no
    | none=>.no)
  | _=>.no
theorem ss_appM {i:Nat} {ta:TE} {a:Rho→Option (List D)} (ha:SemF K ta a):SemS fr K (tDrop (tBM K "list" rAppend (tVar i) (tCons ta tNil))) (sAppM i a):=fun {B Z os ρ σ H E} f p=>by
  unfold sAppM at p
  split at p
  case h_2=>exact p.elim
  case h_1 rows e =>
    split at p
    case h_2=>exact p.elim
    case h_1 ds e1 =>
      by_cases hz:rows.length<sizeLine
      · rw [if_pos hz] at p
        obtain ⟨o,ps,eo,hu,hH,hl,hln,pr⟩:=om_of f e
        refine ⟨_,join_some hu,.inl ⟨rfl,_,SqL.of hH⟩,ha f e1 fun x vs H1 s1 hx hx1 hlv iv=>?_⟩
        have hi:=getD_lt e (by intro z; cases z)
        have hn:=f.nd i
        rw [eo] at hn
        have hxo:x∉o::ps:=fun z=>by
          obtain ⟨xs,q⟩:=(f.sl i).dom (by rw [eo]; exact z)
          rw [hx] at q; cases q
        have hxo1:o≠x:=fun z=>hxo (by rw [z]; exact List.mem_cons_self)
        have hoi:o∈os i:=by rw [eo]; exact List.mem_cons_self
        have sub:∀ c,tot Z (putO os i (o::(ps++[x]))) c→c=x∨tot Z os c:=by
          rintro c (z | ⟨j,z⟩)
          · exact .inr (.inl z)
          · by_cases hj:j=i
            · subst hj
              rw [putO_same] at z
              rcases List.mem_cons.mp z with z | z
              · exact .inr (.inr ⟨j,by rw [z]; exact hoi⟩)
              · rcases List.mem_append.mp z with z | z
                · exact .inr (.inr ⟨j,by rw [eo]; exact List.mem_cons_of_mem _ z⟩)
                · exact .inl (List.mem_singleton.mp z)
            · rw [putO_ne hj] at z; exact .inr (.inr ⟨j,z⟩)
        have kp:Kp (tot Z os) H (tot Z (putO os i (o::(ps++[x])))) (upd H1 o (.lst ((ps++[x]).map V.ref))):=fun c u q z=>by
          refine ⟨by rw [upd_ne (fun w=>z (.inr ⟨i,by rw [w]; exact hoi⟩))]; exact s1 _ _ q,fun w=>?_⟩
          rcases sub c w with rfl | w
          · rw [hx] at q; cases q
          · exact z w
        have kpx:Kp (fun c=>c=x∨tot Z os c) H1 (tot Z (putO os i (o::(ps++[x])))) (upd H1 o (.lst ((ps++[x]).map V.ref))):=fun c u q z=>by
          refine ⟨by rw [upd_ne (fun w=>z (.inr (.inr ⟨i,by rw [w]; exact hoi⟩)))]; exact q,fun w=>z (sub c w)⟩
        have hpo:∀ q∈ps,o≠q:=fun q hq z=>(List.nodup_cons.mp hn).1 (by rw [z]; exact hq)
        have st:=f.step (H':=upd H1 o (.lst ((ps++[x]).map V.ref))) (i:=i) hi (o:=o::(ps++[x])) (s:=.om (rows++[ds])) (v:=some (.ref o)) (fun c u q nn=>by rw [upd_ne (fun z=>nn (by rw [z]; exact hoi))]; exact s1 _ _ q) (fun c hc=>?_)
          (List.nodup_cons.mpr ⟨fun z=>?_,?_⟩) (fun c hc=>?_)
          ⟨o,ps++[x],rfl,rfl,upd_same,by rw [List.length_append,List.length_singleton]; omega,Paired.append (Paired.mono pr fun q ds' hq ⟨us,h1,h2,h3⟩=>⟨us,by rw [upd_ne (Ne.symm (hpo q hq))]; exact s1 _ _ h1,h2,h3.kp kp⟩) (.cons ⟨vs,by rw [upd_ne (Ne.symm hxo1)]; exact hx1,hlv,iv.kp kpx⟩ .nil)⟩
        · rw [set_self hu] at st
          refine ⟨o,ps.map V.ref,.ref x,rfl,rfl,s1 _ _ hH,by rw [List.length_map,hln]; exact hz,?_⟩
          have em:ps.map V.ref++[V.ref x]=(ps++[x]).map V.ref:=by rw [List.map_append]; rfl
          rw [em]
          exact p _ _ _ st.1 st.2
        · by_cases hc':c=o
          · rw [hc']; exact ⟨_,upd_same⟩
          · obtain ⟨xs,q⟩:=(f.sl i).dom hc
            exact ⟨_,by rw [upd_ne hc']; exact s1 _ _ q⟩
        · rcases List.mem_append.mp z with z | z
          · exact (List.nodup_cons.mp hn).1 z
          · exact hxo1 (List.mem_singleton.mp z)
        · exact List.nodup_append.mpr ⟨(List.nodup_cons.mp hn).2,List.nodup_cons.mpr ⟨(fun z=>by cases z),List.nodup_nil⟩,fun a ha b hb z=>by
            rw [List.mem_singleton.mp hb] at z
            exact hxo (List.mem_cons_of_mem _ (by rw [← z]; exact ha))⟩
        · rcases List.mem_cons.mp hc with z | z
          · exact .inl (by rw [z]; exact hoi)
          · rcases List.mem_append.mp z with z | z
            · exact .inl (by rw [eo]; exact List.mem_cons_of_mem _ z)
            · exact .inr (by rw [List.mem_singleton.mp z]; exact hx)
      · rw [if_neg hz] at p; exact p.elim
theorem Fr.forget {B H:Hp} {Z:Addr→Prop} {os:Own} {ρ:Rho} {σ:L2.St} (f:Fr K B Z os ρ σ H) {r:Nat} (hr:r < ρ.length) (v:Option V):Fr K B Z (putO os r []) (ρ.set r .un) (σ.set r v) H∧Kp (tot Z os) H (tot Z (putO os r [])) H :=
  f.step hr (fun a u e _=>e) (fun a ha=>let ⟨xs,e⟩:=(f.sl r).dom ha; ⟨_,e⟩) List.nodup_nil (fun a h=>nomatch h) rfl
def Ag (is:List Nat) (σ σ':L2.St):Prop:=σ'.length=σ.length∧∀ j,j∉is→σ'[j]?=σ[j]?
theorem Ag.refl {is:List Nat} {σ:L2.St}:Ag is σ σ:=⟨rfl,fun _ _=>rfl⟩
theorem Ag.set {is:List Nat} {σ σ':L2.St} {i:Nat} {v:Option V} (h:Ag is σ σ') (hi:i∈is):Ag is σ (σ'.set i v) :=
  ⟨by rw [List.length_set]; exact h.1,fun j hj=>by rw [List.getElem?_set_ne fun z=>hj (by rw [← z]; exact hi)]; exact h.2 j hj⟩
theorem Ag.two {r n:Nat} {σ σ':L2.St} (h:Ag [r,n] σ σ'):σ'=(σ.set r (σ'[r]?).join).set n (σ'[n]?).join:=by
  refine List.ext_getElem? fun j=>?_
  by_cases hn:j=n
  · subst hn
    by_cases hl:j < σ.length
    · rw [List.getElem?_set_self (by rw [List.length_set]; exact hl),List.getElem?_eq_getElem (by rw [h.1]; exact hl)]; rfl
    · rw [List.getElem?_eq_none (by rw [h.1]; omega),List.getElem?_eq_none (by rw [List.length_set,List.length_set]; omega)]
  · rw [List.getElem?_set_ne (Ne.symm hn)]
    by_cases hr:j=r
    · subst hr
      by_cases hl:j < σ.length
      · rw [List.getElem?_set_self hl,List.getElem?_eq_getElem (by rw [h.1]; exact hl)]; rfl
      · rw [List.getElem?_eq_none (by rw [h.1]; omega),List.getElem?_eq_none (by rw [List.length_set]; omega)]
    · rw [List.getElem?_set_ne (Ne.symm hr)]
      exact h.2 j (by simp [hn,hr])
theorem wp_appM {i:Nat} {a:Rho→Option (List D)} {ρ:Rho} {rows:List (List D)} {ds:List D} {W:Wk} (h0:ρ.getD i .un=.om rows) (h:a ρ=some ds) (hl:rows.length<sizeLine) (k:W.nx (ρ.set i (.om (rows++[ds])))):Wp (sAppM i a) ρ W:=by
  unfold Wp sAppM; rw [h0]; simp only [h,if_pos hl]; exact k
end
end VL
namespace Srt
open PySem PySem.W PyProof.Rows
def KOk {α:Type} (lt:Nat→Nat→Bool) (n:Nat):KasT α→(α→Prop)→Prop
  | .ret a,Q=>Q a
  | .ask i j k,Q=>i<n∧j<n∧KOk lt n (k (lt i j)) Q
section
variable {lt:Nat→Nat→Bool} {N:Nat}
theorem KOk.bind {α β:Type} {f:α→KasT β} {Q:β→Prop}:∀ (t:KasT α),KOk lt N t (fun a=>KOk lt N (f a) Q)→KOk lt N (t.bind f) Q
  | .ret _,h=>h
  | .ask _ _ k,h=>⟨h.1,h.2.1,KOk.bind (k _) h.2.2⟩
theorem KOk.mono {α:Type} {Q Q':α→Prop} (hq:∀ a,Q a→Q' a):∀ (t:KasT α),KOk lt N t Q→KOk lt N t Q'
  | .ret a,h=>hq a h
  | .ask _ _ k,h=>⟨h.1,h.2.1,KOk.mono hq (k _) h.2.2⟩
theorem KOk.wp {α:Type} {cmp:Nat→Nat→(Bool→Shared→Prop)→Shared→Prop} {s:Shared} (hc:∀ i j (C:Bool→Shared→Prop),i<N→j<N→C (lt i j) s→cmp i j C s) {Q:α→Shared→Prop} :
    ∀ (t:KasT α),KOk lt N t (fun a=>Q a s)→t.kasWp cmp Q s
  | .ret _,h=>h
  | .ask i j k,h=>hc i j _ h.1 h.2.1 (KOk.wp hc (k _) h.2.2)
structure Ord (lt:Nat→Nat→Bool):Prop where
  tr:∀ a b c,lt b a=false→lt c b=false→lt c a=false
  as:∀ a b,lt a b=true→lt b a=false
abbrev g (p:Array Nat) (i:Nat):Nat:=p.getD i 0
def Up (lt:Nat→Nat→Bool) (p:Array Nat) (k:Nat):Prop:=∀ i j,i≤j→j<k→lt (g p j) (g p i)=false
def Dn (lt:Nat→Nat→Bool) (p:Array Nat) (k:Nat):Prop:=∀ i j,i≤j→j<k→lt (g p i) (g p j)=false
def Eqv (lt:Nat→Nat→Bool) (p:Array Nat) (a b:Nat):Prop:=∀ i j,a≤i→i<b→a≤j→j<b→lt (g p i) (g p j)=false
def Lo (N:Nat) (p:Array Nat):Prop:=p.size=N∧∀ i,g p i<N
theorem Lo.of_perm {p q:Array Nat} (h0:0<N) (h:Lo N p) (hp:q.Perm p):Lo N q:=by
  refine ⟨hp.size_eq.trans h.1,fun i=>?_⟩
  unfold g
  by_cases c:i<q.size
  · have m:q[i]∈p:=hp.mem_iff.mp (Array.getElem_mem c)
    obtain ⟨j,hj,e⟩:=Array.mem_iff_getElem.mp m
    have:=h.2 j
    unfold g at this
    rw [Array.getD_eq_getD_getElem?,Array.getElem?_eq_getElem hj] at this
    rw [Array.getD_eq_getD_getElem?,Array.getElem?_eq_getElem c]
    show q[i]<N
    rw [← e]
    exact this
  · rw [Array.getD_eq_getD_getElem?,Array.getElem?_eq_none (by omega)]
    exact h0
theorem g_rev {p:Array Nat} {i j:Nat} (hj:j≤p.size) (k:Nat):g (kas_rev p i j) k=if i≤k∧k<j then g p (i+j-1-k) else g p k:=by
  unfold g kas_rev
  rw [Array.getD_eq_getD_getElem?,getElem?_mirror_all hj]
  by_cases c:i≤k∧k<j
  · rw [if_pos c,if_pos c,Array.getD_eq_getD_getElem?]
  · rw [if_neg c,if_neg c,Array.getD_eq_getD_getElem?]
theorem g_bub {p:Array Nat} {s d:Nat} (hs:s<p.size) (hd:d≤s) (k:Nat):g (bubble p s d) k=if k=s-d then g p s else if s-d<k∧k≤s then g p (k-1) else g p k:=by
  unfold g
  rw [Array.getD_eq_getD_getElem?,getElem?_bubble hs d hd]
  by_cases c:k=s-d
  · rw [if_pos c,if_pos c,Array.getD_eq_getD_getElem?]
  · rw [if_neg c,if_neg c]
    by_cases c2:s-d<k∧k≤s
    · rw [if_pos c2,if_pos c2,Array.getD_eq_getD_getElem?]
    · rw [if_neg c2,if_neg c2,Array.getD_eq_getD_getElem?]
theorem rev_perm {p:Array Nat} {i j:Nat}:(kas_rev p i j).Perm p:=mirror_perm _ _ _ _
theorem irr (o:Ord lt) (a:Nat):lt a a=false:=by
  cases h:lt a a with
  | false=>rfl
  | true=>rw [o.as a a h] at h; cases h
theorem asc_ok (o:Ord lt) {p:Array Nat} (hp:Lo N p):∀ (f n:Nat),1≤n→Up lt p n→KOk lt N (kas_asc p f n) (fun m=>n≤m∧m≤n+f∧Up lt p m∧(m<n+f→lt (g p m) (g p (m-1))=true))
  | 0,n,_,h=>⟨Nat.le_refl _,Nat.le_refl _,h,fun z=>by omega⟩
  | f+1,n,h1,h=>by
    refine ⟨hp.2 n,hp.2 (n-1),?_⟩
    cases c:lt (p.getD n 0) (p.getD (n-1) 0) with
    | true =>
      dsimp only
      rw [if_pos rfl]
      exact ⟨Nat.le_refl _,by omega,h,fun _=>c⟩
    | false =>
      dsimp only
      rw [if_neg Bool.false_ne_true]
      refine KOk.mono (fun m q=>⟨by omega,by omega,q.2.2.1,fun z=>q.2.2.2 (by omega)⟩) _ (asc_ok o hp f (n+1) (by omega) fun i j hij hj=>?_)
      by_cases e:j<n
      · exact h i j hij e
      · have:j=n:=by omega
        subst this
        by_cases e2:i=j
        · subst e2; exact irr o _
        · exact o.tr _ (g p (j-1)) _ (h i (j-1) (by omega) (by omega)) c
theorem desc_ok (o:Ord lt) (h0:0<N):∀ (f:Nat) (p:Array Nat) (n q:Nat),Lo N p→1≤n→n+f≤N→q+1≤n→Dn lt p n→Eqv lt p (n-(q+1)) n →
    KOk lt N (kas_desc f p n q) (fun r=>r.1.Perm p∧Dn lt r.1 r.2.1∧n≤r.2.1∧r.2.1≤n+f∧r.2.2+1≤r.2.1∧Eqv lt r.1 (r.2.1-(r.2.2+1)) r.2.1)
  | 0,p,n,q,_,_,_,hq,hd,he=>⟨Array.Perm.refl _,hd,Nat.le_refl _,Nat.le_refl _,hq,he⟩
  | f+1,p,n,q,hp,h1,hn,hq,hd,he=>by
    refine ⟨hp.2 n,hp.2 (n-1),?_⟩
    cases c:lt (p.getD n 0) (p.getD (n-1) 0) with
    | true =>
      dsimp only
      rw [if_pos rfl]
      by_cases hq0:q > 0
      · rw [if_pos hq0]
        have hsz:n≤p.size:=by rw [hp.1]; omega
        have gr:∀ k,g (kas_rev p (n-(q+1)) n) k=if n-(q+1)≤k∧k<n then g p (n-(q+1)+n-1-k) else g p k:=g_rev hsz
        refine KOk.mono (fun r z=>⟨z.1.trans rev_perm,z.2.1,by omega,by omega,z.2.2.2.2.1,z.2.2.2.2.2⟩) _ (desc_ok o h0 f _ (n+1) 0 (hp.of_perm h0 rev_perm) (by omega) (by omega) (by omega) (fun i j hij hj=>?_) fun i j hi1 hi2 hj1 hj2=>?_)
        · rw [gr i,gr j]
          have key:∀ k,k<n→lt (g p k) (g p n)=false:=fun k hk=>o.tr _ (g p (n-1)) _ (o.as _ _ c) (hd k (n-1) (by omega) (by omega))
          by_cases cj:n-(q+1)≤j∧j<n
          · rw [if_pos cj]
            by_cases ci:n-(q+1)≤i∧i<n
            · rw [if_pos ci]; exact he _ _ (by omega) (by omega) (by omega) (by omega)
            · rw [if_neg ci]; exact hd _ _ (by omega) (by omega)
          · rw [if_neg cj]
            by_cases ci:n-(q+1)≤i∧i<n
            · rw [if_pos ci]
              have:j=n:=by omega
              subst this
              exact key _ (by omega)
            · rw [if_neg ci]
              by_cases e:j=n
              · subst e
                by_cases e2:i=j
                · subst e2; exact irr o _
                · exact key _ (by omega)
              · exact hd _ _ hij (by omega)
        · have e1:i=n:=by omega
          have e2:j=n:=by omega
          subst e1; subst e2
          exact irr o _
      · rw [if_neg hq0]
        refine KOk.mono (fun r z=>⟨z.1,z.2.1,by omega,by omega,z.2.2.2.2.1,z.2.2.2.2.2⟩) _ (desc_ok o h0 f p (n+1) 0 hp (by omega) (by omega) (by omega) (fun i j hij hj=>?_) fun i j hi1 hi2 hj1 hj2=>?_)
        · by_cases e:j=n
          · subst e
            by_cases e2:i=j
            · subst e2; exact irr o _
            · exact o.tr _ (g p (j-1)) _ (o.as _ _ c) (hd i (j-1) (by omega) (by omega))
          · exact hd _ _ hij (by omega)
        · have e1:i=n:=by omega
          have e2:j=n:=by omega
          subst e1; subst e2
          exact irr o _
    | false =>
      dsimp only
      rw [if_neg Bool.false_ne_true]
      refine ⟨hp.2 (n-1),hp.2 n,?_⟩
      cases d:lt (p.getD (n-1) 0) (p.getD n 0) with
      | true =>
        dsimp only
        rw [if_pos rfl]
        exact ⟨Array.Perm.refl _,hd,Nat.le_refl _,Nat.le_add_right _ _,hq,he⟩
      | false =>
        dsimp only
        rw [if_neg Bool.false_ne_true]
        have key:∀ k,k<n→lt (g p k) (g p n)=false:=fun k hk=>o.tr _ (g p (n-1)) _ d (hd k (n-1) (by omega) (by omega))
        have key2:∀ k,n-(q+1)≤k→k<n→lt (g p n) (g p k)=false:=fun k hk1 hk2=>o.tr _ (g p (n-1)) _ (he (n-1) k (by omega) (by omega) hk1 hk2) c
        refine KOk.mono (fun r z=>⟨z.1,z.2.1,by omega,by omega,z.2.2.2.2.1,z.2.2.2.2.2⟩) _ (desc_ok o h0 f p (n+1) (q+1) hp (by omega) (by omega) (by omega) (fun i j hij hj=>?_) fun i j hi1 hi2 hj1 hj2=>?_)
        · by_cases e:j=n
          · subst e
            by_cases e2:i=j
            · subst e2; exact irr o _
            · exact key _ (by omega)
          · exact hd _ _ hij (by omega)
        · by_cases e:i=n
          · by_cases e2:j=n
            · rw [e,e2]; exact irr o _
            · rw [e]; exact key2 _ (by omega) (by omega)
          · by_cases e2:j=n
            · rw [e2]; exact key _ (by omega)
            · exact he _ _ (by omega) (by omega) (by omega) (by omega)
theorem tail_ok (o:Ord lt) (h0:0<N) {p:Array Nat} {n nrem:Nat} (hp:Lo N p) (h1:1≤n) (hn:n≤nrem) (hr:nrem≤N) (hd:Dn lt p n) :
    KOk lt N (kas_tail3 n nrem p) (fun r=>r.2.Perm p∧Up lt r.2 r.1∧1≤r.1∧r.1≤nrem):=by
  have gr:∀ k,g (kas_rev p 0 n) k=if 0≤k∧k<n then g p (0+n-1-k) else g p k:=g_rev (by rw [hp.1]; omega)
  refine KOk.bind _ (KOk.mono (fun m z=>?_) _ (asc_ok o (hp.of_perm h0 rev_perm) (nrem-n) n h1 fun i j hij hj=>?_))
  · exact ⟨rev_perm,z.2.2.1,by omega,by omega⟩
  · rw [gr i,gr j,if_pos (by omega),if_pos (by omega)]
    exact hd _ _ (by omega) (by omega)
theorem descPart_ok (o:Ord lt) (h0:0<N) {p:Array Nat} {n nrem:Nat} (hp:Lo N p) (h1:1≤n) (hn:n+1≤nrem) (hr:nrem≤N) (hd:Dn lt p (n+1)) :
    KOk lt N (kas_descPart n nrem p) (fun r=>r.2.Perm p∧Up lt r.2 r.1∧1≤r.1∧r.1≤nrem):=by
  refine KOk.bind _ (KOk.mono (fun r z=>?_) _ (desc_ok o h0 (nrem-(n+1)) p (n+1) 0 hp (by omega) (by omega) (by omega) hd fun i j hi1 hi2 hj1 hj2=>?_))
  · obtain ⟨z1,z2,z3,z4,z5,z6⟩:=z
    have hp1:=hp.of_perm h0 z1
    by_cases c:r.2.2 > 0
    · rw [if_pos c]
      have hsz:r.2.1≤r.1.size:=by rw [hp1.1]; omega
      have gr:∀ k,g (kas_rev r.1 (r.2.1-(r.2.2+1)) r.2.1) k=if r.2.1-(r.2.2+1)≤k∧k<r.2.1 then g r.1 (r.2.1-(r.2.2+1)+r.2.1-1-k) else g r.1 k:=g_rev hsz
      refine KOk.mono (fun t q=>⟨q.1.trans (rev_perm.trans z1),q.2⟩) _ (tail_ok o h0 (hp1.of_perm h0 rev_perm) (by omega) (by omega) hr fun i j hij hj=>?_)
      rw [gr i,gr j]
      by_cases cj:r.2.1-(r.2.2+1)≤j∧j<r.2.1
      · rw [if_pos cj]
        by_cases ci:r.2.1-(r.2.2+1)≤i∧i<r.2.1
        · rw [if_pos ci]; exact z6 _ _ (by omega) (by omega) (by omega) (by omega)
        · rw [if_neg ci]; exact z2 _ _ (by omega) (by omega)
      · rw [if_neg cj,if_neg (by omega)]; exact z2 _ _ hij (by omega)
    · rw [if_neg c]
      exact KOk.mono (fun t q=>⟨q.1.trans z1,q.2⟩) _ (tail_ok o h0 hp1 (by omega) (by omega) hr z2)
  · have e1:i=n:=by omega
    have e2:j=n:=by omega
    subst e1; subst e2
    exact irr o _
theorem count_ok (o:Ord lt) {p:Array Nat} (h0:0<N) (hp:Lo N p) :
    KOk lt N (kas_count N p) (fun r=>r.2.Perm p∧Up lt r.2 r.1∧1≤r.1∧r.1≤N):=by
  refine KOk.bind _ (KOk.mono (fun n z=>?_) _ (asc_ok o hp (N-1) 1 (Nat.le_refl _) fun i j hij hj=>?_))
  · obtain ⟨z1,z2,z3,z4⟩:=z
    by_cases c:(n==N)=true
    · rw [if_pos c]
      have:=eq_of_beq c
      exact ⟨Array.Perm.refl _,z3,z1,by omega⟩
    · rw [if_neg c]
      have cn:n≠N:=fun e=>c (by rw [e]; exact beq_self_eq_true _)
      have z5:=z4 (by omega)
      by_cases c2:n > 1
      · rw [if_pos c2]
        refine ⟨hp.2 0,hp.2 (n-1),?_⟩
        cases d:lt (p.getD 0 0) (p.getD (n-1) 0) with
        | true =>
          dsimp only
          rw [if_pos rfl]
          exact ⟨Array.Perm.refl _,z3,z1,by omega⟩
        | false =>
          dsimp only
          rw [if_neg Bool.false_ne_true]
          have gr:∀ k,g (kas_rev p 0 n) k=if 0≤k∧k<n then g p (0+n-1-k) else g p k:=g_rev (by rw [hp.1]; omega)
          have eq:∀ i j,i<n→j<n→lt (g p i) (g p j)=false:=fun i j hi hj=>by
            have a1:lt (g p (n-1)) (g p j)=false:=z3 j (n-1) (by omega) (by omega)
            have a2:lt (g p i) (g p 0)=false:=z3 0 i (by omega) hi
            exact o.tr _ (g p 0) _ (o.tr _ (g p (n-1)) _ a1 d) a2
          refine KOk.mono (fun t q=>⟨q.1.trans rev_perm,q.2⟩) _ (descPart_ok o h0 (hp.of_perm h0 rev_perm) (by omega) (by omega) (Nat.le_refl _) fun i j hij hj=>?_)
          rw [gr i,gr j]
          by_cases cj:j<n
          · rw [if_pos (by omega),if_pos (by omega)]; exact eq _ _ (by omega) (by omega)
          · have:j=n:=by omega
            subst this
            rw [if_neg (show ¬ (0≤j∧j<j) by omega)]
            by_cases ci:i<j
            · rw [if_pos (by omega)]
              exact o.tr _ (g p (j-1)) _ (o.as _ _ z5) (eq _ _ (by omega) (by omega))
            · have:i=j:=by omega
              subst this
              rw [if_neg (by omega)]
              exact irr o _
      · rw [if_neg c2]
        refine descPart_ok o h0 hp (by omega) (by omega) (Nat.le_refl _) fun i j hij hj=>?_
        have n1:n=1:=by omega
        subst n1
        by_cases ci:i=j
        · subst ci; exact irr o _
        · have e1:i=0:=by omega
          have e2:j=1:=by omega
          subst e1; subst e2
          exact o.as _ _ z5
  · have e1:i=j:=by omega
    subst e1
    exact irr o _
theorem place_ok (o:Ord lt) {p:Array Nat} {k:Nat} (hp:Lo N p) (hu:Up lt p k):∀ (f l r:Nat),l≤r→r≤k→r-l≤f→(∀ i,i<l→lt (g p k) (g p i)=false)→(∀ i,r≤i→i<k→lt (g p k) (g p i)=true) →
    KOk lt N (kas_place p k f l r) (fun m=>m≤k∧(∀ i,i<m→lt (g p k) (g p i)=false)∧∀ i,m≤i→i<k→lt (g p k) (g p i)=true)
  | 0,l,r,h1,h2,h3,h4,h5=>⟨by omega,h4,fun i hi=>h5 i (by omega)⟩
  | f+1,l,r,h1,h2,h3,h4,h5=>by
    unfold kas_place
    by_cases c:l ≥ r
    · rw [if_pos c]; exact ⟨by omega,h4,fun i hi=>h5 i (by omega)⟩
    · rw [if_neg c]
      refine ⟨hp.2 k,hp.2 ((l+r) / 2),?_⟩
      cases d:lt (p.getD k 0) (p.getD ((l+r) / 2) 0) with
      | true =>
        dsimp only
        rw [if_pos rfl]
        refine place_ok o hp hu f l ((l+r) / 2) (by omega) (by omega) (by omega) h4 fun i hi1 hi2=>?_
        cases e:lt (g p k) (g p i) with
        | true=>rfl
        | false =>
          have:=o.tr _ (g p i) _ (hu ((l+r) / 2) i hi1 hi2) e
          rw [show lt (g p k) (g p ((l+r) / 2))=true from d] at this
          cases this
      | false =>
        dsimp only
        rw [if_neg Bool.false_ne_true]
        exact place_ok o hp hu f ((l+r) / 2+1) r (by omega) h2 (by omega) (fun i hi=>o.tr _ (g p ((l+r) / 2)) _ (hu i ((l+r) / 2) (by omega) (by omega)) d) h5
theorem bin_ok (o:Ord lt) (h0:0<N):∀ (f:Nat) (p:Array Nat) (k:Nat),Lo N p→k+f=N→Up lt p k→KOk lt N (kas_bin f p k) (fun q=>q.Perm p∧Up lt q N)
  | 0,p,k,_,hk,hu=>⟨Array.Perm.refl _,by rw [← hk]; exact hu⟩
  | f+1,p,k,hp,hk,hu=>by
    refine KOk.bind _ (KOk.mono (fun m z=>?_) _ (place_ok o hp hu k 0 k (Nat.zero_le _) (Nat.le_refl _) (by omega) (fun i hi=>by omega) fun i hi1 hi2=>by omega))
    obtain ⟨z1,z2,z3⟩:=z
    have gb:∀ j,g (bubble p k (k-m)) j=if j=k-(k-m) then g p k else if k-(k-m)<j∧j≤k then g p (j-1) else g p j:=g_bub (by rw [hp.1]; omega) (by omega)
    have em:k-(k-m)=m:=by omega
    rw [em] at gb
    refine KOk.mono (fun q y=>⟨y.1.trans (bubble_perm _ _ _),y.2⟩) _ (bin_ok o h0 f _ (k+1) (hp.of_perm h0 (bubble_perm _ _ _)) (by omega) fun i j hij hj=>?_)
    rw [gb i,gb j]
    by_cases cj:j=m
    · rw [if_pos cj]
      by_cases ci:i=m
      · rw [if_pos ci]; exact irr o _
      · rw [if_neg ci,if_neg (by omega)]; exact z2 i (by omega)
    · rw [if_neg cj]
      by_cases cj2:m<j∧j≤k
      · rw [if_pos cj2]
        by_cases ci:i=m
        · rw [if_pos ci]; exact o.as _ _ (z3 (j-1) (by omega) (by omega))
        · rw [if_neg ci]
          by_cases ci2:m<i∧i≤k
          · rw [if_pos ci2]; exact hu _ _ (by omega) (by omega)
          · rw [if_neg ci2]; exact hu _ _ (by omega) (by omega)
      · rw [if_neg cj2]
        rw [if_neg (by omega),if_neg (by omega)]
        exact hu _ _ hij (by omega)
theorem sort_ok (o:Ord lt) (h0:0<N):KOk lt N (kas_sort N) (fun p=>p.toList.Perm (List.range N)∧Up lt p N):=by
  have hp:Lo N (List.toArray (List.range N)):=by
    refine ⟨by simp,fun i=>?_⟩
    unfold g
    rw [Array.getD_eq_getD_getElem?]
    by_cases c:i<N
    · simp [c]
    · rw [Array.getElem?_eq_none (by simpa using c)]
      exact h0
  have done:∀ q:Array Nat,q.Perm (List.toArray (List.range N))→q.toList.Perm (List.range N):=fun q h=>by
    have:=Array.perm_iff_toList_perm.mp h
    simpa using this
  refine KOk.bind _ (KOk.mono (fun r z=>?_) _ (count_ok o h0 hp))
  obtain ⟨z1,z2,z3,z4⟩:=z
  by_cases c:r.1<N
  · rw [if_pos c]
    have e:max r.1 1=r.1:=by omega
    rw [e]
    exact KOk.mono (fun q y=>⟨done q (y.1.trans z1),y.2⟩) _ (bin_ok o h0 (N-r.1) r.2 r.1 (hp.of_perm h0 z1) (by omega) z2)
  · rw [if_neg c]
    have e:r.1=N:=by omega
    rw [e] at z2
    exact ⟨done _ z1,z2⟩
end
end Srt
namespace L2
open PySem PySem.Spec PyProof.Rows
def lexLt:List Int→List Int→Bool
  | [],[]=>false
  | [],_::_=>true
  | _::_,[]=>false
  | x::xs,y::ys=>if x=y then lexLt xs ys else decide (x<y)
theorem lex_as:∀ a b:List Int,lexLt a b=true→lexLt b a=false
  | [],[],h=>by cases h
  | [],_::_,_=>rfl
  | _::_,[],h=>by cases h
  | x::xs,y::ys,h=>by
    unfold lexLt at h ⊢
    by_cases c:x=y
    · subst c; rw [if_pos rfl] at h ⊢; exact lex_as xs ys h
    · rw [if_neg c] at h
      rw [if_neg (Ne.symm c)]
      have:=of_decide_eq_true h
      exact decide_eq_false (by omega)
theorem lex_tr:∀ a b c:List Int,lexLt b a=false→lexLt c b=false→lexLt c a=false
  | [],[],[],_,_=>rfl
  | [],[],_::_,_,_=>rfl
  | [],_::_,[],_,h=>by cases h
  | [],_::_,_::_,_,_=>rfl
  | _::_,[],_,h,_=>by cases h
  | _::_,_::_,[],_,h=>by cases h
  | x::xs,y::ys,z::zs,h1,h2=>by
    unfold lexLt at h1 h2 ⊢
    by_cases c1:y=x
    · subst c1
      rw [if_pos rfl] at h1
      by_cases c2:z=y
      · subst c2; rw [if_pos rfl] at h2 ⊢; exact lex_tr xs ys zs h1 h2
      · rw [if_neg c2] at h2 ⊢; exact h2
    · rw [if_neg c1] at h1
      have k1:=of_decide_eq_false h1
      by_cases c2:z=y
      · subst c2
        rw [if_neg c1]
        exact h1
      · rw [if_neg c2] at h2
        have k2:=of_decide_eq_false h2
        rw [if_neg (by omega)]
        exact decide_eq_false (by omega)
theorem lex_ord (f:Nat→List Int):Srt.Ord fun i j=>lexLt (f i) (f j):=⟨fun a b c h1 h2=>lex_tr _ _ _ h1 h2,fun a b h=>lex_as _ _ h⟩
theorem lex_eq:∀ a b:List Int,lexLt a b=false→lexLt b a=false→a=b
  | [],[],_,_=>rfl
  | [],_::_,h,_=>by cases h
  | _::_,[],_,h=>by cases h
  | x::xs,y::ys,h1,h2=>by
    unfold lexLt at h1 h2
    by_cases c:x=y
    · subst c; rw [if_pos rfl] at h1 h2; rw [lex_eq xs ys h1 h2]
    · rw [if_neg c] at h1
      rw [if_neg (Ne.symm c)] at h2
      have:=of_decide_eq_false h1
      have:=of_decide_eq_false h2
      omega
section
variable {X:Cx} {pins:List (Addr×Obj)} {σ:St} {H:Hp} {s:Shared}
theorem Inv.newsLaid {h':Heap} {D:Addr} {o:Obj} {u:HO} {m:Str→Option Value} {t':Nat} (I:Inv X pins σ H s) (hx:X.ex=[]) (F:Fr X.base X.env.locals s.heap m) (F':Fr X.base X.env.locals h' m)
    (N':News X.base X.env.locals h' ((D,o)::allNews X.base s.heap X.env.locals)) (hD:s.heap.get? D=none) (new:ObjOk X.prog X.w (upd H D u) h' D u):Inv X pins σ (upd H D u) { s with heap:=h',toks:=t' }:=by
  have keep:∀ b v,b≠X.env.locals→s.heap.get? b=some v→h'.get? b=some v:=fun b v hb q=>by
    cases e:X.base.get? b with
    | some y =>
      have e1:=F.keep b y e
      rw [q] at e1
      cases e1
      exact F'.keep b v e
    | none=>exact (N' (b,v) (List.mem_cons_of_mem _ (mem_allNews hb e q))).1
  obtain ⟨oL,es,ep,hL,rL⟩:=F.ns
  have nL:∀ b w,H b=some w→b≠X.env.locals:=fun b w q z=>by rw [z,I.free] at q; cases q
  have I1:Inv X pins σ H { s with heap:=h',gens:=s.gens,drawn:=s.drawn,toks:=t' }:=by
    refine I.step (ch:=[]) (fun _ z=>nomatch z) (fun b v h1 _ _ q _=>keep b v h1 q) (fun b v h1 _ _ q _=>⟨v.slots,keep b v h1 q⟩) (fun _ _ _ _ n=>n) (fun b v _ q=>?_) (fun _ _ q=>q) (fun _ _ _ q=>q) (fun b ps q=>⟨#[],by rw [q]; simp⟩) (fun m' hm=>?_) (fun b w q=>?_) I.bare
    · by_cases hb:b=X.env.locals
      · subst hb
        obtain ⟨o2,_,_,h2,_⟩:=F'.ns
        exact ⟨o2,h2⟩
      · exact ⟨v,keep b v hb q⟩
    · have e1:=hm.eq_nsMap
      have e2:=F.ns.eq_nsMap
      rw [e1,← e2]
      exact F'.ns
    · refine (I.hok b w q).stay (fun c y hc r=>keep c y ?_ r) (fun _ r=>r) fun _ _ r=>r
      rcases hc with rfl | hc
      · exact nL _ _ q
      · exact nL _ _ hc
  exact I1.track (I.out hx hD) new
end
def TupZ (H:Hp) (ps:List Addr) (zs:List (List Int)):Prop:=Paired (fun p z=>z≠[]∧H p=some (.tup (z.map V.int))) ps zs
theorem ints_lex {prog:Program} {w:World} {A:Around} {Q:Bool→Shared→Prop} {s:Shared}:∀ {x y:List Int} {us vs:List Value} (i:Nat),IntsAre us x→IntsAre vs y→Q (lexLt x y) s→PySem.W.KatLex prog w A true (decide (x.length<y.length)) Q (us.zip vs) i s
  | [],[],_,_,_,.nil,.nil,h=>PySem.W.kat_nil h
  | [],_::_,_,_,_,.nil,.cons _ _ _,h=>PySem.W.kat_nil h
  | _::_,[],_,_,_,.cons _ _ _,.nil,h=>PySem.W.kat_nil h
  | x::xs,y::ys,_,_,i,.cons _ t r1,.cons _ u r2,h=>by
    refine PySem.W.kat_cons (wpAny_eqBool_int ?_)
    unfold lexLt at h
    have el:decide ((x::xs).length<(y::ys).length)=decide (xs.length<ys.length):=by rw [List.length_cons,List.length_cons]; congr 1; apply propext; omega
    by_cases c:x=y
    · subst c
      rw [if_pos rfl] at h
      rw [beq_self_eq_true,el]
      exact PySem.W.kat_yes (ints_lex (i+1) r1 r2 h)
    · rw [if_neg c] at h
      have e:(x==y)=false:=by simp [c]
      rw [e]
      refine PySem.W.kat_no ?_
      cases i with
      | zero=>exact oneLt_int h
      | succ i=>exact PySem.W.kat_one _ _ (PyProof.Rows.lt_int h)
theorem tup_items {X:Cx} {pins:List (Addr×Obj)} {σ:St} {H:Hp} {s:Shared} (I:Inv X pins σ H s) {p:Addr} {z:List Int} (h:H p=some (.tup (z.map V.int))):∃ (o:Obj) (us:List Value) (n:Nat),s.heap.get? p=some o∧o.cls=.type "tuple" ∧ o.data=.seq us.toArray n∧IntsAre us z:=by
  obtain ⟨_,its,rv,o,h1,h2,n,h3⟩:=(show ObjOk X.prog X.w H s.heap p (.tup (z.map V.int)) from I.hok p _ h)
  exact ⟨o,its,n,h1,h2,h3,intsAre_of rv⟩
theorem refs_of {ps:List Addr}:∀ {us:List Value},Vals (ps.map V.ref) us→us=ps.map Value.ref:=by
  induction ps with
  | nil=>intro us r; cases r; rfl
  | cons p ps ih=>intro us r; cases r with | cons h r=>cases (show _=Value.ref p from h); rw [ih r]; rfl
theorem vals_refs:∀ ps:List Addr,Vals (ps.map V.ref) (ps.map Value.ref)
  | []=>.nil
  | _::ps=>.cons rfl (vals_refs ps)
theorem kat_tups {h:Heap}:∀ {ps:List Addr},(∀ p∈ps,∃ (o:Obj) (us:List Value) (n:Nat) (x:Int) (t:Tok) (r:List Value),h.get? p=some o∧o.cls=.type "tuple" ∧ o.data=.seq us.toArray n∧us=.int x t::r)→∃ fs,PySem.W.KatTups h (ps.map Value.ref) fs∧fs.length=ps.length∧∀ f∈fs,∃ (x:Int) (t:Tok),f=.int x t
  | [],_=>⟨[],.nil,rfl,fun _ z=>nomatch z⟩
  | p::ps,hp=>by
    obtain ⟨fs,k,hl,hf⟩:=kat_tups (ps:=ps) fun q hq=>hp q (List.mem_cons_of_mem _ hq)
    obtain ⟨o,us,n,x,t,r,h1,h2,h3,rfl⟩:=hp p List.mem_cons_self
    refine ⟨.int x t::fs,.cons h1 h2 h3 (by simp) k,by simp [hl],fun f hm=>?_⟩
    rcases List.mem_cons.mp hm with rfl | hm
    · exact ⟨x,t,rfl⟩
    · exact hf f hm
section
open PySem.W
variable {prog:Program} {w:World} {A:Around} {E:Value→Shared→Prop} {s:Shared} {a:Addr} {n:Nat} {vs:List Value}
theorem sort_few {P:PySem.Fin→Shared→Prop} (hn:vs.length<2) (ho:s.heap.get? a=some (seqObj "list" vs.toArray n))
    (k:∀ h' c,(∀ b o,b≠a→s.heap.get? b=some o→h'.get? b=some o)→h'.get? a=some (seqObj "list" vs.toArray c)→P (.done (.ret .none)) { s with heap:=h' }) :
    wpAny (model prog w) A (Builtin.«list.sort» ⟨[.ref a],[]⟩) P E s:=by
  have z:sizeLine=16777216:=sizeLine_eq
  have lt:a<s.heap.objs.size:=Heap.lt_size ho
  obtain ⟨e,o1⟩:∃ e,(s.heap.update a (Obj.mapSeq fun _=>(#[]:Array Value))).get? a=some (seqObj "list" #[] e):=⟨_,get?_update_seq ho fun _=>#[]⟩
  rw [list_sort_plain]
  refine wpAny_bind (listItems_at ho rfl (wpAny_bind (listUpdate_at ho rfl (wpAny_bind (seqEpoch_at o1 rfl (wpAny_bind (wpAny_newTuple (wpAny_bind (wpAny_newList (wpAny_holding ?_) (Nat.zero_le _))) (by show vs.length≤_; omega))))) (by rw [List.size_toArray]; omega) (Nat.zero_le _))))
  dsimp only
  rw [if_pos (show vs.toArray.size<2 by rw [List.size_toArray]; omega),if_pos (show vs.toArray.size<2 by rw [List.size_toArray]; omega)]
  have o2:(((s.heap.update a (Obj.mapSeq fun x=>#[])).push { cls:=Value.type "tuple", data:=Data.seq vs.toArray }).push { cls:=Value.type "list", data:=Data.seq #[] }).get? a=some (seqObj "list" #[] e):=Heap.get?_push_of_some _ (Heap.get?_push_of_some _ o1)
  refine wpAny_bind (wpAny_pure (wpAny_bind (m:=StateT.run (pure ()) _) (wpAny_pure (wpAny_bind (seqEpoch_at o2 rfl ?_)))))
  have em:Array.map (fun x=>x.snd) (arrOf (SortSt.mk' general' (vs.toArray.zip vs.toArray) #[] 7 none))=vs.toArray:=by
    show Array.map (fun x=>x.snd) (vs.toArray.zip vs.toArray)=vs.toArray
    apply Array.toList_inj.mp
    rw [Array.toList_map,Array.toList_zip,List.map_snd_zip]
    exact Nat.le_refl _
  refine wpAny_bind (listUpdate_at o2 rfl ?_ (Nat.zero_le _) (by rw [em,List.size_toArray]; omega))
  show wpAny _ _ (if (e != e)=true then _ else _) _ _ _
  rw [bne_self_eq_false,if_neg Bool.false_ne_true]
  rw [em]
  obtain ⟨c,o3⟩:∃ c,((((s.heap.update a (Obj.mapSeq fun x=>#[])).push { cls:=Value.type "tuple", data:=Data.seq vs.toArray }).push { cls:=Value.type "list", data:=Data.seq #[] }).update a (Obj.mapSeq fun _=>vs.toArray)).get? a=some (seqObj "list" vs.toArray c):=⟨_,get?_update_seq o2 fun _=>vs.toArray⟩
  refine wpAny_pure (k _ c (fun b o hb q=>?_) o3)
  rw [Heap.get?_update_other _ _ (Ne.symm hb)]
  exact Heap.get?_push_of_some _ (Heap.get?_push_of_some _ (by rw [Heap.get?_update_other _ _ (Ne.symm hb)]; exact q))
theorem sorted_few {l:Addr} {Q:Value→Shared→Prop} (hl:s.heap.IsList l vs.toArray) (hn:vs.length<2)
    (k:∀ h' D c,s.heap.objs.size≤D→(∀ b o,s.heap.get? b=some o→h'.get? b=some o)→h'.get? D=some (seqObj "list" vs.toArray c)→Q (.ref D) { s with heap:=h' }) :
    wpAny (model prog w) A (call (.builtin "sorted") [.ref l]) Q E s:=by
  have z:sizeLine=16777216:=sizeLine_eq
  refine Calls.call_function_entry kind_sorted plain_sorted entry_sorted (args_sorted1 _) ?_
  unfold Builtin.«sorted»
  refine wpAny_bind (m:=checkCount "sorted" 1 1 _) (wpAny_pure (wpAny_bind (collect_list hl (wpAny_bind (wpAny_newList ?_ (by omega))) (by omega))))
  generalize hg:(s.heap.push (seqObj "list" #[] 0)).update s.heap.objs.size (Obj.mapSeq fun x=>x++vs.toArray)=g
  have gs:g.objs.size=s.heap.objs.size+1:=by rw [← hg,Heap.size_update,size_push']
  have kg:∀ b o,s.heap.get? b=some o→g.get? b=some o:=fun b o q=>by
    have hb:b<s.heap.objs.size:=Heap.lt_size q
    rw [← hg,Heap.get?_update_other _ _ (Nat.ne_of_gt hb)]
    exact Heap.get?_push_of_some _ q
  have oD:(g.push (seqObj "list" vs.toArray 0)).get? g.objs.size=some (seqObj "list" vs.toArray 0):=Heap.get?_push_size g rfl
  dsimp only
  refine wpAny_bind (wpAny_holding (wpAny_call_entry slot_list_sort ⟨_,oD,rfl⟩ entry_list_sort (sort_few (s:={ s with heap:=g.push (seqObj "list" vs.toArray 0) }) hn oD fun h' c kp hD=>?_) (args_list_sort _)))
  refine ⟨_,rfl,wpAny_pure ⟨_,rfl,k h' g.objs.size c (by omega) (fun b o q=>kp b o (Nat.ne_of_lt (by rw [gs]; exact Nat.lt_succ_of_lt (Heap.lt_size q))) (Heap.get?_push_of_some _ (kg b o q))) hD⟩⟩
end
theorem call_sort01 {X:Cx} {K:PySem.W.Frag} (hK:X.K=K):CallR X (.builtin "sorted") (fun xs H Q=>∃ a vs,xs=[.ref a]∧SqL K H a vs∧vs.length<2∧∀ D,H D=none→Q (.ref D) (upd H D (.lst vs))):=by
  subst hK
  intro pins s σ H xs us Q I r h
  obtain ⟨a,vs,rfl,hq,hn,q⟩:=h
  cases r with
  | cons r1 r =>
    cases r
    cases (show _=Value.ref a from r1)
    obtain ⟨its,rv,pl,hz⟩:=I.list hq
    refine sorted_few pl.isList (by rw [← rv.length]; exact hn) fun h' D c hD kp oD=>?_
    exact ⟨.ref D,upd H D (.lst vs),I.laid (t':=s.toks) kp hD ⟨hz,its,c,rv,oD⟩,rfl,q D (I.hok.fresh hD)⟩
end L2
namespace L2
open PySem PySem.Spec PyProof.Rows
def srtZ (zs:List (List Int)):List (List Int):=zs.mergeSort fun a b=>!lexLt b a
theorem srtZ_perm (zs:List (List Int)):(srtZ zs).Perm zs:=List.mergeSort_perm _ _
theorem srtZ_up (zs:List (List Int)):(srtZ zs).Pairwise fun a b=>lexLt b a=false:=by
  have h:=List.pairwise_mergeSort (le:=fun a b=>!lexLt b a) (fun a b c h1 h2=>by
    rw [Bool.not_eq_true'] at h1 h2 ⊢
    exact lex_tr _ _ _ h1 h2) (fun a b=>by
    cases e:lexLt b a with
    | false=>rfl
    | true=>simp [lex_as _ _ e]) zs
  exact h.imp fun h=>by simpa using h
theorem srtZ_uniq {xs zs:List (List Int)} (p:xs.Perm zs) (h:xs.Pairwise fun a b=>lexLt b a=false):xs=srtZ zs :=
  List.Perm.eq_of_pairwise (fun a b _ _ h1 h2=>lex_eq a b h2 h1) h (srtZ_up zs) (p.trans (srtZ_perm zs).symm)
def rSort1 (K:PySem.W.Frag):List V→Hp→VK→Prop:=fun xs H Q=>∃ a vs,xs=[.ref a]∧SqL K H a vs∧vs.length<2∧∀ D,H D=none→Q (.ref D) (upd H D (.lst vs))
end L2
namespace VL
open PySem L2
open Classical
noncomputable section
variable [Tabs] {K:PySem.W.Frag}
def tupD (z:List Int):D:=.tup (z.map D.int)
theorem mapInt_inj:∀ {a b:List Int},a.map D.int=b.map D.int→a=b
  | [],[],_=>rfl
  | [],_::_,h=>by cases h
  | _::_,[],h=>by cases h
  | x::a,y::b,h=>by
    injection h with h1 h2
    injection h1 with h1
    rw [h1,mapInt_inj h2]
theorem tupD_inj (a b:List Int) (h:tupD a=tupD b):a=b:=by
  unfold tupD at h
  injection h with h
  exact mapInt_inj h
theorem range_getD (zs:List (List Int)):(List.range zs.length).map (fun i=>zs.getD i [])=zs:=by
  refine List.ext_getElem (by simp) fun i h1 h2=>?_
  simp [h2]
def t3 (z:Int×Int×Int):D:=.tup [.int z.1,.int z.2.1,.int z.2.2]
end
end VL
namespace L2
open PySem PySem.Spec PyProof.Rows
section
variable {M:Model} {A:Around} {E:Value→Shared→Prop} {s:Shared} {base:Heap} {env:Env} {outer:List Env} {L e T:Addr} {cls fl:Value} {Q:Unit→Shared→Prop}
end
section
variable {X:Cx} {pins:List (Addr×Obj)} {σ:St} {H:Hp} {s s':Shared} {E:XK} {e:Value}
end
section
variable {prog:Program} {w:World} {A:Around} {R:Result→Shared→Prop} {s:Shared}
end
section
variable {X:Cx} {tg elt iter:Expr} {scope:Scope} {cl:List (Str×Addr)} {N':List Str} {σ0:St→St} {g:TG} {te:TE} {E:XK}
variable {pos:Pos} {wi:TI} {ts zs:List Str} {is:List Nat} {k:Nat}
end
end L2
namespace VL
open PySem L2
open Classical
noncomputable section
variable [Tabs] {K:PySem.W.Frag} {E:XK} {C:Addr}
end
end VL
namespace L2
open PySem PySem.Spec PyProof.Rows
theorem trip_snoc {a b:Int} {t u:Tok} {c:Value} (l:List Value) (h:TriplesOk l):TriplesOk (l++[.int a t,.int b u,c]):=by
  fun_induction TriplesOk l with
  | case1=>trivial
  | case2 x t y u z rest ih=>exact ih h
  | case3=>exact h.elim
theorem among_snoc {pos:Pos} {a b:Int} {t u:Tok} {c v:Value} (l:List Value) (h:TriplesOk l) (e:codeAmong pos (l++[.int a t,.int b u,c])=some v):codeAmong pos l=some v∨v=c:=by
  fun_induction TriplesOk l with
  | case1 =>
    simp only [List.nil_append,codeAmong] at e
    split at e
    · cases e; exact .inr rfl
    · cases e
  | case2 x t y u z rest ih =>
    simp only [List.cons_append,codeAmong] at e ⊢
    split at e
    · rename_i q; rw [if_pos q]; exact .inl e
    · rename_i q; rw [if_neg q]; exact ih h e
  | case3=>exact h.elim
def BmOk (mg:Str→Option Value) (base:Heap):Prop:=∃ bm ob,mg "__builtins__" = some (.ref bm)∧bm≠builtinsNs∧base.get? bm=some ob∧ob.cls=.type "module" ∧ ob.dict=some builtinsNs∧ob.data=.plain
structure LamOk (X:Cx) (c P:Addr):Prop where
  code:X.env.code=.ref c
  hd:PySem.W.codeHdIn X.K c P=true
  bm:BmOk X.mg X.base
abbrev lamObj (q:Str) (params:Arguments) (body:Expr) (scope:Scope) (cl:List (Str×Addr)) (mg:Str→Option Value) (c:Addr) (ct:Value):Obj:=PySem.W.kla_obj "<lambda>" q params body scope cl ((mg "__name__").getD .none) c ct
def LamIs (mg:Str→Option Value) (H:Hp) (q:Str) (params:Arguments) (body:Expr) (scope:Scope) (cl:List (Str×Addr)) (o:Obj):Prop :=
  ∃ c ct oc u vs t,o=lamObj q params body scope cl mg c ct∧H c=some (.frz oc u)∧oc.data=.fields vs∧vs[1]?=some (.str q t)
theorem lam_make {X:Cx} {pins:List (Addr×Obj)} {σ:St} {H:Hp} {s:Shared} {c P:Addr} {ps:Array Value} {q:Str} {t:Tok} {params:Arguments} {body:Expr} {scope:Scope} {pos:Pos} {cl:List (Str×Addr)} (lo:LamOk X c P) (I:Inv X pins σ H s)
    (hP:H P=some (.tbl ps)) (h0:ps[0]?=some (.str q t)) (hq:X.env.qual ++ "<lambda>" = q) (hcl:closureFor scope X.env=pure cl) (hdef:defaultsOf params X.env=([],[])) :
    wpAny (model X.prog X.w) X.A (eval (.Lambda params body scope pos) X.env) (fun v s'=>∃ f o H',v=.ref f∧Inv X (pins++[(f,o)]) σ H' s'∧(∀ b u,H b=some u→H' b=some u)∧(∀ p∈X.pn++pins,p.1≠f)∧X.s₀.heap.objs.size≤f∧LamIs X.mg H' q params body scope cl o) X.xe s:=by
  refine PySem.W.kla_eval hdef ?_
  obtain ⟨q',t',qs,e0,e1,e2,e3⟩:=(show ObjOk X.prog X.w H s.heap P (.tbl ps) from I.hok P _ hP)
  rw [h0] at e0
  cases e0
  have hg:s.heap.Ns mainGlobals X.mg:=I.mod.glob.keeps I.bk
  have hgP:mainGlobals≠P:=fun z=>by
    obtain ⟨o,es,ep,e,_⟩:=I.mod.glob
    have:=(I.bs _ _ e).2
    rw [z,hP] at this; cases this
  obtain ⟨bm,ob,b1,b2,b3,b4,b5,b6⟩:=lo.bm
  have nG:bm≠mainGlobals:=fun z=>by
    obtain ⟨o,es,ep,e,hd,_⟩:=I.mod.glob
    rw [z,e] at b3; cases b3; rw [hd] at b6; cases b6
  have nB:bm≠P:=fun z=>by
    have:=(I.bs _ _ b3).2
    rw [z,hP] at this; cases this
  have hb:s.heap.BuiltinsAt X.mg P:=⟨bm,ob,b1,b2,nG,nB,I.bk _ _ b3,b4,b5,b6⟩
  have C:=(PySem.W.codeHd_of_K I.mod.kin lo.hd).keeps I.bk
  have Ls:X.env.locals<s.heap.objs.size:=I.lt
  have fsl:∀ b∈X.fs,b<s.heap.objs.size:=fun b hb=>by
    obtain ⟨_,o,ho,_⟩:=I.ok.funs.mem hb
    exact Nat.lt_of_lt_of_le (Heap.lt_size ho) I.sz
  rw [hq]
  cases hf:codeAmong pos qs.toList with
  | none =>
    refine PySem.W.kla_makeFunction (mg:=X.mg) hcl I.ok.glob hg lo.code C e1 e2 hf hgP hb fun c' ctv h' tk hx hge hlt hrec htb=>?_
    have hc:H c'=none:=I.hok.fresh hge
    have hcP:c'≠P:=fun z=>by rw [z,hP] at hc; cases hc
    have ge:s.heap.objs.size≤h'.objs.size:=Nat.le_trans hge (Nat.le_of_lt hlt)
    have kp:∀ b u,b≠P→s.heap.get? b=some u→(h'.push (lamObj q params body scope cl X.mg c' ctv)).get? b=some u:=fun b u hb e=>Heap.get?_push_of_some _ (hx b u hb e)
    have nP:∀ b,H b=none→b≠P:=fun b e z=>by rw [z,hP] at e; cases e
    obtain ⟨c2,oc,vs,t2,z1,z2,z3,z4⟩:=hrec
    cases z1
    have up:∀ b u,H b=some u→upd H c' (.frz oc (.own P)) b=some u:=fun b u e=>by rw [upd_ne (ne_of_none e hc)]; exact e
    have I1:Inv X pins σ (upd H c' (.frz oc (.own P))) { s with heap:=h'.push (lamObj q params body scope cl X.mg c' ctv),gens:=s.gens,drawn:=s.drawn,toks:=tk }:=by
      refine I.step (ch:=[]) (fun _ z=>nomatch z) (fun b o _ _ _ e n=>kp b o (nP b n) e) (fun b o _ _ _ e n=>⟨o.slots,kp b o (nP b n) e⟩) (fun b o _ e n=>?_) (fun b o _ e=>?_) (fun b xs e=>up _ _ e) (fun b o u e=>up _ _ e) (fun b ps' e=>⟨#[],by rw [up _ _ e]; simp⟩) (fun m hm=>?_) (fun b u e=>?_) I.bare
      · rw [upd_ne (Nat.ne_of_lt (Nat.lt_of_lt_of_le (Heap.lt_size e) hge))]; exact n
      · by_cases z:b=P
        · subst z; exact ⟨_,Heap.get?_push_of_some _ htb⟩
        · exact ⟨o,kp b o z e⟩
      · exact (hm.extBut hx fun z=>by have:=I.free; rw [z,hP] at this; cases this).push _
      · by_cases z:b=c'
        · subst z
          rw [upd_same] at e
          cases e
          exact ⟨Heap.get?_push_of_some _ z2,oc,Heap.get?_push_of_some _ z2⟩
        · rw [upd_ne z] at e
          by_cases z2:b=P
          · subst z2
            rw [hP] at e
            cases e
            refine ⟨q,t,qs++#[rawInt pos.line,rawInt pos.col,.ref c'],h0,Heap.get?_push_of_some _ htb,?_,fun pos' v ev=>?_⟩
            · rw [Array.toList_append]; exact trip_snoc _ e2
            · rw [Array.toList_append] at ev
              rcases among_snoc _ e2 ev with ev | rfl
              · obtain ⟨c3,o,u,vs,t2,y1,y2,y3⟩:=e3 pos' v ev
                exact ⟨c3,o,u,vs,t2,y1,up _ _ y2,y3⟩
              · exact ⟨c',oc,_,vs,t2,rfl,upd_same,z3,z4⟩
          · refine (I.hok b u e).stay (fun x v hxv ex=>kp x v ?_ ex) (fun x ex=>up _ _ ex) (fun x xs ex=>up _ _ ex) fun x o u ex=>up _ _ ex
            rcases hxv with rfl | hxv
            · exact z2
            · exact fun w=>by rw [w,hP] at hxv; cases hxv
    have fz:∀ b o,s.heap.get? b=some o→b≠h'.objs.size:=fun b o e=>Nat.ne_of_lt (Nat.lt_of_lt_of_le (Heap.lt_size e) ge)
    refine ⟨h'.objs.size,lamObj q params body scope cl X.mg c' ctv,upd H c' (.frz oc (.own P)),rfl,I1.pins_of fun p hp=>?_,up,fun p hp z=>?_,Nat.le_trans I.sz ge,c',ctv,oc,.own P,vs,t2,rfl,upd_same,z3,z4⟩
    · rcases List.mem_append.mp hp with hp | hp
      · exact I1.pin p (List.mem_append_right _ hp)
      · cases List.mem_singleton.mp hp
        refine ⟨Heap.get?_push_size _ rfl,?_,Nat.ne_of_gt (Nat.lt_of_lt_of_le Ls ge),fun z=>absurd (Nat.lt_of_lt_of_le (fsl _ z) ge) (Nat.lt_irrefl _),fun v z=>by cases z⟩
        show upd H c' (.frz oc (.own P)) h'.objs.size=none
        rw [upd_ne (Nat.ne_of_gt hlt)]
        exact I.hok.fresh ge
    · exact fz _ _ (I.pin p hp).1 z
  | some cv =>
    obtain ⟨c',oc,u,vs,t2,rfl,hown,z3,z4⟩:=e3 pos cv hf
    refine PySem.W.kla_makeFunctionHit (mg:=X.mg) hcl I.ok.glob hg lo.code C e1 e2 hf hb fun ctv h' tk hk hsz=>?_
    have kp:∀ b u,s.heap.get? b=some u→(h'.push (lamObj q params body scope cl X.mg c' ctv)).get? b=some u:=fun b u e=>Heap.get?_push_of_some _ (hk b u e)
    have I1:Inv X pins σ H { s with heap:=h'.push (lamObj q params body scope cl X.mg c' ctv),toks:=tk }:=I.kept kp
    refine ⟨h'.objs.size,lamObj q params body scope cl X.mg c' ctv,H,rfl,I1.pins_of fun p hp=>?_,fun _ _ e=>e,fun p hp z=>?_,Nat.le_trans I.sz hsz,c',ctv,oc,u,vs,t2,rfl,hown,z3,z4⟩
    · rcases List.mem_append.mp hp with hp | hp
      · exact I1.pin p (List.mem_append_right _ hp)
      · cases List.mem_singleton.mp hp
        exact ⟨Heap.get?_push_size _ rfl,I.hok.fresh hsz,Nat.ne_of_gt (Nat.lt_of_lt_of_le Ls hsz),fun z=>absurd (Nat.lt_of_lt_of_le (fsl _ z) hsz) (Nat.lt_irrefl _),fun v z=>by cases z⟩
    · exact absurd z (Nat.ne_of_lt (Nat.lt_of_lt_of_le (Heap.lt_size (I.pin p hp).1) hsz))
structure LFrees (X:Cx) (x:Str) (zs:List Str) (is:List Nat) (scope:Scope) (cl:List (Str×Addr)):Prop where
  par:scope.names.lookup x=some .local
  sub:∀ y c,cl.lookup y=some c→X.env.cells.lookup y=some c
  cap:∀ (j:Nat) (z:Str),zs[j]?=some z→∃ i c,is[j]?=some i∧X.N[i]?=some z∧(X.env.scope.names.lookup z=some .cell∨X.env.scope.names.lookup z=some .free)∧cl.lookup z=some c∧scope.names.lookup z=some .free
  has:∀ y,(scope.names.lookup y=some .cell∨scope.names.lookup y=some .free)→∃ c,cl.lookup y=some c
  len:is.length=zs.length
  nocell:∀ y∈scope.names,y.2≠.cell
  kind:scope.kind=.function
  co:scope.isCoroutine=false
  gen:scope.isGenerator=false
inductive LapL (X:Cx) (scope:Scope) (cl:List (Str×Addr)):List Nat→List Str→Prop
  | nil:LapL X scope cl [] []
  | cons {i:Nat} {z:Str} {c:Addr} {is:List Nat} {zs:List Str}:X.N[i]?=some z→(X.env.scope.names.lookup z=some .cell∨X.env.scope.names.lookup z=some .free)→cl.lookup z=some c→scope.names.lookup z=some .free→LapL X scope cl is zs→LapL X scope cl (i::is) (z::zs)
theorem LapL.get {X:Cx} {scope:Scope} {cl:List (Str×Addr)} {is:List Nat} {zs:List Str} (h:LapL X scope cl is zs):∀ (j:Nat) (z:Str),zs[j]?=some z→∃ i c,is[j]?=some i∧X.N[i]?=some z∧(X.env.scope.names.lookup z=some .cell∨X.env.scope.names.lookup z=some .free)∧cl.lookup z=some c∧scope.names.lookup z=some .free:=by
  induction h with
  | nil=>intro j z e; simp at e
  | cons h1 h2 h3 h4 _ ih =>
    intro j z e
    cases j with
    | zero=>cases e; exact ⟨_,_,rfl,h1,h2,h3,h4⟩
    | succ j=>exact ih j z (by simpa using e)
theorem LapL.len {X:Cx} {scope:Scope} {cl:List (Str×Addr)} {is:List Nat} {zs:List Str} (h:LapL X scope cl is zs):is.length=zs.length:=by
  induction h with
  | nil=>rfl
  | cons _ _ _ _ _ ih=>simp [ih]
theorem LFrees.many {X:Cx} {x:Str} {zs:List Str} {is:List Nat} {scope:Scope} {cl:List (Str×Addr)} (hs:SubL X cl) (hc:LapL X scope cl is zs) (ha:(scope.names.all fun y=>!(y.2==.cell || y.2==.free) || zs.contains y.1)=true) (par:scope.names.lookup x=some .local)
    (nocell:∀ y∈scope.names,y.2≠.cell) (kind:scope.kind=.function) (co:scope.isCoroutine=false) (gen:scope.isGenerator=false):LFrees X x zs is scope cl where
  par:=par
  sub:=hs.sub
  cap:=hc.get
  has:=fun y h=>by
    have key:∀ kd,scope.names.lookup y=some kd→(kd==NameKind.cell || kd==NameKind.free)=true→y∈zs:=fun kd e q=>by
      have m:=List.all_eq_true.mp ha _ (PySem.mem_of_lookup e)
      rw [q] at m
      have:zs.contains y=true:=by simpa using m
      exact List.contains_iff_mem.mp this
    have mem:y∈zs:=by
      rcases h with h | h
      · exact key _ h rfl
      · exact key _ h rfl
    obtain ⟨j,hj⟩:=List.getElem?_of_mem mem
    obtain ⟨i,c,_,_,_,f4,_⟩:=hc.get j y hj
    exact ⟨c,f4⟩
  len:=hc.len
  nocell:=nocell
  kind:=kind
  co:=co
  gen:=gen
abbrev lamEnv (q:Str) (scope:Scope) (L:Addr) (f c:Addr) (cl:List (Str×Addr)):Env:=newEnv scope L mainGlobals cl (q ++ ".<locals>.") (some f) (.ref c) none builtinsNs
def lamCx (X:Cx) (N':List Str) (q:Str) (scope:Scope) (cl:List (Str×Addr)) (f c:Addr) (A:Around) (s:Shared) (H:Hp) (pins:List (Addr×Obj)):Cx :=
  { X with A:=A.deeper (lamEnv q scope s.heap.objs.size f c cl),N:=N',s₀:=s,H₀:=H,env:=lamEnv q scope s.heap.objs.size f c cl,outer:=X.stack,stack:=lamEnv q scope s.heap.objs.size f c cl::X.stack,ex:=[],fn:=fun _=>false,calm:=true,pn:=X.pn++pins,xe:=fun _ _=>False }
theorem lam_call {X:Cx} {pins:List (Addr×Obj)} {σ:St} {H:Hp} {s:Shared} {q:Str} {params:Arguments} {body:Expr} {scope:Scope} {cl:List (Str×Addr)} {f:Addr} {o:Obj} {A:Around} {x:Str} {zs:List Str} {is:List Nat} {te:TE} {v:V} {u:Value} {Q:VK}
    (I:Inv X pins σ H s) (L:LamIs X.mg H q params body scope cl o) (hf:(f,o)∈X.pn++pins) (fr:LFrees X x zs is scope cl) (hA:A.frames=some X.stack) (hh:A.handled=none) (hroom:A.depth<recursionLimit)
    (hb:∀ (c:Addr) (ct u:Value),bindArgs (PySem.W.kla_fn "<lambda>" q params body scope cl ((X.mg "__name__").getD .none) (.ref c) ct) ⟨[u],[]⟩=pure [(x,u)])
    (he:∀ f c s H pins,PE (lamCx X (x::zs) q scope cl f c A s H pins) body te) (rv:RelV v u) (h:te (some v::is.map fun i=>(σ[i]?).join) H Q) :
    wpAny (model X.prog X.w) A (call (.ref f) [u]) (fun r s'=>(∃ y H',Inv X pins σ H' s'∧RelV y r∧Q y H')∧∀ m,s.heap.Ns X.env.locals m→s'.heap.Ns X.env.locals m) (fun _ _=>False) s:=by
  obtain ⟨c,ct,oc,w',vs,t,rfl,hc,hd,h1⟩:=L
  have ho:=(I.pin _ hf).1
  have hcd:s.heap.CodeRec (.ref c) q:=⟨c,oc,vs,t,rfl,(show ObjOk X.prog X.w H s.heap c (.frz oc w') from I.hok c _ hc).1,hd,h1⟩
  refine wpAny_call (codeAny_mono (PySem.W.kla_callFunE (R:=fun r s'=>∃ u,r=.ok (.ret u)∧(∃ y H',Inv X pins σ H' s'∧RelV y u∧Q y H')∧∀ m,s.heap.Ns X.env.locals m→s'.heap.Ns X.env.locals m) hroom ho rfl fr.co fr.gen rfl hcd ?_) fun r s' hq=>?_)
  · rw [hb]
    refine wpAny_pure (wpAny_newFunctionEnv fr.nocell (fun y hy=>?_) (fun h₁ hns hsb=>⟨?_,PySem.W.kla_codeExpr ?_⟩) fr.kind)
    · cases List.mem_singleton.mp hy
      exact fr.par
    · have old:∀ b o,s.heap.get? b=some o→h₁.get? b=some o:=fun b o e=>hsb.extBut b o (Nat.ne_of_lt (Heap.lt_size e)) (Heap.get?_push_of_some _ e)
      exact I.nolimit.keeps old
    · have old:∀ b o,s.heap.get? b=some o→h₁.get? b=some o:=fun b o e=>hsb.extBut b o (Nat.ne_of_lt (Heap.lt_size e)) (Heap.get?_push_of_some _ e)
      have noA:∀ b:Addr,b∉([]:List Addr):=fun b=>by simp
      have start:Inv (lamCx X (x::zs) q scope cl f c A s H pins) [] (some v::is.map fun i=>(σ[i]?).join) H { s with heap:=h₁,toks:=s.toks+1 }:=by
        refine ⟨⟨I.ok.mod,fr.kind,rfl,rfl,Nat.le_refl _,fun y z c h1 h2=>I.ok.inj y z c (fr.sub y c h1) (fr.sub z c h2),fun y hy=>fr.has y hy,fun y c h _=>(by cases h),fun _=>hh,Around.frames_deeper hA,.inr ⟨rfl,rfl⟩,fun b z=>absurd z (noA b),I.bs,Nat.le_trans I.ok.bsz I.sz,fun b _ _=>noA b,fun b z=>absurd z (noA b),I.stack,I.stkFree⟩,
          rfl,I.bare,Un.kept old,⟨_,hns,fun j y v' e1 e2 _=>?_⟩,fun y c e=>?_,I.hok.fresh (Nat.le_refl _),fun y c e=>I.freeC y c (fr.sub y c e),fun p hp=>?_,I.hok.kept old,?_⟩
        · cases j with
          | zero =>
            cases e1
            cases e2
            exact ⟨u,rv,.inl ⟨fr.par,by simp⟩⟩
          | succ j =>
            have e1:zs[j]?=some y:=by simpa [lamCx] using e1
            have e2:(is.map fun i=>(σ[i]?).join)[j]?=some (some v'):=by simpa using e2
            obtain ⟨i,c2,f1,f2,f3,f4,f5⟩:=fr.cap j y e1
            rw [List.getElem?_map,f1] at e2
            have e3:(σ[i]?).join=some v':=Option.some.inj e2
            obtain ⟨m,hn,hl⟩:=I.loc
            obtain ⟨u2,r2,l⟩:=hl i y v' f2 (VL.join_some e3) (by rcases f3 with z | z; exact .inr (.inl z); exact .inr (.inr z))
            refine ⟨u2,r2,.inr ⟨.inr f5,c2,f4,?_⟩⟩
            rcases l with ⟨k,_⟩ | ⟨_,c',e',z⟩
            · have k:X.env.scope.names.lookup y=some .local:=k
              rcases f3 with z | z <;> rw [z] at k <;> cases k
            · rw [fr.sub y c2 f4] at e'
              cases e'
              obtain ⟨o,ho,hd⟩:=z
              exact ⟨o,old _ _ ho,hd⟩
        · obtain ⟨v,o,ho,hd⟩:=I.cell y c (fr.sub y c e)
          exact ⟨v,o,old _ _ ho,hd⟩
        · have hp':p∈X.pn++pins:=by simpa [lamCx] using hp
          obtain ⟨e,n,ne,nf,d⟩:=I.pin p hp'
          refine ⟨old _ _ e,n,Nat.ne_of_lt (Heap.lt_size e),fun z=>?_,d⟩
          rcases List.mem_cons.mp (I.stkSub p.1 z) with q | q
          · exact ne q
          · exact nf q
        · show _=(x::zs).length
          rw [List.length_cons,List.length_map,List.length_cons,fr.len]
      refine wpAny_mono (he f c s H pins [] _ _ H _ start h) (fun r s' hq=>?_) fun _ _ z=>z.elim
      obtain ⟨y,H',J,ry,qy⟩:=hq
      refine ⟨r,rfl,⟨y,H',I.call' J.os J.base J.hok J.bare (fun b z=>absurd z (noA b)),ry,qy⟩,fun m hm=>?_⟩
      obtain ⟨o,es,ep,e1,e2⟩:=hm
      obtain ⟨sl,e3⟩:=J.base.any (b:=X.env.locals) e1 I.free (noA _)
      exact ⟨_,es,ep,e3,e2⟩
  · obtain ⟨u,rfl,hq⟩:=hq
    exact hq
end L2
namespace L2
open PySem PySem.Spec PyProof.Rows
section
variable {X:Cx} {pins:List (Addr×Obj)} {σ:St} {H:Hp} {s:Shared} {m:Str→Option Value} {h':Heap} {kS:Addr} {ok:Obj}
theorem Inv.frM (I:Inv X pins σ H s) (hm:s.heap.Ns X.env.locals m):Fr X.base X.env.locals s.heap m:=⟨hm,I.bk,Nat.le_trans I.ok.bsz I.ok.above⟩
theorem keep_rest {o:Obj} (F':Fr X.base X.env.locals h' m) (N':News X.base X.env.locals h' ((kS,o)::rest X.base s.heap X.env.locals kS)) (I:Inv X pins σ H s):∀ b v,b≠X.env.locals→b≠kS→s.heap.get? b=some v→h'.get? b=some v:=fun b v hb hk q=>by
  cases e:X.base.get? b with
  | some y =>
    have e1:=I.bk b y e
    rw [q] at e1
    cases e1
    exact F'.keep b v e
  | none=>exact (N' (b,v) (List.mem_cons_of_mem _ (List.mem_filter.mpr ⟨mem_allNews hb e q,by simpa using hk⟩))).1
theorem Inv.renew {o:Obj} {t':Nat} (I:Inv X pins σ H s) (hm:s.heap.Ns X.env.locals m) (F':Fr X.base X.env.locals h' m) (N':News X.base X.env.locals h' ((kS,o)::rest X.base s.heap X.env.locals kS))
    (h0:H kS=none) (h1:X.s₀.heap.objs.size≤kS) (h2:kS≠X.env.locals) (h3:∀ x c,X.env.cells.lookup x=some c→c≠kS) (h4:∀ p∈X.pn++pins,p.1≠kS):Inv X pins σ H { s with heap:=h',toks:=t' }:=by
  have keep:=keep_rest F' N' I
  refine I.step (g':=s.gens) (d':=s.drawn) (ch:=[kS]) (fun b hb=>?_) (fun b v q1 _ q2 q _=>keep b v q1 (fun z=>q2 (by rw [z]; exact List.mem_singleton.mpr rfl)) q) (fun b v q1 _ q2 q _=>⟨v.slots,keep b v q1 (fun z=>q2 (by rw [z]; exact List.mem_singleton.mpr rfl)) q⟩) (fun _ _ _ _ n=>n) (fun b v hb q=>?_) (fun _ _ q=>q) (fun _ _ _ q=>q) (fun b ps q=>⟨#[],by rw [q]; simp⟩) (fun m' hm'=>?_) (fun b w q=>?_) I.bare
  · rw [List.mem_singleton.mp hb]; exact ⟨.inr h1,h2,h3,h4⟩
  · by_cases hL:b=X.env.locals
    · subst hL
      obtain ⟨o2,_,_,e2,_⟩:=F'.ns
      exact ⟨o2,e2⟩
    · exact ⟨v,keep b v hL (fun z=>hb (by rw [z]; exact List.mem_singleton.mpr rfl)) q⟩
  · have e1:=hm'.eq_nsMap
    have e2:=hm.eq_nsMap
    rw [e1,← e2]
    exact F'.ns
  · have nL:∀ b w,H b=some w→b≠X.env.locals:=fun b w q z=>by rw [z,I.free] at q; cases q
    have nK:∀ b w,H b=some w→b≠kS:=fun b w q z=>by rw [z,h0] at q; cases q
    refine (I.hok b w q).stay (fun c y hc r=>keep c y ?_ ?_ r) (fun _ r=>r) fun _ _ r=>r
    · rcases hc with rfl | hc
      · exact nL _ _ q
      · exact nL _ _ hc
    · rcases hc with rfl | hc
      · exact nK _ _ q
      · exact nK _ _ hc
end
def Grow (H H':Hp):Prop:=∀ b u,H b=some u→H' b=some u
theorem LamIs.grow {mg:Str→Option Value} {H H':Hp} {q:Str} {params:Arguments} {body:Expr} {scope:Scope} {cl:List (Str×Addr)} {o:Obj} (L:LamIs mg H q params body scope cl o) (g:Grow H H'):LamIs mg H' q params body scope cl o:=by
  obtain ⟨c,ct,oc,u,vs,t,e1,e2,e3⟩:=L
  exact ⟨c,ct,oc,u,vs,t,e1,g _ _ e2,e3⟩
def keysW (te:TE) (fs:List (Option V)) (Fin:List V→Hp→Prop):List V→List V→Hp→Prop
  | [],ks,H=>Fin ks H
  | v::r,ks,H=>te (some v::fs) H fun k H'=>Grow H H'∧keysW te fs Fin r (ks++[k]) H'
section
variable {X:Cx} {pins:List (Addr×Obj)} {σ:St} {m:Str→Option Value} {kS f:Addr} {o:Obj} {q:Str} {params:Arguments} {body:Expr} {scope:Scope} {cl:List (Str×Addr)} {A:Around} {x:Str} {zs:List Str} {is:List Nat} {te:TE} {Fin:List V→Hp→Prop}
theorem keys_run (fr:LFrees X x zs is scope cl) (hA:A.frames=some X.stack) (hh:A.handled=none) (hroom:A.depth<recursionLimit)
    (hb:∀ (c:Addr) (ct u:Value),bindArgs (PySem.W.kla_fn "<lambda>" q params body scope cl ((X.mg "__name__").getD .none) (.ref c) ct) ⟨[u],[]⟩=pure [(x,u)])
    (he:∀ f c s H pins,PE (lamCx X (x::zs) q scope cl f c A s H pins) body te) (hf:(f,o)∈pins) (h1:X.s₀.heap.objs.size≤kS) (h4:∀ p∈X.pn++pins,p.1≠kS):∀ {r:List V} {rv:List Value} {ks:List V} {kvs:List Value} {e:Nat} {H:Hp} {s:Shared},
    Vals r rv→Vals ks kvs→Inv X (pins++[(kS,seqObj "list" kvs.toArray e)]) σ H s→s.heap.Ns X.env.locals m→LamIs X.mg H q params body scope cl o→keysW te (is.map fun i=>(σ[i]?).join) Fin r ks H →
    PySem.W.KatKeys X.prog X.w A X.base X.env.locals m kS (.ref f) (fun kvs' e' s'=>∃ ks' H',Inv X (pins++[(kS,seqObj "list" kvs'.toArray e')]) σ H' s'∧s'.heap.Ns X.env.locals m∧Vals ks' kvs'∧Fin ks' H') rv kvs e s
  | [],_,ks,kvs,e,H,s,.nil,rk,I,hm,L,h=>PySem.W.KatKeys.nil ⟨ks,H,I,hm,rk,h⟩
  | v::r,_,ks,kvs,e,H,s,.cons rv1 rv,rk,I,hm,L,h=>by
    refine PySem.W.KatKeys.cons (wpAny_mono (lam_call I L (List.mem_append_right _ (List.mem_append_left _ hf)) fr hA hh hroom hb he rv1 h) (fun k s' hq=>?_) fun _ _ z=>z)
    obtain ⟨⟨y,H',J,ry,g,hk⟩,hns⟩:=hq
    have hm':=hns m hm
    obtain ⟨p1,p2,p3,p4,p5⟩:=J.pin (kS,seqObj "list" kvs.toArray e) (List.mem_append_right _ (List.mem_append_right _ (List.mem_singleton.mpr rfl)))
    have hbase:X.base.get? kS=none:=by
      cases eb:X.base.get? kS with
      | none=>rfl
      | some y=>exact absurd (Nat.lt_of_lt_of_le (Heap.lt_size eb) (Nat.le_trans J.ok.bsz h1)) (Nat.lt_irrefl _)
    refine PySem.W.KatBack.intro (J.frM hm') (news_at p3 hbase p1) (.head fun p hp=>by simpa using (List.mem_filter.mp hp).2) fun h2 c F2 N2=>?_
    have J0:Inv X pins σ H' s':=J.unpinned
    have cells:∀ x c,X.env.cells.lookup x=some c→c≠kS:=fun x c e z=>by
      obtain ⟨v,o,ho,hd⟩:=J.cell x c e
      rw [z,p1] at ho
      cases ho
      exact p5 v hd
    have J1:Inv X pins σ H' { s' with heap:=h2,toks:=s'.toks }:=J0.renew hm' F2 N2 p2 h1 p3 cells h4
    have J2:Inv X (pins++[(kS,seqObj "list" (kvs++[k]).toArray c)]) σ H' { s' with heap:=h2,toks:=s'.toks }:=J1.pins_of fun p hp=>by
      rcases List.mem_append.mp hp with hp | hp
      · exact J1.pin p (List.mem_append_right _ hp)
      · cases List.mem_singleton.mp hp
        exact ⟨(N2 _ List.mem_cons_self).1,p2,p3,p4,fun v z=>by cases z⟩
    exact keys_run fr hA hh hroom hb he hf h1 h4 rv (rk.append (.cons ry .nil)) J2 F2.ns (L.grow g) hk
structure Nil (X:Cx) (pins:List (Addr×Obj)) (H:Hp) (b:Addr):Prop where
  h:H b=none
  cell:∀ x c,X.env.cells.lookup x=some c→c≠b
  pin:∀ p∈X.pn++pins,p.1≠b
  fs:b∉X.fs
theorem Inv.nil {H:Hp} {s:Shared} (I:Inv X pins σ H s) {b:Addr} (e:s.heap.get? b=none):Nil X pins H b where
  h:=by
    cases q:H b with
    | none=>rfl
    | some o=>obtain ⟨u,hu⟩:=(I.hok b o q).live; rw [e] at hu; cases hu
  cell:=fun x c q z=>by
    obtain ⟨v,o,ho,_⟩:=I.cell x c q
    rw [z,e] at ho; cases ho
  pin:=fun p hp z=>by
    have:=(I.pin p hp).1
    rw [z,e] at this; cases this
  fs:=fun z=>by
    obtain ⟨_,o,ho,_⟩:=I.ok.funs.mem z
    obtain ⟨o',h'⟩:=I.base.there b o ho fun hx=>I.ok.exfs b hx z
    rw [e] at h'; cases h'
theorem vals_rev {xs:List V} {us:List Value} (h:Vals xs us):Vals xs.reverse us.reverse:=by
  induction h with
  | nil=>exact .nil
  | cons a _ ih=>rw [List.reverse_cons,List.reverse_cons]; exact ih.append (.cons a .nil)
theorem vals_katRev (b:Bool) {xs:List V} {us:List Value} (h:Vals xs us):Vals (PySem.W.katRev b xs) (PySem.W.katRev b us):=by
  cases b with
  | false=>exact h
  | true=>exact vals_rev h
theorem vals_idx {xs:List V} {us:List Value} (h:Vals xs us):∀ {l:List Nat},(∀ i∈l,i<xs.length)→Vals (l.map fun i=>xs.getD i .non) (l.map fun i=>us.getD i Value.none)
  | [],_=>.nil
  | i::l,hl=>by
    have hi:=hl i List.mem_cons_self
    obtain ⟨w,ew,rw'⟩:=h.get (List.getElem?_eq_getElem hi)
    refine .cons ?_ (vals_idx h fun j hj=>hl j (List.mem_cons_of_mem _ hj))
    have ev:xs.getD i .non=xs[i]:=by rw [List.getD_eq_getElem?_getD,List.getElem?_eq_getElem hi]; rfl
    have eu:us.getD i Value.none=w:=by rw [List.getD_eq_getElem?_getD,ew]; rfl
    show RelV (xs.getD i .non) (us.getD i Value.none)
    rw [ev,eu]
    exact rw'
def FinG (X:Cx) (b:Bool) (vs:List V) (Q:VK) (ks:List V) (H:Hp):Prop:=∃ lt:Nat→Nat→Bool,Srt.Ord lt ∧
  (∀ (pins:List (Addr×Obj)) (σ:St) (s:Shared) (kvs:List Value),Inv X pins σ H s→Vals ks kvs→2≤kvs.length→∃ κ,(∀ Q':SortKind→Shared→Prop,Q' κ s→wpAny (model X.prog X.w) X.A.in1.in1 (keyKind' (List.toArray kvs)) Q' (fun _ _=>False) s) ∧
    ∀ i j (C:Bool→Shared→Prop),i<kvs.length→j<kvs.length→C (lt i j) s→PySem.W.kas_ask X.prog X.w X.A.in1.in1 κ (PySem.W.katRev b kvs) i j C s) ∧
  ∀ p:List Nat,p.Perm (List.range ks.length)→(p.Pairwise fun i j=>lt j i=false)→∀ D,H D=none→Q (.ref D) (upd H D (.lst (PySem.W.katRev b (p.map fun i=>(PySem.W.katRev b vs).getD i .non))))
def FinT (vs:List V) (Q:VK) (ks:List V) (H:Hp):Prop:=∃ (ps:List Addr) (kz:List (List Int)),ks=ps.map V.ref∧TupZ H ps kz ∧
  ∀ idx:List Nat,idx.Perm (List.range kz.length)→(idx.Pairwise fun i j=>lexLt (kz.getD j []) (kz.getD i [])=false)→∀ D,H D=none→Q (.ref D) (upd H D (.lst (idx.map fun i=>vs.getD i .non)))
theorem FinT.g {vs:List V} {Q:VK} {ks:List V} {H:Hp} (h:FinT vs Q ks H):FinG X false vs Q ks H:=by
  obtain ⟨ps,kz,rfl,tz,qf⟩:=h
  have hlp:ps.length=kz.length:=Paired.length tz
  refine ⟨fun i j=>lexLt (kz.getD i []) (kz.getD j []),lex_ord fun i=>kz.getD i [],fun pins σ s kvs J rk h2=>?_,fun p pm up D hD=>qf p (by rw [List.length_map,hlp] at pm; exact pm) up D hD⟩
  have ek:=refs_of rk
  subst ek
  rw [List.length_map] at h2
  have it:∀ i,i<kz.length→∃ p z o us n,ps[i]?=some p∧kz[i]?=some z∧z≠[]∧s.heap.get? p=some o∧o.cls=.type "tuple" ∧ o.data=.seq us.toArray n∧IntsAre us z:=fun i hi=>by
    obtain ⟨p,e1,g1,g2⟩:=VL.Paired.getF tz (List.getElem?_eq_getElem hi)
    obtain ⟨o,us,n,k1,k2,k3,k4⟩:=tup_items J g2
    exact ⟨p,_,o,us,n,e1,List.getElem?_eq_getElem hi,g1,k1,k2,k3,k4⟩
  obtain ⟨fs,kt,fl,ff⟩:=kat_tups (h:=s.heap) (ps:=ps) fun p hp=>by
    obtain ⟨i,hi,rfl⟩:=List.mem_iff_getElem.mp hp
    obtain ⟨p',z,o,us,n,e1,e2,g1,k1,k2,k3,k4⟩:=it i (by omega)
    rw [List.getElem?_eq_getElem hi] at e1
    cases e1
    cases k4 with
    | nil=>exact absurd rfl g1
    | cons x t r=>exact ⟨o,_,n,x,t,_,k1,k2,k3,rfl⟩
  refine ⟨_,fun Q' hq=>PySem.W.kat_kind (T:=.type "int") kt (by omega) (fun v hv=>?_) (by decide) hq,fun i j C hi hj hC=>?_⟩
  · obtain ⟨x,t,rfl⟩:=ff v hv
    exact PySem.W.Looks.of_pure rfl
  · rw [List.length_map] at hi hj
    obtain ⟨p,z,o,us,n,e1,e2,g1,k1,k2,k3,k4⟩:=it i (by omega)
    obtain ⟨p',z',o',us',n',e1',e2',g1',k1',k2',k3',k4'⟩:=it j (by omega)
    have ei:(ps.map Value.ref).getD i Value.none=.ref p:=by rw [List.getD_eq_getElem?_getD,List.getElem?_map,e1]; rfl
    have ej:(ps.map Value.ref).getD j Value.none=.ref p':=by rw [List.getD_eq_getElem?_getD,List.getElem?_map,e1']; rfl
    have zi:kz.getD i []=z:=by rw [List.getD_eq_getElem?_getD,e2]; rfl
    have zj:kz.getD j []=z':=by rw [List.getD_eq_getElem?_getD,e2']; rfl
    unfold PySem.W.kas_ask
    show wpAny _ _ (keyLt' _ ((ps.map Value.ref).getD i Value.none) ((ps.map Value.ref).getD j Value.none)) _ _ _
    rw [ei,ej]
    dsimp only at hC
    rw [zi,zj] at hC
    refine PySem.W.kat_lt k1 k3 k1' k3' ?_
    have l1:=IntsAre.length k4
    have l2:=IntsAre.length k4'
    have lx:=ints_lex (prog:=X.prog) (w:=X.w) (A:=X.A.in1.in1) (s:=s) 0 k4 k4' hC
    rw [← l1,← l2] at lx
    exact lx
theorem sortG_big {b:Bool} {kw:List (Str×Value)} {H:Hp} {s:Shared} {a:Addr} {vs:List V} {Q:VK} (I:Inv X (pins++[(f,o)]) σ H s) (hff:∀ p∈X.pn++pins,p.1≠f) (hf0:X.s₀.heap.objs.size≤f) (L:LamIs X.mg H q params body scope cl o)
    (fr:LFrees X x zs is scope cl) (hh:X.A.handled=none) (hroom:X.A.in1.in1.depth<recursionLimit) (hA:X.A.in1.in1.frames=some X.stack) (hh2:X.A.in1.in1.handled=none)
    (hb:∀ (c:Addr) (ct u:Value),bindArgs (PySem.W.kla_fn "<lambda>" q params body scope cl ((X.mg "__name__").getD .none) (.ref c) ct) ⟨[u],[]⟩=pure [(x,u)])
    (he:∀ f c s H pins,PE (lamCx X (x::zs) q scope cl f c X.A.in1.in1 s H pins) body te)
    (hq:SqL X.K H a vs) (h2:2≤vs.length) (h64:vs.length<64) (h:keysW te (is.map fun i=>(σ[i]?).join) Fin vs [] H) (hg:∀ ks H,ks.length=vs.length→Fin ks H→FinG X b vs Q ks H)
    (ha1:argsOk "sorted" ⟨[.ref a],kw⟩) (ha2:∀ x,argsOk "list.sort" ⟨[.ref x],kw⟩) (ht:∀ x,Builtin.«list.sort» ⟨[.ref x],kw⟩=PyProof.Rows.ksk_tree x (.ref f) b) :
    wpAny (model X.prog X.w) X.A (call (.builtin "sorted") [.ref a] kw) (EP X pins σ Q) X.xe s:=by
  obtain ⟨its,rv,pl,_⟩:=I.list hq
  have hlv:its.length=vs.length:=rv.length.symm
  obtain ⟨m,F⟩:=I.fr
  have fin:(f,o)∈allNews X.base s.heap X.env.locals:=by
    obtain ⟨p1,p2,p3,p4,p5⟩:=I.pin (f,o) (List.mem_append_right _ (List.mem_append_right _ (List.mem_singleton.mpr rfl)))
    refine mem_allNews p3 ?_ p1
    cases eb:X.base.get? f with
    | none=>rfl
    | some y=>exact absurd (Nat.lt_of_lt_of_le (Heap.lt_size eb) (Nat.le_trans I.ok.bsz hf0)) (Nat.lt_irrefl _)
  refine PySem.W.kat_sortedK (vs:=its) (b:=b) (f:=.ref f) F (news_all (h:=s.heap)) pl.isList (by omega) (by omega) ha1 ha2 ht fun D kS e1 h' F' N' hDk hlt=>?_
  have nK:=N' _ List.mem_cons_self
  have nD:=N' _ (List.mem_cons_of_mem _ List.mem_cons_self)
  have fD:f<D:=hlt _ fin
  have gD:s.heap.get? D=none:=by
    cases e:s.heap.get? D with
    | none=>rfl
    | some o=>exact absurd (hlt (D,o) (mem_allNews nD.2.1 nD.2.2 e)) (Nat.lt_irrefl _)
  have gK:s.heap.get? kS=none:=by
    cases e:s.heap.get? kS with
    | none=>rfl
    | some o=>exact absurd (Nat.lt_trans hDk (hlt (kS,o) (mem_allNews nK.2.1 nK.2.2 e))) (Nat.lt_irrefl _)
  have s0D:X.s₀.heap.objs.size≤D:=Nat.le_trans hf0 (Nat.le_of_lt fD)
  have s0K:X.s₀.heap.objs.size≤kS:=Nat.le_trans s0D (Nat.le_of_lt hDk)
  have zD:=I.nil gD
  have zK:=I.nil gK
  have N2:News X.base X.env.locals h' ((kS,seqObj "list" #[] 0)::rest X.base s.heap X.env.locals kS):=fun p hp=>by
    rcases List.mem_cons.mp hp with rfl | hp
    · exact nK
    · exact N' p (List.mem_cons_of_mem _ (List.mem_cons_of_mem _ (List.mem_filter.mp hp).1))
  have I1:Inv X (pins++[(f,o)]) σ H { s with heap:=h',toks:=s.toks }:=I.renew F.ns F' N2 zK.h s0K nK.2.1 zK.cell zK.pin
  have I2:Inv X ((pins++[(f,o),(D,seqObj "list" #[] e1)])++[(kS,seqObj "list" ([]:List Value).toArray 0)]) σ H { s with heap:=h',toks:=s.toks }:=I1.pins_of fun p hp=>by
    rcases List.mem_append.mp hp with hp | hp
    · rcases List.mem_append.mp hp with hp | hp
      · exact I1.pin p (List.mem_append_right _ (List.mem_append_left _ hp))
      · rcases List.mem_cons.mp hp with rfl | hp
        · exact I1.pin _ (List.mem_append_right _ (List.mem_append_right _ (List.mem_singleton.mpr rfl)))
        · cases List.mem_singleton.mp hp
          exact ⟨nD.1,zD.h,nD.2.1,zD.fs,fun v z=>by cases z⟩
    · cases List.mem_singleton.mp hp
      exact ⟨nK.1,zK.h,nK.2.1,zK.fs,fun v z=>by cases z⟩
  have h4:∀ p∈X.pn++(pins++[(f,o),(D,seqObj "list" #[] e1)]),p.1≠kS:=fun p hp=>by
    rcases List.mem_append.mp hp with hp | hp
    · exact zK.pin p (List.mem_append_left _ hp)
    · rcases List.mem_append.mp hp with hp | hp
      · exact zK.pin p (List.mem_append_right _ (List.mem_append_left _ hp))
      · rcases List.mem_cons.mp hp with rfl | hp
        · exact zK.pin _ (List.mem_append_right _ (List.mem_append_right _ (List.mem_singleton.mpr rfl)))
        · cases List.mem_singleton.mp hp
          exact Nat.ne_of_lt hDk
  refine PySem.W.kat_keys_mono (keys_run fr hA hh2 hroom hb he (List.mem_append_right _ List.mem_cons_self) s0K h4 rv .nil I2 F'.ns L h) fun kvs e3 s3 hl3 hfin=>?_
  obtain ⟨ks,H3,J,hm3,rk,fin⟩:=hfin
  have hl3:kvs.length=vs.length:=by rw [hl3,List.length_nil]; omega
  have hlz:=rk.length
  obtain ⟨lt,ord,ask,qf⟩:=hg _ _ (by omega) fin
  obtain ⟨κ,kind,ask⟩:=ask _ _ _ _ J rk (by omega)
  refine kind _ ?_
  show (PySem.W.kas_sort its.length).kasWp (PySem.W.kas_ask _ _ _ _ (PySem.W.katRev b kvs)) _ _
  have hlk:its.length=kvs.length:=by omega
  rw [hlk]
  refine Srt.KOk.wp (lt:=lt) (N:=kvs.length) ask _ (Srt.KOk.mono (fun p hp=>?_) _ (Srt.sort_ok ord (by omega)))
  obtain ⟨pm,up⟩:=hp
  have hlen:p.toList.length=kvs.length:=by rw [pm.length_eq,List.length_range]
  have lt_:∀ i∈p.toList,i<kvs.length:=fun i hi=>List.mem_range.mp (pm.mem_iff.mp hi)
  have upw:p.toList.Pairwise fun i j=>lt j i=false:=by
    rw [List.pairwise_iff_getElem]
    intro i j hi hj hij
    have hu:=up i j (by omega) (by omega)
    have gi:Srt.g p i=p.toList[i]:=by unfold Srt.g; rw [Array.getD_eq_getD_getElem?,Array.getElem?_eq_getElem (by simpa using hi)]; rfl
    have gj:Srt.g p j=p.toList[j]:=by unfold Srt.g; rw [Array.getD_eq_getD_getElem?,Array.getElem?_eq_getElem (by simpa using hj)]; rfl
    rw [gi,gj] at hu
    exact hu
  obtain ⟨p1,p2,p3,p4,p5⟩:=J.pin (kS,seqObj "list" kvs.toArray e3) (List.mem_append_right _ (List.mem_append_right _ (List.mem_singleton.mpr rfl)))
  refine PySem.W.KatFin.intro (J.frM hm3) (news_at p3 nK.2.2 p1) (.head rest_ne) fun h5 c5 F5 N5=>?_
  have cells:∀ x c,X.env.cells.lookup x=some c→c≠kS:=fun x c e z=>by
    obtain ⟨v,o,ho,hd⟩:=J.cell x c e
    rw [z,p1] at ho
    cases ho
    exact p5 v hd
  have J5:Inv X (pins++[(f,o),(D,seqObj "list" #[] e1)]) σ H3 { s3 with heap:=h5,toks:=s3.toks }:=(Inv.unpinned J).renew hm3 F5 N5 p2 s0K p3 cells h4
  obtain ⟨d1,d2,d3,d4,d5⟩:=J5.pin (D,seqObj "list" #[] e1) (List.mem_append_right _ (List.mem_append_right _ (List.mem_cons_of_mem _ (List.mem_singleton.mpr rfl))))
  refine PySem.W.KasFin.intro F5 (news_at d3 nD.2.2 d1) (.head rest_ne) fun h6 c6 F6 N6=>?_
  have J6:Inv X pins σ H3 { s3 with heap:=h5,toks:=s3.toks }:=J5.unpinned
  have cellsD:∀ x c,X.env.cells.lookup x=some c→c≠D:=fun x c e z=>by
    obtain ⟨v,o,ho,hd⟩:=J5.cell x c e
    rw [z,d1] at ho
    cases ho
    exact d5 v hd
  have pinD:∀ p∈X.pn++pins,p.1≠D:=fun p hp=>by
    refine zD.pin p ?_
    rcases List.mem_append.mp hp with hp | hp
    · exact List.mem_append_left _ hp
    · exact List.mem_append_right _ (List.mem_append_left _ hp)
  have J7:Inv X pins σ H3 { s3 with heap:=h6,toks:=s3.toks }:=J6.renew F5.ns F6 N6 d2 s0D d3 cellsD pinD
  have out:Out X pins H3 D:=⟨d2,Heap.get?_none_of_le s0D,d3,cellsD,pinD⟩
  have rvs:=vals_katRev b (vals_idx (vals_katRev b rv) (l:=p.toList) fun i hi=>by rw [PySem.W.kat_len]; have:=lt_ i hi; omega)
  refine ⟨.ref D,upd H3 D (.lst (PySem.W.katRev b (p.toList.map fun i=>(PySem.W.katRev b vs).getD i .non))),J7.track out ?_,rfl,qf p.toList (by rw [hlz]; exact pm) upw D d2⟩
  refine ⟨by rw [PySem.W.kat_len,List.length_map,hlen]; have:=sizeLine_eq; omega,_,c6,rvs,?_⟩
  exact (N6 _ List.mem_cons_self).1
end
end L2
namespace L2
open PySem PySem.Spec PyProof.Rows PySem.Calls
section
open PySem.W
variable {prog:Program} {w:World} {A:Around} {E:Value→Shared→Prop} {s:Shared} {h₀:Heap} {L kS a:Addr} {m:Str→Option Value} {news:List (Addr×Obj)} {vs:List Value}
theorem few_rev {α:Type} (b:Bool) {l:List α} (h:l.length<2):katRev b l=l:=by
  cases b with
  | false=>rfl
  | true =>
    match l,h with
    | [],_=>rfl
    | [_],_=>rfl
    | _::_::_,h=>exact absurd h (by simp only [List.length_cons]; omega)
theorem few_end {b:Bool} {e e1:Nat} {ks:List Value} {P:PySem.Fin→Shared→Prop} (hl:ks.length=vs.length) (h2:vs.length<2)
    (h:KatFin h₀ L m kS a ks e e1 vs (fun s3=>P (.done (.ret .none)) s3) s):wpAny (model prog w) A (ksk_end a b vs.toArray e1 (.ref kS) (List.toArray ks)) P E s:=by
  have step:∀ t:Sem PySem.Fin,wpAny (model prog w) A t P E s→wpAny (model prog w) A (if b=true then (do let _ ← rule "list.sort.reverse"; t) else t) P E s:=by
    intro t ht
    split
    · exact wpAny_bind (wpAny_rule ht)
    · exact ht
  have hn2:vs.toArray.size<2:=by rw [List.size_toArray]; omega
  unfold ksk_end
  try dsimp only
  refine step _ ?_
  rw [if_pos hn2,if_pos hn2,kat_pairs b hl,few_rev b h2,few_rev b (show ks.length<2 by omega)]
  refine wpAny_bind (wpAny_pure (wpAny_bind (m:=StateT.run (pure ()) _) (wpAny_pure ?_)))
  have h':KatFin h₀ L m kS a ks e e1 (katRev b vs) (fun s3=>P (.done (.ret .none)) s3) s:=by rw [few_rev b h2]; exact h
  refine kat_tail (b:=b) (out:=vs) ?_ (by omega) (by omega) rfl h'
  show Array.map (fun x=>x.snd) ((List.toArray ks).zip vs.toArray)=vs.toArray
  apply Array.toList_inj.mp
  rw [Array.toList_map,Array.toList_zip,List.map_snd_zip]
  exact Nat.le_of_eq hl.symm
theorem few_rest {b:Bool} {f:Value} {e1:Nat} {P:PySem.Fin→Shared→Prop} (hk:s.heap.get? kS=some (seqObj "list" #[] 0)) (h2:vs.length<2)
    (h:KatKeys prog w A h₀ L m kS f (fun ks e s'=>KatFin h₀ L m kS a ks e e1 vs (fun s4=>P (.done (.ret .none)) s4) s') vs [] 0 s) :
    wpAny (model prog w) A (ksk_rest a f b vs.toArray e1 (.ref kS)) P E s:=by
  unfold ksk_rest
  refine wpAny_bind (wpAny_rule ?_)
  first
    | rw [List.forIn_toArray]
    | (rw [← Array.forIn_toList]; simp only [List.toList_toArray])
    | rw [← Array.forIn_toList]
  refine wpAny_bind (wpAny_mono (kat_fold (show vs.length<64 by omega) (fun x ks e s' C hz hx=>?_) vs [] 0 s (by simp) hk h) (fun _ s' hd=>?_) fun _ _ x=>x)
  · refine wpAny_bind (wpAny_attempt (wpAny_mono hx (fun k s'' hk=>?_) fun _ _ hF=>hF.elim))
    obtain ⟨news',g,F',N',U,c⟩:=hk
    obtain ⟨pre,post,e0,hg,x1,x2⟩:=U.split
    rw [e0] at N'
    have nk:=N' (kS,seqObj "list" (List.toArray ks) e) (List.mem_append_right _ (.head _))
    have s1:=Heap.SameBut.update s''.heap kS (Obj.mapSeq (·.push k))
    have ea:(List.toArray ks).push k=List.toArray (ks++[k]):=by simp
    obtain ⟨c2,hc2⟩:∃ c2,(s''.heap.update kS (Obj.mapSeq (·.push k))).get? kS=some (seqObj "list" (List.toArray (ks++[k])) c2):=⟨_,by rw [← ea]; exact get?_update_seq nk.1 (·.push k)⟩
    try dsimp only
    refine wpAny_bind (listUpdate_at nk.1 rfl ?_ (by rw [List.size_toArray,sizeLine_eq]; omega) (Nat.le_trans (Nat.le_of_eq (Array.size_push ..)) (by rw [List.size_toArray,sizeLine_eq]; omega)))
    exact wpAny_pure ⟨rfl,k,c2,hc2,c _ c2 (kas_fr F' s1 nk.2.1 nk.2.2) (by rw [hg]; exact news_set N' x1 x2 s1 hc2)⟩
  · obtain ⟨ks,e,hk',hl,fin⟩:=hd
    try dsimp only
    refine wpAny_bind (listItems_at hk' rfl ?_)
    exact few_end hl h2 fin
theorem few_keyed {b:Bool} {f:Value} {n:Nat} {P:PySem.Fin→Shared→Prop} (F:Fr h₀ L s.heap m) (N:News h₀ L s.heap news) (ho:s.heap.get? a=some (seqObj "list" vs.toArray n)) (haL:a≠L) (ha0:h₀.get? a=none) (hna:∀ p∈news,p.1≠a)
    (h2:vs.length<2)
    (h:∀ kS e1 h',Fr h₀ L h' m→News h₀ L h' ((kS,seqObj "list" #[] 0)::(a,seqObj "list" #[] e1)::news)→a<kS→(∀ q∈news,q.1<kS) →
      KatKeys prog w A h₀ L m kS f (fun ks e s'=>KatFin h₀ L m kS a ks e e1 vs (fun s4=>P (.done (.ret .none)) s4) s') vs [] 0 { s with heap:=h' }) :
    wpAny (model prog w) A (ksk_tree a f b) P E s:=by
  have ha:a<s.heap.objs.size:=Heap.lt_size ho
  have s1:=Heap.SameBut.update s.heap a (Obj.mapSeq fun _=>(#[]:Array Value))
  obtain ⟨e1,ho1⟩:∃ e1,(s.heap.update a (Obj.mapSeq fun _=>(#[]:Array Value))).get? a=some (seqObj "list" #[] e1):=⟨_,get?_update_seq ho fun _=>#[]⟩
  have F1:=kas_fr F s1 haL ha0
  have N1:=kas_news N s1 hna
  have hkS:((s.heap.update a (Obj.mapSeq fun _=>(#[]:Array Value))).push (seqObj "tuple" vs.toArray 0)).objs.size=s.heap.objs.size+1:=by rw [size_push',Heap.size_update]
  have hLk:L<((s.heap.update a (Obj.mapSeq fun _=>(#[]:Array Value))).push (seqObj "tuple" vs.toArray 0)).objs.size:=(F1.push _).ns.lt
  unfold ksk_tree
  refine wpAny_bind (listItems_at ho rfl ?_)
  refine wpAny_bind (listUpdate_at ho rfl ?_ (by rw [List.size_toArray,sizeLine_eq]; omega) (Nat.zero_le _))
  refine wpAny_bind (seqEpoch_at ho1 rfl ?_)
  refine wpAny_bind (wpAny_newTuple ?_ (by show vs.length≤_; rw [sizeLine_eq]; omega))
  refine wpAny_bind (wpAny_newList ?_ (Nat.zero_le _))
  refine wpAny_holding ?_
  refine few_rest (s:={ s with heap:=((s.heap.update a (Obj.mapSeq fun _=>(#[]:Array Value))).push (seqObj "tuple" vs.toArray 0)).push (seqObj "list" #[] 0) }) (kS:=((s.heap.update a (Obj.mapSeq fun _=>(#[]:Array Value))).push (seqObj "tuple" vs.toArray 0)).objs.size)
    (Heap.get?_push_size _ rfl) h2 (h _ e1 _ ((F1.push _).push _) (fun p hp=>?_) (by rw [hkS]; exact Nat.lt_succ_of_lt ha) fun q hq=>by rw [hkS]; exact Nat.lt_succ_of_lt (Heap.lt_size (N q hq).1))
  rcases List.mem_cons.mp hp with rfl | hp
  · exact ⟨Heap.get?_push_size _ rfl,Nat.ne_of_gt hLk,Heap.get?_none_of_le (Nat.le_trans F.above (Nat.le_of_lt hLk))⟩
  · rcases List.mem_cons.mp hp with rfl | hp
    · exact ⟨Heap.get?_push_of_some _ (Heap.get?_push_of_some _ ho1),haL,ha0⟩
    · exact ⟨Heap.get?_push_of_some _ (Heap.get?_push_of_some _ (N1 p hp).1),(N1 p hp).2⟩
theorem few_sortedK {l:Addr} {b:Bool} {f:Value} {kw:List (Str×Value)} {Q:Value→Shared→Prop} (F:Fr h₀ L s.heap m) (N:News h₀ L s.heap news) (hl:s.heap.IsList l vs.toArray) (h2:vs.length<2)
    (ha1:argsOk "sorted" ⟨[.ref l],kw⟩) (ha2:∀ x,argsOk "list.sort" ⟨[.ref x],kw⟩) (ht:∀ x,Builtin.«list.sort» ⟨[.ref x],kw⟩=ksk_tree x f b)
    (h:∀ D kS e1 h',Fr h₀ L h' m→News h₀ L h' ((kS,seqObj "list" #[] 0)::(D,seqObj "list" #[] e1)::news)→D<kS→(∀ q∈news,q.1<D) →
      KatKeys prog w A.in1.in1 h₀ L m kS f (fun ks e s'=>KatFin h₀ L m kS D ks e e1 vs (fun s4=>Q (.ref D) s4) s') vs [] 0 { s with heap:=h' }) :
    wpAny (model prog w) A (call (.builtin "sorted") [.ref l] kw) Q E s:=by
  refine call_function_entry_kw kind_sorted plain_sorted entry_sorted ha1 ?_
  unfold Builtin.«sorted»
  refine wpAny_bind (m:=checkCount "sorted" 1 1 _) (wpAny_pure ?_)
  refine wpAny_bind (collect_list hl ?_ (by rw [sizeLine_eq]; omega))
  refine wpAny_bind (wpAny_newList ?_ (by rw [sizeLine_eq]; omega))
  have hsz:((s.heap.push (seqObj "list" #[] 0)).update s.heap.objs.size (Obj.mapSeq (·++vs.toArray))).objs.size=s.heap.objs.size+1:=by
    rw [Heap.size_update,size_push']
  have hoL:(((s.heap.push (seqObj "list" #[] 0)).update s.heap.objs.size (Obj.mapSeq (·++vs.toArray))).push (seqObj "list" vs.toArray 0)).get? (s.heap.objs.size+1)=some (seqObj "list" vs.toArray 0):=by
    rw [← hsz]; exact Heap.get?_push_size _ rfl
  have keep:∀ b o,s.heap.get? b=some o→(((s.heap.push (seqObj "list" #[] 0)).update s.heap.objs.size (Obj.mapSeq (·++vs.toArray))).push (seqObj "list" vs.toArray 0)).get? b=some o:=fun b o q=>by
    have hlt:b<s.heap.objs.size:=Heap.lt_size q
    rw [Heap.get?_push_ne _ _ _ (by rw [hsz]; exact Nat.ne_of_lt (Nat.lt_succ_of_lt hlt)),Heap.get?_update_ne _ _ _ _ (Nat.ne_of_lt hlt),Heap.get?_push_ne _ _ _ (Nat.ne_of_lt hlt)]
    exact q
  have hL:L<s.heap.objs.size:=F.ns.lt
  show wpAny _ _ _ _ _ { s with heap:=((s.heap.push (seqObj "list" #[] 0)).update s.heap.objs.size (Obj.mapSeq (·++vs.toArray))).push (seqObj "list" vs.toArray 0) }
  rw [hsz]
  refine wpAny_bind (wpAny_holding (wpAny_call_entry_kw slot_list_sort ⟨_,hoL,rfl⟩ entry_list_sort ?body (ha2 _)))
  case body =>
    have ht':=ht (s.heap.objs.size+1)
    show wpAny (model prog w) A.in1.in1 (Builtin.«list.sort» ⟨[.ref (s.heap.objs.size+1)],kw⟩) _ _ _
    rw [ht']
    refine few_keyed (s:={ s with heap:=((s.heap.push (seqObj "list" #[] 0)).update s.heap.objs.size (Obj.mapSeq (·++vs.toArray))).push (seqObj "list" vs.toArray 0) })
      (F.kept keep) (N.grown keep) hoL (Nat.ne_of_gt (Nat.lt_succ_of_lt hL)) (Heap.get?_none_of_le (Nat.le_trans F.above (Nat.le_succ_of_le (Nat.le_of_lt hL))))
      (fun p hp=>Nat.ne_of_lt (Nat.lt_succ_of_lt (Heap.lt_size (N p hp).1))) h2 fun kS e1 h' F' N' l0 l1=>?_
    refine kat_keys_mono (h _ kS e1 h' F' N' l0 fun q hq=>Nat.lt_succ_of_lt (Heap.lt_size (N q hq).1)) fun ks e s' hl' hd=>?_
    exact hd.mono fun s4 hq=>⟨_,rfl,wpAny_pure ⟨_,rfl,hq⟩⟩
end
section
variable {X:Cx} {pins:List (Addr×Obj)} {σ:St} {m:Str→Option Value} {kS f:Addr} {o:Obj} {q:Str} {params:Arguments} {body:Expr} {scope:Scope} {cl:List (Str×Addr)} {A:Around} {x:Str} {zs:List Str} {is:List Nat} {te:TE} {Fin:List V→Hp→Prop}
theorem sortG_few {b:Bool} {kw:List (Str×Value)} {H:Hp} {s:Shared} {a:Addr} {vs:List V} {Q:VK} (I:Inv X (pins++[(f,o)]) σ H s) (hff:∀ p∈X.pn++pins,p.1≠f) (hf0:X.s₀.heap.objs.size≤f) (L:LamIs X.mg H q params body scope cl o)
    (fr:LFrees X x zs is scope cl) (hh:X.A.handled=none) (hroom:X.A.in1.in1.depth<recursionLimit) (hA:X.A.in1.in1.frames=some X.stack) (hh2:X.A.in1.in1.handled=none)
    (hb:∀ (c:Addr) (ct u:Value),bindArgs (PySem.W.kla_fn "<lambda>" q params body scope cl ((X.mg "__name__").getD .none) (.ref c) ct) ⟨[u],[]⟩=pure [(x,u)])
    (he:∀ f c s H pins,PE (lamCx X (x::zs) q scope cl f c X.A.in1.in1 s H pins) body te)
    (hq:SqL X.K H a vs) (h2:vs.length<2) (h:keysW te (is.map fun i=>(σ[i]?).join) Fin vs [] H) (hg:∀ ks H,ks.length=vs.length→Fin ks H→FinG X b vs Q ks H)
    (ha1:argsOk "sorted" ⟨[.ref a],kw⟩) (ha2:∀ x,argsOk "list.sort" ⟨[.ref x],kw⟩) (ht:∀ x,Builtin.«list.sort» ⟨[.ref x],kw⟩=PyProof.Rows.ksk_tree x (.ref f) b) :
    wpAny (model X.prog X.w) X.A (call (.builtin "sorted") [.ref a] kw) (EP X pins σ Q) X.xe s:=by
  obtain ⟨its,rv,pl,_⟩:=I.list hq
  have hlv:its.length=vs.length:=rv.length.symm
  obtain ⟨m,F⟩:=I.fr
  have fin:(f,o)∈allNews X.base s.heap X.env.locals:=by
    obtain ⟨p1,p2,p3,p4,p5⟩:=I.pin (f,o) (List.mem_append_right _ (List.mem_append_right _ (List.mem_singleton.mpr rfl)))
    refine mem_allNews p3 ?_ p1
    cases eb:X.base.get? f with
    | none=>rfl
    | some y=>exact absurd (Nat.lt_of_lt_of_le (Heap.lt_size eb) (Nat.le_trans I.ok.bsz hf0)) (Nat.lt_irrefl _)
  refine few_sortedK (b:=b) (vs:=its) (f:=.ref f) F (news_all (h:=s.heap)) pl.isList (by omega) ha1 ha2 ht fun D kS e1 h' F' N' hDk hlt=>?_
  have nK:=N' _ List.mem_cons_self
  have nD:=N' _ (List.mem_cons_of_mem _ List.mem_cons_self)
  have fD:f<D:=hlt _ fin
  have gD:s.heap.get? D=none:=by
    cases e:s.heap.get? D with
    | none=>rfl
    | some o=>exact absurd (hlt (D,o) (mem_allNews nD.2.1 nD.2.2 e)) (Nat.lt_irrefl _)
  have gK:s.heap.get? kS=none:=by
    cases e:s.heap.get? kS with
    | none=>rfl
    | some o=>exact absurd (Nat.lt_trans hDk (hlt (kS,o) (mem_allNews nK.2.1 nK.2.2 e))) (Nat.lt_irrefl _)
  have s0D:X.s₀.heap.objs.size≤D:=Nat.le_trans hf0 (Nat.le_of_lt fD)
  have s0K:X.s₀.heap.objs.size≤kS:=Nat.le_trans s0D (Nat.le_of_lt hDk)
  have zD:=I.nil gD
  have zK:=I.nil gK
  have N2:News X.base X.env.locals h' ((kS,seqObj "list" #[] 0)::rest X.base s.heap X.env.locals kS):=fun p hp=>by
    rcases List.mem_cons.mp hp with rfl | hp
    · exact nK
    · exact N' p (List.mem_cons_of_mem _ (List.mem_cons_of_mem _ (List.mem_filter.mp hp).1))
  have I1:Inv X (pins++[(f,o)]) σ H { s with heap:=h',toks:=s.toks }:=I.renew F.ns F' N2 zK.h s0K nK.2.1 zK.cell zK.pin
  have I2:Inv X ((pins++[(f,o),(D,seqObj "list" #[] e1)])++[(kS,seqObj "list" ([]:List Value).toArray 0)]) σ H { s with heap:=h',toks:=s.toks }:=I1.pins_of fun p hp=>by
    rcases List.mem_append.mp hp with hp | hp
    · rcases List.mem_append.mp hp with hp | hp
      · exact I1.pin p (List.mem_append_right _ (List.mem_append_left _ hp))
      · rcases List.mem_cons.mp hp with rfl | hp
        · exact I1.pin _ (List.mem_append_right _ (List.mem_append_right _ (List.mem_singleton.mpr rfl)))
        · cases List.mem_singleton.mp hp
          exact ⟨nD.1,zD.h,nD.2.1,zD.fs,fun v z=>by cases z⟩
    · cases List.mem_singleton.mp hp
      exact ⟨nK.1,zK.h,nK.2.1,zK.fs,fun v z=>by cases z⟩
  have h4:∀ p∈X.pn++(pins++[(f,o),(D,seqObj "list" #[] e1)]),p.1≠kS:=fun p hp=>by
    rcases List.mem_append.mp hp with hp | hp
    · exact zK.pin p (List.mem_append_left _ hp)
    · rcases List.mem_append.mp hp with hp | hp
      · exact zK.pin p (List.mem_append_right _ (List.mem_append_left _ hp))
      · rcases List.mem_cons.mp hp with rfl | hp
        · exact zK.pin _ (List.mem_append_right _ (List.mem_append_right _ (List.mem_singleton.mpr rfl)))
        · cases List.mem_singleton.mp hp
          exact Nat.ne_of_lt hDk
  refine PySem.W.kat_keys_mono (keys_run fr hA hh2 hroom hb he (List.mem_append_right _ List.mem_cons_self) s0K h4 rv .nil I2 F'.ns L h) fun kvs e3 s3 hl3 hfin=>?_
  obtain ⟨ks,H3,J,hm3,rk,fin⟩:=hfin
  have hl3:kvs.length=vs.length:=by rw [hl3,List.length_nil]; omega
  have hlz:=rk.length
  obtain ⟨lt,ord,ask,qf⟩:=hg _ _ (by omega) fin
  obtain ⟨p1,p2,p3,p4,p5⟩:=J.pin (kS,seqObj "list" kvs.toArray e3) (List.mem_append_right _ (List.mem_append_right _ (List.mem_singleton.mpr rfl)))
  refine PySem.W.KatFin.intro (J.frM hm3) (news_at p3 nK.2.2 p1) (.head rest_ne) fun h5 c5 F5 N5=>?_
  have cells:∀ x c,X.env.cells.lookup x=some c→c≠kS:=fun x c e z=>by
    obtain ⟨v,o,ho,hd⟩:=J.cell x c e
    rw [z,p1] at ho
    cases ho
    exact p5 v hd
  have J5:Inv X (pins++[(f,o),(D,seqObj "list" #[] e1)]) σ H3 { s3 with heap:=h5,toks:=s3.toks }:=(Inv.unpinned J).renew hm3 F5 N5 p2 s0K p3 cells h4
  obtain ⟨d1,d2,d3,d4,d5⟩:=J5.pin (D,seqObj "list" #[] e1) (List.mem_append_right _ (List.mem_append_right _ (List.mem_cons_of_mem _ (List.mem_singleton.mpr rfl))))
  refine PySem.W.KasFin.intro F5 (news_at d3 nD.2.2 d1) (.head rest_ne) fun h6 c6 F6 N6=>?_
  have J6:Inv X pins σ H3 { s3 with heap:=h5,toks:=s3.toks }:=J5.unpinned
  have cellsD:∀ x c,X.env.cells.lookup x=some c→c≠D:=fun x c e z=>by
    obtain ⟨v,o,ho,hd⟩:=J5.cell x c e
    rw [z,d1] at ho
    cases ho
    exact d5 v hd
  have pinD:∀ p∈X.pn++pins,p.1≠D:=fun p hp=>by
    refine zD.pin p ?_
    rcases List.mem_append.mp hp with hp | hp
    · exact List.mem_append_left _ hp
    · exact List.mem_append_right _ (List.mem_append_left _ hp)
  have J7:Inv X pins σ H3 { s3 with heap:=h6,toks:=s3.toks }:=J6.renew F5.ns F6 N6 d2 s0D d3 cellsD pinD
  have out:Out X pins H3 D:=⟨d2,Heap.get?_none_of_le s0D,d3,cellsD,pinD⟩
  have er:PySem.W.katRev b ((List.range ks.length).map fun i=>(PySem.W.katRev b vs).getD i V.non)=vs:=by
    have e:(List.range ks.length).map (fun i=>vs.getD i V.non)=vs:=by
      rw [hlz,hl3]
      refine List.ext_getElem (by simp) fun i h1 h2=>?_
      simp [h2]
    rw [few_rev b h2,e,few_rev b h2]
  refine ⟨.ref D,upd H3 D (.lst vs),J7.track out ?_,rfl,?_⟩
  · refine ⟨by have:=sizeLine_eq; omega,its,c6,rv,?_⟩
    exact (N6 _ List.mem_cons_self).1
  · have:=qf (List.range ks.length) (List.Perm.refl _) ?_ D d2
    · rw [er] at this; exact this
    · have hn:ks.length<2:=by omega
      match ks.length,hn with
      | 0,_=>exact .nil
      | 1,_=>exact .cons (fun _ h=>by cases h) .nil
      | n+2,h=>exact absurd h (by omega)
theorem sortG_run {b:Bool} {kw:List (Str×Value)} {H:Hp} {s:Shared} {a:Addr} {vs:List V} {Q:VK} {k:Nat} (I:Inv X (pins++[(f,o)]) σ H s) (hff:∀ p∈X.pn++pins,p.1≠f) (hf0:X.s₀.heap.objs.size≤f) (L:LamIs X.mg H q params body scope cl o)
    (fr:LFrees X x zs is scope cl) (hr:Room k X.A) (hc:X.calm=true)
    (hb:∀ (c:Addr) (ct u:Value),bindArgs (PySem.W.kla_fn "<lambda>" q params body scope cl ((X.mg "__name__").getD .none) (.ref c) ct) ⟨[u],[]⟩=pure [(x,u)])
    (he:∀ f c s H pins,PE (lamCx X (x::zs) q scope cl f c X.A.in1.in1 s H pins) body te)
    (hq:SqL X.K H a vs) (h64:vs.length<64) (h:keysW te (is.map fun i=>(σ[i]?).join) Fin vs [] H) (hg:∀ ks H,ks.length=vs.length→Fin ks H→FinG X b vs Q ks H)
    (ha1:argsOk "sorted" ⟨[.ref a],kw⟩) (ha2:∀ x,argsOk "list.sort" ⟨[.ref x],kw⟩) (ht:∀ x,Builtin.«list.sort» ⟨[.ref x],kw⟩=PyProof.Rows.ksk_tree x (.ref f) b) :
    wpAny (model X.prog X.w) X.A (call (.builtin "sorted") [.ref a] kw) (EP X pins σ Q) X.xe s:=by
  have room:X.A.in1.in1.depth<recursionLimit:=by
    have:=hr.dp
    show X.A.depth < _
    omega
  have hh:=I.ok.hd hc
  by_cases h2:2≤vs.length
  · exact sortG_big I hff hf0 L fr hh room I.ok.frames hh hb he hq h2 h64 h hg ha1 ha2 ht
  · exact sortG_few I hff hf0 L fr hh room I.ok.frames hh hb he hq (by omega) h hg ha1 ha2 ht
def tSortK (K:PySem.W.Frag) (P:Addr) (q:Str) (tl te:TE) (is:List Nat):TE:=fun σ H Q=>tl σ H fun v H1=>∃ (a:Addr) (vs:List V) (ps:Array Value) (t:Tok),v=.ref a∧SqL K H1 a vs∧vs.length<64∧H1 P=some (.tbl ps)∧ps[0]?=some (.str q t) ∧
  ∀ H2,Grow H1 H2→keysW te (is.map fun i=>(σ[i]?).join) (FinT vs Q) vs [] H2
theorem pe_sortK {K:PySem.W.Frag} {c P:Addr} {l:Expr} {tl:TE} {p lpos kpos cpos:Pos} {k:Nat} (hK:X.K=K) (lo:LamOk X c P) (hr:Room k X.A) (hc:X.calm=true) (hg:Gl X "sorted") (hm:X.mg "sorted" = none) (hl:PE X l tl) (fr:LFrees X x zs is scope cl)
    (hq:X.env.qual ++ "<lambda>" = q) (hcl:closureFor scope X.env=pure cl)
    (he:∀ f c s H pins,PE (lamCx X (x::zs) q scope cl f c X.A.in1.in1 s H pins) body te)
    (hdef:defaultsOf params X.env=([],[]):=by rfl)
    (hb:∀ (c:Addr) (ct u:Value),bindArgs (PySem.W.kla_fn "<lambda>" q params body scope cl ((X.mg "__name__").getD .none) (.ref c) ct) ⟨[u],[]⟩=pure [(x,u)]:=by intro _ _ _; rfl)
    (hst:starEach [l] X.env=[(false,eval l X.env)]:=by rfl) (hv:bootBuiltins "sorted" = some (.builtin "sorted"):=by rfl) :
    PE X (.Call (.Name "sorted" p) [l] [⟨some "key", .Lambda params body scope lpos,kpos⟩] cpos) (tSortK K P q tl te is):=by
  subst hK
  intro pins s σ H Q I h
  refine wpAny_Call_Name_kw (ld_blt I hg hm hv ?_ (by decide) (by decide))
  refine PyProof.Rows.callWith_kw (e:=l) (rest:=[]) ?_ (by rw [hst]; rfl) (by rw [hst]; rfl) rfl rfl
  have ha:=pa_cons hl pa_nil (hs:=by rw [hst]; rfl)
  refine thn (ha cpos pins s σ H (fun xs H1=>match xs with
    | [v]=>∃ (a:Addr) (vs:List V) (ps:Array Value) (t:Tok),v=.ref a∧SqL X.K H1 a vs∧vs.length<64∧H1 P=some (.tbl ps)∧ps[0]?=some (.str q t)∧∀ H2,Grow H1 H2→keysW te (is.map fun i=>(σ[i]?).join) (FinT vs Q) vs [] H2
    | _=>False) I h) fun us s1 ⟨vs0,H1,I1,r1,q1⟩=>?_
  match vs0,q1 with
  | [v],q1 =>
  obtain ⟨a,vs,ps,t,rfl,hsq,h64,hP,h0,hw⟩:=q1
  cases r1 with
  | cons r1 r2 =>
  cases r2
  cases (show _=Value.ref a from r1)
  show wpAny _ _ (evalAll [(do let v ← eval (.Lambda params body scope lpos) X.env; standAt cpos; pure v)]) _ _ s1
  refine wpAny_evalAll_cons (wpAny_bind (thn (lam_make lo I1 hP h0 hq hcl hdef) fun u s2 ⟨f,o,H2,eu,I2,gr,pf,s0f,L⟩=>wpAny_bind (wpAny_standAt (wpAny_pure (wpAny_evalAll_nil ?_)))))
  subst eu
  have hs2:SqL X.K H2 a vs:=by
    rcases hsq with (z | ⟨o,z⟩) | z
    · exact .inl (.inl (gr _ _ z))
    · exact .inl (.inr ⟨o,gr _ _ z⟩)
    · exact .inr z
  exact sortG_run I2 pf s0f L fr hr hc hb he hs2 h64 (hw H2 gr) (fun _ _ hl h=>h.g) (PyProof.Rows.ksk_s1 _ _) (fun _=>PyProof.Rows.ksk_l1 _ _) (fun x=>PyProof.Rows.ksk_t1 f x)
end
end L2
namespace VL
open PySem L2
open Classical
noncomputable section
variable [Tabs] {K:PySem.W.Frag}
def kR (cs:List Nat) (ρ:Rho) (d:D):Rho:=(r0 1 cs ρ).set 0 (.pu d)
theorem isl_idx {H:Hp} {T:Addr→Prop} {vs:List V} {ds:List D} (h:IsL K H T vs ds):∀ {idx:List Nat},(∀ i∈idx,i<ds.length)→IsL K H T (idx.map fun i=>vs.getD i .non) (idx.map fun i=>ds.getD i .non)
  | [],_=>.nil
  | i::idx,hl=>by
    have hi:=hl i List.mem_cons_self
    obtain ⟨v,e1,i1⟩:=h.get (List.getElem?_eq_getElem hi)
    refine .cons ?_ (isl_idx h fun j hj=>hl j (List.mem_cons_of_mem _ hj))
    have ev:vs.getD i .non=v:=by rw [List.getD_eq_getElem?_getD,e1]; rfl
    have ed:ds.getD i .non=ds[i]:=by rw [List.getD_eq_getElem?_getD,List.getElem?_eq_getElem hi]; rfl
    show Is K H T (vs.getD i .non) (ds.getD i .non)
    rw [ev,ed]
    exact i1
end
end VL
namespace L2
open PySem PySem.Spec PyProof.Rows
def tabH (ts:List (Addr×Str)):Hp:=fun b=>(ts.lookup b).map fun q=>.tbl #[.str q 0]
theorem law_callT {P:Program} {w:World} {K:PySem.W.Frag} {mg mb:Str→Option Value} {CX:CXT} {k:Nat} {fa a:Addr} {fd:FuncData} {x:Str} {sp:Sp} {s₁:Shared} {vs:List Value} {ns:List Int} (ts:List (Addr×Str))
    (KX:K.In s₁.heap) (hns:s₁.heap.Ns mainGlobals mg) (hb:s₁.heap.Ns builtinsNs mb) (hbb:∀ x:Str,x ≠ "__name__" → mb x=bootBuiltins x) (hlim:s₁.heap.NoLimit) (hg:s₁.gens=#[]) (hbm:BmOk mg s₁.heap)
    (hts:∀ p q,ts.lookup p=some q→s₁.heap.get? p=some (PySem.W.tabObj #[])∧K.lookup p=none∧∃ c,PySem.W.CodeHd s₁.heap c p)
    (ha:s₁.heap.get? a=some { cls:=.type "list", data:=.seq vs.toArray }) (hi:IntsAre vs ns) (hl:ns.length≤sizeLine) (hr:Room k callerA)
    (F:∀ base:Heap,K.In base→base.Ns mainGlobals mg→BmOk mg base→FnOk P w K mg base CX k fa fd [x] sp) (hbind:∀ (s:Shared) (u:Value),BindsTo s fd ⟨[u],[]⟩ [(x,u)])
    (hsp:∀ H:Hp,(∀ p q,ts.lookup p=some q→H p=some (.tbl #[.str q 0]))→SqL K H a (ns.map V.int)→sp [.ref a] H (fun v _=>v=.bl true) fun _ _ _=>False)
    (hCX:∀ H e s',CX [] H s₁ (fun _ _ _=>False) e s'→False) :
    codeAny (model P w) callerA (.call (.ref fa) ⟨[.ref a],[]⟩) (fun r s'=>r=.ok (.ret (.bool true))∧OldK s₁.heap s'.heap∧s'.os=s₁.os∧AllBare s'.gens) s₁:=by
  have rv:=vals_ints hi
  have lenV:=hi.length
  have naT:ts.lookup a=none:=by
    cases e:ts.lookup a with
    | none=>rfl
    | some q=>have:=(hts a q e).1; rw [ha] at this; cases this
  have core:∀ H:Hp,(∀ b,b≠a→H b=tabH ts b)→(H a=none∨∃ o xs,H a=some (.frz o (.lst xs)))→SqL K H a (ns.map V.int)→HOk P w H s₁.heap→(H a≠none→K.lookup a=none) →
      codeAny (model P w) callerA (.call (.ref fa) ⟨[.ref a],[]⟩) (fun r s'=>r=.ok (.ret (.bool true))∧OldK s₁.heap s'.heap∧s'.os=s₁.os∧AllBare s'.gens) s₁:=by
    intro H hH hO hS hok hK
    have tabs:∀ p q,ts.lookup p=some q→H p=some (.tbl #[.str q 0]):=fun p q e=>by
      rw [hH p (fun z=>by rw [z,naT] at e; cases e)]
      unfold tabH
      rw [e]; rfl
    have isT:∀ b u,H b=some u→b≠a→∃ q,ts.lookup b=some q:=fun b u e hb=>by
      rw [hH b hb] at e
      unfold tabH at e
      cases z:ts.lookup b with
      | none=>rw [z] at e; cases e
      | some q=>exact ⟨q,rfl⟩
    have base_of:∀ {b:Addr} {o:Obj},s₁.heap.get? b=some o→H b=none→(hidT s₁.heap H).get? b=some o:=fun e n=>hidT_get e n
    have none_of:∀ {b:Addr} {o:Obj},s₁.heap.get? b=some o→o.cls≠.none→(∀ xs n,o.data≠.seq xs n)→H b=none:=fun {b o} e hc hd=>by
      cases q:H b with
      | none=>rfl
      | some u =>
        by_cases hba:b=a
        · subst hba
          rw [ha] at e; cases e
          exact absurd rfl (hd _ _)
        · obtain ⟨q',z⟩:=isT b u q hba
          have:=(hts b q' z).1
          rw [e] at this
          cases this
          exact absurd rfl hc
    have noA:∀ {b:Addr} {o:Obj} {es:Array DictEntry} {ep:Nat},s₁.heap.get? b=some o→o.data=.dict es ep→H b=none:=fun {b o es ep} e d=>by
      cases q:H b with
      | none=>rfl
      | some u =>
        by_cases hba:b=a
        · subst hba
          rw [ha] at e; cases e
          have d':Data.seq vs.toArray _=Data.dict es ep:=d
          cases d'
        · obtain ⟨q',z⟩:=isT b u q hba
          have:=(hts b q' z).1
          rw [e] at this
          cases this
          cases d
    have nsK:∀ {b:Addr} {m:Str→Option Value},s₁.heap.Ns b m→(hidT s₁.heap H).Ns b m:=fun {b m} ⟨o,es,ep,e,d,r⟩=>⟨o,es,ep,base_of e (noA e d),d,r⟩
    have hKb:K.In (hidT s₁.heap H):=fun b o e=>base_of (KX b o e) (by
      cases q:H b with
      | none=>rfl
      | some u =>
        by_cases hba:b=a
        · subst hba
          rw [hK (by rw [q]; simp)] at e; cases e
        · obtain ⟨q',z⟩:=isT b u q hba
          rw [(hts b q' z).2.1] at e; cases e)
    have hBm:BmOk mg (hidT s₁.heap H):=by
      obtain ⟨bm,ob,b1,b2,b3,b4,b5,b6⟩:=hbm
      exact ⟨bm,ob,b1,b2,base_of b3 (none_of b3 (by rw [b4]; exact nofun) fun xs n z=>by rw [b6] at z; cases z),b4,b5,b6⟩
    have hM:Mod K mg (hidT s₁.heap H):=⟨hKb,nsK hns,⟨mb,nsK hb,hbb⟩,let ⟨mc,h1,h2⟩:=hlim; ⟨mc,nsK h1,h2⟩⟩
    have e0:Env0 P w K mg (hidT s₁.heap H) callerA [] s₁ H:=⟨rfl,hM,fun b o e=>of_hidT e,Nat.le_of_eq (hidT_size _ _),trivial,fun b hb=>absurd (show b∈([]:List Addr) from hb) (by simp),hok,.of_eq hg⟩
    refine codeAny_mono ((F _ hKb (nsK hns) hBm).run callerA [] s₁ H ⟨[.ref a],[]⟩ [.ref a] [.ref a] _ _ hr e0 (hbind s₁ (.ref a)) (.cons rfl .nil) (hsp H tabs hS)) fun r s' h=>?_
    cases r with
    | error e=>exact (hCX H e s' h).elim
    | ok fl =>
      cases fl with
      | next=>exact False.elim h
      | brk=>exact False.elim h
      | cont=>exact False.elim h
      | ret u =>
        obtain ⟨v,H',os,bare,un,hok',r',q⟩:=h
        have q':v=.bl true:=q
        subst q'
        obtain rfl:u=Value.bool true:=r'
        have kept:∀ b o,s₁.heap.get? b=some o→ts.lookup b=none→s'.heap.get? b=some o:=fun b o e hn=>by
          cases q:H b with
          | none=>exact un.keep b o e q (by intro z; exact absurd (show b∈([]:List Addr) from z) (by simp)) (by simp)
          | some u =>
            by_cases hba:b=a
            · subst hba
              rcases hO with z | ⟨ob,xs,z⟩
              · rw [q] at z; cases z
              · have z2:=un.frzs b ob _ z
                obtain ⟨e1,_⟩:=hok b _ z
                obtain ⟨e2,_⟩:=hok' b _ z2
                rw [e] at e1; cases e1
                exact e2
            · obtain ⟨q',z⟩:=isT b u q hba
              rw [hn] at z; cases z
        refine ⟨rfl,⟨fun b o e=>?_,fun b o e=>un.there b o e (by simp)⟩,os,bare⟩
        cases ht:ts.lookup b with
        | none=>exact .inl (kept b o e ht)
        | some q =>
          obtain ⟨t1,t2,c,t3⟩:=hts b q ht
          rw [e] at t1
          cases t1
          obtain ⟨more,e2⟩:=un.tbls b _ (tabs b q ht)
          obtain ⟨q2,tk,qs,_,e3,_⟩:=(show ObjOk P w H' s'.heap b (.tbl _) from hok' b _ e2)
          exact .inr (.inl ⟨(t3.tab e).isCodeTable,rfl,#[],qs,rfl,by rw [Array.empty_append]; exact e3⟩)
  have tabOk:∀ H:Hp,(∀ b,b≠a→H b=tabH ts b)→∀ b u,b≠a→H b=some u→ObjOk P w H s₁.heap b u:=fun H hH b u hb e=>by
    rw [hH b hb] at e
    unfold tabH at e
    cases z:ts.lookup b with
    | none=>rw [z] at e; cases e
    | some q =>
      rw [z] at e
      cases e
      exact ⟨q,0,#[],rfl,(hts b q z).1,trivial,fun pos v ev=>by cases ev⟩
  cases hk:K.lookup a with
  | some o =>
    have e:=KX a o hk
    rw [ha] at e
    cases e
    have hHa:tabH ts a=none:=by unfold tabH; rw [naT]; rfl
    refine core (tabH ts) (fun _ _=>rfl) (.inl hHa) (.inr ⟨_,vs.toArray,_,hk,rfl,rfl,rfl,by rw [List.size_toArray,lenV]; exact hl,by simpa using rv⟩) (fun b u z=>?_) fun z=>absurd hHa z
    exact tabOk _ (fun _ _=>rfl) b u (fun w=>by rw [w,hHa] at z; cases z) z
  | none =>
    refine core (fun b=>if b=a then some (.frz { cls:=.type "list", data:=.seq vs.toArray } (.lst (ns.map V.int))) else tabH ts b) (fun b hb=>if_neg hb) (.inr ⟨_,_,if_pos rfl⟩) (.inl (.inr ⟨{ cls:=.type "list", data:=.seq vs.toArray },if_pos rfl⟩)) (fun b u z=>?_) fun _=>hk
    by_cases hba:b=a
    · have z':=(if_pos hba).symm.trans z
      cases z'
      subst hba
      exact ⟨ha,by rw [List.length_map]; exact hl,vs,_,rv,ha⟩
    · exact tabOk _ (fun b hb=>if_neg hb) b u hba z
theorem walk_ofT {l:PySem.W.OpenLaw} {n k:Nat} {q:Program} {loose:List Str} {XP:(Str→Option Value)→Heap→Prop} {YP:World→Heap→Prop} {d:DefRec} {K:Params→PySem.W.Frag} {CX:World→CXT} {sp:World→Sp} {x:Str} (ts:List (Addr×Str))
    (hn:l.most=some n) (hn2:n≤sizeLine) (hdf:d.params.defaults=[]) (hr:Room k callerA)
    (hY:∀ (w:World) (h:Heap),YP w h→(K w.params).In h)
    (hT:∀ (w:World) (h:Heap),YP w h→∀ p q,ts.lookup p=some q→h.get? p=some (PySem.W.tabObj #[]))
    (hN:∀ (w:World) p q,ts.lookup p=some q→(K w.params).lookup p=none∧∃ c,PySem.W.codeHdIn (K w.params) c p=true)
    (F:∀ (w:World) (mg:Str→Option Value) (fa:Addr) (h:Heap),(K w.params).In h→h.Ns mainGlobals mg→mg d.name=some (.ref fa) →
      ∃ fd:FuncData,(∀ (s:Shared) (u:Value),BindsTo s fd ⟨[u],[]⟩ [(x,u)]) ∧
        ∀ base:Heap,(K w.params).In base→base.Ns mainGlobals mg→BmOk mg base→FnOk l.prog w (K w.params) mg base (CX w) k fa fd [x] (sp w))
    (hsp:∀ (w:World) (H:Hp) (a:Addr) (ns:List Int),ns.length≤n→(∀ m∈ns,Builtin.Int.intBits m≤1048576)→(∀ p q,ts.lookup p=some q→H p=some (.tbl #[.str q 0]))→SqL (K w.params) H a (ns.map V.int)→sp w [.ref a] H (fun v _=>v=.bl true) fun _ _ _=>False)
    (hCX:∀ (w:World) (H:Hp) (s:Shared) (e:Value) (s':Shared),CX w [] H s (fun _ _ _=>False) e s'→False) :
    PySem.W.WalkO q loose XP YP l.row.toRowW d [] (fun f vs=>PySem.call f vs):=by
  intro w s₀ s₁ mg mb G Y fa o pm cd doc dV kV ho hd hcd hD hmg hg args vals as hpre hlay hrd hwl hlo
  obtain rfl:dV=.none:=PySem.W.Dflts.none hD hdf
  obtain rfl:kV=.none:=PySem.W.Dflts.noKw hD
  obtain ⟨a,vs,ns,rfl,rfl,hobj,hints,hlen⟩:=Att.script_of hn hpre hwl
  have KX:=hY w _ Y
  obtain ⟨fd,hb,hF⟩:=F w mg fa _ KX G.T.g hmg
  refine PySem.W.enter_call (codeAny_mono (law_callT ts KX G.T.g G.T.b G.T.builtins G.T.nolimit hg G.T.bmain (fun p q e=>⟨hT w _ Y p q e,(hN w p q e).1,let ⟨c,h⟩:=(hN w p q e).2; ⟨c,PySem.W.codeHd_of_K KX h⟩⟩) hobj hints (Nat.le_trans hlen hn2) hr hF hb (fun H hO hS=>hsp w H a ns hlen (bits_of_lay hlay) hO hS) fun H e s'=>hCX w H s₁ e s') fun r s' hq=>?_)
  obtain ⟨rfl,h2,h3,h4⟩:=hq
  exact ⟨.inl ⟨.bool true,.bool true,[],rfl,fun _=>rfl,.bool true,Att.post_true l _,fun _=>⟨List.Pairwise.nil,fun _ hm=>(nomatch hm)⟩⟩,h2,h3,h4⟩
end L2
namespace L2
open PySem PySem.Spec PyProof.Rows
end L2
namespace VL
open PySem L2
open Classical
noncomputable section
variable [Tabs] {K:PySem.W.Frag}
def srtI (ns:List Int):List Int:=ns.mergeSort fun a b=>decide (a≤b)
omit [Tabs] in
theorem srtI_perm (ns:List Int):(srtI ns).Perm ns:=List.mergeSort_perm _ _
omit [Tabs] in
theorem srtI_up (ns:List Int):(srtI ns).Pairwise (·≤·):=by
  have h:=List.pairwise_mergeSort (le:=fun a b:Int=>decide (a≤b)) (fun a b c h1 h2=>by simp at *; omega) (fun a b=>by simp; omega) ns
  exact h.imp fun h=>by simpa using h
omit [Tabs] in
end
end VL
namespace L2
open PySem PySem.Spec PyProof.Rows
theorem Fun.okC {P:Program} {w:World} {K:PySem.W.Frag} {mg:Str→Option Value} {base:Heap} {x qual:Str} {st:Stmt} {f:Addr} {fd:FuncData} {N ps:List Str} {k:Nat} {sp:Sp} (F:Fun K x qual st f fd) (S:FnScope N ps (defScope st)) (len:∀ vs H Q E,sp vs H Q E→vs.length=ps.length)
    (hbody:∀ (cdv:Value),fd.code=cdv→∀ (A:Around) (outer:List Env) (s:Shared) (H:Hp) (vs:List V) (Q:VK) (E:XK),Room k (A.deeper (envOfC qual (defScope st) s.heap.objs.size f cdv))→sp vs H Q E →
      ∃ t,PSs (cxOf CX0 P w K mg base N qual (defScope st) f cdv A outer s H E).nox (defBody st) t∧t { nx:=fun _ H'=>Q .non H',rt:=Q } (start N vs) H):FnOk P w K mg base CX0 (k+1) f fd ps sp:=by
  obtain ⟨oc,od,kV,doc,pm,an,cdv,ct,osl,rfl,lk,hcd⟩:=F.ex
  refine fn_of lk hcd S len fun A outer s H vs Q E hr hsp=>?_
  obtain ⟨t,h,q⟩:=hbody cdv rfl A outer s H vs Q E hr hsp
  exact ⟨t,h.nox,q⟩
end L2
namespace VL
open PySem L2
open Classical
noncomputable section
variable [Tabs] {K:PySem.W.Frag}
theorem Fun.okDL {P:Program} {w:World} {mg:Str→Option Value} {base:Heap} {x qual:Str} {st:Stmt} {f:Addr} {fd:FuncData} {N ps:List Str} {k:Nat} (F:Fun K x qual st f fd) (S:FnScope N ps (defScope st)) (ms:List Bool) (hms:ms.length=ps.length) (b:DS)
    (hbody:∀ (cdv:Value),fd.code=cdv→∀ (A:Around) (outer:List Env) (s:Shared) (H:Hp) (E:XK),Room k (A.deeper (PyProof.Rows.envOfC qual (defScope st) s.heap.objs.size f cdv)) →
      ∃ t,PSs (cxOf CX0 P w K mg base N qual (defScope st) f cdv A outer s H E).nox (defBody st) t∧SemS .v K t b):FnOk P w K mg base CX0 (k+1) f fd ps (spD .v K ms (runD N.length ms b)):=by
  refine L2.Fun.okC F S (fun vs H Q E h=>?_) (fun cdv hcd A outer s H vs Q E hr h=>?_)
  · obtain ⟨Z,ds,d,hz,a,_⟩:=h
    rw [a.len.1,hms]
  · obtain ⟨Z,ds,d,hz,a,e,k⟩:=h
    obtain ⟨t,h1,h2⟩:=hbody cdv hcd A outer s H E hr
    refine ⟨t,h1,h2 (startFr hz a) ?_⟩
    unfold runD at e
    split at e
    · rename_i d' e1
      cases e
      rw [e1]
      exact fun v H' s' i=>k v H' s' i
    · rename_i ρ e1
      cases e
      rw [e1]
      exact fun os' σ' H' f' _=>k _ H' f'.keep .non
    · cases e
end
end VL
namespace PySem.SeqAt
open AutoSeq1 (wpAny_loadPart')
open MeetsSeq MeetsSeq2 MeetsSeq3
def LtAt (A:Around) (s:Shared) (y x:Value) (b:Bool):Prop :=
  ∀ (prog:Program) (w:World) (E:Value→Shared→Prop) (Q:Value→Shared→Prop),Q (.bool b) s→wpAny (model prog w) A (richCompare .Lt y x) Q E s
def lexAt (e l:Nat→Bool) (fin:Bool):Nat→Nat→Bool
  | 0,_=>fin
  | k+1,i=>if e i=true then lexAt e l fin k (i+1) else l i
theorem lt_loopAt (l b:Addr) (items items2:Array Value) (n n2:Nat) (dd dd2:Option Addr) (sl sl2:Array (Option Value)) (e lt:Nat→Bool) (k:Nat) :
    ∀ i:Nat,i≤min items.size items2.size→min items.size items2.size-i=k→Meets (Builtin.«list.__eq__.loop» ⟨[.ref l,.ref b,rawInt i,rawInt 0],[]⟩)
      (fun A R s=>s.heap.get? l=some { cls:=.type "list", dict:=dd,data:=.seq items n,slots:=sl }∧s.heap.get? b=some { cls:=.type "list", dict:=dd2,data:=.seq items2 n2,slots:=sl2 } ∧
        (∀ j (h1:j<items.size) (h2:j<items2.size),EqAt A.in1 s items[j] items2[j] (e j))∧(∀ j (h1:j<items.size) (h2:j<items2.size),e j=false→LtAt A.in1 s items[j] items2[j] (lt j)) ∧
        R (.ok (.ret (.bool (lexAt e lt (decide (items.size<items2.size)) k i)))) s):=by
  induction k with
  | zero =>
    intro i hi hk prog w A R s h
    obtain ⟨hp,g,d,tk,os⟩:=s; obtain ⟨hl,hb,he,hlt,h⟩:=h
    wp_walk using wpAny_loadPart' hl,wpAny_loadPart' hb
    by_cases hc:items.size≤i
    · have hi1:items[((i:Nat):Int).toNat]?=none:=by simp; omega
      rw [hi1]
      wp_walk using wpAny_loadPart' hl,wpAny_loadPart' hb
      exact h
    · have hi2:items2[((i:Nat):Int).toNat]?=none:=by simp; omega
      have hi1:items[((i:Nat):Int).toNat]?=some (items[i]'(by omega)):=by simp
      rw [hi1,hi2]
      wp_walk using wpAny_loadPart' hl,wpAny_loadPart' hb
      exact h
  | succ k ih =>
    intro i hi hk prog w A R s h
    obtain ⟨hp,g,d,tk,os⟩:=s; obtain ⟨hl,hb,he,hlt,h⟩:=h
    wp_walk using wpAny_loadPart' hl,wpAny_loadPart' hb
    have hlt1:i<items.size:=by omega
    have hlt2:i<items2.size:=by omega
    have hi1:items[((i:Nat):Int).toNat]?=some items[i]:=by simp [hlt1]
    have hi2:items2[((i:Nat):Int).toNat]?=some items2[i]:=by simp [hlt2]
    have hc:((i:Int)+1)=((i+1:Nat):Int):=by push_cast; rfl
    unfold lexAt at h
    rw [hi1,hi2]
    refine wpAny_bind (he i hlt1 hlt2 prog w _ _ ?_)
    cases hb':e i with
    | true =>
      rw [hb',if_pos rfl] at h
      wp_walk
      rw [hc]
      exact ⟨plainId_quiet plain_eq_loop _,codeAny_builtin entry_eq_loop (by
        rw [Around.under_plainId plain_eq_loop _]
        exact ih (i+1) (by omega) (by omega) prog w A R _ ⟨hl,hb,he,hlt,h⟩)⟩
    | false =>
      rw [hb',if_neg Bool.false_ne_true] at h
      wp_walk using wpAny_loadPart' hl,wpAny_loadPart' hb
      rw [hi1,hi2]
      dsimp only
      refine wpAny_bind (hlt i hlt1 hlt2 hb' prog w _ _ ?_)
      wp_walk
      exact h
theorem list_ltAt (l b:Addr) (items items2:Array Value) (n n2:Nat) (dd dd2:Option Addr) (sl sl2:Array (Option Value)) (e lt:Nat→Bool) :
    Meets (Builtin.«list.__lt__» ⟨[.ref l,.ref b],[]⟩)
      (fun A R s=>s.heap.get? l=some { cls:=.type "list", dict:=dd,data:=.seq items n,slots:=sl }∧s.heap.get? b=some { cls:=.type "list", dict:=dd2,data:=.seq items2 n2,slots:=sl2 } ∧
        (∀ j (h1:j<items.size) (h2:j<items2.size),EqAt A.in1 s items[j] items2[j] (e j))∧(∀ j (h1:j<items.size) (h2:j<items2.size),e j=false→LtAt A.in1 s items[j] items2[j] (lt j)) ∧
        R (.ok (.ret (.bool (lexAt e lt (decide (items.size<items2.size)) (min items.size items2.size) 0)))) s):=by
  intro prog w A R s h
  obtain ⟨hp,g,d,tk,os⟩:=s; obtain ⟨hl,hb,he,hlt,h⟩:=h
  have f3:=AutoSeq1.sub_list_list
  wp_walk using wpAny_loadPart' hl,wpAny_loadPart' hb
  exact ⟨plainId_quiet plain_eq_loop _,codeAny_builtin entry_eq_loop (by
    rw [Around.under_plainId plain_eq_loop _]
    exact lt_loopAt l b items items2 n n2 dd dd2 sl sl2 e lt _ 0 (Nat.zero_le _) rfl prog w A R _ ⟨hl,hb,he,hlt,h⟩)⟩
theorem tuple_ltAt (l b:Addr) (items items2:Array Value) (n n2:Nat) (dd dd2:Option Addr) (sl sl2:Array (Option Value)) (e lt:Nat→Bool) :
    Meets (Builtin.«tuple.__lt__» ⟨[.ref l,.ref b],[]⟩)
      (fun A R s=>s.heap.get? l=some { cls:=.type "tuple", dict:=dd,data:=.seq items n,slots:=sl }∧s.heap.get? b=some { cls:=.type "tuple", dict:=dd2,data:=.seq items2 n2,slots:=sl2 } ∧
        (∀ j (h1:j<items.size) (h2:j<items2.size),EqAt A.in1 s items[j] items2[j] (e j))∧(∀ j (h1:j<items.size) (h2:j<items2.size),e j=false→LtAt A.in1 s items[j] items2[j] (lt j)) ∧
        R (.ok (.ret (.bool (lexAt e lt (decide (items.size<items2.size)) (min items.size items2.size) 0)))) s) :=
  .of_wp fun prog w A R s h=>by
    obtain ⟨hp,g,d,tk,os⟩:=s; obtain ⟨hl,hb,he,hlt,h⟩:=h
    have f2:=AutoSeq1.sub_tuple_tuple
    have hZ:(items.toList.zip items2.toList).length=min items.size items2.size:=by simp
    wp_walk using wpAny_loadPart' hl,wpAny_loadPart' hb,wpAny_forIn_list _ (fun rest b s'=>b.1=none∧s'=⟨hp,g,d,tk,os⟩∧∃ i,rest=(items.toList.zip items2.toList).drop i∧i≤min items.size items2.size ∧
      R (.ok (.ret (.bool (lexAt e lt (decide (items.size<items2.size)) (min items.size items2.size-i) i)))) ⟨hp,g,d,tk,os⟩) _
    case turn =>
      rintro ⟨y,x⟩ rest b s' ⟨hb',rfl,i,hz,hle,hR⟩
      have hlt':i<(items.toList.zip items2.toList).length:=by
        rcases Nat.lt_or_ge i (items.toList.zip items2.toList).length with h' | h'
        · exact h'
        · rw [List.drop_of_length_le h'] at hz; cases hz
      have hm:i<min items.size items2.size:=hZ ▸ hlt'
      have h1:i<items.size:=Nat.lt_of_lt_of_le hm (Nat.min_le_left _ _)
      have h2:i<items2.size:=Nat.lt_of_lt_of_le hm (Nat.min_le_right _ _)
      rw [List.drop_eq_getElem_cons hlt'] at hz
      injection hz with hyx hrest
      have hy:y=items[i]:=by have:=congrArg Prod.fst hyx; simpa using this
      have hx:x=items2[i]:=by have:=congrArg Prod.snd hyx; simpa using this
      subst hy hx
      obtain ⟨k,hk⟩:∃ k,min items.size items2.size-i=k+1:=⟨min items.size items2.size-i-1,by omega⟩
      rw [hk] at hR
      unfold lexAt at hR
      refine wpAny_bind (he i h1 h2 prog w _ _ ?_)
      cases hy:e i with
      | true =>
        rw [hy,if_pos rfl] at hR
        wp_walk
        refine ⟨rfl,rfl,i+1,hrest,by omega,?_⟩
        have:min items.size items2.size-(i+1)=k:=by omega
        rw [this]
        exact hR
      | false =>
        rw [hy,if_neg Bool.false_ne_true] at hR
        refine wpAny_ite_split (fun _=>?_) (fun z=>absurd rfl z)
        refine wpAny_bind (wpAny_rule ?_)
        refine wpAny_bind (hlt i h1 h2 hy prog w _ _ ?_)
        wp_walk
        exact ⟨_,rfl,hR⟩
    case fin =>
      rintro ⟨b1,b2⟩ s' ⟨hb',rfl,i,hz,hle,hR⟩
      simp only at hb'
      subst hb'
      have hge:min items.size items2.size≤i:=by
        rcases Nat.lt_or_ge i (items.toList.zip items2.toList).length with h' | h'
        · rw [List.drop_eq_getElem_cons h'] at hz; cases hz
        · exact hZ ▸ h'
      have:min items.size items2.size-i=0:=by omega
      rw [this] at hR
      wp_walk
      exact ⟨_,rfl,hR⟩
    case h =>
      exact ⟨rfl,rfl,0,rfl,Nat.zero_le _,h⟩
section
variable {A:Around} {s:Shared}
theorem LtAt.lists {l b:Addr} {items items2:Array Value} {e lt:Nat→Bool} (hl:s.heap.IsList l items) (hb:s.heap.IsList b items2) (hu:A.units<cLine)
    (he:∀ j (h1:j<items.size) (h2:j<items2.size),EqAt A.in1 s items[j] items2[j] (e j)) (hlt:∀ j (h1:j<items.size) (h2:j<items2.size),e j=false→LtAt A.in1 s items[j] items2[j] (lt j)):LtAt A s (.ref l) (.ref b) (lexAt e lt (decide (items.size<items2.size)) (min items.size items2.size) 0):=fun prog w E Q h=>by
  obtain ⟨⟨cls,dd,data,sl⟩,ho,hc,n,hd⟩:=id hl
  obtain ⟨⟨cls2,dd2,data2,sl2⟩,ho2,hc2,n2,hd2⟩:=id hb
  simp only at hc hd hc2 hd2
  subst hc hd hc2 hd2
  exact richCompare_meets_room (op:=.Lt) ⟨_,ho,rfl⟩ ⟨_,ho2,rfl⟩ F.slot_list_lt F.entry_list_lt (F.args_list_lt_2 _ _) (list_ltAt l b items items2 n n2 dd dd2 sl sl2 e lt)
    ⟨ho,ho2,he,hlt,show Value.bool (lexAt e lt (decide (items.size<items2.size)) (min items.size items2.size) 0)≠Value.notImplemented∧Q (.bool (lexAt e lt (decide (items.size<items2.size)) (min items.size items2.size) 0)) s from ⟨(fun x=>nomatch x),h⟩⟩ hu
theorem LtAt.tuples {l b:Addr} {items items2:Array Value} {e lt:Nat→Bool} (hl:s.heap.IsTuple l items) (hb:s.heap.IsTuple b items2) (hu:A.units<cLine)
    (he:∀ j (h1:j<items.size) (h2:j<items2.size),EqAt A.in1 s items[j] items2[j] (e j)) (hlt:∀ j (h1:j<items.size) (h2:j<items2.size),e j=false→LtAt A.in1 s items[j] items2[j] (lt j)):LtAt A s (.ref l) (.ref b) (lexAt e lt (decide (items.size<items2.size)) (min items.size items2.size) 0):=fun prog w E Q h=>by
  obtain ⟨⟨cls,dd,data,sl⟩,ho,hc,n,hd⟩:=id hl
  obtain ⟨⟨cls2,dd2,data2,sl2⟩,ho2,hc2,n2,hd2⟩:=id hb
  simp only at hc hd hc2 hd2
  subst hc hd hc2 hd2
  exact richCompare_meets_room (op:=.Lt) ⟨_,ho,rfl⟩ ⟨_,ho2,rfl⟩ F.slot_tuple_lt F.entry_tuple_lt (F.args_tuple_lt_2 _ _) (tuple_ltAt l b items items2 n n2 dd dd2 sl sl2 e lt)
    ⟨ho,ho2,he,hlt,show Value.bool (lexAt e lt (decide (items.size<items2.size)) (min items.size items2.size) 0)≠Value.notImplemented∧Q (.bool (lexAt e lt (decide (items.size<items2.size)) (min items.size items2.size) 0)) s from ⟨(fun x=>nomatch x),h⟩⟩ hu
theorem LtAt.ints (a b:Int) (t u:Tok):LtAt A s (.int a t) (.int b u) (decide (a<b)):=fun prog w E Q h=>PyProof.Rows.lt_int h
end
end PySem.SeqAt
namespace VL
open PySem L2
open Classical
noncomputable section
variable {K:PySem.W.Frag}
def lexD (lt:D→D→Bool):List D→List D→Bool
  | [],[]=>false
  | [],_::_=>true
  | _::_,[]=>false
  | x::xs,y::ys=>if x=y then lexD lt xs ys else lt x y
def ltD:Nat→D→D→Bool
  | _,.int a,.int b=>decide (a<b)
  | n+1,.lst xs,.lst ys=>lexD (ltD n) xs ys
  | n+1,.tup xs,.tup ys=>lexD (ltD n) xs ys
  | _,_,_=>false
def ordb:Nat→D→D→Bool
  | _,.int _,.int _=>true
  | n+1,.lst xs,.lst ys=>(List.zip xs ys).all fun p=>cmpb n p.1 p.2&&ordb n p.1 p.2
  | n+1,.tup xs,.tup ys=>(List.zip xs ys).all fun p=>cmpb n p.1 p.2&&ordb n p.1 p.2
  | _,_,_=>false
theorem lexAt_lexD (lt:D→D→Bool) (ds es:List D):∀ k i,i≤min ds.length es.length→min ds.length es.length-i=k→SeqAt.lexAt (fun j=>decide (ds.getD j default=es.getD j default)) (fun j=>lt (ds.getD j default) (es.getD j default)) (decide (ds.length<es.length)) k i=lexD lt (ds.drop i) (es.drop i)
  | 0,i,hi,hk=>by
    unfold SeqAt.lexAt
    by_cases h1:ds.length≤es.length
    · have e1:ds.drop i=[]:=List.drop_of_length_le (by omega)
      rw [e1]
      by_cases h2:ds.length<es.length
      · rw [List.drop_eq_getElem_cons (show i<es.length by omega),decide_eq_true h2]; rfl
      · have e2:es.drop i=[]:=List.drop_of_length_le (by omega)
        rw [e2,decide_eq_false h2]; rfl
    · have e2:es.drop i=[]:=List.drop_of_length_le (by omega)
      rw [e2,List.drop_eq_getElem_cons (show i<ds.length by omega),decide_eq_false (by omega)]; rfl
  | k+1,i,hi,hk=>by
    have h1:i<ds.length:=by omega
    have h2:i<es.length:=by omega
    unfold SeqAt.lexAt
    rw [List.drop_eq_getElem_cons h1,List.drop_eq_getElem_cons h2,lexAt_lexD lt ds es k (i+1) (by omega) (by omega)]
    have g1:ds.getD i default=ds[i]:=by rw [List.getD_eq_getElem?_getD,List.getElem?_eq_getElem h1]; rfl
    have g2:es.getD i default=es[i]:=by rw [List.getD_eq_getElem?_getD,List.getElem?_eq_getElem h2]; rfl
    rw [g1,g2]
    unfold lexD
    by_cases c:ds[i]=es[i]
    · rw [if_pos c,if_pos (decide_eq_true c)]
      cases ds.drop (i+1) <;> cases es.drop (i+1) <;> rfl
    · rw [if_neg c,if_neg (by rw [decide_eq_true_iff]; exact c)]
section
variable {X:Cx} {pins:List (Addr×Obj)} {σ:L2.St} {H:Hp} {s:Shared}
theorem zip_ord {n:Nat} {ds es:List D} (h:(List.zip ds es).all (fun p=>cmpb n p.1 p.2&&ordb n p.1 p.2)=true):(List.zip ds es).all (fun p=>cmpb n p.1 p.2)=true∧∀ (j:Nat) (a b:D),ds[j]?=some a→es[j]?=some b→ordb n a b=true:=by
  rw [List.all_eq_true] at h
  refine ⟨List.all_eq_true.mpr fun p hp=>((Bool.and_eq_true _ _).mp (h p hp)).1,fun j a b h1 h2=>?_⟩
  have:(a,b)∈List.zip ds es:=by
    refine List.mem_of_getElem? (i:=j) ?_
    rw [List.getElem?_zip_eq_some]
    exact ⟨h1,h2⟩
  exact ((Bool.and_eq_true _ _).mp (h _ this)).2
theorem lts_is {n:Nat} {A:Around} {xs ys:List V} {us ws:List Value} {ds es:List D} (hc:∀ (j:Nat) (a b:D),ds[j]?=some a→es[j]?=some b→ordb n a b=true) (r1:Vals xs us) (r2:Vals ys ws) (g1:IsL K H No xs ds) (g2:IsL K H No ys es)
    (ih:∀ {v w:V} {d e:D} {u x:Value},RelV v u→RelV w x→Is K H No v d→Is K H No w e→ordb n d e=true→SeqAt.LtAt A s u x (ltD n d e)) :
    ∀ j (h1:j<us.toArray.size) (h2:j<ws.toArray.size),SeqAt.LtAt A s us.toArray[j] ws.toArray[j] (ltD n (ds.getD j default) (es.getD j default)):=by
  intro j h1 h2
  rw [List.size_toArray] at h1 h2
  have l1:=r1.length
  have l2:=r2.length
  have l3:=g1.length
  have l4:=g2.length
  have e3:ds[j]?=some (ds.getD j default):=by rw [List.getD_eq_getElem?_getD,List.getElem?_eq_getElem (by omega)]; rfl
  have e4:es[j]?=some (es.getD j default):=by rw [List.getD_eq_getElem?_getD,List.getElem?_eq_getElem (by omega)]; rfl
  obtain ⟨x,f1,i1⟩:=g1.get e3
  obtain ⟨y,f2,i2⟩:=g2.get e4
  obtain ⟨u',q1,k1⟩:=r1.get f1
  obtain ⟨v',q2,k2⟩:=r2.get f2
  have a1:us.toArray[j]=u':=by rw [List.getElem?_eq_getElem h1] at q1; simpa using q1
  have a2:ws.toArray[j]=v':=by rw [List.getElem?_eq_getElem h2] at q2; simpa using q2
  rw [a1,a2]
  exact ih k1 k2 i1 i2 (hc j _ _ e3 e4)
inductive Om:Nat→D→D→Prop
  | int {n:Nat} (a b:Int):Om n (.int a) (.int b)
  | lst {n:Nat} {xs ys:List D} (h:(List.zip xs ys).all (fun p=>cmpb n p.1 p.2&&ordb n p.1 p.2)=true):Om (n+1) (.lst xs) (.lst ys)
  | tup {n:Nat} {xs ys:List D} (h:(List.zip xs ys).all (fun p=>cmpb n p.1 p.2&&ordb n p.1 p.2)=true):Om (n+1) (.tup xs) (.tup ys)
theorem ordb_inv {n:Nat} {d e:D} (hc:ordb n d e=true):Om n d e:=by
  unfold ordb at hc
  split at hc
  · exact .int _ _
  · exact .lst hc
  · exact .tup hc
  · cases hc
theorem ltAt_is (I:Inv X pins σ H s):∀ (n:Nat) {A:Around},A.units+n<cLine→∀ {v w:V} {d e:D} {u x:Value},RelV v u→RelV w x→Is K H No v d→Is K H No w e→ordb n d e=true→SeqAt.LtAt A s u x (ltD n d e):=by
  intro n
  induction n using Nat.strongRecOn with | ind n ih=>?_
  intro A hu v w d e u x r1 r2 i1 i2 hc
  cases ordb_inv hc with
  | int a b=>obtain rfl:=i1.v_int; obtain rfl:=i2.v_int; obtain ⟨t,rfl⟩:=r1; obtain ⟨t',rfl⟩:=r2; rw [show ltD n (D.int a) (D.int b)=decide (a<b) by cases n <;> rfl]; exact SeqAt.LtAt.ints a b t t'
  | @lst n ds es hh =>
    obtain ⟨p,xs,rfl,z1,h1,l1,g1⟩:=i1.v_lst
    obtain ⟨q,ys,rfl,z2,h2,l2,g2⟩:=i2.v_lst
    cases r1
    cases r2
    obtain ⟨_,us,m1,k1,n1,o1⟩:=I.lstR h1
    obtain ⟨_,ws,m2,k2,n2,o2⟩:=I.lstR h2
    have e1:=g1.length
    have e2:=g2.length
    obtain ⟨hc1,hc2⟩:=zip_ord hh
    have q:=SeqAt.LtAt.lists (A:=A) (s:=s) (items:=us.toArray) (items2:=ws.toArray) ⟨_,o1,rfl,_,rfl⟩ ⟨_,o2,rfl,_,rfl⟩ (by omega) (eqAt_items (ns:=ds) (ms:=es) (d:=default) (by omega) (by omega) (items_is hc1 k1 k2 g1 g2 (eqAt_is I n (by rw [in1_units]; omega)))) fun j a1 a2 _=>lts_is hc2 k1 k2 g1 g2 (ih n (Nat.lt_succ_self _) (by rw [in1_units]; omega)) j a1 a2
    rw [List.size_toArray,List.size_toArray,show us.length=ds.length by omega,show ws.length=es.length by omega,lexAt_lexD (ltD n) ds es (min ds.length es.length) 0 (Nat.zero_le _) rfl] at q
    exact q
  | @tup n ds es hh =>
    obtain ⟨p,xs,rfl,z1,h1,l1,g1⟩:=i1.v_tup
    obtain ⟨q,ys,rfl,z2,h2,l2,g2⟩:=i2.v_tup
    cases r1
    cases r2
    obtain ⟨us,k1,o1,_⟩:=I.tuple (xs:=xs) (.inl (.inl h1))
    obtain ⟨ws,k2,o2,_⟩:=I.tuple (xs:=ys) (.inl (.inl h2))
    have e1:=g1.length
    have e2:=g2.length
    have n1:=k1.length
    have n2:=k2.length
    obtain ⟨hc1,hc2⟩:=zip_ord hh
    have q:=SeqAt.LtAt.tuples (A:=A) (s:=s) (items:=us.toArray) (items2:=ws.toArray) o1 o2 (by omega) (eqAt_items (ns:=ds) (ms:=es) (d:=default) (by omega) (by omega) (items_is hc1 k1 k2 g1 g2 (eqAt_is I n (by rw [in1_units]; omega)))) fun j a1 a2 _=>lts_is hc2 k1 k2 g1 g2 (ih n (Nat.lt_succ_self _) (by rw [in1_units]; omega)) j a1 a2
    rw [List.size_toArray,List.size_toArray,show us.length=ds.length by omega,show ws.length=es.length by omega,lexAt_lexD (ltD n) ds es (min ds.length es.length) 0 (Nat.zero_le _) rfl] at q
    exact q
end
end
end VL
namespace L2
open PySem PySem.Spec PyProof.Rows VL
section
variable {X:Cx} {pins P0 P1:List (Addr×Obj)} {σ:St} {H:Hp} {s:Shared} {h':Heap} {a:Addr} {oa oa':Obj} {t':Nat}
theorem Inv.poke (I:Inv X (P0++(a,oa)::P1) σ H s) (hk:∀ b o,b≠a→s.heap.get? b=some o→h'.get? b=some o) (ha:h'.get? a=some oa') (hd:∀ v,oa'.data≠.cell v) (h0:X.s₀.heap.objs.size≤a) (hne:∀ p∈X.pn++(P0++P1),p.1≠a) :
    Inv X (P0++(a,oa')::P1) σ H { s with heap:=h',toks:=t' }:=by
  obtain ⟨p1,p2,p3,p4,p5⟩:=I.pin (a,oa) (List.mem_append_right _ (List.mem_append_right _ List.mem_cons_self))
  have I1:Inv X (P0++P1) σ H s:=I.pins_of fun p hp=>I.pin p (List.mem_append_right _ ((List.mem_append.mp hp).elim (fun z=>List.mem_append_left _ z) fun z=>List.mem_append_right _ (List.mem_cons_of_mem _ z)))
  have cells:∀ x c,X.env.cells.lookup x=some c→c≠a:=fun x c e z=>by
    obtain ⟨v,o,ho,hd⟩:=I.cell x c e
    rw [z,p1] at ho
    cases ho
    exact p5 v hd
  have I2:Inv X (P0++P1) σ H { s with heap:=h',toks:=t' }:=I1.turned hk p2 p3 (.inr h0) cells hne
  refine I2.pins_of fun p hp=>?_
  rcases List.mem_append.mp hp with hp | hp
  · exact I2.pin p (List.mem_append_right _ (List.mem_append_left _ hp))
  · rcases List.mem_cons.mp hp with rfl | hp
    · exact ⟨ha,p2,p3,p4,hd⟩
    · exact I2.pin p (List.mem_append_right _ (List.mem_append_right _ hp))
end
def LessV (K:PySem.W.Frag) (H:Hp) (k y:V) (b:Bool):Prop:=∃ d e,Is K H No k d∧Is K H No y e∧ordb 20 d e=true∧b=ltD 20 d e
def minW (K:PySem.W.Frag) (te:TE) (fs:List (Option V)) (Fin:V→Hp→Prop):List V→V→V→Hp→Prop
  | [],xb,_,H=>Fin xb H
  | v::r,xb,yb,H=>te (some v::fs) H fun k H'=>Grow H H'∧∃ b,LessV K H' k yb b∧minW K te fs Fin r (if b=true then v else xb) (if b=true then k else yb) H'
theorem SqL.grow {K:PySem.W.Frag} {H H':Hp} {a:Addr} {vs:List V} (h:SqL K H a vs) (g:Grow H H'):SqL K H' a vs:=by
  rcases h with (z | ⟨o,z⟩) | z
  · exact .inl (.inl (g _ _ z))
  · exact .inl (.inr ⟨o,g _ _ z⟩)
  · exact .inr z
section
variable {X:Cx} {pins:List (Addr×Obj)} {σ:St} {f:Addr} {o:Obj} {q:Str} {params:Arguments} {body:Expr} {scope:Scope} {cl:List (Str×Addr)} {x:Str} {zs:List Str} {is:List Nat} {te:TE} {Fin:V→Hp→Prop} {kw:List (Str×Value)} {l I S:Addr} {vs:List V}
theorem less_run {A:Around} {H:Hp} {s:Shared} {k y:V} {u w:Value} {b:Bool} {Q:Value→Shared→Prop} {E:Value→Shared→Prop} (J:Inv X pins σ H s) (hu:A.units+20<cLine) (h:LessV X.K H k y b) (r1:RelV k u) (r2:RelV y w) (hq:Q (.bool b) s):wpAny (model X.prog X.w) A (richCompare .Lt u w) Q E s:=by
  obtain ⟨d,e,i1,i2,ho,rfl⟩:=h
  exact ltAt_is J 20 hu r1 r2 i1 i2 ho X.prog X.w E Q hq
theorem minK_loop (fr:LFrees X x zs is scope cl) (hA:X.A.in1.frames=some X.stack) (hh:X.A.in1.handled=none) (hroom:X.A.in1.depth<recursionLimit) (hun:X.A.units+30<cLine)
    (hb:∀ (c:Addr) (ct u:Value),bindArgs (PySem.W.kla_fn "<lambda>" q params body scope cl ((X.mg "__name__").getD .none) (.ref c) ct) ⟨[u],[]⟩=pure [(x,u)])
    (he:∀ f c s H pins,PE (lamCx X (x::zs) q scope cl f c X.A.in1 s H pins) body te) (hlI:l≠I) (hSI:S≠I) (h0I:X.s₀.heap.objs.size≤I) (h0S:X.s₀.heap.objs.size≤S)
    (hpI:∀ p∈X.pn++(pins++[(f,o)]),p.1≠I) (hpS:∀ p∈X.pn++(pins++[(f,o)]),p.1≠S):∀ (r:List V) (j:Nat) (H:Hp) (s:Shared) (xb yb:V) (vb kb:Value) (c:Nat) (oI:Obj),
    vs.drop j=r→j≤vs.length→Inv X (pins++[(f,o),(S,seqObj "list" #[vb,kb] c),(I,oI)]) σ H s→s.heap.IsListIter I l j→SqL X.K H l vs→LamIs X.mg H q params body scope cl o→RelV xb vb→RelV yb kb →
    minW X.K te (is.map fun i=>(σ[i]?).join) Fin r xb yb H →
    codeAny (model X.prog X.w) X.A (.builtin "min.loop" ⟨[.ref I,.ref f,.ref S],kw⟩) (fun res s'=>∃ u,res=.ok (.ret u)∧EP X pins σ Fin u s') s:=by
  have hname:(toString "min" ++ toString ".loop" : String) = "min.loop" := by decide
  intro r
  induction r with
  | nil =>
    intro j H s xb yb vb kb c oI hd hj J hit hq L rx ry h
    obtain ⟨its,rv,pl,_⟩:=J.list hq
    have hln:=rv.length
    have hjn:j=vs.length:=by
      have:=congrArg List.length hd
      rw [List.length_drop,List.length_nil] at this
      omega
    have W:=Walks.list (prog:=X.prog) (w:=X.w) (A:=X.A.in1) hh I l hlI its.toArray
    have pS:=J.pin (S,seqObj "list" #[vb,kb] c) (List.mem_append_right _ (List.mem_append_right _ (List.mem_cons_of_mem _ List.mem_cons_self)))
    refine codeAny_builtin PySem.F.entry_min_loop ?_
    rw [Around.under_plainId PySem.F.plain_min_loop _]
    show wpAny _ X.A.in1 (seqItems? (.ref S) >>= _) _ _ _
    refine wpAny_bind (wpAny_seqItems pS.1 rfl ?_)
    show wpAny _ X.A.in1 (tryCatch (pyNext (.ref I)) _ >>= _) _ _ _
    refine wpAny_bind (wpAny_tryCatch (W.done _ _ _ ⟨by rw [List.size_toArray,← hln,← hjn]; exact hit,pl.isList⟩ fun h' tk' hk'=>?_))
    have hS':=hk' S _ (by simpa using hSI) pS.1
    show wpAny _ X.A.in1 (updateSeq S (fun _=>#[]) >>= _) _ _ _
    refine wpAny_bind ?_
    refine wpAny_updateSeq hS' rfl (wpAny_bind (wpAny_letGo (wpAny_pure ?_)))
    have J0:Inv X ((pins++[(f,o)])++[(S,seqObj "list" #[vb,kb] c)]) σ H { s with heap:=h',toks:=tk' }:=by
      have J1:Inv X ((pins++[(f,o)])++[(S,seqObj "list" #[vb,kb] c)]) σ H s:=J.pins_of fun p hp=>J.pin p (List.mem_append_right _ (by simp at hp ⊢; rcases hp with hp | hp | hp <;> simp [hp]))
      obtain ⟨p1,p2,p3,p4,p5⟩:=J.pin (I,oI) (List.mem_append_right _ (by simp))
      refine J1.turned (fun b o hb e=>hk' b o (by simpa using hb) e) p2 p3 (.inr h0I) (fun x c e z=>?_) fun p hp z=>?_
      · obtain ⟨v,o,ho,hd⟩:=J.cell x c e
        rw [z,p1] at ho
        cases ho
        exact p5 v hd
      · rw [← List.append_assoc] at hp
        rcases List.mem_append.mp hp with hp | hp
        · exact hpI p hp z
        · cases List.mem_singleton.mp hp
          exact hSI z
    have J2:=J0.poke (P1:=[]) (h':=h'.update S (Obj.mapSeq fun _=>#[])) (t':=tk') (oa':=seqObj "list" #[] (c+1)) (fun b o hb e=>(Heap.get?_update_other _ _ (Ne.symm hb)).trans e) (Heap.get?_update_self _ hS' rfl) (fun v z=>by cases z) h0S (by rw [List.append_nil]; exact hpS)
    exact ⟨vb,rfl,xb,H,J2.pins_of fun p hp=>J2.pin p (List.mem_append_right _ (by simp [hp])),rx,h⟩
  | cons v r ih =>
    intro j H s xb yb vb kb c oI hd hj J hit hq L rx ry h
    obtain ⟨its,rv,pl,_⟩:=J.list hq
    have hln:=rv.length
    have hjn:j<vs.length:=by
      have:=congrArg List.length hd
      rw [List.length_drop,List.length_cons] at this
      omega
    have hvj:vs[j]?=some v:=by
      have:=congrArg (fun l=>l[0]?) hd
      simpa using this
    have hd':vs.drop (j+1)=r:=by
      rw [List.drop_eq_getElem_cons hjn] at hd
      injection hd
    obtain ⟨u0,eu0,ru0⟩:=rv.get hvj
    have W:=Walks.list (prog:=X.prog) (w:=X.w) (A:=X.A.in1) hh I l hlI its.toArray
    have pS:=J.pin (S,seqObj "list" #[vb,kb] c) (List.mem_append_right _ (List.mem_append_right _ (List.mem_cons_of_mem _ List.mem_cons_self)))
    refine codeAny_builtin PySem.F.entry_min_loop ?_
    rw [Around.under_plainId PySem.F.plain_min_loop _]
    show wpAny _ X.A.in1 (seqItems? (.ref S) >>= _) _ _ _
    refine wpAny_bind (wpAny_seqItems pS.1 rfl ?_)
    show wpAny _ X.A.in1 (tryCatch (pyNext (.ref I)) _ >>= _) _ _ _
    refine wpAny_bind (wpAny_tryCatch (W.item j _ _ _ (by rw [List.size_toArray]; omega) ⟨hit,pl.isList⟩ fun v1 h1 tk1 hP hst1 hk1=>?_))
    have ev1:v1=u0:=by
      have:its[j]?=some v1:=by simpa using hP
      rw [eu0] at this
      exact (Option.some.inj this).symm
    subst ev1
    obtain ⟨oI1,hoI1,hoc1,hod1⟩:=id hst1.1
    have J1:Inv X (pins++[(f,o),(S,seqObj "list" #[vb,kb] c),(I,oI1)]) σ H { s with heap:=h1,toks:=tk1 }:=by
      have:=Inv.poke (P0:=pins++[(f,o),(S,seqObj "list" #[vb,kb] c)]) (P1:=[]) (a:=I) (oa:=oI) (h':=h1) (t':=tk1) (oa':=oI1) (by simpa using J) (fun b o hb e=>hk1 b o (by simpa using hb) e) hoI1 (fun v z=>by rw [hod1] at z; cases z) h0I (fun p hp z=>by
        simp at hp
        rcases hp with hp | hp | hp | hp
        · exact hpI p (by simp [hp]) z
        · exact hpI p (by simp [hp]) z
        · exact hpI p (by simp [hp]) z
        · rw [hp] at z; exact hSI z)
      simpa using this
    show wpAny _ X.A.in1 (tryCatch (holding [v1] (call (.ref f) [v1])) _ >>= _) _ _ _
    refine wpAny_bind (wpAny_tryCatch (wpAny_holding (wpAny_mono (lam_call J1 L (List.mem_append_right _ (List.mem_append_right _ List.mem_cons_self)) fr hA hh hroom hb he ru0 h) (fun k2 s2 hk2=>?_) fun _ _ hF=>hF.elim)))
    obtain ⟨⟨y2,H2,J2,ry2,g2,bl,hless,hw⟩,_⟩:=hk2
    show wpAny _ X.A.in1 (tryCatch (holding [v1,k2] (richCompare .Lt k2 kb >>= _)) _ >>= _) _ _ _
    refine wpAny_bind (wpAny_tryCatch (wpAny_holding (wpAny_bind (less_run J2 (by show X.A.units+1+20 < _; omega) hless ry2 ry ?_))))
    refine wpAny_bind (wpAny_holding (wpAny_truthy_bool ?_))
    refine wpAny_bind (wpAny_letGo (wpAny_pure ?_))
    have pS2:=J2.pin (S,seqObj "list" #[vb,kb] c) (List.mem_append_right _ (List.mem_append_right _ (List.mem_cons_of_mem _ List.mem_cons_self)))
    have pI2:=J2.pin (I,oI1) (List.mem_append_right _ (List.mem_append_right _ (List.mem_cons_of_mem _ (List.mem_cons_of_mem _ List.mem_cons_self))))
    cases bl with
    | true =>
      simp only [if_true]
      refine wpAny_bind ?_
      refine wpAny_updateSeq pS2.1 rfl (wpAny_bind (wpAny_letGo ?_))
      rw [hname]
      obtain ⟨c2,hc2⟩:∃ c2,(s2.heap.update S (Obj.mapSeq fun _=>#[v1,k2])).get? S=some (seqObj "list" #[v1,k2] c2):=⟨_,get?_update_seq pS2.1 fun _=>#[v1,k2]⟩
      have J3:=Inv.poke (P0:=pins++[(f,o)]) (P1:=[(I,oI1)]) (a:=S) (oa:=seqObj "list" #[vb,kb] c) (h':=s2.heap.update S (Obj.mapSeq fun _=>#[v1,k2])) (t':=s2.toks) (oa':=seqObj "list" #[v1,k2] c2) (by simpa using J2) (fun b o hb e=>(Heap.get?_update_other _ _ (Ne.symm hb)).trans e) hc2 (fun v z=>by cases z) h0S (fun p hp z=>by
        rw [← List.append_assoc] at hp
        rcases List.mem_append.mp hp with hp | hp
        · exact hpS p hp z
        · cases List.mem_singleton.mp hp
          exact hSI z.symm)
      refine wpAny_pure ⟨plainId_quiet PySem.F.plain_min_loop _,ih (j+1) H2 _ v y2 v1 k2 c2 oI1 hd' hjn (by simpa using J3) ⟨oI1,(Heap.get?_update_other _ _ hSI).trans pI2.1,hoc1,hod1⟩ (hq.grow g2) (L.grow g2) ru0 ry2 (by simpa using hw)⟩
    | false =>
      simp only [Bool.false_eq_true,if_false]
      refine wpAny_bind (wpAny_letGo ?_)
      rw [hname]
      refine wpAny_pure ⟨plainId_quiet PySem.F.plain_min_loop _,ih (j+1) H2 _ xb yb vb kb c oI1 hd' hjn J2 ⟨oI1,pI2.1,hoc1,hod1⟩ (hq.grow g2) (L.grow g2) rx ry (by simpa using hw)⟩
theorem minK_run {H:Hp} {s:Shared} {v0:V} {r0:List V} {dfl:Option Value} (J:Inv X (pins++[(f,o)]) σ H s) (L:LamIs X.mg H q params body scope cl o)
    (fr:LFrees X x zs is scope cl) (hA:X.A.in1.frames=some X.stack) (hh:X.A.in1.handled=none) (hroom:X.A.in1.depth<recursionLimit) (hun:X.A.units+30<cLine)
    (hb:∀ (c:Addr) (ct u:Value),bindArgs (PySem.W.kla_fn "<lambda>" q params body scope cl ((X.mg "__name__").getD .none) (.ref c) ct) ⟨[u],[]⟩=pure [(x,u)])
    (he:∀ f c s H pins,PE (lamCx X (x::zs) q scope cl f c X.A.in1 s H pins) body te)
    (hargs:argsOk "min" ⟨[.ref l],kw⟩) (hbind:Builtin.Builtins.bindParams "min" ["key", "default"] 0 ⟨[],kw⟩=pure [some (.ref f),dfl])
    (hq:SqL X.K H l vs) (hv:vs=v0::r0) (h:te (some v0::is.map fun i=>(σ[i]?).join) H fun k H'=>Grow H H'∧minW X.K te (is.map fun i=>(σ[i]?).join) Fin r0 v0 k H') :
    wpAny (model X.prog X.w) X.A (call (.builtin "min") [.ref l] kw) (EP X pins σ Fin) X.xe s:=by
  have hname:(toString "min" ++ toString ".loop" : String) = "min.loop" := by decide
  obtain ⟨its,rv,pl,_⟩:=J.list hq
  have hln:=rv.length
  obtain ⟨ol,hol,_⟩:=id pl.isList
  have hll:l<s.heap.objs.size:=Heap.lt_size hol
  refine PyProof.Rows.kmk_tree PySem.F.kind_min PySem.F.plain_min PySem.F.entry_min hargs ?_
  show wpAny _ X.A.in1 (Builtin.Builtins.bindParams "min" ["key", "default"] 0 ⟨[],kw⟩ >>= _) _ _ s
  refine wpAny_bind (wpAny_of_eq hbind ?_)
  refine wpAny_bind (wpAny_pure ?_)
  refine wpAny_bind (wpAny_pyIter_list pl.isList ?_)
  refine wpAny_bind (wpAny_newList ?_ (Nat.zero_le _))
  rw [hname]
  generalize hit0:({ cls:=.type "list_iterator", data:=.fields #[.ref l,.int 0 0] }:Obj)=it0
  have hSz:(s.heap.push it0).objs.size=s.heap.objs.size+1:=size_push' ..
  generalize hSS:(s.heap.push it0).objs.size=S at hSz
  have gI:((s.heap.push it0).push (seqObj "list" #[] 0)).get? s.heap.objs.size=some it0:=Heap.get?_push_of_some _ (Heap.get?_push_size _ (by rw [← hit0]; rfl))
  have gS:((s.heap.push it0).push (seqObj "list" #[] 0)).get? S=some (seqObj "list" #[] 0):=by rw [← hSS]; exact Heap.get?_push_size _ rfl
  have kp:∀ b u,s.heap.get? b=some u→((s.heap.push it0).push (seqObj "list" #[] 0)).get? b=some u:=fun b u e=>Heap.get?_push_of_some _ (Heap.get?_push_of_some _ e)
  generalize (s.heap.push it0).push (seqObj "list" #[] 0)=g at *
  have hsz:=J.sz
  have Ls:X.env.locals<s.heap.objs.size:=J.lt
  have lo:∀ p∈X.pn++(pins++[(f,o)]),p.1<s.heap.objs.size:=fun p hp=>Heap.lt_size (J.pin p hp).1
  have J1:Inv X (pins++[(f,o)]) σ H { s with heap:=g,toks:=s.toks }:=J.kept kp
  have fS:H S=none:=J.hok.fresh (by rw [hSz]; exact Nat.le_succ _)
  have fI:H s.heap.objs.size=none:=J.hok.fresh (Nat.le_refl _)
  have J2:Inv X (pins++[(f,o),(S,seqObj "list" #[] 0),(s.heap.objs.size,it0)]) σ H { s with heap:=g,toks:=s.toks }:=J1.pins_of fun p hp=>by
    have hp:p∈(pins++[(f,o)])∨p=(S,seqObj "list" #[] 0)∨p=(s.heap.objs.size,it0):=by simp at hp ⊢; rcases hp with hp | hp | hp | hp <;> simp [hp]
    rcases hp with hp | rfl | rfl
    · exact J1.pin p (List.mem_append_right _ hp)
    · exact ⟨gS,fS,by rw [hSz]; exact Nat.ne_of_gt (Nat.lt_succ_of_lt Ls),J.nofs (by rw [hSz]; exact Nat.le_succ _),fun v z=>by cases z⟩
    · exact ⟨gI,fI,Nat.ne_of_gt Ls,J.nofs (Nat.le_refl _),fun v z=>by rw [← hit0] at z; cases z⟩
  have hlI:l≠s.heap.objs.size:=Nat.ne_of_lt hll
  have hSI:S≠s.heap.objs.size:=by rw [hSz]; exact Nat.ne_of_gt (Nat.lt_succ_self _)
  have h0I:X.s₀.heap.objs.size≤s.heap.objs.size:=hsz
  have h0S:X.s₀.heap.objs.size≤S:=by rw [hSz]; exact Nat.le_succ_of_le hsz
  have hpI:∀ p∈X.pn++(pins++[(f,o)]),p.1≠s.heap.objs.size:=fun p hp=>Nat.ne_of_lt (lo p hp)
  have hpS:∀ p∈X.pn++(pins++[(f,o)]),p.1≠S:=fun p hp=>by rw [hSz]; exact Nat.ne_of_lt (Nat.lt_succ_of_lt (lo p hp))
  have W:=Walks.list (prog:=X.prog) (w:=X.w) (A:=X.A.in1) hh s.heap.objs.size l hlI its.toArray
  have hv0:vs[0]?=some v0:=by rw [hv]; rfl
  obtain ⟨u0,eu0,ru0⟩:=rv.get hv0
  refine wpAny_pure ⟨plainId_quiet PySem.F.plain_min_loop _,?_⟩
  refine codeAny_mono (R:=fun res s'=>∃ u,res=.ok (.ret u)∧EP X pins σ Fin u s') ?_ fun res s' ⟨u,e,hq⟩=>by subst e; exact hq
  refine codeAny_builtin PySem.F.entry_min_loop ?_
  rw [Around.under_plainId PySem.F.plain_min_loop _]
  show wpAny _ X.A.in1 (seqItems? (.ref S) >>= _) _ _ _
  refine wpAny_bind (wpAny_seqItems gS rfl ?_)
  show wpAny _ X.A.in1 (tryCatch (pyNext (.ref s.heap.objs.size)) _ >>= _) _ _ _
  refine wpAny_bind (wpAny_tryCatch (W.item 0 _ _ _ (by rw [List.size_toArray,← hln,hv]; exact Nat.succ_pos _) ⟨⟨_,gI,by rw [← hit0],by rw [← hit0]; rfl⟩,pl.isList.at fun o e=>kp _ _ e⟩ fun v1 h1 tk1 hP hst1 hk1=>?_))
  have ev1:v1=u0:=by
    have:its[0]?=some v1:=by simpa using hP
    rw [eu0] at this
    exact (Option.some.inj this).symm
  subst ev1
  obtain ⟨oI1,hoI1,hoc1,hod1⟩:=id hst1.1
  have J3:Inv X (pins++[(f,o),(S,seqObj "list" #[] 0),(s.heap.objs.size,oI1)]) σ H { s with heap:=h1,toks:=tk1 }:=by
    have:=Inv.poke (P0:=pins++[(f,o),(S,seqObj "list" #[] 0)]) (P1:=[]) (a:=s.heap.objs.size) (oa:=it0) (h':=h1) (t':=tk1) (oa':=oI1) (by simpa using J2) (fun b o hb e=>hk1 b o (by simpa using hb) e) hoI1 (fun v z=>by rw [hod1] at z; cases z) h0I (fun p hp z=>by
      simp at hp
      rcases hp with hp | hp | hp | hp
      · exact hpI p (by simp [hp]) z
      · exact hpI p (by simp [hp]) z
      · exact hpI p (by simp [hp]) z
      · rw [hp] at z; exact hSI z)
    simpa using this
  show wpAny _ X.A.in1 (tryCatch (holding [v1] (call (.ref f) [v1])) _ >>= _) _ _ _
  refine wpAny_bind (wpAny_tryCatch (wpAny_holding (wpAny_mono (lam_call J3 L (List.mem_append_right _ (List.mem_append_right _ List.mem_cons_self)) fr hA hh hroom hb he ru0 h) (fun k2 s2 hk2=>?_) fun _ _ hF=>hF.elim)))
  obtain ⟨⟨y2,H2,J4,ry2,g2,hw⟩,_⟩:=hk2
  have pS2:=J4.pin (S,seqObj "list" #[] 0) (List.mem_append_right _ (List.mem_append_right _ (List.mem_cons_of_mem _ List.mem_cons_self)))
  have pI2:=J4.pin (s.heap.objs.size,oI1) (List.mem_append_right _ (List.mem_append_right _ (List.mem_cons_of_mem _ (List.mem_cons_of_mem _ List.mem_cons_self))))
  show wpAny _ X.A.in1 (updateSeq S (fun _=>#[v1,k2]) >>= _) _ _ _
  refine wpAny_bind ?_
  refine wpAny_updateSeq pS2.1 rfl ?_
  rw [hname]
  obtain ⟨c2,hc2⟩:∃ c2,(s2.heap.update S (Obj.mapSeq fun _=>#[v1,k2])).get? S=some (seqObj "list" #[v1,k2] c2):=⟨_,get?_update_seq pS2.1 fun _=>#[v1,k2]⟩
  have J5:=Inv.poke (P0:=pins++[(f,o)]) (P1:=[(s.heap.objs.size,oI1)]) (a:=S) (oa:=seqObj "list" #[] 0) (h':=s2.heap.update S (Obj.mapSeq fun _=>#[v1,k2])) (t':=s2.toks) (oa':=seqObj "list" #[v1,k2] c2) (by simpa using J4) (fun b o hb e=>(Heap.get?_update_other _ _ (Ne.symm hb)).trans e) hc2 (fun v z=>by cases z) h0S (fun p hp z=>by
    rw [← List.append_assoc] at hp
    rcases List.mem_append.mp hp with hp | hp
    · exact hpS p hp z
    · cases List.mem_singleton.mp hp
      exact hSI z.symm)
  refine wpAny_pure ⟨plainId_quiet PySem.F.plain_min_loop _,minK_loop (vs:=vs) fr hA hh hroom hun hb he hlI hSI h0I h0S hpI hpS r0 1 H2 _ v0 y2 v1 k2 _ oI1 (by rw [hv]; rfl) (by rw [hv]; exact Nat.succ_le_succ (Nat.zero_le _)) (by simpa using J5) ⟨oI1,(Heap.get?_update_other _ _ hSI).trans pI2.1,hoc1,hod1⟩ (hq.grow g2) (L.grow g2) ru0 ry2 hw⟩
end
end L2
namespace L2
open PySem PySem.Spec PyProof.Rows VL
section
variable {X:Cx} {pins:List (Addr×Obj)} {σ:St} {q:Str} {params:Arguments} {body:Expr} {scope:Scope} {cl:List (Str×Addr)} {x:Str} {zs:List Str} {is:List Nat} {te:TE}
end
end L2
namespace VL
open PySem L2
open Classical
noncomputable section
variable [Tabs] {K:PySem.W.Frag}
def bestBy {α:Type} (lt:α→α→Bool):α→List α→α
  | b,[]=>b
  | b,v::r=>bestBy lt (if lt v b=true then v else b) r
omit [Tabs] in
theorem bestBy_mem {α:Type} {lt:α→α→Bool}:∀ {b:α} {l:List α},bestBy lt b l∈b::l
  | b,[]=>List.mem_singleton.mpr rfl
  | b,v::r=>by
    have h:=bestBy_mem (lt:=lt) (b:=if lt v b=true then v else b) (l:=r)
    show bestBy lt (if lt v b=true then v else b) r∈_
    rcases List.mem_cons.mp h with e | h
    · rw [e]
      split
      · exact List.mem_cons_of_mem _ List.mem_cons_self
      · exact List.mem_cons_self
    · exact List.mem_cons_of_mem _ (List.mem_cons_of_mem _ h)
omit [Tabs] in
theorem bestBy_congr {α:Type} {lt lt':α→α→Bool}:∀ {b:α} {l:List α},(∀ x∈b::l,∀ y∈b::l,lt x y=lt' x y)→bestBy lt b l=bestBy lt' b l
  | b,[],_=>rfl
  | b,v::r,h=>by
    show bestBy lt (if lt v b=true then v else b) r=bestBy lt' (if lt' v b=true then v else b) r
    rw [h v (by simp) b (by simp)]
    refine bestBy_congr fun x hx y hy=>h x ?_ y ?_
    · rcases List.mem_cons.mp hx with e | hx
      · rw [e]; split <;> simp
      · simp [hx]
    · rcases List.mem_cons.mp hy with e | hy
      · rw [e]; split <;> simp
      · simp [hy]
omit [Tabs] in
theorem bestBy_map {α β:Type} (f:α→β) (lt:β→β→Bool):∀ (b:α) (l:List α),bestBy lt (f b) (l.map f)=f (bestBy (fun x y=>lt (f x) (f y)) b l)
  | b,[]=>rfl
  | b,v::r=>by
    show bestBy lt (if lt (f v) (f b)=true then f v else f b) (r.map f)=f (bestBy _ (if lt (f v) (f b)=true then v else b) r)
    rw [← bestBy_map f lt _ r]
    congr 1
    split <;> rfl
noncomputable def dMinK (cs:List Nat) (a e:DE):DE:=fun ρ=>match asL a ρ with
  | some (x::r)=>if h:∃ kf:D→D,(∀ d∈x::r,e (kR cs ρ d)=some (kf d))∧∀ d∈x::r,∀ d'∈x::r,ordb 20 (kf d) (kf d')=true then some (bestBy (fun v b=>ltD 20 (h.choose v) (h.choose b)) x r) else none
  | _=>none
omit [Tabs] in
theorem dMinK_of {cs:List Nat} {a e:DE} {ρ:Rho} {x:D} {r:List D} (kf:D→D) (h:asL a ρ=some (x::r)) (hk:∀ d∈x::r,e (kR cs ρ d)=some (kf d)) (ho:∀ d∈x::r,∀ d'∈x::r,ordb 20 (kf d) (kf d')=true):dMinK cs a e ρ=some (bestBy (fun v b=>ltD 20 (kf v) (kf b)) x r):=by
  have hh:∃ kf:D→D,(∀ d∈x::r,e (kR cs ρ d)=some (kf d))∧∀ d∈x::r,∀ d'∈x::r,ordb 20 (kf d) (kf d')=true:=⟨kf,hk,ho⟩
  unfold dMinK
  rw [h]
  show (if h:∃ kf:D→D,(∀ d∈x::r,e (kR cs ρ d)=some (kf d))∧∀ d∈x::r,∀ d'∈x::r,ordb 20 (kf d) (kf d')=true then some (bestBy (fun v b=>ltD 20 (h.choose v) (h.choose b)) x r) else none)=_
  rw [dif_pos hh]
  have eq:∀ d∈x::r,hh.choose d=kf d:=fun d hd=>by
    have h1:=hh.choose_spec.1 d hd
    rw [hk d hd] at h1
    exact (Option.some.inj h1).symm
  exact congrArg some (bestBy_congr fun v hv b hb=>by rw [eq v hv,eq b hb])
omit [Tabs] in
theorem dMinK_some {cs:List Nat} {a e:DE} {ρ:Rho} {d:D} (h:dMinK cs a e ρ=some d):∃ (x:D) (r:List D) (kf:D→D),asL a ρ=some (x::r)∧(∀ d∈x::r,e (kR cs ρ d)=some (kf d))∧(∀ d∈x::r,∀ d'∈x::r,ordb 20 (kf d) (kf d')=true)∧d=bestBy (fun v b=>ltD 20 (kf v) (kf b)) x r:=by
  unfold dMinK at h
  split at h
  · rename_i x r e1
    split at h
    · rename_i hh
      cases h
      exact ⟨x,r,hh.choose,e1,hh.choose_spec.1,hh.choose_spec.2,rfl⟩
    · cases h
  · cases h
theorem Is.no {H:Hp} {Z:Addr→Prop} {v:V} {d:D} (h:Is K H Z v d):Is K H No v d:=Is.kp (Kp.less fun a z=>z.elim) h
end
end VL
namespace L2
open PySem PySem.Spec PyProof.Rows
section
variable {X:Cx} {pins:List (Addr×Obj)} {σ:St} {m:Str→Option Value} {kS f:Addr} {o:Obj} {q:Str} {params:Arguments} {body:Expr} {scope:Scope} {cl:List (Str×Addr)} {A:Around} {x:Str} {zs:List Str} {is:List Nat} {te:TE} {Fin:List V→Hp→Prop}
end
end L2
namespace VL
open PySem L2
open Classical
noncomputable section
variable [Tabs] {K:PySem.W.Frag}
end
end VL
namespace VL
open PySem L2
open Classical
noncomputable section
variable [Tabs] {K:PySem.W.Frag} {fr:Fm}
end
end VL
namespace PySem.SeqAt
theorem oneLt_list {prog:Program} {w:World} {A:Around} {E:Value→Shared→Prop} {Q:Bool→Shared→Prop} {s:Shared} {l b:Addr} {items items2:Array Value} {e lt:Nat→Bool} (hl:s.heap.IsList l items) (hb:s.heap.IsList b items2) (hu:A.units<cLine)
    (he:∀ j (h1:j<items.size) (h2:j<items2.size),EqAt A.in1 s items[j] items2[j] (e j)) (hlt:∀ j (h1:j<items.size) (h2:j<items2.size),e j=false→LtAt A.in1 s items[j] items2[j] (lt j)) (h:Q (lexAt e lt (decide (items.size<items2.size)) (min items.size items2.size) 0) s) :
    wpAny (model prog w) A (PyProof.Rows.oneLt' true (.ref l) (.ref b)) Q E s:=by
  obtain ⟨⟨cls,dd,data,sl⟩,ho,hc,n,hd⟩:=id hl
  obtain ⟨⟨cls2,dd2,data2,sl2⟩,ho2,hc2,n2,hd2⟩:=id hb
  simp only at hc hd hc2 hd2
  subst hc hd hc2 hd2
  rw [PyProof.Rows.oneLt'_eq]
  simp only [if_true]
  refine wpAny_bind (wpAny_cRoomFor hu ?_)
  refine wpAny_bind (wpAny_callSpecialIfBound?_slot ⟨_,ho,rfl⟩ F.slot_list_lt (call_meets F.slot_list_lt ⟨_,ho,rfl⟩ F.entry_list_lt (F.args_list_lt_2 _ _) (list_ltAt l b items items2 n n2 dd dd2 sl sl2 e lt) ⟨ho,ho2,he,hlt,?_⟩))
  exact wpAny_truthy_bool h
end PySem.SeqAt
namespace L2
open PySem PySem.Spec PyProof.Rows
theorem lexAt_lexLt (ds es:List Int):∀ k i,i≤min ds.length es.length→min ds.length es.length-i=k→SeqAt.lexAt (fun j=>ds.getD j 0==es.getD j 0) (fun j=>decide (ds.getD j 0<es.getD j 0)) (decide (ds.length<es.length)) k i=lexLt (ds.drop i) (es.drop i)
  | 0,i,hi,hk=>by
    unfold SeqAt.lexAt
    by_cases h1:ds.length≤es.length
    · have e1:ds.drop i=[]:=List.drop_of_length_le (by omega)
      rw [e1]
      by_cases h2:ds.length<es.length
      · rw [List.drop_eq_getElem_cons (show i<es.length by omega),decide_eq_true h2]; rfl
      · have e2:es.drop i=[]:=List.drop_of_length_le (by omega)
        rw [e2,decide_eq_false h2]; rfl
    · have e2:es.drop i=[]:=List.drop_of_length_le (by omega)
      rw [e2,List.drop_eq_getElem_cons (show i<ds.length by omega),decide_eq_false (by omega)]; rfl
  | k+1,i,hi,hk=>by
    have h1:i<ds.length:=by omega
    have h2:i<es.length:=by omega
    unfold SeqAt.lexAt
    rw [List.drop_eq_getElem_cons h1,List.drop_eq_getElem_cons h2,lexAt_lexLt ds es k (i+1) (by omega) (by omega)]
    have g1:ds.getD i 0=ds[i]:=by rw [List.getD_eq_getElem?_getD,List.getElem?_eq_getElem h1]; rfl
    have g2:es.getD i 0=es[i]:=by rw [List.getD_eq_getElem?_getD,List.getElem?_eq_getElem h2]; rfl
    rw [g1,g2]
    show _=if ds[i]=es[i] then lexLt (ds.drop (i+1)) (es.drop (i+1)) else decide (ds[i]<es[i])
    by_cases c:ds[i]=es[i]
    · rw [if_pos c,if_pos (by simpa using c)]
    · rw [if_neg c,if_neg (by simpa using c)]
def LstZ (H:Hp) (ps:List Addr) (zs:List (List Int)):Prop:=Paired (fun p z=>Rd H p (.lst (z.map V.int))) ps zs
def rSortL (K:PySem.W.Frag):List V→Hp→VK→Prop:=fun xs H Q=>∃ (a:Addr) (ps:List Addr) (zs:List (List Int)),xs=[.ref a]∧SqL K H a (ps.map V.ref)∧LstZ H ps zs∧2≤zs.length∧zs.length<64 ∧
  ∀ idx:List Nat,idx.Perm (List.range zs.length)→(idx.Pairwise fun i j=>lexLt (zs.getD j []) (zs.getD i [])=false)→∀ D,H D=none→Q (.ref D) (upd H D (.lst (idx.map fun i=>V.ref (ps.getD i 0))))
theorem call_sortL {X:Cx} {K:PySem.W.Frag} {k:Nat} (hK:X.K=K) (hx:X.ex=[]) (hr:Room k X.A):CallR X (.builtin "sorted") (rSortL K):=by
  subst hK
  intro pins s σ H xs us Q I r h
  obtain ⟨a,ps,zs,rfl,hq,tz,h2,h64,q⟩:=h
  cases r with
  | cons r1 r =>
    cases r
    cases (show _=Value.ref a from r1)
    obtain ⟨its,rv,pl,_⟩:=I.list hq
    have ei:=refs_of rv
    subst ei
    have hl:ps.length=zs.length:=Paired.length tz
    obtain ⟨m,F⟩:=I.fr
    have at_:∀ i,i<zs.length→∃ p z,ps[i]?=some p∧zs[i]?=some z∧Rd H p (.lst (z.map V.int)):=fun i hi=>by
      obtain ⟨p,e1,g1⟩:=VL.Paired.getF tz (List.getElem?_eq_getElem hi)
      exact ⟨p,_,e1,List.getElem?_eq_getElem hi,g1⟩
    have hne:∀ {p:Addr} {z:List Int},Rd H p (.lst (z.map V.int))→H p≠none:=fun {p z} h e=>by
      rcases h with h | ⟨o,h⟩
      · rw [h] at e; cases e
      · rw [h] at e; cases e
    have keepN:∀ (h':Heap),News X.base X.env.locals h' (allNews X.base s.heap X.env.locals)→∀ p o,H p≠none→s.heap.get? p=some o→h'.get? p=some o:=fun h' N' p o hp e=>by
      have hb:p≠X.env.locals:=fun z=>hp (by rw [z]; exact I.free)
      cases eb:X.base.get? p with
      | some y=>exact absurd (I.bs p y eb).2 hp
      | none=>exact (N' (p,o) (mem_allNews hb eb e)).1
    have it:∀ (h':Heap),News X.base X.env.locals h' (allNews X.base s.heap X.env.locals)→∀ i,i<zs.length→∃ p z us n,ps[i]?=some p∧zs[i]?=some z∧h'.get? p=some { cls:=.type "list", data:=.seq us.toArray n }∧IntsAre us z:=fun h' N' i hi=>by
      obtain ⟨p,z,e1,e2,g⟩:=at_ i hi
      obtain ⟨_,us,n,k1,_,o1⟩:=I.lstR g
      exact ⟨p,z,us,n,e1,e2,keepN h' N' p _ (hne g) o1,intsAre_of k1⟩
    refine PySem.W.kas_sorted (T:=.type "list") (vs:=ps.map Value.ref) F (news_all (h:=s.heap)) pl.isList (by rw [List.length_map]; omega) (by rw [List.length_map]; omega) (fun h' F' N' v hv=>?_) (by decide) fun D e1 h' F' N' hlt=>?_
    · obtain ⟨p,hp,rfl⟩:=List.mem_map.mp hv
      obtain ⟨i,hi,rfl⟩:=List.mem_iff_getElem.mp hp
      obtain ⟨p',z,us,n,e1,e2,o1,_⟩:=it h' N' i (by omega)
      rw [List.getElem?_eq_getElem hi] at e1
      cases e1
      exact (PySem.W.Looks.ld o1).andThen PySem.W.Looks.now
    · have N0:News X.base X.env.locals h' (allNews X.base s.heap X.env.locals):=fun p hp=>N' p (List.mem_cons_of_mem _ hp)
      rw [List.length_map,hl]
      refine Srt.KOk.wp (lt:=fun i j=>lexLt (zs.getD i []) (zs.getD j [])) (N:=zs.length) (fun i j C hi hj hC=>?_) _ (Srt.KOk.mono (fun p hp=>?_) _ (Srt.sort_ok (lex_ord fun i=>zs.getD i []) (by omega)))
      · obtain ⟨p,z,us,n,e1,e2,k1,k4⟩:=it h' N0 i hi
        obtain ⟨p',z',us',n',e1',e2',k1',k4'⟩:=it h' N0 j hj
        have ei:(ps.map Value.ref).getD i Value.none=.ref p:=by rw [List.getD_eq_getElem?_getD,List.getElem?_map,e1]; rfl
        have ej:(ps.map Value.ref).getD j Value.none=.ref p':=by rw [List.getD_eq_getElem?_getD,List.getElem?_map,e1']; rfl
        have zi:zs.getD i []=z:=by rw [List.getD_eq_getElem?_getD,e2]; rfl
        have zj:zs.getD j []=z':=by rw [List.getD_eq_getElem?_getD,e2']; rfl
        unfold PySem.W.kas_ask
        rw [ei,ej]
        rw [zi,zj] at hC
        have l1:=IntsAre.length k4
        have l2:=IntsAre.length k4'
        rw [PyProof.Rows.keyLt'_oneType]
        have iat:∀ {us:List Value} {z:List Int},IntsAre us z→∀ j (h:j<us.toArray.size),∃ t,us.toArray[j]=.int (z.getD j 0) t:=fun {us z} k j h=>by
          have rk:=vals_ints k
          have hj:j<z.length:=by rw [List.size_toArray] at h; have:=IntsAre.length k; omega
          have e:(z.map V.int)[j]?=some (.int (z.getD j 0)):=by rw [List.getElem?_map,List.getD_eq_getElem?_getD,List.getElem?_eq_getElem hj]; rfl
          obtain ⟨u,eu,t,rfl⟩:=rk.get e
          refine ⟨t,?_⟩
          have:us[j]?=some us[j]:=List.getElem?_eq_getElem (by simpa using h)
          rw [this] at eu
          simpa using eu
        refine SeqAt.oneLt_list (items:=us.toArray) (items2:=us'.toArray) (e:=fun j=>z.getD j 0==z'.getD j 0) (lt:=fun j=>decide (z.getD j 0<z'.getD j 0)) ⟨_,k1,rfl,_,rfl⟩ ⟨_,k1',rfl,_,rfl⟩ (by have:=hr.un; show X.A.units+1+1 < _; omega) (fun j h1 h2=>?_) (fun j h1 h2 _=>?_) ?_
        · obtain ⟨t,e⟩:=iat k4 j h1
          obtain ⟨t',e'⟩:=iat k4' j h2
          rw [e,e']
          exact SeqAt.EqAt.int_int _ t _ t'
        · obtain ⟨t,e⟩:=iat k4 j h1
          obtain ⟨t',e'⟩:=iat k4' j h2
          rw [e,e']
          exact SeqAt.LtAt.ints _ _ t t'
        · rw [List.size_toArray,List.size_toArray,l1,l2,lexAt_lexLt z z' (min z.length z'.length) 0 (Nat.zero_le _) rfl]
          exact hC
      · obtain ⟨pm,up⟩:=hp
        have hlen:p.toList.length=zs.length:=by rw [pm.length_eq,List.length_range]
        have lt_:∀ i∈p.toList,i<zs.length:=fun i hi=>List.mem_range.mp (pm.mem_iff.mp hi)
        refine PySem.W.KasFin.intro F' N' (.head fun q hq=>Nat.ne_of_lt (hlt q hq)) fun h'' c F'' N''=>?_
        have nD:=N' _ List.mem_cons_self
        have hD:s.heap.get? D=none:=by
          cases e:s.heap.get? D with
          | none=>rfl
          | some o=>exact absurd (hlt (D,o) (mem_allNews nD.2.1 nD.2.2 e)) (Nat.lt_irrefl _)
        have hn:H D=none:=(I.out hx hD).h
        have eo:(p.toList.map fun i=>(ps.map Value.ref).getD i Value.none)=(p.toList.map fun i=>ps.getD i 0).map Value.ref:=by
          rw [List.map_map]
          refine List.map_congr_left fun i hi=>?_
          have h1:i<ps.length:=by rw [hl]; exact lt_ i hi
          show (ps.map Value.ref).getD i Value.none=Value.ref (ps.getD i 0)
          rw [List.getD_eq_getElem?_getD,List.getElem?_map,List.getElem?_eq_getElem h1,List.getD_eq_getElem?_getD,List.getElem?_eq_getElem h1]
          rfl
        have ev:(p.toList.map fun i=>V.ref (ps.getD i 0))=(p.toList.map fun i=>ps.getD i 0).map V.ref:=by rw [List.map_map]; rfl
        refine ⟨.ref D,upd H D (.lst (p.toList.map fun i=>V.ref (ps.getD i 0))),I.newsLaid (t':=s.toks) hx F F'' N'' hD ?_,rfl,q p.toList pm ?_ D hn⟩
        · rw [eo] at N''
          refine ⟨by rw [List.length_map,hlen]; have:=sizeLine_eq; omega,(p.toList.map fun i=>ps.getD i 0).map Value.ref,c,by rw [ev]; exact vals_refs _,?_⟩
          exact (N'' _ List.mem_cons_self).1
        · rw [List.pairwise_iff_getElem]
          intro i j hi hj hij
          have hu:=up i j (by omega) (by omega)
          have gi:Srt.g p i=p.toList[i]:=by unfold Srt.g; rw [Array.getD_eq_getD_getElem?,Array.getElem?_eq_getElem (by simpa using hi)]; rfl
          have gj:Srt.g p j=p.toList[j]:=by unfold Srt.g; rw [Array.getD_eq_getD_getElem?,Array.getElem?_eq_getElem (by simpa using hj)]; rfl
          rw [gi,gj] at hu
          exact hu
end L2
namespace L2
open PySem PySem.Spec PyProof.Rows
def rSrtL (K:PySem.W.Frag):List V→Hp→VK→Prop:=fun xs H Q=>rSortL K xs H Q∨rSort1 K xs H Q
theorem call_srtL {X:Cx} {K:PySem.W.Frag} {k:Nat} (hK:X.K=K) (hx:X.ex=[]) (hr:Room k X.A):CallR X (.builtin "sorted") (rSrtL K):=CallR.or (call_sortL hK hx hr) (call_sort01 hK)
end L2
namespace VL
open PySem L2
open Classical
noncomputable section
variable [Tabs] {K:PySem.W.Frag}
def lstD (z:List Int):D:=.lst (z.map D.int)
omit [Tabs] in
theorem lstD_inj (a b:List Int) (h:lstD a=lstD b):a=b:=by
  unfold lstD at h
  injection h with h
  exact mapInt_inj h
noncomputable def dSrtL (a:DE):Rho→Option (List D):=fun ρ=>match asL a ρ with
  | some ds=>if h:∃ zs:List (List Int),ds=zs.map lstD∧zs.length<64 then some ((srtZ h.choose).map lstD) else none
  | none=>none
omit [Tabs] in
theorem dSrtL_of {a:DE} {ρ:Rho} {zs:List (List Int)} (e:asL a ρ=some (zs.map lstD)) (hl:zs.length<64):dSrtL a ρ=some ((srtZ zs).map lstD):=by
  have h:∃ zs':List (List Int),zs.map lstD=zs'.map lstD∧zs'.length<64:=⟨zs,rfl,hl⟩
  unfold dSrtL
  rw [e]
  show (if h:∃ zs':List (List Int),zs.map lstD=zs'.map lstD∧zs'.length<64 then some ((srtZ h.choose).map lstD) else none)=_
  rw [dif_pos h,← (List.map_inj_right lstD_inj).mp h.choose_spec.1]
omit [Tabs] in
theorem dSrtL_some {a:DE} {ρ:Rho} {ds:List D} (q:dSrtL a ρ=some ds):∃ zs,asL a ρ=some (zs.map lstD)∧zs.length<64∧ds=(srtZ zs).map lstD:=by
  unfold dSrtL at q
  split at q
  · rename_i es e
    split at q
    · rename_i h
      cases q
      exact ⟨h.choose,by rw [e]; exact congrArg some h.choose_spec.1,h.choose_spec.2,rfl⟩
    · cases q
  · cases q
theorem isl_lsts {H:Hp} {T:Addr→Prop}:∀ {zs:List (List Int)} {vs:List V},IsL K H T vs (zs.map lstD)→∃ ps:List Addr,vs=ps.map V.ref∧LstZ H ps zs
  | [],_,.nil=>⟨[],rfl,.nil⟩
  | z::zs,_,.cons h r=>by
    obtain ⟨ps,rfl,hp⟩:=isl_lsts r
    obtain ⟨p,us,rfl,hz,hr,hl,i⟩:=(show Is K H T _ (.lst (z.map D.int)) from h).isLst
    have e:=IsL.ints i
    subst e
    exact ⟨p::ps,rfl,.cons hr hp⟩
omit [Tabs] in
theorem srtZ_idx {zs:List (List Int)} {idx:List Nat} (pm:idx.Perm (List.range zs.length)) (up:idx.Pairwise fun i j=>L2.lexLt (zs.getD j []) (zs.getD i [])=false):idx.map (fun i=>zs.getD i [])=srtZ zs:=by
  refine srtZ_uniq ?_ ?_
  · have:=pm.map fun i=>zs.getD i []
    rw [range_getD] at this
    exact this
  · exact List.pairwise_map.mpr up
omit [Tabs] in
theorem srtZ_few {zs:List (List Int)} (h:¬ 2≤zs.length):zs=srtZ zs:=by
  refine srtZ_uniq (List.Perm.refl _) ?_
  match zs,h with
  | [],_=>exact .nil
  | [z],_=>exact .cons (fun _ h=>by cases h) .nil
  | _::_::_,h=>exact absurd (by simp) h
theorem isl_pickL {H:Hp} {T:Addr→Prop} {ps:List Addr} {zs:List (List Int)} (il:IsL K H T (ps.map V.ref) (zs.map lstD)) {idx:List Nat} (hi:∀ i∈idx,i<zs.length):IsL K H T (idx.map fun i=>V.ref (ps.getD i 0)) ((idx.map fun i=>zs.getD i []).map lstD):=by
  have hl:=il.length
  rw [List.length_map,List.length_map] at hl
  have:=isl_idx il (idx:=idx) (fun i h=>by rw [List.length_map]; exact hi i h)
  have e1:(idx.map fun i=>(ps.map V.ref).getD i .non)=idx.map fun i=>V.ref (ps.getD i 0):=List.map_congr_left fun i h=>by
    have:=hi i h
    rw [List.getD_eq_getElem?_getD,List.getElem?_map,List.getElem?_eq_getElem (by omega),List.getD_eq_getElem?_getD,List.getElem?_eq_getElem (by omega)]; rfl
  have e2:(idx.map fun i=>(zs.map lstD).getD i .non)=(idx.map fun i=>zs.getD i []).map lstD:=by
    rw [List.map_map]
    exact List.map_congr_left fun i h=>by
      have:=hi i h
      show (zs.map lstD).getD i .non=lstD (zs.getD i [])
      rw [List.getD_eq_getElem?_getD,List.getElem?_map,List.getElem?_eq_getElem (by omega),List.getD_eq_getElem?_getD,List.getElem?_eq_getElem (by omega)]; rfl
  rw [e1,e2] at this
  exact this
theorem sw_srtO {ta:TE} {a:DE} (ha:SemO' K ta a):SemW K false (iList K (tCB (rSrtL K) (tCons ta tNil))) (dSrtL a):=fun {B Z os ρ σ H R ds} f q k=>by
  obtain ⟨zs,e,hl,rfl⟩:=dSrtL_some q
  obtain ⟨d,e,ed⟩:=asL_some e
  refine ha f e fun v H1 s1 i1=>?_
  obtain ⟨p,vs,rfl,hlv,hn,hr⟩:=i1.seq ed
  obtain ⟨hqB,ilB⟩:=hr B No Kp.refl
  obtain ⟨hq,il⟩:=hr H1 No (Kp.same (f.keep.trans s1))
  obtain ⟨ps,rfl,hp⟩:=isl_lsts il
  have hpl:ps.length=zs.length:=Paired.length hp
  have hs:sizeLine=16777216:=sizeLine_eq
  have f1:=f.grow s1
  have new:∀ (D:Addr) (vs':List V),H1 D=none→IsL K B No vs' ((srtZ zs).map lstD)→∃ q,V.ref D=.ref q∧(∃ xs,SqL K (upd H1 D (.lst vs')) q xs)∧R (Itl K q) (upd H1 D (.lst vs')):=fun D vs' hD il'=>by
    have nt:¬ tot Z os D:=fun z=>by obtain ⟨o,e⟩:=f1.tin D z; rw [hD] at e; cases e
    have hln:vs'.length=((srtZ zs).map lstD).length:=il'.length
    refine ⟨D,rfl,⟨vs',SqL.of upd_same⟩,k _ _ (s1.trans (same_new hD)) (walk_list (vs:=vs') (by rw [List.length_map,(srtZ_perm zs).length_eq]; omega) (fun H2 T2 kp sb=>?_) hln fun H2 T2 i v d kp sb e1 e2=>?_)⟩
    · exact SqL.of (kp D _ upd_same nt).1
    · obtain ⟨v',g1,i2⟩:=il'.get e2
      rw [e1] at g1
      cases g1
      exact i2
  by_cases h2:2≤zs.length
  · refine .inl ⟨p,ps,zs,rfl,hq,hp,h2,hl,fun idx pm up D hD=>?_⟩
    have lt_:∀ i∈idx,i<zs.length:=fun i hi=>List.mem_range.mp (pm.mem_iff.mp hi)
    have il2:=isl_pickL ilB lt_
    rw [srtZ_idx pm up] at il2
    exact new D _ hD il2
  · refine .inr ⟨p,ps.map V.ref,rfl,hq,by rw [List.length_map,hpl]; omega,fun D hD=>?_⟩
    refine new D _ hD ?_
    rw [← srtZ_few h2]
    exact ilB
end
end VL
namespace VL
open PySem L2
open Classical
noncomputable section
variable [Tabs] {K:PySem.W.Frag}
def kRb (cs:List Nat) (ρ:Rho) (d:D):Rho:=(r0 1 cs ρ).set 0 (.bo d)
def srtG {α:Type} (kf:α→List Int) (xs:List α):List α:=xs.mergeSort fun x y=>!L2.lexLt (kf y) (kf x)
omit [Tabs] in
theorem srtG_perm {α:Type} (kf:α→List Int) (xs:List α):(srtG kf xs).Perm xs:=List.mergeSort_perm _ _
omit [Tabs] in
theorem srtG_up {α:Type} (kf:α→List Int) (xs:List α):(srtG kf xs).Pairwise fun a b=>L2.lexLt (kf b) (kf a)=false:=by
  have h:=List.pairwise_mergeSort (le:=fun x y=>!L2.lexLt (kf y) (kf x)) (fun a b c h1 h2=>by
    rw [Bool.not_eq_true'] at h1 h2 ⊢
    exact lex_tr _ _ _ h1 h2) (fun a b=>by
    cases e:L2.lexLt (kf b) (kf a) with
    | false=>rfl
    | true=>simp [lex_as _ _ e]) xs
  exact h.imp fun h=>by simpa using h
omit [Tabs] in
theorem nd_keyG {α:Type} {kf:α→List Int}:∀ {xs:List α},(xs.map kf).Nodup→∀ {a b:α},a∈xs→b∈xs→kf a=kf b→a=b
  | d::ds,h,a,b,ha,hb,e=>by
    rw [List.map_cons] at h
    obtain ⟨h1,h2⟩:=List.nodup_cons.mp h
    rcases List.mem_cons.mp ha with ea | ha2
    · rcases List.mem_cons.mp hb with eb | hb2
      · rw [ea,eb]
      · exact absurd (show kf d∈ds.map kf from List.mem_map.mpr ⟨b,hb2,by rw [← e,ea]⟩) h1
    · rcases List.mem_cons.mp hb with eb | hb2
      · exact absurd (show kf d∈ds.map kf from List.mem_map.mpr ⟨a,ha2,by rw [e,eb]⟩) h1
      · exact nd_keyG h2 ha2 hb2 e
omit [Tabs] in
theorem srtG_uniq {α:Type} {kf kg:α→List Int} {xs ds:List α} (hk:∀ d∈ds,kf d=kg d) (hn:(ds.map kf).Nodup) (p:xs.Perm ds) (h:xs.Pairwise fun a b=>L2.lexLt (kg b) (kg a)=false):xs=srtG kf ds:=by
  refine List.Perm.eq_of_pairwise (le:=fun a b=>L2.lexLt (kf b) (kf a)=false) (fun a b ha hb h1 h2=>nd_keyG hn (p.mem_iff.mp ha) ((srtG_perm kf ds).mem_iff.mp hb) (lex_eq _ _ h2 h1)) ?_ (srtG_up kf ds) (p.trans (srtG_perm kf ds).symm)
  refine List.Pairwise.imp_of_mem (fun {a b} ha hb z=>?_) h
  rw [hk a (p.mem_iff.mp ha),hk b (p.mem_iff.mp hb)]
  exact z
@[irreducible] noncomputable def sRetSM (i:Nat) (cs:List Nat) (e:DE):DS:=fun ρ=>match ρ.getD i .un with
  | .om rows=>if h:∃ kf:List D→List Int,(∀ r∈rows,e (kRb cs ρ (.lst r))=some (tupD (kf r))∧kf r≠[])∧(rows.map kf).Nodup∧rows.length<64 then .rt (rowsL (srtG h.choose rows)) else .no
  | _=>.no
omit [Tabs] in
theorem wp_retSM {ρ:Rho} {i:Nat} {cs:List Nat} {e:DE} {rows:List (List D)} {W:Wk} (kf:List D→List Int) (h0:ρ.getD i .un=.om rows) (hk:∀ r∈rows,e (kRb cs ρ (.lst r))=some (tupD (kf r))∧kf r≠[]) (hn:(rows.map kf).Nodup) (hl:rows.length<64) (k:W.rt (rowsL (srtG kf rows))):Wp (sRetSM i cs e) ρ W:=by
  have hh:∃ kf:List D→List Int,(∀ r∈rows,e (kRb cs ρ (.lst r))=some (tupD (kf r))∧kf r≠[])∧(rows.map kf).Nodup∧rows.length<64:=⟨kf,hk,hn,hl⟩
  have es:srtG hh.choose rows=srtG kf rows:=by
    refine srtG_uniq (kg:=hh.choose) (fun d hd=>?_) hn (srtG_perm _ _) (srtG_up _ _)
    have h1:=(hk d hd).1
    rw [(hh.choose_spec.1 d hd).1] at h1
    exact (tupD_inj _ _ (Option.some.inj h1)).symm
  unfold Wp sRetSM
  rw [h0]
  dsimp only
  rw [dif_pos hh,es]
  exact k
theorem ss_retSM {P:Addr} {q:Str} {i:Nat} {cs:List Nat} {te:TE} {e:DE} (hP:(P,q)∈Tabs.ts) (he:SemI K te e):SemS .m K (tRet (tSortK K P q (tVar i) te cs)) (sRetSM i cs e):=fun {B Z os ρ σ H E} f p=>by
  unfold sRetSM at p
  split at p
  · rename_i rows e0
    split at p
    · rename_i hh
      obtain ⟨hk,hn,hl⟩:=hh.choose_spec
      generalize hh.choose=kf at *
      obtain ⟨a,ps,eo,hu,hH,hls,hpl,pr⟩:=om_of f e0
      have hs:sizeLine=16777216:=sizeLine_eq
      obtain ⟨t,eP⟩:=f.tabH _ hP
      refine ⟨_,join_some hu,a,ps.map V.ref,_,t,rfl,SqL.of hH,by rw [List.length_map]; omega,eP,rfl,fun H2 gr=>?_⟩
      have hnd:=f.nd i
      rw [eo] at hnd
      obtain ⟨hna,hnp⟩:=List.nodup_cons.mp hnd
      have hin:∀ q∈ps,q∈os i:=fun q hq=>by rw [eo]; exact List.mem_cons_of_mem _ hq
      have key:∀ (r:List Addr) (rr dd:List (List D)) (pk:List Addr) (H3:Hp),Same H H3→Paired (fun p ds=>∃ vs,H p=some (.lst vs)∧vs.length≤sizeLine∧IsL K H (tot Z os) vs ds) r rr→dd++rr=rows→TupZ H3 pk (dd.map kf)→keysW te (cs.map fun i=>(σ[i]?).join) (FinT (ps.map V.ref) E.rt) (r.map V.ref) (pk.map V.ref) H3:=by
        intro r
        induction r with
        | nil =>
          intro rr dd pk H3 s3 pr3 hd tz
          cases pr3
          rw [List.append_nil] at hd
          subst hd
          refine ⟨pk,dd.map kf,rfl,tz,fun idx pm up Dn hD=>?_⟩
          rw [List.length_map] at pm
          have lt_:∀ i∈idx,i<dd.length:=fun i hi=>List.mem_range.mp (pm.mem_iff.mp hi)
          have er:∀ {α:Type} (l:List α) (d:α),(List.range l.length).map (fun i=>l.getD i d)=l:=fun l d=>by
            refine List.ext_getElem (by simp) fun i h1 h2=>?_
            simp [h2]
          have ex:idx.map (fun i=>dd.getD i [])=srtG kf dd:=by
            refine srtG_uniq (kg:=kf) (fun _ _=>rfl) hn ?_ ?_
            · have:=pm.map fun i=>dd.getD i []
              rw [er] at this
              exact this
            · rw [List.pairwise_map]
              refine List.Pairwise.imp_of_mem (fun {i j} hi hj z=>?_) up
              have gi:∀ i,i<dd.length→(dd.map kf).getD i []=kf (dd.getD i []):=fun i hi=>by
                rw [List.getD_eq_getElem?_getD,List.getElem?_map,List.getElem?_eq_getElem hi,List.getD_eq_getElem?_getD,List.getElem?_eq_getElem hi]; rfl
              rw [gi _ (lt_ i hi),gi _ (lt_ j hj)] at z
              exact z
          have ep:(idx.map fun i=>(ps.map V.ref).getD i .non)=(idx.map fun i=>ps.getD i 0).map V.ref:=by
            rw [List.map_map]
            exact List.map_congr_left fun i hi=>by
              have:=lt_ i hi
              show (ps.map V.ref).getD i .non=V.ref (ps.getD i 0)
              rw [List.getD_eq_getElem?_getD,List.getElem?_map,List.getElem?_eq_getElem (by omega),List.getD_eq_getElem?_getD,List.getElem?_eq_getElem (by omega)]; rfl
          have pp:(idx.map fun i=>ps.getD i 0).Perm ps:=by
            have:=pm.map fun i=>ps.getD i 0
            rw [← hpl,er] at this
            exact this
          have hHD:H Dn=none:=Same.free s3 hD
          have hBD:B Dn=none:=Same.free f.keep hHD
          have hDp:Dn∉idx.map fun i=>ps.getD i 0:=fun z=>by
            have:=pp.mem_iff.mp z
            obtain ⟨j,hj,e'⟩:=List.mem_iff_getElem.mp this
            obtain ⟨x',ex0,vs',hv,_⟩:=VL.Paired.getF pr (List.getElem?_eq_getElem (show j<dd.length by omega))
            rw [List.getElem?_eq_getElem hj,e'] at ex0
            rw [← Option.some.inj ex0] at hv
            rw [hHD] at hv; cases hv
          refine p _ _ (f.keep.trans (s3.trans (same_new hD))) ⟨Dn,idx.map fun i=>ps.getD i 0,srtG kf dd,rfl,rfl,hBD,fun x hx=>(f.new i x (hin x (pp.mem_iff.mp hx))).1,List.nodup_cons.mpr ⟨hDp,pp.nodup_iff.mpr hnp⟩,by rw [ep]; exact upd_same,by rw [pp.length_eq]; exact hls,?_⟩
          rw [← ex]
          have pick:∀ (l:List Nat),(∀ i∈l,i<dd.length)→Paired (fun x ds=>∃ vs,upd H3 Dn (.lst (idx.map fun i=>(ps.map V.ref).getD i .non)) x=some (.lst vs)∧vs.length≤sizeLine∧IsL K (upd H3 Dn (.lst (idx.map fun i=>(ps.map V.ref).getD i .non))) (fun b=>(b=Dn∨b∈idx.map fun i=>ps.getD i 0)∨Z b) vs ds) (l.map fun i=>ps.getD i 0) (l.map fun i=>dd.getD i []):=by
            intro l
            induction l with
            | nil=>intro _; exact .nil
            | cons j l ih =>
              intro hl'
              have hj:=hl' j List.mem_cons_self
              obtain ⟨x,ex',vs,h1,h2,h3⟩:=VL.Paired.getF pr (List.getElem?_eq_getElem hj)
              refine .cons ?_ (ih fun i hi=>hl' i (List.mem_cons_of_mem _ hi))
              have e1:ps.getD j 0=x:=by rw [List.getD_eq_getElem?_getD,ex']; rfl
              have e2:dd.getD j []=dd[j]:=by rw [List.getD_eq_getElem?_getD,List.getElem?_eq_getElem hj]; rfl
              dsimp only
              rw [e1,e2]
              have kp:Kp (tot Z os) H (fun b=>(b=Dn∨b∈idx.map fun i=>ps.getD i 0)∨Z b) (upd H3 Dn (.lst (idx.map fun i=>(ps.map V.ref).getD i .non))):=fun b o hb nb=>by
                have nD:b≠Dn:=fun z=>by rw [z,hHD] at hb; cases hb
                refine ⟨by rw [upd_ne nD]; exact s3 _ _ hb,fun z=>?_⟩
                rcases z with (z | z) | z
                · exact nD z
                · exact nb (.inr ⟨i,hin b (pp.mem_iff.mp z)⟩)
                · exact nb (.inl z)
              have nx:x≠Dn:=fun z=>by rw [z,hHD] at h1; cases h1
              exact ⟨vs,by rw [upd_ne nx]; exact s3 _ _ h1,h2,h3.kp kp⟩
          exact pick idx lt_
        | cons x r ih =>
          intro rr dd pk H3 s3 pr3 hd tz
          cases pr3 with
          | @cons _ d _ rr' g pr' =>
            obtain ⟨vs,h1,h2,h3⟩:=g
            have hdm:d∈rows:=by rw [← hd]; exact List.mem_append_right _ List.mem_cons_self
            have ef:=blockFrZ (k:=1) (cs:=cs) f s3 (W:=tot Z os) (fun a z=>let ⟨o,e⟩:=f.tin a z; ⟨o,s3 _ _ e⟩) (Kp.same s3)
            have hg:SemG K false (gName 0) (gN false 0):=sg_name 0
            have er:ER K false H H3 (tot (tot Z os) fun _=>[]) (.ref x) (.lst d):=.lst (fun z=>z) (.inl h1) h2 (h3.kp (Kp.less fun _ z=>z.elim))
            refine hg (Q:=fun σ2 H2=>te σ2 H2 fun k H'=>Grow H3 H'∧keysW te (cs.map fun i=>(σ[i]?).join) (FinT (ps.map V.ref) E.rt) (r.map V.ref) (pk.map V.ref++[k]) H') ef er (show gN false 0 (.lst d) (r0 1 cs ρ)=some (kRb cs ρ (.lst d)) from rfl) fun os1 σ1 fr1 _=>?_
            refine he fr1 (hk d hdm).1 fun u H4 s4 i4=>⟨s4,?_⟩
            obtain ⟨p4,us,rfl,_,hr4,_,iu⟩:=(show Is K H4 _ u (.tup ((kf d).map D.int)) from i4).isTup
            have eu:=IsL.ints iu
            subst eu
            have em:pk.map V.ref++[V.ref p4]=(pk++[p4]).map V.ref:=by rw [List.map_append]; rfl
            rw [em]
            refine ih rr' (dd++[d]) (pk++[p4]) H4 (s3.trans s4) pr' (by rw [List.append_assoc]; exact hd) ?_
            rw [List.map_append]
            exact Paired.append (Paired.mono tz fun p z _ hz=>⟨hz.1,s4 _ _ hz.2⟩) (.cons ⟨(hk d hdm).2,hr4⟩ .nil)
      exact key ps rows [] [] H2 gr pr rfl .nil
    · exact p.elim
  · exact p.elim
end
end VL
namespace VL
open PySem L2
open Classical
noncomputable section
variable [Tabs] {K:PySem.W.Frag}
theorem Fun.okFL {fr:Fm} {P:Program} {w:World} {mg:Str→Option Value} {base:Heap} {x qual:Str} {st:Stmt} {f:Addr} {fd:FuncData} {N ps:List Str} {k:Nat} (F:Fun K x qual st f fd) (S:FnScope N ps (defScope st)) (ms:List Bool) (hms:ms.length=ps.length) (b:DS)
    (hbody:∀ (cdv:Value),fd.code=cdv→∀ (A:Around) (outer:List Env) (s:Shared) (H:Hp) (E:XK),Room k (A.deeper (PyProof.Rows.envOfC qual (defScope st) s.heap.objs.size f cdv)) →
      ∃ t,PSs (cxOf CX0 P w K mg base N qual (defScope st) f cdv A outer s H E).nox (defBody st) t∧SemS fr K t b) (hfr:∀ E C,fr≠.x E C:=by intro _ _ h; cases h):FnOk P w K mg base CX0 (k+1) f fd ps (spD fr K ms (runF N.length ms b)):=by
  refine L2.Fun.okC F S (fun vs H Q E h=>?_) (fun cdv hcd A outer s H vs Q E hr h=>?_)
  · obtain ⟨Z,ds,d,hz,a,_⟩:=h
    rw [a.len.1,hms]
  · obtain ⟨Z,ds,d,hz,a,e,k⟩:=h
    obtain ⟨t,h1,h2⟩:=hbody cdv hcd A outer s H E hr
    refine ⟨t,h1,h2 (startFr hz a) ?_⟩
    unfold runF at e
    split at e
    · rename_i d' e1
      cases e
      rw [e1]
      cases fr with
      | v=>exact fun v H' s' i=>k v H' s' i
      | l=>exact fun v H' s' i=>k v H' s' i
      | m=>exact fun v H' s' i=>k v H' s' i
      | x E0 C=>exact absurd rfl (hfr E0 C)
    · cases e
end
end VL
namespace L2
open PySem PySem.Spec PyProof.Rows VL
open Classical
noncomputable section
variable {X:Cx} {K:PySem.W.Frag}
end
end L2
namespace VL
open PySem L2
open Classical
noncomputable section
variable [Tabs] {K:PySem.W.Frag}
end
end VL
namespace L2
open PySem PySem.Spec PyProof.Rows VL
section
variable {X:Cx} {pins:List (Addr×Obj)} {σ:St} {f:Addr} {o:Obj} {q:Str} {params:Arguments} {body:Expr} {scope:Scope} {cl:List (Str×Addr)} {x:Str} {zs:List Str} {is:List Nat} {te:TE} {Fin:V→Hp→Prop} {kw:List (Str×Value)} {l:Addr}
theorem minE_run {H:Hp} {s:Shared} (J:Inv X (pins++[(f,o)]) σ H s) (hh:X.A.in1.handled=none)
    (hargs:argsOk "min" ⟨[.ref l],kw⟩) (hbind:Builtin.Builtins.bindParams "min" ["key", "default"] 0 ⟨[],kw⟩=pure [some (.ref f),some .none])
    (hq:SqL X.K H l []) (h:Fin .non H) :
    wpAny (model X.prog X.w) X.A (call (.builtin "min") [.ref l] kw) (EP X pins σ Fin) X.xe s:=by
  have hname:(toString "min" ++ toString ".loop" : String) = "min.loop" := by decide
  obtain ⟨its,rv,pl,_⟩:=J.list hq
  have ei:its=[]:=by cases rv; rfl
  subst ei
  obtain ⟨ol,hol,_⟩:=id pl.isList
  have hll:l<s.heap.objs.size:=Heap.lt_size hol
  refine PyProof.Rows.kmk_tree PySem.F.kind_min PySem.F.plain_min PySem.F.entry_min hargs ?_
  show wpAny _ X.A.in1 (Builtin.Builtins.bindParams "min" ["key", "default"] 0 ⟨[],kw⟩ >>= _) _ _ s
  refine wpAny_bind (wpAny_of_eq hbind ?_)
  refine wpAny_bind (wpAny_pure ?_)
  refine wpAny_bind (wpAny_pyIter_list pl.isList ?_)
  refine wpAny_bind (wpAny_newList ?_ (Nat.zero_le _))
  rw [hname]
  generalize hit0:({ cls:=.type "list_iterator", data:=.fields #[.ref l,.int 0 0] }:Obj)=it0
  have hSz:(s.heap.push it0).objs.size=s.heap.objs.size+1:=size_push' ..
  generalize hSS:(s.heap.push it0).objs.size=S at hSz
  have gI:((s.heap.push it0).push (seqObj "list" #[] 0)).get? s.heap.objs.size=some it0:=Heap.get?_push_of_some _ (Heap.get?_push_size _ (by rw [← hit0]; rfl))
  have gS:((s.heap.push it0).push (seqObj "list" #[] 0)).get? S=some (seqObj "list" #[] 0):=by rw [← hSS]; exact Heap.get?_push_size _ rfl
  have kp:∀ b u,s.heap.get? b=some u→((s.heap.push it0).push (seqObj "list" #[] 0)).get? b=some u:=fun b u e=>Heap.get?_push_of_some _ (Heap.get?_push_of_some _ e)
  generalize (s.heap.push it0).push (seqObj "list" #[] 0)=g at *
  have J1:Inv X (pins++[(f,o)]) σ H { s with heap:=g,toks:=s.toks }:=J.kept kp
  have hlI:l≠s.heap.objs.size:=Nat.ne_of_lt hll
  have W:=Walks.list (prog:=X.prog) (w:=X.w) (A:=X.A.in1) hh s.heap.objs.size l hlI #[]
  refine wpAny_pure ⟨plainId_quiet PySem.F.plain_min_loop _,?_⟩
  refine codeAny_mono (R:=fun res s'=>∃ u,res=.ok (.ret u)∧EP X pins σ Fin u s') ?_ fun res s' ⟨u,e,hq⟩=>by subst e; exact hq
  refine codeAny_builtin PySem.F.entry_min_loop ?_
  rw [Around.under_plainId PySem.F.plain_min_loop _]
  show wpAny _ X.A.in1 (seqItems? (.ref S) >>= _) _ _ _
  refine wpAny_bind (wpAny_seqItems gS rfl ?_)
  show wpAny _ X.A.in1 (tryCatch (pyNext (.ref s.heap.objs.size)) _ >>= _) _ _ _
  refine wpAny_bind (wpAny_tryCatch (W.done _ _ _ ⟨⟨_,gI,by rw [← hit0],by rw [← hit0]; rfl⟩,pl.isList.at fun o e=>kp _ _ e⟩ fun h' tk' hk'=>?_))
  have lo:∀ p∈X.pn++(pins++[(f,o)]),p.1<s.heap.objs.size:=fun p hp=>Heap.lt_size (J.pin p hp).1
  have fI:H s.heap.objs.size=none:=J.hok.fresh (Nat.le_refl _)
  have J2:Inv X (pins++[(f,o)]) σ H { s with heap:=h',toks:=tk' }:=by
    refine J1.turned (fun b o hb e=>hk' b o (by simpa using hb) e) fI (Nat.ne_of_gt J.lt) (.inr J.sz) (fun x c e z=>?_) fun p hp z=>?_
    · obtain ⟨v,o,ho,hd⟩:=J.cell x c e
      rw [z] at ho
      exact absurd (Heap.lt_size ho) (Nat.lt_irrefl _)
    · exact absurd (lo p hp) (by rw [z]; exact Nat.lt_irrefl _)
  show wpAny _ X.A.in1 (rule _ >>= _) _ _ _
  refine wpAny_bind (wpAny_rule ?_)
  exact wpAny_pure ⟨.none,rfl,.non,H,J2.pins_of fun p hp=>J2.pin p (List.mem_append_right _ (List.mem_append_left _ hp)),rfl,h⟩
end
section
variable {X:Cx} {pins:List (Addr×Obj)} {σ:St} {q:Str} {params:Arguments} {body:Expr} {scope:Scope} {cl:List (Str×Addr)} {x:Str} {zs:List Str} {is:List Nat} {te:TE}
def minE (K:PySem.W.Frag) (te:TE) (fs:List (Option V)) (Q:V→Hp→Prop) (H2:Hp):List V→Prop
  | []=>Q .non H2
  | v0::r0=>te (some v0::fs) H2 fun k H'=>Grow H2 H'∧minW K te fs Q r0 v0 k H'
def tMinKN (K:PySem.W.Frag) (P:Addr) (q:Str) (tl te:TE) (is:List Nat):TE:=fun σ H Q=>tl σ H fun v H1=>∃ (a:Addr) (vs:List V) (ps:Array Value) (t:Tok),v=.ref a∧SqL K H1 a vs∧H1 P=some (.tbl ps)∧ps[0]?=some (.str q t) ∧
  ∀ H2,Grow H1 H2→minE K te (is.map fun i=>(σ[i]?).join) Q H2 vs
theorem args_minKN (a v u:Value):argsOk "min" ⟨[a],[(Str.ofString "key", v),(Str.ofString "default", u)]⟩:=by unfold argsOk; kernel_rfl
theorem pe_minKN {K:PySem.W.Frag} {c P:Addr} {l:Expr} {tl:TE} {p lpos kpos cpos kpos2:Pos} {eT:Expr} {tT:TE} {k:Nat} (hK:X.K=K) (lo:LamOk X c P) (hr:Room k X.A) (hc:X.calm=true) (hg:Gl X "min") (hm:X.mg "min" = none) (hl:PE X l tl) (hT:PE X eT tT) (hT2:∀ σ H Q,Q .non H→tT σ H Q) (fr:LFrees X x zs is scope cl)
    (hq:X.env.qual ++ "<lambda>" = q) (hcl:closureFor scope X.env=pure cl)
    (he:∀ f c s H pins,PE (lamCx X (x::zs) q scope cl f c X.A.in1 s H pins) body te)
    (hdef:defaultsOf params X.env=([],[]):=by rfl)
    (hb:∀ (c:Addr) (ct u:Value),bindArgs (PySem.W.kla_fn "<lambda>" q params body scope cl ((X.mg "__name__").getD .none) (.ref c) ct) ⟨[u],[]⟩=pure [(x,u)]:=by intro _ _ _; rfl)
    (hst:starEach [l] X.env=[(false,eval l X.env)]:=by rfl) (hv:bootBuiltins "min" = some (.builtin "min"):=by decide +kernel) :
    PE X (.Call (.Name "min" p) [l] [⟨some "key", .Lambda params body scope lpos,kpos⟩,⟨some "default", eT,kpos2⟩] cpos) (tMinKN K P q tl te is):=by
  subst hK
  intro pins s σ H Q I h
  refine wpAny_Call_Name_kw (ld_blt I hg hm hv ?_ (by decide) (by decide))
  refine PyProof.Rows.callWith_kw (e:=l) (rest:=[]) ?_ (by rw [hst]; rfl) (by rw [hst]; rfl) rfl rfl
  have ha:=pa_cons hl pa_nil (hs:=by rw [hst]; rfl)
  refine thn (ha cpos pins s σ H (fun xs H1=>match xs with
    | [v]=>∃ (a:Addr) (vs:List V) (ps:Array Value) (t:Tok),v=.ref a∧SqL X.K H1 a vs∧H1 P=some (.tbl ps)∧ps[0]?=some (.str q t)∧∀ H2,Grow H1 H2→minE X.K te (is.map fun i=>(σ[i]?).join) Q H2 vs
    | _=>False) I h) fun us s1 ⟨vs0,H1,I1,r1,q1⟩=>?_
  match vs0,q1 with
  | [v],q1 =>
  obtain ⟨a,vs,ps,t,rfl,hsq,hP,h0,hw⟩:=q1
  cases r1 with
  | cons r1 r2 =>
  cases r2
  cases (show _=Value.ref a from r1)
  show wpAny _ _ (evalAll [(do let v ← eval (.Lambda params body scope lpos) X.env; standAt cpos; pure v),(do let v ← eval eT X.env; standAt cpos; pure v)]) _ _ s1
  refine wpAny_evalAll_cons (wpAny_bind (thn (lam_make lo I1 hP h0 hq hcl hdef) fun u s2' ⟨f,o,H2',eu,I2',gr',pf,s0f,L'⟩=>wpAny_bind (wpAny_standAt (wpAny_pure ?_))))
  subst eu
  refine wpAny_evalAll_cons (wpAny_bind (thn (hT _ s2' σ H2' (fun v H2=>v=.non∧H2=H2') I2' (hT2 _ _ _ ⟨rfl,rfl⟩)) fun u2 s2 ⟨v2,H2,I2,r2,ev2,eH2⟩=>wpAny_bind (wpAny_standAt (wpAny_pure (wpAny_evalAll_nil ?_)))))
  subst ev2
  cases (show _=Value.none from r2)
  subst eH2
  have room:X.A.in1.depth<recursionLimit:=by
    have:=hr.dp
    show X.A.depth < _
    omega
  have hh:=I.ok.hd hc
  have hun:=hr.un
  have hw2:=hw H2 gr'
  cases vs with
  | nil=>exact minE_run I2 hh (args_minKN _ _ _) rfl (hsq.grow gr') hw2
  | cons v0 r0=>exact minK_run I2 L' fr I.ok.frames hh room (by omega) hb he (args_minKN _ _ _) rfl (hsq.grow gr') rfl hw2
end
end L2
namespace VL
open PySem L2
open Classical
noncomputable section
variable [Tabs] {K:PySem.W.Frag}
noncomputable def dMinKN (cs:List Nat) (a e:DE):DE:=fun ρ=>match asL a ρ with
  | some []=>some .non
  | _=>dMinK cs a e ρ
omit [Tabs] in
theorem dMinKN_nil {cs:List Nat} {a e:DE} {ρ:Rho} (h:asL a ρ=some []):dMinKN cs a e ρ=some .non:=by unfold dMinKN; rw [h]
omit [Tabs] in
theorem dMinKN_of {cs:List Nat} {a e:DE} {ρ:Rho} {x:D} {r:List D} (kf:D→D) (h:asL a ρ=some (x::r)) (hk:∀ d∈x::r,e (kR cs ρ d)=some (kf d)) (ho:∀ d∈x::r,∀ d'∈x::r,ordb 20 (kf d) (kf d')=true):dMinKN cs a e ρ=some (bestBy (fun v b=>ltD 20 (kf v) (kf b)) x r):=by
  unfold dMinKN
  rw [h]
  exact dMinK_of kf h hk ho
theorem si_minKN {P:Addr} {q:Str} {cs:List Nat} {tl te:TE} {a e:DE} (hP:(P,q)∈Tabs.ts) (ha:SemI K tl a) (he:SemI K te e):SemI K (tMinKN K P q tl te cs) (dMinKN cs a e):=fun {B Z os ρ σ H Q d} f qq k=>by
  unfold dMinKN at qq
  split at qq
  · rename_i e0
    cases qq
    obtain ⟨d0,e0,ed⟩:=asL_some e0
    refine ha f e0 fun v H1 s1 i1=>?_
    obtain ⟨p,vs,rfl,hlv,hln,hr⟩:=i1.seq ed
    obtain ⟨hq,il⟩:=hr H1 _ Kp.refl
    obtain ⟨t,eP⟩:=(f.grow s1).tabH _ hP
    cases il
    exact ⟨p,[],_,t,rfl,hq,eP,rfl,fun H2 gr=>k .non H2 (s1.trans gr) .non⟩
  · skip
    obtain ⟨x,r,kf,e0,hk,ho,rfl⟩:=dMinK_some qq
    obtain ⟨d0,e0,ed⟩:=asL_some e0
    refine ha f e0 fun v H1 s1 i1=>?_
    obtain ⟨p,vs,rfl,hlv,hln,hr⟩:=i1.seq ed
    obtain ⟨hq,il⟩:=hr H1 _ Kp.refl
    have f1:=f.grow s1
    obtain ⟨t,eP⟩:=f1.tabH _ hP
    cases il with
    | @cons v0 _ r0 _ iv0 ir0 =>
    refine ⟨p,v0::r0,_,t,rfl,hq,eP,rfl,fun H2 gr=>?_⟩
    have step:∀ (v:V) (dv:D) (H3:Hp) (Q':VK),Same H1 H3→Is K H1 (tot Z os) v dv→dv∈x::r→(∀ k H4,Same H3 H4→Is K H4 No k (kf dv)→Q' k H4)→te (some v::cs.map fun i=>(σ[i]?).join) H3 Q':=by
      intro v dv H3 Q' s3 iv hdm hQ'
      have ef:=blockFrZ (k:=1) (cs:=cs) f1 s3 (W:=tot Z os) (fun a z=>let ⟨o,e⟩:=f1.tin a z; ⟨o,s3 _ _ e⟩) (Kp.same s3)
      have hg:SemG K true (gName 0) (gN true 0):=sg_name 0
      have er:ER K true H1 H3 (tot (tot Z os) fun _=>[]) v dv:=Is.kp (Kp.less fun a z=>z.elim id fun ⟨_,w⟩=>by cases w) (iv.same s3)
      refine hg (Q:=fun σ2 H2=>te σ2 H2 Q') ef er (show gN true 0 dv (VL.r0 1 cs ρ)=some (kR cs ρ dv) from rfl) fun os1 σ1 fr1 _=>?_
      exact he fr1 (hk dv hdm) fun u H4 s4 i4=>hQ' u H4 s4 i4.no
    have key:∀ (rv:List V) (dr:List D) (xb yb:V) (db:D) (H3:Hp),Same H1 H3→IsL K H1 (tot Z os) rv dr→(∀ d∈dr,d∈x::r)→db∈x::r→Is K H1 (tot Z os) xb db→Is K H3 No yb (kf db)→(∀ v H',Same H H'→Is K H' (tot Z os) v (bestBy (fun v b=>ltD 20 (kf v) (kf b)) db dr)→Q v H')→minW K te (cs.map fun i=>(σ[i]?).join) Q rv xb yb H3:=by
      intro rv
      induction rv with
      | nil =>
        intro dr xb yb db H3 s3 il3 _ _ ib iy k
        cases il3
        exact k xb H3 (s1.trans s3) (ib.same s3)
      | cons v rv ih =>
        intro dr xb yb db H3 s3 il3 hsub hdb ib iy k
        cases il3 with
        | @cons _ dv _ dr' iv ir =>
          have hdv:=hsub dv List.mem_cons_self
          refine step v dv H3 _ s3 iv hdv fun kk H4 s4 ik=>⟨s4,ltD 20 (kf dv) (kf db),⟨kf dv,kf db,ik,iy.same s4,ho dv hdv db hdb,rfl⟩,?_⟩
          have hk2:∀ v H',Same H H'→Is K H' (tot Z os) v (bestBy (fun v b=>ltD 20 (kf v) (kf b)) (if ltD 20 (kf dv) (kf db)=true then dv else db) dr')→Q v H':=k
          cases hb:ltD 20 (kf dv) (kf db) with
          | true =>
            rw [hb] at hk2
            exact ih dr' v kk dv H4 (s3.trans s4) ir (fun d hd=>hsub d (List.mem_cons_of_mem _ hd)) hdv iv ik hk2
          | false =>
            rw [hb] at hk2
            exact ih dr' xb yb db H4 (s3.trans s4) ir (fun d hd=>hsub d (List.mem_cons_of_mem _ hd)) hdb ib (iy.same s4) hk2
    exact step v0 x H2 _ gr iv0 List.mem_cons_self fun kk H4 s4 ik=>⟨s4,key r0 r v0 kk x H4 (Same.trans gr s4) ir0 (fun d hd=>List.mem_cons_of_mem _ hd) List.mem_cons_self iv0 ik k⟩
end
end VL
namespace L2
open PySem PySem.Spec PyProof.Rows VL
def Rs (xs:Array Nat):Prop:=xs.toList.Pairwise (· < ·)
theorem Rs.lt {xs:Array Nat} (h:Rs xs) {i j:Nat} (hij:i<j) (hj:j<xs.size):xs[i]'(by omega)<xs[j]:=by
  have:=(List.pairwise_iff_getElem.mp h) i j (by simp; omega) (by simpa using hj) hij
  simpa using this
theorem below_go {xs:Array Nat} (h:Rs xs) (j:Nat):∀ (f lo hi:Nat),hi-lo≤f→lo≤hi→hi≤xs.size→(∀ k,(hk:k<xs.size)→k<lo→xs[k]<j)→(∀ k,(hk:k<xs.size)→hi≤k→j≤xs[k]) →
    SetTable.below.go xs j f lo hi≤xs.size∧(∀ k,(hk:k<xs.size)→k<SetTable.below.go xs j f lo hi→xs[k]<j)∧∀ k,(hk:k<xs.size)→SetTable.below.go xs j f lo hi≤k→j≤xs[k]
  | 0,lo,hi,hf,h1,h2,a,b=>by
    have e:lo=hi:=by omega
    subst e
    exact ⟨h2,a,b⟩
  | f+1,lo,hi,hf,h1,h2,a,b=>by
    unfold SetTable.below.go
    by_cases c:lo<hi
    · rw [if_pos c]
      have hm:(lo+hi) / 2<xs.size:=by omega
      have hg:xs.getD ((lo+hi) / 2) j=xs[(lo+hi) / 2]:=by simp [Array.getD,hm]
      dsimp only
      rw [hg]
      by_cases d:xs[(lo+hi) / 2]<j
      · rw [if_pos d]
        refine below_go h j f _ hi (by omega) (by omega) h2 (fun k hk hk2=>?_) b
        by_cases e:k=(lo+hi) / 2
        · subst e; exact d
        · have:=h.lt (i:=k) (j:=(lo+hi) / 2) (by omega) hm; omega
      · rw [if_neg d]
        refine below_go h j f lo _ (by omega) (by omega) (by omega) a fun k hk hk2=>?_
        by_cases e:k=(lo+hi) / 2
        · subst e; omega
        · have:=h.lt (i:=(lo+hi) / 2) (j:=k) (by omega) hk; omega
    · rw [if_neg c]
      have e:lo=hi:=by omega
      subst e
      exact ⟨h2,a,b⟩
theorem below_is {xs:Array Nat} (h:Rs xs) (j:Nat):SetTable.below xs j≤xs.size∧(∀ k,(hk:k<xs.size)→k<SetTable.below xs j→xs[k]<j)∧∀ k,(hk:k<xs.size)→SetTable.below xs j≤k→j≤xs[k] :=
  below_go h j xs.size 0 xs.size (by omega) (by omega) (Nat.le_refl _) (fun k hk z=>by omega) fun k hk z=>by omega
theorem insert_list {α:Type} (xs:Array α) (p:Nat) (x:α):(SetTable.insertAt xs p x).toList=xs.toList.take p++x::xs.toList.drop p:=by
  unfold SetTable.insertAt
  simp
  exact List.take_of_length_le (by simp)
theorem insert_rs {xs:Array Nat} (h:Rs xs) {j:Nat} (hn:(xs[SetTable.below xs j]?==some j)=false):Rs (SetTable.insertAt xs (SetTable.below xs j) j):=by
  obtain ⟨b1,b2,b3⟩:=below_is h j
  unfold Rs
  rw [insert_list]
  generalize hb:SetTable.below xs j=b at *
  refine List.pairwise_append.mpr ⟨List.Pairwise.sublist (List.take_sublist _ _) h,List.pairwise_cons.mpr ⟨fun y hy=>?_,List.Pairwise.sublist (List.drop_sublist _ _) h⟩,fun y hy z hz=>?_⟩
  · obtain ⟨i,hi,e⟩:=List.getElem_of_mem hy
    rw [List.getElem_drop] at e
    have hi':b+i<xs.size:=by simp at hi; omega
    have h1:=b3 (b+i) hi' (by omega)
    have e':xs[b+i]=y:=by simpa using e
    by_cases c:i=0
    · subst c
      have:xs[b]?=some xs[b]:=Array.getElem?_eq_getElem (by omega)
      rw [this] at hn
      have ne:xs[b]≠j:=fun z=>by rw [z] at hn; simp at hn
      simp only [Nat.add_zero] at e' h1
      omega
    · have h2:=h.lt (i:=b) (j:=b+i) (by omega) hi'
      have h3:=b3 b (by omega) (Nat.le_refl _)
      omega
  · obtain ⟨i,hi,e⟩:=List.getElem_of_mem hy
    rw [List.getElem_take] at e
    have hib:i<b:=by simp at hi; omega
    have hi':i<xs.size:=by omega
    have h1:=b2 i hi' hib
    have e':xs[i]=y:=by simpa using e
    rcases List.mem_cons.mp hz with rfl | hz
    · omega
    · obtain ⟨k,hk,ek⟩:=List.getElem_of_mem hz
      rw [List.getElem_drop] at ek
      have hk':b+k<xs.size:=by simp at hk; omega
      have ek':xs[b+k]=z:=by simpa using ek
      have h2:=b3 (b+k) hk' (by omega)
      omega
def offT (t:SetTable) (j:Nat):Prop:=(t.place[SetTable.below t.place j]?==some j)=false
theorem probe_off (t:SetTable) (f:Nat→Int) (h:Int):∀ (n:Nat) (p:SetTable.Probe),(∀ d,p.dummy=some d→offT t d)→∀ j d,SetTable.probe.go t f h n p=some (.empty j d)→offT t (d.getD j)
  | 0,p,hp,j,d,e=>by cases e
  | n+1,p,hp,j,d,e=>by
    unfold SetTable.probe.go at e
    cases hs:t.slot p.j with
    | empty =>
      rw [hs] at e
      dsimp only at e
      have hoff:offT t p.j:=by
        unfold SetTable.slot at hs
        dsimp only at hs
        unfold offT
        by_cases c:(t.place[SetTable.below t.place p.j]?==some p.j)=true
        · rw [if_pos c] at hs; cases hs
        · simpa using c
      injection e with e
      injection e with e1 e2
      subst e1
      subst e2
      cases hd:p.dummy with
      | none=>exact hoff
      | some x=>exact hp x hd
    | dummy =>
      rw [hs] at e
      dsimp only at e
      have hoff:offT t p.j:=by
        unfold SetTable.slot at hs
        dsimp only at hs
        unfold offT
        by_cases c:(t.place[SetTable.below t.place p.j]?==some p.j)=true
        · rw [if_pos c] at hs; cases hs
        · simpa using c
      refine probe_off t f h n _ (fun x hx=>?_) j d e
      unfold SetTable.advance at hx
      split at hx
      · cases hx; exact hoff
      · cases hx; exact hoff
    | live i =>
      rw [hs] at e
      dsimp only at e
      split at e
      · injection e with e; cases e
      · refine probe_off t f h n _ (fun x hx=>?_) j d e
        unfold SetTable.advance at hx
        split at hx
        · exact hp x hx
        · exact hp x hx
theorem freeSlot_off {t:SetTable} {h:Int} {j:Nat} {b:Bool} (e:t.freeSlot h=some (j,b)):offT t j:=by
  unfold SetTable.freeSlot at e
  split at e
  · rename_i j' d' e'
    injection e with e
    injection e with e1 e2
    subst e1
    exact probe_off t _ h _ _ (fun d hd=>by unfold SetTable.probeStart at hd; cases hd) _ _ e'
  · cases e
theorem range_rs (n:Nat):Rs (Array.range n):=by
  unfold Rs
  rw [Array.toList_range]
  exact List.pairwise_lt_range
structure TabG (led:Bool) (t:SetTable):Prop where
  led:t.led=led
  up:Rs t.place
theorem standIn_g {led:Bool} {t:SetTable} (g:TabG led t) (n:Nat):TabG led (t.standIn n):=⟨g.led,range_rs n⟩
theorem layNew_g {led:Bool} {t:SetTable} (g:TabG led t) (es:Array (Int×Value)) (h:Int) (x:Value):TabG led (layNew t es h x).2.1:=by
  unfold layNew
  split
  · rename_i j b e
    show TabG led (SetTable.orStandIn _ _)
    have g2:TabG led (t.put j).1:=⟨g.led,insert_rs g.up (freeSlot_off e)⟩
    unfold SetTable.orStandIn
    split
    · exact g2
    · exact standIn_g g2 _
  · exact standIn_g g _
theorem fm_rise {α:Type} (f:Nat→Option α) (n:Nat):(((List.range n).filterMap fun j=>(f j).map (j,·)).map (·.1)).Pairwise (· < ·):=by
  rw [List.pairwise_map]
  refine List.Pairwise.filterMap _ (R:=(· < ·)) (fun a a' h b hb b' hb'=>?_) List.pairwise_lt_range
  cases e:f a with
  | none=>rw [e] at hb; cases hb
  | some u=>cases e':f a' with
    | none=>rw [e'] at hb'; cases hb'
    | some u' =>
      rw [e] at hb; rw [e'] at hb'
      cases hb; cases hb'
      exact h
theorem relayAll_g {led:Bool} {t:SetTable} (g:TabG led t) (es:Array (Int×Value)) (n:Nat):TabG led (relayAll t es n).2.1:=by
  unfold relayAll
  split
  · rename_i t' o e
    dsimp only
    split
    · unfold SetTable.relaid SetTable.laid at e
      obtain ⟨ow,e1,e2⟩:=Option.bind_eq_some_iff.mp e
      cases e2
      refine ⟨g.led,?_⟩
      unfold Rs
      dsimp only
      exact fm_rise _ _
    · exact standIn_g g _
  · exact standIn_g g _
def keyOf (e:Int×Value):Int:=match e.2 with
  | .int k _=>k
  | _=>0
def OkE (e:Int×Value):Prop:=∃ (k:Int) (t:Tok),e=(hashInt k,.int k t)
abbrev setO (es:Array (Int×Value)) (ep:Nat) (t:SetTable):Obj:={ cls:=.type "set", data:=.set es ep t }
def SetI (led:Bool) (h:Heap) (S:Addr) (ks:List Int):Prop:=∃ (es:Array (Int×Value)) (ep:Nat) (t:SetTable),h.get? S=some (setO es ep t)∧(∀ e∈es.toList,OkE e)∧es.toList.map keyOf=ks∧t.fits es.size=true∧TabG led t
section
variable {prog:Program} {w:World} {A:Around} {E:Value→Shared→Prop} {s:Shared}
theorem okE_elems {l:List (Int×Value)} (h:∀ e∈l,OkE e):ElemsOf (intKind prog w) l:=fun e he=>by
  obtain ⟨k,t,rfl⟩:=h e he
  exact ⟨⟨k,intKind_is _ _ _ _,rfl⟩,rfl⟩
theorem find_key {k:Int} {l:List (Int×Value)} (h:∀ e∈l,OkE e):(∃ e∈l,(intKind prog w).is k e.2=true)↔k∈l.map keyOf:=by
  rw [List.mem_map]
  constructor
  · rintro ⟨e,he,q⟩
    obtain ⟨j,t,rfl⟩:=h e he
    exact ⟨_,he,(intKind prog w).inj (.int j t) j k (intKind_is _ _ _ _) q⟩
  · rintro ⟨e,he,q⟩
    obtain ⟨j,t,rfl⟩:=h e he
    cases q
    exact ⟨_,he,intKind_is _ _ _ _⟩
theorem put_there {h:Heap} {S:Addr} {es es':Array (Int×Value)} {ep:Nat} {t t':SetTable} (ho:h.get? S=some (setO es ep t)):(h.update S (Obj.putSet es' t')).get? S=some (setO es' (ep+1) t'):=by
  have q:=Heap.get?_update_self (Obj.putSet es' t') ho (by rw [putSet_of es' t' rfl]; rfl)
  rwa [putSet_of es' t' rfl] at q
theorem add_int {led:Bool} {S:Addr} {ks:List Int} {k:Int} {tk:Tok} {Q:Bool→Shared→Prop} (hS:SetI led s.heap S ks) (hroom:ks.length+1<scanBound)
    (h:∀ (b:Bool) (g:Heap) (ks':List Int),Heap.SameBut S s.heap g→SetI led g S ks'→ks'.Perm (if k∈ks then ks else ks++[k])→Q b { s with heap:=g }):wpAny (model prog w) A (setAddHashed S (.int k tk) (hashInt k)) Q E s:=by
  obtain ⟨es,ep,t,ho,hok,rfl,hf,tg⟩:=id hS
  have hlen:es.size+1<scanBound:=by rw [List.length_map,Array.length_toList] at hroom; exact hroom
  have hel:=okE_elems (prog:=prog) (w:=w) hok
  have hky:=find_key (prog:=prog) (w:=w) (k:=k) hok
  unfold setAddHashed setAddHashedIn
  refine wpAny_holding (wpAny_bind (wpAny_setState_of ho rfl hf ?_))
  dsimp only
  rw [byScan_of (knd:=intKind prog w) (x:=.int k tk) rfl (by omega) hel]
  simp only [if_true]
  unfold setAddByScan
  refine wpAny_bind (wpAny_bind (wpAny_rule ?_))
  refine wpAny_bind (wpAny_setScan_of (knd:=intKind prog w) (k:=k) (x:=.int k tk) (intKind_is _ _ _ _) ho rfl hf hel ?_)
  cases hr:List.findIdx? (fun e=>(intKind prog w).is k e.2) es.toList with
  | some j =>
    dsimp only
    obtain ⟨hj,hpj,_⟩:=List.findIdx?_eq_some_iff_getElem.mp hr
    have hm:k∈es.toList.map keyOf:=hky.mp ⟨es.toList[j],List.getElem_mem hj,hpj⟩
    refine wpAny_pure (wpAny_pure ?_)
    have q:=h false s.heap _ (Heap.SameBut.refl S s.heap) hS (by rw [if_pos hm])
    exact q
  | none =>
    dsimp only
    have hm:k∉es.toList.map keyOf:=fun z=>by
      obtain ⟨e,he,hp⟩:=hky.mpr z
      have:=List.findIdx?_eq_none_iff.mp hr e he
      rw [hp] at this; cases this
    have gw:∀ (b:Bool) {u:Shared} {R:Unit→Shared→Prop},R () u→wpAny (model prog w) A (match b with | true=>rule "set.scan.the-table-gave-way" | false=>pure ()) R E u:=fun b _ _ q=>by cases b <;> first | exact wpAny_pure q | exact wpAny_rule q
    have pm:=layNew_perm t es (hashInt k) (.int k tk)
    have fi:=layNew_fits t es (hashInt k) (.int k tk)
    have tg1:=layNew_g tg es (hashInt k) (.int k tk)
    generalize layNew t es (hashInt k) (.int k tk)=N at pm fi tg1 ⊢
    obtain ⟨es1,t1,dum,gave⟩:=N
    dsimp only at pm fi tg1 ⊢
    rw [Array.toList_push] at pm
    have ok1:∀ e∈es1.toList,OkE e:=fun e he=>by
      rcases List.mem_append.mp (pm.mem_iff.mp he) with q | q
      · exact hok e q
      · rw [List.mem_singleton.mp q]; exact ⟨k,tk,rfl⟩
    have pk:(es1.toList.map keyOf).Perm (es.toList.map keyOf++[k]):=by
      have:=pm.map keyOf
      rwa [List.map_append] at this
    have sz:es1.size<scanBound:=by rw [← Array.length_toList,pm.length_eq,List.length_append,Array.length_toList]; exact hlen
    refine wpAny_bind (gw _ ?_)
    have tail:∀ (gf:Bool→Sem Unit) (hgf:∀ (b:Bool) (u:Shared) (R:Unit→Shared→Prop),R () u→wpAny (model prog w) A (gf b) R E u) (t2:SetTable),t2.fits es1.size=true→TabG led t2→wpAny (model prog w) A (do
        storeSet S es1 t2
        if (!dum&&t2.tooFull)=true then do
            gf (relayAll t2 es1 (SetTable.grown es1.size)).2.2
            storeSet S (relayAll t2 es1 (SetTable.grown es1.size)).1 (relayAll t2 es1 (SetTable.grown es1.size)).2.1
            pure (some true)
          else pure (some true)) (fun r u=>wpAny (model prog w) A (match r with | some b=>pure b | none=>setAddHashedIn S (.int k tk) (hashInt k) 99999) Q E u) E s:=by
      intro gf hgf t2 f2 g2
      refine wpAny_bind (wpAny_storeSet_of ho rfl ?_ (fits_of_scanBound sz))
      have h1:=put_there (es':=es1) (t':=t2) ho
      have sb:=Heap.SameBut.update s.heap S (Obj.putSet es1 t2)
      split
      · have p2:=relayAll_perm t2 es1 (SetTable.grown es1.size)
        have f3:=relayAll_fits t2 es1 (SetTable.grown es1.size)
        have g3:=relayAll_g g2 es1 (SetTable.grown es1.size)
        generalize relayAll t2 es1 (SetTable.grown es1.size)=R at p2 f3 g3 ⊢
        obtain ⟨es2,t3,gave2⟩:=R
        dsimp only at p2 f3 g3 ⊢
        have sz2:es2.size=es1.size:=by rw [← Array.length_toList,p2.length_eq,Array.length_toList]
        refine wpAny_bind (hgf _ _ _ ?_)
        refine wpAny_bind (wpAny_storeSet_of h1 rfl ?_ (fits_of_scanBound (by rw [sz2]; exact sz)))
        refine wpAny_pure (wpAny_pure (h true _ _ (sb.trans (Heap.SameBut.update _ S _)) ⟨es2,_,t3,put_there h1,fun e he=>ok1 e (p2.mem_iff.mp he),rfl,f3,g3⟩ ?_))
        rw [if_neg hm]
        exact (p2.map keyOf).trans pk
      · refine wpAny_pure (wpAny_pure (h true _ _ sb ⟨es1,_,t2,h1,ok1,rfl,f2,g2⟩ ?_))
        rw [if_neg hm]
        exact pk
    split
    · refine wpAny_bind ?_
      rw [hashByValue_scannable 8 (x:=.int k tk) rfl]
      refine wpAny_pure ?_
      exact tail _ (fun b _ _ q=>by cases b <;> first | exact wpAny_pure q | exact wpAny_rule q) _ fi tg1
    · refine wpAny_bind (wpAny_pure ?_)
      simp only [if_true]
      exact tail _ (fun b _ _ q=>by cases b <;> first | exact wpAny_pure q | exact wpAny_rule q) _ fi tg1
end
end L2
namespace L2
open PySem PySem.Spec PyProof.Rows VL
structure Once (val:Nat→Int) (i:Nat) (ks:List Int):Prop where
  nd:ks.Nodup
  mem:∀ x,x∈ks↔∃ j,j<i∧val j=x
  len:ks.length≤i
theorem Once.next {val:Nat→Int} {i:Nat} {ks ks':List Int} (h:Once val i ks) (p:ks'.Perm (if val i∈ks then ks else ks++[val i])):Once val (i+1) ks':=by
  have hl:=h.len
  by_cases c:val i∈ks
  · rw [if_pos c] at p
    refine ⟨p.nodup_iff.mpr h.nd,fun x=>?_,by rw [p.length_eq]; omega⟩
    rw [p.mem_iff,h.mem]
    constructor
    · rintro ⟨j,hj,e⟩; exact ⟨j,by omega,e⟩
    · rintro ⟨j,hj,e⟩
      by_cases z:j=i
      · subst z; exact (h.mem x).mp (e ▸ c)
      · exact ⟨j,by omega,e⟩
  · rw [if_neg c] at p
    refine ⟨p.nodup_iff.mpr (List.nodup_append.mpr ⟨h.nd,by simp,fun a ha b hb z=>?_⟩),fun x=>?_,by rw [p.length_eq,List.length_append,List.length_singleton]; omega⟩
    · rw [List.mem_singleton.mp hb] at z; subst z; exact c ha
    · rw [p.mem_iff,List.mem_append,h.mem,List.mem_singleton]
      constructor
      · rintro (⟨j,hj,e⟩ | rfl)
        · exact ⟨j,by omega,e⟩
        · exact ⟨i,by omega,rfl⟩
      · rintro ⟨j,hj,e⟩
        by_cases z:j=i
        · subst z; exact .inr e.symm
        · exact .inl ⟨j,by omega,e⟩
theorem SetI.at {led:Bool} {h h':Heap} {S:Addr} {ks:List Int} (x:SetI led h S ks) (hk:∀ o,h.get? S=some o→h'.get? S=some o):SetI led h' S ks:=by
  obtain ⟨es,ep,t,ho,r⟩:=x
  exact ⟨es,ep,t,hk _ ho,r⟩
section
variable {prog:Program} {w:World} {A:Around} {R:Result→Shared→Prop} {I:Addr} {fp wr:List Addr} {Gn:Array GenState→Array GenState→Prop} {n:Nat} {P:Nat→Value→Prop} {St:Nat→Shared→Prop}
theorem set_loop (W:WalksS prog w A.in1 I fp wr Gn n P St) {led:Bool} (S:Addr) (hSf:S∉fp) (val:Nat→Int) (hv:∀ j v,P j v→∃ t,v=.int (val j) t) (hn:n+1<scanBound) :
    ∀ (k i:Nat) (s:Shared) (ks:List Int),n-i=k→i≤n→St i s→SetI led s.heap S ks→Once val i ks→(∀ (u:Shared) (us:List Int),Moved (S::wr) Gn s u→SetI led u.heap S us→Once val n us→R (.ok (.ret .none)) u) →
      codeAny (model prog w) A (.builtin "set.update.loop" ⟨[.ref S,.ref I],[]⟩) R s:=by
  have nw:S∉wr:=fun z=>hSf (W.sub _ z)
  have sub:∀ b∈wr,b∈S::wr:=fun b z=>List.mem_cons_of_mem _ z
  intro k
  induction k with
  | zero =>
    intro i s ks hk hi st hS ho hR
    have e:i=n:=by omega
    subst e
    refine codeAny_builtin PyProof.Rows.F.entry_set_update_loop ?_
    rw [Around.under_plainId PyProof.Rows.F.plain_set_update_loop _]
    show wpAny _ A.in1 (pyNext (.ref I) >>= _) _ _ _
    refine wpAny_bind (W.done s _ _ st fun u mv=>?_)
    exact wpAny_pure (hR u ks (mv.mono sub) (hS.at fun o e=>mv.heap S _ nw e) ho)
  | succ k ih =>
    intro i s ks hk hi st hS ho hR
    have lt:i<n:=by omega
    refine codeAny_builtin PyProof.Rows.F.entry_set_update_loop ?_
    rw [Around.under_plainId PyProof.Rows.F.plain_set_update_loop _]
    show wpAny _ A.in1 (pyNext (.ref I) >>= _) _ _ _
    refine wpAny_bind (W.item i s _ _ lt st fun v u pv st' mv=>?_)
    obtain ⟨t,rfl⟩:=hv i v pv
    have hS':=hS.at (h':=u.heap) fun o e=>mv.heap S _ nw e
    show wpAny _ A.in1 (holding [.int (val i) t] (setAdd S (.int (val i) t)) >>= _) _ _ _
    refine wpAny_bind (wpAny_holding ?_)
    unfold setAdd
    refine wpAny_holding (wpAny_bind ((intKind prog w).pyHash (k:=val i) (intKind_is _ _ _ _) ?_))
    have room:ks.length+1<scanBound:=by have:=ho.len; omega
    refine add_int (s:={ u with toks:=u.toks+1 }) hS' room fun b g ks' sb hS2 pm=>?_
    refine wpAny_pure ⟨plainId_quiet PyProof.Rows.F.plain_set_update_loop _,ih (i+1) _ ks' (by omega) lt (W.frame _ u _ _ st' (Nat.le_succ _) fun b hb o e=>?_) hS2 (ho.next pm) fun u2 us m2 h2 o2=>?_⟩
    · rw [sb.2 b fun z=>hSf (z ▸ hb)]; exact e
    · refine hR u2 us (Moved.trans W.gtrans ((mv.mono sub).then_heap (Nat.le_succ _) fun b o hb e=>?_) m2) h2 o2
      rw [sb.2 b fun z=>hb (z ▸ List.mem_cons_self)]; exact e
end
section
variable {prog:Program} {w:World} {A:Around} {E:Value→Shared→Prop} {s:Shared}
def ledIn (w:World):Bool:=!(w.params.followText "set-order")
theorem new_set {Q:Value→Shared→Prop} (a:Value) (h:Q (.ref s.heap.objs.size) { s with heap:=s.heap.push (setO #[] 0 (.fresh 0 0 (ledIn w))) }):codeAny (model prog w) A (.call (.builtin "set.__new__") ⟨[.type "set", a],[]⟩) (wants Q E) s:=by
  refine codeAny_of_tree ?_
  show wpAny _ A.in1 (checkBuiltinCall "set.__new__" ⟨[.type "set", a],[]⟩ >>= fun _=>again (.builtin "set.__new__" ⟨[.type "set", a],[]⟩)) _ _ _
  refine wpAny_bind (wpAny_of_eq (PySem.F.newCall_set_1 a) (wpAny_pure ⟨plainId_quiet PySem.F.plain_set_new _,codeAny_builtin PySem.F.entry_set_new ?_⟩))
  rw [Around.under_plainId PySem.F.plain_set_new _]
  unfold Builtin.«set.__new__» Builtin.Frozenset.newClass
  have hsub:=sub_set_self
  obtain ⟨hp,gs,dr,tk,os⟩:=s
  dsimp only
  wp_walk
  refine wpAny_askSetting (wpAny_pure ?_)
  dsimp only
  simp only [newObj]
  exact wpAny_bind (wpAny_alloc (wpAny_pure (wpAny_pure h)))
theorem fresh_i (led:Bool) (h:Heap) (S:Addr) (e:h.get? S=some (setO #[] 0 (.fresh 0 0 led))):SetI led h S []:=⟨#[],0,_,e,fun e he=>(by simp at he),rfl,rfl,⟨rfl,by unfold Rs SetTable.fresh; simp⟩⟩
set_option maxHeartbeats 3200000 in
theorem call_set {l:Addr} {items:Array Value} {ns:List Int} {Q:Value→Shared→Prop} (hh:A.handled=none) (hl:s.heap.IsList l items) (hi:IntsAre items.toList ns) (hb:items.size+1<scanBound)
    (h:∀ (g:Heap) (tk:Nat) (ks:List Int),SetI (ledIn w) g s.heap.objs.size ks→Once (fun i=>ns.getD i 0) items.size ks→(∀ b o,b<s.heap.objs.size→s.heap.get? b=some o→g.get? b=some o)→Q (.ref s.heap.objs.size) { s with heap:=g,toks:=tk }) :
    wpAny (model prog w) A (call (.type "set") [.ref l]) Q E s:=by
  obtain ⟨c,tl,hmro⟩:=PySem.F.called_set.mro
  have hmade:=PySem.F.called_set.made
  have hsub:=PySem.F.called_set.sub
  refine wpAny_call (codeAny_of_tree ?_)
  show wpAny _ _ (callAny (.type "set") _) _ _ _
  refine wpAny_pure ⟨Code.quiet_builtin _ (by decide +kernel),codeAny_builtin PySem.F.entry_type_call ?_⟩
  rw [Around.under_plain (weight_type_call_type "set" [.ref l] []) rfl]
  have q1:=PySem.F.called_set.notType
  have q2:=PySem.F.called_set.canCreate
  have q3:=PySem.F.typeCall_set_1 (.ref l)
  repeat (any_goals (first | assumption | wp_step))
  refine codeAny_mono (new_set (.ref l) (E:=E) (Q:=fun v u=>v=.ref s.heap.objs.size∧u={ s with heap:=s.heap.push (setO #[] 0 (.fresh 0 0 (ledIn w))) }) ⟨rfl,rfl⟩) fun r u hr=>?_
  cases r with
  | error e=>exact hr
  | ok fl =>
    cases fl with
    | ret v =>
      obtain ⟨rfl,rfl⟩:=hr
      generalize hled:ledIn w=led at *
      have at0:(s.heap.push (setO #[] 0 (.fresh 0 0 led))).get? s.heap.objs.size=some (setO #[] 0 (.fresh 0 0 led)):=Heap.get?_push_size _ rfl
      have ty:Shared.TypeIs { s with heap:=s.heap.push (setO #[] 0 (.fresh 0 0 led)) } (.ref s.heap.objs.size) "set" := ⟨_,at0,rfl⟩
      have q4:=PySem.F.called_set.init.lookup
      have q5:=PySem.F.called_set.init.bind (.ref s.heap.objs.size)
      repeat (any_goals (first | assumption | wp_step))
      refine codeAny_mono (codeAny_call_builtin (R:=wants (fun r u=>r=.none∧∃ g tk ks,u={ s with heap:=g,toks:=tk }∧SetI led g s.heap.objs.size ks∧Once (fun i=>ns.getD i 0) items.size ks∧∀ b o,b<s.heap.objs.size→s.heap.get? b=some o→g.get? b=some o) E) PySem.F.called_set.init.plain PySem.F.entry_set_init (check_set_init_1 ty ?_)) fun r2 u2 h2=>?_
      · obtain ⟨ol,hol,hcl,nl,hdl⟩:=hl
        obtain ⟨ocls,odict,odata,oslots⟩:=ol
        simp only at hcl hdl
        subst hcl
        subst hdl
        have holp:(s.heap.push (setO #[] 0 (.fresh 0 0 led))).get? l=some { cls:=.type "list", dict:=odict,data:=.seq items nl,slots:=oslots }:=Heap.get?_push_of_some _ hol
        have q6:=PySem.F.sub_list_set
        have q7:=PySem.F.sub_list_frozenset
        have q8:(Value.type "list" == Value.type "dict")=false:=by decide
        have isl:(s.heap.push (setO #[] 0 (.fresh 0 0 led))).IsList l items:=⟨_,holp,rfl,nl,rfl⟩
        unfold Builtin.«set.__init__» noKeywords Builtin.Frozenset.updateFrom
        generalize hpi:pyIter=pit
        wp_walk
        subst hpi
        refine wpAny_pyIter_list isl ?_
        refine wpAny_bind (wpAny_runValue ?_)
        have ll:l<s.heap.objs.size:=Heap.lt_size hol
        have h3:A.in1.in1.in1.handled=none:=by simp [hh]
        have zz:(s.heap.push (setO #[] 0 (.fresh 0 0 led))).objs.size=s.heap.objs.size+1:=size_push' ..
        have nI:l≠(s.heap.push (setO #[] 0 (.fresh 0 0 led))).objs.size:=by rw [zz]; exact Nat.ne_of_lt (Nat.lt_succ_of_lt ll)
        have nS:s.heap.objs.size∉[(s.heap.push (setO #[] 0 (.fresh 0 0 led))).objs.size,l]:=by
          rw [zz]
          simp only [List.mem_cons,List.not_mem_nil,or_false,not_or]
          exact ⟨Nat.ne_of_lt (Nat.lt_succ_self _),Nat.ne_of_gt ll⟩
        have hval:∀ (i:Nat) (v:Value),items[i]?=some v→∃ t,v=.int ((fun i=>ns.getD i 0) i) t:=fun i v hv=>IntsAre.int_at hi i v (by rw [Array.getElem?_toList]; exact hv)
        refine set_loop ((Walks.list h3 _ l nI items).toS) (led:=led) s.heap.objs.size nS (fun i=>ns.getD i 0) hval hb (items.size-0) 0 _ [] (by omega) (Nat.zero_le _) ⟨⟨_,Heap.get?_push_size _ rfl,rfl,rfl⟩,isl.push _⟩ (fresh_i led _ _ (Heap.get?_push_of_some _ at0)) ⟨List.nodup_nil,fun x=>⟨fun z=>by (cases z),fun ⟨j,hj,_⟩=>by omega⟩,Nat.le_refl _⟩ fun u us mv hS ho=>?_
        obtain ⟨g,gs,dr,tk,os⟩:=u
        have e1:gs=s.gens:=mv.gens
        have e2:dr=s.drawn:=mv.drawn
        have e3:os=s.os:=mv.os
        subst e1
        subst e2
        subst e3
        show wpAny _ _ _ _ _ _
        refine wpAny_pure ?_
        show wpAny _ _ (ret Value.none) _ _ _
        refine wpAny_pure ⟨rfl,g,tk,us,rfl,hS,ho,fun b o hb e=>?_⟩
        refine mv.heap b o ?_ (Heap.get?_push_of_some _ (Heap.get?_push_of_some _ e))
        rw [zz]
        simp only [List.mem_cons,List.not_mem_nil,or_false,not_or]
        exact ⟨Nat.ne_of_lt hb,Nat.ne_of_lt (Nat.lt_succ_of_lt hb)⟩
      · cases r2 with
        | error e=>exact h2
        | ok f2 =>
          cases f2 with
          | ret r =>
            obtain ⟨rfl,g,tk,ks,rfl,hS,ho,hk⟩:=h2
            repeat (any_goals (first | assumption | wp_step))
            exact h _ _ _ hS ho hk
          | _=>exact h2.elim
    | _=>exact hr.elim
end
end L2
namespace L2
open PySem PySem.Spec PyProof.Rows VL
theorem sl_setI_next:Slot "set_iterator" "__next__" "set_iterator.__next__" := .of (owner := "set_iterator") (n := "__next__") (by rw [typeLookup_type,builtinLookup_eq_fast]; kernel_rfl) (by decide +kernel) (by decide +kernel) (by decide +kernel) (by first | exact .inl (by decide +kernel) | exact .inr (by decide +kernel)) (by rw [isSubtype_type]; kernel_rfl)
theorem sl_setI_iter:Slot "set_iterator" "__iter__" "set_iterator.__iter__" := .of (owner := "set_iterator") (n := "__iter__") (by rw [typeLookup_type,builtinLookup_eq_fast]; kernel_rfl) (by decide +kernel) (by decide +kernel) (by decide +kernel) (by first | exact .inl (by decide +kernel) | exact .inr (by decide +kernel)) (by rw [isSubtype_type]; kernel_rfl)
theorem en_setI_next:entryFor table "set_iterator.__next__" = some Builtin.«set_iterator.__next__»:=entryFor_of_tree (by kernel_rfl)
theorem en_setI_iter:entryFor table "set_iterator.__iter__" = some Builtin.«dict_keyiterator.__iter__»:=entryFor_alias (id' := "dict_keyiterator.__iter__") (by kernel_rfl) rfl (by decide +kernel) (by kernel_rfl)
theorem en_set_iter:entryFor table "set.__iter__" = some Builtin.«frozenset.__iter__»:=entryFor_alias (id' := "frozenset.__iter__") (by kernel_rfl) rfl (by decide +kernel) (by kernel_rfl)
theorem ar_setI_next (a:Value):argsOk "set_iterator.__next__" ⟨[a],[]⟩:=by unfold argsOk; kernel_rfl
theorem ar_setI_iter (a:Value):argsOk "set_iterator.__iter__" ⟨[a],[]⟩:=by unfold argsOk; kernel_rfl
def ItAt (h:Heap) (I S:Addr) (n ep:Nat) (first:Value) (i:Nat):Prop:=∃ o,h.get? I=some o∧o.cls=.type "set_iterator" ∧ o.data=.fields #[first,.int (i:Int) 0,.ref S,.int (n:Int) 0,.int (ep:Int) 0]
theorem ItAt.ty {s:Shared} {I S:Addr} {n ep:Nat} {f:Value} {i:Nat} (h:ItAt s.heap I S n ep f i):s.TypeIs (.ref I) "set_iterator" := let ⟨o,ho,hc,_⟩:=h; ⟨o,ho,hc⟩
theorem ItAt.at {h h':Heap} {I S:Addr} {n ep:Nat} {f:Value} {i:Nat} (x:ItAt h I S n ep f i) (e:∀ o,h.get? I=some o→h'.get? I=some o):ItAt h' I S n ep f i:=let ⟨o,ho,r⟩:=x; ⟨o,e _ ho,r⟩
section
variable {prog:Program} {w:World} {A:Around} {E:Value→Shared→Prop} {s:Shared} {I S:Addr} {n ep:Nat} {es:Array (Int×Value)} {t:SetTable}
theorem self_setI {f:Value} {i:Nat} {Q:Value→Shared→Prop} (h:ItAt s.heap I S n ep f i) (q:Q (.ref I) s):wpAny (model prog w) A (pyIter (.ref I)) Q E s:=by
  refine wpAny_pyIter_slot h.ty sl_setI_iter (wpAny_call_entry sl_setI_iter h.ty en_setI_iter ?_ (ar_setI_iter _))
  show wpAny _ _ (ret (.ref I)) _ _ _
  exact wpAny_pure ⟨_,rfl, "set_iterator", _,h.ty,sl_setI_next.lookup,q⟩
theorem nextS {i slot nx:Nat} {x:Value} {Q:Option Value→Shared→Prop} (h:ItAt s.heap I S es.size ep (.int (slot:Int) 0) i) (hS:s.heap.get? S=some (setO es ep t)) (hf:t.fits es.size=true)
    (hn:∀ (E':Value→Shared→Prop) (Q':Option (Value×Nat)→Shared→Prop),Q' (some (x,nx)) s→wpAny (model prog w) A.in1 (setNext S slot i ep) Q' E' s)
    (q:∀ g,ItAt g I S es.size ep (.int (nx:Int) 0) (i+1)→Heap.SameBut I s.heap g→Q (some x) { s with heap:=g }):wpAny (model prog w) A (pyNext (.ref I)) Q E s:=by
  obtain ⟨o,ho,hc,hd⟩:=id h
  unfold pyNext
  refine wpAny_bind (wpAny_attempt (wpAny_callSpecial?_slot (name:=Str.ofString "__next__") h.ty sl_setI_next (wpAny_call_entry sl_setI_next h.ty en_setI_next ?_ (ar_setI_next _))))
  unfold Builtin.«set_iterator.__next__»
  refine wpAny_bind (wpAny_pure ?_)
  refine wpAny_bind (wpAny_fieldsOf ho hd ?_)
  dsimp only
  refine wpAny_bind (wpAny_setEntries_of hS rfl hf ?_)
  rw [if_neg (by simp)]
  refine wpAny_bind ?_
  simp only [Int.toNat_natCast]
  refine hn _ _ ?_
  dsimp only
  refine wpAny_bind (wpAny_setField ho hd (by simp) ?_)
  have h1:(s.heap.update I (Obj.mapFields (·.setIfInBounds 0 (rawInt (nx:Int))))).get? I=some _:=Heap.get?_update_self _ ho (Obj.isFreed_of_fields (Obj.data_mapFields hd _))
  have d1:=Obj.data_mapFields hd (·.setIfInBounds 0 (rawInt (nx:Int)))
  refine wpAny_bind (wpAny_setField h1 d1 (by simp) ?_)
  refine wpAny_pure ⟨_,rfl,wpAny_pure (q _ ⟨_,Heap.get?_update_self _ h1 (Obj.isFreed_of_fields (Obj.data_mapFields d1 _)),(Obj.cls_mapFields ..).trans ((Obj.cls_mapFields ..).trans hc),by rw [Obj.data_mapFields d1]; simp [rawInt]⟩ ((Heap.SameBut.update ..).trans (Heap.SameBut.update ..)))⟩
theorem doneS {i slot:Nat} {Q:Option Value→Shared→Prop} (hh:A.handled=none) (h:ItAt s.heap I S es.size ep (.int (slot:Int) 0) i) (hS:s.heap.get? S=some (setO es ep t)) (hf:t.fits es.size=true)
    (hn:∀ (E':Value→Shared→Prop) (Q':Option (Value×Nat)→Shared→Prop),Q' none s→wpAny (model prog w) A.in1 (setNext S slot i ep) Q' E' s)
    (q:∀ g,Heap.ExtBut I s.heap g→Q none { s with heap:=g }):wpAny (model prog w) A (pyNext (.ref I)) Q E s:=by
  obtain ⟨o,ho,hc,hd⟩:=id h
  unfold pyNext
  refine wpAny_bind (wpAny_attempt (wpAny_callSpecial?_slot (name:=Str.ofString "__next__") h.ty sl_setI_next (wpAny_call_entry sl_setI_next h.ty en_setI_next ?_ (ar_setI_next _))))
  unfold Builtin.«set_iterator.__next__»
  refine wpAny_bind (wpAny_pure ?_)
  refine wpAny_bind (wpAny_fieldsOf ho hd ?_)
  dsimp only
  refine wpAny_bind (wpAny_setEntries_of hS rfl hf ?_)
  rw [if_neg (by simp)]
  refine wpAny_bind ?_
  simp only [Int.toNat_natCast]
  refine hn _ _ ?_
  dsimp only
  refine wpAny_bind (wpAny_setField ho hd (by simp) ?_)
  refine wpAny_bind ?_
  simp only [newExc,newTuple]
  refine wpAny_bind (wpAny_newObj_type ?_ (by size_fits))
  refine wpAny_bind (m:=firstArgMember _ _) (wpAny_of_eq (a:=Value.none) (by first | rfl | (simp only [firstArgMember]; rfl)) ?_)
  refine wpAny_newObj_type ?_ (by size_fits)
  simp only [raiseNew]
  refine wpAny_bind (wpAny_handled ?_)
  rw [show A.in1.handled=none from hh]
  refine wpAny_bind (wpAny_pure (wpAny_throw ?_))
  refine wpAny_bind (wpAny_isInstance (T := "StopIteration") (b:=true) ⟨_,Heap.get?_push_size _ rfl,rfl⟩ isSubtype_stop ?_)
  refine wpAny_pure (q _ fun b u hb e=>?_)
  exact Heap.get?_push_of_some _ (Heap.get?_push_of_some _ ((Heap.get?_update_other _ _ (Ne.symm hb)).trans e))
theorem nextD {T:Addr} {i:Nat} {pl:Array Value} {c p:Nat} {tk:Tok} {x:Value} {hx:Int} {Q:Option Value→Shared→Prop} (h:ItAt s.heap I S es.size ep (.ref T) i) (hS:s.heap.get? S=some (setO es ep t)) (hf:t.fits es.size=true)
    (hT:s.heap.get? T=some (seqObj "tuple" pl c)) (hp:pl[i]?=some (.int (p:Int) tk)) (he:es[p]?=some (hx,x))
    (q:∀ g,ItAt g I S es.size ep (.ref T) (i+1)→Heap.SameBut I s.heap g→Q (some x) { s with heap:=g }):wpAny (model prog w) A (pyNext (.ref I)) Q E s:=by
  obtain ⟨o,ho,hc,hd⟩:=id h
  unfold pyNext
  refine wpAny_bind (wpAny_attempt (wpAny_callSpecial?_slot (name:=Str.ofString "__next__") h.ty sl_setI_next (wpAny_call_entry sl_setI_next h.ty en_setI_next ?_ (ar_setI_next _))))
  unfold Builtin.«set_iterator.__next__»
  refine wpAny_bind (wpAny_pure ?_)
  refine wpAny_bind (wpAny_fieldsOf ho hd ?_)
  dsimp only
  refine wpAny_bind (wpAny_setEntries_of hS rfl hf ?_)
  rw [if_neg (by simp)]
  refine wpAny_bind (wpAny_seqItems hT rfl ?_)
  simp only [Int.toNat_natCast]
  rw [hp]
  dsimp only
  refine wpAny_bind ?_
  unfold setNextDrawn
  refine wpAny_bind (wpAny_setState_of hS rfl hf ?_)
  dsimp only
  simp only [Int.toNat_natCast,bne_self_eq_false,Bool.false_eq_true,if_false]
  rw [he]
  refine wpAny_pure ?_
  refine wpAny_bind (wpAny_setField ho hd (by simp) ?_)
  refine wpAny_pure ⟨_,rfl,wpAny_pure (q _ ⟨_,Heap.get?_update_self _ ho (Obj.isFreed_of_fields (Obj.data_mapFields hd _)),(Obj.cls_mapFields ..).trans hc,by rw [Obj.data_mapFields hd]; simp [rawInt]⟩ (Heap.SameBut.update ..))⟩
theorem doneD {T:Addr} {i:Nat} {pl:Array Value} {c:Nat} {Q:Option Value→Shared→Prop} (hh:A.handled=none) (h:ItAt s.heap I S es.size ep (.ref T) i) (hS:s.heap.get? S=some (setO es ep t)) (hf:t.fits es.size=true)
    (hT:s.heap.get? T=some (seqObj "tuple" pl c)) (hp:pl[i]?=none)
    (q:∀ g,Heap.ExtBut I s.heap g→Q none { s with heap:=g }):wpAny (model prog w) A (pyNext (.ref I)) Q E s:=by
  obtain ⟨o,ho,hc,hd⟩:=id h
  unfold pyNext
  refine wpAny_bind (wpAny_attempt (wpAny_callSpecial?_slot (name:=Str.ofString "__next__") h.ty sl_setI_next (wpAny_call_entry sl_setI_next h.ty en_setI_next ?_ (ar_setI_next _))))
  unfold Builtin.«set_iterator.__next__»
  refine wpAny_bind (wpAny_pure ?_)
  refine wpAny_bind (wpAny_fieldsOf ho hd ?_)
  dsimp only
  refine wpAny_bind (wpAny_setEntries_of hS rfl hf ?_)
  rw [if_neg (by simp)]
  refine wpAny_bind (wpAny_seqItems hT rfl ?_)
  simp only [Int.toNat_natCast]
  rw [hp]
  dsimp only
  refine wpAny_bind (wpAny_setField ho hd (by simp) ?_)
  have h1:(s.heap.update I (Obj.mapFields (·.setIfInBounds 0 (rawInt 0)))).get? I=some _:=Heap.get?_update_self _ ho (Obj.isFreed_of_fields (Obj.data_mapFields hd _))
  have d1:=Obj.data_mapFields hd (·.setIfInBounds 0 (rawInt 0))
  refine wpAny_bind (wpAny_setField h1 d1 (by simp) ?_)
  refine wpAny_bind ?_
  simp only [newExc,newTuple]
  refine wpAny_bind (wpAny_newObj_type ?_ (by size_fits))
  refine wpAny_bind (m:=firstArgMember _ _) (wpAny_of_eq (a:=Value.none) (by first | rfl | (simp only [firstArgMember]; rfl)) ?_)
  refine wpAny_newObj_type ?_ (by size_fits)
  simp only [raiseNew]
  refine wpAny_bind (wpAny_handled ?_)
  rw [show A.in1.handled=none from hh]
  refine wpAny_bind (wpAny_pure (wpAny_throw ?_))
  refine wpAny_bind (wpAny_isInstance (T := "StopIteration") (b:=true) ⟨_,Heap.get?_push_size _ rfl,rfl⟩ isSubtype_stop ?_)
  refine wpAny_pure (q _ fun b u hb e=>?_)
  exact Heap.get?_push_of_some _ (Heap.get?_push_of_some _ ((Heap.get?_update_other _ _ (Ne.symm hb)).trans ((Heap.get?_update_other _ _ (Ne.symm hb)).trans e)))
end
end L2
namespace L2
open PySem PySem.Spec PyProof.Rows VL
theorem erase_perm {α:Type} {l:List α} {i:Nat} (h:i<l.length):(l[i]::l.eraseIdx i).Perm l:=by
  have e:l=l.take i++l[i]::l.drop (i+1):=by rw [List.getElem_cons_drop,List.take_append_drop]
  rw [List.eraseIdx_eq_take_drop_succ]
  conv=>rhs; rw [e]
  exact List.perm_middle.symm
theorem pick_go {α:Type} (nx:Nat→Nat):∀ (f k:Nat) (left:List α) (out:Array α),left.length=f→(pickOrder.go nx f k left out).toList.Perm (out.toList++left)
  | 0,k,left,out,h=>by
    rw [List.eq_nil_of_length_eq_zero h,List.append_nil]
    exact .refl _
  | f+1,k,left,out,h=>by
    have hl:nx k % left.length<left.length:=Nat.mod_lt _ (by omega)
    unfold pickOrder.go
    rw [List.getElem?_eq_getElem hl]
    dsimp only
    refine (pick_go nx f (k+1) _ _ (by rw [List.length_eraseIdx_of_lt hl]; omega)).trans ?_
    rw [Array.toList_push,List.append_assoc]
    exact (erase_perm hl).append_left _
theorem pick_perm {α:Type} (nx:Nat→Nat) (xs:Array α):(pickOrder nx xs).toList.Perm xs.toList:=by
  have:=pick_go nx xs.size 0 xs.toList #[] (by simp)
  unfold pickOrder
  simpa using this
section
variable {prog:Program} {w:World} {A:Around} {E:Value→Shared→Prop} {s:Shared} {I S:Addr} {ep:Nat} {es:Array (Int×Value)} {t:SetTable}
theorem wp_choose {src:Source} {n:Nat} {Q:Nat→Shared→Prop} (hn:n≠0) (h:∀ (i:Nat) (d:Drawn),i<n→Q i { s with drawn:=d }):wpAny (model prog w) A (choose src n) Q E s:=fun Γ p _=>by
  show Sem.wp _ Γ (.choose src n .pure) _ _ _ _
  rw [Sem.wp_choose]
  exact ⟨hn,h _ _ (Nat.mod_lt _ (Nat.pos_of_ne_zero hn))⟩
theorem wp_draw {α:Type}:∀ (n:Nat) (xs:List α) (s:Shared) {Q:List α→Shared→Prop},xs.length=n→(∀ (ys:List α) (d:Drawn),ys.Perm xs→Q ys { s with drawn:=d })→wpAny (model prog w) A (drawOrder n xs) Q E s
  | 0,xs,s,Q,hl,h=>by
    rw [List.eq_nil_of_length_eq_zero hl] at h ⊢
    exact wpAny_pure (h [] s.drawn (.refl _))
  | n+1,[],s,Q,hl,h=>by cases hl
  | n+1,x::r,s,Q,hl,h=>by
    unfold drawOrder
    refine wpAny_bind (wp_choose (by simp) fun i d hi=>?_)
    rw [List.getElem?_eq_getElem hi]
    dsimp only
    refine wpAny_bind (wp_draw n _ _ (by rw [List.length_eraseIdx_of_lt hi]; simp at hl ⊢; exact hl) fun ys d' pm=>wpAny_pure (h _ _ ?_))
    exact (pm.cons _).trans (erase_perm hi)
theorem setNext_T {i slot:Nat} {Q:Option (Value×Nat)→Shared→Prop} (hb:w.params.followText "set-order" = true) (hS:s.heap.get? S=some (setO es ep t)) (hf:t.fits es.size=true)
    (h:Q (((pickOrder (w.params.setOrder S ep) es)[i]?).map fun e=>(e.2,slot)) s):wpAny (model prog w) A (setNext S slot i ep) Q E s:=by
  unfold setNext
  refine wpAny_bind (wpAny_setState_of hS rfl hf ?_)
  dsimp only
  unfold setsByText
  refine wpAny_bind (wpAny_bind (wpAny_askSetting (wpAny_pure ?_)))
  refine wpAny_ite_split (fun _=>?_) fun z=>absurd hb z
  simp only [bne_self_eq_false,Bool.false_eq_true,if_false]
  refine wpAny_bind ?_
  unfold setWalk
  refine wpAny_bind (wpAny_setState_of hS rfl hf ?_)
  dsimp only
  unfold setsByText
  refine wpAny_bind (wpAny_bind (wpAny_askSetting (wpAny_pure ?_)))
  refine wpAny_ite_split (fun _=>?_) fun z=>absurd hb z
  refine wpAny_bind (wpAny_askSetting (wpAny_pure ?_))
  exact wpAny_pure h
theorem setNext_P {i slot:Nat} {Q:Option (Value×Nat)→Shared→Prop} (hb:w.params.followText "set-order" = false) (hd:(!t.plain&&decide (es.size > 1))=false) (hled:t.led=true) (hS:s.heap.get? S=some (setO es ep t)) (hf:t.fits es.size=true)
    (h:Q (match es[SetTable.below t.place slot]?,t.place[SetTable.below t.place slot]? with | some (_,x),some j=>some (x,j+1) | _,_=>none) s):wpAny (model prog w) A (setNext S slot i ep) Q E s:=by
  unfold setNext
  refine wpAny_bind (wpAny_setState_of hS rfl hf ?_)
  dsimp only
  unfold setsByText
  refine wpAny_bind (wpAny_bind (wpAny_askSetting (wpAny_pure ?_)))
  refine wpAny_ite_split (fun z=>?_) fun _=>?_
  · have z:w.params.followText "set-order" = true:=z
    rw [hb] at z; cases z
  refine wpAny_ite_split (fun z=>?_) fun _=>?_
  · have z:(!t.plain&&decide (es.size > 1))=true:=z
    rw [hd] at z; cases z
  refine wpAny_bind ?_
  show wpAny _ _ (if (!t.led&&!es.isEmpty)=true then unsupported "set:maker-not-led" else pure PUnit.unit) _ _ _
  rw [if_neg (by rw [hled]; simp)]
  exact wpAny_pure (wpAny_pure h)
theorem below_zero {xs:Array Nat} (h:Rs xs):SetTable.below xs 0=0:=by
  obtain ⟨b1,b2,_⟩:=below_is h 0
  by_cases c:0<SetTable.below xs 0
  · have:=b2 0 (by omega) c; omega
  · omega
theorem below_succ {xs:Array Nat} (h:Rs xs) {i:Nat} (hi:i<xs.size):SetTable.below xs (xs[i]+1)=i+1:=by
  obtain ⟨b1,b2,b3⟩:=below_is h (xs[i]+1)
  generalize SetTable.below xs (xs[i]+1)=b at *
  by_cases c:b≤i
  · have:=b3 i hi c; omega
  · by_cases d:i+1<b
    · have h1:=b2 (i+1) (by omega) d
      have h2:=h.lt (i:=i) (j:=i+1) (by omega) (by omega)
      omega
    · omega
theorem fits_size {t:SetTable} {n:Nat} (h:t.fits n=true):t.place.size=n:=by
  unfold SetTable.fits at h
  simp at h
  exact h.1
theorem walk_T (hb:w.params.followText "set-order" = true) (hf:t.fits es.size=true) (hne:S≠I) (A':Around) (hh:A'.handled=none) :
    Walks prog w A' I [I,S] [I] es.size (fun i v=>((pickOrder (w.params.setOrder S ep) es).toList.map fun e=>e.2)[i]?=some v) (fun i g=>ItAt g I S es.size ep (.int ((0:Nat):Int) 0) i∧g.get? S=some (setO es ep t)) where
  sub:=fun b hb=>by simp at hb; simp [hb]
  frame:=fun _ _ _ st hk=>⟨st.1.at fun o e=>hk I (by simp) o e,hk S (by simp) _ st.2⟩
  item:=fun i s Q E hi st q=>by
    have hl:i<(pickOrder (w.params.setOrder S ep) es).size:=by
      have:=(pick_perm (w.params.setOrder S ep) es).length_eq
      simp at this; omega
    refine nextS (x:=(pickOrder (w.params.setOrder S ep) es)[i].2) (nx:=0) (t:=t) st.1 st.2 hf (fun E' Q' z=>setNext_T hb st.2 hf (by rw [Array.getElem?_eq_getElem hl]; exact z)) fun g it sb=>?_
    refine q _ g s.toks ?_ ⟨it,(sb.2 S hne).trans st.2⟩ fun b o hb e=>sb.extBut b o (fun z=>hb (by simp [z])) e
    rw [List.getElem?_map,Array.getElem?_toList,Array.getElem?_eq_getElem hl]; rfl
  done:=fun s Q E st q=>by
    refine doneS (t:=t) hh st.1 st.2 hf (fun E' Q' z=>setNext_T hb st.2 hf ?_) fun g ex=>q g s.toks fun b o hb e=>ex b o (fun z=>hb (by simp [z])) e
    rw [Array.getElem?_eq_none (by have:=(pick_perm (w.params.setOrder S ep) es).length_eq; simp at this; omega)]
    exact z
  self:=fun _ _ _ _ st q=>self_setI st.1 q
theorem walk_P (hb:w.params.followText "set-order" = false) (hd:(!t.plain&&decide (es.size > 1))=false) (tg:TabG (ledIn w) t) (hf:t.fits es.size=true) (hne:S≠I) (A':Around) (hh:A'.handled=none) :
    Walks prog w A' I [I,S] [I] es.size (fun i v=>(es.toList.map fun e=>e.2)[i]?=some v) (fun i g=>(∃ sl:Nat,ItAt g I S es.size ep (.int (sl:Int) 0) i∧SetTable.below t.place sl=i)∧g.get? S=some (setO es ep t)) where
  sub:=fun b hb=>by simp at hb; simp [hb]
  frame:=fun _ _ _ st hk=>⟨let ⟨sl,x,y⟩:=st.1; ⟨sl,x.at fun o e=>hk I (by simp) o e,y⟩,hk S (by simp) _ st.2⟩
  item:=fun i s Q E hi st q=>by
    obtain ⟨⟨sl,it0,hbl⟩,hS⟩:=st
    have hled:t.led=true:=by rw [tg.led]; unfold ledIn; rw [hb]; rfl
    have hp:=fits_size hf
    have hip:i<t.place.size:=by omega
    refine nextS (x:=es[i].2) (nx:=t.place[i]+1) (t:=t) it0 hS hf (fun E' Q' z=>setNext_P hb hd hled hS hf ?_) fun g it sb=>?_
    · rw [hbl,Array.getElem?_eq_getElem hi,Array.getElem?_eq_getElem hip]
      exact z
    · refine q _ g s.toks ?_ ⟨⟨_,it,below_succ tg.up hip⟩,(sb.2 S hne).trans hS⟩ fun b o hb e=>sb.extBut b o (fun z=>hb (by simp [z])) e
      rw [List.getElem?_map,Array.getElem?_toList,Array.getElem?_eq_getElem hi]; rfl
  done:=fun s Q E st q=>by
    obtain ⟨⟨sl,it0,hbl⟩,hS⟩:=st
    have hled:t.led=true:=by rw [tg.led]; unfold ledIn; rw [hb]; rfl
    refine doneS (t:=t) hh it0 hS hf (fun E' Q' z=>setNext_P hb hd hled hS hf ?_) fun g ex=>q g s.toks fun b o hb e=>ex b o (fun z=>hb (by simp [z])) e
    rw [hbl,Array.getElem?_eq_none (Nat.le_refl _)]
    exact z
  self:=fun _ _ _ _ st q=>let ⟨_,x,_⟩:=st.1; self_setI x q
theorem walk_D {T:Addr} {ys:List Nat} (hy:ys.Perm (List.range es.size)) (hf:t.fits es.size=true) (hne:S≠I) (hnT:T≠I) (A':Around) (hh:A'.handled=none) :
    Walks prog w A' I [I,S,T] [I] es.size (fun i v=>(ys.map fun p=>(es.getD p (0,.none)).2)[i]?=some v) (fun i g=>ItAt g I S es.size ep (.ref T) i∧g.get? S=some (setO es ep t)∧g.get? T=some (seqObj "tuple" (ys.map fun (i:Nat)=>rawInt (i:Int)).toArray 0)) where
  sub:=fun b hb=>by simp at hb; simp [hb]
  frame:=fun _ _ _ st hk=>⟨st.1.at fun o e=>hk I (by simp) o e,hk S (by simp) _ st.2.1,hk T (by simp) _ st.2.2⟩
  item:=fun i s Q E hi st q=>by
    have hl:i<ys.length:=by rw [hy.length_eq,List.length_range]; exact hi
    have hp:ys[i]<es.size:=List.mem_range.mp (hy.mem_iff.mp (List.getElem_mem hl))
    refine nextD (p:=ys[i]) (tk:=0) (x:=es[ys[i]].2) (hx:=es[ys[i]].1) (t:=t) st.1 st.2.1 hf st.2.2 (by simp [hl,rawInt]) (Array.getElem?_eq_getElem hp) fun g it sb=>?_
    refine q _ g s.toks ?_ ⟨it,(sb.2 S hne).trans st.2.1,(sb.2 T hnT).trans st.2.2⟩ fun b o hb e=>sb.extBut b o (fun z=>hb (by simp [z])) e
    rw [List.getElem?_map,List.getElem?_eq_getElem hl]
    simp [Array.getD,hp]
  done:=fun s Q E st q=>by
    refine doneD (t:=t) hh st.1 st.2.1 hf st.2.2 ?_ fun g ex=>q g s.toks fun b o hb e=>ex b o (fun z=>hb (by simp [z])) e
    have:ys.length=es.size:=by rw [hy.length_eq,List.length_range]
    simp [this]
  self:=fun _ _ _ _ st q=>self_setI st.1 q
theorem iter_set (hS:s.heap.get? S=some (setO es ep t)) (hf:t.fits es.size=true) (tg:TabG (ledIn w) t) (hsz:es.size≤sizeLine) {Q:Value→Shared→Prop}
    (h:∀ (g:Heap) (d:Drawn) (I:Addr) (ord:List Value) (fp:List Addr) (St:Nat→Heap→Prop),ord.Perm (es.toList.map fun e=>e.2)→(∀ b o,s.heap.get? b=some o→g.get? b=some o)→(∀ b∈fp,b<s.heap.objs.size→b=S)→(∀ b∈fp,b<g.objs.size)→s.heap.objs.size≤I →
      (∀ A':Around,A'.handled=none→Walks prog w A' I fp [I] es.size (fun i v=>ord[i]?=some v) St)→St 0 g→Q (.ref I) { s with heap:=g,drawn:=d }):wpAny (model prog w) A (pyIter (.ref S)) Q E s:=by
  have ty:s.TypeIs (.ref S) "set" := ⟨_,hS,rfl⟩
  have lS:S<s.heap.objs.size:=Heap.lt_size hS
  refine wpAny_pyIter_slot ty PySem.F.slot_set_iter (wpAny_call_entry PySem.F.slot_set_iter ty en_set_iter ?_ (PySem.F.args_set_iter_1 _))
  unfold Builtin.«frozenset.__iter__»
  refine wpAny_bind ?_
  unfold Builtin.Frozenset.slot0
  refine wpAny_bind (wpAny_pure (wpAny_pure ?_))
  refine wpAny_bind ?_
  unfold Builtin.Frozenset.sizeOf
  refine wpAny_bind (wpAny_setEntries_of hS rfl hf (wpAny_pure ?_))
  refine wpAny_bind ?_
  unfold setDrawn
  refine wpAny_bind (wpAny_setState_of hS rfl hf ?_)
  dsimp only
  unfold setsByText
  refine wpAny_bind (wpAny_bind (wpAny_askSetting (wpAny_pure ?_)))
  refine wpAny_pure ?_
  have nI:S≠s.heap.objs.size:=Nat.ne_of_lt lS
  refine wpAny_ite_split (fun z=>?_) fun z=>?_
  · refine wpAny_bind (wp_draw es.size (List.range es.size) _ (by simp) fun ys d pm=>?_)
    simp only [newTuple]
    refine wpAny_bind (wpAny_newObj_type ?_ (by show (ys.map fun (i:Nat)=>rawInt (i:Int)).toArray.size≤sizeLine; simp [pm.length_eq]; exact hsz))
    have hS1:(s.heap.push (seqObj "tuple" (ys.map fun (i:Nat)=>rawInt (i:Int)).toArray 0)).get? S=some (setO es ep t):=Heap.get?_push_of_some _ hS
    have hT1:(s.heap.push (seqObj "tuple" (ys.map fun (i:Nat)=>rawInt (i:Int)).toArray 0)).get? s.heap.objs.size=some (seqObj "tuple" (ys.map fun (i:Nat)=>rawInt (i:Int)).toArray 0):=Heap.get?_push_size _ rfl
    have zz:(s.heap.push (seqObj "tuple" (ys.map fun (i:Nat)=>rawInt (i:Int)).toArray 0)).objs.size=s.heap.objs.size+1:=size_push' ..
    have kp:∀ b o,s.heap.get? b=some o→(s.heap.push (seqObj "tuple" (ys.map fun (i:Nat)=>rawInt (i:Int)).toArray 0)).get? b=some o:=fun b o e=>Heap.get?_push_of_some _ e
    show wpAny _ _ _ _ _ { s with heap:=s.heap.push (seqObj "tuple" (ys.map fun (i:Nat)=>rawInt (i:Int)).toArray 0),drawn:=d }
    generalize s.heap.push (seqObj "tuple" (ys.map fun (i:Nat)=>rawInt (i:Int)).toArray 0)=g1 at *
    refine wpAny_bind ?_
    unfold setEpoch
    refine wpAny_bind (wpAny_setState_of hS1 rfl hf (wpAny_pure ?_))
    unfold newFields
    refine wpAny_bind (wpAny_newObj_type ?_ (by size_fits))
    refine wpAny_pure ⟨_,rfl, "set_iterator", _,⟨_,Heap.get?_push_size _ rfl,rfl⟩,sl_setI_next.lookup,?_⟩
    have n1:S≠g1.objs.size:=by rw [zz]; exact Nat.ne_of_lt (Nat.lt_succ_of_lt lS)
    have n2:s.heap.objs.size≠g1.objs.size:=by rw [zz]; exact Nat.ne_of_lt (Nat.lt_succ_self _)
    refine h _ d g1.objs.size (ys.map fun p=>(es.getD p (0,.none)).2) [g1.objs.size,S,s.heap.objs.size] _ ?_ (fun b o e=>Heap.get?_push_of_some _ (kp b o e)) (fun b hb lt=>?_) (fun b hb=>?_) (by rw [zz]; exact Nat.le_succ _) (fun A' hh=>walk_D (t:=t) (ep:=ep) pm hf n1 n2 A' hh) ⟨⟨_,Heap.get?_push_size _ rfl,rfl,rfl⟩,Heap.get?_push_of_some _ hS1,Heap.get?_push_of_some _ hT1⟩
    · refine (pm.map _).trans (List.Perm.of_eq ?_)
      refine List.ext_getElem (by simp) fun i h1 h2=>?_
      have hi:i<es.size:=by simpa using h1
      simp [Array.getD,hi]
    · simp only [List.mem_cons,List.not_mem_nil,or_false] at hb
      rcases hb with rfl | rfl | rfl
      · rw [zz] at lt; exact absurd lt (Nat.not_lt.mpr (Nat.le_succ _))
      · rfl
      · exact absurd lt (Nat.lt_irrefl _)
    · rw [size_push',zz]
      simp only [List.mem_cons,List.not_mem_nil,or_false] at hb
      rcases hb with rfl | rfl | rfl
      · rw [zz]; exact Nat.lt_succ_self _
      · exact Nat.lt_succ_of_lt (Nat.lt_succ_of_lt lS)
      · exact Nat.lt_succ_of_lt (Nat.lt_succ_self _)
  · refine wpAny_bind (wpAny_pure ?_)
    refine wpAny_bind ?_
    unfold setEpoch
    refine wpAny_bind (wpAny_setState_of hS rfl hf (wpAny_pure ?_))
    unfold newFields
    refine wpAny_bind (wpAny_newObj_type ?_ (by size_fits))
    refine wpAny_pure ⟨_,rfl, "set_iterator", _,⟨_,Heap.get?_push_size _ rfl,rfl⟩,sl_setI_next.lookup,?_⟩
    have fpl:∀ b∈[s.heap.objs.size,S],b<s.heap.objs.size→b=S:=fun b hb lt=>by
      simp only [List.mem_cons,List.not_mem_nil,or_false] at hb
      rcases hb with rfl | rfl
      · exact absurd lt (Nat.lt_irrefl _)
      · rfl
    have fpt:∀ (o:Obj),∀ b∈[s.heap.objs.size,S],b<(s.heap.push o).objs.size:=fun o b hb=>by
      rw [size_push']
      simp only [List.mem_cons,List.not_mem_nil,or_false] at hb
      rcases hb with rfl | rfl
      · exact Nat.lt_succ_self _
      · exact Nat.lt_succ_of_lt lS
    cases hb:w.params.followText "set-order" with
    | true =>
      refine h _ s.drawn s.heap.objs.size ((pickOrder (w.params.setOrder S ep) es).toList.map fun e=>e.2) [s.heap.objs.size,S] _ ((pick_perm _ _).map _) (fun b o e=>Heap.get?_push_of_some _ e) fpl (fpt _) (Nat.le_refl _) (fun A' hh=>walk_T (t:=t) hb hf nI A' hh) ⟨⟨_,Heap.get?_push_size _ rfl,rfl,rfl⟩,Heap.get?_push_of_some _ hS⟩
    | false =>
      have hd:(!t.plain&&decide (es.size > 1))=false:=by
        have z:¬ ((!w.params.followText "set-order" && (!t.plain&&decide (es.size > 1)))=true):=z
        rw [hb] at z
        simpa using z
      refine h _ s.drawn s.heap.objs.size (es.toList.map fun e=>e.2) [s.heap.objs.size,S] _ (.refl _) (fun b o e=>Heap.get?_push_of_some _ e) fpl (fpt _) (Nat.le_refl _) (fun A' hh=>walk_P (t:=t) (ep:=ep) hb hd tg hf nI A' hh) ⟨⟨0,⟨_,Heap.get?_push_size _ rfl,rfl,rfl⟩,below_zero tg.up⟩,Heap.get?_push_of_some _ hS⟩
end
end L2
namespace L2
open PySem PySem.Spec PyProof.Rows VL
section
variable {prog:Program} {w:World} {A:Around} {E:Value→Shared→Prop} {s:Shared} {S:Addr} {ep:Nat} {es:Array (Int×Value)} {t:SetTable}
theorem hint_set {Q:Bool→Shared→Prop} (ty:s.TypeIs (.ref S) "set") (q:Q false s):wpAny (model prog w) A (Builtin.List.listLengthHint (.ref S)) Q E s:=by
  unfold Builtin.List.listLengthHint
  refine wpAny_bind (wpAny_specialOf ty PySem.F.slot_set_len.lookup ?_)
  generalize hi:("set.__len__" : String)=i0
  wp_delta
  rw [show splitId i0=some ("set", "__len__") from by subst hi; decide +kernel]
  subst hi
  refine wpAny_bind (wpAny_isInstance (T := "set") (b:=true) ty (by rw [isSubtype_type]; kernel_rfl) ?_)
  refine wpAny_ite_split (fun z=>absurd z (by decide)) fun _=>?_
  refine wpAny_ite_split (fun _=>?_) fun z=>absurd (by decide +kernel) z
  exact wpAny_bind (wpAny_typeOf ty (wpAny_pure q))
theorem extend_set (hh:A.handled=none) (hS:s.heap.get? S=some (setO es ep t)) (hf:t.fits es.size=true) (tg:TabG (ledIn w) t) (hsz:es.size≤sizeLine) {L:Addr} (hL:s.heap.get? L=some (seqObj "list" #[] 0)) {R:Result→Shared→Prop}
    (h:∀ (g:Heap) (tk:Nat) (d:Drawn) (acc:Array Value) (c:Nat),acc.toList.Perm (es.toList.map fun e=>e.2)→g.get? L=some (seqObj "list" acc c)→(∀ b o,b≠L→s.heap.get? b=some o→g.get? b=some o)→R (.ok (.ret (.ref L))) { s with heap:=g,toks:=tk,drawn:=d }) :
    wpAny (model prog w) A.in1 (Builtin.List.listExtendWith (.ref L) (.ref S) (.ref L)) (fun fin u=>match fin with | .done f=>R (.ok f) u | .again c=>c.quiet=true∧codeAny (model prog w) A c R u) (fun e u=>R (.error e) u) s:=by
  have ty:s.TypeIs (.ref S) "set" := ⟨_,hS,rfl⟩
  have ne:L≠S:=fun z=>by
    rw [z,hS] at hL
    have q:Value.type "set" = Value.type "list" := congrArg Obj.cls (Option.some.inj hL)
    injection q with q
    exact absurd q (by decide)
  unfold Builtin.List.listExtendWith
  refine wpAny_bind (wpAny_typeOf ty ?_)
  have n1:Builtin.List.listSameRef (.ref L) (.ref S)=false:=by simp [Builtin.List.listSameRef,ne]
  have n2:(Value.type "set" == Value.type "list")=false:=by decide
  have n3:(Value.type "set" == Value.type "tuple")=false:=by decide
  simp only [n1,n2,n3,Bool.or_false,Bool.false_eq_true,if_false]
  refine wpAny_bind (iter_set hS hf tg hsz fun g d I ord fp St pm kp fpl fpt hI W st=>?_)
  have W:=W A.in1 hh
  have hL1:=kp _ _ hL
  have nL:L∉fp:=fun z=>ne (fpl L z (Heap.lt_size hL))
  have key:∀ (g2:Heap) (c1 tk:Nat),St 0 g2→(∀ b o,b≠L→s.heap.get? b=some o→g2.get? b=some o)→g2.get? L=some (seqObj "list" #[] c1)→codeAny (model prog w) A (.builtin "list.extend.loop" ⟨[.ref L,.ref I,.ref L],[]⟩) R { s with heap:=g2,toks:=tk,drawn:=d }:=by
    intro g2 c1 tk hst hk hL2
    refine codeAny_extend_loopS W.toS hsz L nL (.ref L) es.size 0 _ #[] c1 rfl (Nat.zero_le _) hst hL2 (ItemsOf.nil _) fun u acc c mv hu hacc=>?_
    rw [Moved.eq_with mv]
    refine h u.heap u.toks d acc c ?_ hu fun b o hb e=>mv.heap b o (fun z=>?_) (hk b o hb e)
    · have e:acc.toList=ord:=by
        refine List.ext_getElem? fun j=>?_
        have hl:ord.length=es.size:=by rw [pm.length_eq]; simp
        by_cases c:j<es.size
        · rw [Array.getElem?_toList,Array.getElem?_eq_getElem (by rw [hacc.1]; exact c)]
          exact (hacc.2 j _ (Array.getElem?_eq_getElem (by rw [hacc.1]; exact c))).symm
        · rw [List.getElem?_eq_none (by rw [Array.length_toList,hacc.1]; omega),List.getElem?_eq_none (by omega)]
      rw [e]; exact pm
    · rcases List.mem_cons.mp z with z | z
      · exact hb z
      · have:=Heap.lt_size e
        rw [List.mem_singleton.mp z] at this
        exact absurd (Nat.lt_of_lt_of_le this hI) (Nat.lt_irrefl _)
  refine wpAny_bind (wpAny_holding (hint_set ⟨_,kp _ _ hS,rfl⟩ ?_))
  refine wpAny_ite_split (fun _=>?_) fun _=>wpAny_pure ⟨plainId_quiet PySem.F.plain_extend_loop _,key g 0 s.toks st (fun b o _ e=>kp b o e) hL1⟩
  refine wpAny_bind (wpAny_rule (wpAny_bind ?_))
  show wpAny _ _ (updateSeq L (·.push .none) >>= fun _=>updateSeq L (·.pop)) _ _ _
  have hL2:(g.update L (Obj.mapSeq (·.push Value.none))).get? L=some _:=Heap.get?_update_self _ hL1 rfl
  refine wpAny_bind (wpAny_updateSeq hL1 rfl ?_)
  refine wpAny_updateSeq (hz:=by seq_fits) hL2 rfl ?_
  have hL3:((g.update L (Obj.mapSeq (·.push Value.none))).update L (Obj.mapSeq (·.pop))).get? L=some _:=Heap.get?_update_self _ hL2 rfl
  have oth:∀ b o,b≠L→g.get? b=some o→((g.update L (Obj.mapSeq (·.push Value.none))).update L (Obj.mapSeq (·.pop))).get? b=some o:=fun b o hb e=>(Heap.get?_update_other _ _ (Ne.symm hb)).trans ((Heap.get?_update_other _ _ (Ne.symm hb)).trans e)
  exact wpAny_pure ⟨plainId_quiet PySem.F.plain_extend_loop _,key _ _ _ (W.frame 0 _ _ st fun b hb o e=>oth b o (fun z=>nL (z ▸ hb)) e) (fun b o hb e=>oth b o hb (kp b o e)) hL3⟩
theorem collect_set (hh:A.handled=none) (hS:s.heap.get? S=some (setO es ep t)) (hf:t.fits es.size=true) (tg:TabG (ledIn w) t) (hsz:es.size≤sizeLine) {R:List Value→Shared→Prop}
    (h:∀ (g:Heap) (tk:Nat) (d:Drawn) (vs:List Value),vs.Perm (es.toList.map fun e=>e.2)→(∀ b o,s.heap.get? b=some o→g.get? b=some o)→s.heap.objs.size<g.objs.size→R vs { s with heap:=g,toks:=tk,drawn:=d }):wpAny (model prog w) A (collect (.ref S)) R E s:=by
  unfold collect
  refine wpAny_bind (wpAny_runValue (codeAny_builtin entry_proto_collect' ?_))
  rw [Around.under_plainId PySem.F.plain_proto_collect _]
  show wpAny _ A.in1 (newList [] >>= fun v=>again (.builtin "list.__iadd__" ⟨[v,.ref S],[]⟩)) _ _ _
  refine wpAny_bind (wpAny_newObj_type ?_)
  refine wpAny_pure ⟨plainId_quiet PySem.F.plain_list_iadd _,codeAny_builtin entry_list_iadd' ?_⟩
  rw [Around.under_plainId PySem.F.plain_list_iadd _]
  have hL:(s.heap.push (seqObj "list" #[] 0)).get? s.heap.objs.size=some (seqObj "list" #[] 0):=Heap.get?_push_size _ rfl
  show wpAny _ A.in1 (Builtin.List.listExtendWith (.ref s.heap.objs.size) (.ref S) (.ref s.heap.objs.size)) _ _ { s with heap:=s.heap.push (seqObj "list" #[] 0) }
  have key:=extend_set (prog:=prog) (w:=w) (A:=A) (s:={ s with heap:=s.heap.push (seqObj "list" #[] 0) }) hh (Heap.get?_push_of_some _ hS) hf tg hsz hL (R:=fun (q:Result) (u:Shared)=>∃ (g:Heap) (tk:Nat) (d:Drawn) (acc:Array Value) (c:Nat),q=.ok (.ret (.ref s.heap.objs.size))∧u={ s with heap:=g,toks:=tk,drawn:=d }∧acc.toList.Perm (es.toList.map fun e=>e.2)∧g.get? s.heap.objs.size=some (seqObj "list" acc c)∧∀ b o,s.heap.get? b=some o→g.get? b=some o)
    fun g tk d acc c pm hg kp=>⟨g,tk,d,acc,c,rfl,rfl,pm,hg,fun b o e=>kp b o (Nat.ne_of_lt (Heap.lt_size e)) (Heap.get?_push_of_some _ e)⟩
  refine wpAny_mono key (fun fin u x=>?_) fun e u x=>?_
  · cases fin with
    | done f =>
      obtain ⟨g,tk,d,acc,c,e,rfl,pm,hg,kp⟩:=x
      cases e
      refine wpAny_bind (wpAny_load hg ?_)
      exact wpAny_pure (h g tk d _ pm kp (Heap.lt_size hg))
    | again c1 =>
      refine ⟨x.1,codeAny_mono x.2 fun q u2 y=>?_⟩
      obtain ⟨g,tk,d,acc,c,rfl,rfl,pm,hg,kp⟩:=y
      refine wpAny_bind (wpAny_load hg ?_)
      exact wpAny_pure (h g tk d _ pm kp (Heap.lt_size hg))
  · obtain ⟨_,_,_,_,_,e',_⟩:=x
    cases e'
theorem vals_of {l:List (Int×Value)} (h:∀ e∈l,OkE e):∀ {vs:List Value},vs.Perm (l.map fun e=>e.2)→∃ ns:List Int,IntsAre vs ns∧ns.Perm (l.map keyOf):=by
  have hv:∀ vs:List Value,(∀ v∈vs,∃ k t,v=.int k t)→IntsAre vs (vs.map fun v=>match v with | .int k _=>k | _=>0):=by
    intro vs
    induction vs with
    | nil=>intro _; exact .nil
    | cons v r ih =>
      intro hz
      obtain ⟨k,t,rfl⟩:=hz v List.mem_cons_self
      exact .cons k t (ih fun u hu=>hz u (List.mem_cons_of_mem _ hu))
  intro vs pm
  refine ⟨_,hv vs fun v z=>?_,?_⟩
  · obtain ⟨e,he,rfl⟩:=List.mem_map.mp (pm.mem_iff.mp z)
    obtain ⟨k,t,rfl⟩:=h e he
    exact ⟨k,t,rfl⟩
  · have:=pm.map fun v=>match v with | .int k _=>k | _=>(0:Int)
    rw [List.map_map] at this
    exact this
theorem sorted_set (hh:A.handled=none) {ks:List Int} (hS:SetI (ledIn w) s.heap S ks) (hl:ks.length<64) {Q:Value→Shared→Prop}
    (h:∀ (g:Heap) (tk:Nat) (d:Drawn) (D:Addr) (out:List Value) (ms:List Int) (c:Nat),IntsAre out ms→ms.Perm ks→ms.Pairwise (·≤·)→s.heap.objs.size≤D→g.get? D=some (seqObj "list" out.toArray c)→(∀ b o,s.heap.get? b=some o→g.get? b=some o)→Q (.ref D) { s with heap:=g,toks:=tk,drawn:=d }):wpAny (model prog w) A (call (.builtin "sorted") [.ref S]) Q E s:=by
  obtain ⟨es,ep,t,ho,hok,rfl,hf,tg⟩:=hS
  have hline:sizeLine=16777216:=sizeLine_eq
  rw [List.length_map,Array.length_toList] at hl
  refine Calls.call_function_entry kind_sorted plain_sorted entry_sorted (args_sorted1 _) ?_
  unfold Builtin.«sorted»
  refine wpAny_bind (m:=checkCount "sorted" 1 1 _) (wpAny_pure ?_)
  refine wpAny_bind (collect_set (A:=A.in1) hh ho hf tg (by omega) fun g tk d vs pm kp big=>?_)
  obtain ⟨ns,hi,pn⟩:=vals_of hok pm
  have hvl:vs.length<64:=by rw [pm.length_eq,List.length_map,Array.length_toList]; exact hl
  refine wpAny_bind (wpAny_newList ?_ (by omega))
  have hD:(g.push (seqObj "list" vs.toArray 0)).get? g.objs.size=some (seqObj "list" vs.toArray 0):=Heap.get?_push_size _ rfl
  show wpAny _ _ _ _ _ { s with heap:=g.push (seqObj "list" vs.toArray 0),toks:=tk,drawn:=d }
  refine wpAny_bind (wpAny_holding (wpAny_call_entry slot_list_sort ⟨_,hD,rfl⟩ entry_list_sort (list_sort_tree hD hi hvl fun out ms a1 a2 a3=>⟨_,rfl,?_⟩) (args_list_sort _)))
  obtain ⟨c,hc⟩:=sortedHeap_at (out:=out) hD
  exact wpAny_pure ⟨_,rfl,h _ tk d g.objs.size out.toList ms c a1 (a2.trans pn) a3 (Nat.le_of_lt big) (by rw [Array.toArray_toList]; exact hc) fun b o e=>(sortedHeap_old (Nat.ne_of_lt (Heap.lt_size (kp b o e))) (by rw [size_push']; exact Nat.lt_succ_of_lt (Heap.lt_size (kp b o e)))).trans (Heap.get?_push_of_some _ (kp b o e))⟩
end
end L2
namespace L2
open PySem PySem.Spec PyProof.Rows VL
theorem Inv.drw {X:Cx} {pins:List (Addr×Obj)} {σ:St} {H:Hp} {s:Shared} {d:Drawn} (I:Inv X pins σ H s):Inv X pins σ H { s with drawn:=d }:=⟨I.ok,I.os,I.bare,I.base,I.loc,I.cell,I.free,I.freeC,I.pin,I.hok,I.len⟩
def SrtS (ns ms:List Int):Prop:=ms.Nodup∧(∀ x,x∈ms↔x∈ns)∧ms.Pairwise (·≤·)
def tSrtS (K:PySem.W.Frag) (ta:TE):TE:=fun σ H Q=>ta σ H fun v H1=>∃ (a:Addr) (ns:List Int),v=.ref a∧SqL K H1 a (ns.map V.int)∧ns.length<64∧∀ ms,SrtS ns ms→∀ D,H1 D=none→Q (.ref D) (upd H1 D (.lst (ms.map V.int)))
theorem pe_srtSet {X:Cx} {K:PySem.W.Frag} {a:Expr} {ta:TE} {p1 p2 q1 q2:Pos} (hK:X.K=K) (hc:X.calm=true) (hg1:Gl X "sorted") (hm1:X.mg "sorted" = none) (hg2:Gl X "set") (hm2:X.mg "set" = none) (ha:PE X a ta)
    (e1:starEach [.Call (.Name "set" p2) [a] [] q2] X.env=[(false,eval (.Call (.Name "set" p2) [a] [] q2) X.env)]:=by rfl) (e2:starEach [a] X.env=[(false,eval a X.env)]:=by rfl) :
    PE X (.Call (.Name "sorted" p1) [.Call (.Name "set" p2) [a] [] q2] [] q1) (tSrtS K ta):=by
  subst hK
  intro pins s σ H Q I h
  have hh:=I.ok.hd hc
  refine wpAny_Call_Name_kw (ld_blt I hg1 hm1 bt_sorted ?_ (by decide) (by decide))
  refine PyProof.Rows.callWith_builtin1 (rest:=[]) ?_ (by rw [e1]; rfl) rfl
  rw [e1]
  show wpAny _ _ (spliced [(false,eval (.Call (.Name "set" p2) [a] [] q2) X.env)]) _ _ s
  refine Calls.spliced_cons ?_
  refine wpAny_Call_Name_kw (ld_blt I hg2 hm2 bt_set ?_ (by decide) (by decide))
  refine PyProof.Rows.callWith_type1 (rest:=[]) ?_ (by rw [e2]; rfl) rfl
  refine thn (pa_cons ha pa_nil (hs:=by rw [e2]; rfl) q2 pins s σ H (fun xs H1=>match xs with
    | [v]=>∃ (a:Addr) (ns:List Int),v=.ref a∧SqL X.K H1 a (ns.map V.int)∧ns.length<64∧∀ ms,SrtS ns ms→∀ D,H1 D=none→Q (.ref D) (upd H1 D (.lst (ms.map V.int)))
    | _=>False) I h) fun us s1 ⟨vs0,H1,I1,r1,z1⟩=>?_
  match vs0,z1 with
  | [v],z1 =>
  obtain ⟨b,ns,rfl,hq,hl,hQ⟩:=z1
  cases r1 with
  | cons r1 r2 =>
  cases r2
  cases (show _=Value.ref b from r1)
  obtain ⟨its,rv,pl,_⟩:=I1.list hq
  have hi:=intsAre_of rv
  have hil:its.length=ns.length:=by rw [← rv.length,List.length_map]
  have hsb:scanBound=4096:=rfl
  refine call_set hh pl.isList (by simpa using hi) (by rw [List.size_toArray]; omega) fun g tk ks hS ho kp=>?_
  refine Calls.spliced_nil ?_
  have I2:Inv X pins σ H1 { s1 with heap:=g,toks:=tk }:=I1.kept fun b u e=>kp b u (Heap.lt_size e) e
  have hkl:=ho.len
  rw [List.size_toArray] at hkl
  refine sorted_set hh hS (by omega) fun g2 tk2 d D out ms c i1 pm up big hD kp2=>?_
  have hml:ms.length=ks.length:=pm.length_eq
  have I3:=I2.laid (a:=D) (o:=.lst (ms.map V.int)) (t':=tk2) kp2 big ⟨by rw [List.length_map,hml]; have:=sizeLine_eq; omega,out,c,vals_ints i1,hD⟩
  refine ⟨.ref D,upd H1 D (.lst (ms.map V.int)),I3.drw,rfl,hQ ms ⟨pm.nodup_iff.mpr ho.nd,fun x=>?_,up⟩ D (I2.hok.fresh big)⟩
  rw [pm.mem_iff,ho.mem,List.size_toArray]
  constructor
  · rintro ⟨j,hj,e⟩
    rw [← e]
    show ns.getD j 0∈ns
    rw [List.getD_eq_getElem?_getD,List.getElem?_eq_getElem (by omega)]
    exact List.getElem_mem _
  · intro hx
    obtain ⟨j,hj,e⟩:=List.getElem_of_mem hx
    exact ⟨j,by omega,by rw [List.getD_eq_getElem?_getD,List.getElem?_eq_getElem hj]; exact e⟩
end L2
namespace VL
open PySem L2
open Classical
noncomputable section
variable [Tabs] {K:PySem.W.Frag}
omit [Tabs] in
theorem srtS_uniq {ns a b:List Int} (h1:SrtS ns a) (h2:SrtS ns b):a=b:=by
  refine List.Perm.eq_of_pairwise (fun x y _ _ p q=>by omega) h1.2.2 h2.2.2 ?_
  refine (List.perm_ext_iff_of_nodup h1.1 h2.1).mpr fun x=>(h1.2.1 x).trans (h2.2.1 x).symm
noncomputable def dSrtS (a:DE):Rho→Option (List D):=fun ρ=>match asL a ρ with
  | some ds=>(match asInts ds with
    | some ns=>if h:ns.length<64∧∃ ms,SrtS ns ms then some ((h.2.choose).map D.int) else none
    | none=>none)
  | none=>none
omit [Tabs] in
theorem dSrtS_of {a:DE} {ρ:Rho} {ns ms:List Int} (h:asL a ρ=some (ns.map D.int)) (hl:ns.length<64) (hm:SrtS ns ms):dSrtS a ρ=some (ms.map D.int):=by
  have hh:ns.length<64∧∃ ms,SrtS ns ms:=⟨hl,ms,hm⟩
  unfold dSrtS
  rw [h]
  dsimp only
  rw [asInts_map]
  dsimp only
  rw [dif_pos hh,srtS_uniq hh.2.choose_spec hm]
theorem sf_srtS {ta:TE} {a:DE} (ha:SemB K ta a):SemF K (tSrtS K ta) (dSrtS a):=fun {B Z os ρ σ H Q es} f q k=>by
  unfold dSrtS at q
  split at q
  · rename_i ds e0
    split at q
    · rename_i ns e1
      split at q
      · rename_i hh
        cases q
        obtain ⟨d,e0,ed⟩:=asL_some e0
        refine ha f e0 fun v H1 s1 i1=>?_
        obtain ⟨p,vs,rfl,hlv,hn,hr⟩:=i1.seq ed
        obtain ⟨hq,il⟩:=hr H1 _ Kp.refl
        have ei:=asInts_some e1
        subst ei
        have ev:=IsL.ints il
        subst ev
        refine ⟨p,ns,rfl,hq,hh.1,fun ms hm D hD=>?_⟩
        rw [srtS_uniq hm hh.2.choose_spec]
        have hs:sizeLine=16777216:=sizeLine_eq
        have hlen:hh.2.choose.length≤ns.length:=by
          have sp:=hh.2.choose_spec
          exact List.Nodup.length_le_of_subset sp.1 fun x hx=>(sp.2.1 x).mp hx
        exact k D _ _ (s1.trans (same_new hD)) (Same.free s1 hD) upd_same (by rw [List.length_map]; have:=hh.1; omega) (.ofInts _)
      · cases q
    · cases q
  · cases q
theorem srtS_ex:∀ ns:List Int,∃ ms,SrtS ns ms:=by
  intro ns
  have key:∀ l:List Int,∃ ms:List Int,ms.Nodup∧∀ x,x∈ms↔x∈l:=by
    intro l
    induction l with
    | nil=>exact ⟨[],List.nodup_nil,fun x=>Iff.rfl⟩
    | cons y r ih =>
      obtain ⟨ms,h1,h2⟩:=ih
      by_cases c:y∈ms
      · refine ⟨ms,h1,fun x=>?_⟩
        rw [h2,List.mem_cons]
        constructor
        · exact .inr
        · rintro (rfl | z)
          · exact (h2 _).mp c
          · exact z
      · exact ⟨y::ms,List.nodup_cons.mpr ⟨c,h1⟩,fun x=>by rw [List.mem_cons,List.mem_cons,h2]⟩
  obtain ⟨ms,h1,h2⟩:=key ns
  exact ⟨srtI ms,(srtI_perm ms).nodup_iff.mpr h1,fun x=>by rw [(srtI_perm ms).mem_iff]; exact h2 x,srtI_up ms⟩
end
end VL
namespace VL
open PySem L2
open Classical
noncomputable section
variable [Tabs] {K:PySem.W.Frag}
def rotx:HO→HO
  | .lst (x::xs)=>.lst (xs++[x])
  | o=>o
def rotL (l:List D):List D:=match l with
  | x::r=>r++[x]
  | []=>[]
@[irreducible] noncomputable def sRotR (i r:Nat):DS:=fun ρ=>match ρ.getD i .un with
  | .om rows=>if r < ρ.length∧i≠r∧∀ x∈rows,x≠[] then .nx ((ρ.set i (.om (rows.map rotL))).set r .un) else .no
  | _=>.no
theorem ss_rotR {fr:Fm} {i r:Nat}:SemS fr K (tFor (iList K (tVar i)) (gName r) (tDrop (tBM K "list" rAppend (tVar r) (tCons (tBM K "list" rPopAt (tVar r) (tCons (tC (.int 0)) tNil)) tNil)))) (sRotR i r):=fun {B Z os ρ σ H E} f p=>by
  unfold sRotR at p
  split at p
  case h_2=>exact p.elim
  case h_1 rows e =>
    split at p
    case isFalse=>exact p.elim
    case isTrue hc =>
      obtain ⟨hr,hir,hsm⟩:=hc
      obtain ⟨o,ps,eo,hu,hH,hl,hln,pr⟩:=om_of f e
      have hi:=getD_lt e (by intro z; cases z)
      have hn:=f.nd i
      rw [eo] at hn
      have rl:r < σ.length:=by rw [f.len]; exact hr
      have hop:o∉ps:=(List.nodup_cons.mp hn).1
      have hnp:ps.Nodup:=(List.nodup_cons.mp hn).2
      have rowK:∀ k q,ps[k]?=some q→∃ v vs,H q=some (.lst (v::vs))∧vs.length<sizeLine:=fun k q hq=>by
        have hk:k<ps.length:=(List.getElem?_eq_some_iff.mp hq).1
        obtain ⟨q',hq',vs,h1,h2,h3⟩:=VL.Paired.getF pr (List.getElem?_eq_getElem (show k<rows.length by omega))
        rw [hq] at hq'
        cases hq'
        have hne:=hsm _ (List.getElem_mem (show k<rows.length by omega))
        cases vs with
        | nil =>
          cases h3l:rows[k]'(by omega) with
          | nil=>exact absurd h3l hne
          | cons y ys=>rw [h3l] at h3; cases h3
        | cons v vs=>exact ⟨v,vs,h1,by rw [List.length_cons] at h2; omega⟩
      refine ⟨_,join_some hu,o,rfl,⟨_,SqL.of hH⟩,fun k m σ' H'=>m=ps.length-k∧k≤ps.length∧(∀ a,H' a=if a∈ps.take k then (H a).map rotx else H a)∧Ag [r,r] σ σ',⟨ps.length,by omega,by omega,fun a=>by simp,Ag.refl⟩,?_⟩
      rintro k m σ1 H1 ⟨rfl,hk,h1,ag⟩
      have hH1:H1 o=some (.lst (ps.map V.ref)):=by rw [h1,if_neg fun z=>hop (List.mem_of_mem_take z)]; exact hH
      by_cases hkl:k<ps.length
      · right
        obtain ⟨q,hq⟩:∃ q,ps[k]?=some q:=⟨_,List.getElem?_eq_getElem hkl⟩
        obtain ⟨v,vs,hv,hvl⟩:=rowK k q hq
        have tk:ps.take (k+1)=ps.take k++[q]:=by rw [List.take_succ,hq]; rfl
        have qn:q∉ps.take k:=fun z=>by
          have:=List.Nodup.sublist (List.take_sublist (k+1) ps) hnp
          rw [tk,List.nodup_append] at this
          exact this.2.2 q z q (by simp) rfl
        refine ⟨⟨ps.map V.ref,.ref q,SqL.of hH1,by rw [List.getElem?_map,hq]; rfl⟩,fun σ' H'=>(∀ a,H' a=if a∈ps.take (k+1) then (H a).map rotx else H a)∧Ag [r,r] σ σ',fun σ' H' h=>⟨ps.length-(k+1),by omega,rfl,by omega,h.1,h.2⟩,?_⟩
        rintro x H' ⟨rfl,hx⟩
        have hx:=hx _ (SqL.of hH1)
        rw [List.getElem?_map,hq] at hx
        cases hx
        have ag2:=ag.set (v:=some (V.ref q)) (i:=r) (by simp)
        have hq1:H' q=some (HO.lst (v::vs)):=by rw [h1,if_neg qn]; exact hv
        have hgt:(σ1.set r (some (V.ref q)))[r]?=some (some (V.ref q)):=List.getElem?_set_self (by rw [ag.1]; exact rl)
        refine ⟨.ref q,hgt,.inl ⟨rfl,_,SqL.of hq1⟩,.ref q,hgt,.inl ⟨rfl,_,SqL.of hq1⟩,q,v::vs,0,0,v,rfl,rfl,hq1,by decide,by decide,by unfold seqIndex?; simp,rfl,q,vs,v,rfl,rfl,upd_same,hvl,fun a=>?_,ag2⟩
        rw [tk]
        by_cases ha:a=q
        · subst ha; rw [upd_same,if_pos (by simp),hv]; rfl
        · rw [upd_ne ha,upd_ne ha,h1]
          simp [ha]
      · left
        refine ⟨⟨_,SqL.of hH1,by rw [List.length_map]; omega⟩,?_⟩
        have hk':k=ps.length:=by omega
        subst hk'
        rw [List.take_length] at h1
        have hs:sizeLine=16777216:=sizeLine_eq
        have kp:Kp (tot Z os) H (tot Z (putO os i (o::ps))) H1:=fun b u hb nb=>by
          have nbp:b∉ps:=fun z=>nb (.inr ⟨i,by rw [eo]; exact List.mem_cons_of_mem _ z⟩)
          refine ⟨by rw [h1,if_neg nbp]; exact hb,fun z=>nb ?_⟩
          rcases z with z | ⟨j,z⟩
          · exact .inl z
          · refine .inr ⟨j,?_⟩
            by_cases hj:j=i
            · subst hj; rw [putO_same] at z; rw [eo]; exact z
            · rw [putO_ne hj] at z; exact z
        have pr2:Paired (fun q ds=>∃ vs,H1 q=some (.lst vs)∧vs.length≤sizeLine∧IsL K H1 (tot Z (putO os i (o::ps))) vs ds) ps (rows.map rotL):=by
          have key:∀ {qs:List Addr} {rs:List (List D)},(∀ q∈qs,q∈ps)→(∀ x∈rs,x≠[])→Paired (fun q ds=>∃ vs,H q=some (.lst vs)∧vs.length≤sizeLine∧IsL K H (tot Z os) vs ds) qs rs→Paired (fun q ds=>∃ vs,H1 q=some (.lst vs)∧vs.length≤sizeLine∧IsL K H1 (tot Z (putO os i (o::ps))) vs ds) qs (rs.map rotL):=by
            intro qs rs hm hs h
            induction h with
            | nil=>exact .nil
            | cons h _ ih =>
              obtain ⟨vs,g1,g2,g3⟩:=h
              cases vs with
              | nil =>
                cases g3
                exact absurd rfl (hs _ List.mem_cons_self)
              | cons v vs =>
                cases g3 with
                | cons g3 g4 =>
                refine .cons ⟨vs++[v],by rw [h1,if_pos (hm _ List.mem_cons_self),g1]; rfl,?_,?_⟩ (ih (fun q hq=>hm q (List.mem_cons_of_mem _ hq)) fun x hx=>hs x (List.mem_cons_of_mem _ hx))
                · rw [List.length_cons] at g2; rw [List.length_append,List.length_singleton]; omega
                · exact (g4.kp kp).append (.cons (g3.kp kp) .nil)
          exact key (fun _ h=>h) hsm pr
        have st:=f.step (H':=H1) (i:=i) hi (o:=o::ps) (s:=.om (rows.map rotL)) (v:=some (.ref o)) (fun c u q nn=>by rw [h1,if_neg fun z=>nn (by rw [eo]; exact List.mem_cons_of_mem _ z)]; exact q) (fun c hc=>?_) hn (fun c hc=>.inl (by rw [eo]; exact hc))
          ⟨o,ps,rfl,rfl,hH1,hl,pr2⟩
        · rw [set_self hu] at st
          obtain ⟨f2,k2⟩:=st.1.forget (r:=r) (by rw [List.length_set]; exact hr) (σ1[r]?).join
          have e2:σ1=σ.set r (σ1[r]?).join:=by
            have:=ag.two
            rw [List.set_set] at this
            exact this
          rw [← e2] at f2
          exact p _ _ _ f2 (st.2.trans k2)
        · rw [h1]
          obtain ⟨xs,h⟩:=(f.sl i).dom hc
          split
          · rw [h]; exact ⟨_,rfl⟩
          · exact ⟨_,h⟩
omit [Tabs] in
theorem wp_rotR {i r:Nat} {ρ:Rho} {rows:List (List D)} {W:Wk} (h0:ρ.getD i .un=.om rows) (hc:r < ρ.length∧i≠r∧∀ x∈rows,x≠[]) (k:W.nx ((ρ.set i (.om (rows.map rotL))).set r .un)):Wp (sRotR i r) ρ W:=by
  unfold Wp sRotR; rw [h0]; simp only []; rw [if_pos hc]; exact k
end
end VL
set_option maxHeartbeats 4000000
namespace My
open PySem L2 VL
def top (i:Nat):Stmt:=PySem.Challenge.pw_leastfloor_k31_the_bench_moment_by_momen.main.body.getD i (.Pass ⟨0,0,0,0⟩)
noncomputable abbrev s_joined:Stmt:=top 5
noncomputable abbrev s_goes_on:Stmt:=top 6
noncomputable abbrev s_tail_plan:Stmt:=top 11
noncomputable abbrev s_chosen:Stmt:=top 12
noncomputable abbrev s_next_coming:Stmt:=top 13
noncomputable abbrev s_l_mix:Stmt:=top 15
noncomputable abbrev s_l_whole:Stmt:=top 16
noncomputable abbrev s_l_cell_at:Stmt:=top 17
noncomputable abbrev s_l_works:Stmt:=top 18
noncomputable abbrev s_l_chosen:Stmt:=top 19
noncomputable abbrev s_l_due:Stmt:=top 20
noncomputable abbrev s_l_like:Stmt:=top 21
noncomputable abbrev s_l_till:Stmt:=top 22
noncomputable abbrev s_law:Stmt:=top 23
theorem sc_joined:FnScope ["rows", "fewest", "row"] ["rows"] (defScope s_joined):=⟨rfl,rfl,rfl,by decide +kernel,rfl,by decide +kernel,by decide +kernel⟩
theorem sc_goes_on:FnScope ["row", "later"] ["row", "later"] (defScope s_goes_on):=⟨rfl,rfl,rfl,by decide +kernel,rfl,by decide +kernel,by decide +kernel⟩
theorem sc_tail_plan:FnScope ["works", "left", "rows", "moment", "number", "stop", "end"] ["works"] (defScope s_tail_plan):=⟨rfl,rfl,rfl,by decide +kernel,rfl,by decide +kernel,by decide +kernel⟩
theorem sc_chosen:FnScope ["works", "left", "moment", "waiting"] ["works", "left", "moment"] (defScope s_chosen):=⟨rfl,rfl,rfl,by decide +kernel,rfl,by decide +kernel,by decide +kernel⟩
theorem sc_next_coming:FnScope ["works", "moment"] ["works", "moment"] (defScope s_next_coming):=⟨rfl,rfl,rfl,by decide +kernel,rfl,by decide +kernel,by decide +kernel⟩
theorem sc_l_mix:FnScope ["_law_number", "_law_k"] ["_law_number", "_law_k"] (defScope s_l_mix):=⟨rfl,rfl,rfl,by decide +kernel,rfl,by decide +kernel,by decide +kernel⟩
theorem sc_l_whole:FnScope ["_law_found"] ["_law_found"] (defScope s_l_whole):=⟨rfl,rfl,rfl,by decide +kernel,rfl,by decide +kernel,by decide +kernel⟩
theorem sc_l_cell_at:FnScope ["_law_script", "_law_k"] ["_law_script", "_law_k"] (defScope s_l_cell_at):=⟨rfl,rfl,rfl,by decide +kernel,rfl,by decide +kernel,by decide +kernel⟩
theorem sc_l_works:FnScope ["_law_script", "_law_cell", "_law_unit", "_law_many", "_law_works_here", "_law_k", "_law_work"] ["_law_script"] (defScope s_l_works):=⟨rfl,rfl,rfl,by decide +kernel,rfl,by decide +kernel,by decide +kernel⟩
theorem sc_l_chosen:FnScope ["_law_works_here", "_law_left", "_law_moment", "_law_found", "_law_k"] ["_law_works_here", "_law_left", "_law_moment"] (defScope s_l_chosen):=⟨rfl,rfl,rfl,by decide +kernel,rfl,by decide +kernel,by decide +kernel⟩
theorem sc_l_due:FnScope ["_law_works_here", "_law_left", "_law_rows", "_law_stops", "_law_moment", "_law_later", "_law_chosen_here", "_law_k", "_law_end"] ["_law_works_here"] (defScope s_l_due):=⟨rfl,rfl,rfl,by decide +kernel,rfl,by decide +kernel,by decide +kernel⟩
theorem sc_l_like:FnScope ["_law_found", "_law_due_here", "_law_row", "_law_number"] ["_law_found", "_law_due_here"] (defScope s_l_like):=⟨rfl,rfl,rfl,by decide +kernel,rfl,by decide +kernel,by decide +kernel⟩
theorem sc_l_till:FnScope ["_law_rows", "_law_moment"] ["_law_rows", "_law_moment"] (defScope s_l_till):=⟨rfl,rfl,rfl,by decide +kernel,rfl,by decide +kernel,by decide +kernel⟩
theorem sc_law:FnScope ["_law_script", "_law_works_here", "_law_handed", "_law_due_here", "_law_found", "_law_row", "_law_moment", "_law_few", "_law_early"] ["_law_script"] (defScope s_law):=⟨rfl,rfl,rfl,by decide +kernel,rfl,by decide +kernel,by decide +kernel⟩
set_option genInjectivity false in
set_option genSizeOf false in
structure Adr where
  f_joined:Addr
  d_joined:FuncData
  f_goes_on:Addr
  d_goes_on:FuncData
  f_tail_plan:Addr
  d_tail_plan:FuncData
  f_chosen:Addr
  d_chosen:FuncData
  f_next_coming:Addr
  d_next_coming:FuncData
  f_l_mix:Addr
  d_l_mix:FuncData
  f_l_whole:Addr
  d_l_whole:FuncData
  f_l_cell_at:Addr
  d_l_cell_at:FuncData
  f_l_works:Addr
  d_l_works:FuncData
  f_l_chosen:Addr
  d_l_chosen:FuncData
  f_l_due:Addr
  d_l_due:FuncData
  f_l_like:Addr
  d_l_like:FuncData
  f_l_till:Addr
  d_l_till:FuncData
  f_law:Addr
  d_law:FuncData
  k_joined:Addr
  p_joined:Addr
  k_chosen:Addr
  p_chosen:Addr
structure Txt [Tabs] (K:PySem.W.Frag) (mg:Str→Option Value) (a:Adr):Prop where
  F_joined:Fun K "joined" "joined" s_joined a.f_joined a.d_joined
  b_joined:Binds K a.d_joined ["rows"] []
  m_joined:mg "joined" = some (.ref a.f_joined)
  F_goes_on:Fun K "goes_on" "goes_on" s_goes_on a.f_goes_on a.d_goes_on
  b_goes_on:Binds K a.d_goes_on ["row", "later"] []
  m_goes_on:mg "goes_on" = some (.ref a.f_goes_on)
  F_tail_plan:Fun K "tail_plan" "tail_plan" s_tail_plan a.f_tail_plan a.d_tail_plan
  b_tail_plan:Binds K a.d_tail_plan ["works"] []
  m_tail_plan:mg "tail_plan" = some (.ref a.f_tail_plan)
  F_chosen:Fun K "chosen" "chosen" s_chosen a.f_chosen a.d_chosen
  b_chosen:Binds K a.d_chosen ["works", "left", "moment"] []
  m_chosen:mg "chosen" = some (.ref a.f_chosen)
  F_next_coming:Fun K "next_coming" "next_coming" s_next_coming a.f_next_coming a.d_next_coming
  b_next_coming:Binds K a.d_next_coming ["works", "moment"] []
  m_next_coming:mg "next_coming" = some (.ref a.f_next_coming)
  F_l_mix:Fun K "_law_mix" "_law_mix" s_l_mix a.f_l_mix a.d_l_mix
  b_l_mix:Binds K a.d_l_mix ["_law_number", "_law_k"] []
  m_l_mix:mg "_law_mix" = some (.ref a.f_l_mix)
  F_l_whole:Fun K "_law_whole" "_law_whole" s_l_whole a.f_l_whole a.d_l_whole
  b_l_whole:Binds K a.d_l_whole ["_law_found"] []
  m_l_whole:mg "_law_whole" = some (.ref a.f_l_whole)
  F_l_cell_at:Fun K "_law_cell_at" "_law_cell_at" s_l_cell_at a.f_l_cell_at a.d_l_cell_at
  b_l_cell_at:Binds K a.d_l_cell_at ["_law_script", "_law_k"] []
  m_l_cell_at:mg "_law_cell_at" = some (.ref a.f_l_cell_at)
  F_l_works:Fun K "_law_works" "_law_works" s_l_works a.f_l_works a.d_l_works
  b_l_works:Binds K a.d_l_works ["_law_script"] []
  m_l_works:mg "_law_works" = some (.ref a.f_l_works)
  F_l_chosen:Fun K "_law_chosen" "_law_chosen" s_l_chosen a.f_l_chosen a.d_l_chosen
  b_l_chosen:Binds K a.d_l_chosen ["_law_works_here", "_law_left", "_law_moment"] []
  m_l_chosen:mg "_law_chosen" = some (.ref a.f_l_chosen)
  F_l_due:Fun K "_law_due" "_law_due" s_l_due a.f_l_due a.d_l_due
  b_l_due:Binds K a.d_l_due ["_law_works_here"] []
  m_l_due:mg "_law_due" = some (.ref a.f_l_due)
  F_l_like:Fun K "_law_like" "_law_like" s_l_like a.f_l_like a.d_l_like
  b_l_like:Binds K a.d_l_like ["_law_found", "_law_due_here"] []
  m_l_like:mg "_law_like" = some (.ref a.f_l_like)
  F_l_till:Fun K "_law_till" "_law_till" s_l_till a.f_l_till a.d_l_till
  b_l_till:Binds K a.d_l_till ["_law_rows", "_law_moment"] []
  m_l_till:mg "_law_till" = some (.ref a.f_l_till)
  F_law:Fun K "law" "law" s_law a.f_law a.d_law
  b_law:Binds K a.d_law ["_law_script"] []
  m_law:mg "law" = some (.ref a.f_law)
  kc_joined:a.d_joined.code=.ref a.k_joined
  kh_joined:PySem.W.codeHdIn K a.k_joined a.p_joined=true
  kt_joined:(a.p_joined,("joined.<locals>.<lambda>" : Str))∈Tabs.ts
  kc_chosen:a.d_chosen.code=.ref a.k_chosen
  kh_chosen:PySem.W.codeHdIn K a.k_chosen a.p_chosen=true
  kt_chosen:(a.p_chosen,("chosen.<locals>.<lambda>" : Str))∈Tabs.ts
  z_any:mg "any" = none
  z_bool:mg "bool" = none
  z_enumerate:mg "enumerate" = none
  z_int:mg "int" = none
  z_isinstance:mg "isinstance" = none
  z_len:mg "len" = none
  z_list:mg "list" = none
  z_max:mg "max" = none
  z_min:mg "min" = none
  z_range:mg "range" = none
  z_set:mg "set" = none
  z_sorted:mg "sorted" = none
  z_sum:mg "sum" = none
  c_BEGIN:∃ t,mg "BEGIN" = some (.int 2 t)
  c_BENCH:∃ t,mg "BENCH" = some (.int 0 t)
  c_COME:∃ t,mg "COME" = some (.int 0 t)
  c_END:∃ t,mg "END" = some (.int 3 t)
  c_HOURS:∃ t,mg "HOURS" = some (.int 1 t)
  c_TAIL:∃ t,mg "TAIL" = some (.int 2 t)
  c_WORK:∃ t,mg "WORK" = some (.int 1 t)
noncomputable section
theorem st_goes_on (x0 x1:D):stD 2 [false,false] [x0,x1]=[.bo x0,.bo x1]:=rfl
noncomputable def B_goes_on:DS:=(sRet (dAndV (dEq false (dIx (dVar 0) (dC (.int 0))) (dIx (dVar 1) (dC (.int 0)))) (dAndV (dEq false (dIx (dVar 0) (dC (.int 1))) (dIx (dVar 1) (dC (.int 1)))) (dEq false (dIx (dVar 0) (dC (.int 3))) (dIx (dVar 1) (dC (.int 2)))))))
@[irreducible] noncomputable def F_goes_on:List D→Option D:=runD 2 [false,false] B_goes_on
theorem F_goes_on_def:F_goes_on=runD 2 [false,false] B_goes_on:=by unfold F_goes_on; rfl
theorem st_joined (x0:D):stD 3 [false] [x0]=[.bo x0,.un,.un]:=rfl
noncomputable def B_joined:DS:=(sSeq (sSetM 1 dMNil)
 (sSeq (sFor (dSrtL (dVarO 0)) (gN false 2)
 (sIf (dAnd (dTru (dVar 1)) (dTru (dCall F_goes_on (dCons (dIx (dVar 1) (dNeg (dC (.int 1)))) (dCons (dVar 2) dNil)))))
 (sPut2 1 (dNeg (dC (.int 1))) (dC (.int 3)) (gScal (dIx (dVar 2) (dC (.int 3)))))
 (sAppM 1 (gFlat (dLof (dVar 2))))))
 (sRetSM 1 [] (dTup (dCons (gScal (dIx (dVar 0) (dC (.int 2)))) (dCons (gScal (dIx (dVar 0) (dC (.int 0)))) dNil))))))
@[irreducible] noncomputable def F_joined:List D→Option D:=runF 3 [false] B_joined
theorem F_joined_def:F_joined=runF 3 [false] B_joined:=by unfold F_joined; rfl
theorem st_chosen (x0 x1 x2:D):stD 4 [true,false,false] [x0,x1,x2]=[.pu x0,.bo x1,.bo x2,.un]:=rfl
noncomputable def B_chosen:DS:=(sSeq (sSet 3 (dLst (dComp 2 [2,1] (dEn (dVarI 0)) (gUn 2 (gsCons (gN true 0) (gsCons (gN true 1) gsNil))) (dAnd (dT (dLe (dIx (dVar 1) (dC (.int 0))) (dVar 2))) (dT (dGt (dIx (dVar 3) (dVar 0)) (dC (.int 0))))) (dVarI 0))))
 (sRet (dMinKN [0] (dVarI 3) (dTup (dCons (dNeg (dIx (dIx (dVar 1) (dVar 0)) (dC (.int 2)))) (dCons (dVarI 0) dNil))))))
@[irreducible] noncomputable def F_chosen:List D→Option D:=runD 4 [true,false,false] B_chosen
theorem F_chosen_def:F_chosen=runD 4 [true,false,false] B_chosen:=by unfold F_chosen; rfl
theorem st_next_coming (x0 x1:D):stD 2 [true,false] [x0,x1]=[.pu x0,.bo x1]:=rfl
noncomputable def B_next_coming:DS:=(sRet (dMxD minL (dLst (dComp 1 [1] (asL (dVarI 0)) (gN true 0) (dT (dGt (dIx (dVar 0) (dC (.int 0))) (dVar 1))) (dIx (dVarI 0) (dC (.int 0))))) (dC .non)))
@[irreducible] noncomputable def F_next_coming:List D→Option D:=runD 2 [true,false] B_next_coming
theorem F_next_coming_def:F_next_coming=runD 2 [true,false] B_next_coming:=by unfold F_next_coming; rfl
theorem st_tail_plan (x0:D):stD 7 [true] [x0]=[.pu x0,.un,.un,.un,.un,.un,.un]:=rfl
noncomputable def B_tail_plan:DS:=(sSeq (sSetO 1 (dComp 1 [] (asL (dVarI 0)) (gN true 0) dTrue (dIx (dVarI 0) (dC (.int 1)))))
 (sSeq (sSetO 2 dNil)
 (sSeq (sSet 3 (dC (.int 0)))
 (sSeq (sWhile (dTru (dF1 anyD (dVar 1)))
 (sSeq (sSet 4 (dCall F_chosen (dCons (dVarI 0) (dCons (dVar 1) (dCons (dVar 3) dNil)))))
 (sSeq (sSet 5 (dCall F_next_coming (dCons (dVarI 0) (dCons (dVar 3) dNil))))
 (sSeq (sIf (dT (dIsN (dVar 4)))
 (sSeq (sSet 3 (dVarI 5))
    sCnt)
      sPass)
 (sSeq (sSet 6 (dAdd (dVar 3) (dIx (dVar 1) (dVar 4))))
 (sSeq (sIf (dT (dNotN (dVar 5)))
 (sSet 6 (dMin2 (dVar 6) (dVar 5)))
      sPass)
 (sSeq (sApp 2 (dLst (dCons (dC (.int 0)) (dCons (dVarI 4) (dCons (dVarI 3) (dCons (dVarI 6) dNil))))))
 (sSeq (sAugP (fun x y=>x-y) 1 (dVar 4) (dSub (dVar 6) (dVar 3)))
 (sSet 3 (dVarI 6))))))))))
 (sRet (dMat (dCallM F_joined (dCons (dVar 2) dNil))))))))
@[irreducible] noncomputable def F_tail_plan:List D→Option D:=runF 7 [true] B_tail_plan
theorem F_tail_plan_def:F_tail_plan=runF 7 [true] B_tail_plan:=by unfold F_tail_plan; rfl
theorem st_l_mix (x0 x1:D):stD 2 [false,false] [x0,x1]=[.bo x0,.bo x1]:=rfl
noncomputable def B_l_mix:DS:=(sRet (dMod (dMul (dAdd (dAdd (dMul (dVar 0) (dVar 0)) (dMul (dVar 1) (dVar 0))) (dMul (dMul (dC (.int 7)) (dVar 1)) (dVar 1))) (dC (.int 1103515245))) (dC (.int 2147483629))))
@[irreducible] noncomputable def F_l_mix:List D→Option D:=runD 2 [false,false] B_l_mix
theorem F_l_mix_def:F_l_mix=runD 2 [false,false] B_l_mix:=by unfold F_l_mix; rfl
theorem st_l_whole (x0:D):stD 1 [false] [x0]=[.bo x0]:=rfl
noncomputable def B_l_whole:DS:=(sRet (dAndV (dIsi "int" (dVar 0)) (dNotV (dIsi "bool" (dVar 0)))))
@[irreducible] noncomputable def F_l_whole:List D→Option D:=runD 1 [false] B_l_whole
theorem F_l_whole_def:F_l_whole=runD 1 [false] B_l_whole:=by unfold F_l_whole; rfl
theorem st_l_cell_at (x0 x1:D):stD 2 [false,false] [x0,x1]=[.bo x0,.bo x1]:=rfl
noncomputable def B_l_cell_at:DS:=(sSeq (sIf (dT (dLt (dVar 1) (dF1 lenD (dVar 0))))
 (sRet (gScal (dIx (dVar 0) (dVar 1))))
      sPass)
 (sRet (dC (.int 0))))
@[irreducible] noncomputable def F_l_cell_at:List D→Option D:=runD 2 [false,false] B_l_cell_at
theorem F_l_cell_at_def:F_l_cell_at=runD 2 [false,false] B_l_cell_at:=by unfold F_l_cell_at; rfl
theorem st_l_works (x0:D):stD 7 [false] [x0]=[.bo x0,.un,.un,.un,.un,.un,.un]:=rfl
noncomputable def B_l_works:DS:=(sSeq (sSet 1 (dCall F_l_cell_at (dCons (dVar 0) (dCons (dC (.int 0)) dNil))))
 (sSeq (sSet 2 (dIx (dLst (dCons (dC (.int 1)) (dCons (dC (.int 7)) (dCons (dAdd (dPow (dC (.int 10)) (dC (.int 40))) (dC (.int 9))) dNil)))) (dMod (dVar 1) (dC (.int 3)))))
 (sSeq (sSet 3 (dMin2 (dC (.int 12)) (dMax2 (dC (.int 0)) (dSub (dF1 lenD (dVar 0)) (dC (.int 2))))))
 (sSeq (sSetM 4 (dCompM 1 [2] (dRg1 (dVar 3)) (gN true 0) dTrue (dCons (dC (.int 0)) (dCons (dVarI 1) (dCons (dC (.int 0)) dNil)))))
 (sSeq (sFor (dRg2 (dC (.int 2)) (dMin2 (dC (.int 63)) (dF1 lenD (dVar 0)))) (gN true 5)
      (sAlias 4 6 (dMod (dSub (dVar 5) (dC (.int 2))) (dC (.int 12))) [((dC (.int 0)),(dMod (dAdd (dIx (dVar 6) (dC (.int 0))) (dMul (dVar 2) (dMod (dCall F_l_mix (dCons (dIx (dVar 0) (dVar 5)) (dCons (dC (.int 1)) dNil))) (dC (.int 7))))) (dMul (dC (.int 20)) (dVar 2)))),((dC (.int 1)),(dMul (dVar 2) (dAdd (dC (.int 1)) (dMod (dCall F_l_mix (dCons (dIx (dVar 0) (dVar 5)) (dCons (dC (.int 2)) dNil))) (dC (.int 5)))))),((dC (.int 2)),(dMul (dVar 2) (dMod (dCall F_l_mix (dCons (dIx (dVar 0) (dVar 5)) (dCons (dC (.int 3)) dNil))) (dIx (dLst (dCons (dC (.int 10)) (dCons (dC (.int 3)) dNil))) (dMod (dFdiv (dVar 1) (dC (.int 12))) (dC (.int 2)))))))]
 (sIf (dT (dEq false (dMod (dFdiv (dVar 1) (dC (.int 3))) (dC (.int 4))) (dC (.int 1))))
      (sRowPut 4 (dMod (dSub (dVar 5) (dC (.int 2))) (dC (.int 12))) (dCons (dMod (dIx (dVar 0) (dVar 5)) (dPow (dC (.int 10)) (dC (.int 50)))) (dCons (dAdd (dC (.int 1)) (dMod (dFdiv (dIx (dVar 0) (dVar 5)) (dC (.int 7))) (dPow (dC (.int 10)) (dC (.int 49))))) (dCons (dMod (dFdiv (dIx (dVar 0) (dVar 5)) (dC (.int 11))) (dPow (dC (.int 10)) (dC (.int 50)))) dNil))))
      sPass)))
    (sFrz 4 (sRet (dVarI 4))))))))
@[irreducible] noncomputable def F_l_works:List D→Option D:=runD 7 [false] B_l_works
theorem F_l_works_def:F_l_works=runD 7 [false] B_l_works:=by unfold F_l_works; rfl
theorem st_l_chosen (x0 x1 x2:D):stD 5 [true,false,false] [x0,x1,x2]=[.pu x0,.bo x1,.bo x2,.un,.un]:=rfl
noncomputable def B_l_chosen:DS:=(sSeq (sSet 3 (dLst dNil))
 (sSeq (sFor (dRg1 (dF1 lenD (dVar 0))) (gN true 4)
 (sIf (dAnd (dT (dGt (dIx (dVar 1) (dVar 4)) (dC (.int 0)))) (dAnd (dT (dLe (dIx (dIx (dVar 0) (dVar 4)) (dC (.int 0))) (dVar 2))) (dOr (dT (dEq false (dVar 3) (dLst dNil))) (dT (dGt (dIx (dIx (dVar 0) (dVar 4)) (dC (.int 2))) (dIx (dIx (dVar 0) (dIx (dVar 3) (dC (.int 0)))) (dC (.int 2))))))))
 (sSet 3 (dLst (dCons (dVarI 4) dNil)))
      sPass))
 (sRet (dVarI 3))))
@[irreducible] noncomputable def F_l_chosen:List D→Option D:=runD 5 [true,false,false] B_l_chosen
theorem F_l_chosen_def:F_l_chosen=runD 5 [true,false,false] B_l_chosen:=by unfold F_l_chosen; rfl
theorem st_l_due (x0:D):stD 9 [true] [x0]=[.pu x0,.un,.un,.un,.un,.un,.un,.un,.un]:=rfl
noncomputable def B_l_due:DS:=(sSeq (sSetO 1 (dComp 1 [] (asL (dVarI 0)) (gN true 0) dTrue (dIx (dVarI 0) (dC (.int 1)))))
 (sSeq (sSetM 2 dMNil)
 (sSeq (sSet 3 (dLst (dSrtS (dLst (dComp 1 [] (asL (dVarI 0)) (gN true 0) dTrue (dIx (dVarI 0) (dC (.int 0))))))))
 (sSeq (sSet 4 (dC (.int 0)))
 (sSeq (sWhile (dT (dGt (dF1 sumD (dVar 1)) (dC (.int 0))))
 (sSeq (sSet 5 (dLst (dComp 1 [4] (asL (dVarI 3)) (gN true 0) (dT (dGt (dVar 0) (dVar 1))) (dVarI 0))))
 (sSeq (sSet 6 (dCall F_l_chosen (dCons (dVarI 0) (dCons (dVar 1) (dCons (dVar 4) dNil)))))
 (sIf (dT (dEq false (dVar 6) (dLst dNil)))
 (sSet 4 (dIx (dVarI 5) (dC (.int 0))))
 (sSeq (sSet 7 (dIx (dVarI 6) (dC (.int 0))))
 (sSeq (sSet 8 (dAdd (dVar 4) (dIx (dVar 1) (dVar 7))))
 (sSeq (sIf (dAnd (dT (dEq true (dVar 5) (dLst dNil))) (dT (dLt (dIx (dVar 5) (dC (.int 0))) (dVar 8))))
 (sSet 8 (dIx (dVarI 5) (dC (.int 0))))
      sPass)
 (sSeq (sPut 1 (dVar 7) (dSub (dIx (dVar 1) (dVar 7)) (dSub (dVar 8) (dVar 4))))
 (sSeq (sIf (dAnd (dT (dEq true (dVar 2) (dLst dNil))) (dAnd (dT (dEq false (dIx (dIx (dVar 2) (dNeg (dC (.int 1)))) (dC (.int 1))) (dVar 7))) (dT (dEq false (dIx (dIx (dVar 2) (dNeg (dC (.int 1)))) (dC (.int 3))) (dVar 4)))))
 (sPut2 2 (dNeg (dC (.int 1))) (dC (.int 3)) (dVarI 8))
 (sAppM 2 (dCons (dC (.int 0)) (dCons (dVarI 7) (dCons (dVarI 4) (dCons (dVarI 8) dNil))))))
 (sSet 4 (dVarI 8)))))))))))
 (sRetXM 2))))))
@[irreducible] noncomputable def F_l_due:List D→Option D:=runF 9 [true] B_l_due
theorem F_l_due_def:F_l_due=runF 9 [true] B_l_due:=by unfold F_l_due; rfl
theorem st_l_like (x0 x1:D):stD 4 [false,false] [x0,x1]=[.bo x0,.bo x1,.un,.un]:=rfl
noncomputable def B_l_like:DS:=(sSeq (sIf (dOr (dNot (dTru (dIsi "list" (dVar 0)))) (dT (dEq true (dF1 lenD (dVar 0)) (dF1 lenD (dVar 1)))))
 (sRet (dC (.bl false)))
      sPass)
 (sSeq (sFor (asL (dVarO 0)) (gN false 2)
 (sSeq (sIf (dNot (dTru (dIsi "list" (dVar 2))))
 (sRet (dC (.bl false)))
      sPass)
 (sFor (asL (dVarO 2)) (gN false 3)
 (sIf (dNot (dTru (dCall F_l_whole (dCons (dVar 3) dNil))))
 (sRet (dC (.bl false)))
      sPass))))
 (sRet (dEq false (dVar 0) (dVar 1)))))
@[irreducible] noncomputable def F_l_like:List D→Option D:=runD 4 [false,false] B_l_like
theorem F_l_like_def:F_l_like=runD 4 [false,false] B_l_like:=by unfold F_l_like; rfl
theorem st_l_till (x0 x1:D):stD 2 [true,false] [x0,x1]=[.pu x0,.bo x1]:=rfl
noncomputable def B_l_till:DS:=(sRet (dLst (dComp 1 [1] (asL (dVarI 0)) (gN true 0) (dT (dLt (dIx (dVar 0) (dC (.int 2))) (dVar 1))) (dLst (dCat (dLst (dSl (dVarI 0) oNone (oSome (dC (.int 3))))) (dLst (dCons (dMin2 (dIx (dVar 0) (dC (.int 3))) (dVar 1)) dNil)))))))
@[irreducible] noncomputable def F_l_till:List D→Option D:=runD 2 [true,false] B_l_till
theorem F_l_till_def:F_l_till=runD 2 [true,false] B_l_till:=by unfold F_l_till; rfl
theorem st_law (x0:D):stD 9 [false] [x0]=[.bo x0,.un,.un,.un,.un,.un,.un,.un,.un]:=rfl
noncomputable def B_law:DS:=(sSeq (sSet 1 (dCall F_l_works (dCons (dVar 0) dNil)))
 (sSeq (sSet 2 (dLst (dComp 1 [] (asL (dVarI 1)) (gN true 0) dTrue (dLst (dLof (dVarI 0))))))
 (sSeq (sSet 3 (dCall F_l_due (dCons (dVarI 1) dNil)))
 (sSeq (sSetM 4 (dCallM F_tail_plan (dCons (dVarI 2) dNil)))
 (sSeq (sIf (dOr (dNot (dTru (dCall F_l_like (dCons (dVar 4) (dCons (dVar 3) dNil))))) (dT (dEq true (dVar 2) (dVar 1))))
 (sRet (dC (.bl false)))
      sPass)
 (sSeq (sRotR 4 5)
 (sSeq (sSet 6 (dMod (dCall F_l_cell_at (dCons (dVar 0) (dCons (dC (.int 1)) dNil))) (dPow (dC (.int 10)) (dC (.int 50)))))
 (sSeq (sIf (dAnd (dT (dGt (dMod (dCall F_l_cell_at (dCons (dVar 0) (dCons (dC (.int 1)) dNil))) (dC (.int 4))) (dC (.int 0)))) (dT (dGt (dF1 lenD (dVar 1)) (dC (.int 0)))))
 (sSet 6 (dIx (dIx (dVarI 1) (dMod (dCall F_l_mix (dCons (dCall F_l_cell_at (dCons (dVar 0) (dCons (dC (.int 1)) dNil))) (dCons (dC (.int 4)) dNil))) (dF1 lenD (dVar 1)))) (dC (.int 0))))
      sPass)
 (sSeq (sSet 7 (dLst (dComp 1 [1,6] (dRg1 (dF1 lenD (dVar 1))) (gN true 0) (dT (dLt (dIx (dIx (dVar 1) (dVar 0)) (dC (.int 0))) (dVar 2))) (dVarI 0))))
 (sSeq (sSet 8 (dLst (dComp 1 [7] (asL (dCall F_tail_plan (dCons (dLst (dComp 1 [1] (asL (dVarI 7)) (gN true 0) dTrue (dLst (dLof (dIx (dVarI 1) (dVar 0)))))) dNil))) (gN true 0) dTrue (dLst (dCons (dC (.int 0)) (dCons (dIx (dVarI 1) (dIx (dVar 0) (dC (.int 1)))) (dCons (dIx (dVarI 0) (dC (.int 2))) (dCons (dIx (dVarI 0) (dC (.int 3))) dNil))))))))
 (sRet (dAndV (dEq false (dVar 2) (dVar 1)) (dEq false (dCall F_l_till (dCons (dVarI 8) (dCons (dVar 6) dNil))) (dCall F_l_till (dCons (dVarI 3) (dCons (dVar 6) dNil))))))))))))))))
@[irreducible] noncomputable def F_law:List D→Option D:=runD 9 [false] B_law
theorem F_law_def:F_law=runD 9 [false] B_law:=by unfold F_law; rfl
end
section
variable [Tabs] {P:Program} {w:World} {K:PySem.W.Frag} {mg:Str→Option Value} {base:Heap} {ad:Adr}
theorem ok_goes_on (T:Txt K mg ad) (hbm:BmOk mg base):FnOk P w K mg base CX0 1 ad.f_goes_on ad.d_goes_on ["row", "later"] (spD .v K [false,false] F_goes_on):=by
  rw [F_goes_on_def]
  exact Fun.okD (N:=["row", "later"]) T.F_goes_on sc_goes_on [false,false] rfl B_goes_on fun cdv A outer s H E hr=>⟨_,
 (pss_one (ps_ret (pe_and (pe_cmpR (op_eqD (K:=K) hr.units) (pe_ix (ix_seqK (K:=K) rfl) (pv 0) (pe_globI rfl T.c_BENCH) (fun _ _=>rfl)) (pe_ix (ix_seqK (K:=K) rfl) (pv 1) (pe_globI rfl T.c_BENCH) (fun _ _=>rfl)) (nomark _)) (pe_and (pe_cmpR (op_eqD (K:=K) hr.units) (pe_ix (ix_seqK (K:=K) rfl) (pv 0) (pe_globI rfl T.c_WORK) (fun _ _=>rfl)) (pe_ix (ix_seqK (K:=K) rfl) (pv 1) (pe_globI rfl T.c_WORK) (fun _ _=>rfl)) (nomark _)) (pe_one (pe_cmpR (op_eqD (K:=K) hr.units) (pe_ix (ix_seqK (K:=K) rfl) (pv 0) (pe_globI rfl T.c_END) (fun _ _=>rfl)) (pe_ix (ix_seqK (K:=K) rfl) (pv 1) (pe_globI rfl T.c_BEGIN) (fun _ _=>rfl)) (nomark _))))))),
 (ss_ret (si_andV (SemI.b (si_eq (neg:=false) (sb_ix (sb_var 0) (SemI.b si_int)) (sb_ix (sb_var 1) (SemI.b si_int)))) (si_andV (SemI.b (si_eq (neg:=false) (sb_ix (sb_var 0) (SemI.b si_int)) (sb_ix (sb_var 1) (SemI.b si_int)))) (si_eq (neg:=false) (sb_ix (sb_var 0) (SemI.b si_int)) (sb_ix (sb_var 1) (SemI.b si_int))))))⟩
theorem ok_joined (T:Txt K mg ad) (hbm:BmOk mg base):FnOk P w K mg base CX0 2 ad.f_joined ad.d_joined ["rows"] (spD .m K [false] F_joined):=by
  rw [F_joined_def]
  exact Fun.okFL (N:=["rows", "fewest", "row"]) T.F_joined sc_joined [false] rfl B_joined fun cdv hcd A outer s H E hr=>⟨_,
 (pss_cons (ps_set (i:=1) sc_joined.nd rfl (Or.inl rfl) (pe_lst pa_nil))
 (pss_cons (ps_for PassesOwn.never rfl (pi_listK (K:=K) rfl (pe_callB (call_srtL (K:=K) rfl rfl hr) rfl T.z_sorted bt_sorted (pa_cons (pv 0) pa_nil))) (pg_name (i:=2) sc_joined.nd rfl (Or.inl rfl))
 (pss_one (ps_if (PW.pt (pw_and (pt_truthK (K:=K) rfl (pv 1) (fun _=>rfl)) (pw_and1 (pt_truthK (K:=K) rfl (pe_call (ok_goes_on T hbm) (hr.mono (by decide)) rfl T.m_goes_on T.F_goes_on.kp T.b_goes_on .nil pass0 (pa_cons (pe_ix (ix_seqK (K:=K) rfl) (pv 1) (pe_un un_neg pe_int) (fun _ _=>rfl)) (pa_cons (pv 2) pa_nil))) (fun _=>rfl)))))
 (pss_one (ps_asg (pe_ix (ix_seqK (K:=K) rfl) (pv 2) (pe_globI rfl T.c_END) (fun _ _=>rfl)) (pg_sub (pe_ix (ix_seqK (K:=K) rfl) (pv 1) (pe_un un_neg pe_int) (fun _ _=>rfl)) (pe_globI rfl T.c_END) set_list)))
 (pss_one (ps_expr (pe_bm PySem.F.plainAttrs_list PySem.F.slot_list_append PySem.F.type_list_append mt_append (pv 1) (pa_cons (pe_callTy (call_list_ofK (K:=K) rfl) rfl T.z_list bt_list (pa_cons (pv 2) pa_nil)) pa_nil)))))))
 (pss_one (ps_ret (pe_sortK (K:=K) (x := "each") (zs:=[]) (is:=[]) (q := "joined.<locals>.<lambda>") rfl ⟨hcd.symm.trans T.kc_joined,T.kh_joined,hbm⟩ hr rfl rfl T.z_sorted (pv 1) (LFrees.many .nil .nil (by decide +kernel) rfl (by decide +kernel) rfl rfl rfl) (by first | rfl | decide +kernel) rfl (fun _ _ _ _ _=>(pe_tup (pa_cons (pe_ix (ix_seqK (K:=K) rfl) (pv 0) (pe_globI rfl T.c_BEGIN) (fun _ _=>rfl)) (pa_cons (pe_ix (ix_seqK (K:=K) rfl) (pv 0) (pe_globI rfl T.c_BENCH) (fun _ _=>rfl)) pa_nil))))))))),
 (ss_seq (ss_setM sm_nil)
 (ss_seq (ss_for (m:=false) (sw_srtO (so_var 0)) (sg_name 2)
 (ss_if (st_and (st_tru (K:=K) (sb_var 1)) (st_tru (K:=K) (SemI.b (si_call (sa_any (sb_ix (sb_var 1) (SemI.b (si_neg (SemI.b si_int)))) (sa_any (sb_var 2) sa_nil))))))
 (ss_put2 (SemB.i (sb_ix (sb_var 2) (SemI.b si_int))) (SemI.b (si_neg (SemI.b si_int))) (SemI.b si_int))
 (ss_appM (sf_listB (sb_var 2)))))
 (ss_retSM (i:=1) (cs:=[]) T.kt_joined (si_tup (n:=2) (sa_own (SemB.i (sb_ix (sb_var 0) (SemI.b si_int))) (sa_own (SemB.i (sb_ix (sb_var 0) (SemI.b si_int))) sa_nil)) (by decide)))))⟩
theorem ok_chosen (T:Txt K mg ad) (hbm:BmOk mg base):FnOk P w K mg base CX0 1 ad.f_chosen ad.d_chosen ["works", "left", "moment"] (spD .v K [true,false,false] F_chosen):=by
  rw [F_chosen_def]
  exact Fun.okDL (N:=["works", "left", "moment", "waiting"]) T.F_chosen sc_chosen [true,false,false] rfl B_chosen fun cdv hcd A outer s H E hr=>⟨_,
 (pss_cons (ps_cN1 (i:=3) sc_chosen.nd rfl rfl rfl (pi_enumK (K:=K) rfl rfl T.z_enumerate (pv 0)) (ts:=["number", "work"]) (zs:=["moment", "left"]) (k:=2) (is:=[2,1]) rfl (.cons rfl (.cons rfl .nil)) (.cons rfl (Or.inl rfl) rfl (by first | exact Or.inl rfl | exact Or.inr rfl) (.cons rfl (Or.inl rfl) rfl (by first | exact Or.inl rfl | exact Or.inr rfl) .nil)) rfl (low_seq (lows_cons (low_name (by decide)) (lows_cons (low_name (by decide)) lows_nil))) (fun _ _ _ _ _=>(pg_seqK (K:=K) rfl rfl (pgs_cons (pgb (by decide +kernel) rfl rfl) (pgs_cons (pgb (by decide +kernel) rfl rfl) pgs_nil)))) (fun _ _ _ _ _=>(PW.pt (pw_and (pt_cmpR op_le (pe_ix (ix_seqK (K:=K) rfl) (pv 1) (pe_globI rfl T.c_COME) (fun _ _=>rfl)) (pv 2) (nomark _)) (pw_and1 (pt_cmpR op_gt (pe_ix (ix_seqK (K:=K) rfl) (pv 3) (pv 0) (fun _ _=>rfl)) pe_int (nomark _)))))) (fun _ _ _ _ _=>(pv 0)) rfl (by decide +kernel) rfl (by decide +kernel))
 (pss_one (ps_ret (pe_minKN (K:=K) (x := "number") (zs:=["works"]) (is:=[0]) (q := "chosen.<locals>.<lambda>") rfl ⟨hcd.symm.trans T.kc_chosen,T.kh_chosen,hbm⟩ hr rfl rfl T.z_min (pv 3) pe_non (fun _ _ _ h=>h) (LFrees.many (.cons rfl .nil) (.cons rfl (by first | exact Or.inl rfl | exact Or.inr rfl) rfl rfl .nil) (by decide +kernel) rfl (by decide +kernel) rfl rfl rfl) (by first | rfl | decide +kernel) rfl (fun _ _ _ _ _=>(pe_tup (pa_cons (pe_un un_neg (pe_ix (ix_seqK (K:=K) rfl) (pe_ix (ix_seqK (K:=K) rfl) (pv 1) (pv 0) (fun _ _=>rfl)) (pe_globI rfl T.c_TAIL) (fun _ _=>rfl))) (pa_cons (pv 0) pa_nil)))))))),
 (ss_seq (ss_setC (SemF.l (sf_comp (m:=true) (k:=2) (cs:=[2,1]) (SemW.c (sw_enum (si_var 0))) (sg_un (sgs_cons (sg_name 0) (sgs_cons (sg_name 1) sgs_nil))) (st_and (st_test (SemI.b (si_le (sb_ix (sb_var 1) (SemI.b si_int)) (sb_var 2)))) (st_test (SemI.b (si_gt (sb_ix (sb_var 3) (sb_var 0)) (SemI.b si_int))))) (si_var 0))))
 (ss_ret (si_minKN T.kt_chosen (si_var 3) (si_tup (n:=2) (sa_own (si_neg (sb_ix (sb_ix (sb_var 1) (sb_var 0)) (SemI.b si_int))) (sa_own (si_var 0) sa_nil)) (by decide)))))⟩
theorem ok_next_coming (T:Txt K mg ad) (hbm:BmOk mg base):FnOk P w K mg base CX0 1 ad.f_next_coming ad.d_next_coming ["works", "moment"] (spD .v K [true,false] F_next_coming):=by
  rw [F_next_coming_def]
  exact Fun.okD (N:=["works", "moment"]) T.F_next_coming sc_next_coming [true,false] rfl B_next_coming fun cdv A outer s H E hr=>⟨_,
 (pss_one (ps_ret (pe_callBK (call_minDK (K:=K) rfl rfl) rfl T.z_min bt_min (pa_cons (pe_cN1 rfl (pi_listK (K:=K) rfl (pv 0)) (ts:=["work"]) (zs:=["moment"]) (k:=1) (is:=[1]) rfl (.cons rfl .nil) (.cons rfl (Or.inl rfl) rfl (by first | exact Or.inl rfl | exact Or.inr rfl) .nil) rfl (low_name (by decide)) (fun _ _ _ _ _=>(pgb (by decide +kernel) rfl rfl)) (fun _ _ _ _ _=>(pt_cmpR op_gt (pe_ix (ix_seqK (K:=K) rfl) (pv 0) (pe_globI rfl T.c_COME) (fun _ _=>rfl)) (pv 1) (nomark _))) (fun _ _ _ _ _=>(pe_ix (ix_seqK (K:=K) rfl) (pv 0) (pe_globI rfl T.c_COME) (fun _ _=>rfl))) rfl (by decide +kernel) rfl (by decide +kernel)) pa_nil) (pk_cons pe_non pk_nil)))),
 (ss_ret (si_minD (SemI.b (SemF.l (sf_comp (m:=true) (k:=1) (cs:=[1]) (SemW.c (sw_list (si_var 0))) (sg_name 0) (st_test (SemI.b (si_gt (sb_ix (sb_var 0) (SemI.b si_int)) (sb_var 1)))) (si_ix (si_var 0) (SemI.b si_int))))) si_non))⟩
theorem ok_tail_plan (T:Txt K mg ad) (hbm:BmOk mg base):FnOk P w K mg base CX0 3 ad.f_tail_plan ad.d_tail_plan ["works"] (spD .m K [true] F_tail_plan):=by
  rw [F_tail_plan_def]
  exact Fun.okF (N:=["works", "left", "rows", "moment", "number", "stop", "end"]) T.F_tail_plan sc_tail_plan [true] rfl B_tail_plan fun cdv A outer s H E hr=>⟨_,
 (pss_cons (ps_cN0 (i:=1) sc_tail_plan.nd rfl rfl rfl (pi_listK (K:=K) rfl (pv 0)) (ts:=["work"]) (zs:=[]) (k:=1) (is:=[]) rfl .nil .nil rfl (low_name (by decide)) (fun _ _ _ _ _=>(pgb (by decide +kernel) rfl rfl)) (fun _ _ _ _ _=>(pe_ix (ix_seqK (K:=K) rfl) (pv 0) (pe_globI rfl T.c_HOURS) (fun _ _=>rfl))) rfl (by decide +kernel) rfl (by decide +kernel))
 (pss_cons (ps_set (i:=2) sc_tail_plan.nd rfl (Or.inl rfl) (pe_lst pa_nil))
 (pss_cons (ps_set (i:=3) sc_tail_plan.nd rfl (Or.inl rfl) pe_int)
 (pss_cons (ps_while PassesOwn.never (pt_truthK (K:=K) rfl (pe_callB (call_anyK (K:=K) rfl rfl) rfl T.z_any bt_any (pa_cons (pv 1) pa_nil)) (fun _=>rfl))
 (pss_cons (ps_set (i:=4) sc_tail_plan.nd rfl (Or.inl rfl) (pe_call (ok_chosen T hbm) (hr.mono (by decide)) rfl T.m_chosen T.F_chosen.kp T.b_chosen .nil pass0 (pa_cons (pv 0) (pa_cons (pv 1) (pa_cons (pv 3) pa_nil)))))
 (pss_cons (ps_set (i:=5) sc_tail_plan.nd rfl (Or.inl rfl) (pe_call (ok_next_coming T hbm) (hr.mono (by decide)) rfl T.m_next_coming T.F_next_coming.kp T.b_next_coming .nil pass0 (pa_cons (pv 0) (pa_cons (pv 3) pa_nil))))
 (pss_cons (ps_if (pt_cmpR op_isN (pv 4) pe_non (nomark _))
 (pss_cons (ps_set (i:=3) sc_tail_plan.nd rfl (Or.inl rfl) (pv 5))
 (pss_one ps_continue))
 pss_nil)
 (pss_cons (ps_set (i:=6) sc_tail_plan.nd rfl (Or.inl rfl) (pe_op op_add (pv 3) (pe_ix (ix_seqK (K:=K) rfl) (pv 1) (pv 4) (fun _ _=>rfl))))
 (pss_cons (ps_if (pt_cmpR op_notN (pv 5) pe_non (nomark _))
 (pss_one (ps_set (i:=6) sc_tail_plan.nd rfl (Or.inl rfl) (pe_callB (call_min2 rfl) rfl T.z_min bt_min (pa_cons (pv 6) (pa_cons (pv 5) pa_nil)))))
 pss_nil)
 (pss_cons (ps_expr (pe_bm PySem.F.plainAttrs_list PySem.F.slot_list_append PySem.F.type_list_append mt_append (pv 2) (pa_cons (pe_lst (pa_cons pe_int (pa_cons (pv 4) (pa_cons (pv 3) (pa_cons (pv 6) pa_nil))))) pa_nil)))
 (pss_cons (ps_augS (pv 1) (pv 4) (get_listK (K:=K) rfl) (pe_op op_sub (pv 6) (pv 3)) ip_sub set_list)
 (pss_one (ps_set (i:=3) sc_tail_plan.nd rfl (Or.inl rfl) (pv 6)))))))))))
 (pss_one (ps_ret (pe_call (ok_joined T hbm) (hr.mono (by decide)) rfl T.m_joined T.F_joined.kp T.b_joined .nil pass0 (pa_cons (pv 2) pa_nil)))))))),
 (ss_seq (ss_setOC (sf_comp (m:=true) (k:=1) (cs:=[]) (SemW.c (sw_list (si_var 0))) (sg_name 0) st_true (si_ix (si_var 0) (SemI.b si_int))))
 (ss_seq (ss_setO (sf_lst (n:=0) sa_nil (by decide)))
 (ss_seq (ss_set si_int)
 (ss_seq (ss_while (st_tru (K:=K) (SemI.b (si_any (sb_var 1))))
 (ss_seq (ss_set (si_call (sa_own (si_var 0) (sa_any (sb_var 1) (sa_any (sb_var 3) sa_nil)))))
 (ss_seq (ss_set (si_call (sa_own (si_var 0) (sa_any (sb_var 3) sa_nil))))
 (ss_seq (ss_if (st_test (SemI.b (si_isN (sb_var 4) (SemI.b si_non))))
 (ss_seq (ss_set (si_var 5))
 ss_cont)
 ss_pass)
 (ss_seq (ss_set (si_add (sb_var 3) (sb_ix (sb_var 1) (sb_var 4))))
 (ss_seq (ss_if (st_test (SemI.b (si_notN (sb_var 5) (SemI.b si_non))))
 (ss_set (si_min2 (sb_var 6) (sb_var 5)))
 ss_pass)
 (ss_seq (ss_app (SemF.l (sf_lst (n:=4) (sa_own si_int (sa_own (si_var 4) (sa_own (si_var 3) (sa_own (si_var 6) sa_nil)))) (by decide))))
 (ss_seq (ss_augP (sb_var 4) (SemI.b (si_sub (sb_var 6) (sb_var 3))))
 (ss_set (si_var 6))))))))))
 (ss_retM (sm_call (sa_any (sb_var 2) sa_nil)))))))⟩
theorem ok_l_mix (T:Txt K mg ad) (hbm:BmOk mg base):FnOk P w K mg base CX0 1 ad.f_l_mix ad.d_l_mix ["_law_number", "_law_k"] (spD .v K [false,false] F_l_mix):=by
  rw [F_l_mix_def]
  exact Fun.okD (N:=["_law_number", "_law_k"]) T.F_l_mix sc_l_mix [false,false] rfl B_l_mix fun cdv A outer s H E hr=>⟨_,
 (pss_one (ps_ret (pe_op op_mod (pe_op op_mulB (pe_op op_add (pe_op op_add (pe_op op_mulB (pv 0) (pv 0)) (pe_op op_mulB (pv 1) (pv 0))) (pe_op op_mulB (pe_op op_mulB pe_int (pv 1)) (pv 1))) pe_int) pe_int))),
 (ss_ret (si_mod (SemI.b (si_mul (SemI.b (si_add (SemI.b (si_add (SemI.b (si_mul (sb_var 0) (sb_var 0))) (SemI.b (si_mul (sb_var 1) (sb_var 0))))) (SemI.b (si_mul (SemI.b (si_mul (SemI.b si_int) (sb_var 1))) (sb_var 1))))) (SemI.b si_int))) (SemI.b si_int)))⟩
theorem ok_l_whole (T:Txt K mg ad) (hbm:BmOk mg base):FnOk P w K mg base CX0 1 ad.f_l_whole ad.d_l_whole ["_law_found"] (spD .v K [false] F_l_whole):=by
  rw [F_l_whole_def]
  exact Fun.okD (N:=["_law_found"]) T.F_l_whole sc_l_whole [false] rfl B_l_whole fun cdv A outer s H E hr=>⟨_,
 (pss_one (ps_ret (pe_and (pe_callB (call_isiK (K:=K) rfl) rfl T.z_isinstance bt_isinstance (pa_cons (pv 0) (pa_cons (pe_bltn (v:=.ty "int") rfl T.z_int bt_int rfl) pa_nil))) (pe_one (pe_not (pe_callB (call_isiK (K:=K) rfl) rfl T.z_isinstance bt_isinstance (pa_cons (pv 0) (pa_cons (pe_bltn (v:=.ty "bool") rfl T.z_bool bt_bool rfl) pa_nil)))))))),
 (ss_ret (si_andV (SemI.b (si_isi (n := "int") (sb_var 0))) (si_notV (SemI.b (si_isi (n := "bool") (sb_var 0))))))⟩
theorem ok_l_cell_at (T:Txt K mg ad) (hbm:BmOk mg base):FnOk P w K mg base CX0 1 ad.f_l_cell_at ad.d_l_cell_at ["_law_script", "_law_k"] (spD .v K [false,false] F_l_cell_at):=by
  rw [F_l_cell_at_def]
  exact Fun.okD (N:=["_law_script", "_law_k"]) T.F_l_cell_at sc_l_cell_at [false,false] rfl B_l_cell_at fun cdv A outer s H E hr=>⟨_,
 (pss_cons (ps_if (pt_cmpR op_lt (pv 1) (pe_callB (call_lenK (K:=K) rfl) rfl T.z_len bt_len (pa_cons (pv 0) pa_nil)) (nomark _))
 (pss_one (ps_ret (pe_ix (ix_seqK (K:=K) rfl) (pv 0) (pv 1) (fun _ _=>rfl))))
 pss_nil)
 (pss_one (ps_ret pe_int))),
 (ss_seq (ss_if (st_test (SemI.b (si_lt (sb_var 1) (SemI.b (si_len (sb_var 0))))))
 (ss_ret (SemB.i (sb_ix (sb_var 0) (sb_var 1))))
 ss_pass)
 (ss_ret si_int))⟩
theorem ok_l_works (T:Txt K mg ad) (hbm:BmOk mg base):FnOk P w K mg base CX0 2 ad.f_l_works ad.d_l_works ["_law_script"] (spD .v K [false] F_l_works):=by
  rw [F_l_works_def]
  exact Fun.okD (N:=["_law_script", "_law_cell", "_law_unit", "_law_many", "_law_works_here", "_law_k", "_law_work"]) T.F_l_works sc_l_works [false] rfl B_l_works fun cdv A outer s H E hr=>⟨_,
 (pss_cons (ps_set (i:=1) sc_l_works.nd rfl (Or.inl rfl) (pe_call (ok_l_cell_at T hbm) (hr.mono (by decide)) rfl T.m_l_cell_at T.F_l_cell_at.kp T.b_l_cell_at .nil pass0 (pa_cons (pv 0) (pa_cons pe_int pa_nil))))
 (pss_cons (ps_set (i:=2) sc_l_works.nd rfl (Or.inr rfl) (pe_ix (ix_seqK (K:=K) rfl) (pe_lst (pa_cons pe_int (pa_cons pe_int (pa_cons (pe_op op_add (pe_op op_pow pe_int pe_int) pe_int) pa_nil)))) (pe_op op_mod (pv 1) pe_int) (fun _ _=>rfl)))
 (pss_cons (ps_set (i:=3) sc_l_works.nd rfl (Or.inl rfl) (pe_callB (call_min2 rfl) rfl T.z_min bt_min (pa_cons pe_int (pa_cons (pe_callB (call_max2 rfl) rfl T.z_max bt_max (pa_cons pe_int (pa_cons (pe_op op_sub (pe_callB (call_lenK (K:=K) rfl) rfl T.z_len bt_len (pa_cons (pv 0) pa_nil)) pe_int) pa_nil))) pa_nil))))
 (pss_cons (ps_cN0 (i:=4) sc_l_works.nd rfl rfl rfl (pi_range1 rfl T.z_range (pa_cons (pv 3) pa_nil)) (ts:=["_law_k"]) (zs:=["_law_unit"]) (k:=1) (is:=[2]) rfl (.cons rfl .nil) (.cons rfl (Or.inl rfl) rfl (by first | exact Or.inl rfl | exact Or.inr rfl) .nil) rfl (low_name (by decide)) (fun _ _ _ _ _=>(pgb (by decide +kernel) rfl rfl)) (fun _ _ _ _ _=>(pe_lst (pa_cons pe_int (pa_cons (pv 1) (pa_cons pe_int pa_nil))))) rfl (by decide +kernel) rfl (by decide +kernel))
 (pss_cons (ps_for PassesOwn.never rfl (pi_range2 rfl T.z_range (pa_cons pe_int (pa_cons (pe_callB (call_min2 rfl) rfl T.z_min bt_min (pa_cons pe_int (pa_cons (pe_callB (call_lenK (K:=K) rfl) rfl T.z_len bt_len (pa_cons (pv 0) pa_nil)) pa_nil))) pa_nil))) (pg_name (i:=5) sc_l_works.nd rfl (Or.inl rfl))
 (pss_cons (ps_set (i:=6) sc_l_works.nd rfl (Or.inl rfl) (pe_ix (ix_seqK (K:=K) rfl) (pv 4) (pe_op op_mod (pe_op op_sub (pv 5) pe_int) pe_int) (fun _ _=>rfl)))
 (pss_cons (ps_asg (pe_op op_mod (pe_op op_add (pe_ix (ix_seqK (K:=K) rfl) (pv 6) pe_int (fun _ _=>rfl)) (pe_op op_mulB (pv 2) (pe_op op_mod (pe_call (ok_l_mix T hbm) (hr.mono (by decide)) rfl T.m_l_mix T.F_l_mix.kp T.b_l_mix .nil pass0 (pa_cons (pe_ix (ix_seqK (K:=K) rfl) (pv 0) (pv 5) (fun _ _=>rfl)) (pa_cons pe_int pa_nil))) pe_int))) (pe_op op_mulB pe_int (pv 2))) (pg_sub (pv 6) pe_int set_list))
 (pss_cons (ps_asg (pe_op op_mulB (pv 2) (pe_op op_add pe_int (pe_op op_mod (pe_call (ok_l_mix T hbm) (hr.mono (by decide)) rfl T.m_l_mix T.F_l_mix.kp T.b_l_mix .nil pass0 (pa_cons (pe_ix (ix_seqK (K:=K) rfl) (pv 0) (pv 5) (fun _ _=>rfl)) (pa_cons pe_int pa_nil))) pe_int))) (pg_sub (pv 6) pe_int set_list))
 (pss_cons (ps_asg (pe_op op_mulB (pv 2) (pe_op op_mod (pe_call (ok_l_mix T hbm) (hr.mono (by decide)) rfl T.m_l_mix T.F_l_mix.kp T.b_l_mix .nil pass0 (pa_cons (pe_ix (ix_seqK (K:=K) rfl) (pv 0) (pv 5) (fun _ _=>rfl)) (pa_cons pe_int pa_nil))) (pe_ix (ix_seqK (K:=K) rfl) (pe_lst (pa_cons pe_int (pa_cons pe_int pa_nil))) (pe_op op_mod (pe_op op_fdivB (pv 1) pe_int) pe_int) (fun _ _=>rfl)))) (pg_sub (pv 6) pe_int set_list))
 (pss_one (ps_if (pt_cmpR (op_eqD (K:=K) hr.units) (pe_op op_mod (pe_op op_fdivB (pv 1) pe_int) pe_int) pe_int (nomark _))
 (pss_one (ps_asg (pe_lst (pa_cons (pe_op op_mod (pe_ix (ix_seqK (K:=K) rfl) (pv 0) (pv 5) (fun _ _=>rfl)) (pe_op op_pow pe_int pe_int)) (pa_cons (pe_op op_add pe_int (pe_op op_mod (pe_op op_fdivB (pe_ix (ix_seqK (K:=K) rfl) (pv 0) (pv 5) (fun _ _=>rfl)) pe_int) (pe_op op_pow pe_int pe_int))) (pa_cons (pe_op op_mod (pe_op op_fdivB (pe_ix (ix_seqK (K:=K) rfl) (pv 0) (pv 5) (fun _ _=>rfl)) pe_int) (pe_op op_pow pe_int pe_int)) pa_nil)))) (pg_sub (pv 4) (pe_op op_mod (pe_op op_sub (pv 5) pe_int) pe_int) set_list)))
 pss_nil)))))))
 (pss_one (ps_ret (pv 4)))))))),
 (ss_seq (ss_set (si_call (sa_any (sb_var 0) (sa_any (SemI.b si_int) sa_nil))))
 (ss_seq (ss_set (si_ix (SemF.l (sf_lst (n:=3) (sa_own si_int (sa_own si_int (sa_own (si_add (SemI.b (si_pow (SemI.b si_int) (SemI.b si_int))) (SemI.b si_int)) sa_nil))) (by decide))) (SemI.b (si_mod (sb_var 1) (SemI.b si_int)))))
 (ss_seq (ss_set (si_min2 (SemI.b si_int) (SemI.b (si_max2 (SemI.b si_int) (SemI.b (si_sub (SemI.b (si_len (sb_var 0))) (SemI.b si_int)))))))
 (ss_seq (ss_setMC (sm_comp (m:=true) (k:=1) (cs:=[2]) (SemW.c (sw_range1 (sb_var 3))) (sg_name 0) st_true (sf_lst (n:=3) (sa_own si_int (sa_own (si_var 1) (sa_own si_int sa_nil))) (by decide))))
 (ss_seq (ss_for (m:=true) (sw_range2 (SemI.b si_int) (SemI.b (si_min2 (SemI.b si_int) (SemI.b (si_len (sb_var 0)))))) (sg_name 5)
 (ss_alias (i:=4) (j:=6) (by decide) (SemI.b (si_mod (SemI.b (si_sub (sb_var 5) (SemI.b si_int))) (SemI.b si_int))) (Puts.cons (si_mod (SemI.b (si_add (sb_ix (sb_var 6) (SemI.b si_int)) (SemI.b (si_mul (sb_var 2) (SemI.b (si_mod (SemI.b (si_call (sa_any (sb_ix (sb_var 0) (sb_var 5)) (sa_any (SemI.b si_int) sa_nil)))) (SemI.b si_int))))))) (SemI.b (si_mul (SemI.b si_int) (sb_var 2)))) (SemI.b si_int) (Puts.cons (si_mul (sb_var 2) (SemI.b (si_add (SemI.b si_int) (SemI.b (si_mod (SemI.b (si_call (sa_any (sb_ix (sb_var 0) (sb_var 5)) (sa_any (SemI.b si_int) sa_nil)))) (SemI.b si_int)))))) (SemI.b si_int) (Puts.cons (si_mul (sb_var 2) (SemI.b (si_mod (SemI.b (si_call (sa_any (sb_ix (sb_var 0) (sb_var 5)) (sa_any (SemI.b si_int) sa_nil)))) (sb_ix (SemI.b (SemF.l (sf_lst (n:=2) (sa_own si_int (sa_own si_int sa_nil)) (by decide)))) (SemI.b (si_mod (SemI.b (si_fdiv (sb_var 1) (SemI.b si_int))) (SemI.b si_int))))))) (SemI.b si_int) Puts.nil)))
 (ss_if (st_test (SemI.b (si_eq (neg:=false) (SemI.b (si_mod (SemI.b (si_fdiv (sb_var 1) (SemI.b si_int))) (SemI.b si_int))) (SemI.b si_int))))
 (ss_rowput (sf_lst (n:=3) (sa_own (si_mod (sb_ix (sb_var 0) (sb_var 5)) (SemI.b (si_pow (SemI.b si_int) (SemI.b si_int)))) (sa_own (si_add (SemI.b si_int) (SemI.b (si_mod (SemI.b (si_fdiv (sb_ix (sb_var 0) (sb_var 5)) (SemI.b si_int))) (SemI.b (si_pow (SemI.b si_int) (SemI.b si_int)))))) (sa_own (si_mod (SemI.b (si_fdiv (sb_ix (sb_var 0) (sb_var 5)) (SemI.b si_int))) (SemI.b (si_pow (SemI.b si_int) (SemI.b si_int)))) sa_nil))) (by decide)) (SemI.b (si_mod (SemI.b (si_sub (sb_var 5) (SemI.b si_int))) (SemI.b si_int))))
 ss_pass)))
 (ss_frz 4 (ss_ret (si_var 4))))))))⟩
theorem ok_l_chosen (T:Txt K mg ad) (hbm:BmOk mg base):FnOk P w K mg base CX0 1 ad.f_l_chosen ad.d_l_chosen ["_law_works_here", "_law_left", "_law_moment"] (spD .v K [true,false,false] F_l_chosen):=by
  rw [F_l_chosen_def]
  exact Fun.okD (N:=["_law_works_here", "_law_left", "_law_moment", "_law_found", "_law_k"]) T.F_l_chosen sc_l_chosen [true,false,false] rfl B_l_chosen fun cdv A outer s H E hr=>⟨_,
 (pss_cons (ps_set (i:=3) sc_l_chosen.nd rfl (Or.inl rfl) (pe_lst pa_nil))
 (pss_cons (ps_for PassesOwn.never rfl (pi_range1 rfl T.z_range (pa_cons (pe_callB (call_lenK (K:=K) rfl) rfl T.z_len bt_len (pa_cons (pv 0) pa_nil)) pa_nil)) (pg_name (i:=4) sc_l_chosen.nd rfl (Or.inl rfl))
 (pss_one (ps_if (PW.pt (pw_and (pt_cmpR op_gt (pe_ix (ix_seqK (K:=K) rfl) (pv 1) (pv 4) (fun _ _=>rfl)) pe_int (nomark _)) (pw_and (pt_cmpR op_le (pe_ix (ix_seqK (K:=K) rfl) (pe_ix (ix_seqK (K:=K) rfl) (pv 0) (pv 4) (fun _ _=>rfl)) pe_int (fun _ _=>rfl)) (pv 2) (nomark _)) (pw_and1 (PW.pt (pw_or (pt_cmpR (op_eqD (K:=K) hr.units) (pv 3) (pe_lst pa_nil) (nomark _)) (pw_or1 (pt_cmpR op_gt (pe_ix (ix_seqK (K:=K) rfl) (pe_ix (ix_seqK (K:=K) rfl) (pv 0) (pv 4) (fun _ _=>rfl)) pe_int (fun _ _=>rfl)) (pe_ix (ix_seqK (K:=K) rfl) (pe_ix (ix_seqK (K:=K) rfl) (pv 0) (pe_ix (ix_seqK (K:=K) rfl) (pv 3) pe_int (fun _ _=>rfl)) (fun _ _=>rfl)) pe_int (fun _ _=>rfl)) (nomark _)))))))))
 (pss_one (ps_set (i:=3) sc_l_chosen.nd rfl (Or.inl rfl) (pe_lst (pa_cons (pv 4) pa_nil))))
 pss_nil)))
 (pss_one (ps_ret (pv 3))))),
 (ss_seq (ss_set (SemF.l (sf_lst (n:=0) sa_nil (by decide))))
 (ss_seq (ss_for (m:=true) (sw_range1 (SemI.b (si_len (sb_var 0)))) (sg_name 4)
 (ss_if (st_and (st_test (SemI.b (si_gt (sb_ix (sb_var 1) (sb_var 4)) (SemI.b si_int)))) (st_and (st_test (SemI.b (si_le (sb_ix (sb_ix (sb_var 0) (sb_var 4)) (SemI.b si_int)) (sb_var 2)))) (st_or (st_test (SemI.b (si_eq (neg:=false) (sb_var 3) (SemI.b (SemF.l (sf_lst (n:=0) sa_nil (by decide))))))) (st_test (SemI.b (si_gt (sb_ix (sb_ix (sb_var 0) (sb_var 4)) (SemI.b si_int)) (sb_ix (sb_ix (sb_var 0) (sb_ix (sb_var 3) (SemI.b si_int))) (SemI.b si_int))))))))
 (ss_set (SemF.l (sf_lst (n:=1) (sa_own (si_var 4) sa_nil) (by decide))))
 ss_pass))
 (ss_ret (si_var 3))))⟩
theorem ok_l_due (T:Txt K mg ad) (hbm:BmOk mg base):FnOk P w K mg base CX0 2 ad.f_l_due ad.d_l_due ["_law_works_here"] (spD .m K [true] F_l_due):=by
  rw [F_l_due_def]
  exact Fun.okF (N:=["_law_works_here", "_law_left", "_law_rows", "_law_stops", "_law_moment", "_law_later", "_law_chosen_here", "_law_k", "_law_end"]) T.F_l_due sc_l_due [true] rfl B_l_due fun cdv A outer s H E hr=>⟨_,
 (pss_cons (ps_cN0 (i:=1) sc_l_due.nd rfl rfl rfl (pi_listK (K:=K) rfl (pv 0)) (ts:=["_law_work"]) (zs:=[]) (k:=1) (is:=[]) rfl .nil .nil rfl (low_name (by decide)) (fun _ _ _ _ _=>(pgb (by decide +kernel) rfl rfl)) (fun _ _ _ _ _=>(pe_ix (ix_seqK (K:=K) rfl) (pv 0) pe_int (fun _ _=>rfl))) rfl (by decide +kernel) rfl (by decide +kernel))
 (pss_cons (ps_set (i:=2) sc_l_due.nd rfl (Or.inl rfl) (pe_lst pa_nil))
 (pss_cons (ps_set (i:=3) sc_l_due.nd rfl (Or.inl rfl) (pe_srtSet (K:=K) rfl rfl rfl T.z_sorted rfl T.z_set (pe_cN0 rfl (pi_listK (K:=K) rfl (pv 0)) (ts:=["_law_work"]) (zs:=[]) (k:=1) (is:=[]) rfl .nil .nil rfl (low_name (by decide)) (fun _ _ _ _ _=>(pgb (by decide +kernel) rfl rfl)) (fun _ _ _ _ _=>(pe_ix (ix_seqK (K:=K) rfl) (pv 0) pe_int (fun _ _=>rfl))) rfl (by decide +kernel) rfl (by decide +kernel))))
 (pss_cons (ps_set (i:=4) sc_l_due.nd rfl (Or.inr rfl) pe_int)
 (pss_cons (ps_while PassesOwn.never (pt_cmpR op_gt (pe_callB (call_sumK (K:=K) rfl rfl) rfl T.z_sum bt_sum (pa_cons (pv 1) pa_nil)) pe_int (nomark _))
 (pss_cons (ps_cN1 (i:=5) sc_l_due.nd rfl rfl rfl (pi_listK (K:=K) rfl (pv 3)) (ts:=["_law_stop"]) (zs:=["_law_moment"]) (k:=1) (is:=[4]) rfl (.cons rfl .nil) (.cons rfl (Or.inl rfl) rfl (by first | exact Or.inl rfl | exact Or.inr rfl) .nil) rfl (low_name (by decide)) (fun _ _ _ _ _=>(pgb (by decide +kernel) rfl rfl)) (fun _ _ _ _ _=>(pt_cmpR op_gt (pv 0) (pv 1) (nomark _))) (fun _ _ _ _ _=>(pv 0)) rfl (by decide +kernel) rfl (by decide +kernel))
 (pss_cons (ps_set (i:=6) sc_l_due.nd rfl (Or.inl rfl) (pe_call (ok_l_chosen T hbm) (hr.mono (by decide)) rfl T.m_l_chosen T.F_l_chosen.kp T.b_l_chosen .nil pass0 (pa_cons (pv 0) (pa_cons (pv 1) (pa_cons (pv 4) pa_nil)))))
 (pss_one (ps_if (pt_cmpR (op_eqD (K:=K) hr.units) (pv 6) (pe_lst pa_nil) (nomark _))
 (pss_one (ps_set (i:=4) sc_l_due.nd rfl (Or.inr rfl) (pe_ix (ix_seqK (K:=K) rfl) (pv 5) pe_int (fun _ _=>rfl))))
 (pss_cons (ps_set (i:=7) sc_l_due.nd rfl (Or.inl rfl) (pe_ix (ix_seqK (K:=K) rfl) (pv 6) pe_int (fun _ _=>rfl)))
 (pss_cons (ps_set (i:=8) sc_l_due.nd rfl (Or.inl rfl) (pe_op op_add (pv 4) (pe_ix (ix_seqK (K:=K) rfl) (pv 1) (pv 7) (fun _ _=>rfl))))
 (pss_cons (ps_if (PW.pt (pw_and (pt_cmpR (op_neD (K:=K) hr.units) (pv 5) (pe_lst pa_nil) (nomark _)) (pw_and1 (pt_cmpR op_lt (pe_ix (ix_seqK (K:=K) rfl) (pv 5) pe_int (fun _ _=>rfl)) (pv 8) (nomark _)))))
 (pss_one (ps_set (i:=8) sc_l_due.nd rfl (Or.inl rfl) (pe_ix (ix_seqK (K:=K) rfl) (pv 5) pe_int (fun _ _=>rfl))))
 pss_nil)
 (pss_cons (ps_asg (pe_op op_sub (pe_ix (ix_seqK (K:=K) rfl) (pv 1) (pv 7) (fun _ _=>rfl)) (pe_op op_sub (pv 8) (pv 4))) (pg_sub (pv 1) (pv 7) set_list))
 (pss_cons (ps_if (PW.pt (pw_and (pt_cmpR (op_neD (K:=K) hr.units) (pv 2) (pe_lst pa_nil) (nomark _)) (pw_and (pt_cmpR (op_eqD (K:=K) hr.units) (pe_ix (ix_seqK (K:=K) rfl) (pe_ix (ix_seqK (K:=K) rfl) (pv 2) (pe_un un_neg pe_int) (fun _ _=>rfl)) pe_int (fun _ _=>rfl)) (pv 7) (nomark _)) (pw_and1 (pt_cmpR (op_eqD (K:=K) hr.units) (pe_ix (ix_seqK (K:=K) rfl) (pe_ix (ix_seqK (K:=K) rfl) (pv 2) (pe_un un_neg pe_int) (fun _ _=>rfl)) pe_int (fun _ _=>rfl)) (pv 4) (nomark _))))))
 (pss_one (ps_asg (pv 8) (pg_sub (pe_ix (ix_seqK (K:=K) rfl) (pv 2) (pe_un un_neg pe_int) (fun _ _=>rfl)) pe_int set_list)))
 (pss_one (ps_expr (pe_bm PySem.F.plainAttrs_list PySem.F.slot_list_append PySem.F.type_list_append mt_append (pv 2) (pa_cons (pe_lst (pa_cons pe_int (pa_cons (pv 7) (pa_cons (pv 4) (pa_cons (pv 8) pa_nil))))) pa_nil)))))
 (pss_one (ps_set (i:=4) sc_l_due.nd rfl (Or.inr rfl) (pv 8)))))))))))))
 (pss_one (ps_ret (pv 2)))))))),
 (ss_seq (ss_setOC (sf_comp (m:=true) (k:=1) (cs:=[]) (SemW.c (sw_list (si_var 0))) (sg_name 0) st_true (si_ix (si_var 0) (SemI.b si_int))))
 (ss_seq (ss_setM sm_nil)
 (ss_seq (ss_set (SemF.l (sf_srtS (SemI.b (SemF.l (sf_comp (m:=true) (k:=1) (cs:=[]) (SemW.c (sw_list (si_var 0))) (sg_name 0) st_true (si_ix (si_var 0) (SemI.b si_int))))))))
 (ss_seq (ss_set si_int)
 (ss_seq (ss_while (st_test (SemI.b (si_gt (SemI.b (si_sum (sb_var 1))) (SemI.b si_int))))
 (ss_seq (ss_setC (SemF.l (sf_comp (m:=true) (k:=1) (cs:=[4]) (SemW.c (sw_list (si_var 3))) (sg_name 0) (st_test (SemI.b (si_gt (sb_var 0) (sb_var 1)))) (si_var 0))))
 (ss_seq (ss_set (si_call (sa_own (si_var 0) (sa_any (sb_var 1) (sa_any (sb_var 4) sa_nil)))))
 (ss_if (st_test (SemI.b (si_eq (neg:=false) (sb_var 6) (SemI.b (SemF.l (sf_lst (n:=0) sa_nil (by decide)))))))
 (ss_set (si_ix (si_var 5) (SemI.b si_int)))
 (ss_seq (ss_set (si_ix (si_var 6) (SemI.b si_int)))
 (ss_seq (ss_set (si_add (sb_var 4) (sb_ix (sb_var 1) (sb_var 7))))
 (ss_seq (ss_if (st_and (st_test (SemI.b (si_eq (neg:=true) (sb_var 5) (SemI.b (SemF.l (sf_lst (n:=0) sa_nil (by decide))))))) (st_test (SemI.b (si_lt (sb_ix (sb_var 5) (SemI.b si_int)) (sb_var 8)))))
 (ss_set (si_ix (si_var 5) (SemI.b si_int)))
 ss_pass)
 (ss_seq (ss_put (si_sub (sb_ix (sb_var 1) (sb_var 7)) (SemI.b (si_sub (sb_var 8) (sb_var 4)))) (sb_var 7))
 (ss_seq (ss_if (st_and (st_test (SemI.b (si_eq (neg:=true) (sb_var 2) (SemI.b (SemF.l (sf_lst (n:=0) sa_nil (by decide))))))) (st_and (st_test (SemI.b (si_eq (neg:=false) (sb_ix (sb_ix (sb_var 2) (SemI.b (si_neg (SemI.b si_int)))) (SemI.b si_int)) (sb_var 7)))) (st_test (SemI.b (si_eq (neg:=false) (sb_ix (sb_ix (sb_var 2) (SemI.b (si_neg (SemI.b si_int)))) (SemI.b si_int)) (sb_var 4))))))
 (ss_put2 (si_var 8) (SemI.b (si_neg (SemI.b si_int))) (SemI.b si_int))
 (ss_appM (sf_lst (n:=4) (sa_own si_int (sa_own (si_var 7) (sa_own (si_var 4) (sa_own (si_var 8) sa_nil)))) (by decide))))
 (ss_set (si_var 8)))))))))))
 ss_retXM)))))⟩
theorem ok_l_like (T:Txt K mg ad) (hbm:BmOk mg base):FnOk P w K mg base CX0 2 ad.f_l_like ad.d_l_like ["_law_found", "_law_due_here"] (spD .v K [false,false] F_l_like):=by
  rw [F_l_like_def]
  exact Fun.okD (N:=["_law_found", "_law_due_here", "_law_row", "_law_number"]) T.F_l_like sc_l_like [false,false] rfl B_l_like fun cdv A outer s H E hr=>⟨_,
 (pss_cons (ps_if (PW.pt (pw_or (pt_not (pt_truthK (K:=K) rfl (pe_callB (call_isiK (K:=K) rfl) rfl T.z_isinstance bt_isinstance (pa_cons (pv 0) (pa_cons (pe_bltn (v:=.ty "list") rfl T.z_list bt_list rfl) pa_nil))) (fun _=>rfl))) (pw_or1 (pt_cmpR (op_neD (K:=K) hr.units) (pe_callB (call_lenK (K:=K) rfl) rfl T.z_len bt_len (pa_cons (pv 0) pa_nil)) (pe_callB (call_lenK (K:=K) rfl) rfl T.z_len bt_len (pa_cons (pv 1) pa_nil)) (nomark _)))))
 (pss_one (ps_ret pe_bl))
 pss_nil)
 (pss_cons (ps_for PassesOwn.never rfl (pi_listK (K:=K) rfl (pv 0)) (pg_name (i:=2) sc_l_like.nd rfl (Or.inl rfl))
 (pss_cons (ps_if (pt_not (pt_truthK (K:=K) rfl (pe_callB (call_isiK (K:=K) rfl) rfl T.z_isinstance bt_isinstance (pa_cons (pv 2) (pa_cons (pe_bltn (v:=.ty "list") rfl T.z_list bt_list rfl) pa_nil))) (fun _=>rfl)))
 (pss_one (ps_ret pe_bl))
 pss_nil)
 (pss_one (ps_for PassesOwn.never rfl (pi_listK (K:=K) rfl (pv 2)) (pg_name (i:=3) sc_l_like.nd rfl (Or.inl rfl))
 (pss_one (ps_if (pt_not (pt_truthK (K:=K) rfl (pe_call (ok_l_whole T hbm) (hr.mono (by decide)) rfl T.m_l_whole T.F_l_whole.kp T.b_l_whole .nil pass0 (pa_cons (pv 3) pa_nil)) (fun _=>rfl)))
 (pss_one (ps_ret pe_bl))
 pss_nil))))))
 (pss_one (ps_ret (pe_cmpR (op_eqD (K:=K) hr.units) (pv 0) (pv 1) (nomark _)))))),
 (ss_seq (ss_if (st_or (st_not (st_tru (K:=K) (SemI.b (si_isi (n := "list") (sb_var 0))))) (st_test (SemI.b (si_eq (neg:=true) (SemI.b (si_len (sb_var 0))) (SemI.b (si_len (sb_var 1)))))))
 (ss_ret si_bl)
 ss_pass)
 (ss_seq (ss_for (m:=false) (sw_listO (so_var 0)) (sg_name 2)
 (ss_seq (ss_if (st_not (st_tru (K:=K) (SemI.b (si_isi (n := "list") (sb_var 2)))))
 (ss_ret si_bl)
 ss_pass)
 (ss_for (m:=false) (sw_listO (so_var 2)) (sg_name 3)
 (ss_if (st_not (st_tru (K:=K) (SemI.b (si_call (sa_any (sb_var 3) sa_nil)))))
 (ss_ret si_bl)
 ss_pass))))
 (ss_ret (si_eq (neg:=false) (sb_var 0) (sb_var 1)))))⟩
theorem ok_l_till (T:Txt K mg ad) (hbm:BmOk mg base):FnOk P w K mg base CX0 1 ad.f_l_till ad.d_l_till ["_law_rows", "_law_moment"] (spD .v K [true,false] F_l_till):=by
  rw [F_l_till_def]
  exact Fun.okD (N:=["_law_rows", "_law_moment"]) T.F_l_till sc_l_till [true,false] rfl B_l_till fun cdv A outer s H E hr=>⟨_,
 (pss_one (ps_ret (pe_cN1 rfl (pi_listK (K:=K) rfl (pv 0)) (ts:=["_law_row"]) (zs:=["_law_moment"]) (k:=1) (is:=[1]) rfl (.cons rfl .nil) (.cons rfl (Or.inl rfl) rfl (by first | exact Or.inl rfl | exact Or.inr rfl) .nil) rfl (low_name (by decide)) (fun _ _ _ _ _=>(pgb (by decide +kernel) rfl rfl)) (fun _ _ _ _ _=>(pt_cmpR op_lt (pe_ix (ix_seqK (K:=K) rfl) (pv 0) pe_int (fun _ _=>rfl)) (pv 1) (nomark _))) (fun _ _ _ _ _=>(pe_op op_catR (pe_slice (sl_listK (K:=K) rfl) (pv 0) po_none (po_some pe_int)) (pe_lst (pa_cons (pe_callB (call_min2 rfl) rfl T.z_min bt_min (pa_cons (pe_ix (ix_seqK (K:=K) rfl) (pv 0) pe_int (fun _ _=>rfl)) (pa_cons (pv 1) pa_nil))) pa_nil)))) rfl (by decide +kernel) rfl (by decide +kernel)))),
 (ss_ret (SemF.l (sf_comp (m:=true) (k:=1) (cs:=[1]) (SemW.c (sw_list (si_var 0))) (sg_name 0) (st_test (SemI.b (si_lt (sb_ix (sb_var 0) (SemI.b si_int)) (sb_var 1)))) (SemF.l (sf_cat (SemF.l (sf_sl (si_var 0) so_none (so_some (SemI.b si_int)))) (SemF.l (sf_lst (n:=1) (sa_own (si_min2 (sb_ix (sb_var 0) (SemI.b si_int)) (sb_var 1)) sa_nil) (by decide))))))))⟩
theorem ok_law (T:Txt K mg ad) (hbm:BmOk mg base):FnOk P w K mg base CX0 4 ad.f_law ad.d_law ["_law_script"] (spD .v K [false] F_law):=by
  rw [F_law_def]
  exact Fun.okD (N:=["_law_script", "_law_works_here", "_law_handed", "_law_due_here", "_law_found", "_law_row", "_law_moment", "_law_few", "_law_early"]) T.F_law sc_law [false] rfl B_law fun cdv A outer s H E hr=>⟨_,
 (pss_cons (ps_set (i:=1) sc_law.nd rfl (Or.inr rfl) (pe_call (ok_l_works T hbm) (hr.mono (by decide)) rfl T.m_l_works T.F_l_works.kp T.b_l_works .nil pass0 (pa_cons (pv 0) pa_nil)))
 (pss_cons (ps_cN0 (i:=2) sc_law.nd rfl rfl rfl (pi_listK (K:=K) rfl (pv 1)) (ts:=["_law_work"]) (zs:=[]) (k:=1) (is:=[]) rfl .nil .nil rfl (low_name (by decide)) (fun _ _ _ _ _=>(pgb (by decide +kernel) rfl rfl)) (fun _ _ _ _ _=>(pe_callTy (call_list_ofK (K:=K) rfl) rfl T.z_list bt_list (pa_cons (pv 0) pa_nil))) rfl (by decide +kernel) rfl (by decide +kernel))
 (pss_cons (ps_set (i:=3) sc_law.nd rfl (Or.inl rfl) (pe_call (ok_l_due T hbm) (hr.mono (by decide)) rfl T.m_l_due T.F_l_due.kp T.b_l_due .nil pass0 (pa_cons (pv 1) pa_nil)))
 (pss_cons (ps_set (i:=4) sc_law.nd rfl (Or.inl rfl) (pe_call (ok_tail_plan T hbm) (hr.mono (by decide)) rfl T.m_tail_plan T.F_tail_plan.kp T.b_tail_plan .nil pass0 (pa_cons (pv 2) pa_nil)))
 (pss_cons (ps_if (PW.pt (pw_or (pt_not (pt_truthK (K:=K) rfl (pe_call (ok_l_like T hbm) (hr.mono (by decide)) rfl T.m_l_like T.F_l_like.kp T.b_l_like .nil pass0 (pa_cons (pv 4) (pa_cons (pv 3) pa_nil))) (fun _=>rfl))) (pw_or1 (pt_cmpR (op_neD (K:=K) hr.units) (pv 2) (pv 1) (nomark _)))))
 (pss_one (ps_ret pe_bl))
 pss_nil)
 (pss_cons (ps_for PassesOwn.never rfl (pi_listK (K:=K) rfl (pv 4)) (pg_name (i:=5) sc_law.nd rfl (Or.inl rfl)) (pss_one (ps_expr (pe_bm PySem.F.plainAttrs_list PySem.F.slot_list_append PySem.F.type_list_append mt_append (pv 5) (pa_cons (pe_bm PySem.F.plainAttrs_list PySem.F.slot_list_pop PySem.F.type_list_pop mt_popAt (pv 5) (pa_cons pe_int pa_nil)) pa_nil)))))
 (pss_cons (ps_set (i:=6) sc_law.nd rfl (Or.inr rfl) (pe_op op_mod (pe_call (ok_l_cell_at T hbm) (hr.mono (by decide)) rfl T.m_l_cell_at T.F_l_cell_at.kp T.b_l_cell_at .nil pass0 (pa_cons (pv 0) (pa_cons pe_int pa_nil))) (pe_op op_pow pe_int pe_int)))
 (pss_cons (ps_if (PW.pt (pw_and (pt_cmpR op_gt (pe_op op_mod (pe_call (ok_l_cell_at T hbm) (hr.mono (by decide)) rfl T.m_l_cell_at T.F_l_cell_at.kp T.b_l_cell_at .nil pass0 (pa_cons (pv 0) (pa_cons pe_int pa_nil))) pe_int) pe_int (nomark _)) (pw_and1 (pt_cmpR op_gt (pe_callB (call_lenK (K:=K) rfl) rfl T.z_len bt_len (pa_cons (pv 1) pa_nil)) pe_int (nomark _)))))
 (pss_one (ps_set (i:=6) sc_law.nd rfl (Or.inr rfl) (pe_ix (ix_seqK (K:=K) rfl) (pe_ix (ix_seqK (K:=K) rfl) (pv 1) (pe_op op_mod (pe_call (ok_l_mix T hbm) (hr.mono (by decide)) rfl T.m_l_mix T.F_l_mix.kp T.b_l_mix .nil pass0 (pa_cons (pe_call (ok_l_cell_at T hbm) (hr.mono (by decide)) rfl T.m_l_cell_at T.F_l_cell_at.kp T.b_l_cell_at .nil pass0 (pa_cons (pv 0) (pa_cons pe_int pa_nil))) (pa_cons pe_int pa_nil))) (pe_callB (call_lenK (K:=K) rfl) rfl T.z_len bt_len (pa_cons (pv 1) pa_nil))) (fun _ _=>rfl)) pe_int (fun _ _=>rfl))))
 pss_nil)
 (pss_cons (ps_set (i:=7) sc_law.nd rfl (Or.inr rfl) (pe_cN1 rfl (pi_range1 rfl T.z_range (pa_cons (pe_callB (call_lenK (K:=K) rfl) rfl T.z_len bt_len (pa_cons (pv 1) pa_nil)) pa_nil)) (ts:=["_law_k"]) (zs:=["_law_works_here", "_law_moment"]) (k:=1) (is:=[1,6]) rfl (.cons rfl (.cons rfl .nil)) (.cons rfl (Or.inl rfl) rfl (by first | exact Or.inl rfl | exact Or.inr rfl) (.cons rfl (Or.inl rfl) rfl (by first | exact Or.inl rfl | exact Or.inr rfl) .nil)) rfl (low_name (by decide)) (fun _ _ _ _ _=>(pgb (by decide +kernel) rfl rfl)) (fun _ _ _ _ _=>(pt_cmpR op_lt (pe_ix (ix_seqK (K:=K) rfl) (pe_ix (ix_seqK (K:=K) rfl) (pv 1) (pv 0) (fun _ _=>rfl)) pe_int (fun _ _=>rfl)) (pv 2) (nomark _))) (fun _ _ _ _ _=>(pv 0)) rfl (by decide +kernel) rfl (by decide +kernel)))
 (pss_cons (ps_cN0 (i:=8) sc_law.nd rfl rfl rfl (pi_listK (K:=K) rfl (pe_call (ok_tail_plan T hbm) (hr.mono (by decide)) rfl T.m_tail_plan T.F_tail_plan.kp T.b_tail_plan .nil pass0 (pa_cons (pe_cN0 rfl (pi_listK (K:=K) rfl (pv 7)) (ts:=["_law_k"]) (zs:=["_law_works_here"]) (k:=1) (is:=[1]) rfl (.cons rfl .nil) (.cons rfl (Or.inl rfl) rfl (by first | exact Or.inl rfl | exact Or.inr rfl) .nil) rfl (low_name (by decide)) (fun _ _ _ _ _=>(pgb (by decide +kernel) rfl rfl)) (fun _ _ _ _ _=>(pe_callTy (call_list_ofK (K:=K) rfl) rfl T.z_list bt_list (pa_cons (pe_ix (ix_seqK (K:=K) rfl) (pv 1) (pv 0) (fun _ _=>rfl)) pa_nil))) rfl (by decide +kernel) rfl (by decide +kernel)) pa_nil))) (ts:=["_law_row"]) (zs:=["_law_few"]) (k:=1) (is:=[7]) rfl (.cons rfl .nil) (.cons rfl (Or.inl rfl) rfl (by first | exact Or.inl rfl | exact Or.inr rfl) .nil) rfl (low_name (by decide)) (fun _ _ _ _ _=>(pgb (by decide +kernel) rfl rfl)) (fun _ _ _ _ _=>(pe_lst (pa_cons pe_int (pa_cons (pe_ix (ix_seqK (K:=K) rfl) (pv 1) (pe_ix (ix_seqK (K:=K) rfl) (pv 0) pe_int (fun _ _=>rfl)) (fun _ _=>rfl)) (pa_cons (pe_ix (ix_seqK (K:=K) rfl) (pv 0) pe_int (fun _ _=>rfl)) (pa_cons (pe_ix (ix_seqK (K:=K) rfl) (pv 0) pe_int (fun _ _=>rfl)) pa_nil)))))) rfl (by decide +kernel) rfl (by decide +kernel))
 (pss_one (ps_ret (pe_and (pe_cmpR (op_eqD (K:=K) hr.units) (pv 2) (pv 1) (nomark _)) (pe_one (pe_cmpR (op_eqD (K:=K) hr.units) (pe_call (ok_l_till T hbm) (hr.mono (by decide)) rfl T.m_l_till T.F_l_till.kp T.b_l_till .nil pass0 (pa_cons (pv 8) (pa_cons (pv 6) pa_nil))) (pe_call (ok_l_till T hbm) (hr.mono (by decide)) rfl T.m_l_till T.F_l_till.kp T.b_l_till .nil pass0 (pa_cons (pv 3) (pa_cons (pv 6) pa_nil))) (nomark _)))))))))))))))),
 (ss_seq (ss_set (si_call (sa_any (sb_var 0) sa_nil)))
 (ss_seq (ss_setC (SemF.l (sf_comp (m:=true) (k:=1) (cs:=[]) (SemW.c (sw_list (si_var 1))) (sg_name 0) st_true (SemF.l (sf_list (si_var 0))))))
 (ss_seq (ss_set (si_call (sa_own (si_var 1) sa_nil)))
 (ss_seq (ss_setM (sm_call (sa_own (si_var 2) sa_nil)))
 (ss_seq (ss_if (st_or (st_not (st_tru (K:=K) (SemI.b (si_call (sa_any (sb_var 4) (sa_any (sb_var 3) sa_nil)))))) (st_test (SemI.b (si_eq (neg:=true) (sb_var 2) (sb_var 1)))))
 (ss_ret si_bl)
 ss_pass)
 (ss_seq ss_rotR
 (ss_seq (ss_set (si_mod (SemI.b (si_call (sa_any (sb_var 0) (sa_any (SemI.b si_int) sa_nil)))) (SemI.b (si_pow (SemI.b si_int) (SemI.b si_int)))))
 (ss_seq (ss_if (st_and (st_test (SemI.b (si_gt (SemI.b (si_mod (SemI.b (si_call (sa_any (sb_var 0) (sa_any (SemI.b si_int) sa_nil)))) (SemI.b si_int))) (SemI.b si_int)))) (st_test (SemI.b (si_gt (SemI.b (si_len (sb_var 1))) (SemI.b si_int)))))
 (ss_set (si_ix (si_ix (si_var 1) (SemI.b (si_mod (SemI.b (si_call (sa_any (SemI.b (si_call (sa_any (sb_var 0) (sa_any (SemI.b si_int) sa_nil)))) (sa_any (SemI.b si_int) sa_nil)))) (SemI.b (si_len (sb_var 1)))))) (SemI.b si_int)))
 ss_pass)
 (ss_seq (ss_set (SemF.l (sf_comp (m:=true) (k:=1) (cs:=[1,6]) (SemW.c (sw_range1 (SemI.b (si_len (sb_var 1))))) (sg_name 0) (st_test (SemI.b (si_lt (sb_ix (sb_ix (sb_var 1) (sb_var 0)) (SemI.b si_int)) (sb_var 2)))) (si_var 0))))
 (ss_seq (ss_setC (SemF.l (sf_comp (m:=true) (k:=1) (cs:=[7]) (SemW.c (sw_list (si_call (sa_own (SemF.l (sf_comp (m:=true) (k:=1) (cs:=[1]) (SemW.c (sw_list (si_var 7))) (sg_name 0) st_true (SemF.l (sf_list (si_ix (si_var 1) (sb_var 0)))))) sa_nil)))) (sg_name 0) st_true (SemF.l (sf_lst (n:=4) (sa_own si_int (sa_own (si_ix (si_var 1) (sb_ix (sb_var 0) (SemI.b si_int))) (sa_own (si_ix (si_var 0) (SemI.b si_int)) (sa_own (si_ix (si_var 0) (SemI.b si_int)) sa_nil)))) (by decide))))))
 (ss_ret (si_andV (SemI.b (si_eq (neg:=false) (sb_var 2) (sb_var 1))) (si_eq (neg:=false) (SemI.b (si_call (sa_own (si_var 8) (sa_any (sb_var 6) sa_nil)))) (SemI.b (si_call (sa_own (si_var 3) (sa_any (sb_var 6) sa_nil)))))))))))))))))⟩
end
local macro_rules | `(tactic| walk_at "sd")=>`(tactic| first | assumption | omega | decide | (simp only [List.length_map,List.length_cons,List.length_nil]; omega) | ((with_reducible apply And.intro) <;> walk_at "sd"))
local macro_rules | `(tactic| walk_at "fn")=>`(tactic| assumption)
local macro_rules | `(tactic| walk_at "ix")=>`(tactic| first | exact ixS (by omega) (by omega) | exact ixI (by omega) (by omega) | exact ix2I _ _ _ | exact ix3I _ _ _ _ | exact ix4I _ _ _ _ _ | rfl)
local macro_rules | `(tactic| walk_at "ev")=>`(tactic| first
  | ((with_reducible first | apply ev_add | apply ev_sub | apply ev_lt | apply ev_le | apply ev_gt | apply ev_ge | apply ev_max2 | apply ev_min2 | apply ev_cons | apply ev_eqF | apply ev_neF); (· walk_at "ev"); (· walk_at "ev"))
  | ((with_reducible first | apply ev_neg | apply ev_t | apply ev_not | apply ev_notV | apply ev_lst | apply ev_tup | apply ev_oSome); (· walk_at "ev"))
  | ((with_reducible first | apply ev_tru | apply ev_scal | apply ev_f1 | apply ev_asL | apply ev_lof); (· walk_at "ev"); (· rfl))
  | ((with_reducible first | apply ev_and | apply ev_or | apply ev_andV | apply ev_orV); (· walk_at "ev"); (· intro _; walk_at "ev"))
  | ((with_reducible first | show dVar _ _=_ | show dVarI _ _=_ | show dVarO _ _=_ | show dC _ _=_ | show dNil _=_ | show oNone _=_ | show dTrue _=_); rfl)
  | ((with_reducible apply ev_ix); (· walk_at "ev"); (· walk_at "ev"); (· walk_at "ix"))
  | ((with_reducible apply ev_call); (· walk_at "ev"); (· walk_at "fn"))
  | ((with_reducible first | apply ev_chain | apply ev_sl); (· walk_at "ev"); (· walk_at "ev"); (· walk_at "ev"))
  | ((with_reducible apply ev_mul); (· walk_at "ev"); (· walk_at "ev"); (· first | assumption | (apply imul; omega)))
  | ((with_reducible apply ev_fdiv); (· walk_at "ev"); (· walk_at "ev"); (· first | exact fdok (by omega) (by omega) | walk_at "sd"))
  | ((with_reducible first | apply ev_mod | apply ev_rg2); (· walk_at "ev"); (· walk_at "ev"); (· walk_at "sd"))
  | ((with_reducible apply ev_rg1); (· walk_at "ev"); (· walk_at "sd"))
  | ((with_reducible apply ev_rep); (· walk_at "ev"); (· walk_at "ev"); (· simp only [List.length_cons,List.length_nil]; walk_at "sd")))
local macro_rules | `(tactic| walk_at "st")=>`(tactic| dsimp only [List.set_cons_succ,List.set_cons_zero])
local macro_rules | `(tactic| walk_at "go")=>`(tactic| ((try dsimp only); walk_at "go1"))
local macro_rules | `(tactic| walk_at "go1")=>`(tactic| first
  | ((with_reducible apply wp_seq); walk_at "go")
  | ((with_reducible apply wp_frz); dsimp only [frz,List.getD_cons_succ,List.getD_cons_zero,List.set_cons_succ,List.set_cons_zero]; walk_at "go")
  | ((with_reducible apply wp_set); (· walk_at "ev"); walk_at "st"; walk_at "go")
  | ((with_reducible apply wp_setO); (· walk_at "ev"); (· simp only [List.length_cons,List.length_nil]; omega); walk_at "st"; walk_at "go")
  | ((with_reducible apply wp_aug); (· rfl); (· walk_at "ev"); walk_at "st"; walk_at "go")
  | ((with_reducible apply wp_pass); (try dsimp only); walk_at "go")
  | skip)
abbrev R4:=Int×Int×Int×Int
namespace R4
abbrev b (r:R4):Int:=r.1
abbrev w (r:R4):Int:=r.2.1
abbrev s (r:R4):Int:=r.2.2.1
abbrev e (r:R4):Int:=r.2.2.2
end R4
def Dj (x y:R4):Prop:=x.b=y.b→x.e≤y.s∨y.e≤x.s
structure Ap (rs:List R4):Prop where
  pos:∀ r∈rs,r.s<r.e
  dj:rs.Pairwise Dj
def Nx (x y:R4):Prop:=y.b=x.b∧y.w=x.w∧y.s=x.e
instance (x y:R4):Decidable (Nx x y):=by unfold Nx; infer_instance
def Le4 (x y:R4):Prop:=x.b<y.b∨(x.b=y.b∧(x.w<y.w∨(x.w=y.w∧(x.s<y.s∨(x.s=y.s∧x.e≤y.e)))))
theorem Dj.symm {x y:R4} (h:Dj x y):Dj y x:=fun q=>(h q.symm).symm
theorem Ap.perm {rs ss:List R4} (h:Ap rs) (p:ss.Perm rs):Ap ss:=⟨fun r hr=>h.pos r (p.mem_iff.mp hr),(p.pairwise_iff fun h=>Dj.symm h).mpr h.dj⟩
theorem pw_of {α:Type} {R:α→α→Prop} (sy:∀ x y,R x y→R y x):∀ {l:List α},l.Pairwise R→∀ {x y:α},x∈l→y∈l→x=y∨R x y
  | a::l,h,x,y,hx,hy=>by
    obtain ⟨h1,h2⟩:=List.pairwise_cons.mp h
    rcases List.mem_cons.mp hx with ex | hx <;> rcases List.mem_cons.mp hy with ey | hy
    · exact .inl (ex.trans ey.symm)
    · exact .inr (ex ▸ h1 y hy)
    · exact .inr (ey ▸ sy _ _ (h1 x hx))
    · exact pw_of sy h2 hx hy
theorem Ap.two {rs:List R4} (h:Ap rs) {x y:R4} (hx:x∈rs) (hy:y∈rs) (eb:x.b=y.b) (es:x.s=y.s):x=y:=by
  have h1:=h.pos x hx
  have h2:=h.pos y hy
  rcases pw_of (fun _ _ q=>Dj.symm q) h.dj hx hy with q | q
  · exact q
  · rcases q eb with q | q <;> omega
inductive Fi (rs:List R4):R4→Int→Prop
  | stop {x:R4}:(∀ q∈rs,¬ Nx x q)→Fi rs x x.e
  | step {x q:R4} {E:Int}:q∈rs→Nx x q→Fi rs q E→Fi rs x E
theorem Fi.uniq {rs:List R4} (h:Ap rs) {x:R4} {E F:Int} (a:Fi rs x E) (c:Fi rs x F):E=F:=by
  induction a with
  | stop h0 =>
    cases c with
    | stop=>rfl
    | step hq hn _=>exact absurd hn (h0 _ hq)
  | step hq hn _ ih =>
    cases c with
    | stop h0=>exact absurd hn (h0 _ hq)
    | step hq' hn' c' =>
      have:=h.two hq hq' (by have:=hn.1; have:=hn'.1; omega) (by have:=hn.2.2; have:=hn'.2.2; omega)
      subst this
      exact ih c'
theorem Fi.perm {rs ss:List R4} (p:rs.Perm ss) {x:R4} {E:Int} (a:Fi rs x E):Fi ss x E:=by
  induction a with
  | stop h0=>exact .stop fun q hq=>h0 q (p.mem_iff.mpr hq)
  | step hq hn _ ih=>exact .step (p.mem_iff.mp hq) hn ih
def Bg (rs:List R4) (x:R4):Prop:=∀ q∈rs,¬ Nx q x
instance (rs:List R4) (x:R4):Decidable (Bg rs x):=by unfold Bg; infer_instance
def bg (rs:List R4) (x:R4):Bool:=decide (Bg rs x)
open Classical in
noncomputable def fin (rs:List R4) (x:R4):Int:=if h:∃ E,Fi rs x E then h.choose else 0
theorem fin_of {rs:List R4} (h:Ap rs) {x:R4} {E:Int} (a:Fi rs x E):fin rs x=E:=by
  have hh:∃ E,Fi rs x E:=⟨E,a⟩
  unfold fin
  rw [dif_pos hh]
  exact Fi.uniq h hh.choose_spec a
def upE (x:R4) (E:Int):R4:=(x.b,x.w,x.s,E)
def grp:List R4→List R4
  | []=>[]
  | x::xs=>match grp xs with
    | []=>[x]
    | y::ys=>if Nx x y then upE x y.e::ys else x::y::ys
theorem grp_cons_ne (x:R4) (xs:List R4):∃ E ys,grp (x::xs)=upE x E::ys:=by
  show ∃ E ys,(match grp xs with | []=>[x] | y::ys=>if Nx x y then upE x y.e::ys else x::y::ys)=_
  split
  · exact ⟨x.e,[],rfl⟩
  · rename_i y ys _
    split
    · exact ⟨_,_,rfl⟩
    · exact ⟨x.e,_,rfl⟩
def mrg (x:R4):List R4→List R4
  | []=>[x]
  | y::ys=>if Nx x y then mrg (upE x y.e) ys else x::mrg y ys
theorem grp_up (x y:R4) (h:Nx x y) (T:List R4):grp (upE x y.e::T)=grp (x::y::T):=by
  have e1:grp (x::y::T)=match grp (y::T) with | []=>[x] | z::ys=>if Nx x z then upE x z.e::ys else x::z::ys:=rfl
  have e2:grp (y::T)=match grp T with | []=>[y] | z::ys=>if Nx y z then upE y z.e::ys else y::z::ys:=rfl
  have e3:grp (upE x y.e::T)=match grp T with | []=>[upE x y.e] | z::ys=>if Nx (upE x y.e) z then upE (upE x y.e) z.e::ys else upE x y.e::z::ys:=rfl
  rw [e3,e1,e2]
  cases grp T with
  | nil=>exact (if_pos h).symm
  | cons z ys =>
    by_cases c:Nx y z
    · have c':Nx (upE x y.e) z:=⟨c.1.trans h.1,c.2.1.trans h.2.1,c.2.2⟩
      simp only []
      rw [if_pos c,if_pos c']
      exact (if_pos (show Nx x (upE y z.e) from h)).symm
    · have c':¬ Nx (upE x y.e) z:=fun q=>c ⟨q.1.trans h.1.symm,q.2.1.trans h.2.1.symm,q.2.2⟩
      simp only []
      rw [if_neg c,if_neg c']
      exact (if_pos h).symm
theorem mrg_grp:∀ (T:List R4) (x:R4),mrg x T=grp (x::T)
  | [],x=>rfl
  | y::T,x=>by
    by_cases h:Nx x y
    · rw [mrg,if_pos h,mrg_grp T,grp_up x y h]
    · rw [mrg,if_neg h,mrg_grp T]
      obtain ⟨E,ys,e⟩:=grp_cons_ne y T
      show _=match grp (y::T) with | []=>[x] | z::ys=>if Nx x z then upE x z.e::ys else x::z::ys
      rw [e]
      exact (if_neg (show ¬ Nx x (upE y E) from h)).symm
theorem grp_is {S:List R4} (ap:Ap S) (so:S.Pairwise Le4):∀ (T P:List R4) (x:R4),S=P++x::T→Fi S x (fin S x)∧grp (x::T)=upE x (fin S x)::(T.filter (bg S)).map fun r=>upE r (fin S r)
  | [],P,x,e=>by
    have st:∀ q∈S,¬ Nx x q:=fun q hq hn=>by
      have hx:x∈S:=by rw [e]; simp
      have p1:=ap.pos x hx
      rw [e] at hq so
      have hq':q∈P∨q=x:=by simpa using hq
      rcases hq' with hq' | hq'
      · have:=(List.pairwise_append.mp so).2.2 q hq' x (by simp)
        unfold Le4 at this; obtain ⟨n1,n2,n3⟩:=hn; omega
      · subst hq'; have:=hn.2.2; omega
    have f:=Fi.stop st
    rw [fin_of ap f]
    exact ⟨f,rfl⟩
  | y::T,P,x,e=>by
    obtain ⟨fy,ih⟩:=grp_is ap so T (P++[x]) y (by rw [e]; simp)
    have hx:x∈S:=by rw [e]; simp
    have hy:y∈S:=by rw [e]; simp
    have px:=ap.pos x hx
    have py:=ap.pos y hy
    have so':=so
    rw [e] at so'
    obtain ⟨soP,soT,soPT⟩:=List.pairwise_append.mp so'
    obtain ⟨sx,sT⟩:=List.pairwise_cons.mp soT
    obtain ⟨sy,_⟩:=List.pairwise_cons.mp sT
    have mem:∀ q∈S,q∈P∨q=x∨q=y∨q∈T:=fun q hq=>by rw [e] at hq; simpa using hq
    have djxy:Dj x y:=by
      have:=ap.dj
      rw [e] at this
      exact (List.pairwise_cons.mp (List.pairwise_append.mp this).2.1).1 y (by simp)
    have xy:=sx y (by simp)
    have nxt:∀ q∈S,Nx x q→q=y:=fun q hq hn=>by
      have pq:=ap.pos q hq
      obtain ⟨n1,n2,n3⟩:=hn
      rcases mem q hq with h | h | h | h
      · have:=soPT q h x (by simp)
        unfold Le4 at this; omega
      · subst h; omega
      · exact h
      · have yq:=sy q h
        unfold Le4 at xy yq
        have eb:x.b=y.b:=by omega
        refine ap.two hq hy (by omega) ?_
        rcases djxy eb with d | d <;> omega
    have prv:∀ q∈S,Nx q y→q=x:=fun q hq hn=>by
      have pq:=ap.pos q hq
      obtain ⟨n1,n2,n3⟩:=hn
      rcases mem q hq with h | h | h | h
      · have qx:=soPT q h x (by simp)
        unfold Le4 at xy qx
        have eb:q.b=x.b:=by omega
        rcases pw_of (fun _ _ q=>Dj.symm q) ap.dj hq hx with z | z
        · exact z
        · rcases z eb with d | d
          · rcases djxy (by omega) with d2 | d2 <;> omega
          · omega
      · exact h
      · subst h; omega
      · have:=sy q h
        unfold Le4 at this; omega
    have eg:grp (x::y::T)=if Nx x y then upE x (fin S y)::(T.filter (bg S)).map (fun r=>upE r (fin S r)) else x::upE y (fin S y)::(T.filter (bg S)).map fun r=>upE r (fin S r):=by
      show (match grp (y::T) with | []=>[x] | z::ys=>if Nx x z then upE x z.e::ys else x::z::ys)=_
      rw [ih]; rfl
    rw [eg]
    by_cases h:Nx x y
    · have fx:Fi S x (fin S y):=.step hy h fy
      rw [if_pos h,fin_of ap fx,List.filter_cons_of_neg]
      · exact ⟨fx,rfl⟩
      · unfold bg; rw [decide_eq_true_iff]; exact fun z=>z x hx h
    · have fx:Fi S x x.e:=.stop fun q hq hn=>h (nxt q hq hn ▸ hn)
      rw [if_neg h,fin_of ap fx,List.filter_cons_of_pos]
      · exact ⟨fx,rfl⟩
      · unfold bg; rw [decide_eq_true_iff]; exact fun q hq hn=>h (prv q hq hn ▸ hn)
theorem grp_all {S:List R4} (ap:Ap S) (so:S.Pairwise Le4):grp S=(S.filter (bg S)).map fun r=>upE r (fin S r):=by
  cases S with
  | nil=>rfl
  | cons x T =>
    obtain ⟨_,h⟩:=grp_is ap so T [] x rfl
    rw [h,List.filter_cons_of_pos]
    · rfl
    · unfold bg; rw [decide_eq_true_iff]
      intro q hq hn
      have p1:=ap.pos q hq
      have p2:=ap.pos x (by simp)
      rcases List.mem_cons.mp hq with z | z
      · subst z; have:=hn.2.2; omega
      · have:=(List.pairwise_cons.mp so).1 q z
        unfold Le4 at this; obtain ⟨n1,n2,n3⟩:=hn; omega
abbrev rowL (r:R4):List D:=[.int r.b,.int r.w,.int r.s,.int r.e]
abbrev rowR (r:R4):D:=.lst (rowL r)
def zR (r:R4):List Int:=[r.b,r.w,r.s,r.e]
theorem goes_on (x y:R4):F_goes_on [rowR x,rowR y]=some (.bl (decide (Nx x y))):=by
  refine run_eqF F_goes_on_def ?_
  rw [st_goes_on]
  unfold B_goes_on
  have e:∀ a b:Int,dEq false (dC (.int a)) (dC (.int b)) []=some (.bl (decide (a=b))):=fun a b=>ev_eqF rfl rfl
  refine wp_ret (ev_andV (ev_eqF (ev_ix rfl rfl rfl) (ev_ix rfl rfl rfl)) fun _=>ev_andV (ev_eqF (ev_ix rfl rfl rfl) (ev_ix rfl rfl rfl)) fun _=>ev_eqF (ev_ix rfl rfl rfl) (ev_ix rfl rfl rfl)) ?_
  refine congrArg D.bl ?_
  rw [Bool.eq_iff_iff]
  simp only [Bool.and_eq_true,decide_eq_true_iff]
  unfold Nx
  constructor
  · rintro ⟨h1,h2,h3⟩; exact ⟨h1.symm,h2.symm,h3.symm⟩
  · rintro ⟨h1,h2,h3⟩; exact ⟨h1.symm,h2.symm,h3.symm⟩
def unz (z:List Int):R4:=(z.getD 0 0,z.getD 1 0,z.getD 2 0,z.getD 3 0)
theorem unz_z (r:R4):unz (zR r)=r:=rfl
noncomputable def s4 (rs:List R4):List R4:=(srtZ (rs.map zR)).map unz
theorem s4_z (rs:List R4):(s4 rs).map zR=srtZ (rs.map zR):=by
  unfold s4
  rw [List.map_map]
  conv=>rhs; rw [← List.map_id (srtZ (rs.map zR))]
  refine List.map_congr_left fun z hz=>?_
  obtain ⟨r,_,rfl⟩:=List.mem_map.mp ((srtZ_perm _).mem_iff.mp hz)
  rfl
theorem s4_perm (rs:List R4):(s4 rs).Perm rs:=by
  have:=(srtZ_perm (rs.map zR)).map unz
  rw [List.map_map,show (unz∘zR)=id from funext unz_z,List.map_id] at this
  exact this
theorem lex4 {x y:R4} (h:L2.lexLt (zR y) (zR x)=false):Le4 x y:=by
  unfold zR at h
  simp only [L2.lexLt] at h
  unfold Le4
  split at h
  · split at h
    · split at h
      · split at h
        · omega
        · have:=of_decide_eq_false h; omega
      · have:=of_decide_eq_false h; omega
    · have:=of_decide_eq_false h; omega
  · have:=of_decide_eq_false h; omega
theorem s4_up (rs:List R4):(s4 rs).Pairwise Le4:=by
  have h:=srtZ_up (rs.map zR)
  rw [← s4_z,List.pairwise_map] at h
  exact h.imp fun h=>lex4 h
def stp (acc:List R4) (r:R4):List R4:=match acc.getLast? with
  | some x=>if Nx x r then acc.dropLast++[upE x r.e] else acc++[r]
  | none=>acc++[r]
theorem stp_app (acc:List R4) (x r:R4):stp (acc++[x]) r=if Nx x r then acc++[upE x r.e] else acc++[x]++[r]:=by
  unfold stp
  rw [List.getLast?_concat]
  simp only [List.dropLast_concat]
theorem fold_mrg:∀ (T acc:List R4) (x:R4),T.foldl stp (acc++[x])=acc++mrg x T
  | [],acc,x=>rfl
  | y::T,acc,x=>by
    rw [List.foldl_cons,stp_app]
    by_cases h:Nx x y
    · rw [if_pos h,fold_mrg T,mrg,if_pos h]
    · rw [if_neg h,fold_mrg T,mrg,if_neg h,List.append_assoc]; rfl
theorem fold_grp (S:List R4):S.foldl stp []=grp S:=by
  cases S with
  | nil=>rfl
  | cons x T =>
    have:=fold_mrg T [] x
    rw [mrg_grp] at this
    exact this
theorem stp_len (acc:List R4) (r:R4):(stp acc r).length≤acc.length+1:=by
  unfold stp
  split
  · split
    · simp
    · simp
  · simp
theorem fold_len:∀ (T acc:List R4),(T.foldl stp acc).length≤acc.length+T.length
  | [],acc=>by simp
  | r::T,acc=>by
    have h1:=fold_len T (stp acc r)
    have h2:=stp_len acc r
    rw [List.foldl_cons,List.length_cons]; omega
theorem flat4 (r:R4):flatL (rowL r)=true:=rfl
def kR (l:List D):List Int:=match l with
  | [.int b,.int _,.int s,.int _]=>[s,b]
  | _=>[]
noncomputable def jn (rs:List R4):List (List D):=srtG kR ((grp (s4 rs)).map rowL)
theorem joined_ev {rs:List R4} (hl:rs.length<64) (hn:(((grp (s4 rs)).map rowL).map kR).Nodup):F_joined [.lst (rs.map rowR)]=some (rowsL (jn rs)):=by
  refine run_eqG F_joined_def ?_
  rw [st_joined]
  unfold B_joined
  have hs:sizeLine=16777216:=sizeLine_eq
  refine wp_seq (wp_setM (rows:=(([]:List R4).map rowL)) rfl (by simp only [List.length_cons,List.length_nil]; omega) ?_)
  walk_at "st"
  have esrt:dSrtL (dVarO 0) [.bo (.lst (rs.map rowR)),.om (([]:List R4).map rowL),.un]=some ((s4 rs).map rowR):=by
    have:=dSrtL_of (a:=dVarO 0) (ρ:=[.bo (.lst (rs.map rowR)),.om (([]:List R4).map rowL),.un]) (zs:=rs.map zR) (by
      rw [List.map_map]; rfl) (by rw [List.length_map]; exact hl)
    rw [this,← s4_z,List.map_map]; rfl
  have hsl:(s4 rs).length<64:=by rw [(s4_perm rs).length_eq]; exact hl
  refine wp_seq (wp_for esrt (fun j ρ=>∃ v2:Sl,ρ=[.bo (.lst (rs.map rowR)),.om ((((s4 rs).take j).foldl stp []).map rowL),v2]) ⟨_,rfl⟩ ?_ ?_)
  · rintro j d ρ hd ⟨v2,rfl⟩
    rw [List.getElem?_map] at hd
    obtain ⟨r,hr,rfl⟩:=Option.map_eq_some_iff.mp hd
    refine ⟨_,rfl,?_⟩
    dsimp only [gN,slm,List.set_cons_succ,List.set_cons_zero]
    have tk:((s4 rs).take (j+1)).foldl stp []=stp (((s4 rs).take j).foldl stp []) r:=by rw [List.take_succ,hr]; simp [List.foldl_append]
    have al:(((s4 rs).take j).foldl stp []).length<64:=by
      have h1:=fold_len ((s4 rs).take j) []
      have h2:=List.length_take_le j (s4 rs)
      have h3:((s4 rs).take j).length≤(s4 rs).length:=List.length_take_le' j (s4 rs)
      simp only [List.length_nil] at h1; omega
    rw [tk]
    generalize ((s4 rs).take j).foldl stp []=acc at al
    rcases List.eq_nil_or_concat acc with rfl | ⟨init,x,rfl⟩
    · refine wp_if (x:=false) (ev_and (x:=false) (y:=false) (ev_tru (d:=.lst []) rfl rfl) fun z=>by cases z) (fun z=>by cases z) fun _=>?_
      refine wp_appM rfl (ev_flat (ev_lof rfl rfl) (flat4 r)) (by simp; omega) ?_
      exact ⟨_,rfl⟩
    · rw [List.concat_eq_append] at *
      have hL:((init++[x]).map rowL).length=init.length+1:=by simp
      have t1:truD (rowsL ((init++[x]).map rowL))=some true:=by
        show some (!(((init++[x]).map rowL).map D.lst).isEmpty)=_
        simp
      have ixl:ixN (init.length+1) (-1)=some init.length:=by
        unfold ixN
        rw [if_neg (by omega),if_pos (by omega)]
        exact congrArg some (by omega)
      have ix:ixD (rowsL ((init++[x]).map rowL)) (-1)=some (rowR x):=by
        show atI (((init++[x]).map rowL).map D.lst) (-1)=_
        unfold atI
        rw [List.length_map,hL,ixl]
        simp
      refine wp_if (ev_and (ev_tru rfl t1) fun _=>ev_tru (ev_call (ev_cons (ev_ix rfl rfl ix) (ev_cons rfl rfl)) (goes_on x r)) rfl) (fun h=>?_) fun h=>?_
      · have h:Nx x r:=by simpa using h
        refine wp_put2 (r:=init.length) (j:=3) (ds:=rowL x) (n:=-1) (m:=3) (d:=.int r.e) rfl rfl rfl ?_ ?_ rfl rfl ?_
        · rw [hL]; exact ixl
        · rw [List.map_append,List.getElem?_append_right (by simp)]; simp
        · refine ⟨.bo (rowR r),?_⟩
          rw [stp_app,if_pos h,List.map_append,List.set_append_right _ _ (by simp)]
          simp only [List.length_map,Nat.sub_self,List.map_append,List.map_cons,List.map_nil,List.set_cons_zero]
          rfl
      · have h:¬ Nx x r:=by simpa using h
        refine wp_appM rfl (ev_flat (ev_lof rfl rfl) (flat4 r)) (by simp only [hL]; simp at al; omega) ?_
        refine ⟨.bo (rowR r),?_⟩
        rw [stp_app,if_neg h,List.map_append (l₁:=init++[x])]
        rfl
  · rintro ρ ⟨v2,rfl⟩
    rw [List.length_map,List.take_length,fold_grp]
    have hg:(grp (s4 rs)).length<64:=by
      rw [← fold_grp]
      have:=fold_len (s4 rs) []
      simp only [List.length_nil] at this; omega
    refine wp_retSM kR rfl (fun l hl'=>?_) hn (by rw [List.length_map]; exact hg) rfl
    obtain ⟨r,_,rfl⟩:=List.mem_map.mp hl'
    exact ⟨rfl,by intro z; cases z⟩
theorem fi_ex {rs:List R4} (ap:Ap rs) {r:R4} (h:r∈rs):Fi rs r (fin rs r):=by
  have ap2:=ap.perm (s4_perm rs)
  obtain ⟨P,T,e⟩:=List.append_of_mem ((s4_perm rs).mem_iff.mpr h)
  have f:=Fi.perm (s4_perm rs) (grp_is ap2 (s4_up rs) T P r e).1
  rw [fin_of ap f]
  exact f
theorem bg_perm {rs ss:List R4} (p:ss.Perm rs) (r:R4):bg ss r=bg rs r:=by
  unfold bg
  rw [Bool.eq_iff_iff,decide_eq_true_iff,decide_eq_true_iff]
  exact ⟨fun h q hq=>h q (p.mem_iff.mpr hq),fun h q hq=>h q (p.mem_iff.mp hq)⟩
noncomputable def bgs (rs:List R4):List R4:=rs.filter (bg rs)
noncomputable def full (rs:List R4) (r:R4):R4:=upE r (fin rs r)
theorem grp_s4 {rs:List R4} (ap:Ap rs):grp (s4 rs)=((s4 rs).filter (bg rs)).map (full rs):=by
  have ap2:=ap.perm (s4_perm rs)
  rw [grp_all ap2 (s4_up rs),show bg (s4 rs)=bg rs from funext fun r=>bg_perm (s4_perm rs) r]
  refine List.map_congr_left fun r hr=>?_
  have hm:=(s4_perm rs).mem_iff.mp ((List.mem_filter.mp hr).1)
  exact congrArg (upE r) (fin_of ap2 (Fi.perm (s4_perm rs).symm (fi_ex ap hm)))
def dz (r:R4):List Int:=[r.s,r.b,r.w,r.e]
def undz (z:List Int):R4:=(z.getD 1 0,z.getD 2 0,z.getD 0 0,z.getD 3 0)
noncomputable def out (rs:List R4):List R4:=(srtZ ((bgs rs).map fun r=>dz (full rs r))).map undz
theorem keys_nd {rs:List R4} (ap:Ap rs) {l:List R4} (hl:l.Nodup) (hm:∀ r∈l,r∈rs):(((l.map (full rs)).map rowL).map kR).Nodup:=by
  rw [List.map_map,List.map_map]
  refine List.pairwise_map.mpr (List.Pairwise.imp_of_mem (fun {x y} hx hy ne e=>ne ?_) hl)
  have e:[x.s,x.b]=[y.s,y.b]:=e
  injection e with e1 e2
  injection e2 with e2 _
  exact ap.two (hm x hx) (hm y hy) e2 e1
theorem Ap.nodup {rs:List R4} (ap:Ap rs):rs.Nodup:=by
  refine List.Pairwise.imp_of_mem (fun {x y} hx hy d e=>?_) ap.dj
  subst e
  have:=ap.pos x hx
  rcases d rfl with h | h <;> omega
abbrev Wk3:=Int×Int×Int
def come (W:List Wk3) (k:Nat):Int:=(W.getD k (0,0,0)).1
def hrs (W:List Wk3) (k:Nat):Int:=(W.getD k (0,0,0)).2.1
def tl (W:List Wk3) (k:Nat):Int:=(W.getD k (0,0,0)).2.2
def sumR (n:Nat) (f:Nat→Int):Int:=((List.range n).map f).sum
theorem sumR_succ (n:Nat) (f:Nat→Int):sumR (n+1) f=sumR n f+f n:=by unfold sumR; rw [List.range_succ]; simp
theorem sumR_le {f g:Nat→Int}:∀ {n:Nat},(∀ k,k<n→f k≤g k)→sumR n f≤sumR n g
  | 0,_=>by unfold sumR; simp
  | n+1,h=>by
    rw [sumR_succ,sumR_succ]
    have h1:=sumR_le (n:=n) fun k hk=>h k (by omega)
    have h2:=h n (by omega)
    omega
theorem sumR_congr {f g:Nat→Int} {n:Nat} (h:∀ k,k<n→f k=g k):sumR n f=sumR n g:=by
  have h1:=sumR_le (f:=f) (g:=g) (n:=n) fun k hk=>by rw [h k hk]; omega
  have h2:=sumR_le (f:=g) (g:=f) (n:=n) fun k hk=>by rw [h k hk]; omega
  omega
theorem sumR_zero {f:Nat→Int}:∀ {n:Nat},(∀ k,k<n→f k=0)→sumR n f=0
  | 0,_=>by unfold sumR; simp
  | n+1,h=>by rw [sumR_succ,sumR_zero fun k hk=>h k (by omega),h n (by omega)]; rfl
theorem sumR_at {f g:Nat→Int} {j:Nat} {d:Int}:∀ {n:Nat},j<n→(∀ k,k<n→k≠j→g k=f k)→g j=f j+d→sumR n g=sumR n f+d
  | 0,hj,_,_=>by omega
  | n+1,hj,h,hd=>by
    rw [sumR_succ,sumR_succ]
    by_cases e:j=n
    · subst e
      rw [hd,sumR_congr (f:=g) (g:=f) fun k hk=>h k (by omega) (by omega)]
      omega
    · rw [sumR_at (n:=n) (by omega) (fun k hk=>h k (by omega)) hd,h n (by omega) (by omega)]
      omega
theorem sumR_lt {f g:Nat→Int} {j:Nat}:∀ {n:Nat},j<n→(∀ k,k<n→g k≤f k)→g j<f j→sumR n g<sumR n f
  | 0,hj,_,_=>by omega
  | n+1,hj,h,hd=>by
    rw [sumR_succ,sumR_succ]
    by_cases e:j=n
    · subst e
      have:=sumR_le (f:=g) (g:=f) (n:=j) fun k hk=>h k (by omega)
      omega
    · have h1:=sumR_lt (n:=n) (by omega) (fun k hk=>h k (by omega)) hd
      have h2:=h n (by omega)
      omega
theorem sumR_one {f:Nat→Int}:∀ {n:Nat},(∀ k,k<n→f k≤1)→sumR n f≤n
  | 0,_=>by unfold sumR; simp
  | n+1,h=>by
    rw [sumR_succ]
    have h1:=sumR_one (n:=n) fun k hk=>h k (by omega)
    have h2:=h n (by omega)
    omega
theorem sumR_pos {f:Nat→Int} {n:Nat} (h:∀ k,k<n→0≤f k):0≤sumR n f:=by
  have:=sumR_le (f:=fun _=>0) (g:=f) (n:=n) h
  rw [sumR_zero fun _ _=>rfl] at this
  exact this
def lf (L:List Int) (k:Nat):Int:=L.getD k 0
theorem lf_set {L:List Int} {j k:Nat} {v:Int} (h:j<L.length):lf (L.set j v) k=if k=j then v else lf L k:=by
  unfold lf
  rw [List.getD_eq_getElem?_getD,List.getElem?_set,List.getD_eq_getElem?_getD]
  by_cases c:j=k
  · subst c
    rw [if_pos rfl,if_pos h,if_pos rfl]
    rfl
  · rw [if_neg c,if_neg (Ne.symm c)]
structure S3 where
  m:Int
  L:List Int
  rs:List R4
def Wt (W:List Wk3) (st:S3) (k:Nat):Prop:=come W k≤st.m∧0<lf st.L k
structure Ch (W:List Wk3) (st:S3) (k:Nat):Prop where
  lt:k<W.length
  wt:Wt W st k
  best:∀ j,j<W.length→Wt W st j→tl W j<tl W k∨(tl W j=tl W k∧k≤j)
structure Nxt (W:List Wk3) (st:S3) (s:Int):Prop where
  gt:st.m<s
  ex:∃ j,j<W.length∧come W j=s
  le:∀ j,j<W.length→st.m<come W j→s≤come W j
structure En (W:List Wk3) (st:S3) (k:Nat) (e:Int):Prop where
  le:e≤st.m+lf st.L k
  gt:st.m<e
  stop:∀ j,j<W.length→st.m<come W j→e≤come W j
  or:e=st.m+lf st.L k∨∃ j,j<W.length∧come W j=e
def went (st:S3) (k:Nat) (e:Int):S3:=⟨e,st.L.set k (lf st.L k-(e-st.m)),st.rs++[(0,(k:Int),st.m,e)]⟩
inductive Step (W:List Wk3):S3→S3→Prop
  | idle {st:S3} {s:Int}:(∀ k,k<W.length→¬ Wt W st k)→Nxt W st s→(∃ k,k<W.length∧0<lf st.L k)→Step W st { st with m:=s }
  | go {st:S3} {k:Nat} {e:Int}:Ch W st k→En W st k e→Step W st (went st k e)
def start (W:List Wk3):S3:=⟨0,W.map fun w=>w.2.1,[]⟩
inductive Reach (W:List Wk3):S3→Prop
  | start:Reach W (start W)
  | step {a b:S3}:Reach W a→Step W a b→Reach W b
structure Wok (W:List Wk3):Prop where
  few:W.length≤12
  c0:∀ k,k<W.length→0≤come W k
  h0:∀ k,k<W.length→0<hrs W k
  t0:∀ k,k<W.length→0≤tl W k
def mu (W:List Wk3) (st:S3):Int:=sumR W.length (fun k=>if st.m<come W k then 1 else 0)+sumR W.length (fun k=>if 0<lf st.L k then 1 else 0)
structure G3 (W:List Wk3) (st:S3):Prop where
  len:st.L.length=W.length
  m0:0≤st.m
  lo:∀ k,k<W.length→0≤lf st.L k∧lf st.L k≤hrs W k
  un:∀ k,k<W.length→st.m≤come W k→lf st.L k=hrs W k
  ch:st.rs.Pairwise fun x y=>x.e≤y.s
  rows:∀ r∈st.rs,r.b=0∧r.s<r.e∧r.e≤st.m∧0≤r.s∧∃ k,k<W.length∧r.w=(k:Int)
  low:∀ (p:Nat→Bool) (c:Int),(∀ k,k<W.length→p k=true→c≤come W k)→sumR W.length (fun k=>if p k=true then hrs W k-lf st.L k else 0)=0∨∃ r∈st.rs,(∃ k,k<W.length∧r.w=(k:Int)∧p k=true)∧sumR W.length (fun k=>if p k=true then hrs W k-lf st.L k else 0)≤r.e-c
  crit:∀ t:Int,∃ s,s≤st.m∧st.m-s=sumR W.length (fun k=>if s≤come W k∧t≤tl W k then hrs W k-lf st.L k else 0)∧∀ k,k<W.length→come W k<s→t≤tl W k→lf st.L k=0
  fin:∀ k,k<W.length→lf st.L k=0→∃ r∈st.rs,r.w=(k:Int)∧(∀ q∈st.rs,q.w=(k:Int)→q.e≤r.e)∧∃ s,s≤come W k∧r.e-s≤sumR W.length (fun j=>if s≤come W j∧tl W k≤tl W j then hrs W j else 0)
  cnt:(st.rs.length:Int)+mu W st≤2*W.length
theorem lf_start {W:List Wk3} {k:Nat} (hk:k<W.length):lf (start W).L k=hrs W k:=by
  show (W.map fun w=>w.2.1).getD k 0=(W.getD k (0,0,0)).2.1
  rw [List.getD_eq_getElem?_getD,List.getD_eq_getElem?_getD,List.getElem?_map,List.getElem?_eq_getElem hk]
  rfl
theorem mu_falls {W:List Wk3} {a b:S3} (hl:a.L.length=W.length) (st:Step W a b):mu W b<mu W a:=by
  cases st with
  | idle hn nx _ =>
    obtain ⟨j,hj,ej⟩:=nx.ex
    have:=nx.gt
    have:=sumR_lt (f:=fun k=>if a.m<come W k then 1 else 0) (g:=fun k=>if (come W j)<come W k then 1 else 0) hj (fun k hk=>by (try dsimp only); split <;> split <;> omega) (by (try dsimp only); rw [if_neg (by omega),if_pos (by omega)]; omega)
    rw [ej] at this
    unfold mu
    try dsimp only
    omega
  | @go k e c en =>
    have hk:=c.lt
    have hw:=c.wt.2
    have g:=en.gt
    have le:=en.le
    have l1:∀ j,lf (went a k e).L j=if j=k then lf a.L k-(e-a.m) else lf a.L j:=fun j=>lf_set (by rw [hl]; exact hk)
    have s1:=sumR_le (f:=fun j=>if e<come W j then 1 else 0) (g:=fun j=>if a.m<come W j then 1 else 0) (n:=W.length) fun j hj=>by (try dsimp only); split <;> split <;> omega
    have s2:=sumR_le (f:=fun j=>if 0<lf (went a k e).L j then 1 else 0) (g:=fun j=>if 0<lf a.L j then 1 else 0) (n:=W.length) fun j hj=>by
      try dsimp only
      rw [l1]
      by_cases c:j=k
      · subst c; rw [if_pos rfl,if_pos hw]; split <;> omega
      · rw [if_neg c]; omega
    rcases en.or with h | ⟨j,hj,h⟩
    · have:=sumR_lt (f:=fun j=>if 0<lf a.L j then 1 else 0) (g:=fun j=>if 0<lf (went a k e).L j then 1 else 0) hk (fun j hj=>by
        try dsimp only
        rw [l1]
        by_cases c:j=k
        · subst c; rw [if_pos rfl,if_pos hw]; split <;> omega
        · rw [if_neg c]; omega) (by (try dsimp only); rw [l1,if_pos rfl,if_neg (by omega),if_pos hw]; omega)
      unfold mu
      show sumR _ (fun j=>if e<come W j then 1 else 0)+_ < _
      omega
    · have:=sumR_lt (f:=fun j=>if a.m<come W j then 1 else 0) (g:=fun j=>if e<come W j then 1 else 0) hj (fun k hk=>by (try dsimp only); split <;> split <;> omega) (by (try dsimp only); rw [if_neg (by omega),if_pos (by omega)]; omega)
      unfold mu
      show sumR _ (fun j=>if e<come W j then 1 else 0)+_ < _
      omega
theorem g3_start {W:List Wk3} (ok:Wok W):G3 W (start W) where
  len:=by show (W.map _).length=_; rw [List.length_map]
  m0:=Int.le_refl _
  lo k hk:=by rw [lf_start hk]; have:=ok.h0 k hk; omega
  un k hk _:=lf_start hk
  ch:=.nil
  rows r hr:=by cases hr
  low p c _:=.inl (sumR_zero fun k hk=>by rw [lf_start hk]; split <;> omega)
  crit t:=⟨0,Int.le_refl _,by rw [sumR_zero fun k hk=>by rw [lf_start hk]; split <;> omega]; rfl,fun k hk h=>by have:=ok.c0 k hk; omega⟩
  fin k hk h:=by rw [lf_start hk] at h; have:=ok.h0 k hk; omega
  cnt:=by
    have h1:=sumR_one (f:=fun k=>if (start W).m<come W k then 1 else 0) (n:=W.length) fun k hk=>by (try dsimp only); split <;> omega
    have h2:=sumR_one (f:=fun k=>if 0<lf (start W).L k then 1 else 0) (n:=W.length) fun k hk=>by (try dsimp only); split <;> omega
    unfold mu
    show ((([]:List R4).length:Nat):Int)+_≤_
    rw [List.length_nil]
    omega
theorem g3_step {W:List Wk3} {a b:S3} (g:G3 W a) (st:Step W a b):G3 W b:=by
  have mf:=mu_falls g.len st
  have cnt:=g.cnt
  cases st with
  | @idle s hn nx ex =>
    have gt:=nx.gt
    have m0:=g.m0
    refine ⟨g.len,by show 0≤s; omega,g.lo,fun k hk h=>g.un k hk (by have h:s≤come W k:=h; omega),g.ch,fun r hr=>?_,g.low,fun t=>?_,g.fin,?_⟩
    · obtain ⟨h1,h2,h3,h4⟩:=g.rows r hr
      exact ⟨h1,h2,by show r.e≤s; omega,h4⟩
    · refine ⟨s,Int.le_refl _,?_,fun k hk h _=>?_⟩
      · rw [sumR_zero fun k hk=>?_]
        · show s-s=0; omega
        · split
          · rename_i h
            have:=g.un k hk (by omega)
            show hrs W k-lf a.L k=0; omega
          · rfl
      · have h1:=(g.lo k hk).1
        by_cases c:come W k≤a.m
        · have:=hn k hk
          by_cases z:0<lf a.L k
          · exact absurd ⟨c,z⟩ this
          · show lf a.L k=0; omega
        · have:=nx.le k hk (by omega); omega
    · show (a.rs.length:Int)+_≤_; omega
  | @go k e c en =>
    have hk:=c.lt
    obtain ⟨cm,hw⟩:=c.wt
    have gt:=en.gt
    have le:=en.le
    have m0:=g.m0
    have l1:∀ j,lf (went a k e).L j=if j=k then lf a.L k-(e-a.m) else lf a.L j:=fun j=>lf_set (by rw [g.len]; exact hk)
    have dif:∀ (q:Nat→Prop) [DecidablePred q],q k→sumR W.length (fun j=>if q j then hrs W j-lf (went a k e).L j else 0)=sumR W.length (fun j=>if q j then hrs W j-lf a.L j else 0)+(e-a.m):=by
      intro q _ hq
      refine sumR_at hk (fun j _ ne=>by (try dsimp only); rw [l1,if_neg ne]) ?_
      try dsimp only
      rw [if_pos hq,if_pos hq,l1,if_pos rfl]; omega
    have same:∀ (q:Nat→Prop) [DecidablePred q],¬ q k→sumR W.length (fun j=>if q j then hrs W j-lf (went a k e).L j else 0)=sumR W.length (fun j=>if q j then hrs W j-lf a.L j else 0):=by
      intro q _ hq
      refine sumR_congr fun j _=>?_
      by_cases ne:j=k
      · subst ne; rw [if_neg hq,if_neg hq]
      · rw [l1,if_neg ne]
    refine ⟨by show (a.L.set _ _).length=_; rw [List.length_set]; exact g.len,by show 0≤e; omega,fun j hj=>?_,fun j hj h=>?_,?_,fun r hr=>?_,fun p cc hp=>?_,fun t=>?_,fun j hj h=>?_,?_⟩
    · have h0:=g.lo j hj
      rw [l1]
      by_cases ne:j=k
      · subst ne; rw [if_pos rfl]; omega
      · rw [if_neg ne]; exact h0
    · have h:e≤come W j:=h
      have ne:j≠k:=fun z=>by subst z; omega
      rw [l1,if_neg ne]
      exact g.un j hj (by omega)
    · refine List.pairwise_append.mpr ⟨g.ch,List.pairwise_singleton _ _,fun x hx y hy=>?_⟩
      cases List.mem_singleton.mp hy
      exact (g.rows x hx).2.2.1
    · rcases List.mem_append.mp hr with hr | hr
      · obtain ⟨h1,h2,h3,h4⟩:=g.rows r hr
        exact ⟨h1,h2,by show r.e≤e; omega,h4⟩
      · cases List.mem_singleton.mp hr
        exact ⟨rfl,gt,Int.le_refl _,m0,k,hk,rfl⟩
    · by_cases hq:p k=true
      · refine .inr ⟨(0,(k:Int),a.m,e),List.mem_append_right _ (List.mem_singleton.mpr rfl),⟨k,hk,rfl,hq⟩,?_⟩
        rw [dif (fun j=>p j=true) hq]
        have:=hp k hk hq
        rcases g.low p cc hp with z | ⟨r,hr,_,z⟩
        · rw [z]; show 0+(e-a.m)≤e-cc; omega
        · have:=(g.rows r hr).2.2.1
          show _≤e-cc; omega
      · rw [same (fun j=>p j=true) hq]
        rcases g.low p cc hp with z | ⟨r,hr,z⟩
        · exact .inl z
        · exact .inr ⟨r,List.mem_append_left _ hr,z⟩
    · by_cases ht:t≤tl W k
      · obtain ⟨s,h1,h2,h3⟩:=g.crit t
        have hs:s≤come W k:=by
          by_cases z:come W k<s
          · have:=h3 k hk z ht; omega
          · omega
        refine ⟨s,by show s≤e; omega,?_,fun j hj z1 z2=>?_⟩
        · rw [dif (fun j=>s≤come W j∧t≤tl W j) ⟨hs,ht⟩]; show e-s=_; omega
        · have ne:j≠k:=fun z=>by subst z; omega
          rw [l1,if_neg ne]
          exact h3 j hj z1 z2
      · refine ⟨e,Int.le_refl _,?_,fun j hj z1 z2=>?_⟩
        · rw [sumR_zero fun j hj=>?_]
          · show e-e=0; omega
          · split
            · rename_i z
              have ne:j≠k:=fun y=>by subst y; omega
              rw [l1,if_neg ne,g.un j hj (by omega)]; omega
            · rfl
        · have ne:j≠k:=fun z=>by subst z; omega
          rw [l1,if_neg ne]
          have h1:=(g.lo j hj).1
          by_cases z:come W j≤a.m
          · by_cases y:0<lf a.L j
            · rcases c.best j hj ⟨z,y⟩ with b | b <;> omega
            · omega
          · have:=en.stop j hj (by omega); omega
    · rw [l1] at h
      by_cases ne:j=k
      · subst ne
        refine ⟨(0,(j:Int),a.m,e),List.mem_append_right _ (List.mem_singleton.mpr rfl),rfl,fun q hq _=>?_,?_⟩
        · rcases List.mem_append.mp hq with hq | hq
          · have:=(g.rows q hq).2.2.1; show q.e≤e; omega
          · cases List.mem_singleton.mp hq; exact Int.le_refl _
        · obtain ⟨s,h1,h2,h3⟩:=g.crit (tl W j)
          have hs:s≤come W j:=by
            by_cases z:come W j<s
            · have:=h3 j hk z (Int.le_refl _); omega
            · omega
          refine ⟨s,hs,?_⟩
          have e1:=dif (fun i=>s≤come W i∧tl W j≤tl W i) ⟨hs,Int.le_refl _⟩
          have e2:=sumR_le (n:=W.length) (f:=fun i=>if s≤come W i∧tl W j≤tl W i then hrs W i-lf (went a j e).L i else 0) (g:=fun i=>if s≤come W i∧tl W j≤tl W i then hrs W i else 0) fun i hi=>by
            try dsimp only
            split
            · have:=(g.lo i hi).1
              rw [l1]
              by_cases y:i=j
              · subst y; rw [if_pos rfl]; omega
              · rw [if_neg y]; omega
            · omega
          show e-s≤_; omega
      · rw [if_neg ne] at h
        obtain ⟨r,hr,h1,h2,h3⟩:=g.fin j hj h
        refine ⟨r,List.mem_append_left _ hr,h1,fun q hq hqj=>?_,h3⟩
        rcases List.mem_append.mp hq with hq | hq
        · exact h2 q hq hqj
        · cases List.mem_singleton.mp hq
          have:(k:Int)=(j:Int):=hqj
          exact absurd (by omega) ne
    · show ((a.rs++[(0,(k:Int),a.m,e)]).length:Int)+_≤_
      rw [List.length_append,List.length_singleton]
      omega
theorem Reach.g {W:List Wk3} (ok:Wok W) {st:S3} (h:Reach W st):G3 W st:=by
  induction h with
  | start=>exact g3_start ok
  | step _ st ih=>exact g3_step ih st
theorem mu_pos (W:List Wk3) (st:S3):0≤mu W st:=by
  have h1:=sumR_pos (f:=fun k=>if st.m<come W k then 1 else 0) (n:=W.length) fun k hk=>by (try dsimp only); split <;> omega
  have h2:=sumR_pos (f:=fun k=>if 0<lf st.L k then 1 else 0) (n:=W.length) fun k hk=>by (try dsimp only); split <;> omega
  unfold mu
  omega
theorem Ch.uniq {W:List Wk3} {st:S3} {j k:Nat} (a:Ch W st j) (b:Ch W st k):j=k:=by
  rcases a.best k b.lt b.wt with h | h <;> rcases b.best j a.lt a.wt with q | q <;> omega
theorem grp_ends:∀ rs:List R4,(∀ r∈rs,r.s<r.e)→(∀ r∈grp rs,r.s<r.e∧∃ q∈rs,q.w=r.w∧q.e=r.e)∧∀ r∈rs,∃ q∈grp rs,q.w=r.w∧r.e≤q.e
  | [],_=>And.intro (fun r (hr:r∈[])=>nomatch hr) (fun r (hr:r∈[])=>nomatch hr)
  | x::xs,hp=>by
    obtain ⟨i1,i2⟩:=grp_ends xs fun r hr=>hp r (List.mem_cons_of_mem _ hr)
    have hx:=hp x List.mem_cons_self
    have eg:grp (x::xs)=match grp xs with | []=>[x] | y::ys=>if Nx x y then upE x y.e::ys else x::y::ys:=rfl
    rw [eg]
    cases e:grp xs with
    | nil =>
      rw [e] at i2
      refine ⟨fun r hr=>?_,fun r hr=>?_⟩
      · cases List.mem_singleton.mp hr
        exact ⟨hx,x,List.mem_cons_self,rfl,rfl⟩
      · rcases List.mem_cons.mp hr with rfl | hr
        · exact ⟨r,List.mem_singleton.mpr rfl,rfl,Int.le_refl _⟩
        · obtain ⟨q,hq,_⟩:=i2 r hr
          cases hq
    | cons y ys =>
      rw [e] at i1 i2
      dsimp only
      by_cases h:Nx x y
      · rw [if_pos h]
        obtain ⟨n1,n2,n3⟩:=h
        obtain ⟨y1,q,hq,hqw,hqe⟩:=i1 y List.mem_cons_self
        refine ⟨fun r hr=>?_,fun r hr=>?_⟩
        · rcases List.mem_cons.mp hr with rfl | hr
          · exact ⟨by show x.s<y.e; omega,q,List.mem_cons_of_mem _ hq,by show q.w=x.w; omega,hqe⟩
          · obtain ⟨z1,q,hq,z⟩:=i1 r (List.mem_cons_of_mem _ hr)
            exact ⟨z1,q,List.mem_cons_of_mem _ hq,z⟩
        · rcases List.mem_cons.mp hr with rfl | hr
          · exact ⟨upE r y.e,List.mem_cons_self,rfl,by show r.e≤y.e; omega⟩
          · obtain ⟨q,hq,z1,z2⟩:=i2 r hr
            rcases List.mem_cons.mp hq with rfl | hq
            · exact ⟨upE x q.e,List.mem_cons_self,by show x.w=r.w; omega,z2⟩
            · exact ⟨q,List.mem_cons_of_mem _ hq,z1,z2⟩
      · rw [if_neg h]
        refine ⟨fun r hr=>?_,fun r hr=>?_⟩
        · rcases List.mem_cons.mp hr with rfl | hr
          · exact ⟨hx,r,List.mem_cons_self,rfl,rfl⟩
          · obtain ⟨z1,q,hq,z⟩:=i1 r hr
            exact ⟨z1,q,List.mem_cons_of_mem _ hq,z⟩
        · rcases List.mem_cons.mp hr with rfl | hr
          · exact ⟨r,List.mem_cons_self,rfl,Int.le_refl _⟩
          · obtain ⟨q,hq,z⟩:=i2 r hr
            exact ⟨q,List.mem_cons_of_mem _ hq,z⟩
structure Cr (rs:List R4):Prop where
  ch:rs.Pairwise fun x y=>x.e≤y.s
  rw:∀ r∈rs,r.b=0∧r.s<r.e
theorem Cr.ap {rs:List R4} (h:Cr rs):Ap rs:=⟨fun r hr=>(h.rw r hr).2,h.ch.imp fun h _=>.inl h⟩
theorem grp_isC {S:List R4} (ap:Cr S):∀ (T P:List R4) (x:R4),S=P++x::T→Fi S x (fin S x)∧grp (x::T)=upE x (fin S x)::(T.filter (bg S)).map fun r=>upE r (fin S r)
  | [],P,x,e=>by
    have st:∀ q∈S,¬ Nx x q:=fun q hq hn=>by
      have hx:x∈S:=by rw [e]; simp
      have p1:=(ap.rw x hx).2
      have p2:=(ap.rw q hq).2
      have hn:=hn.2.2
      have so:=ap.ch
      rw [e] at hq so
      have hq':q∈P∨q=x:=by simpa using hq
      rcases hq' with hq' | hq'
      · have:=(List.pairwise_append.mp so).2.2 q hq' x (by simp)
        omega
      · subst hq'; omega
    have f:=Fi.stop st
    rw [fin_of ap.ap f]
    exact ⟨f,rfl⟩
  | y::T,P,x,e=>by
    obtain ⟨fy,ih⟩:=grp_isC ap T (P++[x]) y (by rw [e]; simp)
    have hx:x∈S:=by rw [e]; simp
    have hy:y∈S:=by rw [e]; simp
    have px:=(ap.rw x hx).2
    have py:=(ap.rw y hy).2
    have so':=ap.ch
    rw [e] at so'
    obtain ⟨soP,soT,soPT⟩:=List.pairwise_append.mp so'
    obtain ⟨sx,sT⟩:=List.pairwise_cons.mp soT
    obtain ⟨sy,_⟩:=List.pairwise_cons.mp sT
    have mem:∀ q∈S,q∈P∨q=x∨q=y∨q∈T:=fun q hq=>by rw [e] at hq; simpa using hq
    have xy:=sx y (by simp)
    have nxt:∀ q∈S,Nx x q→q=y:=fun q hq hn=>by
      have pq:=(ap.rw q hq).2
      have n3:=hn.2.2
      rcases mem q hq with h | h | h | h
      · have:=soPT q h x (by simp); omega
      · subst h; omega
      · exact h
      · have:=sy q h; omega
    have prv:∀ q∈S,Nx q y→q=x:=fun q hq hn=>by
      have pq:=(ap.rw q hq).2
      have n3:=hn.2.2
      rcases mem q hq with h | h | h | h
      · have:=soPT q h x (by simp); omega
      · exact h
      · subst h; omega
      · have:=sy q h; omega
    have eg:grp (x::y::T)=if Nx x y then upE x (fin S y)::(T.filter (bg S)).map (fun r=>upE r (fin S r)) else x::upE y (fin S y)::(T.filter (bg S)).map fun r=>upE r (fin S r):=by
      show (match grp (y::T) with | []=>[x] | z::ys=>if Nx x z then upE x z.e::ys else x::z::ys)=_
      rw [ih]; rfl
    rw [eg]
    by_cases h:Nx x y
    · have fx:Fi S x (fin S y):=.step hy h fy
      rw [if_pos h,fin_of ap.ap fx,List.filter_cons_of_neg]
      · exact ⟨fx,rfl⟩
      · unfold bg; rw [decide_eq_true_iff]; exact fun z=>z x hx h
    · have fx:Fi S x x.e:=.stop fun q hq hn=>h (nxt q hq hn ▸ hn)
      rw [if_neg h,fin_of ap.ap fx,List.filter_cons_of_pos]
      · exact ⟨fx,rfl⟩
      · unfold bg; rw [decide_eq_true_iff]; exact fun q hq hn=>h (prv q hq hn ▸ hn)
theorem grp_allC {S:List R4} (ap:Cr S):grp S=(bgs S).map (full S):=by
  cases S with
  | nil=>rfl
  | cons x T =>
    obtain ⟨_,h⟩:=grp_isC ap T [] x rfl
    unfold bgs
    rw [h,List.filter_cons_of_pos]
    · rfl
    · unfold bg; rw [decide_eq_true_iff]
      intro q hq hn
      have p1:=(ap.rw q hq).2
      have p2:=(ap.rw x (by simp)).2
      have hn:=hn.2.2
      rcases List.mem_cons.mp hq with z | z
      · subst z; omega
      · have:=(List.pairwise_cons.mp ap.ch).1 q z; omega
theorem jn_grp {rs:List R4} (cr:Cr rs):jn rs=(grp rs).map rowL:=by
  have ap:=cr.ap
  unfold jn
  have p0:((s4 rs).filter (bg rs)).Perm (bgs rs):=(s4_perm rs).filter _
  have nd:(((grp (s4 rs)).map rowL).map kR).Nodup:=by
    rw [grp_s4 ap]
    exact keys_nd ap (List.Nodup.sublist List.filter_sublist (ap.perm (s4_perm rs)).nodup) fun r hr=>(s4_perm rs).mem_iff.mp ((List.mem_filter.mp hr).1)
  refine (srtG_uniq (kg:=kR) (fun _ _=>rfl) nd ?_ ?_).symm
  · rw [grp_s4 ap,grp_allC cr]
    exact (p0.map _).symm.map rowL
  · rw [List.pairwise_map,grp_allC cr,List.pairwise_map]
    have h:=List.Pairwise.sublist (List.filter_sublist (p:=bg rs)) cr.ch
    refine List.Pairwise.imp_of_mem (fun {x y} hx hy h=>?_) h
    show L2.lexLt [y.s,y.b] [x.s,x.b]=false
    have hx:=cr.rw x (List.mem_filter.mp hx).1
    simp only [L2.lexLt]
    rw [if_neg (by omega)]
    exact decide_eq_false (by omega)
theorem joinedC {rs:List R4} (cr:Cr rs) (hl:rs.length<64):F_joined [.lst (rs.map rowR)]=some (.lst ((grp rs).map rowR)):=by
  have ap:=cr.ap
  rw [joined_ev hl,jn_grp cr]
  · unfold rowsL; rw [List.map_map]; rfl
  · rw [grp_s4 ap]
    exact keys_nd ap (List.Nodup.sublist List.filter_sublist (ap.perm (s4_perm rs)).nodup) fun r hr=>(s4_perm rs).mem_iff.mp ((List.mem_filter.mp hr).1)
theorem G3.cr {W:List Wk3} {st:S3} (g:G3 W st):Cr st.rs:=⟨g.ch,fun r hr=>⟨(g.rows r hr).1,(g.rows r hr).2.1⟩⟩
theorem En.uniq {W:List Wk3} {st:S3} {k:Nat} {e f:Int} (a:En W st k e) (b:En W st k f):e=f:=by
  have key:∀ {e f:Int},En W st k e→En W st k f→¬ e<f:=by
    intro e f a b h
    have h1:=b.le
    have h2:=a.gt
    rcases a.or with q | ⟨j,hj,q⟩
    · omega
    · have:=b.stop j hj (by omega); omega
  have h1:=key a b
  have h2:=key b a
  omega
theorem Step.uniq {W:List Wk3} {a b c:S3} (x:Step W a b) (y:Step W a c):b=c:=by
  cases x with
  | @idle s hn nx ex =>
    cases y with
    | @idle s' hn' nx' ex' =>
      obtain ⟨j,hj,e⟩:=nx.ex
      obtain ⟨j',hj',e'⟩:=nx'.ex
      have h1:=nx.le j' hj' (by have:=nx'.gt; omega)
      have h2:=nx'.le j hj (by have:=nx.gt; omega)
      have:s=s':=by omega
      rw [this]
    | @go k e c en=>exact absurd c.wt (hn k c.lt)
  | @go k e c en =>
    cases y with
    | @idle s' hn' nx' ex'=>exact absurd c.wt (hn' k c.lt)
    | @go k' e' c' en' =>
      have:=c.uniq c'
      subst this
      rw [en.uniq en']
def Fin3 (W:List Wk3) (st:S3):Prop:=∀ k,k<W.length→lf st.L k=0
theorem Fin3.stuck {W:List Wk3} {a b:S3} (h:Fin3 W a) (x:Step W a b):False:=by
  cases x with
  | @idle s hn nx ex =>
    obtain ⟨k,hk,z⟩:=ex
    have:=h k hk; omega
  | @go k e c en =>
    have:=h k c.lt
    have:=c.wt.2
    omega
inductive RN (W:List Wk3):Nat→S3→Prop
  | zero:RN W 0 (start W)
  | succ {n:Nat} {a b:S3}:RN W n a→Step W a b→RN W (n+1) b
theorem Reach.rn {W:List Wk3} {st:S3} (h:Reach W st):∃ n,RN W n st:=by
  induction h with
  | start=>exact ⟨0,.zero⟩
  | step _ x ih=>obtain ⟨n,h⟩:=ih; exact ⟨n+1,h.succ x⟩
theorem RN.uniq {W:List Wk3} {n:Nat} {a b:S3} (x:RN W n a) (y:RN W n b):a=b:=by
  induction x generalizing b with
  | zero=>cases y; rfl
  | succ _ p ih =>
    cases y with
    | succ y q =>
      have:=ih y
      subst this
      exact p.uniq q
theorem RN.back {W:List Wk3}:∀ {n:Nat} {b:S3},RN W n b→∀ k,k<n→∃ c d,RN W k c∧Step W c d
  | n+1,b,.succ y q,k,hk=>by
    by_cases e:k=n
    · subst e; exact ⟨_,_,y,q⟩
    · exact RN.back y k (by omega)
theorem fin_uniq {W:List Wk3} {a b:S3} (x:Reach W a) (fa:Fin3 W a) (y:Reach W b) (fb:Fin3 W b):a=b:=by
  obtain ⟨n,hx⟩:=x.rn
  obtain ⟨m,hy⟩:=y.rn
  have key:∀ {n m:Nat} {a b:S3},RN W n a→Fin3 W a→RN W m b→¬ n<m:=by
    intro n m a b hx fa hy h
    obtain ⟨c,d,hc,st⟩:=hy.back n h
    rw [hc.uniq hx] at st
    exact fa.stuck st
  have h1:=key hx fa hy
  have h2:=key hy fb hx
  have:n=m:=by omega
  subst this
  exact hx.uniq hy
def cutR (M:Int) (r:R4):R4:=upE r (min r.e M)
def cut (M:Int) (rs:List R4):List R4:=(rs.filter fun r=>decide (r.s<M)).map (cutR M)
theorem cut_app (M:Int) (a b:List R4):cut M (a++b)=cut M a++cut M b:=by unfold cut; rw [List.filter_append,List.map_append]
theorem cut_one_in {M:Int} {r:R4} (h:r.s<M):cut M [r]=[cutR M r]:=by
  unfold cut
  rw [List.filter_cons_of_pos (by simpa using h)]; rfl
theorem cut_one_out {M:Int} {r:R4} (h:M≤r.s):cut M [r]=[]:=by
  unfold cut
  rw [List.filter_cons_of_neg (by simp; omega)]; rfl
theorem cut_all {M:Int} {rs:List R4} (h:∀ r∈rs,r.s<r.e∧r.e≤M):cut M rs=rs:=by
  induction rs with
  | nil=>rfl
  | cons r t ih =>
    have h1:=h r List.mem_cons_self
    have e:cut M (r::t)=cut M [r]++cut M t:=cut_app M [r] t
    rw [e,ih fun q hq=>h q (List.mem_cons_of_mem _ hq),cut_one_in (by omega)]
    show upE r (min r.e M)::t=r::t
    rw [show min r.e M=r.e by omega]
    rfl
theorem grp_snoc (rs:List R4) (r:R4):grp (rs++[r])=stp (grp rs) r:=by
  rw [← fold_grp,← fold_grp,List.foldl_append]; rfl
theorem grp_cut (M:Int):∀ rs:List R4,Cr rs→cut M (grp rs)=grp (cut M rs):=by
  intro rs
  have key:∀ n (rs:List R4),rs.length=n→Cr rs→cut M (grp rs)=grp (cut M rs):=by
    intro n
    induction n with
    | zero =>
      intro rs hl _
      rw [List.eq_nil_of_length_eq_zero hl]; rfl
    | succ n ih =>
      intro rs hl cr
      rcases List.eq_nil_or_concat rs with rfl | ⟨t,r,rfl⟩
      · rfl
      · rw [List.concat_eq_append] at *
        have hl':t.length=n:=by simpa using hl
        obtain ⟨p1,p2,p3⟩:=List.pairwise_append.mp cr.ch
        have crt:Cr t:=⟨p1,fun q hq=>cr.rw q (List.mem_append_left _ hq)⟩
        have ih:=ih t hl' crt
        have hr:=cr.rw r (by simp)
        have he:∀ q∈t,q.e≤r.s:=fun q hq=>p3 q hq r (by simp)
        obtain ⟨g1,_⟩:=grp_ends t fun q hq=>(crt.rw q hq).2
        have ge:∀ q∈grp t,q.s<q.e∧q.e≤r.s:=fun q hq=>by
          obtain ⟨a,x,hx,_,b⟩:=g1 q hq
          have:=he x hx
          exact ⟨a,by omega⟩
        rw [grp_snoc,cut_app]
        by_cases c:r.s<M
        · rw [cut_one_in c,grp_snoc,cut_all (rs:=t) fun q hq=>⟨(crt.rw q hq).2,by have:=he q hq; omega⟩]
          rcases List.eq_nil_or_concat (grp t) with e | ⟨i,x,e⟩
          · rw [e]
            show cut M [r]=_
            rw [cut_one_in c]; rfl
          · rw [List.concat_eq_append] at e
            have gi:∀ q∈i,q.s<q.e∧q.e≤M:=fun q hq=>by have:=ge q (by rw [e]; simp [hq]); exact ⟨this.1,by omega⟩
            have gx:=ge x (by rw [e]; simp)
            rw [e,stp_app,stp_app]
            by_cases nx:Nx x r
            · have nx':Nx x (cutR M r):=nx
              rw [if_pos nx,if_pos nx',cut_app,cut_all gi,cut_one_in (by show x.s<M; omega)]
              rfl
            · have nx':¬ Nx x (cutR M r):=nx
              rw [if_neg nx,if_neg nx',cut_app,cut_one_in c,cut_all (rs:=i++[x]) fun q hq=>?_]
              rcases List.mem_append.mp hq with hq | hq
              · exact gi q hq
              · rw [List.mem_singleton.mp hq]; exact ⟨gx.1,by omega⟩
        · rw [cut_one_out (by omega),List.append_nil,← ih]
          rcases List.eq_nil_or_concat (grp t) with e | ⟨i,x,e⟩
          · rw [e]
            show cut M [r]=cut M []
            rw [cut_one_out (by omega)]; rfl
          · rw [List.concat_eq_append] at e
            have gx:=ge x (by rw [e]; simp)
            rw [e,stp_app]
            by_cases nx:Nx x r
            · rw [if_pos nx,cut_app,cut_app]
              have n3:=nx.2.2
              refine congrArg (cut M i++·) ?_
              by_cases cx:x.s<M
              · rw [cut_one_in (by exact cx),cut_one_in cx]
                show [upE x (min r.e M)]=[upE x (min x.e M)]
                rw [show min r.e M=min x.e M by omega]
              · rw [cut_one_out (by show M≤x.s; omega),cut_one_out (by omega)]
            · rw [if_neg nx,cut_app,cut_one_out (by omega),List.append_nil]
  exact fun cr=>key rs.length rs rfl cr
def mpR (f:Int→Int) (r:R4):R4:=(r.b,f r.w,r.s,r.e)
theorem grp_mp (f:Int→Int):∀ rs:List R4,(∀ x∈rs,∀ y∈rs,f x.w=f y.w→x.w=y.w)→grp (rs.map (mpR f))=(grp rs).map (mpR f)
  | [],_=>rfl
  | x::xs,h=>by
    have ih:=grp_mp f xs fun a ha b hb=>h a (List.mem_cons_of_mem _ ha) b (List.mem_cons_of_mem _ hb)
    have hw:∀ q∈grp xs,∃ y∈xs,y.w=q.w:=by
      have:∀ l:List R4,∀ q∈grp l,∃ y∈l,y.w=q.w:=by
        intro l
        induction l with
        | nil=>intro q hq; cases hq
        | cons a t ih =>
          intro q hq
          have eg:grp (a::t)=match grp t with | []=>[a] | y::ys=>if Nx a y then upE a y.e::ys else a::y::ys:=rfl
          rw [eg] at hq
          cases e:grp t with
          | nil =>
            rw [e] at hq
            rw [List.mem_singleton.mp hq]
            exact ⟨a,List.mem_cons_self,rfl⟩
          | cons y ys =>
            rw [e] at hq ih
            dsimp only at hq
            split at hq
            · rcases List.mem_cons.mp hq with rfl | hq
              · exact ⟨a,List.mem_cons_self,rfl⟩
              · obtain ⟨z,hz,e⟩:=ih q (List.mem_cons_of_mem _ hq)
                exact ⟨z,List.mem_cons_of_mem _ hz,e⟩
            · rcases List.mem_cons.mp hq with rfl | hq
              · exact ⟨q,List.mem_cons_self,rfl⟩
              · obtain ⟨z,hz,e⟩:=ih q hq
                exact ⟨z,List.mem_cons_of_mem _ hz,e⟩
      exact this xs
    have e1:grp ((x::xs).map (mpR f))=match grp (xs.map (mpR f)) with | []=>[mpR f x] | y::ys=>if Nx (mpR f x) y then upE (mpR f x) y.e::ys else mpR f x::y::ys:=rfl
    have e2:grp (x::xs)=match grp xs with | []=>[x] | y::ys=>if Nx x y then upE x y.e::ys else x::y::ys:=rfl
    rw [e1,e2,ih]
    cases e:grp xs with
    | nil=>rfl
    | cons y ys =>
      rw [e] at hw
      obtain ⟨z,hz,ez⟩:=hw y List.mem_cons_self
      show (if Nx (mpR f x) (mpR f y) then upE (mpR f x) (mpR f y).e::ys.map (mpR f) else mpR f x::mpR f y::ys.map (mpR f))=List.map (mpR f) (if Nx x y then upE x y.e::ys else x::y::ys)
      by_cases c:Nx x y
      · have c':Nx (mpR f x) (mpR f y):=⟨c.1,by show f y.w=f x.w; rw [c.2.1],c.2.2⟩
        rw [if_pos c,if_pos c']
        rfl
      · have c':¬ Nx (mpR f x) (mpR f y):=fun q=>c ⟨q.1,by
          have:=h z (List.mem_cons_of_mem _ hz) x List.mem_cons_self (by rw [ez]; exact q.2.1)
          rw [← ez]; exact this,q.2.2⟩
        rw [if_neg c,if_neg c']
        rfl
theorem cut_mp (f:Int→Int) (M:Int) (rs:List R4):cut M (rs.map (mpR f))=(cut M rs).map (mpR f):=by
  unfold cut
  rw [List.filter_map,List.map_map,List.map_map]
  rfl
def fw (W:List Wk3) (M:Int):List Nat:=(List.range W.length).filter fun k=>decide (come W k<M)
theorem fw_mem {W:List Wk3} {M:Int} {k:Nat}:k∈fw W M↔k<W.length∧come W k<M:=by
  unfold fw
  rw [List.mem_filter,List.mem_range]
  simp
theorem fw_up (W:List Wk3) (M:Int):(fw W M).Pairwise (· < ·):=List.Pairwise.sublist List.filter_sublist List.pairwise_lt_range
def early (W:List Wk3) (M:Int):List Wk3:=(fw W M).map fun k=>W.getD k (0,0,0)
def fi (W:List Wk3) (M:Int) (i:Nat):Nat:=(fw W M).getD i 0
theorem early_len (W:List Wk3) (M:Int):(early W M).length=(fw W M).length:=List.length_map ..
theorem fi_mem {W:List Wk3} {M:Int} {i:Nat} (h:i<(early W M).length):fi W M i<W.length∧come W (fi W M i)<M:=by
  rw [early_len] at h
  refine fw_mem.mp ?_
  unfold fi
  rw [List.getD_eq_getElem?_getD,List.getElem?_eq_getElem h]
  exact List.getElem_mem _
theorem fw_ex {W:List Wk3} {M:Int} {k:Nat} (h:k<W.length) (hc:come W k<M):∃ i,i<(early W M).length∧fi W M i=k:=by
  obtain ⟨i,hi,e⟩:=List.getElem_of_mem (fw_mem.mpr ⟨h,hc⟩)
  refine ⟨i,by rw [early_len]; exact hi,?_⟩
  unfold fi
  rw [List.getD_eq_getElem?_getD,List.getElem?_eq_getElem hi]
  exact e
theorem fi_lt {W:List Wk3} {M:Int} {i j:Nat} (hij:i<j) (hj:j<(early W M).length):fi W M i<fi W M j:=by
  rw [early_len] at hj
  unfold fi
  rw [List.getD_eq_getElem?_getD,List.getElem?_eq_getElem (show i<(fw W M).length by omega),List.getD_eq_getElem?_getD,List.getElem?_eq_getElem hj]
  exact (List.pairwise_iff_getElem.mp (fw_up W M)) i j (by omega) hj hij
theorem early_at {W:List Wk3} {M:Int} {i:Nat} (h:i<(early W M).length):(early W M).getD i (0,0,0)=W.getD (fi W M i) (0,0,0):=by
  have h':=h
  rw [early_len] at h'
  unfold fi early
  rw [List.getD_eq_getElem?_getD,List.getElem?_map,List.getD_eq_getElem?_getD (l:=fw W M),List.getElem?_eq_getElem h']
  rfl
theorem early_come {W:List Wk3} {M:Int} {i:Nat} (h:i<(early W M).length):come (early W M) i=come W (fi W M i):=by unfold come; rw [early_at h]
theorem early_hrs {W:List Wk3} {M:Int} {i:Nat} (h:i<(early W M).length):hrs (early W M) i=hrs W (fi W M i):=by unfold hrs; rw [early_at h]
theorem early_tl {W:List Wk3} {M:Int} {i:Nat} (h:i<(early W M).length):tl (early W M) i=tl W (fi W M i):=by unfold tl; rw [early_at h]
theorem early_ok {W:List Wk3} (ok:Wok W) (M:Int):Wok (early W M) where
  few:=by
    rw [early_len]
    have h1:(fw W M).length≤(List.range W.length).length:=List.length_filter_le _ _
    rw [List.length_range] at h1
    have:=ok.few; omega
  c0 k hk:=by rw [early_come hk]; exact ok.c0 _ (fi_mem hk).1
  h0 k hk:=by rw [early_hrs hk]; exact ok.h0 _ (fi_mem hk).1
  t0 k hk:=by rw [early_tl hk]; exact ok.t0 _ (fi_mem hk).1
def fz (W:List Wk3) (M:Int) (w:Int):Int:=(fi W M w.toNat:Nat)
inductive Tg (W:List Wk3) (M:Int) (a b:S3):Prop
  | same:a.m<M→a.m=b.m→(∀ i,i<(early W M).length→lf b.L i=lf a.L (fi W M i))→a.rs=b.rs.map (mpR (fz W M))→Tg W M a b
  | past:M≤a.m→(M≤b.m∨Fin3 (early W M) b)→cut M a.rs=(cut M b.rs).map (mpR (fz W M))→Tg W M a b
theorem tg_step {W:List Wk3} {M:Int} (ok:Wok W) {a c b:S3} (ra:Reach W a) (rb:Reach (early W M) b) (tg:Tg W M a b) (st:Step W a c):∃ d,Reach (early W M) d∧Tg W M c d:=by
  have g:=ra.g ok
  have gb:=rb.g (early_ok ok M)
  cases tg with
  | past h1 h2 h3 =>
    refine ⟨b,rb,?_⟩
    cases st with
    | @idle s hn nx ex=>exact .past (by show M≤s; have:=nx.gt; omega) h2 h3
    | @go k e ch en =>
      refine .past (by show M≤e; have:=en.gt; omega) h2 ?_
      show cut M (a.rs++[(0,(k:Int),a.m,e)])=_
      rw [cut_app,cut_one_out (by show M≤a.m; omega),List.append_nil]
      exact h3
  | same hm he hL hrs =>
    have wt:∀ i,i<(early W M).length→(Wt (early W M) b i↔Wt W a (fi W M i)):=fun i hi=>by
      unfold Wt
      rw [early_come hi,hL i hi,he]
    cases st with
    | @idle s hn nx ex =>
      by_cases hs:s<M
      · obtain ⟨j,hj,ej⟩:=nx.ex
        obtain ⟨i,hi,ei⟩:=fw_ex hj (by omega:come W j<M)
        have gt:=nx.gt
        have st':Step (early W M) b { b with m:=s }:=.idle (fun i hi hw=>hn _ (fi_mem hi).1 ((wt i hi).mp hw)) ⟨by omega,⟨i,hi,by rw [early_come hi,ei]; exact ej⟩,fun i hi h=>by rw [early_come hi] at h ⊢; exact nx.le _ (fi_mem hi).1 (by omega)⟩ ⟨i,hi,by rw [hL i hi,ei,g.un j hj (by omega)]; exact ok.h0 j hj⟩
        exact ⟨_,rb.step st',.same hs rfl hL hrs⟩
      · refine ⟨b,rb,.past (by show M≤s; omega) (.inr fun i hi=>?_) ?_⟩
        · obtain ⟨f1,f2⟩:=fi_mem hi
          have l0:=(g.lo _ f1).1
          rw [hL i hi]
          by_cases c:come W (fi W M i)≤a.m
          · by_cases z:0<lf a.L (fi W M i)
            · exact absurd ⟨c,z⟩ (hn _ f1)
            · omega
          · have:=nx.le _ f1 (by omega); omega
        · show cut M a.rs=_
          rw [hrs,cut_mp]
    | @go k e ch en =>
      obtain ⟨cm,hw⟩:=ch.wt
      obtain ⟨i,hi,ei⟩:=fw_ex ch.lt (by omega:come W k<M)
      have hLi:=hL i hi
      rw [ei] at hLi
      have chb:Ch (early W M) b i:=⟨hi,(wt i hi).mpr (by rw [ei]; exact ch.wt),fun j hj hw=>by
        have q:=ch.best _ (fi_mem hj).1 ((wt j hj).mp hw)
        rw [early_tl hj,early_tl hi,ei]
        rcases q with q | ⟨q1,q2⟩
        · exact .inl q
        · refine .inr ⟨q1,?_⟩
          by_cases z:j<i
          · have:=fi_lt (W:=W) (M:=M) z hi; omega
          · omega⟩
      have fzi:fz W M (i:Int)=(k:Int):=by unfold fz; rw [Int.toNat_natCast,ei]
      have hkL:k<a.L.length:=by rw [g.len]; exact ch.lt
      have hiL:i<b.L.length:=by rw [gb.len]; exact hi
      have gt:=en.gt
      have le:=en.le
      by_cases hs:e<M
      · have enb:En (early W M) b i e:=⟨by rw [hLi]; omega,by omega,fun j hj h=>by rw [early_come hj] at h ⊢; exact en.stop _ (fi_mem hj).1 (by omega),by
          rcases en.or with q | ⟨j,hj,q⟩
          · exact .inl (by rw [hLi]; omega)
          · obtain ⟨l,hl,el⟩:=fw_ex hj (by omega:come W j<M)
            exact .inr ⟨l,hl,by rw [early_come hl,el]; exact q⟩⟩
        refine ⟨_,rb.step (.go chb enb),.same hs rfl (fun j hj=>?_) ?_⟩
        · show lf (b.L.set i _) j=lf (a.L.set k _) (fi W M j)
          rw [lf_set hiL,lf_set hkL,hLi,he]
          by_cases z:j=i
          · subst z; rw [if_pos rfl,if_pos ei]
          · have ne:fi W M j≠k:=fun q=>by
              rw [← ei] at q
              rcases Nat.lt_or_gt_of_ne z with z | z
              · have:=fi_lt (W:=W) (M:=M) z hi; omega
              · have:=fi_lt (W:=W) (M:=M) z hj; omega
            rw [if_neg z,if_neg ne,hL j hj]
        · show a.rs++[(0,(k:Int),a.m,e)]=(b.rs++[(0,(i:Int),b.m,e)]).map (mpR (fz W M))
          rw [List.map_append,← hrs]
          refine congrArg (a.rs++·) ?_
          show [((0:Int),(k:Int),a.m,e)]=[(0,fz W M (i:Int),b.m,e)]
          rw [fzi,he]
      · have none:∀ j,j<(early W M).length→¬ b.m<come (early W M) j:=fun j hj h=>by
          rw [early_come hj] at h
          have f:=fi_mem hj
          have:=en.stop _ f.1 (by omega); omega
        have enb:En (early W M) b i (b.m+lf b.L i):=⟨Int.le_refl _,by rw [hLi]; omega,fun j hj h=>absurd h (none j hj),.inl rfl⟩
        refine ⟨_,rb.step (.go chb enb),.past (by show M≤e; omega) (.inl (by show M≤b.m+lf b.L i; rw [hLi]; omega)) ?_⟩
        show cut M (a.rs++[(0,(k:Int),a.m,e)])=(cut M (b.rs++[(0,(i:Int),b.m,b.m+lf b.L i)])).map (mpR (fz W M))
        rw [cut_app,cut_app,List.map_append,hrs,cut_mp]
        refine congrArg _ ?_
        rw [cut_one_in (by show a.m<M; exact hm),cut_one_in (by show b.m<M; omega)]
        show [((0:Int),(k:Int),a.m,min e M)]=[(0,fz W M (i:Int),b.m,min (b.m+lf b.L i) M)]
        rw [fzi,hLi,he,show min e M=M by omega,show min (b.m+lf a.L k) M=M by omega]
theorem tg_all {W:List Wk3} {M:Int} (ok:Wok W) {a:S3} (ra:Reach W a):∃ b,Reach (early W M) b∧Tg W M a b:=by
  induction ra with
  | start =>
    refine ⟨start (early W M),.start,?_⟩
    by_cases c:0<M
    · exact .same c rfl (fun i hi=>by rw [lf_start hi,lf_start (fi_mem hi).1,early_hrs hi]) rfl
    · refine .past (by show M≤0; omega) (.inr fun k hk=>?_) rfl
      have f:=fi_mem hk
      have:=ok.c0 _ f.1
      omega
  | step ra x ih =>
    obtain ⟨b,rb,tg⟩:=ih
    exact tg_step ok ra rb tg x
theorem past_keeps {W:List Wk3} {M:Int} {b:S3} {n:Nat} {c:S3} (hc:RN W n c) {k:Nat} (hb:RN W k b) (hm:M≤b.m) (hk:k≤n):M≤c.m∧cut M c.rs=cut M b.rs:=by
  induction hc with
  | zero =>
    have:k=0:=by omega
    subst this
    cases hb
    exact ⟨hm,rfl⟩
  | @succ n a c y st ih =>
    by_cases e:k=n+1
    · subst e
      rw [(RN.succ y st).uniq hb]
      exact ⟨hm,rfl⟩
    · obtain ⟨h1,h2⟩:=ih (by omega)
      cases st with
      | @idle s hn nx ex=>exact ⟨by show M≤s; have:=nx.gt; omega,h2⟩
      | @go j e ch en =>
        refine ⟨by show M≤e; have:=en.gt; omega,?_⟩
        show cut M (a.rs++[(0,(j:Int),a.m,e)])=_
        rw [cut_app,cut_one_out (by show M≤a.m; omega),List.append_nil]
        exact h2
theorem early_same {W:List Wk3} (ok:Wok W) (M:Int) {a b:S3} (ra:Reach W a) (fa:Fin3 W a) (rb:Reach (early W M) b) (fb:Fin3 (early W M) b):cut M (grp a.rs)=(cut M (grp b.rs)).map (mpR (fz W M)):=by
  have ga:=ra.g ok
  have gb:=rb.g (early_ok ok M)
  obtain ⟨d,rd,tg⟩:=tg_all (M:=M) ok ra
  have raw:cut M a.rs=(cut M b.rs).map (mpR (fz W M)):=by
    cases tg with
    | same hm he hL hrs =>
      have fd:Fin3 (early W M) d:=fun i hi=>by rw [hL i hi]; exact fa _ (fi_mem hi).1
      rw [hrs,cut_mp,fin_uniq rd fd rb fb]
    | past h1 h2 h3 =>
      rw [h3]
      rcases h2 with h2 | h2
      · obtain ⟨k,hk⟩:=rd.rn
        obtain ⟨n,hn⟩:=rb.rn
        have kn:k≤n:=by
          by_cases c:k≤n
          · exact c
          · obtain ⟨x,y,hx,st⟩:=hk.back n (by omega)
            rw [hx.uniq hn] at st
            exact (fb.stuck st).elim
        rw [(past_keeps hn hk h2 kn).2]
      · rw [fin_uniq rd h2 rb fb]
  rw [grp_cut M _ ga.cr,grp_cut M _ gb.cr,raw,grp_mp]
  intro x hx y hy hxy
  have cw:∀ z∈cut M b.rs,∃ i,i<(early W M).length∧z.w=(i:Int):=fun z hz=>by
    unfold cut at hz
    obtain ⟨q,hq,rfl⟩:=List.mem_map.mp hz
    exact (gb.rows q (List.mem_filter.mp hq).1).2.2.2.2
  obtain ⟨i,hi,ei⟩:=cw x hx
  obtain ⟨j,hj,ej⟩:=cw y hy
  rw [ei,ej] at hxy ⊢
  unfold fz at hxy
  rw [Int.toNat_natCast,Int.toNat_natCast] at hxy
  rcases Nat.lt_trichotomy i j with h | h | h
  · have:=fi_lt (W:=W) (M:=M) h hj; omega
  · rw [h]
  · have:=fi_lt (W:=W) (M:=M) h hi; omega
theorem cell_at (ns:List Int) (k:Int) (h:0≤k):F_l_cell_at [.scr ns,.int k]=some (.int (ns.getD k.toNat 0)):=by
  refine run_eqF F_l_cell_at_def ?_
  rw [st_l_cell_at]
  unfold B_l_cell_at
  walk_at "go"
  refine wp_ifp (by walk_at "ev") (fun c=>?_) fun c=>?_
  · refine wp_ret (by walk_at "ev") rfl
  · walk_at "go"
    refine wp_ret (by walk_at "ev") ?_
    rw [List.getD_eq_getElem?_getD,List.getElem?_eq_none (by omega)]
    rfl
theorem upL_at {lo:Int} {n j:Nat} {d:D} (h:(upL lo n)[j]?=some d):j<n∧d=.int (lo+j):=upL_get h
theorem set_mapI (xs:List Int) (j:Nat) (v:Int):(xs.map D.int).set j (.int v)=(xs.set j v).map D.int:=by rw [List.map_set]
local macro_rules | `(tactic| walk_at "fn")=>`(tactic| first | exact cell_at _ _ (by omega))
def mixZ (x k:Int):Int:=(x*x+k*x+7*k*k)*1103515245 % 2147483629
theorem mix (x k:Int) (hb:Builtin.Int.intBits x≤1048576) (h0:0≤k) (h1:k<1000):F_l_mix [.int x,.int k]=some (.int (mixZ x k)):=by
  refine run_eqF F_l_mix_def ?_
  rw [st_l_mix]
  unfold B_l_mix
  refine wp_ret (ev_mod (ev_mul (ev_add (ev_add (ev_mul rfl rfl (IntMulOk.of_le hb hb (by decide))) (ev_mul rfl rfl (imul (by omega)))) (ev_mul (ev_mul rfl rfl (imul (by omega))) rfl (imul (by omega)))) rfl (imul (by omega))) rfl (by decide)) rfl
theorem mixZ_lt (x k:Int):0≤mixZ x k∧mixZ x k<2147483629:=⟨Int.emod_nonneg _ (by decide),Int.emod_lt_of_pos _ (by decide)⟩
def rowZ (w:Wk3):List D:=[.int w.1,.int w.2.1,.int w.2.2]
def worksD (W:List Wk3):D:=.lst (W.map fun w=>.lst (rowZ w))
theorem works_get {W:List Wk3} {k:Nat} (hk:k<W.length):(W.map fun w=>D.lst (rowZ w))[k]?=some (.lst (rowZ (W.getD k (0,0,0)))):=by
  rw [List.getElem?_map,List.getD_eq_getElem?_getD,List.getElem?_eq_getElem hk]; rfl
theorem ixNn {n a:Nat} (h:a<n):ixN n (a:Int)=some a:=by rw [ixN_in (by omega) (by omega)]; simp
theorem ixL {xs:List D} {a:Nat} {d:D} (h:xs[a]?=some d):ixD (.lst xs) (a:Int)=some d:=by
  have hl:=(List.getElem?_eq_some_iff.mp h).1
  show atI xs (a:Int)=some d
  unfold atI
  rw [ixNn hl]
  exact h
theorem pow40 {ρ:Rho}:dPow (dC (.int 10)) (dC (.int 40)) ρ=some (.int (10 ^ 40)):=ev_pow (i:=10) (j:=40) rfl rfl (by unfold CPow; decide)
theorem pow49 {ρ:Rho}:dPow (dC (.int 10)) (dC (.int 49)) ρ=some (.int (10 ^ 49)):=ev_pow (i:=10) (j:=49) rfl rfl (by unfold CPow; decide)
theorem pow50 {ρ:Rho}:dPow (dC (.int 10)) (dC (.int 50)) ρ=some (.int (10 ^ 50)):=ev_pow (i:=10) (j:=50) rfl rfl (by unfold CPow; decide)
def Gw (w:Wk3):Prop:=0≤w.1∧0<w.2.1∧0≤w.2.2
theorem wok_of {W:List Wk3} (h:W.length≤12) (hg:∀ w∈W,Gw w):Wok W:=by
  have at':∀ k,k<W.length→Gw (W.getD k (0,0,0)):=fun k hk=>by
    rw [List.getD_eq_getElem?_getD,List.getElem?_eq_getElem hk]
    exact hg _ (List.getElem_mem _)
  exact ⟨h,fun k hk=>(at' k hk).1,fun k hk=>(at' k hk).2.1,fun k hk=>(at' k hk).2.2⟩
theorem l_works (ns:List Int) (hl:ns.length≤63) (hb:∀ m∈ns,Builtin.Int.intBits m≤1048576):∃ W:List Wk3,F_l_works [.scr ns]=some (worksD W)∧Wok W:=by
  have hline:sizeLine=16777216:=sizeLine_eq
  obtain ⟨d,e,W,rfl,hW⟩:=run_ofF F_l_works_def (ds:=[.scr ns]) (P:=fun d=>∃ W:List Wk3,d=worksD W∧Wok W) (by
    rw [st_l_works]
    unfold B_l_works
    walk_at "go"
    generalize ns.getD (0:Int).toNat 0=c
    refine wp_set (d:=.int (pk3 (c % 3) 1 7 (10 ^ 40+9))) (ev_ix (ev_lst (ev_cons rfl (ev_cons rfl (ev_cons (ev_add pow40 rfl) rfl)))) (by walk_at "ev") (ix3I _ _ _ _)) ?_
    generalize hu:pk3 (c % 3) 1 7 (10 ^ 40+9)=u
    have hu0:0<u:=by rw [← hu]; unfold pk3; split <;> (try split) <;> omega
    clear hu
    walk_at "st"
    walk_at "go"
    generalize hm:min (12:Int) (max 0 ((ns.length:Int)-2))=m
    have hm1:0≤m∧m≤12∧(m=12∨(ns.length:Int)-2≤m):=by omega
    refine wp_setM (rows:=(List.replicate m.toNat ((0,u,0):Wk3)).map rowZ) ?_ (by simp only [List.length_cons,List.length_nil]; omega) ?_
    · rw [ev_compM0 (fun (i:Nat)=>D.int (0+i)) (xs:=List.range m.toNat) (by show _=some (upL 0 m.toNat); rw [← hm]; walk_at "ev") (fun _=>rowZ (0,u,0)) fun i _=>⟨_,rfl,rfl⟩]
      rw [List.map_const',List.map_replicate,List.length_range]
    · walk_at "st"
      walk_at "go"
      refine wp_for (by walk_at "ev") (fun j ρ=>∃ (W:List Wk3) (v4 v5:Sl),W.length=m.toNat∧(∀ w∈W,Gw w)∧ρ=[.bo (.scr ns),.pu (.int c),.pu (.int u),.pu (.int m),.om (W.map rowZ),v4,v5]) ⟨List.replicate m.toNat ((0,u,0):Wk3),_,_,by rw [List.length_replicate],fun w hw=>by rw [(List.mem_replicate.mp hw).2]; exact ⟨Int.le_refl _,hu0,Int.le_refl _⟩,rfl⟩ ?_ ?_
      · rintro j d ρ hd ⟨W,v4,v5,hW,hg,rfl⟩
        obtain ⟨hj,rfl⟩:=upL_at hd
        refine ⟨_,rfl,?_⟩
        dsimp only [gN,slm,List.set_cons_succ,List.set_cons_zero]
        have hk:(2:Int)+j<ns.length:=by omega
        generalize hK:(2:Int)+(j:Int)=k at hk
        generalize hr:((k-2) % 12).toNat=r
        have hr1:(k-2) % 12=(r:Int)∧r<W.length:=by omega
        have hx:=hb (ns.getD k.toNat 0) (by rw [List.getD_eq_getElem?_getD,List.getElem?_eq_getElem (by omega)]; exact List.getElem_mem _)
        generalize hX:ns.getD k.toNat 0=x at hx
        have eix:∀ ρ:Rho,dVar 0 ρ=some (.scr ns)→dVar 5 ρ=some (.int k)→dIx (dVar 0) (dVar 5) ρ=some (.int x):=fun ρ h1 h2=>by
          rw [← hX]
          exact ev_ix h1 h2 (ixS (by omega) (by omega))
        have hl3:(W.map rowZ).length=W.length:=List.length_map ..
        obtain ⟨⟨w0,w1,w2⟩,hw⟩:∃ w,W[r]?=some w:=⟨_,List.getElem?_eq_getElem hr1.2⟩
        have m1:=mixZ_lt x 1
        have m2:=mixZ_lt x 2
        have m3:=mixZ_lt x 3
        obtain ⟨q,hq⟩:∃ q:Int,q=pk2 (c / 12 % 2) 10 3:=⟨_,rfl⟩
        have hq0:0<q:=by rw [hq]; unfold pk2; split <;> omega
        have hq1:q≤10:=by rw [hq]; unfold pk2; split <;> omega
        have q4:=Int.emod_lt_of_pos (mixZ x 3) hq0
        have eq10:∀ ρ:Rho,dVar 1 ρ=some (.int c)→dIx (dLst (dCons (dC (.int 10)) (dCons (dC (.int 3)) dNil))) (dMod (dFdiv (dVar 1) (dC (.int 12))) (dC (.int 2))) ρ=some (.int q):=fun ρ h=>by
          rw [hq]
          exact ev_ix (ev_lst (ev_cons rfl (ev_cons rfl rfl))) (ev_mod (ev_fdiv h rfl (fdok (by omega) (by omega))) rfl (by decide)) (ix2I _ _ _)
        clear hq
        have q3:=Int.emod_nonneg (mixZ x 3) (show q≠0 by omega)
        refine wp_alias (rows:=W.map rowZ) (n:=(r:Int)) (r:=r) (ds:=rowZ (w0,w1,w2)) (ds':=rowZ ((w0+u*(mixZ x 1 % 7)) % (20*u),u*(1+mixZ x 2 % 5),u*(mixZ x 3 % q))) rfl ?_ (by rw [hl3]; exact ixNn hr1.2) (by rw [List.getElem?_map,hw]; rfl) ?_ (by simp only [List.length_cons,List.length_nil]; omega) ?_
        · rw [← hr1.1]; exact ev_mod (ev_sub rfl rfl) rfl (by decide)
        · refine puts_cons (n:=0) (k:=0) (d:=.int ((w0+u*(mixZ x 1 % 7)) % (20*u))) (ev_mod (ev_add (ev_ix rfl rfl rfl) (ev_mul rfl (ev_mod (ev_call (ev_cons (eix _ rfl rfl) (ev_cons rfl rfl)) (mix _ _ hx (by decide) (by decide))) rfl (by decide)) (imul (by omega)))) (ev_mul rfl rfl (imul (by omega))) (by omega)) rfl rfl ?_
          refine puts_cons (n:=1) (k:=1) (d:=.int (u*(1+mixZ x 2 % 5))) (ev_mul rfl (ev_add rfl (ev_mod (ev_call (ev_cons (eix _ rfl rfl) (ev_cons rfl rfl)) (mix _ _ hx (by decide) (by decide))) rfl (by decide))) (imul (by omega))) rfl rfl ?_
          refine puts_cons (n:=2) (k:=2) (d:=.int (u*(mixZ x 3 % q))) (ev_mul rfl (ev_mod (ev_call (ev_cons (eix _ rfl rfl) (ev_cons rfl rfl)) (mix _ _ hx (by decide) (by decide))) (eq10 _ rfl) hq0) (imul (by omega))) rfl rfl ?_
          rfl
        · dsimp only [List.set_cons_succ,List.set_cons_zero]
          rw [← List.map_set]
          have hg2:∀ w∈W.set r ((w0+u*(mixZ x 1 % 7)) % (20*u),u*(1+mixZ x 2 % 5),u*(mixZ x 3 % q)),Gw w:=fun w hw=>by
            rcases List.mem_or_eq_of_mem_set hw with hw | rfl
            · exact hg w hw
            · exact ⟨Int.emod_nonneg _ (by omega),Int.mul_pos hu0 (by omega),Int.mul_nonneg (by omega) q3⟩
          refine wp_ifp (ev_t (ev_eqF (by walk_at "ev") rfl)) (fun _=>?_) fun _=>wp_pass ⟨_,_,_,by rw [List.length_set]; exact hW,hg2,rfl⟩
          refine wp_rowput (rows:=_) (n:=(r:Int)) (r:=r) (ds:=rowZ (x % 10 ^ 50,1+x / 7 % 10 ^ 49,x / 11 % 10 ^ 50)) rfl (ev_cons (ev_mod (eix _ rfl rfl) pow50 (by decide)) (ev_cons (ev_add rfl (ev_mod (ev_fdiv (eix _ rfl rfl) rfl (fdok (by omega) (by omega))) pow49 (by decide))) (ev_cons (ev_mod (ev_fdiv (eix _ rfl rfl) rfl (fdok (by omega) (by omega))) pow50 (by decide)) rfl))) ?_ (by rw [List.length_map,List.length_set]; exact ixNn hr1.2) ?_
          · rw [← hr1.1]; exact ev_mod (ev_sub rfl rfl) rfl (by decide)
          · refine ⟨(W.set r ((w0+u*(mixZ x 1 % 7)) % (20*u),u*(1+mixZ x 2 % 5),u*(mixZ x 3 % q))).set r (x % 10 ^ 50,1+x / 7 % 10 ^ 49,x / 11 % 10 ^ 50),.pu (.int k),.un,by rw [List.length_set,List.length_set]; exact hW,fun w hw=>?_,?_⟩
            · rcases List.mem_or_eq_of_mem_set hw with hw | rfl
              · exact hg2 w hw
              · exact ⟨Int.emod_nonneg _ (by decide),by show 0<1+x / 7 % 10 ^ 49; have:=Int.emod_nonneg (x / 7) (show (10 ^ 49:Int)≠0 by decide); omega,Int.emod_nonneg _ (by decide)⟩
            · rw [← List.map_set]
              rfl
      · rintro ρ ⟨W,v4,v5,hW,hg,rfl⟩
        walk_at "go"
        refine wp_ret rfl ⟨W,?_,wok_of (by omega) hg⟩
        unfold worksD
        rw [List.map_map]
        rfl)
  exact ⟨W,e,hW⟩
def natD (x:Nat):D:=.int (x:Int)
theorem en_works (W:List Wk3):enL (W.map fun w=>D.lst (rowZ w))=(List.range W.length).map fun i=>D.tup [natD i,.lst (rowZ (W.getD i (0,0,0)))]:=by
  refine List.ext_getElem? fun i=>?_
  unfold enL
  rw [List.getElem?_mapIdx,List.getElem?_map,List.getElem?_map]
  by_cases hi:i<W.length
  · have hS:W.getD i (0,0,0)=W[i]:=by rw [List.getD_eq_getElem?_getD,List.getElem?_eq_getElem hi]; rfl
    rw [List.getElem?_range hi,List.getElem?_eq_getElem hi]
    show some (D.tup [natD i,.lst (rowZ W[i])])=some (D.tup [natD i,.lst (rowZ (W.getD i (0,0,0)))])
    rw [hS]
  · rw [List.getElem?_eq_none (by omega),List.getElem?_eq_none (by rw [List.length_range]; omega)]
    rfl
theorem evEn {W:List Wk3} {a:DE} {ρ:Rho} (h:a ρ=some (worksD W)):dEn a ρ=some ((List.range W.length).map fun i=>D.tup [natD i,.lst (rowZ (W.getD i (0,0,0)))]):=by
  unfold dEn
  rw [ev_asL h rfl]
  exact congrArg some (en_works W)
theorem int_get {L:List Int} {k:Nat} (h:k<L.length):(L.map D.int)[k]?=some (.int (lf L k)):=by
  unfold lf
  rw [List.getElem?_map,List.getD_eq_getElem?_getD,List.getElem?_eq_getElem h]; rfl
def Bt (W:List Wk3) (x y:Nat):Prop:=tl W y<tl W x∨(tl W x=tl W y∧x<y)
instance (W:List Wk3) (x y:Nat):Decidable (Bt W x y):=by unfold Bt; infer_instance
theorem nbt {W:List Wk3} {j k:Nat} (h:¬ Bt W j k):tl W j<tl W k∨(tl W j=tl W k∧k≤j):=by unfold Bt at h; omega
theorem bestBy_best (W:List Wk3):∀ (l:List Nat) (b:Nat),∀ y∈b::l,¬ Bt W y (bestBy (fun x y=>decide (Bt W x y)) b l)
  | [],b,y,hy=>by
    rw [List.mem_singleton.mp hy]
    show ¬ Bt W b b
    unfold Bt; omega
  | v::r,b,y,hy=>by
    have e:bestBy (fun x y=>decide (Bt W x y)) b (v::r)=bestBy (fun x y=>decide (Bt W x y)) (if Bt W v b then v else b) r:=by
      show bestBy _ (if decide (Bt W v b)=true then v else b) r=_
      by_cases h:Bt W v b
      · rw [if_pos h,if_pos (by simpa using h)]
      · rw [if_neg h,if_neg (by simpa using h)]
    rw [e]
    by_cases h:Bt W v b
    · rw [if_pos h]
      have ih:=bestBy_best W r v
      generalize bestBy (fun x y=>decide (Bt W x y)) v r=z at ih
      have h1:=ih v List.mem_cons_self
      rcases List.mem_cons.mp hy with rfl | hy
      · unfold Bt at *; omega
      · exact ih y hy
    · rw [if_neg h]
      have ih:=bestBy_best W r b
      generalize bestBy (fun x y=>decide (Bt W x y)) b r=z at ih
      have h1:=ih b List.mem_cons_self
      rcases List.mem_cons.mp hy with rfl | hy
      · exact h1
      · rcases List.mem_cons.mp hy with rfl | hy
        · unfold Bt at *; omega
        · exact ih y (List.mem_cons_of_mem _ hy)
def kfD (W:List Wk3) (d:D):D:=match d with
  | .int k=>.tup [.int (-(tl W k.toNat)),.int k]
  | d=>d
theorem kfD_nat (W:List Wk3) (k:Nat):kfD W (natD k)=.tup [.int (-(tl W k)),.int k]:=rfl
theorem lt_kfD (W:List Wk3) (x y:Nat):ltD 20 (kfD W (natD x)) (kfD W (natD y))=decide (Bt W x y):=by
  rw [kfD_nat,kfD_nat]
  show lexD (ltD 19) [D.int (-(tl W x)),D.int (x:Int)] [D.int (-(tl W y)),D.int (y:Int)]=_
  have e1:(D.int (-(tl W x))=D.int (-(tl W y)))↔tl W x=tl W y:=⟨fun h=>by injection h with h; omega,fun h=>by rw [h]⟩
  have e2:(D.int (x:Int)=D.int (y:Int))↔x=y:=⟨fun h=>by injection h with h; omega,fun h=>by rw [h]⟩
  rw [Bool.eq_iff_iff,decide_eq_true_iff]
  unfold Bt
  by_cases h1:tl W x=tl W y
  · rw [lexD,if_pos (e1.mpr h1)]
    by_cases h2:x=y
    · rw [lexD,if_pos (e2.mpr h2)]
      constructor
      · intro z; cases z
      · omega
    · rw [lexD,if_neg (fun z=>h2 (e2.mp z))]; show decide ((x:Int)<y)=true↔_; rw [decide_eq_true_iff]; omega
  · rw [lexD,if_neg (fun z=>h1 (e1.mp z))]; show decide (-(tl W x) < -(tl W y))=true↔_; rw [decide_eq_true_iff]; omega
theorem chosen {W:List Wk3} {st:S3} (hL:st.L.length=W.length):((∀ k,k<W.length→¬ Wt W st k)∧F_chosen [worksD W,.lst (st.L.map D.int),.int st.m]=some .non)∨∃ k,Ch W st k∧F_chosen [worksD W,.lst (st.L.map D.int),.int st.m]=some (natD k):=by
  have hc:∀ ρ:Rho,ρ=[.pu (worksD W),.bo (.lst (st.L.map D.int)),.bo (.int st.m),.un]→dComp 2 [2,1] (dEn (dVarI 0)) (gUn 2 (gsCons (gN true 0) (gsCons (gN true 1) gsNil))) (dAnd (dT (dLe (dIx (dVar 1) (dC (.int 0))) (dVar 2))) (dT (dGt (dIx (dVar 3) (dVar 0)) (dC (.int 0))))) (dVarI 0) ρ=some (((List.range W.length).filter fun k=>decide (come W k≤st.m)&&decide (0<lf st.L k)).map natD):=by
    rintro ρ rfl
    refine ev_compA (fun i=>D.tup [natD i,.lst (rowZ (W.getD i (0,0,0)))]) (evEn rfl) (fun k=>decide (come W k≤st.m)&&decide (0<lf st.L k)) natD fun k hk=>⟨_,rfl,?_,fun _=>rfl⟩
    have hk:=List.mem_range.mp hk
    exact ev_and (ev_t (ev_le (ev_ix rfl rfl rfl) rfl)) fun _=>ev_t (ev_gt (ev_ix rfl rfl (ixL (int_get (by omega)))) rfl)
  have wt:∀ k,k∈(List.range W.length).filter (fun k=>decide (come W k≤st.m)&&decide (0<lf st.L k))↔k<W.length∧Wt W st k:=fun k=>by
    rw [List.mem_filter,List.mem_range]
    unfold Wt
    simp
  generalize (List.range W.length).filter (fun k=>decide (come W k≤st.m)&&decide (0<lf st.L k))=ks at hc wt
  cases ks with
  | nil =>
    refine .inl ⟨fun k hk hw=>?_,?_⟩
    · have:=(wt k).mpr ⟨hk,hw⟩
      cases this
    · refine run_eqF F_chosen_def ?_
      rw [st_chosen]
      unfold B_chosen
      refine wp_seq (wp_set (ev_lst (hc _ rfl)) ?_)
      walk_at "st"
      exact wp_ret (dMinKN_nil (ev_asL (d:=.lst []) rfl rfl)) rfl
  | cons x r =>
    refine .inr ⟨bestBy (fun x y=>decide (Bt W x y)) x r,?_,?_⟩
    · have hm:=(wt _).mp (bestBy_mem (lt:=fun x y=>decide (Bt W x y)) (b:=x) (l:=r))
      refine ⟨hm.1,hm.2,fun j hj hw=>?_⟩
      exact nbt (bestBy_best W r x j ((wt j).mpr ⟨hj,hw⟩))
    · refine run_eqF F_chosen_def ?_
      rw [st_chosen]
      unfold B_chosen
      refine wp_seq (wp_set (ev_lst (hc _ rfl)) ?_)
      walk_at "st"
      have hm:∀ d∈natD x::r.map natD,∃ k,k<W.length∧d=natD k:=fun d hd=>by
        obtain ⟨k,hk,rfl⟩:=List.mem_map.mp (show d∈(x::r).map natD from hd)
        exact ⟨k,((wt k).mp hk).1,rfl⟩
      refine wp_ret (dMinKN_of (kfD W) (ev_asL (d:=.lst ((x::r).map natD)) rfl rfl) (fun d hd=>?_) fun d hd d' hd'=>?_) ?_
      · obtain ⟨k,hk,rfl⟩:=hm d hd
        exact ev_tup (ev_cons (ev_neg (ev_ix (ev_ix rfl rfl (ixL (works_get hk))) rfl rfl)) (ev_cons rfl rfl))
      · obtain ⟨k,hk,rfl⟩:=hm d hd
        obtain ⟨j,hj,rfl⟩:=hm d' hd'
        rfl
      · rw [bestBy_map natD (fun v b=>ltD 20 (kfD W v) (kfD W b)) x r]
        refine congrArg natD (bestBy_congr fun a _ b _=>?_)
        exact lt_kfD W a b
theorem mem_come {W:List Wk3} {k:Nat} (hk:k<W.length):∃ w∈W,w.1=come W k:=by
  unfold come
  rw [List.getD_eq_getElem?_getD,List.getElem?_eq_getElem hk]
  exact ⟨_,List.getElem_mem _,rfl⟩
theorem come_mem {W:List Wk3} {w:Wk3} (h:w∈W):∃ k,k<W.length∧come W k=w.1:=by
  obtain ⟨k,hk,e⟩:=List.getElem_of_mem h
  refine ⟨k,hk,?_⟩
  unfold come
  rw [List.getD_eq_getElem?_getD,List.getElem?_eq_getElem hk,← e]
  rfl
theorem next_coming (W:List Wk3) (st:S3):((∀ k,k<W.length→¬ st.m<come W k)∧F_next_coming [worksD W,.int st.m]=some .non)∨∃ s,Nxt W st s∧F_next_coming [worksD W,.int st.m]=some (.int s):=by
  have hc:dComp 1 [1] (asL (dVarI 0)) (gN true 0) (dT (dGt (dIx (dVar 0) (dC (.int 0))) (dVar 1))) (dIx (dVarI 0) (dC (.int 0))) [.pu (worksD W),.bo (.int st.m)]=some (((W.filter fun w=>decide (st.m<w.1)).map fun w=>w.1).map D.int):=by
    rw [List.map_map]
    exact ev_compA (fun w:Wk3=>D.lst (rowZ w)) (ev_asL rfl rfl) (fun w=>decide (st.m<w.1)) (fun w=>D.int w.1) fun w hw=>⟨_,rfl,ev_t (ev_gt (ev_ix rfl rfl rfl) rfl),fun _=>ev_ix rfl rfl rfl⟩
  have wt:∀ s,s∈(W.filter fun w=>decide (st.m<w.1)).map (fun w=>w.1)↔st.m<s∧∃ k,k<W.length∧come W k=s:=fun s=>by
    rw [List.mem_map]
    constructor
    · rintro ⟨w,hw,rfl⟩
      obtain ⟨h1,h2⟩:=List.mem_filter.mp hw
      exact ⟨by simpa using h2,come_mem h1⟩
    · rintro ⟨h1,k,hk,rfl⟩
      obtain ⟨w,hw,e⟩:=mem_come hk
      exact ⟨w,List.mem_filter.mpr ⟨hw,by simpa [e] using h1⟩,e⟩
  generalize (W.filter fun w=>decide (st.m<w.1)).map (fun w=>w.1)=ks at hc wt
  cases ks with
  | nil =>
    refine .inl ⟨fun k hk hw=>?_,?_⟩
    · have:=(wt (come W k)).mpr ⟨hw,k,hk,rfl⟩
      cases this
    · refine run_eqF F_next_coming_def ?_
      rw [st_next_coming]
      unfold B_next_coming
      exact wp_ret (ev_mxD0 (ev_lst hc) rfl) rfl
  | cons x r =>
    obtain ⟨h1,h2⟩:=minL_spec r x
    refine .inr ⟨minL x r,?_,?_⟩
    · obtain ⟨q1,q2⟩:=(wt _).mp h1
      exact ⟨q1,q2,fun j hj hw=>h2 _ ((wt _).mpr ⟨hw,j,hj,rfl⟩)⟩
    · refine run_eqF F_next_coming_def ?_
      rw [st_next_coming]
      unfold B_next_coming
      exact wp_ret (ev_mxD (ev_lst hc) rfl) rfl
theorem any_int (ns:List Int):anyD (.lst (ns.map D.int))=some (.bl ((ns.map fun b=>b != 0).any id)):=by
  show (trus (ns.map D.int)).map _=_
  rw [trus_int]; rfl
theorem tail_plan {W:List Wk3} (ok:Wok W):∃ st,Reach W st∧(∀ k,k<W.length→lf st.L k=0)∧F_tail_plan [worksD W]=some (.lst ((grp st.rs).map rowR)):=by
  have hline:sizeLine=16777216:=sizeLine_eq
  obtain ⟨d,e,st,hr,hz,rfl⟩:=run_ofG F_tail_plan_def (ds:=[worksD W]) (P:=fun d=>∃ st,Reach W st∧(∀ k,k<W.length→lf st.L k=0)∧d=.lst ((grp st.rs).map rowR)) (by
    rw [st_tail_plan]
    unfold B_tail_plan
    refine wp_seq (wp_setO (ds:=(start W).L.map D.int) ?_ (by simp only [List.length_cons,List.length_nil]; omega) ?_)
    · show _=some ((W.map fun w=>w.2.1).map D.int)
      rw [List.map_map]
      exact ev_compA0 (fun w:Wk3=>D.lst (rowZ w)) (ev_asL rfl rfl) (fun w=>D.int w.2.1) fun w _=>⟨_,rfl,ev_ix rfl rfl rfl⟩
    · walk_at "st"
      refine wp_seq (wp_setO (ds:=(start W).rs.map rowR) rfl (by simp only [List.length_cons,List.length_nil]; omega) ?_)
      walk_at "st"
      refine wp_seq (wp_set (d:=.int (start W).m) rfl ?_)
      walk_at "st"
      refine wp_seq (wp_while (fun n ρ=>∃ (st:S3) (v4 v5 v6:Sl),Reach W st∧mu W st≤n∧ρ=[.pu (worksD W),.ol (st.L.map D.int),.ol (st.rs.map rowR),.pu (.int st.m),v4,v5,v6]) (mu W (start W)).toNat ⟨start W,_,_,_,.start,by have:=mu_pos W (start W); omega,rfl⟩ ?_)
      rintro n ρ ⟨st,v4,v5,v6,hr,hmu,rfl⟩
      have g:=hr.g ok
      have hfew:=ok.few
      have cnt:=g.cnt
      have mp:=mu_pos W st
      refine ⟨_,ev_tru (ev_f1 rfl (any_int _)) rfl,fun hx=>?_,fun hx=>?_⟩
      · have hex:∃ k,k<W.length∧0<lf st.L k:=by
          rw [List.any_map,List.any_eq_true] at hx
          obtain ⟨x,hx,nz⟩:=hx
          obtain ⟨k,hk,e⟩:=List.getElem_of_mem hx
          have hk':k<W.length:=by rw [← g.len]; exact hk
          refine ⟨k,hk',?_⟩
          have h1:=(g.lo k hk').1
          have h2:lf st.L k=x:=by unfold lf; rw [List.getD_eq_getElem?_getD,List.getElem?_eq_getElem hk,e]; rfl
          have h3:x≠0:=by simpa using nz
          omega
        rcases chosen (W:=W) (st:=st) g.len with ⟨hn,e1⟩ | ⟨k,hk,e1⟩
        · rcases next_coming W st with ⟨hs,e2⟩ | ⟨s,hs,e2⟩
          · obtain ⟨k,hk,h0⟩:=hex
            have h1:=hn k hk
            have h2:=hs k hk
            unfold Wt at h1
            exact absurd ⟨by omega,h0⟩ h1
          · refine wp_seq (wp_set (ev_call (ev_cons rfl (ev_cons rfl (ev_cons rfl rfl))) e1) ?_)
            walk_at "st"
            refine wp_seq (wp_set (ev_call (ev_cons rfl (ev_cons rfl rfl)) e2) ?_)
            walk_at "st"
            refine wp_seq (wp_ifT (ev_t (dIsN_eq (d:=.non) rfl)) (wp_seq (wp_set rfl (wp_cnt ?_))))
            have stp:=Step.idle hn hs hex
            have mf:=mu_falls g.len stp
            have mp2:=mu_pos W { st with m:=s }
            exact ⟨(mu W { st with m:=s }).toNat,by omega,{ st with m:=s },_,_,_,hr.step stp,by omega,rfl⟩
        · have hkL:k<st.L.length:=by rw [g.len]; exact hk.lt
          have key:∀ (W0:Wk) (v5:D) (en:Int),En W st k en→(∀ (st':S3) (v4 v5 v6:Sl),Reach W st'→mu W st'<mu W st→W0.nx [.pu (worksD W),.ol (st'.L.map D.int),.ol (st'.rs.map rowR),.pu (.int st'.m),v4,v5,v6])→Wp (sSeq (sApp 2 (dLst (dCons (dC (.int 0)) (dCons (dVarI 4) (dCons (dVarI 3) (dCons (dVarI 6) dNil)))))) (sSeq (sAugP (fun x y=>x-y) 1 (dVar 4) (dSub (dVar 6) (dVar 3))) (sSet 3 (dVarI 6)))) [.pu (worksD W),.ol (st.L.map D.int),.ol (st.rs.map rowR),.pu (.int st.m),.pu (natD k),.pu v5,.pu (.int en)] W0:=by
            intro W0 v5 en hen hW0
            have mf:=mu_falls g.len (.go hk hen)
            refine wp_seq (wp_app (d:=rowR (0,(k:Int),st.m,en)) rfl (ev_lst (ev_cons rfl (ev_cons rfl (ev_cons rfl (ev_cons rfl rfl))))) (by rw [List.length_map]; omega) ?_)
            walk_at "st"
            refine wp_seq (wp_augP (n:=(k:Int)) (j:=k) (x:=lf st.L k) (y:=en-st.m) rfl rfl (by rw [List.length_map]; exact ixNn hkL) (int_get hkL) (ev_sub rfl rfl) ?_)
            walk_at "st"
            refine wp_set rfl ?_
            walk_at "st"
            have q:=hW0 (went st k en) (.pu (natD k)) (.pu v5) (.pu (.int en)) (hr.step (.go hk hen)) mf
            have e3:(went st k en).rs.map rowR=st.rs.map rowR++[rowR (0,(k:Int),st.m,en)]:=by show (st.rs++[_]).map rowR=_; rw [List.map_append]; rfl
            have e4:(went st k en).L.map D.int=(st.L.map D.int).set k (.int (lf st.L k-(en-st.m))):=by rw [set_mapI]; rfl
            rw [e3,e4] at q
            exact q
          have h0:=hk.wt.2
          rcases next_coming W st with ⟨hs,e2⟩ | ⟨s,hs,e2⟩
          · have hen:En W st k (st.m+lf st.L k):=⟨Int.le_refl _,by omega,fun j hj h=>absurd h (hs j hj),.inl rfl⟩
            refine wp_seq (wp_set (ev_call (ev_cons rfl (ev_cons rfl (ev_cons rfl rfl))) e1) ?_)
            walk_at "st"
            refine wp_seq (wp_set (ev_call (ev_cons rfl (ev_cons rfl rfl)) e2) ?_)
            walk_at "st"
            refine wp_seq (wp_ifF (ev_t (dIsN_eq (d:=natD k) rfl)) (wp_pass ?_))
            refine wp_seq (wp_set (ev_add rfl (ev_ix rfl rfl (ixL (int_get hkL)))) ?_)
            walk_at "st"
            refine wp_seq (wp_ifF (ev_t (ev_notV (dIsN_eq (d:=.non) rfl))) (wp_pass ?_))
            exact key _ _ _ hen fun st' v4 v5 v6 hr' hm=>⟨(mu W st').toNat,by have:=mu_pos W st'; omega,st',v4,v5,v6,hr',by have:=mu_pos W st'; omega,rfl⟩
          · have hgt:=hs.gt
            have hen:En W st k (min (st.m+lf st.L k) s):=by
              refine ⟨by omega,by omega,fun j hj h=>by have:=hs.le j hj h; omega,?_⟩
              by_cases c:st.m+lf st.L k≤s
              · exact .inl (by omega)
              · exact .inr (by rw [show min (st.m+lf st.L k) s=s by omega]; exact hs.ex)
            refine wp_seq (wp_set (ev_call (ev_cons rfl (ev_cons rfl (ev_cons rfl rfl))) e1) ?_)
            walk_at "st"
            refine wp_seq (wp_set (ev_call (ev_cons rfl (ev_cons rfl rfl)) e2) ?_)
            walk_at "st"
            refine wp_seq (wp_ifF (ev_t (dIsN_eq (d:=natD k) rfl)) (wp_pass ?_))
            refine wp_seq (wp_set (ev_add rfl (ev_ix rfl rfl (ixL (int_get hkL)))) ?_)
            walk_at "st"
            refine wp_seq (wp_ifT (ev_t (ev_notV (dIsN_eq (d:=.int s) rfl))) (wp_set (ev_min2 rfl rfl) ?_))
            walk_at "st"
            exact key _ _ _ hen fun st' v4 v5 v6 hr' hm=>⟨(mu W st').toNat,by have:=mu_pos W st'; omega,st',v4,v5,v6,hr',by have:=mu_pos W st'; omega,rfl⟩
      · refine wp_ret (ev_mat (ev_callM (rows:=(grp st.rs).map rowL) (ev_cons rfl rfl) (by rw [joinedC g.cr (by omega)]; unfold rowsL; rw [List.map_map]; rfl))) ⟨st,hr,fun k hk=>?_,by unfold rowsL; rw [List.map_map]; rfl⟩
        rw [List.any_map,List.any_eq_false] at hx
        have h2:=hx (lf st.L k) (by
          have hkL:k<st.L.length:=by rw [g.len]; exact hk
          unfold lf; rw [List.getD_eq_getElem?_getD,List.getElem?_eq_getElem hkL]; exact List.getElem_mem _)
        simpa using h2)
  exact ⟨st,hr,hz,e⟩
theorem cell0 {W:List Wk3} {k:Nat} (hk:k<W.length) {ρ:Rho} {a b:DE} (ha:a ρ=some (worksD W)) (hb:b ρ=some (.int (k:Int))):dIx (dIx a b) (dC (.int 0)) ρ=some (.int (come W k)):=ev_ix (ev_ix ha hb (ixL (works_get hk))) rfl rfl
theorem cell2 {W:List Wk3} {k:Nat} (hk:k<W.length) {ρ:Rho} {a b:DE} (ha:a ρ=some (worksD W)) (hb:b ρ=some (.int (k:Int))):dIx (dIx a b) (dC (.int 2)) ρ=some (.int (tl W k)):=ev_ix (ev_ix ha hb (ixL (works_get hk))) rfl rfl
theorem cmp_nil (xs:List D):cmpb 20 (.lst xs) (.lst [])=true:=by
  show (decide (xs.length≠([]:List D).length) || (List.zip xs []).all fun p=>cmpb 19 p.1 p.2)=true
  rw [List.zip_nil_right]
  simp
theorem ev_isNil {a:DE} {ρ:Rho} {xs:List D} (ha:a ρ=some (.lst xs)):dT (dEq false a (dLst dNil)) ρ=some (decide (xs=[])):=by
  rw [ev_t (ev_eq (neg:=false) ha (e:=.lst []) rfl (cmp_nil xs))]
  cases xs with
  | nil=>simp
  | cons x r=>simp
theorem ev_notNil {a:DE} {ρ:Rho} {xs:List D} (ha:a ρ=some (.lst xs)):dT (dEq true a (dLst dNil)) ρ=some (!decide (xs=[])):=by
  rw [ev_t (ev_eq (neg:=true) ha (e:=.lst []) rfl (cmp_nil xs))]
  cases xs with
  | nil=>simp
  | cons x r=>simp
instance (W:List Wk3) (st:S3) (k:Nat):Decidable (Wt W st k):=by unfold Wt; infer_instance
inductive Bj (W:List Wk3) (st:S3) (j:Nat):D→Prop
  | none:(∀ k,k<j→¬ Wt W st k)→Bj W st j (.lst [])
  | one {k:Nat}:k<j→Wt W st k→(∀ i,i<j→Wt W st i→tl W i<tl W k∨(tl W i=tl W k∧k≤i))→Bj W st j (.lst [natD k])
theorem l_chosen {W:List Wk3} {st:S3} (hl:W.length≤12) (hL:st.L.length=W.length):((∀ k,k<W.length→¬ Wt W st k)∧F_l_chosen [worksD W,.lst (st.L.map D.int),.int st.m]=some (.lst []))∨∃ k,Ch W st k∧F_l_chosen [worksD W,.lst (st.L.map D.int),.int st.m]=some (.lst [natD k]):=by
  have hline:sizeLine=16777216:=sizeLine_eq
  obtain ⟨d,e,h⟩:=run_ofF F_l_chosen_def (ds:=[worksD W,.lst (st.L.map D.int),.int st.m]) (P:=fun d=>Bj W st W.length d) (by
    rw [st_l_chosen]
    unfold B_l_chosen
    have elen:∀ ρ:Rho,dVar 0 ρ=some (worksD W)→dF1 lenD (dVar 0) ρ=some (.int (W.length:Int)):=fun ρ h=>ev_f1 h (by show some (D.int ((W.map fun w=>D.lst (rowZ w)).length:Nat))=_; rw [List.length_map])
    refine wp_seq (wp_set (d:=.lst []) rfl ?_)
    walk_at "st"
    refine wp_seq (wp_for (ds:=upL 0 W.length) (by rw [ev_rg1 (elen _ rfl) ⟨by omega,by omega⟩,Int.toNat_natCast]) (fun j ρ=>∃ (d:D) (v4:Sl),Bj W st j d∧ρ=[.pu (worksD W),.bo (.lst (st.L.map D.int)),.bo (.int st.m),.pu d,v4]) ⟨_,_,.none fun k hk=>by omega,rfl⟩ ?_ ?_)
    · rintro j d ρ hd ⟨f,v4,hf,rfl⟩
      obtain ⟨hj,rfl⟩:=upL_at hd
      refine ⟨_,rfl,?_⟩
      dsimp only [gN,slm,List.set_cons_succ,List.set_cons_zero]
      rw [show (0:Int)+(j:Int)=(j:Int) by omega]
      have hjL:j<st.L.length:=by omega
      have t1:∀ ρ:Rho,dVar 1 ρ=some (.lst (st.L.map D.int))→dVar 4 ρ=some (.int (j:Int))→dT (dGt (dIx (dVar 1) (dVar 4)) (dC (.int 0))) ρ=some (decide (0<lf st.L j)):=fun ρ h1 h2=>ev_t (ev_gt (ev_ix h1 h2 (ixL (int_get hjL))) rfl)
      cases hf with
      | none hn =>
        refine wp_if (x:=decide (Wt W st j)) (by
          rw [ev_and (t1 _ rfl rfl) fun _=>ev_and (ev_t (ev_le (cell0 hj rfl rfl) rfl)) fun _=>ev_or (x:=true) (y:=true) (ev_isNil (xs:=[]) rfl) fun z=>by cases z]
          rw [Option.some.injEq,Bool.eq_iff_iff]
          simp only [Bool.and_eq_true,Bool.or_true,decide_eq_true_iff]
          unfold Wt
          constructor
          · rintro ⟨a,b,_⟩; exact ⟨b,a⟩
          · rintro ⟨b,a⟩; exact ⟨a,b,trivial⟩) (fun c=>?_) fun c=>wp_pass ⟨_,_,.none fun k hk=>?_,rfl⟩
        · have c:=of_decide_eq_true c
          refine wp_set (d:=.lst [natD j]) rfl ⟨_,_,.one (k:=j) (by omega) c fun i hi hw=>?_,rfl⟩
          by_cases z:i=j
          · subst z; exact .inr ⟨rfl,Nat.le_refl _⟩
          · exact absurd hw (hn i (by omega))
        · by_cases z:k=j
          · subst z; exact of_decide_eq_false c
          · exact hn k (by omega)
      | @one k hk hw hb =>
        refine wp_if (x:=decide (Wt W st j∧tl W k<tl W j)) (by
          rw [ev_and (t1 _ rfl rfl) fun _=>ev_and (ev_t (ev_le (cell0 hj rfl rfl) rfl)) fun _=>ev_or (x:=false) (ev_isNil (xs:=[natD k]) rfl) fun _=>ev_t (ev_gt (cell2 hj rfl rfl) (cell2 (by omega:k<W.length) rfl (ev_ix rfl rfl (ixL (xs:=[natD k]) (a:=0) rfl))))]
          rw [Option.some.injEq,Bool.eq_iff_iff]
          simp only [Bool.and_eq_true,Bool.or_eq_true,decide_eq_true_iff,Bool.false_eq_true,false_or]
          unfold Wt
          constructor
          · rintro ⟨a,b,c⟩; exact ⟨⟨b,a⟩,c⟩
          · rintro ⟨⟨b,a⟩,c⟩; exact ⟨a,b,c⟩) (fun c=>?_) fun c=>wp_pass ⟨_,_,.one (k:=k) (by omega) hw fun i hi hwi=>?_,rfl⟩
        · have c:=of_decide_eq_true c
          refine wp_set (d:=.lst [natD j]) rfl ⟨_,_,.one (k:=j) (by omega) c.1 fun i hi hwi=>?_,rfl⟩
          by_cases z:i=j
          · subst z; exact .inr ⟨rfl,Nat.le_refl _⟩
          · have:=hb i (by omega) hwi; omega
        · by_cases z:i=j
          · subst z
            have:¬ tl W k<tl W i:=fun q=>of_decide_eq_false c ⟨hwi,q⟩
            omega
          · exact hb i (by omega) hwi
    · rintro ρ ⟨f,v4,hf,rfl⟩
      rw [upL_len] at hf
      exact wp_ret rfl hf)
  cases h with
  | none hn=>exact .inl ⟨hn,e⟩
  | @one k hk hw hb=>exact .inr ⟨k,⟨hk,hw,hb⟩,e⟩
theorem sum_pos:∀ {L:List Int},(∀ x∈L,0≤x)→(0<L.sum↔∃ x∈L,0<x)
  | [],_=>by simp
  | x::r,h=>by
    have h1:=h x List.mem_cons_self
    have ih:=sum_pos (L:=r) fun y hy=>h y (List.mem_cons_of_mem _ hy)
    have h2:0≤r.sum:=by
      by_cases c:0<r.sum
      · omega
      · have key:∀ l:List Int,(∀ y∈l,0≤y)→0≤l.sum:=by
          intro l
          induction l with
          | nil=>intro _; exact Int.le_refl _
          | cons a t iht =>
            intro q
            have q1:=q a List.mem_cons_self
            have q2:=iht fun y hy=>q y (List.mem_cons_of_mem _ hy)
            rw [List.sum_cons]; omega
        exact key r fun y hy=>h y (List.mem_cons_of_mem _ hy)
    rw [List.sum_cons]
    constructor
    · intro q
      by_cases c:0<x
      · exact ⟨x,List.mem_cons_self,c⟩
      · obtain ⟨y,hy,z⟩:=ih.mp (by omega)
        exact ⟨y,List.mem_cons_of_mem _ hy,z⟩
    · rintro ⟨y,hy,z⟩
      rcases List.mem_cons.mp hy with rfl | hy
      · omega
      · have:=ih.mpr ⟨y,hy,z⟩; omega
theorem sumD_ints' (ns:List Int):sumD (.lst (ns.map D.int))=some (.int ns.sum):=ofInts_lst _ ns
theorem grp_b {rs:List R4} (h:∀ r∈rs,r.b=0):∀ r∈grp rs,r.b=0:=by
  induction rs with
  | nil=>intro r hr; cases hr
  | cons x xs ih =>
    have ih:=ih fun r hr=>h r (List.mem_cons_of_mem _ hr)
    have hx:=h x List.mem_cons_self
    intro r hr
    have eg:grp (x::xs)=match grp xs with | []=>[x] | y::ys=>if Nx x y then upE x y.e::ys else x::y::ys:=rfl
    rw [eg] at hr
    cases e:grp xs with
    | nil =>
      rw [e] at hr
      rw [List.mem_singleton.mp hr]; exact hx
    | cons y ys =>
      rw [e] at hr ih
      dsimp only at hr
      split at hr
      · rcases List.mem_cons.mp hr with rfl | hr
        · exact hx
        · exact ih r (List.mem_cons_of_mem _ hr)
      · rcases List.mem_cons.mp hr with rfl | hr
        · exact hx
        · exact ih r hr
theorem later_of {W:List Wk3} {st:S3} {ms:List Int} (hm:SrtS (W.map fun w=>w.1) ms):(ms.filter (fun s=>decide (st.m<s))=[]∧∀ k,k<W.length→¬ st.m<come W k)∨∃ s r,ms.filter (fun s=>decide (st.m<s))=s::r∧Nxt W st s:=by
  have mem:∀ s,s∈ms.filter (fun s=>decide (st.m<s))↔st.m<s∧∃ k,k<W.length∧come W k=s:=fun s=>by
    rw [List.mem_filter,hm.2.1,List.mem_map]
    constructor
    · rintro ⟨⟨w,hw,rfl⟩,h⟩
      exact ⟨by simpa using h,come_mem hw⟩
    · rintro ⟨h,k,hk,rfl⟩
      obtain ⟨w,hw,e⟩:=mem_come hk
      exact ⟨⟨w,hw,e⟩,by simpa using h⟩
  have up:(ms.filter fun s=>decide (st.m<s)).Pairwise (·≤·):=List.Pairwise.sublist List.filter_sublist hm.2.2
  cases e:ms.filter (fun s=>decide (st.m<s)) with
  | nil =>
    rw [e] at mem
    refine .inl ⟨rfl,fun k hk h=>?_⟩
    have:=(mem (come W k)).mpr ⟨h,k,hk,rfl⟩
    cases this
  | cons s r =>
    rw [e] at mem up
    obtain ⟨h1,h2⟩:=(mem s).mp List.mem_cons_self
    refine .inr ⟨s,r,rfl,h1,h2,fun j hj h=>?_⟩
    rcases List.mem_cons.mp ((mem (come W j)).mpr ⟨h,j,hj,rfl⟩) with q | q
    · rw [q]; exact Int.le_refl _
    · exact (List.pairwise_cons.mp up).1 _ q
theorem lf_mem {L:List Int} {k:Nat} (h:k<L.length):lf L k∈L:=by unfold lf; rw [List.getD_eq_getElem?_getD,List.getElem?_eq_getElem h]; exact List.getElem_mem _
theorem mem_lf {L:List Int} {x:Int} (h:x∈L):∃ k,k<L.length∧lf L k=x:=by
  obtain ⟨k,hk,e⟩:=List.getElem_of_mem h
  exact ⟨k,hk,by unfold lf; rw [List.getD_eq_getElem?_getD,List.getElem?_eq_getElem hk,e]; rfl⟩
theorem l_due {W:List Wk3} (ok:Wok W):∃ st,Reach W st∧Fin3 W st∧F_l_due [worksD W]=some (.lst ((grp st.rs).map rowR)):=by
  have hline:sizeLine=16777216:=sizeLine_eq
  obtain ⟨ms,hms⟩:=srtS_ex (W.map fun w=>w.1)
  have hfew:=ok.few
  obtain ⟨d,e,st,hr,hz,rfl⟩:=run_ofG F_l_due_def (ds:=[worksD W]) (P:=fun d=>∃ st,Reach W st∧Fin3 W st∧d=.lst ((grp st.rs).map rowR)) (by
    rw [st_l_due]
    unfold B_l_due
    refine wp_seq (wp_setO (ds:=(start W).L.map D.int) ?_ (by simp only [List.length_cons,List.length_nil]; omega) ?_)
    · show _=some ((W.map fun w=>w.2.1).map D.int)
      rw [List.map_map]
      exact ev_compA0 (fun w:Wk3=>D.lst (rowZ w)) (ev_asL rfl rfl) (fun w=>D.int w.2.1) fun w _=>⟨_,rfl,ev_ix rfl rfl rfl⟩
    · walk_at "st"
      refine wp_seq (wp_setM (rows:=(grp (start W).rs).map rowL) rfl (by simp only [List.length_cons,List.length_nil]; omega) ?_)
      walk_at "st"
      refine wp_seq (wp_set (d:=.lst (ms.map D.int)) (ev_lst (dSrtS_of (ns:=W.map fun w=>w.1) (ev_asL (d:=.lst ((W.map fun w=>w.1).map D.int)) (ev_lst ?_) rfl) (by rw [List.length_map]; omega) hms)) ?_)
      · rw [List.map_map]
        exact ev_compA0 (fun w:Wk3=>D.lst (rowZ w)) (ev_asL rfl rfl) (fun w=>D.int w.1) fun w _=>⟨_,rfl,ev_ix rfl rfl rfl⟩
      walk_at "st"
      refine wp_seq (wp_set (d:=.int (start W).m) rfl ?_)
      walk_at "st"
      refine wp_seq (wp_while (fun n ρ=>∃ (st:S3) (v5 v6 v7 v8:Sl),Reach W st∧mu W st≤n∧ρ=[.pu (worksD W),.ol (st.L.map D.int),.om ((grp st.rs).map rowL),.pu (.lst (ms.map D.int)),.pu (.int st.m),v5,v6,v7,v8]) (mu W (start W)).toNat ⟨start W,_,_,_,_,.start,by have:=mu_pos W (start W); omega,rfl⟩ ?_)
      rintro n ρ ⟨st,v5,v6,v7,v8,hr,hmu,rfl⟩
      have g:=hr.g ok
      have cnt:=g.cnt
      have mp:=mu_pos W st
      have hL0:∀ x∈st.L,0≤x:=fun x hx=>by
        obtain ⟨k,hk,e⟩:=mem_lf hx
        rw [← e]; exact (g.lo k (by rw [← g.len]; exact hk)).1
      have sp:=sum_pos hL0
      refine ⟨_,ev_t (ev_gt (ev_f1 rfl (sumD_ints' st.L)) rfl),fun hx=>?_,fun hx=>?_⟩
      · have hex:∃ k,k<W.length∧0<lf st.L k:=by
          obtain ⟨x,hx,z⟩:=sp.mp (of_decide_eq_true hx)
          obtain ⟨k,hk,e⟩:=mem_lf hx
          exact ⟨k,by rw [← g.len]; exact hk,by rw [e]; exact z⟩
        refine wp_seq (wp_set (d:=.lst ((ms.filter fun s=>decide (st.m<s)).map D.int)) (ev_lst (ev_compA D.int (ev_asL rfl rfl) (fun s=>decide (st.m<s)) D.int fun s _=>⟨_,rfl,ev_t (ev_gt rfl rfl),fun _=>rfl⟩)) ?_)
        walk_at "st"
        rcases l_chosen (W:=W) (st:=st) hfew g.len with ⟨hn,e1⟩ | ⟨k,hk,e1⟩
        · rcases later_of (W:=W) (st:=st) hms with ⟨_,hs⟩ | ⟨s,r,el,hs⟩
          · obtain ⟨k,hk,h0⟩:=hex
            have h1:=hn k hk
            have h2:=hs k hk
            unfold Wt at h1
            exact absurd ⟨by omega,h0⟩ h1
          · rw [el]
            refine wp_seq (wp_set (ev_call (ev_cons rfl (ev_cons rfl (ev_cons rfl rfl))) e1) ?_)
            walk_at "st"
            refine wp_ifT (ev_isNil (xs:=[]) rfl) (wp_set (d:=.int s) (ev_ix rfl rfl (ixL (xs:=(s::r).map D.int) (a:=0) rfl)) ?_)
            have stp:=Step.idle hn hs hex
            have mf:=mu_falls g.len stp
            have mp2:=mu_pos W { st with m:=s }
            exact ⟨(mu W { st with m:=s }).toNat,by omega,{ st with m:=s },_,_,_,_,hr.step stp,by omega,rfl⟩
        · have hkL:k<st.L.length:=by rw [g.len]; exact hk.lt
          have h0:=hk.wt.2
          have gb:=grp_b fun r hr=>(g.rows r hr).1
          have gl:(grp st.rs).length≤st.rs.length:=by
            rw [← fold_grp]
            have:=fold_len st.rs []
            simpa using this
          have key:∀ (W0:Wk) (v5:Sl) (en:Int),En W st k en→(∀ (st':S3) (v5 v6 v7 v8:Sl),Reach W st'→mu W st'<mu W st→W0.nx [.pu (worksD W),.ol (st'.L.map D.int),.om ((grp st'.rs).map rowL),.pu (.lst (ms.map D.int)),.pu (.int st'.m),v5,v6,v7,v8])→Wp (sSeq (sPut 1 (dVar 7) (dSub (dIx (dVar 1) (dVar 7)) (dSub (dVar 8) (dVar 4))))
 (sSeq (sIf (dAnd (dT (dEq true (dVar 2) (dLst dNil))) (dAnd (dT (dEq false (dIx (dIx (dVar 2) (dNeg (dC (.int 1)))) (dC (.int 1))) (dVar 7))) (dT (dEq false (dIx (dIx (dVar 2) (dNeg (dC (.int 1)))) (dC (.int 3))) (dVar 4)))))
 (sPut2 2 (dNeg (dC (.int 1))) (dC (.int 3)) (dVarI 8))
 (sAppM 2 (dCons (dC (.int 0)) (dCons (dVarI 7) (dCons (dVarI 4) (dCons (dVarI 8) dNil))))))
 (sSet 4 (dVarI 8)))) [.pu (worksD W),.ol (st.L.map D.int),.om ((grp st.rs).map rowL),.pu (.lst (ms.map D.int)),.pu (.int st.m),v5,.pu (.lst [natD k]),.pu (natD k),.pu (.int en)] W0:=by
            intro W0 v5 en hen hW0
            have mf:=mu_falls g.len (.go hk hen)
            have q:=hW0 (went st k en) v5 (.pu (.lst [natD k])) (.pu (natD k)) (.pu (.int en)) (hr.step (.go hk hen)) mf
            have e4:(went st k en).L.map D.int=(st.L.map D.int).set k (.int (lf st.L k-(en-st.m))):=by rw [set_mapI]; rfl
            have e5:grp (went st k en).rs=stp (grp st.rs) (0,(k:Int),st.m,en):=grp_snoc _ _
            rw [e4,e5] at q
            refine wp_seq (wp_put (n:=(k:Int)) (j:=k) (d:=.int (lf st.L k-(en-st.m))) rfl (ev_sub (ev_ix rfl rfl (ixL (int_get hkL))) (ev_sub rfl rfl)) rfl (by rw [List.length_map]; exact ixNn hkL) ?_)
            walk_at "st"
            have gle:(grp st.rs).length≤24:=by omega
            generalize grp st.rs=G at q gb gle
            rcases List.eq_nil_or_concat G with rfl | ⟨init,x,rfl⟩
            · refine wp_seq (wp_ifF (ev_and (x:=false) (y:=false) (ev_notNil (xs:=[]) rfl) fun z=>by cases z) (wp_appM rfl (ev_cons rfl (ev_cons rfl (ev_cons rfl (ev_cons rfl rfl)))) (by simp; omega) ?_))
              walk_at "st"
              exact wp_set rfl q
            · rw [List.concat_eq_append] at *
              have bx:=gb x (by simp)
              have hLn:((init++[x]).map rowL).length=init.length+1:=by simp
              have ixl:ixN (init.length+1) (-1)=some init.length:=by
                unfold ixN
                rw [if_neg (by omega),if_pos (by omega)]
                exact congrArg some (by omega)
              have ix:ixD (rowsL ((init++[x]).map rowL)) (-1)=some (rowR x):=by
                show atI (((init++[x]).map rowL).map D.lst) (-1)=_
                unfold atI
                rw [List.length_map,hLn,ixl]
                simp
              rw [stp_app] at q
              have cond:∀ ρ:Rho,dVar 2 ρ=some (rowsL ((init++[x]).map rowL))→dVar 7 ρ=some (natD k)→dVar 4 ρ=some (.int st.m)→dAnd (dT (dEq true (dVar 2) (dLst dNil))) (dAnd (dT (dEq false (dIx (dIx (dVar 2) (dNeg (dC (.int 1)))) (dC (.int 1))) (dVar 7))) (dT (dEq false (dIx (dIx (dVar 2) (dNeg (dC (.int 1)))) (dC (.int 3))) (dVar 4)))) ρ=some (decide (Nx x (0,(k:Int),st.m,en))):=fun ρ h2 h7 h4=>by
                rw [ev_and (x:=true) (by rw [ev_notNil h2]; simp) fun _=>ev_and (ev_t (ev_eqF (ev_ix (ev_ix h2 (ev_neg rfl) ix) rfl rfl) h7)) fun _=>ev_t (ev_eqF (ev_ix (ev_ix h2 (ev_neg rfl) ix) rfl rfl) h4)]
                rw [Option.some.injEq,Bool.eq_iff_iff]
                simp only [Bool.and_eq_true,decide_eq_true_iff,true_and]
                unfold Nx
                constructor
                · rintro ⟨a,b⟩; exact ⟨bx.symm,a.symm,b.symm⟩
                · rintro ⟨_,a,b⟩; exact ⟨a.symm,b.symm⟩
              refine wp_seq (wp_if (cond _ rfl rfl rfl) (fun c=>?_) fun c=>?_)
              · have c:=of_decide_eq_true c
                rw [if_pos c] at q
                refine wp_put2 (r:=init.length) (j:=3) (ds:=rowL x) (n:=-1) (m:=3) (d:=.int en) rfl rfl (ev_neg rfl) ?_ ?_ rfl rfl ?_
                · rw [hLn]; exact ixl
                · rw [List.map_append,List.getElem?_append_right (by simp)]; simp
                · walk_at "st"
                  refine wp_set rfl ?_
                  walk_at "st"
                  have e6:((init++[x]).map rowL).set init.length [.int x.b,.int x.w,.int x.s,.int en]=(init++[upE x en]).map rowL:=by
                    rw [List.map_append,List.set_append_right _ _ (by simp)]
                    simp only [List.length_map,Nat.sub_self,List.map_append,List.map_cons,List.map_nil,List.set_cons_zero]
                    rfl
                  rw [e6]
                  exact q
              · have c:=of_decide_eq_false c
                rw [if_neg c] at q
                refine wp_appM rfl (ev_cons rfl (ev_cons rfl (ev_cons rfl (ev_cons rfl rfl)))) (by simp only [hLn]; simp at gle; omega) ?_
                walk_at "st"
                refine wp_set rfl ?_
                walk_at "st"
                have e6:(init++[x]).map rowL++[[.int 0,natD k,.int st.m,.int en]]=(init++[x]++[((0:Int),(k:Int),st.m,en)]).map rowL:=by rw [List.map_append (l₁:=init++[x])]; rfl
                rw [e6]
                exact q
          have fin:∀ (st':S3) (v5 v6 v7 v8:Sl),Reach W st'→mu W st'<mu W st→∃ m,m<n∧∃ (st:S3) (w5 w6 w7 w8:Sl),Reach W st∧mu W st≤m∧[Sl.pu (worksD W),.ol (st'.L.map D.int),.om ((grp st'.rs).map rowL),.pu (.lst (ms.map D.int)),.pu (.int st'.m),v5,v6,v7,v8]=[.pu (worksD W),.ol (st.L.map D.int),.om ((grp st.rs).map rowL),.pu (.lst (ms.map D.int)),.pu (.int st.m),w5,w6,w7,w8]:=fun st' v5 v6 v7 v8 hr' hm=>⟨(mu W st').toNat,by have:=mu_pos W st'; omega,st',v5,v6,v7,v8,hr',by have:=mu_pos W st'; omega,rfl⟩
          refine wp_seq (wp_set (ev_call (ev_cons rfl (ev_cons rfl (ev_cons rfl rfl))) e1) ?_)
          walk_at "st"
          refine wp_ifF (ev_isNil (xs:=[natD k]) rfl) ?_
          refine wp_seq (wp_set (d:=natD k) (ev_ix rfl rfl (ixL (xs:=[natD k]) (a:=0) rfl)) ?_)
          walk_at "st"
          refine wp_seq (wp_set (ev_add rfl (ev_ix rfl rfl (ixL (int_get hkL)))) ?_)
          walk_at "st"
          rcases later_of (W:=W) (st:=st) hms with ⟨el,hs⟩ | ⟨s,r,el,hs⟩
          · rw [el]
            have hen:En W st k (st.m+lf st.L k):=⟨Int.le_refl _,by omega,fun j hj h=>absurd h (hs j hj),.inl rfl⟩
            refine wp_seq (wp_ifF (ev_and (x:=false) (y:=false) (ev_notNil (xs:=[]) rfl) fun z=>by cases z) (wp_pass ?_))
            exact key _ _ _ hen fin
          · rw [el]
            have hgt:=hs.gt
            have tst:∀ ρ:Rho,dVar 5 ρ=some (.lst ((s::r).map D.int))→dVar 8 ρ=some (.int (st.m+lf st.L k))→dAnd (dT (dEq true (dVar 5) (dLst dNil))) (dT (dLt (dIx (dVar 5) (dC (.int 0))) (dVar 8))) ρ=some (decide (s<st.m+lf st.L k)):=fun ρ h5 h8=>by
              rw [ev_and (x:=true) (by rw [ev_notNil h5]; simp) fun _=>ev_t (ev_lt (ev_ix h5 rfl (ixL (xs:=(s::r).map D.int) (a:=0) rfl)) h8)]
              simp
            refine wp_seq (wp_if (tst _ rfl rfl) (fun c=>?_) fun c=>?_)
            · have c:=of_decide_eq_true c
              refine wp_set (d:=.int s) (ev_ix rfl rfl (ixL (xs:=(s::r).map D.int) (a:=0) rfl)) ?_
              walk_at "st"
              exact key _ _ _ ⟨by omega,hgt,hs.le,.inr hs.ex⟩ fin
            · have c:=of_decide_eq_false c
              refine wp_pass ?_
              exact key _ _ _ ⟨Int.le_refl _,by omega,fun j hj h=>by have:=hs.le j hj h; omega,.inl rfl⟩ fin
      · refine wp_retXM rfl ⟨st,hr,fun k hk=>?_,by unfold rowsL; rw [List.map_map]; rfl⟩
        have h1:=(g.lo k hk).1
        by_cases c:0<lf st.L k
        · exact absurd (sp.mpr ⟨_,lf_mem (by rw [g.len]; exact hk),c⟩) (of_decide_eq_false hx)
        · omega)
  exact ⟨st,hr,hz,e⟩
theorem lenRR (rs:List R4):lenD (.lst (rs.map rowR))=some (.int rs.length):=by show some (D.int ((rs.map rowR).length:Nat))=_; rw [List.length_map]
theorem whole (n:Int):F_l_whole [.int n]=some (.bl true):=by
  refine run_eqF F_l_whole_def ?_
  rw [st_l_whole]
  unfold B_l_whole
  exact wp_ret rfl rfl
theorem cmp_rows (W V:List R4):cmpb 20 (.lst (W.map rowR)) (.lst (V.map rowR))=true:=by
  refine cmp_lst fun x hx y hy=>?_
  obtain ⟨p,_,rfl⟩:=List.mem_map.mp hx
  obtain ⟨q,_,rfl⟩:=List.mem_map.mp hy
  exact cmp_ints (zR p) (zR q)
theorem like (L:List R4):F_l_like [.lst (L.map rowR),.lst (L.map rowR)]=some (.bl true):=by
  refine run_eqF F_l_like_def ?_
  rw [st_l_like]
  unfold B_l_like
  refine wp_seq (wp_ifF (ev_or (x:=false) (y:=false) (ev_not (x:=true) (ev_tru rfl rfl)) fun _=>?_) (wp_pass ?_))
  · rw [ev_t (ev_neF (ev_f1 rfl (lenRR L)) (ev_f1 rfl (lenRR L)))]; simp
  refine wp_seq (wp_for (ds:=L.map rowR) (ev_asL (d:=.lst (L.map rowR)) rfl rfl) (fun j ρ=>∃ v2 v3:Sl,ρ=[.bo (.lst (L.map rowR)),.bo (.lst (L.map rowR)),v2,v3]) ⟨_,_,rfl⟩ ?_ ?_)
  · rintro j d ρ hd ⟨v2,v3,rfl⟩
    rw [List.getElem?_map] at hd
    obtain ⟨r,hr,rfl⟩:=Option.map_eq_some_iff.mp hd
    refine ⟨_,rfl,?_⟩
    dsimp only [gN,slm,List.set_cons_succ,List.set_cons_zero]
    refine wp_seq (wp_ifF (ev_not (x:=true) (ev_tru rfl rfl)) (wp_pass ?_))
    refine wp_for (ds:=(zR r).map D.int) (ev_asL (d:=rowR r) rfl rfl) (fun j ρ=>∃ v3:Sl,ρ=[.bo (.lst (L.map rowR)),.bo (.lst (L.map rowR)),.bo (rowR r),v3]) ⟨_,rfl⟩ ?_ ?_
    · rintro j d ρ hd ⟨v3,rfl⟩
      rw [List.getElem?_map] at hd
      obtain ⟨n,hn,rfl⟩:=Option.map_eq_some_iff.mp hd
      refine ⟨_,rfl,?_⟩
      dsimp only [gN,slm,List.set_cons_succ,List.set_cons_zero]
      exact wp_ifF (ev_not (x:=true) (ev_tru (ev_call (ev_cons rfl rfl) (whole n)) rfl)) (wp_pass ⟨_,rfl⟩)
    · rintro ρ ⟨v3,rfl⟩
      exact ⟨_,_,rfl⟩
  · rintro ρ ⟨v2,v3,rfl⟩
    exact wp_ret (ev_eqSame rfl rfl (cmp_rows L L)) rfl
theorem copyW_ev {W:List Wk3} {ρ:Rho} {a:DE} (ha:a ρ=some (worksD W)):dLst (dComp 1 [] (asL a) (gN true 0) dTrue (dLst (dLof (dVarI 0)))) ρ=some (worksD W):=by
  refine ev_lst ?_
  rw [ev_compA0 (fun w:Wk3=>D.lst (rowZ w)) (ev_asL ha rfl) (fun w=>D.lst (rowZ w)) fun r _=>⟨_,rfl,rfl⟩]
theorem cmp_works (W V:List Wk3):cmpb 20 (worksD W) (worksD V)=true:=by
  refine cmp_lst fun x hx y hy=>?_
  obtain ⟨p,_,rfl⟩:=List.mem_map.mp hx
  obtain ⟨q,_,rfl⟩:=List.mem_map.mp hy
  exact cmp_ints [_,_,_] [_,_,_]
theorem till (R:List R4) (M:Int):F_l_till [.lst (R.map rowR),.int M]=some (.lst ((cut M R).map rowR)):=by
  have hline:sizeLine=16777216:=sizeLine_eq
  refine run_eqF F_l_till_def ?_
  rw [st_l_till]
  unfold B_l_till
  refine wp_ret (ev_lst (ev_compA rowR (ev_asL rfl rfl) (fun r=>decide (r.s<M)) (fun r=>rowR (cutR M r)) fun r _=>⟨_,rfl,ev_t (ev_lt (ev_ix rfl rfl rfl) rfl),fun _=>?_⟩)) ?_
  · exact ev_lst (ev_cat (xs:=[.int r.b,.int r.w,.int r.s]) (ys:=[.int (min r.e M)]) (ev_lst (ev_sl (l:=none) (u:=some 3) (ds:=rowL r) (ev_asL rfl rfl) rfl rfl)) (ev_lst (ev_cons (ev_min2 (ev_ix rfl rfl rfl) rfl) rfl)) (by simp only [List.length_cons,List.length_nil]; omega))
  · unfold cut
    rw [List.map_map]
    rfl
theorem ev_neSame {a b:DE} {ρ:Rho} {d:D} (ha:a ρ=some d) (hb:b ρ=some d) (h:cmpb 20 d d=true):dEq true a b ρ=some (.bl false):=by
  rw [ev_eq ha hb h,if_pos rfl]
  simp
theorem law_true (ns:List Int) (hl:ns.length≤63) (hb:∀ m∈ns,Builtin.Int.intBits m≤1048576):F_law [.scr ns]=some (.bl true):=by
  have hline:sizeLine=16777216:=sizeLine_eq
  obtain ⟨W,eW,ok⟩:=l_works ns hl hb
  obtain ⟨st,hr,hz,eP⟩:=tail_plan ok
  obtain ⟨st2,hr2,hz2,eD⟩:=l_due ok
  have e0:=fin_uniq hr2 hz2 hr hz
  subst e0
  have few:=ok.few
  have hc:Builtin.Int.intBits (ns.getD (1:Int).toNat 0)≤1048576:=by
    rw [List.getD_eq_getElem?_getD]
    cases e:ns[(1:Int).toNat]? with
    | none=>decide
    | some x=>exact hb x (List.mem_of_getElem? e)
  have elen:∀ ρ:Rho,dVar 1 ρ=some (worksD W)→dF1 lenD (dVar 1) ρ=some (.int (W.length:Int)):=fun ρ h=>ev_f1 h (by show some (D.int ((W.map fun w=>D.lst (rowZ w)).length:Nat))=_; rw [List.length_map])
  refine run_eqF F_law_def ?_
  rw [st_law]
  unfold B_law
  refine wp_seq (wp_set (ev_call (ev_cons rfl rfl) eW) ?_)
  walk_at "st"
  refine wp_seq (wp_set (copyW_ev rfl) ?_)
  walk_at "st"
  refine wp_seq (wp_set (ev_call (ev_cons rfl rfl) eD) ?_)
  walk_at "st"
  have eR:rowsL ((grp st2.rs).map rowL)=.lst ((grp st2.rs).map rowR):=by unfold rowsL; rw [List.map_map]; rfl
  refine wp_seq (wp_setM (rows:=(grp st2.rs).map rowL) (ev_callM (ev_cons rfl rfl) (by rw [eR]; exact eP)) (by simp only [List.length_cons,List.length_nil]; omega) ?_)
  walk_at "st"
  refine wp_seq (wp_ifF (ev_or (x:=false) (y:=false) (ev_not (x:=true) (ev_tru (ev_call (ev_cons (d:=.lst ((grp st2.rs).map rowR)) (by rw [← eR]; rfl) (ev_cons rfl rfl)) (like _)) rfl)) fun _=>ev_t (x:=false) (ev_neSame rfl rfl (cmp_works W W))) (wp_pass ?_))
  refine wp_seq (wp_rotR (rows:=(grp st2.rs).map rowL) rfl ⟨by simp only [List.length_cons,List.length_nil]; omega,by decide,fun x hx=>?_⟩ ?_)
  · obtain ⟨r,_,rfl⟩:=List.mem_map.mp hx
    intro z; cases z
  walk_at "st"
  generalize ((grp st2.rs).map rowL).map rotL=RR
  refine wp_seq (wp_set (d:=.int (ns.getD (1:Int).toNat 0 % 10 ^ 50)) (ev_mod (ev_call (ev_cons rfl (ev_cons rfl rfl)) (cell_at _ _ (by decide))) pow50 (by decide)) ?_)
  walk_at "st"
  have rest:∀ M:Int,Wp (sSeq (sSet 7 (dLst (dComp 1 [1,6] (dRg1 (dF1 lenD (dVar 1))) (gN true 0) (dT (dLt (dIx (dIx (dVar 1) (dVar 0)) (dC (.int 0))) (dVar 2))) (dVarI 0))))
 (sSeq (sSet 8 (dLst (dComp 1 [7] (asL (dCall F_tail_plan (dCons (dLst (dComp 1 [1] (asL (dVarI 7)) (gN true 0) dTrue (dLst (dLof (dIx (dVarI 1) (dVar 0)))))) dNil))) (gN true 0) dTrue (dLst (dCons (dC (.int 0)) (dCons (dIx (dVarI 1) (dIx (dVar 0) (dC (.int 1)))) (dCons (dIx (dVarI 0) (dC (.int 2))) (dCons (dIx (dVarI 0) (dC (.int 3))) dNil))))))))
 (sRet (dAndV (dEq false (dVar 2) (dVar 1)) (dEq false (dCall F_l_till (dCons (dVarI 8) (dCons (dVar 6) dNil))) (dCall F_l_till (dCons (dVarI 3) (dCons (dVar 6) dNil))))))))
      [.bo (.scr ns),.pu (worksD W),.pu (worksD W),.pu (.lst ((grp st2.rs).map rowR)),.om RR,.un,.pu (.int M),.un,.un] { nx:=fun _=>D.non=.bl true,rt:=fun x=>x=.bl true }:=by
    intro M
    obtain ⟨b,rb,fb,eB⟩:=tail_plan (early_ok ok M)
    have gb:=rb.g (early_ok ok M)
    have same:=early_same ok M hr2 hz2 rb fb
    refine wp_seq (wp_set (d:=.lst ((fw W M).map natD)) (ev_lst (ev_compA natD (xs:=List.range W.length) (by
      rw [ev_rg1 (elen _ rfl) ⟨by omega,by omega⟩,Int.toNat_natCast]
      refine congrArg some (List.ext_getElem? fun j=>?_)
      by_cases hj:j<W.length
      · rw [List.getElem?_map,List.getElem?_range hj]
        cases e:(upL 0 W.length)[j]? with
        | none =>
          have:=List.getElem?_eq_none_iff.mp e
          rw [upL_len] at this; omega
        | some d =>
          obtain ⟨_,rfl⟩:=upL_at e
          rw [show (0:Int)+(j:Int)=(j:Int) by omega]; rfl
      · rw [List.getElem?_eq_none (by rw [upL_len]; omega),List.getElem?_eq_none (by rw [List.length_map,List.length_range]; omega)]) (fun k=>decide (come W k<M)) natD fun k hk=>⟨_,rfl,ev_t (ev_lt (cell0 (List.mem_range.mp hk) rfl rfl) rfl),fun _=>rfl⟩)) ?_)
    walk_at "st"
    have eW2:∀ ρ:Rho,dVarI 7 ρ=some (.lst ((fw W M).map natD))→r0 1 [1] ρ=[.un,.pu (worksD W)]→dLst (dComp 1 [1] (asL (dVarI 7)) (gN true 0) dTrue (dLst (dLof (dIx (dVarI 1) (dVar 0))))) ρ=some (worksD (early W M)):=fun ρ h h0=>by
      refine ev_lst ?_
      rw [ev_compA0 natD (ev_asL h rfl) (fun k=>D.lst (rowZ (W.getD k (0,0,0)))) fun k hk=>⟨[.pu (natD k),.pu (worksD W)],by rw [h0]; rfl,ev_lst (ev_lof (ev_ix rfl rfl (ixL (works_get (fw_mem.mp hk).1))) rfl)⟩]
      unfold early
      rw [List.map_map]
      rfl
    obtain ⟨g1,_⟩:=grp_ends b.rs fun r hr=>(gb.rows r hr).2.1
    have gbb:=grp_b fun r hr=>(gb.rows r hr).1
    refine wp_seq (wp_set (d:=.lst (((grp b.rs).map (mpR (fz W M))).map rowR)) (ev_lst ?_) ?_)
    · rw [List.map_map]
      refine ev_compA0 rowR (ev_asL (ev_call (ev_cons (eW2 _ rfl rfl) rfl) eB) rfl) (fun r=>rowR (mpR (fz W M) r)) fun r hr=>⟨_,rfl,?_⟩
      obtain ⟨_,q,hq,ew,_⟩:=g1 r hr
      obtain ⟨i,hi,ei⟩:=(gb.rows q hq).2.2.2.2
      have e1:r.w=(i:Int):=by omega
      have b0:=gbb r hr
      have hi2:i<(fw W M).length:=by rw [← early_len]; exact hi
      have e2:((fw W M).map natD)[i]?=some (.int (fz W M r.w)):=by
        unfold fz fi
        rw [e1,Int.toNat_natCast,List.getElem?_map,List.getD_eq_getElem?_getD,List.getElem?_eq_getElem hi2]
        rfl
      have e3:rowR (mpR (fz W M) r)=.lst [.int 0,.int (fz W M r.w),.int r.s,.int r.e]:=by show D.lst [.int r.b,_,_,_]=_; rw [b0]; rfl
      rw [e3]
      exact ev_lst (ev_cons rfl (ev_cons (ev_ix rfl (ev_ix rfl rfl (by show _=some (D.int (i:Int)); rw [← e1]; rfl)) (ixL e2)) (ev_cons (ev_ix rfl rfl rfl) (ev_cons (ev_ix rfl rfl rfl) rfl))))
    · walk_at "st"
      refine wp_ret (d:=.bl true) (ev_andV (x:=true) (y:=true) (ev_eqSame rfl rfl (cmp_works W W)) fun _=>?_) rfl
      refine ev_eqSame (d:=.lst ((cut M (grp st2.rs)).map rowR)) (ev_call (ev_cons rfl (ev_cons rfl rfl)) ?_) (ev_call (ev_cons rfl (ev_cons rfl rfl)) (till _ _)) (cmp_rows _ _)
      rw [till,cut_mp,← same]
  by_cases c:0<ns.getD (1:Int).toNat 0 % 4∧0<W.length
  · refine wp_seq (wp_ifT ?_ ?_)
    · rw [ev_and (ev_t (ev_gt (ev_mod (ev_call (ev_cons rfl (ev_cons rfl rfl)) (cell_at _ _ (by decide))) rfl (by decide)) rfl)) fun _=>ev_t (ev_gt (elen _ rfl) rfl)]
      rw [Option.some.injEq,Bool.and_eq_true,decide_eq_true_iff,decide_eq_true_iff]
      exact ⟨c.1,by omega⟩
    · have q1:=Int.emod_nonneg (mixZ (ns.getD (1:Int).toNat 0) 4) (show (W.length:Int)≠0 by omega)
      have q2:=Int.emod_lt_of_pos (mixZ (ns.getD (1:Int).toNat 0) 4) (show 0<(W.length:Int) by omega)
      obtain ⟨i,hi⟩:∃ i:Nat,mixZ (ns.getD (1:Int).toNat 0) 4 % (W.length:Int)=(i:Int):=⟨(mixZ (ns.getD (1:Int).toNat 0) 4 % (W.length:Int)).toNat,by omega⟩
      refine wp_set (d:=.int (come W i)) (cell0 (by omega) rfl ?_) (rest (come W i))
      rw [← hi]
      exact ev_mod (ev_call (ev_cons (ev_call (ev_cons rfl (ev_cons rfl rfl)) (cell_at _ _ (by decide))) (ev_cons rfl rfl)) (mix _ _ hc (by decide) (by decide))) (elen _ rfl) (by omega)
  · refine wp_seq (wp_ifF ?_ (wp_pass (rest _)))
    rw [ev_and (ev_t (ev_gt (ev_mod (ev_call (ev_cons rfl (ev_cons rfl rfl)) (cell_at _ _ (by decide))) rfl (by decide)) rfl)) fun _=>ev_t (ev_gt (elen _ rfl) rfl)]
    rw [Option.some.injEq,← Bool.not_eq_true,Bool.and_eq_true,decide_eq_true_iff,decide_eq_true_iff]
    exact fun z=>c ⟨z.1,by have:=z.2; omega⟩
instance (priority:=high) tabsI:Tabs:=⟨[((16:Addr),("joined.<locals>.<lambda>" : Str)),((35:Addr),("chosen.<locals>.<lambda>" : Str))]⟩
theorem all_mk {K:PySem.W.Frag} {h:Heap} {mg:Str→Option Value} {fa:Addr} (X:K.In h) (G:h.Ns mainGlobals mg) (hfa:mg "law" = some (.ref fa))
    {f0:Addr} {od0 an0:Option Addr} {sl0:Array (Option Value)} {oc0 kV0 dc0 pm0 cd0 ct0:Value}
    {f1:Addr} {od1 an1:Option Addr} {sl1:Array (Option Value)} {oc1 kV1 dc1 pm1 cd1 ct1:Value}
    {f2:Addr} {od2 an2:Option Addr} {sl2:Array (Option Value)} {oc2 kV2 dc2 pm2 cd2 ct2:Value}
    {f3:Addr} {od3 an3:Option Addr} {sl3:Array (Option Value)} {oc3 kV3 dc3 pm3 cd3 ct3:Value}
    {f4:Addr} {od4 an4:Option Addr} {sl4:Array (Option Value)} {oc4 kV4 dc4 pm4 cd4 ct4:Value}
    {f5:Addr} {od5 an5:Option Addr} {sl5:Array (Option Value)} {oc5 kV5 dc5 pm5 cd5 ct5:Value}
    {f6:Addr} {od6 an6:Option Addr} {sl6:Array (Option Value)} {oc6 kV6 dc6 pm6 cd6 ct6:Value}
    {f7:Addr} {od7 an7:Option Addr} {sl7:Array (Option Value)} {oc7 kV7 dc7 pm7 cd7 ct7:Value}
    {f8:Addr} {od8 an8:Option Addr} {sl8:Array (Option Value)} {oc8 kV8 dc8 pm8 cd8 ct8:Value}
    {f9:Addr} {od9 an9:Option Addr} {sl9:Array (Option Value)} {oc9 kV9 dc9 pm9 cd9 ct9:Value}
    {f10:Addr} {od10 an10:Option Addr} {sl10:Array (Option Value)} {oc10 kV10 dc10 pm10 cd10 ct10:Value}
    {f11:Addr} {od11 an11:Option Addr} {sl11:Array (Option Value)} {oc11 kV11 dc11 pm11 cd11 ct11:Value}
    {f12:Addr} {od12 an12:Option Addr} {sl12:Array (Option Value)} {oc12 kV12 dc12 pm12 cd12 ct12:Value}
    {f13:Addr} {od13 an13:Option Addr} {sl13:Array (Option Value)} {oc13 kV13 dc13 pm13 cd13 ct13:Value}
    {t_BEGIN:Tok}
    {t_BENCH:Tok}
    {t_COME:Tok}
    {t_END:Tok}
    {t_HOURS:Tok}
    {t_TAIL:Tok}
    {t_WORK:Tok}
    (a0:PySem.W.nsIn K mainGlobals "joined" = some (some (.ref f0))) (l0:K.lookup f0=some ⟨oc0,od0,.func (PySem.W.fnOf "joined" "joined" (defArgs s_joined) (defBody s_joined) (defScope s_joined) .none kV0 dc0 pm0 an0 cd0 ct0),sl0⟩) (c0:PySem.W.codeIn K cd0 "joined" = true) (k0:PySem.W.keepIn K (.ref f0)=true)
    (a1:PySem.W.nsIn K mainGlobals "goes_on" = some (some (.ref f1))) (l1:K.lookup f1=some ⟨oc1,od1,.func (PySem.W.fnOf "goes_on" "goes_on" (defArgs s_goes_on) (defBody s_goes_on) (defScope s_goes_on) .none kV1 dc1 pm1 an1 cd1 ct1),sl1⟩) (c1:PySem.W.codeIn K cd1 "goes_on" = true) (k1:PySem.W.keepIn K (.ref f1)=true)
    (a2:PySem.W.nsIn K mainGlobals "tail_plan" = some (some (.ref f2))) (l2:K.lookup f2=some ⟨oc2,od2,.func (PySem.W.fnOf "tail_plan" "tail_plan" (defArgs s_tail_plan) (defBody s_tail_plan) (defScope s_tail_plan) .none kV2 dc2 pm2 an2 cd2 ct2),sl2⟩) (c2:PySem.W.codeIn K cd2 "tail_plan" = true) (k2:PySem.W.keepIn K (.ref f2)=true)
    (a3:PySem.W.nsIn K mainGlobals "chosen" = some (some (.ref f3))) (l3:K.lookup f3=some ⟨oc3,od3,.func (PySem.W.fnOf "chosen" "chosen" (defArgs s_chosen) (defBody s_chosen) (defScope s_chosen) .none kV3 dc3 pm3 an3 cd3 ct3),sl3⟩) (c3:PySem.W.codeIn K cd3 "chosen" = true) (k3:PySem.W.keepIn K (.ref f3)=true)
    (a4:PySem.W.nsIn K mainGlobals "next_coming" = some (some (.ref f4))) (l4:K.lookup f4=some ⟨oc4,od4,.func (PySem.W.fnOf "next_coming" "next_coming" (defArgs s_next_coming) (defBody s_next_coming) (defScope s_next_coming) .none kV4 dc4 pm4 an4 cd4 ct4),sl4⟩) (c4:PySem.W.codeIn K cd4 "next_coming" = true) (k4:PySem.W.keepIn K (.ref f4)=true)
    (a5:PySem.W.nsIn K mainGlobals "_law_mix" = some (some (.ref f5))) (l5:K.lookup f5=some ⟨oc5,od5,.func (PySem.W.fnOf "_law_mix" "_law_mix" (defArgs s_l_mix) (defBody s_l_mix) (defScope s_l_mix) .none kV5 dc5 pm5 an5 cd5 ct5),sl5⟩) (c5:PySem.W.codeIn K cd5 "_law_mix" = true) (k5:PySem.W.keepIn K (.ref f5)=true)
    (a6:PySem.W.nsIn K mainGlobals "_law_whole" = some (some (.ref f6))) (l6:K.lookup f6=some ⟨oc6,od6,.func (PySem.W.fnOf "_law_whole" "_law_whole" (defArgs s_l_whole) (defBody s_l_whole) (defScope s_l_whole) .none kV6 dc6 pm6 an6 cd6 ct6),sl6⟩) (c6:PySem.W.codeIn K cd6 "_law_whole" = true) (k6:PySem.W.keepIn K (.ref f6)=true)
    (a7:PySem.W.nsIn K mainGlobals "_law_cell_at" = some (some (.ref f7))) (l7:K.lookup f7=some ⟨oc7,od7,.func (PySem.W.fnOf "_law_cell_at" "_law_cell_at" (defArgs s_l_cell_at) (defBody s_l_cell_at) (defScope s_l_cell_at) .none kV7 dc7 pm7 an7 cd7 ct7),sl7⟩) (c7:PySem.W.codeIn K cd7 "_law_cell_at" = true) (k7:PySem.W.keepIn K (.ref f7)=true)
    (a8:PySem.W.nsIn K mainGlobals "_law_works" = some (some (.ref f8))) (l8:K.lookup f8=some ⟨oc8,od8,.func (PySem.W.fnOf "_law_works" "_law_works" (defArgs s_l_works) (defBody s_l_works) (defScope s_l_works) .none kV8 dc8 pm8 an8 cd8 ct8),sl8⟩) (c8:PySem.W.codeIn K cd8 "_law_works" = true) (k8:PySem.W.keepIn K (.ref f8)=true)
    (a9:PySem.W.nsIn K mainGlobals "_law_chosen" = some (some (.ref f9))) (l9:K.lookup f9=some ⟨oc9,od9,.func (PySem.W.fnOf "_law_chosen" "_law_chosen" (defArgs s_l_chosen) (defBody s_l_chosen) (defScope s_l_chosen) .none kV9 dc9 pm9 an9 cd9 ct9),sl9⟩) (c9:PySem.W.codeIn K cd9 "_law_chosen" = true) (k9:PySem.W.keepIn K (.ref f9)=true)
    (a10:PySem.W.nsIn K mainGlobals "_law_due" = some (some (.ref f10))) (l10:K.lookup f10=some ⟨oc10,od10,.func (PySem.W.fnOf "_law_due" "_law_due" (defArgs s_l_due) (defBody s_l_due) (defScope s_l_due) .none kV10 dc10 pm10 an10 cd10 ct10),sl10⟩) (c10:PySem.W.codeIn K cd10 "_law_due" = true) (k10:PySem.W.keepIn K (.ref f10)=true)
    (a11:PySem.W.nsIn K mainGlobals "_law_like" = some (some (.ref f11))) (l11:K.lookup f11=some ⟨oc11,od11,.func (PySem.W.fnOf "_law_like" "_law_like" (defArgs s_l_like) (defBody s_l_like) (defScope s_l_like) .none kV11 dc11 pm11 an11 cd11 ct11),sl11⟩) (c11:PySem.W.codeIn K cd11 "_law_like" = true) (k11:PySem.W.keepIn K (.ref f11)=true)
    (a12:PySem.W.nsIn K mainGlobals "_law_till" = some (some (.ref f12))) (l12:K.lookup f12=some ⟨oc12,od12,.func (PySem.W.fnOf "_law_till" "_law_till" (defArgs s_l_till) (defBody s_l_till) (defScope s_l_till) .none kV12 dc12 pm12 an12 cd12 ct12),sl12⟩) (c12:PySem.W.codeIn K cd12 "_law_till" = true) (k12:PySem.W.keepIn K (.ref f12)=true)
    (a13:PySem.W.nsIn K mainGlobals "law" = some (some (.ref f13))) (l13:K.lookup f13=some ⟨oc13,od13,.func (PySem.W.fnOf "law" "law" (defArgs s_law) (defBody s_law) (defScope s_law) .none kV13 dc13 pm13 an13 cd13 ct13),sl13⟩) (c13:PySem.W.codeIn K cd13 "law" = true) (k13:PySem.W.keepIn K (.ref f13)=true)
    (z_any:PySem.W.nsIn K mainGlobals "any" = some none)
    (z_bool:PySem.W.nsIn K mainGlobals "bool" = some none)
    (z_enumerate:PySem.W.nsIn K mainGlobals "enumerate" = some none)
    (z_int:PySem.W.nsIn K mainGlobals "int" = some none)
    (z_isinstance:PySem.W.nsIn K mainGlobals "isinstance" = some none)
    (z_len:PySem.W.nsIn K mainGlobals "len" = some none)
    (z_list:PySem.W.nsIn K mainGlobals "list" = some none)
    (z_max:PySem.W.nsIn K mainGlobals "max" = some none)
    (z_min:PySem.W.nsIn K mainGlobals "min" = some none)
    (z_range:PySem.W.nsIn K mainGlobals "range" = some none)
    (z_set:PySem.W.nsIn K mainGlobals "set" = some none)
    (z_sorted:PySem.W.nsIn K mainGlobals "sorted" = some none)
    (z_sum:PySem.W.nsIn K mainGlobals "sum" = some none)
    (c_BEGIN:PySem.W.nsIn K mainGlobals "BEGIN" = some (some (.int 2 t_BEGIN)))
    (c_BENCH:PySem.W.nsIn K mainGlobals "BENCH" = some (some (.int 0 t_BENCH)))
    (c_COME:PySem.W.nsIn K mainGlobals "COME" = some (some (.int 0 t_COME)))
    (c_END:PySem.W.nsIn K mainGlobals "END" = some (some (.int 3 t_END)))
    (c_HOURS:PySem.W.nsIn K mainGlobals "HOURS" = some (some (.int 1 t_HOURS)))
    (c_TAIL:PySem.W.nsIn K mainGlobals "TAIL" = some (some (.int 2 t_TAIL)))
    (c_WORK:PySem.W.nsIn K mainGlobals "WORK" = some (some (.int 1 t_WORK)))
    (e_joined:cd0=.ref 20) (h_joined:PySem.W.codeHdIn K 20 16=true) (tb_joined:((16:Addr),("joined.<locals>.<lambda>" : Str))∈Tabs.ts)
    (e_chosen:cd3=.ref 37) (h_chosen:PySem.W.codeHdIn K 37 35=true) (tb_chosen:((35:Addr),("chosen.<locals>.<lambda>" : Str))∈Tabs.ts) :
    ∃ a:Adr,Txt K mg a∧a.f_law=fa∧∀ (s:Shared) (v:Value),BindsTo s a.d_law ⟨[v],[]⟩ [("_law_script", v)]:=by
  have e:=hfa.symm.trans (PySem.W.mg_of X G a13)
  cases e
  have F0:=fun_mk (st:=s_joined) l0 c0 k0
  have F1:=fun_mk (st:=s_goes_on) l1 c1 k1
  have F2:=fun_mk (st:=s_tail_plan) l2 c2 k2
  have F3:=fun_mk (st:=s_chosen) l3 c3 k3
  have F4:=fun_mk (st:=s_next_coming) l4 c4 k4
  have F5:=fun_mk (st:=s_l_mix) l5 c5 k5
  have F6:=fun_mk (st:=s_l_whole) l6 c6 k6
  have F7:=fun_mk (st:=s_l_cell_at) l7 c7 k7
  have F8:=fun_mk (st:=s_l_works) l8 c8 k8
  have F9:=fun_mk (st:=s_l_chosen) l9 c9 k9
  have F10:=fun_mk (st:=s_l_due) l10 c10 k10
  have F11:=fun_mk (st:=s_l_like) l11 c11 k11
  have F12:=fun_mk (st:=s_l_till) l12 c12 k12
  have F13:=fun_mk (st:=s_law) l13 c13 k13
  have b0:=F0.binds (ps:=["rows"]) fun _ _ _ _ _ _ us hl=>match us,hl with | [_],_=>rfl
  have b1:=F1.binds (ps:=["row", "later"]) fun _ _ _ _ _ _ us hl=>match us,hl with | [_,_],_=>rfl
  have b2:=F2.binds (ps:=["works"]) fun _ _ _ _ _ _ us hl=>match us,hl with | [_],_=>rfl
  have b3:=F3.binds (ps:=["works", "left", "moment"]) fun _ _ _ _ _ _ us hl=>match us,hl with | [_,_,_],_=>rfl
  have b4:=F4.binds (ps:=["works", "moment"]) fun _ _ _ _ _ _ us hl=>match us,hl with | [_,_],_=>rfl
  have b5:=F5.binds (ps:=["_law_number", "_law_k"]) fun _ _ _ _ _ _ us hl=>match us,hl with | [_,_],_=>rfl
  have b6:=F6.binds (ps:=["_law_found"]) fun _ _ _ _ _ _ us hl=>match us,hl with | [_],_=>rfl
  have b7:=F7.binds (ps:=["_law_script", "_law_k"]) fun _ _ _ _ _ _ us hl=>match us,hl with | [_,_],_=>rfl
  have b8:=F8.binds (ps:=["_law_script"]) fun _ _ _ _ _ _ us hl=>match us,hl with | [_],_=>rfl
  have b9:=F9.binds (ps:=["_law_works_here", "_law_left", "_law_moment"]) fun _ _ _ _ _ _ us hl=>match us,hl with | [_,_,_],_=>rfl
  have b10:=F10.binds (ps:=["_law_works_here"]) fun _ _ _ _ _ _ us hl=>match us,hl with | [_],_=>rfl
  have b11:=F11.binds (ps:=["_law_found", "_law_due_here"]) fun _ _ _ _ _ _ us hl=>match us,hl with | [_,_],_=>rfl
  have b12:=F12.binds (ps:=["_law_rows", "_law_moment"]) fun _ _ _ _ _ _ us hl=>match us,hl with | [_,_],_=>rfl
  have b13:=F13.binds (ps:=["_law_script"]) fun _ _ _ _ _ _ us hl=>match us,hl with | [_],_=>rfl
  exact ⟨⟨f0,_,f1,_,f2,_,f3,_,f4,_,f5,_,f6,_,f7,_,f8,_,f9,_,f10,_,f11,_,f12,_,fa,_,20,16,37,35⟩,⟨F0,b0,PySem.W.mg_of X G a0,F1,b1,PySem.W.mg_of X G a1,F2,b2,PySem.W.mg_of X G a2,F3,b3,PySem.W.mg_of X G a3,F4,b4,PySem.W.mg_of X G a4,F5,b5,PySem.W.mg_of X G a5,F6,b6,PySem.W.mg_of X G a6,F7,b7,PySem.W.mg_of X G a7,F8,b8,PySem.W.mg_of X G a8,F9,b9,PySem.W.mg_of X G a9,F10,b10,PySem.W.mg_of X G a10,F11,b11,PySem.W.mg_of X G a11,F12,b12,PySem.W.mg_of X G a12,F13,b13,PySem.W.mg_of X G a13,e_joined,h_joined,tb_joined,e_chosen,h_chosen,tb_chosen,PySem.W.mg_none_of X G z_any,PySem.W.mg_none_of X G z_bool,PySem.W.mg_none_of X G z_enumerate,PySem.W.mg_none_of X G z_int,PySem.W.mg_none_of X G z_isinstance,PySem.W.mg_none_of X G z_len,PySem.W.mg_none_of X G z_list,PySem.W.mg_none_of X G z_max,PySem.W.mg_none_of X G z_min,PySem.W.mg_none_of X G z_range,PySem.W.mg_none_of X G z_set,PySem.W.mg_none_of X G z_sorted,PySem.W.mg_none_of X G z_sum,⟨_,PySem.W.mg_of X G c_BEGIN⟩,⟨_,PySem.W.mg_of X G c_BENCH⟩,⟨_,PySem.W.mg_of X G c_COME⟩,⟨_,PySem.W.mg_of X G c_END⟩,⟨_,PySem.W.mg_of X G c_HOURS⟩,⟨_,PySem.W.mg_of X G c_TAIL⟩,⟨_,PySem.W.mg_of X G c_WORK⟩⟩,rfl,fun s v=>.of_eq rfl⟩
theorem lookup_in {p:Addr} {q:Str}:∀ {l:List (Addr×Str)},l.lookup p=some q→(p,q)∈l
  | [],h=>by cases h
  | (a,b)::l,h=>by
    rw [List.lookup_cons] at h
    cases e:p==a with
    | true=>rw [e] at h; cases h; rw [beq_iff_eq.mp e]; exact List.mem_cons_self
    | false=>rw [e] at h; exact List.mem_cons_of_mem _ (lookup_in h)
theorem walk {l:PySem.W.OpenLaw} {q:Program} {loose:List Str} {XP:(Str→Option Value)→Heap→Prop} {YP:World→Heap→Prop} {d:DefRec} {K:Params→PySem.W.Frag} (hn:l.most=some 63) (hdf:d.params.defaults=[])
    (hY:∀ (w:World) (h:Heap),YP w h→(K w.params).In h) (hT0:∀ (w:World) (h:Heap),YP w h→h.get? 16=some (PySem.W.tabObj #[])) (hN0:∀ w:World,(K w.params).lookup 16=none) (hC0:∀ w:World,PySem.W.codeHdIn (K w.params) 20 16=true) (hT1:∀ (w:World) (h:Heap),YP w h→h.get? 35=some (PySem.W.tabObj #[])) (hN1:∀ w:World,(K w.params).lookup 35=none) (hC1:∀ w:World,PySem.W.codeHdIn (K w.params) 37 35=true)
    (F:∀ (w:World) (mg:Str→Option Value) (fa:Addr) (h:Heap),(K w.params).In h→h.Ns mainGlobals mg→mg d.name=some (.ref fa)→∃ a:Adr,Txt (K w.params) mg a∧a.f_law=fa∧∀ (s:Shared) (v:Value),BindsTo s a.d_law ⟨[v],[]⟩ [("_law_script", v)]) :
    PySem.W.WalkO q loose XP YP l.row.toRowW d [] (fun f vs=>PySem.call f vs) :=
  L2.walk_ofT (n:=63) (k:=4) (x := "_law_script") (CX:=fun _=>CX0) (sp:=fun w=>sp_law (K w.params)) [((16:Addr),("joined.<locals>.<lambda>" : Str)),((35:Addr),("chosen.<locals>.<lambda>" : Str))] hn (by decide) hdf ⟨rfl,by decide,by decide⟩ hY
    (fun w h Y p q e=>by
      have m:=lookup_in e; simp only [List.mem_cons,Prod.mk.injEq,List.not_mem_nil,or_false] at m; rcases m with ⟨rfl,_⟩ | ⟨rfl,_⟩
      · exact hT0 w h Y
      · exact hT1 w h Y)
    (fun w p q e=>by
      have m:=lookup_in e; simp only [List.mem_cons,Prod.mk.injEq,List.not_mem_nil,or_false] at m; rcases m with ⟨rfl,_⟩ | ⟨rfl,_⟩
      · exact ⟨hN0 w,20,hC0 w⟩
      · exact ⟨hN1 w,37,hC1 w⟩)
    (fun w mg fa h KX G e=>by
      obtain ⟨a,T,rfl,hb⟩:=F w mg fa h KX G e
      exact ⟨a.d_law,hb,fun base kb nb bm=>(ok_law T bm).imp fun vs H Q E h=>sp_law_of law_true h⟩)
    (fun _ H a ns hl hbits ht hS=>⟨a,ns,rfl,hS,hl,hbits,(fun p hp=>by
      have m:p∈([((16:Addr),("joined.<locals>.<lambda>" : Str)),((35:Addr),("chosen.<locals>.<lambda>" : Str))]:List (Addr×Str)):=hp
      simp only [List.mem_cons,List.not_mem_nil,or_false] at m
      rcases m with rfl | rfl
      · exact ⟨0,ht _ _ (by first | rfl | simp)⟩
      · exact ⟨0,ht _ _ (by first | rfl | simp)⟩),fun _=>rfl⟩) fun _ _ _ _ _ z=>z
end My
open PySem PySem.W PyProof.Rows
set_option maxRecDepth 100000 in
set_option maxHeartbeats 0 in
theorem PySem.Challenge.cw_leastfloor_k31_the_bench_moment_by_momen_holds : PySem.Challenge.rw_leastfloor_k31_the_bench_moment_by_momen.Holds := by
  w_on; o_law; k_head; (case hw => w_witness2)
  k_fill
  refine My.walk (l := PySem.Challenge.rw_leastfloor_k31_the_bench_moment_by_momen) rfl rfl (fun w h Y => by first | exact PySem.W.kIn_of Y | exact PySem.W.km_in_of Y) (fun w h Y => PySem.W.km_tabs_of Y _ (by k_mem)) (fun w => by kernel_rfl) (fun w => by kernel_rfl) (fun w h Y => PySem.W.km_tabs_of Y _ (by k_mem)) (fun w => by kernel_rfl) (fun w => by kernel_rfl) ?F
  case F =>
    intro w mg fa h KX G hmg
    refine' My.all_mk KX G hmg ?a0 ?l0 ?c0 ?k0 ?a1 ?l1 ?c1 ?k1 ?a2 ?l2 ?c2 ?k2 ?a3 ?l3 ?c3 ?k3 ?a4 ?l4 ?c4 ?k4 ?a5 ?l5 ?c5 ?k5 ?a6 ?l6 ?c6 ?k6 ?a7 ?l7 ?c7 ?k7 ?a8 ?l8 ?c8 ?k8 ?a9 ?l9 ?c9 ?k9 ?a10 ?l10 ?c10 ?k10 ?a11 ?l11 ?c11 ?k11 ?a12 ?l12 ?c12 ?k12 ?a13 ?l13 ?c13 ?k13 ?z_any ?z_bool ?z_enumerate ?z_int ?z_isinstance ?z_len ?z_list ?z_max ?z_min ?z_range ?z_set ?z_sorted ?z_sum ?c_BEGIN ?c_BENCH ?c_COME ?c_END ?c_HOURS ?c_TAIL ?c_WORK ?e_joined ?h_joined ?tb_joined ?e_chosen ?h_chosen ?tb_chosen
    (case a0 => k_is); (case l0 => k_is); (case c0 => k_is); (case k0 => k_is)
    (case a1 => k_is); (case l1 => k_is); (case c1 => k_is); (case k1 => k_is)
    (case a2 => k_is); (case l2 => k_is); (case c2 => k_is); (case k2 => k_is)
    (case a3 => k_is); (case l3 => k_is); (case c3 => k_is); (case k3 => k_is)
    (case a4 => k_is); (case l4 => k_is); (case c4 => k_is); (case k4 => k_is)
    (case a5 => k_is); (case l5 => k_is); (case c5 => k_is); (case k5 => k_is)
    (case a6 => k_is); (case l6 => k_is); (case c6 => k_is); (case k6 => k_is)
    (case a7 => k_is); (case l7 => k_is); (case c7 => k_is); (case k7 => k_is)
    (case a8 => k_is); (case l8 => k_is); (case c8 => k_is); (case k8 => k_is)
    (case a9 => k_is); (case l9 => k_is); (case c9 => k_is); (case k9 => k_is)
    (case a10 => k_is); (case l10 => k_is); (case c10 => k_is); (case k10 => k_is)
    (case a11 => k_is); (case l11 => k_is); (case c11 => k_is); (case k11 => k_is)
    (case a12 => k_is); (case l12 => k_is); (case c12 => k_is); (case k12 => k_is)
    (case a13 => k_is); (case l13 => k_is); (case c13 => k_is); (case k13 => k_is)
    (case z_any => k_is); (case z_bool => k_is); (case z_enumerate => k_is); (case z_int => k_is)
    (case z_isinstance => k_is); (case z_len => k_is); (case z_list => k_is); (case z_max => k_is)
    (case z_min => k_is); (case z_range => k_is); (case z_set => k_is); (case z_sorted => k_is)
    (case z_sum => k_is); (case c_BEGIN => k_is); (case c_BENCH => k_is); (case c_COME => k_is)
    (case c_END => k_is); (case c_HOURS => k_is); (case c_TAIL => k_is); (case c_WORK => k_is)
    (case e_joined => rfl); (case h_joined => kernel_rfl); (case tb_joined => exact List.mem_cons_self); (case e_chosen => rfl)
    (case h_chosen => kernel_rfl); (case tb_chosen => exact (List.mem_cons_of_mem _ List.mem_cons_self))
#print axioms PySem.Challenge.cw_leastfloor_k31_the_bench_moment_by_momen_holds
