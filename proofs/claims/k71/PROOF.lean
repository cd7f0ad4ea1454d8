import PyProof.Rows.All
import Wide.All
import OpenK.AllK
import Wide.FinOn
import Lean
import PyProof.EqAt
import PyProof.EqKinds
import PyProof.TupleCall
import PySem.Challenge.RW_leastfloor_k71_the_six_kinds
set_option compiler.extract_closed false
set_option Elab.async false
set_option linter.all false
set_option maxRecDepth 100000
namespace L2
open PySem PySem.Spec PyProof.Rows
abbrev Key:=Sum Int Str
def keyIs:Key→Value→Bool
  | .inl k,v=>Value.isInt k v
  | .inr x,v=>Value.isStrOf x v
def keyH (w:World):Key→Int
  | .inl k=>hashInt k
  | .inr x=>hashStr w x
theorem keyIs_shape:∀ {k:Key} {v:Value},keyIs k v=true→(∃ i t,k=Sum.inl i∧v=Value.int i t)∨(∃ x t,k=Sum.inr x∧v=Value.str x t)
  | .inl i,v,h=>by
    obtain ⟨t,e⟩:=Value.isInt_shape (k:=i) (v:=v) h
    exact .inl ⟨i,t,rfl,e⟩
  | .inr x,v,h=>by
    obtain ⟨t,e⟩:=Value.isStrOf_shape (x:=x) (v:=v) h
    exact .inr ⟨x,t,rfl,e⟩
theorem key_ll (a b:Int):decide ((Sum.inl a:Key)=Sum.inl b)=(a==b):=by
  by_cases e:a=b
  · subst e; simp
  · have h:¬ (Sum.inl a:Key)=Sum.inl b:=fun q=>e (Sum.inl.inj q)
    rw [decide_eq_false h]
    exact (beq_eq_false_iff_ne.mpr e).symm
theorem key_rr (a b:Str):decide ((Sum.inr a:Key)=Sum.inr b)=decide (a=b):=by
  by_cases e:a=b
  · subst e; simp
  · have h:¬ (Sum.inr a:Key)=Sum.inr b:=fun q=>e (Sum.inr.inj q)
    rw [decide_eq_false h,decide_eq_false e]
theorem key_lr (a:Int) (b:Str):decide ((Sum.inl a:Key)=Sum.inr b)=false:=decide_eq_false (fun q=>nomatch q)
theorem key_rl (a:Str) (b:Int):decide ((Sum.inr a:Key)=Sum.inl b)=false:=decide_eq_false (fun q=>nomatch q)
def mixKind (prog:Program) (w:World):PySem.KeyKind prog w Key where
  is:=keyIs
  hash:=keyH w
  inj:=fun v a b ha hb=>by
    rcases keyIs_shape ha with ⟨i,t,rfl,rfl⟩ | ⟨x,t,rfl,rfl⟩
    · rcases keyIs_shape hb with ⟨j,u,rfl,e⟩ | ⟨y,u,rfl,e⟩
      · injection e with e1 _; rw [e1]
      · exact nomatch e
    · rcases keyIs_shape hb with ⟨j,u,rfl,e⟩ | ⟨y,u,rfl,e⟩
      · exact nomatch e
      · injection e with e1 _; rw [e1]
  byValue:=fun k v h=>by
    rcases keyIs_shape h with ⟨i,t,rfl,rfl⟩ | ⟨x,t,rfl,rfl⟩ <;> rfl
  pyHash:=fun hv h=>by
    rcases keyIs_shape hv with ⟨i,t,rfl,rfl⟩ | ⟨x,t,rfl,rfl⟩
    · exact wpAny_pyHash_int h
    · exact wpAny_pyHash_str h
  eqBool:=fun hu hv h=>by
    rcases keyIs_shape hu with ⟨i,t,rfl,rfl⟩ | ⟨x,t,rfl,rfl⟩
    · rcases keyIs_shape hv with ⟨j,u,rfl,rfl⟩ | ⟨y,u,rfl,rfl⟩
      · rw [key_ll] at h; exact wpAny_eqBool_int h
      · rw [key_lr] at h; exact SeqAt.EqAt.int_str i t y u _ _ _ _ h
    · rcases keyIs_shape hv with ⟨j,u,rfl,rfl⟩ | ⟨y,u,rfl,rfl⟩
      · rw [key_rl] at h; exact SeqAt.EqAt.str_int x t j u _ _ _ _ h
      · rw [key_rr] at h; exact wpAny_eqBool_str h
  «strs»:=fun k x t v h=>by
    rcases keyIs_shape h with ⟨i,u,rfl,e⟩ | ⟨y,u,rfl,e⟩
    · exact nomatch e
    · injection e with e1 _
      subst e1
      cases v <;> rfl
end L2
namespace L2
open PySem PySem.Spec PyProof.Rows
inductive V where
  | non | bl (b:Bool) | int (i:Int) | str (x:Str) | byt (b:Array UInt8) | flt (b:UInt64) | ref (a:Addr) | ty (n:String)
  deriving DecidableEq
def RelV:V→Value→Prop
  | .non,u=>u=Value.none
  | .bl b,u=>u=Value.bool b
  | .int i,u=>∃ t,u=Value.int i t
  | .str x,u=>∃ t,u=Value.str x t
  | .byt b,u=>∃ t,u=Value.bytes b t
  | .flt b,u=>∃ t,u=Value.float b t
  | .ref a,u=>u=Value.ref a
  | .ty n,u=>u=Value.type n
abbrev Vals:List V→List Value→Prop:=Paired RelV
theorem Vals.length {xs:List V} {us:List Value} (r:Vals xs us):xs.length=us.length:=Paired.length r
theorem Vals.get:∀ {xs:List V} {us:List Value} {i:Nat} {x:V},Vals xs us→xs[i]?=some x→∃ u,us[i]?=some u∧RelV x u
  | _,_,_,_,.nil,e=>by simp at e
  | _,_,0,_,.cons r _,e=>by simp at e; subst e; exact ⟨_,rfl,r⟩
  | _,_,i+1,x,.cons _ t,e=>by
    obtain ⟨u,h1,h2⟩:=Vals.get (i:=i) (x:=x) t (by simpa using e)
    exact ⟨u,by simpa using h1,h2⟩
theorem Vals.append:∀ {xs ys:List V} {us ws:List Value},Vals xs us→Vals ys ws→Vals (xs++ys) (us++ws)
  | _,_,_,_,.nil,s=>s
  | _,_,_,_,.cons r t,s=>.cons r (Vals.append t s)
theorem Vals.take:∀ {xs:List V} {us:List Value} (n:Nat),Vals xs us→Vals (xs.take n) (us.take n)
  | _,_,0,_=>.nil
  | _,_,_+1,.nil=>.nil
  | _,_,n+1,.cons r t=>.cons r (Vals.take n t)
theorem Vals.drop:∀ {xs:List V} {us:List Value} (n:Nat),Vals xs us→Vals (xs.drop n) (us.drop n)
  | _,_,0,r=>r
  | _,_,_+1,.nil=>.nil
  | _,_,n+1,.cons _ t=>Vals.drop n t
def RelO:Option V→Option Value→Prop
  | some v,some u=>RelV v u
  | none,none=>True
  | _,_=>False
def KV {κ:Type}:List (κ×V)→List (κ×Value)→Prop:=Paired fun (p:κ×V) (q:κ×Value)=>p.1=q.1∧RelV p.2 q.2
def kV:Key→V
  | .inl i=>.int i
  | .inr x=>.str x
inductive HO where
  | lst (xs:List V)
  | tup (xs:List V)
  | dK (kvs:List (Key×V)) | dT (kvs:List (List Key×V))
  | set (S:Int→Bool) (n:Nat)
  | ins (C dx:Addr) (fs:List (Str×V))
  | own (x:Addr)
  | xd (fs:List (Str×V))
  | met (f x:Addr)
  | rng (lo hi:Int)
  | frz (o:Obj) (u:HO)
  | tbl (ps:Array Value)
  | ext (φ:Heap→Prop)
abbrev Hp:=Addr→Option HO
def upd (H:Hp) (a:Addr) (o:HO):Hp:=fun b=>if b=a then some o else H b
theorem upd_same {H:Hp} {a:Addr} {o:HO}:upd H a o a=some o:=by unfold upd; rw [if_pos rfl]
theorem upd_ne {H:Hp} {a b:Addr} {o:HO} (h:b≠a):upd H a o b=H b:=by unfold upd; rw [if_neg h]
theorem ne_of_none {H:Hp} {a b:Addr} {o:HO} (h:H a=some o) (h':H b=none):a≠b:=by
  intro e; subst e; rw [h] at h'; cases h'
section
variable (P:Program) (w:World)
def ObjOk (H:Hp) (h:Heap) (a:Addr):HO→Prop
  | .lst xs=>xs.length≤sizeLine∧∃ (its:List Value) (n:Nat),Vals xs its∧h.get? a=some { cls:=.type "list", data:=.seq its.toArray n }
  | .tup xs=>xs.length≤sizeLine∧∃ its:List Value,Vals xs its∧IsTup h a its.toArray
  | .dK kvs=>kvs.length≤sizeLine∧(a==sysModules)=false∧∃ vs,KV kvs vs∧h.DictOf (mixKind P w) a vs
  | .dT kvs=>kvs.length≤sizeLine∧(a==sysModules)=false∧∃ xs:List (List Key×Addr×Value),
      Paired (fun (p:List Key×V) (q:List Key×Addr×Value)=>p.1=q.1∧H q.2.1=some (.tup (p.1.map kV))∧RelV p.2 q.2.2) kvs xs ∧
      ∃ o es ep,h.get? a=some o∧o.ExactDict∧o.data=.dict es ep∧es.toList=xs.map (entryOfKey (tupleKind (mixKind P w)))∧(xs.map (·.1)).Nodup
  | .set S n=>h.SetOf (intKind P w) a S n
  | .ins C dx fs=>H dx=some (.own a)∧fs.length≤1000∧dx≠a∧h.get? a=some (PySem.W.instObj C dx) ∧
      ∃ mA,h.Ns1 dx mA∧(∀ f,RelO (fs.lookup f) (mA f))∧PySem.Within mA (fs.map (·.1))
  | .own _=>∃ o,h.get? a=some o
  | .xd fs=>∃ mA,h.Ns1 a mA∧∀ f,RelO (fs.lookup f) (mA f)
  | .rng lo hi=>∃ t u v,h.get? a=some { cls:=.type "range", data:=.fields #[.int lo t,.int hi u,.int 1 v] }
  | .frz o u=>h.get? a=some o∧ObjOk H h a u
  | .tbl ps=>∃ (q:Str) (t:Tok) (qs:Array Value),ps[0]?=some (.str q t)∧h.get? a=some { cls:=.none,data:=.fields qs }∧TriplesOk qs.toList ∧
      ∀ pos v,codeAmong pos qs.toList=some v→∃ c o u vs t,v=.ref c∧H c=some (.frz o u)∧o.data=.fields vs∧vs[1]?=some (.str q t)
  | .met f x=>h.get? a=some (PySem.W.methodObj (.ref f) (.ref x))
  | .ext φ=>φ h∧(∃ o,h.get? a=some o)∧∀ h1 h2:Heap,φ h1→(∀ o,h1.get? a=some o→h2.get? a=some o)→φ h2
def HOk (H:Hp) (h:Heap):Prop:=∀ a o,H a=some o→ObjOk P w H h a o
end
section
variable {P:Program} {w:World} {H H':Hp} {h h':Heap} {a:Addr} {o:HO}
theorem ObjOk.lt (x:ObjOk P w H h a o):a<h.objs.size:=by
  cases o with
  | lst xs=>obtain ⟨_,_,_,_,e⟩:=x; exact Heap.lt_size e
  | tup xs=>obtain ⟨_,_,_,p⟩:=x; exact p.lt
  | dK kvs=>obtain ⟨_,_,_,_,o,_,_,e,_⟩:=x; exact Heap.lt_size e
  | dT kvs=>obtain ⟨_,_,_,_,o,_,_,e,_⟩:=x; exact Heap.lt_size e
  | set S n=>obtain ⟨o,_,_,_,e,_⟩:=x; exact Heap.lt_size e
  | ins C dx fs=>obtain ⟨_,_,_,e,_⟩:=x; exact Heap.lt_size e
  | own y=>obtain ⟨_,e⟩:=x; exact Heap.lt_size e
  | xd fs=>obtain ⟨_,⟨_,_,_,e,_⟩,_⟩:=x; exact Heap.lt_size e
  | rng lo hi=>obtain ⟨_,_,_,e⟩:=x; exact Heap.lt_size e
  | frz ob u=>obtain ⟨e,_⟩:=x; exact Heap.lt_size e
  | tbl ps=>obtain ⟨_,_,_,_,e,_⟩:=x; exact Heap.lt_size e
  | met f y=>exact Heap.lt_size (show h.get? a=some _ from x)
  | ext φ=>obtain ⟨_,⟨_,e⟩,_⟩:=x; exact Heap.lt_size e
theorem Paired.mapP {α β:Type} {F G:α→β→Prop}:∀ {l₁:List α} {l₂:List β},Paired F l₁ l₂→(∀ a b,F a b→G a b)→Paired G l₁ l₂
  | _,_,.nil,_=>.nil
  | _,_,.cons r t,f=>.cons (f _ _ r) (Paired.mapP t f)
theorem ObjOk.stay (x:ObjOk P w H h a o) (k:∀ b u,(b=a∨H b=some (.own a))→h.get? b=some u→h'.get? b=some u)
    (ho:∀ b,H b=some (.own a)→H' b=some (.own a)) (ht:∀ b xs,H b=some (.tup xs)→H' b=some (.tup xs)) (hz:∀ b o u,H b=some (.frz o u)→H' b=some (.frz o u):=by first | exact fun _ _ _ q=>q | (intro b o u q; rw [upd_ne (ne_of_none q (by assumption))]; exact q)):ObjOk P w H' h' a o:=by
  induction o with
  | lst xs=>obtain ⟨z,its,n,r,e⟩:=x; exact ⟨z,its,n,r,k _ _ (.inl rfl) e⟩
  | tup xs=>obtain ⟨z,its,r,ob,e,c⟩:=x; exact ⟨z,its,r,ob,k _ _ (.inl rfl) e,c⟩
  | dK kvs=>obtain ⟨z,y,vs,r,ob,es,ep,e,c⟩:=x; exact ⟨z,y,vs,r,ob,es,ep,k _ _ (.inl rfl) e,c⟩
  | dT kvs =>
    obtain ⟨z,y,xs,r,ob,es,ep,e,c⟩:=x
    exact ⟨z,y,xs,Paired.mapP r fun p q z=>⟨z.1,ht _ _ z.2.1,z.2.2⟩,ob,es,ep,k _ _ (.inl rfl) e,c⟩
  | set S n=>obtain ⟨ob,es,ep,t,e,c⟩:=x; exact ⟨ob,es,ep,t,k _ _ (.inl rfl) e,c⟩
  | ins C dx fs =>
    obtain ⟨d,z,ne,e,mA,⟨od,es,ep,e2,c⟩,r⟩:=x
    exact ⟨ho _ d,z,ne,k _ _ (.inl rfl) e,mA,⟨od,es,ep,k _ _ (.inr d) e2,c⟩,r⟩
  | own y=>obtain ⟨ob,e⟩:=x; exact ⟨ob,k _ _ (.inl rfl) e⟩
  | xd fs=>obtain ⟨mA,⟨od,es,ep,e,c⟩,r⟩:=x; exact ⟨mA,⟨od,es,ep,k _ _ (.inl rfl) e,c⟩,r⟩
  | rng lo hi=>obtain ⟨t,u,v,e⟩:=x; exact ⟨t,u,v,k _ _ (.inl rfl) e⟩
  | frz ob u ih=>obtain ⟨e,q⟩:=x; exact ⟨k _ _ (.inl rfl) e,ih q⟩
  | tbl ps =>
    obtain ⟨q,t,qs,h0,h1,h2,h3⟩:=x
    refine ⟨q,t,qs,h0,k _ _ (.inl rfl) h1,h2,fun pos v e=>?_⟩
    obtain ⟨c,o,u,vs,t2,e1,e2,e3⟩:=h3 pos v e
    exact ⟨c,o,u,vs,t2,e1,hz _ _ _ e2,e3⟩
  | met f y =>
    have e:h.get? a=some (PySem.W.methodObj (.ref f) (.ref y)):=x
    show h'.get? a=some (PySem.W.methodObj (.ref f) (.ref y))
    exact k a _ (.inl rfl) e
  | ext φ=>obtain ⟨p,⟨o,e⟩,st⟩:=x; exact ⟨st _ _ p fun o q=>k _ _ (.inl rfl) q,⟨o,k _ _ (.inl rfl) e⟩,st⟩
theorem HOk.lt (x:HOk P w H h) (e:H a=some o):a<h.objs.size:=(x a o e).lt
theorem HOk.fresh (x:HOk P w H h) (e:h.objs.size≤a):H a=none:=by
  cases q:H a with
  | none=>rfl
  | some u=>exact absurd (Nat.lt_of_lt_of_le (x.lt q) e) (Nat.lt_irrefl _)
theorem HOk.kept (x:HOk P w H h) (k:∀ b u,h.get? b=some u→h'.get? b=some u):HOk P w H h':=fun a o e =>
  (x a o e).stay (fun b u _ q=>k b u q) (fun _ q=>q) fun _ _ q=>q
theorem HOk.laid (x:HOk P w H h) (k:∀ b u,h.get? b=some u→h'.get? b=some u) (hp:h.objs.size≤a) (new:ObjOk P w (upd H a o) h' a o):HOk P w (upd H a o) h':=fun b u e=>by
  have hn:=x.fresh hp
  by_cases hb:b=a
  · subst hb; rw [upd_same] at e; cases e; exact new
  · rw [upd_ne hb] at e
    exact (x b u e).stay (fun c v _ q=>k c v q) (fun c q=>by rw [upd_ne (ne_of_none q hn)]; exact q) fun c xs q=>by rw [upd_ne (ne_of_none q hn)]; exact q
end
def Rd (H:Hp) (a:Addr) (u:HO):Prop:=H a=some u∨∃ o,H a=some (.frz o u)
theorem Rd.ok {P:Program} {w:World} {H:Hp} {h:Heap} {a:Addr} {u:HO} (r:Rd H a u) (x:HOk P w H h):ObjOk P w H h a u:=by
  rcases r with r | ⟨o,r⟩
  · exact x a u r
  · obtain ⟨_,q⟩:=x a _ r
    exact q
def Mut:Option HO→Prop
  | some (.lst _)=>True
  | some (.dK _)=>True
  | some (.dT _)=>True
  | some (.set _ _)=>True
  | some (.ins _ _ _)=>True
  | some (.ext _)=>True
  | _=>False
section
variable {P:Program} {w:World} {H:Hp} {h h':Heap} {x e:Addr} {o':HO}
theorem HOk.write (ok:HOk P w H h) (mu:Mut (H x)) (he:e=x∨H e=some (.own x)) (k:∀ b u,b≠e→h.get? b=some u→h'.get? b=some u) (heo:∃ u,h'.get? e=some u)
    (new:ObjOk P w (upd H x o') h' x o'):HOk P w (upd H x o') h':=fun b u q=>by
  have nown:∀ c y,H c=some (.own y)→c≠x:=fun c y r z=>by subst z; rw [r] at mu; exact mu
  have ntup:∀ c xs,H c=some (.tup xs)→c≠x:=fun c xs r z=>by subst z; rw [r] at mu; exact mu
  have nfrz:∀ c o u,H c=some (.frz o u)→c≠x:=fun c o u r z=>by subst z; rw [r] at mu; exact mu
  by_cases hb:b=x
  · subst hb; rw [upd_same] at q; cases q; exact new
  · rw [upd_ne hb] at q
    by_cases hbe:b=e
    · have q':H b=some (.own x):=by
        rcases he with z | z
        · exact absurd (hbe.trans z) hb
        · rw [hbe]; exact z
      rw [q] at q'; cases q'
      obtain ⟨v,hv⟩:=heo
      exact ⟨v,by rw [hbe]; exact hv⟩
    · refine (ok b u q).stay (fun c v hc r=>k c v ?_ r) (fun c r=>by rw [upd_ne (nown c b r)]; exact r) (fun c xs r=>by rw [upd_ne (ntup c xs r)]; exact r) fun c o u r=>by rw [upd_ne (nfrz c o u r)]; exact r
      rcases hc with rfl | hc
      · exact hbe
      · rintro rfl
        rcases he with z | z
        · exact nown c b hc z
        · rw [hc] at z; cases z; exact hb rfl
end
structure Un (fs ex:List Addr) (H H':Hp) (h h':Heap):Prop where
  keep:∀ b o,h.get? b=some o→H b=none→b∉fs→b∉ex→h'.get? b=some o
  slot:∀ b o,h.get? b=some o→H b=none→b∈fs→b∉ex→∃ sl,h'.get? b=some { o with slots:=sl }
  free:∀ b o,h.get? b=some o→H b=none→b∉ex→H' b=none
  there:∀ b o,h.get? b=some o→b∉ex→∃ o',h'.get? b=some o'
  tups:∀ b xs,H b=some (.tup xs)→H' b=some (.tup xs)
  frzs:∀ b o u,H b=some (.frz o u)→H' b=some (.frz o u)
  tbls:∀ b ps,H b=some (.tbl ps)→∃ more,H' b=some (.tbl (ps++more))
section
variable {fs fs' ex ex':List Addr} {H H1 H2:Hp} {h h1 h2 h':Heap} {a x e:Addr} {o:HO}
theorem Un.any (u:Un fs ex H H1 h h1) {b:Addr} {ob:Obj} (q:h.get? b=some ob) (n:H b=none) (hx:b∉ex):∃ sl,h1.get? b=some { ob with slots:=sl }:=by
  by_cases hb:b∈fs
  · exact u.slot b ob q n hb hx
  · exact ⟨ob.slots,u.keep b ob q n hb hx⟩
theorem Un.kept (k:∀ b u,h.get? b=some u→h'.get? b=some u):Un fs ex H H h h' :=
  ⟨fun b ob q _ _ _=>k b ob q,fun b ob q _ _ _=>⟨ob.slots,k b ob q⟩,fun _ _ _ n _=>n,fun b ob q _=>⟨ob,k b ob q⟩,fun _ _ q=>q,fun _ _ _ q=>q,fun _ ps q=>⟨#[],by rw [q]; simp⟩⟩
theorem Un.refl:Un fs ex H H h h:=Un.kept fun _ _ q=>q
theorem Un.laid (k:∀ b u,h.get? b=some u→h'.get? b=some u) (hp:h.objs.size≤a) (hn:H a=none):Un fs ex H (upd H a o) h h' where
  keep:=fun b u q _ _ _=>k b u q
  slot:=fun b u q _ _ _=>⟨u.slots,k b u q⟩
  free:=fun b u q n _=>by rw [upd_ne (Nat.ne_of_lt (Nat.lt_of_lt_of_le (Heap.lt_size q) hp))]; exact n
  there:=fun b u q _=>⟨u,k b u q⟩
  tups:=fun b xs q=>by rw [upd_ne (ne_of_none q hn)]; exact q
  frzs:=fun b u xs q=>by rw [upd_ne (ne_of_none q hn)]; exact q
  tbls:=fun b ps q=>⟨#[],by rw [upd_ne (ne_of_none q hn),q]; simp⟩
theorem Un.write (mu:Mut (H x)) (he:e=x∨H e=some (.own x)) (k:∀ b u,b≠e→h.get? b=some u→h'.get? b=some u) (heo:∃ u,h'.get? e=some u):Un fs ex H (upd H x o) h h':=by
  have hx:∀ b,H b=none→b≠x:=fun b n z=>by subst z; rw [n] at mu; exact mu
  have hb:∀ b,H b=none→b≠e:=fun b n z=>by
    subst z
    rcases he with r | r
    · exact hx b n r
    · rw [n] at r; cases r
  have hm:∀ b u,H b=some u→¬ Mut (some u)→b≠x:=fun b u q nm z=>by subst z; rw [q] at mu; exact nm mu
  refine ⟨fun b u q n _ _=>k b u (hb b n) q,fun b u q n _ _=>⟨u.slots,k b u (hb b n) q⟩,fun b u q n _=>by rw [upd_ne (hx b n)]; exact n,fun b u q _=>?_,
    fun b xs q=>by rw [upd_ne (hm b _ q fun z=>z)]; exact q,fun b u xs q=>by rw [upd_ne (hm b _ q fun z=>z)]; exact q,fun b ps q=>⟨#[],by rw [upd_ne (hm b _ q fun z=>z),q]; simp⟩⟩
  by_cases hbe:b=e
  · subst hbe; exact heo
  · exact ⟨u,k b u hbe q⟩
end
def trk (h:Heap) (H:Hp):List Addr:=(List.range h.objs.size).filter fun a=>(H a).isSome
def hidT (h:Heap) (H:Hp):Heap:=PySem.W.hideAll h (trk h H)
theorem hidT_size (h:Heap) (H:Hp):(hidT h H).objs.size=h.objs.size:=PySem.W.hideAll_size _ _
theorem hidT_get {h:Heap} {H:Hp} {b:Addr} {o:Obj} (e:h.get? b=some o) (n:H b=none):(hidT h H).get? b=some o :=
  PySem.W.hideAll_get _ e fun hm=>by
    have q:(H b).isSome=true:=(List.mem_filter.mp hm).2
    rw [n] at q; simp at q
theorem of_hidT {h:Heap} {H:Hp} {b:Addr} {o:Obj} (e:(hidT h H).get? b=some o):h.get? b=some o∧H b=none:=by
  have e':h.get? b=some o:=PySem.W.of_hideAll (trk h H) e
  refine ⟨e',?_⟩
  cases q:H b with
  | none=>rfl
  | some x =>
    have hm:b∈trk h H:=List.mem_filter.mpr ⟨List.mem_range.mpr (Heap.lt_size e'),by simp [q]⟩
    have z:(hidT h H).get? b=none:=PySem.W.hideAll_none (trk h H) hm
    rw [z] at e; cases e
def allNews (g h:Heap) (L:Addr):List (Addr×Obj):=(List.range h.objs.size).filterMap fun a=>if a=L∨(g.get? a).isSome=true then none else (h.get? a).map fun o=>(a,o)
def rest (g h:Heap) (L d:Addr):List (Addr×Obj):=(allNews g h L).filter fun p=>decide (p.1≠d)
end L2
namespace L2
open PySem PySem.Spec PyProof.Rows
structure Mod (K:PySem.W.Frag) (mg:Str→Option Value) (base:Heap):Prop where
  kin:K.In base
  glob:base.Ns mainGlobals mg
  blt:∃ mb,base.Ns builtinsNs mb∧∀ x:Str,x ≠ "__name__" → mb x=bootBuiltins x
  nolimit:base.NoLimit
structure Cx where
  prog:Program
  w:World
  K:PySem.W.Frag
  mg:Str→Option Value
  base:Heap
  A:Around
  N:List Str
  s₀:Shared
  H₀:Hp
  env:Env
  outer:List Env
  stack:List Env
  ex:List Addr
  fn:Str→Bool
  calm:Bool
  pn:List (Addr×Obj)
  xe:Value→Shared→Prop
def frs (l:List Env):List Addr:=l.filterMap (·.frame)
abbrev Cx.fs (X:Cx):List Addr:=frs X.outer
def Vis (sc:Scope) (x:Str):Prop:=sc.names.lookup x=some .local∨sc.names.lookup x=some .cell∨sc.names.lookup x=some .free
def Loc (sc:Scope) (x:Str):Prop:=sc.names.lookup x=some .local∨sc.names.lookup x=some .cell
def Look (env:Env) (h:Heap) (m:Str→Option Value) (x:Str) (u:Value):Prop :=
  (env.kindOf x=some .local∧m x=some u)∨((env.kindOf x=some .cell∨env.kindOf x=some .free)∧∃ c,env.cells.lookup x=some c∧h.IsCell c (some u))
structure Cx.Ok (X:Cx):Prop where
  mod:Mod X.K X.mg X.base
  kind:X.env.scope.kind=.function
  glob:X.env.globals=mainGlobals
  blt:X.env.builtins=builtinsNs
  above:X.s₀.heap.objs.size≤X.env.locals
  inj:∀ x y c,X.env.cells.lookup x=some c→X.env.cells.lookup y=some c→x=y
  has:∀ x,(X.env.kindOf x=some .cell∨X.env.kindOf x=some .free)→∃ c,X.env.cells.lookup x=some c
  cab:∀ x c,X.fn x=true→X.env.cells.lookup x=some c→X.s₀.heap.objs.size≤c
  hd:X.calm=true→X.A.handled=none
  frames:X.A.frames=some X.stack
  stk:X.stack=X.outer∨(X.stack=X.env::X.outer∧X.env.frame=some X.env.locals)
  exf:∀ b∈X.ex,b≠X.env.locals∧∀ x c,X.env.cells.lookup x=some c→c≠b
  bs:∀ b o,X.base.get? b=some o→X.s₀.heap.get? b=some o∧X.H₀ b=none
  bsz:X.base.objs.size≤X.s₀.heap.objs.size
  noex:∀ b o,X.base.get? b=some o→b∉X.ex
  exfs:∀ b∈X.ex,b∉X.fs
  funs:X.s₀.heap.FunFrames X.base X.outer
  frf:∀ b∈X.fs,X.H₀ b=none
structure Inv (X:Cx) (pins:List (Addr×Obj)) (σ:List (Option V)) (H:Hp) (s:Shared):Prop where
  ok:X.Ok
  os:s.os=X.s₀.os
  bare:AllBare s.gens
  base:Un X.fs X.ex X.H₀ H X.s₀.heap s.heap
  loc:∃ m,s.heap.Ns X.env.locals m∧∀ (i:Nat) (x:Str) (v:V),X.N[i]?=some x→σ[i]?=some (some v)→Vis X.env.scope x→∃ u,RelV v u∧Look X.env s.heap m x u
  cell:∀ x c,X.env.cells.lookup x=some c→∃ v,s.heap.IsCell c v
  free:H X.env.locals=none
  freeC:∀ x c,X.env.cells.lookup x=some c→H c=none
  pin:∀ p∈X.pn++pins,s.heap.get? p.1=some p.2∧H p.1=none∧p.1≠X.env.locals∧p.1∉X.fs∧∀ v,p.2.data≠.cell v
  hok:HOk X.prog X.w H s.heap
  len:σ.length=X.N.length
section
variable {X:Cx} {pins:List (Addr×Obj)} {σ:List (Option V)} {H H':Hp} {s:Shared} {h':Heap}
theorem Cx.Ok.nofr (ok:X.Ok) {b:Addr} {o:Obj} (e:X.base.get? b=some o):b∉X.fs:=fun hb=>by
  have:=(ok.funs.mem hb).1
  rw [e] at this; cases this
theorem Inv.bs (I:Inv X pins σ H s):∀ b o,X.base.get? b=some o→s.heap.get? b=some o∧H b=none:=fun b o e =>
  ⟨I.base.keep b o (I.ok.bs b o e).1 (I.ok.bs b o e).2 (I.ok.nofr e) (I.ok.noex b o e),I.base.free b o (I.ok.bs b o e).1 (I.ok.bs b o e).2 (I.ok.noex b o e)⟩
theorem Inv.bk (I:Inv X pins σ H s):∀ b o,X.base.get? b=some o→s.heap.get? b=some o:=fun b o e=>(I.bs b o e).1
theorem Inv.mod (I:Inv X pins σ H s):Mod X.K X.mg X.base:=I.ok.mod
theorem Inv.kIn (I:Inv X pins σ H s):X.K.In s.heap:=I.ok.mod.kin.keeps I.bk
theorem Inv.lt (I:Inv X pins σ H s):X.env.locals<s.heap.objs.size:=let ⟨_,hn,_⟩:=I.loc; hn.lt
theorem Inv.sz (I:Inv X pins σ H s):X.s₀.heap.objs.size≤s.heap.objs.size:=Nat.le_trans I.ok.above (Nat.le_of_lt I.lt)
theorem Inv.nofs (I:Inv X pins σ H s) {a:Addr} (h:s.heap.objs.size≤a):a∉X.fs:=fun hb=>by
  obtain ⟨_,o,ho,_⟩:=I.ok.funs.mem hb
  exact absurd (Nat.lt_of_lt_of_le (Heap.lt_size ho) (Nat.le_trans I.sz h)) (Nat.lt_irrefl _)
theorem Inv.cne (I:Inv X pins σ H s):∀ x c,X.env.cells.lookup x=some c→c≠X.env.locals:=fun x c e z=>by
  obtain ⟨v,o,ho,hd⟩:=I.cell x c e
  obtain ⟨m,⟨o',es,ep,ho',hd',_⟩,_⟩:=I.loc
  rw [z,ho'] at ho; cases ho; rw [hd'] at hd; cases hd
theorem Inv.funs (I:Inv X pins σ H s):s.heap.FunFrames X.base X.outer:=by
  have all:∀ (l:List Env),(∀ b∈frs l,b∈X.fs)→X.s₀.heap.FunFrames X.base l→s.heap.FunFrames X.base l:=by
    intro l
    induction l with
    | nil=>intro _ _; trivial
    | cons env r ih =>
      intro hs hl
      obtain ⟨hk,⟨L,o,hf,hn,ho,hd⟩,hr⟩:=hl
      have hL:L∈X.fs:=hs L (by unfold frs; rw [List.filterMap_cons,hf]; exact List.mem_cons_self)
      obtain ⟨sl,e⟩:=I.base.slot L o ho (I.ok.frf L hL) hL fun z=>I.ok.exfs L z hL
      exact ⟨hk,⟨L,_,hf,hn,e,hd⟩,ih (fun b hb=>hs b (by unfold frs; rw [List.filterMap_cons,hf]; exact List.mem_cons_of_mem _ hb)) hr⟩
  exact all X.outer (fun _ hb=>hb) I.ok.funs
theorem Inv.stack (I:Inv X pins σ H s):s.heap.FunFrames X.base X.stack:=by
  rcases I.ok.stk with e | ⟨e,hf⟩
  · rw [e]; exact I.funs
  · rw [e]
    obtain ⟨m,hn,_⟩:=I.loc
    refine .cons (by rw [I.ok.kind]; decide) hf hn ?_ I.funs
    exact Heap.get?_none_of_le (Nat.le_trans I.ok.bsz I.ok.above)
theorem Inv.stkSub (I:Inv X pins σ H s):∀ b∈frs X.stack,b∈X.env.locals::X.fs:=fun b hb=>by
  rcases I.ok.stk with e | ⟨e,hf⟩
  · rw [e] at hb; exact List.mem_cons_of_mem _ hb
  · rw [e] at hb
    unfold frs at hb
    rw [List.filterMap_cons,hf] at hb
    exact hb
theorem Inv.stkFree (I:Inv X pins σ H s):∀ b∈frs X.stack,H b=none:=fun b hb=>by
  rcases List.mem_cons.mp (I.stkSub b hb) with e | hb
  · rw [e]; exact I.free
  · obtain ⟨_,o,ho,_⟩:=I.ok.funs.mem hb
    exact I.base.free b o ho (I.ok.frf b hb) fun z=>I.ok.exfs b z hb
theorem Inv.step {g':Array GenState} {t':Nat} {d':Drawn} {ch:List Addr} (I:Inv X pins σ H s)
    (hch:∀ b∈ch,(b∈X.ex∨X.s₀.heap.objs.size≤b)∧b≠X.env.locals∧(∀ x c,X.env.cells.lookup x=some c→c≠b)∧∀ p∈X.pn++pins,p.1≠b)
    (keep:∀ b o,b≠X.env.locals→b∉X.fs→b∉ch→s.heap.get? b=some o→H b=none→h'.get? b=some o)
    (slot:∀ b o,b≠X.env.locals→b∈X.fs→b∉ch→s.heap.get? b=some o→H b=none→∃ sl,h'.get? b=some { o with slots:=sl }) (free:∀ b o,b∉ch→s.heap.get? b=some o→H b=none→H' b=none)
    (there:∀ b o,b∉ch→s.heap.get? b=some o→∃ o',h'.get? b=some o')
    (tups:∀ b xs,H b=some (.tup xs)→H' b=some (.tup xs)) (frzs:∀ b o u,H b=some (.frz o u)→H' b=some (.frz o u)) (tbls:∀ b ps,H b=some (.tbl ps)→∃ more,H' b=some (.tbl (ps++more)))
    (ns:∀ m,s.heap.Ns X.env.locals m→h'.Ns X.env.locals m) (hok:HOk X.prog X.w H' h') (hg:AllBare g') :
    Inv X pins σ H' { s with heap:=h',gens:=g',drawn:=d',toks:=t' }:=by
  have neL:∀ b o,X.s₀.heap.get? b=some o→b≠X.env.locals:=fun b o e=>Nat.ne_of_lt (Nat.lt_of_lt_of_le (Heap.lt_size e) I.ok.above)
  have neC:∀ b o,X.s₀.heap.get? b=some o→b∉X.ex→b∉ch:=fun b o e hx hb=>by
    rcases (hch b hb).1 with z | z
    · exact hx z
    · exact absurd (Nat.lt_of_lt_of_le (Heap.lt_size e) z) (Nat.lt_irrefl _)
  have cellK:∀ x c,X.env.cells.lookup x=some c→∀ v,s.heap.IsCell c v→h'.IsCell c v:=fun x c e v ⟨o,ho,hd⟩=>by
    have nch:c∉ch:=fun z=>(hch c z).2.2.1 x c e rfl
    by_cases hc:c∈X.fs
    · obtain ⟨sl,q⟩:=slot c o (I.cne x c e) hc nch ho (I.freeC x c e)
      exact ⟨_,q,hd⟩
    · exact ⟨o,keep c o (I.cne x c e) hc nch ho (I.freeC x c e),hd⟩
  refine ⟨I.ok,I.os,hg,⟨fun b o e n hb hx=>?_,fun b o e n hb hx=>?_,fun b o e n hx=>?_,fun b o e hx=>?_,fun b xs e=>tups b xs (I.base.tups b xs e),fun b o xs e=>frzs b o xs (I.base.frzs b o xs e),fun b ps e=>?_⟩,?_,fun x c e=>?_,?_,fun x c e=>?_,fun p hp=>?_,hok,I.len⟩
  · exact keep b o (neL b o e) hb (neC b o e hx) (I.base.keep b o e n hb hx) (I.base.free b o e n hx)
  · obtain ⟨sl,e1⟩:=I.base.slot b o e n hb hx
    obtain ⟨sl',e2⟩:=slot b _ (neL b o e) hb (neC b o e hx) e1 (I.base.free b o e n hx)
    exact ⟨sl',e2⟩
  · obtain ⟨o',e1⟩:=I.base.there b o e hx
    exact free b o' (neC b o e hx) e1 (I.base.free b o e n hx)
  · obtain ⟨o',e1⟩:=I.base.there b o e hx
    exact there b o' (neC b o e hx) e1
  · obtain ⟨m1,e1⟩:=I.base.tbls b ps e
    obtain ⟨m2,e2⟩:=tbls b _ e1
    exact ⟨m1++m2,by rw [e2,Array.append_assoc]⟩
  · obtain ⟨m,hn,hl⟩:=I.loc
    refine ⟨m,ns m hn,fun i x v e1 e2 e3=>?_⟩
    obtain ⟨u,r,l⟩:=hl i x v e1 e2 e3
    refine ⟨u,r,?_⟩
    rcases l with l | ⟨k,c,e,z⟩
    · exact .inl l
    · exact .inr ⟨k,c,e,cellK x c e _ z⟩
  · obtain ⟨v,z⟩:=I.cell x c e
    exact ⟨v,cellK x c e v z⟩
  · obtain ⟨m,⟨o,_,_,ho,_⟩,_⟩:=I.loc
    exact free _ o (fun z=>(hch _ z).2.1 rfl) ho I.free
  · obtain ⟨v,o,ho,hd⟩:=I.cell x c e
    exact free c o (fun z=>(hch c z).2.2.1 x c e rfl) ho (I.freeC x c e)
  · obtain ⟨e,n,ne,nf,d⟩:=I.pin p hp
    have nch:p.1∉ch:=fun z=>(hch p.1 z).2.2.2 p hp rfl
    exact ⟨keep p.1 p.2 ne nf nch e n,free p.1 p.2 nch e n,ne,nf,d⟩
theorem Inv.un {t':Nat} (I:Inv X pins σ H s) (u:Un X.fs [] H H' s.heap h') (hok:HOk X.prog X.w H' h'):Inv X pins σ H' { s with heap:=h',toks:=t' }:=by
  obtain ⟨m,⟨o,es,ep,ho,r⟩,_⟩:=id I.loc
  obtain ⟨sl,hL⟩:=u.any ho I.free (by simp)
  exact I.step (g':=s.gens) (d':=s.drawn) (ch:=[]) (fun _ z=>nomatch z) (fun b o _ hb _ e n=>u.keep b o e n hb (by simp)) (fun b o _ hb _ e n=>u.slot b o e n hb (by simp)) (fun b o _ e n=>u.free b o e n (by simp)) (fun b o _ e=>u.there b o e (by simp)) u.tups u.frzs u.tbls (fun m' hm=>by
    obtain ⟨o',es',ep',ho',r'⟩:=hm
    rw [ho] at ho'; cases ho'
    exact ⟨_,es',ep',hL,r'⟩) hok I.bare
theorem Inv.call {g':Array GenState} {t':Nat} {d':Drawn} {ch:List Addr} (I:Inv X pins σ H s) (u:Un (frs X.stack) ch H H' s.heap h') (hok:HOk X.prog X.w H' h') (hg:AllBare g')
    (hch:∀ b∈ch,(b∈X.ex∨X.s₀.heap.objs.size≤b)∧b≠X.env.locals∧(∀ x c,X.env.cells.lookup x=some c→c≠b)∧∀ p∈X.pn++pins,p.1≠b) :
    Inv X pins σ H' { s with heap:=h',gens:=g',drawn:=d',toks:=t' }:=by
  obtain ⟨m,⟨o,es,ep,ho,r⟩,_⟩:=id I.loc
  obtain ⟨sl,hL⟩:=u.any ho I.free fun z=>(hch _ z).2.1 rfl
  exact I.step (ch:=ch) hch (fun b o hL hb hc e n=>u.keep b o e n (fun z=>(List.mem_cons.mp (I.stkSub b z)).elim hL hb) hc) (fun b o _ _ hc e n=>u.any e n hc) (fun b o hc e n=>u.free b o e n hc) (fun b o hc e=>u.there b o e hc) u.tups u.frzs u.tbls (fun m' hm=>by
    obtain ⟨o',es',ep',ho',r'⟩:=hm
    rw [ho] at ho'; cases ho'
    exact ⟨_,es',ep',hL,r'⟩) hok hg
theorem Inv.turned {t':Nat} {it:Addr} (I:Inv X pins σ H s) (k:∀ b o,b≠it→s.heap.get? b=some o→h'.get? b=some o) (hn:H it=none) (hL:it≠X.env.locals)
    (h1:it∈X.ex∨X.s₀.heap.objs.size≤it) (h2:∀ x c,X.env.cells.lookup x=some c→c≠it) (h3:∀ p∈X.pn++pins,p.1≠it):Inv X pins σ H { s with heap:=h',toks:=t' }:=by
  have nit:∀ b u,H b=some u→b≠it:=fun b u e z=>by rw [z,hn] at e; cases e
  refine I.step (g':=s.gens) (d':=s.drawn) (ch:=[it]) (fun b hb=>?_) (fun b o _ _ hc e _=>k b o (fun z=>hc (by simp [z])) e) (fun b o _ _ hc e _=>⟨o.slots,k b o (fun z=>hc (by simp [z])) e⟩) (fun _ _ _ _ n=>n)
    (fun b o hc e=>⟨o,k b o (fun z=>hc (by simp [z])) e⟩) (fun _ _ e=>e) (fun _ _ _ e=>e) (fun b ps e=>⟨#[],by rw [e]; simp⟩) (fun m hm=>?_) (fun b u e=>?_) I.bare
  · have e:b=it:=by simpa using hb
    subst e
    exact ⟨h1,hL,h2,h3⟩
  · obtain ⟨o,es,ep,ho,r⟩:=hm
    exact ⟨o,es,ep,k _ o (Ne.symm hL) ho,r⟩
  · refine (I.hok b u e).stay (fun c v hc q=>k c v ?_ q) (fun _ q=>q) fun _ _ q=>q
    rcases hc with z | z
    · rw [z]; exact nit b u e
    · exact nit c _ z
theorem Inv.tok (I:Inv X pins σ H s) (t:Nat):Inv X pins σ H { s with toks:=t }:=I.un (h':=s.heap) (t':=t) Un.refl I.hok
theorem Inv.kept {t':Nat} (I:Inv X pins σ H s) (k:∀ b u,s.heap.get? b=some u→h'.get? b=some u):Inv X pins σ H { s with heap:=h',toks:=t' }:=I.un (Un.kept k) (I.hok.kept k)
theorem Inv.laid {a:Addr} {o:HO} {t':Nat} (I:Inv X pins σ H s) (k:∀ b u,s.heap.get? b=some u→h'.get? b=some u) (hp:s.heap.objs.size≤a) (new:ObjOk X.prog X.w (upd H a o) h' a o) :
    Inv X pins σ (upd H a o) { s with heap:=h',toks:=t' }:=I.un (Un.laid k hp (I.hok.fresh hp)) (I.hok.laid k hp new)
theorem Inv.write {x e:Addr} {o:HO} {t':Nat} (I:Inv X pins σ H s) (mu:Mut (H x)) (he:e=x∨H e=some (.own x)) (k:∀ b u,b≠e→s.heap.get? b=some u→h'.get? b=some u) (heo:∃ u,h'.get? e=some u)
    (new:ObjOk X.prog X.w (upd H x o) h' x o):Inv X pins σ (upd H x o) { s with heap:=h',toks:=t' }:=I.un (Un.write mu he k heo) (I.hok.write mu he k heo new)
theorem Inv.weak {σ':List (Option V)} (I:Inv X pins σ H s) (hl:σ'.length=σ.length) (w:∀ (i:Nat) v,σ'[i]?=some (some v)→σ[i]?=some (some v)):Inv X pins σ' H s :=
  ⟨I.ok,I.os,I.bare,I.base,let ⟨m,hn,hl'⟩:=I.loc; ⟨m,hn,fun i x v e1 e2 e3=>hl' i x v e1 (w i v e2) e3⟩,I.cell,I.free,I.freeC,I.pin,I.hok,hl.trans I.len⟩
theorem Inv.pins_of {pins':List (Addr×Obj)} (I:Inv X pins σ H s) (h:∀ p∈pins',s.heap.get? p.1=some p.2∧H p.1=none∧p.1≠X.env.locals∧p.1∉X.fs∧∀ v,p.2.data≠.cell v):Inv X pins' σ H s :=
  ⟨I.ok,I.os,I.bare,I.base,I.loc,I.cell,I.free,I.freeC,fun p hp=>(List.mem_append.mp hp).elim (fun z=>I.pin p (List.mem_append_left _ z)) (h p),I.hok,I.len⟩
theorem nodup_ix {N:List Str} (hN:N.Nodup) {i j:Nat} {x:Str} (a:N[i]?=some x) (b:N[j]?=some x):i=j:=by
  obtain ⟨h1,e1⟩:=List.getElem?_eq_some_iff.mp a
  obtain ⟨h2,e2⟩:=List.getElem?_eq_some_iff.mp b
  exact (List.getElem_inj hN).mp (e1.trans e2.symm)
theorem store_ok2 {M:Model} {A:Around} {E:Value→Shared→Prop} {i:Nat} {x:Str} {v:V} {u:Value} {Q:Unit→Shared→Prop} (I:Inv X pins σ H s) (hN:X.N.Nodup) (hi:X.N[i]?=some x) (hx:Loc X.env.scope x) (r:RelV v u)
    (h:∀ s',Inv X pins (σ.set i (some v)) H s'→(∃ a,Heap.SameBut a s.heap s'.heap∧(a=X.env.locals∨X.env.cells.lookup x=some a))→Q () s') (hf:X.fn x=true∨X.env.scope.names.lookup x=some .local:=by first | exact .inl rfl | exact .inr rfl | assumption):wpAny M A (storeName X.env x u) Q E s:=by
  obtain ⟨m,hn,hl⟩:=id I.loc
  have hcls:(X.env.scope.kind==.class || (X.env.scope.kind==.module&&X.env.locals != X.env.globals))=false:=by rw [I.ok.kind]; rfl
  have hiσ:i < σ.length:=by rw [I.len]; exact (List.getElem?_eq_some_iff.mp hi).1
  have cne:=I.cne
  have tracked:∀ {a:Addr} {h':Heap},(∃ o,s.heap.get? a=some o∧H a=none)→Heap.SameBut a s.heap h'→HOk X.prog X.w H h':=fun {a h'} ha hs b ob e=>by
    obtain ⟨_,_,hfree⟩:=ha
    refine (I.hok b ob e).stay (fun c w' hc q=>(hs.2 c ?_).trans q) (fun _ q=>q) fun _ _ q=>q
    rintro rfl
    rcases hc with rfl | hc
    · rw [hfree] at e; cases e
    · rw [hfree] at hc; cases hc
  rcases hx with hk | hk
  · refine wpAny_storeName_local hk hn (fun h' hn' hs=>?_) hcls
    obtain ⟨oL,_,_,hoL,_⟩:=id hn
    refine h _ ⟨I.ok,I.os,I.bare,⟨fun b o e n hb hx=>?_,fun b o e n hb hx=>?_,I.base.free,fun b o e hx=>?_,I.base.tups,I.base.frzs,I.base.tbls⟩,⟨_,hn',fun j y v' e1 e2 e3=>?_⟩,fun y c e=>?_,I.free,I.freeC,fun p hp=>?_,tracked ⟨oL,hoL,I.free⟩ hs,by simpa using I.len⟩ ⟨_,hs,.inl rfl⟩
    · exact (hs.2 b (Nat.ne_of_lt (Nat.lt_of_lt_of_le (Heap.lt_size e) I.ok.above))).trans (I.base.keep b o e n hb hx)
    · obtain ⟨sl,e1⟩:=I.base.slot b o e n hb hx
      exact ⟨sl,(hs.2 b (Nat.ne_of_lt (Nat.lt_of_lt_of_le (Heap.lt_size e) I.ok.above))).trans e1⟩
    · obtain ⟨o',e1⟩:=I.base.there b o e hx
      exact ⟨o',(hs.2 b (Nat.ne_of_lt (Nat.lt_of_lt_of_le (Heap.lt_size e) I.ok.above))).trans e1⟩
    · by_cases hj:j=i
      · subst hj
        rw [hi] at e1; cases e1
        rw [List.getElem?_set_self hiσ] at e2
        cases e2
        exact ⟨u,r,.inl ⟨hk,by simp⟩⟩
      · rw [List.getElem?_set_ne (Ne.symm hj)] at e2
        obtain ⟨u',r',q⟩:=hl j y v' e1 e2 e3
        refine ⟨u',r',?_⟩
        rcases q with ⟨k,e⟩ | ⟨k,c,e,z⟩
        · refine .inl ⟨k,?_⟩
          have:y≠x:=fun e=>hj (nodup_ix hN e1 (e ▸ hi))
          simp [this,e]
        · exact .inr ⟨k,c,e,z.sameBut hs (cne y c e)⟩
    · obtain ⟨w',z⟩:=I.cell y c e
      exact ⟨w',z.sameBut hs (cne y c e)⟩
    · obtain ⟨e,n,ne,nf,d⟩:=I.pin p hp
      exact ⟨(hs.2 p.1 ne).trans e,n,ne,nf,d⟩
  · have hfn:X.fn x=true:=by
      rcases hf with z | z
      · exact z
      · rw [z] at hk; cases hk
    obtain ⟨c,hc⟩:=I.ok.has x (.inl hk)
    obtain ⟨w',z⟩:=I.cell x c hc
    refine wpAny_storeName_cell I.ok.kind hk hc z (fun h' hc' hs=>?_)
    obtain ⟨oc,hoc,hocd⟩:=id z
    refine h { s with heap:=h' } ⟨I.ok,I.os,I.bare,⟨fun b o e n hb hx=>?_,fun b o e n hb hx=>?_,I.base.free,fun b o e hx=>?_,I.base.tups,I.base.frzs,I.base.tbls⟩,⟨m,hn.sameBut hs (Ne.symm (cne x c hc)),fun j y v' e1 e2 e3=>?_⟩,fun y c' e=>?_,I.free,I.freeC,fun p hp=>?_,tracked ⟨oc,hoc,I.freeC x c hc⟩ hs,by simpa using I.len⟩ ⟨c,hs,.inr hc⟩
    · exact (hs.2 b (Nat.ne_of_lt (Nat.lt_of_lt_of_le (Heap.lt_size e) (I.ok.cab x c hfn hc)))).trans (I.base.keep b o e n hb hx)
    · obtain ⟨sl,e1⟩:=I.base.slot b o e n hb hx
      exact ⟨sl,(hs.2 b (Nat.ne_of_lt (Nat.lt_of_lt_of_le (Heap.lt_size e) (I.ok.cab x c hfn hc)))).trans e1⟩
    · obtain ⟨o',e1⟩:=I.base.there b o e hx
      exact ⟨o',(hs.2 b (Nat.ne_of_lt (Nat.lt_of_lt_of_le (Heap.lt_size e) (I.ok.cab x c hfn hc)))).trans e1⟩
    · by_cases hj:j=i
      · subst hj
        rw [hi] at e1; cases e1
        rw [List.getElem?_set_self hiσ] at e2
        cases e2
        exact ⟨u,r,.inr ⟨.inl hk,c,hc,hc'⟩⟩
      · rw [List.getElem?_set_ne (Ne.symm hj)] at e2
        obtain ⟨u',r',q⟩:=hl j y v' e1 e2 e3
        refine ⟨u',r',?_⟩
        rcases q with q | ⟨k,c',e,z'⟩
        · exact .inl q
        · refine .inr ⟨k,c',e,z'.sameBut hs ?_⟩
          rintro rfl
          exact hj (nodup_ix hN e1 (I.ok.inj _ _ _ e hc ▸ hi))
    · by_cases hcc:c'=c
      · subst hcc; exact ⟨_,hc'⟩
      · obtain ⟨w2,z2⟩:=I.cell y c' e
        exact ⟨w2,z2.sameBut hs hcc⟩
    · obtain ⟨e,n,ne,nf,d⟩:=I.pin p hp
      refine ⟨(hs.2 p.1 ?_).trans e,n,ne,nf,d⟩
      intro q
      rw [q,hoc] at e
      have q':oc=p.2:=Option.some.inj e
      exact d w' (by rw [← q']; exact hocd)
theorem store_ok {M:Model} {A:Around} {E:Value→Shared→Prop} {i:Nat} {x:Str} {v:V} {u:Value} {Q:Unit→Shared→Prop} (I:Inv X pins σ H s) (hN:X.N.Nodup) (hi:X.N[i]?=some x) (hx:Loc X.env.scope x) (r:RelV v u)
    (h:∀ s',Inv X pins (σ.set i (some v)) H s'→Q () s') (hf:X.fn x=true∨X.env.scope.names.lookup x=some .local:=by first | exact .inl rfl | exact .inr rfl | assumption):wpAny M A (storeName X.env x u) Q E s :=
  store_ok2 I hN hi hx r (fun s' I' _=>h s' I') hf
theorem Inv.call' {s':Shared} {ch:List Addr} (I:Inv X pins σ H s) (ho:s'.os=s.os) (u:Un (frs X.stack) ch H H' s.heap s'.heap) (hok:HOk X.prog X.w H' s'.heap) (hg:AllBare s'.gens)
    (hch:∀ b∈ch,(b∈X.ex∨X.s₀.heap.objs.size≤b)∧b≠X.env.locals∧(∀ x c,X.env.cells.lookup x=some c→c≠b)∧∀ p∈X.pn++pins,p.1≠b):Inv X pins σ H' s':=by
  obtain ⟨h',g',d',t',o'⟩:=s'
  have e:o'=s.os:=ho
  subst e
  exact I.call (g':=g') (t':=t') (d':=d') u hok hg hch
end
abbrev XK:=Value→Option Addr→Hp→Prop
abbrev St:=List (Option V)
abbrev VK:=V→Hp→Prop
abbrev TE:=St→Hp→VK→Prop
abbrev TT:=St→Hp→(Bool→Hp→Prop)→Prop
abbrev TA:=St→Hp→(List V→Hp→Prop)→Prop
structure Ends where
  nx:St→Hp→Prop
  rt:VK
  bk:St→Hp→Prop:=fun _ _=>False
  ct:St→Hp→Prop:=fun _ _=>False
abbrev TS:=Ends→St→Hp→Prop
def EP (X:Cx) (pins:List (Addr×Obj)) (σ:St) (Q:VK) (u:Value) (s':Shared):Prop:=∃ v H',Inv X pins σ H' s'∧RelV v u∧Q v H'
def TP (X:Cx) (pins:List (Addr×Obj)) (σ:St) (Q:Bool→Hp→Prop) (b:Bool) (s':Shared):Prop:=∃ H',Inv X pins σ H' s'∧Q b H'
def AP (X:Cx) (pins:List (Addr×Obj)) (σ:St) (Q:List V→Hp→Prop) (us:List Value) (s':Shared):Prop:=∃ vs H',Inv X pins σ H' s'∧Vals vs us∧Q vs H'
def SP (X:Cx) (pins:List (Addr×Obj)) (D:Ends) (f:Flow) (s':Shared):Prop :=
  match f with
  | .next=>∃ σ' H',Inv X pins σ' H' s'∧D.nx σ' H'
  | .brk=>∃ σ' H',Inv X pins σ' H' s'∧D.bk σ' H'
  | .cont=>∃ σ' H',Inv X pins σ' H' s'∧D.ct σ' H'
  | .ret u=>∃ v σ' H',Inv X pins σ' H' s'∧RelV v u∧D.rt v H'
def PE (X:Cx) (e:Expr) (t:TE):Prop :=
  ∀ (pins:List (Addr×Obj)) (s:Shared) (σ:St) (H:Hp) (Q:VK),Inv X pins σ H s→t σ H Q→wpAny (model X.prog X.w) X.A (eval e X.env) (EP X pins σ Q) X.xe s
def PT (X:Cx) (e:Expr) (t:TT):Prop :=
  ∀ (pins:List (Addr×Obj)) (s:Shared) (σ:St) (H:Hp) (Q:Bool→Hp→Prop),Inv X pins σ H s→t σ H Q→wpAny (model X.prog X.w) X.A (isTrue e X.env (eval e X.env)) (TP X pins σ Q) X.xe s
def PW (X:Cx) (e:Expr) (t:TT):Prop :=
  ∀ (whole:Sem Value) (pins:List (Addr×Obj)) (s:Shared) (σ:St) (H:Hp) (Q:Bool→Hp→Prop),Inv X pins σ H s→t σ H Q→wpAny (model X.prog X.w) X.A (isTrue e X.env whole) (TP X pins σ Q) X.xe s
theorem PW.pt {X:Cx} {e:Expr} {t:TT} (h:PW X e t):PT X e t:=h _
def PA (X:Cx) (es:List Expr) (t:TA):Prop :=
  ∀ (pos:Pos) (pins:List (Addr×Obj)) (s:Shared) (σ:St) (H:Hp) (Q:List V→Hp→Prop),Inv X pins σ H s→t σ H Q→wpAny (model X.prog X.w) X.A (spliced (backTo pos (starEach es X.env))) (AP X pins σ Q) X.xe s
def PS (X:Cx) (st:Stmt) (t:TS):Prop :=
  ∀ (pins:List (Addr×Obj)) (s:Shared) (σ:St) (H:Hp) (D:Ends),Inv X pins σ H s→t D σ H→wpAny (model X.prog X.w) X.A (exec st X.env) (SP X pins D) X.xe s
def PSs (X:Cx) (st:List Stmt) (t:TS):Prop :=
  ∀ (pins:List (Addr×Obj)) (s:Shared) (σ:St) (H:Hp) (D:Ends),Inv X pins σ H s→t D σ H→wpAny (model X.prog X.w) X.A (execs st X.env) (SP X pins D) X.xe s
theorem thn {α:Type} {t:Sem α} {Q Q':α→Shared→Prop} {M:Model} {A:Around} {E:Value→Shared→Prop} {s:Shared} (h:wpAny M A t Q E s) (hQ:∀ a s,Q a s→Q' a s):wpAny M A t Q' E s:=wpAny_mono h hQ fun _ _ x=>x
end L2
namespace L2
open PySem PySem.Spec PyProof.Rows
section
variable {X:Cx}
def tVar (i:Nat):TE:=fun σ H Q=>∃ v,σ[i]?=some (some v)∧Q v H
def tC (v:V):TE:=fun _ H Q=>Q v H
theorem pe_var {i:Nat} {x:Str} {pos:Pos} (hN:X.N[i]?=some x) (hv:Vis X.env.scope x) (hd:(x==("__debug__" : Str))=false:=by decide) (hcd:(x==("__classdict__" : Str))=false:=by decide):PE X (.Name x pos) (tVar i):=by
  intro pins s σ H Q I h
  obtain ⟨v,e,h⟩:=h
  obtain ⟨m,hn,hl⟩:=I.loc
  obtain ⟨u,r,l⟩:=hl i x v hN e hv
  have fin:EP X pins σ Q u s:=⟨v,H,I,r,h⟩
  rcases l with ⟨hk,hm⟩ | ⟨hk,c,hc,hcell⟩
  · exact wpAny_Name (wpAny_loadName_local I.ok.kind hk hn hm fin) hd
  · rcases hk with hk | hk
    · exact wpAny_Name (wpAny_loadName_cell I.ok.kind hk hc hcell fin) hd
    · exact wpAny_Name (wpAny_loadName_free I.ok.kind hk hc hcell fin hcd) hd
theorem pe_int {i j pos}:PE X (.Constant (.int i) j pos) (tC (.int i)):=fun _ _ _ H _ I h=>wpAny_Constant_int ⟨.int i,H,I.tok _,⟨_,rfl⟩,h⟩
theorem pe_bl {b j pos}:PE X (.Constant (.bool b) j pos) (tC (.bl b)):=fun _ _ _ H _ I h=>Constant_bool ⟨.bl b,H,I,rfl,h⟩
theorem pe_non {j pos}:PE X (.Constant .none j pos) (tC .non):=fun _ _ _ H _ I h=>Constant_none ⟨.non,H,I,rfl,h⟩
theorem pe_str {x j pos}:PE X (.Constant (.str x) j pos) (tC (.str x)):=fun _ _ _ H _ I h=>Calls.Constant_str ⟨.str x,H,I.tok _,⟨_,rfl⟩,h⟩
def Gl (X:Cx) (x:Str):Prop:=X.env.kindOf x=some .globalImplicit
theorem ld_glob {E:Value→Shared→Prop} {pins:List (Addr×Obj)} {s:Shared} {σ:St} {H:Hp} {x:Str} {u:Value} {pos:Pos} {Q:Value→Shared→Prop} (I:Inv X pins σ H s) (hg:Gl X x) (hm:X.mg x=some u) (h:Q u s)
    (hd:(x==("__debug__" : Str))=false:=by decide):wpAny (model X.prog X.w) X.A (eval (.Name x pos) X.env) Q E s :=
  Calls.Name_function_global I.ok.kind hg (Calls.loadGlobal_global (by rw [I.ok.glob]; exact I.mod.glob.keeps I.bk) hm h) hd
theorem ld_blt {E:Value→Shared→Prop} {pins:List (Addr×Obj)} {s:Shared} {σ:St} {H:Hp} {x:Str} {u:Value} {pos:Pos} {Q:Value→Shared→Prop} (I:Inv X pins σ H s) (hg:Gl X x) (hm:X.mg x=none) (hv:bootBuiltins x=some u) (h:Q u s)
    (hn:x ≠ "__name__" := by decide) (hd:(x==("__debug__" : Str))=false:=by decide):wpAny (model X.prog X.w) X.A (eval (.Name x pos) X.env) Q E s:=by
  obtain ⟨mb,h1,h2⟩:=I.mod.blt
  exact Calls.Name_function_global I.ok.kind hg (Calls.loadGlobal_builtin (by rw [I.ok.glob]; exact I.mod.glob.keeps I.bk) hm (by rw [I.ok.blt]; exact h1.keeps I.bk) ((h2 x hn).trans hv) h) hd
theorem pe_glob {x:Str} {v:V} {u:Value} {pos:Pos} (hg:Gl X x) (hm:X.mg x=some u) (r:RelV v u) (hd:(x==("__debug__" : Str))=false:=by decide):PE X (.Name x pos) (tC v) :=
  fun _ _ _ H _ I h=>ld_glob I hg hm ⟨v,H,I,r,h⟩ hd
theorem pe_bltn {x:Str} {v:V} {u:Value} {pos:Pos} (hg:Gl X x) (hm:X.mg x=none) (hv:bootBuiltins x=some u) (r:RelV v u) (hn:x ≠ "__name__" := by decide) (hd:(x==("__debug__" : Str))=false:=by decide):PE X (.Name x pos) (tC v) :=
  fun _ _ _ H _ I h=>ld_blt I hg hm hv ⟨v,H,I,r,h⟩ hn hd
variable {a b:Expr} {ta tb:TE} {pos:Pos}
variable {tA tB':TT} {rest:List Expr}
def tOr (t u:TT):TT:=fun σ H Q=>t σ H fun c H1=>if c=true then Q true H1 else u σ H1 Q
def tNot (t:TT):TT:=fun σ H Q=>t σ H fun c H1=>Q (!c) H1
theorem pw_or1 (ha:PT X a tA):PW X (.BoolOp .Or [a] pos) tA:=by
  intro wh pins s σ H Q I h
  refine isTrue_or (thn (ha pins s σ H Q I h) fun c s1 e=>?_)
  cases c with
  | false=>exact isTrue_or_nil e
  | true=>exact e
theorem pw_or (ha:PT X a tA) (hb:PW X (.BoolOp .Or (b::rest) pos) tB'):PW X (.BoolOp .Or (a::b::rest) pos) (tOr tA tB'):=by
  intro wh pins s σ H Q I h
  refine isTrue_or (thn (ha pins s σ H _ I h) fun c s1 ⟨H1,I1,q1⟩=>?_)
  cases c with
  | true=>exact ⟨H1,I1,q1⟩
  | false=>exact hb wh pins s1 σ H1 Q I1 q1
theorem pt_not (ha:PT X a tA):PT X (.UnaryOp .Not a pos) (tNot tA):=by
  intro pins s σ H Q I h
  exact isTrue_not (ha pins s σ H (fun c H1=>Q (!c) H1) I h)
def tAndV (ta tb:TE):TE:=fun σ H Q=>ta σ H fun x H1=>∃ c,x=.bl c∧if c=true then tb σ H1 Q else Q (.bl false) H1
theorem pe_one {op} {t:TE} (h:PE X a t):PE X (.BoolOp op [a] pos) t:=fun pins s σ H Q I hw=>BoolOp_one (h pins s σ H Q I hw)
theorem pe_and (ha:PE X a ta) (hb:PE X (.BoolOp .And (b::rest) pos) tb):PE X (.BoolOp .And (a::b::rest) pos) (tAndV ta tb):=by
  intro pins s σ H Q I h
  refine BoolOp_and (thn (ha pins s σ H _ I h) fun v s1 ⟨x,H1,I1,r1,q1⟩=>?_)
  obtain ⟨c,rfl,q1⟩:=q1
  cases r1
  refine wpAny_truthy_bool ?_
  cases c with
  | true=>exact hb pins s1 σ H1 Q I1 q1
  | false=>exact ⟨.bl false,H1,I1,rfl,q1⟩
end
end L2
namespace L2
open PySem PySem.Spec PyProof.Rows
def SqL (K:PySem.W.Frag) (H:Hp) (a:Addr) (xs:List V):Prop :=
  Rd H a (.lst xs) ∨
    ∃ (o:Obj) (its:Array Value) (n:Nat),K.lookup a=some o∧o.cls=.type "list" ∧ o.dict=none∧o.data=.seq its n∧its.size≤sizeLine∧Vals xs its.toList
def SqT (K:PySem.W.Frag) (H:Hp) (a:Addr) (xs:List V):Prop :=
  Rd H a (.tup xs) ∨
    ∃ (o:Obj) (its:Array Value) (n:Nat),K.lookup a=some o∧o.cls=.type "tuple" ∧ o.data=.seq its n∧its.size≤sizeLine∧Vals xs its.toList
def absV:Value→Option V
  | .none=>some .non
  | .bool b=>some (.bl b)
  | .int i _=>some (.int i)
  | .str x _=>some (.str x)
  | .bytes b _=>some (.byt b)
  | .float b _=>some (.flt b)
  | .ref a=>some (.ref a)
  | .type n=>some (.ty n)
  | _=>none
theorem RelV.abs {x:V} {u:Value} (r:RelV x u):absV u=some x:=by
  cases x with
  | non=>cases r; rfl
  | bl _=>cases r; rfl
  | int _=>obtain ⟨t,rfl⟩:=r; rfl
  | str _=>obtain ⟨t,rfl⟩:=r; rfl
  | byt _=>obtain ⟨t,rfl⟩:=r; rfl
  | flt _=>obtain ⟨t,rfl⟩:=r; rfl
  | ref _=>cases r; rfl
  | ty _=>cases r; rfl
theorem RelV.inj {x y:V} {u:Value} (r:RelV x u) (q:RelV y u):x=y:=Option.some.inj (r.abs.symm.trans q.abs)
theorem Vals.inj:∀ {xs ys:List V} {us:List Value},Vals xs us→Vals ys us→xs=ys
  | _,_,_,.nil,.nil=>rfl
  | _,_,_,.cons r t,.cons r' t'=>by rw [r.inj r',Vals.inj t t']
section
variable {X:Cx} {pins:List (Addr×Obj)} {σ:St} {H:Hp} {s:Shared} {a:Addr} {xs ys:List V}
theorem SqL.of {K:PySem.W.Frag} (h:H a=some (.lst xs)):SqL K H a xs:=.inl (.inl h)
theorem Inv.list (I:Inv X pins σ H s) (h:SqL X.K H a xs):∃ its:List Value,Vals xs its∧PlainL s.heap a its.toArray∧xs.length≤sizeLine:=by
  rcases h with h | ⟨o,its,n,hk,hc,hd,hs,hz,r⟩
  · obtain ⟨z,its,n,r,e⟩:=h.ok I.hok
    exact ⟨its,r,⟨_,n,e,rfl,rfl,rfl⟩,z⟩
  · refine ⟨its.toList,r,⟨o,n,I.kIn a o hk,hc,hd,by simpa using hs⟩,?_⟩
    have e:=r.length
    simp only [Array.length_toList] at e
    omega
theorem Inv.tuple (I:Inv X pins σ H s) (h:SqT X.K H a xs):∃ its:List Value,Vals xs its∧IsTup s.heap a its.toArray∧xs.length≤sizeLine:=by
  rcases h with h | ⟨o,its,n,hk,hc,hs,hz,r⟩
  · obtain ⟨z,its,r,p⟩:=h.ok I.hok
    exact ⟨its,r,p,z⟩
  · refine ⟨its.toList,r,⟨o,I.kIn a o hk,hc,n,by simpa using hs⟩,?_⟩
    have e:=r.length
    simp only [Array.length_toList] at e
    omega
theorem Inv.list_inj (I:Inv X pins σ H s) (h:SqL X.K H a xs) (h':SqL X.K H a ys):xs=ys:=by
  obtain ⟨its,r,⟨o,n,e,_,_,d⟩,_⟩:=I.list h
  obtain ⟨its',r',⟨o',n',e',_,_,d'⟩,_⟩:=I.list h'
  rw [e] at e'; cases e'
  rw [d] at d'
  injection d' with d1 _
  have:its=its':=by simpa using congrArg Array.toList d1
  subst this
  exact r.inj r'
end
abbrev Cx.wish (X:Cx) (E:Value→Shared→Prop):Cx:={ X with xe:=E }
abbrev Cx.nox (X:Cx):Cx:=X.wish fun _ _=>False
theorem Cx.Ok.wish {X:Cx} (ok:X.Ok) (E:Value→Shared→Prop):(X.wish E).Ok :=
  ⟨ok.mod,ok.kind,ok.glob,ok.blt,ok.above,ok.inj,ok.has,ok.cab,ok.hd,ok.frames,ok.stk,ok.exf,ok.bs,ok.bsz,ok.noex,ok.exfs,ok.funs,ok.frf⟩
theorem Cx.Ok.unwish {X:Cx} {E:Value→Shared→Prop} (ok:(X.wish E).Ok):X.Ok :=
  ⟨ok.mod,ok.kind,ok.glob,ok.blt,ok.above,ok.inj,ok.has,ok.cab,ok.hd,ok.frames,ok.stk,ok.exf,ok.bs,ok.bsz,ok.noex,ok.exfs,ok.funs,ok.frf⟩
section
variable {X:Cx} {pins:List (Addr×Obj)} {σ:St} {H:Hp} {s:Shared} {E:Value→Shared→Prop}
theorem Inv.wish (I:Inv X pins σ H s) (E:Value→Shared→Prop):Inv (X.wish E) pins σ H s:=⟨I.ok.wish E,I.os,I.bare,I.base,I.loc,I.cell,I.free,I.freeC,I.pin,I.hok,I.len⟩
theorem Inv.unwish (I:Inv (X.wish E) pins σ H s):Inv X pins σ H s:=⟨I.ok.unwish,I.os,I.bare,I.base,I.loc,I.cell,I.free,I.freeC,I.pin,I.hok,I.len⟩
theorem SP.unwish {D:Ends} {f:Flow} {s':Shared} (h:SP (X.wish E) pins D f s'):SP X pins D f s':=by
  cases f with
  | next=>obtain ⟨σ',H',I,q⟩:=h; exact ⟨σ',H',I.unwish,q⟩
  | brk=>obtain ⟨σ',H',I,q⟩:=h; exact ⟨σ',H',I.unwish,q⟩
  | cont=>obtain ⟨σ',H',I,q⟩:=h; exact ⟨σ',H',I.unwish,q⟩
  | ret u=>obtain ⟨v,σ',H',I,r,q⟩:=h; exact ⟨v,σ',H',I.unwish,r,q⟩
theorem PSs.nox {st:List Stmt} {t:TS} (h:PSs X.nox st t):PSs X st t:=fun pins s σ H D I hw =>
  wpAny_mono (h pins s σ H D (I.wish _) hw) (fun _ _ q=>q.unwish) fun _ _ z=>False.elim z
end
section
variable {X:Cx} {st:Stmt} {rest:List Stmt} {t u:TS} {e:Expr} {te:TE} {pos:Pos}
def tNext:TS:=fun D σ H=>D.nx σ H
def tSeq (t u:TS):TS:=fun D σ H=>t { D with nx:=u D } σ H
theorem pss_nil:PSs X [] tNext:=fun _ _ σ H _ I h=>wpAny_execs_nil ⟨σ,H,I,h⟩
theorem pss_cons (h1:PS X st t) (h2:PSs X rest u):PSs X (st::rest) (tSeq t u):=by
  intro pins s σ H D I h
  refine wpAny_execs_cons (thn (h1 pins s σ H { D with nx:=u D } I h) fun f s1 q=>?_)
  cases f with
  | next =>
    obtain ⟨σ',H',I',q⟩:=q
    exact h2 pins s1 σ' H' D I' q
  | ret v=>exact q
  | brk=>exact q
  | cont=>exact q
theorem pss_one (h1:PS X st t):PSs X [st] t:=by
  intro pins s σ H D I h
  refine wpAny_execs_cons (thn (h1 pins s σ H D I h) fun f s1 q=>?_)
  cases f with
  | next=>exact wpAny_execs_nil q
  | ret v=>exact q
  | brk=>exact q
  | cont=>exact q
theorem Inv.quiet {pins:List (Addr×Obj)} {σ:St} {H:Hp} {s:Shared} (I:Inv X pins σ H s):interactive X.env=false:=by simp [interactive,I.ok.kind]
def tDrop (te:TE):TS:=fun D σ H=>te σ H fun _ H1=>D.nx σ H1
theorem ps_expr (he:PE X e te) (hs:swapsWith e none pos.line X.env=pure false:=by rfl):PS X (.Expr e pos) (tDrop te):=by
  intro pins s σ H D I h
  exact wpAny_Expr_any (thn (he pins s σ H _ I h) fun v s1 ⟨x,H1,I1,r1,q1⟩=>⟨σ,H1,I1,q1⟩) I.quiet hs
def tRet (te:TE):TS:=fun D σ H=>te σ H D.rt
theorem ps_ret (he:PE X e te):PS X (.Return (some e) pos) (tRet te):=by
  intro pins s σ H D I h
  exact wpAny_Return_some (thn (he pins s σ H _ I h) fun v s1 ⟨x,H1,I1,r1,q1⟩=>⟨x,σ,H1,I1,r1,q1⟩)
def tIfS (c:TT) (t u:TS):TS:=fun D σ H=>c σ H fun b H1=>if b=true then t D σ H1 else u D σ H1
theorem ps_if {c:Expr} {a b:List Stmt} {tc:TT} (hc:PT X c tc) (ha:PSs X a t) (hb:PSs X b u):PS X (.If c a b pos) (tIfS tc t u):=by
  intro pins s σ H D I h
  refine wpAny_If (thn (hc pins s σ H _ I h) fun d s1 ⟨H1,I1,q1⟩=>?_)
  cases d with
  | true=>exact ha pins s1 σ H1 D I1 q1
  | false=>exact hb pins s1 σ H1 D I1 q1
def tNever:TS:=fun _ _ _=>False
theorem ps_never:PS X st tNever:=fun _ _ _ _ _ _ h=>h.elim
end
abbrev TG:=V→St→Hp→(St→Hp→Prop)→Prop
def PG (X:Cx) (target:Expr) (t:TG):Prop :=
  ∀ (pins:List (Addr×Obj)) (s:Shared) (σ:St) (H:Hp) (v:V) (u:Value) (Q:St→Hp→Prop),Inv X pins σ H s→RelV v u→t v σ H Q →
    wpAny (model X.prog X.w) X.A (assign target X.env u) (fun _ s'=>∃ σ' H',Inv X pins σ' H' s'∧Q σ' H') X.xe s
section
variable {X:Cx} {pos:Pos}
def gName (i:Nat):TG:=fun v σ H Q=>Q (σ.set i (some v)) H
theorem pg_name {i:Nat} {x:Str} (hN:X.N.Nodup) (hi:X.N[i]?=some x) (hx:Loc X.env.scope x) (hf:X.fn x=true∨X.env.scope.names.lookup x=some .local:=by first | exact .inl rfl | exact .inr rfl | assumption):PG X (.Name x pos) (gName i):=by
  intro pins s σ H v u Q I r h
  exact wpAny_assign_Name (store_ok I hN hi hx r (fun s' I'=>⟨_,H,I',h⟩) hf)
def tAsg (te:TE) (g:TG):TS:=fun D σ H=>te σ H fun x H1=>g x σ H1 D.nx
theorem ps_set {i:Nat} {x:Str} {e:Expr} {te:TE} {pos':Pos} (hN:X.N.Nodup) (hi:X.N[i]?=some x) (hx:Loc X.env.scope x) (he:PE X e te) (hs:swapsWith e (some (.Name x pos')) pos.line X.env=pure false:=by rfl) (hf:X.fn x=true∨X.env.scope.names.lookup x=some .local:=by first | exact .inl rfl | exact .inr rfl | assumption) :
    PS X (.Assign [.Name x pos'] e pos) (tAsg te (gName i)):=by
  intro pins s σ H D I h
  refine wpAny_Assign_Name (thn (he pins s σ H _ I h) fun v s1 ⟨y,H1,I1,r1,q1⟩=>?_) hs
  exact store_ok I1 hN hi hx r1 (fun s2 I2=>⟨_,H1,I2,q1⟩) hf
end
section
variable {X:Cx} {pos:Pos}
end
structure It where
  go:Nat→Hp→Prop
  yld:Nat→Hp→V→Hp→Prop
  stop:Nat→Hp→Prop
def FpOk (X:Cx) (pins:List (Addr×Obj)) (H:Hp) (b:Addr):Prop :=
  H b=none∧b≠X.env.locals∧b∉X.fs∧(b∈X.ex∨X.s₀.heap.objs.size≤b)∧(∀ x c,X.env.cells.lookup x=some c→c≠b)∧∀ p∈X.pn++pins,p.1≠b
theorem Inv.fpOk {X:Cx} {pins:List (Addr×Obj)} {σ:St} {H H':Hp} {s:Shared} {b:Addr} (I:Inv X pins σ H s) (hb:s.heap.objs.size≤b) (hn:H' b=none):FpOk X pins H' b:=by
  refine ⟨hn,Nat.ne_of_gt (Nat.lt_of_lt_of_le I.lt hb),I.nofs hb,.inr (Nat.le_trans I.sz hb),fun x c e z=>?_,fun p hp z=>?_⟩
  · obtain ⟨v,q⟩:=I.cell x c e
    exact absurd (Nat.lt_of_lt_of_le q.lt (by rw [z]; exact hb)) (Nat.lt_irrefl _)
  · exact absurd (Nat.lt_of_lt_of_le (Heap.lt_size (I.pin p hp).1) (by rw [z]; exact hb)) (Nat.lt_irrefl _)
structure Turn (P:Program) (w:World) (K:PySem.W.Frag) (tg:Expr) (J:It) (fp:List Addr) (it:Addr) (tn:Nat→Heap→Prop):Prop where
  mem:it∈fp
  obj:∀ i h,tn i h→∀ b∈fp,∃ o,h.get? b=some o∧∀ v,o.data≠.cell v
  keep:∀ i h h',tn i h→(∀ b∈fp,∀ o,h.get? b=some o→h'.get? b=some o)→tn i h'
  item:∀ (X:Cx),X.prog=P→X.w=w→X.K=K→X.calm=true→∀ (i:Nat) (pins:List (Addr×Obj)) (s:Shared) (σ:St) (H:Hp) (E:Value→Shared→Prop),Inv X pins σ H s→(∀ b∈fp,FpOk X pins H b)→tn i s.heap→J.go i H →
    wpAny (model P w) X.A (pyNext (.ref it)) (fun r s1=>∃ u,r=some u ∧
      wpAny (model P w) X.A (letOwnedTupleGo tg (.ref it) u) (fun _ s2=>∃ x H',Inv X pins σ H' s2∧RelV x u∧J.yld i H x H'∧tn (i+1) s2.heap∧∀ b∈fp,H' b=none) E s1) E s
  done:∀ (X:Cx),X.prog=P→X.w=w→X.K=K→X.calm=true→∀ (i:Nat) (pins:List (Addr×Obj)) (s:Shared) (σ:St) (H:Hp) (E:Value→Shared→Prop),Inv X pins σ H s→(∀ b∈fp,FpOk X pins H b)→tn i s.heap→J.stop i H →
    wpAny (model P w) X.A (pyNext (.ref it)) (fun r s1=>r=none∧Inv X pins σ H s1) E s
  self:∀ (A:Around) (i:Nat) (s:Shared) (Q:Value→Shared→Prop) (E:Value→Shared→Prop),tn i s.heap→Q (.ref it) s→wpAny (model P w) A (pyIter (.ref it)) Q E s
abbrev TI:=St→Hp→(It→Hp→Prop)→Prop
def PIE (X:Cx) (pins:List (Addr×Obj)) (σ:St) (tg:Expr) (R:It→Hp→Prop) (itv:Value) (s2:Shared):Prop :=
  ∃ (it:Addr) (fp:List Addr) (tn:Nat→Heap→Prop) (J:It) (H':Hp),itv=.ref it∧Inv X pins σ H' s2∧Turn X.prog X.w X.K tg J fp it tn∧tn 0 s2.heap∧(∀ b∈fp,FpOk X pins H' b)∧R J H'
def PI (X:Cx) (tg iter:Expr) (wi:TI):Prop :=
  ∀ (pins:List (Addr×Obj)) (s:Shared) (σ:St) (H:Hp) (R:It→Hp→Prop),Inv X pins σ H s→wi σ H R →
    wpAny (model X.prog X.w) X.A (eval iter X.env) (fun v s1=>wpAny (model X.prog X.w) X.A (pyIter v) (PIE X pins σ tg R) X.xe s1) X.xe s
theorem go_of {M:Model} {A:Around} {E:Value→Shared→Prop} {s:Shared} {tg:Expr} {it:Addr} {u:Value} {o:Obj} {n:String} {vs:Array Value} {Q:Unit→Shared→Prop} (ho:s.heap.get? it=some o) (hc:o.cls=.type n) (hd:o.data=.fields vs)
    (hn:["enumerate", "zip", "dict_itemiterator", "dict_reverseitemiterator", "odict_iterator", "itertools.zip_longest", "itertools.pairwise"].contains n=false) (hQ:Q () s):wpAny M A (letOwnedTupleGo tg (.ref it) u) Q E s:=by
  unfold letOwnedTupleGo
  cases tg <;> first
    | exact wpAny_pure hQ
    | (cases u <;> first
        | exact wpAny_pure hQ
        | (refine wpAny_bind (wpAny_load ho ?_)
           rw [hc,hd]
           show wpAny M A (if (["enumerate", "zip", "dict_itemiterator", "dict_reverseitemiterator", "odict_iterator", "itertools.zip_longest", "itertools.pairwise"].contains n&&vs[0]?==some (rawInt _))=true then _ else _) Q E s
           rw [if_neg (by intro h; rw [hn,Bool.false_and] at h; cases h)]
           exact wpAny_pure hQ))
def Itl (K:PySem.W.Frag) (a:Addr):It :=
  ⟨fun i H=>∃ xs x,SqL K H a xs∧xs[i]?=some x,fun i H x H'=>H'=H∧∀ xs,SqL K H a xs→xs[i]?=some x,fun i H=>∃ xs,SqL K H a xs∧xs.length≤i⟩
def Itr (lo:Int) (n:Nat):It:=⟨fun i _=>i<n,fun i H x H'=>H'=H∧x=.int (lo+i),fun i _=>n≤i⟩
theorem turn_list {P:Program} {w:World} {K:PySem.W.Frag} {tg:Expr} (a it:Addr):Turn P w K tg (Itl K a) [it] it (fun i h=>h.IsListIter it a i) where
  mem:=by simp
  obj:=fun i h st b hb=>by
    have e:b=it:=by simpa using hb
    subst e
    obtain ⟨o,e,c,d⟩:=st
    exact ⟨o,e,fun v z=>by rw [d] at z; cases z⟩
  keep:=fun i h h' st k=>st.at fun o e=>k it (by simp) o e
  item:=by
    intro X hP hw hK hc i pins s σ H E I hf st hg
    subst hP hw hK
    obtain ⟨xs,x,hq,hx⟩:=hg
    obtain ⟨its,rv,p,hz⟩:=I.list hq
    obtain ⟨u,hu,ru⟩:=rv.get hx
    obtain ⟨f0,f1,f2,f3,f4,f5⟩:=hf it (by simp)
    refine wpAny_pyNext_list_item st p.isList (x:=u) (by simpa using hu) fun h' st' sb=>?_
    have I1:Inv X pins σ H { s with heap:=h' }:=I.turned (t':=s.toks) (fun b o hb e=>(sb.2 b hb).trans e) f0 f1 f3 f4 f5
    obtain ⟨o,e,c,d⟩:=id st'
    exact ⟨u,rfl,go_of (s:={ s with heap:=h' }) e c d (by decide) ⟨x,H,I1,ru,⟨rfl,fun ys hy=>by rw [I.list_inj hy hq]; exact hx⟩,st',fun b hb=>(hf b hb).1⟩⟩
  done:=by
    intro X hP hw hK hc i pins s σ H E I hf st hg
    subst hP hw hK
    obtain ⟨xs,hq,hx⟩:=hg
    obtain ⟨its,rv,p,hz⟩:=I.list hq
    obtain ⟨f0,f1,f2,f3,f4,f5⟩:=hf it (by simp)
    have hl:=rv.length
    exact wpAny_pyNext_list_end (I.ok.hd hc) st p.isList (by simp; omega) fun h' eb=>⟨rfl,I.turned (t':=s.toks) (fun b o hb e=>eb b o hb e) f0 f1 f3 f4 f5⟩
  self:=fun _ _ _ _ _ st h=>wpAny_pyIter_listiter st h
theorem turn_range {P:Program} {w:World} {K:PySem.W.Frag} {tg:Expr} (it:Addr) (lo:Int) (n:Nat):Turn P w K tg (Itr lo n) [it] it (fun i h=>IsRangeIter h it (lo+(i:Nat)*1) ((n:Int)-(i:Nat)) 1) where
  mem:=by simp
  obj:=fun i h st b hb=>by
    have e:b=it:=by simpa using hb
    subst e
    exact ⟨_,st,fun v z=>by
      have z':Data.fields _=Data.cell v:=z
      cases z'⟩
  keep:=fun i h h' st k=>k it (by simp) _ st
  item:=by
    intro X hP hw hK hc i pins s σ H E I hf st hg
    subst hP hw hK
    obtain ⟨f0,f1,f2,f3,f4,f5⟩:=hf it (by simp)
    have W:=Walks.range (prog:=X.prog) (w:=X.w) (I.ok.hd hc) it lo 1 n
    refine W.item i s _ _ hg st fun v h' tk hv st' kk=>?_
    obtain ⟨t,rfl⟩:=hv
    have I1:Inv X pins σ H { s with heap:=h',toks:=tk }:=I.turned (fun b o hb e=>kk b o (by simpa using hb) e) f0 f1 f3 f4 f5
    refine ⟨_,rfl,go_of (s:={ s with heap:=h',toks:=tk }) (n := "range_iterator") st' rfl rfl (by decide) ⟨.int (lo+i),H,I1,⟨t,?_⟩,⟨rfl,rfl⟩,st',fun b hb=>(hf b hb).1⟩⟩
    rw [Int.mul_one]
  done:=by
    intro X hP hw hK hc i pins s σ H E I hf st hg
    subst hP hw hK
    obtain ⟨f0,f1,f2,f3,f4,f5⟩:=hf it (by simp)
    exact wpAny_pyNext_range_end (I.ok.hd hc) st (by have:n≤i:=hg; omega) fun h' eb=>⟨rfl,I.turned (t':=s.toks) (fun b o hb e=>eb b o hb e) f0 f1 f3 f4 f5⟩
  self:=fun _ _ _ _ _ st h=>wpAny_pyIter_rangeiter st h
end L2
namespace L2
open PySem PySem.Spec PyProof.Rows
section
variable {X:Cx} {tg:Expr}
def iList (K:PySem.W.Frag) (tl:TE):TI:=fun σ H R=>tl σ H fun x H1=>∃ a,x=.ref a∧(∃ xs,SqL K H1 a xs)∧R (Itl K a) H1
theorem pi_list {l:Expr} {tl:TE} (hl:PE X l tl):PI X tg l (iList X.K tl):=by
  intro pins s σ H R I h
  refine thn (hl pins s σ H _ I h) fun v s1 ⟨x,H1,I1,r1,q1⟩=>?_
  obtain ⟨a,e,⟨xs,hq⟩,q⟩:=q1
  subst e
  cases r1
  obtain ⟨its,rv,p,hz⟩:=I1.list hq
  refine wpAny_pyIter_list p.isList ?_
  refine ⟨s1.heap.objs.size,[s1.heap.objs.size],_,_,H1,rfl,I1.kept (t':=s1.toks) fun b o e=>Heap.get?_push_of_some _ e,turn_list a _,⟨_,Heap.get?_push_size _ rfl,rfl,rfl⟩,fun b hb=>?_,q⟩
  have e:b=s1.heap.objs.size:=by simpa using hb
  subst e
  exact I1.fpOk (Nat.le_refl _) (I1.hok.fresh (Nat.le_refl _))
theorem range_it {pins:List (Addr×Obj)} {σ:St} {H:Hp} {s:Shared} {R:It→Hp→Prop} {E:Value→Shared→Prop} {lo hi:Int} {t u v:Tok} {tk:Nat} (I:Inv X pins σ H s) (h1:-(2 ^ 62)≤lo) (h2:lo<2 ^ 62) (h3:-(2 ^ 62)≤hi) (h4:hi<2 ^ 62)
    (q:R (Itr lo (hi-lo).toNat) H):wpAny (model X.prog X.w) X.A (pyIter (.ref s.heap.objs.size)) (PIE X pins σ tg R) E { s with heap:=s.heap.push { cls:=.type "range", data:=.fields #[.int lo t,.int hi u,.int 1 v] },toks:=tk }:=by
  refine wpAny_pyIter_range (IsRange.new ..) (small_one h1 h2 h3 h4) ?_
  have I1:Inv X pins σ H { s with heap:=s.heap.push { cls:=.type "range", data:=.fields #[.int lo t,.int hi u,.int 1 v] },toks:=tk }:=I.kept fun b o e=>Heap.get?_push_of_some _ e
  refine ⟨(s.heap.push { cls:=.type "range", data:=.fields #[.int lo t,.int hi u,.int 1 v] }).objs.size,[(s.heap.push { cls:=.type "range", data:=.fields #[.int lo t,.int hi u,.int 1 v] }).objs.size],_,_,H,rfl,
    I1.kept (t':=tk) fun b o e=>Heap.get?_push_of_some _ e,turn_range _ lo (hi-lo).toNat,?_,fun b hb=>?_,q⟩
  · have e1:lo+((0:Nat):Int)*1=lo:=by simp
    have e2:(((hi-lo).toNat:Nat):Int)-((0:Nat):Int)=Builtin.Range.rangeSize lo hi 1:=by rw [rangeSize_one]; split <;> omega
    show IsRangeIter _ _ (lo+((0:Nat):Int)*1) ((((hi-lo).toNat:Nat):Int)-((0:Nat):Int)) 1
    rw [e1,e2]
    exact Heap.get?_push_size _ rfl
  · have e:b=(s.heap.push { cls:=.type "range", data:=.fields #[.int lo t,.int hi u,.int 1 v] }).objs.size:=by simpa using hb
    subst e
    exact I1.fpOk (Nat.le_refl _) (I1.hok.fresh (Nat.le_refl _))
def iRng1 (ta:TA):TI:=fun σ H R=>ta σ H fun vs H1=>∃ j:Int,vs=[.int j]∧-(2 ^ 62)≤j∧j<2 ^ 62∧R (Itr 0 j.toNat) H1
theorem pi_range1 {a:Expr} {ta:TA} {p pos:Pos} (hg:Gl X "range") (hm:X.mg "range" = none) (ha:PA X [a] ta) (hs:starEach [a] X.env=[(false,eval a X.env)]:=by rfl):PI X tg (.Call (.Name "range" p) [a] [] pos) (iRng1 ta):=by
  intro pins s σ H R I h
  refine Call_ (ld_blt I hg hm boot_range (PyProof.Rows.callWith_type1 (thn (ha pos pins s σ H _ I h) fun us s1 ⟨vs,H1,I1,r1,q1⟩=>?_) hs rfl))
  obtain ⟨j,e,q1,q2,q⟩:=q1
  subst e
  cases r1 with
  | cons r rr =>
    cases rr
    obtain ⟨t,rfl⟩:=r
    exact call_range_1 (range_it I1 (by omega) (by omega) q1 q2 (by simpa using q))
def tFor (wi:TI) (g:TG) (tb:TS):TS:=fun D σ H=>wi σ H fun J H1=>∃ W:Nat→Nat→St→Hp→Prop,(∃ m,W 0 m σ H1)∧∀ i m σ H,W i m σ H →
  (J.stop i H∧D.nx σ H)∨(J.go i H∧∃ N:St→Hp→Prop,(∀ σ' H',N σ' H'→∃ m',m'<m∧W (i+1) m' σ' H')∧∀ x H',J.yld i H x H'→g x σ H' fun σ2 H2=>tb { D with nx:=N,ct:=N,bk:=D.nx } σ2 H2)
def pinsAt (fp:List Addr) (h:Heap):List (Addr×Obj):=fp.filterMap fun b=>(h.get? b).map fun o=>(b,o)
theorem mem_pinsAt {fp:List Addr} {h:Heap} {b:Addr} {o:Obj} (hb:b∈fp) (e:h.get? b=some o):(b,o)∈pinsAt fp h:=List.mem_filterMap.mpr ⟨b,hb,by rw [e]; rfl⟩
theorem of_pinsAt {fp:List Addr} {h:Heap} {p:Addr×Obj} (hp:p∈pinsAt fp h):p.1∈fp∧h.get? p.1=some p.2:=by
  obtain ⟨b,hb,e⟩:=List.mem_filterMap.mp hp
  cases q:h.get? b with
  | none=>rw [q] at e; cases e
  | some o =>
    rw [q] at e
    have e':(b,o)=p:=Option.some.inj e
    subst e'
    exact ⟨hb,q⟩
theorem Inv.pinned {pins:List (Addr×Obj)} {σ:St} {H:Hp} {s:Shared} {fp:List Addr} (I:Inv X pins σ H s) (hf:∀ b∈fp,FpOk X pins H b) (ho:∀ b∈fp,∃ o,s.heap.get? b=some o∧∀ v,o.data≠.cell v):Inv X (pins++pinsAt fp s.heap) σ H s :=
  I.pins_of fun p hp=>(List.mem_append.mp hp).elim (fun z=>I.pin p (List.mem_append_right _ z)) fun z=>by
    obtain ⟨hb,e⟩:=of_pinsAt z
    obtain ⟨f0,f1,f2,_⟩:=hf p.1 hb
    obtain ⟨o,e',d⟩:=ho p.1 hb
    rw [e] at e'; cases e'
    exact ⟨e,f0,f1,f2,d⟩
theorem Inv.unpinned {pins pl:List (Addr×Obj)} {σ:St} {H:Hp} {s:Shared} (I:Inv X (pins++pl) σ H s):Inv X pins σ H s:=I.pins_of fun p hp=>I.pin p (List.mem_append_right _ (List.mem_append_left _ hp))
theorem ps_for {iter:Expr} {body:List Stmt} {wi:TI} {g:TG} {tb:TS} {pos:Pos} (hp:PassesOwn (model X.prog X.w) X.A X.env X.xe) (hc:X.calm=true) (hi:PI X tg iter wi) (hg:PG X tg g) (hb:PSs X body tb)
    (hs:∀ x,foldedSetIterable iter X.env x=pure x:=by intro _; rfl):PS X (.For tg iter body [] pos) (tFor wi g tb):=by
  intro pins s σ H D I h
  refine wpAny_For (thn (hi pins s σ H _ I h) fun v s1 h1=>thn h1 fun itv s2 h2=>?_) hs
  obtain ⟨it,fp,tn,J,H2,e,I2,T,st2,f2,W,⟨m0,w0⟩,turn⟩:=h2
  subst e
  have stat:∀ {H':Hp},(∀ b∈fp,H' b=none)→∀ b∈fp,FpOk X pins H' b:=fun hn b hb=>⟨hn b hb,(f2 b hb).2⟩
  refine codeAny_forLoop_any (fun n s'=>∃ i σ' H',Inv X pins σ' H' s'∧tn i s'.heap∧(∀ b∈fp,H' b=none)∧W i n σ' H') ?_ m0 ⟨0,σ,H2,I2,st2,fun b hb=>(f2 b hb).1,w0⟩
  rintro n s3 ⟨i,σ3,H3,I3,st3,fr3,w3⟩
  rcases turn i n σ3 H3 w3 with ⟨stop,qn⟩ | ⟨go,N,hN,step⟩
  · refine wpAny_passesOwn hp (thn (T.done X rfl rfl rfl hc i pins s3 σ3 H3 X.xe I3 (stat fr3) st3 stop) fun r s4 ⟨hr,I4⟩=>?_)
    subst hr
    exact wpAny_execs_nil ⟨σ3,H3,I4,qn⟩
  · refine wpAny_passesOwn hp (thn (T.item X rfl rfl rfl hc i pins s3 σ3 H3 X.xe I3 (stat fr3) st3 go) fun r s4 ⟨u,hr,h4⟩=>?_)
    subst hr
    refine wpAny_passesOwn hp (thn h4 fun _ s5 ⟨x,H5,I5,r5,y5,st5,fr5⟩=>?_)
    have I5':=I5.pinned (stat fr5) (T.obj _ _ st5)
    refine wpAny_passesOwn hp (thn (hg _ s5 σ3 H5 x u _ I5' r5 (step x H5 y5)) fun _ s6 ⟨σ6,H6,I6,q6⟩=>?_)
    refine wpAny_passesOwn hp (thn (hb _ s6 σ6 H6 _ I6 q6) fun f s7 q7=>?_)
    have again:∀ {σ7:St} {H7:Hp},Inv X (pins++pinsAt fp s5.heap) σ7 H7 s7→N σ7 H7→∃ m,m<n∧∃ i σ' H',Inv X pins σ' H' s7∧tn i s7.heap∧(∀ b∈fp,H' b=none)∧W i m σ' H':=fun {σ7 H7} I7 n7=>by
      obtain ⟨m',hm,w7⟩:=hN σ7 H7 n7
      refine ⟨m',hm,i+1,σ7,H7,I7.unpinned,T.keep _ _ _ st5 fun b hb o e=>(I7.pin (b,o) (List.mem_append_right _ (List.mem_append_right _ (mem_pinsAt hb e)))).1,fun b hb=>?_,w7⟩
      obtain ⟨o,e,d⟩:=T.obj _ _ st5 b hb
      exact (I7.pin (b,o) (List.mem_append_right _ (List.mem_append_right _ (mem_pinsAt hb e)))).2.1
    cases f with
    | next=>obtain ⟨σ7,H7,I7,n7⟩:=q7; exact again I7 n7
    | cont=>obtain ⟨σ7,H7,I7,n7⟩:=q7; exact again I7 n7
    | brk=>obtain ⟨σ7,H7,I7,q7⟩:=q7; exact ⟨σ7,H7,I7.unpinned,q7⟩
    | ret v=>obtain ⟨x7,σ7,H7,I7,r7,q7⟩:=q7; exact ⟨x7,σ7,H7,I7.unpinned,r7,q7⟩
end
end L2
namespace L2
open PySem PySem.Spec PyProof.Rows
abbrev R2:=V→V→Hp→VK→Prop
def OpR (X:Cx) (f:Value→Value→Sem Value) (r:R2):Prop :=
  ∀ (pins:List (Addr×Obj)) (s:Shared) (σ:St) (H:Hp) (x y:V) (v u:Value) (Q:VK),Inv X pins σ H s→RelV x v→RelV y u→r x y H Q →
    wpAny (model X.prog X.w) X.A (f v u) (EP X pins σ Q) X.xe s
def UnR (X:Cx) (f:Value→Sem Value) (r:V→Hp→VK→Prop):Prop :=
  ∀ (pins:List (Addr×Obj)) (s:Shared) (σ:St) (H:Hp) (x:V) (v:Value) (Q:VK),Inv X pins σ H s→RelV x v→r x H Q →
    wpAny (model X.prog X.w) X.A (f v) (EP X pins σ Q) X.xe s
def CallR (X:Cx) (f:Value) (r:List V→Hp→VK→Prop):Prop :=
  ∀ (pins:List (Addr×Obj)) (s:Shared) (σ:St) (H:Hp) (xs:List V) (us:List Value) (Q:VK),Inv X pins σ H s→Vals xs us→r xs H Q →
    wpAny (model X.prog X.w) X.A (call f us) (EP X pins σ Q) X.xe s
def TruR (X:Cx) (r:V→Hp→(Bool→Hp→Prop)→Prop):Prop :=
  ∀ (pins:List (Addr×Obj)) (s:Shared) (σ:St) (H:Hp) (x:V) (v:Value) (Q:Bool→Hp→Prop),Inv X pins σ H s→RelV x v→r x H Q →
    wpAny (model X.prog X.w) X.A (truthy v) (TP X pins σ Q) X.xe s
def tOp (r:R2) (ta tb:TE):TE:=fun σ H Q=>ta σ H fun x H1=>tb σ H1 fun y H2=>r x y H2 Q
def tUn (r:V→Hp→VK→Prop) (ta:TE):TE:=fun σ H Q=>ta σ H fun x H1=>r x H1 Q
def rI (C:Int→Int→Prop) (g:Int→Int→V):R2:=fun x y H Q=>∃ i j,x=.int i∧y=.int j∧C i j∧Q (g i j) H
def rI0 (g:Int→Int→V):R2:=fun x y H Q=>∃ i j,x=.int i∧y=.int j∧Q (g i j) H
def rU (g:Int→V):V→Hp→VK→Prop:=fun x H Q=>∃ i,x=.int i∧Q (g i) H
section
variable {X:Cx} {a b c:Expr} {ta tb tc:TE} {pos:Pos}
theorem binT (ha:PE X a ta) (hb:PE X b tb) {pins:List (Addr×Obj)} {s:Shared} {σ:St} {H:Hp} {R:V→V→Hp→Prop} (I:Inv X pins σ H s)
    (h:ta σ H fun x H1=>tb σ H1 fun y H2=>R x y H2) {Q:Value→Shared→Prop} {f:Value→Value→Sem Value}
    (hf:∀ v u s2 x y H2,Inv X pins σ H2 s2→RelV x v→RelV y u→R x y H2→wpAny (model X.prog X.w) X.A (f v u) Q X.xe s2) :
    wpAny (model X.prog X.w) X.A (eval a X.env) (fun v s₁=>wpAny (model X.prog X.w) X.A (eval b X.env) (fun u s₂=>wpAny (model X.prog X.w) X.A (f v u) Q X.xe s₂) X.xe s₁) X.xe s:=by
  refine thn (ha pins s σ H _ I h) fun v s1 ⟨x,H1,I1,r1,q1⟩=>?_
  refine thn (hb pins s1 σ H1 _ I1 q1) fun u s2 ⟨y,H2,I2,r2,q2⟩=>?_
  exact hf v u s2 x y H2 I2 r1 r2 q2
theorem pe_op {op:Operator} {r:R2} (ho:OpR X (binaryOp op) r) (ha:PE X a ta) (hb:PE X b tb):PE X (.BinOp a op b pos) (tOp r ta tb):=by
  intro pins s σ H Q I h
  exact wpAny_BinOp (binT ha hb I h fun v u s2 x y H2 I2 rx ry q=>ho pins s2 σ H2 x y v u Q I2 rx ry q)
theorem pe_un {op:UnaryOp} {r:V→Hp→VK→Prop} (ho:UnR X (unaryOp op) r) (ha:PE X a ta):PE X (.UnaryOp op a pos) (tUn r ta):=by
  intro pins s σ H Q I h
  exact UnaryOp_ (thn (ha pins s σ H _ I h) fun v s1 ⟨x,H1,I1,r1,q1⟩=>ho pins s1 σ H1 x v Q I1 r1 q1)
theorem opI {f:Value→Value→Sem Value} {C:Int→Int→Prop} {g:Int→Int→Int}
    (rule:∀ (i j:Int) (t u:Tok) (s:Shared) (Q:Value→Shared→Prop) (E:Value→Shared→Prop),C i j→Q (.int (g i j) s.toks) { s with toks:=s.toks+1 }→wpAny (model X.prog X.w) X.A (f (.int i t) (.int j u)) Q E s) :
    OpR X f (rI C fun i j=>.int (g i j)):=by
  intro pins s σ H x y v u Q I rx ry h
  obtain ⟨i,j,rfl,rfl,hc,q⟩:=h
  obtain ⟨t,rfl⟩:=rx
  obtain ⟨t',rfl⟩:=ry
  exact rule i j t t' s _ _ hc ⟨.int (g i j),H,I.tok _,⟨_,rfl⟩,q⟩
theorem opI0 {f:Value→Value→Sem Value} {g:Int→Int→Int}
    (rule:∀ (i j:Int) (t u:Tok) (s:Shared) (Q:Value→Shared→Prop) (E:Value→Shared→Prop),Q (.int (g i j) s.toks) { s with toks:=s.toks+1 }→wpAny (model X.prog X.w) X.A (f (.int i t) (.int j u)) Q E s) :
    OpR X f (rI0 fun i j=>.int (g i j)):=by
  intro pins s σ H x y v u Q I rx ry h
  obtain ⟨i,j,rfl,rfl,q⟩:=h
  obtain ⟨t,rfl⟩:=rx
  obtain ⟨t',rfl⟩:=ry
  exact rule i j t t' s _ _ ⟨.int (g i j),H,I.tok _,⟨_,rfl⟩,q⟩
theorem opB0 {f:Value→Value→Sem Value} {g:Int→Int→Bool}
    (rule:∀ (i j:Int) (t u:Tok) (s:Shared) (Q:Value→Shared→Prop) (E:Value→Shared→Prop),Q (.bool (g i j)) s→wpAny (model X.prog X.w) X.A (f (.int i t) (.int j u)) Q E s) :
    OpR X f (rI0 fun i j=>.bl (g i j)):=by
  intro pins s σ H x y v u Q I rx ry h
  obtain ⟨i,j,rfl,rfl,q⟩:=h
  obtain ⟨t,rfl⟩:=rx
  obtain ⟨t',rfl⟩:=ry
  exact rule i j t t' s _ _ ⟨.bl (g i j),H,I,rfl,q⟩
def CMul (i j:Int):Prop:=(-(2 ^ 64)<i∧i<2 ^ 64)∨(-(2 ^ 64)<j∧j<2 ^ 64)
theorem CMul.ok {i j:Int} (h:CMul i j):IntMulOk i j:=by
  rcases h with ⟨h1,h2⟩ | ⟨h1,h2⟩
  · exact .of_left (intBits_le_64 h1 h2)
  · exact .of_right (intBits_le_64 h1 h2)
theorem op_add:OpR X (binaryOp .Add) (rI0 fun i j=>.int (i+j)):=opI0 fun _ _ _ _ _ _ _ q=>add_int q
theorem op_mod:OpR X (binaryOp .Mod) (rI (fun _ j=>0<j) fun i j=>.int (i % j)):=opI fun i j _ _ _ _ _ hc q=>by
  have h1:(0:Int)<j:=hc
  exact mod_int' (by omega) (by rw [Int.fmod_eq_emod_of_nonneg i (by omega)]; exact q)
theorem unI {f:Value→Sem Value} {g:Int→Int}
    (rule:∀ (i:Int) (t:Tok) (s:Shared) (Q:Value→Shared→Prop) (E:Value→Shared→Prop),Q (.int (g i) s.toks) { s with toks:=s.toks+1 }→wpAny (model X.prog X.w) X.A (f (.int i t)) Q E s) :
    UnR X f (rU fun i=>.int (g i)):=by
  intro pins s σ H x v Q I rx h
  obtain ⟨i,rfl,q⟩:=h
  obtain ⟨t,rfl⟩:=rx
  exact rule i t s _ _ ⟨.int (g i),H,I.tok _,⟨_,rfl⟩,q⟩
theorem un_neg:UnR X (unaryOp .USub) (rU fun i=>.int (-i)):=unI fun _ _ _ _ _ q=>neg_int q
end
def scal:V→V→Bool
  | .non,.non=>true | .non,.int _=>true | .int _,.non=>true | .non,.bl _=>true | .bl _,.non=>true | .non,.str _=>true | .str _,.non=>true
  | .int _,.int _=>true | .bl _,.bl _=>true | .str _,.str _=>true | .byt _,.byt _=>true
  | .int _,.str _=>true | .str _,.int _=>true | .bl _,.str _=>true | .str _,.bl _=>true
  | _,_=>false
def rEq:R2:=fun x y H Q=>scal x y=true∧Q (.bl (decide (x=y))) H
def rNe:R2:=fun x y H Q=>scal x y=true∧Q (.bl (!decide (x=y))) H
theorem dec_int {i j:Int}:decide (V.int i=V.int j)=(i==j):=by
  rw [Bool.eq_iff_iff]
  simp
theorem dec_bl {i j:Bool}:decide (V.bl i=V.bl j)=(i==j):=by
  rw [Bool.eq_iff_iff]
  simp
theorem dec_str {i j:Str}:decide (V.str i=V.str j)=(i==j):=by
  rw [Bool.eq_iff_iff]
  simp
theorem dec_byt {i j:Array UInt8}:decide (V.byt i=V.byt j)=(i.toList==j.toList):=by
  rw [Bool.eq_iff_iff]
  cases i
  cases j
  simp
section
variable {X:Cx} {a b c:Expr} {ta tb tc:TE} {pos:Pos}
theorem fin_bl {pins:List (Addr×Obj)} {σ:St} {H:Hp} {s:Shared} {Q:VK} {k k':Bool} (I:Inv X pins σ H s) (q:Q (.bl k) H) (e:k=k'):EP X pins σ Q (.bool k') s:=by
  subst e
  exact ⟨.bl k,H,I,rfl,q⟩
theorem op_eq:OpR X (compareOp .Eq) rEq:=by
  intro pins s σ H x y v u Q I rx ry h
  obtain ⟨hs,q⟩:=h
  cases x with
  | non =>
    cases rx
    cases y with
    | non=>cases ry; exact PySem.EqNone.eq_none_none (fin_bl I q (by simp))
    | bl j=>cases ry; exact PySem.EqNone.eq_none_bool (fin_bl I q (by simp))
    | int j=>obtain ⟨t',rfl⟩:=ry; exact PySem.EqNone.eq_none_int (fin_bl I q (by simp))
    | str j=>obtain ⟨t',rfl⟩:=ry; exact PySem.EqNone.eq_none_str (fin_bl I q (by simp))
    | _=>exact absurd (show false=true from hs) Bool.false_ne_true
  | bl i =>
    cases rx
    cases y with
    | non=>cases ry; exact PySem.EqNone.eq_bool_none (fin_bl I q (by simp))
    | bl j=>cases ry; exact eq_bool (fin_bl I q dec_bl)
    | str j=>obtain ⟨t',rfl⟩:=ry; exact PySem.EqMixed.eq_bool_str (fin_bl I q (by simp))
    | _=>exact absurd (show false=true from hs) Bool.false_ne_true
  | int i =>
    obtain ⟨t,rfl⟩:=rx
    cases y with
    | non=>cases ry; exact PySem.EqNone.eq_int_none (fin_bl I q (by simp))
    | int j=>obtain ⟨t',rfl⟩:=ry; exact eq_int (fin_bl I q dec_int)
    | str j=>obtain ⟨t',rfl⟩:=ry; exact PySem.EqMixed.eq_int_str (fin_bl I q (by simp))
    | _=>exact absurd (show false=true from hs) Bool.false_ne_true
  | str i =>
    obtain ⟨t,rfl⟩:=rx
    cases y with
    | non=>cases ry; exact PySem.EqNone.eq_str_none (fin_bl I q (by simp))
    | bl j=>cases ry; exact PySem.EqMixed.eq_str_bool (fin_bl I q (by simp))
    | int j=>obtain ⟨t',rfl⟩:=ry; exact PySem.EqMixed.eq_str_int (fin_bl I q (by simp))
    | str j=>obtain ⟨t',rfl⟩:=ry; exact eq_str (fin_bl I q dec_str)
    | _=>exact absurd (show false=true from hs) Bool.false_ne_true
  | byt i =>
    obtain ⟨t,rfl⟩:=rx
    cases y with
    | byt j=>obtain ⟨t',rfl⟩:=ry; exact PySem.W.eq_bytes (fin_bl I q dec_byt)
    | _=>exact absurd (show false=true from hs) Bool.false_ne_true
  | _=>cases y <;> exact absurd (show false=true from hs) Bool.false_ne_true
theorem op_ne:OpR X (compareOp .NotEq) rNe:=by
  intro pins s σ H x y v u Q I rx ry h
  obtain ⟨hs,q⟩:=h
  cases x with
  | non =>
    cases rx
    cases y with
    | non=>cases ry; exact PySem.EqNone.ne_none_none (fin_bl I q (by simp))
    | bl j=>cases ry; exact PySem.EqNone.ne_none_bool (fin_bl I q (by simp))
    | int j=>obtain ⟨t',rfl⟩:=ry; exact PySem.EqNone.ne_none_int (fin_bl I q (by simp))
    | str j=>obtain ⟨t',rfl⟩:=ry; exact PySem.EqNone.ne_none_str (fin_bl I q (by simp))
    | _=>exact absurd (show false=true from hs) Bool.false_ne_true
  | bl i =>
    cases rx
    cases y with
    | non=>cases ry; exact PySem.EqNone.ne_bool_none (fin_bl I q (by simp))
    | bl j=>cases ry; exact ne_bool (fin_bl I q (congrArg not dec_bl))
    | str j=>obtain ⟨t',rfl⟩:=ry; exact PySem.EqMixed.ne_bool_str (fin_bl I q (by simp))
    | _=>exact absurd (show false=true from hs) Bool.false_ne_true
  | int i =>
    obtain ⟨t,rfl⟩:=rx
    cases y with
    | non=>cases ry; exact PySem.EqNone.ne_int_none (fin_bl I q (by simp))
    | int j=>obtain ⟨t',rfl⟩:=ry; exact ne_int (fin_bl I q (congrArg not dec_int))
    | str j=>obtain ⟨t',rfl⟩:=ry; exact PySem.EqMixed.ne_int_str (fin_bl I q (by simp))
    | _=>exact absurd (show false=true from hs) Bool.false_ne_true
  | str i =>
    obtain ⟨t,rfl⟩:=rx
    cases y with
    | non=>cases ry; exact PySem.EqNone.ne_str_none (fin_bl I q (by simp))
    | bl j=>cases ry; exact PySem.EqMixed.ne_str_bool (fin_bl I q (by simp))
    | int j=>obtain ⟨t',rfl⟩:=ry; exact PySem.EqMixed.ne_str_int (fin_bl I q (by simp))
    | str j=>obtain ⟨t',rfl⟩:=ry; exact ne_str (fin_bl I q (congrArg not dec_str))
    | _=>exact absurd (show false=true from hs) Bool.false_ne_true
  | byt i =>
    obtain ⟨t,rfl⟩:=rx
    cases y with
    | byt j=>obtain ⟨t',rfl⟩:=ry; exact PySem.W.ne_bytes (fin_bl I q (congrArg not dec_byt))
    | _=>exact absurd (show false=true from hs) Bool.false_ne_true
  | _=>cases y <;> exact absurd (show false=true from hs) Bool.false_ne_true
theorem op_gt:OpR X (compareOp .Gt) (rI0 fun i j=>.bl (decide (j<i))):=opB0 fun _ _ _ _ _ _ _ q=>gt_int q
theorem nomark (b:Expr) {op:CmpOp} (h:op≠.In:=by decide) (h2:op≠.NotIn:=by decide):behindInMarks op b=false:=by
  have e1:(op==CmpOp.In)=false:=by cases op <;> first | rfl | exact absurd rfl h
  have e2:(op==CmpOp.NotIn)=false:=by cases op <;> first | rfl | exact absurd rfl h2
  cases b <;> simp [behindInMarks,e1,e2]
theorem pe_cmpR {op:CmpOp} {r:R2} (ho:OpR X (compareOp op) r) (ha:PE X a ta) (hb:PE X b tb) (hm:behindInMarks op b=false):PE X (.Compare a [op] [b] pos) (tOp r ta tb):=by
  intro pins s σ H Q I h
  exact wpAny_Compare1 (binT ha hb I h fun v u s2 x y H2 I2 rx ry q=>ho pins s2 σ H2 x y v u Q I2 rx ry q) hm
def tTest (t:TE):TT:=fun σ H Q=>t σ H fun x H'=>∃ k,x=.bl k∧Q k H'
theorem pt_cmpR {op:CmpOp} {r:R2} (ho:OpR X (compareOp op) r) (ha:PE X a ta) (hb:PE X b tb) (hm:behindInMarks op b=false):PT X (.Compare a [op] [b] pos) (tTest (tOp r ta tb)):=by
  intro pins s σ H Q I h
  refine wpAny_isTrue_Compare1 (thn (ha pins s σ H _ I h) fun v s1 ⟨x,H1,I1,r1,q1⟩=>thn (hb pins s1 σ H1 _ I1 q1) fun u s2 ⟨y,H2,I2,r2,q2⟩ =>
    thn (ho pins s2 σ H2 x y v u _ I2 r1 r2 q2) fun c s3 ⟨z,H3,I3,r3,k,e,q3⟩=>?_) hm
  subst e
  cases r3
  exact wpAny_truthy_bool ⟨H3,I3,q3⟩
def TruV (K:PySem.W.Frag) (x:V) (H:Hp) (k:Bool):Prop :=
  match x with
  | .non=>k=false
  | .bl b=>k=b
  | .int i=>k=(i != 0)
  | .str y=>y.length≤sizeLine∧k=((y.length:Int) != 0)
  | .byt y=>y.size≤sizeLine∧k=((y.size:Int) != 0)
  | .ref p=>(∃ xs,SqL K H p xs∧k=!xs.isEmpty)∨(∃ xs,SqT K H p xs∧k=!xs.isEmpty)∨∃ kvs,H p=some (.dK kvs)∧k=!kvs.isEmpty
  | _=>False
theorem isEmpty_kv {κ:Type} {kvs:List (κ×V)} {vs:List (κ×Value)} (r:KV kvs vs):(!vs.isEmpty)=!kvs.isEmpty:=by
  cases r <;> rfl
theorem isEmpty_of {xs:List V} {its:List Value} (r:Vals xs its):(!its.toArray.isEmpty)=!xs.isEmpty:=by
  cases r <;> simp
theorem line63:(sizeLine:Nat)<2 ^ 63:=by rw [sizeLine_eq]; decide
theorem tru_ok:TruR X (fun x H Q=>∃ k,TruV X.K x H k∧Q k H):=by
  intro pins s σ H x v Q I rx h
  obtain ⟨k,e,q⟩:=h
  have hl:=line63
  have hs:sizeLine=16777216:=sizeLine_eq
  cases x with
  | non =>
    cases rx
    have e':k=false:=e
    subst e'
    exact truthy_none ⟨H,I,q⟩
  | bl b =>
    cases rx
    have e':k=b:=e
    subst e'
    exact wpAny_truthy_bool ⟨H,I,q⟩
  | int i =>
    obtain ⟨t,rfl⟩:=rx
    have e':k=(i != 0):=e
    subst e'
    exact PySem.P.truthy_int ⟨H,I,q⟩
  | str y =>
    obtain ⟨t,rfl⟩:=rx
    obtain ⟨hy,e'⟩:y.length≤sizeLine∧k=((y.length:Int) != 0):=e
    subst e'
    exact PySem.P.truthy_str (by omega) ⟨H,I.tok _,q⟩
  | byt y =>
    obtain ⟨t,rfl⟩:=rx
    obtain ⟨hy,e'⟩:y.size≤sizeLine∧k=((y.size:Int) != 0):=e
    subst e'
    exact PySem.W.truthy_bytes (by omega) ⟨H,I.tok _,q⟩
  | ref p =>
    cases rx
    have e':(∃ xs,SqL X.K H p xs∧k=!xs.isEmpty)∨(∃ xs,SqT X.K H p xs∧k=!xs.isEmpty)∨∃ kvs,H p=some (.dK kvs)∧k=!kvs.isEmpty:=e
    rcases e' with ⟨xs,hx,e'⟩ | ⟨xs,hx,e'⟩ | ⟨kvs,hx,e'⟩
    · subst e'
      obtain ⟨its,r,pl,hz⟩:=I.list hx
      have hlen:=r.length
      exact wpAny_truthy_list pl.isList (by simp only [List.size_toArray]; omega) ⟨H,I.tok _,by rw [isEmpty_of r]; exact q⟩
    · subst e'
      obtain ⟨its,r,pl,hz⟩:=I.tuple hx
      have hlen:=r.length
      exact truthy_tuple pl (by simp only [List.size_toArray]; omega) ⟨H,I.tok _,by rw [isEmpty_of r]; exact q⟩
    · subst e'
      obtain ⟨hz,hS,vs,r,m⟩:kvs.length≤sizeLine∧(p==sysModules)=false∧∃ vs,KV kvs vs∧s.heap.DictOf (mixKind X.prog X.w) p vs:=I.hok p _ hx
      have hlen:kvs.length=vs.length:=Paired.length r
      exact wpAny_truthy_dict hS m (by omega) ⟨H,I.tok _,by rw [isEmpty_kv r]; exact q⟩
  | _=>exact (show False from e).elim
theorem pt_truth (ha:PE X a ta) (he:∀ whole,isTrue a X.env whole=(do let v ← whole; standAt a.pos; holding [v] (truthy v))) :
    PT X a (fun σ H Q=>ta σ H fun x H'=>∃ k,TruV X.K x H' k∧Q k H'):=by
  intro pins s σ H Q I h
  exact isTrue_plain (thn (ha pins s σ H _ I h) fun v s1 ⟨x,H1,I1,r1,q1⟩=>tru_ok pins s1 σ H1 x v Q I1 r1 q1) (he _)
theorem op_add_str:OpR X (binaryOp .Add) (fun x y H Q=>∃ i j,x=.str i∧y=.str j∧i.length+j.length≤sizeLine∧Q (.str (i++j)) H):=by
  intro pins s σ H x y v u Q I rx ry h
  obtain ⟨i,j,rfl,rfl,hz,q⟩:=h
  obtain ⟨t,rfl⟩:=rx
  obtain ⟨t',rfl⟩:=ry
  exact add_str (fun t' tk=>⟨.str (i++j),H,I.tok _,⟨_,rfl⟩,q⟩) hz
theorem vals1 {x:V} {us:List Value} (r:Vals [x] us):∃ u,us=[u]∧RelV x u:=by
  cases r with
  | cons r1 r2=>cases r2; exact ⟨_,rfl,r1⟩
theorem vals2 {x y:V} {us:List Value} (r:Vals [x,y] us):∃ u w',us=[u,w']∧RelV x u∧RelV y w':=by
  cases r with
  | cons r1 r2 =>
    cases r2 with
    | cons r3 r4=>cases r4; exact ⟨_,_,rfl,r1,r3⟩
def LenV (K:PySem.W.Frag) (x:V) (H:Hp) (n:Nat):Prop :=
  match x with
  | .str y=>y.length≤sizeLine∧n=y.length
  | .byt y=>y.size≤sizeLine∧n=y.size
  | .ref p=>(∃ xs,SqL K H p xs∧n=xs.length)∨∃ xs,SqT K H p xs∧n=xs.length
  | _=>False
theorem call_len:CallR X (.builtin "len") (fun xs H Q=>∃ x n,xs=[x]∧LenV X.K x H n∧Q (.int n) H):=by
  intro pins s σ H xs us Q I r h
  obtain ⟨x,n,rfl,e,q⟩:=h
  obtain ⟨u,rfl,rx⟩:=vals1 r
  have hl:=line63
  have hs:sizeLine=16777216:=sizeLine_eq
  cases x with
  | str y =>
    obtain ⟨t,rfl⟩:=rx
    obtain ⟨hy,e'⟩:y.length≤sizeLine∧n=y.length:=e
    subst e'
    exact len_str (by omega) ⟨.int _,H,I.tok _,⟨_,rfl⟩,q⟩
  | byt y =>
    obtain ⟨t,rfl⟩:=rx
    obtain ⟨hy,e'⟩:y.size≤sizeLine∧n=y.size:=e
    subst e'
    exact PySem.W.len_bytes (by omega) ⟨.int _,H,I.tok _,⟨_,rfl⟩,q⟩
  | ref p =>
    cases rx
    have e':(∃ xs,SqL X.K H p xs∧n=xs.length)∨∃ xs,SqT X.K H p xs∧n=xs.length:=e
    rcases e' with ⟨xs,hx,e'⟩ | ⟨xs,hx,e'⟩
    · subst e'
      obtain ⟨its,r',pl,hz⟩:=I.list hx
      have hlen:=r'.length
      exact Calls.call_len_list pl.isList (by simp only [List.size_toArray]; omega) ⟨.int xs.length,H,I.tok _,⟨_,by simp only [List.size_toArray]; rw [hlen]⟩,q⟩
    · subst e'
      obtain ⟨its,r',pl,hz⟩:=I.tuple hx
      have hlen:=r'.length
      exact len_tuple pl (by simp only [List.size_toArray]; omega) ⟨.int xs.length,H,I.tok _,⟨_,by simp only [List.size_toArray]; rw [hlen]⟩,q⟩
  | _=>exact (show False from e).elim
end
end L2
namespace L2
open PySem PySem.Spec PyProof.Rows
structure ObjM (h:Heap) (x dx C:Addr) (mA:Str→Option Value):Prop where
  obj:h.get? x=some (PySem.W.instObj C dx)
  ns:h.Ns1 dx mA
  ne:dx≠x
theorem lookIn_ns {h:Heap} {dx:Addr} {mA:Str→Option Value} (n:h.Ns1 dx mA):∃ od,h.get? dx=some od∧∀ name,PySem.W.lookIn name od=some (mA name):=by
  obtain ⟨o,es,ep,ho,hd,hk,_,hm⟩:=n
  refine ⟨o,ho,fun name=>?_⟩
  have e:=hm name
  unfold nsFind findBy at e
  rw [← Array.find?_toList] at e
  unfold PySem.W.lookIn
  rw [hd]
  dsimp only
  split
  · rename_i y q
    rw [q] at e
    exact congrArg some e
  · rename_i q
    rw [q] at e
    have a:es.toList.any (·.refKey)=false:=by
      rw [List.any_eq_false]
      intro y hy
      obtain ⟨z,t,hkey⟩:=hk y (Array.mem_toList_iff.mp hy)
      simp [DictEntry.refKey,hkey]
    have a':¬ es.toList.any (·.refKey)=true:=by rw [a]; exact Bool.false_ne_true
    rw [if_neg a']
    exact congrArg some e
theorem ObjM.look {h:Heap} {x dx C:Addr} {mA:Str→Option Value} (I:ObjM h x dx C mA):∃ od,PySem.W.InstAt h x (PySem.W.instObj C dx) C (some od)∧∀ name,PySem.W.lookIn name od=some (mA name) :=
  let ⟨od,ho,hl⟩:=lookIn_ns I.ns
  ⟨od,⟨I.obj,rfl,rfl,ho⟩,hl⟩
section
variable {prog:Program} {w:World} {A:Around} {E:Value→Shared→Prop} {s:Shared} {K:PySem.W.Frag} {x dx C f:Addr} {mA:Str→Option Value} {name:Str} {v:Value}
theorem get_meth {pl:Sem Bool} {Q:Value×List Value→Shared→Prop} (X:K.In s.heap) (I:ObjM s.heap x dx C mA) (hg:PySem.W.plainGet K C name=true)
    (hf:PySem.W.findIn K (.ref C) name=some (some (.ref f))) (ht:PySem.W.isFn K (.ref f)=true) (hv:mA name=none) (h:Q (.ref f,[.ref x]) s) :
    wpAny (model prog w) A (getMethod (.ref x) name pl) Q E s:=by
  obtain ⟨od,J,hl⟩:=I.look
  exact PySem.W.method_fn X J (PySem.W.plainGet_of hg).1 (PySem.W.plainGet_of hg).2 hf (beq_iff_eq.mp ht) (by show (PySem.W.lookIn name od).map (·.isSome)=some false; rw [hl,hv]; rfl) h
theorem make_map0 {R:Result→Shared→Prop} (X:K.In s.heap) (hm:PySem.W.makesIn K C=true)
    (hi:PySem.W.findIn K (.ref C) "__init__" = some (some (.builtin "object.__init__")))
    (hb:∀ self,PySem.W.Looks (model prog w) s.heap (bindSpecial (.builtin "object.__init__") self) (.builtin "object.__init__", [self]))
    (h:codeAny (model prog w) (A.under (.builtin "type.__call__" ⟨[.ref C],[]⟩)) (.call (.builtin "object.__init__") ⟨[.ref (s.heap.objs.size+1)],[]⟩) (PySem.W.InitBack (s.heap.objs.size+1) R)
      { s with heap:=(s.heap.push PySem.W.emptyDict).push (PySem.W.instObj C s.heap.objs.size) }) :
    codeAny (model prog w) A (.call (.ref C) ⟨[],[]⟩) R s:=by
  obtain ⟨hh,g,d,t,os⟩:=s
  exact PySem.W.make_core (PySem.W.makes_of X hm) (PySem.W.looks_findIn X hi) hb (.inr ⟨rfl,rfl⟩) h
end
theorem RelO.none_of {o:Option Value} (r:RelO none o):o=none:=by
  cases o with
  | none=>rfl
  | some u=>exact (show False from r).elim
section
variable {P:Program} {w:World} {H H':Hp} {h h':Heap} {a C dx:Addr} {fs fs':List (Str×V)}
theorem ins_get (hok:HOk P w H h) (e:H a=some (.ins C dx fs)):∃ mA,ObjM h a dx C mA∧(∀ f,RelO (fs.lookup f) (mA f))∧PySem.Within mA (fs.map (·.1))∧fs.length≤1000∧H dx=some (.own a):=by
  obtain ⟨d,z,ne,ob,mA,n,r,q⟩:=(show ObjOk P w H h a (.ins C dx fs) from hok a _ e)
  exact ⟨mA,⟨ob,n,ne⟩,r,q,z,d⟩
end
structure Cls (K:PySem.W.Frag) (C:Addr):Prop where
  pg:PySem.W.plainGet K C Str.empty=true
  hd:PySem.W.hasDictIn K C=true
  po:PySem.W.plainOver K C=true
  sa:PySem.W.findIn K (.ref C) "__setattr__" = some (some (.builtin "object.__setattr__"))
theorem Cls.get {K:PySem.W.Frag} {C:Addr} (c:Cls K C) (f:Str):PySem.W.plainGet K C f=true:=c.pg
structure Con (K:PySem.W.Frag) (C:Addr) (f:Str) (v:V) (u:Value):Prop where
  at_:PySem.W.findIn K (.ref C) f=some (some u)
  rel:RelV v u
  get:PySem.W.specialIn K u "__get__" = some none
  cp:PySem.W.copiedNames.contains f=false
structure Meth (K:PySem.W.Frag) (C:Addr) (m:Str) (f:Addr):Prop where
  at_:PySem.W.findIn K (.ref C) m=some (some (.ref f))
  fn:PySem.W.isFn K (.ref f)=true
  kp:PySem.W.keepIn K (.ref f)=true
section
variable {X:Cx} {pins:List (Addr×Obj)} {σ:St} {H:Hp} {s:Shared} {a C dx:Addr} {fs:List (Str×V)} {f:Str} {v:V} {A:Around} {E:Value→Shared→Prop}
theorem getmeth_ok {m:Str} {g:Addr} {pl:Sem Bool} {Q:Value×List Value→Shared→Prop} (I:Inv X pins σ H s) (e:H a=some (.ins C dx fs)) (c:Cls X.K C) (k:Meth X.K C m g) (l:fs.lookup m=none)
    (h:Q (.ref g,[.ref a]) s):wpAny (model X.prog X.w) A (getMethod (.ref a) m pl) Q E s:=by
  obtain ⟨mA,O,r,_,_,_⟩:=ins_get I.hok e
  have hn:mA m=none:=RelO.none_of (by rw [← l]; exact r m)
  exact get_meth I.kIn O (c.get m) k.at_ k.fn hn h
theorem Inv.made (I:Inv X pins σ H s):Inv X pins σ (upd (upd H s.heap.objs.size (.own (s.heap.objs.size+1))) (s.heap.objs.size+1) (.ins C s.heap.objs.size []))
    { s with heap:=(s.heap.push PySem.W.emptyDict).push (PySem.W.instObj C s.heap.objs.size) }:=by
  have e1:(s.heap.push PySem.W.emptyDict).get? s.heap.objs.size=some PySem.W.emptyDict:=Heap.get?_push_size s.heap rfl
  have e2:((s.heap.push PySem.W.emptyDict).push (PySem.W.instObj C s.heap.objs.size)).get? (s.heap.objs.size+1)=some (PySem.W.instObj C s.heap.objs.size):=by
    have:=Heap.get?_push_size (s.heap.push PySem.W.emptyDict) (o:=PySem.W.instObj C s.heap.objs.size) rfl
    rwa [Heap.size_push] at this
  have e3:(s.heap.push PySem.W.emptyDict).Ns s.heap.objs.size (fun _=>none):=⟨PySem.W.emptyDict,#[],_,e1,rfl,(fun e he=>absurd he (by simp)),fun _=>rfl⟩
  have I1:=I.laid (a:=s.heap.objs.size) (o:=.own (s.heap.objs.size+1)) (h':=s.heap.push PySem.W.emptyDict) (t':=s.toks) (fun b u q=>Heap.get?_push_of_some _ q) (Nat.le_refl _) ⟨_,e1⟩
  refine I1.laid (a:=s.heap.objs.size+1) (o:=.ins C s.heap.objs.size []) (t':=s.toks) (fun b u q=>Heap.get?_push_of_some _ q) (Nat.le_of_eq (Heap.size_push _ _)) ?_
  have ne:s.heap.objs.size≠s.heap.objs.size+1:=Nat.ne_of_lt (Nat.lt_succ_self _)
  refine ⟨by rw [upd_ne ne,upd_same],Nat.zero_le _,ne,e2,fun _=>none,(Heap.Ns1.of_empty e3).at fun o q=>Heap.get?_push_of_some _ q,fun _=>True.intro,fun y hy=>absurd rfl hy⟩
end
section
variable {X:Cx} {o e value:Expr} {f:Str} {pos pos' tpos:Pos} {ta tv:TE}
end
section
variable {X:Cx} {pins:List (Addr×Obj)} {σ:St} {H:Hp} {s:Shared} {A:Around} {E:Value→Shared→Prop} {Q:Value→Shared→Prop} {c:Value} {b:Bool}
inductive TyOf (K:PySem.W.Frag) (H:Hp):V→Value→Prop where
  | non:TyOf K H .non (.type "NoneType")
  | bl (x:Bool):TyOf K H (.bl x) (.type "bool")
  | int (i:Int):TyOf K H (.int i) (.type "int")
  | str (x:Str):TyOf K H (.str x) (.type "str")
  | flt (x:UInt64):TyOf K H (.flt x) (.type "float")
  | lst {a:Addr} {xs:List V} (e:H a=some (.lst xs)):TyOf K H (.ref a) (.type "list")
  | frz {a:Addr} {o:Obj} {xs:List V} (e:H a=some (.frz o (.lst xs))):TyOf K H (.ref a) (.type "list")
  | tup {a:Addr} {xs:List V} (e:H a=some (.tup xs)):TyOf K H (.ref a) (.type "tuple")
  | dK {a:Addr} {kvs:List (Key×V)} (e:H a=some (.dK kvs)):TyOf K H (.ref a) (.type "dict")
  | dT {a:Addr} {kvs:List (List Key×V)} (e:H a=some (.dT kvs)):TyOf K H (.ref a) (.type "dict")
  | ins {a C dx:Addr} {fs:List (Str×V)} (e:H a=some (.ins C dx fs)) (cl:Cls K C) (ha:PySem.W.findIn K (.ref C) "__class__" = some (some (.builtin "object.__class__")))
      (hn:PySem.W.specialIn K (.builtin "object.__class__") "__get__" = some (some (.builtin "getset_descriptor.__get__"))) (htk:PySem.W.takesIn K (.builtin "object.__class__")=some true)
      (hm:PySem.W.mroIn K C (.type "object")=some true):TyOf K H (.ref a) (.ref C)
theorem isinst_ok {x:V} {u t:Value} (I:Inv X pins σ H s) (rx:RelV x u) (ty:TyOf X.K H x t) (e:PySem.W.kitOne X.K t c=some b) (h:∀ tk,Q (.bool b) { s with toks:=tk }) :
    wpAny (model X.prog X.w) A (call (.builtin "isinstance") [u,c]) Q E s:=by
  cases ty with
  | non=>cases (show u=Value.none from rx); exact PySem.W.kia_one PySem.W.kitx_none I.kIn True.intro e (fun z=>nomatch z) h
  | bl y=>cases (show u=Value.bool y from rx); exact PySem.W.kia_one PySem.W.kitx_bool I.kIn True.intro e (fun z=>nomatch z) h
  | int i=>obtain ⟨t,q⟩:=(show ∃ t,u=Value.int i t from rx); cases q; exact PySem.W.kia_one PySem.W.kitx_int I.kIn True.intro e (fun z=>nomatch z) h
  | str y=>obtain ⟨t,q⟩:=(show ∃ t,u=Value.str y t from rx); cases q; exact PySem.W.kia_one PySem.W.kitx_str I.kIn True.intro e (fun z=>nomatch z) h
  | flt y=>obtain ⟨t,q⟩:=(show ∃ t,u=Value.float y t from rx); cases q; exact PySem.W.kia_one PySem.W.kitx_float I.kIn True.intro e (fun z=>nomatch z) h
  | @lst a xs ea =>
    cases (show u=Value.ref a from rx)
    obtain ⟨_,_,n,_,h1⟩:=(show ObjOk X.prog X.w H s.heap a (.lst xs) from I.hok a _ ea)
    exact PySem.W.kia_one PySem.W.kitx_list I.kIn ⟨_,h1,rfl⟩ e (fun z=>nomatch z) h
  | @frz a ob xs ea =>
    cases (show u=Value.ref a from rx)
    obtain ⟨_,_,_,n,_,h1⟩:=(show ObjOk X.prog X.w H s.heap a (.frz ob (.lst xs)) from I.hok a _ ea)
    exact PySem.W.kia_one PySem.W.kitx_list I.kIn ⟨_,h1,rfl⟩ e (fun z=>nomatch z) h
  | @tup a xs ea =>
    cases (show u=Value.ref a from rx)
    obtain ⟨_,_,_,p⟩:=(show ObjOk X.prog X.w H s.heap a (.tup xs) from I.hok a _ ea)
    obtain ⟨o,h1,h2,_⟩:=p
    exact PySem.W.kia_one PySem.W.kitx_tuple I.kIn ⟨o,h1,h2⟩ e (fun z=>nomatch z) h
  | @dK a kvs ea =>
    cases (show u=Value.ref a from rx)
    obtain ⟨_,_,vs,_,p⟩:=(show ObjOk X.prog X.w H s.heap a (.dK kvs) from I.hok a _ ea)
    obtain ⟨o,es,ep,h1,h2,_⟩:=p
    exact PySem.W.kia_one PySem.W.kitx_dict I.kIn ⟨o,h1,h2.1⟩ e (fun z=>nomatch z) h
  | @dT a kvs ea =>
    cases (show u=Value.ref a from rx)
    obtain ⟨_,_,xs,_,o,es,ep,h1,h2,_⟩:=(show ObjOk X.prog X.w H s.heap a (.dT kvs) from I.hok a _ ea)
    exact PySem.W.kia_one PySem.W.kitx_dict I.kIn ⟨o,h1,h2.1⟩ e (fun z=>nomatch z) h
  | @ins a C dx fs ea cl ha hn htk hm =>
    cases (show u=Value.ref a from rx)
    obtain ⟨mA,O,_⟩:=ins_get I.hok ea
    obtain ⟨od,J,_⟩:=O.look
    exact PySem.W.kia_one (PySem.W.kitx_own (cl.get _) cl.hd ha hn htk hm) I.kIn J e (fun z=>nomatch z) h
end
end L2
namespace L2
open PySem PySem.Spec PyProof.Rows
structure Room (k:Nat) (A:Around):Prop where
  hd:A.handled=none
  dp:A.depth+3*k+5<recursionLimit
  un:A.units+16*k+200<cLine
theorem Room.mono {j k:Nat} {A:Around} (r:Room k A) (h:j≤k):Room j A:=⟨r.hd,by have:=r.dp; omega,by have:=r.un; omega⟩
theorem Room.deeper {k:Nat} {A:Around} (r:Room (k+1) A) (env:Env):Room k (A.deeper env) :=
  ⟨r.hd,by have:=r.dp; show A.depth+1+3*k+5 < _; omega,by have:=r.un; show A.units+3+16*k+200 < _; omega⟩
theorem Room.depth {k:Nat} {A:Around} (r:Room k A):A.depth<recursionLimit:=by have:=r.dp; omega
theorem Room.units {k:Nat} {A:Around} (r:Room k A):A.units+64<cLine:=by have:=r.un; omega
def tNil:TA:=fun _ H Q=>Q [] H
def tCons (ta:TE) (tr:TA):TA:=fun σ H Q=>ta σ H fun x H1=>tr σ H1 fun xs H2=>Q (x::xs) H2
section
variable {X:Cx} {e:Expr} {es:List Expr} {te:TE} {t:TA} {pos:Pos}
theorem pa_nil:PA X [] tNil:=fun _ _ _ _ H Q I h=>Calls.spliced_nil ⟨[],H,I,.nil,h⟩
theorem pa_cons (ha:PE X e te) (hr:PA X es t) (hs:starEach (e::es) X.env=(false,eval e X.env)::starEach es X.env:=by rfl):PA X (e::es) (tCons te t):=by
  intro pos pins s σ H Q I h
  rw [hs]
  show wpAny _ _ (spliced ((false,eval e X.env)::backTo pos (starEach es X.env))) _ _ s
  refine Calls.spliced_cons (thn (ha pins s σ H _ I h) fun u s1 ⟨x,H1,I1,r1,q1⟩=>?_)
  exact thn (hr pos pins s1 σ H1 _ I1 q1) fun us s2 ⟨xs,H2,I2,r2,q2⟩=>⟨x::xs,H2,I2,.cons r1 r2,q2⟩
def tTup (t:TA):TE:=fun σ H Q=>t σ H fun xs H1=>xs.length≤sizeLine∧∀ p,H1 p=none→Q (.ref p) (upd H1 p (.tup xs))
def tLst (t:TA):TE:=fun σ H Q=>t σ H fun xs H1=>xs.length≤sizeLine∧∀ p,H1 p=none→Q (.ref p) (upd H1 p (.lst xs))
theorem pe_tup {x1} (h:PA X es t):PE X (.Tuple es x1 pos) (tTup t):=by
  intro pins s σ H Q I hq
  refine wpAny_Tuple_spliced (thn (h pos pins s σ H _ I hq) fun us s1 ⟨xs,H1,I1,r,z,q⟩=>⟨by rw [← r.length]; exact z,?_⟩)
  have hf:H1 s1.heap.objs.size=none:=I1.hok.fresh (Nat.le_refl _)
  refine ⟨.ref s1.heap.objs.size,upd H1 s1.heap.objs.size (.tup xs),I1.laid (t':=s1.toks) (fun b u e=>Heap.get?_push_of_some _ e) (Nat.le_refl _) ?_,rfl,q _ hf⟩
  exact ⟨z,us,r,⟨_,Heap.get?_push_size _ rfl,rfl,_,rfl⟩⟩
theorem pe_lst (h:PA X es t):PE X (.List es pos) (tLst t):=by
  intro pins s σ H Q I hq
  refine wpAny_List_spliced (thn (h pos pins s σ H _ I hq) fun us s1 ⟨xs,H1,I1,r,z,q⟩=>⟨by rw [← r.length]; exact z,?_⟩)
  have hf:H1 s1.heap.objs.size=none:=I1.hok.fresh (Nat.le_refl _)
  refine ⟨.ref s1.heap.objs.size,upd H1 s1.heap.objs.size (.lst xs),I1.laid (t':=s1.toks) (fun b u e=>Heap.get?_push_of_some _ e) (Nat.le_refl _) ?_,rfl,q _ hf⟩
  exact ⟨z,us,0,r,Heap.get?_push_size _ rfl⟩
end
abbrev Sp:=List V→Hp→VK→XK→Prop
abbrev CXT:=List Env→Hp→Shared→XK→Value→Shared→Prop
structure Env0 (P:Program) (w:World) (K:PySem.W.Frag) (mg:Str→Option Value) (base:Heap) (A:Around) (outer:List Env) (s:Shared) (H:Hp):Prop where
  frames:A.frames=some outer
  mod:Mod K mg base
  bs:∀ b o,base.get? b=some o→s.heap.get? b=some o∧H b=none
  bsz:base.objs.size≤s.heap.objs.size
  funs:s.heap.FunFrames base outer
  frf:∀ b∈frs outer,H b=none
  hok:HOk P w H s.heap
  bare:AllBare s.gens
def CE (outer:List Env) (P:Program) (w:World) (H:Hp) (s:Shared) (Q:VK) (u:Value) (s':Shared):Prop :=
  ∃ v H',s'.os=s.os∧AllBare s'.gens∧Un (frs outer) [] H H' s.heap s'.heap∧HOk P w H' s'.heap∧RelV v u∧Q v H'
def CR (CX:CXT) (outer:List Env) (P:Program) (w:World) (H:Hp) (s:Shared) (Q:VK) (E:XK) (r:Result) (s':Shared):Prop :=
  match r with
  | .ok (.ret u)=>CE outer P w H s Q u s'
  | .ok _=>False
  | .error e=>CX outer H s E e s'
structure FnOk (P:Program) (w:World) (K:PySem.W.Frag) (mg:Str→Option Value) (base:Heap) (CX:CXT) (k:Nat) (f:Addr) (fd:FuncData) (ps:List Str) (sp:Sp):Prop where
  len:∀ vs H Q E,sp vs H Q E→vs.length=ps.length
  run:∀ (A:Around) (outer:List Env) (s:Shared) (H:Hp) (args:Args) (us:List Value) (vs:List V) (Q:VK) (E:XK),Room k A→Env0 P w K mg base A outer s H→BindsTo s fd args (ps.zip us)→Vals vs us→sp vs H Q E →
    codeAny (model P w) A (.call (.ref f) args) (CR CX outer P w H s Q E) s
theorem FnOk.imp {P:Program} {w:World} {K:PySem.W.Frag} {mg:Str→Option Value} {base:Heap} {CX:CXT} {k:Nat} {f:Addr} {fd:FuncData} {ps:List Str} {sp sp':Sp} (F:FnOk P w K mg base CX k f fd ps sp)
    (h:∀ vs H Q E,sp' vs H Q E→sp vs H Q E):FnOk P w K mg base CX k f fd ps sp' :=
  ⟨fun vs H Q E q=>F.len vs H Q E (h _ _ _ _ q),fun A outer s H args us vs Q E hr he hb hv hs=>F.run A outer s H args us vs Q E hr he hb hv (h _ _ _ _ hs)⟩
section
variable {X:Cx} {pins:List (Addr×Obj)} {σ:St} {H:Hp} {s s':Shared}
theorem Inv.env0 (I:Inv X pins σ H s):Env0 X.prog X.w X.K X.mg X.base X.A X.stack s H :=
  ⟨I.ok.frames,I.ok.mod,I.bs,Nat.le_trans I.ok.bsz I.sz,I.stack,I.stkFree,I.hok,I.bare⟩
theorem Inv.after {Q:VK} {u:Value} (I:Inv X pins σ H s) (h:CE X.stack X.prog X.w H s Q u s'):EP X pins σ Q u s':=by
  obtain ⟨v,H',os,bare,un,hok,r,q⟩:=h
  obtain ⟨hh,g,d,t,os'⟩:=s'
  obtain rfl:os'=s.os:=os
  exact ⟨v,H',I.call (h':=hh) (g':=g) (d':=d) (t':=t) (ch:=[]) un hok bare (fun b z=>absurd z (by simp)),r,q⟩
end
def tCall (sp:Sp) (dvs:List V) (E:XK) (t:TA):TE:=fun σ H Q=>t σ H fun vs H1=>sp (vs++dvs) H1 Q E
def Binds (K:PySem.W.Frag) (fd:FuncData) (ps:List Str) (ds:List Value):Prop :=
  ∀ (s:Shared) (us:List Value),K.In s.heap→(us++ds).length=ps.length→BindsTo s fd ⟨us,[]⟩ (ps.zip (us++ds))
theorem Binds.all {K:PySem.W.Frag} {fd:FuncData} {ps:List Str} (h:∀ us:List Value,us.length=ps.length→bindArgs fd ⟨us,[]⟩=pure (ps.zip us)):Binds K fd ps []:=fun s us _ hl=>by
  rw [List.append_nil] at hl ⊢
  exact .of_eq (h us hl)
def Passes (CX:CXT) (X:Cx) (E:XK):Prop:=∀ (pins:List (Addr×Obj)) (σ:St) (H:Hp) (s:Shared) (e:Value) (s':Shared),Inv X pins σ H s→CX X.stack H s E e s'→X.xe e s'
section
variable {X:Cx} {CX:CXT} {k:Nat} {f C:Addr} {fd:FuncData} {ps:List Str} {sp:Sp} {dvs:List V} {ds:List Value} {E:XK} {x m:Str} {p pos apos:Pos} {e o:Expr} {es:List Expr} {ta:TE} {t:TA}
theorem run_fn {pins:List (Addr×Obj)} {σ:St} {H:Hp} {s:Shared} {Q:VK} {us:List Value} {vs:List V} (F:FnOk X.prog X.w X.K X.mg X.base CX k f fd ps sp) (hr:Room k X.A) (hb:Binds X.K fd ps ds) (hd:Vals dvs ds) (hx:Passes CX X E)
    (I:Inv X pins σ H s) (r:Vals vs us) (h:sp (vs++dvs) H Q E):wpAny (model X.prog X.w) X.A (call (.ref f) us) (EP X pins σ Q) X.xe s:=by
  have r2:Vals (vs++dvs) (us++ds):=r.append hd
  have hl:(us++ds).length=ps.length:=by rw [← r2.length]; exact F.len _ _ _ _ h
  refine wpAny_call (codeAny_mono (F.run X.A X.stack s H ⟨us,[]⟩ (us++ds) (vs++dvs) Q E hr I.env0 (hb s us I.kIn hl) r2 h) fun r s' hq=>?_)
  cases r with
  | error e=>exact hx pins σ H s e s' I hq
  | ok fl =>
    cases fl with
    | ret u=>exact I.after hq
    | next=>exact False.elim hq
    | brk=>exact False.elim hq
    | cont=>exact False.elim hq
theorem pe_call (F:FnOk X.prog X.w X.K X.mg X.base CX k f fd ps sp) (hr:Room k X.A) (hg:Gl X x) (hm:X.mg x=some (.ref f)) (hk:PySem.W.keepIn X.K (.ref f)=true) (hb:Binds X.K fd ps ds) (hd:Vals dvs ds) (hx:Passes CX X E)
    (ha:PA X (e::es) t) (hdb:(x==("__debug__" : Str))=false:=by decide) (he:starEach (e::es) X.env=(false,eval e X.env)::starEach es X.env:=by rfl) (hpl:(backTo pos (starEach es X.env)).any (·.1)=false:=by rfl) :
    PE X (.Call (.Name x p) (e::es) [] pos) (tCall sp dvs E t):=by
  intro pins s σ H Q I h
  refine wpAny_Call_Name_kw (ld_glob I hg hm ?_ hdb)
  refine PySem.W.callWith_K (h₀:=X.base) I.ok.mod.kin hk (thn (ha pos pins s σ H _ I h) fun us s1 ⟨vs,H1,I1,r,q⟩=>⟨I1.kIn,?_⟩) he hpl
  exact run_fn F hr hb hd hx I1 r q
theorem pe_call0 (F:FnOk X.prog X.w X.K X.mg X.base CX k f fd ps sp) (hr:Room k X.A) (hg:Gl X x) (hm:X.mg x=some (.ref f)) (hk:PySem.W.keepIn X.K (.ref f)=true) (hb:Binds X.K fd ps ds) (hd:Vals dvs ds) (hx:Passes CX X E)
    (hdb:(x==("__debug__" : Str))=false:=by decide):PE X (.Call (.Name x p) [] [] pos) (tCall sp dvs E tNil):=by
  intro pins s σ H Q I h
  refine wpAny_Call_Name_kw (ld_glob I hg hm ?_ hdb)
  exact PySem.W.callWith_K0 I.kIn hk (run_fn (us:=[]) F hr hb hd hx I .nil h)
structure Mk (K:PySem.W.Frag) (C f:Addr):Prop where
  makes:PySem.W.makesIn K C=true
  init:PySem.W.findIn K (.ref C) "__init__" = some (some (.ref f))
  fn:PySem.W.isFn K (.ref f)=true
  kp:PySem.W.keepIn K (.ref C)=true
end
section
variable {X:Cx} {CX:CXT} {k:Nat} {f C:Addr} {fd:FuncData} {ps ks:List Str} {sp:Sp} {E:XK} {x m:Str} {p pos apos kpos:Pos} {e o:Expr} {es:List Expr} {kws:List Keyword} {te ta:TE} {t tk:TA} {nm:Option Str}
structure KBinds (K:PySem.W.Frag) (fd:FuncData) (ps ks:List Str) (g:List Value→List Value→List Value) (gV:List V→List V→List V):Prop where
  to:∀ (s:Shared) (us ws:List Value),K.In s.heap→(g us ws).length=ps.length→BindsTo s fd ⟨us,ks.zip ws⟩ (ps.zip (g us ws))
  rel:∀ {vs:List V} {us:List Value} {zs:List V} {ws:List Value},Vals vs us→Vals zs ws→Vals (gV vs zs) (g us ws)
variable {g:List Value→List Value→List Value} {gV:List V→List V→List V}
end
structure FnScope (N P:List Str) (sc:Scope):Prop where
  kind:sc.kind=.function
  co:sc.isCoroutine=false
  gen:sc.isGenerator=false
  nd:N.Nodup
  pre:N.take P.length=P
  par:∀ x∈P,sc.names.lookup x=some .local∨sc.names.lookup x=some .cell
  nofree:∀ y∈sc.names,y.2≠.free
theorem bindL_out {kindOf:Str→Option NameKind} {x:Str}:∀ {binds:List (Str×Value)} {m:Str→Option Value},(∀ v,(x,v)∉binds)→bindL kindOf binds m x=m x
  | [],_,_=>rfl
  | (n,v)::r,m,h=>by
    unfold bindL
    rw [bindL_out fun w hw=>h w (List.mem_cons_of_mem _ hw)]
    split
    · have:x≠n:=by rintro rfl; exact h v List.mem_cons_self
      simp [this]
    · rfl
theorem bindC_out {kindOf:Str→Option NameKind} {x:Str}:∀ {binds:List (Str×Value)} {m:Str→Option Value},(∀ v,(x,v)∉binds)→bindC kindOf binds m x=m x
  | [],_,_=>rfl
  | (n,v)::r,m,h=>by
    unfold bindC
    rw [bindC_out fun w hw=>h w (List.mem_cons_of_mem _ hw)]
    split
    · rfl
    · have:x≠n:=by rintro rfl; exact h v List.mem_cons_self
      simp [this]
theorem bindL_get {kindOf:Str→Option NameKind} {x:Str} {v:Value}:∀ {P:List Str} {vs:List Value} {i:Nat} {m:Str→Option Value},P.Nodup→P[i]?=some x→vs[i]?=some v→kindOf x=some .local →
    bindL kindOf (P.zip vs) m x=some v
  | [],_,_,_,_,h,_,_=>by simp at h
  | _::_,[],_,_,_,_,h,_=>by simp at h
  | p::P,w::vs,0,m,nd,h1,h2,hk=>by
    simp at h1 h2; subst h1; subst h2
    show bindL kindOf ((p,w)::P.zip vs) m p=_
    unfold bindL
    rw [bindL_out fun v hv=>(List.nodup_cons.mp nd).1 (List.of_mem_zip hv).1,if_pos hk]
    simp
  | p::P,w::vs,i+1,m,nd,h1,h2,hk=>by
    show bindL kindOf ((p,w)::P.zip vs) m x=_
    unfold bindL
    exact bindL_get (i:=i) (List.nodup_cons.mp nd).2 (by simpa using h1) (by simpa using h2) hk
theorem bindC_get {kindOf:Str→Option NameKind} {x:Str} {v:Value}:∀ {P:List Str} {vs:List Value} {i:Nat} {m:Str→Option Value},P.Nodup→P[i]?=some x→vs[i]?=some v→kindOf x≠some .local →
    bindC kindOf (P.zip vs) m x=some v
  | [],_,_,_,_,h,_,_=>by simp at h
  | _::_,[],_,_,_,_,h,_=>by simp at h
  | p::P,w::vs,0,m,nd,h1,h2,hk=>by
    simp at h1 h2; subst h1; subst h2
    show bindC kindOf ((p,w)::P.zip vs) m p=_
    unfold bindC
    rw [bindC_out fun v hv=>(List.nodup_cons.mp nd).1 (List.of_mem_zip hv).1,if_neg hk]
    simp
  | p::P,w::vs,i+1,m,nd,h1,h2,hk=>by
    show bindC kindOf ((p,w)::P.zip vs) m x=_
    unfold bindC
    exact bindC_get (i:=i) (List.nodup_cons.mp nd).2 (by simpa using h1) (by simpa using h2) hk
def start (N:List Str) (vs:List V):St:=vs.map some++List.replicate (N.length-vs.length) none
def cxOf (CX:CXT) (P:Program) (w:World) (K:PySem.W.Frag) (mg:Str→Option Value) (base:Heap) (N:List Str) (qual:Str) (scope:Scope) (f:Addr) (cd:Value) (A:Around) (outer:List Env) (s:Shared) (H:Hp) (E:XK):Cx where
  prog:=P
  w:=w
  K:=K
  mg:=mg
  base:=base
  A:=A.deeper (envOfC qual scope s.heap.objs.size f cd)
  N:=N
  s₀:=s
  H₀:=H
  env:=envOfC qual scope s.heap.objs.size f cd
  outer:=outer
  stack:=envOfC qual scope s.heap.objs.size f cd::outer
  ex:=[]
  calm:=true
  fn:=fun _=>true
  pn:=[]
  xe:=fun e s'=>wpAny (model P w) (A.deeper (envOfC qual scope s.heap.objs.size f cd)) (leaving (envOfC qual scope s.heap.objs.size f cd) e) (fun _ s''=>CX outer H s E e s'') (fun e' s''=>CX outer H s E e' s'') s'
theorem cell_has {sc:Scope} {n:Nat} {x:Str} (h:sc.names.lookup x=some .cell):∃ c,(cellsFrom n sc.names []).lookup x=some c:=by
  have q:=PySem.W.cellsFrom_some sc.names n [] (.inl h)
  exact Option.isSome_iff_exists.mp q
theorem inv_start {CX:CXT} {P:Program} {w:World} {K:PySem.W.Frag} {mg:Str→Option Value} {base:Heap} {N ps:List Str} {qual:Str} {scope:Scope} {f:Addr} {cd:Value} {A:Around} {outer:List Env} {s s1:Shared} {H:Hp} {E:XK} {us:List Value} {vs:List V}
    (S:FnScope N ps scope) (hd:A.handled=none) (e0:Env0 P w K mg base A outer s H) (hl:vs.length=ps.length) (r:Vals vs us)
    (x:InCallC s s.heap.objs.size (bindL (envOfC qual scope s.heap.objs.size f cd).kindOf (ps.zip us) fun _=>none) (cellsFrom (s.heap.objs.size+1) scope.names []) (bindC (envOfC qual scope s.heap.objs.size f cd).kindOf (ps.zip us) fun _=>none) s1) :
    Inv (cxOf CX P w K mg base N qual scope f cd A outer s H E) [] (start N vs) H s1:=by
  have hpl:ps.length≤N.length:=by have:=congrArg List.length S.pre; rw [List.length_take] at this; omega
  obtain ⟨h1,tk,rfl,hk⟩:=x.done
  have noA:∀ b:Addr,b∉(cxOf CX P w K mg base N qual scope f cd A outer s H E).ex:=fun b z=>absurd (show b∈([]:List Addr) from z) (by simp)
  refine ⟨⟨e0.mod,S.kind,rfl,rfl,Nat.le_refl _,fun y z c h1 h2=>?_,fun y hy=>?_,fun y c _ h=>?_,fun _=>hd,Around.frames_deeper e0.frames,.inr ⟨rfl,rfl⟩,fun b z=>absurd z (noA b),e0.bs,e0.bsz,fun b _ _=>noA b,fun b z=>absurd z (noA b),e0.funs,e0.frf⟩,
    rfl,e0.bare,Un.kept hk,⟨_,x.toInCall.ns,fun i y v h1 h2 h3=>?_⟩,fun y c h=>⟨_,x.cell y c h⟩,e0.hok.fresh (Nat.le_refl _),fun y c h=>?_,fun p hp=>absurd (show p∈([]:List (Addr×Obj)) from hp) (by simp),e0.hok.kept hk,?_⟩
  · exact name_of_addr x.apart (PySem.mem_of_lookup h1) (PySem.mem_of_lookup h2)
  · have hy:scope.names.lookup y=some .cell∨scope.names.lookup y=some .free:=hy
    rcases hy with hy | hy
    · exact cell_has hy
    · exact absurd rfl (S.nofree _ (PySem.mem_of_lookup hy))
  · exact Nat.le_of_lt (x.above y c (PySem.mem_of_lookup h))
  · have hi:i<vs.length:=by
      unfold start at h2
      by_cases hi:i<vs.length
      · exact hi
      · rw [List.getElem?_append_right (by simpa using hi)] at h2
        rw [List.getElem?_replicate] at h2
        split at h2 <;> cases h2
    have ha:vs[i]?=some v:=by
      unfold start at h2
      rw [List.getElem?_append_left (by simpa using hi),List.getElem?_map] at h2
      cases e:vs[i]? with
      | none=>rw [e] at h2; cases h2
      | some a=>rw [e] at h2; cases h2; rfl
    obtain ⟨u,hu,rv⟩:=r.get ha
    have hp:ps[i]?=some y:=by
      rw [← S.pre,List.getElem?_take_of_lt (by omega)]; exact h1
    have ndP:ps.Nodup:=by rw [← S.pre]; exact S.nd.sublist (List.take_sublist _ _)
    refine ⟨u,rv,?_⟩
    rcases S.par y (List.mem_of_getElem? hp) with k | k
    · exact .inl ⟨k,bindL_get ndP hp hu k⟩
    · obtain ⟨c,e⟩:=cell_has (n:=s.heap.objs.size+1) k
      refine .inr ⟨.inl k,c,e,?_⟩
      have q:=x.cell y c e
      rw [bindC_get ndP hp hu (by show scope.names.lookup y≠_; rw [k]; decide)] at q
      exact q
  · exact e0.hok.fresh (Nat.le_of_lt (x.above y c (PySem.mem_of_lookup h)))
  · unfold start
    show _=N.length
    rw [List.length_append,List.length_map,List.length_replicate]
    omega
theorem fn_of {CX:CXT} {P:Program} {w:World} {K:PySem.W.Frag} {mg:Str→Option Value} {base:Heap} {k:Nat} {f:Addr} {name qual:Str} {params:Arguments} {body:List Stmt} {scope:Scope} {dV kV doc pm cdv ct oc:Value} {an od:Option Addr}
    {osl:Array (Option Value)} {N ps:List Str} {sp:Sp} (lk:K.lookup f=some ⟨oc,od,.func (PySem.W.fnOf name qual params body scope dV kV doc pm an cdv ct),osl⟩) (hcd:PySem.W.codeIn K cdv qual=true) (S:FnScope N ps scope)
    (len:∀ vs H Q E,sp vs H Q E→vs.length=ps.length)
    (hbody:∀ (A:Around) (outer:List Env) (s:Shared) (H:Hp) (vs:List V) (Q:VK) (E:XK),Room k (A.deeper (envOfC qual scope s.heap.objs.size f cdv))→sp vs H Q E →
      ∃ t,PSs (cxOf CX P w K mg base N qual scope f cdv A outer s H E) body t∧t { nx:=fun _ H'=>Q .non H',rt:=Q } (start N vs) H) :
    FnOk P w K mg base CX (k+1) f (PySem.W.fnOf name qual params body scope dV kV doc pm an cdv ct) ps sp:=by
  refine ⟨len,fun A outer s H args us vs Q E hr e0 hb r hsp=>?_⟩
  have hl:=len _ _ _ _ hsp
  have KX:K.In s.heap:=e0.mod.kin.keeps fun b o e=>(e0.bs b o e).1
  have lim:s.heap.NoLimit:=e0.mod.nolimit.keeps fun b o e=>(e0.bs b o e).1
  have hkind:∀ y∈ps.zip us,scope.names.lookup y.1=some .local∨(scope.names.lookup y.1=some .cell∧((cellsFrom (s.heap.objs.size+1) scope.names []).lookup y.1).isSome=true):=fun ⟨n,v⟩ hy=>by
    rcases S.par n (List.of_mem_zip hy).1 with q | q
    · exact .inl q
    · exact .inr ⟨q,PySem.W.cellsFrom_some _ _ _ (.inl q)⟩
  refine codeAny_call_function hr.depth (KX _ _ lk) rfl S.co S.gen rfl (PySem.W.codeRec_of KX hcd) (hb _ _ _ _ ?_)
  refine wpAny_newFunctionEnv_cells S.kind hkind fun env he s1 x=>?_
  subst he
  refine ⟨lim.keeps x.toInCall.keep,codeAny_func ?_⟩
  obtain ⟨t,ht,hq⟩:=hbody A outer s H vs Q E (hr.deeper _) hsp
  have I:Inv (cxOf CX P w K mg base N qual scope f cdv A outer s H E) [] (start N vs) H s1:=inv_start S hr.hd e0 hl r x
  refine wpAny_mono (ht [] s1 (start N vs) H _ I hq) (fun fl s' hs=>?_) fun e s' hs=>hs
  have fin:∀ {σ':St} {H':Hp} {v:V} {u:Value},Inv (cxOf CX P w K mg base N qual scope f cdv A outer s H E) [] σ' H' s'→RelV v u→Q v H'→CE outer P w H s Q u s' :=
    fun {σ' H' v u} J rv q=>⟨v,H',J.os,J.bare,J.base,J.hok,rv,q⟩
  cases fl with
  | ret u =>
    obtain ⟨v,σ',H',J,rv,q⟩:=hs
    exact fin J rv q
  | next =>
    obtain ⟨σ',H',J,q⟩:=hs
    exact fin (v:=V.non) (u:=Value.none) J rfl q
  | brk =>
    obtain ⟨_,_,_,q⟩:=hs
    exact False.elim q
  | cont =>
    obtain ⟨_,_,_,q⟩:=hs
    exact False.elim q
end L2
namespace L2
open PySem PySem.Spec PyProof.Rows
section
variable {X:Cx} {x:Str} {p pos:Pos} {e:Expr} {es:List Expr} {t:TA} {id T:String} {r:List V→Hp→VK→Prop}
def tCB (r:List V→Hp→VK→Prop) (t:TA):TE:=fun σ H Q=>t σ H fun vs H1=>r vs H1 Q
theorem pe_callB (hc:CallR X (.builtin id) r) (hg:Gl X x) (hm:X.mg x=none) (hv:bootBuiltins x=some (.builtin id)) (ha:PA X (e::es) t) (hn:x ≠ "__name__" := by decide) (hdb:(x==("__debug__" : Str))=false:=by decide)
    (he:starEach (e::es) X.env=(false,eval e X.env)::starEach es X.env:=by rfl) (hpl:(backTo pos (starEach es X.env)).any (·.1)=false:=by rfl):PE X (.Call (.Name x p) (e::es) [] pos) (tCB r t):=by
  intro pins s σ H Q I h
  refine wpAny_Call_Name_kw (ld_blt I hg hm hv ?_ hn hdb)
  exact PyProof.Rows.callWith_builtin1 (thn (ha pos pins s σ H _ I h) fun us s1 ⟨vs,H1,I1,r1,q1⟩=>hc pins s1 σ H1 vs us Q I1 r1 q1) he hpl
end
end L2
namespace HT
open PySem PyProof.Rows
section
open PySem.SeqAt
open PySem.AutoSeq1 (wpAny_loadPart')
open PySem.MeetsSeq PySem.MeetsSeq2 PySem.MeetsSeq3
end
section
variable {prog:Program} {w:World} {A:Around} {E:Value→Shared→Prop} {s:Shared}
def sIx (n d:Nat):Option Int→Nat
  | none=>d
  | some v=>if v<0 then (v+(n:Int)).toNat else min v.toNat n
end
end HT
namespace L2
open PySem PySem.Spec PyProof.Rows
abbrev TO:=St→Hp→(Option Int→Hp→Prop)→Prop
def PO (X:Cx) (e:Option Expr) (t:TO):Prop :=
  ∀ (pins:List (Addr×Obj)) (s:Shared) (σ:St) (H:Hp) (Q:Option Int→Hp→Prop),Inv X pins σ H s→t σ H Q →
    wpAny (model X.prog X.w) X.A (evalPart e X.env) (fun u s'=>∃ o H',Inv X pins σ H' s'∧IsPart u o∧Q o H') X.xe s
def tNoPart:TO:=fun _ H Q=>Q none H
def tPart (t:TE):TO:=fun σ H Q=>t σ H fun x H1=>∃ i,x=.int i∧Q (some i) H1
section
variable {X:Cx} {e:Expr} {te:TE} {lo hi:Option Expr} {tl th:TO} {pos p2:Pos}
theorem po_none:PO X none tNoPart:=by
  intro pins s σ H Q I h
  rw [evalPart_none]
  exact wpAny_pure ⟨none,H,I,.none,h⟩
theorem po_some (h:PE X e te):PO X (some e) (tPart te):=by
  intro pins s σ H Q I hw
  rw [evalPart_some]
  refine thn (h pins s σ H _ I hw) fun u s1 ⟨x,H1,I1,r1,q1⟩=>?_
  obtain ⟨i,rfl,q⟩:=q1
  obtain ⟨t,rfl⟩:=r1
  exact ⟨some i,H1,I1,.int i t,q⟩
def SlR (X:Cx) (r:V→Option Int→Option Int→Hp→VK→Prop):Prop :=
  ∀ (pins:List (Addr×Obj)) (s:Shared) (σ:St) (H:Hp) (x:V) (v vl vu:Value) (lo hi:Option Int) (sl:Addr) (Q:VK),Inv X pins σ H s→RelV x v→s.heap.IsSliceOf sl vl vu .none→IsPart vl lo→IsPart vu hi→r x lo hi H Q →
    ∃ T id,typeLookup (.type T) "__getitem__" = pure (some (.builtin id))∧s.TypeIs v T∧wpAny (model X.prog X.w) X.A (getItem v (.ref sl)) (EP X pins σ Q) X.xe s
def tSl (r:V→Option Int→Option Int→Hp→VK→Prop) (te:TE) (tl th:TO):TE:=fun σ H Q=>te σ H fun x H1=>tl σ H1 fun l H2=>th σ H2 fun u H3=>r x l u H3 Q
theorem pe_slice {r:V→Option Int→Option Int→Hp→VK→Prop} (hr:SlR X r) (he:PE X e te) (hl:PO X lo tl) (hu:PO X hi th):PE X (.Subscript e (.Slice lo hi none p2) pos) (tSl r te tl th):=by
  intro pins s σ H Q I h
  refine Subscript_ (thn (he pins s σ H _ I h) fun v s1 ⟨x,H1,I1,r1,q1⟩=>?_)
  refine wpAny_Slice (thn (hl pins s1 σ H1 _ I1 q1) fun vl s2 ⟨l,H2,I2,pl,q2⟩=>thn (hu pins s2 σ H2 _ I2 q2) fun vu s3 ⟨u,H3,I3,pu,q3⟩=>?_)
  rw [evalPart_none]
  refine wpAny_pure ?_
  have I4:Inv X pins σ H3 { s3 with heap:=s3.heap.push { cls:=.type "slice", data:=.fields #[vl,vu,.none] } }:=I3.kept (t':=s3.toks) fun b ob q=>Heap.get?_push_of_some _ q
  obtain ⟨T,id,hT,ht,hg⟩:=hr pins { s3 with heap:=s3.heap.push { cls:=.type "slice", data:=.fields #[vl,vu,.none] } } σ H3 x v vl vu l u s3.heap.objs.size Q I4 r1 (Heap.IsSliceOf.new ..) pl pu q3
  show wpAny (model X.prog X.w) X.A (subscriptTail e (.Slice lo hi none p2) v (.ref s3.heap.objs.size)) (EP X pins σ Q) X.xe { s3 with heap:=s3.heap.push { cls:=.type "slice", data:=.fields #[vl,vu,.none] } }
  exact tail_any (ops:=[.ref s3.heap.objs.size,v]) ht hT hg (by with_unfolding_all rfl)
def cutV (xs:List V) (lo hi:Option Int):List V:=(xs.drop (HT.sIx xs.length 0 lo)).take (HT.sIx xs.length xs.length hi-HT.sIx xs.length 0 lo)
theorem cutV_length (xs:List V) (lo hi:Option Int):(cutV xs lo hi).length≤xs.length:=by
  unfold cutV
  rw [List.length_take,List.length_drop]
  omega
end
end L2
namespace L2
open PySem PySem.Spec PyProof.Rows
def ixN (n:Nat) (i:Int):Option Nat:=if 0≤i then (if i<n then some i.toNat else none) else if -(n:Int)≤i then some (i+n).toNat else none
def atI {α:Type} (xs:List α) (i:Int):Option α:=(ixN xs.length i).bind fun j=>xs[j]?
theorem ixN_seq {n:Nat} {i:Int} {j:Nat} (h:ixN n i=some j):seqIndex? i n=some j∧j<n∧-(n:Int)≤i∧i<n:=by
  unfold ixN at h
  by_cases h0:0≤i
  · rw [if_pos h0] at h
    by_cases h1:i<n
    · rw [if_pos h1] at h
      have e:i.toNat=j:=Option.some.inj h
      exact ⟨by rw [seqIndex_of h0 h1,e],by omega,by omega,h1⟩
    · rw [if_neg h1] at h; cases h
  · rw [if_neg h0] at h
    by_cases h1:-(n:Int)≤i
    · rw [if_pos h1] at h
      have e:(i+n).toNat=j:=Option.some.inj h
      exact ⟨by rw [seqIndex_neg (by omega) h1,e],by omega,h1,by omega⟩
    · rw [if_neg h1] at h; cases h
theorem atI_get {α:Type} {xs:List α} {i:Int} {v:α} (h:atI xs i=some v):∃ j,seqIndex? i xs.length=some j∧xs[j]?=some v∧j<xs.length∧-(xs.length:Int)≤i∧i<xs.length:=by
  unfold atI at h
  cases e:ixN xs.length i with
  | none=>rw [e] at h; cases h
  | some j =>
    rw [e] at h
    obtain ⟨h1,h2,h3,h4⟩:=ixN_seq e
    exact ⟨j,h1,h,h2,h3,h4⟩
def PlainIx (b:Expr):Prop:=∀ o i,subscripted b false o i=operate [o,i] (getItem o i)
def IxR (X:Cx) (r:R2):Prop :=
  ∀ (value slice:Expr) (pins:List (Addr×Obj)) (s:Shared) (σ:St) (H:Hp) (x y:V) (v u:Value) (Q:VK),Inv X pins σ H s→RelV x v→RelV y u→r x y H Q →
    subscripted slice false v u=operate [v,u] (getItem v u)→wpAny (model X.prog X.w) X.A (subscriptTail value slice v u) (EP X pins σ Q) X.xe s
def MtR (X:Cx) (id:String) (r:V→List V→Hp→VK→Prop):Prop :=
  ∀ (pins:List (Addr×Obj)) (s:Shared) (σ:St) (H:Hp) (x:V) (xs:List V) (v:Value) (us:List Value) (Q:VK),Inv X pins σ H s→RelV x v→Vals xs us→r x xs H Q →
    wpAny (model X.prog X.w) X.A (call (.builtin id) (v::us)) (EP X pins σ Q) X.xe s
section
variable {X:Cx} {a b:Expr} {ta tb:TE} {pos:Pos}
theorem IxR.or {r r':R2} (h:IxR X r) (h':IxR X r'):IxR X (fun x y H Q=>r x y H Q∨r' x y H Q):=by
  intro value slice pins s σ H x y v u Q I rx ry q hs
  rcases q with q | q
  · exact h value slice pins s σ H x y v u Q I rx ry q hs
  · exact h' value slice pins s σ H x y v u Q I rx ry q hs
theorem pe_ix {r:R2} (hr:IxR X r) (ha:PE X a ta) (hb:PE X b tb) (hs:PlainIx b):PE X (.Subscript a b pos) (tOp r ta tb):=by
  intro pins s σ H Q I h
  exact Subscript_ (binT ha hb I h fun v u s2 x y H2 I2 rx ry q=>hr a b pins s2 σ H2 x y v u Q I2 rx ry q (hs _ _))
def rIxL (K:PySem.W.Frag):R2:=fun x y H Q=>∃ p xs i v,x=.ref p∧y=.int i∧SqL K H p xs∧atI xs i=some v∧Q v H
def rIxT (K:PySem.W.Frag):R2:=fun x y H Q=>∃ p xs i v,x=.ref p∧y=.int i∧SqT K H p xs∧atI xs i=some v∧Q v H
def rIxS:R2:=fun x y H Q=>∃ z i c,x=.str z∧y=.int i∧z.length≤sizeLine∧atI z.cps.toList i=some c∧Q (.str ⟨#[c]⟩) H
theorem ix_list:IxR X (rIxL X.K):=by
  intro value slice pins s σ H x y v u Q I rx ry h hs
  obtain ⟨p,xs,i,z,rfl,rfl,hq,he,q⟩:=h
  cases rx
  obtain ⟨t,rfl⟩:=ry
  obtain ⟨its,r,pl,hz⟩:=I.list hq
  obtain ⟨j,h1,h2,h3,h4,h5⟩:=atI_get he
  obtain ⟨w,ew,rw'⟩:=r.get h2
  have hl:=r.length
  have hn:=line63
  have fin:EP X pins σ Q w s:=⟨z,H,I,rw',q⟩
  by_cases h0:0≤i
  · have hj:i.toNat=j:=by
      rw [seqIndex_of h0 h5] at h1
      exact Option.some.inj h1
    exact item_listR pl.isList h0 (by omega) (by rw [hj]; simpa using ew) fin hs
  · have hj:(i+(its.toArray.size:Int)).toNat=j:=by
      rw [seqIndex_neg (by omega) h4] at h1
      rw [List.size_toArray,← hl]
      exact Option.some.inj h1
    exact subscriptTail_builtinR (x:=w) pl.isList.typeIs slot_list_getitem.lookup
      (wpAny_getItem_list_neg (Q:=fun r s'=>r=w∧EP X pins σ Q r s') pl.isList (by omega) (by rw [List.size_toArray] <;> omega) (by omega) (by rw [hj]; simpa using ew) ⟨rfl,fin⟩) hs
theorem ix_tup:IxR X (rIxT X.K):=by
  intro value slice pins s σ H x y v u Q I rx ry h hs
  obtain ⟨p,xs,i,z,rfl,rfl,hq,he,q⟩:=h
  cases rx
  obtain ⟨t,rfl⟩:=ry
  obtain ⟨its,r,pl,hz⟩:=I.tuple hq
  obtain ⟨j,h1,h2,h3,h4,h5⟩:=atI_get he
  obtain ⟨w,ew,rw'⟩:=r.get h2
  have hl:=r.length
  have hn:=line63
  have fin:EP X pins σ Q w s:=⟨z,H,I,rw',q⟩
  exact subscriptTail_builtinR (x:=w) pl.typeIs slot_tuple_getitem.lookup
    (getItem_tuple (j:=j) (Q:=fun r s'=>r=w∧EP X pins σ Q r s') pl (by omega) (by omega) (by rw [List.size_toArray,← hl]; exact h1) (by simpa using ew) ⟨rfl,fin⟩) hs
theorem ix_str:IxR X rIxS:=by
  intro value slice pins s σ H x y v u Q I rx ry h hs
  obtain ⟨z,i,c,rfl,rfl,hz,he,q⟩:=h
  obtain ⟨t,rfl⟩:=rx
  obtain ⟨t',rfl⟩:=ry
  obtain ⟨j,h1,h2,h3,h4,h5⟩:=atI_get he
  have hl:z.cps.toList.length=z.length:=by simp [Str.length]
  rw [hl] at h1 h4 h5
  have hn:=line63
  exact tail_any (typeIs_str s z t) slot_str_getitem.lookup (getItem_str (c:=c) (by
    have e1:decide (i < -(2 ^ 63:Int))=false:=decide_eq_false (by omega)
    have e2:decide (i ≥ 2 ^ 63)=false:=decide_eq_false (by omega)
    rw [e1,e2,Bool.or_false]) (by rw [h1]; simpa using h2) ⟨.str ⟨#[c]⟩,H,I.tok _,⟨_,rfl⟩,q⟩) hs
def rIx (K:PySem.W.Frag):R2:=fun x y H Q=>rIxL K x y H Q∨rIxT K x y H Q∨rIxS x y H Q
theorem ix_seq:IxR X (rIx X.K):=ix_list.or (ix_tup.or ix_str)
theorem slice_bounds (lo hi:Option Int) (n:Nat):(sliceBounds lo hi none n).1=((HT.sIx n 0 lo:Nat):Int)∧(sliceBounds lo hi none n).2.1=((HT.sIx n n hi:Nat):Int)∧(sliceBounds lo hi none n).2.2=1:=by
  refine ⟨?_,?_,rfl⟩
  · cases lo with
    | none=>simp [sliceBounds,HT.sIx]
    | some i =>
      simp only [sliceBounds,HT.sIx,Option.getD_none,show (1:Int) > 0 by decide,if_true]
      by_cases h:i<0
      · simp only [h,if_true] <;> omega
      · simp only [h,if_false] <;> omega
  · cases hi with
    | none=>simp [sliceBounds,HT.sIx]
    | some i =>
      simp only [sliceBounds,HT.sIx,Option.getD_none,show (1:Int) > 0 by decide,if_true]
      by_cases h:i<0
      · simp only [h,if_true] <;> omega
      · simp only [h,if_false] <;> omega
theorem slicePick_cut (its:List Value) (lo hi:Option Int):slicePick its.toArray lo hi none=((its.drop (HT.sIx its.length 0 lo)).take (HT.sIx its.length its.length hi-HT.sIx its.length 0 lo)).toArray:=by
  obtain ⟨h1,h2,h3⟩:=slice_bounds lo hi its.toArray.size
  unfold slicePick
  rw [h1,h2,h3]
  simp only [sliceRange_one,pick_run,List.size_toArray] <;> rfl
def rSlL (K:PySem.W.Frag):V→Option Int→Option Int→Hp→VK→Prop:=fun x lo hi H Q=>∃ a xs,x=.ref a∧SqL K H a xs∧∀ p,H p=none→Q (.ref p) (upd H p (.lst (cutV xs lo hi)))
theorem sl_list:SlR X (rSlL X.K):=by
  intro pins s σ H x v vl vu lo hi sl Q I rx hs pl pu h
  obtain ⟨a,xs,rfl,hx,q⟩:=h
  cases rx
  obtain ⟨its,r,ht,hz⟩:=I.list hx
  have hlen:=r.length
  refine ⟨"list", _,slot_list_getitem.lookup,ht.isList.typeIs,?_⟩
  refine wpAny_getItem_list_slice ht.isList hs pl pu .none (by simp) ?_ (by rw [List.size_toArray] <;> omega)
  rw [slicePick_cut,← hlen]
  refine ⟨.ref s.heap.objs.size,_,I.laid (t':=s.toks) (o:=.lst (cutV xs lo hi)) (fun b ob q=>Heap.get?_push_of_some _ q) (Nat.le_refl _) ?_,rfl,q _ (I.hok.fresh (Nat.le_refl _))⟩
  exact ⟨Nat.le_trans (cutV_length xs lo hi) hz,_,0,(r.drop (HT.sIx xs.length 0 lo)).take (HT.sIx xs.length xs.length hi-HT.sIx xs.length 0 lo),Heap.get?_push_size _ rfl⟩
def flatV:V→Bool
  | .non=>true
  | .bl _=>true
  | .int _=>true
  | .str _=>true
  | _=>false
def eqV:V→V→Bool
  | .non,.non=>true
  | .bl a,.bl b=>a==b
  | .bl a,.int b=>(if a then 1 else 0)==b
  | .int a,.bl b=>a==(if b then 1 else 0)
  | .int a,.int b=>a==b
  | .str a,.str b=>a==b
  | _,_=>false
theorem eqAt_V {A:Around} {s:Shared} {y x:V} {u v:Value} (ry:RelV y u) (rx:RelV x v) (fy:flatV y=true) (fx:flatV x=true):SeqAt.EqAt A s u v (eqV y x):=by
  cases y with
  | non =>
    cases ry
    cases x with
    | non=>cases rx; exact SeqAt.EqAt.same _
    | bl b=>cases rx; exact SeqAt.EqAt.none_bool b
    | int b=>obtain ⟨t,rfl⟩:=rx; exact SeqAt.EqAt.none_int b t
    | str b=>obtain ⟨t,rfl⟩:=rx; exact SeqAt.EqAt.none_str b t
    | _=>exact absurd (show false=true from fx) Bool.false_ne_true
  | bl a =>
    cases ry
    cases x with
    | non=>cases rx; exact SeqAt.EqAt.bool_none a
    | bl b=>cases rx; exact SeqAt.EqAt.bool_bool a b
    | int b=>obtain ⟨t,rfl⟩:=rx; exact SeqAt.EqAt.bool_int a b t
    | str b=>obtain ⟨t,rfl⟩:=rx; exact SeqAt.EqAt.bool_str a b t
    | _=>exact absurd (show false=true from fx) Bool.false_ne_true
  | int a =>
    obtain ⟨t',rfl⟩:=ry
    cases x with
    | non=>cases rx; exact SeqAt.EqAt.int_none a t'
    | bl b=>cases rx; exact SeqAt.EqAt.int_bool a t' b
    | int b=>obtain ⟨t,rfl⟩:=rx; exact SeqAt.EqAt.int_int a t' b t
    | str b=>obtain ⟨t,rfl⟩:=rx; exact SeqAt.EqAt.int_str a t' b t
    | _=>exact absurd (show false=true from fx) Bool.false_ne_true
  | str a =>
    obtain ⟨t',rfl⟩:=ry
    cases x with
    | non=>cases rx; exact SeqAt.EqAt.str_none a t'
    | bl b=>cases rx; exact SeqAt.EqAt.str_bool a t' b
    | int b=>obtain ⟨t,rfl⟩:=rx; exact SeqAt.EqAt.str_int a t' b t
    | str b=>obtain ⟨t,rfl⟩:=rx; exact SeqAt.EqAt.str_str a t' b t
    | _=>exact absurd (show false=true from fx) Bool.false_ne_true
  | _=>exact absurd (show false=true from fy) Bool.false_ne_true
def eqU (x:V) (u:Value):Bool:=match u with
  | .none=>eqV .non x
  | .bool b=>eqV (.bl b) x
  | .int i _=>eqV (.int i) x
  | .str z _=>eqV (.str z) x
  | _=>false
theorem eqU_of {x y:V} {u:Value} (r:RelV y u) (f:flatV y=true):eqU x u=eqV y x:=by
  cases y with
  | non=>cases r; rfl
  | bl b=>cases r; rfl
  | int i=>obtain ⟨t,rfl⟩:=r; rfl
  | str z=>obtain ⟨t,rfl⟩:=r; rfl
  | _=>exact absurd (show false=true from f) Bool.false_ne_true
theorem any_eqU {x:V}:∀ {xs:List V} {us:List Value},Vals xs us→xs.all flatV=true→us.any (eqU x)=xs.any fun y=>eqV y x
  | _,_,.nil,_=>rfl
  | y::xs,u::us,.cons r t,f=>by
    rw [List.all_cons,Bool.and_eq_true] at f
    rw [List.any_cons,List.any_cons,eqU_of r f.1,any_eqU t f.2]
theorem mem_eqAt {A:Around} {s:Shared} {x:V} {v:Value} (rx:RelV x v) (fx:flatV x=true):∀ {xs:List V} {us:List Value},Vals xs us→xs.all flatV=true→∀ u∈us,SeqAt.EqAt A s u v (eqU x u)
  | _,_,.nil,_=>fun u hu=>by cases hu
  | y::xs,u::us,.cons r t,f=>fun u' hu=>by
    rw [List.all_cons,Bool.and_eq_true] at f
    rcases List.mem_cons.mp hu with rfl | hu
    · rw [eqU_of r f.1]; exact eqAt_V r rx f.1 fx
    · exact mem_eqAt rx fx t f.2 u' hu
def inV (x:V) (xs:List V):Bool:=xs.any fun y=>eqV y x
def rIn (K:PySem.W.Frag) (neg:Bool):R2:=fun x y H Q=>∃ p xs,y=.ref p∧(SqL K H p xs∨SqT K H p xs)∧flatV x=true∧xs.all flatV=true∧Q (.bl (if neg then !inV x xs else inV x xs)) H
theorem op_in_seq:OpR X (compareOp .In) (rIn X.K false):=by
  intro pins s σ H x y v u Q I rx ry h
  obtain ⟨p,xs,rfl,hq,fx,fs,q⟩:=h
  cases ry
  rcases hq with hq | hq
  · obtain ⟨its,r,pl,hz⟩:=I.list hq
    refine SeqAt.in_listAt (eqU x) pl.isList (fun w hw=>mem_eqAt rx fx r fs w (by simpa using hw)) ⟨.bl _,H,I,rfl,?_⟩
    rw [show its.toArray.any (eqU x)=its.any (eqU x) by simp,any_eqU r fs]
    exact q
  · obtain ⟨its,r,pl,hz⟩:=I.tuple hq
    refine SeqAt.in_tupleAt (eqU x) pl (fun w hw=>mem_eqAt rx fx r fs w (by simpa using hw)) ⟨.bl _,H,I,rfl,?_⟩
    rw [show its.toArray.any (eqU x)=its.any (eqU x) by simp,any_eqU r fs]
    exact q
def tyV (K:PySem.W.Frag) (T:String) (x:V) (H:Hp):Prop:=match x with
  | .str _=>T = "str"
  | .int _=>T = "int"
  | .ref p=>(T = "list" ∧ ∃ xs,SqL K H p xs)∨(T = "tuple" ∧ ∃ o,K.lookup p=some o∧o.cls=.type "tuple" ∧ o.dict=none) ∨
      (T = "dict" ∧ ((∃ kvs,H p=some (.dK kvs))∨∃ kvs,H p=some (.dT kvs)))∨(T = "set" ∧ ∃ S n,H p=some (.set S n))
  | _=>False
theorem tyV_is {pins:List (Addr×Obj)} {σ:St} {H:Hp} {s:Shared} {T:String} {x:V} {v:Value} (I:Inv X pins σ H s) (r:RelV x v) (ty:tyV X.K T x H) :
    s.TypeIs v T∧∀ a,v=.ref a→∃ ob,s.heap.get? a=some ob∧ob.dict=none:=by
  cases x with
  | str z =>
    obtain ⟨t,rfl⟩:=r
    cases (show T = "str" from ty)
    exact ⟨typeIs_str s z t,fun _ e=>nomatch e⟩
  | int i =>
    obtain ⟨t,rfl⟩:=r
    cases (show T = "int" from ty)
    exact ⟨typeIs_int s i t,fun _ e=>nomatch e⟩
  | ref p =>
    cases r
    rcases ty with ⟨rfl,xs,hq⟩ | ⟨rfl,o,hk,hc,hd⟩ | ⟨rfl,hk⟩ | ⟨rfl,S,n,hk⟩
    · obtain ⟨its,_,pl,_⟩:=I.list hq
      refine ⟨pl.isList.typeIs,fun a e=>?_⟩
      cases e
      obtain ⟨o,n,e,c,hd,_⟩:=pl
      exact ⟨o,e,hd⟩
    · refine ⟨⟨o,I.kIn p o hk,hc⟩,fun a e=>?_⟩
      cases e
      exact ⟨o,I.kIn _ o hk,hd⟩
    · have z:∃ o,s.heap.get? p=some o∧o.ExactDict:=by
        rcases hk with ⟨kvs,hk⟩ | ⟨kvs,hk⟩
        · obtain ⟨_,_,_,_,o,_,_,e,ex,_⟩:=I.hok p _ hk
          exact ⟨o,e,ex⟩
        · obtain ⟨_,_,_,_,o,_,_,e,ex,_⟩:=I.hok p _ hk
          exact ⟨o,e,ex⟩
      obtain ⟨o,e,ex⟩:=z
      refine ⟨⟨o,e,ex.1⟩,fun a e2=>?_⟩
      cases e2
      exact ⟨o,e,ex.2.1⟩
    · obtain ⟨o,_,_,_,e,ex,_⟩:=I.hok p _ hk
      refine ⟨⟨o,e,ex.1⟩,fun a e2=>?_⟩
      cases e2
      exact ⟨o,e,ex.2.1⟩
  | _=>exact False.elim ty
def tBM0 (K:PySem.W.Frag) (T:String) (r:V→List V→Hp→VK→Prop) (to:TE):TE:=fun σ H Q=>to σ H fun x H1=>tyV K T x H1∧r x [] H1 Q
def tBM (K:PySem.W.Frag) (T:String) (r:V→List V→Hp→VK→Prop) (to:TE) (t:TA):TE:=fun σ H Q=>to σ H fun x H1=>tyV K T x H1∧t σ H1 fun xs H2=>r x xs H2 Q
variable {o e:Expr} {es:List Expr} {to:TE} {t:TA} {name:Str} {apos cpos:Pos} {T id:String} {r:V→List V→Hp→VK→Prop}
theorem pe_bm0 (pa:PlainAttrs T) (slot:Slot T name id) (hty:typeOf (.builtin id)=pure (.type "method_descriptor")) (hm:MtR X id r) (ho:PE X o to)
    (hbase:attributeBase o name X.env (eval o X.env)=eval o X.env:=by rfl) (hline:(apos.endLine==cpos.line)=true:=by rfl):PE X (.Call (.Attribute o name apos) [] [] cpos) (tBM0 X.K T r to):=by
  intro pins s σ H Q I h
  refine wpAny_Call_method0_late hbase hline (thn (ho pins s σ H _ I h) fun v s1 ⟨x,H1,I1,r1,ty,q1⟩=>?_)
  obtain ⟨h1,h2⟩:=tyV_is I1 r1 ty
  exact ⟨T,id,pa,slot,hty,h1,h2,Calls.callWith_builtin rfl (PySem.evalArgs_none (hm pins s1 σ H1 x [] v [] Q I1 r1 .nil q1))⟩
theorem pe_bm (pa:PlainAttrs T) (slot:Slot T name id) (hty:typeOf (.builtin id)=pure (.type "method_descriptor")) (hm:MtR X id r) (ho:PE X o to) (ha:PA X (e::es) t)
    (hbase:attributeBase o name X.env (eval o X.env)=eval o X.env:=by rfl)
    (hfew:((backTo cpos (starEach (e::es) X.env)).all (fun x=>!x.1)&&(backToKw cpos (keywordEach [] X.env)).all (fun x=>x.1.isSome)
      && decide ((e::es).length+([]:List Keyword).length+(if ([]:List Keyword).isEmpty then 0 else 1)<30))=true:=by rfl)
    (hline:(apos.endLine==cpos.line)=true:=by rfl) (hs:starEach (e::es) X.env=(false,eval e X.env)::starEach es X.env:=by rfl) (hplain:(backTo cpos (starEach es X.env)).any (·.1)=false:=by rfl) :
    PE X (.Call (.Attribute o name apos) (e::es) [] cpos) (tBM X.K T r to t):=by
  intro pins s σ H Q I h
  refine wpAny_Call_method_late hbase hfew hline rfl (thn (ho pins s σ H _ I h) fun v s1 ⟨x,H1,I1,r1,ty,q1⟩=>?_)
  obtain ⟨h1,h2⟩:=tyV_is I1 r1 ty
  refine ⟨T,id,pa,slot,hty,h1,h2,?_⟩
  have hA:=ha cpos pins s1 σ H1 _ I1 q1
  rw [hs] at hA ⊢
  refine Calls.callWith_builtin (by show (false || (backTo cpos (starEach es X.env)).any (·.1))=false; rw [hplain] <;> rfl) (Calls.evalArgs_plain ?_)
  exact thn hA fun us s2 ⟨vs,H2,I2,r2,q2⟩=>hm pins s2 σ H2 x vs v us Q I2 r1 r2 q2
end
end L2
namespace L2
open PySem PySem.Spec PyProof.Rows
def MtM (X:Cx) (id:String) (r:V→List V→Hp→VK→Prop):Prop :=
  ∀ (pins:List (Addr×Obj)) (s:Shared) (σ:St) (H:Hp) (x:V) (xs:List V) (v:Value) (us:List Value) (Q:VK),Inv X pins σ H s→RelV x v→Vals xs us→r x xs H Q →
    wpAny (model X.prog X.w) X.A (call (.builtin id) (v::us)) (EP X pins σ Q) X.xe s
theorem Vals.one:∀ {x:V} {us:List Value},Vals [x] us→∃ u,us=[u]∧RelV x u
  | _,_,.cons r .nil=>⟨_,rfl,r⟩
theorem Vals.eraseIdx:∀ {xs:List V} {us:List Value} (i:Nat),Vals xs us→Vals (xs.eraseIdx i) (us.eraseIdx i)
  | _,_,_,.nil=>.nil
  | _,_,0,.cons _ t=>t
  | _,_,i+1,.cons r t=>.cons r (Vals.eraseIdx i t)
theorem len_erase {α:Type}:∀ (l:List α) (i:Nat),(l.eraseIdx i).length≤l.length
  | [],_=>Nat.le_refl _
  | _::_,0=>Nat.le_succ _
  | _::r,i+1=>Nat.succ_le_succ (len_erase r i)
section
variable {X:Cx} {pins:List (Addr×Obj)} {σ:St} {H:Hp} {s:Shared} {l b:Addr} {xs ys zs:List V}
theorem Inv.lset {its its':List Value} {n:Nat} {f:Array Value→Array Value} {t':Nat} (I:Inv X pins σ H s) (hH:H l=some (.lst xs))
    (e:s.heap.get? l=some { cls:=.type "list", data:=.seq its.toArray n }) (hf:f its.toArray=its'.toArray) (hv:Vals ys its') (hz:ys.length≤sizeLine) :
    Inv X pins σ (upd H l (.lst ys)) { s with heap:=s.heap.update l (Obj.mapSeq f),toks:=t' }:=by
  have q:=PySem.IsL.update e f
  rw [hf] at q
  refine I.write (x:=l) (e:=l) (by rw [hH]; exact trivial) (.inl rfl) (fun b' u hb hu=>(Heap.get?_update_other s.heap (Obj.mapSeq f) (Ne.symm hb)).trans hu) ⟨_,q⟩ ?_
  exact ⟨hz,its',_,hv,q⟩
theorem Inv.lnew {its:List Value} {t':Nat} (I:Inv X pins σ H s) (hv:Vals ys its) (hz:ys.length≤sizeLine) :
    Inv X pins σ (upd H s.heap.objs.size (.lst ys)) { s with heap:=s.heap.push { cls:=.type "list", data:=.seq its.toArray },toks:=t' } :=
  I.laid (fun _ _ q=>Heap.get?_push_of_some _ q) (Nat.le_refl _) ⟨hz,its,0,hv,Heap.get?_push_size _ rfl⟩
theorem Inv.fresh (I:Inv X pins σ H s):H s.heap.objs.size=none:=I.hok.fresh (Nat.le_refl _)
theorem Inv.lstM (I:Inv X pins σ H s) (hH:H l=some (.lst xs)):xs.length≤sizeLine∧∃ (its:List Value) (n:Nat),Vals xs its∧xs.length=its.length∧s.heap.get? l=some { cls:=.type "list", data:=.seq its.toArray n }:=by
  obtain ⟨z,its,n,r,e⟩:=I.hok l _ hH
  exact ⟨z,its,n,r,r.length,e⟩
end
section
variable {X:Cx}
def rAppend:V→List V→Hp→VK→Prop:=fun x vs H Q=>∃ l xs y,x=.ref l∧vs=[y]∧H l=some (.lst xs)∧xs.length<sizeLine∧Q .non (upd H l (.lst (xs++[y])))
theorem mt_append:MtM X "list.append" rAppend:=by
  intro pins s σ H x vs v us Q I rx rv h
  obtain ⟨l,xs,y,rfl,rfl,hH,hz,q⟩:=h
  cases rx
  obtain ⟨u,rfl,ru⟩:=rv.one
  obtain ⟨z,its,n,r,hl,e⟩:=I.lstM hH
  refine call_meets F.slot_list_append ⟨_,e,rfl⟩ F.entry_list_append (F.args_list_append_2 _ _) (PySem.list_append l its.toArray n u (by rw [List.size_toArray]; omega)) ⟨e,?_⟩
  refine ⟨.non,_,I.lset (its':=its++[u]) hH e (by simp) (r.append (.cons ru .nil)) ?_,rfl,q⟩
  rw [List.length_append,List.length_singleton]
  omega
def rPopAt:V→List V→Hp→VK→Prop:=fun x vs H Q=>∃ l xs i k y,x=.ref l∧vs=[.int i]∧H l=some (.lst xs)∧-(2 ^ 63)≤i∧i<2 ^ 63∧seqIndex? i xs.length=some k∧xs[k]?=some y∧Q y (upd H l (.lst (xs.eraseIdx k)))
theorem mt_popAt:MtM X "list.pop" rPopAt:=by
  intro pins s σ H x vs v us Q I rx rv h
  obtain ⟨l,xs,i,k,y,rfl,rfl,hH,h1,h2,hk,hy,q⟩:=h
  cases rx
  obtain ⟨u,rfl,ru⟩:=rv.one
  obtain ⟨t,rfl⟩:=ru
  obtain ⟨z,its,n,r,hl,e⟩:=I.lstM hH
  obtain ⟨w,hw,rw'⟩:=r.get hy
  refine call_meets F.slot_list_pop ⟨_,e,rfl⟩ F.entry_list_pop (F.args_list_pop_2 _ _)
    (MeetsSeq.list_pop_at l its.toArray n i t k w (fitsIndex_both h1 h2) (by rw [List.size_toArray,← hl]; exact hk) (by rw [← Array.getElem?_toList]; exact hw) (by rw [List.size_toArray]; omega)) ⟨e,?_⟩
  refine ⟨y,_,I.lset (its':=its.eraseIdx k) hH e ?_ (r.eraseIdx k) ?_,rw',q⟩
  · show its.toArray.eraseIdxIfInBounds k=(its.eraseIdx k).toArray
    rw [List.eraseIdxIfInBounds_toArray]
  · have:=len_erase xs k
    omega
end
section
variable {prog:Program} {w:World} {A:Around} {E:Value→Shared→Prop} {s:Shared}
end
section
variable {X:Cx}
end
end L2
namespace Att
open PySem PySem.W PySem.Calls PyProof.Rows
theorem ints_of_wellAll {P:Params} {h:Heap}:∀ (ns:List Int) (vs:List Value),WellAll P h vs (ns.map WData.int)→IntsAre vs ns:=by
  intro ns
  induction ns with
  | nil =>
    intro vs w
    rw [List.map_nil] at w
    cases w
    exact .nil
  | cons n ns ih =>
    intro vs w
    rw [List.map_cons] at w
    cases w with
    | cons a b =>
      cases a
      exact .cons _ _ (ih _ b)
theorem script_of {l:OpenLaw} {n:Nat} (hn:l.most=some n) {P:Params} {h:Heap} {args:List WData} {vals:List Value}
    (hpre:l.row.toRowW.claim.pre args=true) (hwl:WellAll P h vals args) :
    ∃ a vs ns,vals=[Value.ref a]∧args=[WData.list (ns.map WData.int)]∧h.get? a=some { cls:=.type "list", data:=.seq vs.toArray }∧IntsAre vs ns∧ns.length≤n:=by
  have hsh:WShape.hasAll [] args [.list .int]=true:=(pre_splitW hpre).1
  have hc:l.pre.holds [] { args:=args }=true:=(pre_splitW hpre).2
  obtain ⟨d,r,rfl,h1,h2⟩:=hasAllW_cons hsh
  obtain rfl:=hasAllW_nil h2
  obtain ⟨xs,rfl,h3⟩:=hasW_list h1
  obtain ⟨ns,rfl⟩:=items_int h3
  have hlen:ns.length≤n:=by
    unfold OpenLaw.pre at hc
    have h4:(WTm.not (.lt (.lit (.int (n:Int))) (.len (.arg 0)))).holds [] { args:=[.list (ns.map .int)] }=true:=by
      have h4:=(holds_andW hc).1
      rw [hn] at h4
      exact h4
    have h5:=condW_of h4 (w_not (w_lt w_lit (w_len_list (w_arg rfl))))
    rw [List.length_map] at h5
    refine Nat.le_of_not_lt fun q=>?_
    have q':(n:Int)<((ns.length:Nat):Int):=by omega
    first
      | (rw [decide_eq_true q'] at h5; exact absurd h5 (by decide))
      | (simp at h5; omega)
  cases hwl with
  | cons w1 w2 =>
    cases w2
    cases w1 with
    | list ho hall=>exact ⟨_,_,ns,rfl,rfl,ho,ints_of_wellAll ns _ hall,hlen⟩
theorem post_true (l:OpenLaw) (args:List WData):l.row.toRowW.claim.post args (.bool true) args=true :=
  postW_of (r:=l.row.toRowW) (X:=(true==true))
    (show WShape.has [] (.bool true) .bool=true by first | rfl | decide | simp [WShape.has,WShape.arms,WShape.armsAll])
    (show (WTm.eq .res (.lit (.bool true))).value [] { args:=args,res:=some (.bool true),after:=args }=some (.bool (true==true)) from w_eq_bool (w_res rfl) w_lit) rfl
section
variable {prog:Program} {w:World} {A:Around} {E:Value→Shared→Prop} {s:Shared} {K:Frag}
def ledger (h:Heap) (L d:Addr):List (Addr×Obj):=(List.range h.objs.size).filterMap fun a=>if a=L∨a=d then none else (h.get? a).map fun o=>(a,o)
end
end Att
namespace L2
open PySem PySem.Spec PyProof.Rows
theorem vals_ints:∀ {vs:List Value} {ns:List Int},IntsAre vs ns→Vals (ns.map V.int) vs
  | _,_,.nil=>.nil
  | _,_,.cons n t h=>.cons ⟨t,rfl⟩ (vals_ints h)
def Only (H:Hp):Prop:=∀ b,H b=none∨∃ o xs,H b=some (.frz o (.lst xs))
theorem law_call {P:Program} {w:World} {K:PySem.W.Frag} {mg mb:Str→Option Value} {CX:CXT} {k:Nat} {fa a:Addr} {fd:FuncData} {x:Str} {sp:Sp} {s₁:Shared} {vs:List Value} {ns:List Int}
    (KX:K.In s₁.heap) (hns:s₁.heap.Ns mainGlobals mg) (hb:s₁.heap.Ns builtinsNs mb) (hbb:∀ x:Str,x ≠ "__name__" → mb x=bootBuiltins x) (hlim:s₁.heap.NoLimit) (hg:s₁.gens=#[])
    (ha:s₁.heap.get? a=some { cls:=.type "list", data:=.seq vs.toArray }) (hi:IntsAre vs ns) (hl:ns.length≤sizeLine) (hr:Room k callerA)
    (F:∀ base:Heap,K.In base→base.Ns mainGlobals mg→FnOk P w K mg base CX k fa fd [x] sp) (hbind:∀ (s:Shared) (u:Value),BindsTo s fd ⟨[u],[]⟩ [(x,u)])
    (hsp:∀ H:Hp,Only H→SqL K H a (ns.map V.int)→sp [.ref a] H (fun v _=>v=.bl true) fun _ _ _=>False)
    (hCX:∀ H e s',CX [] H s₁ (fun _ _ _=>False) e s'→False) :
    codeAny (model P w) callerA (.call (.ref fa) ⟨[.ref a],[]⟩) (fun r s'=>r=.ok (.ret (.bool true))∧OldK s₁.heap s'.heap∧s'.os=s₁.os∧AllBare s'.gens) s₁:=by
  have rv:=vals_ints hi
  have lenV:=hi.length
  have core:∀ H:Hp,Only H→SqL K H a (ns.map V.int)→HOk P w H s₁.heap→(∀ b,H b≠none→b=a)→(H a≠none→K.lookup a=none) →
      codeAny (model P w) callerA (.call (.ref fa) ⟨[.ref a],[]⟩) (fun r s'=>r=.ok (.ret (.bool true))∧OldK s₁.heap s'.heap∧s'.os=s₁.os∧AllBare s'.gens) s₁:=by
    intro H hO hS hok hA hK
    have base_of:∀ {b:Addr} {o:Obj},s₁.heap.get? b=some o→H b=none→(hidT s₁.heap H).get? b=some o:=fun e n=>hidT_get e n
    have noA:∀ {b:Addr} {o:Obj} {es:Array DictEntry} {ep:Nat},s₁.heap.get? b=some o→o.data=.dict es ep→H b=none:=fun {b o es ep} e d=>by
      cases q:H b with
      | none=>rfl
      | some u =>
        have e':b=a:=hA b (by rw [q]; simp)
        subst e'
        rw [ha] at e; cases e
        have d':Data.seq vs.toArray _=Data.dict es ep:=d
        cases d'
    have nsK:∀ {b:Addr} {m:Str→Option Value},s₁.heap.Ns b m→(hidT s₁.heap H).Ns b m:=fun {b m} ⟨o,es,ep,e,d,r⟩=>⟨o,es,ep,base_of e (noA e d),d,r⟩
    have hKb:K.In (hidT s₁.heap H):=fun b o e=>base_of (KX b o e) (by
      cases q:H b with
      | none=>rfl
      | some u =>
        have e':b=a:=hA b (by rw [q]; simp)
        subst e'
        rw [hK (by rw [q]; simp)] at e; cases e)
    have hM:Mod K mg (hidT s₁.heap H):=⟨hKb,nsK hns,⟨mb,nsK hb,hbb⟩,let ⟨mc,h1,h2⟩:=hlim; ⟨mc,nsK h1,h2⟩⟩
    have e0:Env0 P w K mg (hidT s₁.heap H) callerA [] s₁ H:=⟨rfl,hM,fun b o e=>of_hidT e,Nat.le_of_eq (hidT_size _ _),trivial,fun b hb=>absurd (show b∈([]:List Addr) from hb) (by simp),hok,.of_eq hg⟩
    refine codeAny_mono ((F _ hKb (nsK hns)).run callerA [] s₁ H ⟨[.ref a],[]⟩ [.ref a] [.ref a] _ _ hr e0 (hbind s₁ (.ref a)) (.cons rfl .nil) (hsp H hO hS)) fun r s' h=>?_
    cases r with
    | error e=>exact (hCX H e s' h).elim
    | ok fl =>
      cases fl with
      | next=>exact False.elim h
      | brk=>exact False.elim h
      | cont=>exact False.elim h
      | ret u =>
        obtain ⟨v,H',os,bare,un,hok',r',q⟩:=h
        have q':v=.bl true:=q
        subst q'
        obtain rfl:u=Value.bool true:=r'
        refine ⟨rfl,OldK.of_keep fun b o e=>?_,os,bare⟩
        cases q:H b with
        | none=>exact un.keep b o e q (by intro z; exact absurd (show b∈([]:List Addr) from z) (by simp)) (by simp)
        | some u =>
          rcases hO b with z | ⟨ob,xs,z⟩
          · rw [q] at z; cases z
          · have z2:=un.frzs b ob _ z
            obtain ⟨e1,_⟩:=hok b _ z
            obtain ⟨e2,_⟩:=hok' b _ z2
            rw [e] at e1; cases e1
            exact e2
  cases hk:K.lookup a with
  | some o =>
    have e:=KX a o hk
    rw [ha] at e
    cases e
    refine core (fun _=>none) (fun _=>.inl rfl) (.inr ⟨_,vs.toArray,_,hk,rfl,rfl,rfl,by rw [List.size_toArray,lenV]; exact hl,by simpa using rv⟩) (fun b u z=>by have z':(none:Option HO)=some u:=z; cases z') (fun b z=>absurd rfl z) fun z=>absurd rfl z
  | none =>
    refine core (fun b=>if b=a then some (.frz { cls:=.type "list", data:=.seq vs.toArray } (.lst (ns.map V.int))) else none) (fun b=>?_) (.inl (.inr ⟨{ cls:=.type "list", data:=.seq vs.toArray },if_pos rfl⟩)) (fun b u z=>?_) (fun b z=>?_) fun _=>hk
    · by_cases hb:b=a
      · exact .inr ⟨_,_,if_pos hb⟩
      · exact .inl (if_neg hb)
    · by_cases hb:b=a
      · have z':=(if_pos hb).symm.trans z
        cases z'
        subst hb
        exact ⟨ha,by rw [List.length_map]; exact hl,vs,_,rv,ha⟩
      · have z':=(if_neg hb).symm.trans z
        cases z'
    · by_cases hb:b=a
      · exact hb
      · exact absurd (if_neg hb) z
end L2
namespace L2
open PySem PySem.Spec PyProof.Rows
abbrev KOf {K:PySem.W.Frag} {h:Heap} (_:K.In h):PySem.W.Frag:=K
end L2
namespace L2
open PySem PySem.Spec PyProof.Rows
def defArgs (s:Stmt):Arguments:=match s with
  | .FunctionDef _ a _ _ _ _ _ _ _ _=>a
  | _=>{ posonlyargs:=[],args:=[],vararg:=none,kwonlyargs:=[],kw_defaults:=[],kwarg:=none,defaults:=[] }
def defBody (s:Stmt):List Stmt:=match s with
  | .FunctionDef _ _ b _ _ _ _ _ _ _=>b
  | _=>[]
def defScope (s:Stmt):Scope:=match s with
  | .FunctionDef _ _ _ _ _ _ sc _ _ _=>sc
  | _=>{ kind:=.function,names:=[],isGenerator:=false,isCoroutine:=false }
abbrev CX0:CXT:=fun _ _ _ _ _ _=>False
abbrev E0:XK:=fun _ _ _=>False
theorem pass0 {X:Cx}:Passes CX0 X E0:=fun _ _ _ _ _ _ _ h=>h.elim
structure Fun (K:PySem.W.Frag) (x qual:Str) (st:Stmt) (f:Addr) (fd:FuncData):Prop where
  ex:∃ (oc:Value) (od:Option Addr) (kV doc pm:Value) (an:Option Addr) (cdv ct:Value) (osl:Array (Option Value)),
    fd=PySem.W.fnOf x qual (defArgs st) (defBody st) (defScope st) .none kV doc pm an cdv ct∧K.lookup f=some ⟨oc,od,.func fd,osl⟩∧PySem.W.codeIn K cdv qual=true
  kp:PySem.W.keepIn K (.ref f)=true
section
variable {P:Program} {w:World} {K:PySem.W.Frag} {mg:Str→Option Value} {base:Heap}
theorem Fun.ok {x qual:Str} {st:Stmt} {f:Addr} {fd:FuncData} {N ps:List Str} {k:Nat} {sp:Sp} (F:Fun K x qual st f fd) (S:FnScope N ps (defScope st)) (len:∀ vs H Q E,sp vs H Q E→vs.length=ps.length)
    (hbody:∀ (cdv:Value) (A:Around) (outer:List Env) (s:Shared) (H:Hp) (vs:List V) (Q:VK) (E:XK),Room k (A.deeper (envOfC qual (defScope st) s.heap.objs.size f cdv))→sp vs H Q E →
      ∃ t,PSs (cxOf CX0 P w K mg base N qual (defScope st) f cdv A outer s H E).nox (defBody st) t∧t { nx:=fun _ H'=>Q .non H',rt:=Q } (start N vs) H):FnOk P w K mg base CX0 (k+1) f fd ps sp:=by
  obtain ⟨oc,od,kV,doc,pm,an,cdv,ct,osl,rfl,lk,hcd⟩:=F.ex
  refine fn_of lk hcd S len fun A outer s H vs Q E hr hsp=>?_
  obtain ⟨t,h,q⟩:=hbody cdv A outer s H vs Q E hr hsp
  exact ⟨t,h.nox,q⟩
theorem Fun.binds {x qual:Str} {st:Stmt} {f:Addr} {fd:FuncData} {ps:List Str} (F:Fun K x qual st f fd)
    (h:∀ (kV doc pm:Value) (an:Option Addr) (cdv ct:Value) (us:List Value),us.length=ps.length→bindArgs (PySem.W.fnOf x qual (defArgs st) (defBody st) (defScope st) .none kV doc pm an cdv ct) ⟨us,[]⟩=pure (ps.zip us)):Binds K fd ps []:=by
  obtain ⟨oc,od,kV,doc,pm,an,cdv,ct,osl,rfl,lk,hcd⟩:=F.ex
  exact .all (h kV doc pm an cdv ct)
theorem fun_mk {x qual:Str} {st:Stmt} {f:Addr} {oc:Value} {od an:Option Addr} {osl:Array (Option Value)} {kV doc pm cdv ct:Value} (l:K.lookup f=some ⟨oc,od,.func (PySem.W.fnOf x qual (defArgs st) (defBody st) (defScope st) .none kV doc pm an cdv ct),osl⟩)
    (c:PySem.W.codeIn K cdv qual=true) (k:PySem.W.keepIn K (.ref f)=true):Fun K x qual st f (PySem.W.fnOf x qual (defArgs st) (defBody st) (defScope st) .none kV doc pm an cdv ct):=⟨⟨oc,od,kV,doc,pm,an,cdv,ct,osl,rfl,l,c⟩,k⟩
end
section
variable {X:Cx}
theorem pv (i:Nat) {x:Str} {pos:Pos} (hN:X.N[i]?=some x:=by rfl) (hv:Vis X.env.scope x:=by first | exact Or.inl rfl | exact Or.inr (Or.inl rfl) | exact Or.inr (Or.inr rfl)) (hd:(x==("__debug__" : Str))=false:=by decide)
    (hcd:(x==("__classdict__" : Str))=false:=by decide):PE X (.Name x pos) (tVar i):=pe_var hN hv hd hcd
end
theorem iteF {A B:Prop} (h:B):if false=true then A else B:=by
  rw [if_neg Bool.false_ne_true]
  exact h
theorem iteT {A B:Prop} (h:A):if true=true then A else B:=by
  rw [if_pos rfl]
  exact h
def Same (H H':Hp):Prop:=∀ b o,H b=some o→H' b=some o
theorem Same.refl (H:Hp):Same H H:=fun _ _ h=>h
theorem Same.trans {H H1 H2:Hp} (a:Same H H1) (b:Same H1 H2):Same H H2:=fun c o h=>b c o (a c o h)
theorem Same.free {H H':Hp} (e:Same H H') {l:Addr} (h:H' l=Option.none):H l=Option.none:=by
  cases q:H l with
  | none=>rfl
  | some o =>
    rw [e l o q] at h
    cases h
end L2
namespace L2
open PySem PySem.Spec PyProof.Rows
section
variable {X:Cx}
theorem op_mulB:OpR X (binaryOp .Mult) (rI IntMulOk fun i j=>.int (i*j)):=opI fun _ _ _ _ _ _ _ hc q=>mul_int q hc
theorem op_fdivB:OpR X (binaryOp .FloorDiv) (rI (fun _ j=>0<j∧j.natAbs.log2<9000) fun i j=>.int (i / j)):=opI fun i j _ _ _ _ _ hc q=>by
  have h1:(0:Int)<j:=hc.1
  exact floordiv_int (by omega) (by rw [Int.fdiv_eq_ediv_of_nonneg i (by omega)]; exact q) (.inl (PyProof.noPylong_of_log2 hc.2))
theorem call_isi:CallR X (.builtin "isinstance") (fun xs H Q=>∃ x n t b,xs=[x,.ty n]∧TyOf X.K H x t∧PySem.W.kitOne X.K t (.type n)=some b∧Q (.bl b) H):=by
  intro pins s σ H xs us Q I r h
  obtain ⟨x,n,t,b,rfl,ty,e,q⟩:=h
  obtain ⟨u,w',rfl,rx,ry⟩:=vals2 r
  cases ry
  exact isinst_ok I rx ty e fun tk=>⟨.bl b,H,I.tok _,rfl,q⟩
theorem range_all_eq {α:Type} [DecidableEq α] {ns ms:List α} (d:α) (h:ns.length=ms.length):((List.range ns.length).all fun j=>decide (ns.getD j d=ms.getD j d))=decide (ns=ms):=by
  rw [Bool.eq_iff_iff,List.all_eq_true,decide_eq_true_iff]
  constructor
  · intro H
    refine List.ext_getElem h fun i h1 h2=>?_
    have:=of_decide_eq_true (H i (List.mem_range.mpr h1))
    rw [List.getD_eq_getElem?_getD,List.getD_eq_getElem?_getD,List.getElem?_eq_getElem h1,List.getElem?_eq_getElem h2] at this
    exact this
  · rintro rfl i _
    simp
theorem eqAt_items {α:Type} [DecidableEq α] {A:Around} {s:Shared} {us ws:List Value} {ns ms:List α} {d:α} (hl:us.length=ns.length) (hl2:ws.length=ms.length)
    (h:∀ (j:Nat) (u v:Value) (a b:α),us[j]?=some u→ws[j]?=some v→ns[j]?=some a→ms[j]?=some b→SeqAt.EqAt A s u v (decide (a=b))) :
    ∀ j (h1:j<us.toArray.size) (h2:j<ws.toArray.size),SeqAt.EqAt A s us.toArray[j] ws.toArray[j] (decide (ns.getD j d=ms.getD j d)):=by
  intro j h1 h2
  have h1':j<us.length:=by simpa using h1
  have h2':j<ws.length:=by simpa using h2
  have q:=h j us[j] ws[j] ns[j] ms[j] (List.getElem?_eq_getElem h1') (List.getElem?_eq_getElem h2') (List.getElem?_eq_getElem (by omega)) (List.getElem?_eq_getElem (by omega))
  have e1:ns.getD j d=ns[j]:=by rw [List.getD_eq_getElem?_getD,List.getElem?_eq_getElem (by omega)]; rfl
  have e2:ms.getD j d=ms[j]:=by rw [List.getD_eq_getElem?_getD,List.getElem?_eq_getElem (by omega)]; rfl
  rw [e1,e2]
  simpa using q
theorem rcAt_lists {α:Type} [DecidableEq α] [Inhabited α] {A:Around} {s:Shared} {l b:Addr} {us ws:List Value} {ns ms:List α} (p1:s.heap.IsList l us.toArray) (p2:s.heap.IsList b ws.toArray) (hl:us.length=ns.length) (hl2:ws.length=ms.length) (hu:A.units<cLine)
    (h:∀ (j:Nat) (u v:Value) (a b:α),us[j]?=some u→ws[j]?=some v→ns[j]?=some a→ms[j]?=some b→SeqAt.EqAt A.in1 s u v (decide (a=b))) :
    SeqAt.RcAt A s (.ref l) (.ref b) (decide (ns=ms)):=by
  by_cases hs:ns.length=ms.length
  · have q:=SeqAt.RcAt.lists (e:=fun j=>decide (ns.getD j default=ms.getD j default)) p1 p2 (by simp; omega) hu (eqAt_items hl hl2 h)
    have e:((List.range us.toArray.size).all fun j=>decide (ns.getD j default=ms.getD j default))=decide (ns=ms):=by
      rw [List.size_toArray,hl]; exact range_all_eq default hs
    rw [e] at q
    exact q
  · have q:=SeqAt.RcAt.lists_lengths p1 p2 (by simp; omega) hu
    have e:decide (ns=ms)=false:=decide_eq_false fun z=>hs (by rw [z])
    rw [e]
    exact q
theorem rcNeAt_lists {α:Type} [DecidableEq α] [Inhabited α] {A:Around} {s:Shared} {l b:Addr} {us ws:List Value} {ns ms:List α} (p1:s.heap.IsList l us.toArray) (p2:s.heap.IsList b ws.toArray) (hl:us.length=ns.length) (hl2:ws.length=ms.length) (hu:A.units<cLine)
    (h:∀ (j:Nat) (u v:Value) (a b:α),us[j]?=some u→ws[j]?=some v→ns[j]?=some a→ms[j]?=some b→SeqAt.EqAt A.in1 s u v (decide (a=b))) :
    SeqAt.RcNeAt A s (.ref l) (.ref b) (!decide (ns=ms)):=by
  by_cases hs:ns.length=ms.length
  · have q:=SeqAt.RcNeAt.lists (e:=fun j=>decide (ns.getD j default=ms.getD j default)) p1 p2 (by simp; omega) hu (eqAt_items hl hl2 h)
    have e:((List.range us.toArray.size).all fun j=>decide (ns.getD j default=ms.getD j default))=decide (ns=ms):=by
      rw [List.size_toArray,hl]; exact range_all_eq default hs
    rw [e] at q
    exact q
  · have q:=SeqAt.RcNeAt.lists_lengths p1 p2 (by simp; omega) hu
    have e:decide (ns=ms)=false:=decide_eq_false fun z=>hs (by rw [z])
    rw [e]
    exact q
end
open PySem.W in
theorem bits_of_lay {ns:List Int} (h:WData.layableAll [WData.list (ns.map WData.int)]=true):∀ n∈ns,Builtin.Int.intBits n≤1048576:=by
  have w:WData.weight (.list (ns.map WData.int))≤2 ^ 20:=by
    unfold WData.layableAll WData.layable at h
    simp only [List.all_cons,List.all_nil,Bool.and_true,Bool.and_eq_true,decide_eq_true_eq] at h
    exact h.2
  have key:∀ (ms:List Int),∀ n∈ms,Builtin.Int.intBits n≤WData.weightAll (ms.map WData.int):=by
    intro ms
    induction ms with
    | nil=>intro n hn; cases hn
    | cons m ms ih =>
      intro n hn
      rw [List.map_cons,WData.weightAll]
      rcases List.mem_cons.mp hn with rfl | hn
      · have e:WData.weight (.int n)=Builtin.Int.intBits n:=by simp [WData.weight,Builtin.Int.intBits]
        omega
      · have:=ih n hn
        omega
  intro n hn
  have q:=key ns n hn
  have e:WData.weight (.list (ns.map WData.int))=WData.weightAll (ns.map WData.int):=by simp [WData.weight]
  rw [e] at w
  exact Nat.le_trans q w
theorem walk_ofB {l:PySem.W.OpenLaw} {n k:Nat} {q:Program} {loose:List Str} {XP:(Str→Option Value)→Heap→Prop} {YP:World→Heap→Prop} {d:DefRec} {K:Params→PySem.W.Frag} {CX:World→CXT} {sp:World→Sp} {x:Str}
    (hn:l.most=some n) (hn2:n≤sizeLine) (hdf:d.params.defaults=[]) (hr:Room k callerA)
    (hY:∀ (w:World) (h:Heap),YP w h→(K w.params).In h)
    (F:∀ (w:World) (mg:Str→Option Value) (fa:Addr) (h:Heap),(K w.params).In h→h.Ns mainGlobals mg→mg d.name=some (.ref fa) →
      ∃ fd:FuncData,(∀ (s:Shared) (u:Value),BindsTo s fd ⟨[u],[]⟩ [(x,u)]) ∧
        ∀ base:Heap,(K w.params).In base→base.Ns mainGlobals mg→FnOk l.prog w (K w.params) mg base (CX w) k fa fd [x] (sp w))
    (hsp:∀ (w:World) (H:Hp) (a:Addr) (ns:List Int),ns.length≤n→(∀ m∈ns,Builtin.Int.intBits m≤1048576)→Only H→SqL (K w.params) H a (ns.map V.int)→sp w [.ref a] H (fun v _=>v=.bl true) fun _ _ _=>False)
    (hCX:∀ (w:World) (H:Hp) (s:Shared) (e:Value) (s':Shared),CX w [] H s (fun _ _ _=>False) e s'→False) :
    PySem.W.WalkO q loose XP YP l.row.toRowW d [] (fun f vs=>PySem.call f vs):=by
  intro w s₀ s₁ mg mb G Y fa o pm cd doc dV kV ho hd hcd hD hmg hg args vals as hpre hlay hrd hwl hlo
  obtain rfl:dV=.none:=PySem.W.Dflts.none hD hdf
  obtain rfl:kV=.none:=PySem.W.Dflts.noKw hD
  obtain ⟨a,vs,ns,rfl,rfl,hobj,hints,hlen⟩:=Att.script_of hn hpre hwl
  have KX:=hY w _ Y
  obtain ⟨fd,hb,hF⟩:=F w mg fa _ KX G.T.g hmg
  refine PySem.W.enter_call (codeAny_mono (law_call KX G.T.g G.T.b G.T.builtins G.T.nolimit hg hobj hints (Nat.le_trans hlen hn2) hr hF hb (fun H hO hS=>hsp w H a ns hlen (bits_of_lay hlay) hO hS) fun H e s'=>hCX w H s₁ e s') fun r s' hq=>?_)
  obtain ⟨rfl,h2,h3,h4⟩:=hq
  exact ⟨.inl ⟨.bool true,.bool true,[],rfl,fun _=>rfl,.bool true,Att.post_true l _,fun _=>⟨List.Pairwise.nil,fun _ hm=>(nomatch hm)⟩⟩,h2,h3,h4⟩
end L2
namespace L2
open PySem PySem.Spec PyProof.Rows
def compCx (X:Cx) (N':List Str) (scope:Scope) (cl:List (Str×Addr)) (C:Addr) (s3:Shared) (H3:Hp) (fp:List Addr) (pins:List (Addr×Obj)):Cx :=
  { X with N:=N',s₀:=s3,H₀:=H3,env:=compEnvC scope cl C X.env,outer:=X.stack,stack:=X.stack,ex:=fp,fn:=fun _=>false,pn:=X.pn++pins,xe:=fun _ _=>False }
structure Frees (X:Cx) (N':List Str) (scope:Scope) (cl:List (Str×Addr)) (σ σ0:St):Prop where
  sub:∀ x c,cl.lookup x=some c→X.env.cells.lookup x=some c
  vals:∀ (j:Nat) (x:Str) (v:V),N'[j]?=some x→σ0[j]?=some (some v)→∃ (i:Nat) (c:Addr),X.N[i]?=some x∧σ[i]?=some (some v)∧Vis X.env.scope x∧X.env.kindOf x≠some .local∧cl.lookup x=some c ∧
    ((relabel scope X.env).names.lookup x=some .cell∨(relabel scope X.env).names.lookup x=some .free)
  has:∀ x,((relabel scope X.env).names.lookup x=some .cell∨(relabel scope X.env).names.lookup x=some .free)→∃ c,cl.lookup x=some c
  len:σ0.length=N'.length
section
variable {prog:Program} {w:World} {A:Around} {R:Result→Shared→Prop} {s:Shared}
theorem compLoop_gen {elt target iter:Expr} {ifs:List Expr} {scope:Scope} {pos:Pos} {it acc:Value} {env:Env} (I:Nat→Shared→Prop)
    (turn:∀ n s,I n s→wpAny (model prog w) A (pyNext it) (fun r s₁=>match r with
      | none=>R (.ok .next) s₁
      | some v=>wpAny (model prog w) A (letOwnedTupleGo target it v) (fun _ s₀=>wpAny (model prog w) A (assign target env v) (fun _ s₂ =>
          wpAny (model prog w) A (forIn ifs true fun c r=>if r=true then do let ok ← isTrue c env (eval c env); pure (ForInStep.yield ok) else pure (ForInStep.yield r)) (fun ok s₃ =>
            if ok=true then wpAny (model prog w) A (eval elt env) (fun x s₄ =>
              wpAny (model prog w) A (call (.builtin "list.append") [acc,x]) (fun _ s₅=>∃ m,m<n∧I m s₅) (fun _ _=>False) s₄) (fun _ _=>False) s₃
            else ∃ m,m<n∧I m s₃) (fun _ _=>False) s₂) (fun _ _=>False) s₀) (fun _ _=>False) s₁) (fun _ _=>False) s)
    (n:Nat) (h:I n s) :
    codeAny (model prog w) A (.compLoop (.ListComp elt [⟨target,iter,ifs,0⟩] scope pos) 0 it acc env) R s:=by
  refine codeAny_loop rfl I (fun n s hI=>?_) n h
  show wpAny _ A ((compTurn (.ListComp elt [⟨target,iter,ifs,0⟩] scope pos) 0 it acc env).onRaise (fun x=>do noteFrame x env; theTreesLotGoes x)) _ _ s
  refine wpAny_noted ?_
  rw [compTurn_list]
  refine wpAny_bind (wpAny_standAt (wpAny_bind (wpAny_mono (turn n s hI) (fun r s₁ h₁=>?_) fun _ _ h'=>h'.elim)))
  cases r with
  | none=>exact wpAny_pure h₁
  | some v =>
    refine wpAny_bind (wpAny_mono h₁ (fun _ s₀ h₀=>?_) fun _ _ h'=>h'.elim)
    refine wpAny_bind (wpAny_mono h₀ (fun _ s₂ h₂=>wpAny_bind (wpAny_mono h₂ (fun ok s₃ h₃=>?_) fun _ _ h'=>h'.elim)) fun _ _ h'=>h'.elim)
    cases ok with
    | false=>exact wpAny_pure ⟨rfl,h₃⟩
    | true =>
      exact wpAny_bind (wpAny_bind (wpAny_mono h₃ (fun x s₄ h₄=>wpAny_bind (wpAny_mono h₄ (fun _ s₅ h₅=>wpAny_pure (wpAny_pure ⟨rfl,h₅⟩)) fun _ _ h'=>h'.elim)) fun _ _ h'=>h'.elim))
end
def compW (J:It) (g:TG) (tt:TT) (te:TE) (σ0:St) (H1:Hp) (Q:VK):Prop:=∀ D,H1 D=none→∃ W:Nat→Nat→List V→Hp→Prop,(∃ m,W 0 m [] (upd H1 D (.lst []))) ∧
  ∀ i m ys H,W i m ys H→(J.stop i H∧H D=some (.lst ys)∧Q (.ref D) H) ∨
    (J.go i H∧∀ x H',J.yld i H x H'→g x σ0 H' fun σ2 H2=>tt σ2 H2 fun c H3 =>
      if c=true then te σ2 H3 fun v H4=>H4 D=some (.lst ys)∧ys.length<sizeLine∧∃ m',m'<m∧W (i+1) m' (ys++[v]) (upd H4 D (.lst (ys++[v])))
      else ∃ m',m'<m∧W (i+1) m' ys H3)
def Keepg (g:TG) (σ0:St):Prop:=∀ x H (Q:St→Hp→Prop),g x σ0 H Q→g x σ0 H fun σ2 H2=>Q σ2 H2∧σ2.length=σ0.length∧∀ (j:Nat) v,σ0[j]?=some (some v)→σ2[j]?=some (some v)
section
variable {X:Cx} {tg elt iter:Expr} {ifs:List Expr} {scope:Scope} {cl:List (Str×Addr)} {N':List Str} {σ0:St→St} {g:TG} {tt:TT} {te:TE}
theorem comp_block {pos:Pos} {pins:List (Addr×Obj)} {σ:St} {H1:Hp} {s2:Shared} {it:Addr} {fp:List Addr} {tn:Nat→Heap→Prop} {J:It} {Q:VK} {RR:Value→Addr→Result→Shared→Prop}
    (hc:X.calm=true) (hcell:∀ y∈scope.names,y.2≠.cell) (hkind:scope.kind=.function)
    (I:Inv X pins σ H1 s2) (T:Turn X.prog X.w X.K tg J fp it tn) (st:tn 0 s2.heap) (hfp:∀ b∈fp,FpOk X pins H1 b) (fr:Frees X N' scope cl σ (σ0 σ)) (hk:Keepg g (σ0 σ))
    (hg:∀ C s3 H3 fp pins,PG (compCx X N' scope cl C s3 H3 fp pins) tg g)
    (ht:∀ C s3 H3 fp pins (pl:List (Addr×Obj)) (s:Shared) (σ:St) (H:Hp) (Q:Bool→Hp→Prop),Inv (compCx X N' scope cl C s3 H3 fp pins) pl σ H s→tt σ H Q →
      wpAny (model X.prog X.w) X.A (forIn ifs true fun c r=>if r=true then do let ok ← isTrue c (compEnvC scope cl C X.env) (eval c (compEnvC scope cl C X.env)); pure (ForInStep.yield ok) else pure (ForInStep.yield r)) (TP (compCx X N' scope cl C s3 H3 fp pins) pl σ Q) (fun _ _=>False) s)
    (he:∀ C s3 H3 fp pins,PE (compCx X N' scope cl C s3 H3 fp pins) elt te) (hw:compW J g tt te (σ0 σ) H1 Q)
    (hRR:∀ D C s' H' m,Inv X pins σ H' s'→s'.heap.Ns C m→H' C=none→C≠X.env.locals→X.s₀.heap.objs.size≤C→(∀ x c,X.env.cells.lookup x=some c→c≠C)→(∀ p∈X.pn++pins,p.1≠C)→Q (.ref D) H'→RR (.ref D) C (.ok .next) s') :
    wpAny (model X.prog X.w) X.A (newList []) (fun acc s₃=>wpAny (model X.prog X.w) X.A (newFunctionEnv scope X.env.globals cl [] X.env.qual none .none (some X.env)) (fun cenv s₄ =>
      codeAny (model X.prog X.w) X.A (.compStart (.ListComp elt [⟨tg,iter,ifs,0⟩] scope pos) 0 (.ref it) acc { cenv with scope:=relabel scope X.env }) (RR acc cenv.locals) s₄) X.xe s₃) X.xe s2:=by
  refine wpAny_newObj_type (hd:=by size_fits) (wpAny_newFunctionEnv hcell (by intro y hy; simp at hy) (fun h₁ hns₁ hsb₁=>?_) hkind)
  dsimp only at hns₁ hsb₁ ⊢
  have I3:Inv X pins σ (upd H1 s2.heap.objs.size (.lst [])) { s2 with heap:=s2.heap.push { cls:=.type "list", dict:=none,data:=.seq ([]:List Value).toArray } }:=I.lnew (t':=s2.toks) (its:=[]) (ys:=[]) .nil (Nat.zero_le _)
  obtain ⟨W,⟨m0,w0⟩,turn⟩:=hw s2.heap.objs.size I.fresh
  have hfpo:=T.obj 0 _ st
  have fpl:∀ b∈fp,b<s2.heap.objs.size:=fun b hb=>by
    obtain ⟨o,e,_⟩:=hfpo b hb
    exact Heap.lt_size e
  have fD:∀ b∈fp,upd H1 s2.heap.objs.size (.lst []) b=none:=fun b hb=>by
    rw [upd_ne (Nat.ne_of_lt (fpl b hb))]
    exact (hfp b hb).1
  generalize hs3:({ s2 with heap:=s2.heap.push { cls:=.type "list", dict:=none,data:=.seq ([]:List Value).toArray } }:Shared)=s3 at I3
  have es3:s3.heap=s2.heap.push { cls:=.type "list", dict:=none,data:=.seq ([]:List Value).toArray }:=by rw [← hs3]
  have st3:tn 0 s3.heap:=T.keep _ _ _ st fun b hb o e=>by rw [es3]; exact Heap.get?_push_of_some _ e
  rw [← es3] at hns₁ hsb₁ ⊢
  have sz3:s2.heap.objs.size<s3.heap.objs.size:=by rw [es3,Heap.size_push]; exact Nat.lt_succ_self _
  generalize upd H1 s2.heap.objs.size (.lst [])=H3 at I3 fD w0
  have old:∀ b o,s3.heap.get? b=some o→h₁.get? b=some o:=fun b o e=>hsb₁.extBut b o (Nat.ne_of_lt (Heap.lt_size e)) (Heap.get?_push_of_some _ e)
  have fpl3:∀ b∈fp,b<s3.heap.objs.size:=fun b hb=>Nat.lt_trans (fpl b hb) sz3
  have stk:∀ b∈fp,b∉frs X.stack:=fun b hb z=>by
    rcases List.mem_cons.mp (I3.stkSub b z) with e | e
    · exact (hfp b hb).2.1 e
    · exact (hfp b hb).2.2.1 e
  have ok:(compCx X N' scope cl s3.heap.objs.size s3 H3 fp pins).Ok:=by
    refine ⟨I3.ok.mod,hkind,I3.ok.glob,I3.ok.blt,Nat.le_refl _,fun x y c h1 h2=>I3.ok.inj x y c (fr.sub x c h1) (fr.sub y c h2),fun x h=>fr.has x h,fun x c h _=>(by cases h),I3.ok.hd,I3.ok.frames,.inl rfl,
      fun b hb=>⟨Nat.ne_of_lt (fpl3 b hb),fun x c e=>(hfp b hb).2.2.2.2.1 x c (fr.sub x c e)⟩,I3.bs,Nat.le_trans I3.ok.bsz I3.sz,fun b o e hb=>?_,fun b hb=>stk b hb,I3.stack,I3.stkFree⟩
    rcases (hfp b hb).2.2.2.1 with z | z
    · exact I3.ok.noex b o e z
    · have l1:b<X.base.objs.size:=Heap.lt_size e
      have l2:X.base.objs.size≤X.s₀.heap.objs.size:=I3.ok.bsz
      have l3:X.s₀.heap.objs.size≤b:=z
      exact absurd (Nat.lt_of_lt_of_le l1 (Nat.le_trans l2 l3)) (Nat.lt_irrefl _)
  have lt3:X.env.locals<s3.heap.objs.size:=I3.lt
  have start:Inv (compCx X N' scope cl s3.heap.objs.size s3 H3 fp pins) [] (σ0 σ) H3 { s3 with heap:=h₁ }:=by
    refine ⟨ok,rfl,I3.bare,Un.kept old,⟨_,hns₁,fun j x v e1 e2 _=>?_⟩,fun x c e=>?_,I3.hok.fresh (Nat.le_refl _),fun x c e=>I3.freeC x c (fr.sub x c e),fun p hp=>?_,I3.hok.kept old,fr.len⟩
    · obtain ⟨i,c,q1,q2,q3,q4,q5,q6⟩:=fr.vals j x v e1 e2
      obtain ⟨m,hn,hl⟩:=I3.loc
      obtain ⟨u,r,l⟩:=hl i x v q1 q2 q3
      refine ⟨u,r,.inr ⟨q6,c,q5,?_⟩⟩
      rcases l with ⟨k,_⟩ | ⟨_,c',e',z⟩
      · exact absurd k q4
      · rw [fr.sub x c q5] at e'
        cases e'
        obtain ⟨o,ho,hd⟩:=z
        exact ⟨o,old _ _ ho,hd⟩
    · obtain ⟨v,o,ho,hd⟩:=I3.cell x c (fr.sub x c e)
      exact ⟨v,o,old _ _ ho,hd⟩
    · have hp':p∈X.pn++pins:=by simpa [compCx] using hp
      obtain ⟨e,n,ne,nf,d⟩:=I3.pin p hp'
      refine ⟨old _ _ e,n,Nat.ne_of_lt (Heap.lt_size e),fun z=>?_,d⟩
      rcases List.mem_cons.mp (I3.stkSub p.1 z) with q | q
      · exact ne q
      · exact nf q
  have hst₁:tn 0 h₁:=T.keep _ _ _ st3 fun b _ o e=>old b o e
  have fpok:∀ {H':Hp},(∀ b∈fp,H' b=none)→∀ b∈fp,FpOk (compCx X N' scope cl s3.heap.objs.size s3 H3 fp pins) [] H' b:=fun {H'} hn b hb =>
    ⟨hn b hb,Nat.ne_of_lt (fpl3 b hb),stk b hb,.inl hb,fun x c e=>(hfp b hb).2.2.2.2.1 x c (fr.sub x c e),fun p hp=>(hfp b hb).2.2.2.2.2 p (by simpa [compCx] using hp)⟩
  have loop:codeAny (model X.prog X.w) X.A (.compLoop (.ListComp elt [⟨tg,iter,ifs,0⟩] scope pos) 0 (.ref it) (.ref s2.heap.objs.size) (compEnvC scope cl s3.heap.objs.size X.env)) (RR (.ref s2.heap.objs.size) s3.heap.objs.size) { s3 with heap:=h₁ }:=by
    refine compLoop_gen (fun n s'=>∃ i ys H',Inv (compCx X N' scope cl s3.heap.objs.size s3 H3 fp pins) [] (σ0 σ) H' s'∧tn i s'.heap∧(∀ b∈fp,H' b=none)∧W i n ys H') ?_ m0 ⟨0,[],H3,start,hst₁,fD,w0⟩
    rintro n s4 ⟨i,ys,H4,I4,st4,fr4,w4⟩
    rcases turn i n ys H4 w4 with ⟨stop,eD,q⟩ | ⟨go,step⟩
    · refine thn (T.done (compCx X N' scope cl s3.heap.objs.size s3 H3 fp pins) rfl rfl rfl hc i [] s4 _ H4 _ I4 (fpok fr4) st4 stop) fun r s5 ⟨hr,I5⟩=>?_
      subst hr
      obtain ⟨m5,n5,_⟩:=I5.loc
      have J5:Inv X pins σ H4 s5:=I3.call' I5.os I5.base I5.hok I5.bare fun b hb=>⟨(hfp b hb).2.2.2.1,(hfp b hb).2.1,(hfp b hb).2.2.2.2.1,(hfp b hb).2.2.2.2.2⟩
      exact hRR _ _ s5 H4 m5 J5 n5 I5.free (Nat.ne_of_gt lt3) I3.sz (fun x c e z=>by
        obtain ⟨v,o,ho,_⟩:=I3.cell x c e
        exact absurd (Heap.lt_size ho) (by rw [z]; exact Nat.lt_irrefl _)) (fun p hp z=>by
        have e:=(I3.pin p hp).1
        exact absurd (Heap.lt_size e) (by rw [z]; exact Nat.lt_irrefl _)) q
    · refine thn (T.item (compCx X N' scope cl s3.heap.objs.size s3 H3 fp pins) rfl rfl rfl hc i [] s4 _ H4 _ I4 (fpok fr4) st4 go) fun r s5 ⟨u,hr,h5⟩=>?_
      subst hr
      refine thn h5 fun _ s6 ⟨x,H6,I6,r6,y6,st6,fr6⟩=>?_
      have I6':=I6.pinned (fpok fr6) (T.obj _ _ st6)
      refine thn (hg _ _ _ _ _ _ s6 _ H6 x u _ I6' r6 (hk _ _ _ (step x H6 y6))) fun _ s7 ⟨σ7,H7,I7,q7,l7,k7⟩=>?_
      have again:∀ {s8:Shared} {H8:Hp} {m:Nat} {zs:List V},Inv (compCx X N' scope cl s3.heap.objs.size s3 H3 fp pins) ([]++pinsAt fp s6.heap) σ7 H8 s8→m<n→W (i+1) m zs H8 →
          ∃ m,m<n∧∃ i ys H',Inv (compCx X N' scope cl s3.heap.objs.size s3 H3 fp pins) [] (σ0 σ) H' s8∧tn i s8.heap∧(∀ b∈fp,H' b=none)∧W i m ys H':=fun {s8 H8 m zs} I8 hm w8=>by
        refine ⟨m,hm,i+1,zs,H8,(Inv.unpinned I8).weak l7.symm k7,T.keep _ _ _ st6 fun b hb o e=>(I8.pin (b,o) (List.mem_append_right _ (List.mem_append_right _ (mem_pinsAt hb e)))).1,fun b hb=>?_,w8⟩
        obtain ⟨o,e,d⟩:=T.obj _ _ st6 b hb
        exact (I8.pin (b,o) (List.mem_append_right _ (List.mem_append_right _ (mem_pinsAt hb e)))).2.1
      refine thn (ht _ _ _ _ _ _ s7 σ7 H7 _ I7 q7) fun c s8 ⟨H8,I8,q8⟩=>?_
      cases c with
      | false =>
        rw [if_neg Bool.false_ne_true] at q8 ⊢
        obtain ⟨m',hm,w8⟩:=q8
        exact again I8 hm w8
      | true =>
        rw [if_pos rfl] at q8 ⊢
        refine thn (he _ _ _ _ _ _ s8 σ7 H8 _ I8 q8) fun v s9 ⟨y,H9,I9,r9,e9,z9,m',hm,w9⟩=>?_
        exact thn (mt_append _ s9 σ7 H9 (.ref s2.heap.objs.size) [y] (.ref s2.heap.objs.size) [v] (fun _ H'=>H'=upd H9 s2.heap.objs.size (.lst (ys++[y]))) I9 rfl (.cons r9 .nil) ⟨_,ys,y,rfl,rfl,e9,z9,rfl⟩)
          fun _ s10 ⟨_,H10,I10,_,e10⟩=>by subst e10; exact again I10 hm w9
  subst hs3
  exact codeAny_compStart_list loop (T.self _ 0 _ _ _ hst₁ loop)
def tComp (wi:TI) (g:TG) (tt:TT) (te:TE) (σ0:St→St):TE:=fun σ H Q=>wi σ H fun J H1=>compW J g tt te (σ0 σ) H1 Q
def tTrue:TT:=fun _ H Q=>Q true H
variable {pos:Pos} {wi:TI}
theorem pe_compG (hc:X.calm=true) (hi:PI X tg iter wi) (fr:∀ σ:St,σ.length=X.N.length→Frees X N' scope cl σ (σ0 σ)) (hk:∀ σ,Keepg g (σ0 σ))
    (hg:∀ C s3 H3 fp pins,PG (compCx X N' scope cl C s3 H3 fp pins) tg g)
    (ht:∀ C s3 H3 fp pins (pl:List (Addr×Obj)) (s:Shared) (σ:St) (H:Hp) (Q:Bool→Hp→Prop),Inv (compCx X N' scope cl C s3 H3 fp pins) pl σ H s→tt σ H Q →
      wpAny (model X.prog X.w) X.A (forIn ifs true fun c r=>if r=true then do let ok ← isTrue c (compEnvC scope cl C X.env) (eval c (compEnvC scope cl C X.env)); pure (ForInStep.yield ok) else pure (ForInStep.yield r)) (TP (compCx X N' scope cl C s3 H3 fp pins) pl σ Q) (fun _ _=>False) s)
    (he:∀ C s3 H3 fp pins,PE (compCx X N' scope cl C s3 H3 fp pins) elt te)
    (hclos:closureFor scope X.env=pure cl) (hcell:∀ y∈scope.names,y.2≠.cell) (hkind:scope.kind=.function) (hnames:∀ y∈scope.names,y.2=.local→scope.names.lookup y.1=some .local)
    (hs:∀ x,foldedSetIterable iter X.env x=pure x):PE X (.ListComp elt [⟨tg,iter,ifs,0⟩] scope pos) (tComp wi g tt te σ0):=by
  intro pins s σ H Q I h
  rw [eval_ListComp]
  refine wpAny_comprehension_free (use:=none) rfl hs hclos hkind hnames (thn (hi pins s σ H _ I h) fun v s1 h1=>thn h1 fun itv s2 h2=>?_)
  obtain ⟨it,fp,tn,J,H2,e,I2,T,st2,f2,q⟩:=h2
  subst e
  refine comp_block (RR:=fun acc C=>compPost (model X.prog X.w) X.A X.xe none (EP X pins σ Q) acc C) hc hcell hkind I2 T st2 f2 (fr σ I.len) (hk σ) hg ht he q ?_
  intro D C s' H' m I' hn hC h1 h2 h3 h4 q'
  refine ⟨m,hn,fun h'' hs''=>⟨.ref D,H',?_,rfl,q'⟩⟩
  exact I'.turned (t':=s'.toks) (fun b o hb e=>hs''.extBut b o hb e) hC h1 (.inr h2) h3 h4
end
end L2
namespace L2
open PySem PySem.Spec PyProof.Rows
section
variable {X:Cx} {iter elt c:Expr} {scope:Scope} {y z:Str} {py pos:Pos} {wi:TI} {te:TE} {tt:TT}
theorem tests0 {N':List Str} {cl:List (Str×Addr)}:∀ C s3 H3 fp pins (pl:List (Addr×Obj)) (s:Shared) (σ:St) (H:Hp) (Q:Bool→Hp→Prop),Inv (compCx X N' scope cl C s3 H3 fp pins) pl σ H s→tTrue σ H Q →
    wpAny (model X.prog X.w) X.A (forIn ([]:List Expr) true fun c r=>if r=true then do let ok ← isTrue c (compEnvC scope cl C X.env) (eval c (compEnvC scope cl C X.env)); pure (ForInStep.yield ok) else pure (ForInStep.yield r)) (TP (compCx X N' scope cl C s3 H3 fp pins) pl σ Q) (fun _ _=>False) s :=
  fun _ _ _ _ _ _ _ _ H _ I h=>wpAny_tests_nil ⟨H,I,h⟩
end
end L2
namespace L2
open PySem PySem.Spec PyProof.Rows
section
variable {X:Cx}
end
section
variable {prog:Program} {w:World} {A:Around} {R:Result→Shared→Prop} {I:Addr} {fp wr:List Addr} {n:Nat} {P:Nat→Value→Prop} {St:Nat→Heap→Prop} {kw:List (Str×Value)}
end
section
variable {prog:Program} {w:World} {A:Around} {E:Value→Shared→Prop} {s:Shared}
end
section
variable {X:Cx}
end
section
variable {X:Cx}
end
theorem bt_len:bootBuiltins "len" = some (.builtin "len"):=by decide +kernel
theorem bt_isinstance:bootBuiltins "isinstance" = some (.builtin "isinstance"):=by decide +kernel
theorem bt_list:bootBuiltins "list" = some (.type "list"):=by decide +kernel
theorem same_new {H:Hp} {a:Addr} {o:HO} (h:H a=none):Same H (upd H a o):=fun b u e=>by
  rw [upd_ne (ne_of_none e h)]
  exact e
theorem Paired.mono {α β:Type} {F G:α→β→Prop}:∀ {as:List α} {bs:List β},Paired F as bs→(∀ a b,a∈as→F a b→G a b)→Paired G as bs
  | _,_,.nil,_=>.nil
  | _,_,.cons r t,h=>.cons (h _ _ List.mem_cons_self r) (Paired.mono t fun a b m=>h a b (List.mem_cons_of_mem _ m))
theorem Paired.append {α β:Type} {F:α→β→Prop}:∀ {as cs:List α} {bs ds:List β},Paired F as bs→Paired F cs ds→Paired F (as++cs) (bs++ds)
  | _,_,_,_,.nil,s=>s
  | _,_,_,_,.cons r t,s=>.cons r (Paired.append t s)
theorem Paired.take {α β:Type} {F:α→β→Prop}:∀ (n:Nat) {as:List α} {bs:List β},Paired F as bs→Paired F (as.take n) (bs.take n)
  | 0,_,_,_=>.nil
  | _+1,_,_,.nil=>.nil
  | n+1,_,_,.cons r t=>.cons r (Paired.take n t)
theorem Paired.drop {α β:Type} {F:α→β→Prop}:∀ (n:Nat) {as:List α} {bs:List β},Paired F as bs→Paired F (as.drop n) (bs.drop n)
  | 0,_,_,h=>h
  | _+1,_,_,.nil=>.nil
  | n+1,_,_,.cons _ t=>Paired.drop n t
section
variable {X:Cx} {K:PySem.W.Frag}
theorem sl_listK (h:X.K=K):SlR X (rSlL K):=by subst h; exact sl_list
theorem op_in_seqK (h:X.K=K):OpR X (compareOp .In) (rIn K false):=by subst h; exact op_in_seq
theorem call_isiK (h:X.K=K):CallR X (.builtin "isinstance") (fun xs H Q=>∃ x n t b,xs=[x,.ty n]∧TyOf K H x t∧PySem.W.kitOne K t (.type n)=some b∧Q (.bl b) H):=by subst h; exact call_isi
theorem pt_truthK {a:Expr} {ta:TE} (h:X.K=K) (ha:PE X a ta) (he:∀ whole,isTrue a X.env whole=(do let v ← whole; standAt a.pos; holding [v] (truthy v))) :
    PT X a (fun σ H Q=>ta σ H fun x H'=>∃ k,TruV K x H' k∧Q k H'):=by subst h; exact pt_truth ha he
end
end L2
namespace L2
open PySem PySem.Spec PyProof.Rows
section
variable {X:Cx}
end
end L2
namespace L2
open PySem PySem.Spec PyProof.Rows
section
variable {prog:Program} {w:World} {A:Around} {E:Value→Shared→Prop}
end
section
variable {X:Cx} {pos:Pos}
end
end L2
namespace L2
open PySem PySem.Spec PyProof.Rows
section
variable {κ:Type} [DecidableEq κ]
end
section
variable {P:Program} {w:World} {H:Hp} {h:Heap} {a:Addr}
end
section
variable {X:Cx} {pins:List (Addr×Obj)} {σ:St} {H:Hp} {s:Shared} {a:Addr} {y v:V} {u r:Value} {o:Option V} {A:Around} {E:Value→Shared→Prop}
end
section
variable {X:Cx} {pins:List (Addr×Obj)} {σ:St} {H:Hp} {s:Shared} {a:Addr} {kvs:List (Key×V)} {k:Key} {u:Value} {A:Around} {E:Value→Shared→Prop}
end
section
variable {X:Cx} {o i e value:Expr} {pos pos' tpos:Pos} {td ty tv:TE}
end
section
variable {X:Cx} {pos:Pos}
end
structure M1 (X:Cx) (o:Expr) (m:Str) (apos:Pos) (e:Expr) (cpos:Pos):Prop where
  base:attributeBase o m X.env (eval o X.env)=eval o X.env
  few:((backTo cpos (starEach [e] X.env)).all (fun x=>!x.1)&&(backToKw cpos (keywordEach [] X.env)).all (fun x=>x.1.isSome)
    && decide (([e]:List Expr).length+([]:List Keyword).length+(if ([]:List Keyword).isEmpty then 0 else 1)<30))=true
  line:(apos.endLine==cpos.line)=true
  trees:backTo cpos (starEach [e] X.env)=[(false,eval e X.env)]
structure M2 (X:Cx) (o:Expr) (m:Str) (apos:Pos) (e f:Expr) (cpos:Pos):Prop where
  base:attributeBase o m X.env (eval o X.env)=eval o X.env
  few:((backTo cpos (starEach [e,f] X.env)).all (fun x=>!x.1)&&(backToKw cpos (keywordEach [] X.env)).all (fun x=>x.1.isSome)
    && decide (([e,f]:List Expr).length+([]:List Keyword).length+(if ([]:List Keyword).isEmpty then 0 else 1)<30))=true
  line:(apos.endLine==cpos.line)=true
  trees:backTo cpos (starEach [e,f] X.env)=[(false,eval e X.env),(false,eval f X.env)]
section
variable {X:Cx} {pins:List (Addr×Obj)} {σ:St} {H:Hp} {s:Shared} {a:Addr} {y d:V} {u r:Value} {o:Option V} {A:Around} {E:Value→Shared→Prop}
end
section
variable {X:Cx} {o e f:Expr} {apos cpos:Pos} {td ty tx:TE}
end
section
variable {X:Cx} {pins:List (Addr×Obj)} {σ:St} {H:Hp} {s:Shared} {a:Addr} {kvs:List (Key×V)} {A:Around} {E:Value→Shared→Prop}
end
section
variable {X:Cx} {pins:List (Addr×Obj)} {σ:St} {H:Hp} {s:Shared} {a:Addr} {y:V} {u:Value} {A:Around} {E:Value→Shared→Prop}
end
end L2
namespace Tm
open PySem PyProof.Rows
end Tm
namespace Tm
open PySem PyProof.Rows
section
variable {M:Model} {A:Around} {E:Value→Shared→Prop} {s:Shared} {κ:SortKind} {G:Keyed→Prop} {C:Keyed→Keyed→Bool}
structure OrdC (C:Keyed→Keyed→Bool):Prop where
  as:∀ x y,C x y=true→C y x=false
  tr:∀ x y z,C y x=false→C z y=false→C z x=false
end
end Tm
namespace Tm
open PySem PyProof.Rows
section pure
variable {α:Type} {C:α→α→Bool}
structure OrdG (C:α→α→Bool):Prop where
  as:∀ x y,C x y=true→C y x=false
  tr:∀ x y z,C y x=false→C z y=false→C z x=false
def Le (C:α→α→Bool) (x y:α):Prop:=C y x=false
abbrev Srt (C:α→α→Bool) (l:List α):Prop:=l.Pairwise (Le C)
structure ML (C:α→α→Bool) (L out A B:List α):Prop where
  so:Srt C out
  oa:∀ x∈out,∀ y∈A,Le C x y
  ob:∀ x∈out,∀ y∈B,Le C x y
  pm:(out++(A++B)).Perm L
  sa:Srt C A
  sb:Srt C B
end pure
end Tm
namespace Tm
open PySem PyProof.Rows
section
variable {C:Keyed→Keyed→Bool}
variable {M:Model} {A:Around} {E:Value→Shared→Prop} {s:Shared} {κ:SortKind} {G:Keyed→Prop}
structure MA (C:Keyed→Keyed→Bool) (a b out:Array Keyed) (ia ib:Nat):Prop where
  ml:ML C (a.toList++b.toList) out.toList (a.toList.drop ia) (b.toList.drop ib)
  la:ia≤a.size
  lb:ib≤b.size
end
end Tm
set_option pp.maxSteps 1000000
set_option pp.deepTerms true
namespace Tm
open PySem PyProof.Rows
section
variable {M:Model} {A:Around} {E:Value→Shared→Prop} {s:Shared} {κ:SortKind} {G:Keyed→Prop} {C:Keyed→Keyed→Bool}
structure Two (G:Keyed→Prop) (C:Keyed→Keyed→Bool) (a b:Array Keyed):Prop where
  ga:∀ x∈a.toList,G x
  gb:∀ x∈b.toList,G x
  sa:Srt C a.toList
  sb:Srt C b.toList
  fst:∀ (h:0<b.size),∀ x∈a.toList,Le C b[0] x
  lst:∀ y∈b.toList,∀ x∈a.toList.drop (a.size-1),Le C y x
end
end Tm
namespace Tm
open PySem PyProof.Rows
section pure
variable {α:Type} {C:α→α→Bool}
structure MH (C:α→α→Bool) (L S A B:List α):Prop where
  so:Srt C S
  oa:∀ x∈A,∀ z∈S,Le C x z
  ob:∀ x∈B,∀ z∈S,Le C x z
  pm:((A++B)++S).Perm L
  sa:Srt C A
  sb:Srt C B
end pure
section
variable {C:Keyed→Keyed→Bool}
structure MB (C:Keyed→Keyed→Bool) (a b out:Array Keyed) (na nb:Nat):Prop where
  mh:MH C (a.toList++b.toList) out.toList.reverse (a.toList.take na) (b.toList.take nb)
  la:na≤a.size
  lb:nb≤b.size
end
end Tm
namespace Tm
open PySem PyProof.Rows
section
variable {M:Model} {A:Around} {E:Value→Shared→Prop} {s:Shared} {κ:SortKind} {G:Keyed→Prop} {C:Keyed→Keyed→Bool}
end
end Tm
namespace Tm
open PySem PyProof.Rows
def gk (xs:Array Keyed) (i:Nat):Keyed:=xs[i]?.getD (.none,.none)
structure SB (κ:SortKind) (a₀:Array Keyed) (st:SortSt):Prop where
  perm:(arrOf st).Perm a₀
  kind:kindOf st=κ
  failed:failedOf st=none
section
variable {M:Model} {A:Around} {E:Value→Shared→Prop} {s:Shared} {κ:SortKind} {G:Keyed→Prop} {C:Keyed→Keyed→Bool} {a₀:Array Keyed}
end
end Tm
namespace Tm
open PySem PyProof.Rows
section
variable {M:Model} {A:Around} {E:Value→Shared→Prop} {s:Shared} {κ:SortKind} {G:Keyed→Prop} {C:Keyed→Keyed→Bool} {a₀:Array Keyed}
structure Run (κ:SortKind) (a₀:Array Keyed) (st:SortSt) (lo nrem:Nat) (xs:Array Keyed):Prop where
  sb:SB κ a₀ (setArr st xs)
  out:∀ k,k<lo∨lo+nrem≤k→gk xs k=gk (arrOf st) k
end
end Tm
namespace Tm
open PySem PyProof.Rows
section
variable {M:Model} {A:Around} {E:Value→Shared→Prop} {s:Shared} {κ:SortKind} {G:Keyed→Prop} {C:Keyed→Keyed→Bool} {a₀:Array Keyed}
end
end Tm
namespace Tm
open PySem PyProof.Rows
section
variable {C:Keyed→Keyed→Bool}
variable {M:Model} {A:Around} {E:Value→Shared→Prop} {s:Shared} {κ:SortKind} {G:Keyed→Prop} {a₀:Array Keyed}
end
end Tm
namespace Tm
open PySem PyProof.Rows
section
variable {prog:Program} {w:World} {A:Around} {E:Value→Shared→Prop} {s:Shared}
end
end Tm
namespace VL
open PySem L2
open Classical
inductive D where
  | non | bl (b:Bool) | int (i:Int) | str (x:Str) | ty (n:String)
  | lst (xs:List D) | tup (xs:List D) | ins (C:Addr) | scr (ns:List Int) | dct (kvs:List (Int×Int))
def dkv (p:Int×Int):Key×V:=(.inl p.1,.int p.2)
abbrev No:Addr→Prop:=fun _=>False
def KL (K:PySem.W.Frag) (a:Addr) (xs:List V):Prop :=
  ∃ (o:Obj) (its:Array Value) (n:Nat),K.lookup a=some o∧o.cls=.type "list" ∧ o.dict=none∧o.data=.seq its n∧its.size≤sizeLine∧Vals xs its.toList
mutual
inductive Is (K:PySem.W.Frag) (H:Hp) (Z:Addr→Prop):V→D→Prop
  | non:Is K H Z .non .non
  | bl (b:Bool):Is K H Z (.bl b) (.bl b)
  | int (i:Int):Is K H Z (.int i) (.int i)
  | str (x:Str):Is K H Z (.str x) (.str x)
  | ty (n:String):Is K H Z (.ty n) (.ty n)
  | lst {a:Addr} {vs:List V} {ds:List D} (hz:¬ Z a) (h:Rd H a (.lst vs)) (hl:vs.length≤sizeLine) (r:IsL K H Z vs ds):Is K H Z (.ref a) (.lst ds)
  | tup {a:Addr} {vs:List V} {ds:List D} (hz:¬ Z a) (h:H a=some (.tup vs)) (hl:vs.length≤sizeLine) (r:IsL K H Z vs ds):Is K H Z (.ref a) (.tup ds)
  | ins {a C dx:Addr} (hz:¬ Z a) (h:H a=some (.ins C dx [])):Is K H Z (.ref a) (.ins C)
  | dct {a:Addr} {kvs:List (Int×Int)} (hz:¬ Z a) (h:Rd H a (.dK (kvs.map dkv))) (hl:kvs.length≤sizeLine):Is K H Z (.ref a) (.dct kvs)
  | scr {a:Addr} {ns:List Int} (hz:¬ Z a) (h:Rd H a (.lst (ns.map V.int))) (hl:ns.length≤sizeLine):Is K H Z (.ref a) (.scr ns)
  | scrK {a:Addr} {ns:List Int} (h:KL K a (ns.map V.int)) (hl:ns.length≤sizeLine):Is K H Z (.ref a) (.scr ns)
inductive IsL (K:PySem.W.Frag) (H:Hp) (Z:Addr→Prop):List V→List D→Prop
  | nil:IsL K H Z [] []
  | cons {v:V} {d:D} {vs:List V} {ds:List D} (h:Is K H Z v d) (r:IsL K H Z vs ds):IsL K H Z (v::vs) (d::ds)
end
def Kp (Z:Addr→Prop) (H:Hp) (Z':Addr→Prop) (H':Hp):Prop:=∀ a o,H a=some o→¬ Z a→H' a=some o∧¬ Z' a
theorem Kp.refl {Z:Addr→Prop} {H:Hp}:Kp Z H Z H:=fun _ _ h z=>⟨h,z⟩
theorem Kp.trans {Z Z1 Z2:Addr→Prop} {H H1 H2:Hp} (a:Kp Z H Z1 H1) (b:Kp Z1 H1 Z2 H2):Kp Z H Z2 H2:=fun c o h z=>b c o (a c o h z).1 (a c o h z).2
theorem Kp.same {Z:Addr→Prop} {H H':Hp} (s:Same H H'):Kp Z H Z H':=fun _ _ h z=>⟨s _ _ h,z⟩
theorem Kp.less {Z Z':Addr→Prop} {H:Hp} (h:∀ a,Z' a→Z a):Kp Z H Z' H:=fun a _ e z=>⟨e,fun q=>z (h a q)⟩
theorem Rd.kp {Z Z':Addr→Prop} {H H':Hp} {a:Addr} {u:HO} (k:Kp Z H Z' H') (hz:¬ Z a) (h:Rd H a u):Rd H' a u∧¬ Z' a:=by
  rcases h with h | ⟨o,h⟩
  · exact ⟨.inl (k _ _ h hz).1,(k _ _ h hz).2⟩
  · exact ⟨.inr ⟨o,(k _ _ h hz).1⟩,(k _ _ h hz).2⟩
mutual
theorem Is.kp {Z Z':Addr→Prop} {H H':Hp} (k:Kp Z H Z' H'):∀ {v:V} {d:D},Is K H Z v d→Is K H' Z' v d
  | _,_,.non=>.non
  | _,_,.bl b=>.bl b
  | _,_,.int b=>.int b
  | _,_,.str b=>.str b
  | _,_,.ty b=>.ty b
  | _,_,.lst hz h hl r=>.lst (Rd.kp k hz h).2 (Rd.kp k hz h).1 hl (IsL.kp k r)
  | _,_,.tup hz h hl r=>.tup (k _ _ h hz).2 (k _ _ h hz).1 hl (IsL.kp k r)
  | _,_,.ins hz h=>.ins (k _ _ h hz).2 (k _ _ h hz).1
  | _,_,.dct hz h hl=>.dct (Rd.kp k hz h).2 (Rd.kp k hz h).1 hl
  | _,_,.scr hz h hl=>.scr (Rd.kp k hz h).2 (Rd.kp k hz h).1 hl
  | _,_,.scrK h hl=>.scrK h hl
theorem IsL.kp {Z Z':Addr→Prop} {H H':Hp} (k:Kp Z H Z' H'):∀ {v:List V} {d:List D},IsL K H Z v d→IsL K H' Z' v d
  | _,_,.nil=>.nil
  | _,_,.cons h r=>.cons (Is.kp k h) (IsL.kp k r)
end
theorem Is.same {Z:Addr→Prop} {H H':Hp} {v:V} {d:D} (h:Is K H Z v d) (s:Same H H'):Is K H' Z v d:=h.kp (Kp.same s)
theorem IsL.same {Z:Addr→Prop} {H H':Hp} {v:List V} {d:List D} (h:IsL K H Z v d) (s:Same H H'):IsL K H' Z v d:=h.kp (Kp.same s)
theorem Is.all {Z:Addr→Prop} {H:Hp} {v:V} {d:D} (h:Is K H Z v d):Is K H No v d:=h.kp (Kp.less fun _ z=>z.elim)
theorem IsL.all {Z:Addr→Prop} {H:Hp} {v:List V} {d:List D} (h:IsL K H Z v d):IsL K H No v d:=h.kp (Kp.less fun _ z=>z.elim)
def D.scal:D→Bool
  | .lst _=>false
  | .tup _=>false
  | .ins _=>false
  | .scr _=>false
  | .dct _=>false
  | _=>true
theorem Is.scal {Z Z':Addr→Prop} {H H':Hp} {v:V} {d:D} (h:Is K H Z v d) (e:d.scal=true):Is K H' Z' v d:=by
  cases h with
  | non=>exact .non
  | bl b=>exact .bl b
  | int b=>exact .int b
  | str b=>exact .str b
  | ty b=>exact .ty b
  | lst _ _ _ _=>cases e
  | tup _ _ _ _=>cases e
  | ins _ _=>cases e
  | dct _ _ _=>cases e
  | scr _ _ _=>cases e
  | scrK _ _=>cases e
section
variable {H:Hp} {Z:Addr→Prop}
theorem IsL.paired:∀ {vs:List V} {ds:List D},IsL K H Z vs ds→Paired (Is K H Z) vs ds
  | _,_,.nil=>.nil
  | _,_,.cons h r=>.cons h (IsL.paired r)
theorem IsL.of:∀ {vs:List V} {ds:List D},Paired (Is K H Z) vs ds→IsL K H Z vs ds
  | _,_,.nil=>.nil
  | _,_,.cons h r=>.cons h (IsL.of r)
theorem IsL.length {vs:List V} {ds:List D} (h:IsL K H Z vs ds):vs.length=ds.length:=Paired.length h.paired
theorem IsL.get:∀ {vs:List V} {ds:List D} {i:Nat} {d:D},IsL K H Z vs ds→ds[i]?=some d→∃ v,vs[i]?=some v∧Is K H Z v d
  | _,_,0,_,.cons h _,e=>by cases e; exact ⟨_,rfl,h⟩
  | _,_,i+1,_,.cons _ r,e=>by
    obtain ⟨v,e1,h1⟩:=IsL.get (i:=i) r (by simpa using e)
    exact ⟨v,by simpa using e1,h1⟩
theorem IsL.append {vs us:List V} {ds es:List D} (a:IsL K H Z vs ds) (b:IsL K H Z us es):IsL K H Z (vs++us) (ds++es):=.of (Paired.append a.paired b.paired)
theorem IsL.take (n:Nat) {vs:List V} {ds:List D} (a:IsL K H Z vs ds):IsL K H Z (vs.take n) (ds.take n):=.of (Paired.take n a.paired)
theorem IsL.drop (n:Nat) {vs:List V} {ds:List D} (a:IsL K H Z vs ds):IsL K H Z (vs.drop n) (ds.drop n):=.of (Paired.drop n a.paired)
theorem IsL.one {v:V} {d:D} (q:Is K H Z v d):IsL K H Z [v] [d]:=.cons q .nil
theorem IsL.ofInts:∀ (ns:List Int),IsL K H Z (ns.map V.int) (ns.map D.int)
  | []=>.nil
  | n::ns=>.cons (.int n) (IsL.ofInts ns)
end
inductive Sl where
  | un | pu (d:D) | bo (d:D) | ol (ds:List D) | om (rows:List (List D)) | od (kvs:List (Int×Int))
  | pm (a:Addr) (ps:List Addr) (rows:List (List D)) | pd (a:Addr) (kvs:List (Int×Int))
abbrev Rho:=List Sl
abbrev Own:=Nat→List Addr
def tot (Z:Addr→Prop) (os:Own):Addr→Prop:=fun a=>Z a∨∃ i,a∈os i
def SlOk (K:PySem.W.Frag) (B H:Hp) (T:Addr→Prop) (o:List Addr):Sl→Option V→Prop
  | .un,_=>o=[]
  | .pu d,v=>o=[]∧∃ u,v=some u∧Is K H T u d
  | .bo d,v=>o=[]∧∃ u,v=some u∧Is K B No u d
  | .ol ds,v=>∃ a vs,o=[a]∧v=some (.ref a)∧H a=some (.lst vs)∧vs.length≤sizeLine∧IsL K H T vs ds
  | .om rows,v=>∃ a ps,o=a::ps∧v=some (.ref a)∧H a=some (.lst (ps.map V.ref))∧ps.length≤sizeLine∧Paired (fun p ds=>∃ vs,H p=some (.lst vs)∧vs.length≤sizeLine∧IsL K H T vs ds) ps rows
  | .od kvs,v=>∃ a,o=[a]∧v=some (.ref a)∧H a=some (.dK (kvs.map dkv))∧kvs.length≤sizeLine
  | .pm a ps rows,v=>o=a::ps∧v=some (.ref a)∧H a=some (.lst (ps.map V.ref))∧ps.length≤sizeLine∧Paired (fun p ds=>∃ vs,H p=some (.lst vs)∧vs.length≤sizeLine∧IsL K H T vs ds) ps rows
  | .pd a kvs,v=>o=[a]∧v=some (.ref a)∧H a=some (.dK (kvs.map dkv))∧kvs.length≤sizeLine
class Tabs where
  ts:List (Addr×Str)
def TabIn [Tabs] (H:Hp):Prop:=∀ p∈Tabs.ts,∃ t,H p.1=some (.tbl #[.str p.2 t])
theorem TabIn.same [Tabs] {H H':Hp} (h:TabIn H) (s:Same H H'):TabIn H':=fun p hp=>let ⟨t,e⟩:=h p hp; ⟨t,s _ _ e⟩
def ZT [Tabs] (Z:Addr→Prop) (H:Hp):Prop:=(∀ a,Z a→∃ o,H a=some o)∧TabIn H
structure Fr [Tabs] (K:PySem.W.Frag) (B:Hp) (Z:Addr→Prop) (os:Own) (ρ:Rho) (σ:St) (H:Hp):Prop where
  keep:Same B H
  zin:∀ a,Z a→∃ o,H a=some o
  len:σ.length=ρ.length
  nd:∀ i,(os i).Nodup
  dj:∀ i j a,a∈os i→a∈os j→i=j
  new:∀ i a,a∈os i→B a=none∧¬ Z a
  sl:∀ i,SlOk K B H (tot Z os) (os i) (ρ.getD i .un) ((σ[i]?).join)
  tab:TabIn B
variable [Tabs]
theorem Fr.tabH {B H:Hp} {Z:Addr→Prop} {os:Own} {ρ:Rho} {σ:St} (f:Fr K B Z os ρ σ H):TabIn H:=f.tab.same f.keep
theorem Paired.any {α β:Type} {F:α→β→Prop}:∀ {as:List α} {bs:List β} {a:α},Paired F as bs→a∈as→∃ b,F a b
  | _,_,_,.cons r t,h=>by
    rcases List.mem_cons.mp h with rfl | h
    · exact ⟨_,r⟩
    · exact Paired.any t h
theorem SlOk.dom {B H:Hp} {T:Addr→Prop} {o:List Addr} {s:Sl} {v:Option V} (h:SlOk K B H T o s v) {a:Addr} (ha:a∈o):∃ u,H a=some u:=by
  cases s with
  | un=>cases h; cases ha
  | pu d=>obtain ⟨rfl,_⟩:=h; cases ha
  | bo d=>obtain ⟨rfl,_⟩:=h; cases ha
  | ol ds =>
    obtain ⟨b,vs,rfl,_,e,_⟩:=h
    cases List.mem_singleton.mp ha
    exact ⟨_,e⟩
  | om rows =>
    obtain ⟨b,ps,rfl,_,e,_,r⟩:=h
    rcases List.mem_cons.mp ha with rfl | ha
    · exact ⟨_,e⟩
    · obtain ⟨_,vs,q,_⟩:=Paired.any r ha
      exact ⟨_,q⟩
  | od kvs =>
    obtain ⟨b,rfl,_,e,_⟩:=h
    cases List.mem_singleton.mp ha
    exact ⟨_,e⟩
  | pm b ps rows =>
    obtain ⟨rfl,_,e,_,r⟩:=h
    rcases List.mem_cons.mp ha with rfl | ha
    · exact ⟨_,e⟩
    · obtain ⟨_,vs,q,_⟩:=Paired.any r ha
      exact ⟨_,q⟩
  | pd b kvs =>
    obtain ⟨rfl,_,e,_⟩:=h
    cases List.mem_singleton.mp ha
    exact ⟨_,e⟩
theorem SlOk.kp {B B' H H':Hp} {T T':Addr→Prop} {o:List Addr} {s:Sl} {v:Option V} (h:SlOk K B H T o s v) (k:Kp T H T' H') (hb:Same B B') (ho:∀ a∈o,∀ u,H a=some u→H' a=some u):SlOk K B' H' T' o s v:=by
  cases s with
  | un=>exact h
  | pu d=>obtain ⟨e,u,e2,i⟩:=h; exact ⟨e,u,e2,i.kp k⟩
  | bo d=>obtain ⟨e,u,e2,i⟩:=h; exact ⟨e,u,e2,i.same hb⟩
  | ol ds=>obtain ⟨a,vs,rfl,e2,e3,hl,i⟩:=h; exact ⟨a,vs,rfl,e2,ho _ (List.mem_singleton.mpr rfl) _ e3,hl,i.kp k⟩
  | om rows =>
    obtain ⟨a,ps,rfl,e2,e3,hl,i⟩:=h
    exact ⟨a,ps,rfl,e2,ho _ List.mem_cons_self _ e3,hl,Paired.mono i fun p ds hp ⟨vs,q,hv,j⟩=>⟨vs,ho _ (List.mem_cons_of_mem _ hp) _ q,hv,j.kp k⟩⟩
  | od kvs=>obtain ⟨a,rfl,e2,e3,hl⟩:=h; exact ⟨a,rfl,e2,ho _ (List.mem_singleton.mpr rfl) _ e3,hl⟩
  | pm a ps rows =>
    obtain ⟨rfl,e2,e3,hl,i⟩:=h
    exact ⟨rfl,e2,ho _ List.mem_cons_self _ e3,hl,Paired.mono i fun p ds hp ⟨vs,q,hv,j⟩=>⟨vs,ho _ (List.mem_cons_of_mem _ hp) _ q,hv,j.kp k⟩⟩
  | pd a kvs=>obtain ⟨rfl,e2,e3,hl⟩:=h; exact ⟨rfl,e2,ho _ (List.mem_singleton.mpr rfl) _ e3,hl⟩
section
variable {B H H':Hp} {Z:Addr→Prop} {os:Own} {ρ:Rho} {σ:St}
theorem Fr.grow (f:Fr K B Z os ρ σ H) (s:Same H H'):Fr K B Z os ρ σ H' where
  keep:=f.keep.trans s
  zin:=fun a z=>let ⟨o,e⟩:=f.zin a z; ⟨o,s _ _ e⟩
  len:=f.len
  nd:=f.nd
  dj:=f.dj
  new:=f.new
  sl:=fun i=>(f.sl i).kp (Kp.same s) (Same.refl _) fun a _ u e=>s _ _ e
  tab:=f.tab
theorem Fr.out (f:Fr K B Z os ρ σ H) {p:Addr} (hp:H p=none):¬ tot Z os p:=by
  rintro (z | ⟨i,z⟩)
  · obtain ⟨o,e⟩:=f.zin p z
    rw [hp] at e; cases e
  · obtain ⟨xs,e⟩:=(f.sl i).dom z
    rw [hp] at e; cases e
def putO (os:Own) (i:Nat) (o:List Addr):Own:=fun j=>if j=i then o else os j
theorem putO_same {os:Own} {i:Nat} {o:List Addr}:putO os i o i=o:=if_pos rfl
theorem putO_ne {os:Own} {i j:Nat} {o:List Addr} (h:j≠i):putO os i o j=os j:=if_neg h
theorem getD_set_same {α:Type} {l:List α} {i:Nat} {x d:α} (h:i<l.length):(l.set i x).getD i d=x:=by
  rw [List.getD_eq_getElem?_getD,List.getElem?_set_self h]; rfl
theorem getD_set_ne {α:Type} {l:List α} {i j:Nat} {x d:α} (h:j≠i):(l.set i x).getD j d=l.getD j d:=by
  rw [List.getD_eq_getElem?_getD,List.getElem?_set_ne (Ne.symm h),← List.getD_eq_getElem?_getD]
theorem Fr.step (f:Fr K B Z os ρ σ H) {i:Nat} (hi:i < ρ.length) {o:List Addr} {s:Sl} {v:Option V}
    (hk:∀ a u,H a=some u→a∉os i→H' a=some u) (hs:∀ a,a∈os i→∃ u,H' a=some u) (hn:o.Nodup) (ho:∀ a∈o,a∈os i∨H a=none) (ok:SlOk K B H' (tot Z (putO os i o)) o s v) :
    Fr K B Z (putO os i o) (ρ.set i s) (σ.set i v) H'∧Kp (tot Z os) H (tot Z (putO os i o)) H':=by
  have no:∀ a u,H a=some u→a∉os i→a∉o:=fun a u e n q=>by
    rcases ho a q with z | z
    · exact n z
    · rw [z] at e; cases e
  have kp:Kp (tot Z os) H (tot Z (putO os i o)) H':=fun a u e t=>by
    have ni:a∉os i:=fun q=>t (.inr ⟨i,q⟩)
    refine ⟨hk a u e ni,?_⟩
    rintro (z | ⟨j,z⟩)
    · exact t (.inl z)
    · by_cases hj:j=i
      · subst hj; rw [putO_same] at z; exact no a u e ni z
      · rw [putO_ne hj] at z; exact t (.inr ⟨j,z⟩)
  refine ⟨⟨fun a u e=>hk a u (f.keep a u e) fun q=>?_,fun a z=>?_,?_,fun j=>?_,fun j k a h1 h2=>?_,fun j a h=>?_,fun j=>?_,f.tab⟩,kp⟩
  · have:=(f.new i a q).1; rw [e] at this; cases this
  · obtain ⟨u,e⟩:=f.zin a z
    exact ⟨u,hk a u e fun q=>(f.new i a q).2 z⟩
  · rw [List.length_set,List.length_set]; exact f.len
  · by_cases hj:j=i
    · subst hj; rw [putO_same]; exact hn
    · rw [putO_ne hj]; exact f.nd j
  · have dom:∀ k,a∈os k→∃ u,H a=some u:=fun k z=>let ⟨xs,e⟩:=(f.sl k).dom z; ⟨_,e⟩
    by_cases hj:j=i
    · by_cases hk':k=i
      · rw [hj,hk']
      · subst hj
        rw [putO_same] at h1; rw [putO_ne hk'] at h2
        rcases ho a h1 with z | z
        · exact f.dj _ _ a z h2
        · obtain ⟨u,e⟩:=dom k h2; rw [z] at e; cases e
    · by_cases hk':k=i
      · subst hk'
        rw [putO_ne hj] at h1; rw [putO_same] at h2
        rcases ho a h2 with z | z
        · exact f.dj _ _ a h1 z
        · obtain ⟨u,e⟩:=dom j h1; rw [z] at e; cases e
      · rw [putO_ne hj] at h1; rw [putO_ne hk'] at h2
        exact f.dj _ _ a h1 h2
  · by_cases hj:j=i
    · subst hj
      rw [putO_same] at h
      rcases ho a h with z | z
      · exact f.new _ a z
      · exact ⟨Same.free f.keep z,fun q=>f.out z (.inl q)⟩
    · rw [putO_ne hj] at h; exact f.new j a h
  · by_cases hj:j=i
    · subst hj
      have hσ:j < σ.length:=by rw [f.len]; exact hi
      rw [putO_same,getD_set_same hi,List.getElem?_set_self hσ]
      exact ok
    · rw [putO_ne hj,getD_set_ne hj,List.getElem?_set_ne (Ne.symm hj)]
      exact (f.sl j).kp kp (Same.refl _) fun a ha u e=>hk a u e fun q=>hj (f.dj _ _ a ha q)
theorem Fr.put (f:Fr K B Z os ρ σ H) {i:Nat} (hi:i < ρ.length) {v:V} {d:D} (h:Is K H (tot Z os) v d) :
    Fr K B Z (putO os i []) (ρ.set i (.pu d)) (σ.set i (some v)) H∧Kp (tot Z os) H (tot Z (putO os i [])) H:=by
  refine f.step hi (fun a u e _=>e) (fun a ha=>let ⟨xs,e⟩:=(f.sl i).dom ha; ⟨_,e⟩) List.nodup_nil (fun a h=>by cases h) ⟨rfl,v,rfl,h.kp (Kp.less ?_)⟩
  rintro a (z | ⟨j,z⟩)
  · exact .inl z
  · by_cases hj:j=i
    · subst hj; rw [putO_same] at z; cases z
    · rw [putO_ne hj] at z; exact .inr ⟨j,z⟩
end
end VL
namespace VL
open PySem L2
open Classical
noncomputable section
abbrev DE:=Rho→Option D
section
variable [Tabs] {K:PySem.W.Frag}
def SemB (K:PySem.W.Frag) (t:TE) (e:DE):Prop:=∀ {B:Hp} {Z:Addr→Prop} {os:Own} {ρ:Rho} {σ:L2.St} {H:Hp} {Q:VK} {d:D},Fr K B Z os ρ σ H→e ρ=some d→(∀ v H',Same H H'→Is K H' No v d→Q v H')→t σ H Q
def SemI (K:PySem.W.Frag) (t:TE) (e:DE):Prop:=∀ {B:Hp} {Z:Addr→Prop} {os:Own} {ρ:Rho} {σ:L2.St} {H:Hp} {Q:VK} {d:D},Fr K B Z os ρ σ H→e ρ=some d→(∀ v H',Same H H'→Is K H' (tot Z os) v d→Q v H')→t σ H Q
def SemF (K:PySem.W.Frag) (t:TE) (e:Rho→Option (List D)):Prop:=∀ {B:Hp} {Z:Addr→Prop} {os:Own} {ρ:Rho} {σ:L2.St} {H:Hp} {Q:VK} {ds:List D},Fr K B Z os ρ σ H→e ρ=some ds →
  (∀ p vs H',Same H H'→H p=none→H' p=some (.lst vs)→vs.length≤sizeLine→IsL K H' (fun a=>a=p∨tot Z os a) vs ds→Q (.ref p) H')→t σ H Q
def SemT (K:PySem.W.Frag) (t:TT) (e:Rho→Option Bool):Prop:=∀ {B:Hp} {Z:Addr→Prop} {os:Own} {ρ:Rho} {σ:L2.St} {H:Hp} {Q:Bool→Hp→Prop} {b:Bool},Fr K B Z os ρ σ H→e ρ=some b→(∀ H',Same H H'→Q b H')→t σ H Q
inductive Args (K:PySem.W.Frag) (H:Hp) (T:Addr→Prop):List Bool→List V→List D→Prop
  | nil:Args K H T [] [] []
  | own {ms:List Bool} {v:V} {d:D} {vs:List V} {ds:List D}:Is K H T v d→Args K H T ms vs ds→Args K H T (true::ms) (v::vs) (d::ds)
  | any {ms:List Bool} {v:V} {d:D} {vs:List V} {ds:List D}:Is K H No v d→Args K H T ms vs ds→Args K H T (false::ms) (v::vs) (d::ds)
def SemA (K:PySem.W.Frag) (ms:List Bool) (t:TA) (e:Rho→Option (List D)):Prop:=∀ {B:Hp} {Z:Addr→Prop} {os:Own} {ρ:Rho} {σ:L2.St} {H:Hp} {Q:List V→Hp→Prop} {ds:List D},Fr K B Z os ρ σ H→e ρ=some ds→(∀ vs H',Same H H'→Args K H' (tot Z os) ms vs ds→Q vs H')→t σ H Q
theorem Args.len {H:Hp} {T:Addr→Prop} {ms:List Bool} {vs:List V} {ds:List D} (a:Args K H T ms vs ds):vs.length=ms.length∧ds.length=ms.length:=by
  induction a with
  | nil=>exact ⟨rfl,rfl⟩
  | own h _ ih=>simp [ih.1,ih.2]
  | any h _ ih=>simp [ih.1,ih.2]
theorem Args.lown {H:Hp} {T:Addr→Prop}:∀ {n:Nat} {vs:List V} {ds:List D},Args K H T (List.replicate n true) vs ds→IsL K H T vs ds
  | 0,_,_,.nil=>.nil
  | _+1,_,_,.own h r=>.cons h r.lown
theorem SemI.b {t:TE} {e:DE} (h:SemI K t e):SemB K t e:=fun f q k=>h f q fun v H' s i=>k v H' s i.all
theorem SemF.i {t:TE} {e:Rho→Option (List D)} (h:SemF K t e):SemI K t (fun ρ=>(e ρ).map D.lst):=fun {B Z os ρ σ H Q d} f q k=>by
  dsimp only at q
  cases q1:e ρ with
  | none=>rw [q1] at q; cases q
  | some ds =>
    rw [q1] at q
    cases q
    refine h f q1 fun p vs H' s hp hp' hl i=>k _ _ s (.lst (f.out hp) (.inl hp') hl (i.kp (Kp.less fun a z=>.inr z)))
def lof:D→Option (List D)
  | .lst ds=>some ds
  | .scr ns=>some (ns.map D.int)
  | _=>none
theorem Is.seq {H:Hp} {Z:Addr→Prop} {v:V} {d:D} {ds:List D} (h:Is K H Z v d) (e:lof d=some ds):∃ p vs,v=.ref p∧vs.length≤sizeLine∧vs.length=ds.length∧∀ H' Z',Kp Z H Z' H'→SqL K H' p vs∧IsL K H' Z' vs ds:=by
  cases h with
  | lst hz h hl r=>cases e; exact ⟨_,_,rfl,hl,r.length,fun H' Z' k=>⟨.inl (Rd.kp k hz h).1,r.kp k⟩⟩
  | scr hz h hl=>cases e; exact ⟨_,_,rfl,by rw [List.length_map]; exact hl,by simp,fun H' Z' k=>⟨.inl (Rd.kp k hz h).1,.ofInts _⟩⟩
  | scrK h hl=>cases e; exact ⟨_,_,rfl,by rw [List.length_map]; exact hl,by simp,fun H' Z' k=>⟨.inr h,.ofInts _⟩⟩
  | _=>cases e
noncomputable def dVar (i:Nat):DE:=fun ρ=>match ρ.getD i .un with
  | .pu d=>some d
  | .bo d=>some d
  | .ol ds=>some (.lst ds)
  | .om rows=>some (.lst (rows.map D.lst))
  | .od kvs=>some (.dct kvs)
  | .pm _ _ rows=>some (.lst (rows.map D.lst))
  | .pd _ kvs=>some (.dct kvs)
  | .un=>none
noncomputable def dVarI (i:Nat):DE:=fun ρ=>match ρ.getD i .un with
  | .pu d=>some d
  | _=>none
omit [Tabs] in
theorem join_some {α:Type} {o:Option (Option α)} {u:α} (h:o.join=some u):o=some (some u):=by
  cases o with
  | none=>cases h
  | some x=>rw [show x=some u from h]
theorem rows_is {H:Hp} {T:Addr→Prop}:∀ {ps:List Addr} {rows:List (List D)},Paired (fun p ds=>∃ vs,H p=some (.lst vs)∧vs.length≤sizeLine∧IsL K H T vs ds) ps rows→IsL K H No (ps.map V.ref) (rows.map D.lst)
  | _,_,.nil=>.nil
  | _,_,.cons ⟨vs,e,hl,i⟩ r=>.cons (.lst (fun z=>z) (.inl e) hl i.all) (rows_is r)
theorem sb_var (i:Nat):SemB K (tVar i) (dVar i):=fun {B Z os ρ σ H Q d} f q k=>by
  have s:=f.sl i
  unfold dVar at q
  cases e:ρ.getD i .un with
  | un=>rw [e] at q; cases q
  | pu d' =>
    rw [e] at q s
    cases q
    obtain ⟨_,u,hu,i⟩:=s
    exact ⟨u,join_some hu,k u H (Same.refl _) i.all⟩
  | bo d' =>
    rw [e] at q s
    cases q
    obtain ⟨_,u,hu,i⟩:=s
    exact ⟨u,join_some hu,k u H (Same.refl _) (i.same f.keep)⟩
  | ol ds =>
    rw [e] at q s
    cases q
    obtain ⟨a,vs,_,hu,hH,hl,i⟩:=s
    exact ⟨_,join_some hu,k _ H (Same.refl _) (.lst (fun z=>z) (.inl hH) hl i.all)⟩
  | om rows =>
    rw [e] at q s
    cases q
    obtain ⟨a,ps,_,hu,hH,hl,i⟩:=s
    exact ⟨_,join_some hu,k _ H (Same.refl _) (.lst (fun z=>z) (.inl hH) (by rw [List.length_map]; exact hl) (rows_is i))⟩
  | od kvs =>
    rw [e] at q s
    cases q
    obtain ⟨a,_,hu,hH,hl⟩:=s
    exact ⟨_,join_some hu,k _ H (Same.refl _) (.dct (fun z=>z) (.inl hH) hl)⟩
  | pm a ps rows =>
    rw [e] at q s
    cases q
    obtain ⟨_,hu,hH,hl,i⟩:=s
    exact ⟨_,join_some hu,k _ H (Same.refl _) (.lst (fun z=>z) (.inl hH) (by rw [List.length_map]; exact hl) (rows_is i))⟩
  | pd a kvs =>
    rw [e] at q s
    cases q
    obtain ⟨_,hu,hH,hl⟩:=s
    exact ⟨_,join_some hu,k _ H (Same.refl _) (.dct (fun z=>z) (.inl hH) hl)⟩
theorem si_var (i:Nat):SemI K (tVar i) (dVarI i):=fun {B Z os ρ σ H Q d} f q k=>by
  have s:=f.sl i
  unfold dVarI at q
  cases e:ρ.getD i .un with
  | pu d' =>
    rw [e] at q s
    cases q
    obtain ⟨_,u,hu,i⟩:=s
    exact ⟨u,join_some hu,k u H (Same.refl _) i⟩
  | _=>rw [e] at q; cases q
noncomputable def dC (d:D):DE:=fun _=>some d
theorem si_int {i:Int}:SemI K (tC (.int i)) (dC (.int i)):=fun f q k=>by cases q; exact k _ _ (Same.refl _) (.int i)
theorem si_bl {i:Bool}:SemI K (tC (.bl i)) (dC (.bl i)):=fun f q k=>by cases q; exact k _ _ (Same.refl _) (.bl i)
theorem si_non:SemI K (tC .non) (dC .non):=fun f q k=>by cases q; exact k _ _ (Same.refl _) .non
theorem si_str {x:Str}:SemI K (tC (.str x)) (dC (.str x)):=fun f q k=>by cases q; exact k _ _ (Same.refl _) (.str x)
noncomputable def dII (f:Int→Int→Option D) (a b:DE):DE:=fun ρ=>match a ρ with
  | some (.int i)=>(match b ρ with
    | some (.int j)=>f i j
    | _=>none)
  | _=>none
theorem dII_some {f:Int→Int→Option D} {a b:DE} {ρ:Rho} {d:D} (h:dII f a b ρ=some d):∃ i j,a ρ=some (.int i)∧b ρ=some (.int j)∧f i j=some d:=by
  unfold dII at h
  split at h
  · rename_i i e1
    split at h
    · rename_i j e2
      exact ⟨i,j,e1,e2,h⟩
    · cases h
  · cases h
theorem Is.isInt {H:Hp} {Z:Addr→Prop} {v:V} {i:Int} (h:Is K H Z v (.int i)):v=.int i:=by cases h; rfl
theorem Is.isBl {H:Hp} {Z:Addr→Prop} {v:V} {i:Bool} (h:Is K H Z v (.bl i)):v=.bl i:=by cases h; rfl
theorem Is.isStr {H:Hp} {Z:Addr→Prop} {v:V} {i:Str} (h:Is K H Z v (.str i)):v=.str i:=by cases h; rfl
variable {ta tb tc:TE} {a b c:DE}
theorem si_op0 {g:Int→Int→V} (gd:Int→Int→D) (hg:∀ i j H Z,Is K H Z (g i j) (gd i j)) (ha:SemB K ta a) (hb:SemB K tb b):SemI K (tOp (rI0 g) ta tb) (dII (fun i j=>some (gd i j)) a b):=fun {B Z os ρ σ H Q d} f q k=>by
  obtain ⟨i,j,e1,e2,e3⟩:=dII_some q
  cases e3
  refine ha f e1 fun v H1 s1 i1=>hb (f.grow s1) e2 fun u H2 s2 i2=>?_
  exact ⟨i,j,i1.isInt,i2.isInt,k _ _ (s1.trans s2) (hg i j _ _)⟩
noncomputable def gC (C:Int→Int→Prop) (g:Int→Int→D):Int→Int→Option D:=fun i j=>if C i j then some (g i j) else none
theorem gC_pos {C:Int→Int→Prop} {g:Int→Int→D} {i j:Int} (h:C i j):gC C g i j=some (g i j):=if_pos h
theorem si_opC {C:Int→Int→Prop} {g:Int→Int→V} (gd:Int→Int→D) (hg:∀ i j H Z,Is K H Z (g i j) (gd i j)) (ha:SemB K ta a) (hb:SemB K tb b):SemI K (tOp (rI C g) ta tb) (dII (gC C gd) a b):=fun {B Z os ρ σ H Q d} f q k=>by
  obtain ⟨i,j,e1,e2,e3⟩:=dII_some q
  unfold gC at e3
  by_cases c:C i j
  · rw [if_pos c] at e3
    cases e3
    refine ha f e1 fun v H1 s1 i1=>hb (f.grow s1) e2 fun u H2 s2 i2=>?_
    exact ⟨i,j,i1.isInt,i2.isInt,c,k _ _ (s1.trans s2) (hg i j _ _)⟩
  · rw [if_neg c] at e3; cases e3
noncomputable def dAdd:DE→DE→DE:=dII fun i j=>some (.int (i+j))
noncomputable def dMul:DE→DE→DE:=dII (gC IntMulOk fun i j=>.int (i*j))
noncomputable def dFdiv:DE→DE→DE:=dII (gC (fun _ j=>0<j∧j.natAbs.log2<9000) fun i j=>.int (i / j))
noncomputable def dMod:DE→DE→DE:=dII (gC (fun _ j=>0<j) fun i j=>.int (i % j))
noncomputable def dGt:DE→DE→DE:=dII fun i j=>some (.bl (decide (j<i)))
theorem si_add (ha:SemB K ta a) (hb:SemB K tb b):SemI K (tOp (rI0 fun i j=>.int (i+j)) ta tb) (dAdd a b):=si_op0 (fun i j=>.int (i+j)) (fun _ _ _ _=>.int _) ha hb
theorem si_mul (ha:SemB K ta a) (hb:SemB K tb b):SemI K (tOp (rI IntMulOk fun i j=>.int (i*j)) ta tb) (dMul a b):=si_opC (fun i j=>.int (i*j)) (fun _ _ _ _=>.int _) ha hb
theorem si_fdiv (ha:SemB K ta a) (hb:SemB K tb b):SemI K (tOp (rI (fun _ j=>0<j∧j.natAbs.log2<9000) fun i j=>.int (i / j)) ta tb) (dFdiv a b):=si_opC (fun i j=>.int (i / j)) (fun _ _ _ _=>.int _) ha hb
theorem si_mod (ha:SemB K ta a) (hb:SemB K tb b):SemI K (tOp (rI (fun _ j=>0<j) fun i j=>.int (i % j)) ta tb) (dMod a b):=si_opC (fun i j=>.int (i % j)) (fun _ _ _ _=>.int _) ha hb
theorem si_gt (ha:SemB K ta a) (hb:SemB K tb b):SemI K (tOp (rI0 fun i j=>.bl (decide (j<i))) ta tb) (dGt a b):=si_op0 (fun i j=>.bl (decide (j<i))) (fun _ _ _ _=>.bl _) ha hb
noncomputable def dNeg (a:DE):DE:=fun ρ=>match a ρ with
  | some (.int i)=>some (.int (-i))
  | _=>none
theorem si_neg (ha:SemB K ta a):SemI K (tUn (rU fun i=>.int (-i)) ta) (dNeg a):=fun {B Z os ρ σ H Q d} f q k=>by
  unfold dNeg at q
  split at q
  · rename_i i e1
    cases q
    exact ha f e1 fun v H1 s1 i1=>⟨i,i1.isInt,k _ _ s1 (.int _)⟩
  · cases q
noncomputable def dT (a:DE):Rho→Option Bool:=fun ρ=>match a ρ with
  | some (.bl b)=>some b
  | _=>none
theorem st_test (ha:SemB K ta a):SemT K (tTest ta) (dT a):=fun {B Z os ρ σ H Q d} f q k=>by
  unfold dT at q
  split at q
  · rename_i b e
    cases q
    exact ha f e fun v H1 s1 i1=>⟨_,i1.isBl,k _ s1⟩
  · cases q
def truD:D→Option Bool
  | .non=>some false
  | .bl b=>some b
  | .int i=>some (i != 0)
  | .str y=>if y.length≤sizeLine then some ((y.length:Int) != 0) else none
  | .lst ds=>some (!ds.isEmpty)
  | .tup ds=>some (!ds.isEmpty)
  | .scr ns=>some (!ns.isEmpty)
  | _=>none
theorem isEmpty_is {H:Hp} {Z:Addr→Prop} {vs:List V} {ds:List D} (h:IsL K H Z vs ds):vs.isEmpty=ds.isEmpty:=by cases h <;> rfl
theorem tru_is {H:Hp} {Z:Addr→Prop} {v:V} {d:D} {b:Bool} (h:Is K H Z v d) (e:truD d=some b):TruV K v H b:=by
  cases h with
  | non=>cases e; rfl
  | bl b=>cases e; rfl
  | int i=>cases e; rfl
  | str x =>
    have e:(if x.length≤sizeLine then some ((x.length:Int) != 0) else none)=some b:=e
    by_cases c:x.length≤sizeLine
    · rw [if_pos c] at e; cases e; exact ⟨c,rfl⟩
    · rw [if_neg c] at e; cases e
  | ty n=>cases e
  | lst hz h hl r=>cases e; exact .inl ⟨_,.inl h,by rw [isEmpty_is r]⟩
  | tup hz h hl r=>cases e; exact .inr (.inl ⟨_,.inl (.inl h),by rw [isEmpty_is r]⟩)
  | ins _ _=>cases e
  | dct _ _ _=>cases e
  | scr hz h hl=>cases e; exact .inl ⟨_,.inl h,by cases ‹List Int› <;> rfl⟩
  | scrK h hl=>cases e; exact .inl ⟨_,.inr h,by cases ‹List Int› <;> rfl⟩
noncomputable def dTru (a:DE):Rho→Option Bool:=fun ρ=>match a ρ with
  | some d=>truD d
  | none=>none
theorem st_tru (ha:SemB K ta a):SemT K (fun σ H Q=>ta σ H fun x H'=>∃ k,TruV K x H' k∧Q k H') (dTru a):=fun {B Z os ρ σ H Q b} f q k=>by
  unfold dTru at q
  split at q
  · rename_i d e
    exact ha f e fun v H1 s1 i1=>⟨b,tru_is i1 q,k _ s1⟩
  · cases q
variable {tA tB':TT} {x y:Rho→Option Bool}
noncomputable def dOr (x y:Rho→Option Bool):Rho→Option Bool:=fun ρ=>match x ρ with
  | some true=>some true
  | some false=>y ρ
  | none=>none
noncomputable def dNot (x:Rho→Option Bool):Rho→Option Bool:=fun ρ=>match x ρ with
  | some b=>some (!b)
  | none=>none
theorem st_or (ha:SemT K tA x) (hb:SemT K tB' y):SemT K (tOr tA tB') (dOr x y):=fun {B Z os ρ σ H Q b} f q k=>by
  unfold dOr at q
  split at q
  · rename_i e
    cases q
    exact ha f e fun H1 s1=>iteT (k _ s1)
  · rename_i e
    exact ha f e fun H1 s1=>iteF (hb (f.grow s1) q fun H2 s2=>k _ (s1.trans s2))
  · cases q
theorem st_not (ha:SemT K tA x):SemT K (tNot tA) (dNot x):=fun {B Z os ρ σ H Q b} f q k=>by
  unfold dNot at q
  split at q
  · rename_i c e
    cases q
    exact ha f e fun H1 s1=>k _ s1
  · cases q
noncomputable def dTrue:Rho→Option Bool:=fun _=>some true
theorem st_true:SemT K tTrue dTrue:=fun f q k=>by cases q; exact k _ (Same.refl _)
end
end
end VL
namespace L2
open PySem PySem.Spec PyProof.Rows
section
variable {X:Cx} {pins:List (Addr×Obj)} {σ:St} {H:Hp} {s:Shared} {l:Addr} {xs:List V}
theorem Inv.lstR (I:Inv X pins σ H s) (hH:Rd H l (.lst xs)):xs.length≤sizeLine∧∃ (its:List Value) (n:Nat),Vals xs its∧xs.length=its.length∧s.heap.get? l=some { cls:=.type "list", data:=.seq its.toArray n }:=by
  obtain ⟨z,its,n,r,e⟩:=hH.ok I.hok
  exact ⟨z,its,n,r,r.length,e⟩
def rCatR:R2:=fun x y H Q=>∃ l b xs zs,x=.ref l∧y=.ref b∧Rd H l (.lst xs)∧Rd H b (.lst zs)∧xs.length+zs.length≤sizeLine∧∀ p,H p=none→Q (.ref p) (upd H p (.lst (xs++zs)))
theorem op_catR:OpR X (binaryOp .Add) rCatR:=by
  intro pins s σ H x y v u Q I rx ry h
  obtain ⟨l,b,xs,zs,rfl,rfl,hH,hB,hz,q⟩:=h
  cases rx
  cases ry
  obtain ⟨z,its,n,r,hl,e⟩:=I.lstR hH
  obtain ⟨z2,its2,n2,r2,hl2,e2⟩:=I.lstR hB
  refine PySem.P.add_list e e2 ?_ (by rw [List.size_toArray,List.size_toArray]; omega)
  have ea:its.toArray++its2.toArray=(its++its2).toArray:=by simp
  rw [ea]
  exact ⟨.ref _,_,I.lnew (t':=s.toks) (r.append r2) (by rw [List.length_append]; omega),rfl,q _ I.fresh⟩
theorem ix_seqK {K:PySem.W.Frag} (h:X.K=K):IxR X (rIx K):=by subst h; exact ix_seq
theorem call_lenK {K:PySem.W.Frag} (h:X.K=K):CallR X (.builtin "len") (fun xs H Q=>∃ x n,xs=[x]∧LenV K x H n∧Q (.int n) H):=by subst h; exact call_len
end
end L2
namespace VL
open PySem L2
open Classical
noncomputable section
section
variable [Tabs] {K:PySem.W.Frag} {ta tb tc:TE} {a b c:DE}
noncomputable def dCons (a:DE) (es:Rho→Option (List D)):Rho→Option (List D):=fun ρ=>match a ρ with
  | some d=>(match es ρ with
    | some ds=>some (d::ds)
    | none=>none)
  | none=>none
noncomputable def dNil:Rho→Option (List D):=fun _=>some []
theorem dCons_some {a:DE} {es:Rho→Option (List D)} {ρ:Rho} {ds:List D} (h:dCons a es ρ=some ds):∃ d r,a ρ=some d∧es ρ=some r∧ds=d::r:=by
  unfold dCons at h
  split at h
  · rename_i d e1
    split at h
    · rename_i r e2
      exact ⟨d,r,e1,e2,(Option.some.inj h).symm⟩
    · cases h
  · cases h
theorem sa_nil:SemA K [] tNil dNil:=fun f q k=>by cases q; exact k _ _ (Same.refl _) .nil
theorem sa_own {ms:List Bool} {tr:TA} {es:Rho→Option (List D)} (ha:SemI K ta a) (hr:SemA K ms tr es):SemA K (true::ms) (tCons ta tr) (dCons a es):=fun {B Z os ρ σ H Q ds} f q k=>by
  obtain ⟨d,r,e1,e2,rfl⟩:=dCons_some q
  exact ha f e1 fun v H1 s1 i1=>hr (f.grow s1) e2 fun vs H2 s2 i2=>k _ _ (s1.trans s2) (.own (i1.same s2) i2)
theorem sa_any {ms:List Bool} {tr:TA} {es:Rho→Option (List D)} (ha:SemB K ta a) (hr:SemA K ms tr es):SemA K (false::ms) (tCons ta tr) (dCons a es):=fun {B Z os ρ σ H Q ds} f q k=>by
  obtain ⟨d,r,e1,e2,rfl⟩:=dCons_some q
  exact ha f e1 fun v H1 s1 i1=>hr (f.grow s1) e2 fun vs H2 s2 i2=>k _ _ (s1.trans s2) (.any (i1.same s2) i2)
theorem kp_new {T:Addr→Prop} {H:Hp} {p:Addr} {o:HO} (hp:H p=none):Kp T H (fun a=>a=p∨T a) (upd H p o):=fun a u e z=>by
  have hne:a≠p:=ne_of_none e hp
  exact ⟨by rw [upd_ne hne]; exact e,fun q=>q.elim hne z⟩
theorem sf_lst {n:Nat} {t:TA} {es:Rho→Option (List D)} (h:SemA K (List.replicate n true) t es) (hn:n≤sizeLine):SemF K (tLst t) es:=fun {B Z os ρ σ H Q ds} f q k=>by
  refine h f q fun vs H1 s1 a=>?_
  have hl:vs.length≤sizeLine:=by have:=a.len.1; rw [List.length_replicate] at this; omega
  exact ⟨hl,fun p hp=>k p vs _ (s1.trans (same_new hp)) (Same.free s1 hp) upd_same hl (a.lown.kp (kp_new hp))⟩
noncomputable def dLst (es:Rho→Option (List D)):DE:=fun ρ=>(es ρ).map D.lst
theorem SemF.l {t:TE} {e:Rho→Option (List D)} (h:SemF K t e):SemI K t (dLst e):=h.i
def ixD:D→Int→Option D
  | .lst ds,i=>atI ds i
  | .tup ds,i=>atI ds i
  | .scr ns,i=>(atI ns i).map D.int
  | .str z,i=>if z.length≤sizeLine then (atI z.cps.toList i).map fun c=>.str ⟨#[c]⟩ else none
  | _,_=>none
theorem atI_is {H:Hp} {Z:Addr→Prop} {vs:List V} {ds:List D} {i:Int} {d:D} (r:IsL K H Z vs ds) (h:atI ds i=some d):∃ v,atI vs i=some v∧Is K H Z v d:=by
  unfold atI at h ⊢
  rw [r.length]
  cases e:ixN ds.length i with
  | none=>rw [e] at h; cases h
  | some j =>
    rw [e] at h
    obtain ⟨v,e1,i1⟩:=r.get (i:=j) (show ds[j]?=some d from h)
    exact ⟨v,e1,i1⟩
theorem atI_mapI {ns:List Int} {i:Int} {n:Int} (h:atI ns i=some n):atI (ns.map V.int) i=some (.int n):=by
  unfold atI at h ⊢
  rw [List.length_map]
  cases e:ixN ns.length i with
  | none=>rw [e] at h; cases h
  | some j =>
    rw [e] at h
    have h':ns[j]?=some n:=h
    show (ns.map V.int)[j]?=some (.int n)
    rw [List.getElem?_map,h']
    rfl
theorem ix_is {H:Hp} {Z:Addr→Prop} {v:V} {d e:D} {i:Int} {Q:VK} (h:Is K H Z v d) (q:ixD d i=some e) (k:∀ u,Is K H Z u e→Q u H):rIx K v (.int i) H Q:=by
  cases h with
  | lst hz h hl r =>
    obtain ⟨u,e1,i1⟩:=atI_is r (show atI _ i=some e from q)
    exact .inl ⟨_,_,i,u,rfl,rfl,.inl h,e1,k u i1⟩
  | tup hz h hl r =>
    obtain ⟨u,e1,i1⟩:=atI_is r (show atI _ i=some e from q)
    exact .inr (.inl ⟨_,_,i,u,rfl,rfl,.inl (.inl h),e1,k u i1⟩)
  | str z =>
    have q:(if z.length≤sizeLine then (atI z.cps.toList i).map fun c=>D.str ⟨#[c]⟩ else none)=some e:=q
    by_cases c:z.length≤sizeLine
    · rw [if_pos c] at q
      cases e2:atI z.cps.toList i with
      | none=>rw [e2] at q; cases q
      | some cp =>
        rw [e2] at q
        cases q
        exact .inr (.inr ⟨z,i,cp,rfl,rfl,c,e2,k _ (.str _)⟩)
    · rw [if_neg c] at q; cases q
  | @scr p ns hz h hl =>
    have q:(atI ns i).map D.int=some e:=q
    cases e2:atI ns i with
    | none=>rw [e2] at q; cases q
    | some n=>rw [e2] at q; cases q; exact .inl ⟨_,_,i,_,rfl,rfl,.inl h,atI_mapI e2,k _ (.int n)⟩
  | @scrK p ns h hl =>
    have q:(atI ns i).map D.int=some e:=q
    cases e2:atI ns i with
    | none=>rw [e2] at q; cases q
    | some n=>rw [e2] at q; cases q; exact .inl ⟨_,_,i,_,rfl,rfl,.inr h,atI_mapI e2,k _ (.int n)⟩
  | _=>cases q
noncomputable def dIx (a b:DE):DE:=fun ρ=>match a ρ with
  | some d=>(match b ρ with
    | some (.int i)=>ixD d i
    | _=>none)
  | none=>none
theorem dIx_some {ρ:Rho} {d:D} (h:dIx a b ρ=some d):∃ e i,a ρ=some e∧b ρ=some (.int i)∧ixD e i=some d:=by
  unfold dIx at h
  split at h
  · rename_i e e1
    split at h
    · rename_i i e2
      exact ⟨e,i,e1,e2,h⟩
    · cases h
  · cases h
theorem sb_ix (ha:SemB K ta a) (hb:SemB K tb b):SemB K (tOp (rIx K) ta tb) (dIx a b):=fun {B Z os ρ σ H Q d} f q k=>by
  obtain ⟨e,i,e1,e2,e3⟩:=dIx_some q
  refine ha f e1 fun v H1 s1 i1=>hb (f.grow s1) e2 fun u H2 s2 i2=>?_
  rw [i2.isInt]
  exact ix_is (i1.same s2) e3 fun w i3=>k _ _ (s1.trans s2) i3
theorem si_ix (ha:SemI K ta a) (hb:SemB K tb b):SemI K (tOp (rIx K) ta tb) (dIx a b):=fun {B Z os ρ σ H Q d} f q k=>by
  obtain ⟨e,i,e1,e2,e3⟩:=dIx_some q
  refine ha f e1 fun v H1 s1 i1=>hb (f.grow s1) e2 fun u H2 s2 i2=>?_
  rw [i2.isInt]
  exact ix_is (i1.same s2) e3 fun w i3=>k _ _ (s1.trans s2) i3
noncomputable def dIxO (i:Nat) (b:DE):DE:=fun ρ=>match ρ.getD i .un with
  | .ol ds=>(match b ρ with
    | some (.int k)=>atI ds k
    | _=>none)
  | _=>none
theorem si_ixO {i:Nat} (hb:SemB K tb b):SemI K (tOp (rIx K) (tVar i) tb) (dIxO i b):=fun {B Z os ρ σ H Q d} f q k=>by
  have s:=f.sl i
  unfold dIxO at q
  split at q
  · rename_i ds e0
    rw [e0] at s
    obtain ⟨x,vs,_,hu,hH,hl,i⟩:=s
    split at q
    · rename_i j e2
      refine ⟨_,join_some hu,hb f e2 fun u H2 s2 i2=>?_⟩
      rw [i2.isInt]
      obtain ⟨w,e3,i3⟩:=atI_is i q
      exact .inl ⟨_,_,j,w,rfl,rfl,.inl (.inl (s2 _ _ hH)),e3,k _ _ s2 (i3.same s2)⟩
    · cases q
  · cases q
def D.v:D→V
  | .bl b=>.bl b
  | .int i=>.int i
  | .str x=>.str x
  | .ty n=>.ty n
  | _=>.non
theorem D.v_is {H:Hp} {Z:Addr→Prop} {d:D} (h:d.scal=true):Is K H Z d.v d:=by
  cases d with
  | non=>exact .non
  | bl b=>exact .bl b
  | int b=>exact .int b
  | str b=>exact .str b
  | ty b=>exact .ty b
  | _=>cases h
noncomputable def dF1 (g:D→Option D) (a:DE):DE:=fun ρ=>match a ρ with
  | some d=>g d
  | none=>none
theorem si_f1 {r:List V→Hp→VK→Prop} {g:D→Option D} (hg:∀ {H v d e} {Q:VK},Is K H No v d→g d=some e→e.scal=true∧(Q e.v H→r [v] H Q)) (ha:SemB K ta a):SemI K (tCB r (tCons ta tNil)) (dF1 g a):=fun {B Z os ρ σ H Q d} f q k=>by
  unfold dF1 at q
  split at q
  · rename_i e e1
    refine ha f e1 fun v H1 s1 i1=>?_
    obtain ⟨hs,hr⟩:=hg (Q:=Q) i1 q
    exact hr (k _ _ s1 (D.v_is hs))
  · cases q
def lenD:D→Option D
  | .lst ds=>some (.int ds.length)
  | .tup ds=>some (.int ds.length)
  | .scr ns=>some (.int ns.length)
  | .str y=>if y.length≤sizeLine then some (.int y.length) else none
  | _=>none
theorem len_is {H:Hp} {v:V} {d e:D} {Q:VK} (h:Is K H No v d) (q:lenD d=some e):e.scal=true∧(Q e.v H→∃ x n,[v]=[x]∧LenV K x H n∧Q (.int n) H):=by
  cases h with
  | lst hz h hl r=>cases q; exact ⟨rfl,fun k=>⟨_,_,rfl,.inl ⟨_,.inl h,rfl⟩,by rw [r.length]; exact k⟩⟩
  | tup hz h hl r=>cases q; exact ⟨rfl,fun k=>⟨_,_,rfl,.inr ⟨_,.inl (.inl h),rfl⟩,by rw [r.length]; exact k⟩⟩
  | str z =>
    have q:(if z.length≤sizeLine then some (D.int z.length) else none)=some e:=q
    by_cases c:z.length≤sizeLine
    · rw [if_pos c] at q; cases q; exact ⟨rfl,fun k=>⟨_,_,rfl,⟨c,rfl⟩,k⟩⟩
    · rw [if_neg c] at q; cases q
  | scr hz h hl=>cases q; exact ⟨rfl,fun k=>⟨_,_,rfl,.inl ⟨_,.inl h,rfl⟩,by rw [List.length_map]; exact k⟩⟩
  | scrK h hl=>cases q; exact ⟨rfl,fun k=>⟨_,_,rfl,.inl ⟨_,.inr h,rfl⟩,by rw [List.length_map]; exact k⟩⟩
  | _=>cases q
theorem si_len (ha:SemB K ta a):SemI K (tCB (fun xs H Q=>∃ x n,xs=[x]∧LenV K x H n∧Q (.int n) H) (tCons ta tNil)) (dF1 lenD a):=si_f1 (fun h q=>len_is h q) ha
def asInts:List D→Option (List Int)
  | []=>some []
  | .int i::r=>(asInts r).map (i::·)
  | _=>none
def ofInts (g:List Int→Option D):D→Option D
  | .lst ds=>(asInts ds).bind g
  | _=>none
def D.tyn:D→String
  | .non => "NoneType"
  | .bl _ => "bool"
  | .int _ => "int"
  | .str _ => "str"
  | .lst _ => "list"
  | .tup _ => "tuple"
  | .ty _ => "type"
  | .ins _ => "object"
  | .dct _ => "object"
  | .scr _ => "script"
def isiT:String→String→Option Bool
  | "int", "int" => some true
  | "int", "bool" => some false
  | "int", "list" => some false
  | "int", "tuple" => some false
  | "int", "str" => some false
  | "bool", "int" => some true
  | "bool", "bool" => some true
  | "bool", "list" => some false
  | "bool", "tuple" => some false
  | "list", "list" => some true
  | "list", "tuple" => some false
  | "list", "int" => some false
  | "list", "str" => some false
  | "tuple", "tuple" => some true
  | "tuple", "list" => some false
  | "tuple", "int" => some false
  | "str", "str" => some true
  | "str", "list" => some false
  | "str", "int" => some false
  | "NoneType", "int" => some false
  | "NoneType", "list" => some false
  | "NoneType", "tuple" => some false
  | _,_=>none
noncomputable def dIsi (n:String) (a:DE):DE:=fun ρ=>match a ρ with
  | some d=>(isiT d.tyn n).map D.bl
  | none=>none
theorem isiT_kit {x n:String} {b:Bool} (h:isiT x n=some b):PySem.W.kitOne K (.type x) (.type n)=some b:=by
  unfold isiT at h
  split at h <;> first | (cases h; rfl) | (cases h; with_unfolding_all rfl) | cases h
theorem tyOf_is {H:Hp} {v:V} {d:D} {n:String} {b:Bool} (h:Is K H No v d) (e:isiT d.tyn n=some b):TyOf K H v (.type d.tyn):=by
  cases h with
  | non=>exact .non
  | bl b=>exact .bl b
  | int b=>exact .int b
  | str b=>exact .str b
  | ty n=>unfold isiT at e; simp [D.tyn] at e
  | lst hz h hl r=>rcases h with h | ⟨o,h⟩; exact .lst h; exact .frz h
  | tup hz h hl r=>exact .tup h
  | ins _ _=>unfold isiT at e; simp [D.tyn] at e
  | dct _ _ _=>unfold isiT at e; simp [D.tyn] at e
  | scr _ _ _=>unfold isiT at e; simp [D.tyn] at e
  | scrK _ _=>unfold isiT at e; simp [D.tyn] at e
theorem si_isi {n:String} (ha:SemB K ta a):SemI K (tCB (fun xs H Q=>∃ x n t b,xs=[x,.ty n]∧TyOf K H x t∧PySem.W.kitOne K t (.type n)=some b∧Q (.bl b) H) (tCons ta (tCons (tC (.ty n)) tNil))) (dIsi n a):=fun {B Z os ρ σ H Q d} f q k=>by
  unfold dIsi at q
  split at q
  · rename_i e e1
    cases q1:isiT e.tyn n with
    | none=>rw [q1] at q; cases q
    | some b =>
      rw [q1] at q
      cases q
      exact ha f e1 fun v H1 s1 i1=>⟨v,n,_,b,rfl,tyOf_is i1 q1,isiT_kit q1,k _ _ s1 (.bl b)⟩
  · cases q
def cutL {α:Type} (xs:List α) (lo hi:Option Int):List α:=(xs.drop (HT.sIx xs.length 0 lo)).take (HT.sIx xs.length xs.length hi-HT.sIx xs.length 0 lo)
theorem cut_is {H:Hp} {Z:Addr→Prop} {vs:List V} {ds:List D} {lo hi:Option Int} (r:IsL K H Z vs ds):IsL K H Z (cutV vs lo hi) (cutL ds lo hi):=by
  unfold cutV cutL
  rw [r.length]
  exact (r.drop _).take _
def SemO (K:PySem.W.Frag) (t:TO) (e:Rho→Option (Option Int)):Prop:=∀ {B:Hp} {Z:Addr→Prop} {os:Own} {ρ:Rho} {σ:L2.St} {H:Hp} {Q:Option Int→Hp→Prop} {o:Option Int},Fr K B Z os ρ σ H→e ρ=some o→(∀ H',Same H H'→Q o H')→t σ H Q
noncomputable def oNone:Rho→Option (Option Int):=fun _=>some none
noncomputable def oSome (a:DE):Rho→Option (Option Int):=fun ρ=>match a ρ with
  | some (.int i)=>some (some i)
  | _=>none
theorem so_none:SemO K tNoPart oNone:=fun f q k=>by cases q; exact k _ (Same.refl _)
theorem so_some (ha:SemB K ta a):SemO K (tPart ta) (oSome a):=fun {B Z os ρ σ H Q o} f q k=>by
  unfold oSome at q
  split at q
  · rename_i i e
    cases q
    exact ha f e fun v H1 s1 i1=>⟨i,i1.isInt,k _ s1⟩
  · cases q
def asL (a:DE):Rho→Option (List D):=fun ρ=>match a ρ with
  | some d=>lof d
  | none=>none
theorem asL_some {a:DE} {ρ:Rho} {ds:List D} (h:asL a ρ=some ds):∃ d,a ρ=some d∧lof d=some ds:=by
  unfold asL at h
  split at h
  · exact ⟨_,by assumption,h⟩
  · cases h
noncomputable def dSl (a:DE) (lo hi:Rho→Option (Option Int)):Rho→Option (List D):=fun ρ=>match asL a ρ with
  | some ds=>(match lo ρ with
    | some l=>(match hi ρ with
      | some h=>some (cutL ds l h)
      | none=>none)
    | none=>none)
  | _=>none
theorem dSl_some {lo hi:Rho→Option (Option Int)} {ρ:Rho} {ds:List D} (h:dSl a lo hi ρ=some ds):∃ es l u,asL a ρ=some es∧lo ρ=some l∧hi ρ=some u∧ds=cutL es l u:=by
  unfold dSl at h
  split at h
  · rename_i es e1
    split at h
    · rename_i l e2
      split at h
      · rename_i u e3
        exact ⟨es,l,u,e1,e2,e3,(Option.some.inj h).symm⟩
      · cases h
    · cases h
  · cases h
theorem Is.isLst {H:Hp} {Z:Addr→Prop} {v:V} {ds:List D} (h:Is K H Z v (.lst ds)):∃ p vs,v=.ref p∧¬ Z p∧Rd H p (.lst vs)∧vs.length≤sizeLine∧IsL K H Z vs ds:=by
  cases h with
  | lst hz h hl r=>exact ⟨_,_,rfl,hz,h,hl,r⟩
def flatL (ds:List D):Bool:=ds.all D.scal
theorem IsL.flat {H H':Hp} {Z Z':Addr→Prop}:∀ {vs:List V} {ds:List D},IsL K H Z vs ds→flatL ds=true→IsL K H' Z' vs ds
  | _,_,.nil,_=>.nil
  | _,_,.cons h r,e=>by
    have e:=(Bool.and_eq_true _ _).mp (show (D.scal _&&flatL _)=true from e)
    exact .cons (h.scal e.1) (r.flat e.2)
noncomputable def gFlat (e:Rho→Option (List D)):Rho→Option (List D):=fun ρ=>match e ρ with
  | some ds=>if flatL ds=true then some ds else none
  | none=>none
theorem gFlat_some {e:Rho→Option (List D)} {ρ:Rho} {ds:List D} (h:gFlat e ρ=some ds):e ρ=some ds∧flatL ds=true:=by
  unfold gFlat at h
  split at h
  · rename_i es e1
    by_cases c:flatL es=true
    · rw [if_pos c] at h; cases h; exact ⟨e1,c⟩
    · rw [if_neg c] at h; cases h
  · cases h
theorem sf_slB {tl th:TO} {lo hi:Rho→Option (Option Int)} (ha:SemB K ta a) (hl:SemO K tl lo) (hh:SemO K th hi):SemF K (tSl (rSlL K) ta tl th) (gFlat (dSl a lo hi)):=fun {B Z os ρ σ H Q ds} f q k=>by
  obtain ⟨q,hf⟩:=gFlat_some q
  obtain ⟨es,l,u,e1,e2,e3,rfl⟩:=dSl_some q
  obtain ⟨d,e1,ed⟩:=asL_some e1
  refine ha f e1 fun v H1 s1 i1=>hl (f.grow s1) e2 fun H2 s2=>hh (f.grow (s1.trans s2)) e3 fun H3 s3=>?_
  obtain ⟨p,vs,rfl,hn,_,hr⟩:=i1.seq ed
  obtain ⟨hr,r⟩:=hr H3 _ (Kp.same (s2.trans s3))
  have s13:=(s1.trans s2).trans s3
  exact ⟨p,vs,rfl,hr,fun n hn'=>k n _ _ (s13.trans (same_new hn')) (Same.free s13 hn') upd_same (Nat.le_trans (cutV_length _ _ _) hn) ((cut_is r).flat hf)⟩
noncomputable def dCat (a b:DE):Rho→Option (List D):=fun ρ=>match a ρ with
  | some (.lst ds)=>(match b ρ with
    | some (.lst es)=>if ds.length+es.length≤sizeLine then some (ds++es) else none
    | _=>none)
  | _=>none
theorem dCat_some {ρ:Rho} {ds:List D} (h:dCat a b ρ=some ds):∃ xs ys,a ρ=some (.lst xs)∧b ρ=some (.lst ys)∧xs.length+ys.length≤sizeLine∧ds=xs++ys:=by
  unfold dCat at h
  split at h
  · rename_i xs e1
    split at h
    · rename_i ys e2
      by_cases c:xs.length+ys.length≤sizeLine
      · rw [if_pos c] at h; exact ⟨xs,ys,e1,e2,c,(Option.some.inj h).symm⟩
      · rw [if_neg c] at h; cases h
    · cases h
  · cases h
theorem sf_cat (ha:SemI K ta a) (hb:SemI K tb b):SemF K (tOp rCatR ta tb) (dCat a b):=fun {B Z os ρ σ H Q ds} f q k=>by
  obtain ⟨xs,ys,e1,e2,hc,rfl⟩:=dCat_some q
  refine ha f e1 fun v H1 s1 i1=>hb (f.grow s1) e2 fun u H2 s2 i2=>?_
  obtain ⟨p,vs,rfl,hz,hr,hn,r⟩:=(i1.same s2).isLst
  obtain ⟨p2,us,rfl,hz2,hr2,hn2,r2⟩:=i2.isLst
  have hl:vs.length+us.length≤sizeLine:=by rw [r.length,r2.length]; exact hc
  have s12:=s1.trans s2
  exact ⟨p,p2,vs,us,rfl,rfl,hr,hr2,hl,fun n hn'=>k n _ _ (s12.trans (same_new hn')) (Same.free s12 hn') upd_same (by rw [List.length_append]; exact hl) ((r.append r2).kp (kp_new hn'))⟩
end
end
end VL
namespace VL
open PySem L2
open Classical
noncomputable section
instance:Inhabited D:=⟨.non⟩
theorem rd_lst {H:Hp} {a:Addr} {xs ys:List V} (h:Rd H a (.lst xs)) (h':Rd H a (.lst ys)):xs=ys:=by
  rcases h with h | ⟨o,h⟩ <;> rcases h' with h' | ⟨o',h'⟩ <;> rw [h] at h' <;> cases h' <;> rfl
def cmpb:Nat→D→D→Bool
  | _,.int _,.int _=>true
  | _,.bl _,.bl _=>true
  | _,.str _,.str _=>true
  | _,.non,.non=>true
  | n+1,.lst xs,.lst ys=>decide (xs.length≠ys.length) || (List.zip xs ys).all fun p=>cmpb n p.1 p.2
  | n+1,.tup xs,.tup ys=>decide (xs.length=ys.length)&&(List.zip xs ys).all fun p=>cmpb n p.1 p.2
  | _,_,_=>false
theorem zip_at {xs ys:List D} {j:Nat} {a b:D} {p:D×D→Bool} (h:(List.zip xs ys).all p=true) (e1:xs[j]?=some a) (e2:ys[j]?=some b):p (a,b)=true :=
  List.all_eq_true.mp h _ (List.mem_of_getElem? (i:=j) (List.getElem?_zip_eq_some.mpr ⟨e1,e2⟩))
inductive Cm:Nat→D→D→Prop
  | int {n:Nat} (a b:Int):Cm n (.int a) (.int b)
  | bl {n:Nat} (a b:Bool):Cm n (.bl a) (.bl b)
  | str {n:Nat} (a b:Str):Cm n (.str a) (.str b)
  | non {n:Nat}:Cm n .non .non
  | lst {n:Nat} {xs ys:List D} (h:xs.length=ys.length→(List.zip xs ys).all (fun p=>cmpb n p.1 p.2)=true):Cm (n+1) (.lst xs) (.lst ys)
  | tup {n:Nat} {xs ys:List D} (hl:xs.length=ys.length) (h:(List.zip xs ys).all (fun p=>cmpb n p.1 p.2)=true):Cm (n+1) (.tup xs) (.tup ys)
theorem cmpb_inv {n:Nat} {d e:D} (hc:cmpb n d e=true):Cm n d e:=by
  unfold cmpb at hc
  split at hc
  · exact .int _ _
  · exact .bl _ _
  · exact .str _ _
  · exact .non
  · exact .lst fun hl=>by simpa [hl] using hc
  · rw [Bool.and_eq_true] at hc; exact .tup (of_decide_eq_true hc.1) hc.2
  · cases hc
theorem Is.v_int {H:Hp} {Z:Addr→Prop} {v:V} {a:Int} (i:Is K H Z v (.int a)):v=.int a:=by cases i; rfl
theorem Is.v_bl {H:Hp} {Z:Addr→Prop} {v:V} {a:Bool} (i:Is K H Z v (.bl a)):v=.bl a:=by cases i; rfl
theorem Is.v_str {H:Hp} {Z:Addr→Prop} {v:V} {a:Str} (i:Is K H Z v (.str a)):v=.str a:=by cases i; rfl
theorem Is.v_non {H:Hp} {Z:Addr→Prop} {v:V} (i:Is K H Z v .non):v=.non:=by cases i; rfl
theorem Is.v_lst {H:Hp} {Z:Addr→Prop} {v:V} {ds:List D} (i:Is K H Z v (.lst ds)):∃ a vs,v=.ref a∧¬ Z a∧Rd H a (.lst vs)∧vs.length≤sizeLine∧IsL K H Z vs ds:=by
  cases i with | lst hz h hl r=>exact ⟨_,_,rfl,hz,h,hl,r⟩
theorem Is.v_tup {H:Hp} {Z:Addr→Prop} {v:V} {ds:List D} (i:Is K H Z v (.tup ds)):∃ a vs,v=.ref a∧¬ Z a∧H a=some (.tup vs)∧vs.length≤sizeLine∧IsL K H Z vs ds:=by
  cases i with | tup hz h hl r=>exact ⟨_,_,rfl,hz,h,hl,r⟩
theorem Is.inj {H:Hp} {Z Z':Addr→Prop}:∀ (n:Nat) {v:V} {d e:D},cmpb n d e=true→Is K H Z v d→Is K H Z' v e→d=e:=by
  intro n
  induction n using Nat.strongRecOn with | ind n ih=>?_
  have lists:∀ {m:Nat},m<n→∀ {vs:List V} {ds es:List D},(List.zip ds es).all (fun p=>cmpb m p.1 p.2)=true→IsL K H Z vs ds→IsL K H Z' vs es→ds=es:=by
    intro m hm vs ds es hc r r'
    have l1:=r.length
    have l2:=r'.length
    refine List.ext_getElem (by omega) fun k h1 h2=>?_
    obtain ⟨v,e1,i1⟩:=r.get (List.getElem?_eq_getElem h1)
    obtain ⟨v',e2,i2⟩:=r'.get (List.getElem?_eq_getElem h2)
    rw [e1] at e2
    cases e2
    exact ih m hm (zip_at hc (List.getElem?_eq_getElem h1) (List.getElem?_eq_getElem h2)) i1 i2
  intro v d e hc i j
  cases cmpb_inv hc with
  | int=>have h:=i.v_int; rw [j.v_int] at h; cases h; rfl
  | bl=>have h:=i.v_bl; rw [j.v_bl] at h; cases h; rfl
  | str=>have h:=i.v_str; rw [j.v_str] at h; cases h; rfl
  | non=>rfl
  | lst h =>
    obtain ⟨p,xs,rfl,z1,h1,l1,g1⟩:=i.v_lst
    obtain ⟨q,ys,e,z2,h2,l2,g2⟩:=j.v_lst
    cases e
    have e:=rd_lst h1 h2
    subst e
    rw [lists (Nat.lt_succ_self _) (h (by have:=g1.length; have:=g2.length; omega)) g1 g2]
  | tup hl h =>
    obtain ⟨p,xs,rfl,z1,h1,l1,g1⟩:=i.v_tup
    obtain ⟨q,ys,e,z2,h2,l2,g2⟩:=j.v_tup
    cases e
    rw [h1] at h2
    cases h2
    rw [lists (Nat.lt_succ_self _) h g1 g2]
section
variable {X:Cx} {pins:List (Addr×Obj)} {σ:L2.St} {H:Hp} {s:Shared}
theorem dec_lst (xs ys:List D):decide (D.lst xs=D.lst ys)=decide (xs=ys):=by
  rw [Bool.eq_iff_iff,decide_eq_true_iff,decide_eq_true_iff]
  exact ⟨fun h=>D.lst.inj h,fun h=>by rw [h]⟩
theorem dec_tup (xs ys:List D):decide (D.tup xs=D.tup ys)=decide (xs=ys):=by
  rw [Bool.eq_iff_iff,decide_eq_true_iff,decide_eq_true_iff]
  exact ⟨fun h=>D.tup.inj h,fun h=>by rw [h]⟩
theorem dec_int (a b:Int):decide (D.int a=D.int b)=(a==b):=by
  rw [Bool.eq_iff_iff,decide_eq_true_iff,beq_iff_eq]
  exact ⟨fun h=>D.int.inj h,fun h=>by rw [h]⟩
theorem dec_bl (a b:Bool):decide (D.bl a=D.bl b)=(a==b):=by
  rw [Bool.eq_iff_iff,decide_eq_true_iff,beq_iff_eq]
  exact ⟨fun h=>D.bl.inj h,fun h=>by rw [h]⟩
theorem dec_str (a b:Str):decide (D.str a=D.str b)=(a==b):=by
  rw [Bool.eq_iff_iff,decide_eq_true_iff,beq_iff_eq]
  exact ⟨fun h=>D.str.inj h,fun h=>by rw [h]⟩
theorem rc_tups {A:Around} {l b:Addr} {us ws:List Value} {ns ms:List D} (p1:s.heap.IsTuple l us.toArray) (p2:s.heap.IsTuple b ws.toArray) (hl:us.length=ns.length) (hl2:ws.length=ms.length) (hs:ns.length=ms.length) (hu:A.units<cLine)
    (h:∀ (j:Nat) (u v:Value) (a b:D),us[j]?=some u→ws[j]?=some v→ns[j]?=some a→ms[j]?=some b→SeqAt.EqAt A.in1 s u v (decide (a=b))) :
    SeqAt.RcAt A s (.ref l) (.ref b) (decide (ns=ms)):=by
  have q:=SeqAt.RcAt.tuples (e:=fun j=>decide (ns.getD j default=ms.getD j default)) p1 p2 hu (eqAt_items hl hl2 h)
  have e:((List.range (min us.toArray.size ws.toArray.size)).all fun j=>decide (ns.getD j default=ms.getD j default))=decide (ns=ms):=by
    rw [List.size_toArray,List.size_toArray,hl,hl2,← hs,Nat.min_self]; exact range_all_eq default hs
  have e2:(us.toArray.size==ws.toArray.size)=true:=by simp; omega
  rw [e,e2,Bool.and_true] at q
  exact q
theorem rcNe_tups {A:Around} {l b:Addr} {us ws:List Value} {ns ms:List D} (p1:s.heap.IsTuple l us.toArray) (p2:s.heap.IsTuple b ws.toArray) (hl:us.length=ns.length) (hl2:ws.length=ms.length) (hs:ns.length=ms.length) (hu:A.units<cLine)
    (h:∀ (j:Nat) (u v:Value) (a b:D),us[j]?=some u→ws[j]?=some v→ns[j]?=some a→ms[j]?=some b→SeqAt.EqAt A.in1 s u v (decide (a=b))) :
    SeqAt.RcNeAt A s (.ref l) (.ref b) (!decide (ns=ms)):=by
  have q:=SeqAt.RcNeAt.tuples (e:=fun j=>decide (ns.getD j default=ms.getD j default)) p1 p2 hu (eqAt_items hl hl2 h)
  have e:((List.range (min us.toArray.size ws.toArray.size)).all fun j=>decide (ns.getD j default=ms.getD j default))=decide (ns=ms):=by
    rw [List.size_toArray,List.size_toArray,hl,hl2,← hs,Nat.min_self]; exact range_all_eq default hs
  have e2:(us.toArray.size==ws.toArray.size)=true:=by simp; omega
  rw [e,e2,Bool.and_true] at q
  exact q
theorem in1_units {A:Around}:A.in1.units=A.units+1:=rfl
theorem items_is {n:Nat} {A:Around} {xs ys:List V} {us ws:List Value} {ds es:List D} (hc:(List.zip ds es).all (fun p=>cmpb n p.1 p.2)=true) (r1:Vals xs us) (r2:Vals ys ws) (g1:IsL K H No xs ds) (g2:IsL K H No ys es)
    (ih:∀ {v w:V} {d e:D} {u x:Value},RelV v u→RelV w x→Is K H No v d→Is K H No w e→cmpb n d e=true→SeqAt.EqAt A s u x (decide (d=e))) :
    ∀ (j:Nat) (u v:Value) (a b:D),us[j]?=some u→ws[j]?=some v→ds[j]?=some a→es[j]?=some b→SeqAt.EqAt A s u v (decide (a=b)):=by
  intro j u v a b e1 e2 e3 e4
  obtain ⟨x,f1,i1⟩:=g1.get e3
  obtain ⟨y,f2,i2⟩:=g2.get e4
  obtain ⟨u',q1,k1⟩:=r1.get f1
  obtain ⟨v',q2,k2⟩:=r2.get f2
  rw [e1] at q1; cases q1
  rw [e2] at q2; cases q2
  exact ih k1 k2 i1 i2 (zip_at hc e3 e4)
theorem eqAt_is (I:Inv X pins σ H s):∀ (n:Nat) {A:Around},A.units+n<cLine→∀ {v w:V} {d e:D} {u x:Value},RelV v u→RelV w x→Is K H No v d→Is K H No w e→cmpb n d e=true→SeqAt.EqAt A s u x (decide (d=e)):=by
  intro n
  induction n using Nat.strongRecOn with | ind n ih=>?_
  intro A hu v w d e u x r1 r2 i1 i2 hc
  have hc0:=hc
  cases cmpb_inv hc with
  | int a b=>rw [i1.v_int] at r1; rw [i2.v_int] at r2; obtain ⟨t,rfl⟩:=r1; obtain ⟨t',rfl⟩:=r2; rw [dec_int]; exact SeqAt.EqAt.int_int a t b t'
  | bl a b=>rw [i1.v_bl] at r1; rw [i2.v_bl] at r2; cases r1; cases r2; rw [dec_bl]; exact SeqAt.EqAt.bool_bool a b
  | str a b=>rw [i1.v_str] at r1; rw [i2.v_str] at r2; obtain ⟨t,rfl⟩:=r1; obtain ⟨t',rfl⟩:=r2; rw [dec_str]; exact SeqAt.EqAt.str_str a t b t'
  | non=>rw [i1.v_non] at r1; rw [i2.v_non] at r2; cases r1; cases r2; rw [decide_eq_true rfl]; exact SeqAt.EqAt.same _
  | @lst n ds es h =>
    have j1:=i1
    have j2:=i2
    obtain ⟨p,xs,rfl,z1,h1,l1,g1⟩:=i1.v_lst
    obtain ⟨q,ys,rfl,z2,h2,l2,g2⟩:=i2.v_lst
    cases r1
    cases r2
    by_cases hpq:p=q
    · subst hpq
      rw [decide_eq_true (Is.inj _ hc0 j1 j2)]
      exact SeqAt.EqAt.same _
    · obtain ⟨_,us,m1,k1,n1,o1⟩:=I.lstR h1
      obtain ⟨_,ws,m2,k2,n2,o2⟩:=I.lstR h2
      rw [dec_lst]
      have e1:=g1.length
      have e2:=g2.length
      refine SeqAt.EqAt.of_refs hpq ?_
      by_cases hl:ds.length=es.length
      · exact rcAt_lists ⟨_,o1,rfl,_,rfl⟩ ⟨_,o2,rfl,_,rfl⟩ (by omega) (by omega) (by omega) (items_is (h hl) k1 k2 g1 g2 (ih n (Nat.lt_succ_self _) (by rw [in1_units]; omega)))
      · have q:=SeqAt.RcAt.lists_lengths (A:=A) (s:=s) (items:=us.toArray) (items2:=ws.toArray) ⟨_,o1,rfl,_,rfl⟩ ⟨_,o2,rfl,_,rfl⟩ (by simp; omega) (by omega)
        have e:decide (ds=es)=false:=decide_eq_false fun z=>hl (by rw [z])
        rw [e]
        exact q
  | @tup n ds es hl h =>
    have j1:=i1
    have j2:=i2
    obtain ⟨p,xs,rfl,z1,h1,l1,g1⟩:=i1.v_tup
    obtain ⟨q,ys,rfl,z2,h2,l2,g2⟩:=i2.v_tup
    cases r1
    cases r2
    by_cases hpq:p=q
    · subst hpq
      rw [decide_eq_true (Is.inj _ hc0 j1 j2)]
      exact SeqAt.EqAt.same _
    · obtain ⟨us,k1,o1,_⟩:=I.tuple (xs:=xs) (.inl (.inl h1))
      obtain ⟨ws,k2,o2,_⟩:=I.tuple (xs:=ys) (.inl (.inl h2))
      rw [dec_tup]
      have e1:=g1.length
      have e2:=g2.length
      have n1:=k1.length
      have n2:=k2.length
      exact SeqAt.EqAt.of_refs hpq (rc_tups o1 o2 (by omega) (by omega) hl (by omega) (items_is h k1 k2 g1 g2 (ih n (Nat.lt_succ_self _) (by rw [in1_units]; omega))))
def rEqD (K:PySem.W.Frag) (neg:Bool):R2:=fun x y H Q=>∃ d e,Is K H No x d∧Is K H No y e∧cmpb 20 d e=true∧Q (.bl (if neg=true then !decide (d=e) else decide (d=e))) H
theorem op_eqD (hu:X.A.units+64<cLine):OpR X (compareOp .Eq) (rEqD K false):=by
  intro pins s σ H x y v u Q I rx ry h
  obtain ⟨d,e,i1,i2,hc,h⟩:=h
  rw [if_neg Bool.false_ne_true] at h
  cases cmpb_inv hc with
  | int a b=>obtain rfl:=i1.v_int; obtain rfl:=i2.v_int; exact op_eq pins s σ H _ _ v u Q I rx ry ⟨rfl,by rw [show decide (V.int a=V.int b)=decide (D.int a=D.int b) from decide_eq_decide.mpr ⟨fun q=>by cases q; rfl,fun q=>by cases q; rfl⟩]; exact h⟩
  | bl a b=>obtain rfl:=i1.v_bl; obtain rfl:=i2.v_bl; exact op_eq pins s σ H _ _ v u Q I rx ry ⟨rfl,by rw [show decide (V.bl a=V.bl b)=decide (D.bl a=D.bl b) from decide_eq_decide.mpr ⟨fun q=>by cases q; rfl,fun q=>by cases q; rfl⟩]; exact h⟩
  | str a b=>obtain rfl:=i1.v_str; obtain rfl:=i2.v_str; exact op_eq pins s σ H _ _ v u Q I rx ry ⟨rfl,by rw [show decide (V.str a=V.str b)=decide (D.str a=D.str b) from decide_eq_decide.mpr ⟨fun q=>by cases q; rfl,fun q=>by cases q; rfl⟩]; exact h⟩
  | non=>obtain rfl:=i1.v_non; obtain rfl:=i2.v_non; exact op_eq pins s σ H _ _ v u Q I rx ry ⟨rfl,by rw [show decide (V.non=V.non)=decide (D.non=D.non) from decide_eq_decide.mpr ⟨fun q=>rfl,fun q=>rfl⟩]; exact h⟩
  | @lst n ds es hh =>
    obtain ⟨p,xs,rfl,z1,h1,l1,g1⟩:=i1.v_lst
    obtain ⟨q,ys,rfl,z2,h2,l2,g2⟩:=i2.v_lst
    cases rx
    cases ry
    obtain ⟨_,us,m1,k1,n1,o1⟩:=I.lstR h1
    obtain ⟨_,ws,m2,k2,n2,o2⟩:=I.lstR h2
    rw [dec_lst] at h
    have e1:=g1.length
    have e2:=g2.length
    by_cases hl:ds.length=es.length
    · exact rcAt_lists ⟨_,o1,rfl,_,rfl⟩ ⟨_,o2,rfl,_,rfl⟩ (by omega) (by omega) (by omega) (items_is (hh hl) k1 k2 g1 g2 (eqAt_is I 19 (by rw [in1_units]; omega))) X.prog X.w X.xe _ ⟨.bl _,H,I,rfl,h⟩
    · have q:=SeqAt.RcAt.lists_lengths (A:=X.A) (s:=s) (items:=us.toArray) (items2:=ws.toArray) ⟨_,o1,rfl,_,rfl⟩ ⟨_,o2,rfl,_,rfl⟩ (by simp; omega) (by omega)
      have e:decide (ds=es)=false:=decide_eq_false fun z=>hl (by rw [z])
      rw [e] at h
      exact q X.prog X.w X.xe _ ⟨.bl _,H,I,rfl,h⟩
  | @tup n ds es hl hh =>
    obtain ⟨p,xs,rfl,z1,h1,l1,g1⟩:=i1.v_tup
    obtain ⟨q,ys,rfl,z2,h2,l2,g2⟩:=i2.v_tup
    cases rx
    cases ry
    obtain ⟨us,k1,o1,_⟩:=I.tuple (xs:=xs) (.inl (.inl h1))
    obtain ⟨ws,k2,o2,_⟩:=I.tuple (xs:=ys) (.inl (.inl h2))
    rw [dec_tup] at h
    have e1:=g1.length
    have e2:=g2.length
    have n1:=k1.length
    have n2:=k2.length
    exact rc_tups o1 o2 (by omega) (by omega) hl (by omega) (items_is hh k1 k2 g1 g2 (eqAt_is I 19 (by rw [in1_units]; omega))) X.prog X.w X.xe _ ⟨.bl _,H,I,rfl,h⟩
theorem op_neD (hu:X.A.units+64<cLine):OpR X (compareOp .NotEq) (rEqD K true):=by
  intro pins s σ H x y v u Q I rx ry h
  obtain ⟨d,e,i1,i2,hc,h⟩:=h
  rw [if_pos rfl] at h
  cases cmpb_inv hc with
  | int a b=>obtain rfl:=i1.v_int; obtain rfl:=i2.v_int; exact op_ne pins s σ H _ _ v u Q I rx ry ⟨rfl,by rw [show decide (V.int a=V.int b)=decide (D.int a=D.int b) from decide_eq_decide.mpr ⟨fun q=>by cases q; rfl,fun q=>by cases q; rfl⟩]; exact h⟩
  | bl a b=>obtain rfl:=i1.v_bl; obtain rfl:=i2.v_bl; exact op_ne pins s σ H _ _ v u Q I rx ry ⟨rfl,by rw [show decide (V.bl a=V.bl b)=decide (D.bl a=D.bl b) from decide_eq_decide.mpr ⟨fun q=>by cases q; rfl,fun q=>by cases q; rfl⟩]; exact h⟩
  | str a b=>obtain rfl:=i1.v_str; obtain rfl:=i2.v_str; exact op_ne pins s σ H _ _ v u Q I rx ry ⟨rfl,by rw [show decide (V.str a=V.str b)=decide (D.str a=D.str b) from decide_eq_decide.mpr ⟨fun q=>by cases q; rfl,fun q=>by cases q; rfl⟩]; exact h⟩
  | non=>obtain rfl:=i1.v_non; obtain rfl:=i2.v_non; exact op_ne pins s σ H _ _ v u Q I rx ry ⟨rfl,by rw [show decide (V.non=V.non)=decide (D.non=D.non) from decide_eq_decide.mpr ⟨fun q=>rfl,fun q=>rfl⟩]; exact h⟩
  | @lst n ds es hh =>
    obtain ⟨p,xs,rfl,z1,h1,l1,g1⟩:=i1.v_lst
    obtain ⟨q,ys,rfl,z2,h2,l2,g2⟩:=i2.v_lst
    cases rx
    cases ry
    obtain ⟨_,us,m1,k1,n1,o1⟩:=I.lstR h1
    obtain ⟨_,ws,m2,k2,n2,o2⟩:=I.lstR h2
    rw [dec_lst] at h
    have e1:=g1.length
    have e2:=g2.length
    by_cases hl:ds.length=es.length
    · exact rcNeAt_lists ⟨_,o1,rfl,_,rfl⟩ ⟨_,o2,rfl,_,rfl⟩ (by omega) (by omega) (by omega) (items_is (hh hl) k1 k2 g1 g2 (eqAt_is I 19 (by rw [in1_units]; omega))) X.prog X.w X.xe _ ⟨.bl _,H,I,rfl,h⟩
    · have q:=SeqAt.RcNeAt.lists_lengths (A:=X.A) (s:=s) (items:=us.toArray) (items2:=ws.toArray) ⟨_,o1,rfl,_,rfl⟩ ⟨_,o2,rfl,_,rfl⟩ (by simp; omega) (by omega)
      have e:decide (ds=es)=false:=decide_eq_false fun z=>hl (by rw [z])
      rw [e] at h
      exact q X.prog X.w X.xe _ ⟨.bl _,H,I,rfl,h⟩
  | @tup n ds es hl hh =>
    obtain ⟨p,xs,rfl,z1,h1,l1,g1⟩:=i1.v_tup
    obtain ⟨q,ys,rfl,z2,h2,l2,g2⟩:=i2.v_tup
    cases rx
    cases ry
    obtain ⟨us,k1,o1,_⟩:=I.tuple (xs:=xs) (.inl (.inl h1))
    obtain ⟨ws,k2,o2,_⟩:=I.tuple (xs:=ys) (.inl (.inl h2))
    rw [dec_tup] at h
    have e1:=g1.length
    have e2:=g2.length
    have n1:=k1.length
    have n2:=k2.length
    exact rcNe_tups o1 o2 (by omega) (by omega) hl (by omega) (items_is hh k1 k2 g1 g2 (eqAt_is I 19 (by rw [in1_units]; omega))) X.prog X.w X.xe _ ⟨.bl _,H,I,rfl,h⟩
end
section
variable {ta tb:TE} {a b:DE}
noncomputable def dEq (neg:Bool) (a b:DE):DE:=fun ρ=>match a ρ with
  | some d=>(match b ρ with
    | some e=>if cmpb 20 d e=true then some (.bl (if neg=true then !decide (d=e) else decide (d=e))) else none
    | none=>none)
  | none=>none
theorem si_eq [Tabs] {neg:Bool} (ha:SemB K ta a) (hb:SemB K tb b):SemI K (tOp (rEqD K neg) ta tb) (dEq neg a b):=fun {B Z os ρ σ H Q d} f q k=>by
  unfold dEq at q
  split at q
  · rename_i x e1
    split at q
    · rename_i y e2
      by_cases c:cmpb 20 x y=true
      · rw [if_pos c] at q
        cases q
        exact ha f e1 fun v H1 s1 i1=>hb (f.grow s1) e2 fun u H2 s2 i2=>⟨x,y,i1.same s2,i2,c,k _ _ (s1.trans s2) (.bl _)⟩
      · rw [if_neg c] at q; cases q
    · cases q
  · cases q
end
end
end VL
namespace L2
open PySem PySem.Spec PyProof.Rows
section
variable {X:Cx}
end
end L2
namespace VL
open PySem L2
open Classical
noncomputable section
variable [Tabs] {K:PySem.W.Frag}
noncomputable def dVarO (i:Nat):DE:=fun ρ=>match ρ.getD i .un with
  | .bo d=>some d
  | _=>none
def ER (K:PySem.W.Frag) (m:Bool) (Bx H:Hp) (T:Addr→Prop) (x:V) (d:D):Prop:=match m with
  | true=>Is K H T x d
  | false=>Is K Bx No x d
structure Walk (K:PySem.W.Frag) (m:Bool) (Bx:Hp) (J:It) (H1:Hp) (T:Addr→Prop) (ds:List D):Prop where
  len:ds.length≤sizeLine
  go:∀ (i:Nat) (d:D) (H2:Hp) (T2:Addr→Prop),Kp T H1 T2 H2→Same Bx H2→(∀ a,T2 a→∃ o,H2 a=some o)→ds[i]?=some d→J.go i H2∧∀ x H3,J.yld i H2 x H3→Same H2 H3∧ER K m Bx H3 T2 x d
  stop:∀ (i:Nat) (H2:Hp) (T2:Addr→Prop),Kp T H1 T2 H2→Same Bx H2→ds.length=i→J.stop i H2
def SemW (K:PySem.W.Frag) (m:Bool) (wi:TI) (e:Rho→Option (List D)):Prop:=∀ {B:Hp} {Z:Addr→Prop} {os:Own} {ρ:Rho} {σ:L2.St} {H:Hp} {R:It→Hp→Prop} {ds:List D},Fr K B Z os ρ σ H→e ρ=some ds→(∀ J H1,Same H H1→Walk K m B J H1 (tot Z os) ds→R J H1)→wi σ H R
def SemWC (K:PySem.W.Frag) (m:Bool) (wi:TI) (e:Rho→Option (List D)):Prop:=∀ {B:Hp} {Z:Addr→Prop} {os:Own} {ρ:Rho} {σ:L2.St} {H:Hp} {R:It→Hp→Prop} {ds:List D},Fr K B Z os ρ σ H→e ρ=some ds→(∀ J H1,Same H H1→Walk K m H1 J H1 (tot Z os) ds→R J H1)→wi σ H R
theorem SemW.c {wi:TI} {e:Rho→Option (List D)} (h:SemW K true wi e):SemWC K true wi e:=fun f q k=>h f q fun J H1 s w=>k J H1 s ⟨w.len,fun i d H2 T2 kp sm hd e=>w.go i d H2 T2 kp ((f.keep.trans s).trans sm) hd e,fun i H2 T2 kp sm hl=>w.stop i H2 T2 kp ((f.keep.trans s).trans sm) hl⟩
theorem Rd.same {H H':Hp} {a:Addr} {u:HO} (h:Rd H a u) (s:Same H H'):Rd H' a u:=by
  rcases h with h | ⟨o,h⟩
  · exact .inl (s _ _ h)
  · exact .inr ⟨o,s _ _ h⟩
theorem walk_list {m:Bool} {Bx H1:Hp} {T:Addr→Prop} {p:Addr} {vs:List V} {ds:List D} (hl:ds.length≤sizeLine) (hd0:∀ H2 T2,Kp T H1 T2 H2→Same Bx H2→SqL K H2 p vs) (hn:vs.length=ds.length)
    (hi:∀ H2 T2 (i:Nat) v d,Kp T H1 T2 H2→Same Bx H2→vs[i]?=some v→ds[i]?=some d→ER K m Bx H2 T2 v d):Walk K m Bx (Itl K p) H1 T ds:=by
  refine ⟨hl,fun i d H2 T2 kp sb hd e=>?_,fun i H2 T2 kp sb hi=>⟨vs,hd0 H2 T2 kp sb,by omega⟩⟩
  have hr2:=hd0 H2 T2 kp sb
  have hi':i<vs.length:=by rw [hn]; exact (List.getElem?_eq_some_iff.mp e).1
  have e1:vs[i]?=some vs[i]:=List.getElem?_eq_getElem hi'
  refine ⟨⟨vs,_,hr2,e1⟩,fun x H3 ⟨e3,hx⟩=>?_⟩
  subst e3
  have:=hx vs hr2
  rw [e1] at this
  cases this
  exact ⟨Same.refl _,hi _ T2 i _ d kp sb e1 e⟩
theorem sw_list {tl:TE} {a:DE} (ha:SemI K tl a):SemW K true (iList K tl) (asL a):=fun {B Z os ρ σ H R ds} f q k=>by
  obtain ⟨d,q,ed⟩:=asL_some q
  refine ha f q fun v H1 s1 i1=>?_
  obtain ⟨p,vs,rfl,hl,hn,hr⟩:=i1.seq ed
  refine ⟨p,rfl,⟨vs,(hr H1 _ Kp.refl).1⟩,k _ _ s1 (walk_list (vs:=vs) (by omega) (fun H2 T2 kp _=>(hr H2 T2 kp).1) hn fun H2 T2 i v d kp _ e1 e2=>?_)⟩
  obtain ⟨v',f1,i2⟩:=(hr H2 T2 kp).2.get e2
  rw [e1] at f1
  cases f1
  exact i2
def upL (lo:Int) (n:Nat):List D:=(List.range n).map fun (i:Nat)=>.int (lo+(i:Int))
theorem upL_len {lo:Int} {n:Nat}:(upL lo n).length=n:=by unfold upL; rw [List.length_map,List.length_range]
theorem upL_get {lo:Int} {n i:Nat} {d:D} (h:(upL lo n)[i]?=some d):i<n∧d=.int (lo+i):=by
  unfold upL at h
  rw [List.getElem?_map] at h
  by_cases hi:i<n
  · rw [List.getElem?_range hi] at h; cases h; exact ⟨hi,rfl⟩
  · rw [List.getElem?_eq_none (by rw [List.length_range]; omega)] at h; cases h
theorem walk_range {m:Bool} {Bx H1:Hp} {T:Addr→Prop} {lo:Int} {n:Nat} (hn:n≤sizeLine):Walk K m Bx (Itr lo n) H1 T (upL lo n):=by
  refine ⟨by rw [upL_len]; exact hn,fun i d H2 T2 kp _ hd e=>?_,fun i H2 T2 kp _ hi=>by rw [upL_len] at hi; exact Nat.le_of_eq hi⟩
  obtain ⟨hi,rfl⟩:=upL_get e
  refine ⟨hi,fun x H3 ⟨e3,ex⟩=>?_⟩
  subst e3 ex
  cases m
  · exact ⟨Same.refl _,.int _⟩
  · exact ⟨Same.refl _,.int _⟩
noncomputable def dRg1 (a:DE):Rho→Option (List D):=fun ρ=>match a ρ with
  | some (.int j)=>if -(2 ^ 62)≤j∧j.toNat≤sizeLine then some (upL 0 j.toNat) else none
  | _=>none
theorem sw_range1 {ta:TE} {a:DE} (ha:SemB K ta a):SemW K true (iRng1 (tCons ta tNil)) (dRg1 a):=fun {B Z os ρ σ H R ds} f q k=>by
  unfold dRg1 at q
  split at q
  · rename_i j e
    by_cases c:-(2 ^ 62)≤j∧j.toNat≤sizeLine
    · rw [if_pos c] at q
      cases q
      have hs:sizeLine=16777216:=sizeLine_eq
      exact ha f e fun v H1 s1 i1=>⟨j,by rw [i1.isInt],c.1,by omega,k _ _ s1 (walk_range c.2)⟩
    · rw [if_neg c] at q; cases q
  · cases q
abbrev DG:=D→Rho→Option Rho
def SemG (K:PySem.W.Frag) (m:Bool) (g:TG) (e:DG):Prop:=∀ {B:Hp} {Z:Addr→Prop} {os:Own} {ρ:Rho} {σ:L2.St} {H:Hp} {Q:L2.St→Hp→Prop} {v:V} {d:D} {ρ':Rho},Fr K B Z os ρ σ H→ER K m B H (tot Z os) v d→e d ρ=some ρ' →
  (∀ os' σ',Fr K B Z os' ρ' σ' H→Kp (tot Z os) H (tot Z os') H→Q σ' H)→g v σ H Q
def slm (m:Bool) (d:D):Sl:=match m with
  | true=>.pu d
  | false=>.bo d
noncomputable def gN (m:Bool) (i:Nat):DG:=fun d ρ=>some (ρ.set i (slm m d))
theorem Fr.putm {B H:Hp} {Z:Addr→Prop} {os:Own} {ρ:Rho} {σ:L2.St} (f:Fr K B Z os ρ σ H) {m:Bool} (i:Nat) {v:V} {d:D} (h:ER K m B H (tot Z os) v d) :
    ∃ os',Fr K B Z os' (ρ.set i (slm m d)) (σ.set i (some v)) H∧Kp (tot Z os) H (tot Z os') H:=by
  by_cases hi:i < ρ.length
  · cases m with
    | true=>exact ⟨_,f.put hi h⟩
    | false=>exact ⟨_,f.step (s:=.bo d) (v:=some v) hi (fun a u e _=>e) (fun a ha=>let ⟨xs,e⟩:=(f.sl i).dom ha; ⟨_,e⟩) List.nodup_nil (fun a h=>by cases h) ⟨rfl,v,rfl,h⟩⟩
  · have e1:ρ.set i (slm m d)=ρ:=List.set_eq_of_length_le (by omega)
    have e2:σ.set i (some v)=σ:=List.set_eq_of_length_le (by rw [f.len]; omega)
    rw [e1,e2]
    exact ⟨os,f,Kp.refl⟩
theorem sg_name {m:Bool} (i:Nat):SemG K m (gName i) (gN m i):=fun {B Z os ρ σ H Q v d ρ'} f h q k=>by
  cases q
  obtain ⟨os',f',kp⟩:=f.putm i h
  exact k os' _ f' kp
theorem Fr.tin {B H:Hp} {Z:Addr→Prop} {os:Own} {ρ:Rho} {σ:L2.St} (f:Fr K B Z os ρ σ H):∀ a,tot Z os a→∃ o,H a=some o:=by
  rintro a (z | ⟨i,z⟩)
  · exact f.zin a z
  · obtain ⟨xs,e⟩:=(f.sl i).dom z
    exact ⟨_,e⟩
theorem Fr.zt {B H:Hp} {Z:Addr→Prop} {os:Own} {ρ:Rho} {σ:L2.St} (f:Fr K B Z os ρ σ H):ZT (tot Z os) H:=⟨f.tin,f.tabH⟩
def view:Sl→Sl
  | .pu d=>.pu d
  | .bo d=>.bo d
  | .ol ds=>.bo (.lst ds)
  | .om rows=>.bo (.lst (rows.map D.lst))
  | .od kvs=>.bo (.dct kvs)
  | .pm _ _ rows=>.bo (.lst (rows.map D.lst))
  | .pd _ kvs=>.bo (.dct kvs)
  | .un=>.un
def r0 (k:Nat) (cs:List Nat) (ρ:Rho):Rho:=List.replicate k .un++cs.map fun i=>view (ρ.getD i .un)
def s0 (k:Nat) (cs:List Nat) (σ:L2.St):L2.St:=List.replicate k none++cs.map fun i=>(σ[i]?).join
theorem blockFr {B H1 H:Hp} {Z:Addr→Prop} {os:Own} {ρ:Rho} {σ:L2.St} {Dl:Addr} {o:HO} (f:Fr K B Z os ρ σ H1) (hD:H1 Dl=none) (s:Same H1 H) (hd:H Dl=some o) (k:Nat) (cs:List Nat) :
    Fr K H1 (fun a=>a=Dl∨tot Z os a) (fun _=>[]) (r0 k cs ρ) (s0 k cs σ) H where
  keep:=s
  zin:=fun a z=>by
    rcases z with rfl | z
    · exact ⟨o,hd⟩
    · obtain ⟨u,e⟩:=f.tin a z
      exact ⟨u,s _ _ e⟩
  len:=by unfold r0 s0; simp
  nd:=fun _=>List.nodup_nil
  dj:=fun _ _ _ h=>by cases h
  tab:=f.tabH
  new:=fun _ _ h=>by cases h
  sl:=fun j=>by
    have kp:Kp (tot Z os) H1 (tot (fun a=>a=Dl∨tot Z os a) fun _=>[]) H:=fun a u e z=>by
      refine ⟨s _ _ e,?_⟩
      rintro ((rfl | q) | ⟨_,q⟩)
      · rw [hD] at e; cases e
      · exact z q
      · cases q
    unfold r0 s0
    rw [List.getD_eq_getElem?_getD]
    by_cases hj:j<k
    · rw [List.getElem?_append_left (by simpa using hj),List.getElem?_append_left (by simpa using hj),List.getElem?_replicate,if_pos hj]
      exact rfl
    · rw [List.getElem?_append_right (by simpa using hj),List.getElem?_append_right (by simpa using hj),List.length_replicate,List.length_replicate,List.getElem?_map,List.getElem?_map]
      cases e:cs[j-k]? with
      | none=>exact rfl
      | some i =>
        have h:=f.sl i
        show SlOk K _ _ _ _ (view (ρ.getD i .un)) ((σ[i]?).join)
        cases e2:ρ.getD i .un with
        | un=>exact rfl
        | pu d =>
          rw [e2] at h
          obtain ⟨_,u,hu,i1⟩:=h
          exact ⟨rfl,u,hu,i1.kp kp⟩
        | bo d =>
          rw [e2] at h
          obtain ⟨_,u,hu,i1⟩:=h
          exact ⟨rfl,u,hu,i1.same f.keep⟩
        | ol ds =>
          rw [e2] at h
          obtain ⟨a,vs,_,hu,hH,hl,i1⟩:=h
          exact ⟨rfl,_,hu,.lst (fun z=>z) (.inl hH) hl i1.all⟩
        | om rows =>
          rw [e2] at h
          obtain ⟨a,ps,_,hu,hH,hl,i1⟩:=h
          exact ⟨rfl,_,hu,.lst (fun z=>z) (.inl hH) (by rw [List.length_map]; exact hl) (rows_is i1)⟩
        | od kvs =>
          rw [e2] at h
          obtain ⟨a,_,hu,hH,hl⟩:=h
          exact ⟨rfl,_,hu,.dct (fun z=>z) (.inl hH) hl⟩
        | pm a ps rows =>
          rw [e2] at h
          obtain ⟨_,hu,hH,hl,i1⟩:=h
          exact ⟨rfl,_,hu,.lst (fun z=>z) (.inl hH) (by rw [List.length_map]; exact hl) (rows_is i1)⟩
        | pd a kvs =>
          rw [e2] at h
          obtain ⟨_,hu,hH,hl⟩:=h
          exact ⟨rfl,_,hu,.dct (fun z=>z) (.inl hH) hl⟩
def compGo (g:DG) (t:Rho→Option Bool) (e:DE) (ρ0:Rho):List D→Option (List D)
  | []=>some []
  | d::ds=>match g d ρ0 with
    | none=>none
    | some ρ1=>match t ρ1 with
      | none=>none
      | some false=>compGo g t e ρ0 ds
      | some true=>match e ρ1 with
        | none=>none
        | some y=>match compGo g t e ρ0 ds with
          | none=>none
          | some ys=>some (y::ys)
noncomputable def dComp (k:Nat) (cs:List Nat) (it:Rho→Option (List D)) (g:DG) (t:Rho→Option Bool) (e:DE):Rho→Option (List D):=fun ρ=>match it ρ with
  | some ds=>compGo g t e (r0 k cs ρ) ds
  | none=>none
theorem sf_comp {m:Bool} {k:Nat} {cs:List Nat} {wi:TI} {g:TG} {tt:TT} {te:TE} {it:Rho→Option (List D)} {gd:DG} {td:Rho→Option Bool} {ed:DE} (hw:SemWC K m wi it) (hg:SemG K m g gd) (ht:SemT K tt td) (he:SemI K te ed) :
    SemF K (tComp wi g tt te (s0 k cs)) (dComp k cs it gd td ed):=fun {B Z os ρ σ H Q ds} f q kk=>by
  unfold dComp at q
  split at q
  · rename_i xs e0
    refine hw f e0 fun J H1 s1 W Dl hD=>?_
    have f1:=f.grow s1
    have sD:∀ {H2:Hp} {ys:List V},Same H1 H2→Same H1 (upd H2 Dl (.lst ys)):=fun {H2 ys} s a o e=>by
      rw [upd_ne (ne_of_none e hD)]; exact s _ _ e
    refine ⟨fun i m ys H2=>m=xs.length-i∧i≤xs.length∧Same H1 H2∧H2 Dl=some (.lst ys)∧ys.length≤i∧∃ done rest,IsL K H2 (fun a=>a=Dl∨tot Z os a) ys done∧compGo gd td ed (r0 k cs ρ) (xs.drop i)=some rest∧done++rest=ds,
      ⟨_,rfl,Nat.zero_le _,sD (Same.refl _),upd_same,Nat.le_refl _,[],ds,.nil,q,rfl⟩,?_⟩
    rintro i mm ys H2 ⟨rfl,hi,s2,eD,hly,done,rest,il,q2,ed2⟩
    have kp12:Kp (tot Z os) H1 (fun a=>a=Dl∨tot Z os a) H2:=fun a u e z=>⟨s2 _ _ e,fun w=>w.elim (ne_of_none e hD) z⟩
    by_cases hlt:i<xs.length
    · have ex:xs[i]?=some xs[i]:=List.getElem?_eq_getElem hlt
      have ef:=blockFr f1 hD s2 eD k cs
      obtain ⟨go,yl⟩:=W.go i xs[i] H2 _ kp12 s2 (fun a z=>ef.zin a z) ex
      refine .inr ⟨go,fun x H3 hy=>?_⟩
      obtain ⟨s3,er⟩:=yl x H3 hy
      have eD3:=s3 _ _ eD
      have s13:=s2.trans s3
      have ef3:=blockFr f1 hD s13 eD3 k cs
      rw [List.drop_eq_getElem_cons hlt] at q2
      unfold compGo at q2
      have er':ER K m H1 H3 (tot (fun a=>a=Dl∨tot Z os a) fun _=>[]) x xs[i]:=by
        cases m with
        | false=>exact er
        | true=>exact Is.kp (Kp.less fun a z=>z.elim id fun ⟨_,w⟩=>by cases w) er
      split at q2
      · cases q2
      · rename_i ρ1 e1
        refine hg ef3 er' e1 fun os1 σ1 fr1 k1=>?_
        split at q2
        · cases q2
        · rename_i e2
          refine ht fr1 e2 fun H4 s4=>iteF ⟨_,by omega,rfl,hlt,s13.trans s4,s4 _ _ eD3,by omega,done,rest,(il.same s3).same s4,q2,ed2⟩
        · rename_i e2
          refine ht fr1 e2 fun H4 s4=>iteT ?_
          split at q2
          · cases q2
          · rename_i y e3
            split at q2
            · cases q2
            · rename_i rs e4
              cases q2
              refine he (fr1.grow s4) e3 fun v H5 s5 i5=>?_
              have s35:=s4.trans s5
              have eD5:=s35 _ _ eD3
              have hl:=W.len
              have kp5:∀ (zs:List V),Kp (fun a=>a=Dl∨tot Z os a) H5 (fun a=>a=Dl∨tot Z os a) (upd H5 Dl (.lst zs)):=fun zs a u e z=>⟨by rw [upd_ne (fun w=>z (.inl w))]; exact e,z⟩
              have i5':Is K H5 (fun a=>a=Dl∨tot Z os a) v y:=i5.kp (Kp.less fun a z=>.inl z)
              refine ⟨eD5,by omega,_,by omega,rfl,hlt,sD (s13.trans s35),upd_same,by rw [List.length_append,List.length_singleton]; omega,done++[y],rs,?_,e4,by rw [List.append_assoc]; exact ed2⟩
              exact ((il.same s3).same s35 |>.kp (kp5 _)).append (.one (i5'.kp (kp5 _)))
    · have e:i=xs.length:=by omega
      subst e
      rw [List.drop_length] at q2
      cases q2
      rw [List.append_nil] at ed2
      subst ed2
      have hl:=W.len
      exact .inl ⟨W.stop _ H2 _ kp12 s2 rfl,eD,kk Dl ys H2 (s1.trans s2) (Same.free s1 hD) eD (by omega) il⟩
  · cases q
inductive Fm where
  | v | l | m | x (E:XK) (C:Addr)
def RtOk (fr:Fm) (K:PySem.W.Frag) (B H:Hp) (Z:Addr→Prop) (v:V) (d:D):Prop:=match fr with
  | .v=>Is K H Z v d
  | .l=>(∃ p vs ds,v=.ref p∧d=.lst ds∧B p=none∧H p=some (.lst vs)∧vs.length≤sizeLine∧IsL K H (fun a=>a=p∨Z a) vs ds)∨∃ p kvs,v=.ref p∧d=.dct kvs∧B p=none∧H p=some (.dK (kvs.map dkv))∧kvs.length≤sizeLine
  | .m=>∃ p ps rows,v=.ref p∧d=.lst (rows.map D.lst)∧B p=none∧(∀ a∈ps,B a=none)∧(p::ps).Nodup∧H p=some (.lst (ps.map V.ref))∧ps.length≤sizeLine∧Paired (fun q ds=>∃ vs,H q=some (.lst vs)∧vs.length≤sizeLine∧IsL K H (fun a=>(a=p∨a∈ps)∨Z a) vs ds) ps rows
  | .x _ _=>Is K H Z v d
theorem rows_isZ {H:Hp} {Z T:Addr→Prop} (hT:∀ a,Z a→T a):∀ {ps:List Addr} {rows:List (List D)},(∀ p∈ps,¬ Z p)→Paired (fun p ds=>∃ vs,H p=some (.lst vs)∧vs.length≤sizeLine∧IsL K H T vs ds) ps rows→IsL K H Z (ps.map V.ref) (rows.map D.lst)
  | _,_,_,.nil=>.nil
  | _,_,hz,.cons ⟨vs,h,hl,r⟩ t=>.cons (.lst (hz _ List.mem_cons_self) (.inl h) hl (r.kp (Kp.less hT))) (rows_isZ hT (fun p hp=>hz p (List.mem_cons_of_mem _ hp)) t)
theorem RtOk.is {fr:Fm} {B H:Hp} {Z:Addr→Prop} {v:V} {d:D} (hz:∀ a,Z a→∃ o,B a=some o) (h:RtOk fr K B H Z v d):Is K H Z v d:=by
  have nz:∀ {p:Addr},B p=none→¬ Z p:=fun {p} e z=>by obtain ⟨o,q⟩:=hz p z; rw [e] at q; cases q
  cases fr with
  | v=>exact h
  | x E C=>exact h
  | l =>
    rcases h with ⟨p,vs,ds,rfl,rfl,hb,hh,hl,r⟩ | ⟨p,kvs,rfl,rfl,hb,hh,hl⟩
    · exact .lst (nz hb) (.inl hh) hl (r.kp (Kp.less fun a z=>.inr z))
    · exact .dct (nz hb) (.inl hh) hl
  | m =>
    obtain ⟨p,ps,rows,rfl,rfl,hb,hbs,_,hh,hl,r⟩:=h
    exact .lst (nz hb) (.inl hh) (by rw [List.length_map]; exact hl) (rows_isZ (fun a z=>.inr z) (fun q hq=>nz (hbs q hq)) r)
def spD (fr:Fm) (K:PySem.W.Frag) (ms:List Bool) (F:List D→Option D):Sp:=fun vs H Q _=>∃ (Z:Addr→Prop) (ds:List D) (d:D),ZT Z H∧Args K H Z ms vs ds∧F ds=some d∧∀ v H',Same H H'→RtOk fr K H H' Z v d→Q v H'
noncomputable def dCall (F:List D→Option D) (es:Rho→Option (List D)):DE:=fun ρ=>match es ρ with
  | some ds=>F ds
  | none=>none
theorem si_call {fr:Fm} {ms:List Bool} {F:List D→Option D} {t:TA} {es:Rho→Option (List D)} {E:XK} (ha:SemA K ms t es):SemI K (tCall (spD fr K ms F) [] E t) (dCall F es):=fun {B Z os ρ σ H Q d} f q k=>by
  unfold dCall at q
  split at q
  · rename_i ds e
    refine ha f e fun vs H1 s1 a=>?_
    show spD fr K ms F (vs++[]) H1 Q E
    rw [List.append_nil]
    exact ⟨tot Z os,ds,d,(f.grow s1).zt,a,q,fun v H2 s2 i=>k v H2 (s1.trans s2) (i.is (f.grow s1).tin)⟩
  · cases q
end
end VL
namespace L2
open PySem PySem.Spec PyProof.Rows
section
variable {X:Cx}
end
end L2
namespace VL
open PySem L2
open Classical
noncomputable section
variable [Tabs] {K:PySem.W.Frag}
inductive Res where
  | nx (ρ:Rho) | rt (d:D) | bk (ρ:Rho) | ct (ρ:Rho) | no
variable {fr:Fm}
abbrev DS:=Rho→Res
def Post (fr:Fm) (K:PySem.W.Frag) (B:Hp) (Z:Addr→Prop) (os:Own) (H:Hp) (E:Ends):Res→Prop
  | .nx ρ'=>∀ os' σ' H',Fr K B Z os' ρ' σ' H'→Kp (tot Z os) H (tot Z os') H'→E.nx σ' H'
  | .bk ρ'=>∀ os' σ' H',Fr K B Z os' ρ' σ' H'→Kp (tot Z os) H (tot Z os') H'→E.bk σ' H'
  | .ct ρ'=>∀ os' σ' H',Fr K B Z os' ρ' σ' H'→Kp (tot Z os) H (tot Z os') H'→E.ct σ' H'
  | .rt d=>match fr with
    | .x E0 C=>∀ H',Same B H'→E0 (.ref C) none H'
    | fr=>∀ v H',Same B H'→RtOk fr K B H' Z v d→E.rt v H'
  | .no=>False
def SemS (fr:Fm) (K:PySem.W.Frag) (t:TS) (s:DS):Prop:=∀ {B:Hp} {Z:Addr→Prop} {os:Own} {ρ:Rho} {σ:L2.St} {H:Hp} {E:Ends},Fr K B Z os ρ σ H→Post fr K B Z os H E (s ρ)→t E σ H
theorem Post.kp {B:Hp} {Z:Addr→Prop} {os os1:Own} {H H1:Hp} {E:Ends} {r:Res} (k:Kp (tot Z os) H (tot Z os1) H1) (p:Post fr K B Z os H E r):Post fr K B Z os1 H1 E r:=by
  cases r with
  | nx ρ'=>exact fun os' σ' H' f k'=>p os' σ' H' f (k.trans k')
  | bk ρ'=>exact fun os' σ' H' f k'=>p os' σ' H' f (k.trans k')
  | ct ρ'=>exact fun os' σ' H' f k'=>p os' σ' H' f (k.trans k')
  | rt d=>exact p
  | no=>exact p
@[irreducible] noncomputable def sPass:DS:=fun ρ=>.nx ρ
theorem ss_pass:SemS fr K tNext sPass:=fun f p=>by unfold sPass at p; exact p _ _ _ f Kp.refl
@[irreducible] noncomputable def sNo:DS:=fun _=>.no
theorem ss_never:SemS fr K tNever sNo:=fun f p=>by unfold sNo at p; exact p.elim
@[irreducible] noncomputable def sSeq (s u:DS):DS:=fun ρ=>match s ρ with
  | .nx ρ'=>u ρ'
  | r=>r
theorem ss_seq {t u:TS} {s w:DS} (h1:SemS fr K t s) (h2:SemS fr K u w):SemS fr K (tSeq t u) (sSeq s w):=fun {B Z os ρ σ H E} f p=>by
  refine h1 f ?_
  unfold sSeq at p
  cases e:s ρ with
  | nx ρ'=>rw [e] at p; exact fun os' σ' H' f' k=>h2 f' (p.kp k)
  | bk ρ'=>rw [e] at p; exact p
  | ct ρ'=>rw [e] at p; exact p
  | rt d=>rw [e] at p; exact p
  | no=>rw [e] at p; exact p
@[irreducible] noncomputable def sRet (a:DE):DS:=fun ρ=>match a ρ with
  | some d=>.rt d
  | none=>.no
theorem ss_ret {ta:TE} {a:DE} (h:SemI K ta a):SemS .v K (tRet ta) (sRet a):=fun {B Z os ρ σ H E} f p=>by
  unfold sRet at p
  cases e:a ρ with
  | none=>rw [e] at p; exact p.elim
  | some d=>rw [e] at p; exact h f e fun v H1 s1 i1=>p v H1 (f.keep.trans s1) (i1.kp (Kp.less fun a z=>.inl z))
@[irreducible] noncomputable def sIf (c:Rho→Option Bool) (s u:DS):DS:=fun ρ=>match c ρ with
  | some true=>s ρ
  | some false=>u ρ
  | none=>.no
theorem ss_if {tc:TT} {t u:TS} {c:Rho→Option Bool} {s w:DS} (hc:SemT K tc c) (h1:SemS fr K t s) (h2:SemS fr K u w):SemS fr K (tIfS tc t u) (sIf c s w):=fun {B Z os ρ σ H E} f p=>by
  unfold sIf at p
  split at p
  · rename_i e
    exact hc f e fun H1 s1=>iteT (h1 (f.grow s1) (p.kp (Kp.same s1)))
  · rename_i e
    exact hc f e fun H1 s1=>iteF (h2 (f.grow s1) (p.kp (Kp.same s1)))
  · exact p.elim
@[irreducible] noncomputable def sSet (i:Nat) (a:DE):DS:=fun ρ=>match a ρ with
  | some d=>.nx (ρ.set i (.pu d))
  | none=>.no
theorem ss_set {i:Nat} {ta:TE} {a:DE} (h:SemI K ta a):SemS fr K (tAsg ta (gName i)) (sSet i a):=fun {B Z os ρ σ H E} f p=>by
  unfold sSet at p
  cases e:a ρ with
  | none=>rw [e] at p; exact p.elim
  | some d =>
    rw [e] at p
    refine h f e fun v H1 s1 i1=>?_
    obtain ⟨os',f',k⟩:=(f.grow s1).putm (m:=true) i i1
    exact p os' _ _ f' ((Kp.same s1).trans k)
@[irreducible] noncomputable def sSetO (i:Nat) (a:Rho→Option (List D)):DS:=fun ρ=>match a ρ with
  | some ds=>if i < ρ.length then .nx (ρ.set i (.ol ds)) else .no
  | none=>.no
theorem ss_setO {i:Nat} {ta:TE} {a:Rho→Option (List D)} (h:SemF K ta a):SemS fr K (tAsg ta (gName i)) (sSetO i a):=fun {B Z os ρ σ H E} f p=>by
  unfold sSetO at p
  split at p
  · rename_i ds e
    by_cases hi:i < ρ.length
    · rw [if_pos hi] at p
      refine h f e fun x vs H1 s1 hx hx1 hl i1=>?_
      have st:=f.step (H':=H1) (i:=i) hi (o:=[x]) (s:=.ol ds) (v:=some (.ref x)) (fun a u e _=>s1 _ _ e) (fun a ha=>let ⟨xs,e⟩:=(f.sl i).dom ha; ⟨_,s1 _ _ e⟩) (by simp) (fun a ha=>by rw [List.mem_singleton.mp ha]; exact .inr hx)
        ⟨x,vs,rfl,rfl,hx1,hl,i1.kp (Kp.less fun a z=>?_)⟩
      · exact p _ _ _ st.1 st.2
      · rcases z with z | ⟨j,z⟩
        · exact .inr (.inl z)
        · by_cases hj:j=i
          · subst hj; rw [putO_same] at z; exact .inl (List.mem_singleton.mp z)
          · rw [putO_ne hj] at z; exact .inr (.inr ⟨j,z⟩)
    · rw [if_neg hi] at p; exact p.elim
  · exact p.elim
def frz (i:Nat) (ρ:Rho):Rho:=match ρ.getD i .un with
  | .ol ds=>ρ.set i (.pu (.lst ds))
  | .om rows=>ρ.set i (.pu (.lst (rows.map D.lst)))
  | .od kvs=>ρ.set i (.pu (.dct kvs))
  | _=>ρ
theorem set_self {σ:L2.St} {i:Nat} {v:V} (h:(σ[i]?).join=some v):σ.set i (some v)=σ:=by
  have e:=join_some h
  refine List.ext_getElem? fun j=>?_
  by_cases hj:i=j
  · subst hj
    rw [List.getElem?_set_self (List.getElem?_eq_some_iff.mp e).1,e]
  · rw [List.getElem?_set_ne hj]
theorem getD_lt {ρ:Rho} {i:Nat} {s:Sl} (h:ρ.getD i .un=s) (hs:s≠.un):i < ρ.length:=by
  by_cases hi:i < ρ.length
  · exact hi
  · rw [List.getD_eq_getElem?_getD,List.getElem?_eq_none (by omega)] at h
    exact absurd h.symm hs
theorem Fr.mutO {B H:Hp} {Z:Addr→Prop} {os:Own} {ρ:Rho} {σ:L2.St} (f:Fr K B Z os ρ σ H) {i:Nat} {a:Addr} {ds ds':List D} {vs':List V} (e:ρ.getD i .un=.ol ds) (hu:(σ[i]?).join=some (.ref a)) (hl:vs'.length≤sizeLine) (h:IsL K H (tot Z os) vs' ds') :
    ∃ os',Fr K B Z os' (ρ.set i (.ol ds')) σ (upd H a (.lst vs'))∧Kp (tot Z os) H (tot Z os') (upd H a (.lst vs')):=by
  have s:=f.sl i
  rw [e] at s
  obtain ⟨b,vs,eo,hu',hH,_,_⟩:=s
  rw [hu] at hu'
  cases hu'
  have hi:=getD_lt e (by intro z; cases z)
  have ha:a∈os i:=by rw [eo]; exact List.mem_singleton.mpr rfl
  have st:=f.step (H':=upd H a (.lst vs')) (i:=i) hi (o:=[a]) (s:=.ol ds') (v:=some (.ref a)) (fun b u e n=>by rw [upd_ne (fun z=>n (by rw [z]; exact ha))]; exact e) (fun b hb=>?_) (by simp) (fun b hb=>by rw [List.mem_singleton.mp hb]; exact .inl ha)
    ⟨a,vs',rfl,rfl,upd_same,hl,h.kp fun b u e z=>⟨?_,fun q=>z ?_⟩⟩
  · rw [set_self hu] at st
    exact ⟨_,st⟩
  · rw [eo] at hb; rw [List.mem_singleton.mp hb]; exact ⟨_,upd_same⟩
  · rw [upd_ne (fun w=>z (.inr ⟨i,by rw [w]; exact ha⟩))]; exact e
  · rcases q with q | ⟨j,q⟩
    · exact .inl q
    · by_cases hj:j=i
      · subst hj; rw [putO_same] at q; exact .inr ⟨j,by rw [List.mem_singleton.mp q]; exact ha⟩
      · rw [putO_ne hj] at q; exact .inr ⟨j,q⟩
theorem ol_of {B H:Hp} {Z:Addr→Prop} {os:Own} {ρ:Rho} {σ:L2.St} (f:Fr K B Z os ρ σ H) {i:Nat} {ds:List D} (e:ρ.getD i .un=.ol ds):∃ a vs,(σ[i]?).join=some (.ref a)∧H a=some (.lst vs)∧vs.length≤sizeLine∧IsL K H (tot Z os) vs ds:=by
  have s:=f.sl i
  rw [e] at s
  obtain ⟨b,vs,eo,hu',hH,hl,r⟩:=s
  exact ⟨b,vs,hu',hH,hl,r⟩
@[irreducible] noncomputable def sApp (i:Nat) (a:DE):DS:=fun ρ=>match ρ.getD i .un with
  | .ol ds=>(match a ρ with
    | some d=>if ds.length<sizeLine then .nx (ρ.set i (.ol (ds++[d]))) else .no
    | none=>.no)
  | _=>.no
theorem ss_app {i:Nat} {ta:TE} {a:DE} (h:SemI K ta a):SemS fr K (tDrop (tBM K "list" rAppend (tVar i) (tCons ta tNil))) (sApp i a):=fun {B Z os ρ σ H E} f p=>by
  unfold sApp at p
  split at p
  · rename_i ds e
    split at p
    · rename_i d e2
      by_cases hz:ds.length<sizeLine
      · rw [if_pos hz] at p
        obtain ⟨x,vs,hu,hH,hl,r⟩:=ol_of f e
        refine ⟨_,join_some hu,.inl ⟨rfl,_,SqL.of hH⟩,h f e2 fun v H1 s1 i1=>?_⟩
        have f1:=f.grow s1
        have r1:=r.same s1
        have hlen:vs.length<sizeLine:=by rw [r.length]; exact hz
        obtain ⟨os',f',k⟩:=f1.mutO (vs':=vs++[v]) (ds':=ds++[d]) e hu (by rw [List.length_append,List.length_singleton]; omega) (r1.append (.one i1))
        exact ⟨x,vs,v,rfl,rfl,s1 _ _ hH,hlen,p os' _ _ f' ((Kp.same s1).trans k)⟩
      · rw [if_neg hz] at p; exact p.elim
    · exact p.elim
  · exact p.elim
def forD (g:DG) (b:DS):List D→DS
  | [],ρ=>.nx ρ
  | d::ds,ρ=>match g d ρ with
    | none=>.no
    | some ρ1=>match b ρ1 with
      | .nx ρ2=>forD g b ds ρ2
      | .ct ρ2=>forD g b ds ρ2
      | .bk ρ2=>.nx ρ2
      | .rt d=>.rt d
      | .no=>.no
@[irreducible] noncomputable def sFor (it:Rho→Option (List D)) (g:DG) (b:DS):DS:=fun ρ=>match it ρ with
  | some ds=>forD g b ds ρ
  | none=>.no
theorem ss_for {m:Bool} {wi:TI} {t:TG} {tb:TS} {it:Rho→Option (List D)} {g:DG} {b:DS} (hw:SemW K m wi it) (hg:SemG K m t g) (hb:SemS fr K tb b):SemS fr K (tFor wi t tb) (sFor it g b):=fun {B Z os ρ σ H E} f p=>by
  unfold sFor at p
  split at p
  · rename_i ds e0
    refine hw f e0 fun J H1 s1 W=>?_
    refine ⟨fun i m σ' H'=>∃ os' ρ',m=ds.length-i∧i≤ds.length∧Fr K B Z os' ρ' σ' H'∧Kp (tot Z os) H1 (tot Z os') H'∧Post fr K B Z os H1 E (forD g b (ds.drop i) ρ'),⟨_,os,ρ,rfl,Nat.zero_le _,f.grow s1,Kp.refl,Post.kp (Kp.same s1) p⟩,?_⟩
    rintro i mm σ2 H2 ⟨os2,ρ2,rfl,hi,f2,k2,p2⟩
    by_cases hlt:i<ds.length
    · have ex:ds[i]?=some ds[i]:=List.getElem?_eq_getElem hlt
      obtain ⟨go,yl⟩:=W.go i ds[i] H2 _ k2 f2.keep f2.tin ex
      rw [List.drop_eq_getElem_cons hlt] at p2
      refine .inr ⟨go,fun σ' H'=>∃ os' ρ',Fr K B Z os' ρ' σ' H'∧Kp (tot Z os) H1 (tot Z os') H'∧Post fr K B Z os H1 E (forD g b (ds.drop (i+1)) ρ'),fun σ' H' ⟨os',ρ',h1,h2,h3⟩=>⟨_,by omega,os',ρ',rfl,hlt,h1,h2,h3⟩,fun x H3 hy=>?_⟩
      obtain ⟨s3,er⟩:=yl x H3 hy
      unfold forD at p2
      split at p2
      · exact p2.elim
      · rename_i ρ1 e1
        have er':ER K m B H3 (tot Z os2) x ds[i]:=er
        refine hg (f2.grow s3) er' e1 fun os3 σ3 f3 k3=>hb f3 ?_
        have k13:Kp (tot Z os) H1 (tot Z os3) H3:=(k2.trans (Kp.same s3)).trans k3
        split at p2
        · rename_i ρ4 e4
          rw [e4]
          exact fun os' σ' H' f' k'=>⟨os',_,f',k13.trans k',p2⟩
        · rename_i ρ4 e4
          rw [e4]
          exact fun os' σ' H' f' k'=>⟨os',_,f',k13.trans k',p2⟩
        · rename_i ρ4 e4
          rw [e4]
          exact fun os' σ' H' f' k'=>p2 os' σ' H' f' (k13.trans k')
        · rename_i d e4
          rw [e4]
          exact p2
        · exact p2.elim
    · have e:i=ds.length:=by omega
      subst e
      rw [List.drop_length] at p2
      exact .inl ⟨W.stop _ H2 _ k2 f2.keep rfl,p2 os2 σ2 H2 f2 k2⟩
  · exact p.elim
def stD (n:Nat) (ms:List Bool) (ds:List D):Rho:=List.zipWith slm ms ds++List.replicate (n-ds.length) .un
@[irreducible] def runD (n:Nat) (ms:List Bool) (b:DS) (ds:List D):Option D:=match b (stD n ms ds) with
  | .rt d=>some d
  | .nx _=>some .non
  | _=>none
@[irreducible] def runF (n:Nat) (ms:List Bool) (b:DS) (ds:List D):Option D:=match b (stD n ms ds) with
  | .rt d=>some d
  | _=>none
theorem startFr {H:Hp} {Z:Addr→Prop} {N:List Str} {ms:List Bool} {vs:List V} {ds:List D} (hz:ZT Z H) (h:Args K H Z ms vs ds):Fr K H Z (fun _=>[]) (stD N.length ms ds) (L2.start N vs) H where
  keep:=Same.refl _
  zin:=hz.1
  tab:=hz.2
  len:=by
    unfold stD L2.start
    have:=h.len
    simp only [List.length_append,List.length_map,List.length_replicate,List.length_zipWith]
    omega
  nd:=fun _=>List.nodup_nil
  dj:=fun _ _ _ h=>by cases h
  new:=fun _ _ h=>by cases h
  sl:=fun j=>by
    have hl:=h.len
    have key:∀ {ms:List Bool} {vs:List V} {ds:List D} (j:Nat),Args K H Z ms vs ds→j<ms.length→SlOk K H H (tot Z fun _=>[]) [] (((List.zipWith slm ms ds)[j]?).getD .un) ((vs.map some)[j]?.join):=by
      intro ms vs ds j h
      induction h generalizing j with
      | nil=>intro hj; simp at hj
      | own i _ ih =>
        intro hj
        cases j with
        | zero=>exact ⟨rfl,_,rfl,i.kp (Kp.less fun a z=>z.elim id fun ⟨_,w⟩=>by cases w)⟩
        | succ j=>exact ih j (by simpa using hj)
      | any i _ ih =>
        intro hj
        cases j with
        | zero=>exact ⟨rfl,_,rfl,i⟩
        | succ j=>exact ih j (by simpa using hj)
    unfold stD L2.start
    rw [List.getD_eq_getElem?_getD]
    by_cases hj:j<ms.length
    · rw [List.getElem?_append_left (by rw [List.length_zipWith]; omega),List.getElem?_append_left (by rw [List.length_map]; omega)]
      exact key j h hj
    · rw [List.getElem?_append_right (by rw [List.length_zipWith]; omega),List.getElem?_replicate]
      split <;> exact rfl
theorem Fun.okD {P:Program} {w:World} {mg:Str→Option Value} {base:Heap} {x qual:Str} {st:Stmt} {f:Addr} {fd:FuncData} {N ps:List Str} {k:Nat} (F:Fun K x qual st f fd) (S:FnScope N ps (defScope st)) (ms:List Bool) (hms:ms.length=ps.length) (b:DS)
    (hbody:∀ (cdv:Value) (A:Around) (outer:List Env) (s:Shared) (H:Hp) (E:XK),Room k (A.deeper (PyProof.Rows.envOfC qual (defScope st) s.heap.objs.size f cdv)) →
      ∃ t,PSs (cxOf CX0 P w K mg base N qual (defScope st) f cdv A outer s H E).nox (defBody st) t∧SemS .v K t b):FnOk P w K mg base CX0 (k+1) f fd ps (spD .v K ms (runD N.length ms b)):=by
  refine F.ok S (fun vs H Q E h=>?_) (fun cdv A outer s H vs Q E hr h=>?_)
  · obtain ⟨Z,ds,d,hz,a,_⟩:=h
    rw [a.len.1,hms]
  · obtain ⟨Z,ds,d,hz,a,e,k⟩:=h
    obtain ⟨t,h1,h2⟩:=hbody cdv A outer s H E hr
    refine ⟨t,h1,h2 (startFr hz a) ?_⟩
    unfold runD at e
    split at e
    · rename_i d' e1
      cases e
      rw [e1]
      exact fun v H' s' i=>k v H' s' i
    · rename_i ρ e1
      cases e
      rw [e1]
      exact fun os' σ' H' f' _=>k _ H' f'.keep .non
    · cases e
theorem Fun.okF {P:Program} {w:World} {mg:Str→Option Value} {base:Heap} {x qual:Str} {st:Stmt} {f:Addr} {fd:FuncData} {N ps:List Str} {k:Nat} (F:Fun K x qual st f fd) (S:FnScope N ps (defScope st)) (ms:List Bool) (hms:ms.length=ps.length) (b:DS)
    (hbody:∀ (cdv:Value) (A:Around) (outer:List Env) (s:Shared) (H:Hp) (E:XK),Room k (A.deeper (PyProof.Rows.envOfC qual (defScope st) s.heap.objs.size f cdv)) →
      ∃ t,PSs (cxOf CX0 P w K mg base N qual (defScope st) f cdv A outer s H E).nox (defBody st) t∧SemS fr K t b) (hfr:∀ E C,fr≠.x E C:=by intro _ _ h; cases h):FnOk P w K mg base CX0 (k+1) f fd ps (spD fr K ms (runF N.length ms b)):=by
  refine F.ok S (fun vs H Q E h=>?_) (fun cdv A outer s H vs Q E hr h=>?_)
  · obtain ⟨Z,ds,d,hz,a,_⟩:=h
    rw [a.len.1,hms]
  · obtain ⟨Z,ds,d,hz,a,e,k⟩:=h
    obtain ⟨t,h1,h2⟩:=hbody cdv A outer s H E hr
    refine ⟨t,h1,h2 (startFr hz a) ?_⟩
    unfold runF at e
    split at e
    · rename_i d' e1
      cases e
      rw [e1]
      cases fr with
      | v=>exact fun v H' s' i=>k v H' s' i
      | l=>exact fun v H' s' i=>k v H' s' i
      | m=>exact fun v H' s' i=>k v H' s' i
      | x E0 C=>exact absurd rfl (hfr E0 C)
    · cases e
end
end VL
namespace L2
open PySem PySem.Spec PyProof.Rows
open VL (s0)
section
variable {X:Cx}
inductive SubL (X:Cx):List (Str×Addr)→Prop
  | nil:SubL X []
  | cons {z:Str} {c:Addr} {r:List (Str×Addr)}:X.env.cells.lookup z=some c→SubL X r→SubL X ((z,c)::r)
theorem SubL.sub {cl:List (Str×Addr)} (h:SubL X cl):∀ x c,cl.lookup x=some c→X.env.cells.lookup x=some c:=by
  induction h with
  | nil=>intro x c e; cases e
  | @cons z c r h _ ih =>
    intro x c' e
    rw [List.lookup_cons] at e
    cases q:x==z with
    | true=>rw [q] at e; cases e; rw [eq_of_beq q]; exact h
    | false=>rw [q] at e; exact ih x c' e
inductive CapL (X:Cx) (scope:Scope) (cl:List (Str×Addr)):List Nat→List Str→Prop
  | nil:CapL X scope cl [] []
  | cons {i:Nat} {z:Str} {c:Addr} {is:List Nat} {zs:List Str}:X.N[i]?=some z→(X.env.scope.names.lookup z=some .cell∨X.env.scope.names.lookup z=some .free)→cl.lookup z=some c →
      ((relabel scope X.env).names.lookup z=some .cell∨(relabel scope X.env).names.lookup z=some .free)→CapL X scope cl is zs→CapL X scope cl (i::is) (z::zs)
theorem CapL.get {scope:Scope} {cl:List (Str×Addr)} {is:List Nat} {zs:List Str} (h:CapL X scope cl is zs):∀ (j:Nat) (z:Str),zs[j]?=some z→∃ i c,is[j]?=some i∧X.N[i]?=some z∧(X.env.scope.names.lookup z=some .cell∨X.env.scope.names.lookup z=some .free)∧cl.lookup z=some c ∧
      ((relabel scope X.env).names.lookup z=some .cell∨(relabel scope X.env).names.lookup z=some .free):=by
  induction h with
  | nil=>intro j z e; simp at e
  | cons h1 h2 h3 h4 _ ih =>
    intro j z e
    cases j with
    | zero=>cases e; exact ⟨_,_,rfl,h1,h2,h3,h4⟩
    | succ j=>exact ih j z (by simpa using e)
theorem CapL.len {scope:Scope} {cl:List (Str×Addr)} {is:List Nat} {zs:List Str} (h:CapL X scope cl is zs):is.length=zs.length:=by
  induction h with
  | nil=>rfl
  | cons _ _ _ _ _ ih=>simp [ih]
theorem Frees.many {scope:Scope} {cl:List (Str×Addr)} {is:List Nat} {ts zs:List Str} {k:Nat} {σ:St} (hk:ts.length=k) (hs:SubL X cl) (hc:CapL X scope cl is zs)
    (ha:((relabel scope X.env).names.all fun y=>!(y.2==.cell || y.2==.free) || zs.contains y.1)=true):Frees X (ts++zs) scope cl σ (s0 k is σ) where
  sub:=hs.sub
  vals:=fun j x v e1 e2=>by
    unfold s0 at e2
    by_cases hj:j<k
    · rw [List.getElem?_append_left (by simpa using hj),List.getElem?_replicate,if_pos hj] at e2; cases e2
    · rw [List.getElem?_append_right (by simpa using hj),List.length_replicate,List.getElem?_map] at e2
      rw [List.getElem?_append_right (by omega),hk] at e1
      obtain ⟨i,c,f1,f2,f3,f4,f5⟩:=hc.get _ _ e1
      rw [f1] at e2
      have e3:(σ[i]?).join=some v:=Option.some.inj e2
      refine ⟨i,c,f2,VL.join_some e3,?_,?_,f4,f5⟩
      · rcases f3 with q | q
        · exact .inr (.inl q)
        · exact .inr (.inr q)
      · intro w
        have w:X.env.scope.names.lookup x=some .local:=w
        rcases f3 with q | q <;> rw [q] at w <;> cases w
  has:=fun x h=>by
    have key:∀ kd,(relabel scope X.env).names.lookup x=some kd→(kd==NameKind.cell || kd==NameKind.free)=true→x∈zs:=fun kd e q=>by
      have m:=List.all_eq_true.mp ha _ (PySem.mem_of_lookup e)
      rw [q] at m
      have:zs.contains x=true:=by simpa using m
      exact List.contains_iff_mem.mp this
    have mem:x∈zs:=by
      rcases h with h | h
      · exact key _ h rfl
      · exact key _ h rfl
    obtain ⟨j,hj⟩:=List.getElem?_of_mem mem
    obtain ⟨i,c,_,_,_,f4,_⟩:=hc.get j x hj
    exact ⟨c,f4⟩
  len:=by unfold s0; rw [List.length_append,List.length_append,List.length_replicate,List.length_map,hk,hc.len]
def Low (k:Nat) (g:TG):Prop:=∀ x σ H (Q:St→Hp→Prop),g x σ H Q→∃ σ2 H2,Q σ2 H2∧σ2.length=σ.length∧(∀ j,k≤j→σ2[j]?=σ[j]?)∧∀ Q':St→Hp→Prop,Q' σ2 H2→g x σ H Q'
theorem low_name {k i:Nat} (h:i<k):Low k (gName i):=fun x σ H Q q=>⟨_,_,q,List.length_set,fun j hj=>by rw [List.getElem?_set_ne (by omega)],fun _ z=>z⟩
theorem Low.keep {k:Nat} {g:TG} {cs:List Nat} (h:Low k g) (σ:St):Keepg g (s0 k cs σ):=fun x H Q q=>by
  obtain ⟨σ1,H1,q1,l1,k1,g1⟩:=h _ _ _ _ q
  refine g1 _ ⟨q1,l1,fun j v e=>?_⟩
  by_cases hj:j<k
  · unfold s0 at e
    rw [List.getElem?_append_left (by simpa using hj),List.getElem?_replicate,if_pos hj] at e; cases e
  · rw [k1 j (by omega)]; exact e
theorem pgb {N':List Str} {scope:Scope} {cl:List (Str×Addr)} {i:Nat} {y:Str} {py:Pos} (nd:N'.Nodup) (hi:N'[i]?=some y) (hx:scope.names.lookup y=some .local) {C:Addr} {s3:Shared} {H3:Hp} {fp:List Addr} {pins:List (Addr×Obj)} :
    PG (compCx X N' scope cl C s3 H3 fp pins) (.Name y py) (gName i):=pg_name nd hi (.inl (lookup_relabel_local hx)) (.inr (lookup_relabel_local hx))
variable {tg elt iter c:Expr} {scope:Scope} {cl:List (Str×Addr)} {ts zs:List Str} {is:List Nat} {k:Nat} {g:TG} {tt:TT} {te:TE} {wi:TI} {pos:Pos}
theorem pe_cN0 (hc:X.calm=true) (hi:PI X tg iter wi) (hk:ts.length=k) (hs:SubL X cl) (hcp:CapL X scope cl is zs) (ha:((relabel scope X.env).names.all fun y=>!(y.2==.cell || y.2==.free) || zs.contains y.1)=true) (hl:Low k g)
    (hg:∀ C s3 H3 fp pins,PG (compCx X (ts++zs) scope cl C s3 H3 fp pins) tg g) (he:∀ C s3 H3 fp pins,PE (compCx X (ts++zs) scope cl C s3 H3 fp pins) elt te)
    (hclos:closureFor scope X.env=pure cl) (hcell:∀ y∈scope.names,y.2≠.cell) (hkind:scope.kind=.function) (hnames:∀ y∈scope.names,y.2=.local→scope.names.lookup y.1=some .local)
    (hf:∀ x,foldedSetIterable iter X.env x=pure x:=by intro _; rfl):PE X (.ListComp elt [⟨tg,iter,[],0⟩] scope pos) (tComp wi g tTrue te (s0 k is)) :=
  pe_compG hc hi (fun _ _=>Frees.many hk hs hcp ha) (fun σ=>hl.keep σ) hg tests0 he hclos hcell hkind hnames hf
theorem pi_listK {K:PySem.W.Frag} {l:Expr} {tl:TE} (h:X.K=K) (hl:PE X l tl):PI X tg l (iList K tl):=by subst h; exact pi_list hl
end
end L2
namespace VL
open PySem L2
def sp_law [Tabs] (K:PySem.W.Frag):Sp:=fun vs H Q _=>∃ (a:Addr) (ns:List Int),vs=[.ref a]∧SqL K H a (ns.map V.int)∧ns.length≤63∧(∀ m∈ns,Builtin.Int.intBits m≤1048576)∧TabIn H∧∀ H',Q (.bl true) H'
theorem sp_law_of [Tabs] {K:PySem.W.Frag} {F:List D→Option D} (ht:∀ ns:List Int,ns.length≤63→(∀ m∈ns,Builtin.Int.intBits m≤1048576)→F [.scr ns]=some (.bl true)) {vs:List V} {H:Hp} {Q:VK} {E:XK} (h:sp_law K vs H Q E):spD .v K [false] F vs H Q E:=by
  obtain ⟨a,ns,rfl,hS,hl,hb,htab,k⟩:=h
  have hz:ns.length≤sizeLine:=Nat.le_trans hl (by decide)
  refine ⟨No,[.scr ns],.bl true,⟨fun a z=>z.elim,htab⟩,.any ?_ .nil,ht ns hl hb,fun v H' s i=>by cases i; exact k H'⟩
  rcases hS with hS | hS
  · exact .scr (fun z=>z) hS hz
  · exact .scrK hS hz
end VL
namespace L2
open PySem PySem.Spec PyProof.Rows
section
variable {X:Cx} {K:PySem.W.Frag}
theorem bt_str:bootBuiltins "str" = some (.type "str"):=by decide +kernel
end
end L2
namespace VL
open PySem L2
open Classical
noncomputable section
section
variable [Tabs] {K:PySem.W.Frag} {ta tb tc:TE} {a b c:DE}
end
end
end VL
namespace VL
open PySem L2
open Classical
noncomputable section
instance (priority:=low) noTabs:Tabs:=⟨[]⟩
structure Wk where
  nx:Rho→Prop
  rt:D→Prop
  bk:Rho→Prop:=fun _=>False
  ct:Rho→Prop:=fun _=>False
@[irreducible] def Wp (s:DS) (ρ:Rho) (W:Wk):Prop:=match s ρ with
  | .nx ρ'=>W.nx ρ'
  | .rt d=>W.rt d
  | .bk ρ'=>W.bk ρ'
  | .ct ρ'=>W.ct ρ'
  | .no=>False
section
variable {s u b:DS} {ρ:Rho} {W:Wk} {i:Nat} {a e k:DE} {d:D} {c:Rho→Option Bool} {es:Rho→Option (List D)} {ds:List D} {g:DG}
theorem wp_seq (h:Wp s ρ { W with nx:=fun ρ'=>Wp u ρ' W }):Wp (sSeq s u) ρ W:=by
  unfold Wp sSeq at *
  cases e:s ρ <;> rw [e] at h <;> exact h
theorem wp_pass (h:W.nx ρ):Wp sPass ρ W:=by unfold Wp sPass; exact h
theorem wp_ret (h:a ρ=some d) (k:W.rt d):Wp (sRet a) ρ W:=by unfold Wp sRet; rw [h]; exact k
theorem wp_if {x:Bool} (h:c ρ=some x) (ht:x=true→Wp s ρ W) (hf:x=false→Wp u ρ W):Wp (sIf c s u) ρ W:=by
  unfold Wp sIf at *
  rw [h]
  cases x
  · exact hf rfl
  · exact ht rfl
theorem wp_ifp {p:Prop} {_:Decidable p} (h:c ρ=some (decide p)) (ht:p→Wp s ρ W) (hf:¬ p→Wp u ρ W):Wp (sIf c s u) ρ W:=by
  refine wp_if h (fun q=>ht (of_decide_eq_true q)) fun q=>hf (of_decide_eq_false q)
theorem wp_ifT (h:c ρ=some true) (ht:Wp s ρ W):Wp (sIf c s u) ρ W:=wp_if h (fun _=>ht) fun q=>by cases q
theorem wp_ifF (h:c ρ=some false) (ht:Wp u ρ W):Wp (sIf c s u) ρ W:=wp_if h (fun q=>by cases q) fun _=>ht
theorem wp_set (h:a ρ=some d) (k:W.nx (ρ.set i (.pu d))):Wp (sSet i a) ρ W:=by unfold Wp sSet; rw [h]; exact k
theorem wp_setO (h:es ρ=some ds) (hi:i < ρ.length) (k:W.nx (ρ.set i (.ol ds))):Wp (sSetO i es) ρ W:=by unfold Wp sSetO; rw [h]; simp only [if_pos hi]; exact k
theorem wp_app (h0:ρ.getD i .un=.ol ds) (h:a ρ=some d) (hl:ds.length<sizeLine) (k:W.nx (ρ.set i (.ol (ds++[d])))):Wp (sApp i a) ρ W:=by unfold Wp sApp; rw [h0]; simp only [h,if_pos hl]; exact k
theorem wp_for {it:Rho→Option (List D)} (h:it ρ=some ds) (I:Nat→Rho→Prop) (h0:I 0 ρ)
    (hs:∀ (j:Nat) (d:D) (ρ:Rho),ds[j]?=some d→I j ρ→∃ ρ1,g d ρ=some ρ1∧Wp b ρ1 { W with nx:=I (j+1),ct:=I (j+1),bk:=W.nx })
    (he:∀ ρ,I ds.length ρ→W.nx ρ):Wp (sFor it g b) ρ W:=by
  have key:∀ (n j:Nat) (ρ:Rho),n=ds.length-j→j≤ds.length→I j ρ→Wp (fun ρ=>forD g b (ds.drop j) ρ) ρ W:=by
    intro n
    induction n with
    | zero =>
      intro j ρ hn hj hI
      have e:j=ds.length:=by omega
      subst e
      unfold Wp
      simp only [List.drop_length,forD]
      exact he ρ hI
    | succ n ih =>
      intro j ρ hn hj hI
      have hlt:j<ds.length:=by omega
      obtain ⟨ρ1,e1,w1⟩:=hs j ds[j] ρ (List.getElem?_eq_getElem hlt) hI
      unfold Wp
      dsimp only
      rw [List.drop_eq_getElem_cons hlt]
      unfold forD
      rw [e1]
      unfold Wp at w1
      dsimp only
      cases e2:b ρ1 with
      | nx ρ2=>rw [e2] at w1; have q:=ih (j+1) ρ2 (by omega) hlt w1; unfold Wp at q; exact q
      | ct ρ2=>rw [e2] at w1; have q:=ih (j+1) ρ2 (by omega) hlt w1; unfold Wp at q; exact q
      | bk ρ2=>rw [e2] at w1; exact w1
      | rt d=>rw [e2] at w1; exact w1
      | no=>rw [e2] at w1; exact w1
  have:=key _ 0 ρ rfl (Nat.zero_le _) h0
  unfold Wp at this
  unfold Wp sFor
  rw [h]
  exact this
end
section
variable {ρ:Rho} {a b c:DE} {i j k:Int} {d e:D} {es:Rho→Option (List D)} {ds:List D}
theorem ev_add (ha:a ρ=some (.int i)) (hb:b ρ=some (.int j)):dAdd a b ρ=some (.int (i+j)):=by unfold dAdd dII; rw [ha,hb]
theorem ev_mul (ha:a ρ=some (.int i)) (hb:b ρ=some (.int j)) (h:IntMulOk i j):dMul a b ρ=some (.int (i*j)):=by unfold dMul dII; rw [ha,hb]; exact gC_pos h
theorem ev_fdiv (ha:a ρ=some (.int i)) (hb:b ρ=some (.int j)) (h:0<j∧j.natAbs.log2<9000):dFdiv a b ρ=some (.int (i / j)):=by unfold dFdiv dII; rw [ha,hb]; exact gC_pos (C:=fun _ j=>0<j∧j.natAbs.log2<9000) h
theorem ev_mod (ha:a ρ=some (.int i)) (hb:b ρ=some (.int j)) (h:0<j):dMod a b ρ=some (.int (i % j)):=by unfold dMod dII; rw [ha,hb]; exact gC_pos (C:=fun _ j=>0<j) h
theorem ev_gt (ha:a ρ=some (.int i)) (hb:b ρ=some (.int j)):dGt a b ρ=some (.bl (decide (j<i))):=by unfold dGt dII; rw [ha,hb]
theorem ev_neg (ha:a ρ=some (.int i)):dNeg a ρ=some (.int (-i)):=by unfold dNeg; rw [ha]
theorem ev_t {x:Bool} (ha:a ρ=some (.bl x)):dT a ρ=some x:=by unfold dT; rw [ha]
theorem ev_tru {x:Bool} (ha:a ρ=some d) (h:truD d=some x):dTru a ρ=some x:=by unfold dTru; rw [ha]; exact h
theorem ev_not {p:Rho→Option Bool} {x:Bool} (ha:p ρ=some x):dNot p ρ=some (!x):=by unfold dNot; rw [ha]
theorem ev_or {p q:Rho→Option Bool} {x y:Bool} (ha:p ρ=some x) (hb:x=false→q ρ=some y):dOr p q ρ=some (x || y):=by
  unfold dOr; rw [ha]; cases x
  · rw [hb rfl]; rfl
  · rfl
theorem ev_lst (h:es ρ=some ds):dLst es ρ=some (.lst ds):=by unfold dLst; rw [h]; rfl
theorem ev_cons (h:a ρ=some d) (h2:es ρ=some ds):dCons a es ρ=some (d::ds):=by unfold dCons; rw [h,h2]
theorem ev_ix (ha:a ρ=some d) (hb:b ρ=some (.int i)) (h:ixD d i=some e):dIx a b ρ=some e:=by unfold dIx; rw [ha,hb]; exact h
theorem ev_f1 {g:D→Option D} (ha:a ρ=some d) (h:g d=some e):dF1 g a ρ=some e:=by unfold dF1; rw [ha]; exact h
theorem ev_call {F:List D→Option D} (h:es ρ=some ds) (h2:F ds=some d):dCall F es ρ=some d:=by unfold dCall; rw [h]; exact h2
theorem ev_eq {neg:Bool} (ha:a ρ=some d) (hb:b ρ=some e) (h:cmpb 20 d e=true):dEq neg a b ρ=some (.bl (if neg=true then !decide (d=e) else decide (d=e))):=by unfold dEq; rw [ha,hb]; exact if_pos h
theorem ev_eqI {neg:Bool} (ha:a ρ=some (.int i)) (hb:b ρ=some (.int j)):dEq neg a b ρ=some (.bl (if neg=true then !decide (i=j) else decide (i=j))):=by
  rw [ev_eq ha hb rfl]
  have e:decide (D.int i=D.int j)=decide (i=j):=by rw [dec_int]; rw [Bool.eq_iff_iff]; simp
  rw [e]
theorem ev_eqF (ha:a ρ=some (.int i)) (hb:b ρ=some (.int j)):dEq false a b ρ=some (.bl (decide (i=j))):=ev_eqI (neg:=false) ha hb
theorem ev_neF (ha:a ρ=some (.int i)) (hb:b ρ=some (.int j)):dEq true a b ρ=some (.bl (decide (i≠j))):=by
  rw [ev_eqI (neg:=true) ha hb,if_pos rfl]
  congr 2
  rw [Bool.eq_iff_iff]
  simp
theorem ev_eqSame {d:D} (ha:a ρ=some d) (hb:b ρ=some d) (h:cmpb 20 d d=true):dEq false a b ρ=some (.bl true):=by
  rw [ev_eq ha hb h,if_neg Bool.false_ne_true,decide_eq_true rfl]
theorem ev_asL (ha:a ρ=some d) (h:lof d=some ds):asL a ρ=some ds:=by unfold asL; rw [ha]; exact h
theorem ev_rg1 (ha:a ρ=some (.int i)) (h:-(2 ^ 62)≤i∧i.toNat≤sizeLine):dRg1 a ρ=some (upL 0 i.toNat):=by unfold dRg1; rw [ha]; exact if_pos h
theorem ev_sl {lo hi:Rho→Option (Option Int)} {l u:Option Int} (h:asL a ρ=some ds) (h1:lo ρ=some l) (h2:hi ρ=some u):dSl a lo hi ρ=some (cutL ds l u):=by unfold dSl; rw [h,h1,h2]
theorem ev_flat (h:es ρ=some ds) (hf:flatL ds=true):gFlat es ρ=some ds:=by unfold gFlat; rw [h]; exact if_pos hf
theorem ev_cat {xs ys:List D} (ha:a ρ=some (.lst xs)) (hb:b ρ=some (.lst ys)) (h:xs.length+ys.length≤sizeLine):dCat a b ρ=some (xs++ys):=by unfold dCat; rw [ha,hb]; exact if_pos h
theorem ev_oSome (ha:a ρ=some (.int i)):oSome a ρ=some (some i):=by unfold oSome; rw [ha]
theorem run_of {n:Nat} {ms:List Bool} {b:DS} {ds:List D} {P:D→Prop} (h:Wp b (stD n ms ds) { nx:=fun _=>P .non,rt:=P }):∃ d,runD n ms b ds=some d∧P d:=by
  unfold Wp at h
  unfold runD
  cases e:b (stD n ms ds) with
  | nx ρ=>rw [e] at h; exact ⟨_,rfl,h⟩
  | rt d=>rw [e] at h; exact ⟨_,rfl,h⟩
  | bk ρ=>rw [e] at h; exact h.elim
  | ct ρ=>rw [e] at h; exact h.elim
  | no=>rw [e] at h; exact h.elim
theorem run_eq {n:Nat} {ms:List Bool} {b:DS} {ds:List D} {d:D} (h:Wp b (stD n ms ds) { nx:=fun _=>D.non=d,rt:=fun x=>x=d }):runD n ms b ds=some d:=by
  obtain ⟨x,e,rfl⟩:=run_of (P:=fun x=>x=d) h
  exact e
theorem run_ofF {F:List D→Option D} {n:Nat} {ms:List Bool} {b:DS} (hF:F=runD n ms b) {ds:List D} {P:D→Prop} (h:Wp b (stD n ms ds) { nx:=fun _=>P .non,rt:=P }):∃ d,F ds=some d∧P d:=by rw [hF]; exact run_of h
theorem run_eqF {F:List D→Option D} {n:Nat} {ms:List Bool} {b:DS} (hF:F=runD n ms b) {ds:List D} {d:D} (h:Wp b (stD n ms ds) { nx:=fun _=>D.non=d,rt:=fun x=>x=d }):F ds=some d:=by rw [hF]; exact run_eq h
theorem imul {i j:Int} (h:(-(2 ^ 64)<i∧i<2 ^ 64)∨(-(2 ^ 64)<j∧j<2 ^ 64)):IntMulOk i j:=CMul.ok h
theorem ixN_in {n:Nat} {i:Int} (h0:0≤i) (h1:i<n):ixN n i=some i.toNat:=by unfold ixN; rw [if_pos h0,if_pos h1]
end
end
end VL
namespace L2
open PySem PySem.Spec PyProof.Rows
section
variable {prog:Program} {w:World} {A:Around} {R:Result→Shared→Prop} {I:Addr} {fp wr:List Addr} {n:Nat} {P:Nat→Value→Prop} {St:Nat→Heap→Prop} {kw:List (Str×Value)}
end
section
variable {prog:Program} {w:World} {A:Around} {E:Value→Shared→Prop} {s:Shared}
end
section
variable {X:Cx}
end
section
variable {X:Cx} {K:PySem.W.Frag}
end
end L2
namespace VL
open PySem L2
open Classical
noncomputable section
section
variable [Tabs] {K:PySem.W.Frag} {ta tb tc:TE} {a b c:DE}
theorem fdok {j:Int} (h0:0<j) (h1:j<2 ^ 64):0<j∧j.natAbs.log2<9000:=by
  refine ⟨h0,(Nat.log2_lt (by omega)).mpr (Nat.lt_of_lt_of_le (m:=2 ^ 64) (by omega) (Nat.pow_le_pow_right (by decide) (by decide)))⟩
theorem ev_compA {α:Type} {ρ:Rho} {k:Nat} {cs:List Nat} {it:Rho→Option (List D)} {g:DG} {t:Rho→Option Bool} {el:DE} (emb:α→D) {xs:List α} (h:it ρ=some (xs.map emb)) (p:α→Bool) (f:α→D)
    (hs:∀ x∈xs,∃ ρ1,g (emb x) (r0 k cs ρ)=some ρ1∧t ρ1=some (p x)∧(p x=true→el ρ1=some (f x))):dComp k cs it g t el ρ=some ((xs.filter p).map f):=by
  unfold dComp
  rw [h]
  dsimp only
  clear h
  induction xs with
  | nil=>rfl
  | cons x r ih =>
    obtain ⟨ρ1,e1,e2,e3⟩:=hs x List.mem_cons_self
    have ih:=ih fun d hd=>hs d (List.mem_cons_of_mem _ hd)
    rw [List.map_cons]
    unfold compGo
    rw [e1]
    dsimp only
    rw [e2]
    cases hp:p x with
    | false =>
      dsimp only
      rw [ih,List.filter_cons_of_neg (by simp [hp])]
    | true =>
      dsimp only
      rw [e3 hp,ih,List.filter_cons_of_pos hp]
      rfl
theorem ev_compA0 {α:Type} {ρ:Rho} {k:Nat} {cs:List Nat} {it:Rho→Option (List D)} {g:DG} {el:DE} (emb:α→D) {xs:List α} (h:it ρ=some (xs.map emb)) (f:α→D)
    (hs:∀ x∈xs,∃ ρ1,g (emb x) (r0 k cs ρ)=some ρ1∧el ρ1=some (f x)):dComp k cs it g dTrue el ρ=some (xs.map f):=by
  have:=ev_compA (ρ:=ρ) (k:=k) (cs:=cs) (it:=it) (g:=g) (t:=dTrue) (el:=el) emb h (fun _=>true) f fun d hd=>let ⟨ρ1,e1,e2⟩:=hs d hd; ⟨ρ1,e1,rfl,fun _=>e2⟩
  rw [this,List.filter_eq_self.mpr fun _ _=>rfl]
end
end
end VL
namespace L2
theorem bmK {X:Cx} {K:PySem.W.Frag} {e:PySem.Expr} {T:String} {r:V→List V→Hp→VK→Prop} {to:TE} {t:TA} (h:X.K=K) (p:PE X e (tBM X.K T r to t)):PE X e (tBM K T r to t):=h ▸ p
end L2
namespace L2
open PySem PySem.Spec PyProof.Rows
open VL (s0)
structure FreesC (X:Cx) (N':List Str) (scope:Scope) (cl:List (Str×Addr)) (σ σ0:St):Prop where
  sub:∀ x c,cl.lookup x=some c→X.env.cells.lookup x=some c
  vals:∀ (j:Nat) (x:Str) (v:V),N'[j]?=some x→σ0[j]?=some (some v)→∃ (i:Nat) (c:Addr),X.N[i]?=some x∧σ[i]?=some (some v)∧Vis X.env.scope x∧X.env.kindOf x≠some .local∧cl.lookup x=some c ∧
    ((relabel scope X.env).names.lookup x=some .cell∨(relabel scope X.env).names.lookup x=some .free)
  vout:∀ (j:Nat) (x:Str) (v:V),N'[j]?=some x→σ0[j]?=some (some v)→(scope.names.all fun y=>!(y.2==.cell) || !(y.1==x))=true
  has:∀ x,((relabel scope X.env).names.lookup x=some .cell∨(relabel scope X.env).names.lookup x=some .free)→scope.names.lookup x=some .cell∨(cl.lookup x).isSome=true
  out:∀ x c,(scope.names.lookup x==some .cell)=true→¬ cl.lookup x=some c
  len:σ0.length=N'.length
section
variable {X:Cx} {tg elt iter:Expr} {ifs:List Expr} {scope:Scope} {cl:List (Str×Addr)} {N':List Str} {σ0:St→St} {g:TG} {tt:TT} {te:TE}
variable {pos:Pos} {wi:TI}
variable {c:Expr} {ts zs:List Str} {is:List Nat} {k:Nat}
end
end L2
namespace L2
open PySem PySem.Spec PyProof.Rows
end L2
namespace L2
open PySem PySem.Spec PyProof.Rows
section
variable {X:Cx}
end
end L2
namespace VL
open PySem L2
open Classical
noncomputable section
variable [Tabs] {K:PySem.W.Frag}
end
end VL
namespace PySem
open Sem (wp)
section
variable {prog:Program} {w:World} {A:Around} {E:Value→Shared→Prop} {s:Shared}
end
end PySem
namespace L2
open PySem PySem.Spec PyProof.Rows
section
variable {X:Cx}
end
end L2
namespace VL
open PySem L2
open Classical
noncomputable section
variable [Tabs] {K:PySem.W.Frag}
end
end VL
namespace VL
open PySem L2
open Classical
noncomputable section
variable [Tabs] {K:PySem.W.Frag} {fr:Fm}
noncomputable def dCallF (F:List D→Option D) (es:Rho→Option (List D)):Rho→Option (List D):=fun ρ=>match dCall F es ρ with
  | some (.lst ds)=>some ds
  | _=>none
theorem sf_call {ms:List Bool} {F:List D→Option D} {t:TA} {es:Rho→Option (List D)} {E:XK} (ha:SemA K ms t es):SemF K (tCall (spD .l K ms F) [] E t) (dCallF F es):=fun {B Z os ρ σ H Q ds} f q k=>by
  unfold dCallF at q
  split at q
  · rename_i xs e1
    cases q
    unfold dCall at e1
    split at e1
    · rename_i as e
      refine ha f e fun vs H1 s1 a=>?_
      show spD .l K ms F (vs++[]) H1 Q E
      rw [List.append_nil]
      refine ⟨tot Z os,as,.lst ds,(f.grow s1).zt,a,e1,fun v H2 s2 i=>?_⟩
      rcases i with ⟨p,us,ds',rfl,ed,hb,hh,hl,r⟩ | ⟨p,kvs,rfl,ed,hb,hh,hl⟩
      · cases ed
        exact k p us H2 (s1.trans s2) (Same.free s1 hb) hh hl r
      · cases ed
    · cases e1
  · cases q
theorem ss_retF {ta:TE} {a:Rho→Option (List D)} (h:SemF K ta a):SemS .l K (tRet ta) (sRet (dLst a)):=fun {B Z os ρ σ H E} f p=>by
  unfold sRet dLst at p
  cases e:a ρ with
  | none=>rw [e] at p; exact p.elim
  | some ds =>
    rw [e] at p
    exact h f e fun x vs H1 s1 hx hH hl r=>p _ _ (f.keep.trans s1) (.inl ⟨x,vs,ds,rfl,rfl,Same.free f.keep hx,hH,hl,r.kp (Kp.less fun a z=>z.elim .inl fun z=>.inr (.inl z))⟩)
end
end VL
namespace VL
open PySem L2
open Classical
noncomputable section
variable [Tabs] {K:PySem.W.Frag} {fr:Fm}
section
variable {s u b:DS} {ρ:Rho} {W:Wk} {i:Nat} {a e k c:DE} {d:D} {rows:List (List D)} {ds:List D}
theorem ev_callF {F:List D→Option D} {es:Rho→Option (List D)} {xs:List D} (h:es ρ=some xs) (h2:F xs=some (.lst ds)):dCallF F es ρ=some ds:=by unfold dCallF dCall; rw [h]; simp only [h2]
end
theorem run_eqG {F:List D→Option D} {n:Nat} {ms:List Bool} {b:DS} (hF:F=runF n ms b) {ds:List D} {d:D} (h:Wp b (stD n ms ds) { nx:=fun _=>False,rt:=fun x=>x=d }):F ds=some d:=by
  rw [hF]
  unfold runF
  unfold Wp at h
  cases e:b (stD n ms ds) with
  | rt x=>rw [e] at h; show some x=some d; rw [show x=d from h]
  | nx ρ=>rw [e] at h; exact h.elim
  | bk ρ=>rw [e] at h; exact h.elim
  | ct ρ=>rw [e] at h; exact h.elim
  | no=>rw [e] at h; exact h.elim
end
end VL
namespace VL
open PySem L2
open Classical
noncomputable section
variable [Tabs] {K:PySem.W.Frag} {fr:Fm}
inductive Puts (K:PySem.W.Frag):List (TE×TE)→List (DE×DE)→Prop
  | nil:Puts K [] []
  | cons {tc ta:TE} {c a:DE} {l:List (TE×TE)} {l':List (DE×DE)} (ha:SemI K ta a) (hc:SemB K tc c) (r:Puts K l l'):Puts K ((tc,ta)::l) ((c,a)::l')
end
end VL
namespace L2
open PySem PySem.Spec PyProof.Rows
theorem mapF_dict (o:Obj) (f):(o.mapFields f).dict=o.dict:=by
  cases o with | mk c d dt sl=>cases dt <;> rfl
def Rec (h:Heap) (e T:Addr) (cls fl:Value):Prop :=
  ∃ oe vs oT ts,(h.get? e=some oe∧oe.cls=cls∧oe.dict=none∧oe.data=.fields vs)∧vs[1]?=some (.ref T)∧T≠e∧h.get? T=some oT∧oT.data=.fields ts∧ts[3]?=some fl
structure Hop (fr ch:List Addr) (h h':Heap):Prop where
  keep:∀ b o,b∉fr→b∉ch→h.get? b=some o→h'.get? b=some o
  slot:∀ b o,b∉ch→h.get? b=some o→∃ sl,h'.get? b=some { o with slots:=sl }
theorem Hop.trans {fr c1 c2:List Addr} {h h1 h2:Heap} (a:Hop fr c1 h h1) (b:Hop fr c2 h1 h2):Hop fr (c1++c2) h h2 where
  keep:=fun x o hf hc q=>b.keep x o hf (fun z=>hc (List.mem_append_right _ z)) (a.keep x o hf (fun z=>hc (List.mem_append_left _ z)) q)
  slot:=fun x o hc q=>by
    obtain ⟨s1,q1⟩:=a.slot x o (fun z=>hc (List.mem_append_left _ z)) q
    obtain ⟨s2,q2⟩:=b.slot x _ (fun z=>hc (List.mem_append_right _ z)) q1
    exact ⟨s2,q2⟩
theorem Hop.upd {fr:List Addr} {h:Heap} {a:Addr} (f:Obj→Obj):Hop fr [a] h (h.update a f) where
  keep:=fun b o _ hc q=>by rw [Heap.get?_update_other _ _ fun z=>hc (by rw [z]; exact List.mem_singleton.mpr rfl)]; exact q
  slot:=fun b o hc q=>⟨o.slots,by rw [Heap.get?_update_other _ _ fun z=>hc (by rw [z]; exact List.mem_singleton.mpr rfl)]; exact q⟩
section
variable {M:Model} {A:Around} {E:Value→Shared→Prop} {s:Shared} {base:Heap} {env:Env} {outer:List Env} {L e T:Addr} {cls fl:Value} {Q:Unit→Shared→Prop}
theorem entry_step {oe:Obj} {vs:Array Value} {head:Value} {more:Bool} (h1:A.frames=some (env::outer)) (h2:s.heap.FunFrames base (env::outer)) (h3:env.frame=some L)
    (h4:s.heap.get? e=some oe) (h5:oe.data=.fields vs) (h6:1<vs.size) (h7:oe.dict=none)
    (q:∀ h' T,s.heap.get? T=none→Rec h' e T oe.cls (rawInt L)→Hop (frs (env::outer)) [e] s.heap h'→Q () { s with heap:=h' }) :
    wpAny M A (do let f ← frameOf env; let p ← entryPlaceOf L more; let b ← EntryCells.newEntry head f .none (rawInt L) .none p; setField (.ref e) 1 b) Q E s:=by
  have nf:e∉frs (env::outer):=fun hm=>by
    obtain ⟨_,o,ho,hz⟩:=h2.mem hm
    rw [h4] at ho
    cases ho
    exact hz vs h5
  refine wpAny_bind (wpAny_frameOf_fun h1 h2 h3 fun g so=>wpAny_bind (wpAny_entryPlaceOf fun p hp=>?_))
  obtain ⟨z1,z2,z3⟩:=so
  unfold EntryCells.newEntry newFields
  refine wpAny_bind (wpAny_newObj_type ?_ (hp.sizeOk5 _ _ _ _ _))
  have e1:g.get? e=some oe:=by rw [z2 e nf]; exact h4
  have e2:=Heap.get?_push_of_some (h:=g) { cls:=.type "traceback", dict:=none,data:=.fields ([head,.ref L,.none,rawInt L,.none]++(if p.isEmpty then List.replicate 6 Value.none else p)).toArray } e1
  refine wpAny_setField e2 h5 h6 (q _ g.objs.size ?_ ?_ ?_)
  · exact Heap.get?_none_of_le (by rw [z1]; exact Nat.le_refl _)
  · have ne:g.objs.size≠e:=Nat.ne_of_gt (Heap.lt_size e1)
    have d:=Obj.data_mapFields h5 (·.setIfInBounds 1 (Value.ref g.objs.size))
    refine ⟨_,_,_,_,⟨Heap.get?_update_self _ e2 (Obj.isFreed_of_fields d),Obj.cls_mapFields _ _,by rw [mapF_dict]; exact h7,d⟩,by simp [h6],ne,(Heap.get?_update_other _ _ (Ne.symm ne)).trans (Heap.get?_push_size g rfl),rfl,?_⟩
    first
      | (simp; done)
      | (rcases hp with rfl | ⟨_,_,_,_,_,_,_,rfl⟩ <;> simp)
  · refine ⟨fun b o hb hc y=>?_,fun b o hc y=>?_⟩
    · rw [Heap.get?_update_other _ _ fun z=>hc (by rw [z]; exact List.mem_singleton.mpr rfl)]
      exact Heap.get?_push_of_some _ (by rw [z2 b hb]; exact y)
    · obtain ⟨sl,y1⟩:=z3 b o y
      refine ⟨sl,?_⟩
      rw [Heap.get?_update_other _ _ fun z=>hc (by rw [z]; exact List.mem_singleton.mpr rfl)]
      exact Heap.get?_push_of_some _ y1
theorem note_first {oe:Obj} {vs:Array Value} (h1:A.frames=some (env::outer)) (h2:s.heap.FunFrames base (env::outer)) (h3:env.frame=some L)
    (h4:s.heap.get? e=some oe) (h5:oe.data=.fields vs) (h6:vs[1]?=some .none) (h7:oe.dict=none)
    (q:∀ h' T,s.heap.get? T=none→Rec h' e T oe.cls (rawInt L)→Hop (frs (env::outer)) [e] s.heap h'→Q () { s with heap:=h' }):wpAny M A (noteFrame (.ref e) env) Q E s:=by
  unfold noteFrame
  simp only [h3]
  refine wpAny_bind (wpAny_field h4 h5 h6 ?_)
  rw [if_neg (by decide)]
  exact entry_step h1 h2 h3 h4 h5 (Array.getElem?_eq_some_iff.mp h6).1 h7 q
theorem note_next (h1:A.frames=some (env::outer)) (h2:s.heap.FunFrames base (env::outer)) (h3:env.frame=some L) (r:Rec s.heap e T cls .none)
    (q:∀ h' T',s.heap.get? T'=none→Rec h' e T' cls (rawInt L)→Hop (frs (env::outer)) [T,e] s.heap h'→Q () { s with heap:=h' }):wpAny M A (noteFrame (.ref e) env) Q E s:=by
  obtain ⟨oe,vs,oT,ts,⟨a1,a2,a3,a4⟩,b1,ne,b2,b3,b4⟩:=r
  subst a2
  unfold noteFrame
  simp only [h3]
  refine wpAny_bind (wpAny_field a1 a4 b1 ?_)
  rw [if_pos (by simp)]
  refine wpAny_bind (wpAny_field b2 b3 b4 ?_)
  rw [if_neg (by simp [rawInt])]
  refine wpAny_bind (wpAny_setField b2 b3 (Array.getElem?_eq_some_iff.mp b4).1 ?_)
  have other:∀ b,b≠T→∀ x:Obj→Obj,(s.heap.update T x).get? b=s.heap.get? b:=fun b hb x=>Heap.get?_update_other _ _ (Ne.symm hb)
  refine entry_step h1 (h2.of_keeps fun b o hb hn=>⟨o,?_,rfl⟩) h3 ((other e (Ne.symm ne) _).trans a1) a4 (Array.getElem?_eq_some_iff.mp b1).1 a3 fun h' T' n1 r1 hp=>q h' T' ?_ r1 ?_
  · rw [other b (fun z=>by rw [z,b2] at hb; cases hb; exact hn ts b3)]; exact hb
  · by_cases z:T'=T
    · rw [z] at n1
      rw [Heap.get?_update_self _ b2 (Obj.isFreed_of_fields (Obj.data_mapFields b3 _))] at n1
      cases n1
    · rw [other T' z] at n1; exact n1
  · exact (Hop.upd (fr:=frs (env::outer)) _).trans hp
theorem land (r:Rec s.heap e T cls fl) (q:∀ h',Rec h' e T cls .none→Hop (frs (env::outer)) [T] s.heap h'→Q () { s with heap:=h' }):wpAny M A (setFlight (.ref e) none) Q E s:=by
  obtain ⟨oe,vs,oT,ts,⟨a1,a2,a3,a4⟩,b1,ne,b2,b3,b4⟩:=r
  refine wpAny_setFlight_none a1 a4 b1 b2 b3 (Array.getElem?_eq_some_iff.mp b4).1 (q _ ?_ (Hop.upd _))
  have d:=Obj.data_mapFields b3 (·.setIfInBounds 3 Value.none)
  exact ⟨oe,vs,_,_,⟨(Heap.get?_update_other _ _ ne).trans a1,a2,a3,a4⟩,b1,ne,Heap.get?_update_self _ b2 (Obj.isFreed_of_fields d),d,by simp [(Array.getElem?_eq_some_iff.mp b4).1]⟩
end
structure Out (X:Cx) (pins:List (Addr×Obj)) (H:Hp) (b:Addr):Prop where
  h:H b=none
  s0:X.s₀.heap.get? b=none
  loc:b≠X.env.locals
  cell:∀ x c,X.env.cells.lookup x=some c→c≠b
  pin:∀ p∈X.pn++pins,p.1≠b
section
variable {P:Program} {w:World} {H:Hp} {h:Heap} {a:Addr} {o:HO}
theorem ObjOk.live (x:ObjOk P w H h a o):∃ u,h.get? a=some u:=by
  cases o with
  | lst xs=>obtain ⟨_,_,_,_,e⟩:=x; exact ⟨_,e⟩
  | tup xs=>obtain ⟨_,_,_,ob,e,_⟩:=x; exact ⟨_,e⟩
  | dK kvs=>obtain ⟨_,_,_,_,o,_,_,e,_⟩:=x; exact ⟨_,e⟩
  | dT kvs=>obtain ⟨_,_,_,_,o,_,_,e,_⟩:=x; exact ⟨_,e⟩
  | set S n=>obtain ⟨o,_,_,_,e,_⟩:=x; exact ⟨_,e⟩
  | ins C dx fs=>obtain ⟨_,_,_,e,_⟩:=x; exact ⟨_,e⟩
  | own y=>exact x
  | xd fs=>obtain ⟨_,⟨_,_,_,e,_⟩,_⟩:=x; exact ⟨_,e⟩
  | rng lo hi=>obtain ⟨_,_,_,e⟩:=x; exact ⟨_,e⟩
  | frz ob u=>obtain ⟨e,_⟩:=x; exact ⟨_,e⟩
  | tbl ps=>obtain ⟨_,_,_,_,e,_⟩:=x; exact ⟨_,e⟩
  | met f y=>exact ⟨_,show h.get? a=some _ from x⟩
  | ext φ=>obtain ⟨_,e,_⟩:=x; exact e
end
section
variable {X:Cx} {pins:List (Addr×Obj)} {σ:St} {H H':Hp} {s:Shared}
theorem Inv.out (I:Inv X pins σ H s) (hx:X.ex=[]) {b:Addr} (e:s.heap.get? b=none):Out X pins H b where
  h:=by
    cases q:H b with
    | none=>rfl
    | some o=>obtain ⟨u,hu⟩:=(I.hok b o q).live; rw [e] at hu; cases hu
  s0:=by
    cases q:X.s₀.heap.get? b with
    | none=>rfl
    | some o=>obtain ⟨u,hu⟩:=I.base.there b o q (by rw [hx]; simp); rw [e] at hu; cases hu
  loc:=fun z=>by
    obtain ⟨m,⟨o,_,_,ho,_⟩,_⟩:=I.loc
    rw [← z,e] at ho; cases ho
  cell:=fun x c q z=>by
    obtain ⟨v,o,ho,_⟩:=I.cell x c q
    rw [z,e] at ho; cases ho
  pin:=fun p hp z=>by
    have:=(I.pin p hp).1
    rw [z,e] at this; cases this
theorem Inv.hop {h':Heap} {ch:List Addr} {t':Nat} (I:Inv X pins σ H s) (hp:Hop (frs X.stack) ch s.heap h') (hc:∀ b∈ch,Out X pins H b):Inv X pins σ H { s with heap:=h',toks:=t' }:=by
  have nst:∀ b,b≠X.env.locals→b∉X.fs→b∉frs X.stack:=fun b h1 h2 h3=>by
    rcases List.mem_cons.mp (I.stkSub b h3) with z | z
    · exact h1 z
    · exact h2 z
  have neC:∀ b o,X.s₀.heap.get? b=some o→b∉ch:=fun b o e z=>by rw [(hc b z).s0] at e; cases e
  have neL:∀ b o,X.s₀.heap.get? b=some o→b≠X.env.locals:=fun b o e=>Nat.ne_of_lt (Nat.lt_of_lt_of_le (Heap.lt_size e) I.ok.above)
  have cellK:∀ x c,X.env.cells.lookup x=some c→∀ v,s.heap.IsCell c v→h'.IsCell c v:=fun x c e v ⟨o,ho,hd⟩=>by
    obtain ⟨sl,q⟩:=hp.slot c o (fun z=>(hc c z).cell x c e rfl) ho
    exact ⟨_,q,hd⟩
  refine ⟨I.ok,I.os,I.bare,⟨fun b o e n hb hx=>?_,fun b o e n hb hx=>?_,I.base.free,fun b o e hx=>?_,I.base.tups,I.base.frzs,I.base.tbls⟩,?_,fun x c e=>?_,I.free,I.freeC,fun p hq=>?_,fun b u e=>?_,I.len⟩
  · exact hp.keep b o (nst b (neL b o e) hb) (neC b o e) (I.base.keep b o e n hb hx)
  · obtain ⟨sl,e1⟩:=I.base.slot b o e n hb hx
    obtain ⟨sl',e2⟩:=hp.slot b _ (neC b o e) e1
    exact ⟨sl',e2⟩
  · obtain ⟨o',e1⟩:=I.base.there b o e hx
    obtain ⟨sl,e2⟩:=hp.slot b o' (neC b o e) e1
    exact ⟨_,e2⟩
  · obtain ⟨m,⟨o,es,ep,ho,r⟩,hl⟩:=I.loc
    obtain ⟨sl,q⟩:=hp.slot _ o (fun z=>(hc _ z).loc rfl) ho
    refine ⟨m,⟨_,es,ep,q,r⟩,fun i x v e1 e2 e3=>?_⟩
    obtain ⟨u,ru,l⟩:=hl i x v e1 e2 e3
    refine ⟨u,ru,?_⟩
    rcases l with l | ⟨k,c,e,z⟩
    · exact .inl l
    · exact .inr ⟨k,c,e,cellK x c e _ z⟩
  · obtain ⟨v,z⟩:=I.cell x c e
    exact ⟨v,cellK x c e v z⟩
  · obtain ⟨e,n,ne,nf,d⟩:=I.pin p hq
    exact ⟨hp.keep p.1 p.2 (nst _ ne nf) (fun z=>(hc _ z).pin p hq rfl) e,n,ne,nf,d⟩
  · have k:∀ c v,(H c).isSome=true→s.heap.get? c=some v→h'.get? c=some v:=fun c v hs q =>
      hp.keep c v (fun z=>by rw [I.stkFree c z] at hs; cases hs) (fun z=>by rw [(hc c z).h] at hs; cases hs) q
    refine (I.hok b u e).stay (fun c v hb q=>k c v ?_ q) (fun _ q=>q) fun _ _ q=>q
    rcases hb with rfl | hb
    · rw [e]; rfl
    · rw [hb]; rfl
theorem Out.weak {b:Addr} (o:Out X pins H b) (h:H' b=none):Out X pins H' b:=⟨h,o.s0,o.loc,o.cell,o.pin⟩
end
def Fly (h₀ h:Heap) (H:Hp) (e:Addr) (cls:Value):Prop:=∃ T,Rec h e T cls .none∧(H e=none∧h₀.get? e=none)∧(H T=none∧h₀.get? T=none)
def CXE (P:Program) (w:World):CXT:=fun outer H s E e s'=>∃ a cls H',e=.ref a∧s'.os=s.os∧AllBare s'.gens∧Un (frs outer) [] H H' s.heap s'.heap∧HOk P w H' s'.heap∧Fly s.heap s'.heap H' a cls∧E cls none H'
structure OwnX (X:Cx):Prop where
  stk:X.stack=X.env::X.outer
  fr:X.env.frame=some X.env.locals
  ex:X.ex=[]
section
variable {X:Cx} {pins:List (Addr×Obj)} {σ:St} {H:Hp} {s s':Shared} {E:XK} {e:Value}
theorem Inv.raised (I:Inv X pins σ H s) (hx:X.ex=[]) (h:CXE X.prog X.w X.stack H s E e s'):∃ a T cls H',e=.ref a∧Inv X pins σ H' s'∧Rec s'.heap a T cls .none∧Out X pins H' a∧Out X pins H' T∧E cls none H':=by
  obtain ⟨a,cls,H',rfl,ho,hb,u,hok,⟨T,r,⟨a1,a2⟩,b1,b2⟩,q⟩:=h
  exact ⟨a,T,cls,H',rfl,I.call' ho u hok hb (fun b z=>absurd z (by simp)),r,(I.out hx a2).weak a1,(I.out hx b2).weak b1,q⟩
theorem Inv.leaveNew {a:Addr} {h':Heap} {cls:Value} {vs:List Value} {t':Nat} {Ex:Value→Shared→Prop} (I:Inv X pins σ H s) (ow:OwnX X) (m:Heap.MadeExcOf s.heap h' a cls vs) (q:E cls none H) :
    wpAny (model X.prog X.w) X.A (leaving X.env (.ref a)) (fun _ s''=>CXE X.prog X.w X.outer X.H₀ X.s₀ E (.ref a) s'') Ex { s with heap:=h',toks:=t' }:=by
  have I0:Inv X pins σ H { s with heap:=h',toks:=t' }:=I.kept m.keeps
  have o1:=I.out ow.ex m.new
  obtain ⟨t,m1,_,_⟩:=m.there
  unfold leaving
  refine wpAny_bind (note_first (base:=X.base) (outer:=X.outer) (by rw [← ow.stk]; exact I.ok.frames) (by rw [← ow.stk]; exact I0.stack) ow.fr m1 rfl rfl rfl fun h1 T n1 r1 p1=>?_)
  have o3:=I0.out ow.ex n1
  rw [← ow.stk] at p1
  have I1:Inv X pins σ H { s with heap:=h1,toks:=t' }:=I0.hop p1 fun b hb=>by rw [List.mem_singleton.mp hb]; exact o1
  refine land (env:=X.env) (outer:=X.outer) (s:={ s with heap:=h1,toks:=t' }) r1 fun h2 r2 p2=>?_
  rw [← ow.stk] at p2
  have I2:Inv X pins σ H { s with heap:=h2,toks:=t' }:=I1.hop p2 fun b hb=>by rw [List.mem_singleton.mp hb]; exact o3
  have u:=I2.base
  rw [ow.ex] at u
  exact ⟨a,cls,H,rfl,I2.os,I2.bare,u,I2.hok,⟨T,r2,⟨o1.h,o1.s0⟩,o3.h,o3.s0⟩,q⟩
end
def XLink (X:Cx) (E:XK):Prop:=∀ (e:Value) (s':Shared),wpAny (model X.prog X.w) X.A (leaving X.env e) (fun _ s''=>CXE X.prog X.w X.outer X.H₀ X.s₀ E e s'') (fun e' s''=>CXE X.prog X.w X.outer X.H₀ X.s₀ E e' s'') s'→X.xe e s'
theorem exc_obj {K:PySem.W.Frag} {h:Heap} {C:Addr} {bmB:List Value} {newId:String} (X:K.In h) (q:PySem.W.excIn K C bmB newId=true) :
    ∃ bm N nm qn bs hd sn sub ab col dd k0 k1 k2 k3 k5 mN,h.get? C=some (excClassObj nm qn C N bs bm hd sn sub ab col dd k0 k1 k2 k3 k5 newId)∧h.Ns N mN∧mN "__init__" = none∧OwnTail h bmB bm:=by
  unfold PySem.W.excIn at q
  split at q
  case h_2=>cases q
  case h_1 dd cd sl ho =>
    split at q
    case h_2=>cases q
    case h_1 C1 bm k0 k1 k2 k3 n k5 hm hs =>
      rw [Bool.and_eq_true,Bool.and_eq_true,Bool.and_eq_true,Bool.and_eq_true,Bool.and_eq_true] at q
      obtain ⟨⟨⟨⟨⟨q1,q2⟩,q3⟩,q4⟩,q5⟩,q6⟩:=q
      cases beq_iff_eq.mp q1
      cases beq_iff_eq.mp q2
      have q7:cd.hasDel=false:=by simpa using q3
      clear q3
      obtain ⟨f1,f2,f3,f4,f5,f6,f7,f8,f9,f10,f11⟩:=cd
      dsimp only at hm q7 q4 q5 q6
      subst hm q7
      obtain ⟨l⟩:=sl
      have hs:l=_:=hs
      subst hs
      exact ⟨bm,_,_,_,_,_,_,_,_,_,dd,k0,k1,k2,k3,k5,_,X _ _ ho,.of_isNs (PySem.W.isNs_of_in X q5),PySem.W.nsMap_none_of_in X q5 (beq_iff_eq.mp q6),PySem.W.tail_of_in X q4⟩
def tRaise (C:Addr) (E:XK) (ta:TA):TS:=fun _ σ H=>ta σ H fun vs H1=>vs.length≤sizeLine∧E (.ref C) none H1
theorem ps_raise {X:Cx} {E:XK} {x:Str} {C:Addr} {B newId initId:String} {bmB:List Value} {np cpos pos:Pos} {a:Expr} {as:List Expr} {ta:TA} (l:XLink X E) (ow:OwnX X) (hc:X.calm=true) (FB:ExcBaseFacts B newId initId bmB) (hg:Gl X x) (hm:X.mg x=some (.ref C))
    (hq:PySem.W.excIn X.K C bmB newId=true) (ha:PA X (a::as) ta) (hdb:(x==("__debug__" : Str))=false:=by decide)
    (he:starEach (a::as) X.env=(false,eval a X.env)::starEach as X.env:=by rfl) (hpl:(backTo cpos (starEach as X.env)).any (·.1)=false:=by rfl) :
    PS X (.Raise (some (.Call (.Name x np) (a::as) [] cpos)) none pos) (tRaise C E ta):=by
  intro pins s σ H D I h
  obtain ⟨bm,N,nm,qn,bs,hd,sn,sub,ab,col,dd,k0,k1,k2,k3,k5,mN,c1,c2,c3,c4⟩:=exc_obj (h:=X.base) I.mod.kin hq
  refine wpAny_Raise_call_subT (C:=C) (nm:=nm) (q:=qn) (N:=N) (bs:=bs) (bm:=bm) (hdct:=hd) (sn:=sn) (sub:=sub) (ab:=ab) (col:=col) (dd:=dd) (k0:=k0) (k1:=k1) (k2:=k2) (k3:=k3) (k5:=k5) (mN:=mN) FB (c4.hasType FB.hasBase) (I.ok.hd hc) ?_ c3 (ld_glob I hg hm ⟨rfl,?_⟩ hdb)
  · rw [he]
    show (false || (backTo cpos (starEach as X.env)).any fun x=>x.1)=false
    rw [hpl]; rfl
  · have p:=ha cpos pins s σ H _ I h
    rw [he] at p ⊢
    refine Calls.evalArgs_plain (thn p fun us s1 ⟨vs,H1,I1,rv,hl,q⟩=>⟨rfl,by rw [← rv.length]; exact hl,I1.bk _ _ c1,c2.keeps I1.bk,c4.keeps I1.bk,fun h' e m=>?_⟩)
    exact l _ _ (I1.leaveNew (t':=s1.toks) ow m q)
theorem Fun.okE {P:Program} {w:World} {K:PySem.W.Frag} {mg:Str→Option Value} {base:Heap} {CX:CXT} {x qual:Str} {st:Stmt} {f:Addr} {fd:FuncData} {N ps:List Str} {k:Nat} {sp:Sp} (F:Fun K x qual st f fd) (S:FnScope N ps (defScope st)) (len:∀ vs H Q E,sp vs H Q E→vs.length=ps.length)
    (hb:∀ (cdv:Value) (A:Around) (outer:List Env) (s:Shared) (H:Hp) (vs:List V) (Q:VK) (E:XK),Room k (A.deeper (envOfC qual (defScope st) s.heap.objs.size f cdv))→sp vs H Q E →
      ∃ t,PSs (cxOf CX P w K mg base N qual (defScope st) f cdv A outer s H E) (defBody st) t∧t { nx:=fun _ H'=>Q .non H',rt:=Q } (start N vs) H):FnOk P w K mg base CX (k+1) f fd ps sp:=by
  obtain ⟨oc,od,kV,doc,pm,an,cdv,ct,osl,rfl,lk,hcd⟩:=F.ex
  exact fn_of lk hcd S len fun A outer s H vs Q E hr hsp=>hb cdv A outer s H vs Q E hr hsp
end L2
namespace L2
open PySem PySem.Spec PyProof.Rows
def excP (a C:Addr) (h:Heap):Prop:=∃ o,h.get? a=some o∧o.cls=.ref C∧o.dict=none∧PySem.W.notCls o=true
def excO (a C:Addr):HO:=.ext (excP a C)
theorem Rec.exc {h:Heap} {e T C:Addr} {fl:Value} (r:Rec h e T (.ref C) fl):excP e C h:=by
  obtain ⟨oe,vs,_,_,⟨a1,a2,a3,a4⟩,_⟩:=r
  exact ⟨oe,a1,a2,a3,by unfold PySem.W.notCls; rw [a4]⟩
theorem excP.ok {P:Program} {w:World} {H:Hp} {h:Heap} {a C:Addr} (x:excP a C h):ObjOk P w H h a (excO a C):=by
  obtain ⟨o,e,r⟩:=id x
  exact ⟨x,⟨o,e⟩,fun h1 h2 ⟨o,e,r⟩ k=>⟨o,k o e,r⟩⟩
section
variable {X:Cx} {pins:List (Addr×Obj)} {σ:St} {H:Hp} {s:Shared} {a:Addr} {u:HO}
theorem Inv.track (I:Inv X pins σ H s) (o:Out X pins H a) (ob:ObjOk X.prog X.w (upd H a u) s.heap a u):Inv X pins σ (upd H a u) s:=by
  have ne:∀ b v,H b=some v→b≠a:=fun b v q z=>by rw [z,o.h] at q; cases q
  refine ⟨I.ok,I.os,I.bare,⟨I.base.keep,I.base.slot,fun b v q n hx=>?_,I.base.there,fun b xs q=>?_,fun b v xs q=>?_,fun b ps q=>?_⟩,I.loc,I.cell,?_,fun x c e=>?_,fun p hp=>?_,fun b v q=>?_,I.len⟩
  · rw [upd_ne (fun z=>by rw [z,o.s0] at q; cases q)]; exact I.base.free b v q n hx
  · have r:=I.base.tups b xs q; rw [upd_ne (ne b _ r)]; exact r
  · have r:=I.base.frzs b v xs q; rw [upd_ne (ne b _ r)]; exact r
  · obtain ⟨m,r⟩:=I.base.tbls b ps q; exact ⟨m,by rw [upd_ne (ne b _ r)]; exact r⟩
  · rw [upd_ne (Ne.symm o.loc)]; exact I.free
  · rw [upd_ne (o.cell x c e)]; exact I.freeC x c e
  · obtain ⟨e,n,r⟩:=I.pin p hp
    exact ⟨e,by rw [upd_ne (o.pin p hp)]; exact n,r⟩
  · by_cases hb:b=a
    · subst hb; rw [upd_same] at q; cases q; exact ob
    · rw [upd_ne hb] at q
      exact (I.hok b v q).stay (fun c y _ r=>r) (fun c r=>by rw [upd_ne (ne c _ r)]; exact r) (fun c xs r=>by rw [upd_ne (ne c _ r)]; exact r) fun c o u r=>by rw [upd_ne (ne c _ r)]; exact r
def Cx.marked (X:Cx) (e:Value):Cx:={ X with A:=X.A.mark (some e),calm:=false }
theorem Inv.marked (I:Inv X pins σ H s) (e:Value):Inv (X.marked e) pins σ H s :=
  ⟨⟨I.ok.mod,I.ok.kind,I.ok.glob,I.ok.blt,I.ok.above,I.ok.inj,I.ok.has,I.ok.cab,(fun z=>by cases z),I.ok.frames,I.ok.stk,I.ok.exf,I.ok.bs,I.ok.bsz,I.ok.noex,I.ok.exfs,I.ok.funs,I.ok.frf⟩,I.os,I.bare,I.base,I.loc,I.cell,I.free,I.freeC,I.pin,I.hok,I.len⟩
theorem Inv.unmarked {e:Value} {xe:Value→Shared→Prop} (ok:X.Ok) (I:Inv ((X.marked e).wish xe) pins σ H s):Inv X pins σ H s :=
  ⟨ok,I.os,I.bare,I.base,I.loc,I.cell,I.free,I.freeC,I.pin,I.hok,I.len⟩
theorem Inv.unset {h':Heap} {n:Str} {i:Nat} {t':Nat} {v:Option Value} {m:Str→Option Value} (I:Inv X pins σ H s) (hi:X.N[i]?=some n) (ln:X.env.kindOf n=some .local) (hN:X.N.Nodup)
    (hm:s.heap.Ns X.env.locals m) (hl:∀ (j:Nat) (x:Str) (v:V),X.N[j]?=some x→σ[j]?=some (some v)→Vis X.env.scope x→∃ u,RelV v u∧Look X.env s.heap m x u)
    (h1:h'.Ns X.env.locals (fun x=>if x=n then v else m x)) (h2:Heap.SameBut X.env.locals s.heap h'):Inv X pins (σ.set i none) H { s with heap:=h',toks:=t' }:=by
  have k:∀ b o,b≠X.env.locals→s.heap.get? b=some o→h'.get? b=some o:=fun b o hb q=>(h2.2 b hb).trans q
  have neL:∀ b o,X.s₀.heap.get? b=some o→b≠X.env.locals:=fun b o e=>Nat.ne_of_lt (Nat.lt_of_lt_of_le (Heap.lt_size e) I.ok.above)
  have cellK:∀ x c,X.env.cells.lookup x=some c→∀ v,s.heap.IsCell c v→h'.IsCell c v:=fun x c e v ⟨o,ho,hd⟩=>⟨o,k c o (I.cne x c e) ho,hd⟩
  refine ⟨I.ok,I.os,I.bare,⟨fun b o e n hb hx=>k b o (neL b o e) (I.base.keep b o e n hb hx),fun b o e n hb hx=>?_,I.base.free,fun b o e hx=>?_,I.base.tups,I.base.frzs,I.base.tbls⟩,⟨_,h1,fun j x u e1 e2 e3=>?_⟩,fun x c e=>?_,I.free,I.freeC,fun p hq=>?_,fun b u e=>?_,by rw [List.length_set]; exact I.len⟩
  · obtain ⟨sl,e1⟩:=I.base.slot b o e n hb hx
    exact ⟨sl,k b _ (neL b o e) e1⟩
  · obtain ⟨o',e1⟩:=I.base.there b o e hx
    exact ⟨o',k b _ (neL b o e) e1⟩
  · by_cases hj:i=j
    · subst hj
      rw [List.getElem?_set] at e2
      simp at e2
    · rw [List.getElem?_set_ne hj] at e2
      obtain ⟨y,ry,l⟩:=hl j x u e1 e2 e3
      refine ⟨y,ry,?_⟩
      rcases l with ⟨l1,l2⟩ | ⟨q,c,e,z⟩
      · refine .inl ⟨l1,?_⟩
        show (if x=n then v else m x)=some y
        rw [if_neg fun z=>hj (by subst z; exact nodup_ix hN hi e1)]
        exact l2
      · exact .inr ⟨q,c,e,cellK x c e _ z⟩
  · obtain ⟨v,z⟩:=I.cell x c e
    exact ⟨v,cellK x c e v z⟩
  · obtain ⟨e,n,ne,r⟩:=I.pin p hq
    exact ⟨k _ _ ne e,n,ne,r⟩
  · refine (I.hok b u e).stay (fun c y hc q=>k c y (fun z=>?_) q) (fun _ q=>q) fun _ _ q=>q
    rcases hc with rfl | hc
    · rw [z,I.free] at e; cases e
    · rw [z,I.free] at hc; cases hc
end
def tTry (K:PySem.W.Frag) (F:Value) (iv ie:Nat) (sp:Sp) (t:TA):TS:=fun D σ H=>t σ H fun vs H1=>sp vs H1 (fun _ H'=>D.nx σ H') fun cls _ H' =>
  ∃ C,cls=.ref C∧PySem.W.exmOne K (.ref C) F=some true∧∀ a,H' a=none→D.nx (((σ.set ie (some (.ref a))).set iv (some (.ref a))).set ie none) (upd H' a (excO a C))
section
variable {X:Cx} {k:Nat} {f:Addr} {fd:FuncData} {ps:List Str} {sp:Sp} {x y n v:Str} {e:Expr} {es:List Expr} {t:TA} {F:Value} {iv ie:Nat} {p1 p2 p3 p4 p5 p6 p7 p8 pos:Pos}
theorem ps_try (ow:OwnX X) (FO:FnOk X.prog X.w X.K X.mg X.base (CXE X.prog X.w) k f fd ps sp) (hr:Room k X.A) (hg:Gl X x) (hm:X.mg x=some (.ref f)) (hk:PySem.W.keepIn X.K (.ref f)=true) (hb:Binds X.K fd ps [])
    (ha:∀ xe,PA (X.wish xe) (e::es) t) (hN:X.N.Nodup) (hv:X.N[iv]?=some v) (hn:X.N[ie]?=some n) (lv:X.env.scope.names.lookup v=some .local) (ln:X.env.scope.names.lookup n=some .local) (hy:Gl X y) (my:X.mg y=some F)
    (hdb:(x==("__debug__" : Str))=false:=by decide) (hdy:(y==("__debug__" : Str))=false:=by decide) (hdn:(n==("__debug__" : Str))=false:=by decide)
    (he:starEach (e::es) X.env=(false,eval e X.env)::starEach es X.env:=by rfl) (hpl:(backTo p2 (starEach es X.env)).any (·.1)=false:=by rfl)
    (hs:swapsWith (.Call (.Name x p1) (e::es) [] p2) none p3.line X.env=pure false:=by rfl) (hs2:swapsWith (.Name n p6) (some (.Name v p5)) p7.line X.env=pure false:=by rfl)
    (hcd:(n==("__classdict__" : Str))=false:=by decide) :
    PS X (.Try [.Expr (.Call (.Name x p1) (e::es) [] p2) p3] [.ExceptHandler (some (.Name y p4)) (some n) [.Assign [.Name v p5] (.Name n p6) p7] p8] [] [] pos) (tTry X.K F iv ie sp t):=by
  intro pins s σ H D I h
  refine wpAny_Try_except (wpAny_execs_cons (wpAny_Expr_any ?_ I.quiet hs))
  refine wpAny_Call_Name_kw (ld_glob I hg hm ?_ hdb)
  refine PySem.W.callWith_K (h₀:=X.base) I.ok.mod.kin hk ?_ he hpl
  refine thn (ha (fun e s₁=>wpAny (model X.prog X.w) X.A (noteFrame e X.env) (fun _ s₂=>wpAny (model X.prog X.w) X.A (setFlight e none) (fun _ s₃=>wpAny (model X.prog X.w) X.A (handleBy e X.env [.ExceptHandler (some (.Name y p4)) (some n) [.Assign [.Name v p5] (.Name n p6) p7] p8]) (SP X pins D) X.xe s₃) X.xe s₂) X.xe s₁) p2 pins s σ H _ (I.wish _) h) ?_
  rintro us s1 ⟨vs,H1,I1,r,q⟩
  refine ⟨I1.unwish.kIn,?_⟩
  have I1:=I1.unwish
  have hl:us.length=ps.length:=by rw [← r.length]; exact FO.len _ _ _ _ q
  have hb1:=hb s1 us I1.kIn (by rw [List.append_nil]; exact hl)
  rw [List.append_nil] at hb1
  refine wpAny_call (codeAny_mono (FO.run X.A X.stack s1 H1 ⟨us,[]⟩ us vs _ _ hr I1.env0 hb1 r q) fun r s' hq=>?_)
  cases r with
  | ok fl =>
    cases fl with
    | ret u =>
      obtain ⟨v',H',I',_,q'⟩:=I1.after hq
      exact wpAny_execs_nil (wpAny_execs_nil ⟨σ,H',I',q'⟩)
    | next=>exact False.elim hq
    | brk=>exact False.elim hq
    | cont=>exact False.elim hq
  | error ev =>
    unfold CR at hq
    dsimp only at hq ⊢
    obtain ⟨a,T,cls,H',rfl,I',rc,o1,o2,C,rfl,hx,q'⟩:=I1.raised ow.ex hq
    refine note_next (base:=X.base) (outer:=X.outer) (by rw [← ow.stk]; exact I'.ok.frames) (by rw [← ow.stk]; exact I'.stack) ow.fr rc fun h1 T' n1 r1 g1=>?_
    have o3:=I'.out ow.ex n1
    rw [← ow.stk] at g1
    have I1:Inv X pins σ H' { s' with heap:=h1,toks:=s'.toks }:=I'.hop g1 fun b hb=>by
      rcases List.mem_cons.mp hb with rfl | hb
      · exact o2
      · rw [List.mem_singleton.mp hb]; exact o1
    refine land (env:=X.env) (outer:=X.outer) (s:={ s' with heap:=h1 }) r1 fun h2 r2 g2=>?_
    rw [← ow.stk] at g2
    have I2:Inv X pins σ H' { s' with heap:=h2,toks:=s'.toks }:=I1.hop g2 fun b hb=>by rw [List.mem_singleton.mp hb]; exact o3
    refine wpAny_handleBy_cons (codeAny_handlers_test (ld_glob (X:=X.marked (.ref a)) (I2.marked _) hy my ?_ hdy)) (by intro z; cases z)
    have LT:PySem.W.Looks (model X.prog X.w) h2 (typeOf (.ref a)) (.ref C):=by
      obtain ⟨o,e1,e2,_⟩:=r2.exc
      exact e2 ▸ (PySem.W.Looks.ld e1).andThen .now
    refine PySem.W.Looks.at (PySem.W.exm_one (M:=model X.prog X.w) I2.kIn LT hx) ?_
    refine codeAny_handlers_suite_as (land (env:=X.env) (outer:=X.outer) (s:={ s' with heap:=h2 }) r2 fun h3 r3 g3=>?_)
    rw [← ow.stk] at g3
    have I3:Inv X pins σ H' { s' with heap:=h3,toks:=s'.toks }:=I2.hop g3 fun b hb=>by rw [List.mem_singleton.mp hb]; exact o3
    have I4:=I3.track (u:=excO a C) o1 r3.exc.ok
    refine store_ok (X:=X.marked (.ref a)) (v:=.ref a) (I4.marked (.ref a)) hN hn (.inl ln) rfl (fun s5 I5=>?_) (.inr ln)
    have body:PSs ((X.marked (.ref a)).wish fun _ _=>False) [.Assign [.Name v p5] (.Name n p6) p7] (tAsg (tVar ie) (gName iv)):=pss_one (ps_set hN hv (.inl lv) (pe_var hn (.inl ln) hdn hcd) hs2 (.inr lv))
    have hlen:ie < σ.length:=by rw [I.len]; exact (List.getElem?_eq_some_iff.mp hn).1
    refine wpAny_mono (body pins s5 _ _ { nx:=fun σ' H2=>σ'=(σ.set ie (some (.ref a))).set iv (some (.ref a))∧H2=upd H' a (excO a C),rt:=fun _ _=>False } (I5.wish _) ⟨.ref a,by rw [List.getElem?_set_self hlen],rfl,rfl⟩) (fun fl s6 h6=>?_) fun _ _ z=>z.elim
    cases fl with
    | ret u=>obtain ⟨_,_,_,_,_,z⟩:=h6; exact z.elim
    | brk=>obtain ⟨_,_,_,z⟩:=h6; exact z.elim
    | cont=>obtain ⟨_,_,_,z⟩:=h6; exact z.elim
    | next =>
      obtain ⟨σ',H2,I6,rfl,rfl⟩:=h6
      have I6:=I6.unmarked I.ok
      obtain ⟨m,hm6,hl6⟩:=I6.loc
      refine wpAny_nameGoes_keeps (show X.env.kindOf n=some .local from ln) hm6 (by rw [I.ok.kind]; rfl) fun h7 w7 e7 b7=>?_
      exact ⟨_,_,I6.unset hn ln hN hm6 hl6 e7 b7,q' a o1.h⟩
end
structure ExcK (K:PySem.W.Frag) (C:Addr):Prop where
  ga:PySem.W.findIn K (.ref C) "__getattribute__" = some (some (.builtin "BaseException.__getattribute__"))
  gk:PySem.W.findIn K (.ref C) "__getattr__" = some none
  hd:PySem.W.hasDictIn K C=true
  ca:PySem.W.findIn K (.ref C) "__class__" = some (some (.builtin "object.__class__"))
  sp:PySem.W.specialIn K (.builtin "object.__class__") "__get__" = some (some (.builtin "getset_descriptor.__get__"))
  tk:PySem.W.takesIn K (.builtin "object.__class__")=some true
  mro:PySem.W.mroIn K C (.type "object")=some true
  mrb:PySem.W.mroIn K C (.type "BaseException")=some true
theorem exc_class {K:PySem.W.Frag} {prog:Program} {w:World} {A:Around} {E:Value→Shared→Prop} {Q:Option Value→Shared→Prop} {s:Shared} {x C:Addr} {ox:Obj} (k:ExcK K C) (X:K.In s.heap) (I:PySem.W.InstAt s.heap x ox C none) (q:Q (some (.ref C)) { s with toks:=s.toks+1 }) :
    wpAny (model prog w) A (getAttr? (.ref x) "__class__") Q E s:=by
  obtain ⟨hh,g,d,t,os⟩:=s
  have hf:PySem.W.findObj K C none "__class__" = some (.bind (.builtin "getset_descriptor.__get__") (.builtin "object.__class__")):=by
    obtain ⟨cd,hc,_⟩:=PySem.W.any_some k.hd
    unfold PySem.W.findObj
    rw [hc,Option.bind_some,k.ca,Option.bind_some]
    dsimp only
    rw [k.sp,Option.bind_some]
    dsimp only
    rw [k.tk,Option.bind_some]
  have L0:=I.type (M:=model prog w)
  have L1:=PySem.W.looks_findIn (M:=model prog w) X k.ga
  have L2:=PySem.W.looks_findIn (M:=model prog w) X k.gk
  have L3:=PySem.W.looks_find (M:=model prog w) X I hf
  have L4:PySem.W.Looks (model prog w) hh (isInstance (.ref x) (.type "BaseException")) true:=L0.andThen (PySem.W.looks_mroIn (M:=model prog w) X k.mrb)
  unfold getAttr? getAttrBy? getAttrBy
  refine wpAny_bind (wpAny_mkText (wpAny_bind (wpAny_attempt (wpAny_holding (wpAny_bind (L0.at (wpAny_bind (L1.at ?_))))))))
  dsimp only
  have ne:(Value.builtin "BaseException.__getattribute__" == Value.builtin "object.__getattribute__")=false:=by decide +kernel
  rw [ne,Bool.and_false,if_neg Bool.false_ne_true]
  unfold getAttrByItsOwn hookBefore
  rw [if_pos (show onTheHeap (Value.ref C)=true from rfl)]
  refine wpAny_bind (L2.at (wpAny_bind (wpAny_attempt (wpAny_holding ?_))))
  show wpAny _ _ (boundAndCalled _ _ _) _ _ _
  unfold boundAndCalled
  rw [PySem.F.attr_ValueError.ga.bind (.ref x)]
  refine wpAny_bind (wpAny_pure (wpAny_call (codeAny_call_builtin PySem.F.attr_ValueError.ga.plain PySem.F.entry_bexc_ga ?_)))
  have hk:builtinKind "BaseException.__getattribute__" = some .slot:=by decide +kernel
  have hs:splitId "BaseException.__getattribute__" = some ("BaseException", "__getattribute__"):=by decide +kernel
  have ha:=PySem.F.args_bexc_ga (.ref x) (.str "__class__" t)
  simp only [checkBuiltinCall,hk,hs]
  refine wpAny_bind (L4.at ?_)
  repeat (any_goals (first | assumption | wp_step))
  refine wpAny_loadPart_at I.at_ (wpAny_pure ?_)
  rw [I.cls]
  refine wpAny_bind (L3.at ?_)
  dsimp only
  unfold Builtin.ObjectAttr.bindTo
  dsimp only
  refine wpAny_bind (wpAny_holding (wpAny_call (PySem.W.class_get (ox:=ox) (od:=none) X I k.mro (wpAny_pure ?_))))
  exact PySem.W.handed_on rfl (wpAny_pure q)
theorem excP.inst {a C:Addr} {h:Heap} (x:excP a C h):∃ ox,PySem.W.InstAt h a ox C none:=by
  obtain ⟨o,e,e1,e2,e3⟩:=x
  exact ⟨o,e,e1,e3,by rw [e2]; trivial⟩
theorem kitx_exc {K:PySem.W.Frag} {a C:Addr} (k:ExcK K C):PySem.W.KitX K (.ref a) (.ref C) (excP a C) where
  ty:=fun _ _ _ x=>let ⟨_,I⟩:=x.inst; I.type
  it:=fun M h X x=>by
    obtain ⟨cd,z,_⟩:=PySem.W.any_some k.hd
    unfold PySem.W.clsIn at z
    split at z
    case h_2=>cases z
    case h_1 ho =>
      intro A Q E s kk q
      unfold isType loadHead
      exact wpAny_bind (wpAny_loadPart (kk _ _ (X _ _ ho)) (wpAny_pure q))
  ne:=fun h tp dd its m sl X htp=>by
    refine Bool.eq_false_iff.mpr fun q=>?_
    cases Value.ref.inj (beq_iff_eq.mp q)
    obtain ⟨cd,z,_⟩:=PySem.W.any_some k.hd
    unfold PySem.W.clsIn at z
    split at z
    case h_2=>cases z
    case h_1 ho=>cases (X _ _ ho).symm.trans htp
  ca:=fun {prog w A E Q s} X x q=>by
    obtain ⟨ox,I⟩:=x.inst
    exact exc_class k X I q
def rIsE (K:PySem.W.Frag):List V→Hp→VK→Prop:=fun xs H Q=>∃ a C c u b,xs=[.ref a,c]∧H a=some (excO a C)∧ExcK K C∧RelV c u∧PySem.W.kitOne K (.ref C) u=some b∧Q (.bl b) H
theorem call_isE {X:Cx} {K:PySem.W.Frag} (h:X.K=K):CallR X (.builtin "isinstance") (rIsE K):=by
  subst h
  intro pins s σ H xs us Q I r h
  obtain ⟨a,C,c,u,b,rfl,ea,k,rc,e,q⟩:=h
  cases r with
  | cons r1 r =>
    cases r with
    | cons r2 r =>
      cases r
      cases (show _=Value.ref a from r1)
      have hu:∀ {u':Value},RelV c u'→PySem.W.kitOne X.K (.ref C) u=some b→u'=u:=fun {u'} r' e=>by
        cases c with
        | ref d=>exact (show u'=Value.ref d from r').trans (show u=Value.ref d from rc).symm
        | ty d=>exact (show u'=Value.type d from r').trans (show u=Value.type d from rc).symm
        | non=>cases (show u=Value.none from rc); cases e
        | bl b=>cases (show u=Value.bool b from rc); cases e
        | int i=>obtain ⟨t,z⟩:=(show ∃ t,u=Value.int i t from rc); cases z; cases e
        | str i=>obtain ⟨t,z⟩:=(show ∃ t,u=Value.str i t from rc); cases z; cases e
        | byt i=>obtain ⟨t,z⟩:=(show ∃ t,u=Value.bytes i t from rc); cases z; cases e
        | flt i=>obtain ⟨t,z⟩:=(show ∃ t,u=Value.float i t from rc); cases z; cases e
      rw [hu r2 e]
      obtain ⟨x,_,_⟩:=(show ObjOk X.prog X.w H s.heap a (excO a C) from I.hok a _ ea)
      exact PySem.W.kia_one (kitx_exc k) I.kIn x e (fun z=>nomatch z) fun tk=>⟨.bl b,H,I.tok _,rfl,q⟩
def rIsEs (K:PySem.W.Frag):List V→Hp→VK→Prop:=fun xs H Q=>∃ (a C tp:Addr) (cs:List Addr) (b:Bool),xs=[.ref a,.ref tp]∧H a=some (excO a C)∧ExcK K C∧H tp=some (.tup (cs.map V.ref))∧PySem.W.kitAny K (.ref C) (cs.map Value.ref)=some b∧Q (.bl b) H
theorem call_isEs {X:Cx} {K:PySem.W.Frag} (h:X.K=K):CallR X (.builtin "isinstance") (rIsEs K):=by
  subst h
  intro pins s σ H xs us Q I r h
  obtain ⟨a,C,tp,cs,b,rfl,ea,k,et,e,q⟩:=h
  cases r with
  | cons r1 r =>
    cases r with
    | cons r2 r =>
      cases r
      cases (show _=Value.ref a from r1)
      cases (show _=Value.ref tp from r2)
      obtain ⟨x,_,_⟩:=(show ObjOk X.prog X.w H s.heap a (excO a C) from I.hok a _ ea)
      obtain ⟨_,its,rv,⟨oc,od,dt,sl⟩,h1,h2,m,h3⟩:=(show ObjOk X.prog X.w H s.heap tp (.tup (cs.map V.ref)) from I.hok tp _ et)
      have hi:∀ {cs:List Addr} {its:List Value},Vals (cs.map V.ref) its→its=cs.map Value.ref:=by
        intro cs
        induction cs with
        | nil=>intro its r; cases r; rfl
        | cons c cs ih=>intro its r; cases r with | cons r1 r=>cases (show _=Value.ref c from r1); rw [ih r]; rfl
      dsimp only at h2 h3
      subst h2 h3
      rw [hi rv] at h1
      exact PySem.W.kia_tup (kitx_exc k) I.kIn x h1 e (fun z=>nomatch z) fun tk=>⟨.bl b,H,I.tok _,rfl,q⟩
end L2
namespace L2
open PySem PySem.Spec PyProof.Rows
inductive PParts (X:Cx):List Expr→List TE→Prop
  | nil:PParts X [] []
  | text {x:Str} {j p es ts} (hx:x.length≤1000) (h:PParts X es ts):PParts X (.Constant (.str x) j p::es) ts
  | val {e:Expr} {p es ts} {t:TE} (he:PE X e t) (h:PParts X es ts):PParts X (.FormattedValue e (-1) none p::es) (t::ts)
theorem bt_ValueError:bootBuiltins "ValueError" = some (.type "ValueError"):=by decide +kernel
theorem kit_any3 {K:PySem.W.Frag} {t c1 c2 c3:Value} (h1:PySem.W.kitOne K t c1=some false) (h2:PySem.W.kitOne K t c2=some false) (h3:PySem.W.kitOne K t c3=some false):PySem.W.kitAny K t [c1,c2,c3]=some false:=by
  simp only [PySem.W.kitAny,h1,h2,h3]
end L2
namespace VL
open PySem L2
open Classical
noncomputable section
variable [Tabs] {K:PySem.W.Frag}
def spX (K:PySem.W.Frag) (ms:List Bool) (C:Addr) (F:List D→Option D):Sp:=fun vs H _ E=>∃ (Z:Addr→Prop) (ds:List D) (d:D),ZT Z H∧Args K H Z ms vs ds∧F ds=some d∧∀ H',Same H H'→E (.ref C) none H'
theorem Fun.okX {P:Program} {w:World} {mg:Str→Option Value} {base:Heap} {x qual:Str} {st:Stmt} {f C:Addr} {fd:FuncData} {N ps:List Str} {k:Nat} (F:Fun K x qual st f fd) (S:FnScope N ps (defScope st)) (ms:List Bool) (hms:ms.length=ps.length) (b:DS)
    (hbody:∀ (cdv:Value) (A:Around) (outer:List Env) (s:Shared) (H:Hp) (E:XK),Room k (A.deeper (PyProof.Rows.envOfC qual (defScope st) s.heap.objs.size f cdv)) →
      ∃ t,PSs (cxOf (CXE P w) P w K mg base N qual (defScope st) f cdv A outer s H E) (defBody st) t∧SemS (.x E C) K t b):FnOk P w K mg base (CXE P w) (k+1) f fd ps (spX K ms C (runF N.length ms b)):=by
  refine F.okE S (fun vs H Q E h=>?_) (fun cdv A outer s H vs Q E hr h=>?_)
  · obtain ⟨Z,ds,d,hz,a,_⟩:=h
    rw [a.len.1,hms]
  · obtain ⟨Z,ds,d,hz,a,e,k⟩:=h
    obtain ⟨t,h1,h2⟩:=hbody cdv A outer s H E hr
    refine ⟨t,h1,h2 (startFr hz a) ?_⟩
    unfold runF at e
    split at e
    · rename_i d' e1
      cases e
      rw [e1]
      exact k
    · cases e
variable {E:XK} {C:Addr}
inductive SemJ (K:PySem.W.Frag):List TE→List DE→Prop
  | nil:SemJ K [] []
  | cons {t ts a as} (h:SemB K t a) (r:SemJ K ts as):SemJ K (t::ts) (a::as)
theorem same_new {H:Hp} {a:Addr} {o:HO} (h:H a=none):Same H (upd H a o):=fun b u e=>by rw [upd_ne (ne_of_none e h)]; exact e
def XE (iv:Nat) (C:Addr) (t:TE) (b:Bool):Prop:=∀ {σ:L2.St} {H:Hp} {a:Addr} {Q:VK},σ[iv]?=some (some (.ref a))→H a=some (excO a C)→(∀ H',Same H H'→Q (.bl b) H')→t σ H Q
def XT (iv:Nat) (C:Addr) (t:TT) (b:Bool):Prop:=∀ {σ:L2.St} {H:Hp} {a:Addr} {Q:Bool→Hp→Prop},σ[iv]?=some (some (.ref a))→H a=some (excO a C)→(∀ H',Same H H'→Q b H')→t σ H Q
def XS (iv:Nat) (C:Addr) (t:TS):Prop:=∀ {σ:L2.St} {H:Hp} {a:Addr} {En:Ends},σ[iv]?=some (some (.ref a))→H a=some (excO a C)→(∀ H',Same H H'→En.rt (.bl true) H')→t En σ H
variable {iv ie:Nat}
theorem xe_is {c:V} {u:Value} {b:Bool} (k:ExcK K C) (r:RelV c u) (e:PySem.W.kitOne K (.ref C) u=some b):XE iv C (tCB (rIsE K) (tCons (tVar iv) (tCons (tC c) tNil))) b:=fun {σ H a Q} s h q =>
  ⟨.ref a,s,a,C,c,u,b,rfl,h,k,r,e,q H (Same.refl _)⟩
theorem xe_is3 {c1 c2 c3:Addr} {b:Bool} (k:ExcK K C) (e:PySem.W.kitAny K (.ref C) [.ref c1,.ref c2,.ref c3]=some b):XE iv C (tCB (rIsEs K) (tCons (tVar iv) (tCons (tTup (tCons (tC (.ref c1)) (tCons (tC (.ref c2)) (tCons (tC (.ref c3)) tNil)))) tNil))) b:=fun {σ H a Q} s h q =>
  ⟨.ref a,s,by have:=sizeLine_eq; show 3≤sizeLine; omega,fun p hp=>⟨a,C,p,[c1,c2,c3],b,rfl,by rw [upd_ne (ne_of_none h hp)]; exact h,k,upd_same,e,q _ (same_new hp)⟩⟩
theorem xt_tru {t:TE} {b:Bool} (h:XE iv C t b):XT iv C (fun σ H Q=>t σ H fun x H'=>∃ k,TruV K x H' k∧Q k H') b:=fun s e q=>h s e fun H' s'=>⟨b,rfl,q H' s'⟩
theorem xt_or {t u:TT} {b:Bool} (h1:XT iv C t false) (h2:XT iv C u b):XT iv C (tOr t u) b:=fun s e q=>h1 s e fun H1 s1=>iteF (h2 s (s1 _ _ e) fun H2 s2=>q H2 (s1.trans s2))
theorem xe_and {t u:TE} {b:Bool} (h1:XE iv C t true) (h2:XE iv C u b):XE iv C (tAndV t u) b:=fun s e q=>h1 s e fun H1 s1=>⟨true,rfl,iteT (h2 s (s1 _ _ e) fun H2 s2=>q H2 (s1.trans s2))⟩
theorem xs_if {c:TT} {t r:TS} (h1:XT iv C c false) (h2:XS iv C r):XS iv C (tSeq (tIfS c t tNext) r):=fun s e q=>h1 s e fun H1 s1=>iteF (h2 s (s1 _ _ e) fun H2 s2=>q H2 (s1.trans s2))
theorem xs_ret {t:TE} (h:XE iv C t true):XS iv C (tRet t):=fun s e q=>h s e q
@[irreducible] noncomputable def sRefused (iv:Nat) (x:DE):DS:=fun ρ=>if iv < ρ.length then (match x ρ with
  | some _=>.rt (.bl true)
  | none=>.no) else .no
theorem ss_refused {ms:List Bool} {F:List D→Option D} {t:TA} {r:TS} {es:Rho→Option (List D)} {Fl:Value} (ha:SemA K ms t es) (hF:PySem.W.exmOne K (.ref C) Fl=some true) (hne:ie≠iv) (hr:XS iv C r) :
    SemS .v K (tSeq (tTry K Fl iv ie (spX K ms C F) t) r) (sRefused iv (dCall F es)):=fun {B Z os ρ σ H En} f p=>by
  unfold sRefused at p
  split at p
  case isFalse=>exact p.elim
  case isTrue hi =>
    cases e:dCall F es ρ with
    | none=>rw [e] at p; exact p.elim
    | some d =>
      rw [e] at p
      unfold dCall at e
      split at e
      · rename_i ds e1
        refine ha f e1 fun vs H1 s1 a=>⟨tot Z os,ds,d,(f.grow s1).zt,a,e,fun H2 s2=>⟨C,rfl,hF,fun x hx=>hr (a:=x) ?_ upd_same fun H3 s3=>?_⟩⟩
        · rw [List.getElem?_set_ne hne,List.getElem?_set_self (by rw [List.length_set,f.len]; exact hi)]
        · exact p (.bl true) H3 (f.keep.trans (s1.trans (s2.trans ((same_new hx).trans s3)))) (.bl true)
      · cases e
theorem wp_refused {x:DE} {ρ:Rho} {d:D} {W:Wk} (hi:iv < ρ.length) (h:x ρ=some d) (k:W.rt (.bl true)):Wp (sRefused iv x) ρ W:=by
  unfold Wp sRefused
  rw [if_pos hi,h]
  exact k
end
end VL
namespace VL
open PySem L2
open Classical
noncomputable section
variable [Tabs] {K:PySem.W.Frag} {fr:Fm}
end
end VL
namespace Srt
open PySem PySem.W PyProof.Rows
section
variable {lt:Nat→Nat→Bool} {N:Nat}
structure Ord (lt:Nat→Nat→Bool):Prop where
  tr:∀ a b c,lt b a=false→lt c b=false→lt c a=false
  as:∀ a b,lt a b=true→lt b a=false
abbrev g (p:Array Nat) (i:Nat):Nat:=p.getD i 0
end
end Srt
namespace L2
open PySem PySem.Spec PyProof.Rows
section
variable {X:Cx} {pins:List (Addr×Obj)} {σ:St} {H:Hp} {s:Shared}
end
section
open PySem.W
variable {prog:Program} {w:World} {A:Around} {E:Value→Shared→Prop} {s:Shared} {a:Addr} {n:Nat} {vs:List Value}
end
end L2
namespace L2
open PySem PySem.Spec PyProof.Rows
end L2
namespace VL
open PySem L2
open Classical
noncomputable section
variable [Tabs] {K:PySem.W.Frag}
end
end VL
namespace L2
open PySem PySem.Spec PyProof.Rows
section
variable {M:Model} {A:Around} {E:Value→Shared→Prop} {s:Shared} {base:Heap} {env:Env} {outer:List Env} {L e T:Addr} {cls fl:Value} {Q:Unit→Shared→Prop}
end
section
variable {X:Cx} {pins:List (Addr×Obj)} {σ:St} {H:Hp} {s s':Shared} {E:XK} {e:Value}
end
section
variable {prog:Program} {w:World} {A:Around} {R:Result→Shared→Prop} {s:Shared}
end
section
variable {X:Cx} {tg elt iter:Expr} {scope:Scope} {cl:List (Str×Addr)} {N':List Str} {σ0:St→St} {g:TG} {te:TE} {E:XK}
variable {pos:Pos} {wi:TI} {ts zs:List Str} {is:List Nat} {k:Nat}
end
end L2
namespace VL
open PySem L2
open Classical
noncomputable section
variable [Tabs] {K:PySem.W.Frag} {E:XK} {C:Addr}
end
end VL
namespace L2
open PySem PySem.Spec PyProof.Rows
def BmOk (mg:Str→Option Value) (base:Heap):Prop:=∃ bm ob,mg "__builtins__" = some (.ref bm)∧bm≠builtinsNs∧base.get? bm=some ob∧ob.cls=.type "module" ∧ ob.dict=some builtinsNs∧ob.data=.plain
structure LamOk (X:Cx) (c P:Addr):Prop where
  code:X.env.code=.ref c
  hd:PySem.W.codeHdIn X.K c P=true
  bm:BmOk X.mg X.base
structure LFrees (X:Cx) (x:Str) (zs:List Str) (is:List Nat) (scope:Scope) (cl:List (Str×Addr)):Prop where
  par:scope.names.lookup x=some .local
  sub:∀ y c,cl.lookup y=some c→X.env.cells.lookup y=some c
  cap:∀ (j:Nat) (z:Str),zs[j]?=some z→∃ i c,is[j]?=some i∧X.N[i]?=some z∧(X.env.scope.names.lookup z=some .cell∨X.env.scope.names.lookup z=some .free)∧cl.lookup z=some c∧scope.names.lookup z=some .free
  has:∀ y,(scope.names.lookup y=some .cell∨scope.names.lookup y=some .free)→∃ c,cl.lookup y=some c
  len:is.length=zs.length
  nocell:∀ y∈scope.names,y.2≠.cell
  kind:scope.kind=.function
  co:scope.isCoroutine=false
  gen:scope.isGenerator=false
inductive LapL (X:Cx) (scope:Scope) (cl:List (Str×Addr)):List Nat→List Str→Prop
  | nil:LapL X scope cl [] []
  | cons {i:Nat} {z:Str} {c:Addr} {is:List Nat} {zs:List Str}:X.N[i]?=some z→(X.env.scope.names.lookup z=some .cell∨X.env.scope.names.lookup z=some .free)→cl.lookup z=some c→scope.names.lookup z=some .free→LapL X scope cl is zs→LapL X scope cl (i::is) (z::zs)
end L2
namespace L2
open PySem PySem.Spec PyProof.Rows
section
variable {X:Cx} {pins:List (Addr×Obj)} {σ:St} {H:Hp} {s:Shared} {m:Str→Option Value} {h':Heap} {kS:Addr} {ok:Obj}
end
section
variable {X:Cx} {pins:List (Addr×Obj)} {σ:St} {m:Str→Option Value} {kS f:Addr} {o:Obj} {q:Str} {params:Arguments} {body:Expr} {scope:Scope} {cl:List (Str×Addr)} {A:Around} {x:Str} {zs:List Str} {is:List Nat} {te:TE} {Fin:List V→Hp→Prop}
structure Nil (X:Cx) (pins:List (Addr×Obj)) (H:Hp) (b:Addr):Prop where
  h:H b=none
  cell:∀ x c,X.env.cells.lookup x=some c→c≠b
  pin:∀ p∈X.pn++pins,p.1≠b
  fs:b∉X.fs
end
end L2
namespace L2
open PySem PySem.Spec PyProof.Rows PySem.Calls
section
open PySem.W
variable {prog:Program} {w:World} {A:Around} {E:Value→Shared→Prop} {s:Shared} {h₀:Heap} {L kS a:Addr} {m:Str→Option Value} {news:List (Addr×Obj)} {vs:List Value}
end
section
variable {X:Cx} {pins:List (Addr×Obj)} {σ:St} {m:Str→Option Value} {kS f:Addr} {o:Obj} {q:Str} {params:Arguments} {body:Expr} {scope:Scope} {cl:List (Str×Addr)} {A:Around} {x:Str} {zs:List Str} {is:List Nat} {te:TE} {Fin:List V→Hp→Prop}
end
end L2
namespace VL
open PySem L2
open Classical
noncomputable section
variable [Tabs] {K:PySem.W.Frag}
end
end VL
namespace L2
open PySem PySem.Spec PyProof.Rows
def tabH (ts:List (Addr×Str)):Hp:=fun b=>(ts.lookup b).map fun q=>.tbl #[.str q 0]
end L2
namespace L2
open PySem PySem.Spec PyProof.Rows
end L2
namespace VL
open PySem L2
open Classical
noncomputable section
variable [Tabs] {K:PySem.W.Frag}
end
end VL
namespace L2
open PySem PySem.Spec PyProof.Rows
end L2
namespace VL
open PySem L2
open Classical
noncomputable section
variable [Tabs] {K:PySem.W.Frag}
end
end VL
namespace PySem.SeqAt
open AutoSeq1 (wpAny_loadPart')
open MeetsSeq MeetsSeq2 MeetsSeq3
section
variable {A:Around} {s:Shared}
end
end PySem.SeqAt
namespace VL
open PySem L2
open Classical
noncomputable section
variable {K:PySem.W.Frag}
def ordb:Nat→D→D→Bool
  | _,.int _,.int _=>true
  | n+1,.lst xs,.lst ys=>(List.zip xs ys).all fun p=>cmpb n p.1 p.2&&ordb n p.1 p.2
  | n+1,.tup xs,.tup ys=>(List.zip xs ys).all fun p=>cmpb n p.1 p.2&&ordb n p.1 p.2
  | _,_,_=>false
section
variable {X:Cx} {pins:List (Addr×Obj)} {σ:L2.St} {H:Hp} {s:Shared}
inductive Om:Nat→D→D→Prop
  | int {n:Nat} (a b:Int):Om n (.int a) (.int b)
  | lst {n:Nat} {xs ys:List D} (h:(List.zip xs ys).all (fun p=>cmpb n p.1 p.2&&ordb n p.1 p.2)=true):Om (n+1) (.lst xs) (.lst ys)
  | tup {n:Nat} {xs ys:List D} (h:(List.zip xs ys).all (fun p=>cmpb n p.1 p.2&&ordb n p.1 p.2)=true):Om (n+1) (.tup xs) (.tup ys)
end
end
end VL
namespace L2
open PySem PySem.Spec PyProof.Rows VL
section
variable {X:Cx} {pins P0 P1:List (Addr×Obj)} {σ:St} {H:Hp} {s:Shared} {h':Heap} {a:Addr} {oa oa':Obj} {t':Nat}
end
section
variable {X:Cx} {pins:List (Addr×Obj)} {σ:St} {f:Addr} {o:Obj} {q:Str} {params:Arguments} {body:Expr} {scope:Scope} {cl:List (Str×Addr)} {x:Str} {zs:List Str} {is:List Nat} {te:TE} {Fin:V→Hp→Prop} {kw:List (Str×Value)} {l I S:Addr} {vs:List V}
end
end L2
namespace L2
open PySem PySem.Spec PyProof.Rows VL
section
variable {X:Cx} {pins:List (Addr×Obj)} {σ:St} {q:Str} {params:Arguments} {body:Expr} {scope:Scope} {cl:List (Str×Addr)} {x:Str} {zs:List Str} {is:List Nat} {te:TE}
end
end L2
namespace VL
open PySem L2
open Classical
noncomputable section
variable [Tabs] {K:PySem.W.Frag}
end
end VL
namespace L2
open PySem PySem.Spec PyProof.Rows
section
variable {X:Cx} {pins:List (Addr×Obj)} {σ:St} {m:Str→Option Value} {kS f:Addr} {o:Obj} {q:Str} {params:Arguments} {body:Expr} {scope:Scope} {cl:List (Str×Addr)} {A:Around} {x:Str} {zs:List Str} {is:List Nat} {te:TE} {Fin:List V→Hp→Prop}
end
end L2
namespace VL
open PySem L2
open Classical
noncomputable section
variable [Tabs] {K:PySem.W.Frag}
end
end VL
namespace VL
open PySem L2
open Classical
noncomputable section
variable [Tabs] {K:PySem.W.Frag} {fr:Fm}
end
end VL
namespace PySem.SeqAt
end PySem.SeqAt
namespace L2
open PySem PySem.Spec PyProof.Rows
end L2
namespace L2
open PySem PySem.Spec PyProof.Rows
end L2
namespace VL
open PySem L2
open Classical
noncomputable section
variable [Tabs] {K:PySem.W.Frag}
end
end VL
namespace VL
open PySem L2
open Classical
noncomputable section
variable [Tabs] {K:PySem.W.Frag}
end
end VL
namespace VL
open PySem L2
open Classical
noncomputable section
variable [Tabs] {K:PySem.W.Frag}
end
end VL
namespace L2
open PySem PySem.Spec PyProof.Rows VL
open Classical
noncomputable section
variable {X:Cx} {K:PySem.W.Frag}
end
end L2
namespace VL
open PySem L2
open Classical
noncomputable section
variable [Tabs] {K:PySem.W.Frag}
end
end VL
namespace L2
open PySem PySem.Spec PyProof.Rows VL
section
variable {X:Cx} {pins:List (Addr×Obj)} {σ:St} {f:Addr} {o:Obj} {q:Str} {params:Arguments} {body:Expr} {scope:Scope} {cl:List (Str×Addr)} {x:Str} {zs:List Str} {is:List Nat} {te:TE} {Fin:V→Hp→Prop} {kw:List (Str×Value)} {l:Addr}
end
section
variable {X:Cx} {pins:List (Addr×Obj)} {σ:St} {q:Str} {params:Arguments} {body:Expr} {scope:Scope} {cl:List (Str×Addr)} {x:Str} {zs:List Str} {is:List Nat} {te:TE}
end
end L2
namespace VL
open PySem L2
open Classical
noncomputable section
variable [Tabs] {K:PySem.W.Frag}
end
end VL
namespace L2
open PySem PySem.Spec PyProof.Rows VL
def Rs (xs:Array Nat):Prop:=xs.toList.Pairwise (· < ·)
structure TabG (led:Bool) (t:SetTable):Prop where
  led:t.led=led
  up:Rs t.place
section
variable {prog:Program} {w:World} {A:Around} {E:Value→Shared→Prop} {s:Shared}
end
end L2
namespace L2
open PySem PySem.Spec PyProof.Rows VL
structure Once (val:Nat→Int) (i:Nat) (ks:List Int):Prop where
  nd:ks.Nodup
  mem:∀ x,x∈ks↔∃ j,j<i∧val j=x
  len:ks.length≤i
section
variable {prog:Program} {w:World} {A:Around} {R:Result→Shared→Prop} {I:Addr} {fp wr:List Addr} {Gn:Array GenState→Array GenState→Prop} {n:Nat} {P:Nat→Value→Prop} {St:Nat→Shared→Prop}
end
section
variable {prog:Program} {w:World} {A:Around} {E:Value→Shared→Prop} {s:Shared}
end
end L2
namespace L2
open PySem PySem.Spec PyProof.Rows VL
section
variable {prog:Program} {w:World} {A:Around} {E:Value→Shared→Prop} {s:Shared} {I S:Addr} {n ep:Nat} {es:Array (Int×Value)} {t:SetTable}
end
end L2
namespace L2
open PySem PySem.Spec PyProof.Rows VL
section
variable {prog:Program} {w:World} {A:Around} {E:Value→Shared→Prop} {s:Shared} {I S:Addr} {ep:Nat} {es:Array (Int×Value)} {t:SetTable}
end
end L2
namespace L2
open PySem PySem.Spec PyProof.Rows VL
section
variable {prog:Program} {w:World} {A:Around} {E:Value→Shared→Prop} {s:Shared} {S:Addr} {ep:Nat} {es:Array (Int×Value)} {t:SetTable}
end
end L2
namespace L2
open PySem PySem.Spec PyProof.Rows VL
end L2
namespace VL
open PySem L2
open Classical
noncomputable section
variable [Tabs] {K:PySem.W.Frag}
omit [Tabs] in
end
end VL
namespace VL
open PySem L2
open Classical
noncomputable section
variable [Tabs] {K:PySem.W.Frag}
end
end VL
namespace L2
open PySem PySem.Spec PyProof.Rows VL
end L2
namespace VL
open PySem L2
open Classical
noncomputable section
variable [Tabs] {K:PySem.W.Frag}
end
end VL
namespace VL
open PySem L2
open Classical
noncomputable section
variable [Tabs] {K:PySem.W.Frag} {fr:Fm}
end
end VL
namespace VL
open PySem L2
open Classical
noncomputable section
variable [Tabs] {K:PySem.W.Frag} {fr:Fm}
end
end VL
namespace VL
open PySem L2
open Classical
noncomputable section
variable [Tabs] {K:PySem.W.Frag} {fr:Fm}
section
variable {B H:Hp} {Z:Addr→Prop} {os:Own} {ρ:Rho} {σ:L2.St} {i:Nat} {a:Addr} {ps:List Addr} {rows:List (List D)}
end
end
end VL
namespace L2
open PySem PySem.Spec PyProof.Rows VL
section
variable {X:Cx} {tg:Expr}
end
end L2
namespace VL
open PySem L2
open Classical
noncomputable section
variable [Tabs] {K:PySem.W.Frag} {fr:Fm}
end
end VL
namespace PySem
open Sem (wp)
section
variable {prog:Program} {w:World} {A:Around} {E:Value→Shared→Prop} {s:Shared}
end
end PySem
namespace PySem
open Sem (wp)
namespace F
end F
section
variable {prog:Program} {w:World} {A:Around} {E:Value→Shared→Prop} {s:Shared}
end
end PySem
namespace L2
open PySem PySem.Spec PyProof.Rows VL
section
variable {P:Program} {w:World} {H:Hp} {h:Heap}
end
end L2
namespace VL
open PySem L2
open Classical
noncomputable section
variable [Tabs] {K:PySem.W.Frag}
end
end VL
namespace VL
open PySem L2
open Classical
noncomputable section
variable [Tabs] {K:PySem.W.Frag}
def unI:List D→Option (List Int)
  | []=>some []
  | .int n::r=>(unI r).map (n::·)
  | _=>none
omit [Tabs] in
end
end VL
namespace L2
open PySem PySem.Spec PyProof.Rows VL
open Builtin.Str (occurrences subAt strSub partsBetween glued strKind tooLong)
section
variable {X:Cx}
theorem strs_of:∀ {xs:List Str} {us:List Value},Vals (xs.map V.str) us→∃ l:List (Str×Tok),us=strValues l∧l.map (·.1)=xs
  | [],_,.nil=>⟨[],rfl,rfl⟩
  | x::xs,_,.cons h r=>by
    obtain ⟨l,e1,e2⟩:=strs_of (xs:=xs) r
    obtain ⟨t,rfl⟩:=h
    exact ⟨(x,t)::l,by rw [e1]; rfl,by rw [List.map_cons,e2]⟩
def rJoin (K:PySem.W.Frag):V→List V→Hp→VK→Prop:=fun x vs H Q=>∃ a p xs,x=.str a∧vs=[.ref p]∧SqL K H p ((xs:List Str).map V.str)∧tooLong (xs.toArray.foldl (·+·.length+a.length) 0)=false∧(glued a xs).length≤sizeLine∧Q (.str (glued a xs)) H
theorem mt_join {K:PySem.W.Frag} (hK:X.K=K):MtM X "str.join" (rJoin K):=by
  subst hK
  intro pins s σ H x xs v us Q I rx rv h
  obtain ⟨a,p,xs,rfl,rfl,hq,h1,h2,q⟩:=h
  obtain ⟨t,rfl⟩:=rx
  obtain ⟨u,rfl,ru⟩:=vals1 rv
  cases ru
  obtain ⟨its,r,pl,hz⟩:=I.list hq
  obtain ⟨l,rfl,rfl⟩:=strs_of r
  refine call_meets PySem.F.slot_str_join (typeIs_str s a t) PySem.F.entry_str_join (PySem.F.args_str_join_2 _ _) (meets_str_join_list a t p l h1) ⟨pl.isList,?_⟩
  match l,q,h2 with
  | [y],q,_=>exact ⟨.str y.1,H,I,⟨_,rfl⟩,q⟩
  | [],q,h2=>exact ⟨h2,.str _,H,I.tok _,⟨_,rfl⟩,q⟩
  | y::z::r,q,h2=>exact ⟨h2,.str _,H,I.tok _,⟨_,rfl⟩,q⟩
theorem fm_self {α:Type}:∀ l:List α,(List.range l.length).filterMap (fun k=>l[k]?)=l
  | []=>rfl
  | x::l=>by
    rw [List.length_cons,List.range_succ_eq_map,List.filterMap_cons]
    show x::(List.filterMap (fun k=>(x::l)[k]?) ((List.range l.length).map Nat.succ))=_
    rw [List.filterMap_map]
    exact congrArg (x::·) (fm_self l)
end
end L2
namespace VL
open PySem L2
open Builtin.Str (occurrences subAt strSub partsBetween glued strKind tooLong)
open Classical
noncomputable section
variable [Tabs] {K:PySem.W.Frag} {ta tb:TE} {a b:DE}
noncomputable def dTT (f:Str→Str→Option D) (a b:DE):DE:=fun ρ=>match a ρ with
  | some (.str x)=>(match b ρ with
    | some (.str y)=>f x y
    | _=>none)
  | _=>none
omit [Tabs] in
theorem dTT_some {f:Str→Str→Option D} {a b:DE} {ρ:Rho} {d:D} (h:dTT f a b ρ=some d):∃ x y,a ρ=some (.str x)∧b ρ=some (.str y)∧f x y=some d:=by
  unfold dTT at h
  split at h
  · rename_i x e1
    split at h
    · rename_i y e2
      exact ⟨x,y,e1,e2,h⟩
    · cases h
  · cases h
omit [Tabs] in
theorem ev_tt {f:Str→Str→Option D} {ρ:Rho} {x y:Str} {d:D} (ha:a ρ=some (.str x)) (hb:b ρ=some (.str y)) (h:f x y=some d):dTT f a b ρ=some d:=by unfold dTT; rw [ha,hb]; exact h
noncomputable def dCatT (a b:DE):DE:=dTT (fun x y=>if x.length+y.length≤sizeLine then some (.str (x++y)) else none) a b
theorem si_catT (ha:SemB K ta a) (hb:SemB K tb b):SemI K (tOp (fun x y H Q=>∃ i j,x=.str i∧y=.str j∧i.length+j.length≤sizeLine∧Q (.str (i++j)) H) ta tb) (dCatT a b):=fun {B Z os ρ σ H Q d} f q k=>by
  obtain ⟨x,y,e1,e2,e3⟩:=dTT_some q
  split at e3
  · rename_i c
    cases e3
    exact ha f e1 fun v H1 s1 i1=>hb (f.grow s1) e2 fun u H2 s2 i2=>⟨x,y,i1.isStr,i2.isStr,c,k _ _ (s1.trans s2) (.str _)⟩
  · cases e3
def unS:List D→Option (List Str)
  | []=>some []
  | .str x::r=>(unS r).map (x::·)
  | _=>none
omit [Tabs] in
theorem unS_map:∀ xs:List Str,unS (xs.map D.str)=some xs
  | []=>rfl
  | x::r=>by show (unS (r.map D.str)).map (x::·)=_; rw [unS_map r]; rfl
omit [Tabs] in
theorem unS_some:∀ {ds:List D} {xs:List Str},unS ds=some xs→ds=xs.map D.str
  | [],_,h=>by cases h; rfl
  | .str x::r,xs,h=>by
    have h:(unS r).map (x::·)=some xs:=h
    cases e:unS r with
    | none=>rw [e] at h; cases h
    | some ms=>rw [e] at h; cases h; rw [unS_some e]; rfl
theorem IsL.unstrs {H:Hp} {Z:Addr→Prop}:∀ {vs:List V} {xs:List Str},IsL K H Z vs (xs.map D.str)→vs=xs.map V.str
  | _,[],.nil=>rfl
  | _,x::xs,.cons (.str _) r=>by rw [IsL.unstrs (xs:=xs) r]; rfl
noncomputable def dJoin (a b:DE):DE:=fun ρ=>match a ρ with
  | some (.str x)=>(match b ρ with
    | some (.lst ds)=>(match unS ds with
      | some xs=>if tooLong (xs.toArray.foldl (·+·.length+x.length) 0)=false∧(glued x xs).length≤sizeLine then some (.str (glued x xs)) else none
      | none=>none)
    | _=>none)
  | _=>none
omit [Tabs] in
theorem ev_join {ρ:Rho} {x:Str} {xs:List Str} (ha:a ρ=some (.str x)) (hb:b ρ=some (.lst (xs.map D.str))) (h:tooLong (xs.toArray.foldl (·+·.length+x.length) 0)=false∧(glued x xs).length≤sizeLine):dJoin a b ρ=some (.str (glued x xs)):=by unfold dJoin; rw [ha,hb]; dsimp only; rw [unS_map]; exact if_pos h
theorem si_join (ha:SemB K ta a) (hb:SemB K tb b):SemI K (tBM K "str" (rJoin K) ta (tCons tb tNil)) (dJoin a b):=fun {B Z os ρ σ H Q d} f q k=>by
  unfold dJoin at q
  split at q
  · rename_i x e1
    split at q
    · rename_i ds e2
      split at q
      · rename_i xs e3
        split at q
        · rename_i c
          cases q
          have:=unS_some e3
          subst this
          refine ha f e1 fun v H1 s1 i1=>?_
          rw [i1.isStr]
          refine ⟨rfl,hb (f.grow s1) e2 fun u H2 s2 i2=>?_⟩
          obtain ⟨p,vs,rfl,hz,hr,hl,r⟩:=i2.isLst
          have:=r.unstrs
          subst this
          exact ⟨x,p,xs,rfl,rfl,.inl hr,c.1,c.2,k _ _ (s1.trans s2) (.str _)⟩
        · cases q
      · cases q
    · cases q
  · cases q
def signs (x:Str):List D:=x.cps.toList.map fun c=>.str ⟨#[c]⟩
end
end VL
namespace L2
open PySem PySem.Spec PyProof.Rows VL
open Builtin.Str (occurrences subAt strSub partsBetween glued strKind tooLong strSliceIndices)
def sliceT (x:Str) (lo hi:Option Int):Str:=⟨((strSliceIndices lo hi 1 x.length).filterMap (x.cps[·]?)).toArray⟩
def clipT (v:Option Int) (d:Int) (n:Nat):Int:=match v with
  | none=>d
  | some i=>max 0 (min (if i<0 then i+(n:Int) else i) n)
theorem clip_in {v:Option Int} {d:Int} {n:Nat} (h1:0≤d) (h2:d≤n):0≤clipT v d n∧clipT v d n≤n:=by
  unfold clipT
  cases v with
  | none=>exact ⟨h1,h2⟩
  | some i=>dsimp only; split <;> omega
theorem slice_ix (lo hi:Option Int) (n:Nat):strSliceIndices lo hi 1 n=(List.range (clipT hi n n-clipT lo 0 n).toNat).map fun (k:Nat)=>(clipT lo 0 n+(k:Int)).toNat:=by
  have e1:strSliceIndices lo hi 1 n=sliceRange (clipT lo 0 n) (clipT hi n n) 1:=by
    unfold strSliceIndices clipT
    cases lo <;> cases hi <;> rfl
  rw [e1]
  unfold sliceRange
  rw [if_pos (by decide)]
  have e2:(if clipT lo 0 n<clipT hi n n then (clipT hi n n-clipT lo 0 n+1-1) / 1 else 0).toNat=(clipT hi n n-clipT lo 0 n).toNat:=by
    split
    · rw [Int.ediv_one]; omega
    · omega
  dsimp only
  rw [e2]
  refine List.map_congr_left fun k hk=>?_
  rw [Int.one_mul]
theorem slice_all {x:Str} {lo hi:Option Int} (h:(strSliceIndices lo hi 1 x.length).length=x.length):sliceT x lo hi=x:=by
  have hlen:x.cps.toList.length=x.length:=Array.length_toList
  rw [slice_ix,List.length_map,List.length_range] at h
  have a:=clip_in (v:=lo) (d:=0) (n:=x.length) (by omega) (by omega)
  have b:=clip_in (v:=hi) (d:=x.length) (n:=x.length) (by omega) (by omega)
  have e:(strSliceIndices lo hi 1 x.length).filterMap (x.cps[·]?)=x.cps.toList:=by
    rw [slice_ix,h]
    by_cases c:x.length=0
    · have:x.cps.toList=[]:=List.eq_nil_of_length_eq_zero (by omega)
      rw [c,this]; rfl
    · have e0:clipT lo 0 x.length=0:=by omega
      rw [e0,List.filterMap_map]
      have:=fm_self x.cps.toList
      rw [hlen] at this
      rw [← this]
      congr 1
      funext k
      show x.cps[((0:Int)+(k:Int)).toNat]?=_
      rw [Int.zero_add,Int.toNat_natCast,Array.getElem?_toList]
  unfold sliceT
  rw [e]
theorem slice_len (x:Str) (lo hi:Option Int):(sliceT x lo hi).length≤x.length:=by
  show (((strSliceIndices lo hi 1 x.length).filterMap (x.cps[·]?)).toArray).size≤_
  rw [List.size_toArray]
  refine Nat.le_trans (List.length_filterMap_le _ _) ?_
  rw [slice_ix,List.length_map,List.length_range]
  have a:=clip_in (v:=lo) (d:=0) (n:=x.length) (by omega) (by omega)
  have b:=clip_in (v:=hi) (d:=x.length) (n:=x.length) (by omega) (by omega)
  omega
section
variable {X:Cx}
def rSlX:V→Option Int→Option Int→Hp→VK→Prop:=fun x lo hi H Q=>∃ a,x=.str a∧a.length≤sizeLine∧Q (.str (sliceT a lo hi)) H
theorem sl_text:SlR X rSlX:=by
  intro pins s σ H x v vl vu lo hi sl Q I rx hs pl pu h
  obtain ⟨a,rfl,hz,q⟩:=h
  obtain ⟨t,rfl⟩:=rx
  obtain ⟨l,el,hl⟩:∃ l:Option (Int×Tok),l.map (·.1)=lo∧vl=(match l with | none=>.none | some (i,t)=>.int i t):=by
    cases pl with
    | none=>exact ⟨none,rfl,rfl⟩
    | int i tk=>exact ⟨some (i,tk),rfl,rfl⟩
  obtain ⟨u,eu,hu⟩:∃ l:Option (Int×Tok),l.map (·.1)=hi∧vu=(match l with | none=>.none | some (i,t)=>.int i t):=by
    cases pu with
    | none=>exact ⟨none,rfl,rfl⟩
    | int i tk=>exact ⟨some (i,tk),rfl,rfl⟩
  have hs':s.heap.IsSlice sl l u none:=by
    subst hl hu
    cases l <;> cases u <;> exact hs
  refine ⟨"str", _,slot_str_getitem.lookup,typeIs_str s a t,wpAny_getItem_str_slice (l:=l) (u:=u) (st:=none) hs' rfl ?_⟩
  have ep:slicePicked a l u none=strSliceIndices lo hi 1 a.length:=by unfold slicePicked; rw [el,eu]; rfl
  unfold sliceMade
  rw [ep]
  by_cases c:(strSliceIndices lo hi 1 a.length).length=a.length
  · rw [if_pos (by rw [c]; simp)]
    rw [slice_all c] at q
    exact ⟨.str a,H,I,⟨t,rfl⟩,q⟩
  · rw [if_neg (by simpa using c)]
    exact ⟨Nat.le_trans (slice_len a lo hi) hz,.str _,H,I.tok _,⟨_,rfl⟩,q⟩
def tReprJ (t:TE):TE:=fun σ H Q=>t σ H fun x H1=>∃ z,x=.str z∧(reprText z).length≤1000000∧∀ y,Q (.str y) H1
end
end L2
namespace VL
open PySem L2
open Builtin.Str (occurrences subAt strSub partsBetween glued strKind tooLong)
open Classical
noncomputable section
variable [Tabs] {K:PySem.W.Frag} {ta tb:TE} {a b:DE}
noncomputable def dSlT (a:DE) (lo hi:Rho→Option (Option Int)):DE:=fun ρ=>match a ρ with
  | some (.str x)=>(match lo ρ with
    | some l=>(match hi ρ with
      | some h=>if x.length≤sizeLine then some (.str (sliceT x l h)) else none
      | _=>none)
    | _=>none)
  | _=>none
omit [Tabs] in
theorem ev_slT {lo hi:Rho→Option (Option Int)} {ρ:Rho} {x:Str} {l h:Option Int} (ha:a ρ=some (.str x)) (h1:lo ρ=some l) (h2:hi ρ=some h) (hx:x.length≤sizeLine):dSlT a lo hi ρ=some (.str (sliceT x l h)):=by unfold dSlT; rw [ha,h1,h2]; exact if_pos hx
theorem si_slT {tl th:TO} {lo hi:Rho→Option (Option Int)} (ha:SemB K ta a) (hl:SemO K tl lo) (hh:SemO K th hi):SemI K (tSl rSlX ta tl th) (dSlT a lo hi):=fun {B Z os ρ σ H Q d} f q k=>by
  unfold dSlT at q
  split at q
  · rename_i x e1
    split at q
    · rename_i l e2
      split at q
      · rename_i h e3
        split at q
        · rename_i c
          cases q
          exact ha f e1 fun v H1 s1 i1=>hl (f.grow s1) e2 fun H2 s2=>hh (f.grow (s1.trans s2)) e3 fun H3 s3=>⟨x,i1.isStr,c,k _ _ ((s1.trans s2).trans s3) (.str _)⟩
        · cases q
      · cases q
    · cases q
  · cases q
@[irreducible] noncomputable def sRaiseR (a:DE):DS:=fun ρ=>match a ρ with
  | some (.str z)=>if (reprText z).length≤1000000 then .rt .non else .no
  | _=>.no
theorem ss_raiseR {C:Addr} {E:XK} (h:SemB K ta a):SemS (.x E C) K (tRaise C E (tCons (tReprJ ta) tNil)) (sRaiseR a):=fun {B Z os ρ σ H En} f p=>by
  unfold sRaiseR at p
  split at p
  · rename_i z e
    split at p
    · rename_i c
      exact h f e fun v H1 s1 i1=>⟨z,i1.isStr,c,fun y=>⟨by have:=sizeLine_eq; show 1≤sizeLine; omega,p H1 (f.keep.trans s1)⟩⟩
    · exact p.elim
  · exact p.elim
theorem wp_raiseR {ρ:Rho} {W:Wk} {z:Str} (h:a ρ=some (.str z)) (hz:(reprText z).length≤1000000) (k:W.rt .non):Wp (sRaiseR a) ρ W:=by unfold Wp sRaiseR; rw [h]; dsimp only; rw [if_pos hz]; exact k
end
end VL
namespace L2
open PySem PySem.Spec PyProof.Rows VL
def tMakeP (C:Addr):TE:=fun _ H Q=>∀ x dx,H x=none→H dx=none→dx≠x→Q (.ref x) (upd (upd H dx (.own x)) x (.ins C dx []))
structure MkP (K:PySem.W.Frag) (C:Addr):Prop where
  makes:PySem.W.makesIn K C=true
  init:PySem.W.findIn K (.ref C) "__init__" = some (some (.builtin "object.__init__"))
  kp:PySem.W.keepIn K (.ref C)=true
section
variable {X:Cx}
theorem oinit {P:Program} {w:World} {A:Around} {R:Result→Shared→Prop} {s:Shared} {v:Value} (h:PySem.W.Looks (model P w) s.heap (isInstance v (.type "object")) true) (q:R (.ok (.ret .none)) s):codeAny (model P w) A (.call (.builtin "object.__init__") ⟨[v],[]⟩) R s:=by
  have k:=PySem.W.oi_run v
  refine codeAny_call_builtin (b:=Builtin.«object.__init__») PySem.W.oi_plain PySem.W.entry_oi ?_
  refine PySem.W.check_slot (i := "object.__init__") (owner := "object") (n := "__init__") (self:=v) (rest:=[]) (kw:=[]) PySem.W.oi_kind PySem.W.oi_split h (PySem.W.oi_args v) ?_
  rw [k]
  exact wpAny_pure q
theorem run_makeP {C:Addr} {pins:List (Addr×Obj)} {σ:St} {H:Hp} {s:Shared} {Q:VK} (M:MkP X.K C) (I:Inv X pins σ H s) (h:tMakeP C σ H Q):wpAny (model X.prog X.w) X.A (call (.ref C) []) (EP X pins σ Q) X.xe s:=by
  have I2:=Inv.made (C:=C) I
  have Y:=PySem.W.makes_of (M:=model X.prog X.w) I.kIn M.makes
  refine wpAny_call (make_map0 I.kIn M.makes M.init (fun self=>PySem.W.Looks.of_pure (PySem.W.oi_bind self)) ?_)
  have hg:((s.heap.push PySem.W.emptyDict).push (PySem.W.instObj C s.heap.objs.size)).get? (s.heap.objs.size+1)=some (PySem.W.instObj C s.heap.objs.size):=by
    have:=Heap.get?_push_size (o:=PySem.W.instObj C s.heap.objs.size) (s.heap.push PySem.W.emptyDict) rfl
    rw [Heap.size_push] at this
    exact this
  have t1:PySem.W.Looks (model X.prog X.w) ((s.heap.push PySem.W.emptyDict).push (PySem.W.instObj C s.heap.objs.size)) (typeOf (.ref (s.heap.objs.size+1))) (.ref C):=PySem.W.Looks.andThen (PySem.W.Looks.ld hg) PySem.W.Looks.now
  have t2:PySem.W.Looks (model X.prog X.w) ((s.heap.push PySem.W.emptyDict).push (PySem.W.instObj C s.heap.objs.size)) (isInstance (.ref (s.heap.objs.size+1)) (.type "object")) true :=
    PySem.W.Looks.andThen t1 (PySem.W.Looks.keeps Y.top fun b o e=>Heap.get?_push_of_some _ (Heap.get?_push_of_some _ e))
  exact oinit t2 ⟨rfl,⟨V.ref (s.heap.objs.size+1),_,I2,rfl,h _ _ (I.hok.fresh (Nat.le_succ _)) (I.hok.fresh (Nat.le_refl _)) (Nat.ne_of_lt (Nat.lt_succ_self _))⟩⟩
theorem pe_makeP {C:Addr} {x:Str} {p pos:Pos} (M:MkP X.K C) (hg:Gl X x) (hm:X.mg x=some (.ref C)) (hdb:(x==("__debug__" : Str))=false:=by decide):PE X (.Call (.Name x p) [] [] pos) (tMakeP C):=by
  intro pins s σ H Q I h
  refine wpAny_Call_Name_kw (ld_glob I hg hm ?_ hdb)
  exact PySem.W.callWith_K0 I.kIn M.kp (run_makeP M I h)
inductive MTab (X:Cx) (m:Str):List (Addr×Sp)→Prop
  | nil:MTab X m []
  | cons {C f:Addr} {fd:FuncData} {ps:List Str} {sp:Sp} {k:Nat} {tbl:List (Addr×Sp)} (c:Cls X.K C) (hm:Meth X.K C m f) (F:FnOk X.prog X.w X.K X.mg X.base CX0 k f fd ps sp) (hr:Room k X.A) (hb:Binds X.K fd ps []) (r:MTab X m tbl):MTab X m ((C,sp)::tbl)
theorem MTab.get {m:Str} {tbl:List (Addr×Sp)} (h:MTab X m tbl) {C:Addr} {sp:Sp} (e:tbl.lookup C=some sp):∃ (f:Addr) (fd:FuncData) (ps:List Str) (k:Nat),Cls X.K C∧Meth X.K C m f∧FnOk X.prog X.w X.K X.mg X.base CX0 k f fd ps sp∧Room k X.A∧Binds X.K fd ps []:=by
  induction h with
  | nil=>cases e
  | @cons C' f fd ps sp' k tbl c hm F hr hb r ih =>
    rw [List.lookup_cons] at e
    cases q:C==C' with
    | true =>
      rw [q] at e
      cases e
      have:=beq_iff_eq.mp q
      subst this
      exact ⟨f,fd,ps,k,c,hm,F,hr,hb⟩
    | false =>
      rw [q] at e
      exact ih e
def tMethD (tbl:List (Addr×Sp)) (E:XK) (ta:TE) (t:TA):TE:=fun σ H Q=>ta σ H fun x H1=>∃ a C dx sp,x=.ref a∧H1 a=some (.ins C dx [])∧tbl.lookup C=some sp∧t σ H1 fun vs H2=>sp (x::vs) H2 Q E
theorem pe_methD0 {m:Str} {o:Expr} {apos pos:Pos} {ta:TE} {tbl:List (Addr×Sp)} {pl:Sem Bool} (he:PE X o ta) (h:MTab X m tbl)
    (ht:eval (.Call (.Attribute o m apos) [] [] pos) X.env=(do
      let ov ← eval o X.env
      standAt apos.atName
      let (f,first) ← holding [ov] (getMethod ov m pl)
      callWith pos f first (backTo pos (starEach [] X.env)) (backToKw pos (keywordEach [] X.env))):=by rfl) :
    PE X (.Call (.Attribute o m apos) [] [] pos) (tMethD tbl E0 ta tNil):=by
  intro pins s σ H Q I q
  refine PySem.W.methodCall_KW (pl:=pl) (thn (he pins s σ H _ I q) fun u s1 ⟨x,H1,I1,rx,a,C,dx,sp,ex,ea,el,q⟩=>?_) ht
  subst ex
  obtain rfl:u=Value.ref a:=rx
  obtain ⟨f,fd,ps,k,c,hm,F,hr,hb⟩:=h.get el
  refine getmeth_ok I1 ea c hm rfl ?_
  have q':sp ([V.ref a]++[]) H1 Q E0:=q
  exact PySem.W.callWith_K0 (first:=[.ref a]) I1.kIn hm.kp (run_fn (us:=[.ref a]) (vs:=[.ref a]) F hr hb .nil pass0 I1 (.cons rfl .nil) q')
structure ClsI (K:PySem.W.Frag) (C:Addr):Prop where
  cl:Cls K C
  ha:PySem.W.findIn K (.ref C) "__class__" = some (some (.builtin "object.__class__"))
  hn:PySem.W.specialIn K (.builtin "object.__class__") "__get__" = some (some (.builtin "getset_descriptor.__get__"))
  htk:PySem.W.takesIn K (.builtin "object.__class__")=some true
  hm:PySem.W.mroIn K C (.type "object")=some true
def rIsC (K:PySem.W.Frag):List V→Hp→VK→Prop:=fun xs H Q=>∃ a C dx c b,xs=[.ref a,.ref c]∧H a=some (.ins C dx [])∧ClsI K C∧PySem.W.kitOne K (.ref C) (.ref c)=some b∧Q (.bl b) H
theorem call_isC {K:PySem.W.Frag} (h:X.K=K):CallR X (.builtin "isinstance") (rIsC K):=by
  subst h
  intro pins s σ H xs us Q I r h
  obtain ⟨a,C,dx,c,b,rfl,ea,k,e,q⟩:=h
  obtain ⟨u,w',rfl,rx,ry⟩:=vals2 r
  cases ry
  exact isinst_ok I rx (.ins ea k.cl k.ha k.hn k.htk k.hm) e fun tk=>⟨.bl b,H,I.tok _,rfl,q⟩
theorem pe_reprJ2 {e:Expr} {t:TE} {c:Str} {j p p' pos} (he:PE X e t) (hc:c.length≤1000:=by decide):PE X (.JoinedStr [.Constant (.str c) j p',.FormattedValue e 114 none p] pos) (tReprJ t):=fun pins s σ H Q I q=>by
  have hz:sizeLine=16777216:=sizeLine_eq
  have e0:(Str.empty).length=0:=rfl
  refine JoinedStr_many (joinParts_cons (Calls.Constant_str ⟨?_,joinParts_cons (wpAny_FormattedValue_repr (thn (he pins _ σ H _ (I.tok _) q) fun u s1 ⟨x,H1,I1,r1,z,hx,hl,q1⟩=>?_))⟩))
  · rw [PySem.strLen_append]; omega
  subst hx
  obtain ⟨tk,rfl⟩:=r1
  refine pyReprObj_str (formatField_str (fun t' tk'=>⟨?_,joinParts_nil ⟨.str _,H1,I1.tok _,⟨_,rfl⟩,q1 _⟩ ?_⟩) (by omega)) (by omega)
  · rw [PySem.strLen_append,PySem.strLen_append]; omega
  · rw [PySem.strLen_append,PySem.strLen_append]; omega
end
end L2
namespace VL
open PySem L2
open Classical
noncomputable section
variable [Tabs] {K:PySem.W.Frag} {ta tb:TE} {a b:DE}
noncomputable def dMakeC (C:Addr):DE:=fun _=>some (.ins C)
theorem si_make {C:Addr}:SemI K (tMakeP C) (dMakeC C):=fun {B Z os ρ σ H Q d} f q k=>by
  cases q
  intro x dx hx hd ne
  have s1:Same H (upd H dx (.own x)):=same_new hd
  have hx2:upd H dx (.own x) x=none:=by rw [upd_ne (Ne.symm ne)]; exact hx
  exact k _ _ (s1.trans (same_new hx2)) (.ins (f.out hx) upd_same)
noncomputable def dMeth (tbl:List (Addr×(List D→Option D))) (a:DE) (es:Rho→Option (List D)):DE:=fun ρ=>match a ρ with
  | some (.ins C)=>(match tbl.lookup C with
    | some F=>(match es ρ with
      | some ds=>F (.ins C::ds)
      | none=>none)
    | none=>none)
  | _=>none
omit [Tabs] in
theorem ev_meth {tbl:List (Addr×(List D→Option D))} {es:Rho→Option (List D)} {ρ:Rho} {C:Addr} {F:List D→Option D} {ds:List D} {d:D} (ha:a ρ=some (.ins C)) (h1:tbl.lookup C=some F) (h2:es ρ=some ds) (h3:F (.ins C::ds)=some d):dMeth tbl a es ρ=some d:=by
  unfold dMeth; rw [ha]; dsimp only; rw [h1]; dsimp only; rw [h2]; exact h3
def spT (K:PySem.W.Frag) (ms:List Bool) (tbl:List (Addr×(List D→Option D))):List (Addr×Sp):=tbl.map fun p=>(p.1,spD .v K (false::ms) p.2)
theorem spT_lookup {ms:List Bool} {C:Addr} {F:List D→Option D}:∀ {tbl:List (Addr×(List D→Option D))},tbl.lookup C=some F→(spT K ms tbl).lookup C=some (spD .v K (false::ms) F)
  | [],h=>by cases h
  | (C',F')::r,h=>by
    rw [List.lookup_cons] at h
    show List.lookup C ((C',spD .v K (false::ms) F')::spT K ms r)=_
    rw [List.lookup_cons]
    cases q:C==C' with
    | true=>rw [q] at h; cases h; rfl
    | false=>rw [q] at h; exact spT_lookup h
theorem si_meth {ms:List Bool} {tbl:List (Addr×(List D→Option D))} {t:TA} {es:Rho→Option (List D)} {E:XK} (ha:SemB K ta a) (hes:SemA K ms t es):SemI K (tMethD (spT K ms tbl) E ta t) (dMeth tbl a es):=fun {B Z os ρ σ H Q d} f q k=>by
  unfold dMeth at q
  split at q
  · rename_i C e1
    split at q
    · rename_i F e2
      split at q
      · rename_i ds e3
        refine ha f e1 fun v H1 s1 i1=>?_
        cases i1 with
        | @ins x _ dx hz hH =>
          refine ⟨x,C,dx,_,rfl,hH,spT_lookup e2,hes (f.grow s1) e3 fun vs H2 s2 ar=>?_⟩
          exact ⟨tot Z os,_,d,(f.grow (s1.trans s2)).zt,.any (.ins (fun h=>h.elim) (s2 _ _ hH)) ar,q,fun w H3 s3 i=>k w H3 ((s1.trans s2).trans s3) (i.is (f.grow (s1.trans s2)).tin)⟩
      · cases q
    · cases q
  · cases q
noncomputable def dIsC (tbl:List (Addr×Bool)) (a:DE):DE:=fun ρ=>match a ρ with
  | some (.ins C)=>(tbl.lookup C).map D.bl
  | _=>none
omit [Tabs] in
theorem ev_isC {tbl:List (Addr×Bool)} {ρ:Rho} {C:Addr} {x:Bool} (ha:a ρ=some (.ins C)) (h:tbl.lookup C=some x):dIsC tbl a ρ=some (.bl x):=by unfold dIsC; rw [ha]; dsimp only; rw [h]; rfl
inductive KTab (K:PySem.W.Frag) (c:Addr):List (Addr×Bool)→Prop
  | nil:KTab K c []
  | cons {C:Addr} {b:Bool} {r:List (Addr×Bool)} (k:ClsI K C) (e:PySem.W.kitOne K (.ref C) (.ref c)=some b) (h:KTab K c r):KTab K c ((C,b)::r)
theorem KTab.get {c:Addr} {tbl:List (Addr×Bool)} (h:KTab K c tbl) {C:Addr} {b:Bool} (e:tbl.lookup C=some b):ClsI K C∧PySem.W.kitOne K (.ref C) (.ref c)=some b:=by
  induction h with
  | nil=>cases e
  | @cons C' b' r k e' h ih =>
    rw [List.lookup_cons] at e
    cases q:C==C' with
    | true =>
      rw [q] at e
      cases e
      have:=beq_iff_eq.mp q
      subst this
      exact ⟨k,e'⟩
    | false=>rw [q] at e; exact ih e
theorem si_isC {c:Addr} {tbl:List (Addr×Bool)} (ha:SemB K ta a) (h:KTab K c tbl):SemI K (tCB (rIsC K) (tCons ta (tCons (tC (.ref c)) tNil))) (dIsC tbl a):=fun {B Z os ρ σ H Q d} f q k=>by
  unfold dIsC at q
  split at q
  · rename_i C e1
    cases e2:tbl.lookup C with
    | none=>rw [e2] at q; cases q
    | some b =>
      rw [e2] at q
      cases q
      obtain ⟨k1,k2⟩:=h.get e2
      refine ha f e1 fun v H1 s1 i1=>?_
      cases i1 with
      | @ins x _ dx hz hH=>exact ⟨x,C,dx,c,b,rfl,hH,k1,k2,k _ _ s1 (.bl _)⟩
  · cases q
@[irreducible] noncomputable def sPop (i:Nat) (b:DE):DS:=fun ρ=>match ρ.getD i .un with
  | .ol ds=>(match b ρ with
    | some (.int n)=>if 0≤n∧n<ds.length then .nx (ρ.set i (.ol (ds.eraseIdx n.toNat))) else .no
    | _=>.no)
  | _=>.no
theorem ss_pop {fr:Fm} {i:Nat} (hb:SemB K tb b):SemS fr K (tDrop (tBM K "list" rPopAt (tVar i) (tCons tb tNil))) (sPop i b):=fun {B Z os ρ σ H E} f p=>by
  unfold sPop at p
  split at p
  · rename_i ds e
    split at p
    · rename_i n e2
      by_cases hz:0≤n∧n<ds.length
      · rw [if_pos hz] at p
        obtain ⟨x,vs,hu,hH,hl,r⟩:=ol_of f e
        refine ⟨_,join_some hu,.inl ⟨rfl,_,SqL.of hH⟩,hb f e2 fun v H1 s1 i1=>?_⟩
        have f1:=f.grow s1
        have r1:=r.same s1
        have hlen:=r.length
        have hline:=line63
        obtain ⟨os',f',k⟩:=f1.mutO (vs':=vs.eraseIdx n.toNat) (ds':=ds.eraseIdx n.toNat) e hu (by rw [List.length_eraseIdx]; split <;> omega) (by
          rw [List.eraseIdx_eq_take_drop_succ,List.eraseIdx_eq_take_drop_succ]
          exact (r1.take _).append (r1.drop _))
        exact ⟨x,vs,n,n.toNat,vs[n.toNat]'(by omega),rfl,by rw [i1.isInt],s1 _ _ hH,by omega,by omega,seqIndex_of hz.1 (by omega),List.getElem?_eq_getElem (by omega),p os' _ _ f' ((Kp.same s1).trans k)⟩
      · rw [if_neg hz] at p; exact p.elim
    · exact p.elim
  · exact p.elim
theorem wp_pop {i:Nat} {ρ:Rho} {W:Wk} {ds:List D} {n:Int} (h0:ρ.getD i .un=.ol ds) (h:b ρ=some (.int n)) (hn:0≤n∧n<ds.length) (k:W.nx (ρ.set i (.ol (ds.eraseIdx n.toNat)))):Wp (sPop i b) ρ W:=by unfold Wp sPop; rw [h0]; simp only [h,if_pos hn]; exact k
end
end VL
namespace VL
open PySem L2
open Classical
noncomputable section
variable [Tabs] {K:PySem.W.Frag} {fr:Fm}
end
end VL
namespace L2
open PySem PySem.Spec PyProof.Rows VL
section
variable {X:Cx}
def rUpper:V→List V→Hp→VK→Prop:=fun x vs H Q=>∃ a,x=.str a∧vs=[]∧a.length≤1000∧Q (.str (Txt.upper a)) H
theorem mt_upper:MtM X "str.upper" rUpper:=by
  intro pins s σ H x xs v us Q I rx rv h
  obtain ⟨a,rfl,rfl,hl,q⟩:=h
  obtain ⟨t,rfl⟩:=rx
  cases rv
  exact SCL.upper (by omega) fun _=>⟨.str _,H,I.tok _,⟨_,rfl⟩,q⟩
theorem find_eqU {x:V}:∀ {xs:List V} {us:List Value} (r:Vals xs us) (f:xs.all flatV=true) (j:Nat) (h1:j<us.length) (h2:j<xs.length),eqU x us[j]=eqV xs[j] x
  | y::xs,u::us,.cons r t,f,0,_,_=>by
    rw [List.all_cons,Bool.and_eq_true] at f
    exact eqU_of r f.1
  | y::xs,u::us,.cons r t,f,j+1,h1,h2=>by
    rw [List.all_cons,Bool.and_eq_true] at f
    exact find_eqU t f.2 j (Nat.lt_of_succ_lt_succ h1) (Nat.lt_of_succ_lt_succ h2)
def rIndexT (K:PySem.W.Frag):V→List V→Hp→VK→Prop:=fun x vs H Q=>∃ (l:Addr) (ns:List Str) (k:Str),x=.ref l∧vs=[.str k]∧SqL K H l (ns.map V.str)∧k∈ns∧Q (.int (ns.idxOf k:Nat)) H
theorem flat_strs (ns:List Str):(ns.map V.str).all flatV=true:=by
  rw [List.all_map,List.all_eq_true]
  intro x _
  rfl
theorem mt_indexT {K:PySem.W.Frag} (hK:X.K=K):MtM X "list.index" (rIndexT K):=by
  subst hK
  intro pins s σ H x vs v us Q I rx rv h
  obtain ⟨l,ns,k,rfl,rfl,hq,hk,q⟩:=h
  cases rx
  obtain ⟨u,rfl,ru⟩:=vals1 rv
  obtain ⟨its,r',pl,hz⟩:=I.list hq
  obtain ⟨⟨cls,dd,data,sl⟩,ho,hc,n,hd⟩:=pl.isList
  simp only at hc hd
  subst hc hd
  have hlen:=r'.length
  rw [List.length_map] at hlen
  have hj:ns.idxOf k<ns.length:=List.idxOf_lt_length_iff.mpr hk
  have hl63:=line63
  rw [List.length_map] at hz
  have at_:∀ (j:Nat) (h1:j<its.length) (h2:j<ns.length),eqU (.str k) its[j]=(ns[j]==k):=fun j h1 h2=>by
    rw [find_eqU r' (flat_strs ns) j h1 (by rw [List.length_map]; exact h2),List.getElem_map]
    rfl
  refine call_meets PySem.F.slot_list_index ⟨_,ho,rfl⟩ PySem.F.entry_list_index (PySem.F.args_list_index_2 _ _)
    (SeqAt.list_indexAt l its.toArray n dd sl u (eqU (.str k)) (ns.idxOf k) (by simpa [hlen] using hj) (by omega) ?_ ?_) ⟨ho,fun y hy=>mem_eqAt ru rfl r' (flat_strs ns) y (by simpa using hy),⟨.int _,H,I.tok _,⟨_,rfl⟩,q⟩⟩
  · show eqU (.str k) its[ns.idxOf k]=true
    rw [at_ _ (by omega) hj]
    simpa using List.getElem_idxOf hj
  · intro j hjs hlt
    show eqU (.str k) its[j]=false
    rw [at_ j (by simpa using hjs) (by omega)]
    exact beq_eq_false_iff_ne.mpr fun e=>by
      have:=List.not_of_lt_findIdx (p:=(·==k)) hlt
      simp [e] at this
end
end L2
namespace VL
open PySem L2
open Classical
noncomputable section
variable [Tabs] {K:PySem.W.Frag} {ta tb:TE} {a b:DE}
noncomputable def dUp (a:DE):DE:=fun ρ=>match a ρ with
  | some (.str x)=>if x.length≤1000 then some (.str (Txt.upper x)) else none
  | _=>none
omit [Tabs] in
theorem ev_up {ρ:Rho} {x:Str} (ha:a ρ=some (.str x)) (h:x.length≤1000):dUp a ρ=some (.str (Txt.upper x)):=by unfold dUp; rw [ha]; exact if_pos h
theorem bm0K {X:Cx} {K:PySem.W.Frag} {e:PySem.Expr} {T:String} {r:V→List V→Hp→VK→Prop} {to:TE} (h:X.K=K) (p:PE X e (tBM0 X.K T r to)):PE X e (tBM0 K T r to):=h ▸ p
theorem si_up (ha:SemB K ta a):SemI K (tBM0 K "str" rUpper ta) (dUp a):=fun {B Z os ρ σ H Q d} f q k=>by
  unfold dUp at q
  split at q
  · rename_i x e1
    split at q
    · rename_i c
      cases q
      refine ha f e1 fun v H1 s1 i1=>?_
      rw [i1.isStr]
      exact ⟨rfl,x,rfl,rfl,c,k _ _ s1 (.str _)⟩
    · cases q
  · cases q
noncomputable def dInX (neg:Bool) (a b:DE):DE:=fun ρ=>match a ρ with
  | some (.str x)=>(match b ρ with
    | some (.lst ds)=>(unS ds).map fun xs=>.bl (if neg then !decide (x∈xs) else decide (x∈xs))
    | _=>none)
  | _=>none
omit [Tabs] in
theorem ev_inX {neg:Bool} {ρ:Rho} {x:Str} {xs:List Str} (ha:a ρ=some (.str x)) (hb:b ρ=some (.lst (xs.map D.str))):dInX neg a b ρ=some (.bl (if neg then !decide (x∈xs) else decide (x∈xs))):=by unfold dInX; rw [ha,hb]; dsimp only; rw [unS_map]; rfl
omit [Tabs] in
theorem inV_strs (k:Str) (hs:List Str):inV (.str k) (hs.map V.str)=decide (k∈hs):=by
  unfold inV
  rw [List.any_map,Bool.eq_iff_iff,List.any_eq_true,decide_eq_true_iff]
  constructor
  · rintro ⟨x,hx,e⟩
    have e':(x==k)=true:=e
    rw [← beq_iff_eq.mp e']
    exact hx
  · intro h
    exact ⟨k,h,show (k==k)=true from beq_self_eq_true k⟩
theorem si_inX {neg:Bool} (ha:SemB K ta a) (hb:SemB K tb b):SemI K (tOp (rIn K neg) ta tb) (dInX neg a b):=fun {B Z os ρ σ H Q d} f q k=>by
  unfold dInX at q
  split at q
  · rename_i x e1
    split at q
    · rename_i ds e2
      cases e3:unS ds with
      | none=>rw [e3] at q; cases q
      | some xs =>
        rw [e3] at q
        cases q
        have:=unS_some e3
        subst this
        refine ha f e1 fun v H1 s1 i1=>hb (f.grow s1) e2 fun u H2 s2 i2=>?_
        obtain ⟨p,vs,rfl,hz,hr,hn,r⟩:=i2.isLst
        have:=r.unstrs
        subst this
        rw [i1.isStr]
        exact ⟨p,_,rfl,.inl (.inl hr),rfl,flat_strs xs,by rw [inV_strs]; exact k _ _ (s1.trans s2) (.bl _)⟩
    · cases q
  · cases q
noncomputable def dIndexT (a b:DE):DE:=fun ρ=>match a ρ with
  | some (.lst ds)=>(match b ρ with
    | some (.str x)=>(match unS ds with
      | some xs=>if x∈xs then some (.int (xs.idxOf x:Nat)) else none
      | none=>none)
    | _=>none)
  | _=>none
omit [Tabs] in
theorem ev_indexT {ρ:Rho} {x:Str} {xs:List Str} (ha:a ρ=some (.lst (xs.map D.str))) (hb:b ρ=some (.str x)) (h:x∈xs):dIndexT a b ρ=some (.int (xs.idxOf x:Nat)):=by unfold dIndexT; rw [ha,hb]; dsimp only; rw [unS_map]; exact if_pos h
theorem si_indexT (ha:SemB K ta a) (hb:SemB K tb b):SemI K (tBM K "list" (rIndexT K) ta (tCons tb tNil)) (dIndexT a b):=fun {B Z os ρ σ H Q d} f q k=>by
  unfold dIndexT at q
  split at q
  · rename_i ds e1
    split at q
    · rename_i x e2
      split at q
      · rename_i xs e3
        split at q
        · rename_i c
          cases q
          have:=unS_some e3
          subst this
          refine ha f e1 fun v H1 s1 i1=>?_
          obtain ⟨p,vs,rfl,hz,hr,hn,r⟩:=i1.isLst
          have:=r.unstrs
          subst this
          refine ⟨.inl ⟨rfl,_,.inl hr⟩,hb (f.grow s1) e2 fun u H2 s2 i2=>⟨p,xs,x,rfl,by rw [i2.isStr],.inl (Rd.same hr s2),c,k _ _ (s1.trans s2) (.int _)⟩⟩
        · cases q
      · cases q
    · cases q
  · cases q
end
end VL
namespace L2
open PySem PySem.Spec PyProof.Rows VL
section
variable {X:Cx} {k:Nat} {f:Addr} {fd:FuncData} {ps:List Str} {sp:Sp} {x y:Str} {e:Expr} {es:List Expr} {t:TA} {F:Value} {p1 p2 p3 p4 p6 p7 p8 pos:Pos} {b:Bool} {j6:Nat}
end
end L2
namespace VL
open PySem L2
open Classical
noncomputable section
variable [Tabs] {K:PySem.W.Frag}
end
end VL
namespace VL
open PySem L2
open Classical
noncomputable section
variable [Tabs] {K:PySem.W.Frag} {ta tb:TE} {a b:DE}
end
end VL
set_option maxHeartbeats 4000000
namespace My
open PySem L2 VL
def top (i:Nat):Stmt:=PySem.Challenge.pw_leastfloor_k71_the_six_kinds.main.body.getD i (.Pass ⟨0,0,0,0⟩)
abbrev ca_Floor:Addr:=593
abbrev ca_Alike:Addr:=656
abbrev ca_Open:Addr:=715
abbrev ca_Tails:Addr:=774
abbrev ca_Windows:Addr:=831
abbrev ca_Turns:Addr:=885
abbrev ca_Tree:Addr:=951
abbrev ca_Pairs:Addr:=1015
def clsAt (s:Stmt) (j:Nat):Stmt:=match s with
  | .ClassDef _ _ _ b _ _ _ _ _ _ _=>b.getD j (.Pass ⟨0,0,0,0⟩)
  | _=>.Pass ⟨0,0,0,0⟩
noncomputable abbrev s_Alike_word:Stmt:=clsAt (top 104) 0
noncomputable abbrev s_Open_word:Stmt:=clsAt (top 105) 0
noncomputable abbrev s_Tails_word:Stmt:=clsAt (top 106) 0
noncomputable abbrev s_Windows_word:Stmt:=clsAt (top 107) 0
noncomputable abbrev s_Tree_word:Stmt:=clsAt (top 109) 0
noncomputable abbrev s_Pairs_word:Stmt:=clsAt (top 110) 0
noncomputable abbrev s_kinds:Stmt:=top 111
noncomputable abbrev s_kind_of:Stmt:=top 112
noncomputable abbrev s_l_mix:Stmt:=top 114
noncomputable abbrev s_l_words:Stmt:=top 115
noncomputable abbrev s_l_word:Stmt:=top 116
noncomputable abbrev s_l_is_kind:Stmt:=top 117
noncomputable abbrev s_l_refused:Stmt:=top 118
noncomputable abbrev s_law:Stmt:=top 119
theorem sc_Alike_word:FnScope ["self"] ["self"] (defScope s_Alike_word):=⟨rfl,rfl,rfl,by decide +kernel,rfl,by decide +kernel,by decide +kernel⟩
theorem sc_Open_word:FnScope ["self"] ["self"] (defScope s_Open_word):=⟨rfl,rfl,rfl,by decide +kernel,rfl,by decide +kernel,by decide +kernel⟩
theorem sc_Tails_word:FnScope ["self"] ["self"] (defScope s_Tails_word):=⟨rfl,rfl,rfl,by decide +kernel,rfl,by decide +kernel,by decide +kernel⟩
theorem sc_Windows_word:FnScope ["self"] ["self"] (defScope s_Windows_word):=⟨rfl,rfl,rfl,by decide +kernel,rfl,by decide +kernel,by decide +kernel⟩
theorem sc_Tree_word:FnScope ["self"] ["self"] (defScope s_Tree_word):=⟨rfl,rfl,rfl,by decide +kernel,rfl,by decide +kernel,by decide +kernel⟩
theorem sc_Pairs_word:FnScope ["self"] ["self"] (defScope s_Pairs_word):=⟨rfl,rfl,rfl,by decide +kernel,rfl,by decide +kernel,by decide +kernel⟩
theorem sc_kinds:FnScope [] [] (defScope s_kinds):=⟨rfl,rfl,rfl,by decide +kernel,rfl,by decide +kernel,by decide +kernel⟩
theorem sc_kind_of:FnScope ["word", "kind"] ["word"] (defScope s_kind_of):=⟨rfl,rfl,rfl,by decide +kernel,rfl,by decide +kernel,by decide +kernel⟩
theorem sc_l_mix:FnScope ["_law_number", "_law_k"] ["_law_number", "_law_k"] (defScope s_l_mix):=⟨rfl,rfl,rfl,by decide +kernel,rfl,by decide +kernel,by decide +kernel⟩
theorem sc_l_words:FnScope [] [] (defScope s_l_words):=⟨rfl,rfl,rfl,by decide +kernel,rfl,by decide +kernel,by decide +kernel⟩
theorem sc_l_word:FnScope ["_law_cell", "_law_words_here", "_law_word_here", "_law_choice", "_law_at", "_law_letters"] ["_law_cell"] (defScope s_l_word):=⟨rfl,rfl,rfl,by decide +kernel,rfl,by decide +kernel,by decide +kernel⟩
theorem sc_l_is_kind:FnScope ["_law_kind", "_law_at", "_law_word_here", "_law_found"] ["_law_kind", "_law_at"] (defScope s_l_is_kind):=⟨rfl,rfl,rfl,by decide +kernel,rfl,by decide +kernel,by decide +kernel⟩
theorem sc_l_refused:FnScope ["_law_word_here", "_law_caught", "e"] ["_law_word_here"] (defScope s_l_refused):=⟨rfl,rfl,rfl,by decide +kernel,rfl,by decide +kernel,by decide +kernel⟩
theorem sc_law:FnScope ["_law_script", "_law_made", "_law_k", "_law_found", "_law_at", "_law_cell", "_law_word_here"] ["_law_script"] (defScope s_law):=⟨rfl,rfl,rfl,by decide +kernel,rfl,by decide +kernel,by decide +kernel⟩
set_option genInjectivity false in
set_option genSizeOf false in
structure Adr where
  f_Alike_word:Addr
  d_Alike_word:FuncData
  f_Open_word:Addr
  d_Open_word:FuncData
  f_Tails_word:Addr
  d_Tails_word:FuncData
  f_Windows_word:Addr
  d_Windows_word:FuncData
  f_Tree_word:Addr
  d_Tree_word:FuncData
  f_Pairs_word:Addr
  d_Pairs_word:FuncData
  f_kinds:Addr
  d_kinds:FuncData
  f_kind_of:Addr
  d_kind_of:FuncData
  f_l_mix:Addr
  d_l_mix:FuncData
  f_l_words:Addr
  d_l_words:FuncData
  f_l_word:Addr
  d_l_word:FuncData
  f_l_is_kind:Addr
  d_l_is_kind:FuncData
  f_l_refused:Addr
  d_l_refused:FuncData
  f_law:Addr
  d_law:FuncData
  c_NoKind:Addr
  c_FloorError:Addr
  c_NoRoom:Addr
  c_NoOrder:Addr
  c_NoText:Addr
  c_NoFloor:Addr
  c_NoRow:Addr
  c_NoName:Addr
structure Txt [Tabs] (K:PySem.W.Frag) (mg:Str→Option Value) (a:Adr):Prop where
  F_Alike_word:Fun K "word" "Alike.word" s_Alike_word a.f_Alike_word a.d_Alike_word
  b_Alike_word:Binds K a.d_Alike_word ["self"] []
  t_Alike_word:Meth K 656 "word" a.f_Alike_word
  F_Open_word:Fun K "word" "Open.word" s_Open_word a.f_Open_word a.d_Open_word
  b_Open_word:Binds K a.d_Open_word ["self"] []
  t_Open_word:Meth K 715 "word" a.f_Open_word
  F_Tails_word:Fun K "word" "Tails.word" s_Tails_word a.f_Tails_word a.d_Tails_word
  b_Tails_word:Binds K a.d_Tails_word ["self"] []
  t_Tails_word:Meth K 774 "word" a.f_Tails_word
  F_Windows_word:Fun K "word" "Windows.word" s_Windows_word a.f_Windows_word a.d_Windows_word
  b_Windows_word:Binds K a.d_Windows_word ["self"] []
  t_Windows_word:Meth K 831 "word" a.f_Windows_word
  F_Tree_word:Fun K "word" "Tree.word" s_Tree_word a.f_Tree_word a.d_Tree_word
  b_Tree_word:Binds K a.d_Tree_word ["self"] []
  t_Tree_word:Meth K 951 "word" a.f_Tree_word
  F_Pairs_word:Fun K "word" "Pairs.word" s_Pairs_word a.f_Pairs_word a.d_Pairs_word
  b_Pairs_word:Binds K a.d_Pairs_word ["self"] []
  t_Pairs_word:Meth K 1015 "word" a.f_Pairs_word
  F_kinds:Fun K "kinds" "kinds" s_kinds a.f_kinds a.d_kinds
  b_kinds:Binds K a.d_kinds [] []
  m_kinds:mg "kinds" = some (.ref a.f_kinds)
  F_kind_of:Fun K "kind_of" "kind_of" s_kind_of a.f_kind_of a.d_kind_of
  b_kind_of:Binds K a.d_kind_of ["word"] []
  m_kind_of:mg "kind_of" = some (.ref a.f_kind_of)
  F_l_mix:Fun K "_law_mix" "_law_mix" s_l_mix a.f_l_mix a.d_l_mix
  b_l_mix:Binds K a.d_l_mix ["_law_number", "_law_k"] []
  m_l_mix:mg "_law_mix" = some (.ref a.f_l_mix)
  F_l_words:Fun K "_law_words" "_law_words" s_l_words a.f_l_words a.d_l_words
  b_l_words:Binds K a.d_l_words [] []
  m_l_words:mg "_law_words" = some (.ref a.f_l_words)
  F_l_word:Fun K "_law_word" "_law_word" s_l_word a.f_l_word a.d_l_word
  b_l_word:Binds K a.d_l_word ["_law_cell"] []
  m_l_word:mg "_law_word" = some (.ref a.f_l_word)
  F_l_is_kind:Fun K "_law_is_kind" "_law_is_kind" s_l_is_kind a.f_l_is_kind a.d_l_is_kind
  b_l_is_kind:Binds K a.d_l_is_kind ["_law_kind", "_law_at"] []
  m_l_is_kind:mg "_law_is_kind" = some (.ref a.f_l_is_kind)
  F_l_refused:Fun K "_law_refused" "_law_refused" s_l_refused a.f_l_refused a.d_l_refused
  b_l_refused:Binds K a.d_l_refused ["_law_word_here"] []
  m_l_refused:mg "_law_refused" = some (.ref a.f_l_refused)
  F_law:Fun K "law" "law" s_law a.f_law a.d_law
  b_law:Binds K a.d_law ["_law_script"] []
  m_law:mg "law" = some (.ref a.f_law)
  z_ValueError:mg "ValueError" = none
  z_isinstance:mg "isinstance" = none
  z_len:mg "len" = none
  z_list:mg "list" = none
  z_range:mg "range" = none
  z_str:mg "str" = none
  m_Alike:mg "Alike" = some (.ref 656)
  m_Open:mg "Open" = some (.ref 715)
  m_Tails:mg "Tails" = some (.ref 774)
  m_Windows:mg "Windows" = some (.ref 831)
  m_Tree:mg "Tree" = some (.ref 951)
  m_Pairs:mg "Pairs" = some (.ref 1015)
  m_NoKind:mg "NoKind" = some (.ref a.c_NoKind)
  m_Floor:mg "Floor" = some (.ref 593)
  m_Turns:mg "Turns" = some (.ref 885)
  m_FloorError:mg "FloorError" = some (.ref a.c_FloorError)
  m_NoRoom:mg "NoRoom" = some (.ref a.c_NoRoom)
  m_NoOrder:mg "NoOrder" = some (.ref a.c_NoOrder)
  m_NoText:mg "NoText" = some (.ref a.c_NoText)
  m_NoFloor:mg "NoFloor" = some (.ref a.c_NoFloor)
  m_NoRow:mg "NoRow" = some (.ref a.c_NoRow)
  m_NoName:mg "NoName" = some (.ref a.c_NoName)
  mk_Alike:MkP K 656
  mk_Open:MkP K 715
  mk_Tails:MkP K 774
  mk_Windows:MkP K 831
  mk_Tree:MkP K 951
  mk_Pairs:MkP K 1015
  ki_Pairs:ClsI K 1015
  ki_Tree:ClsI K 951
  ki_Windows:ClsI K 831
  ki_Tails:ClsI K 774
  ki_Open:ClsI K 715
  ki_Alike:ClsI K 656
  q_NoKind:PySem.W.excIn K a.c_NoKind [.type "ValueError", .type "Exception", .type "BaseException", .type "object"] "ValueError.__new__" = true
  i_Pairs_Floor:PySem.W.kitOne K (.ref 1015) (.ref 593)=some true
  i_Tree_Floor:PySem.W.kitOne K (.ref 951) (.ref 593)=some true
  i_Windows_Floor:PySem.W.kitOne K (.ref 831) (.ref 593)=some true
  i_Tails_Floor:PySem.W.kitOne K (.ref 774) (.ref 593)=some true
  i_Open_Floor:PySem.W.kitOne K (.ref 715) (.ref 593)=some true
  i_Alike_Floor:PySem.W.kitOne K (.ref 656) (.ref 593)=some true
  i_Pairs_Turns:PySem.W.kitOne K (.ref 1015) (.ref 885)=some true
  i_Tree_Turns:PySem.W.kitOne K (.ref 951) (.ref 885)=some true
  i_Windows_Turns:PySem.W.kitOne K (.ref 831) (.ref 885)=some false
  i_Tails_Turns:PySem.W.kitOne K (.ref 774) (.ref 885)=some false
  i_Open_Turns:PySem.W.kitOne K (.ref 715) (.ref 885)=some false
  i_Alike_Turns:PySem.W.kitOne K (.ref 656) (.ref 885)=some false
  i_Pairs_Alike:PySem.W.kitOne K (.ref 1015) (.ref 656)=some false
  i_Tree_Alike:PySem.W.kitOne K (.ref 951) (.ref 656)=some false
  i_Windows_Alike:PySem.W.kitOne K (.ref 831) (.ref 656)=some false
  i_Tails_Alike:PySem.W.kitOne K (.ref 774) (.ref 656)=some false
  i_Open_Alike:PySem.W.kitOne K (.ref 715) (.ref 656)=some false
  i_Alike_Alike:PySem.W.kitOne K (.ref 656) (.ref 656)=some true
  i_Pairs_Open:PySem.W.kitOne K (.ref 1015) (.ref 715)=some false
  i_Tree_Open:PySem.W.kitOne K (.ref 951) (.ref 715)=some false
  i_Windows_Open:PySem.W.kitOne K (.ref 831) (.ref 715)=some false
  i_Tails_Open:PySem.W.kitOne K (.ref 774) (.ref 715)=some false
  i_Open_Open:PySem.W.kitOne K (.ref 715) (.ref 715)=some true
  i_Alike_Open:PySem.W.kitOne K (.ref 656) (.ref 715)=some false
  i_Pairs_Tails:PySem.W.kitOne K (.ref 1015) (.ref 774)=some false
  i_Tree_Tails:PySem.W.kitOne K (.ref 951) (.ref 774)=some false
  i_Windows_Tails:PySem.W.kitOne K (.ref 831) (.ref 774)=some false
  i_Tails_Tails:PySem.W.kitOne K (.ref 774) (.ref 774)=some true
  i_Open_Tails:PySem.W.kitOne K (.ref 715) (.ref 774)=some false
  i_Alike_Tails:PySem.W.kitOne K (.ref 656) (.ref 774)=some false
  i_Pairs_Windows:PySem.W.kitOne K (.ref 1015) (.ref 831)=some false
  i_Tree_Windows:PySem.W.kitOne K (.ref 951) (.ref 831)=some false
  i_Windows_Windows:PySem.W.kitOne K (.ref 831) (.ref 831)=some true
  i_Tails_Windows:PySem.W.kitOne K (.ref 774) (.ref 831)=some false
  i_Open_Windows:PySem.W.kitOne K (.ref 715) (.ref 831)=some false
  i_Alike_Windows:PySem.W.kitOne K (.ref 656) (.ref 831)=some false
  i_Pairs_Tree:PySem.W.kitOne K (.ref 1015) (.ref 951)=some false
  i_Tree_Tree:PySem.W.kitOne K (.ref 951) (.ref 951)=some true
  i_Windows_Tree:PySem.W.kitOne K (.ref 831) (.ref 951)=some false
  i_Tails_Tree:PySem.W.kitOne K (.ref 774) (.ref 951)=some false
  i_Open_Tree:PySem.W.kitOne K (.ref 715) (.ref 951)=some false
  i_Alike_Tree:PySem.W.kitOne K (.ref 656) (.ref 951)=some false
  i_Pairs_Pairs:PySem.W.kitOne K (.ref 1015) (.ref 1015)=some true
  i_Tree_Pairs:PySem.W.kitOne K (.ref 951) (.ref 1015)=some false
  i_Windows_Pairs:PySem.W.kitOne K (.ref 831) (.ref 1015)=some false
  i_Tails_Pairs:PySem.W.kitOne K (.ref 774) (.ref 1015)=some false
  i_Open_Pairs:PySem.W.kitOne K (.ref 715) (.ref 1015)=some false
  i_Alike_Pairs:PySem.W.kitOne K (.ref 656) (.ref 1015)=some false
  kx_NoKind:ExcK K a.c_NoKind
  x_NoKind_FloorError:PySem.W.exmOne K (.ref a.c_NoKind) (.ref a.c_FloorError)=some true
  i_NoKind_NoRoom:PySem.W.kitOne K (.ref a.c_NoKind) (.ref a.c_NoRoom)=some false
  i_NoKind_NoOrder:PySem.W.kitOne K (.ref a.c_NoKind) (.ref a.c_NoOrder)=some false
  i_NoKind_NoText:PySem.W.kitOne K (.ref a.c_NoKind) (.ref a.c_NoText)=some false
  i_NoKind_NoFloor:PySem.W.kitOne K (.ref a.c_NoKind) (.ref a.c_NoFloor)=some false
  i_NoKind_NoRow:PySem.W.kitOne K (.ref a.c_NoKind) (.ref a.c_NoRow)=some false
  i_NoKind_NoName:PySem.W.kitOne K (.ref a.c_NoKind) (.ref a.c_NoName)=some false
  i_NoKind_NoKind:PySem.W.kitOne K (.ref a.c_NoKind) (.ref a.c_NoKind)=some true
  i_NoKind_ValueError:PySem.W.kitOne K (.ref a.c_NoKind) (.type "ValueError")=some true
noncomputable section
theorem st_Alike_word (x0:D):stD 1 [false] [x0]=[.bo x0]:=rfl
noncomputable def B_Alike_word:DS:=(sRet (dC (.str "alike")))
@[irreducible] noncomputable def F_Alike_word:List D→Option D:=runD 1 [false] B_Alike_word
theorem F_Alike_word_def:F_Alike_word=runD 1 [false] B_Alike_word:=by unfold F_Alike_word; rfl
theorem st_Open_word (x0:D):stD 1 [false] [x0]=[.bo x0]:=rfl
noncomputable def B_Open_word:DS:=(sRet (dC (.str "open")))
@[irreducible] noncomputable def F_Open_word:List D→Option D:=runD 1 [false] B_Open_word
theorem F_Open_word_def:F_Open_word=runD 1 [false] B_Open_word:=by unfold F_Open_word; rfl
theorem st_Tails_word (x0:D):stD 1 [false] [x0]=[.bo x0]:=rfl
noncomputable def B_Tails_word:DS:=(sRet (dC (.str "tails")))
@[irreducible] noncomputable def F_Tails_word:List D→Option D:=runD 1 [false] B_Tails_word
theorem F_Tails_word_def:F_Tails_word=runD 1 [false] B_Tails_word:=by unfold F_Tails_word; rfl
theorem st_Windows_word (x0:D):stD 1 [false] [x0]=[.bo x0]:=rfl
noncomputable def B_Windows_word:DS:=(sRet (dC (.str "windows")))
@[irreducible] noncomputable def F_Windows_word:List D→Option D:=runD 1 [false] B_Windows_word
theorem F_Windows_word_def:F_Windows_word=runD 1 [false] B_Windows_word:=by unfold F_Windows_word; rfl
theorem st_Tree_word (x0:D):stD 1 [false] [x0]=[.bo x0]:=rfl
noncomputable def B_Tree_word:DS:=(sRet (dC (.str "tree")))
@[irreducible] noncomputable def F_Tree_word:List D→Option D:=runD 1 [false] B_Tree_word
theorem F_Tree_word_def:F_Tree_word=runD 1 [false] B_Tree_word:=by unfold F_Tree_word; rfl
theorem st_Pairs_word (x0:D):stD 1 [false] [x0]=[.bo x0]:=rfl
noncomputable def B_Pairs_word:DS:=(sRet (dC (.str "pairs")))
@[irreducible] noncomputable def F_Pairs_word:List D→Option D:=runD 1 [false] B_Pairs_word
theorem F_Pairs_word_def:F_Pairs_word=runD 1 [false] B_Pairs_word:=by unfold F_Pairs_word; rfl
theorem st_kinds:stD 0 [] []=[]:=rfl
noncomputable def B_kinds:DS:=(sRet (dLst (dCons (dMakeC 656) (dCons (dMakeC 715) (dCons (dMakeC 774) (dCons (dMakeC 831) (dCons (dMakeC 951) (dCons (dMakeC 1015) dNil))))))))
@[irreducible] noncomputable def F_kinds:List D→Option D:=runF 0 [] B_kinds
theorem F_kinds_def:F_kinds=runF 0 [] B_kinds:=by unfold F_kinds; rfl
def BX_kind_of:DS:=(sSeq (sFor (asL (dCall F_kinds dNil)) (gN true 1)
 (sIf (dT (dEq false (dMeth [(656,F_Alike_word),(715,F_Open_word),(774,F_Tails_word),(831,F_Windows_word),(951,F_Tree_word),(1015,F_Pairs_word)] (dVar 1) dNil) (dVar 0)))
      sNo
      sPass))
    (sRaiseR (dVar 0)))
@[irreducible] def X_kind_of:List D→Option D:=runF 2 [false] BX_kind_of
theorem X_kind_of_def:X_kind_of=runF 2 [false] BX_kind_of:=by unfold X_kind_of; rfl
theorem st_kind_of (x0:D):stD 2 [false] [x0]=[.bo x0,.un]:=rfl
noncomputable def B_kind_of:DS:=(sSeq (sFor (asL (dCall F_kinds dNil)) (gN true 1)
 (sIf (dT (dEq false (dMeth [(656,F_Alike_word),(715,F_Open_word),(774,F_Tails_word),(831,F_Windows_word),(951,F_Tree_word),(1015,F_Pairs_word)] (dVar 1) dNil) (dVar 0)))
 (sRet (dVarI 1))
      sPass))
    sNo)
@[irreducible] noncomputable def F_kind_of:List D→Option D:=runD 2 [false] B_kind_of
theorem F_kind_of_def:F_kind_of=runD 2 [false] B_kind_of:=by unfold F_kind_of; rfl
theorem st_l_mix (x0 x1:D):stD 2 [false,false] [x0,x1]=[.bo x0,.bo x1]:=rfl
noncomputable def B_l_mix:DS:=(sRet (dMod (dMul (dAdd (dAdd (dMul (dVar 0) (dVar 0)) (dMul (dVar 1) (dVar 0))) (dMul (dMul (dC (.int 7)) (dVar 1)) (dVar 1))) (dC (.int 1103515245))) (dC (.int 2147483629))))
@[irreducible] noncomputable def F_l_mix:List D→Option D:=runD 2 [false,false] B_l_mix
theorem F_l_mix_def:F_l_mix=runD 2 [false,false] B_l_mix:=by unfold F_l_mix; rfl
theorem st_l_words:stD 0 [] []=[]:=rfl
noncomputable def B_l_words:DS:=(sRet (dLst (dCons (dC (.str "alike")) (dCons (dC (.str "open")) (dCons (dC (.str "tails")) (dCons (dC (.str "windows")) (dCons (dC (.str "tree")) (dCons (dC (.str "pairs")) dNil))))))))
@[irreducible] noncomputable def F_l_words:List D→Option D:=runD 0 [] B_l_words
theorem F_l_words_def:F_l_words=runD 0 [] B_l_words:=by unfold F_l_words; rfl
theorem st_l_word (x0:D):stD 6 [false] [x0]=[.bo x0,.un,.un,.un,.un,.un]:=rfl
noncomputable def B_l_word:DS:=(sSeq (sSet 1 (dCall F_l_words dNil))
 (sSeq (sSet 2 (dIx (dVarI 1) (dMod (dVar 0) (dC (.int 6)))))
 (sSeq (sSet 3 (dMod (dFdiv (dVar 0) (dC (.int 6))) (dC (.int 8))))
 (sSeq (sSet 4 (dMod (dCall F_l_mix (dCons (dVar 0) (dCons (dC (.int 1)) dNil))) (dAdd (dF1 lenD (dVar 2)) (dC (.int 1)))))
 (sSeq (sSet 5 (dC (.str "abcdefghijklmnopqrstuvwxyz")))
 (sSeq (sIf (dT (dEq false (dVar 3) (dC (.int 0))))
 (sRet (dSlT (dVar 2) oNone (oSome (dNeg (dC (.int 1))))))
      sPass)
 (sSeq (sIf (dT (dEq false (dVar 3) (dC (.int 1))))
 (sRet (dCatT (dCatT (dSlT (dVar 2) oNone (oSome (dVar 4))) (dIx (dVar 5) (dMod (dCall F_l_mix (dCons (dVar 0) (dCons (dC (.int 2)) dNil))) (dC (.int 26))))) (dSlT (dVar 2) (oSome (dVar 4)) oNone)))
      sPass)
 (sSeq (sIf (dT (dEq false (dVar 3) (dC (.int 2))))
 (sRet (dCatT (dCatT (dSlT (dVar 2) oNone (oSome (dVar 4))) (dC (.str " "))) (dSlT (dVar 2) (oSome (dVar 4)) oNone)))
      sPass)
 (sSeq (sIf (dT (dEq false (dVar 3) (dC (.int 3))))
 (sRet (dCatT (dCatT (dSlT (dVar 2) oNone (oSome (dVar 4))) (dUp (dSlT (dVar 2) (oSome (dVar 4)) (oSome (dAdd (dVar 4) (dC (.int 1))))))) (dSlT (dVar 2) (oSome (dAdd (dVar 4) (dC (.int 1)))) oNone)))
      sPass)
 (sSeq (sIf (dT (dEq false (dVar 3) (dC (.int 4))))
 (sRet (dCatT (dVar 2) (dIx (dVar 1) (dMod (dCall F_l_mix (dCons (dVar 0) (dCons (dC (.int 3)) dNil))) (dC (.int 6))))))
      sPass)
 (sSeq (sIf (dT (dEq false (dVar 3) (dC (.int 5))))
 (sRet (dJoin (dC (.str "")) (dLst (dComp 1 [5,0] (dRg1 (dMod (dCall F_l_mix (dCons (dVar 0) (dCons (dC (.int 4)) dNil))) (dC (.int 10)))) (gN true 0) dTrue (dIx (dVarI 1) (dMod (dCall F_l_mix (dCons (dAdd (dVar 2) (dMul (dVar 0) (dVar 0))) (dCons (dVar 0) dNil))) (dC (.int 26))))))))
      sPass)
 (sRet (dVarI 2)))))))))))))
@[irreducible] noncomputable def F_l_word:List D→Option D:=runD 6 [false] B_l_word
theorem F_l_word_def:F_l_word=runD 6 [false] B_l_word:=by unfold F_l_word; rfl
theorem st_l_is_kind (x0 x1:D):stD 4 [false,false] [x0,x1]=[.bo x0,.bo x1,.un,.un]:=rfl
noncomputable def B_l_is_kind:DS:=(sSeq (sIf (dNot (dTru (dIsC [(656,true),(715,true),(774,true),(831,true),(951,true),(1015,true)] (dVar 0))))
 (sRet (dC (.bl false)))
      sPass)
 (sSeq (sSet 2 (dMeth [(656,F_Alike_word),(715,F_Open_word),(774,F_Tails_word),(831,F_Windows_word),(951,F_Tree_word),(1015,F_Pairs_word)] (dVar 0) dNil))
 (sSeq (sIf (dOr (dNot (dTru (dIsi "str" (dVar 2)))) (dOr (dT (dEq true (dVar 2) (dIx (dCall F_l_words dNil) (dVar 1)))) (dT (dEq true (dIsC [(656,false),(715,false),(774,false),(831,false),(951,true),(1015,true)] (dVar 0)) (dGt (dVar 1) (dC (.int 3)))))))
 (sRet (dC (.bl false)))
      sPass)
 (sSeq (sSet 3 (dLst (dCons (dIsC [(656,true),(715,false),(774,false),(831,false),(951,false),(1015,false)] (dVar 0)) (dCons (dIsC [(656,false),(715,true),(774,false),(831,false),(951,false),(1015,false)] (dVar 0)) (dCons (dIsC [(656,false),(715,false),(774,true),(831,false),(951,false),(1015,false)] (dVar 0)) (dCons (dIsC [(656,false),(715,false),(774,false),(831,true),(951,false),(1015,false)] (dVar 0)) dNil))))))
 (sRet (dEq false (dLst (dCat (dVarI 3) (dLst (dCons (dIsC [(656,false),(715,false),(774,false),(831,false),(951,true),(1015,false)] (dVar 0)) (dCons (dIsC [(656,false),(715,false),(774,false),(831,false),(951,false),(1015,true)] (dVar 0)) dNil))))) (dLst (dComp 1 [1] (dRg1 (dC (.int 6))) (gN true 0) dTrue (dEq false (dVar 0) (dVar 1))))))))))
@[irreducible] noncomputable def F_l_is_kind:List D→Option D:=runD 4 [false,false] B_l_is_kind
theorem F_l_is_kind_def:F_l_is_kind=runD 4 [false,false] B_l_is_kind:=by unfold F_l_is_kind; rfl
theorem st_l_refused (x0:D):stD 3 [false] [x0]=[.bo x0,.un,.un]:=rfl
noncomputable def B_l_refused:DS:=(sSeq (sSet 1 (dC .non))
    (sRefused 1 (dCall X_kind_of (dCons (dVar 0) dNil))))
@[irreducible] noncomputable def F_l_refused:List D→Option D:=runD 3 [false] B_l_refused
theorem F_l_refused_def:F_l_refused=runD 3 [false] B_l_refused:=by unfold F_l_refused; rfl
theorem st_law (x0:D):stD 7 [false] [x0]=[.bo x0,.un,.un,.un,.un,.un,.un]:=rfl
noncomputable def B_law:DS:=(sSeq (sSet 1 (dLst (dCons (dMakeC 656) (dCons (dMakeC 715) (dCons (dMakeC 774) (dCons (dMakeC 831) (dCons (dMakeC 951) (dCons (dMakeC 1015) dNil))))))))
 (sSeq (sFor (dRg1 (dC (.int 2))) (gN true 2)
 (sSeq (sSetO 3 (dCallF F_kinds dNil))
 (sSeq (sIf (dOr (dNot (dTru (dIsi "list" (dVar 3)))) (dT (dEq true (dF1 lenD (dVar 3)) (dC (.int 6)))))
 (sRet (dC (.bl false)))
      sPass)
 (sSeq (sFor (dRg1 (dC (.int 6))) (gN true 4)
 (sIf (dOr (dNot (dTru (dCall F_l_is_kind (dCons (dIx (dVar 3) (dVar 4)) (dCons (dVar 4) dNil))))) (dNot (dTru (dCall F_l_is_kind (dCons (dIx (dVar 1) (dVar 4)) (dCons (dVar 4) dNil))))))
 (sRet (dC (.bl false)))
      sPass))
 (sSeq (sPop 3 (dMul (dC (.int 2)) (dVar 2)))
 (sApp 3 (dIxO 3 (dC (.int 0)))))))))
 (sSeq (sFor (asL (dLst (dCat (dLst (dCons (dC (.int 36)) dNil)) (dLst (gFlat (dSl (dVar 0) oNone (oSome (dC (.int 63))))))))) (gN true 5)
 (sSeq (sSet 6 (dCall F_l_word (dCons (dVar 5) dNil)))
 (sIf (dT (dInX false (dVar 6) (dCall F_l_words dNil)))
 (sIf (dNot (dTru (dCall F_l_is_kind (dCons (dCall F_kind_of (dCons (dVar 6) dNil)) (dCons (dIndexT (dCall F_l_words dNil) (dVar 6)) dNil)))))
 (sRet (dC (.bl false)))
      sPass)
 (sIf (dNot (dTru (dCall F_l_refused (dCons (dVar 6) dNil))))
 (sRet (dC (.bl false)))
      sPass))))
 (sRet (dC (.bl true))))))
@[irreducible] noncomputable def F_law:List D→Option D:=runD 7 [false] B_law
theorem F_law_def:F_law=runD 7 [false] B_law:=by unfold F_law; rfl
end
section
variable [Tabs] {P:Program} {w:World} {K:PySem.W.Frag} {mg:Str→Option Value} {base:Heap} {ad:Adr}
theorem ok_Alike_word (T:Txt K mg ad):FnOk P w K mg base CX0 1 ad.f_Alike_word ad.d_Alike_word ["self"] (spD .v K [false] F_Alike_word):=by
  rw [F_Alike_word_def]
  exact Fun.okD (N:=["self"]) T.F_Alike_word sc_Alike_word [false] rfl B_Alike_word fun cdv A outer s H E hr=>⟨_,
 (pss_one (ps_ret pe_str)),
 (ss_ret si_str)⟩
theorem ok_Open_word (T:Txt K mg ad):FnOk P w K mg base CX0 1 ad.f_Open_word ad.d_Open_word ["self"] (spD .v K [false] F_Open_word):=by
  rw [F_Open_word_def]
  exact Fun.okD (N:=["self"]) T.F_Open_word sc_Open_word [false] rfl B_Open_word fun cdv A outer s H E hr=>⟨_,
 (pss_one (ps_ret pe_str)),
 (ss_ret si_str)⟩
theorem ok_Tails_word (T:Txt K mg ad):FnOk P w K mg base CX0 1 ad.f_Tails_word ad.d_Tails_word ["self"] (spD .v K [false] F_Tails_word):=by
  rw [F_Tails_word_def]
  exact Fun.okD (N:=["self"]) T.F_Tails_word sc_Tails_word [false] rfl B_Tails_word fun cdv A outer s H E hr=>⟨_,
 (pss_one (ps_ret pe_str)),
 (ss_ret si_str)⟩
theorem ok_Windows_word (T:Txt K mg ad):FnOk P w K mg base CX0 1 ad.f_Windows_word ad.d_Windows_word ["self"] (spD .v K [false] F_Windows_word):=by
  rw [F_Windows_word_def]
  exact Fun.okD (N:=["self"]) T.F_Windows_word sc_Windows_word [false] rfl B_Windows_word fun cdv A outer s H E hr=>⟨_,
 (pss_one (ps_ret pe_str)),
 (ss_ret si_str)⟩
theorem ok_Tree_word (T:Txt K mg ad):FnOk P w K mg base CX0 1 ad.f_Tree_word ad.d_Tree_word ["self"] (spD .v K [false] F_Tree_word):=by
  rw [F_Tree_word_def]
  exact Fun.okD (N:=["self"]) T.F_Tree_word sc_Tree_word [false] rfl B_Tree_word fun cdv A outer s H E hr=>⟨_,
 (pss_one (ps_ret pe_str)),
 (ss_ret si_str)⟩
theorem ok_Pairs_word (T:Txt K mg ad):FnOk P w K mg base CX0 1 ad.f_Pairs_word ad.d_Pairs_word ["self"] (spD .v K [false] F_Pairs_word):=by
  rw [F_Pairs_word_def]
  exact Fun.okD (N:=["self"]) T.F_Pairs_word sc_Pairs_word [false] rfl B_Pairs_word fun cdv A outer s H E hr=>⟨_,
 (pss_one (ps_ret pe_str)),
 (ss_ret si_str)⟩
theorem ok_kinds (T:Txt K mg ad):FnOk P w K mg base CX0 1 ad.f_kinds ad.d_kinds [] (spD .l K [] F_kinds):=by
  rw [F_kinds_def]
  exact Fun.okF (N:=[]) T.F_kinds sc_kinds [] rfl B_kinds fun cdv A outer s H E hr=>⟨_,
 (pss_one (ps_ret (pe_lst (pa_cons (pe_makeP T.mk_Alike rfl T.m_Alike) (pa_cons (pe_makeP T.mk_Open rfl T.m_Open) (pa_cons (pe_makeP T.mk_Tails rfl T.m_Tails) (pa_cons (pe_makeP T.mk_Windows rfl T.m_Windows) (pa_cons (pe_makeP T.mk_Tree rfl T.m_Tree) (pa_cons (pe_makeP T.mk_Pairs rfl T.m_Pairs) pa_nil))))))))),
 (ss_retF (sf_lst (n:=6) (sa_own si_make (sa_own si_make (sa_own si_make (sa_own si_make (sa_own si_make (sa_own si_make sa_nil)))))) (by decide)))⟩
theorem okX_kind_of (T:Txt K mg ad):FnOk P w K mg base (CXE P w) 2 ad.f_kind_of ad.d_kind_of ["word"] (spX K [false] ad.c_NoKind X_kind_of):=by
  rw [X_kind_of_def]
  exact Fun.okX (N:=["word", "kind"]) T.F_kind_of sc_kind_of [false] rfl BX_kind_of fun cdv A outer s H E hr=>⟨_,
 (pss_cons (ps_for PassesOwn.leaving rfl (pi_listK (K:=K) rfl (pe_call0 (ok_kinds T) (hr.mono (by decide)) rfl T.m_kinds T.F_kinds.kp T.b_kinds .nil pass0)) (pg_name (i:=1) sc_kind_of.nd rfl (Or.inl rfl))
 (pss_one (ps_if (pt_cmpR (op_eqD (K:=K) hr.units) (pe_methD0 (tbl:=spT K [] [(656,F_Alike_word),(715,F_Open_word),(774,F_Tails_word),(831,F_Windows_word),(951,F_Tree_word),(1015,F_Pairs_word)]) (pv 1) (.cons T.ki_Alike.cl T.t_Alike_word (ok_Alike_word T) (hr.mono (by decide)) T.b_Alike_word (.cons T.ki_Open.cl T.t_Open_word (ok_Open_word T) (hr.mono (by decide)) T.b_Open_word (.cons T.ki_Tails.cl T.t_Tails_word (ok_Tails_word T) (hr.mono (by decide)) T.b_Tails_word (.cons T.ki_Windows.cl T.t_Windows_word (ok_Windows_word T) (hr.mono (by decide)) T.b_Windows_word (.cons T.ki_Tree.cl T.t_Tree_word (ok_Tree_word T) (hr.mono (by decide)) T.b_Tree_word (.cons T.ki_Pairs.cl T.t_Pairs_word (ok_Pairs_word T) (hr.mono (by decide)) T.b_Pairs_word .nil))))))) (pv 0) (nomark _))
 (pss_one ps_never)
 pss_nil)))
 (pss_one (ps_raise (E:=E) (C:=ad.c_NoKind) (fun _ _ h=>h) ⟨rfl,rfl,rfl⟩ rfl PySem.F.excBase_ValueError rfl T.m_NoKind T.q_NoKind (pa_cons (pe_reprJ2 (pv 0)) pa_nil)))),
 (ss_seq (ss_for (m:=true) (sw_list (si_call sa_nil)) (sg_name 1)
 (ss_if (st_test (SemI.b (si_eq (neg:=false) (SemI.b (si_meth (ms:=[]) (tbl:=[(656,F_Alike_word),(715,F_Open_word),(774,F_Tails_word),(831,F_Windows_word),(951,F_Tree_word),(1015,F_Pairs_word)]) (sb_var 1) sa_nil)) (sb_var 0))))
 ss_never
 ss_pass))
 (ss_raiseR (sb_var 0)))⟩
theorem ok_kind_of (T:Txt K mg ad):FnOk P w K mg base CX0 2 ad.f_kind_of ad.d_kind_of ["word"] (spD .v K [false] F_kind_of):=by
  rw [F_kind_of_def]
  exact Fun.okD (N:=["word", "kind"]) T.F_kind_of sc_kind_of [false] rfl B_kind_of fun cdv A outer s H E hr=>⟨_,
 (pss_cons (ps_for PassesOwn.never rfl (pi_listK (K:=K) rfl (pe_call0 (ok_kinds T) (hr.mono (by decide)) rfl T.m_kinds T.F_kinds.kp T.b_kinds .nil pass0)) (pg_name (i:=1) sc_kind_of.nd rfl (Or.inl rfl))
 (pss_one (ps_if (pt_cmpR (op_eqD (K:=K) hr.units) (pe_methD0 (tbl:=spT K [] [(656,F_Alike_word),(715,F_Open_word),(774,F_Tails_word),(831,F_Windows_word),(951,F_Tree_word),(1015,F_Pairs_word)]) (pv 1) (.cons T.ki_Alike.cl T.t_Alike_word (ok_Alike_word T) (hr.mono (by decide)) T.b_Alike_word (.cons T.ki_Open.cl T.t_Open_word (ok_Open_word T) (hr.mono (by decide)) T.b_Open_word (.cons T.ki_Tails.cl T.t_Tails_word (ok_Tails_word T) (hr.mono (by decide)) T.b_Tails_word (.cons T.ki_Windows.cl T.t_Windows_word (ok_Windows_word T) (hr.mono (by decide)) T.b_Windows_word (.cons T.ki_Tree.cl T.t_Tree_word (ok_Tree_word T) (hr.mono (by decide)) T.b_Tree_word (.cons T.ki_Pairs.cl T.t_Pairs_word (ok_Pairs_word T) (hr.mono (by decide)) T.b_Pairs_word .nil))))))) (pv 0) (nomark _))
 (pss_one (ps_ret (pv 1)))
 pss_nil)))
 (pss_one ps_never)),
 (ss_seq (ss_for (m:=true) (sw_list (si_call sa_nil)) (sg_name 1)
 (ss_if (st_test (SemI.b (si_eq (neg:=false) (SemI.b (si_meth (ms:=[]) (tbl:=[(656,F_Alike_word),(715,F_Open_word),(774,F_Tails_word),(831,F_Windows_word),(951,F_Tree_word),(1015,F_Pairs_word)]) (sb_var 1) sa_nil)) (sb_var 0))))
 (ss_ret (si_var 1))
 ss_pass))
 ss_never)⟩
theorem ok_l_mix (T:Txt K mg ad):FnOk P w K mg base CX0 1 ad.f_l_mix ad.d_l_mix ["_law_number", "_law_k"] (spD .v K [false,false] F_l_mix):=by
  rw [F_l_mix_def]
  exact Fun.okD (N:=["_law_number", "_law_k"]) T.F_l_mix sc_l_mix [false,false] rfl B_l_mix fun cdv A outer s H E hr=>⟨_,
 (pss_one (ps_ret (pe_op op_mod (pe_op op_mulB (pe_op op_add (pe_op op_add (pe_op op_mulB (pv 0) (pv 0)) (pe_op op_mulB (pv 1) (pv 0))) (pe_op op_mulB (pe_op op_mulB pe_int (pv 1)) (pv 1))) pe_int) pe_int))),
 (ss_ret (si_mod (SemI.b (si_mul (SemI.b (si_add (SemI.b (si_add (SemI.b (si_mul (sb_var 0) (sb_var 0))) (SemI.b (si_mul (sb_var 1) (sb_var 0))))) (SemI.b (si_mul (SemI.b (si_mul (SemI.b si_int) (sb_var 1))) (sb_var 1))))) (SemI.b si_int))) (SemI.b si_int)))⟩
theorem ok_l_words (T:Txt K mg ad):FnOk P w K mg base CX0 1 ad.f_l_words ad.d_l_words [] (spD .v K [] F_l_words):=by
  rw [F_l_words_def]
  exact Fun.okD (N:=[]) T.F_l_words sc_l_words [] rfl B_l_words fun cdv A outer s H E hr=>⟨_,
 (pss_one (ps_ret (pe_lst (pa_cons pe_str (pa_cons pe_str (pa_cons pe_str (pa_cons pe_str (pa_cons pe_str (pa_cons pe_str pa_nil))))))))),
 (ss_ret (SemF.l (sf_lst (n:=6) (sa_own si_str (sa_own si_str (sa_own si_str (sa_own si_str (sa_own si_str (sa_own si_str sa_nil)))))) (by decide))))⟩
theorem ok_l_word (T:Txt K mg ad):FnOk P w K mg base CX0 2 ad.f_l_word ad.d_l_word ["_law_cell"] (spD .v K [false] F_l_word):=by
  rw [F_l_word_def]
  exact Fun.okD (N:=["_law_cell", "_law_words_here", "_law_word_here", "_law_choice", "_law_at", "_law_letters"]) T.F_l_word sc_l_word [false] rfl B_l_word fun cdv A outer s H E hr=>⟨_,
 (pss_cons (ps_set (i:=1) sc_l_word.nd rfl (Or.inl rfl) (pe_call0 (ok_l_words T) (hr.mono (by decide)) rfl T.m_l_words T.F_l_words.kp T.b_l_words .nil pass0))
 (pss_cons (ps_set (i:=2) sc_l_word.nd rfl (Or.inl rfl) (pe_ix (ix_seqK (K:=K) rfl) (pv 1) (pe_op op_mod (pv 0) pe_int) (fun _ _=>rfl)))
 (pss_cons (ps_set (i:=3) sc_l_word.nd rfl (Or.inl rfl) (pe_op op_mod (pe_op op_fdivB (pv 0) pe_int) pe_int))
 (pss_cons (ps_set (i:=4) sc_l_word.nd rfl (Or.inl rfl) (pe_op op_mod (pe_call (ok_l_mix T) (hr.mono (by decide)) rfl T.m_l_mix T.F_l_mix.kp T.b_l_mix .nil pass0 (pa_cons (pv 0) (pa_cons pe_int pa_nil))) (pe_op op_add (pe_callB (call_lenK (K:=K) rfl) rfl T.z_len bt_len (pa_cons (pv 2) pa_nil)) pe_int)))
 (pss_cons (ps_set (i:=5) sc_l_word.nd rfl (Or.inr rfl) pe_str)
 (pss_cons (ps_if (pt_cmpR (op_eqD (K:=K) hr.units) (pv 3) pe_int (nomark _))
 (pss_one (ps_ret (pe_slice sl_text (pv 2) po_none (po_some (pe_un un_neg pe_int)))))
 pss_nil)
 (pss_cons (ps_if (pt_cmpR (op_eqD (K:=K) hr.units) (pv 3) pe_int (nomark _))
 (pss_one (ps_ret (pe_op op_add_str (pe_op op_add_str (pe_slice sl_text (pv 2) po_none (po_some (pv 4))) (pe_ix (ix_seqK (K:=K) rfl) (pv 5) (pe_op op_mod (pe_call (ok_l_mix T) (hr.mono (by decide)) rfl T.m_l_mix T.F_l_mix.kp T.b_l_mix .nil pass0 (pa_cons (pv 0) (pa_cons pe_int pa_nil))) pe_int) (fun _ _=>rfl))) (pe_slice sl_text (pv 2) (po_some (pv 4)) po_none))))
 pss_nil)
 (pss_cons (ps_if (pt_cmpR (op_eqD (K:=K) hr.units) (pv 3) pe_int (nomark _))
 (pss_one (ps_ret (pe_op op_add_str (pe_op op_add_str (pe_slice sl_text (pv 2) po_none (po_some (pv 4))) pe_str) (pe_slice sl_text (pv 2) (po_some (pv 4)) po_none))))
 pss_nil)
 (pss_cons (ps_if (pt_cmpR (op_eqD (K:=K) hr.units) (pv 3) pe_int (nomark _))
 (pss_one (ps_ret (pe_op op_add_str (pe_op op_add_str (pe_slice sl_text (pv 2) po_none (po_some (pv 4))) (bm0K (K:=K) rfl (pe_bm0 PySem.F.plainAttrs_str PySem.F.slot_str_upper PySem.F.type_str_upper mt_upper (pe_slice sl_text (pv 2) (po_some (pv 4)) (po_some (pe_op op_add (pv 4) pe_int)))))) (pe_slice sl_text (pv 2) (po_some (pe_op op_add (pv 4) pe_int)) po_none))))
 pss_nil)
 (pss_cons (ps_if (pt_cmpR (op_eqD (K:=K) hr.units) (pv 3) pe_int (nomark _))
 (pss_one (ps_ret (pe_op op_add_str (pv 2) (pe_ix (ix_seqK (K:=K) rfl) (pv 1) (pe_op op_mod (pe_call (ok_l_mix T) (hr.mono (by decide)) rfl T.m_l_mix T.F_l_mix.kp T.b_l_mix .nil pass0 (pa_cons (pv 0) (pa_cons pe_int pa_nil))) pe_int) (fun _ _=>rfl)))))
 pss_nil)
 (pss_cons (ps_if (pt_cmpR (op_eqD (K:=K) hr.units) (pv 3) pe_int (nomark _))
 (pss_one (ps_ret (bmK (K:=K) rfl (pe_bm PySem.F.plainAttrs_str PySem.F.slot_str_join PySem.F.type_str_join (mt_join (K:=K) rfl) pe_str (pa_cons (pe_cN0 rfl (pi_range1 rfl T.z_range (pa_cons (pe_op op_mod (pe_call (ok_l_mix T) (hr.mono (by decide)) rfl T.m_l_mix T.F_l_mix.kp T.b_l_mix .nil pass0 (pa_cons (pv 0) (pa_cons pe_int pa_nil))) pe_int) pa_nil)) (ts:=["_law_k"]) (zs:=["_law_letters", "_law_cell"]) (k:=1) (is:=[5,0]) rfl (.cons rfl (.cons rfl .nil)) (.cons rfl (Or.inl rfl) rfl (by first | exact Or.inl rfl | exact Or.inr rfl) (.cons rfl (Or.inl rfl) rfl (by first | exact Or.inl rfl | exact Or.inr rfl) .nil)) rfl (low_name (by decide)) (fun _ _ _ _ _=>(pgb (by decide +kernel) rfl rfl)) (fun _ _ _ _ _=>(pe_ix (ix_seqK (K:=K) rfl) (pv 1) (pe_op op_mod (pe_call (ok_l_mix T) (hr.mono (by decide)) rfl T.m_l_mix T.F_l_mix.kp T.b_l_mix .nil pass0 (pa_cons (pe_op op_add (pv 2) (pe_op op_mulB (pv 0) (pv 0))) (pa_cons (pv 0) pa_nil))) pe_int) (fun _ _=>rfl))) rfl (by decide +kernel) rfl (by decide +kernel)) pa_nil)))))
 pss_nil)
 (pss_one (ps_ret (pv 2)))))))))))))),
 (ss_seq (ss_set (si_call sa_nil))
 (ss_seq (ss_set (si_ix (si_var 1) (SemI.b (si_mod (sb_var 0) (SemI.b si_int)))))
 (ss_seq (ss_set (si_mod (SemI.b (si_fdiv (sb_var 0) (SemI.b si_int))) (SemI.b si_int)))
 (ss_seq (ss_set (si_mod (SemI.b (si_call (sa_any (sb_var 0) (sa_any (SemI.b si_int) sa_nil)))) (SemI.b (si_add (SemI.b (si_len (sb_var 2))) (SemI.b si_int)))))
 (ss_seq (ss_set si_str)
 (ss_seq (ss_if (st_test (SemI.b (si_eq (neg:=false) (sb_var 3) (SemI.b si_int))))
 (ss_ret (si_slT (sb_var 2) so_none (so_some (SemI.b (si_neg (SemI.b si_int))))))
 ss_pass)
 (ss_seq (ss_if (st_test (SemI.b (si_eq (neg:=false) (sb_var 3) (SemI.b si_int))))
 (ss_ret (si_catT (SemI.b (si_catT (SemI.b (si_slT (sb_var 2) so_none (so_some (sb_var 4)))) (sb_ix (sb_var 5) (SemI.b (si_mod (SemI.b (si_call (sa_any (sb_var 0) (sa_any (SemI.b si_int) sa_nil)))) (SemI.b si_int)))))) (SemI.b (si_slT (sb_var 2) (so_some (sb_var 4)) so_none))))
 ss_pass)
 (ss_seq (ss_if (st_test (SemI.b (si_eq (neg:=false) (sb_var 3) (SemI.b si_int))))
 (ss_ret (si_catT (SemI.b (si_catT (SemI.b (si_slT (sb_var 2) so_none (so_some (sb_var 4)))) (SemI.b si_str))) (SemI.b (si_slT (sb_var 2) (so_some (sb_var 4)) so_none))))
 ss_pass)
 (ss_seq (ss_if (st_test (SemI.b (si_eq (neg:=false) (sb_var 3) (SemI.b si_int))))
 (ss_ret (si_catT (SemI.b (si_catT (SemI.b (si_slT (sb_var 2) so_none (so_some (sb_var 4)))) (SemI.b (si_up (SemI.b (si_slT (sb_var 2) (so_some (sb_var 4)) (so_some (SemI.b (si_add (sb_var 4) (SemI.b si_int)))))))))) (SemI.b (si_slT (sb_var 2) (so_some (SemI.b (si_add (sb_var 4) (SemI.b si_int)))) so_none))))
 ss_pass)
 (ss_seq (ss_if (st_test (SemI.b (si_eq (neg:=false) (sb_var 3) (SemI.b si_int))))
 (ss_ret (si_catT (sb_var 2) (sb_ix (sb_var 1) (SemI.b (si_mod (SemI.b (si_call (sa_any (sb_var 0) (sa_any (SemI.b si_int) sa_nil)))) (SemI.b si_int))))))
 ss_pass)
 (ss_seq (ss_if (st_test (SemI.b (si_eq (neg:=false) (sb_var 3) (SemI.b si_int))))
 (ss_ret (si_join (SemI.b si_str) (SemI.b (SemF.l (sf_comp (m:=true) (k:=1) (cs:=[5,0]) (SemW.c (sw_range1 (SemI.b (si_mod (SemI.b (si_call (sa_any (sb_var 0) (sa_any (SemI.b si_int) sa_nil)))) (SemI.b si_int))))) (sg_name 0) st_true (si_ix (si_var 1) (SemI.b (si_mod (SemI.b (si_call (sa_any (SemI.b (si_add (sb_var 2) (SemI.b (si_mul (sb_var 0) (sb_var 0))))) (sa_any (sb_var 0) sa_nil)))) (SemI.b si_int)))))))))
 ss_pass)
 (ss_ret (si_var 2)))))))))))))⟩
theorem ok_l_is_kind (T:Txt K mg ad):FnOk P w K mg base CX0 2 ad.f_l_is_kind ad.d_l_is_kind ["_law_kind", "_law_at"] (spD .v K [false,false] F_l_is_kind):=by
  rw [F_l_is_kind_def]
  exact Fun.okD (N:=["_law_kind", "_law_at", "_law_word_here", "_law_found"]) T.F_l_is_kind sc_l_is_kind [false,false] rfl B_l_is_kind fun cdv A outer s H E hr=>⟨_,
 (pss_cons (ps_if (pt_not (pt_truthK (K:=K) rfl (pe_callB (call_isC (K:=K) rfl) rfl T.z_isinstance bt_isinstance (pa_cons (pv 0) (pa_cons (pe_glob (v:=.ref 593) rfl T.m_Floor rfl) pa_nil))) (fun _=>rfl)))
 (pss_one (ps_ret pe_bl))
 pss_nil)
 (pss_cons (ps_set (i:=2) sc_l_is_kind.nd rfl (Or.inl rfl) (pe_methD0 (tbl:=spT K [] [(656,F_Alike_word),(715,F_Open_word),(774,F_Tails_word),(831,F_Windows_word),(951,F_Tree_word),(1015,F_Pairs_word)]) (pv 0) (.cons T.ki_Alike.cl T.t_Alike_word (ok_Alike_word T) (hr.mono (by decide)) T.b_Alike_word (.cons T.ki_Open.cl T.t_Open_word (ok_Open_word T) (hr.mono (by decide)) T.b_Open_word (.cons T.ki_Tails.cl T.t_Tails_word (ok_Tails_word T) (hr.mono (by decide)) T.b_Tails_word (.cons T.ki_Windows.cl T.t_Windows_word (ok_Windows_word T) (hr.mono (by decide)) T.b_Windows_word (.cons T.ki_Tree.cl T.t_Tree_word (ok_Tree_word T) (hr.mono (by decide)) T.b_Tree_word (.cons T.ki_Pairs.cl T.t_Pairs_word (ok_Pairs_word T) (hr.mono (by decide)) T.b_Pairs_word .nil))))))))
 (pss_cons (ps_if (PW.pt (pw_or (pt_not (pt_truthK (K:=K) rfl (pe_callB (call_isiK (K:=K) rfl) rfl T.z_isinstance bt_isinstance (pa_cons (pv 2) (pa_cons (pe_bltn (v:=.ty "str") rfl T.z_str bt_str rfl) pa_nil))) (fun _=>rfl))) (pw_or (pt_cmpR (op_neD (K:=K) hr.units) (pv 2) (pe_ix (ix_seqK (K:=K) rfl) (pe_call0 (ok_l_words T) (hr.mono (by decide)) rfl T.m_l_words T.F_l_words.kp T.b_l_words .nil pass0) (pv 1) (fun _ _=>rfl)) (nomark _)) (pw_or1 (pt_cmpR (op_neD (K:=K) hr.units) (pe_callB (call_isC (K:=K) rfl) rfl T.z_isinstance bt_isinstance (pa_cons (pv 0) (pa_cons (pe_glob (v:=.ref 885) rfl T.m_Turns rfl) pa_nil))) (pe_cmpR op_gt (pv 1) pe_int (nomark _)) (nomark _))))))
 (pss_one (ps_ret pe_bl))
 pss_nil)
 (pss_cons (ps_set (i:=3) sc_l_is_kind.nd rfl (Or.inl rfl) (pe_lst (pa_cons (pe_callB (call_isC (K:=K) rfl) rfl T.z_isinstance bt_isinstance (pa_cons (pv 0) (pa_cons (pe_glob (v:=.ref 656) rfl T.m_Alike rfl) pa_nil))) (pa_cons (pe_callB (call_isC (K:=K) rfl) rfl T.z_isinstance bt_isinstance (pa_cons (pv 0) (pa_cons (pe_glob (v:=.ref 715) rfl T.m_Open rfl) pa_nil))) (pa_cons (pe_callB (call_isC (K:=K) rfl) rfl T.z_isinstance bt_isinstance (pa_cons (pv 0) (pa_cons (pe_glob (v:=.ref 774) rfl T.m_Tails rfl) pa_nil))) (pa_cons (pe_callB (call_isC (K:=K) rfl) rfl T.z_isinstance bt_isinstance (pa_cons (pv 0) (pa_cons (pe_glob (v:=.ref 831) rfl T.m_Windows rfl) pa_nil))) pa_nil))))))
 (pss_one (ps_ret (pe_cmpR (op_eqD (K:=K) hr.units) (pe_op op_catR (pv 3) (pe_lst (pa_cons (pe_callB (call_isC (K:=K) rfl) rfl T.z_isinstance bt_isinstance (pa_cons (pv 0) (pa_cons (pe_glob (v:=.ref 951) rfl T.m_Tree rfl) pa_nil))) (pa_cons (pe_callB (call_isC (K:=K) rfl) rfl T.z_isinstance bt_isinstance (pa_cons (pv 0) (pa_cons (pe_glob (v:=.ref 1015) rfl T.m_Pairs rfl) pa_nil))) pa_nil)))) (pe_cN0 rfl (pi_range1 rfl T.z_range (pa_cons pe_int pa_nil)) (ts:=["_law_k"]) (zs:=["_law_at"]) (k:=1) (is:=[1]) rfl (.cons rfl .nil) (.cons rfl (Or.inl rfl) rfl (by first | exact Or.inl rfl | exact Or.inr rfl) .nil) rfl (low_name (by decide)) (fun _ _ _ _ _=>(pgb (by decide +kernel) rfl rfl)) (fun _ _ _ _ _=>(pe_cmpR (op_eqD (K:=K) hr.units) (pv 0) (pv 1) (nomark _))) rfl (by decide +kernel) rfl (by decide +kernel)) (nomark _)))))))),
 (ss_seq (ss_if (st_not (st_tru (K:=K) (SemI.b (si_isC (sb_var 0) (.cons T.ki_Alike T.i_Alike_Floor (.cons T.ki_Open T.i_Open_Floor (.cons T.ki_Tails T.i_Tails_Floor (.cons T.ki_Windows T.i_Windows_Floor (.cons T.ki_Tree T.i_Tree_Floor (.cons T.ki_Pairs T.i_Pairs_Floor .nil))))))))))
 (ss_ret si_bl)
 ss_pass)
 (ss_seq (ss_set (si_meth (ms:=[]) (tbl:=[(656,F_Alike_word),(715,F_Open_word),(774,F_Tails_word),(831,F_Windows_word),(951,F_Tree_word),(1015,F_Pairs_word)]) (sb_var 0) sa_nil))
 (ss_seq (ss_if (st_or (st_not (st_tru (K:=K) (SemI.b (si_isi (n := "str") (sb_var 2))))) (st_or (st_test (SemI.b (si_eq (neg:=true) (sb_var 2) (sb_ix (SemI.b (si_call sa_nil)) (sb_var 1))))) (st_test (SemI.b (si_eq (neg:=true) (SemI.b (si_isC (sb_var 0) (.cons T.ki_Alike T.i_Alike_Turns (.cons T.ki_Open T.i_Open_Turns (.cons T.ki_Tails T.i_Tails_Turns (.cons T.ki_Windows T.i_Windows_Turns (.cons T.ki_Tree T.i_Tree_Turns (.cons T.ki_Pairs T.i_Pairs_Turns .nil)))))))) (SemI.b (si_gt (sb_var 1) (SemI.b si_int))))))))
 (ss_ret si_bl)
 ss_pass)
 (ss_seq (ss_set (SemF.l (sf_lst (n:=4) (sa_own (si_isC (sb_var 0) (.cons T.ki_Alike T.i_Alike_Alike (.cons T.ki_Open T.i_Open_Alike (.cons T.ki_Tails T.i_Tails_Alike (.cons T.ki_Windows T.i_Windows_Alike (.cons T.ki_Tree T.i_Tree_Alike (.cons T.ki_Pairs T.i_Pairs_Alike .nil))))))) (sa_own (si_isC (sb_var 0) (.cons T.ki_Alike T.i_Alike_Open (.cons T.ki_Open T.i_Open_Open (.cons T.ki_Tails T.i_Tails_Open (.cons T.ki_Windows T.i_Windows_Open (.cons T.ki_Tree T.i_Tree_Open (.cons T.ki_Pairs T.i_Pairs_Open .nil))))))) (sa_own (si_isC (sb_var 0) (.cons T.ki_Alike T.i_Alike_Tails (.cons T.ki_Open T.i_Open_Tails (.cons T.ki_Tails T.i_Tails_Tails (.cons T.ki_Windows T.i_Windows_Tails (.cons T.ki_Tree T.i_Tree_Tails (.cons T.ki_Pairs T.i_Pairs_Tails .nil))))))) (sa_own (si_isC (sb_var 0) (.cons T.ki_Alike T.i_Alike_Windows (.cons T.ki_Open T.i_Open_Windows (.cons T.ki_Tails T.i_Tails_Windows (.cons T.ki_Windows T.i_Windows_Windows (.cons T.ki_Tree T.i_Tree_Windows (.cons T.ki_Pairs T.i_Pairs_Windows .nil))))))) sa_nil)))) (by decide))))
 (ss_ret (si_eq (neg:=false) (SemI.b (SemF.l (sf_cat (si_var 3) (SemF.l (sf_lst (n:=2) (sa_own (si_isC (sb_var 0) (.cons T.ki_Alike T.i_Alike_Tree (.cons T.ki_Open T.i_Open_Tree (.cons T.ki_Tails T.i_Tails_Tree (.cons T.ki_Windows T.i_Windows_Tree (.cons T.ki_Tree T.i_Tree_Tree (.cons T.ki_Pairs T.i_Pairs_Tree .nil))))))) (sa_own (si_isC (sb_var 0) (.cons T.ki_Alike T.i_Alike_Pairs (.cons T.ki_Open T.i_Open_Pairs (.cons T.ki_Tails T.i_Tails_Pairs (.cons T.ki_Windows T.i_Windows_Pairs (.cons T.ki_Tree T.i_Tree_Pairs (.cons T.ki_Pairs T.i_Pairs_Pairs .nil))))))) sa_nil)) (by decide)))))) (SemI.b (SemF.l (sf_comp (m:=true) (k:=1) (cs:=[1]) (SemW.c (sw_range1 (SemI.b si_int))) (sg_name 0) st_true (si_eq (neg:=false) (sb_var 0) (sb_var 1)))))))))))⟩
theorem ok_l_refused (T:Txt K mg ad):FnOk P w K mg base CX0 3 ad.f_l_refused ad.d_l_refused ["_law_word_here"] (spD .v K [false] F_l_refused):=by
  rw [F_l_refused_def]
  exact Fun.okD (N:=["_law_word_here", "_law_caught", "e"]) T.F_l_refused sc_l_refused [false] rfl B_l_refused fun cdv A outer s H E hr=>⟨_,
 (pss_cons (ps_set (i:=1) sc_l_refused.nd rfl (Or.inl rfl) pe_non)
 (pss_cons (ps_try (iv:=1) (ie:=2) ⟨rfl,rfl,rfl⟩ (okX_kind_of T) (hr.mono (by decide)) rfl T.m_kind_of T.F_kind_of.kp T.b_kind_of (fun _=>(pa_cons (pv 0) pa_nil)) sc_l_refused.nd rfl rfl rfl rfl rfl T.m_FloorError)
 (pss_cons (ps_if (PW.pt (pw_or (pt_truthK (K:=K) rfl (pe_callB (call_isEs (K:=K) rfl) rfl T.z_isinstance bt_isinstance (pa_cons (pv 1) (pa_cons (pe_tup (pa_cons (pe_glob (v:=.ref ad.c_NoRoom) rfl T.m_NoRoom rfl) (pa_cons (pe_glob (v:=.ref ad.c_NoOrder) rfl T.m_NoOrder rfl) (pa_cons (pe_glob (v:=.ref ad.c_NoText) rfl T.m_NoText rfl) pa_nil)))) pa_nil))) (fun _=>rfl)) (pw_or1 (pt_truthK (K:=K) rfl (pe_callB (call_isEs (K:=K) rfl) rfl T.z_isinstance bt_isinstance (pa_cons (pv 1) (pa_cons (pe_tup (pa_cons (pe_glob (v:=.ref ad.c_NoFloor) rfl T.m_NoFloor rfl) (pa_cons (pe_glob (v:=.ref ad.c_NoRow) rfl T.m_NoRow rfl) (pa_cons (pe_glob (v:=.ref ad.c_NoName) rfl T.m_NoName rfl) pa_nil)))) pa_nil))) (fun _=>rfl))))) (pss_one (ps_ret pe_bl)) pss_nil)
 (pss_one (ps_ret (pe_and (pe_callB (call_isE (K:=K) rfl) rfl T.z_isinstance bt_isinstance (pa_cons (pv 1) (pa_cons (pe_glob (v:=.ref ad.c_NoKind) rfl T.m_NoKind rfl) pa_nil))) (pe_one (pe_callB (call_isE (K:=K) rfl) rfl T.z_isinstance bt_isinstance (pa_cons (pv 1) (pa_cons (pe_bltn (v:=.ty "ValueError") rfl T.z_ValueError bt_ValueError rfl) pa_nil)))))))))),
 (ss_seq (ss_set si_non)
 (ss_refused (ie:=2) (sa_any (sb_var 0) sa_nil) T.x_NoKind_FloorError (by decide)
    (xs_if (xt_or (xt_tru (xe_is3 T.kx_NoKind (kit_any3 T.i_NoKind_NoRoom T.i_NoKind_NoOrder T.i_NoKind_NoText))) (xt_tru (xe_is3 T.kx_NoKind (kit_any3 T.i_NoKind_NoFloor T.i_NoKind_NoRow T.i_NoKind_NoName))))
    (xs_ret (xe_and (xe_is (c:=.ref ad.c_NoKind) (u:=.ref ad.c_NoKind) T.kx_NoKind rfl T.i_NoKind_NoKind) (xe_is (c:=.ty "ValueError") (u:=.type "ValueError") T.kx_NoKind rfl T.i_NoKind_ValueError))))))⟩
theorem ok_law (T:Txt K mg ad):FnOk P w K mg base CX0 4 ad.f_law ad.d_law ["_law_script"] (spD .v K [false] F_law):=by
  rw [F_law_def]
  exact Fun.okD (N:=["_law_script", "_law_made", "_law_k", "_law_found", "_law_at", "_law_cell", "_law_word_here"]) T.F_law sc_law [false] rfl B_law fun cdv A outer s H E hr=>⟨_,
 (pss_cons (ps_set (i:=1) sc_law.nd rfl (Or.inl rfl) (pe_lst (pa_cons (pe_makeP T.mk_Alike rfl T.m_Alike) (pa_cons (pe_makeP T.mk_Open rfl T.m_Open) (pa_cons (pe_makeP T.mk_Tails rfl T.m_Tails) (pa_cons (pe_makeP T.mk_Windows rfl T.m_Windows) (pa_cons (pe_makeP T.mk_Tree rfl T.m_Tree) (pa_cons (pe_makeP T.mk_Pairs rfl T.m_Pairs) pa_nil))))))))
 (pss_cons (ps_for PassesOwn.never rfl (pi_range1 rfl T.z_range (pa_cons pe_int pa_nil)) (pg_name (i:=2) sc_law.nd rfl (Or.inl rfl))
 (pss_cons (ps_set (i:=3) sc_law.nd rfl (Or.inl rfl) (pe_call0 (ok_kinds T) (hr.mono (by decide)) rfl T.m_kinds T.F_kinds.kp T.b_kinds .nil pass0))
 (pss_cons (ps_if (PW.pt (pw_or (pt_not (pt_truthK (K:=K) rfl (pe_callB (call_isiK (K:=K) rfl) rfl T.z_isinstance bt_isinstance (pa_cons (pv 3) (pa_cons (pe_bltn (v:=.ty "list") rfl T.z_list bt_list rfl) pa_nil))) (fun _=>rfl))) (pw_or1 (pt_cmpR (op_neD (K:=K) hr.units) (pe_callB (call_lenK (K:=K) rfl) rfl T.z_len bt_len (pa_cons (pv 3) pa_nil)) pe_int (nomark _)))))
 (pss_one (ps_ret pe_bl))
 pss_nil)
 (pss_cons (ps_for PassesOwn.never rfl (pi_range1 rfl T.z_range (pa_cons pe_int pa_nil)) (pg_name (i:=4) sc_law.nd rfl (Or.inl rfl))
 (pss_one (ps_if (PW.pt (pw_or (pt_not (pt_truthK (K:=K) rfl (pe_call (ok_l_is_kind T) (hr.mono (by decide)) rfl T.m_l_is_kind T.F_l_is_kind.kp T.b_l_is_kind .nil pass0 (pa_cons (pe_ix (ix_seqK (K:=K) rfl) (pv 3) (pv 4) (fun _ _=>rfl)) (pa_cons (pv 4) pa_nil))) (fun _=>rfl))) (pw_or1 (pt_not (pt_truthK (K:=K) rfl (pe_call (ok_l_is_kind T) (hr.mono (by decide)) rfl T.m_l_is_kind T.F_l_is_kind.kp T.b_l_is_kind .nil pass0 (pa_cons (pe_ix (ix_seqK (K:=K) rfl) (pv 1) (pv 4) (fun _ _=>rfl)) (pa_cons (pv 4) pa_nil))) (fun _=>rfl))))))
 (pss_one (ps_ret pe_bl))
 pss_nil)))
 (pss_cons (ps_expr (pe_bm PySem.F.plainAttrs_list PySem.F.slot_list_pop PySem.F.type_list_pop mt_popAt (pv 3) (pa_cons (pe_op op_mulB pe_int (pv 2)) pa_nil)))
 (pss_one (ps_expr (pe_bm PySem.F.plainAttrs_list PySem.F.slot_list_append PySem.F.type_list_append mt_append (pv 3) (pa_cons (pe_ix (ix_seqK (K:=K) rfl) (pv 3) pe_int (fun _ _=>rfl)) pa_nil)))))))))
 (pss_cons (ps_for PassesOwn.never rfl (pi_listK (K:=K) rfl (pe_op op_catR (pe_lst (pa_cons pe_int pa_nil)) (pe_slice (sl_listK (K:=K) rfl) (pv 0) po_none (po_some pe_int)))) (pg_name (i:=5) sc_law.nd rfl (Or.inl rfl))
 (pss_cons (ps_set (i:=6) sc_law.nd rfl (Or.inl rfl) (pe_call (ok_l_word T) (hr.mono (by decide)) rfl T.m_l_word T.F_l_word.kp T.b_l_word .nil pass0 (pa_cons (pv 5) pa_nil)))
 (pss_one (ps_if (pt_cmpR (op_in_seqK (K:=K) rfl) (pv 6) (pe_call0 (ok_l_words T) (hr.mono (by decide)) rfl T.m_l_words T.F_l_words.kp T.b_l_words .nil pass0) (by with_unfolding_all rfl))
 (pss_one (ps_if (pt_not (pt_truthK (K:=K) rfl (pe_call (ok_l_is_kind T) (hr.mono (by decide)) rfl T.m_l_is_kind T.F_l_is_kind.kp T.b_l_is_kind .nil pass0 (pa_cons (pe_call (ok_kind_of T) (hr.mono (by decide)) rfl T.m_kind_of T.F_kind_of.kp T.b_kind_of .nil pass0 (pa_cons (pv 6) pa_nil)) (pa_cons (bmK (K:=K) rfl (pe_bm PySem.F.plainAttrs_list PySem.F.slot_list_index PySem.F.type_list_index (mt_indexT (K:=K) rfl) (pe_call0 (ok_l_words T) (hr.mono (by decide)) rfl T.m_l_words T.F_l_words.kp T.b_l_words .nil pass0) (pa_cons (pv 6) pa_nil))) pa_nil))) (fun _=>rfl)))
 (pss_one (ps_ret pe_bl))
 pss_nil))
 (pss_one (ps_if (pt_not (pt_truthK (K:=K) rfl (pe_call (ok_l_refused T) (hr.mono (by decide)) rfl T.m_l_refused T.F_l_refused.kp T.b_l_refused .nil pass0 (pa_cons (pv 6) pa_nil)) (fun _=>rfl)))
 (pss_one (ps_ret pe_bl))
 pss_nil))))))
 (pss_one (ps_ret pe_bl))))),
 (ss_seq (ss_set (SemF.l (sf_lst (n:=6) (sa_own si_make (sa_own si_make (sa_own si_make (sa_own si_make (sa_own si_make (sa_own si_make sa_nil)))))) (by decide))))
 (ss_seq (ss_for (m:=true) (sw_range1 (SemI.b si_int)) (sg_name 2)
 (ss_seq (ss_setO (sf_call sa_nil))
 (ss_seq (ss_if (st_or (st_not (st_tru (K:=K) (SemI.b (si_isi (n := "list") (sb_var 3))))) (st_test (SemI.b (si_eq (neg:=true) (SemI.b (si_len (sb_var 3))) (SemI.b si_int)))))
 (ss_ret si_bl)
 ss_pass)
 (ss_seq (ss_for (m:=true) (sw_range1 (SemI.b si_int)) (sg_name 4)
 (ss_if (st_or (st_not (st_tru (K:=K) (SemI.b (si_call (sa_any (sb_ix (sb_var 3) (sb_var 4)) (sa_any (sb_var 4) sa_nil)))))) (st_not (st_tru (K:=K) (SemI.b (si_call (sa_any (sb_ix (sb_var 1) (sb_var 4)) (sa_any (sb_var 4) sa_nil)))))))
 (ss_ret si_bl)
 ss_pass))
 (ss_seq (ss_pop (SemI.b (si_mul (SemI.b si_int) (sb_var 2))))
 (ss_app (si_ixO (SemI.b si_int))))))))
 (ss_seq (ss_for (m:=true) (sw_list (SemF.l (sf_cat (SemF.l (sf_lst (n:=1) (sa_own si_int sa_nil) (by decide))) (SemF.l (sf_slB (sb_var 0) so_none (so_some (SemI.b si_int))))))) (sg_name 5)
 (ss_seq (ss_set (si_call (sa_any (sb_var 5) sa_nil)))
 (ss_if (st_test (SemI.b (si_inX (neg:=false) (sb_var 6) (SemI.b (si_call sa_nil)))))
 (ss_if (st_not (st_tru (K:=K) (SemI.b (si_call (sa_any (SemI.b (si_call (sa_any (sb_var 6) sa_nil))) (sa_any (SemI.b (si_indexT (SemI.b (si_call sa_nil)) (sb_var 6))) sa_nil))))))
 (ss_ret si_bl)
 ss_pass)
 (ss_if (st_not (st_tru (K:=K) (SemI.b (si_call (sa_any (sb_var 6) sa_nil)))))
 (ss_ret si_bl)
 ss_pass))))
 (ss_ret si_bl))))⟩
end
local macro_rules | `(tactic| walk_at "sd")=>`(tactic| first | assumption | omega | decide | (simp only [List.length_map,List.length_cons,List.length_nil]; omega) | ((with_reducible apply And.intro) <;> walk_at "sd"))
local macro_rules | `(tactic| walk_at "fn")=>`(tactic| assumption)
local macro_rules | `(tactic| walk_at "ix")=>`(tactic| first | exact ixS (by omega) (by omega) | exact ixI (by omega) (by omega) | exact ix2I _ _ _ | exact ix3I _ _ _ _ | exact ix4I _ _ _ _ _ | rfl)
local macro_rules | `(tactic| walk_at "ev")=>`(tactic| first
  | ((with_reducible first | apply ev_add | apply ev_sub | apply ev_lt | apply ev_le | apply ev_gt | apply ev_ge | apply ev_max2 | apply ev_min2 | apply ev_cons | apply ev_eqF | apply ev_neF); (· walk_at "ev"); (· walk_at "ev"))
  | ((with_reducible first | apply ev_neg | apply ev_t | apply ev_not | apply ev_notV | apply ev_lst | apply ev_tup | apply ev_oSome); (· walk_at "ev"))
  | ((with_reducible first | apply ev_tru | apply ev_scal | apply ev_f1 | apply ev_asL | apply ev_lof); (· walk_at "ev"); (· rfl))
  | ((with_reducible first | apply ev_and | apply ev_or | apply ev_andV | apply ev_orV); (· walk_at "ev"); (· intro _; walk_at "ev"))
  | ((with_reducible first | show dVar _ _=_ | show dVarI _ _=_ | show dVarO _ _=_ | show dC _ _=_ | show dNil _=_ | show oNone _=_ | show dTrue _=_); rfl)
  | ((with_reducible apply ev_ix); (· walk_at "ev"); (· walk_at "ev"); (· walk_at "ix"))
  | ((with_reducible apply ev_call); (· walk_at "ev"); (· walk_at "fn"))
  | ((with_reducible first | apply ev_chain | apply ev_sl); (· walk_at "ev"); (· walk_at "ev"); (· walk_at "ev"))
  | ((with_reducible apply ev_mul); (· walk_at "ev"); (· walk_at "ev"); (· first | assumption | (apply imul; omega)))
  | ((with_reducible apply ev_fdiv); (· walk_at "ev"); (· walk_at "ev"); (· first | exact fdok (by omega) (by omega) | walk_at "sd"))
  | ((with_reducible first | apply ev_mod | apply ev_rg2); (· walk_at "ev"); (· walk_at "ev"); (· walk_at "sd"))
  | ((with_reducible apply ev_rg1); (· walk_at "ev"); (· walk_at "sd"))
  | ((with_reducible apply ev_rep); (· walk_at "ev"); (· walk_at "ev"); (· simp only [List.length_cons,List.length_nil]; walk_at "sd")))
local macro_rules | `(tactic| walk_at "st")=>`(tactic| dsimp only [List.set_cons_succ,List.set_cons_zero])
local macro_rules | `(tactic| walk_at "go")=>`(tactic| ((try dsimp only); walk_at "go1"))
local macro_rules | `(tactic| walk_at "go1")=>`(tactic| first
  | ((with_reducible apply wp_seq); walk_at "go")
  | ((with_reducible apply wp_frz); dsimp only [frz,List.getD_cons_succ,List.getD_cons_zero,List.set_cons_succ,List.set_cons_zero]; walk_at "go")
  | ((with_reducible apply wp_set); (· walk_at "ev"); walk_at "st"; walk_at "go")
  | ((with_reducible apply wp_setO); (· walk_at "ev"); (· simp only [List.length_cons,List.length_nil]; omega); walk_at "st"; walk_at "go")
  | ((with_reducible apply wp_aug); (· rfl); (· walk_at "ev"); walk_at "st"; walk_at "go")
  | ((with_reducible apply wp_pass); (try dsimp only); walk_at "go")
  | skip)
def WS:List Str:=["alike", "open", "tails", "windows", "tree", "pairs"]
def KA:List Addr:=[ca_Alike,ca_Open,ca_Tails,ca_Windows,ca_Tree,ca_Pairs]
def insD (C:Addr):D:=.ins C
theorem ev_neSame {a b:DE} {ρ:Rho} {d:D} (ha:a ρ=some d) (hb:b ρ=some d) (h:cmpb 20 d d=true):dEq true a b ρ=some (.bl false):=by
  rw [ev_eq ha hb h,if_pos rfl]; simp
theorem ev_eqT {a b:DE} {ρ:Rho} {x y:Str} (ha:a ρ=some (.str x)) (hb:b ρ=some (.str y)):dEq false a b ρ=some (.bl (decide (x=y))):=by
  rw [ev_eq ha hb rfl,if_neg Bool.false_ne_true]
  congr 2
  rw [Bool.eq_iff_iff]
  simp
theorem bits_add {x c:Int} {k:Nat} (hk:10≤k) (hb:Builtin.Int.intBits x≤k) (h0:0≤c) (h1:c<1000):Builtin.Int.intBits (x+c)≤k+1:=by
  have p:1000≤2 ^ k:=Nat.le_trans (show 1000≤2 ^ 10 by decide) (Nat.pow_le_pow_right (by decide) hk)
  have hx:x.natAbs<2 ^ k:=by
    by_cases c:x=0
    · rw [c]; show 0<2 ^ k; omega
    · unfold Builtin.Int.intBits at hb
      rw [if_neg (by simpa using c)] at hb
      exact (Nat.log2_lt (by omega)).mp (by omega)
  have hy:(x+c).natAbs<2 ^ (k+1):=by
    rw [Nat.pow_succ]
    generalize 2 ^ k=P at p hx
    omega
  unfold Builtin.Int.intBits
  split
  · omega
  · rename_i z
    have z:¬ x+c=0:=by simpa using z
    have:=(Nat.log2_lt (show (x+c).natAbs≠0 by omega)).mpr hy
    omega
def mixZ (x k:Int):Int:=(x*x+k*x+7*k*k)*1103515245 % 2147483629
theorem mix (x k:Int) (hb:Builtin.Int.intBits x≤1048577) (h0:0≤k) (h1:k<1000):F_l_mix [.int x,.int k]=some (.int (mixZ x k)):=by
  refine run_eqF F_l_mix_def ?_
  rw [st_l_mix]
  unfold B_l_mix
  refine wp_ret (ev_mod (ev_mul (ev_add (ev_add (ev_mul rfl rfl (IntMulOk.of_le hb hb (by decide))) (ev_mul rfl rfl (imul (by omega)))) (ev_mul (ev_mul rfl rfl (imul (by omega))) rfl (imul (by omega)))) rfl (imul (by omega))) rfl (by decide)) rfl
theorem mixZ_lt (x k:Int):0≤mixZ x k∧mixZ x k<2147483629:=⟨Int.emod_nonneg _ (by decide),Int.emod_lt_of_pos _ (by decide)⟩
def Gn (n:Nat) (x:Str):Prop:=(∀ c∈x.cps.toList,c<128)∧x.length≤n
theorem Gn.app {n m:Nat} {x y:Str} (hx:Gn n x) (hy:Gn m y):Gn (n+m) (x++y):=by
  refine ⟨fun c hc=>?_,by have:=hx.2; have:=hy.2; rw [strLen_append]; omega⟩
  have e:(x++y).cps.toList=x.cps.toList++y.cps.toList:=Array.toList_append
  rw [e] at hc
  exact (List.mem_append.mp hc).elim (hx.1 c) (hy.1 c)
theorem Gn.slice {n:Nat} {x:Str} (hx:Gn n x) (lo hi:Option Int):Gn n (sliceT x lo hi):=by
  refine ⟨fun c hc=>?_,Nat.le_trans (slice_len x lo hi) hx.2⟩
  have hc:c∈(Builtin.Str.strSliceIndices lo hi 1 x.length).filterMap (x.cps[·]?):=by
    unfold sliceT at hc
    simpa using hc
  obtain ⟨i,_,e⟩:=List.mem_filterMap.mp hc
  have:=Array.mem_of_getElem? e
  exact hx.1 c (by simpa using this)
theorem Gn.up {n:Nat} {x:Str} (hx:Gn n x):Gn n (Txt.upper x):=by
  rw [PyProof.Rows.upper_ascii hx.1]
  refine ⟨fun c hc=>?_,?_⟩
  · have hc:c∈x.cps.toList.map PyProof.Rows.up1:=by simpa using hc
    obtain ⟨d,hd,rfl⟩:=List.mem_map.mp hc
    have:=hx.1 d hd
    unfold PyProof.Rows.up1
    split <;> omega
  · show (Array.map PyProof.Rows.up1 x.cps).size≤n
    rw [Array.size_map]
    exact hx.2
theorem Gn.mono {n m:Nat} {x:Str} (hx:Gn n x) (h:n≤m):Gn m x:=⟨hx.1,Nat.le_trans hx.2 h⟩
theorem Gn.repr {x:Str} (hx:Gn 40 x):(reprText x).length≤1000000:=by
  have:=StrLaws.reprText_len x fun c hc=>Nat.lt_trans (hx.1 c hc) (by decide)
  have:=hx.2
  omega
theorem ws_get {w:Str} {k:Nat} (h:WS[k]?=some w):Gn 7 w:=by
  unfold WS at h
  match k,h with
  | 0,h=>cases h; exact ⟨by decide,by decide⟩
  | 1,h=>cases h; exact ⟨by decide,by decide⟩
  | 2,h=>cases h; exact ⟨by decide,by decide⟩
  | 3,h=>cases h; exact ⟨by decide,by decide⟩
  | 4,h=>cases h; exact ⟨by decide,by decide⟩
  | 5,h=>cases h; exact ⟨by decide,by decide⟩
theorem ws_at {i:Int} (h0:0≤i) (h1:i<6):∃ w,ixD (.lst (WS.map D.str)) i=some (.str w)∧WS[i.toNat]?=some w:=by
  have:i=0∨i=1∨i=2∨i=3∨i=4∨i=5:=by omega
  rcases this with rfl | rfl | rfl | rfl | rfl | rfl <;> exact ⟨_,rfl,rfl⟩
def letters:Str := "abcdefghijklmnopqrstuvwxyz"
theorem letters_le:∀ c∈letters.cps.toList,c<128:=by decide +kernel
theorem letter {i:Int} (h0:0≤i) (h1:i<26):∃ c,ixD (.str letters) i=some (.str ⟨#[c]⟩)∧Gn 1 ⟨#[c]⟩:=by
  have hline:sizeLine=16777216:=sizeLine_eq
  have hl:letters.cps.toList.length=26:=by decide +kernel
  have hz:letters.length≤sizeLine:=by rw [hline]; decide +kernel
  have hi:i.toNat<letters.cps.toList.length:=by omega
  refine ⟨letters.cps.toList[i.toNat],?_,?_,Nat.le_refl _⟩
  · show (if letters.length≤sizeLine then (atI letters.cps.toList i).map _ else none)=_
    rw [if_pos hz]
    have:atI letters.cps.toList i=some letters.cps.toList[i.toNat]:=by
      unfold atI
      rw [ixN_in h0 (by omega)]
      exact List.getElem?_eq_getElem hi
    rw [this]
    rfl
  · intro c hc
    have hc:c=letters.cps.toList[i.toNat]:=by simpa using hc
    rw [hc]
    exact letters_le _ (List.getElem_mem hi)
theorem words:F_l_words []=some (.lst (WS.map D.str)):=by
  refine run_eqF F_l_words_def ?_
  rw [st_l_words]
  unfold B_l_words
  exact wp_ret (ev_lst (ev_cons rfl (ev_cons rfl (ev_cons rfl (ev_cons rfl (ev_cons rfl (ev_cons rfl rfl))))))) rfl
theorem kinds_ok:F_kinds []=some (.lst (KA.map insD)):=by
  refine run_eqG F_kinds_def ?_
  rw [st_kinds]
  unfold B_kinds
  exact wp_ret (ev_lst (ev_cons rfl (ev_cons rfl (ev_cons rfl (ev_cons rfl (ev_cons rfl (ev_cons rfl rfl))))))) rfl
theorem w1 {s:D}:F_Alike_word [s]=some (.str "alike"):=by refine run_eqF F_Alike_word_def ?_; rw [st_Alike_word]; unfold B_Alike_word; exact wp_ret rfl rfl
theorem w2 {s:D}:F_Open_word [s]=some (.str "open"):=by refine run_eqF F_Open_word_def ?_; rw [st_Open_word]; unfold B_Open_word; exact wp_ret rfl rfl
theorem w3 {s:D}:F_Tails_word [s]=some (.str "tails"):=by refine run_eqF F_Tails_word_def ?_; rw [st_Tails_word]; unfold B_Tails_word; exact wp_ret rfl rfl
theorem w4 {s:D}:F_Windows_word [s]=some (.str "windows"):=by refine run_eqF F_Windows_word_def ?_; rw [st_Windows_word]; unfold B_Windows_word; exact wp_ret rfl rfl
theorem w5 {s:D}:F_Tree_word [s]=some (.str "tree"):=by refine run_eqF F_Tree_word_def ?_; rw [st_Tree_word]; unfold B_Tree_word; exact wp_ret rfl rfl
theorem w6 {s:D}:F_Pairs_word [s]=some (.str "pairs"):=by refine run_eqF F_Pairs_word_def ?_; rw [st_Pairs_word]; unfold B_Pairs_word; exact wp_ret rfl rfl
noncomputable abbrev MT:List (Addr×(List D→Option D)):=[(ca_Alike,F_Alike_word),(ca_Open,F_Open_word),(ca_Tails,F_Tails_word),(ca_Windows,F_Windows_word),(ca_Tree,F_Tree_word),(ca_Pairs,F_Pairs_word)]
theorem meth_at {k:Nat} {C:Addr} {w:Str} {a:DE} {ρ:Rho} (h1:KA[k]?=some C) (h2:WS[k]?=some w) (ha:a ρ=some (.ins C)):dMeth MT a dNil ρ=some (.str w):=by
  unfold KA at h1
  unfold WS at h2
  match k,h1,h2 with
  | 0,h1,h2=>cases h1; cases h2; exact ev_meth ha rfl rfl w1
  | 1,h1,h2=>cases h1; cases h2; exact ev_meth ha rfl rfl w2
  | 2,h1,h2=>cases h1; cases h2; exact ev_meth ha rfl rfl w3
  | 3,h1,h2=>cases h1; cases h2; exact ev_meth ha rfl rfl w4
  | 4,h1,h2=>cases h1; cases h2; exact ev_meth ha rfl rfl w5
  | 5,h1,h2=>cases h1; cases h2; exact ev_meth ha rfl rfl w6
theorem ka_ws {j:Nat} {d:D} (h:(KA.map insD)[j]?=some d):∃ C w,d=.ins C∧KA[j]?=some C∧WS[j]?=some w:=by
  rw [List.getElem?_map] at h
  obtain ⟨C,h1,rfl⟩:=Option.map_eq_some_iff.mp h
  have hj:j<6:=(List.getElem?_eq_some_iff.mp h1).1
  exact ⟨C,_,rfl,h1,List.getElem?_eq_getElem (l:=WS) hj⟩
theorem kind_of {x:Str} (hx:x∈WS):∃ (k:Nat) (C:Addr),F_kind_of [.str x]=some (.ins C)∧KA[k]?=some C∧WS[k]?=some x:=by
  obtain ⟨d,e,k,C,rfl,h1,h2⟩:=run_ofF F_kind_of_def (ds:=[.str x]) (P:=fun d=>∃ (k:Nat) (C:Addr),d=.ins C∧KA[k]?=some C∧WS[k]?=some x) (by
    rw [st_kind_of]
    unfold B_kind_of
    refine wp_seq (wp_for (ev_asL (ev_call rfl kinds_ok) rfl) (fun j ρ=>(∃ v,ρ=[.bo (.str x),v])∧∀ i,i<j→WS[i]?≠some x) ⟨⟨_,rfl⟩,fun i h=>by omega⟩ ?_ ?_)
    · rintro j d ρ hd ⟨⟨v,rfl⟩,hn⟩
      obtain ⟨C,w,rfl,h1,h2⟩:=ka_ws hd
      refine ⟨_,rfl,?_⟩
      dsimp only [gN,slm,List.set_cons_succ,List.set_cons_zero]
      refine wp_ifp (ev_t (ev_eqT (meth_at h1 h2 rfl) rfl)) (fun e=>?_) (fun e=>wp_pass ⟨⟨_,rfl⟩,fun i hi=>?_⟩)
      · exact wp_ret rfl ⟨j,C,rfl,h1,by rw [← e]; exact h2⟩
      · rcases Nat.lt_succ_iff_lt_or_eq.mp hi with h | rfl
        · exact hn i h
        · rw [h2]; exact fun q=>e (Option.some.inj q)
    · rintro ρ ⟨_,hn⟩
      obtain ⟨i,hi,e⟩:=List.getElem_of_mem hx
      exact absurd (by rw [List.getElem?_eq_getElem hi,e]) (hn i hi))
  exact ⟨k,C,e,h1,h2⟩
theorem kind_ofX {x:Str} (hx:x∉WS) (hg:Gn 40 x):X_kind_of [.str x]=some .non:=by
  refine run_eqG X_kind_of_def ?_
  rw [st_kind_of]
  unfold BX_kind_of
  refine wp_seq (wp_for (ev_asL (ev_call rfl kinds_ok) rfl) (fun j ρ=>∃ v,ρ=[.bo (.str x),v]) ⟨_,rfl⟩ ?_ ?_)
  · rintro j d ρ hd ⟨v,rfl⟩
    obtain ⟨C,w,rfl,h1,h2⟩:=ka_ws hd
    refine ⟨_,rfl,?_⟩
    dsimp only [gN,slm,List.set_cons_succ,List.set_cons_zero]
    exact wp_ifp (ev_t (ev_eqT (meth_at h1 h2 rfl) rfl)) (fun e=>absurd (by rw [← e]; exact List.mem_of_getElem? h2) hx) fun _=>wp_pass ⟨_,rfl⟩
  · rintro ρ ⟨v,rfl⟩
    exact wp_raiseR rfl hg.repr rfl
theorem refused {x:Str} (hx:x∉WS) (hg:Gn 40 x):F_l_refused [.str x]=some (.bl true):=by
  refine run_eqF F_l_refused_def ?_
  rw [st_l_refused]
  unfold B_l_refused
  exact wp_seq (wp_set rfl (wp_refused (by simp) (ev_call (ev_cons rfl rfl) (kind_ofX hx hg)) rfl))
theorem comp6 {j:Int} {v0 v2 v3:Sl}:dComp 1 [1] (dRg1 (dC (.int 6))) (gN true 0) dTrue (dEq false (dVar 0) (dVar 1)) [v0,.bo (.int j),v2,v3]=some (([0,1,2,3,4,5]:List Int).map fun i=>D.bl (decide (i=j))):=by
  have hline:sizeLine=16777216:=sizeLine_eq
  refine ev_compA0 D.int (ev_rg1 (i:=6) rfl ⟨by decide,by rw [hline]; decide⟩) _ fun x _=>⟨_,rfl,ev_eqF rfl rfl⟩
local macro_rules | `(tactic| walk_at "isk")=>`(tactic| (
  refine wp_seq (wp_ifF (ev_not (x:=true) (ev_tru (ev_isC rfl rfl) rfl)) (wp_pass ?_))
  refine wp_seq (wp_set (ev_meth rfl rfl rfl (by assumption)) ?_)
  walk_at "st"
  refine wp_seq (wp_ifF (ev_or (x:=false) (y:=false) (ev_not (x:=true) (ev_tru (d:=.bl true) rfl rfl)) fun _=>ev_or (x:=false) (y:=false) (ev_t (ev_neSame rfl (ev_ix (ev_call rfl words) rfl rfl) rfl)) fun _=>ev_t (ev_neSame (ev_isC rfl rfl) ((ev_gt rfl rfl).trans rfl) rfl)) (wp_pass ?_))
  refine wp_seq (wp_set (ev_lst (ev_cons (ev_isC rfl rfl) (ev_cons (ev_isC rfl rfl) (ev_cons (ev_isC rfl rfl) (ev_cons (ev_isC rfl rfl) rfl))))) ?_)
  walk_at "st"
  exact wp_ret (ev_eqSame (ev_lst (ev_cat rfl (ev_lst (ev_cons (ev_isC rfl rfl) (ev_cons (ev_isC rfl rfl) rfl))) (by rw [sizeLine_eq]; decide))) (ev_lst comp6) rfl) rfl))
theorem is_kind {k:Nat} {C:Addr} (h:KA[k]?=some C):F_l_is_kind [.ins C,.int k]=some (.bl true):=by
  have hline:sizeLine=16777216:=sizeLine_eq
  unfold KA at h
  refine run_eqF F_l_is_kind_def ?_
  rw [st_l_is_kind]
  unfold B_l_is_kind
  match k,h with
  | 0,h=>cases h; have hw:=@w1 (.ins ca_Alike); walk_at "isk"
  | 1,h=>cases h; have hw:=@w2 (.ins ca_Open); walk_at "isk"
  | 2,h=>cases h; have hw:=@w3 (.ins ca_Tails); walk_at "isk"
  | 3,h=>cases h; have hw:=@w4 (.ins ca_Windows); walk_at "isk"
  | 4,h=>cases h; have hw:=@w5 (.ins ca_Tree); walk_at "isk"
  | 5,h=>cases h; have hw:=@w6 (.ins ca_Pairs); walk_at "isk"
theorem fold_ok {xs:List Str} (h:∀ s∈xs,Gn 1 s):∀ (acc:Array Nat) (n:Nat),Gn n ⟨acc⟩→Gn (n+xs.length) ⟨xs.foldl (fun acc p=>acc++("" : Str).cps++p.cps) acc⟩:=by
  induction xs with
  | nil=>intro acc n g; exact g
  | cons x r ih =>
    intro acc n g
    rw [List.foldl_cons,List.length_cons,show n+(r.length+1)=(n+1)+r.length by omega]
    refine ih (fun s hs=>h s (List.mem_cons_of_mem _ hs)) _ _ ?_
    have g0:Gn 0 "" := ⟨by decide,by decide⟩
    exact (g.app g0).app (h x List.mem_cons_self)
theorem glued_ok {xs:List Str} (h:∀ s∈xs,Gn 1 s):Gn xs.length (Builtin.Str.glued "" xs)∧xs.toArray.foldl (·+·.length+("" : Str).length) 0≤xs.length:=by
  constructor
  · unfold Builtin.Str.glued
    cases xs with
    | nil=>exact ⟨by decide,by decide⟩
    | cons x r =>
      have:=fold_ok (xs:=r) (fun s hs=>h s (List.mem_cons_of_mem _ hs)) x.cps 1 (h x List.mem_cons_self)
      rw [List.length_cons,Nat.add_comm]
      exact this
  · rw [List.foldl_toArray]
    have:∀ (l:List Str) (a:Nat),(∀ s∈l,Gn 1 s)→l.foldl (·+·.length+("" : Str).length) a≤a+l.length:=by
      intro l
      induction l with
      | nil=>intro a _; exact Nat.le_refl _
      | cons x r ih =>
        intro a hl
        rw [List.foldl_cons,List.length_cons]
        have h1:=(hl x List.mem_cons_self).2
        have h2:=ih (a+x.length+("" : Str).length) fun s hs=>hl s (List.mem_cons_of_mem _ hs)
        have h3:("" : Str).length=0:=by decide
        omega
    have:=this xs 0 h
    omega
theorem l_word {c:Int} (hb:Builtin.Int.intBits c≤1048576):∃ x,F_l_word [.int c]=some (.str x)∧Gn 40 x:=by
  have hline:sizeLine=16777216:=sizeLine_eq
  obtain ⟨d,e,x,rfl,hx⟩:=run_ofF F_l_word_def (ds:=[.int c]) (P:=fun d=>∃ x,d=.str x∧Gn 40 x) (by
    rw [st_l_word]
    unfold B_l_word
    refine wp_seq (wp_set (ev_call rfl words) ?_)
    walk_at "st"
    obtain ⟨w,ew,hw⟩:=ws_at (i:=c % 6) (Int.emod_nonneg _ (by decide)) (Int.emod_lt_of_pos _ (by decide))
    refine wp_seq (wp_set (ev_ix rfl (ev_mod rfl rfl (by decide)) ew) ?_)
    walk_at "st"
    have gw:=ws_get hw
    have lw:w.length≤7:=gw.2
    refine wp_seq (wp_set (ev_mod (ev_fdiv rfl rfl (fdok (by omega) (by omega))) rfl (by decide)) ?_)
    walk_at "st"
    refine wp_seq (wp_set (ev_mod (ev_call (ev_cons rfl (ev_cons rfl rfl)) (mix c 1 (by omega) (by decide) (by decide))) (ev_add (ev_f1 rfl (if_pos (by omega))) rfl) (by omega)) ?_)
    walk_at "st"
    generalize mixZ c 1 % ((w.length:Int)+1)=at_
    refine wp_seq (wp_set rfl ?_)
    walk_at "st"
    have lz:w.length≤sizeLine:=by omega
    refine wp_seq (wp_ifp (ev_t (ev_eqF rfl rfl)) (fun _=>wp_ret (ev_slT rfl rfl (ev_oSome (ev_neg rfl)) lz) ⟨_,rfl,(gw.slice _ _).mono (by decide)⟩) fun _=>wp_pass ?_)
    refine wp_seq (wp_ifp (ev_t (ev_eqF rfl rfl)) (fun _=>?_) fun _=>wp_pass ?_)
    · obtain ⟨s,es,gs⟩:=letter (i:=mixZ c 2 % 26) (Int.emod_nonneg _ (by decide)) (Int.emod_lt_of_pos _ (by decide))
      have g1:=gw.slice none (some at_)
      have g2:=gw.slice (some at_) none
      have l1:=g1.2
      have l2:=g2.2
      have g3:=g1.app gs
      have l3:=g3.2
      have l4:=gs.2
      refine wp_ret (ev_tt (ev_tt (ev_slT rfl rfl (ev_oSome rfl) lz) (ev_ix rfl (ev_mod (ev_call (ev_cons rfl (ev_cons rfl rfl)) (mix c 2 (by omega) (by decide) (by decide))) rfl (by decide)) es) (if_pos (by omega))) (ev_slT rfl (ev_oSome rfl) rfl lz) (if_pos (by omega))) ⟨_,rfl,(g3.app g2).mono (by decide)⟩
    refine wp_seq (wp_ifp (ev_t (ev_eqF rfl rfl)) (fun _=>?_) fun _=>wp_pass ?_)
    · have g1:=gw.slice none (some at_)
      have g2:=gw.slice (some at_) none
      have gs:Gn 1 " " := ⟨by decide,by decide⟩
      have l1:=g1.2
      have l2:=g2.2
      have g3:=g1.app gs
      have l3:=g3.2
      have l4:=gs.2
      refine wp_ret (ev_tt (ev_tt (ev_slT rfl rfl (ev_oSome rfl) lz) rfl (if_pos (by omega))) (ev_slT rfl (ev_oSome rfl) rfl lz) (if_pos (by omega))) ⟨_,rfl,(g3.app g2).mono (by decide)⟩
    refine wp_seq (wp_ifp (ev_t (ev_eqF rfl rfl)) (fun _=>?_) fun _=>wp_pass ?_)
    · have g1:=gw.slice none (some at_)
      have g2:=gw.slice (some (at_+1)) none
      have g0:=gw.slice (some at_) (some (at_+1))
      have gs:=g0.up
      have l1:=g1.2
      have l0:=g0.2
      have l2:=g2.2
      have g3:=g1.app gs
      have l3:=g3.2
      have l4:=gs.2
      refine wp_ret (ev_tt (ev_tt (ev_slT rfl rfl (ev_oSome rfl) lz) (ev_up (ev_slT rfl (ev_oSome rfl) (ev_oSome (ev_add rfl rfl)) lz) (by omega)) (if_pos (by omega))) (ev_slT rfl (ev_oSome (ev_add rfl rfl)) rfl lz) (if_pos (by omega))) ⟨_,rfl,(g3.app g2).mono (by decide)⟩
    refine wp_seq (wp_ifp (ev_t (ev_eqF rfl rfl)) (fun _=>?_) fun _=>wp_pass ?_)
    · obtain ⟨v,ev,hv⟩:=ws_at (i:=mixZ c 3 % 6) (Int.emod_nonneg _ (by decide)) (Int.emod_lt_of_pos _ (by decide))
      have gv:=ws_get hv
      have l2:=gv.2
      refine wp_ret (ev_tt rfl (ev_ix rfl (ev_mod (ev_call (ev_cons rfl (ev_cons rfl rfl)) (mix c 3 (by omega) (by decide) (by decide))) rfl (by decide)) ev) (if_pos (by omega))) ⟨_,rfl,(gw.app gv).mono (by decide)⟩
    refine wp_seq (wp_ifp (ev_t (ev_eqF rfl rfl)) (fun _=>?_) fun _=>wp_pass ?_)
    · obtain ⟨m0,m1⟩:=mixZ_lt c 4
      obtain ⟨n,hn,hn9⟩:∃ n:Nat,mixZ c 4 % 10=n∧n<10:=⟨(mixZ c 4 % 10).toNat,by omega,by omega⟩
      have hc:∀ k:Nat,k<10→∃ s,ixD (.str letters) (mixZ (c+(k:Int)*(k:Int)) (k:Int) % 26)=some (.str s)∧Gn 1 s:=fun k _=>by
        obtain ⟨s,es,gs⟩:=letter (i:=mixZ (c+(k:Int)*(k:Int)) (k:Int) % 26) (Int.emod_nonneg _ (by decide)) (Int.emod_lt_of_pos _ (by decide))
        exact ⟨_,es,gs⟩
      obtain ⟨f,hf⟩:∃ f:Nat→Str,∀ k:Nat,k<10→ixD (.str letters) (mixZ (c+(k:Int)*(k:Int)) (k:Int) % 26)=some (.str (f k))∧Gn 1 (f k):=by
        refine ⟨fun k=>if h:k<10 then (hc k h).choose else "", fun k h=>?_⟩
        dsimp only
        rw [dif_pos h]
        exact (hc k h).choose_spec
      have gg:=glued_ok (xs:=(List.range n).map f) fun s hs=>by
        obtain ⟨k,hk,rfl⟩:=List.mem_map.mp hs
        exact (hf k (by have:=List.mem_range.mp hk; omega)).2
      rw [List.length_map,List.length_range] at gg
      have gl:=gg.1.2
      refine wp_ret (ev_join rfl (ev_lst (ds:=((List.range n).map f).map D.str) ?_) ⟨?_,by omega⟩) ⟨_,rfl,gg.1.mono (by omega)⟩
      · rw [List.map_map]
        refine ev_compA0 (fun k:Nat=>D.int (0+(k:Int))) (xs:=List.range n) ?_ _ fun k hk=>⟨_,rfl,?_⟩
        · have:=ev_rg1 (a:=dMod (dCall F_l_mix (dCons (dVar 0) (dCons (dC (.int 4)) dNil))) (dC (.int 10))) (ρ:=[.bo (.int c),.pu (.lst (WS.map D.str)),.pu (.str w),.pu (.int (c / 6 % 8)),.pu (.int at_),.pu (.str letters)]) (ev_mod (ev_call (ev_cons rfl (ev_cons rfl rfl)) (mix c 4 (by omega) (by decide) (by decide))) rfl (by decide)) ⟨by omega,by omega⟩
          rw [hn] at this
          exact this
        · have hk9:k<10:=by have:=List.mem_range.mp hk; omega
          have hs:(k:Int)*(k:Int)<100:=Int.lt_of_le_of_lt (Int.mul_le_mul (show (k:Int)≤9 by omega) (show (k:Int)≤9 by omega) (by omega) (by omega)) (by decide)
          have hs0:0≤(k:Int)*(k:Int):=Int.mul_nonneg (by omega) (by omega)
          rw [show (0:Int)+(k:Int)=(k:Int) by omega]
          exact ev_ix rfl (ev_mod (ev_call (ev_cons (ev_add rfl (ev_mul rfl rfl (imul (by omega)))) (ev_cons rfl rfl)) (mix _ _ (bits_add (k:=1048576) (by decide) hb hs0 (by omega)) (by omega) (by omega))) rfl (by decide)) (hf k hk9).1
      · have:=gg.2
        unfold Builtin.Str.tooLong
        rw [decide_eq_false_iff_not,hline]
        omega
    exact wp_ret rfl ⟨_,rfl,gw.mono (by decide)⟩)
  exact ⟨x,e,hx⟩
theorem law_true (ns:List Int) (hl:ns.length≤63) (hb:∀ m∈ns,Builtin.Int.intBits m≤1048576):F_law [.scr ns]=some (.bl true):=by
  have hline:sizeLine=16777216:=sizeLine_eq
  refine run_eqF F_law_def ?_
  rw [st_law]
  unfold B_law
  obtain ⟨ks,ek,hk,hkl⟩:∃ ks:List Int,cutL (ns.map D.int) none (some 63)=ks.map D.int∧(∀ m∈ks,m∈ns)∧ks.length≤ns.length:=by
    unfold cutL
    rw [← List.map_drop,← List.map_take]
    refine ⟨_,rfl,fun m hm=>List.mem_of_mem_drop (List.mem_of_mem_take hm),?_⟩
    rw [List.length_take,List.length_drop]
    omega
  have hf:flatL (ks.map D.int)=true:=by
    unfold flatL
    rw [List.all_eq_true]
    intro d hd
    obtain ⟨m,_,rfl⟩:=List.mem_map.mp hd
    rfl
  refine wp_seq (wp_set (d:=.lst (KA.map insD)) (ev_lst (ev_cons rfl (ev_cons rfl (ev_cons rfl (ev_cons rfl (ev_cons rfl (ev_cons rfl rfl))))))) ?_)
  walk_at "st"
  refine wp_seq (wp_for (ev_rg1 rfl ⟨by decide,by rw [hline]; decide⟩) (fun _ ρ=>∃ v2 v3 v4 v5 v6:Sl,ρ=[.bo (.scr ns),.pu (.lst (KA.map insD)),v2,v3,v4,v5,v6]) ⟨_,_,_,_,_,rfl⟩ ?_ ?_)
  · rintro j d ρ hd ⟨v2,v3,v4,v5,v6,rfl⟩
    have hj:j<2∧d=.int j:=by
      match j,hd with
      | 0,hd=>cases hd; exact ⟨by decide,rfl⟩
      | 1,hd=>cases hd; exact ⟨by decide,rfl⟩
    obtain ⟨hj,rfl⟩:=hj
    refine ⟨_,rfl,?_⟩
    dsimp only [gN,slm,List.set_cons_succ,List.set_cons_zero]
    refine wp_seq (wp_setO (ev_callF rfl kinds_ok) (by simp) ?_)
    walk_at "st"
    refine wp_seq (wp_ifF (ev_or (x:=false) (y:=false) (ev_not (x:=true) (ev_tru (d:=.bl true) rfl rfl)) fun _=>ev_t ((ev_neF (i:=6) (j:=6) rfl rfl).trans rfl)) (wp_pass ?_))
    refine wp_seq (wp_for (ev_rg1 rfl ⟨by decide,by rw [hline]; decide⟩) (fun _ ρ=>∃ v4 v5 v6:Sl,ρ=[.bo (.scr ns),.pu (.lst (KA.map insD)),.pu (.int j),.ol (KA.map insD),v4,v5,v6]) ⟨_,_,_,rfl⟩ ?_ ?_)
    · rintro i d ρ hd ⟨v4,v5,v6,rfl⟩
      obtain ⟨C,hC,rfl⟩:∃ C:Addr,KA[i]?=some C∧d=.int i:=by
        match i,hd with
        | 0,hd=>cases hd; exact ⟨_,rfl,rfl⟩
        | 1,hd=>cases hd; exact ⟨_,rfl,rfl⟩
        | 2,hd=>cases hd; exact ⟨_,rfl,rfl⟩
        | 3,hd=>cases hd; exact ⟨_,rfl,rfl⟩
        | 4,hd=>cases hd; exact ⟨_,rfl,rfl⟩
        | 5,hd=>cases hd; exact ⟨_,rfl,rfl⟩
      have hi:i<6:=(List.getElem?_eq_some_iff.mp hC).1
      have hx:ixD (.lst (KA.map insD)) (i:Int)=some (.ins C):=by
        show atI (KA.map insD) (i:Int)=_
        unfold atI
        rw [ixN_in (by omega) (show (i:Int)<((KA.map insD).length:Nat) from Int.ofNat_lt.mpr hi)]
        show (KA.map insD)[i]?=_
        rw [List.getElem?_map,hC]
        rfl
      refine ⟨_,rfl,?_⟩
      dsimp only [gN,slm,List.set_cons_succ,List.set_cons_zero]
      exact wp_ifF (ev_or (x:=false) (y:=false) (ev_not (x:=true) (ev_tru (ev_call (ev_cons (ev_ix rfl rfl hx) (ev_cons rfl rfl)) (is_kind hC)) rfl)) fun _=>ev_not (x:=true) (ev_tru (ev_call (ev_cons (ev_ix rfl rfl hx) (ev_cons rfl rfl)) (is_kind hC)) rfl)) (wp_pass ⟨_,_,_,rfl⟩)
    · rintro ρ ⟨v4,v5,v6,rfl⟩
      have hlen:(KA.map insD).length=6:=rfl
      refine wp_seq (wp_pop rfl (ev_mul rfl rfl (imul (by omega))) ⟨by omega,by rw [hlen]; omega⟩ ?_)
      walk_at "st"
      have h0:∃ d,atI ((KA.map insD).eraseIdx (2*(j:Int)).toNat) 0=some d:=by
        match j,hj with
        | 0,_=>exact ⟨_,rfl⟩
        | 1,_=>exact ⟨_,rfl⟩
      obtain ⟨d,hd⟩:=h0
      refine wp_app rfl (d:=d) hd ?_ ⟨_,_,_,_,_,rfl⟩
      rw [List.length_eraseIdx,hlen,hline]
      split <;> decide
  · rintro ρ ⟨v2,v3,v4,v5,v6,rfl⟩
    refine wp_seq (wp_for (ds:=(36::ks).map D.int) (ev_asL (ev_lst (ev_cat (xs:=[.int 36]) (ys:=ks.map D.int) rfl (ev_lst (ev_flat (by rw [← ek]; exact ev_sl (ev_asL rfl rfl) rfl rfl) hf)) (by rw [List.length_map]; simp; omega))) rfl) (fun _ ρ=>∃ v1 v2 v3 v4 v5 v6:Sl,ρ=[.bo (.scr ns),v1,v2,v3,v4,v5,v6]) ⟨_,_,_,_,_,_,rfl⟩ ?_ ?_)
    · rintro j d ρ hd ⟨v1,v2,v3,v4,v5,v6,rfl⟩
      rw [List.getElem?_map] at hd
      obtain ⟨c,hc,rfl⟩:=Option.map_eq_some_iff.mp hd
      refine ⟨_,rfl,?_⟩
      dsimp only [gN,slm,List.set_cons_succ,List.set_cons_zero]
      have hcb:Builtin.Int.intBits c≤1048576:=by
        rcases List.mem_cons.mp (List.mem_of_getElem? hc) with rfl | h
        · decide
        · exact hb c (hk c h)
      obtain ⟨x,ex,gx⟩:=l_word hcb
      refine wp_seq (wp_set (ev_call (ev_cons rfl rfl) ex) ?_)
      walk_at "st"
      by_cases hx:x∈WS
      · refine wp_ifT (ev_t ((ev_inX rfl (ev_call rfl words)).trans ?_)) ?_
        · rw [if_neg Bool.false_ne_true,decide_eq_true hx]
        · obtain ⟨k,C,e,h1,h2⟩:=kind_of hx
          have hi:WS.idxOf x=k:=by
            unfold WS at h2 ⊢
            match k,h2 with
            | 0,h2=>cases h2; decide
            | 1,h2=>cases h2; decide
            | 2,h2=>cases h2; decide
            | 3,h2=>cases h2; decide
            | 4,h2=>cases h2; decide
            | 5,h2=>cases h2; decide
          exact wp_ifF (ev_not (x:=true) (ev_tru (ev_call (ev_cons (ev_call (ev_cons rfl rfl) e) (ev_cons (ev_indexT (ev_call rfl words) rfl hx) rfl)) (by rw [hi]; exact is_kind h1)) rfl)) (wp_pass ⟨_,_,_,_,_,_,rfl⟩)
      · refine wp_ifF (ev_t ((ev_inX rfl (ev_call rfl words)).trans ?_)) ?_
        · rw [if_neg Bool.false_ne_true,decide_eq_false hx]
        · exact wp_ifF (ev_not (x:=true) (ev_tru (ev_call (ev_cons rfl rfl) (refused hx gx)) rfl)) (wp_pass ⟨_,_,_,_,_,_,rfl⟩)
    · rintro ρ ⟨v1,v2,v3,v4,v5,v6,rfl⟩
      exact wp_ret rfl rfl
theorem all_mk {K:PySem.W.Frag} {h:Heap} {mg:Str→Option Value} {fa:Addr} (X:K.In h) (G:h.Ns mainGlobals mg) (hfa:mg "law" = some (.ref fa))
    {f0:Addr} {od0 an0:Option Addr} {sl0:Array (Option Value)} {oc0 kV0 dc0 pm0 cd0 ct0:Value}
    {f1:Addr} {od1 an1:Option Addr} {sl1:Array (Option Value)} {oc1 kV1 dc1 pm1 cd1 ct1:Value}
    {f2:Addr} {od2 an2:Option Addr} {sl2:Array (Option Value)} {oc2 kV2 dc2 pm2 cd2 ct2:Value}
    {f3:Addr} {od3 an3:Option Addr} {sl3:Array (Option Value)} {oc3 kV3 dc3 pm3 cd3 ct3:Value}
    {f4:Addr} {od4 an4:Option Addr} {sl4:Array (Option Value)} {oc4 kV4 dc4 pm4 cd4 ct4:Value}
    {f5:Addr} {od5 an5:Option Addr} {sl5:Array (Option Value)} {oc5 kV5 dc5 pm5 cd5 ct5:Value}
    {f6:Addr} {od6 an6:Option Addr} {sl6:Array (Option Value)} {oc6 kV6 dc6 pm6 cd6 ct6:Value}
    {f7:Addr} {od7 an7:Option Addr} {sl7:Array (Option Value)} {oc7 kV7 dc7 pm7 cd7 ct7:Value}
    {f8:Addr} {od8 an8:Option Addr} {sl8:Array (Option Value)} {oc8 kV8 dc8 pm8 cd8 ct8:Value}
    {f9:Addr} {od9 an9:Option Addr} {sl9:Array (Option Value)} {oc9 kV9 dc9 pm9 cd9 ct9:Value}
    {f10:Addr} {od10 an10:Option Addr} {sl10:Array (Option Value)} {oc10 kV10 dc10 pm10 cd10 ct10:Value}
    {f11:Addr} {od11 an11:Option Addr} {sl11:Array (Option Value)} {oc11 kV11 dc11 pm11 cd11 ct11:Value}
    {f12:Addr} {od12 an12:Option Addr} {sl12:Array (Option Value)} {oc12 kV12 dc12 pm12 cd12 ct12:Value}
    {f13:Addr} {od13 an13:Option Addr} {sl13:Array (Option Value)} {oc13 kV13 dc13 pm13 cd13 ct13:Value}
    {c_NoKind:Addr}
    {c_FloorError:Addr}
    {c_NoRoom:Addr}
    {c_NoOrder:Addr}
    {c_NoText:Addr}
    {c_NoFloor:Addr}
    {c_NoRow:Addr}
    {c_NoName:Addr}
    (a0:PySem.W.findIn K (.ref 656) "word" = some (some (.ref f0))) (l0:K.lookup f0=some ⟨oc0,od0,.func (PySem.W.fnOf "word" "Alike.word" (defArgs s_Alike_word) (defBody s_Alike_word) (defScope s_Alike_word) .none kV0 dc0 pm0 an0 cd0 ct0),sl0⟩) (c0:PySem.W.codeIn K cd0 "Alike.word" = true) (k0:PySem.W.keepIn K (.ref f0)=true)
    (n0:PySem.W.isFn K (.ref f0)=true)
    (a1:PySem.W.findIn K (.ref 715) "word" = some (some (.ref f1))) (l1:K.lookup f1=some ⟨oc1,od1,.func (PySem.W.fnOf "word" "Open.word" (defArgs s_Open_word) (defBody s_Open_word) (defScope s_Open_word) .none kV1 dc1 pm1 an1 cd1 ct1),sl1⟩) (c1:PySem.W.codeIn K cd1 "Open.word" = true) (k1:PySem.W.keepIn K (.ref f1)=true)
    (n1:PySem.W.isFn K (.ref f1)=true)
    (a2:PySem.W.findIn K (.ref 774) "word" = some (some (.ref f2))) (l2:K.lookup f2=some ⟨oc2,od2,.func (PySem.W.fnOf "word" "Tails.word" (defArgs s_Tails_word) (defBody s_Tails_word) (defScope s_Tails_word) .none kV2 dc2 pm2 an2 cd2 ct2),sl2⟩) (c2:PySem.W.codeIn K cd2 "Tails.word" = true) (k2:PySem.W.keepIn K (.ref f2)=true)
    (n2:PySem.W.isFn K (.ref f2)=true)
    (a3:PySem.W.findIn K (.ref 831) "word" = some (some (.ref f3))) (l3:K.lookup f3=some ⟨oc3,od3,.func (PySem.W.fnOf "word" "Windows.word" (defArgs s_Windows_word) (defBody s_Windows_word) (defScope s_Windows_word) .none kV3 dc3 pm3 an3 cd3 ct3),sl3⟩) (c3:PySem.W.codeIn K cd3 "Windows.word" = true) (k3:PySem.W.keepIn K (.ref f3)=true)
    (n3:PySem.W.isFn K (.ref f3)=true)
    (a4:PySem.W.findIn K (.ref 951) "word" = some (some (.ref f4))) (l4:K.lookup f4=some ⟨oc4,od4,.func (PySem.W.fnOf "word" "Tree.word" (defArgs s_Tree_word) (defBody s_Tree_word) (defScope s_Tree_word) .none kV4 dc4 pm4 an4 cd4 ct4),sl4⟩) (c4:PySem.W.codeIn K cd4 "Tree.word" = true) (k4:PySem.W.keepIn K (.ref f4)=true)
    (n4:PySem.W.isFn K (.ref f4)=true)
    (a5:PySem.W.findIn K (.ref 1015) "word" = some (some (.ref f5))) (l5:K.lookup f5=some ⟨oc5,od5,.func (PySem.W.fnOf "word" "Pairs.word" (defArgs s_Pairs_word) (defBody s_Pairs_word) (defScope s_Pairs_word) .none kV5 dc5 pm5 an5 cd5 ct5),sl5⟩) (c5:PySem.W.codeIn K cd5 "Pairs.word" = true) (k5:PySem.W.keepIn K (.ref f5)=true)
    (n5:PySem.W.isFn K (.ref f5)=true)
    (a6:PySem.W.nsIn K mainGlobals "kinds" = some (some (.ref f6))) (l6:K.lookup f6=some ⟨oc6,od6,.func (PySem.W.fnOf "kinds" "kinds" (defArgs s_kinds) (defBody s_kinds) (defScope s_kinds) .none kV6 dc6 pm6 an6 cd6 ct6),sl6⟩) (c6:PySem.W.codeIn K cd6 "kinds" = true) (k6:PySem.W.keepIn K (.ref f6)=true)
    (a7:PySem.W.nsIn K mainGlobals "kind_of" = some (some (.ref f7))) (l7:K.lookup f7=some ⟨oc7,od7,.func (PySem.W.fnOf "kind_of" "kind_of" (defArgs s_kind_of) (defBody s_kind_of) (defScope s_kind_of) .none kV7 dc7 pm7 an7 cd7 ct7),sl7⟩) (c7:PySem.W.codeIn K cd7 "kind_of" = true) (k7:PySem.W.keepIn K (.ref f7)=true)
    (a8:PySem.W.nsIn K mainGlobals "_law_mix" = some (some (.ref f8))) (l8:K.lookup f8=some ⟨oc8,od8,.func (PySem.W.fnOf "_law_mix" "_law_mix" (defArgs s_l_mix) (defBody s_l_mix) (defScope s_l_mix) .none kV8 dc8 pm8 an8 cd8 ct8),sl8⟩) (c8:PySem.W.codeIn K cd8 "_law_mix" = true) (k8:PySem.W.keepIn K (.ref f8)=true)
    (a9:PySem.W.nsIn K mainGlobals "_law_words" = some (some (.ref f9))) (l9:K.lookup f9=some ⟨oc9,od9,.func (PySem.W.fnOf "_law_words" "_law_words" (defArgs s_l_words) (defBody s_l_words) (defScope s_l_words) .none kV9 dc9 pm9 an9 cd9 ct9),sl9⟩) (c9:PySem.W.codeIn K cd9 "_law_words" = true) (k9:PySem.W.keepIn K (.ref f9)=true)
    (a10:PySem.W.nsIn K mainGlobals "_law_word" = some (some (.ref f10))) (l10:K.lookup f10=some ⟨oc10,od10,.func (PySem.W.fnOf "_law_word" "_law_word" (defArgs s_l_word) (defBody s_l_word) (defScope s_l_word) .none kV10 dc10 pm10 an10 cd10 ct10),sl10⟩) (c10:PySem.W.codeIn K cd10 "_law_word" = true) (k10:PySem.W.keepIn K (.ref f10)=true)
    (a11:PySem.W.nsIn K mainGlobals "_law_is_kind" = some (some (.ref f11))) (l11:K.lookup f11=some ⟨oc11,od11,.func (PySem.W.fnOf "_law_is_kind" "_law_is_kind" (defArgs s_l_is_kind) (defBody s_l_is_kind) (defScope s_l_is_kind) .none kV11 dc11 pm11 an11 cd11 ct11),sl11⟩) (c11:PySem.W.codeIn K cd11 "_law_is_kind" = true) (k11:PySem.W.keepIn K (.ref f11)=true)
    (a12:PySem.W.nsIn K mainGlobals "_law_refused" = some (some (.ref f12))) (l12:K.lookup f12=some ⟨oc12,od12,.func (PySem.W.fnOf "_law_refused" "_law_refused" (defArgs s_l_refused) (defBody s_l_refused) (defScope s_l_refused) .none kV12 dc12 pm12 an12 cd12 ct12),sl12⟩) (c12:PySem.W.codeIn K cd12 "_law_refused" = true) (k12:PySem.W.keepIn K (.ref f12)=true)
    (a13:PySem.W.nsIn K mainGlobals "law" = some (some (.ref f13))) (l13:K.lookup f13=some ⟨oc13,od13,.func (PySem.W.fnOf "law" "law" (defArgs s_law) (defBody s_law) (defScope s_law) .none kV13 dc13 pm13 an13 cd13 ct13),sl13⟩) (c13:PySem.W.codeIn K cd13 "law" = true) (k13:PySem.W.keepIn K (.ref f13)=true)
    (z_ValueError:PySem.W.nsIn K mainGlobals "ValueError" = some none)
    (z_isinstance:PySem.W.nsIn K mainGlobals "isinstance" = some none)
    (z_len:PySem.W.nsIn K mainGlobals "len" = some none)
    (z_list:PySem.W.nsIn K mainGlobals "list" = some none)
    (z_range:PySem.W.nsIn K mainGlobals "range" = some none)
    (z_str:PySem.W.nsIn K mainGlobals "str" = some none)
    (m_Alike:PySem.W.nsIn K mainGlobals "Alike" = some (some (.ref 656)))
    (m_Open:PySem.W.nsIn K mainGlobals "Open" = some (some (.ref 715)))
    (m_Tails:PySem.W.nsIn K mainGlobals "Tails" = some (some (.ref 774)))
    (m_Windows:PySem.W.nsIn K mainGlobals "Windows" = some (some (.ref 831)))
    (m_Tree:PySem.W.nsIn K mainGlobals "Tree" = some (some (.ref 951)))
    (m_Pairs:PySem.W.nsIn K mainGlobals "Pairs" = some (some (.ref 1015)))
    (m_NoKind:PySem.W.nsIn K mainGlobals "NoKind" = some (some (.ref c_NoKind)))
    (m_Floor:PySem.W.nsIn K mainGlobals "Floor" = some (some (.ref 593)))
    (m_Turns:PySem.W.nsIn K mainGlobals "Turns" = some (some (.ref 885)))
    (m_FloorError:PySem.W.nsIn K mainGlobals "FloorError" = some (some (.ref c_FloorError)))
    (m_NoRoom:PySem.W.nsIn K mainGlobals "NoRoom" = some (some (.ref c_NoRoom)))
    (m_NoOrder:PySem.W.nsIn K mainGlobals "NoOrder" = some (some (.ref c_NoOrder)))
    (m_NoText:PySem.W.nsIn K mainGlobals "NoText" = some (some (.ref c_NoText)))
    (m_NoFloor:PySem.W.nsIn K mainGlobals "NoFloor" = some (some (.ref c_NoFloor)))
    (m_NoRow:PySem.W.nsIn K mainGlobals "NoRow" = some (some (.ref c_NoRow)))
    (m_NoName:PySem.W.nsIn K mainGlobals "NoName" = some (some (.ref c_NoName)))
    (mk_Alike_mk:PySem.W.makesIn K 656=true)
    (mk_Alike_in:PySem.W.findIn K (.ref 656) "__init__" = some (some (.builtin "object.__init__")))
    (mk_Alike_kp:PySem.W.keepIn K (.ref 656)=true)
    (mk_Open_mk:PySem.W.makesIn K 715=true)
    (mk_Open_in:PySem.W.findIn K (.ref 715) "__init__" = some (some (.builtin "object.__init__")))
    (mk_Open_kp:PySem.W.keepIn K (.ref 715)=true)
    (mk_Tails_mk:PySem.W.makesIn K 774=true)
    (mk_Tails_in:PySem.W.findIn K (.ref 774) "__init__" = some (some (.builtin "object.__init__")))
    (mk_Tails_kp:PySem.W.keepIn K (.ref 774)=true)
    (mk_Windows_mk:PySem.W.makesIn K 831=true)
    (mk_Windows_in:PySem.W.findIn K (.ref 831) "__init__" = some (some (.builtin "object.__init__")))
    (mk_Windows_kp:PySem.W.keepIn K (.ref 831)=true)
    (mk_Tree_mk:PySem.W.makesIn K 951=true)
    (mk_Tree_in:PySem.W.findIn K (.ref 951) "__init__" = some (some (.builtin "object.__init__")))
    (mk_Tree_kp:PySem.W.keepIn K (.ref 951)=true)
    (mk_Pairs_mk:PySem.W.makesIn K 1015=true)
    (mk_Pairs_in:PySem.W.findIn K (.ref 1015) "__init__" = some (some (.builtin "object.__init__")))
    (mk_Pairs_kp:PySem.W.keepIn K (.ref 1015)=true)
    (ki_Pairs_pg:PySem.W.plainGet K 1015 Str.empty=true)
    (ki_Pairs_hd:PySem.W.hasDictIn K 1015=true)
    (ki_Pairs_po:PySem.W.plainOver K 1015=true)
    (ki_Pairs_sa:PySem.W.findIn K (.ref 1015) "__setattr__" = some (some (.builtin "object.__setattr__")))
    (ki_Pairs_ca:PySem.W.findIn K (.ref 1015) "__class__" = some (some (.builtin "object.__class__")))
    (ki_Pairs_sp:PySem.W.specialIn K (.builtin "object.__class__") "__get__" = some (some (.builtin "getset_descriptor.__get__")))
    (ki_Pairs_tk:PySem.W.takesIn K (.builtin "object.__class__")=some true)
    (ki_Pairs_mro:PySem.W.mroIn K 1015 (.type "object")=some true)
    (ki_Tree_pg:PySem.W.plainGet K 951 Str.empty=true)
    (ki_Tree_hd:PySem.W.hasDictIn K 951=true)
    (ki_Tree_po:PySem.W.plainOver K 951=true)
    (ki_Tree_sa:PySem.W.findIn K (.ref 951) "__setattr__" = some (some (.builtin "object.__setattr__")))
    (ki_Tree_ca:PySem.W.findIn K (.ref 951) "__class__" = some (some (.builtin "object.__class__")))
    (ki_Tree_sp:PySem.W.specialIn K (.builtin "object.__class__") "__get__" = some (some (.builtin "getset_descriptor.__get__")))
    (ki_Tree_tk:PySem.W.takesIn K (.builtin "object.__class__")=some true)
    (ki_Tree_mro:PySem.W.mroIn K 951 (.type "object")=some true)
    (ki_Windows_pg:PySem.W.plainGet K 831 Str.empty=true)
    (ki_Windows_hd:PySem.W.hasDictIn K 831=true)
    (ki_Windows_po:PySem.W.plainOver K 831=true)
    (ki_Windows_sa:PySem.W.findIn K (.ref 831) "__setattr__" = some (some (.builtin "object.__setattr__")))
    (ki_Windows_ca:PySem.W.findIn K (.ref 831) "__class__" = some (some (.builtin "object.__class__")))
    (ki_Windows_sp:PySem.W.specialIn K (.builtin "object.__class__") "__get__" = some (some (.builtin "getset_descriptor.__get__")))
    (ki_Windows_tk:PySem.W.takesIn K (.builtin "object.__class__")=some true)
    (ki_Windows_mro:PySem.W.mroIn K 831 (.type "object")=some true)
    (ki_Tails_pg:PySem.W.plainGet K 774 Str.empty=true)
    (ki_Tails_hd:PySem.W.hasDictIn K 774=true)
    (ki_Tails_po:PySem.W.plainOver K 774=true)
    (ki_Tails_sa:PySem.W.findIn K (.ref 774) "__setattr__" = some (some (.builtin "object.__setattr__")))
    (ki_Tails_ca:PySem.W.findIn K (.ref 774) "__class__" = some (some (.builtin "object.__class__")))
    (ki_Tails_sp:PySem.W.specialIn K (.builtin "object.__class__") "__get__" = some (some (.builtin "getset_descriptor.__get__")))
    (ki_Tails_tk:PySem.W.takesIn K (.builtin "object.__class__")=some true)
    (ki_Tails_mro:PySem.W.mroIn K 774 (.type "object")=some true)
    (ki_Open_pg:PySem.W.plainGet K 715 Str.empty=true)
    (ki_Open_hd:PySem.W.hasDictIn K 715=true)
    (ki_Open_po:PySem.W.plainOver K 715=true)
    (ki_Open_sa:PySem.W.findIn K (.ref 715) "__setattr__" = some (some (.builtin "object.__setattr__")))
    (ki_Open_ca:PySem.W.findIn K (.ref 715) "__class__" = some (some (.builtin "object.__class__")))
    (ki_Open_sp:PySem.W.specialIn K (.builtin "object.__class__") "__get__" = some (some (.builtin "getset_descriptor.__get__")))
    (ki_Open_tk:PySem.W.takesIn K (.builtin "object.__class__")=some true)
    (ki_Open_mro:PySem.W.mroIn K 715 (.type "object")=some true)
    (ki_Alike_pg:PySem.W.plainGet K 656 Str.empty=true)
    (ki_Alike_hd:PySem.W.hasDictIn K 656=true)
    (ki_Alike_po:PySem.W.plainOver K 656=true)
    (ki_Alike_sa:PySem.W.findIn K (.ref 656) "__setattr__" = some (some (.builtin "object.__setattr__")))
    (ki_Alike_ca:PySem.W.findIn K (.ref 656) "__class__" = some (some (.builtin "object.__class__")))
    (ki_Alike_sp:PySem.W.specialIn K (.builtin "object.__class__") "__get__" = some (some (.builtin "getset_descriptor.__get__")))
    (ki_Alike_tk:PySem.W.takesIn K (.builtin "object.__class__")=some true)
    (ki_Alike_mro:PySem.W.mroIn K 656 (.type "object")=some true)
    (q_NoKind:PySem.W.excIn K c_NoKind [.type "ValueError", .type "Exception", .type "BaseException", .type "object"] "ValueError.__new__" = true)
    (i_Pairs_Floor:PySem.W.kitOne K (.ref 1015) (.ref 593)=some true)
    (i_Tree_Floor:PySem.W.kitOne K (.ref 951) (.ref 593)=some true)
    (i_Windows_Floor:PySem.W.kitOne K (.ref 831) (.ref 593)=some true)
    (i_Tails_Floor:PySem.W.kitOne K (.ref 774) (.ref 593)=some true)
    (i_Open_Floor:PySem.W.kitOne K (.ref 715) (.ref 593)=some true)
    (i_Alike_Floor:PySem.W.kitOne K (.ref 656) (.ref 593)=some true)
    (i_Pairs_Turns:PySem.W.kitOne K (.ref 1015) (.ref 885)=some true)
    (i_Tree_Turns:PySem.W.kitOne K (.ref 951) (.ref 885)=some true)
    (i_Windows_Turns:PySem.W.kitOne K (.ref 831) (.ref 885)=some false)
    (i_Tails_Turns:PySem.W.kitOne K (.ref 774) (.ref 885)=some false)
    (i_Open_Turns:PySem.W.kitOne K (.ref 715) (.ref 885)=some false)
    (i_Alike_Turns:PySem.W.kitOne K (.ref 656) (.ref 885)=some false)
    (i_Pairs_Alike:PySem.W.kitOne K (.ref 1015) (.ref 656)=some false)
    (i_Tree_Alike:PySem.W.kitOne K (.ref 951) (.ref 656)=some false)
    (i_Windows_Alike:PySem.W.kitOne K (.ref 831) (.ref 656)=some false)
    (i_Tails_Alike:PySem.W.kitOne K (.ref 774) (.ref 656)=some false)
    (i_Open_Alike:PySem.W.kitOne K (.ref 715) (.ref 656)=some false)
    (i_Alike_Alike:PySem.W.kitOne K (.ref 656) (.ref 656)=some true)
    (i_Pairs_Open:PySem.W.kitOne K (.ref 1015) (.ref 715)=some false)
    (i_Tree_Open:PySem.W.kitOne K (.ref 951) (.ref 715)=some false)
    (i_Windows_Open:PySem.W.kitOne K (.ref 831) (.ref 715)=some false)
    (i_Tails_Open:PySem.W.kitOne K (.ref 774) (.ref 715)=some false)
    (i_Open_Open:PySem.W.kitOne K (.ref 715) (.ref 715)=some true)
    (i_Alike_Open:PySem.W.kitOne K (.ref 656) (.ref 715)=some false)
    (i_Pairs_Tails:PySem.W.kitOne K (.ref 1015) (.ref 774)=some false)
    (i_Tree_Tails:PySem.W.kitOne K (.ref 951) (.ref 774)=some false)
    (i_Windows_Tails:PySem.W.kitOne K (.ref 831) (.ref 774)=some false)
    (i_Tails_Tails:PySem.W.kitOne K (.ref 774) (.ref 774)=some true)
    (i_Open_Tails:PySem.W.kitOne K (.ref 715) (.ref 774)=some false)
    (i_Alike_Tails:PySem.W.kitOne K (.ref 656) (.ref 774)=some false)
    (i_Pairs_Windows:PySem.W.kitOne K (.ref 1015) (.ref 831)=some false)
    (i_Tree_Windows:PySem.W.kitOne K (.ref 951) (.ref 831)=some false)
    (i_Windows_Windows:PySem.W.kitOne K (.ref 831) (.ref 831)=some true)
    (i_Tails_Windows:PySem.W.kitOne K (.ref 774) (.ref 831)=some false)
    (i_Open_Windows:PySem.W.kitOne K (.ref 715) (.ref 831)=some false)
    (i_Alike_Windows:PySem.W.kitOne K (.ref 656) (.ref 831)=some false)
    (i_Pairs_Tree:PySem.W.kitOne K (.ref 1015) (.ref 951)=some false)
    (i_Tree_Tree:PySem.W.kitOne K (.ref 951) (.ref 951)=some true)
    (i_Windows_Tree:PySem.W.kitOne K (.ref 831) (.ref 951)=some false)
    (i_Tails_Tree:PySem.W.kitOne K (.ref 774) (.ref 951)=some false)
    (i_Open_Tree:PySem.W.kitOne K (.ref 715) (.ref 951)=some false)
    (i_Alike_Tree:PySem.W.kitOne K (.ref 656) (.ref 951)=some false)
    (i_Pairs_Pairs:PySem.W.kitOne K (.ref 1015) (.ref 1015)=some true)
    (i_Tree_Pairs:PySem.W.kitOne K (.ref 951) (.ref 1015)=some false)
    (i_Windows_Pairs:PySem.W.kitOne K (.ref 831) (.ref 1015)=some false)
    (i_Tails_Pairs:PySem.W.kitOne K (.ref 774) (.ref 1015)=some false)
    (i_Open_Pairs:PySem.W.kitOne K (.ref 715) (.ref 1015)=some false)
    (i_Alike_Pairs:PySem.W.kitOne K (.ref 656) (.ref 1015)=some false)
    (kx_NoKind_ga:PySem.W.findIn K (.ref c_NoKind) "__getattribute__" = some (some (.builtin "BaseException.__getattribute__")))
    (kx_NoKind_gk:PySem.W.findIn K (.ref c_NoKind) "__getattr__" = some none)
    (kx_NoKind_hd:PySem.W.hasDictIn K c_NoKind=true)
    (kx_NoKind_ca:PySem.W.findIn K (.ref c_NoKind) "__class__" = some (some (.builtin "object.__class__")))
    (kx_NoKind_sp:PySem.W.specialIn K (.builtin "object.__class__") "__get__" = some (some (.builtin "getset_descriptor.__get__")))
    (kx_NoKind_tk:PySem.W.takesIn K (.builtin "object.__class__")=some true)
    (kx_NoKind_mro:PySem.W.mroIn K c_NoKind (.type "object")=some true)
    (kx_NoKind_mrb:PySem.W.mroIn K c_NoKind (.type "BaseException")=some true)
    (x_NoKind_FloorError:PySem.W.exmOne K (.ref c_NoKind) (.ref c_FloorError)=some true)
    (i_NoKind_NoRoom:PySem.W.kitOne K (.ref c_NoKind) (.ref c_NoRoom)=some false)
    (i_NoKind_NoOrder:PySem.W.kitOne K (.ref c_NoKind) (.ref c_NoOrder)=some false)
    (i_NoKind_NoText:PySem.W.kitOne K (.ref c_NoKind) (.ref c_NoText)=some false)
    (i_NoKind_NoFloor:PySem.W.kitOne K (.ref c_NoKind) (.ref c_NoFloor)=some false)
    (i_NoKind_NoRow:PySem.W.kitOne K (.ref c_NoKind) (.ref c_NoRow)=some false)
    (i_NoKind_NoName:PySem.W.kitOne K (.ref c_NoKind) (.ref c_NoName)=some false)
    (i_NoKind_NoKind:PySem.W.kitOne K (.ref c_NoKind) (.ref c_NoKind)=some true)
    (i_NoKind_ValueError:PySem.W.kitOne K (.ref c_NoKind) (.type "ValueError")=some true) :
    ∃ a:Adr,Txt K mg a∧a.f_law=fa∧∀ (s:Shared) (v:Value),BindsTo s a.d_law ⟨[v],[]⟩ [("_law_script", v)]:=by
  have e:=hfa.symm.trans (PySem.W.mg_of X G a13)
  cases e
  have F0:=fun_mk (st:=s_Alike_word) l0 c0 k0
  have F1:=fun_mk (st:=s_Open_word) l1 c1 k1
  have F2:=fun_mk (st:=s_Tails_word) l2 c2 k2
  have F3:=fun_mk (st:=s_Windows_word) l3 c3 k3
  have F4:=fun_mk (st:=s_Tree_word) l4 c4 k4
  have F5:=fun_mk (st:=s_Pairs_word) l5 c5 k5
  have F6:=fun_mk (st:=s_kinds) l6 c6 k6
  have F7:=fun_mk (st:=s_kind_of) l7 c7 k7
  have F8:=fun_mk (st:=s_l_mix) l8 c8 k8
  have F9:=fun_mk (st:=s_l_words) l9 c9 k9
  have F10:=fun_mk (st:=s_l_word) l10 c10 k10
  have F11:=fun_mk (st:=s_l_is_kind) l11 c11 k11
  have F12:=fun_mk (st:=s_l_refused) l12 c12 k12
  have F13:=fun_mk (st:=s_law) l13 c13 k13
  have b0:=F0.binds (ps:=["self"]) fun _ _ _ _ _ _ us hl=>match us,hl with | [_],_=>rfl
  have b1:=F1.binds (ps:=["self"]) fun _ _ _ _ _ _ us hl=>match us,hl with | [_],_=>rfl
  have b2:=F2.binds (ps:=["self"]) fun _ _ _ _ _ _ us hl=>match us,hl with | [_],_=>rfl
  have b3:=F3.binds (ps:=["self"]) fun _ _ _ _ _ _ us hl=>match us,hl with | [_],_=>rfl
  have b4:=F4.binds (ps:=["self"]) fun _ _ _ _ _ _ us hl=>match us,hl with | [_],_=>rfl
  have b5:=F5.binds (ps:=["self"]) fun _ _ _ _ _ _ us hl=>match us,hl with | [_],_=>rfl
  have b6:=F6.binds (ps:=[]) fun _ _ _ _ _ _ us hl=>match us,hl with | [],_=>rfl
  have b7:=F7.binds (ps:=["word"]) fun _ _ _ _ _ _ us hl=>match us,hl with | [_],_=>rfl
  have b8:=F8.binds (ps:=["_law_number", "_law_k"]) fun _ _ _ _ _ _ us hl=>match us,hl with | [_,_],_=>rfl
  have b9:=F9.binds (ps:=[]) fun _ _ _ _ _ _ us hl=>match us,hl with | [],_=>rfl
  have b10:=F10.binds (ps:=["_law_cell"]) fun _ _ _ _ _ _ us hl=>match us,hl with | [_],_=>rfl
  have b11:=F11.binds (ps:=["_law_kind", "_law_at"]) fun _ _ _ _ _ _ us hl=>match us,hl with | [_,_],_=>rfl
  have b12:=F12.binds (ps:=["_law_word_here"]) fun _ _ _ _ _ _ us hl=>match us,hl with | [_],_=>rfl
  have b13:=F13.binds (ps:=["_law_script"]) fun _ _ _ _ _ _ us hl=>match us,hl with | [_],_=>rfl
  exact ⟨⟨f0,_,f1,_,f2,_,f3,_,f4,_,f5,_,f6,_,f7,_,f8,_,f9,_,f10,_,f11,_,f12,_,fa,_,c_NoKind,c_FloorError,c_NoRoom,c_NoOrder,c_NoText,c_NoFloor,c_NoRow,c_NoName⟩,⟨F0,b0,⟨a0,n0,k0⟩,F1,b1,⟨a1,n1,k1⟩,F2,b2,⟨a2,n2,k2⟩,F3,b3,⟨a3,n3,k3⟩,F4,b4,⟨a4,n4,k4⟩,F5,b5,⟨a5,n5,k5⟩,F6,b6,PySem.W.mg_of X G a6,F7,b7,PySem.W.mg_of X G a7,F8,b8,PySem.W.mg_of X G a8,F9,b9,PySem.W.mg_of X G a9,F10,b10,PySem.W.mg_of X G a10,F11,b11,PySem.W.mg_of X G a11,F12,b12,PySem.W.mg_of X G a12,F13,b13,PySem.W.mg_of X G a13,PySem.W.mg_none_of X G z_ValueError,PySem.W.mg_none_of X G z_isinstance,PySem.W.mg_none_of X G z_len,PySem.W.mg_none_of X G z_list,PySem.W.mg_none_of X G z_range,PySem.W.mg_none_of X G z_str,PySem.W.mg_of X G m_Alike,PySem.W.mg_of X G m_Open,PySem.W.mg_of X G m_Tails,PySem.W.mg_of X G m_Windows,PySem.W.mg_of X G m_Tree,PySem.W.mg_of X G m_Pairs,PySem.W.mg_of X G m_NoKind,PySem.W.mg_of X G m_Floor,PySem.W.mg_of X G m_Turns,PySem.W.mg_of X G m_FloorError,PySem.W.mg_of X G m_NoRoom,PySem.W.mg_of X G m_NoOrder,PySem.W.mg_of X G m_NoText,PySem.W.mg_of X G m_NoFloor,PySem.W.mg_of X G m_NoRow,PySem.W.mg_of X G m_NoName,⟨mk_Alike_mk,mk_Alike_in,mk_Alike_kp⟩,⟨mk_Open_mk,mk_Open_in,mk_Open_kp⟩,⟨mk_Tails_mk,mk_Tails_in,mk_Tails_kp⟩,⟨mk_Windows_mk,mk_Windows_in,mk_Windows_kp⟩,⟨mk_Tree_mk,mk_Tree_in,mk_Tree_kp⟩,⟨mk_Pairs_mk,mk_Pairs_in,mk_Pairs_kp⟩,⟨⟨ki_Pairs_pg,ki_Pairs_hd,ki_Pairs_po,ki_Pairs_sa⟩,ki_Pairs_ca,ki_Pairs_sp,ki_Pairs_tk,ki_Pairs_mro⟩,⟨⟨ki_Tree_pg,ki_Tree_hd,ki_Tree_po,ki_Tree_sa⟩,ki_Tree_ca,ki_Tree_sp,ki_Tree_tk,ki_Tree_mro⟩,⟨⟨ki_Windows_pg,ki_Windows_hd,ki_Windows_po,ki_Windows_sa⟩,ki_Windows_ca,ki_Windows_sp,ki_Windows_tk,ki_Windows_mro⟩,⟨⟨ki_Tails_pg,ki_Tails_hd,ki_Tails_po,ki_Tails_sa⟩,ki_Tails_ca,ki_Tails_sp,ki_Tails_tk,ki_Tails_mro⟩,⟨⟨ki_Open_pg,ki_Open_hd,ki_Open_po,ki_Open_sa⟩,ki_Open_ca,ki_Open_sp,ki_Open_tk,ki_Open_mro⟩,⟨⟨ki_Alike_pg,ki_Alike_hd,ki_Alike_po,ki_Alike_sa⟩,ki_Alike_ca,ki_Alike_sp,ki_Alike_tk,ki_Alike_mro⟩,q_NoKind,i_Pairs_Floor,i_Tree_Floor,i_Windows_Floor,i_Tails_Floor,i_Open_Floor,i_Alike_Floor,i_Pairs_Turns,i_Tree_Turns,i_Windows_Turns,i_Tails_Turns,i_Open_Turns,i_Alike_Turns,i_Pairs_Alike,i_Tree_Alike,i_Windows_Alike,i_Tails_Alike,i_Open_Alike,i_Alike_Alike,i_Pairs_Open,i_Tree_Open,i_Windows_Open,i_Tails_Open,i_Open_Open,i_Alike_Open,i_Pairs_Tails,i_Tree_Tails,i_Windows_Tails,i_Tails_Tails,i_Open_Tails,i_Alike_Tails,i_Pairs_Windows,i_Tree_Windows,i_Windows_Windows,i_Tails_Windows,i_Open_Windows,i_Alike_Windows,i_Pairs_Tree,i_Tree_Tree,i_Windows_Tree,i_Tails_Tree,i_Open_Tree,i_Alike_Tree,i_Pairs_Pairs,i_Tree_Pairs,i_Windows_Pairs,i_Tails_Pairs,i_Open_Pairs,i_Alike_Pairs,⟨kx_NoKind_ga,kx_NoKind_gk,kx_NoKind_hd,kx_NoKind_ca,kx_NoKind_sp,kx_NoKind_tk,kx_NoKind_mro,kx_NoKind_mrb⟩,x_NoKind_FloorError,i_NoKind_NoRoom,i_NoKind_NoOrder,i_NoKind_NoText,i_NoKind_NoFloor,i_NoKind_NoRow,i_NoKind_NoName,i_NoKind_NoKind,i_NoKind_ValueError⟩,rfl,fun s v=>.of_eq rfl⟩
theorem walk {l:PySem.W.OpenLaw} {q:Program} {loose:List Str} {XP:(Str→Option Value)→Heap→Prop} {YP:World→Heap→Prop} {d:DefRec} {K:Params→PySem.W.Frag} (hn:l.most=some 63) (hdf:d.params.defaults=[])
    (hY:∀ (w:World) (h:Heap),YP w h→(K w.params).In h)
    (F:∀ (w:World) (mg:Str→Option Value) (fa:Addr) (h:Heap),(K w.params).In h→h.Ns mainGlobals mg→mg d.name=some (.ref fa)→∃ a:Adr,Txt (K w.params) mg a∧a.f_law=fa∧∀ (s:Shared) (v:Value),BindsTo s a.d_law ⟨[v],[]⟩ [("_law_script", v)]) :
    PySem.W.WalkO q loose XP YP l.row.toRowW d [] (fun f vs=>PySem.call f vs) :=
  L2.walk_ofB (n:=63) (k:=4) (x := "_law_script") (CX:=fun _=>CX0) (sp:=fun w=>sp_law (K w.params)) hn (by decide) hdf ⟨rfl,by decide,by decide⟩ hY
    (fun w mg fa h KX G e=>by
      obtain ⟨a,T,rfl,hb⟩:=F w mg fa h KX G e
      exact ⟨a.d_law,hb,fun base kb nb=>(ok_law T).imp fun vs H Q E h=>sp_law_of law_true h⟩)
    (fun _ _ a ns hl hbits _ hS=>⟨a,ns,rfl,hS,hl,hbits,(fun _ h=>by cases h),fun _=>rfl⟩) fun _ _ _ _ _ z=>z
end My
theorem PySem.W.Fast.tw18014425603724894676:True:=⟨⟩
theorem PySem.W.Fast.tw15917123234225234129:True:=⟨⟩
theorem PySem.W.Fast.tw5412758612019941136:True:=⟨⟩
theorem PySem.W.Fast.tw3331685694494564700:True:=⟨⟩
theorem PySem.W.Fast.tw7109672402322303501:True:=⟨⟩
theorem PySem.W.Fast.tw526300433070397965:True:=⟨⟩
theorem PySem.W.Fast.tw17185794811218435786:True:=⟨⟩
theorem PySem.W.Fast.tw15388446924667384309:True:=⟨⟩
theorem PySem.W.Fast.tw1398897183665346120:True:=⟨⟩
theorem PySem.W.Fast.tw13724247277102124943:True:=⟨⟩
theorem PySem.W.Fast.tw2742091266667192200:True:=⟨⟩
theorem PySem.W.Fast.tw6476589021338706528:True:=⟨⟩
theorem PySem.W.Fast.tw1905087449138270488:True:=⟨⟩
theorem PySem.W.Fast.tw10738824112456222893:True:=⟨⟩
theorem PySem.W.Fast.tw6759961148582703456:True:=⟨⟩
theorem PySem.W.Fast.tw1523063752375248051:True:=⟨⟩
theorem PySem.W.Fast.tw8545395334413338544:True:=⟨⟩
theorem PySem.W.Fast.tw11422310733537409873:True:=⟨⟩
theorem PySem.W.Fast.tw9422039781089606870:True:=⟨⟩
theorem PySem.W.Fast.tw943126501686779296:True:=⟨⟩
theorem PySem.W.Fast.tw11788741810835081789:True:=⟨⟩
theorem PySem.W.Fast.tw2439287703082046391:True:=⟨⟩
theorem PySem.W.Fast.tw12718746502045673379:True:=⟨⟩
theorem PySem.W.Fast.tw15981095800108867098:True:=⟨⟩
theorem PySem.W.Fast.tw2906371914294671156:True:=⟨⟩
theorem PySem.W.Fast.tw11623478681566660060:True:=⟨⟩
theorem PySem.W.Fast.tw12955023441965600679:True:=⟨⟩
theorem PySem.W.Fast.tw17272763415995212345:True:=⟨⟩
theorem PySem.W.Fast.tw92553720038131316:True:=⟨⟩
theorem PySem.W.Fast.tw9663522491397876007:True:=⟨⟩
theorem PySem.W.Fast.tw7846695331602274092:True:=⟨⟩
theorem PySem.W.Fast.tw12560644932634271615:True:=⟨⟩
theorem PySem.W.Fast.tw14243822946478104321:True:=⟨⟩
theorem PySem.W.Fast.tw126356709267390494:True:=⟨⟩
theorem PySem.W.Fast.tw4058567411312756040:True:=⟨⟩
theorem PySem.W.Fast.tw15223912376267608441:True:=⟨⟩
theorem PySem.W.Fast.tw14611189259851127948:True:=⟨⟩
theorem PySem.W.Fast.tw13993507191444755501:True:=⟨⟩
theorem PySem.W.Fast.tw17729971291206327840:True:=⟨⟩
theorem PySem.W.Fast.tw3972037237366161391:True:=⟨⟩
theorem PySem.W.Fast.tw5392103818865857581:True:=⟨⟩
theorem PySem.W.Fast.tw7504012549137377037:True:=⟨⟩
theorem PySem.W.Fast.tw3745257033945049834:True:=⟨⟩
theorem PySem.W.Fast.tw14340637466118530987:True:=⟨⟩
theorem PySem.W.Fast.tw17585671785636772082:True:=⟨⟩
theorem PySem.W.Fast.tw9220391816990079590:True:=⟨⟩
theorem PySem.W.Fast.tw2516072173792963724:True:=⟨⟩
theorem PySem.W.Fast.tw6177628548200080628:True:=⟨⟩
theorem PySem.W.Fast.tw7690168713514186560:True:=⟨⟩
theorem PySem.W.Fast.tw2089313781501508842:True:=⟨⟩
theorem PySem.W.Fast.tw16788395403843767173:True:=⟨⟩
theorem PySem.W.Fast.tw15966336298161327396:True:=⟨⟩
theorem PySem.W.Fast.tw3294087911610550100:True:=⟨⟩
theorem PySem.W.Fast.tw15573580246202563503:True:=⟨⟩
theorem PySem.W.Fast.tw5057574545998192087:True:=⟨⟩
theorem PySem.W.Fast.tw15852268773421144454:True:=⟨⟩
theorem PySem.W.Fast.tw15563107844075550912:True:=⟨⟩
theorem PySem.W.Fast.tw15249759441878889344:True:=⟨⟩
theorem PySem.W.Fast.tw17135315051442986757:True:=⟨⟩
theorem PySem.W.Fast.tw9296479253194179125:True:=⟨⟩
theorem PySem.W.Fast.tw11988914370104688387:True:=⟨⟩
theorem PySem.W.Fast.tw15539375141742172070:True:=⟨⟩
theorem PySem.W.Fast.tw10707537764369749054:True:=⟨⟩
theorem PySem.W.Fast.tw8646631555132535954:True:=⟨⟩
theorem PySem.W.Fast.tw11175932718712601442:True:=⟨⟩
theorem PySem.W.Fast.tw5766895628382262379:True:=⟨⟩
theorem PySem.W.Fast.tw535662192135467226:True:=⟨⟩
theorem PySem.W.Fast.tw4814676456716816562:True:=⟨⟩
theorem PySem.W.Fast.tw15690639557385633691:True:=⟨⟩
theorem PySem.W.Fast.tw13684957311161803015:True:=⟨⟩
theorem PySem.W.Fast.tw15973721434130636698:True:=⟨⟩
theorem PySem.W.Fast.tw17027691004078926192:True:=⟨⟩
theorem PySem.W.Fast.tw16863758935103836913:True:=⟨⟩
theorem PySem.W.Fast.tw10941630753558170848:True:=⟨⟩
theorem PySem.W.Fast.tw8788284537849491002:True:=⟨⟩
theorem PySem.W.Fast.tw15399487036675584276:True:=⟨⟩
theorem PySem.W.Fast.tw1839433693144757065:True:=⟨⟩
theorem PySem.W.Fast.tw7784623191501739440:True:=⟨⟩
theorem PySem.W.Fast.tw9861729550013310433:True:=⟨⟩
theorem PySem.W.Fast.tw11507692382230657075:True:=⟨⟩
theorem PySem.W.Fast.tw12280014772368861450:True:=⟨⟩
theorem PySem.W.Fast.tw7680789697603013573:True:=⟨⟩
theorem PySem.W.Fast.tw4016293682616329916:True:=⟨⟩
theorem PySem.W.Fast.tw10301908770499016837:True:=⟨⟩
theorem PySem.W.Fast.tw2942455020712883574:True:=⟨⟩
theorem PySem.W.Fast.tw16502482175871465771:True:=⟨⟩
theorem PySem.W.Fast.tw12174272577245608177:True:=⟨⟩
theorem PySem.W.Fast.tw360406607588166147:True:=⟨⟩
theorem PySem.W.Fast.tw18278887517519434522:True:=⟨⟩
theorem PySem.W.Fast.tw14165411777148173000:True:=⟨⟩
theorem PySem.W.Fast.tw17675526460267097980:True:=⟨⟩
theorem PySem.W.Fast.tw12950195897884486642:True:=⟨⟩
theorem PySem.W.Fast.tw1086740212059018235:True:=⟨⟩
theorem PySem.W.Fast.tw9126403191089935232:True:=⟨⟩
theorem PySem.W.Fast.tw7407179439230934090:True:=⟨⟩
theorem PySem.W.Fast.tw8118552781929761544:True:=⟨⟩
theorem PySem.W.Fast.tw2574503303926768474:True:=⟨⟩
theorem PySem.W.Fast.tw8880061527310127264:True:=⟨⟩
theorem PySem.W.Fast.tw1824061743941216726:True:=⟨⟩
theorem PySem.W.Fast.tw1923148706516396336:True:=⟨⟩
theorem PySem.W.Fast.tw17095997347376393999:True:=⟨⟩
theorem PySem.W.Fast.tw14039794948759323259:True:=⟨⟩
theorem PySem.W.Fast.tw5853236698992767241:True:=⟨⟩
theorem PySem.W.Fast.tw18096896619358841330:True:=⟨⟩
theorem PySem.W.Fast.tw12726857233894441450:True:=⟨⟩
theorem PySem.W.Fast.tw11648191778080252631:True:=⟨⟩
theorem PySem.W.Fast.tw2931579926565228891:True:=⟨⟩
theorem PySem.W.Fast.tw15775143637911061972:True:=⟨⟩
theorem PySem.W.Fast.tw14258270847782205302:True:=⟨⟩
theorem PySem.W.Fast.tw12762070207267147689:True:=⟨⟩
theorem PySem.W.Fast.tw13977378646102746275:True:=⟨⟩
theorem PySem.W.Fast.tw6708279543007144130:True:=⟨⟩
theorem PySem.W.Fast.tw15724632073061052282:True:=⟨⟩
theorem PySem.W.Fast.tw7864079805413451481:True:=⟨⟩
theorem PySem.W.Fast.tw1046204957372040541:True:=⟨⟩
theorem PySem.W.Fast.tw11805658121959753550:True:=⟨⟩
theorem PySem.W.Fast.tw11568424352701259269:True:=⟨⟩
theorem PySem.W.Fast.tw655449835147127720:True:=⟨⟩
theorem PySem.W.Fast.tw12320905449092649028:True:=⟨⟩
theorem PySem.W.Fast.tw8590943415769541055:True:=⟨⟩
theorem PySem.W.Fast.tw7046875798601665432:True:=⟨⟩
theorem PySem.W.Fast.tw7608111730560851728:True:=⟨⟩
theorem PySem.W.Fast.tw14793250767258385806:True:=⟨⟩
theorem PySem.W.Fast.tw3577404407579075756:True:=⟨⟩
theorem PySem.W.Fast.tw16645559851703238073:True:=⟨⟩
theorem PySem.W.Fast.tw13460836631228320644:True:=⟨⟩
theorem PySem.W.Fast.tw8887489177712018108:True:=⟨⟩
theorem PySem.W.Fast.tw16550006870277313725:True:=⟨⟩
theorem PySem.W.Fast.tw9271554982576309615:True:=⟨⟩
theorem PySem.W.Fast.tw1596940196859826248:True:=⟨⟩
theorem PySem.W.Fast.tw12591199635671361383:True:=⟨⟩
theorem PySem.W.Fast.tw13597861794860341846:True:=⟨⟩
theorem PySem.W.Fast.tw16033704039820883964:True:=⟨⟩
theorem PySem.W.Fast.tw16252674363071776418:True:=⟨⟩
theorem PySem.W.Fast.tw11556111257836820305:True:=⟨⟩
theorem PySem.W.Fast.tw14386701156288083708:True:=⟨⟩
theorem PySem.W.Fast.tw12682511245785147151:True:=⟨⟩
theorem PySem.W.Fast.tw16881971352895571053:True:=⟨⟩
theorem PySem.W.Fast.tw2192967808152501544:True:=⟨⟩
theorem PySem.W.Fast.tw4759888560034951678:True:=⟨⟩
theorem PySem.W.Fast.tw1317430292534093756:True:=⟨⟩
theorem PySem.W.Fast.tw13239548854021229087:True:=⟨⟩
theorem PySem.W.Fast.tw10349060141843428371:True:=⟨⟩
theorem PySem.W.Fast.tw11713956932964258593:True:=⟨⟩
theorem PySem.W.Fast.tw10241022757377352750:True:=⟨⟩
theorem PySem.W.Fast.tw16343681636142296706:True:=⟨⟩
theorem PySem.W.Fast.tw7847316840292048118:True:=⟨⟩
theorem PySem.W.Fast.tw15307859803782270388:True:=⟨⟩
theorem PySem.W.Fast.tw390317202767591756:True:=⟨⟩
theorem PySem.W.Fast.tw17581197755035020426:True:=⟨⟩
theorem PySem.W.Fast.tw4350009924687550009:True:=⟨⟩
theorem PySem.W.Fast.tw17442817805932226334:True:=⟨⟩
theorem PySem.W.Fast.tw3479561398181716681:True:=⟨⟩
theorem PySem.W.Fast.tw8613115635885793548:True:=⟨⟩
theorem PySem.W.Fast.tw11887600321235709623:True:=⟨⟩
theorem PySem.W.Fast.tw4266540296869270528:True:=⟨⟩
theorem PySem.W.Fast.tw18045208993571749538:True:=⟨⟩
theorem PySem.W.Fast.tw176488308076428962:True:=⟨⟩
theorem PySem.W.Fast.tw9833210759102603514:True:=⟨⟩
theorem PySem.W.Fast.tw6566360893763355749:True:=⟨⟩
theorem PySem.W.Fast.tw7491986583643378362:True:=⟨⟩
theorem PySem.W.Fast.tw2785650436370937288:True:=⟨⟩
theorem PySem.W.Fast.tw631626044019494054:True:=⟨⟩
theorem PySem.W.Fast.tw3396549288633656022:True:=⟨⟩
theorem PySem.W.Fast.tw6217202477843838029:True:=⟨⟩
theorem PySem.W.Fast.tw16989598077194246036:True:=⟨⟩
theorem PySem.W.Fast.tw6517580979834267458:True:=⟨⟩
theorem PySem.W.Fast.tw5958174152734727343:True:=⟨⟩
theorem PySem.W.Fast.tw14115419888533860828:True:=⟨⟩
theorem PySem.W.Fast.tw4723861838888775253:True:=⟨⟩
theorem PySem.W.Fast.tw6442366581151193454:True:=⟨⟩
theorem PySem.W.Fast.tw2419382064205958875:True:=⟨⟩
theorem PySem.W.Fast.tw14037793595767918897:True:=⟨⟩
theorem PySem.W.Fast.tw10568918373788978782:True:=⟨⟩
theorem PySem.W.Fast.tw6415548236759650772:True:=⟨⟩
theorem PySem.W.Fast.tw6558458920474881817:True:=⟨⟩
theorem PySem.W.Fast.tw1854351354256737199:True:=⟨⟩
theorem PySem.W.Fast.tw8574478986801081560:True:=⟨⟩
theorem PySem.W.Fast.tw12286327535998697833:True:=⟨⟩
theorem PySem.W.Fast.tw2188541599701752352:True:=⟨⟩
theorem PySem.W.Fast.tw16914804950695342889:True:=⟨⟩
theorem PySem.W.Fast.tw1961646306793456745:True:=⟨⟩
theorem PySem.W.Fast.tw3344369970721982154:True:=⟨⟩
theorem PySem.W.Fast.tw7428371347488782900:True:=⟨⟩
theorem PySem.W.Fast.tw9676037299377154473:True:=⟨⟩
theorem PySem.W.Fast.tw3707077735477266738:True:=⟨⟩
theorem PySem.W.Fast.tw9061645043679362236:True:=⟨⟩
theorem PySem.W.Fast.tw11586223317998992967:True:=⟨⟩
theorem PySem.W.Fast.tw12604712272679696601:True:=⟨⟩
theorem PySem.W.Fast.tw10448563785823553485:True:=⟨⟩
theorem PySem.W.Fast.tw14904111019796374170:True:=⟨⟩
theorem PySem.W.Fast.tw9760900547953409281:True:=⟨⟩
theorem PySem.W.Fast.tw4342866325001715222:True:=⟨⟩
theorem PySem.W.Fast.tw93863340157396311:True:=⟨⟩
theorem PySem.W.Fast.tw17959783381805725427:True:=⟨⟩
theorem PySem.W.Fast.tw12349887938118435926:True:=⟨⟩
theorem PySem.W.Fast.tw10742667079476805140:True:=⟨⟩
theorem PySem.W.Fast.tw10936029793993577741:True:=⟨⟩
theorem PySem.W.Fast.tw906669263871525709:True:=⟨⟩
theorem PySem.W.Fast.tw7741167917611118938:True:=⟨⟩
theorem PySem.W.Fast.tw12485106472021893172:True:=⟨⟩
theorem PySem.W.Fast.tw6602247481144465764:True:=⟨⟩
theorem PySem.W.Fast.tw5984848985636226775:True:=⟨⟩
theorem PySem.W.Fast.tw12008930535522758517:True:=⟨⟩
theorem PySem.W.Fast.tw892648318358693195:True:=⟨⟩
theorem PySem.W.Fast.tw451529296125769999:True:=⟨⟩
theorem PySem.W.Fast.tw16931255791500483623:True:=⟨⟩
theorem PySem.W.Fast.tw15764440714067112062:True:=⟨⟩
theorem PySem.W.Fast.tw15486360934126692558:True:=⟨⟩
theorem PySem.W.Fast.tw2622609470852889459:True:=⟨⟩
theorem PySem.W.Fast.tw4708903402546064256:True:=⟨⟩
theorem PySem.W.Fast.tw14994809978629322057:True:=⟨⟩
theorem PySem.W.Fast.tw3351247289362982593:True:=⟨⟩
theorem PySem.W.Fast.tw12387049651128256975:True:=⟨⟩
theorem PySem.W.Fast.tw13364243596375778896:True:=⟨⟩
theorem PySem.W.Fast.tw2661756484920426910:True:=⟨⟩
theorem PySem.W.Fast.tw9419251372753476251:True:=⟨⟩
theorem PySem.W.Fast.tw5040140979870281336:True:=⟨⟩
theorem PySem.W.Fast.tw14592325531813711262:True:=⟨⟩
theorem PySem.W.Fast.tw15449722884029493648:True:=⟨⟩
theorem PySem.W.Fast.tw3012987252452534240:True:=⟨⟩
theorem PySem.W.Fast.tw7769896583111406546:True:=⟨⟩
theorem PySem.W.Fast.tw8594678153445721846:True:=⟨⟩
theorem PySem.W.Fast.tw6124896865736385357:True:=⟨⟩
theorem PySem.W.Fast.tw4168508167789841452:True:=⟨⟩
theorem PySem.W.Fast.tw1059698489286430790:True:=⟨⟩
theorem PySem.W.Fast.tw14272510901096420854:True:=⟨⟩
theorem PySem.W.Fast.tw2658706399270970607:True:=⟨⟩
theorem PySem.W.Fast.tw6189160906501815225:True:=⟨⟩
theorem PySem.W.Fast.tw5732090857127706838:True:=⟨⟩
theorem PySem.W.Fast.tw2489173435655489694:True:=⟨⟩
theorem PySem.W.Fast.tw11604713539713964311:True:=⟨⟩
theorem PySem.W.Fast.tw16804541712898702209:True:=⟨⟩
theorem PySem.W.Fast.tw5438269889771970782:True:=⟨⟩
theorem PySem.W.Fast.tw12994090556086567817:True:=⟨⟩
theorem PySem.W.Fast.tw9723235402496471865:True:=⟨⟩
theorem PySem.W.Fast.tw7929908006166139116:True:=⟨⟩
theorem PySem.W.Fast.tw6442744402091320018:True:=⟨⟩
theorem PySem.W.Fast.tw8531348941078765093:True:=⟨⟩
theorem PySem.W.Fast.tw1705830281472999457:True:=⟨⟩
theorem PySem.W.Fast.tw4328909250424946430:True:=⟨⟩
theorem PySem.W.Fast.tw5325001979284234432:True:=⟨⟩
theorem PySem.W.Fast.tw17896338729944166236:True:=⟨⟩
theorem PySem.W.Fast.tw5412892391793848671:True:=⟨⟩
theorem PySem.W.Fast.tw12615288511936149862:True:=⟨⟩
theorem PySem.W.Fast.tw8271585249605924122:True:=⟨⟩
theorem PySem.W.Fast.tw12032174279474433918:True:=⟨⟩
theorem PySem.W.Fast.tw9873417872948708058:True:=⟨⟩
theorem PySem.W.Fast.tw5683436778604232191:True:=⟨⟩
theorem PySem.W.Fast.tw6459728229282359678:True:=⟨⟩
theorem PySem.W.Fast.tw10272577413542526252:True:=⟨⟩
theorem PySem.W.Fast.tw1776754260528783473:True:=⟨⟩
theorem PySem.W.Fast.tw10675411280496182698:True:=⟨⟩
theorem PySem.W.Fast.tw14116924160038260753:True:=⟨⟩
theorem PySem.W.Fast.tw17371022174280880536:True:=⟨⟩
theorem PySem.W.Fast.tw18119376616181374450:True:=⟨⟩
theorem PySem.W.Fast.tw12960268559610945405:True:=⟨⟩
theorem PySem.W.Fast.tw13928585780597049107:True:=⟨⟩
theorem PySem.W.Fast.tw8472018200106763418:True:=⟨⟩
theorem PySem.W.Fast.tw6895303857295435989:True:=⟨⟩
theorem PySem.W.Fast.tw244187750719439405:True:=⟨⟩
theorem PySem.W.Fast.tw8327767512146790646:True:=⟨⟩
theorem PySem.W.Fast.tw1597705675174012271:True:=⟨⟩
theorem PySem.W.Fast.tw3639927519363077518:True:=⟨⟩
theorem PySem.W.Fast.tw1352314730559584994:True:=⟨⟩
theorem PySem.W.Fast.tw10392963608717399520:True:=⟨⟩
theorem PySem.W.Fast.tw4516634984987530777:True:=⟨⟩
theorem PySem.W.Fast.tw15287853176297086627:True:=⟨⟩
theorem PySem.W.Fast.tw13470569779579070658:True:=⟨⟩
theorem PySem.W.Fast.tw15530131158276380213:True:=⟨⟩
theorem PySem.W.Fast.tw10556927640146486615:True:=⟨⟩
theorem PySem.W.Fast.tw523505169228338437:True:=⟨⟩
theorem PySem.W.Fast.tw6379835575871642389:True:=⟨⟩
theorem PySem.W.Fast.tw18296500092770742128:True:=⟨⟩
theorem PySem.W.Fast.tw13995931624796885261:True:=⟨⟩
theorem PySem.W.Fast.tw10865148173504984441:True:=⟨⟩
theorem PySem.W.Fast.tw12686406046098536587:True:=⟨⟩
theorem PySem.W.Fast.tw9921449239642166691:True:=⟨⟩
theorem PySem.W.Fast.tw17764691070798965620:True:=⟨⟩
theorem PySem.W.Fast.tw18257184052134107579:True:=⟨⟩
theorem PySem.W.Fast.tw7668195241683696126:True:=⟨⟩
theorem PySem.W.Fast.tw7835675121043252012:True:=⟨⟩
theorem PySem.W.Fast.tw2628511989039096044:True:=⟨⟩
theorem PySem.W.Fast.tw3661358991091455383:True:=⟨⟩
theorem PySem.W.Fast.tw10923022304748626307:True:=⟨⟩
theorem PySem.W.Fast.tw7554927771552715510:True:=⟨⟩
theorem PySem.W.Fast.tw9214819944776485292:True:=⟨⟩
theorem PySem.W.Fast.tw17318152671380172298:True:=⟨⟩
theorem PySem.W.Fast.tw8101623118978076468:True:=⟨⟩
theorem PySem.W.Fast.tw1575397059281105063:True:=⟨⟩
theorem PySem.W.Fast.tw3364359865378722310:True:=⟨⟩
theorem PySem.W.Fast.tw7128079407905109651:True:=⟨⟩
theorem PySem.W.Fast.tw17440874194556569762:True:=⟨⟩
theorem PySem.W.Fast.tw5808823910205035557:True:=⟨⟩
theorem PySem.W.Fast.tw8913921823187862862:True:=⟨⟩
theorem PySem.W.Fast.tw11452486135143132277:True:=⟨⟩
theorem PySem.W.Fast.tw7155017088248924282:True:=⟨⟩
theorem PySem.W.Fast.tw3621468606533111251:True:=⟨⟩
theorem PySem.W.Fast.tw6625784415629854749:True:=⟨⟩
theorem PySem.W.Fast.tw901780827996656079:True:=⟨⟩
theorem PySem.W.Fast.tw4138413621599718147:True:=⟨⟩
theorem PySem.W.Fast.tw17131022085498116412:True:=⟨⟩
theorem PySem.W.Fast.tw984638773162859758:True:=⟨⟩
theorem PySem.W.Fast.tw5196389573231152862:True:=⟨⟩
theorem PySem.W.Fast.tw12857452350073131726:True:=⟨⟩
theorem PySem.W.Fast.tw7212114421360427592:True:=⟨⟩
theorem PySem.W.Fast.tw10207255987017209283:True:=⟨⟩
theorem PySem.W.Fast.tw15683002183059700030:True:=⟨⟩
theorem PySem.W.Fast.tw6046600317554948456:True:=⟨⟩
theorem PySem.W.Fast.tw676374308554629277:True:=⟨⟩
theorem PySem.W.Fast.tw2376800719065970093:True:=⟨⟩
theorem PySem.W.Fast.tw12367023505145666885:True:=⟨⟩
theorem PySem.W.Fast.tw7972698152464832474:True:=⟨⟩
theorem PySem.W.Fast.tw11438922958130187813:True:=⟨⟩
theorem PySem.W.Fast.tw2526410526875622000:True:=⟨⟩
theorem PySem.W.Fast.tw12185687669548081868:True:=⟨⟩
theorem PySem.W.Fast.tw945482251659433801:True:=⟨⟩
theorem PySem.W.Fast.tw5719243434272254684:True:=⟨⟩
theorem PySem.W.Fast.tw7958325333344597337:True:=⟨⟩
theorem PySem.W.Fast.tw15431243209163331188:True:=⟨⟩
theorem PySem.W.Fast.tw13482429791488308404:True:=⟨⟩
theorem PySem.W.Fast.tw13880280881022037540:True:=⟨⟩
theorem PySem.W.Fast.tw12878161959040738329:True:=⟨⟩
theorem PySem.W.Fast.tw6534257862327201289:True:=⟨⟩
theorem PySem.W.Fast.tw2539226361661916785:True:=⟨⟩
theorem PySem.W.Fast.tw17846680772563872906:True:=⟨⟩
theorem PySem.W.Fast.tw11130033523173747096:True:=⟨⟩
theorem PySem.W.Fast.tw5702478501588349938:True:=⟨⟩
theorem PySem.W.Fast.tw10372210405731260672:True:=⟨⟩
theorem PySem.W.Fast.tw9676077309555057391:True:=⟨⟩
theorem PySem.W.Fast.tw5589322149291654858:True:=⟨⟩
theorem PySem.W.Fast.tw9368999753066529547:True:=⟨⟩
theorem PySem.W.Fast.tw8717206901281762599:True:=⟨⟩
theorem PySem.W.Fast.tw8661581812962472988:True:=⟨⟩
theorem PySem.W.Fast.tw9601776822898071623:True:=⟨⟩
theorem PySem.W.Fast.tw115823502177824449:True:=⟨⟩
theorem PySem.W.Fast.tw2909640273589019615:True:=⟨⟩
theorem PySem.W.Fast.tw655394824198943619:True:=⟨⟩
theorem PySem.W.Fast.tw8878241403978562219:True:=⟨⟩
theorem PySem.W.Fast.tw9648568476627180915:True:=⟨⟩
theorem PySem.W.Fast.tw6756308718185685000:True:=⟨⟩
theorem PySem.W.Fast.tw662203643872879805:True:=⟨⟩
theorem PySem.W.Fast.tw3190031904580821061:True:=⟨⟩
theorem PySem.W.Fast.tw271782991218110484:True:=⟨⟩
theorem PySem.W.Fast.tw10894376610959995741:True:=⟨⟩
theorem PySem.W.Fast.tw634036197524923742:True:=⟨⟩
theorem PySem.W.Fast.tw17618653214913997720:True:=⟨⟩
theorem PySem.W.Fast.tw11045991696475697755:True:=⟨⟩
theorem PySem.W.Fast.tw735333008084530621:True:=⟨⟩
theorem PySem.W.Fast.tw17906615137111069187:True:=⟨⟩
theorem PySem.W.Fast.tw12748318669702076315:True:=⟨⟩
theorem PySem.W.Fast.tw1500451543596988935:True:=⟨⟩
theorem PySem.W.Fast.tw12409722833886616544:True:=⟨⟩
theorem PySem.W.Fast.tw16280916247452586397:True:=⟨⟩
theorem PySem.W.Fast.tw344732396455728819:True:=⟨⟩
theorem PySem.W.Fast.tw11726112152135247904:True:=⟨⟩
theorem PySem.W.Fast.tw17475521061527951380:True:=⟨⟩
theorem PySem.W.Fast.tw16090617510494772670:True:=⟨⟩
theorem PySem.W.Fast.tw7376611327957509116:True:=⟨⟩
theorem PySem.W.Fast.tw627464180077191513:True:=⟨⟩
theorem PySem.W.Fast.tw18432390915877113891:True:=⟨⟩
theorem PySem.W.Fast.tw8650974982812600045:True:=⟨⟩
theorem PySem.W.Fast.tw11476192685280230053:True:=⟨⟩
theorem PySem.W.Fast.tw18108787771632503044:True:=⟨⟩
theorem PySem.W.Fast.tw16912356352116939632:True:=⟨⟩
theorem PySem.W.Fast.tw10125887648335457362:True:=⟨⟩
theorem PySem.W.Fast.tw8842087801576103097:True:=⟨⟩
theorem PySem.W.Fast.tw8465876981618153554:True:=⟨⟩
theorem PySem.W.Fast.tw7160046000844004388:True:=⟨⟩
theorem PySem.W.Fast.tw6199558938428398784:True:=⟨⟩
theorem PySem.W.Fast.tw7074789325812097902:True:=⟨⟩
theorem PySem.W.Fast.tw4835679622390594055:True:=⟨⟩
theorem PySem.W.Fast.tw2844193466611895356:True:=⟨⟩
theorem PySem.W.Fast.tw18249755526208102773:True:=⟨⟩
theorem PySem.W.Fast.tw15011504082041885519:True:=⟨⟩
theorem PySem.W.Fast.tw8474938670834085697:True:=⟨⟩
theorem PySem.W.Fast.tw4373828647092092720:True:=⟨⟩
theorem PySem.W.Fast.tw6933125285744295872:True:=⟨⟩
theorem PySem.W.Fast.tw4656978152686609475:True:=⟨⟩
theorem PySem.W.Fast.tw1102600783104911054:True:=⟨⟩
theorem PySem.W.Fast.tw11599727694817926574:True:=⟨⟩
theorem PySem.W.Fast.tw13987854132585552238:True:=⟨⟩
theorem PySem.W.Fast.tw14966221010787048581:True:=⟨⟩
theorem PySem.W.Fast.tw4263563406416522898:True:=⟨⟩
theorem PySem.W.Fast.tw2575492126952421804:True:=⟨⟩
theorem PySem.W.Fast.tw16922822266587488305:True:=⟨⟩
theorem PySem.W.Fast.tw1777449554913042316:True:=⟨⟩
theorem PySem.W.Fast.tw16274206917625001316:True:=⟨⟩
theorem PySem.W.Fast.tw13129489455204091495:True:=⟨⟩
theorem PySem.W.Fast.tw12878480534042205779:True:=⟨⟩
theorem PySem.W.Fast.tw12872780295383246180:True:=⟨⟩
theorem PySem.W.Fast.tw2832103039807838371:True:=⟨⟩
theorem PySem.W.Fast.tw2638052479349908793:True:=⟨⟩
theorem PySem.W.Fast.tw9628451659741979569:True:=⟨⟩
theorem PySem.W.Fast.tw12298133692808992753:True:=⟨⟩
theorem PySem.W.Fast.tw1458753969983312090:True:=⟨⟩
theorem PySem.W.Fast.tw13123535796753798660:True:=⟨⟩
theorem PySem.W.Fast.tw2966820413982540021:True:=⟨⟩
theorem PySem.W.Fast.tw4792964740713518890:True:=⟨⟩
theorem PySem.W.Fast.tw5806841356375995348:True:=⟨⟩
theorem PySem.W.Fast.tw13486890630652107621:True:=⟨⟩
theorem PySem.W.Fast.tw14722870588430725513:True:=⟨⟩
theorem PySem.W.Fast.tw2599055480365596995:True:=⟨⟩
theorem PySem.W.Fast.tw2539491907080430737:True:=⟨⟩
theorem PySem.W.Fast.tw12856943379579455169:True:=⟨⟩
theorem PySem.W.Fast.tw15757117362792039559:True:=⟨⟩
theorem PySem.W.Fast.tw12132635197243428294:True:=⟨⟩
theorem PySem.W.Fast.tw7398512387741604520:True:=⟨⟩
theorem PySem.W.Fast.tw17817145804605355010:True:=⟨⟩
theorem PySem.W.Fast.tw14714125334316411476:True:=⟨⟩
theorem PySem.W.Fast.tw943463886220223603:True:=⟨⟩
theorem PySem.W.Fast.tw9918884189209612507:True:=⟨⟩
theorem PySem.W.Fast.tw6317695419150923600:True:=⟨⟩
theorem PySem.W.Fast.tw10376308264748158223:True:=⟨⟩
theorem PySem.W.Fast.tw4146459480005132818:True:=⟨⟩
theorem PySem.W.Fast.tw17429480957150342699:True:=⟨⟩
theorem PySem.W.Fast.tw7932922143671814499:True:=⟨⟩
theorem PySem.W.Fast.tw1130781064023689079:True:=⟨⟩
theorem PySem.W.Fast.tw17419222519373252075:True:=⟨⟩
theorem PySem.W.Fast.tw2140414711341984379:True:=⟨⟩
theorem PySem.W.Fast.tw1631746951399516407:True:=⟨⟩
theorem PySem.W.Fast.tw7663756342202883393:True:=⟨⟩
theorem PySem.W.Fast.tw4977698873430284168:True:=⟨⟩
theorem PySem.W.Fast.tw7486309684538742762:True:=⟨⟩
theorem PySem.W.Fast.tw8255522108892377230:True:=⟨⟩
theorem PySem.W.Fast.tw6162315616750652131:True:=⟨⟩
theorem PySem.W.Fast.tw5987910520831921136:True:=⟨⟩
theorem PySem.W.Fast.tw4143833762625496425:True:=⟨⟩
theorem PySem.W.Fast.tw96915262828484411:True:=⟨⟩
theorem PySem.W.Fast.tw2996504934254985192:True:=⟨⟩
theorem PySem.W.Fast.tw15476039691266524692:True:=⟨⟩
theorem PySem.W.Fast.tw8760143310382106975:True:=⟨⟩
theorem PySem.W.Fast.tw12450652330449304136:True:=⟨⟩
theorem PySem.W.Fast.tw13079533801588521768:True:=⟨⟩
theorem PySem.W.Fast.tw3455918476126400278:True:=⟨⟩
theorem PySem.W.Fast.tw2895388878623110991:True:=⟨⟩
theorem PySem.W.Fast.tw231641717237735535:True:=⟨⟩
theorem PySem.W.Fast.tw18360519779745761984:True:=⟨⟩
theorem PySem.W.Fast.tw7363942469420995613:True:=⟨⟩
theorem PySem.W.Fast.tw15139848016728917810:True:=⟨⟩
theorem PySem.W.Fast.tw15715387528969499372:True:=⟨⟩
theorem PySem.W.Fast.tw1735320785950104483:True:=⟨⟩
theorem PySem.W.Fast.tw14228725432878694272:True:=⟨⟩
theorem PySem.W.Fast.tw18423517125933859783:True:=⟨⟩
theorem PySem.W.Fast.tw8578381056099443811:True:=⟨⟩
theorem PySem.W.Fast.tw11592982802811382481:True:=⟨⟩
theorem PySem.W.Fast.tw3066611329604695507:True:=⟨⟩
theorem PySem.W.Fast.tw17200168131325918082:True:=⟨⟩
theorem PySem.W.Fast.tw6422336839390336183:True:=⟨⟩
theorem PySem.W.Fast.tw2345941234250989437:True:=⟨⟩
theorem PySem.W.Fast.tw7064734236238785974:True:=⟨⟩
theorem PySem.W.Fast.tw15698994999545003883:True:=⟨⟩
theorem PySem.W.Fast.tw13807465473809982348:True:=⟨⟩
theorem PySem.W.Fast.tw5671300315762342470:True:=⟨⟩
theorem PySem.W.Fast.tw9292339838599482114:True:=⟨⟩
theorem PySem.W.Fast.tw4663761227531005679:True:=⟨⟩
theorem PySem.W.Fast.tw4822661650411336007:True:=⟨⟩
theorem PySem.W.Fast.tw6674419853679391139:True:=⟨⟩
theorem PySem.W.Fast.tw13059469207068927034:True:=⟨⟩
theorem PySem.W.Fast.tw18410598683624438324:True:=⟨⟩
theorem PySem.W.Fast.tw6912298018712521810:True:=⟨⟩
theorem PySem.W.Fast.tw10799661524878153088:True:=⟨⟩
theorem PySem.W.Fast.tw6654064083588547737:True:=⟨⟩
theorem PySem.W.Fast.tw7902821767532273433:True:=⟨⟩
theorem PySem.W.Fast.tw10115453921097471840:True:=⟨⟩
theorem PySem.W.Fast.tw14809448177028523143:True:=⟨⟩
theorem PySem.W.Fast.tw9968583397997635491:True:=⟨⟩
theorem PySem.W.Fast.tw12175213547696707856:True:=⟨⟩
theorem PySem.W.Fast.tw12846983110808032761:True:=⟨⟩
theorem PySem.W.Fast.tw14156549555457357809:True:=⟨⟩
theorem PySem.W.Fast.tw5400193858128482100:True:=⟨⟩
theorem PySem.W.Fast.tw10695702285500791654:True:=⟨⟩
theorem PySem.W.Fast.tw7162723271988615623:True:=⟨⟩
theorem PySem.W.Fast.tw2666289155979418635:True:=⟨⟩
theorem PySem.W.Fast.tw3221856308477550026:True:=⟨⟩
theorem PySem.W.Fast.tw1301164814799212257:True:=⟨⟩
theorem PySem.W.Fast.tw14480876883084245586:True:=⟨⟩
theorem PySem.W.Fast.tw11329838164482394606:True:=⟨⟩
theorem PySem.W.Fast.tw9786734096570336622:True:=⟨⟩
theorem PySem.W.Fast.tw12489239959826494481:True:=⟨⟩
theorem PySem.W.Fast.tw13784181566017536315:True:=⟨⟩
theorem PySem.W.Fast.tw7110583988519780272:True:=⟨⟩
theorem PySem.W.Fast.tw14094598636569656159:True:=⟨⟩
theorem PySem.W.Fast.tw16383829869078297277:True:=⟨⟩
theorem PySem.W.Fast.tw11919830901455659494:True:=⟨⟩
theorem PySem.W.Fast.tw13727383215740256319:True:=⟨⟩
theorem PySem.W.Fast.tw7635412023533375078:True:=⟨⟩
theorem PySem.W.Fast.tw2324713090536218815:True:=⟨⟩
theorem PySem.W.Fast.tw8890156848897310292:True:=⟨⟩
theorem PySem.W.Fast.tw10165461271594262740:True:=⟨⟩
theorem PySem.W.Fast.tw7556635750916001702:True:=⟨⟩
theorem PySem.W.Fast.tw14860384017845326167:True:=⟨⟩
theorem PySem.W.Fast.tw4095237251745317214:True:=⟨⟩
theorem PySem.W.Fast.tw10631112844439773664:True:=⟨⟩
theorem PySem.W.Fast.tw7725260815452309260:True:=⟨⟩
theorem PySem.W.Fast.tw9185116175589875444:True:=⟨⟩
theorem PySem.W.Fast.tw5126534624060759198:True:=⟨⟩
theorem PySem.W.Fast.tw8700296759182302557:True:=⟨⟩
theorem PySem.W.Fast.tw984963395138283588:True:=⟨⟩
theorem PySem.W.Fast.tw393420611245395738:True:=⟨⟩
theorem PySem.W.Fast.tw15707040026744700939:True:=⟨⟩
theorem PySem.W.Fast.tw2860224216102504384:True:=⟨⟩
theorem PySem.W.Fast.tw5565097029640951073:True:=⟨⟩
theorem PySem.W.Fast.tw4420055869436551715:True:=⟨⟩
theorem PySem.W.Fast.tw13297559991374294857:True:=⟨⟩
theorem PySem.W.Fast.tw6800301036740077830:True:=⟨⟩
theorem PySem.W.Fast.tw13892947927312340209:True:=⟨⟩
theorem PySem.W.Fast.tw9372060981147849742:True:=⟨⟩
theorem PySem.W.Fast.tw8462057820413574654:True:=⟨⟩
theorem PySem.W.Fast.tw7369872709766773788:True:=⟨⟩
theorem PySem.W.Fast.tw4745282320889596558:True:=⟨⟩
theorem PySem.W.Fast.tw3741596184875702909:True:=⟨⟩
theorem PySem.W.Fast.tw12216639375095565171:True:=⟨⟩
theorem PySem.W.Fast.tw881448454844862278:True:=⟨⟩
theorem PySem.W.Fast.tw5986009859030180962:True:=⟨⟩
theorem PySem.W.Fast.tw7483595313870401763:True:=⟨⟩
theorem PySem.W.Fast.tw13183521748847405603:True:=⟨⟩
theorem PySem.W.Fast.tw16208379421925474990:True:=⟨⟩
theorem PySem.W.Fast.tw5070797144464792507:True:=⟨⟩
theorem PySem.W.Fast.tw1958255970771353967:True:=⟨⟩
theorem PySem.W.Fast.tw783968734191192811:True:=⟨⟩
theorem PySem.W.Fast.tw1323266504718835715:True:=⟨⟩
theorem PySem.W.Fast.tw3425865559474345388:True:=⟨⟩
theorem PySem.W.Fast.tw4328553563001827656:True:=⟨⟩
theorem PySem.W.Fast.tw16158777666667780227:True:=⟨⟩
theorem PySem.W.Fast.tw14242569915759224351:True:=⟨⟩
theorem PySem.W.Fast.tw17302521262442156394:True:=⟨⟩
theorem PySem.W.Fast.tw18394932351681491419:True:=⟨⟩
theorem PySem.W.Fast.tw10995437627715263879:True:=⟨⟩
theorem PySem.W.Fast.tw10659004892546443165:True:=⟨⟩
theorem PySem.W.Fast.tw11646640102593753372:True:=⟨⟩
theorem PySem.W.Fast.tw9849413819516385635:True:=⟨⟩
theorem PySem.W.Fast.tw16207420261357562947:True:=⟨⟩
theorem PySem.W.Fast.tw1734839679455106339:True:=⟨⟩
theorem PySem.W.Fast.tw10247834988730041480:True:=⟨⟩
theorem PySem.W.Fast.tw4668636723585945992:True:=⟨⟩
theorem PySem.W.Fast.tw9581682538279592682:True:=⟨⟩
theorem PySem.W.Fast.tw5663749029710080292:True:=⟨⟩
theorem PySem.W.Fast.tw1257135868039730294:True:=⟨⟩
theorem PySem.W.Fast.tw1672218451205858157:True:=⟨⟩
theorem PySem.W.Fast.tw16052313013781004958:True:=⟨⟩
theorem PySem.W.Fast.tw12609561798907236590:True:=⟨⟩
theorem PySem.W.Fast.tw6736870585856371682:True:=⟨⟩
theorem PySem.W.Fast.tw2114433216503424027:True:=⟨⟩
theorem PySem.W.Fast.tw2922705867163873259:True:=⟨⟩
theorem PySem.W.Fast.tw12451598697275630323:True:=⟨⟩
theorem PySem.W.Fast.tw11781468262036429294:True:=⟨⟩
theorem PySem.W.Fast.tw3006475120742346949:True:=⟨⟩
theorem PySem.W.Fast.tw882733188746361748:True:=⟨⟩
theorem PySem.W.Fast.tw7924835222853978074:True:=⟨⟩
theorem PySem.W.Fast.tw5609687116446115548:True:=⟨⟩
theorem PySem.W.Fast.tw5822809574428126981:True:=⟨⟩
theorem PySem.W.Fast.tw857770647487984089:True:=⟨⟩
theorem PySem.W.Fast.tw5894880998320984974:True:=⟨⟩
theorem PySem.W.Fast.tw12012859553131225442:True:=⟨⟩
theorem PySem.W.Fast.tw12846269149589099727:True:=⟨⟩
theorem PySem.W.Fast.tw15820642651579084001:True:=⟨⟩
theorem PySem.W.Fast.tw15028473630881387979:True:=⟨⟩
theorem PySem.W.Fast.tw7427316066704496575:True:=⟨⟩
theorem PySem.W.Fast.tw10184689687361212867:True:=⟨⟩
theorem PySem.W.Fast.tw3661993183627026535:True:=⟨⟩
theorem PySem.W.Fast.tw955067244886250872:True:=⟨⟩
theorem PySem.W.Fast.tw15234878623913966410:True:=⟨⟩
theorem PySem.W.Fast.tw11224777109483890678:True:=⟨⟩
theorem PySem.W.Fast.tw10480588105430665089:True:=⟨⟩
theorem PySem.W.Fast.tw4303047251899893434:True:=⟨⟩
theorem PySem.W.Fast.tw11724977801669972341:True:=⟨⟩
theorem PySem.W.Fast.tw17294779919890712253:True:=⟨⟩
theorem PySem.W.Fast.tw3550981286693507167:True:=⟨⟩
theorem PySem.W.Fast.tw4929528401300838751:True:=⟨⟩
theorem PySem.W.Fast.tw13997610364787726581:True:=⟨⟩
theorem PySem.W.Fast.tw12107030577794178219:True:=⟨⟩
theorem PySem.W.Fast.tw9824677376172101134:True:=⟨⟩
theorem PySem.W.Fast.tw8157743157519717848:True:=⟨⟩
theorem PySem.W.Fast.tw1761347355484390525:True:=⟨⟩
theorem PySem.W.Fast.tw1128504843068689619:True:=⟨⟩
theorem PySem.W.Fast.tw3982138664616490301:True:=⟨⟩
theorem PySem.W.Fast.tw16933646317120122257:True:=⟨⟩
theorem PySem.W.Fast.tw9449509011808567581:True:=⟨⟩
theorem PySem.W.Fast.tw10854967378559090889:True:=⟨⟩
theorem PySem.W.Fast.tw13011000616544737553:True:=⟨⟩
theorem PySem.W.Fast.tw708912114037506540:True:=⟨⟩
theorem PySem.W.Fast.tw10915700844758177241:True:=⟨⟩
theorem PySem.W.Fast.tw13539310182921973241:True:=⟨⟩
theorem PySem.W.Fast.tw3659684094028768872:True:=⟨⟩
theorem PySem.W.Fast.tw11618563809674507121:True:=⟨⟩
theorem PySem.W.Fast.tw8127574709990433925:True:=⟨⟩
theorem PySem.W.Fast.tw15500360144868976468:True:=⟨⟩
theorem PySem.W.Fast.tw1246894963079014275:True:=⟨⟩
theorem PySem.W.Fast.tw13191656164310028815:True:=⟨⟩
theorem PySem.W.Fast.tw3193388254800529585:True:=⟨⟩
theorem PySem.W.Fast.tw17876407322412359657:True:=⟨⟩
theorem PySem.W.Fast.tw15512686366107100196:True:=⟨⟩
theorem PySem.W.Fast.tw9167655629890963180:True:=⟨⟩
theorem PySem.W.Fast.tw5055010686336687906:True:=⟨⟩
theorem PySem.W.Fast.tw10427201401632005336:True:=⟨⟩
theorem PySem.W.Fast.tw9072086202856076796:True:=⟨⟩
theorem PySem.W.Fast.tw9936309491075503518:True:=⟨⟩
theorem PySem.W.Fast.tw4407203155065176923:True:=⟨⟩
theorem PySem.W.Fast.tw852821885245399592:True:=⟨⟩
theorem PySem.W.Fast.tw8271799001719339418:True:=⟨⟩
theorem PySem.W.Fast.tw5238117254141030280:True:=⟨⟩
theorem PySem.W.Fast.tw12892449905079702082:True:=⟨⟩
theorem PySem.W.Fast.tw6431244933648888488:True:=⟨⟩
theorem PySem.W.Fast.tw2644555990461732355:True:=⟨⟩
theorem PySem.W.Fast.tw7717802132051482896:True:=⟨⟩
theorem PySem.W.Fast.tw18195938387030869079:True:=⟨⟩
theorem PySem.W.Fast.tw6849210406696242517:True:=⟨⟩
theorem PySem.W.Fast.tw5885906884043818837:True:=⟨⟩
theorem PySem.W.Fast.tw5367602587001230469:True:=⟨⟩
theorem PySem.W.Fast.tw6312098780226594517:True:=⟨⟩
theorem PySem.W.Fast.tw10409247621877965346:True:=⟨⟩
theorem PySem.W.Fast.tw2658108661141020165:True:=⟨⟩
theorem PySem.W.Fast.tw85329284654889010:True:=⟨⟩
theorem PySem.W.Fast.tw1054079761785810701:True:=⟨⟩
theorem PySem.W.Fast.tw7524883252375783214:True:=⟨⟩
theorem PySem.W.Fast.tw17691713054385609048:True:=⟨⟩
theorem PySem.W.Fast.tw11204830960866494458:True:=⟨⟩
theorem PySem.W.Fast.tw3444275660777387770:True:=⟨⟩
theorem PySem.W.Fast.tw9023737848223794940:True:=⟨⟩
theorem PySem.W.Fast.tw951302730283615218:True:=⟨⟩
theorem PySem.W.Fast.tw6726479952146747814:True:=⟨⟩
theorem PySem.W.Fast.tw10728688782914471205:True:=⟨⟩
theorem PySem.W.Fast.tw7518515513713014678:True:=⟨⟩
theorem PySem.W.Fast.tw225035410965265861:True:=⟨⟩
theorem PySem.W.Fast.tw975869591134741643:True:=⟨⟩
theorem PySem.W.Fast.tw17413594481073079043:True:=⟨⟩
theorem PySem.W.Fast.tw17658227406856023459:True:=⟨⟩
theorem PySem.W.Fast.tw11036454231698333085:True:=⟨⟩
theorem PySem.W.Fast.tw14077335402319378471:True:=⟨⟩
theorem PySem.W.Fast.tw466869245705480165:True:=⟨⟩
theorem PySem.W.Fast.tw168152896819305107:True:=⟨⟩
theorem PySem.W.Fast.tw4271885273086584589:True:=⟨⟩
theorem PySem.W.Fast.tw13308920125454391059:True:=⟨⟩
theorem PySem.W.Fast.tw15564912146907022821:True:=⟨⟩
theorem PySem.W.Fast.tw12234454360276535677:True:=⟨⟩
theorem PySem.W.Fast.tw5751046285290611329:True:=⟨⟩
theorem PySem.W.Fast.tw2254642469027693703:True:=⟨⟩
theorem PySem.W.Fast.tw5642573546189512622:True:=⟨⟩
theorem PySem.W.Fast.tw5698144712982880077:True:=⟨⟩
theorem PySem.W.Fast.tw3071322325198502516:True:=⟨⟩
theorem PySem.W.Fast.tw6873667175363752443:True:=⟨⟩
theorem PySem.W.Fast.tw6990093764372471854:True:=⟨⟩
theorem PySem.W.Fast.tw9008814719039693810:True:=⟨⟩
theorem PySem.W.Fast.tw3250567050745825490:True:=⟨⟩
theorem PySem.W.Fast.tw15359200062775519595:True:=⟨⟩
theorem PySem.W.Fast.tw13656216345386183376:True:=⟨⟩
theorem PySem.W.Fast.tw1933832399234683257:True:=⟨⟩
theorem PySem.W.Fast.tw7875721952286577713:True:=⟨⟩
theorem PySem.W.Fast.tw15881009083079344763:True:=⟨⟩
theorem PySem.W.Fast.tw16577626688398006574:True:=⟨⟩
theorem PySem.W.Fast.tw1171794668378991209:True:=⟨⟩
theorem PySem.W.Fast.tw12029479756089310343:True:=⟨⟩
theorem PySem.W.Fast.tw11401047679503102286:True:=⟨⟩
theorem PySem.W.Fast.tw12097243295735052142:True:=⟨⟩
theorem PySem.W.Fast.tw7585668871479512676:True:=⟨⟩
theorem PySem.W.Fast.tw483440579118139673:True:=⟨⟩
theorem PySem.W.Fast.tw866399250524168011:True:=⟨⟩
theorem PySem.W.Fast.tw3869962655581003314:True:=⟨⟩
theorem PySem.W.Fast.tw11227802950150950844:True:=⟨⟩
theorem PySem.W.Fast.tw495740994384301836:True:=⟨⟩
theorem PySem.W.Fast.tw3120438420576731108:True:=⟨⟩
theorem PySem.W.Fast.tw1958622687923318874:True:=⟨⟩
theorem PySem.W.Fast.tw7496062182265214159:True:=⟨⟩
theorem PySem.W.Fast.tw1473391148280429010:True:=⟨⟩
theorem PySem.W.Fast.tw13642781502262803114:True:=⟨⟩
theorem PySem.W.Fast.tw4461323892536038202:True:=⟨⟩
theorem PySem.W.Fast.tw5832143845710621118:True:=⟨⟩
theorem PySem.W.Fast.tw14949431113116247498:True:=⟨⟩
theorem PySem.W.Fast.tw15767856775716511406:True:=⟨⟩
theorem PySem.W.Fast.tw2077434687131675281:True:=⟨⟩
theorem PySem.W.Fast.tw13971977446896393282:True:=⟨⟩
theorem PySem.W.Fast.tw12822062589711959344:True:=⟨⟩
theorem PySem.W.Fast.tw17343659619300131303:True:=⟨⟩
theorem PySem.W.Fast.tw13836666889386015048:True:=⟨⟩
theorem PySem.W.Fast.tw3106073874888835603:True:=⟨⟩
theorem PySem.W.Fast.tw8325725388986412450:True:=⟨⟩
theorem PySem.W.Fast.tw9121196318401468387:True:=⟨⟩
theorem PySem.W.Fast.tw17932529706983538468:True:=⟨⟩
theorem PySem.W.Fast.tw15606918467946973509:True:=⟨⟩
theorem PySem.W.Fast.tw11435628180572676050:True:=⟨⟩
theorem PySem.W.Fast.tw15499697701559895759:True:=⟨⟩
theorem PySem.W.Fast.tw4701441494462529224:True:=⟨⟩
theorem PySem.W.Fast.tw3374478647069906269:True:=⟨⟩
theorem PySem.W.Fast.tw7202033759968155375:True:=⟨⟩
theorem PySem.W.Fast.tw12923211563828164320:True:=⟨⟩
theorem PySem.W.Fast.tw15771913005756695378:True:=⟨⟩
theorem PySem.W.Fast.tw9781641948044166042:True:=⟨⟩
theorem PySem.W.Fast.tw8109921401447213566:True:=⟨⟩
theorem PySem.W.Fast.tw8350351777694204138:True:=⟨⟩
theorem PySem.W.Fast.tw1968068590603902326:True:=⟨⟩
theorem PySem.W.Fast.tw9212591381234032542:True:=⟨⟩
theorem PySem.W.Fast.tw13657832777324154453:True:=⟨⟩
theorem PySem.W.Fast.tw9502183762812073619:True:=⟨⟩
theorem PySem.W.Fast.tw557156228298219674:True:=⟨⟩
theorem PySem.W.Fast.tw2664693269645827984:True:=⟨⟩
theorem PySem.W.Fast.tw16817046420320289166:True:=⟨⟩
theorem PySem.W.Fast.tw9538130581321886201:True:=⟨⟩
theorem PySem.W.Fast.tw5920642581001486250:True:=⟨⟩
theorem PySem.W.Fast.tw13827308267297343438:True:=⟨⟩
theorem PySem.W.Fast.tw4266895974018549520:True:=⟨⟩
theorem PySem.W.Fast.tw16305713579995488597:True:=⟨⟩
theorem PySem.W.Fast.tw18395598964220916063:True:=⟨⟩
theorem PySem.W.Fast.tw552955635862931205:True:=⟨⟩
theorem PySem.W.Fast.tw4738252232087435418:True:=⟨⟩
theorem PySem.W.Fast.tw3315277477178621173:True:=⟨⟩
theorem PySem.W.Fast.tw11821688082770024310:True:=⟨⟩
theorem PySem.W.Fast.tw6813531022848389595:True:=⟨⟩
theorem PySem.W.Fast.tw4483731631748222497:True:=⟨⟩
theorem PySem.W.Fast.tw12825290457502716972:True:=⟨⟩
theorem PySem.W.Fast.tw11249706285189215756:True:=⟨⟩
theorem PySem.W.Fast.tw12248600726513806760:True:=⟨⟩
theorem PySem.W.Fast.tw1226884643806203609:True:=⟨⟩
theorem PySem.W.Fast.tw18417873289165189364:True:=⟨⟩
theorem PySem.W.Fast.tw3452084057263631746:True:=⟨⟩
theorem PySem.W.Fast.tw17779370735561622837:True:=⟨⟩
theorem PySem.W.Fast.tw6049138677952671033:True:=⟨⟩
theorem PySem.W.Fast.tw15884285152991993397:True:=⟨⟩
theorem PySem.W.Fast.tw5562541684284577995:True:=⟨⟩
theorem PySem.W.Fast.tw2574818630703708493:True:=⟨⟩
theorem PySem.W.Fast.tw7172422299144887520:True:=⟨⟩
theorem PySem.W.Fast.tw378144183295147111:True:=⟨⟩
theorem PySem.W.Fast.tw15724212575305389489:True:=⟨⟩
theorem PySem.W.Fast.tw14942366629634872976:True:=⟨⟩
theorem PySem.W.Fast.tw217690804622712950:True:=⟨⟩
theorem PySem.W.Fast.tw4947539191919142458:True:=⟨⟩
theorem PySem.W.Fast.tw8690691296473527759:True:=⟨⟩
theorem PySem.W.Fast.tw8387260118239847100:True:=⟨⟩
theorem PySem.W.Fast.tw14446137630051014451:True:=⟨⟩
theorem PySem.W.Fast.tw17243592914512451896:True:=⟨⟩
theorem PySem.W.Fast.tw12973457310101019374:True:=⟨⟩
theorem PySem.W.Fast.tw5904100690422159596:True:=⟨⟩
theorem PySem.W.Fast.tw9706634532038455568:True:=⟨⟩
theorem PySem.W.Fast.tw1453553358589454700:True:=⟨⟩
theorem PySem.W.Fast.tw17936321330768722490:True:=⟨⟩
theorem PySem.W.Fast.tw14370551650991124759:True:=⟨⟩
theorem PySem.W.Fast.tw3495033263858973271:True:=⟨⟩
theorem PySem.W.Fast.tw15826517521612720654:True:=⟨⟩
theorem PySem.W.Fast.tw18372673097624634110:True:=⟨⟩
theorem PySem.W.Fast.tw12036928583365455267:True:=⟨⟩
theorem PySem.W.Fast.tw13040857889286705780:True:=⟨⟩
theorem PySem.W.Fast.tw14981831350616788554:True:=⟨⟩
theorem PySem.W.Fast.tw186274256111108345:True:=⟨⟩
theorem PySem.W.Fast.tw11816271991692624258:True:=⟨⟩
theorem PySem.W.Fast.tw90957806704293611:True:=⟨⟩
theorem PySem.W.Fast.tw8549943891256702065:True:=⟨⟩
theorem PySem.W.Fast.tw2124026231703854119:True:=⟨⟩
theorem PySem.W.Fast.tw11690950263232981407:True:=⟨⟩
theorem PySem.W.Fast.tw11337067982331560635:True:=⟨⟩
theorem PySem.W.Fast.tw6079941646664274722:True:=⟨⟩
theorem PySem.W.Fast.tw8407980895504443109:True:=⟨⟩
theorem PySem.W.Fast.tw16825547238544690947:True:=⟨⟩
theorem PySem.W.Fast.tw10116577883002604858:True:=⟨⟩
theorem PySem.W.Fast.tw2073871522849200641:True:=⟨⟩
theorem PySem.W.Fast.tw7249021529177853809:True:=⟨⟩
theorem PySem.W.Fast.tw17356601146350924752:True:=⟨⟩
theorem PySem.W.Fast.tw4614544726978192713:True:=⟨⟩
theorem PySem.W.Fast.tw7773041428793864000:True:=⟨⟩
theorem PySem.W.Fast.tw8122265373347843322:True:=⟨⟩
theorem PySem.W.Fast.tw11007480140904132055:True:=⟨⟩
theorem PySem.W.Fast.tw6730147825716292035:True:=⟨⟩
theorem PySem.W.Fast.tw9769445471778519511:True:=⟨⟩
theorem PySem.W.Fast.tw13415921923020642563:True:=⟨⟩
theorem PySem.W.Fast.tw9239425978100392696:True:=⟨⟩
theorem PySem.W.Fast.tw9455530887013038939:True:=⟨⟩
theorem PySem.W.Fast.tw754179791830152067:True:=⟨⟩
theorem PySem.W.Fast.tw4440529179805216555:True:=⟨⟩
theorem PySem.W.Fast.tw16496800502730975773:True:=⟨⟩
theorem PySem.W.Fast.tw2303025239407119159:True:=⟨⟩
theorem PySem.W.Fast.tw13116119177569494648:True:=⟨⟩
theorem PySem.W.Fast.tw15639814709094249577:True:=⟨⟩
theorem PySem.W.Fast.tw15261456293199791308:True:=⟨⟩
theorem PySem.W.Fast.tw14129626734007283836:True:=⟨⟩
theorem PySem.W.Fast.tw4827742115421529462:True:=⟨⟩
theorem PySem.W.Fast.tw9363187444838389917:True:=⟨⟩
theorem PySem.W.Fast.tw11102282656216628985:True:=⟨⟩
theorem PySem.W.Fast.tw17439068703222065856:True:=⟨⟩
theorem PySem.W.Fast.tw12846971065763022097:True:=⟨⟩
theorem PySem.W.Fast.tw6372354513489250293:True:=⟨⟩
theorem PySem.W.Fast.tw12024821899837638038:True:=⟨⟩
theorem PySem.W.Fast.tw3120274955270567249:True:=⟨⟩
theorem PySem.W.Fast.tw8273283350937126470:True:=⟨⟩
theorem PySem.W.Fast.tw1006929839687826165:True:=⟨⟩
theorem PySem.W.Fast.tw16909231323219583995:True:=⟨⟩
theorem PySem.W.Fast.tw6267273022627920823:True:=⟨⟩
theorem PySem.W.Fast.tw17295887910201584774:True:=⟨⟩
theorem PySem.W.Fast.tw537127963984305208:True:=⟨⟩
theorem PySem.W.Fast.tw9102863391298957882:True:=⟨⟩
theorem PySem.W.Fast.tw14436205531382792117:True:=⟨⟩
theorem PySem.W.Fast.tw15699899729427144981:True:=⟨⟩
theorem PySem.W.Fast.tw2410242643219805345:True:=⟨⟩
theorem PySem.W.Fast.tw6313510000612292606:True:=⟨⟩
theorem PySem.W.Fast.tw8700981327259134446:True:=⟨⟩
theorem PySem.W.Fast.tw16526956998835601708:True:=⟨⟩
theorem PySem.W.Fast.tw14853191470513125506:True:=⟨⟩
theorem PySem.W.Fast.tw4735323591675014346:True:=⟨⟩
theorem PySem.W.Fast.tw421189221908372980:True:=⟨⟩
theorem PySem.W.Fast.tw18393908871895171685:True:=⟨⟩
theorem PySem.W.Fast.tw5218995673279005675:True:=⟨⟩
theorem PySem.W.Fast.tw4525232493219518973:True:=⟨⟩
theorem PySem.W.Fast.tw10068053364512565495:True:=⟨⟩
theorem PySem.W.Fast.tw5938666986830464528:True:=⟨⟩
theorem PySem.W.Fast.tw13139700836680500980:True:=⟨⟩
theorem PySem.W.Fast.tw2623684107570030957:True:=⟨⟩
theorem PySem.W.Fast.tw1115144656298568050:True:=⟨⟩
theorem PySem.W.Fast.tw4394978282325234652:True:=⟨⟩
theorem PySem.W.Fast.tw2867833795630630774:True:=⟨⟩
theorem PySem.W.Fast.tw14145402325526910319:True:=⟨⟩
theorem PySem.W.Fast.tw1355849577921961145:True:=⟨⟩
theorem PySem.W.Fast.tw2930661527270849823:True:=⟨⟩
theorem PySem.W.Fast.tw14491235885769472462:True:=⟨⟩
theorem PySem.W.Fast.tw16299655010606161195:True:=⟨⟩
theorem PySem.W.Fast.tw13434699923686779406:True:=⟨⟩
theorem PySem.W.Fast.tw3908610780243033652:True:=⟨⟩
theorem PySem.W.Fast.tw2638171959390380943:True:=⟨⟩
theorem PySem.W.Fast.tw587696145764646451:True:=⟨⟩
theorem PySem.W.Fast.tw10401138571810606871:True:=⟨⟩
theorem PySem.W.Fast.tw4018137733696160223:True:=⟨⟩
theorem PySem.W.Fast.tw3082825856807221718:True:=⟨⟩
theorem PySem.W.Fast.tw12712143499195941458:True:=⟨⟩
theorem PySem.W.Fast.tw2121218896712984814:True:=⟨⟩
theorem PySem.W.Fast.tw3643141191513850483:True:=⟨⟩
theorem PySem.W.Fast.tw11897358378420994268:True:=⟨⟩
theorem PySem.W.Fast.tw13548605186810220590:True:=⟨⟩
theorem PySem.W.Fast.tw3143661145351723186:True:=⟨⟩
theorem PySem.W.Fast.tw18196139509374977157:True:=⟨⟩
theorem PySem.W.Fast.tw3837014331279978515:True:=⟨⟩
theorem PySem.W.Fast.tw4596715264031516708:True:=⟨⟩
theorem PySem.W.Fast.tw7585326535519020707:True:=⟨⟩
theorem PySem.W.Fast.tw6399864896493226845:True:=⟨⟩
theorem PySem.W.Fast.tw13306274159725343134:True:=⟨⟩
theorem PySem.W.Fast.tw3135872997752978613:True:=⟨⟩
theorem PySem.W.Fast.tw9311750163911234084:True:=⟨⟩
theorem PySem.W.Fast.tw3806049724943004226:True:=⟨⟩
theorem PySem.W.Fast.tw6802206906473022789:True:=⟨⟩
theorem PySem.W.Fast.tw410111508745383619:True:=⟨⟩
theorem PySem.W.Fast.tw13101864697946759771:True:=⟨⟩
theorem PySem.W.Fast.tw9079223888058516741:True:=⟨⟩
theorem PySem.W.Fast.tw12172516707705254243:True:=⟨⟩
theorem PySem.W.Fast.tw7659889580379252042:True:=⟨⟩
theorem PySem.W.Fast.tw389863885394958812:True:=⟨⟩
theorem PySem.W.Fast.tw17508034702027321116:True:=⟨⟩
theorem PySem.W.Fast.tw17816785914470749336:True:=⟨⟩
theorem PySem.W.Fast.tw18052354975749226915:True:=⟨⟩
theorem PySem.W.Fast.tw15040572675974811185:True:=⟨⟩
theorem PySem.W.Fast.tw18025348100312158905:True:=⟨⟩
theorem PySem.W.Fast.tw6397403648546170182:True:=⟨⟩
theorem PySem.W.Fast.tw13251406761813167835:True:=⟨⟩
theorem PySem.W.Fast.tw14315566173689897505:True:=⟨⟩
theorem PySem.W.Fast.tw2509270929388738225:True:=⟨⟩
theorem PySem.W.Fast.tw13732412652151612546:True:=⟨⟩
theorem PySem.W.Fast.tw2249911572095752859:True:=⟨⟩
theorem PySem.W.Fast.tw8921568296289287237:True:=⟨⟩
theorem PySem.W.Fast.tw17145636050502431275:True:=⟨⟩
theorem PySem.W.Fast.tw2044974575092178382:True:=⟨⟩
theorem PySem.W.Fast.tw3011339766927634410:True:=⟨⟩
theorem PySem.W.Fast.tw17918368683161984324:True:=⟨⟩
theorem PySem.W.Fast.tw16824682100872499644:True:=⟨⟩
theorem PySem.W.Fast.tw8407304232731590392:True:=⟨⟩
theorem PySem.W.Fast.tw8354470355745273979:True:=⟨⟩
theorem PySem.W.Fast.tw5323965718765152240:True:=⟨⟩
theorem PySem.W.Fast.tw2298621595251321928:True:=⟨⟩
theorem PySem.W.Fast.tw9767428183542167178:True:=⟨⟩
theorem PySem.W.Fast.tw6380502251724476352:True:=⟨⟩
theorem PySem.W.Fast.tw13771604331047737470:True:=⟨⟩
theorem PySem.W.Fast.tw9009955686668071320:True:=⟨⟩
theorem PySem.W.Fast.tw5717656389195710530:True:=⟨⟩
theorem PySem.W.Fast.tw16775031240204736614:True:=⟨⟩
theorem PySem.W.Fast.tw17500321981014863208:True:=⟨⟩
theorem PySem.W.Fast.tw2409253435126802257:True:=⟨⟩
theorem PySem.W.Fast.tw13190121601220868637:True:=⟨⟩
theorem PySem.W.Fast.tw7100483307676756803:True:=⟨⟩
theorem PySem.W.Fast.tw4686137501205909427:True:=⟨⟩
theorem PySem.W.Fast.tw1875369664068462209:True:=⟨⟩
theorem PySem.W.Fast.tw4365525803838514015:True:=⟨⟩
theorem PySem.W.Fast.tw3765780408954879145:True:=⟨⟩
theorem PySem.W.Fast.tw2558951691979111707:True:=⟨⟩
theorem PySem.W.Fast.tw11522237991187593477:True:=⟨⟩
theorem PySem.W.Fast.tw5578012979337647810:True:=⟨⟩
theorem PySem.W.Fast.tw14671144020849153106:True:=⟨⟩
theorem PySem.W.Fast.tw10443184732114662673:True:=⟨⟩
theorem PySem.W.Fast.tw13270438142839186220:True:=⟨⟩
theorem PySem.W.Fast.tw4026028470534771468:True:=⟨⟩
theorem PySem.W.Fast.tw17571628639414635968:True:=⟨⟩
theorem PySem.W.Fast.tw16450614518625590169:True:=⟨⟩
theorem PySem.W.Fast.tw7893427407716479441:True:=⟨⟩
theorem PySem.W.Fast.tw1537301387456050955:True:=⟨⟩
theorem PySem.W.Fast.tw17888297710469729965:True:=⟨⟩
theorem PySem.W.Fast.tw13519415451069133212:True:=⟨⟩
theorem PySem.W.Fast.tw11492720645330996817:True:=⟨⟩
theorem PySem.W.Fast.tw9983805458194443870:True:=⟨⟩
theorem PySem.W.Fast.tw14764188395365554840:True:=⟨⟩
theorem PySem.W.Fast.tw10398527191610221364:True:=⟨⟩
theorem PySem.W.Fast.tw4701077405410338749:True:=⟨⟩
theorem PySem.W.Fast.tw12896836419007399043:True:=⟨⟩
theorem PySem.W.Fast.tw13670364975829248494:True:=⟨⟩
theorem PySem.W.Fast.tw107054625505296241:True:=⟨⟩
theorem PySem.W.Fast.tw15671013197668214294:True:=⟨⟩
theorem PySem.W.Fast.tw17277222299805851091:True:=⟨⟩
theorem PySem.W.Fast.tw5178509717729012477:True:=⟨⟩
theorem PySem.W.Fast.tw16097586817293338892:True:=⟨⟩
theorem PySem.W.Fast.tw11276570783599389830:True:=⟨⟩
theorem PySem.W.Fast.tw17567115162882850951:True:=⟨⟩
theorem PySem.W.Fast.tw1463439813744512766:True:=⟨⟩
theorem PySem.W.Fast.tw12361131311190585976:True:=⟨⟩
theorem PySem.W.Fast.tw4572077457431938799:True:=⟨⟩
theorem PySem.W.Fast.tw986395069490897896:True:=⟨⟩
theorem PySem.W.Fast.tw5698438342480547167:True:=⟨⟩
theorem PySem.W.Fast.tw17236072597894279756:True:=⟨⟩
theorem PySem.W.Fast.tw10912128610751010281:True:=⟨⟩
theorem PySem.W.Fast.tw10839484883391483170:True:=⟨⟩
theorem PySem.W.Fast.tw16552987031512365564:True:=⟨⟩
theorem PySem.W.Fast.tw16725227194915266251:True:=⟨⟩
theorem PySem.W.Fast.tw16405688911576951172:True:=⟨⟩
theorem PySem.W.Fast.tw16437314866717428388:True:=⟨⟩
theorem PySem.W.Fast.tw12684037934529773879:True:=⟨⟩
theorem PySem.W.Fast.tw13612790225169811409:True:=⟨⟩
theorem PySem.W.Fast.tw4408853159641126639:True:=⟨⟩
theorem PySem.W.Fast.tw10407888683689794374:True:=⟨⟩
theorem PySem.W.Fast.tw8589021337789476094:True:=⟨⟩
theorem PySem.W.Fast.tw17226185214661662643:True:=⟨⟩
theorem PySem.W.Fast.tw5320077537134612341:True:=⟨⟩
theorem PySem.W.Fast.tw4182981477090602011:True:=⟨⟩
theorem PySem.W.Fast.tw13010082261978250557:True:=⟨⟩
theorem PySem.W.Fast.tw17601447141139921676:True:=⟨⟩
theorem PySem.W.Fast.tw1454114385593427790:True:=⟨⟩
theorem PySem.W.Fast.tw2257568363129508031:True:=⟨⟩
theorem PySem.W.Fast.tw1734913075801215411:True:=⟨⟩
theorem PySem.W.Fast.tw12540183907419751039:True:=⟨⟩
theorem PySem.W.Fast.tw3384525069368036808:True:=⟨⟩
theorem PySem.W.Fast.tw17218179207336527766:True:=⟨⟩
theorem PySem.W.Fast.tw15545011737241659466:True:=⟨⟩
theorem PySem.W.Fast.tw15598751916248073516:True:=⟨⟩
theorem PySem.W.Fast.tw7099069411370288861:True:=⟨⟩
theorem PySem.W.Fast.tw1999304333965354352:True:=⟨⟩
theorem PySem.W.Fast.tw7335295296090428666:True:=⟨⟩
theorem PySem.W.Fast.tw6683311946107762188:True:=⟨⟩
theorem PySem.W.Fast.tw624721405691163761:True:=⟨⟩
theorem PySem.W.Fast.tw17400849765454550327:True:=⟨⟩
theorem PySem.W.Fast.tw11599557100117162610:True:=⟨⟩
theorem PySem.W.Fast.tw10389266258915262685:True:=⟨⟩
theorem PySem.W.Fast.tw16935015956107001734:True:=⟨⟩
theorem PySem.W.Fast.tw11573590243434649810:True:=⟨⟩
theorem PySem.W.Fast.tw4945587280755662774:True:=⟨⟩
theorem PySem.W.Fast.tw15160423782580663841:True:=⟨⟩
theorem PySem.W.Fast.tw11484776709357008990:True:=⟨⟩
theorem PySem.W.Fast.tw9148614675076100115:True:=⟨⟩
theorem PySem.W.Fast.tw7208790825680875708:True:=⟨⟩
theorem PySem.W.Fast.tw8881502969274165656:True:=⟨⟩
theorem PySem.W.Fast.tw2263287653053319631:True:=⟨⟩
theorem PySem.W.Fast.tw4957045106163129790:True:=⟨⟩
theorem PySem.W.Fast.tw9798362370267755937:True:=⟨⟩
theorem PySem.W.Fast.tw9782178596745561730:True:=⟨⟩
theorem PySem.W.Fast.tw2430119234512860198:True:=⟨⟩
theorem PySem.W.Fast.tw7943661940632224356:True:=⟨⟩
theorem PySem.W.Fast.tw7437712494997710597:True:=⟨⟩
theorem PySem.W.Fast.tw7079126093948178569:True:=⟨⟩
theorem PySem.W.Fast.tw14679216144774900021:True:=⟨⟩
theorem PySem.W.Fast.tw6059192585982977308:True:=⟨⟩
theorem PySem.W.Fast.tw10590273222761281245:True:=⟨⟩
theorem PySem.W.Fast.tw17872216857957246900:True:=⟨⟩
theorem PySem.W.Fast.tw2524915587235136611:True:=⟨⟩
theorem PySem.W.Fast.tw6676554241334472501:True:=⟨⟩
theorem PySem.W.Fast.tw908604906524229004:True:=⟨⟩
theorem PySem.W.Fast.tw12124297540951862464:True:=⟨⟩
theorem PySem.W.Fast.tw15902336960432424222:True:=⟨⟩
theorem PySem.W.Fast.tw6507600817833496786:True:=⟨⟩
theorem PySem.W.Fast.tw17266543042359419388:True:=⟨⟩
theorem PySem.W.Fast.tw15776227450276636389:True:=⟨⟩
theorem PySem.W.Fast.tw15966236301173837985:True:=⟨⟩
theorem PySem.W.Fast.tw4146941935920691992:True:=⟨⟩
theorem PySem.W.Fast.tw1401641411966392267:True:=⟨⟩
theorem PySem.W.Fast.tw1813896362438073761:True:=⟨⟩
theorem PySem.W.Fast.tw10516845642211372551:True:=⟨⟩
theorem PySem.W.Fast.tw14875964773003483338:True:=⟨⟩
theorem PySem.W.Fast.tw18190688618395792871:True:=⟨⟩
theorem PySem.W.Fast.tw216044657646728106:True:=⟨⟩
theorem PySem.W.Fast.tw16889503360523319044:True:=⟨⟩
theorem PySem.W.Fast.tw7902154934764564022:True:=⟨⟩
theorem PySem.W.Fast.tw16145060433118514625:True:=⟨⟩
theorem PySem.W.Fast.tw9461783852297203763:True:=⟨⟩
theorem PySem.W.Fast.tw10601550020015219185:True:=⟨⟩
theorem PySem.W.Fast.tw1415754787249679620:True:=⟨⟩
theorem PySem.W.Fast.tw3051105739221405383:True:=⟨⟩
theorem PySem.W.Fast.tw16061563835976592205:True:=⟨⟩
theorem PySem.W.Fast.tw13347497577287611990:True:=⟨⟩
theorem PySem.W.Fast.tw1944904766505407874:True:=⟨⟩
theorem PySem.W.Fast.tw101666996549747214:True:=⟨⟩
theorem PySem.W.Fast.tw16482885713049453903:True:=⟨⟩
theorem PySem.W.Fast.tw3540971905189095718:True:=⟨⟩
theorem PySem.W.Fast.tw12406232027593742215:True:=⟨⟩
theorem PySem.W.Fast.tw743973523048420573:True:=⟨⟩
theorem PySem.W.Fast.tw11562288672216729216:True:=⟨⟩
theorem PySem.W.Fast.tw9175462266009889740:True:=⟨⟩
theorem PySem.W.Fast.tw6961108612046193255:True:=⟨⟩
open PySem PySem.W PyProof.Rows
set_option maxRecDepth 100000 in
set_option maxHeartbeats 0 in
theorem PySem.Challenge.cw_leastfloor_k71_the_six_kinds_holds : PySem.Challenge.rw_leastfloor_k71_the_six_kinds.Holds := by
  w_on; o_law; k_head; (case hw => w_witness2)
  k_fill
  refine My.walk (l := PySem.Challenge.rw_leastfloor_k71_the_six_kinds) rfl rfl (fun w h Y => by first | exact PySem.W.kIn_of Y | exact PySem.W.km_in_of Y) ?F
  case F =>
    intro w mg fa h KX G hmg
    refine' My.all_mk KX G hmg ?n0 ?a0 ?l0 ?c0 ?k0 ?n1 ?a1 ?l1 ?c1 ?k1 ?n2 ?a2 ?l2 ?c2 ?k2 ?n3 ?a3 ?l3 ?c3 ?k3 ?n4 ?a4 ?l4 ?c4 ?k4 ?n5 ?a5 ?l5 ?c5 ?k5 ?a6 ?l6 ?c6 ?k6 ?a7 ?l7 ?c7 ?k7 ?a8 ?l8 ?c8 ?k8 ?a9 ?l9 ?c9 ?k9 ?a10 ?l10 ?c10 ?k10 ?a11 ?l11 ?c11 ?k11 ?a12 ?l12 ?c12 ?k12 ?a13 ?l13 ?c13 ?k13 ?z_ValueError ?z_isinstance ?z_len ?z_list ?z_range ?z_str ?m_Alike ?m_Open ?m_Tails ?m_Windows ?m_Tree ?m_Pairs ?m_NoKind ?m_Floor ?m_Turns ?m_FloorError ?m_NoRoom ?m_NoOrder ?m_NoText ?m_NoFloor ?m_NoRow ?m_NoName ?mk_Alike_mk ?mk_Alike_in ?mk_Alike_kp ?mk_Open_mk ?mk_Open_in ?mk_Open_kp ?mk_Tails_mk ?mk_Tails_in ?mk_Tails_kp ?mk_Windows_mk ?mk_Windows_in ?mk_Windows_kp ?mk_Tree_mk ?mk_Tree_in ?mk_Tree_kp ?mk_Pairs_mk ?mk_Pairs_in ?mk_Pairs_kp ?ki_Pairs_pg ?ki_Pairs_hd ?ki_Pairs_po ?ki_Pairs_sa ?ki_Pairs_ca ?ki_Pairs_sp ?ki_Pairs_tk ?ki_Pairs_mro ?ki_Tree_pg ?ki_Tree_hd ?ki_Tree_po ?ki_Tree_sa ?ki_Tree_ca ?ki_Tree_sp ?ki_Tree_tk ?ki_Tree_mro ?ki_Windows_pg ?ki_Windows_hd ?ki_Windows_po ?ki_Windows_sa ?ki_Windows_ca ?ki_Windows_sp ?ki_Windows_tk ?ki_Windows_mro ?ki_Tails_pg ?ki_Tails_hd ?ki_Tails_po ?ki_Tails_sa ?ki_Tails_ca ?ki_Tails_sp ?ki_Tails_tk ?ki_Tails_mro ?ki_Open_pg ?ki_Open_hd ?ki_Open_po ?ki_Open_sa ?ki_Open_ca ?ki_Open_sp ?ki_Open_tk ?ki_Open_mro ?ki_Alike_pg ?ki_Alike_hd ?ki_Alike_po ?ki_Alike_sa ?ki_Alike_ca ?ki_Alike_sp ?ki_Alike_tk ?ki_Alike_mro ?q_NoKind ?i_Pairs_Floor ?i_Tree_Floor ?i_Windows_Floor ?i_Tails_Floor ?i_Open_Floor ?i_Alike_Floor ?i_Pairs_Turns ?i_Tree_Turns ?i_Windows_Turns ?i_Tails_Turns ?i_Open_Turns ?i_Alike_Turns ?i_Pairs_Alike ?i_Tree_Alike ?i_Windows_Alike ?i_Tails_Alike ?i_Open_Alike ?i_Alike_Alike ?i_Pairs_Open ?i_Tree_Open ?i_Windows_Open ?i_Tails_Open ?i_Open_Open ?i_Alike_Open ?i_Pairs_Tails ?i_Tree_Tails ?i_Windows_Tails ?i_Tails_Tails ?i_Open_Tails ?i_Alike_Tails ?i_Pairs_Windows ?i_Tree_Windows ?i_Windows_Windows ?i_Tails_Windows ?i_Open_Windows ?i_Alike_Windows ?i_Pairs_Tree ?i_Tree_Tree ?i_Windows_Tree ?i_Tails_Tree ?i_Open_Tree ?i_Alike_Tree ?i_Pairs_Pairs ?i_Tree_Pairs ?i_Windows_Pairs ?i_Tails_Pairs ?i_Open_Pairs ?i_Alike_Pairs ?kx_NoKind_ga ?kx_NoKind_gk ?kx_NoKind_hd ?kx_NoKind_ca ?kx_NoKind_sp ?kx_NoKind_tk ?kx_NoKind_mro ?kx_NoKind_mrb ?x_NoKind_FloorError ?i_NoKind_NoRoom ?i_NoKind_NoOrder ?i_NoKind_NoText ?i_NoKind_NoFloor ?i_NoKind_NoRow ?i_NoKind_NoName ?i_NoKind_NoKind ?i_NoKind_ValueError
    (case n0 => k_is); (case a0 => k_is); (case l0 => k_is); (case c0 => k_is)
    (case k0 => k_is); (case n1 => k_is); (case a1 => k_is); (case l1 => k_is)
    (case c1 => k_is); (case k1 => k_is); (case n2 => k_is); (case a2 => k_is)
    (case l2 => k_is); (case c2 => k_is); (case k2 => k_is); (case n3 => k_is)
    (case a3 => k_is); (case l3 => k_is); (case c3 => k_is); (case k3 => k_is)
    (case n4 => k_is); (case a4 => k_is); (case l4 => k_is); (case c4 => k_is)
    (case k4 => k_is); (case n5 => k_is); (case a5 => k_is); (case l5 => k_is)
    (case c5 => k_is); (case k5 => k_is); (case a6 => k_is); (case l6 => k_is)
    (case c6 => k_is); (case k6 => k_is); (case a7 => k_is); (case l7 => k_is)
    (case c7 => k_is); (case k7 => k_is); (case a8 => k_is); (case l8 => k_is)
    (case c8 => k_is); (case k8 => k_is); (case a9 => k_is); (case l9 => k_is)
    (case c9 => k_is); (case k9 => k_is); (case a10 => k_is); (case l10 => k_is)
    (case c10 => k_is); (case k10 => k_is); (case a11 => k_is); (case l11 => k_is)
    (case c11 => k_is); (case k11 => k_is); (case a12 => k_is); (case l12 => k_is)
    (case c12 => k_is); (case k12 => k_is); (case a13 => k_is); (case l13 => k_is)
    (case c13 => k_is); (case k13 => k_is); (case z_ValueError => k_is); (case z_isinstance => k_is)
    (case z_len => k_is); (case z_list => k_is); (case z_range => k_is); (case z_str => k_is)
    (case m_Alike => k_is); (case m_Open => k_is); (case m_Tails => k_is); (case m_Windows => k_is)
    (case m_Tree => k_is); (case m_Pairs => k_is); (case m_NoKind => k_is); (case m_Floor => k_is)
    (case m_Turns => k_is); (case m_FloorError => k_is); (case m_NoRoom => k_is); (case m_NoOrder => k_is)
    (case m_NoText => k_is); (case m_NoFloor => k_is); (case m_NoRow => k_is); (case m_NoName => k_is)
    (case mk_Alike_mk => k_is); (case mk_Alike_in => k_is); (case mk_Alike_kp => k_is); (case mk_Open_mk => k_is)
    (case mk_Open_in => k_is); (case mk_Open_kp => k_is); (case mk_Tails_mk => k_is); (case mk_Tails_in => k_is)
    (case mk_Tails_kp => k_is); (case mk_Windows_mk => k_is); (case mk_Windows_in => k_is); (case mk_Windows_kp => k_is)
    (case mk_Tree_mk => k_is); (case mk_Tree_in => k_is); (case mk_Tree_kp => k_is); (case mk_Pairs_mk => k_is)
    (case mk_Pairs_in => k_is); (case mk_Pairs_kp => k_is); (case ki_Pairs_pg => k_is); (case ki_Pairs_hd => k_is)
    (case ki_Pairs_po => k_is); (case ki_Pairs_sa => k_is); (case ki_Pairs_ca => k_is); (case ki_Pairs_sp => k_is)
    (case ki_Pairs_tk => k_is); (case ki_Pairs_mro => k_is); (case ki_Tree_pg => k_is); (case ki_Tree_hd => k_is)
    (case ki_Tree_po => k_is); (case ki_Tree_sa => k_is); (case ki_Tree_ca => k_is); (case ki_Tree_sp => k_is)
    (case ki_Tree_tk => k_is); (case ki_Tree_mro => k_is); (case ki_Windows_pg => k_is); (case ki_Windows_hd => k_is)
    (case ki_Windows_po => k_is); (case ki_Windows_sa => k_is); (case ki_Windows_ca => k_is); (case ki_Windows_sp => k_is)
    (case ki_Windows_tk => k_is); (case ki_Windows_mro => k_is); (case ki_Tails_pg => k_is); (case ki_Tails_hd => k_is)
    (case ki_Tails_po => k_is); (case ki_Tails_sa => k_is); (case ki_Tails_ca => k_is); (case ki_Tails_sp => k_is)
    (case ki_Tails_tk => k_is); (case ki_Tails_mro => k_is); (case ki_Open_pg => k_is); (case ki_Open_hd => k_is)
    (case ki_Open_po => k_is); (case ki_Open_sa => k_is); (case ki_Open_ca => k_is); (case ki_Open_sp => k_is)
    (case ki_Open_tk => k_is); (case ki_Open_mro => k_is); (case ki_Alike_pg => k_is); (case ki_Alike_hd => k_is)
    (case ki_Alike_po => k_is); (case ki_Alike_sa => k_is); (case ki_Alike_ca => k_is); (case ki_Alike_sp => k_is)
    (case ki_Alike_tk => k_is); (case ki_Alike_mro => k_is); (case q_NoKind => k_exc); (case i_Pairs_Floor => kit_is)
    (case i_Tree_Floor => kit_is); (case i_Windows_Floor => kit_is); (case i_Tails_Floor => kit_is); (case i_Open_Floor => kit_is)
    (case i_Alike_Floor => kit_is); (case i_Pairs_Turns => kit_is); (case i_Tree_Turns => kit_is); (case i_Windows_Turns => kit_is)
    (case i_Tails_Turns => kit_is); (case i_Open_Turns => kit_is); (case i_Alike_Turns => kit_is); (case i_Pairs_Alike => kit_is)
    (case i_Tree_Alike => kit_is); (case i_Windows_Alike => kit_is); (case i_Tails_Alike => kit_is); (case i_Open_Alike => kit_is)
    (case i_Alike_Alike => kit_is); (case i_Pairs_Open => kit_is); (case i_Tree_Open => kit_is); (case i_Windows_Open => kit_is)
    (case i_Tails_Open => kit_is); (case i_Open_Open => kit_is); (case i_Alike_Open => kit_is); (case i_Pairs_Tails => kit_is)
    (case i_Tree_Tails => kit_is); (case i_Windows_Tails => kit_is); (case i_Tails_Tails => kit_is); (case i_Open_Tails => kit_is)
    (case i_Alike_Tails => kit_is); (case i_Pairs_Windows => kit_is); (case i_Tree_Windows => kit_is); (case i_Windows_Windows => kit_is)
    (case i_Tails_Windows => kit_is); (case i_Open_Windows => kit_is); (case i_Alike_Windows => kit_is); (case i_Pairs_Tree => kit_is)
    (case i_Tree_Tree => kit_is); (case i_Windows_Tree => kit_is); (case i_Tails_Tree => kit_is); (case i_Open_Tree => kit_is)
    (case i_Alike_Tree => kit_is); (case i_Pairs_Pairs => kit_is); (case i_Tree_Pairs => kit_is); (case i_Windows_Pairs => kit_is)
    (case i_Tails_Pairs => kit_is); (case i_Open_Pairs => kit_is); (case i_Alike_Pairs => kit_is); (case kx_NoKind_ga => k_is)
    (case kx_NoKind_gk => k_is); (case kx_NoKind_hd => k_is); (case kx_NoKind_ca => k_is); (case kx_NoKind_sp => k_is)
    (case kx_NoKind_tk => k_is); (case kx_NoKind_mro => k_is); (case kx_NoKind_mrb => k_is); (case x_NoKind_FloorError => kts_exm)
    (case i_NoKind_NoRoom => kit_is); (case i_NoKind_NoOrder => kit_is); (case i_NoKind_NoText => kit_is); (case i_NoKind_NoFloor => kit_is)
    (case i_NoKind_NoRow => kit_is); (case i_NoKind_NoName => kit_is); (case i_NoKind_NoKind => kit_is); (case i_NoKind_ValueError => kit_is)
#print axioms PySem.Challenge.cw_leastfloor_k71_the_six_kinds_holds
