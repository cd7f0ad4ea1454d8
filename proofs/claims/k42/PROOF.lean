import PyProof.Rows.All
import Wide.All
import OpenK.AllK
import Wide.FinOn
import Lean
import PyProof.EqAt
import PyProof.EqKinds
import PyProof.TupleCall
import PySem.Challenge.RW_leastfloor_k42_whole_shares
set_option compiler.extract_closed false
set_option Elab.async false
set_option linter.all false
set_option maxRecDepth 100000
namespace L2
open PySem PySem.Spec PyProof.Rows
abbrev Key:=Sum Int Str
def keyIs:Key→Value→Bool
  | .inl k,v=>Value.isInt k v
  | .inr x,v=>Value.isStrOf x v
def keyH (w:World):Key→Int
  | .inl k=>hashInt k
  | .inr x=>hashStr w x
theorem keyIs_shape:∀ {k:Key} {v:Value},keyIs k v=true→(∃ i t,k=Sum.inl i∧v=Value.int i t)∨(∃ x t,k=Sum.inr x∧v=Value.str x t)
  | .inl i,v,h=>by
    obtain ⟨t,e⟩:=Value.isInt_shape (k:=i) (v:=v) h
    exact .inl ⟨i,t,rfl,e⟩
  | .inr x,v,h=>by
    obtain ⟨t,e⟩:=Value.isStrOf_shape (x:=x) (v:=v) h
    exact .inr ⟨x,t,rfl,e⟩
theorem keyIs_int (i:Int) (t:Tok):keyIs (.inl i) (.int i t)=true:=by simp [keyIs,Value.isInt]
theorem keyIs_str (x:Str) (t:Tok):keyIs (.inr x) (.str x t)=true:=by simp [keyIs,Value.isStrOf]
theorem key_ll (a b:Int):decide ((Sum.inl a:Key)=Sum.inl b)=(a==b):=by
  by_cases e:a=b
  · subst e; simp
  · have h:¬ (Sum.inl a:Key)=Sum.inl b:=fun q=>e (Sum.inl.inj q)
    rw [decide_eq_false h]
    exact (beq_eq_false_iff_ne.mpr e).symm
theorem key_rr (a b:Str):decide ((Sum.inr a:Key)=Sum.inr b)=decide (a=b):=by
  by_cases e:a=b
  · subst e; simp
  · have h:¬ (Sum.inr a:Key)=Sum.inr b:=fun q=>e (Sum.inr.inj q)
    rw [decide_eq_false h,decide_eq_false e]
theorem key_lr (a:Int) (b:Str):decide ((Sum.inl a:Key)=Sum.inr b)=false:=decide_eq_false (fun q=>nomatch q)
theorem key_rl (a:Str) (b:Int):decide ((Sum.inr a:Key)=Sum.inl b)=false:=decide_eq_false (fun q=>nomatch q)
def mixKind (prog:Program) (w:World):PySem.KeyKind prog w Key where
  is:=keyIs
  hash:=keyH w
  inj:=fun v a b ha hb=>by
    rcases keyIs_shape ha with ⟨i,t,rfl,rfl⟩ | ⟨x,t,rfl,rfl⟩
    · rcases keyIs_shape hb with ⟨j,u,rfl,e⟩ | ⟨y,u,rfl,e⟩
      · injection e with e1 _; rw [e1]
      · exact nomatch e
    · rcases keyIs_shape hb with ⟨j,u,rfl,e⟩ | ⟨y,u,rfl,e⟩
      · exact nomatch e
      · injection e with e1 _; rw [e1]
  byValue:=fun k v h=>by
    rcases keyIs_shape h with ⟨i,t,rfl,rfl⟩ | ⟨x,t,rfl,rfl⟩ <;> rfl
  pyHash:=fun hv h=>by
    rcases keyIs_shape hv with ⟨i,t,rfl,rfl⟩ | ⟨x,t,rfl,rfl⟩
    · exact wpAny_pyHash_int h
    · exact wpAny_pyHash_str h
  eqBool:=fun hu hv h=>by
    rcases keyIs_shape hu with ⟨i,t,rfl,rfl⟩ | ⟨x,t,rfl,rfl⟩
    · rcases keyIs_shape hv with ⟨j,u,rfl,rfl⟩ | ⟨y,u,rfl,rfl⟩
      · rw [key_ll] at h; exact wpAny_eqBool_int h
      · rw [key_lr] at h; exact SeqAt.EqAt.int_str i t y u _ _ _ _ h
    · rcases keyIs_shape hv with ⟨j,u,rfl,rfl⟩ | ⟨y,u,rfl,rfl⟩
      · rw [key_rl] at h; exact SeqAt.EqAt.str_int x t j u _ _ _ _ h
      · rw [key_rr] at h; exact wpAny_eqBool_str h
  «strs»:=fun k x t v h=>by
    rcases keyIs_shape h with ⟨i,u,rfl,e⟩ | ⟨y,u,rfl,e⟩
    · exact nomatch e
    · injection e with e1 _
      subst e1
      cases v <;> rfl
theorem mixKind_int (prog:Program) (w:World) (i:Int) (t:Tok):(mixKind prog w).is (.inl i) (.int i t)=true:=keyIs_int i t
theorem mixKind_str (prog:Program) (w:World) (x:Str) (t:Tok):(mixKind prog w).is (.inr x) (.str x t)=true:=keyIs_str x t
end L2
namespace L2
open PySem PySem.Spec PyProof.Rows
inductive V where
  | non | bl (b:Bool) | int (i:Int) | str (x:Str) | byt (b:Array UInt8) | flt (b:UInt64) | ref (a:Addr) | ty (n:String)
  deriving DecidableEq
def RelV:V→Value→Prop
  | .non,u=>u=Value.none
  | .bl b,u=>u=Value.bool b
  | .int i,u=>∃ t,u=Value.int i t
  | .str x,u=>∃ t,u=Value.str x t
  | .byt b,u=>∃ t,u=Value.bytes b t
  | .flt b,u=>∃ t,u=Value.float b t
  | .ref a,u=>u=Value.ref a
  | .ty n,u=>u=Value.type n
abbrev Vals:List V→List Value→Prop:=Paired RelV
theorem Vals.length {xs:List V} {us:List Value} (r:Vals xs us):xs.length=us.length:=Paired.length r
theorem Vals.get:∀ {xs:List V} {us:List Value} {i:Nat} {x:V},Vals xs us→xs[i]?=some x→∃ u,us[i]?=some u∧RelV x u
  | _,_,_,_,.nil,e=>by simp at e
  | _,_,0,_,.cons r _,e=>by simp at e; subst e; exact ⟨_,rfl,r⟩
  | _,_,i+1,x,.cons _ t,e=>by
    obtain ⟨u,h1,h2⟩:=Vals.get (i:=i) (x:=x) t (by simpa using e)
    exact ⟨u,by simpa using h1,h2⟩
theorem Vals.set {x:V} {u:Value} (r:RelV x u):∀ {xs:List V} {us:List Value} (i:Nat),Vals xs us→Vals (xs.set i x) (us.set i u)
  | _,_,_,.nil=>.nil
  | _,_,0,.cons _ t=>.cons r t
  | _,_,i+1,.cons q t=>.cons q (Vals.set r i t)
theorem Vals.append:∀ {xs ys:List V} {us ws:List Value},Vals xs us→Vals ys ws→Vals (xs++ys) (us++ws)
  | _,_,_,_,.nil,s=>s
  | _,_,_,_,.cons r t,s=>.cons r (Vals.append t s)
theorem Vals.take:∀ {xs:List V} {us:List Value} (n:Nat),Vals xs us→Vals (xs.take n) (us.take n)
  | _,_,0,_=>.nil
  | _,_,_+1,.nil=>.nil
  | _,_,n+1,.cons r t=>.cons r (Vals.take n t)
theorem Vals.drop:∀ {xs:List V} {us:List Value} (n:Nat),Vals xs us→Vals (xs.drop n) (us.drop n)
  | _,_,0,r=>r
  | _,_,_+1,.nil=>.nil
  | _,_,n+1,.cons _ t=>Vals.drop n t
def RelO:Option V→Option Value→Prop
  | some v,some u=>RelV v u
  | none,none=>True
  | _,_=>False
def KV {κ:Type}:List (κ×V)→List (κ×Value)→Prop:=Paired fun (p:κ×V) (q:κ×Value)=>p.1=q.1∧RelV p.2 q.2
def kV:Key→V
  | .inl i=>.int i
  | .inr x=>.str x
inductive HO where
  | lst (xs:List V)
  | tup (xs:List V)
  | dK (kvs:List (Key×V)) | dT (kvs:List (List Key×V))
  | set (S:Int→Bool) (n:Nat)
  | ins (C dx:Addr) (fs:List (Str×V))
  | own (x:Addr)
  | xd (fs:List (Str×V))
  | met (f x:Addr)
  | rng (lo hi:Int)
  | frz (o:Obj) (u:HO)
  | tbl (ps:Array Value)
  | ext (φ:Heap→Prop)
abbrev Hp:=Addr→Option HO
def upd (H:Hp) (a:Addr) (o:HO):Hp:=fun b=>if b=a then some o else H b
theorem upd_same {H:Hp} {a:Addr} {o:HO}:upd H a o a=some o:=by unfold upd; rw [if_pos rfl]
theorem upd_ne {H:Hp} {a b:Addr} {o:HO} (h:b≠a):upd H a o b=H b:=by unfold upd; rw [if_neg h]
theorem ne_of {H:Hp} {a b:Addr} {o u:HO} (h:H a=some o) (h':H b=some u) (d:o≠u):a≠b:=by
  intro e; subst e; rw [h] at h'; exact d (Option.some.inj h')
theorem ne_of_none {H:Hp} {a b:Addr} {o:HO} (h:H a=some o) (h':H b=none):a≠b:=by
  intro e; subst e; rw [h] at h'; cases h'
section
variable (P:Program) (w:World)
def ObjOk (H:Hp) (h:Heap) (a:Addr):HO→Prop
  | .lst xs=>xs.length≤sizeLine∧∃ (its:List Value) (n:Nat),Vals xs its∧h.get? a=some { cls:=.type "list", data:=.seq its.toArray n }
  | .tup xs=>xs.length≤sizeLine∧∃ its:List Value,Vals xs its∧IsTup h a its.toArray
  | .dK kvs=>kvs.length≤sizeLine∧(a==sysModules)=false∧∃ vs,KV kvs vs∧h.DictOf (mixKind P w) a vs
  | .dT kvs=>kvs.length≤sizeLine∧(a==sysModules)=false∧∃ xs:List (List Key×Addr×Value),
      Paired (fun (p:List Key×V) (q:List Key×Addr×Value)=>p.1=q.1∧H q.2.1=some (.tup (p.1.map kV))∧RelV p.2 q.2.2) kvs xs ∧
      ∃ o es ep,h.get? a=some o∧o.ExactDict∧o.data=.dict es ep∧es.toList=xs.map (entryOfKey (tupleKind (mixKind P w)))∧(xs.map (·.1)).Nodup
  | .set S n=>h.SetOf (intKind P w) a S n
  | .ins C dx fs=>H dx=some (.own a)∧fs.length≤1000∧dx≠a∧h.get? a=some (PySem.W.instObj C dx) ∧
      ∃ mA,h.Ns1 dx mA∧(∀ f,RelO (fs.lookup f) (mA f))∧PySem.Within mA (fs.map (·.1))
  | .own _=>∃ o,h.get? a=some o
  | .xd fs=>∃ mA,h.Ns1 a mA∧∀ f,RelO (fs.lookup f) (mA f)
  | .rng lo hi=>∃ t u v,h.get? a=some { cls:=.type "range", data:=.fields #[.int lo t,.int hi u,.int 1 v] }
  | .frz o u=>h.get? a=some o∧ObjOk H h a u
  | .tbl ps=>∃ (q:Str) (t:Tok) (qs:Array Value),ps[0]?=some (.str q t)∧h.get? a=some { cls:=.none,data:=.fields qs }∧TriplesOk qs.toList ∧
      ∀ pos v,codeAmong pos qs.toList=some v→∃ c o u vs t,v=.ref c∧H c=some (.frz o u)∧o.data=.fields vs∧vs[1]?=some (.str q t)
  | .met f x=>h.get? a=some (PySem.W.methodObj (.ref f) (.ref x))
  | .ext φ=>φ h∧(∃ o,h.get? a=some o)∧∀ h1 h2:Heap,φ h1→(∀ o,h1.get? a=some o→h2.get? a=some o)→φ h2
def HOk (H:Hp) (h:Heap):Prop:=∀ a o,H a=some o→ObjOk P w H h a o
end
section
variable {P:Program} {w:World} {H H':Hp} {h h':Heap} {a:Addr} {o:HO}
theorem ObjOk.lt (x:ObjOk P w H h a o):a<h.objs.size:=by
  cases o with
  | lst xs=>obtain ⟨_,_,_,_,e⟩:=x; exact Heap.lt_size e
  | tup xs=>obtain ⟨_,_,_,p⟩:=x; exact p.lt
  | dK kvs=>obtain ⟨_,_,_,_,o,_,_,e,_⟩:=x; exact Heap.lt_size e
  | dT kvs=>obtain ⟨_,_,_,_,o,_,_,e,_⟩:=x; exact Heap.lt_size e
  | set S n=>obtain ⟨o,_,_,_,e,_⟩:=x; exact Heap.lt_size e
  | ins C dx fs=>obtain ⟨_,_,_,e,_⟩:=x; exact Heap.lt_size e
  | own y=>obtain ⟨_,e⟩:=x; exact Heap.lt_size e
  | xd fs=>obtain ⟨_,⟨_,_,_,e,_⟩,_⟩:=x; exact Heap.lt_size e
  | rng lo hi=>obtain ⟨_,_,_,e⟩:=x; exact Heap.lt_size e
  | frz ob u=>obtain ⟨e,_⟩:=x; exact Heap.lt_size e
  | tbl ps=>obtain ⟨_,_,_,_,e,_⟩:=x; exact Heap.lt_size e
  | met f y=>exact Heap.lt_size (show h.get? a=some _ from x)
  | ext φ=>obtain ⟨_,⟨_,e⟩,_⟩:=x; exact Heap.lt_size e
theorem Paired.mapP {α β:Type} {F G:α→β→Prop}:∀ {l₁:List α} {l₂:List β},Paired F l₁ l₂→(∀ a b,F a b→G a b)→Paired G l₁ l₂
  | _,_,.nil,_=>.nil
  | _,_,.cons r t,f=>.cons (f _ _ r) (Paired.mapP t f)
theorem ObjOk.stay (x:ObjOk P w H h a o) (k:∀ b u,(b=a∨H b=some (.own a))→h.get? b=some u→h'.get? b=some u)
    (ho:∀ b,H b=some (.own a)→H' b=some (.own a)) (ht:∀ b xs,H b=some (.tup xs)→H' b=some (.tup xs)) (hz:∀ b o u,H b=some (.frz o u)→H' b=some (.frz o u):=by first | exact fun _ _ _ q=>q | (intro b o u q; rw [upd_ne (ne_of_none q (by assumption))]; exact q)):ObjOk P w H' h' a o:=by
  induction o with
  | lst xs=>obtain ⟨z,its,n,r,e⟩:=x; exact ⟨z,its,n,r,k _ _ (.inl rfl) e⟩
  | tup xs=>obtain ⟨z,its,r,ob,e,c⟩:=x; exact ⟨z,its,r,ob,k _ _ (.inl rfl) e,c⟩
  | dK kvs=>obtain ⟨z,y,vs,r,ob,es,ep,e,c⟩:=x; exact ⟨z,y,vs,r,ob,es,ep,k _ _ (.inl rfl) e,c⟩
  | dT kvs =>
    obtain ⟨z,y,xs,r,ob,es,ep,e,c⟩:=x
    exact ⟨z,y,xs,Paired.mapP r fun p q z=>⟨z.1,ht _ _ z.2.1,z.2.2⟩,ob,es,ep,k _ _ (.inl rfl) e,c⟩
  | set S n=>obtain ⟨ob,es,ep,t,e,c⟩:=x; exact ⟨ob,es,ep,t,k _ _ (.inl rfl) e,c⟩
  | ins C dx fs =>
    obtain ⟨d,z,ne,e,mA,⟨od,es,ep,e2,c⟩,r⟩:=x
    exact ⟨ho _ d,z,ne,k _ _ (.inl rfl) e,mA,⟨od,es,ep,k _ _ (.inr d) e2,c⟩,r⟩
  | own y=>obtain ⟨ob,e⟩:=x; exact ⟨ob,k _ _ (.inl rfl) e⟩
  | xd fs=>obtain ⟨mA,⟨od,es,ep,e,c⟩,r⟩:=x; exact ⟨mA,⟨od,es,ep,k _ _ (.inl rfl) e,c⟩,r⟩
  | rng lo hi=>obtain ⟨t,u,v,e⟩:=x; exact ⟨t,u,v,k _ _ (.inl rfl) e⟩
  | frz ob u ih=>obtain ⟨e,q⟩:=x; exact ⟨k _ _ (.inl rfl) e,ih q⟩
  | tbl ps =>
    obtain ⟨q,t,qs,h0,h1,h2,h3⟩:=x
    refine ⟨q,t,qs,h0,k _ _ (.inl rfl) h1,h2,fun pos v e=>?_⟩
    obtain ⟨c,o,u,vs,t2,e1,e2,e3⟩:=h3 pos v e
    exact ⟨c,o,u,vs,t2,e1,hz _ _ _ e2,e3⟩
  | met f y =>
    have e:h.get? a=some (PySem.W.methodObj (.ref f) (.ref y)):=x
    show h'.get? a=some (PySem.W.methodObj (.ref f) (.ref y))
    exact k a _ (.inl rfl) e
  | ext φ=>obtain ⟨p,⟨o,e⟩,st⟩:=x; exact ⟨st _ _ p fun o q=>k _ _ (.inl rfl) q,⟨o,k _ _ (.inl rfl) e⟩,st⟩
theorem HOk.lt (x:HOk P w H h) (e:H a=some o):a<h.objs.size:=(x a o e).lt
theorem HOk.fresh (x:HOk P w H h) (e:h.objs.size≤a):H a=none:=by
  cases q:H a with
  | none=>rfl
  | some u=>exact absurd (Nat.lt_of_lt_of_le (x.lt q) e) (Nat.lt_irrefl _)
theorem HOk.kept (x:HOk P w H h) (k:∀ b u,h.get? b=some u→h'.get? b=some u):HOk P w H h':=fun a o e =>
  (x a o e).stay (fun b u _ q=>k b u q) (fun _ q=>q) fun _ _ q=>q
theorem HOk.laid (x:HOk P w H h) (k:∀ b u,h.get? b=some u→h'.get? b=some u) (hp:h.objs.size≤a) (new:ObjOk P w (upd H a o) h' a o):HOk P w (upd H a o) h':=fun b u e=>by
  have hn:=x.fresh hp
  by_cases hb:b=a
  · subst hb; rw [upd_same] at e; cases e; exact new
  · rw [upd_ne hb] at e
    exact (x b u e).stay (fun c v _ q=>k c v q) (fun c q=>by rw [upd_ne (ne_of_none q hn)]; exact q) fun c xs q=>by rw [upd_ne (ne_of_none q hn)]; exact q
end
def Rd (H:Hp) (a:Addr) (u:HO):Prop:=H a=some u∨∃ o,H a=some (.frz o u)
theorem Rd.ok {P:Program} {w:World} {H:Hp} {h:Heap} {a:Addr} {u:HO} (r:Rd H a u) (x:HOk P w H h):ObjOk P w H h a u:=by
  rcases r with r | ⟨o,r⟩
  · exact x a u r
  · obtain ⟨_,q⟩:=x a _ r
    exact q
def Mut:Option HO→Prop
  | some (.lst _)=>True
  | some (.dK _)=>True
  | some (.dT _)=>True
  | some (.set _ _)=>True
  | some (.ins _ _ _)=>True
  | some (.ext _)=>True
  | _=>False
section
variable {P:Program} {w:World} {H:Hp} {h h':Heap} {x e:Addr} {o':HO}
theorem HOk.write (ok:HOk P w H h) (mu:Mut (H x)) (he:e=x∨H e=some (.own x)) (k:∀ b u,b≠e→h.get? b=some u→h'.get? b=some u) (heo:∃ u,h'.get? e=some u)
    (new:ObjOk P w (upd H x o') h' x o'):HOk P w (upd H x o') h':=fun b u q=>by
  have nown:∀ c y,H c=some (.own y)→c≠x:=fun c y r z=>by subst z; rw [r] at mu; exact mu
  have ntup:∀ c xs,H c=some (.tup xs)→c≠x:=fun c xs r z=>by subst z; rw [r] at mu; exact mu
  have nfrz:∀ c o u,H c=some (.frz o u)→c≠x:=fun c o u r z=>by subst z; rw [r] at mu; exact mu
  by_cases hb:b=x
  · subst hb; rw [upd_same] at q; cases q; exact new
  · rw [upd_ne hb] at q
    by_cases hbe:b=e
    · have q':H b=some (.own x):=by
        rcases he with z | z
        · exact absurd (hbe.trans z) hb
        · rw [hbe]; exact z
      rw [q] at q'; cases q'
      obtain ⟨v,hv⟩:=heo
      exact ⟨v,by rw [hbe]; exact hv⟩
    · refine (ok b u q).stay (fun c v hc r=>k c v ?_ r) (fun c r=>by rw [upd_ne (nown c b r)]; exact r) (fun c xs r=>by rw [upd_ne (ntup c xs r)]; exact r) fun c o u r=>by rw [upd_ne (nfrz c o u r)]; exact r
      rcases hc with rfl | hc
      · exact hbe
      · rintro rfl
        rcases he with z | z
        · exact nown c b hc z
        · rw [hc] at z; cases z; exact hb rfl
end
structure Un (fs ex:List Addr) (H H':Hp) (h h':Heap):Prop where
  keep:∀ b o,h.get? b=some o→H b=none→b∉fs→b∉ex→h'.get? b=some o
  slot:∀ b o,h.get? b=some o→H b=none→b∈fs→b∉ex→∃ sl,h'.get? b=some { o with slots:=sl }
  free:∀ b o,h.get? b=some o→H b=none→b∉ex→H' b=none
  there:∀ b o,h.get? b=some o→b∉ex→∃ o',h'.get? b=some o'
  tups:∀ b xs,H b=some (.tup xs)→H' b=some (.tup xs)
  frzs:∀ b o u,H b=some (.frz o u)→H' b=some (.frz o u)
  tbls:∀ b ps,H b=some (.tbl ps)→∃ more,H' b=some (.tbl (ps++more))
section
variable {fs fs' ex ex':List Addr} {H H1 H2:Hp} {h h1 h2 h':Heap} {a x e:Addr} {o:HO}
theorem Un.any (u:Un fs ex H H1 h h1) {b:Addr} {ob:Obj} (q:h.get? b=some ob) (n:H b=none) (hx:b∉ex):∃ sl,h1.get? b=some { ob with slots:=sl }:=by
  by_cases hb:b∈fs
  · exact u.slot b ob q n hb hx
  · exact ⟨ob.slots,u.keep b ob q n hb hx⟩
theorem Un.kept (k:∀ b u,h.get? b=some u→h'.get? b=some u):Un fs ex H H h h' :=
  ⟨fun b ob q _ _ _=>k b ob q,fun b ob q _ _ _=>⟨ob.slots,k b ob q⟩,fun _ _ _ n _=>n,fun b ob q _=>⟨ob,k b ob q⟩,fun _ _ q=>q,fun _ _ _ q=>q,fun _ ps q=>⟨#[],by rw [q]; simp⟩⟩
theorem Un.refl:Un fs ex H H h h:=Un.kept fun _ _ q=>q
theorem Un.laid (k:∀ b u,h.get? b=some u→h'.get? b=some u) (hp:h.objs.size≤a) (hn:H a=none):Un fs ex H (upd H a o) h h' where
  keep:=fun b u q _ _ _=>k b u q
  slot:=fun b u q _ _ _=>⟨u.slots,k b u q⟩
  free:=fun b u q n _=>by rw [upd_ne (Nat.ne_of_lt (Nat.lt_of_lt_of_le (Heap.lt_size q) hp))]; exact n
  there:=fun b u q _=>⟨u,k b u q⟩
  tups:=fun b xs q=>by rw [upd_ne (ne_of_none q hn)]; exact q
  frzs:=fun b u xs q=>by rw [upd_ne (ne_of_none q hn)]; exact q
  tbls:=fun b ps q=>⟨#[],by rw [upd_ne (ne_of_none q hn),q]; simp⟩
theorem Un.write (mu:Mut (H x)) (he:e=x∨H e=some (.own x)) (k:∀ b u,b≠e→h.get? b=some u→h'.get? b=some u) (heo:∃ u,h'.get? e=some u):Un fs ex H (upd H x o) h h':=by
  have hx:∀ b,H b=none→b≠x:=fun b n z=>by subst z; rw [n] at mu; exact mu
  have hb:∀ b,H b=none→b≠e:=fun b n z=>by
    subst z
    rcases he with r | r
    · exact hx b n r
    · rw [n] at r; cases r
  have hm:∀ b u,H b=some u→¬ Mut (some u)→b≠x:=fun b u q nm z=>by subst z; rw [q] at mu; exact nm mu
  refine ⟨fun b u q n _ _=>k b u (hb b n) q,fun b u q n _ _=>⟨u.slots,k b u (hb b n) q⟩,fun b u q n _=>by rw [upd_ne (hx b n)]; exact n,fun b u q _=>?_,
    fun b xs q=>by rw [upd_ne (hm b _ q fun z=>z)]; exact q,fun b u xs q=>by rw [upd_ne (hm b _ q fun z=>z)]; exact q,fun b ps q=>⟨#[],by rw [upd_ne (hm b _ q fun z=>z),q]; simp⟩⟩
  by_cases hbe:b=e
  · subst hbe; exact heo
  · exact ⟨u,k b u hbe q⟩
end
def trk (h:Heap) (H:Hp):List Addr:=(List.range h.objs.size).filter fun a=>(H a).isSome
def hidT (h:Heap) (H:Hp):Heap:=PySem.W.hideAll h (trk h H)
theorem hidT_size (h:Heap) (H:Hp):(hidT h H).objs.size=h.objs.size:=PySem.W.hideAll_size _ _
theorem hidT_get {h:Heap} {H:Hp} {b:Addr} {o:Obj} (e:h.get? b=some o) (n:H b=none):(hidT h H).get? b=some o :=
  PySem.W.hideAll_get _ e fun hm=>by
    have q:(H b).isSome=true:=(List.mem_filter.mp hm).2
    rw [n] at q; simp at q
theorem of_hidT {h:Heap} {H:Hp} {b:Addr} {o:Obj} (e:(hidT h H).get? b=some o):h.get? b=some o∧H b=none:=by
  have e':h.get? b=some o:=PySem.W.of_hideAll (trk h H) e
  refine ⟨e',?_⟩
  cases q:H b with
  | none=>rfl
  | some x =>
    have hm:b∈trk h H:=List.mem_filter.mpr ⟨List.mem_range.mpr (Heap.lt_size e'),by simp [q]⟩
    have z:(hidT h H).get? b=none:=PySem.W.hideAll_none (trk h H) hm
    rw [z] at e; cases e
def allNews (g h:Heap) (L:Addr):List (Addr×Obj):=(List.range h.objs.size).filterMap fun a=>if a=L∨(g.get? a).isSome=true then none else (h.get? a).map fun o=>(a,o)
def rest (g h:Heap) (L d:Addr):List (Addr×Obj):=(allNews g h L).filter fun p=>decide (p.1≠d)
end L2
namespace L2
open PySem PySem.Spec PyProof.Rows
structure Mod (K:PySem.W.Frag) (mg:Str→Option Value) (base:Heap):Prop where
  kin:K.In base
  glob:base.Ns mainGlobals mg
  blt:∃ mb,base.Ns builtinsNs mb∧∀ x:Str,x ≠ "__name__" → mb x=bootBuiltins x
  nolimit:base.NoLimit
structure Cx where
  prog:Program
  w:World
  K:PySem.W.Frag
  mg:Str→Option Value
  base:Heap
  A:Around
  N:List Str
  s₀:Shared
  H₀:Hp
  env:Env
  outer:List Env
  stack:List Env
  ex:List Addr
  fn:Str→Bool
  calm:Bool
  pn:List (Addr×Obj)
  xe:Value→Shared→Prop
def frs (l:List Env):List Addr:=l.filterMap (·.frame)
abbrev Cx.fs (X:Cx):List Addr:=frs X.outer
def Vis (sc:Scope) (x:Str):Prop:=sc.names.lookup x=some .local∨sc.names.lookup x=some .cell∨sc.names.lookup x=some .free
def Loc (sc:Scope) (x:Str):Prop:=sc.names.lookup x=some .local∨sc.names.lookup x=some .cell
def Look (env:Env) (h:Heap) (m:Str→Option Value) (x:Str) (u:Value):Prop :=
  (env.kindOf x=some .local∧m x=some u)∨((env.kindOf x=some .cell∨env.kindOf x=some .free)∧∃ c,env.cells.lookup x=some c∧h.IsCell c (some u))
structure Cx.Ok (X:Cx):Prop where
  mod:Mod X.K X.mg X.base
  kind:X.env.scope.kind=.function
  glob:X.env.globals=mainGlobals
  blt:X.env.builtins=builtinsNs
  above:X.s₀.heap.objs.size≤X.env.locals
  inj:∀ x y c,X.env.cells.lookup x=some c→X.env.cells.lookup y=some c→x=y
  has:∀ x,(X.env.kindOf x=some .cell∨X.env.kindOf x=some .free)→∃ c,X.env.cells.lookup x=some c
  cab:∀ x c,X.fn x=true→X.env.cells.lookup x=some c→X.s₀.heap.objs.size≤c
  hd:X.calm=true→X.A.handled=none
  frames:X.A.frames=some X.stack
  stk:X.stack=X.outer∨(X.stack=X.env::X.outer∧X.env.frame=some X.env.locals)
  exf:∀ b∈X.ex,b≠X.env.locals∧∀ x c,X.env.cells.lookup x=some c→c≠b
  bs:∀ b o,X.base.get? b=some o→X.s₀.heap.get? b=some o∧X.H₀ b=none
  bsz:X.base.objs.size≤X.s₀.heap.objs.size
  noex:∀ b o,X.base.get? b=some o→b∉X.ex
  exfs:∀ b∈X.ex,b∉X.fs
  funs:X.s₀.heap.FunFrames X.base X.outer
  frf:∀ b∈X.fs,X.H₀ b=none
structure Inv (X:Cx) (pins:List (Addr×Obj)) (σ:List (Option V)) (H:Hp) (s:Shared):Prop where
  ok:X.Ok
  os:s.os=X.s₀.os
  bare:AllBare s.gens
  base:Un X.fs X.ex X.H₀ H X.s₀.heap s.heap
  loc:∃ m,s.heap.Ns X.env.locals m∧∀ (i:Nat) (x:Str) (v:V),X.N[i]?=some x→σ[i]?=some (some v)→Vis X.env.scope x→∃ u,RelV v u∧Look X.env s.heap m x u
  cell:∀ x c,X.env.cells.lookup x=some c→∃ v,s.heap.IsCell c v
  free:H X.env.locals=none
  freeC:∀ x c,X.env.cells.lookup x=some c→H c=none
  pin:∀ p∈X.pn++pins,s.heap.get? p.1=some p.2∧H p.1=none∧p.1≠X.env.locals∧p.1∉X.fs∧∀ v,p.2.data≠.cell v
  hok:HOk X.prog X.w H s.heap
  len:σ.length=X.N.length
section
variable {X:Cx} {pins:List (Addr×Obj)} {σ:List (Option V)} {H H':Hp} {s:Shared} {h':Heap}
theorem Cx.Ok.nofr (ok:X.Ok) {b:Addr} {o:Obj} (e:X.base.get? b=some o):b∉X.fs:=fun hb=>by
  have:=(ok.funs.mem hb).1
  rw [e] at this; cases this
theorem Inv.bs (I:Inv X pins σ H s):∀ b o,X.base.get? b=some o→s.heap.get? b=some o∧H b=none:=fun b o e =>
  ⟨I.base.keep b o (I.ok.bs b o e).1 (I.ok.bs b o e).2 (I.ok.nofr e) (I.ok.noex b o e),I.base.free b o (I.ok.bs b o e).1 (I.ok.bs b o e).2 (I.ok.noex b o e)⟩
theorem Inv.bk (I:Inv X pins σ H s):∀ b o,X.base.get? b=some o→s.heap.get? b=some o:=fun b o e=>(I.bs b o e).1
theorem Inv.mod (I:Inv X pins σ H s):Mod X.K X.mg X.base:=I.ok.mod
theorem Inv.kIn (I:Inv X pins σ H s):X.K.In s.heap:=I.ok.mod.kin.keeps I.bk
theorem Inv.lt (I:Inv X pins σ H s):X.env.locals<s.heap.objs.size:=let ⟨_,hn,_⟩:=I.loc; hn.lt
theorem Inv.sz (I:Inv X pins σ H s):X.s₀.heap.objs.size≤s.heap.objs.size:=Nat.le_trans I.ok.above (Nat.le_of_lt I.lt)
theorem Inv.nofs (I:Inv X pins σ H s) {a:Addr} (h:s.heap.objs.size≤a):a∉X.fs:=fun hb=>by
  obtain ⟨_,o,ho,_⟩:=I.ok.funs.mem hb
  exact absurd (Nat.lt_of_lt_of_le (Heap.lt_size ho) (Nat.le_trans I.sz h)) (Nat.lt_irrefl _)
theorem Inv.cne (I:Inv X pins σ H s):∀ x c,X.env.cells.lookup x=some c→c≠X.env.locals:=fun x c e z=>by
  obtain ⟨v,o,ho,hd⟩:=I.cell x c e
  obtain ⟨m,⟨o',es,ep,ho',hd',_⟩,_⟩:=I.loc
  rw [z,ho'] at ho; cases ho; rw [hd'] at hd; cases hd
theorem Inv.funs (I:Inv X pins σ H s):s.heap.FunFrames X.base X.outer:=by
  have all:∀ (l:List Env),(∀ b∈frs l,b∈X.fs)→X.s₀.heap.FunFrames X.base l→s.heap.FunFrames X.base l:=by
    intro l
    induction l with
    | nil=>intro _ _; trivial
    | cons env r ih =>
      intro hs hl
      obtain ⟨hk,⟨L,o,hf,hn,ho,hd⟩,hr⟩:=hl
      have hL:L∈X.fs:=hs L (by unfold frs; rw [List.filterMap_cons,hf]; exact List.mem_cons_self)
      obtain ⟨sl,e⟩:=I.base.slot L o ho (I.ok.frf L hL) hL fun z=>I.ok.exfs L z hL
      exact ⟨hk,⟨L,_,hf,hn,e,hd⟩,ih (fun b hb=>hs b (by unfold frs; rw [List.filterMap_cons,hf]; exact List.mem_cons_of_mem _ hb)) hr⟩
  exact all X.outer (fun _ hb=>hb) I.ok.funs
theorem Inv.stack (I:Inv X pins σ H s):s.heap.FunFrames X.base X.stack:=by
  rcases I.ok.stk with e | ⟨e,hf⟩
  · rw [e]; exact I.funs
  · rw [e]
    obtain ⟨m,hn,_⟩:=I.loc
    refine .cons (by rw [I.ok.kind]; decide) hf hn ?_ I.funs
    exact Heap.get?_none_of_le (Nat.le_trans I.ok.bsz I.ok.above)
theorem Inv.stkSub (I:Inv X pins σ H s):∀ b∈frs X.stack,b∈X.env.locals::X.fs:=fun b hb=>by
  rcases I.ok.stk with e | ⟨e,hf⟩
  · rw [e] at hb; exact List.mem_cons_of_mem _ hb
  · rw [e] at hb
    unfold frs at hb
    rw [List.filterMap_cons,hf] at hb
    exact hb
theorem Inv.stkFree (I:Inv X pins σ H s):∀ b∈frs X.stack,H b=none:=fun b hb=>by
  rcases List.mem_cons.mp (I.stkSub b hb) with e | hb
  · rw [e]; exact I.free
  · obtain ⟨_,o,ho,_⟩:=I.ok.funs.mem hb
    exact I.base.free b o ho (I.ok.frf b hb) fun z=>I.ok.exfs b z hb
theorem Inv.step {g':Array GenState} {t':Nat} {d':Drawn} {ch:List Addr} (I:Inv X pins σ H s)
    (hch:∀ b∈ch,(b∈X.ex∨X.s₀.heap.objs.size≤b)∧b≠X.env.locals∧(∀ x c,X.env.cells.lookup x=some c→c≠b)∧∀ p∈X.pn++pins,p.1≠b)
    (keep:∀ b o,b≠X.env.locals→b∉X.fs→b∉ch→s.heap.get? b=some o→H b=none→h'.get? b=some o)
    (slot:∀ b o,b≠X.env.locals→b∈X.fs→b∉ch→s.heap.get? b=some o→H b=none→∃ sl,h'.get? b=some { o with slots:=sl }) (free:∀ b o,b∉ch→s.heap.get? b=some o→H b=none→H' b=none)
    (there:∀ b o,b∉ch→s.heap.get? b=some o→∃ o',h'.get? b=some o')
    (tups:∀ b xs,H b=some (.tup xs)→H' b=some (.tup xs)) (frzs:∀ b o u,H b=some (.frz o u)→H' b=some (.frz o u)) (tbls:∀ b ps,H b=some (.tbl ps)→∃ more,H' b=some (.tbl (ps++more)))
    (ns:∀ m,s.heap.Ns X.env.locals m→h'.Ns X.env.locals m) (hok:HOk X.prog X.w H' h') (hg:AllBare g') :
    Inv X pins σ H' { s with heap:=h',gens:=g',drawn:=d',toks:=t' }:=by
  have neL:∀ b o,X.s₀.heap.get? b=some o→b≠X.env.locals:=fun b o e=>Nat.ne_of_lt (Nat.lt_of_lt_of_le (Heap.lt_size e) I.ok.above)
  have neC:∀ b o,X.s₀.heap.get? b=some o→b∉X.ex→b∉ch:=fun b o e hx hb=>by
    rcases (hch b hb).1 with z | z
    · exact hx z
    · exact absurd (Nat.lt_of_lt_of_le (Heap.lt_size e) z) (Nat.lt_irrefl _)
  have cellK:∀ x c,X.env.cells.lookup x=some c→∀ v,s.heap.IsCell c v→h'.IsCell c v:=fun x c e v ⟨o,ho,hd⟩=>by
    have nch:c∉ch:=fun z=>(hch c z).2.2.1 x c e rfl
    by_cases hc:c∈X.fs
    · obtain ⟨sl,q⟩:=slot c o (I.cne x c e) hc nch ho (I.freeC x c e)
      exact ⟨_,q,hd⟩
    · exact ⟨o,keep c o (I.cne x c e) hc nch ho (I.freeC x c e),hd⟩
  refine ⟨I.ok,I.os,hg,⟨fun b o e n hb hx=>?_,fun b o e n hb hx=>?_,fun b o e n hx=>?_,fun b o e hx=>?_,fun b xs e=>tups b xs (I.base.tups b xs e),fun b o xs e=>frzs b o xs (I.base.frzs b o xs e),fun b ps e=>?_⟩,?_,fun x c e=>?_,?_,fun x c e=>?_,fun p hp=>?_,hok,I.len⟩
  · exact keep b o (neL b o e) hb (neC b o e hx) (I.base.keep b o e n hb hx) (I.base.free b o e n hx)
  · obtain ⟨sl,e1⟩:=I.base.slot b o e n hb hx
    obtain ⟨sl',e2⟩:=slot b _ (neL b o e) hb (neC b o e hx) e1 (I.base.free b o e n hx)
    exact ⟨sl',e2⟩
  · obtain ⟨o',e1⟩:=I.base.there b o e hx
    exact free b o' (neC b o e hx) e1 (I.base.free b o e n hx)
  · obtain ⟨o',e1⟩:=I.base.there b o e hx
    exact there b o' (neC b o e hx) e1
  · obtain ⟨m1,e1⟩:=I.base.tbls b ps e
    obtain ⟨m2,e2⟩:=tbls b _ e1
    exact ⟨m1++m2,by rw [e2,Array.append_assoc]⟩
  · obtain ⟨m,hn,hl⟩:=I.loc
    refine ⟨m,ns m hn,fun i x v e1 e2 e3=>?_⟩
    obtain ⟨u,r,l⟩:=hl i x v e1 e2 e3
    refine ⟨u,r,?_⟩
    rcases l with l | ⟨k,c,e,z⟩
    · exact .inl l
    · exact .inr ⟨k,c,e,cellK x c e _ z⟩
  · obtain ⟨v,z⟩:=I.cell x c e
    exact ⟨v,cellK x c e v z⟩
  · obtain ⟨m,⟨o,_,_,ho,_⟩,_⟩:=I.loc
    exact free _ o (fun z=>(hch _ z).2.1 rfl) ho I.free
  · obtain ⟨v,o,ho,hd⟩:=I.cell x c e
    exact free c o (fun z=>(hch c z).2.2.1 x c e rfl) ho (I.freeC x c e)
  · obtain ⟨e,n,ne,nf,d⟩:=I.pin p hp
    have nch:p.1∉ch:=fun z=>(hch p.1 z).2.2.2 p hp rfl
    exact ⟨keep p.1 p.2 ne nf nch e n,free p.1 p.2 nch e n,ne,nf,d⟩
theorem Inv.un {t':Nat} (I:Inv X pins σ H s) (u:Un X.fs [] H H' s.heap h') (hok:HOk X.prog X.w H' h'):Inv X pins σ H' { s with heap:=h',toks:=t' }:=by
  obtain ⟨m,⟨o,es,ep,ho,r⟩,_⟩:=id I.loc
  obtain ⟨sl,hL⟩:=u.any ho I.free (by simp)
  exact I.step (g':=s.gens) (d':=s.drawn) (ch:=[]) (fun _ z=>nomatch z) (fun b o _ hb _ e n=>u.keep b o e n hb (by simp)) (fun b o _ hb _ e n=>u.slot b o e n hb (by simp)) (fun b o _ e n=>u.free b o e n (by simp)) (fun b o _ e=>u.there b o e (by simp)) u.tups u.frzs u.tbls (fun m' hm=>by
    obtain ⟨o',es',ep',ho',r'⟩:=hm
    rw [ho] at ho'; cases ho'
    exact ⟨_,es',ep',hL,r'⟩) hok I.bare
theorem Inv.call {g':Array GenState} {t':Nat} {d':Drawn} {ch:List Addr} (I:Inv X pins σ H s) (u:Un (frs X.stack) ch H H' s.heap h') (hok:HOk X.prog X.w H' h') (hg:AllBare g')
    (hch:∀ b∈ch,(b∈X.ex∨X.s₀.heap.objs.size≤b)∧b≠X.env.locals∧(∀ x c,X.env.cells.lookup x=some c→c≠b)∧∀ p∈X.pn++pins,p.1≠b) :
    Inv X pins σ H' { s with heap:=h',gens:=g',drawn:=d',toks:=t' }:=by
  obtain ⟨m,⟨o,es,ep,ho,r⟩,_⟩:=id I.loc
  obtain ⟨sl,hL⟩:=u.any ho I.free fun z=>(hch _ z).2.1 rfl
  exact I.step (ch:=ch) hch (fun b o hL hb hc e n=>u.keep b o e n (fun z=>(List.mem_cons.mp (I.stkSub b z)).elim hL hb) hc) (fun b o _ _ hc e n=>u.any e n hc) (fun b o hc e n=>u.free b o e n hc) (fun b o hc e=>u.there b o e hc) u.tups u.frzs u.tbls (fun m' hm=>by
    obtain ⟨o',es',ep',ho',r'⟩:=hm
    rw [ho] at ho'; cases ho'
    exact ⟨_,es',ep',hL,r'⟩) hok hg
theorem Inv.turned {t':Nat} {it:Addr} (I:Inv X pins σ H s) (k:∀ b o,b≠it→s.heap.get? b=some o→h'.get? b=some o) (hn:H it=none) (hL:it≠X.env.locals)
    (h1:it∈X.ex∨X.s₀.heap.objs.size≤it) (h2:∀ x c,X.env.cells.lookup x=some c→c≠it) (h3:∀ p∈X.pn++pins,p.1≠it):Inv X pins σ H { s with heap:=h',toks:=t' }:=by
  have nit:∀ b u,H b=some u→b≠it:=fun b u e z=>by rw [z,hn] at e; cases e
  refine I.step (g':=s.gens) (d':=s.drawn) (ch:=[it]) (fun b hb=>?_) (fun b o _ _ hc e _=>k b o (fun z=>hc (by simp [z])) e) (fun b o _ _ hc e _=>⟨o.slots,k b o (fun z=>hc (by simp [z])) e⟩) (fun _ _ _ _ n=>n)
    (fun b o hc e=>⟨o,k b o (fun z=>hc (by simp [z])) e⟩) (fun _ _ e=>e) (fun _ _ _ e=>e) (fun b ps e=>⟨#[],by rw [e]; simp⟩) (fun m hm=>?_) (fun b u e=>?_) I.bare
  · have e:b=it:=by simpa using hb
    subst e
    exact ⟨h1,hL,h2,h3⟩
  · obtain ⟨o,es,ep,ho,r⟩:=hm
    exact ⟨o,es,ep,k _ o (Ne.symm hL) ho,r⟩
  · refine (I.hok b u e).stay (fun c v hc q=>k c v ?_ q) (fun _ q=>q) fun _ _ q=>q
    rcases hc with z | z
    · rw [z]; exact nit b u e
    · exact nit c _ z
theorem Inv.tok (I:Inv X pins σ H s) (t:Nat):Inv X pins σ H { s with toks:=t }:=I.un (h':=s.heap) (t':=t) Un.refl I.hok
theorem Inv.kept {t':Nat} (I:Inv X pins σ H s) (k:∀ b u,s.heap.get? b=some u→h'.get? b=some u):Inv X pins σ H { s with heap:=h',toks:=t' }:=I.un (Un.kept k) (I.hok.kept k)
theorem Inv.laid {a:Addr} {o:HO} {t':Nat} (I:Inv X pins σ H s) (k:∀ b u,s.heap.get? b=some u→h'.get? b=some u) (hp:s.heap.objs.size≤a) (new:ObjOk X.prog X.w (upd H a o) h' a o) :
    Inv X pins σ (upd H a o) { s with heap:=h',toks:=t' }:=I.un (Un.laid k hp (I.hok.fresh hp)) (I.hok.laid k hp new)
theorem Inv.write {x e:Addr} {o:HO} {t':Nat} (I:Inv X pins σ H s) (mu:Mut (H x)) (he:e=x∨H e=some (.own x)) (k:∀ b u,b≠e→s.heap.get? b=some u→h'.get? b=some u) (heo:∃ u,h'.get? e=some u)
    (new:ObjOk X.prog X.w (upd H x o) h' x o):Inv X pins σ (upd H x o) { s with heap:=h',toks:=t' }:=I.un (Un.write mu he k heo) (I.hok.write mu he k heo new)
theorem Inv.weak {σ':List (Option V)} (I:Inv X pins σ H s) (hl:σ'.length=σ.length) (w:∀ (i:Nat) v,σ'[i]?=some (some v)→σ[i]?=some (some v)):Inv X pins σ' H s :=
  ⟨I.ok,I.os,I.bare,I.base,let ⟨m,hn,hl'⟩:=I.loc; ⟨m,hn,fun i x v e1 e2 e3=>hl' i x v e1 (w i v e2) e3⟩,I.cell,I.free,I.freeC,I.pin,I.hok,hl.trans I.len⟩
theorem Inv.pins_of {pins':List (Addr×Obj)} (I:Inv X pins σ H s) (h:∀ p∈pins',s.heap.get? p.1=some p.2∧H p.1=none∧p.1≠X.env.locals∧p.1∉X.fs∧∀ v,p.2.data≠.cell v):Inv X pins' σ H s :=
  ⟨I.ok,I.os,I.bare,I.base,I.loc,I.cell,I.free,I.freeC,fun p hp=>(List.mem_append.mp hp).elim (fun z=>I.pin p (List.mem_append_left _ z)) (h p),I.hok,I.len⟩
theorem nodup_ix {N:List Str} (hN:N.Nodup) {i j:Nat} {x:Str} (a:N[i]?=some x) (b:N[j]?=some x):i=j:=by
  obtain ⟨h1,e1⟩:=List.getElem?_eq_some_iff.mp a
  obtain ⟨h2,e2⟩:=List.getElem?_eq_some_iff.mp b
  exact (List.getElem_inj hN).mp (e1.trans e2.symm)
theorem store_ok2 {M:Model} {A:Around} {E:Value→Shared→Prop} {i:Nat} {x:Str} {v:V} {u:Value} {Q:Unit→Shared→Prop} (I:Inv X pins σ H s) (hN:X.N.Nodup) (hi:X.N[i]?=some x) (hx:Loc X.env.scope x) (r:RelV v u)
    (h:∀ s',Inv X pins (σ.set i (some v)) H s'→(∃ a,Heap.SameBut a s.heap s'.heap∧(a=X.env.locals∨X.env.cells.lookup x=some a))→Q () s') (hf:X.fn x=true∨X.env.scope.names.lookup x=some .local:=by first | exact .inl rfl | exact .inr rfl | assumption):wpAny M A (storeName X.env x u) Q E s:=by
  obtain ⟨m,hn,hl⟩:=id I.loc
  have hcls:(X.env.scope.kind==.class || (X.env.scope.kind==.module&&X.env.locals != X.env.globals))=false:=by rw [I.ok.kind]; rfl
  have hiσ:i < σ.length:=by rw [I.len]; exact (List.getElem?_eq_some_iff.mp hi).1
  have cne:=I.cne
  have tracked:∀ {a:Addr} {h':Heap},(∃ o,s.heap.get? a=some o∧H a=none)→Heap.SameBut a s.heap h'→HOk X.prog X.w H h':=fun {a h'} ha hs b ob e=>by
    obtain ⟨_,_,hfree⟩:=ha
    refine (I.hok b ob e).stay (fun c w' hc q=>(hs.2 c ?_).trans q) (fun _ q=>q) fun _ _ q=>q
    rintro rfl
    rcases hc with rfl | hc
    · rw [hfree] at e; cases e
    · rw [hfree] at hc; cases hc
  rcases hx with hk | hk
  · refine wpAny_storeName_local hk hn (fun h' hn' hs=>?_) hcls
    obtain ⟨oL,_,_,hoL,_⟩:=id hn
    refine h _ ⟨I.ok,I.os,I.bare,⟨fun b o e n hb hx=>?_,fun b o e n hb hx=>?_,I.base.free,fun b o e hx=>?_,I.base.tups,I.base.frzs,I.base.tbls⟩,⟨_,hn',fun j y v' e1 e2 e3=>?_⟩,fun y c e=>?_,I.free,I.freeC,fun p hp=>?_,tracked ⟨oL,hoL,I.free⟩ hs,by simpa using I.len⟩ ⟨_,hs,.inl rfl⟩
    · exact (hs.2 b (Nat.ne_of_lt (Nat.lt_of_lt_of_le (Heap.lt_size e) I.ok.above))).trans (I.base.keep b o e n hb hx)
    · obtain ⟨sl,e1⟩:=I.base.slot b o e n hb hx
      exact ⟨sl,(hs.2 b (Nat.ne_of_lt (Nat.lt_of_lt_of_le (Heap.lt_size e) I.ok.above))).trans e1⟩
    · obtain ⟨o',e1⟩:=I.base.there b o e hx
      exact ⟨o',(hs.2 b (Nat.ne_of_lt (Nat.lt_of_lt_of_le (Heap.lt_size e) I.ok.above))).trans e1⟩
    · by_cases hj:j=i
      · subst hj
        rw [hi] at e1; cases e1
        rw [List.getElem?_set_self hiσ] at e2
        cases e2
        exact ⟨u,r,.inl ⟨hk,by simp⟩⟩
      · rw [List.getElem?_set_ne (Ne.symm hj)] at e2
        obtain ⟨u',r',q⟩:=hl j y v' e1 e2 e3
        refine ⟨u',r',?_⟩
        rcases q with ⟨k,e⟩ | ⟨k,c,e,z⟩
        · refine .inl ⟨k,?_⟩
          have:y≠x:=fun e=>hj (nodup_ix hN e1 (e ▸ hi))
          simp [this,e]
        · exact .inr ⟨k,c,e,z.sameBut hs (cne y c e)⟩
    · obtain ⟨w',z⟩:=I.cell y c e
      exact ⟨w',z.sameBut hs (cne y c e)⟩
    · obtain ⟨e,n,ne,nf,d⟩:=I.pin p hp
      exact ⟨(hs.2 p.1 ne).trans e,n,ne,nf,d⟩
  · have hfn:X.fn x=true:=by
      rcases hf with z | z
      · exact z
      · rw [z] at hk; cases hk
    obtain ⟨c,hc⟩:=I.ok.has x (.inl hk)
    obtain ⟨w',z⟩:=I.cell x c hc
    refine wpAny_storeName_cell I.ok.kind hk hc z (fun h' hc' hs=>?_)
    obtain ⟨oc,hoc,hocd⟩:=id z
    refine h { s with heap:=h' } ⟨I.ok,I.os,I.bare,⟨fun b o e n hb hx=>?_,fun b o e n hb hx=>?_,I.base.free,fun b o e hx=>?_,I.base.tups,I.base.frzs,I.base.tbls⟩,⟨m,hn.sameBut hs (Ne.symm (cne x c hc)),fun j y v' e1 e2 e3=>?_⟩,fun y c' e=>?_,I.free,I.freeC,fun p hp=>?_,tracked ⟨oc,hoc,I.freeC x c hc⟩ hs,by simpa using I.len⟩ ⟨c,hs,.inr hc⟩
    · exact (hs.2 b (Nat.ne_of_lt (Nat.lt_of_lt_of_le (Heap.lt_size e) (I.ok.cab x c hfn hc)))).trans (I.base.keep b o e n hb hx)
    · obtain ⟨sl,e1⟩:=I.base.slot b o e n hb hx
      exact ⟨sl,(hs.2 b (Nat.ne_of_lt (Nat.lt_of_lt_of_le (Heap.lt_size e) (I.ok.cab x c hfn hc)))).trans e1⟩
    · obtain ⟨o',e1⟩:=I.base.there b o e hx
      exact ⟨o',(hs.2 b (Nat.ne_of_lt (Nat.lt_of_lt_of_le (Heap.lt_size e) (I.ok.cab x c hfn hc)))).trans e1⟩
    · by_cases hj:j=i
      · subst hj
        rw [hi] at e1; cases e1
        rw [List.getElem?_set_self hiσ] at e2
        cases e2
        exact ⟨u,r,.inr ⟨.inl hk,c,hc,hc'⟩⟩
      · rw [List.getElem?_set_ne (Ne.symm hj)] at e2
        obtain ⟨u',r',q⟩:=hl j y v' e1 e2 e3
        refine ⟨u',r',?_⟩
        rcases q with q | ⟨k,c',e,z'⟩
        · exact .inl q
        · refine .inr ⟨k,c',e,z'.sameBut hs ?_⟩
          rintro rfl
          exact hj (nodup_ix hN e1 (I.ok.inj _ _ _ e hc ▸ hi))
    · by_cases hcc:c'=c
      · subst hcc; exact ⟨_,hc'⟩
      · obtain ⟨w2,z2⟩:=I.cell y c' e
        exact ⟨w2,z2.sameBut hs hcc⟩
    · obtain ⟨e,n,ne,nf,d⟩:=I.pin p hp
      refine ⟨(hs.2 p.1 ?_).trans e,n,ne,nf,d⟩
      intro q
      rw [q,hoc] at e
      have q':oc=p.2:=Option.some.inj e
      exact d w' (by rw [← q']; exact hocd)
theorem store_ok {M:Model} {A:Around} {E:Value→Shared→Prop} {i:Nat} {x:Str} {v:V} {u:Value} {Q:Unit→Shared→Prop} (I:Inv X pins σ H s) (hN:X.N.Nodup) (hi:X.N[i]?=some x) (hx:Loc X.env.scope x) (r:RelV v u)
    (h:∀ s',Inv X pins (σ.set i (some v)) H s'→Q () s') (hf:X.fn x=true∨X.env.scope.names.lookup x=some .local:=by first | exact .inl rfl | exact .inr rfl | assumption):wpAny M A (storeName X.env x u) Q E s :=
  store_ok2 I hN hi hx r (fun s' I' _=>h s' I') hf
theorem Inv.call' {s':Shared} {ch:List Addr} (I:Inv X pins σ H s) (ho:s'.os=s.os) (u:Un (frs X.stack) ch H H' s.heap s'.heap) (hok:HOk X.prog X.w H' s'.heap) (hg:AllBare s'.gens)
    (hch:∀ b∈ch,(b∈X.ex∨X.s₀.heap.objs.size≤b)∧b≠X.env.locals∧(∀ x c,X.env.cells.lookup x=some c→c≠b)∧∀ p∈X.pn++pins,p.1≠b):Inv X pins σ H' s':=by
  obtain ⟨h',g',d',t',o'⟩:=s'
  have e:o'=s.os:=ho
  subst e
  exact I.call (g':=g') (t':=t') (d':=d') u hok hg hch
end
abbrev XK:=Value→Option Addr→Hp→Prop
abbrev St:=List (Option V)
abbrev VK:=V→Hp→Prop
abbrev TE:=St→Hp→VK→Prop
abbrev TT:=St→Hp→(Bool→Hp→Prop)→Prop
abbrev TA:=St→Hp→(List V→Hp→Prop)→Prop
structure Ends where
  nx:St→Hp→Prop
  rt:VK
  bk:St→Hp→Prop:=fun _ _=>False
  ct:St→Hp→Prop:=fun _ _=>False
abbrev TS:=Ends→St→Hp→Prop
def EP (X:Cx) (pins:List (Addr×Obj)) (σ:St) (Q:VK) (u:Value) (s':Shared):Prop:=∃ v H',Inv X pins σ H' s'∧RelV v u∧Q v H'
def TP (X:Cx) (pins:List (Addr×Obj)) (σ:St) (Q:Bool→Hp→Prop) (b:Bool) (s':Shared):Prop:=∃ H',Inv X pins σ H' s'∧Q b H'
def AP (X:Cx) (pins:List (Addr×Obj)) (σ:St) (Q:List V→Hp→Prop) (us:List Value) (s':Shared):Prop:=∃ vs H',Inv X pins σ H' s'∧Vals vs us∧Q vs H'
def SP (X:Cx) (pins:List (Addr×Obj)) (D:Ends) (f:Flow) (s':Shared):Prop :=
  match f with
  | .next=>∃ σ' H',Inv X pins σ' H' s'∧D.nx σ' H'
  | .brk=>∃ σ' H',Inv X pins σ' H' s'∧D.bk σ' H'
  | .cont=>∃ σ' H',Inv X pins σ' H' s'∧D.ct σ' H'
  | .ret u=>∃ v σ' H',Inv X pins σ' H' s'∧RelV v u∧D.rt v H'
def PE (X:Cx) (e:Expr) (t:TE):Prop :=
  ∀ (pins:List (Addr×Obj)) (s:Shared) (σ:St) (H:Hp) (Q:VK),Inv X pins σ H s→t σ H Q→wpAny (model X.prog X.w) X.A (eval e X.env) (EP X pins σ Q) X.xe s
def PT (X:Cx) (e:Expr) (t:TT):Prop :=
  ∀ (pins:List (Addr×Obj)) (s:Shared) (σ:St) (H:Hp) (Q:Bool→Hp→Prop),Inv X pins σ H s→t σ H Q→wpAny (model X.prog X.w) X.A (isTrue e X.env (eval e X.env)) (TP X pins σ Q) X.xe s
def PW (X:Cx) (e:Expr) (t:TT):Prop :=
  ∀ (whole:Sem Value) (pins:List (Addr×Obj)) (s:Shared) (σ:St) (H:Hp) (Q:Bool→Hp→Prop),Inv X pins σ H s→t σ H Q→wpAny (model X.prog X.w) X.A (isTrue e X.env whole) (TP X pins σ Q) X.xe s
theorem PW.pt {X:Cx} {e:Expr} {t:TT} (h:PW X e t):PT X e t:=h _
def PA (X:Cx) (es:List Expr) (t:TA):Prop :=
  ∀ (pos:Pos) (pins:List (Addr×Obj)) (s:Shared) (σ:St) (H:Hp) (Q:List V→Hp→Prop),Inv X pins σ H s→t σ H Q→wpAny (model X.prog X.w) X.A (spliced (backTo pos (starEach es X.env))) (AP X pins σ Q) X.xe s
def PS (X:Cx) (st:Stmt) (t:TS):Prop :=
  ∀ (pins:List (Addr×Obj)) (s:Shared) (σ:St) (H:Hp) (D:Ends),Inv X pins σ H s→t D σ H→wpAny (model X.prog X.w) X.A (exec st X.env) (SP X pins D) X.xe s
def PSs (X:Cx) (st:List Stmt) (t:TS):Prop :=
  ∀ (pins:List (Addr×Obj)) (s:Shared) (σ:St) (H:Hp) (D:Ends),Inv X pins σ H s→t D σ H→wpAny (model X.prog X.w) X.A (execs st X.env) (SP X pins D) X.xe s
theorem thn {α:Type} {t:Sem α} {Q Q':α→Shared→Prop} {M:Model} {A:Around} {E:Value→Shared→Prop} {s:Shared} (h:wpAny M A t Q E s) (hQ:∀ a s,Q a s→Q' a s):wpAny M A t Q' E s:=wpAny_mono h hQ fun _ _ x=>x
end L2
namespace L2
open PySem PySem.Spec PyProof.Rows
section
variable {X:Cx}
def tVar (i:Nat):TE:=fun σ H Q=>∃ v,σ[i]?=some (some v)∧Q v H
def tC (v:V):TE:=fun _ H Q=>Q v H
theorem pe_var {i:Nat} {x:Str} {pos:Pos} (hN:X.N[i]?=some x) (hv:Vis X.env.scope x) (hd:(x==("__debug__" : Str))=false:=by decide) (hcd:(x==("__classdict__" : Str))=false:=by decide):PE X (.Name x pos) (tVar i):=by
  intro pins s σ H Q I h
  obtain ⟨v,e,h⟩:=h
  obtain ⟨m,hn,hl⟩:=I.loc
  obtain ⟨u,r,l⟩:=hl i x v hN e hv
  have fin:EP X pins σ Q u s:=⟨v,H,I,r,h⟩
  rcases l with ⟨hk,hm⟩ | ⟨hk,c,hc,hcell⟩
  · exact wpAny_Name (wpAny_loadName_local I.ok.kind hk hn hm fin) hd
  · rcases hk with hk | hk
    · exact wpAny_Name (wpAny_loadName_cell I.ok.kind hk hc hcell fin) hd
    · exact wpAny_Name (wpAny_loadName_free I.ok.kind hk hc hcell fin hcd) hd
theorem pe_int {i j pos}:PE X (.Constant (.int i) j pos) (tC (.int i)):=fun _ _ _ H _ I h=>wpAny_Constant_int ⟨.int i,H,I.tok _,⟨_,rfl⟩,h⟩
theorem pe_bl {b j pos}:PE X (.Constant (.bool b) j pos) (tC (.bl b)):=fun _ _ _ H _ I h=>Constant_bool ⟨.bl b,H,I,rfl,h⟩
def Gl (X:Cx) (x:Str):Prop:=X.env.kindOf x=some .globalImplicit
theorem ld_glob {E:Value→Shared→Prop} {pins:List (Addr×Obj)} {s:Shared} {σ:St} {H:Hp} {x:Str} {u:Value} {pos:Pos} {Q:Value→Shared→Prop} (I:Inv X pins σ H s) (hg:Gl X x) (hm:X.mg x=some u) (h:Q u s)
    (hd:(x==("__debug__" : Str))=false:=by decide):wpAny (model X.prog X.w) X.A (eval (.Name x pos) X.env) Q E s :=
  Calls.Name_function_global I.ok.kind hg (Calls.loadGlobal_global (by rw [I.ok.glob]; exact I.mod.glob.keeps I.bk) hm h) hd
theorem ld_blt {E:Value→Shared→Prop} {pins:List (Addr×Obj)} {s:Shared} {σ:St} {H:Hp} {x:Str} {u:Value} {pos:Pos} {Q:Value→Shared→Prop} (I:Inv X pins σ H s) (hg:Gl X x) (hm:X.mg x=none) (hv:bootBuiltins x=some u) (h:Q u s)
    (hn:x ≠ "__name__" := by decide) (hd:(x==("__debug__" : Str))=false:=by decide):wpAny (model X.prog X.w) X.A (eval (.Name x pos) X.env) Q E s:=by
  obtain ⟨mb,h1,h2⟩:=I.mod.blt
  exact Calls.Name_function_global I.ok.kind hg (Calls.loadGlobal_builtin (by rw [I.ok.glob]; exact I.mod.glob.keeps I.bk) hm (by rw [I.ok.blt]; exact h1.keeps I.bk) ((h2 x hn).trans hv) h) hd
theorem pe_glob {x:Str} {v:V} {u:Value} {pos:Pos} (hg:Gl X x) (hm:X.mg x=some u) (r:RelV v u) (hd:(x==("__debug__" : Str))=false:=by decide):PE X (.Name x pos) (tC v) :=
  fun _ _ _ H _ I h=>ld_glob I hg hm ⟨v,H,I,r,h⟩ hd
theorem pe_bltn {x:Str} {v:V} {u:Value} {pos:Pos} (hg:Gl X x) (hm:X.mg x=none) (hv:bootBuiltins x=some u) (r:RelV v u) (hn:x ≠ "__name__" := by decide) (hd:(x==("__debug__" : Str))=false:=by decide):PE X (.Name x pos) (tC v) :=
  fun _ _ _ H _ I h=>ld_blt I hg hm hv ⟨v,H,I,r,h⟩ hn hd
variable {a b:Expr} {ta tb:TE} {pos:Pos}
def PC (X:Cx) (op:CmpOp) (a b:Expr) (t:TE):Prop :=
  ∀ (pins:List (Addr×Obj)) (s:Shared) (σ:St) (H:Hp) (Q:VK),Inv X pins σ H s→t σ H Q →
    wpAny (model X.prog X.w) X.A (eval a X.env) (fun v s₁=>wpAny (model X.prog X.w) X.A (eval b X.env) (fun u s₂=>wpAny (model X.prog X.w) X.A (compareOp op v u) (EP X pins σ Q) X.xe s₂) X.xe s₁) X.xe s
def tB (t:TE):TT:=fun σ H Q=>t σ H fun x H1=>∃ c,x=.bl c∧Q c H1
theorem pt_cmp {op:CmpOp} {t:TE} (h:PC X op a b t) (h1:behindInMarks op b=false:=by first | exact nobehind _ (by decide) (by decide) | rfl):PT X (.Compare a [op] [b] pos) (tB t):=by
  intro pins s σ H Q I hw
  refine wpAny_isTrue_Compare1 (thn (h pins s σ H _ I hw) fun v s1 h1=>thn h1 fun u s2 h2=>thn h2 fun c s3 ⟨x,H1,I1,r1,q1⟩=>?_) h1
  obtain ⟨d,rfl,q⟩:=q1
  cases r1
  exact wpAny_truthy_bool ⟨H1,I1,q⟩
variable {tA tB':TT} {rest:List Expr}
def tAnd (t u:TT):TT:=fun σ H Q=>t σ H fun c H1=>if c=true then u σ H1 Q else Q false H1
def tOr (t u:TT):TT:=fun σ H Q=>t σ H fun c H1=>if c=true then Q true H1 else u σ H1 Q
def tNot (t:TT):TT:=fun σ H Q=>t σ H fun c H1=>Q (!c) H1
theorem pw_and1 (ha:PT X a tA):PW X (.BoolOp .And [a] pos) tA:=by
  intro wh pins s σ H Q I h
  refine isTrue_and (thn (ha pins s σ H Q I h) fun c s1 e=>?_)
  cases c with
  | true=>exact isTrue_and_nil e
  | false=>exact e
theorem pw_or1 (ha:PT X a tA):PW X (.BoolOp .Or [a] pos) tA:=by
  intro wh pins s σ H Q I h
  refine isTrue_or (thn (ha pins s σ H Q I h) fun c s1 e=>?_)
  cases c with
  | false=>exact isTrue_or_nil e
  | true=>exact e
theorem pw_and (ha:PT X a tA) (hb:PW X (.BoolOp .And (b::rest) pos) tB'):PW X (.BoolOp .And (a::b::rest) pos) (tAnd tA tB'):=by
  intro wh pins s σ H Q I h
  refine isTrue_and (thn (ha pins s σ H _ I h) fun c s1 ⟨H1,I1,q1⟩=>?_)
  cases c with
  | true=>exact hb wh pins s1 σ H1 Q I1 q1
  | false=>exact ⟨H1,I1,q1⟩
theorem pw_or (ha:PT X a tA) (hb:PW X (.BoolOp .Or (b::rest) pos) tB'):PW X (.BoolOp .Or (a::b::rest) pos) (tOr tA tB'):=by
  intro wh pins s σ H Q I h
  refine isTrue_or (thn (ha pins s σ H _ I h) fun c s1 ⟨H1,I1,q1⟩=>?_)
  cases c with
  | true=>exact ⟨H1,I1,q1⟩
  | false=>exact hb wh pins s1 σ H1 Q I1 q1
theorem pt_not (ha:PT X a tA):PT X (.UnaryOp .Not a pos) (tNot tA):=by
  intro pins s σ H Q I h
  exact isTrue_not (ha pins s σ H (fun c H1=>Q (!c) H1) I h)
def tAndV (ta tb:TE):TE:=fun σ H Q=>ta σ H fun x H1=>∃ c,x=.bl c∧if c=true then tb σ H1 Q else Q (.bl false) H1
def tNotV (ta:TE):TE:=fun σ H Q=>ta σ H fun x H1=>∃ c,x=.bl c∧Q (.bl (!c)) H1
theorem pe_one {op} {t:TE} (h:PE X a t):PE X (.BoolOp op [a] pos) t:=fun pins s σ H Q I hw=>BoolOp_one (h pins s σ H Q I hw)
theorem pe_and (ha:PE X a ta) (hb:PE X (.BoolOp .And (b::rest) pos) tb):PE X (.BoolOp .And (a::b::rest) pos) (tAndV ta tb):=by
  intro pins s σ H Q I h
  refine BoolOp_and (thn (ha pins s σ H _ I h) fun v s1 ⟨x,H1,I1,r1,q1⟩=>?_)
  obtain ⟨c,rfl,q1⟩:=q1
  cases r1
  refine wpAny_truthy_bool ?_
  cases c with
  | true=>exact hb pins s1 σ H1 Q I1 q1
  | false=>exact ⟨.bl false,H1,I1,rfl,q1⟩
theorem pe_not (ha:PE X a ta):PE X (.UnaryOp .Not a pos) (tNotV ta):=by
  intro pins s σ H Q I h
  refine UnaryOp_ (thn (ha pins s σ H _ I h) fun v s1 ⟨x,H1,I1,r1,q1⟩=>?_)
  obtain ⟨c,rfl,q1⟩:=q1
  cases r1
  exact not_of (wpAny_truthy_bool ⟨.bl (!c),H1,I1,rfl,q1⟩)
def tIf (t:TT) (ta tb:TE):TE:=fun σ H Q=>t σ H fun c H1=>if c=true then ta σ H1 Q else tb σ H1 Q
theorem pe_ifExp {c:Expr} (hc:PT X c tA) (ha:PE X a ta) (hb:PE X b tb):PE X (.IfExp c a b pos) (tIf tA ta tb):=by
  intro pins s σ H Q I h
  refine wpAny_IfExp (thn (hc pins s σ H _ I h) fun d s1 ⟨H1,I1,q1⟩=>?_)
  cases d with
  | true=>exact ha pins s1 σ H1 Q I1 q1
  | false=>exact hb pins s1 σ H1 Q I1 q1
end
end L2
namespace L2
open PySem PySem.Spec PyProof.Rows
def SqL (K:PySem.W.Frag) (H:Hp) (a:Addr) (xs:List V):Prop :=
  Rd H a (.lst xs) ∨
    ∃ (o:Obj) (its:Array Value) (n:Nat),K.lookup a=some o∧o.cls=.type "list" ∧ o.dict=none∧o.data=.seq its n∧its.size≤sizeLine∧Vals xs its.toList
def SqT (K:PySem.W.Frag) (H:Hp) (a:Addr) (xs:List V):Prop :=
  Rd H a (.tup xs) ∨
    ∃ (o:Obj) (its:Array Value) (n:Nat),K.lookup a=some o∧o.cls=.type "tuple" ∧ o.data=.seq its n∧its.size≤sizeLine∧Vals xs its.toList
def absV:Value→Option V
  | .none=>some .non
  | .bool b=>some (.bl b)
  | .int i _=>some (.int i)
  | .str x _=>some (.str x)
  | .bytes b _=>some (.byt b)
  | .float b _=>some (.flt b)
  | .ref a=>some (.ref a)
  | .type n=>some (.ty n)
  | _=>none
theorem RelV.abs {x:V} {u:Value} (r:RelV x u):absV u=some x:=by
  cases x with
  | non=>cases r; rfl
  | bl _=>cases r; rfl
  | int _=>obtain ⟨t,rfl⟩:=r; rfl
  | str _=>obtain ⟨t,rfl⟩:=r; rfl
  | byt _=>obtain ⟨t,rfl⟩:=r; rfl
  | flt _=>obtain ⟨t,rfl⟩:=r; rfl
  | ref _=>cases r; rfl
  | ty _=>cases r; rfl
theorem RelV.inj {x y:V} {u:Value} (r:RelV x u) (q:RelV y u):x=y:=Option.some.inj (r.abs.symm.trans q.abs)
theorem Vals.inj:∀ {xs ys:List V} {us:List Value},Vals xs us→Vals ys us→xs=ys
  | _,_,_,.nil,.nil=>rfl
  | _,_,_,.cons r t,.cons r' t'=>by rw [r.inj r',Vals.inj t t']
section
variable {X:Cx} {pins:List (Addr×Obj)} {σ:St} {H:Hp} {s:Shared} {a:Addr} {xs ys:List V}
theorem SqL.of {K:PySem.W.Frag} (h:H a=some (.lst xs)):SqL K H a xs:=.inl (.inl h)
theorem Inv.list (I:Inv X pins σ H s) (h:SqL X.K H a xs):∃ its:List Value,Vals xs its∧PlainL s.heap a its.toArray∧xs.length≤sizeLine:=by
  rcases h with h | ⟨o,its,n,hk,hc,hd,hs,hz,r⟩
  · obtain ⟨z,its,n,r,e⟩:=h.ok I.hok
    exact ⟨its,r,⟨_,n,e,rfl,rfl,rfl⟩,z⟩
  · refine ⟨its.toList,r,⟨o,n,I.kIn a o hk,hc,hd,by simpa using hs⟩,?_⟩
    have e:=r.length
    simp only [Array.length_toList] at e
    omega
theorem Inv.tuple (I:Inv X pins σ H s) (h:SqT X.K H a xs):∃ its:List Value,Vals xs its∧IsTup s.heap a its.toArray∧xs.length≤sizeLine:=by
  rcases h with h | ⟨o,its,n,hk,hc,hs,hz,r⟩
  · obtain ⟨z,its,r,p⟩:=h.ok I.hok
    exact ⟨its,r,p,z⟩
  · refine ⟨its.toList,r,⟨o,I.kIn a o hk,hc,n,by simpa using hs⟩,?_⟩
    have e:=r.length
    simp only [Array.length_toList] at e
    omega
theorem Inv.list_inj (I:Inv X pins σ H s) (h:SqL X.K H a xs) (h':SqL X.K H a ys):xs=ys:=by
  obtain ⟨its,r,⟨o,n,e,_,_,d⟩,_⟩:=I.list h
  obtain ⟨its',r',⟨o',n',e',_,_,d'⟩,_⟩:=I.list h'
  rw [e] at e'; cases e'
  rw [d] at d'
  injection d' with d1 _
  have:its=its':=by simpa using congrArg Array.toList d1
  subst this
  exact r.inj r'
end
abbrev Cx.wish (X:Cx) (E:Value→Shared→Prop):Cx:={ X with xe:=E }
abbrev Cx.nox (X:Cx):Cx:=X.wish fun _ _=>False
theorem Cx.Ok.wish {X:Cx} (ok:X.Ok) (E:Value→Shared→Prop):(X.wish E).Ok :=
  ⟨ok.mod,ok.kind,ok.glob,ok.blt,ok.above,ok.inj,ok.has,ok.cab,ok.hd,ok.frames,ok.stk,ok.exf,ok.bs,ok.bsz,ok.noex,ok.exfs,ok.funs,ok.frf⟩
theorem Cx.Ok.unwish {X:Cx} {E:Value→Shared→Prop} (ok:(X.wish E).Ok):X.Ok :=
  ⟨ok.mod,ok.kind,ok.glob,ok.blt,ok.above,ok.inj,ok.has,ok.cab,ok.hd,ok.frames,ok.stk,ok.exf,ok.bs,ok.bsz,ok.noex,ok.exfs,ok.funs,ok.frf⟩
section
variable {X:Cx} {pins:List (Addr×Obj)} {σ:St} {H:Hp} {s:Shared} {E:Value→Shared→Prop}
theorem Inv.wish (I:Inv X pins σ H s) (E:Value→Shared→Prop):Inv (X.wish E) pins σ H s:=⟨I.ok.wish E,I.os,I.bare,I.base,I.loc,I.cell,I.free,I.freeC,I.pin,I.hok,I.len⟩
theorem Inv.unwish (I:Inv (X.wish E) pins σ H s):Inv X pins σ H s:=⟨I.ok.unwish,I.os,I.bare,I.base,I.loc,I.cell,I.free,I.freeC,I.pin,I.hok,I.len⟩
theorem SP.unwish {D:Ends} {f:Flow} {s':Shared} (h:SP (X.wish E) pins D f s'):SP X pins D f s':=by
  cases f with
  | next=>obtain ⟨σ',H',I,q⟩:=h; exact ⟨σ',H',I.unwish,q⟩
  | brk=>obtain ⟨σ',H',I,q⟩:=h; exact ⟨σ',H',I.unwish,q⟩
  | cont=>obtain ⟨σ',H',I,q⟩:=h; exact ⟨σ',H',I.unwish,q⟩
  | ret u=>obtain ⟨v,σ',H',I,r,q⟩:=h; exact ⟨v,σ',H',I.unwish,r,q⟩
theorem PSs.nox {st:List Stmt} {t:TS} (h:PSs X.nox st t):PSs X st t:=fun pins s σ H D I hw =>
  wpAny_mono (h pins s σ H D (I.wish _) hw) (fun _ _ q=>q.unwish) fun _ _ z=>False.elim z
end
section
variable {X:Cx} {st:Stmt} {rest:List Stmt} {t u:TS} {e:Expr} {te:TE} {pos:Pos}
def tNext:TS:=fun D σ H=>D.nx σ H
def tSeq (t u:TS):TS:=fun D σ H=>t { D with nx:=u D } σ H
theorem pss_nil:PSs X [] tNext:=fun _ _ σ H _ I h=>wpAny_execs_nil ⟨σ,H,I,h⟩
theorem pss_cons (h1:PS X st t) (h2:PSs X rest u):PSs X (st::rest) (tSeq t u):=by
  intro pins s σ H D I h
  refine wpAny_execs_cons (thn (h1 pins s σ H { D with nx:=u D } I h) fun f s1 q=>?_)
  cases f with
  | next =>
    obtain ⟨σ',H',I',q⟩:=q
    exact h2 pins s1 σ' H' D I' q
  | ret v=>exact q
  | brk=>exact q
  | cont=>exact q
theorem pss_one (h1:PS X st t):PSs X [st] t:=by
  intro pins s σ H D I h
  refine wpAny_execs_cons (thn (h1 pins s σ H D I h) fun f s1 q=>?_)
  cases f with
  | next=>exact wpAny_execs_nil q
  | ret v=>exact q
  | brk=>exact q
  | cont=>exact q
theorem Inv.quiet {pins:List (Addr×Obj)} {σ:St} {H:Hp} {s:Shared} (I:Inv X pins σ H s):interactive X.env=false:=by simp [interactive,I.ok.kind]
def tDrop (te:TE):TS:=fun D σ H=>te σ H fun _ H1=>D.nx σ H1
theorem ps_expr (he:PE X e te) (hs:swapsWith e none pos.line X.env=pure false:=by rfl):PS X (.Expr e pos) (tDrop te):=by
  intro pins s σ H D I h
  exact wpAny_Expr_any (thn (he pins s σ H _ I h) fun v s1 ⟨x,H1,I1,r1,q1⟩=>⟨σ,H1,I1,q1⟩) I.quiet hs
def tRet (te:TE):TS:=fun D σ H=>te σ H D.rt
theorem ps_ret (he:PE X e te):PS X (.Return (some e) pos) (tRet te):=by
  intro pins s σ H D I h
  exact wpAny_Return_some (thn (he pins s σ H _ I h) fun v s1 ⟨x,H1,I1,r1,q1⟩=>⟨x,σ,H1,I1,r1,q1⟩)
def tIfS (c:TT) (t u:TS):TS:=fun D σ H=>c σ H fun b H1=>if b=true then t D σ H1 else u D σ H1
theorem ps_if {c:Expr} {a b:List Stmt} {tc:TT} (hc:PT X c tc) (ha:PSs X a t) (hb:PSs X b u):PS X (.If c a b pos) (tIfS tc t u):=by
  intro pins s σ H D I h
  refine wpAny_If (thn (hc pins s σ H _ I h) fun d s1 ⟨H1,I1,q1⟩=>?_)
  cases d with
  | true=>exact ha pins s1 σ H1 D I1 q1
  | false=>exact hb pins s1 σ H1 D I1 q1
end
abbrev TG:=V→St→Hp→(St→Hp→Prop)→Prop
abbrev TGs:=List V→St→Hp→(St→Hp→Prop)→Prop
def PG (X:Cx) (target:Expr) (t:TG):Prop :=
  ∀ (pins:List (Addr×Obj)) (s:Shared) (σ:St) (H:Hp) (v:V) (u:Value) (Q:St→Hp→Prop),Inv X pins σ H s→RelV v u→t v σ H Q →
    wpAny (model X.prog X.w) X.A (assign target X.env u) (fun _ s'=>∃ σ' H',Inv X pins σ' H' s'∧Q σ' H') X.xe s
def PGs (X:Cx) (ts:List Expr) (t:TGs):Prop :=
  ∀ (pins:List (Addr×Obj)) (s:Shared) (σ:St) (H:Hp) (vs:List V) (us:List Value) (Q:St→Hp→Prop),Inv X pins σ H s→Vals vs us→t vs σ H Q →
    wpAny (model X.prog X.w) X.A (assignInOrder ((assignEach ts X.env).map (·.2)) us) (fun _ s'=>∃ σ' H',Inv X pins σ' H' s'∧Q σ' H') X.xe s
abbrev TSet:=V→V→V→Hp→(Hp→Prop)→Prop
def PSet (X:Cx) (t:TSet):Prop :=
  ∀ (pins:List (Addr×Obj)) (s:Shared) (σ:St) (H:Hp) (o i v:V) (ov iv u:Value) (Q:Hp→Prop),Inv X pins σ H s→RelV o ov→RelV i iv→RelV v u→t o i v H Q →
    wpAny (model X.prog X.w) X.A (setItem ov iv u) (fun _ s'=>∃ H',Inv X pins σ H' s'∧Q H') X.xe s
abbrev TIp:=V→V→Hp→VK→Prop
def PIp (X:Cx) (op:Operator) (t:TIp):Prop :=
  ∀ (pins:List (Addr×Obj)) (s:Shared) (σ:St) (H:Hp) (x y:V) (v u:Value) (Q:VK),Inv X pins σ H s→RelV x v→RelV y u→t x y H Q →
    wpAny (model X.prog X.w) X.A (inplaceOp op v u) (EP X pins σ Q) X.xe s
section
variable {X:Cx} {pos:Pos}
def gName (i:Nat):TG:=fun v σ H Q=>Q (σ.set i (some v)) H
theorem pg_name {i:Nat} {x:Str} (hN:X.N.Nodup) (hi:X.N[i]?=some x) (hx:Loc X.env.scope x) (hf:X.fn x=true∨X.env.scope.names.lookup x=some .local:=by first | exact .inl rfl | exact .inr rfl | assumption):PG X (.Name x pos) (gName i):=by
  intro pins s σ H v u Q I r h
  exact wpAny_assign_Name (store_ok I hN hi hx r (fun s' I'=>⟨_,H,I',h⟩) hf)
def gNil:TGs:=fun vs σ H Q=>vs=[]∧Q σ H
def gCons (t:TG) (u:TGs):TGs:=fun vs σ H Q=>∃ v r,vs=v::r∧t v σ H fun σ' H'=>u r σ' H' Q
theorem pgs_nil:PGs X [] gNil:=by
  intro pins s σ H vs us Q I r h
  obtain ⟨e,h⟩:=h
  subst e
  cases r
  exact assignInOrder_nil ⟨σ,H,I,h⟩
theorem pgs_cons {e:Expr} {es:List Expr} {t:TG} {u:TGs} (h1:PG X e t) (h2:PGs X es u)
    (hs:(assignEach (e::es) X.env).map (·.2)=assign e X.env::(assignEach es X.env).map (·.2):=by rfl):PGs X (e::es) (gCons t u):=by
  intro pins s σ H vs us Q I r h
  obtain ⟨v,vr,e1,h⟩:=h
  subst e1
  cases r with
  | cons r rr =>
    rw [hs]
    refine assignInOrder_cons (thn (h1 pins s σ H _ _ _ I r h) fun _ s1 ⟨σ1,H1,I1,q1⟩=>?_)
    exact h2 pins s1 σ1 H1 _ _ Q I1 rr q1
def gTup (K:PySem.W.Frag) (n:Nat) (t:TGs):TG:=fun v σ H Q=>∃ a xs,v=.ref a∧SqT K H a xs∧xs.length=n∧t xs σ H Q
theorem pg_tup {es:List Expr} {k:Nat} {t:TGs} {n:Nat} (hc:X.calm=true) (h:PGs X es t)
    (hn:(assignEach es X.env).length=n:=by rfl) (hst:(assignEach es X.env).findIdx? (·.1)=none:=by rfl):PG X (.Tuple es k pos) (gTup X.K n t):=by
  intro pins s σ H v u Q I r hw
  obtain ⟨a,xs,e1,hq,hl,hw⟩:=hw
  subst e1
  cases r
  obtain ⟨its,rv,ht,hz⟩:=I.tuple hq
  refine assign_Tuple_tuple (I.ok.hd hc) ht (by simp [hn,← hl,rv.length]) hst fun h' hx=>?_
  have I1:Inv X pins σ H { s with heap:=h' }:=I.kept (t':=s.toks) fun b o e=>hx b o (Nat.ne_of_lt (Heap.lt_size e)) e
  exact h pins _ σ H xs _ Q I1 (by simpa using rv) hw
def gSub (to ti:TE) (t:TSet):TG:=fun v σ H Q=>to σ H fun o H1=>ti σ H1 fun i H2=>t o i v H2 fun H3=>Q σ H3
theorem pg_sub {o i:Expr} {to ti:TE} {t:TSet} (ho:PE X o to) (hi:PE X i ti) (hs:PSet X t)
    (ha:∀ v,assign (.Subscript o i pos) X.env v=(do
      let ov ← holding [v] (eval o X.env)
      let iv ← holding [v,ov] (eval i X.env)
      standAt pos
      holding [v,ov,iv] (setItem ov iv v)
      release [v,ov,iv] []):=by intro _; rfl):PG X (.Subscript o i pos) (gSub to ti t):=by
  intro pins s σ H v u Q I r h
  rw [ha]
  refine wpAny_bind (wpAny_holding (thn (ho pins s σ H _ I h) fun ov s1 ⟨x,H1,I1,r1,q1⟩=>?_))
  refine wpAny_bind (wpAny_holding (thn (hi pins s1 σ H1 _ I1 q1) fun iv s2 ⟨y,H2,I2,r2,q2⟩=>?_))
  refine wpAny_bind (wpAny_standAt (wpAny_bind (wpAny_holding (thn (hs pins s2 σ H2 x y v ov iv u _ I2 r1 r2 r q2) fun _ s3 ⟨H3,I3,q3⟩=>?_))))
  exact wpAny_release ⟨σ,H3,I3,q3⟩
def tAsg (te:TE) (g:TG):TS:=fun D σ H=>te σ H fun x H1=>g x σ H1 D.nx
theorem ps_asg {tg e:Expr} {te:TE} {g:TG} (he:PE X e te) (hg:PG X tg g) (hs:swapsWithSole [tg] e pos.line X.env=pure false:=by rfl) (hw:swappedStores [tg] e X.env=pure none:=by rfl)
    (h1:(assignEach [tg] X.env).map (·.2)=[assign tg X.env]:=by rfl):PS X (.Assign [tg] e pos) (tAsg te g):=by
  intro pins s σ H D I h
  refine wpAny_Assign_stores (thn (he pins s σ H _ I h) fun v s1 ⟨x,H1,I1,r1,q1⟩=>?_) hs hw
  rw [h1]
  exact thn (hg pins s1 σ H1 x v _ I1 r1 q1) fun _ s2 q=>q
theorem ps_set {i:Nat} {x:Str} {e:Expr} {te:TE} {pos':Pos} (hN:X.N.Nodup) (hi:X.N[i]?=some x) (hx:Loc X.env.scope x) (he:PE X e te) (hs:swapsWith e (some (.Name x pos')) pos.line X.env=pure false:=by rfl) (hf:X.fn x=true∨X.env.scope.names.lookup x=some .local:=by first | exact .inl rfl | exact .inr rfl | assumption) :
    PS X (.Assign [.Name x pos'] e pos) (tAsg te (gName i)):=by
  intro pins s σ H D I h
  refine wpAny_Assign_Name (thn (he pins s σ H _ I h) fun v s1 ⟨y,H1,I1,r1,q1⟩=>?_) hs
  exact store_ok I1 hN hi hx r1 (fun s2 I2=>⟨_,H1,I2,q1⟩) hf
def tAug (i:Nat) (te:TE) (ti:TIp):TS:=fun D σ H=>∃ x,σ[i]?=some (some x)∧te σ H fun y H1=>ti x y H1 fun z H2=>D.nx (σ.set i (some z)) H2
theorem ps_aug {i:Nat} {x:Str} {e:Expr} {te:TE} {op:Operator} {ti:TIp} {pos':Pos} (hN:X.N.Nodup) (hi:X.N[i]?=some x) (hx:Loc X.env.scope x) (he:PE X e te) (ho:PIp X op ti) (hf:X.fn x=true∨X.env.scope.names.lookup x=some .local:=by first | exact .inl rfl | exact .inr rfl | assumption) :
    PS X (.AugAssign (.Name x pos') op e pos) (tAug i te ti):=by
  intro pins s σ H D I h
  obtain ⟨v,e1,h⟩:=h
  obtain ⟨m,hn,hl⟩:=I.loc
  have vis:Vis X.env.scope x:=by rcases hx with k | k; exact .inl k; exact .inr (.inl k)
  obtain ⟨u,r,l⟩:=hl i x v hi e1 vis
  refine wpAny_AugAssign_Name ?_
  have go:wpAny (model X.prog X.w) X.A (eval e X.env) (fun w s₂=>wpAny (model X.prog X.w) X.A (inplaceOp op u w) (fun r s₃=>wpAny (model X.prog X.w) X.A (storeName X.env x r) (fun _=>SP X pins D .next) X.xe s₃) X.xe s₂) X.xe s:=by
    refine thn (he pins s σ H _ I h) fun w s1 ⟨y,H1,I1,r1,q1⟩=>?_
    refine thn (ho pins s1 σ H1 v y u w _ I1 r r1 q1) fun z s2 ⟨zv,H2,I2,r2,q2⟩=>?_
    exact store_ok I2 hN hi hx r2 (fun s3 I3=>⟨_,H2,I3,q2⟩) hf
  rcases l with ⟨hk,hm⟩ | ⟨hk,c,hc,hcell⟩
  · exact wpAny_loadName_local I.ok.kind hk hn hm go
  · rcases hk with hk | hk
    · exact wpAny_loadName_cell I.ok.kind hk hc hcell go
    · rcases hx with k | k
      · have:X.env.scope.names.lookup x=some .free:=hk
        rw [k] at this; cases this
      · have:X.env.scope.names.lookup x=some .free:=hk
        rw [k] at this; cases this
def tAugS (to ti te:TE) (tget:V→V→Hp→VK→Prop) (tip:TIp) (tset:TSet):TS:=fun D σ H=>to σ H fun o H1=>ti σ H1 fun i H2=>tget o i H2 fun x H3=>te σ H3 fun y H4=>tip x y H4 fun z H5=>tset o i z H5 fun H6=>D.nx σ H6
def PGet (X:Cx) (t:V→V→Hp→VK→Prop):Prop :=
  ∀ (pins:List (Addr×Obj)) (s:Shared) (σ:St) (H:Hp) (o i:V) (ov iv:Value) (Q:VK),Inv X pins σ H s→RelV o ov→RelV i iv→t o i H Q →
    wpAny (model X.prog X.w) X.A (getItem ov iv) (EP X pins σ Q) X.xe s
theorem ps_augS {o i e:Expr} {to ti te:TE} {tget:V→V→Hp→VK→Prop} {tip:TIp} {tset:TSet} {op:Operator} {tpos:Pos} (ho:PE X o to) (hi:PE X i ti) (hg:PGet X tget) (he:PE X e te) (hp:PIp X op tip) (hs:PSet X tset)
    (ha:∀ ov iv new,augStore i ov iv new=(do holding [new,ov,iv] (setItem ov iv new); release [new,ov,iv] []; pure .next):=by intros; rfl):PS X (.AugAssign (.Subscript o i tpos) op e pos) (tAugS to ti te tget tip tset):=by
  intro pins s σ H D I h
  refine wpAny_AugAssign_SubscriptAny (thn (ho pins s σ H _ I h) fun ov s1 ⟨x1,H1,I1,r1,q1⟩=>?_) ha
  refine thn (hi pins s1 σ H1 _ I1 q1) fun iv s2 ⟨x2,H2,I2,r2,q2⟩=>?_
  refine thn (hg pins s2 σ H2 x1 x2 ov iv _ I2 r1 r2 q2) fun old s3 ⟨x3,H3,I3,r3,q3⟩=>?_
  refine thn (he pins s3 σ H3 _ I3 q3) fun v s4 ⟨x4,H4,I4,r4,q4⟩=>?_
  refine thn (hp pins s4 σ H4 x3 x4 old v _ I4 r3 r4 q4) fun new s5 ⟨x5,H5,I5,r5,q5⟩=>?_
  exact thn (hs pins s5 σ H5 x1 x2 x5 ov iv new _ I5 r1 r2 r5 q5) fun _ s6 ⟨H6,I6,q6⟩=>⟨σ,H6,I6,q6⟩
def ipI (f:Int→Int→Int):TIp:=fun x y H Q=>∃ i j,x=.int i∧y=.int j∧Q (.int (f i j)) H
theorem ip_add:PIp X .Add (ipI fun i j=>i+j):=by
  intro pins s σ H x y v u Q I r1 r2 h
  obtain ⟨i,j,e1,e2,q⟩:=h
  subst e1; subst e2
  obtain ⟨t,rfl⟩:=r1
  obtain ⟨t',rfl⟩:=r2
  exact iadd_int ⟨.int _,H,I.tok _,⟨_,rfl⟩,q⟩
theorem ip_sub:PIp X .Sub (ipI fun i j=>i-j):=by
  intro pins s σ H x y v u Q I r1 r2 h
  obtain ⟨i,j,e1,e2,q⟩:=h
  subst e1; subst e2
  obtain ⟨t,rfl⟩:=r1
  obtain ⟨t',rfl⟩:=r2
  exact isub_int ⟨.int _,H,I.tok _,⟨_,rfl⟩,q⟩
end
section
variable {X:Cx} {pos:Pos}
def tWhile (c:TT) (tb:TS):TS:=fun D σ H=>∃ W:Nat→St→Hp→Prop,(∃ m,W m σ H)∧∀ m σ H,W m σ H →
  c σ H fun b H1=>if b=true then ∃ N:St→Hp→Prop,(∀ σ' H',N σ' H'→∃ m',m'<m∧W m' σ' H')∧tb { D with nx:=N,ct:=N,bk:=D.nx } σ H1 else D.nx σ H1
theorem ps_while {c:Expr} {body:List Stmt} {tc:TT} {tb:TS} (hp:PassesOwn (model X.prog X.w) X.A X.env X.xe) (hc:PT X c tc) (hb:PSs X body tb):PS X (.While c body [] pos) (tWhile tc tb):=by
  intro pins s σ H D I h
  obtain ⟨W,⟨m0,w0⟩,turn⟩:=h
  refine wpAny_While (codeAny_whileLoop (fun n s'=>∃ σ' H',Inv X pins σ' H' s'∧W n σ' H') ?_ m0 ⟨σ,H,I,w0⟩)
  rintro n s1 ⟨σ1,H1,I1,w1⟩
  refine wpAny_passesOwn hp (thn (hc pins s1 σ1 H1 _ I1 (turn n σ1 H1 w1)) fun b s2 ⟨H2,I2,q2⟩=>?_)
  cases b with
  | true =>
    obtain ⟨N,hN,q2⟩:=q2
    rw [if_pos rfl]
    refine wpAny_passesOwn hp (thn (hb pins s2 σ1 H2 _ I2 q2) fun f s3 q3=>?_)
    cases f with
    | next =>
      obtain ⟨σ3,H3,I3,n3⟩:=q3
      obtain ⟨m',hm,w3⟩:=hN σ3 H3 n3
      exact ⟨m',hm,σ3,H3,I3,w3⟩
    | cont =>
      obtain ⟨σ3,H3,I3,n3⟩:=q3
      obtain ⟨m',hm,w3⟩:=hN σ3 H3 n3
      exact ⟨m',hm,σ3,H3,I3,w3⟩
    | brk=>exact q3
    | ret v=>exact q3
  | false =>
    rw [if_neg Bool.false_ne_true]
    exact wpAny_execs_nil ⟨σ1,H2,I2,q2⟩
end
structure It where
  go:Nat→Hp→Prop
  yld:Nat→Hp→V→Hp→Prop
  stop:Nat→Hp→Prop
def FpOk (X:Cx) (pins:List (Addr×Obj)) (H:Hp) (b:Addr):Prop :=
  H b=none∧b≠X.env.locals∧b∉X.fs∧(b∈X.ex∨X.s₀.heap.objs.size≤b)∧(∀ x c,X.env.cells.lookup x=some c→c≠b)∧∀ p∈X.pn++pins,p.1≠b
theorem Inv.fpOk {X:Cx} {pins:List (Addr×Obj)} {σ:St} {H H':Hp} {s:Shared} {b:Addr} (I:Inv X pins σ H s) (hb:s.heap.objs.size≤b) (hn:H' b=none):FpOk X pins H' b:=by
  refine ⟨hn,Nat.ne_of_gt (Nat.lt_of_lt_of_le I.lt hb),I.nofs hb,.inr (Nat.le_trans I.sz hb),fun x c e z=>?_,fun p hp z=>?_⟩
  · obtain ⟨v,q⟩:=I.cell x c e
    exact absurd (Nat.lt_of_lt_of_le q.lt (by rw [z]; exact hb)) (Nat.lt_irrefl _)
  · exact absurd (Nat.lt_of_lt_of_le (Heap.lt_size (I.pin p hp).1) (by rw [z]; exact hb)) (Nat.lt_irrefl _)
structure Turn (P:Program) (w:World) (K:PySem.W.Frag) (tg:Expr) (J:It) (fp:List Addr) (it:Addr) (tn:Nat→Heap→Prop):Prop where
  mem:it∈fp
  obj:∀ i h,tn i h→∀ b∈fp,∃ o,h.get? b=some o∧∀ v,o.data≠.cell v
  keep:∀ i h h',tn i h→(∀ b∈fp,∀ o,h.get? b=some o→h'.get? b=some o)→tn i h'
  item:∀ (X:Cx),X.prog=P→X.w=w→X.K=K→X.calm=true→∀ (i:Nat) (pins:List (Addr×Obj)) (s:Shared) (σ:St) (H:Hp) (E:Value→Shared→Prop),Inv X pins σ H s→(∀ b∈fp,FpOk X pins H b)→tn i s.heap→J.go i H →
    wpAny (model P w) X.A (pyNext (.ref it)) (fun r s1=>∃ u,r=some u ∧
      wpAny (model P w) X.A (letOwnedTupleGo tg (.ref it) u) (fun _ s2=>∃ x H',Inv X pins σ H' s2∧RelV x u∧J.yld i H x H'∧tn (i+1) s2.heap∧∀ b∈fp,H' b=none) E s1) E s
  done:∀ (X:Cx),X.prog=P→X.w=w→X.K=K→X.calm=true→∀ (i:Nat) (pins:List (Addr×Obj)) (s:Shared) (σ:St) (H:Hp) (E:Value→Shared→Prop),Inv X pins σ H s→(∀ b∈fp,FpOk X pins H b)→tn i s.heap→J.stop i H →
    wpAny (model P w) X.A (pyNext (.ref it)) (fun r s1=>r=none∧Inv X pins σ H s1) E s
  self:∀ (A:Around) (i:Nat) (s:Shared) (Q:Value→Shared→Prop) (E:Value→Shared→Prop),tn i s.heap→Q (.ref it) s→wpAny (model P w) A (pyIter (.ref it)) Q E s
abbrev TI:=St→Hp→(It→Hp→Prop)→Prop
def PIE (X:Cx) (pins:List (Addr×Obj)) (σ:St) (tg:Expr) (R:It→Hp→Prop) (itv:Value) (s2:Shared):Prop :=
  ∃ (it:Addr) (fp:List Addr) (tn:Nat→Heap→Prop) (J:It) (H':Hp),itv=.ref it∧Inv X pins σ H' s2∧Turn X.prog X.w X.K tg J fp it tn∧tn 0 s2.heap∧(∀ b∈fp,FpOk X pins H' b)∧R J H'
def PI (X:Cx) (tg iter:Expr) (wi:TI):Prop :=
  ∀ (pins:List (Addr×Obj)) (s:Shared) (σ:St) (H:Hp) (R:It→Hp→Prop),Inv X pins σ H s→wi σ H R →
    wpAny (model X.prog X.w) X.A (eval iter X.env) (fun v s1=>wpAny (model X.prog X.w) X.A (pyIter v) (PIE X pins σ tg R) X.xe s1) X.xe s
theorem go_of {M:Model} {A:Around} {E:Value→Shared→Prop} {s:Shared} {tg:Expr} {it:Addr} {u:Value} {o:Obj} {n:String} {vs:Array Value} {Q:Unit→Shared→Prop} (ho:s.heap.get? it=some o) (hc:o.cls=.type n) (hd:o.data=.fields vs)
    (hn:["enumerate", "zip", "dict_itemiterator", "dict_reverseitemiterator", "odict_iterator", "itertools.zip_longest", "itertools.pairwise"].contains n=false) (hQ:Q () s):wpAny M A (letOwnedTupleGo tg (.ref it) u) Q E s:=by
  unfold letOwnedTupleGo
  cases tg <;> first
    | exact wpAny_pure hQ
    | (cases u <;> first
        | exact wpAny_pure hQ
        | (refine wpAny_bind (wpAny_load ho ?_)
           rw [hc,hd]
           show wpAny M A (if (["enumerate", "zip", "dict_itemiterator", "dict_reverseitemiterator", "odict_iterator", "itertools.zip_longest", "itertools.pairwise"].contains n&&vs[0]?==some (rawInt _))=true then _ else _) Q E s
           rw [if_neg (by intro h; rw [hn,Bool.false_and] at h; cases h)]
           exact wpAny_pure hQ))
def Itl (K:PySem.W.Frag) (a:Addr):It :=
  ⟨fun i H=>∃ xs x,SqL K H a xs∧xs[i]?=some x,fun i H x H'=>H'=H∧∀ xs,SqL K H a xs→xs[i]?=some x,fun i H=>∃ xs,SqL K H a xs∧xs.length≤i⟩
def Itr (lo:Int) (n:Nat):It:=⟨fun i _=>i<n,fun i H x H'=>H'=H∧x=.int (lo+i),fun i _=>n≤i⟩
theorem turn_list {P:Program} {w:World} {K:PySem.W.Frag} {tg:Expr} (a it:Addr):Turn P w K tg (Itl K a) [it] it (fun i h=>h.IsListIter it a i) where
  mem:=by simp
  obj:=fun i h st b hb=>by
    have e:b=it:=by simpa using hb
    subst e
    obtain ⟨o,e,c,d⟩:=st
    exact ⟨o,e,fun v z=>by rw [d] at z; cases z⟩
  keep:=fun i h h' st k=>st.at fun o e=>k it (by simp) o e
  item:=by
    intro X hP hw hK hc i pins s σ H E I hf st hg
    subst hP hw hK
    obtain ⟨xs,x,hq,hx⟩:=hg
    obtain ⟨its,rv,p,hz⟩:=I.list hq
    obtain ⟨u,hu,ru⟩:=rv.get hx
    obtain ⟨f0,f1,f2,f3,f4,f5⟩:=hf it (by simp)
    refine wpAny_pyNext_list_item st p.isList (x:=u) (by simpa using hu) fun h' st' sb=>?_
    have I1:Inv X pins σ H { s with heap:=h' }:=I.turned (t':=s.toks) (fun b o hb e=>(sb.2 b hb).trans e) f0 f1 f3 f4 f5
    obtain ⟨o,e,c,d⟩:=id st'
    exact ⟨u,rfl,go_of (s:={ s with heap:=h' }) e c d (by decide) ⟨x,H,I1,ru,⟨rfl,fun ys hy=>by rw [I.list_inj hy hq]; exact hx⟩,st',fun b hb=>(hf b hb).1⟩⟩
  done:=by
    intro X hP hw hK hc i pins s σ H E I hf st hg
    subst hP hw hK
    obtain ⟨xs,hq,hx⟩:=hg
    obtain ⟨its,rv,p,hz⟩:=I.list hq
    obtain ⟨f0,f1,f2,f3,f4,f5⟩:=hf it (by simp)
    have hl:=rv.length
    exact wpAny_pyNext_list_end (I.ok.hd hc) st p.isList (by simp; omega) fun h' eb=>⟨rfl,I.turned (t':=s.toks) (fun b o hb e=>eb b o hb e) f0 f1 f3 f4 f5⟩
  self:=fun _ _ _ _ _ st h=>wpAny_pyIter_listiter st h
theorem turn_range {P:Program} {w:World} {K:PySem.W.Frag} {tg:Expr} (it:Addr) (lo:Int) (n:Nat):Turn P w K tg (Itr lo n) [it] it (fun i h=>IsRangeIter h it (lo+(i:Nat)*1) ((n:Int)-(i:Nat)) 1) where
  mem:=by simp
  obj:=fun i h st b hb=>by
    have e:b=it:=by simpa using hb
    subst e
    exact ⟨_,st,fun v z=>by
      have z':Data.fields _=Data.cell v:=z
      cases z'⟩
  keep:=fun i h h' st k=>k it (by simp) _ st
  item:=by
    intro X hP hw hK hc i pins s σ H E I hf st hg
    subst hP hw hK
    obtain ⟨f0,f1,f2,f3,f4,f5⟩:=hf it (by simp)
    have W:=Walks.range (prog:=X.prog) (w:=X.w) (I.ok.hd hc) it lo 1 n
    refine W.item i s _ _ hg st fun v h' tk hv st' kk=>?_
    obtain ⟨t,rfl⟩:=hv
    have I1:Inv X pins σ H { s with heap:=h',toks:=tk }:=I.turned (fun b o hb e=>kk b o (by simpa using hb) e) f0 f1 f3 f4 f5
    refine ⟨_,rfl,go_of (s:={ s with heap:=h',toks:=tk }) (n := "range_iterator") st' rfl rfl (by decide) ⟨.int (lo+i),H,I1,⟨t,?_⟩,⟨rfl,rfl⟩,st',fun b hb=>(hf b hb).1⟩⟩
    rw [Int.mul_one]
  done:=by
    intro X hP hw hK hc i pins s σ H E I hf st hg
    subst hP hw hK
    obtain ⟨f0,f1,f2,f3,f4,f5⟩:=hf it (by simp)
    exact wpAny_pyNext_range_end (I.ok.hd hc) st (by have:n≤i:=hg; omega) fun h' eb=>⟨rfl,I.turned (t':=s.toks) (fun b o hb e=>eb b o hb e) f0 f1 f3 f4 f5⟩
  self:=fun _ _ _ _ _ st h=>wpAny_pyIter_rangeiter st h
end L2
namespace L2
open PySem PySem.Spec PyProof.Rows
section
variable {X:Cx} {tg:Expr}
def iList (K:PySem.W.Frag) (tl:TE):TI:=fun σ H R=>tl σ H fun x H1=>∃ a,x=.ref a∧(∃ xs,SqL K H1 a xs)∧R (Itl K a) H1
theorem pi_list {l:Expr} {tl:TE} (hl:PE X l tl):PI X tg l (iList X.K tl):=by
  intro pins s σ H R I h
  refine thn (hl pins s σ H _ I h) fun v s1 ⟨x,H1,I1,r1,q1⟩=>?_
  obtain ⟨a,e,⟨xs,hq⟩,q⟩:=q1
  subst e
  cases r1
  obtain ⟨its,rv,p,hz⟩:=I1.list hq
  refine wpAny_pyIter_list p.isList ?_
  refine ⟨s1.heap.objs.size,[s1.heap.objs.size],_,_,H1,rfl,I1.kept (t':=s1.toks) fun b o e=>Heap.get?_push_of_some _ e,turn_list a _,⟨_,Heap.get?_push_size _ rfl,rfl,rfl⟩,fun b hb=>?_,q⟩
  have e:b=s1.heap.objs.size:=by simpa using hb
  subst e
  exact I1.fpOk (Nat.le_refl _) (I1.hok.fresh (Nat.le_refl _))
theorem range_it {pins:List (Addr×Obj)} {σ:St} {H:Hp} {s:Shared} {R:It→Hp→Prop} {E:Value→Shared→Prop} {lo hi:Int} {t u v:Tok} {tk:Nat} (I:Inv X pins σ H s) (h1:-(2 ^ 62)≤lo) (h2:lo<2 ^ 62) (h3:-(2 ^ 62)≤hi) (h4:hi<2 ^ 62)
    (q:R (Itr lo (hi-lo).toNat) H):wpAny (model X.prog X.w) X.A (pyIter (.ref s.heap.objs.size)) (PIE X pins σ tg R) E { s with heap:=s.heap.push { cls:=.type "range", data:=.fields #[.int lo t,.int hi u,.int 1 v] },toks:=tk }:=by
  refine wpAny_pyIter_range (IsRange.new ..) (small_one h1 h2 h3 h4) ?_
  have I1:Inv X pins σ H { s with heap:=s.heap.push { cls:=.type "range", data:=.fields #[.int lo t,.int hi u,.int 1 v] },toks:=tk }:=I.kept fun b o e=>Heap.get?_push_of_some _ e
  refine ⟨(s.heap.push { cls:=.type "range", data:=.fields #[.int lo t,.int hi u,.int 1 v] }).objs.size,[(s.heap.push { cls:=.type "range", data:=.fields #[.int lo t,.int hi u,.int 1 v] }).objs.size],_,_,H,rfl,
    I1.kept (t':=tk) fun b o e=>Heap.get?_push_of_some _ e,turn_range _ lo (hi-lo).toNat,?_,fun b hb=>?_,q⟩
  · have e1:lo+((0:Nat):Int)*1=lo:=by simp
    have e2:(((hi-lo).toNat:Nat):Int)-((0:Nat):Int)=Builtin.Range.rangeSize lo hi 1:=by rw [rangeSize_one]; split <;> omega
    show IsRangeIter _ _ (lo+((0:Nat):Int)*1) ((((hi-lo).toNat:Nat):Int)-((0:Nat):Int)) 1
    rw [e1,e2]
    exact Heap.get?_push_size _ rfl
  · have e:b=(s.heap.push { cls:=.type "range", data:=.fields #[.int lo t,.int hi u,.int 1 v] }).objs.size:=by simpa using hb
    subst e
    exact I1.fpOk (Nat.le_refl _) (I1.hok.fresh (Nat.le_refl _))
def iRng1 (ta:TA):TI:=fun σ H R=>ta σ H fun vs H1=>∃ j:Int,vs=[.int j]∧-(2 ^ 62)≤j∧j<2 ^ 62∧R (Itr 0 j.toNat) H1
def iRng2 (ta:TA):TI:=fun σ H R=>ta σ H fun vs H1=>∃ i j:Int,vs=[.int i,.int j]∧(-(2 ^ 62)≤i∧i<2 ^ 62∧-(2 ^ 62)≤j∧j<2 ^ 62)∧R (Itr i (j-i).toNat) H1
theorem pi_range1 {a:Expr} {ta:TA} {p pos:Pos} (hg:Gl X "range") (hm:X.mg "range" = none) (ha:PA X [a] ta) (hs:starEach [a] X.env=[(false,eval a X.env)]:=by rfl):PI X tg (.Call (.Name "range" p) [a] [] pos) (iRng1 ta):=by
  intro pins s σ H R I h
  refine Call_ (ld_blt I hg hm boot_range (PyProof.Rows.callWith_type1 (thn (ha pos pins s σ H _ I h) fun us s1 ⟨vs,H1,I1,r1,q1⟩=>?_) hs rfl))
  obtain ⟨j,e,q1,q2,q⟩:=q1
  subst e
  cases r1 with
  | cons r rr =>
    cases rr
    obtain ⟨t,rfl⟩:=r
    exact call_range_1 (range_it I1 (by omega) (by omega) q1 q2 (by simpa using q))
theorem pi_range2 {a b:Expr} {ta:TA} {p pos:Pos} (hg:Gl X "range") (hm:X.mg "range" = none) (ha:PA X [a,b] ta) (hs:starEach [a,b] X.env=[(false,eval a X.env),(false,eval b X.env)]:=by rfl) (hs2:starEach [b] X.env=[(false,eval b X.env)]:=by rfl) :
    PI X tg (.Call (.Name "range" p) [a,b] [] pos) (iRng2 ta):=by
  intro pins s σ H R I h
  refine Call_ (ld_blt I hg hm boot_range (PyProof.Rows.callWith_type1 (thn (ha pos pins s σ H _ I h) fun us s1 ⟨vs,H1,I1,r1,q1⟩=>?_) (by rw [hs,hs2]) (by rw [hs2]; rfl)))
  obtain ⟨i,j,e,⟨q1,q2,q3,q4⟩,q⟩:=q1
  subst e
  cases r1 with
  | cons r rr =>
    cases rr with
    | cons r' rr =>
      cases rr
      obtain ⟨t,rfl⟩:=r
      obtain ⟨t',rfl⟩:=r'
      exact call_range_2 (range_it I1 q1 q2 q3 q4 q)
def tFor (wi:TI) (g:TG) (tb:TS):TS:=fun D σ H=>wi σ H fun J H1=>∃ W:Nat→Nat→St→Hp→Prop,(∃ m,W 0 m σ H1)∧∀ i m σ H,W i m σ H →
  (J.stop i H∧D.nx σ H)∨(J.go i H∧∃ N:St→Hp→Prop,(∀ σ' H',N σ' H'→∃ m',m'<m∧W (i+1) m' σ' H')∧∀ x H',J.yld i H x H'→g x σ H' fun σ2 H2=>tb { D with nx:=N,ct:=N,bk:=D.nx } σ2 H2)
def pinsAt (fp:List Addr) (h:Heap):List (Addr×Obj):=fp.filterMap fun b=>(h.get? b).map fun o=>(b,o)
theorem mem_pinsAt {fp:List Addr} {h:Heap} {b:Addr} {o:Obj} (hb:b∈fp) (e:h.get? b=some o):(b,o)∈pinsAt fp h:=List.mem_filterMap.mpr ⟨b,hb,by rw [e]; rfl⟩
theorem of_pinsAt {fp:List Addr} {h:Heap} {p:Addr×Obj} (hp:p∈pinsAt fp h):p.1∈fp∧h.get? p.1=some p.2:=by
  obtain ⟨b,hb,e⟩:=List.mem_filterMap.mp hp
  cases q:h.get? b with
  | none=>rw [q] at e; cases e
  | some o =>
    rw [q] at e
    have e':(b,o)=p:=Option.some.inj e
    subst e'
    exact ⟨hb,q⟩
theorem Inv.pinned {pins:List (Addr×Obj)} {σ:St} {H:Hp} {s:Shared} {fp:List Addr} (I:Inv X pins σ H s) (hf:∀ b∈fp,FpOk X pins H b) (ho:∀ b∈fp,∃ o,s.heap.get? b=some o∧∀ v,o.data≠.cell v):Inv X (pins++pinsAt fp s.heap) σ H s :=
  I.pins_of fun p hp=>(List.mem_append.mp hp).elim (fun z=>I.pin p (List.mem_append_right _ z)) fun z=>by
    obtain ⟨hb,e⟩:=of_pinsAt z
    obtain ⟨f0,f1,f2,_⟩:=hf p.1 hb
    obtain ⟨o,e',d⟩:=ho p.1 hb
    rw [e] at e'; cases e'
    exact ⟨e,f0,f1,f2,d⟩
theorem Inv.unpinned {pins pl:List (Addr×Obj)} {σ:St} {H:Hp} {s:Shared} (I:Inv X (pins++pl) σ H s):Inv X pins σ H s:=I.pins_of fun p hp=>I.pin p (List.mem_append_right _ (List.mem_append_left _ hp))
theorem ps_for {iter:Expr} {body:List Stmt} {wi:TI} {g:TG} {tb:TS} {pos:Pos} (hp:PassesOwn (model X.prog X.w) X.A X.env X.xe) (hc:X.calm=true) (hi:PI X tg iter wi) (hg:PG X tg g) (hb:PSs X body tb)
    (hs:∀ x,foldedSetIterable iter X.env x=pure x:=by intro _; rfl):PS X (.For tg iter body [] pos) (tFor wi g tb):=by
  intro pins s σ H D I h
  refine wpAny_For (thn (hi pins s σ H _ I h) fun v s1 h1=>thn h1 fun itv s2 h2=>?_) hs
  obtain ⟨it,fp,tn,J,H2,e,I2,T,st2,f2,W,⟨m0,w0⟩,turn⟩:=h2
  subst e
  have stat:∀ {H':Hp},(∀ b∈fp,H' b=none)→∀ b∈fp,FpOk X pins H' b:=fun hn b hb=>⟨hn b hb,(f2 b hb).2⟩
  refine codeAny_forLoop_any (fun n s'=>∃ i σ' H',Inv X pins σ' H' s'∧tn i s'.heap∧(∀ b∈fp,H' b=none)∧W i n σ' H') ?_ m0 ⟨0,σ,H2,I2,st2,fun b hb=>(f2 b hb).1,w0⟩
  rintro n s3 ⟨i,σ3,H3,I3,st3,fr3,w3⟩
  rcases turn i n σ3 H3 w3 with ⟨stop,qn⟩ | ⟨go,N,hN,step⟩
  · refine wpAny_passesOwn hp (thn (T.done X rfl rfl rfl hc i pins s3 σ3 H3 X.xe I3 (stat fr3) st3 stop) fun r s4 ⟨hr,I4⟩=>?_)
    subst hr
    exact wpAny_execs_nil ⟨σ3,H3,I4,qn⟩
  · refine wpAny_passesOwn hp (thn (T.item X rfl rfl rfl hc i pins s3 σ3 H3 X.xe I3 (stat fr3) st3 go) fun r s4 ⟨u,hr,h4⟩=>?_)
    subst hr
    refine wpAny_passesOwn hp (thn h4 fun _ s5 ⟨x,H5,I5,r5,y5,st5,fr5⟩=>?_)
    have I5':=I5.pinned (stat fr5) (T.obj _ _ st5)
    refine wpAny_passesOwn hp (thn (hg _ s5 σ3 H5 x u _ I5' r5 (step x H5 y5)) fun _ s6 ⟨σ6,H6,I6,q6⟩=>?_)
    refine wpAny_passesOwn hp (thn (hb _ s6 σ6 H6 _ I6 q6) fun f s7 q7=>?_)
    have again:∀ {σ7:St} {H7:Hp},Inv X (pins++pinsAt fp s5.heap) σ7 H7 s7→N σ7 H7→∃ m,m<n∧∃ i σ' H',Inv X pins σ' H' s7∧tn i s7.heap∧(∀ b∈fp,H' b=none)∧W i m σ' H':=fun {σ7 H7} I7 n7=>by
      obtain ⟨m',hm,w7⟩:=hN σ7 H7 n7
      refine ⟨m',hm,i+1,σ7,H7,I7.unpinned,T.keep _ _ _ st5 fun b hb o e=>(I7.pin (b,o) (List.mem_append_right _ (List.mem_append_right _ (mem_pinsAt hb e)))).1,fun b hb=>?_,w7⟩
      obtain ⟨o,e,d⟩:=T.obj _ _ st5 b hb
      exact (I7.pin (b,o) (List.mem_append_right _ (List.mem_append_right _ (mem_pinsAt hb e)))).2.1
    cases f with
    | next=>obtain ⟨σ7,H7,I7,n7⟩:=q7; exact again I7 n7
    | cont=>obtain ⟨σ7,H7,I7,n7⟩:=q7; exact again I7 n7
    | brk=>obtain ⟨σ7,H7,I7,q7⟩:=q7; exact ⟨σ7,H7,I7.unpinned,q7⟩
    | ret v=>obtain ⟨x7,σ7,H7,I7,r7,q7⟩:=q7; exact ⟨x7,σ7,H7,I7.unpinned,r7,q7⟩
end
end L2
namespace L2
open PySem PySem.Spec PyProof.Rows
abbrev R2:=V→V→Hp→VK→Prop
def OpR (X:Cx) (f:Value→Value→Sem Value) (r:R2):Prop :=
  ∀ (pins:List (Addr×Obj)) (s:Shared) (σ:St) (H:Hp) (x y:V) (v u:Value) (Q:VK),Inv X pins σ H s→RelV x v→RelV y u→r x y H Q →
    wpAny (model X.prog X.w) X.A (f v u) (EP X pins σ Q) X.xe s
def UnR (X:Cx) (f:Value→Sem Value) (r:V→Hp→VK→Prop):Prop :=
  ∀ (pins:List (Addr×Obj)) (s:Shared) (σ:St) (H:Hp) (x:V) (v:Value) (Q:VK),Inv X pins σ H s→RelV x v→r x H Q →
    wpAny (model X.prog X.w) X.A (f v) (EP X pins σ Q) X.xe s
def CallR (X:Cx) (f:Value) (r:List V→Hp→VK→Prop):Prop :=
  ∀ (pins:List (Addr×Obj)) (s:Shared) (σ:St) (H:Hp) (xs:List V) (us:List Value) (Q:VK),Inv X pins σ H s→Vals xs us→r xs H Q →
    wpAny (model X.prog X.w) X.A (call f us) (EP X pins σ Q) X.xe s
def TruR (X:Cx) (r:V→Hp→(Bool→Hp→Prop)→Prop):Prop :=
  ∀ (pins:List (Addr×Obj)) (s:Shared) (σ:St) (H:Hp) (x:V) (v:Value) (Q:Bool→Hp→Prop),Inv X pins σ H s→RelV x v→r x H Q →
    wpAny (model X.prog X.w) X.A (truthy v) (TP X pins σ Q) X.xe s
def tOp (r:R2) (ta tb:TE):TE:=fun σ H Q=>ta σ H fun x H1=>tb σ H1 fun y H2=>r x y H2 Q
def tUn (r:V→Hp→VK→Prop) (ta:TE):TE:=fun σ H Q=>ta σ H fun x H1=>r x H1 Q
def rI (C:Int→Int→Prop) (g:Int→Int→V):R2:=fun x y H Q=>∃ i j,x=.int i∧y=.int j∧C i j∧Q (g i j) H
def rI0 (g:Int→Int→V):R2:=fun x y H Q=>∃ i j,x=.int i∧y=.int j∧Q (g i j) H
def rU (g:Int→V):V→Hp→VK→Prop:=fun x H Q=>∃ i,x=.int i∧Q (g i) H
section
variable {X:Cx} {a b c:Expr} {ta tb tc:TE} {pos:Pos}
theorem binT (ha:PE X a ta) (hb:PE X b tb) {pins:List (Addr×Obj)} {s:Shared} {σ:St} {H:Hp} {R:V→V→Hp→Prop} (I:Inv X pins σ H s)
    (h:ta σ H fun x H1=>tb σ H1 fun y H2=>R x y H2) {Q:Value→Shared→Prop} {f:Value→Value→Sem Value}
    (hf:∀ v u s2 x y H2,Inv X pins σ H2 s2→RelV x v→RelV y u→R x y H2→wpAny (model X.prog X.w) X.A (f v u) Q X.xe s2) :
    wpAny (model X.prog X.w) X.A (eval a X.env) (fun v s₁=>wpAny (model X.prog X.w) X.A (eval b X.env) (fun u s₂=>wpAny (model X.prog X.w) X.A (f v u) Q X.xe s₂) X.xe s₁) X.xe s:=by
  refine thn (ha pins s σ H _ I h) fun v s1 ⟨x,H1,I1,r1,q1⟩=>?_
  refine thn (hb pins s1 σ H1 _ I1 q1) fun u s2 ⟨y,H2,I2,r2,q2⟩=>?_
  exact hf v u s2 x y H2 I2 r1 r2 q2
theorem pe_op {op:Operator} {r:R2} (ho:OpR X (binaryOp op) r) (ha:PE X a ta) (hb:PE X b tb):PE X (.BinOp a op b pos) (tOp r ta tb):=by
  intro pins s σ H Q I h
  exact wpAny_BinOp (binT ha hb I h fun v u s2 x y H2 I2 rx ry q=>ho pins s2 σ H2 x y v u Q I2 rx ry q)
theorem pe_un {op:UnaryOp} {r:V→Hp→VK→Prop} (ho:UnR X (unaryOp op) r) (ha:PE X a ta):PE X (.UnaryOp op a pos) (tUn r ta):=by
  intro pins s σ H Q I h
  exact UnaryOp_ (thn (ha pins s σ H _ I h) fun v s1 ⟨x,H1,I1,r1,q1⟩=>ho pins s1 σ H1 x v Q I1 r1 q1)
theorem opI {f:Value→Value→Sem Value} {C:Int→Int→Prop} {g:Int→Int→Int}
    (rule:∀ (i j:Int) (t u:Tok) (s:Shared) (Q:Value→Shared→Prop) (E:Value→Shared→Prop),C i j→Q (.int (g i j) s.toks) { s with toks:=s.toks+1 }→wpAny (model X.prog X.w) X.A (f (.int i t) (.int j u)) Q E s) :
    OpR X f (rI C fun i j=>.int (g i j)):=by
  intro pins s σ H x y v u Q I rx ry h
  obtain ⟨i,j,rfl,rfl,hc,q⟩:=h
  obtain ⟨t,rfl⟩:=rx
  obtain ⟨t',rfl⟩:=ry
  exact rule i j t t' s _ _ hc ⟨.int (g i j),H,I.tok _,⟨_,rfl⟩,q⟩
theorem opI0 {f:Value→Value→Sem Value} {g:Int→Int→Int}
    (rule:∀ (i j:Int) (t u:Tok) (s:Shared) (Q:Value→Shared→Prop) (E:Value→Shared→Prop),Q (.int (g i j) s.toks) { s with toks:=s.toks+1 }→wpAny (model X.prog X.w) X.A (f (.int i t) (.int j u)) Q E s) :
    OpR X f (rI0 fun i j=>.int (g i j)):=by
  intro pins s σ H x y v u Q I rx ry h
  obtain ⟨i,j,rfl,rfl,q⟩:=h
  obtain ⟨t,rfl⟩:=rx
  obtain ⟨t',rfl⟩:=ry
  exact rule i j t t' s _ _ ⟨.int (g i j),H,I.tok _,⟨_,rfl⟩,q⟩
theorem opB0 {f:Value→Value→Sem Value} {g:Int→Int→Bool}
    (rule:∀ (i j:Int) (t u:Tok) (s:Shared) (Q:Value→Shared→Prop) (E:Value→Shared→Prop),Q (.bool (g i j)) s→wpAny (model X.prog X.w) X.A (f (.int i t) (.int j u)) Q E s) :
    OpR X f (rI0 fun i j=>.bl (g i j)):=by
  intro pins s σ H x y v u Q I rx ry h
  obtain ⟨i,j,rfl,rfl,q⟩:=h
  obtain ⟨t,rfl⟩:=rx
  obtain ⟨t',rfl⟩:=ry
  exact rule i j t t' s _ _ ⟨.bl (g i j),H,I,rfl,q⟩
def CPow (i j:Int):Prop:=0≤j∧j≤1000000∧i.natAbs<2 ^ 64
def CMul (i j:Int):Prop:=(-(2 ^ 64)<i∧i<2 ^ 64)∨(-(2 ^ 64)<j∧j<2 ^ 64)
theorem CMul.ok {i j:Int} (h:CMul i j):IntMulOk i j:=by
  rcases h with ⟨h1,h2⟩ | ⟨h1,h2⟩
  · exact .of_left (intBits_le_64 h1 h2)
  · exact .of_right (intBits_le_64 h1 h2)
theorem op_add:OpR X (binaryOp .Add) (rI0 fun i j=>.int (i+j)):=opI0 fun _ _ _ _ _ _ _ q=>add_int q
theorem op_sub:OpR X (binaryOp .Sub) (rI0 fun i j=>.int (i-j)):=opI0 fun _ _ _ _ _ _ _ q=>sub_int q
theorem op_mod:OpR X (binaryOp .Mod) (rI (fun _ j=>0<j) fun i j=>.int (i % j)):=opI fun i j _ _ _ _ _ hc q=>by
  have h1:(0:Int)<j:=hc
  exact mod_int' (by omega) (by rw [Int.fmod_eq_emod_of_nonneg i (by omega)]; exact q)
theorem op_pow:OpR X (binaryOp .Pow) (rI CPow fun i j=>.int (i ^ j.toNat)):=opI fun _ _ _ _ _ _ _ hc q=>pow_int_small hc.1 hc.2.1 hc.2.2 q
theorem unI {f:Value→Sem Value} {g:Int→Int}
    (rule:∀ (i:Int) (t:Tok) (s:Shared) (Q:Value→Shared→Prop) (E:Value→Shared→Prop),Q (.int (g i) s.toks) { s with toks:=s.toks+1 }→wpAny (model X.prog X.w) X.A (f (.int i t)) Q E s) :
    UnR X f (rU fun i=>.int (g i)):=by
  intro pins s σ H x v Q I rx h
  obtain ⟨i,rfl,q⟩:=h
  obtain ⟨t,rfl⟩:=rx
  exact rule i t s _ _ ⟨.int (g i),H,I.tok _,⟨_,rfl⟩,q⟩
theorem un_neg:UnR X (unaryOp .USub) (rU fun i=>.int (-i)):=unI fun _ _ _ _ _ q=>neg_int q
end
def scal:V→V→Bool
  | .non,.non=>true | .non,.int _=>true | .int _,.non=>true | .non,.bl _=>true | .bl _,.non=>true | .non,.str _=>true | .str _,.non=>true
  | .int _,.int _=>true | .bl _,.bl _=>true | .str _,.str _=>true | .byt _,.byt _=>true
  | .int _,.str _=>true | .str _,.int _=>true | .bl _,.str _=>true | .str _,.bl _=>true
  | _,_=>false
def rEq:R2:=fun x y H Q=>scal x y=true∧Q (.bl (decide (x=y))) H
def rNe:R2:=fun x y H Q=>scal x y=true∧Q (.bl (!decide (x=y))) H
theorem dec_int {i j:Int}:decide (V.int i=V.int j)=(i==j):=by
  rw [Bool.eq_iff_iff]
  simp
theorem dec_bl {i j:Bool}:decide (V.bl i=V.bl j)=(i==j):=by
  rw [Bool.eq_iff_iff]
  simp
theorem dec_str {i j:Str}:decide (V.str i=V.str j)=(i==j):=by
  rw [Bool.eq_iff_iff]
  simp
theorem dec_byt {i j:Array UInt8}:decide (V.byt i=V.byt j)=(i.toList==j.toList):=by
  rw [Bool.eq_iff_iff]
  cases i
  cases j
  simp
section
variable {X:Cx} {a b c:Expr} {ta tb tc:TE} {pos:Pos}
theorem fin_bl {pins:List (Addr×Obj)} {σ:St} {H:Hp} {s:Shared} {Q:VK} {k k':Bool} (I:Inv X pins σ H s) (q:Q (.bl k) H) (e:k=k'):EP X pins σ Q (.bool k') s:=by
  subst e
  exact ⟨.bl k,H,I,rfl,q⟩
theorem op_eq:OpR X (compareOp .Eq) rEq:=by
  intro pins s σ H x y v u Q I rx ry h
  obtain ⟨hs,q⟩:=h
  cases x with
  | non =>
    cases rx
    cases y with
    | non=>cases ry; exact PySem.EqNone.eq_none_none (fin_bl I q (by simp))
    | bl j=>cases ry; exact PySem.EqNone.eq_none_bool (fin_bl I q (by simp))
    | int j=>obtain ⟨t',rfl⟩:=ry; exact PySem.EqNone.eq_none_int (fin_bl I q (by simp))
    | str j=>obtain ⟨t',rfl⟩:=ry; exact PySem.EqNone.eq_none_str (fin_bl I q (by simp))
    | _=>exact absurd (show false=true from hs) Bool.false_ne_true
  | bl i =>
    cases rx
    cases y with
    | non=>cases ry; exact PySem.EqNone.eq_bool_none (fin_bl I q (by simp))
    | bl j=>cases ry; exact eq_bool (fin_bl I q dec_bl)
    | str j=>obtain ⟨t',rfl⟩:=ry; exact PySem.EqMixed.eq_bool_str (fin_bl I q (by simp))
    | _=>exact absurd (show false=true from hs) Bool.false_ne_true
  | int i =>
    obtain ⟨t,rfl⟩:=rx
    cases y with
    | non=>cases ry; exact PySem.EqNone.eq_int_none (fin_bl I q (by simp))
    | int j=>obtain ⟨t',rfl⟩:=ry; exact eq_int (fin_bl I q dec_int)
    | str j=>obtain ⟨t',rfl⟩:=ry; exact PySem.EqMixed.eq_int_str (fin_bl I q (by simp))
    | _=>exact absurd (show false=true from hs) Bool.false_ne_true
  | str i =>
    obtain ⟨t,rfl⟩:=rx
    cases y with
    | non=>cases ry; exact PySem.EqNone.eq_str_none (fin_bl I q (by simp))
    | bl j=>cases ry; exact PySem.EqMixed.eq_str_bool (fin_bl I q (by simp))
    | int j=>obtain ⟨t',rfl⟩:=ry; exact PySem.EqMixed.eq_str_int (fin_bl I q (by simp))
    | str j=>obtain ⟨t',rfl⟩:=ry; exact eq_str (fin_bl I q dec_str)
    | _=>exact absurd (show false=true from hs) Bool.false_ne_true
  | byt i =>
    obtain ⟨t,rfl⟩:=rx
    cases y with
    | byt j=>obtain ⟨t',rfl⟩:=ry; exact PySem.W.eq_bytes (fin_bl I q dec_byt)
    | _=>exact absurd (show false=true from hs) Bool.false_ne_true
  | _=>cases y <;> exact absurd (show false=true from hs) Bool.false_ne_true
theorem op_ne:OpR X (compareOp .NotEq) rNe:=by
  intro pins s σ H x y v u Q I rx ry h
  obtain ⟨hs,q⟩:=h
  cases x with
  | non =>
    cases rx
    cases y with
    | non=>cases ry; exact PySem.EqNone.ne_none_none (fin_bl I q (by simp))
    | bl j=>cases ry; exact PySem.EqNone.ne_none_bool (fin_bl I q (by simp))
    | int j=>obtain ⟨t',rfl⟩:=ry; exact PySem.EqNone.ne_none_int (fin_bl I q (by simp))
    | str j=>obtain ⟨t',rfl⟩:=ry; exact PySem.EqNone.ne_none_str (fin_bl I q (by simp))
    | _=>exact absurd (show false=true from hs) Bool.false_ne_true
  | bl i =>
    cases rx
    cases y with
    | non=>cases ry; exact PySem.EqNone.ne_bool_none (fin_bl I q (by simp))
    | bl j=>cases ry; exact ne_bool (fin_bl I q (congrArg not dec_bl))
    | str j=>obtain ⟨t',rfl⟩:=ry; exact PySem.EqMixed.ne_bool_str (fin_bl I q (by simp))
    | _=>exact absurd (show false=true from hs) Bool.false_ne_true
  | int i =>
    obtain ⟨t,rfl⟩:=rx
    cases y with
    | non=>cases ry; exact PySem.EqNone.ne_int_none (fin_bl I q (by simp))
    | int j=>obtain ⟨t',rfl⟩:=ry; exact ne_int (fin_bl I q (congrArg not dec_int))
    | str j=>obtain ⟨t',rfl⟩:=ry; exact PySem.EqMixed.ne_int_str (fin_bl I q (by simp))
    | _=>exact absurd (show false=true from hs) Bool.false_ne_true
  | str i =>
    obtain ⟨t,rfl⟩:=rx
    cases y with
    | non=>cases ry; exact PySem.EqNone.ne_str_none (fin_bl I q (by simp))
    | bl j=>cases ry; exact PySem.EqMixed.ne_str_bool (fin_bl I q (by simp))
    | int j=>obtain ⟨t',rfl⟩:=ry; exact PySem.EqMixed.ne_str_int (fin_bl I q (by simp))
    | str j=>obtain ⟨t',rfl⟩:=ry; exact ne_str (fin_bl I q (congrArg not dec_str))
    | _=>exact absurd (show false=true from hs) Bool.false_ne_true
  | byt i =>
    obtain ⟨t,rfl⟩:=rx
    cases y with
    | byt j=>obtain ⟨t',rfl⟩:=ry; exact PySem.W.ne_bytes (fin_bl I q (congrArg not dec_byt))
    | _=>exact absurd (show false=true from hs) Bool.false_ne_true
  | _=>cases y <;> exact absurd (show false=true from hs) Bool.false_ne_true
theorem op_lt:OpR X (compareOp .Lt) (rI0 fun i j=>.bl (decide (i<j))):=opB0 fun _ _ _ _ _ _ _ q=>lt_int q
theorem op_le:OpR X (compareOp .LtE) (rI0 fun i j=>.bl (decide (i≤j))):=opB0 fun _ _ _ _ _ _ _ q=>le_int q
theorem op_gt:OpR X (compareOp .Gt) (rI0 fun i j=>.bl (decide (j<i))):=opB0 fun _ _ _ _ _ _ _ q=>gt_int q
theorem op_ge:OpR X (compareOp .GtE) (rI0 fun i j=>.bl (decide (j≤i))):=opB0 fun _ _ _ _ _ _ _ q=>ge_int q
theorem nomark (b:Expr) {op:CmpOp} (h:op≠.In:=by decide) (h2:op≠.NotIn:=by decide):behindInMarks op b=false:=by
  have e1:(op==CmpOp.In)=false:=by cases op <;> first | rfl | exact absurd rfl h
  have e2:(op==CmpOp.NotIn)=false:=by cases op <;> first | rfl | exact absurd rfl h2
  cases b <;> simp [behindInMarks,e1,e2]
theorem pe_cmpR {op:CmpOp} {r:R2} (ho:OpR X (compareOp op) r) (ha:PE X a ta) (hb:PE X b tb) (hm:behindInMarks op b=false):PE X (.Compare a [op] [b] pos) (tOp r ta tb):=by
  intro pins s σ H Q I h
  exact wpAny_Compare1 (binT ha hb I h fun v u s2 x y H2 I2 rx ry q=>ho pins s2 σ H2 x y v u Q I2 rx ry q) hm
def tTest (t:TE):TT:=fun σ H Q=>t σ H fun x H'=>∃ k,x=.bl k∧Q k H'
theorem pt_cmpR {op:CmpOp} {r:R2} (ho:OpR X (compareOp op) r) (ha:PE X a ta) (hb:PE X b tb) (hm:behindInMarks op b=false):PT X (.Compare a [op] [b] pos) (tTest (tOp r ta tb)):=by
  intro pins s σ H Q I h
  refine wpAny_isTrue_Compare1 (thn (ha pins s σ H _ I h) fun v s1 ⟨x,H1,I1,r1,q1⟩=>thn (hb pins s1 σ H1 _ I1 q1) fun u s2 ⟨y,H2,I2,r2,q2⟩ =>
    thn (ho pins s2 σ H2 x y v u _ I2 r1 r2 q2) fun c s3 ⟨z,H3,I3,r3,k,e,q3⟩=>?_) hm
  subst e
  cases r3
  exact wpAny_truthy_bool ⟨H3,I3,q3⟩
def TruV (K:PySem.W.Frag) (x:V) (H:Hp) (k:Bool):Prop :=
  match x with
  | .non=>k=false
  | .bl b=>k=b
  | .int i=>k=(i != 0)
  | .str y=>y.length≤sizeLine∧k=((y.length:Int) != 0)
  | .byt y=>y.size≤sizeLine∧k=((y.size:Int) != 0)
  | .ref p=>(∃ xs,SqL K H p xs∧k=!xs.isEmpty)∨(∃ xs,SqT K H p xs∧k=!xs.isEmpty)∨∃ kvs,H p=some (.dK kvs)∧k=!kvs.isEmpty
  | _=>False
theorem isEmpty_kv {κ:Type} {kvs:List (κ×V)} {vs:List (κ×Value)} (r:KV kvs vs):(!vs.isEmpty)=!kvs.isEmpty:=by
  cases r <;> rfl
theorem isEmpty_of {xs:List V} {its:List Value} (r:Vals xs its):(!its.toArray.isEmpty)=!xs.isEmpty:=by
  cases r <;> simp
theorem line63:(sizeLine:Nat)<2 ^ 63:=by rw [sizeLine_eq]; decide
theorem tru_ok:TruR X (fun x H Q=>∃ k,TruV X.K x H k∧Q k H):=by
  intro pins s σ H x v Q I rx h
  obtain ⟨k,e,q⟩:=h
  have hl:=line63
  have hs:sizeLine=16777216:=sizeLine_eq
  cases x with
  | non =>
    cases rx
    have e':k=false:=e
    subst e'
    exact truthy_none ⟨H,I,q⟩
  | bl b =>
    cases rx
    have e':k=b:=e
    subst e'
    exact wpAny_truthy_bool ⟨H,I,q⟩
  | int i =>
    obtain ⟨t,rfl⟩:=rx
    have e':k=(i != 0):=e
    subst e'
    exact PySem.P.truthy_int ⟨H,I,q⟩
  | str y =>
    obtain ⟨t,rfl⟩:=rx
    obtain ⟨hy,e'⟩:y.length≤sizeLine∧k=((y.length:Int) != 0):=e
    subst e'
    exact PySem.P.truthy_str (by omega) ⟨H,I.tok _,q⟩
  | byt y =>
    obtain ⟨t,rfl⟩:=rx
    obtain ⟨hy,e'⟩:y.size≤sizeLine∧k=((y.size:Int) != 0):=e
    subst e'
    exact PySem.W.truthy_bytes (by omega) ⟨H,I.tok _,q⟩
  | ref p =>
    cases rx
    have e':(∃ xs,SqL X.K H p xs∧k=!xs.isEmpty)∨(∃ xs,SqT X.K H p xs∧k=!xs.isEmpty)∨∃ kvs,H p=some (.dK kvs)∧k=!kvs.isEmpty:=e
    rcases e' with ⟨xs,hx,e'⟩ | ⟨xs,hx,e'⟩ | ⟨kvs,hx,e'⟩
    · subst e'
      obtain ⟨its,r,pl,hz⟩:=I.list hx
      have hlen:=r.length
      exact wpAny_truthy_list pl.isList (by simp only [List.size_toArray]; omega) ⟨H,I.tok _,by rw [isEmpty_of r]; exact q⟩
    · subst e'
      obtain ⟨its,r,pl,hz⟩:=I.tuple hx
      have hlen:=r.length
      exact truthy_tuple pl (by simp only [List.size_toArray]; omega) ⟨H,I.tok _,by rw [isEmpty_of r]; exact q⟩
    · subst e'
      obtain ⟨hz,hS,vs,r,m⟩:kvs.length≤sizeLine∧(p==sysModules)=false∧∃ vs,KV kvs vs∧s.heap.DictOf (mixKind X.prog X.w) p vs:=I.hok p _ hx
      have hlen:kvs.length=vs.length:=Paired.length r
      exact wpAny_truthy_dict hS m (by omega) ⟨H,I.tok _,by rw [isEmpty_kv r]; exact q⟩
  | _=>exact (show False from e).elim
theorem pt_truth (ha:PE X a ta) (he:∀ whole,isTrue a X.env whole=(do let v ← whole; standAt a.pos; holding [v] (truthy v))) :
    PT X a (fun σ H Q=>ta σ H fun x H'=>∃ k,TruV X.K x H' k∧Q k H'):=by
  intro pins s σ H Q I h
  exact isTrue_plain (thn (ha pins s σ H _ I h) fun v s1 ⟨x,H1,I1,r1,q1⟩=>tru_ok pins s1 σ H1 x v Q I1 r1 q1) (he _)
theorem vals1 {x:V} {us:List Value} (r:Vals [x] us):∃ u,us=[u]∧RelV x u:=by
  cases r with
  | cons r1 r2=>cases r2; exact ⟨_,rfl,r1⟩
theorem vals2 {x y:V} {us:List Value} (r:Vals [x,y] us):∃ u w',us=[u,w']∧RelV x u∧RelV y w':=by
  cases r with
  | cons r1 r2 =>
    cases r2 with
    | cons r3 r4=>cases r4; exact ⟨_,_,rfl,r1,r3⟩
theorem call_max2 (hc:X.calm=true):CallR X (.builtin "max") (fun xs H Q=>∃ i j,xs=[.int i,.int j]∧Q (.int (if j > i then j else i)) H):=by
  intro pins s σ H xs us Q I r h
  obtain ⟨i,j,rfl,q⟩:=h
  obtain ⟨u,w',rfl,⟨t,rfl⟩,⟨t',rfl⟩⟩:=vals2 r
  refine max_two_ints (I.ok.hd hc) fun h' tk k=>⟨_,H,I.kept k,?_,q⟩
  by_cases hj:j > i
  · rw [if_pos hj,if_pos hj]; exact ⟨_,rfl⟩
  · rw [if_neg hj,if_neg hj]; exact ⟨_,rfl⟩
theorem call_min2 (hc:X.calm=true):CallR X (.builtin "min") (fun xs H Q=>∃ i j,xs=[.int i,.int j]∧Q (.int (if j<i then j else i)) H):=by
  intro pins s σ H xs us Q I r h
  obtain ⟨i,j,rfl,q⟩:=h
  obtain ⟨u,w',rfl,⟨t,rfl⟩,⟨t',rfl⟩⟩:=vals2 r
  refine min_two_ints (I.ok.hd hc) fun h' tk k=>⟨_,H,I.kept k,?_,q⟩
  by_cases hj:j<i
  · rw [if_pos hj,if_pos hj]; exact ⟨_,rfl⟩
  · rw [if_neg hj,if_neg hj]; exact ⟨_,rfl⟩
theorem call_int1:CallR X (.type "int") (fun xs H Q=>(∃ i,xs=[.int i]∧Q (.int i) H)∨∃ k,xs=[.bl k]∧Q (.int (if k then 1 else 0)) H):=by
  intro pins s σ H xs us Q I r h
  rcases h with ⟨i,rfl,q⟩ | ⟨k,rfl,q⟩
  · obtain ⟨u,rfl,t,rfl⟩:=vals1 r
    exact call_int_int ⟨.int i,H,I,⟨_,rfl⟩,q⟩
  · obtain ⟨u,rfl,r1⟩:=vals1 r
    cases r1
    exact call_int_bool ⟨.int (if k then 1 else 0),H,I.tok _,⟨_,rfl⟩,q⟩
def LenV (K:PySem.W.Frag) (x:V) (H:Hp) (n:Nat):Prop :=
  match x with
  | .str y=>y.length≤sizeLine∧n=y.length
  | .byt y=>y.size≤sizeLine∧n=y.size
  | .ref p=>(∃ xs,SqL K H p xs∧n=xs.length)∨∃ xs,SqT K H p xs∧n=xs.length
  | _=>False
theorem call_len:CallR X (.builtin "len") (fun xs H Q=>∃ x n,xs=[x]∧LenV X.K x H n∧Q (.int n) H):=by
  intro pins s σ H xs us Q I r h
  obtain ⟨x,n,rfl,e,q⟩:=h
  obtain ⟨u,rfl,rx⟩:=vals1 r
  have hl:=line63
  have hs:sizeLine=16777216:=sizeLine_eq
  cases x with
  | str y =>
    obtain ⟨t,rfl⟩:=rx
    obtain ⟨hy,e'⟩:y.length≤sizeLine∧n=y.length:=e
    subst e'
    exact len_str (by omega) ⟨.int _,H,I.tok _,⟨_,rfl⟩,q⟩
  | byt y =>
    obtain ⟨t,rfl⟩:=rx
    obtain ⟨hy,e'⟩:y.size≤sizeLine∧n=y.size:=e
    subst e'
    exact PySem.W.len_bytes (by omega) ⟨.int _,H,I.tok _,⟨_,rfl⟩,q⟩
  | ref p =>
    cases rx
    have e':(∃ xs,SqL X.K H p xs∧n=xs.length)∨∃ xs,SqT X.K H p xs∧n=xs.length:=e
    rcases e' with ⟨xs,hx,e'⟩ | ⟨xs,hx,e'⟩
    · subst e'
      obtain ⟨its,r',pl,hz⟩:=I.list hx
      have hlen:=r'.length
      exact Calls.call_len_list pl.isList (by simp only [List.size_toArray]; omega) ⟨.int xs.length,H,I.tok _,⟨_,by simp only [List.size_toArray]; rw [hlen]⟩,q⟩
    · subst e'
      obtain ⟨its,r',pl,hz⟩:=I.tuple hx
      have hlen:=r'.length
      exact len_tuple pl (by simp only [List.size_toArray]; omega) ⟨.int xs.length,H,I.tok _,⟨_,by simp only [List.size_toArray]; rw [hlen]⟩,q⟩
  | _=>exact (show False from e).elim
end
end L2
namespace L2
open PySem PySem.Spec PyProof.Rows
structure ObjM (h:Heap) (x dx C:Addr) (mA:Str→Option Value):Prop where
  obj:h.get? x=some (PySem.W.instObj C dx)
  ns:h.Ns1 dx mA
  ne:dx≠x
theorem lookIn_ns {h:Heap} {dx:Addr} {mA:Str→Option Value} (n:h.Ns1 dx mA):∃ od,h.get? dx=some od∧∀ name,PySem.W.lookIn name od=some (mA name):=by
  obtain ⟨o,es,ep,ho,hd,hk,_,hm⟩:=n
  refine ⟨o,ho,fun name=>?_⟩
  have e:=hm name
  unfold nsFind findBy at e
  rw [← Array.find?_toList] at e
  unfold PySem.W.lookIn
  rw [hd]
  dsimp only
  split
  · rename_i y q
    rw [q] at e
    exact congrArg some e
  · rename_i q
    rw [q] at e
    have a:es.toList.any (·.refKey)=false:=by
      rw [List.any_eq_false]
      intro y hy
      obtain ⟨z,t,hkey⟩:=hk y (Array.mem_toList_iff.mp hy)
      simp [DictEntry.refKey,hkey]
    have a':¬ es.toList.any (·.refKey)=true:=by rw [a]; exact Bool.false_ne_true
    rw [if_neg a']
    exact congrArg some e
theorem ObjM.look {h:Heap} {x dx C:Addr} {mA:Str→Option Value} (I:ObjM h x dx C mA):∃ od,PySem.W.InstAt h x (PySem.W.instObj C dx) C (some od)∧∀ name,PySem.W.lookIn name od=some (mA name) :=
  let ⟨od,ho,hl⟩:=lookIn_ns I.ns
  ⟨od,⟨I.obj,rfl,rfl,ho⟩,hl⟩
section
variable {prog:Program} {w:World} {A:Around} {E:Value→Shared→Prop} {s:Shared} {K:PySem.W.Frag} {x dx C f:Addr} {mA:Str→Option Value} {name:Str} {v:Value}
end
theorem RelO.some_of {v:V} {o:Option Value} (r:RelO (some v) o):∃ u,o=some u∧RelV v u:=by
  cases o with
  | none=>exact (show False from r).elim
  | some u=>exact ⟨u,rfl,r⟩
section
variable {P:Program} {w:World} {H H':Hp} {h h':Heap} {a C dx:Addr} {fs fs':List (Str×V)}
theorem ins_get (hok:HOk P w H h) (e:H a=some (.ins C dx fs)):∃ mA,ObjM h a dx C mA∧(∀ f,RelO (fs.lookup f) (mA f))∧PySem.Within mA (fs.map (·.1))∧fs.length≤1000∧H dx=some (.own a):=by
  obtain ⟨d,z,ne,ob,mA,n,r,q⟩:=(show ObjOk P w H h a (.ins C dx fs) from hok a _ e)
  exact ⟨mA,⟨ob,n,ne⟩,r,q,z,d⟩
end
structure Cls (K:PySem.W.Frag) (C:Addr):Prop where
  pg:PySem.W.plainGet K C Str.empty=true
  hd:PySem.W.hasDictIn K C=true
  po:PySem.W.plainOver K C=true
  sa:PySem.W.findIn K (.ref C) "__setattr__" = some (some (.builtin "object.__setattr__"))
theorem Cls.get {K:PySem.W.Frag} {C:Addr} (c:Cls K C) (f:Str):PySem.W.plainGet K C f=true:=c.pg
structure Con (K:PySem.W.Frag) (C:Addr) (f:Str) (v:V) (u:Value):Prop where
  at_:PySem.W.findIn K (.ref C) f=some (some u)
  rel:RelV v u
  get:PySem.W.specialIn K u "__get__" = some none
  cp:PySem.W.copiedNames.contains f=false
structure Meth (K:PySem.W.Frag) (C:Addr) (m:Str) (f:Addr):Prop where
  at_:PySem.W.findIn K (.ref C) m=some (some (.ref f))
  fn:PySem.W.isFn K (.ref f)=true
  kp:PySem.W.keepIn K (.ref f)=true
section
variable {X:Cx} {pins:List (Addr×Obj)} {σ:St} {H:Hp} {s:Shared} {a C dx:Addr} {fs:List (Str×V)} {f:Str} {v:V} {A:Around} {E:Value→Shared→Prop}
end
section
variable {X:Cx} {o e value:Expr} {f:Str} {pos pos' tpos:Pos} {ta tv:TE}
end
section
variable {X:Cx} {pins:List (Addr×Obj)} {σ:St} {H:Hp} {s:Shared} {A:Around} {E:Value→Shared→Prop} {Q:Value→Shared→Prop} {c:Value} {b:Bool}
inductive TyOf (K:PySem.W.Frag) (H:Hp):V→Value→Prop where
  | non:TyOf K H .non (.type "NoneType")
  | bl (x:Bool):TyOf K H (.bl x) (.type "bool")
  | int (i:Int):TyOf K H (.int i) (.type "int")
  | str (x:Str):TyOf K H (.str x) (.type "str")
  | flt (x:UInt64):TyOf K H (.flt x) (.type "float")
  | lst {a:Addr} {xs:List V} (e:H a=some (.lst xs)):TyOf K H (.ref a) (.type "list")
  | frz {a:Addr} {o:Obj} {xs:List V} (e:H a=some (.frz o (.lst xs))):TyOf K H (.ref a) (.type "list")
  | tup {a:Addr} {xs:List V} (e:H a=some (.tup xs)):TyOf K H (.ref a) (.type "tuple")
  | dK {a:Addr} {kvs:List (Key×V)} (e:H a=some (.dK kvs)):TyOf K H (.ref a) (.type "dict")
  | dT {a:Addr} {kvs:List (List Key×V)} (e:H a=some (.dT kvs)):TyOf K H (.ref a) (.type "dict")
  | ins {a C dx:Addr} {fs:List (Str×V)} (e:H a=some (.ins C dx fs)) (cl:Cls K C) (ha:PySem.W.findIn K (.ref C) "__class__" = some (some (.builtin "object.__class__")))
      (hn:PySem.W.specialIn K (.builtin "object.__class__") "__get__" = some (some (.builtin "getset_descriptor.__get__"))) (htk:PySem.W.takesIn K (.builtin "object.__class__")=some true)
      (hm:PySem.W.mroIn K C (.type "object")=some true):TyOf K H (.ref a) (.ref C)
theorem isinst_ok {x:V} {u t:Value} (I:Inv X pins σ H s) (rx:RelV x u) (ty:TyOf X.K H x t) (e:PySem.W.kitOne X.K t c=some b) (h:∀ tk,Q (.bool b) { s with toks:=tk }) :
    wpAny (model X.prog X.w) A (call (.builtin "isinstance") [u,c]) Q E s:=by
  cases ty with
  | non=>cases (show u=Value.none from rx); exact PySem.W.kia_one PySem.W.kitx_none I.kIn True.intro e (fun z=>nomatch z) h
  | bl y=>cases (show u=Value.bool y from rx); exact PySem.W.kia_one PySem.W.kitx_bool I.kIn True.intro e (fun z=>nomatch z) h
  | int i=>obtain ⟨t,q⟩:=(show ∃ t,u=Value.int i t from rx); cases q; exact PySem.W.kia_one PySem.W.kitx_int I.kIn True.intro e (fun z=>nomatch z) h
  | str y=>obtain ⟨t,q⟩:=(show ∃ t,u=Value.str y t from rx); cases q; exact PySem.W.kia_one PySem.W.kitx_str I.kIn True.intro e (fun z=>nomatch z) h
  | flt y=>obtain ⟨t,q⟩:=(show ∃ t,u=Value.float y t from rx); cases q; exact PySem.W.kia_one PySem.W.kitx_float I.kIn True.intro e (fun z=>nomatch z) h
  | @lst a xs ea =>
    cases (show u=Value.ref a from rx)
    obtain ⟨_,_,n,_,h1⟩:=(show ObjOk X.prog X.w H s.heap a (.lst xs) from I.hok a _ ea)
    exact PySem.W.kia_one PySem.W.kitx_list I.kIn ⟨_,h1,rfl⟩ e (fun z=>nomatch z) h
  | @frz a ob xs ea =>
    cases (show u=Value.ref a from rx)
    obtain ⟨_,_,_,n,_,h1⟩:=(show ObjOk X.prog X.w H s.heap a (.frz ob (.lst xs)) from I.hok a _ ea)
    exact PySem.W.kia_one PySem.W.kitx_list I.kIn ⟨_,h1,rfl⟩ e (fun z=>nomatch z) h
  | @tup a xs ea =>
    cases (show u=Value.ref a from rx)
    obtain ⟨_,_,_,p⟩:=(show ObjOk X.prog X.w H s.heap a (.tup xs) from I.hok a _ ea)
    obtain ⟨o,h1,h2,_⟩:=p
    exact PySem.W.kia_one PySem.W.kitx_tuple I.kIn ⟨o,h1,h2⟩ e (fun z=>nomatch z) h
  | @dK a kvs ea =>
    cases (show u=Value.ref a from rx)
    obtain ⟨_,_,vs,_,p⟩:=(show ObjOk X.prog X.w H s.heap a (.dK kvs) from I.hok a _ ea)
    obtain ⟨o,es,ep,h1,h2,_⟩:=p
    exact PySem.W.kia_one PySem.W.kitx_dict I.kIn ⟨o,h1,h2.1⟩ e (fun z=>nomatch z) h
  | @dT a kvs ea =>
    cases (show u=Value.ref a from rx)
    obtain ⟨_,_,xs,_,o,es,ep,h1,h2,_⟩:=(show ObjOk X.prog X.w H s.heap a (.dT kvs) from I.hok a _ ea)
    exact PySem.W.kia_one PySem.W.kitx_dict I.kIn ⟨o,h1,h2.1⟩ e (fun z=>nomatch z) h
  | @ins a C dx fs ea cl ha hn htk hm =>
    cases (show u=Value.ref a from rx)
    obtain ⟨mA,O,_⟩:=ins_get I.hok ea
    obtain ⟨od,J,_⟩:=O.look
    exact PySem.W.kia_one (PySem.W.kitx_own (cl.get _) cl.hd ha hn htk hm) I.kIn J e (fun z=>nomatch z) h
end
end L2
namespace L2
open PySem PySem.Spec PyProof.Rows
structure Room (k:Nat) (A:Around):Prop where
  hd:A.handled=none
  dp:A.depth+3*k+5<recursionLimit
  un:A.units+16*k+200<cLine
theorem Room.mono {j k:Nat} {A:Around} (r:Room k A) (h:j≤k):Room j A:=⟨r.hd,by have:=r.dp; omega,by have:=r.un; omega⟩
theorem Room.deeper {k:Nat} {A:Around} (r:Room (k+1) A) (env:Env):Room k (A.deeper env) :=
  ⟨r.hd,by have:=r.dp; show A.depth+1+3*k+5 < _; omega,by have:=r.un; show A.units+3+16*k+200 < _; omega⟩
theorem Room.depth {k:Nat} {A:Around} (r:Room k A):A.depth<recursionLimit:=by have:=r.dp; omega
theorem Room.units {k:Nat} {A:Around} (r:Room k A):A.units+64<cLine:=by have:=r.un; omega
def tNil:TA:=fun _ H Q=>Q [] H
def tCons (ta:TE) (tr:TA):TA:=fun σ H Q=>ta σ H fun x H1=>tr σ H1 fun xs H2=>Q (x::xs) H2
section
variable {X:Cx} {e:Expr} {es:List Expr} {te:TE} {t:TA} {pos:Pos}
theorem pa_nil:PA X [] tNil:=fun _ _ _ _ H Q I h=>Calls.spliced_nil ⟨[],H,I,.nil,h⟩
theorem pa_cons (ha:PE X e te) (hr:PA X es t) (hs:starEach (e::es) X.env=(false,eval e X.env)::starEach es X.env:=by rfl):PA X (e::es) (tCons te t):=by
  intro pos pins s σ H Q I h
  rw [hs]
  show wpAny _ _ (spliced ((false,eval e X.env)::backTo pos (starEach es X.env))) _ _ s
  refine Calls.spliced_cons (thn (ha pins s σ H _ I h) fun u s1 ⟨x,H1,I1,r1,q1⟩=>?_)
  exact thn (hr pos pins s1 σ H1 _ I1 q1) fun us s2 ⟨xs,H2,I2,r2,q2⟩=>⟨x::xs,H2,I2,.cons r1 r2,q2⟩
def tTup (t:TA):TE:=fun σ H Q=>t σ H fun xs H1=>xs.length≤sizeLine∧∀ p,H1 p=none→Q (.ref p) (upd H1 p (.tup xs))
def tLst (t:TA):TE:=fun σ H Q=>t σ H fun xs H1=>xs.length≤sizeLine∧∀ p,H1 p=none→Q (.ref p) (upd H1 p (.lst xs))
theorem pe_tup {x1} (h:PA X es t):PE X (.Tuple es x1 pos) (tTup t):=by
  intro pins s σ H Q I hq
  refine wpAny_Tuple_spliced (thn (h pos pins s σ H _ I hq) fun us s1 ⟨xs,H1,I1,r,z,q⟩=>⟨by rw [← r.length]; exact z,?_⟩)
  have hf:H1 s1.heap.objs.size=none:=I1.hok.fresh (Nat.le_refl _)
  refine ⟨.ref s1.heap.objs.size,upd H1 s1.heap.objs.size (.tup xs),I1.laid (t':=s1.toks) (fun b u e=>Heap.get?_push_of_some _ e) (Nat.le_refl _) ?_,rfl,q _ hf⟩
  exact ⟨z,us,r,⟨_,Heap.get?_push_size _ rfl,rfl,_,rfl⟩⟩
theorem pe_lst (h:PA X es t):PE X (.List es pos) (tLst t):=by
  intro pins s σ H Q I hq
  refine wpAny_List_spliced (thn (h pos pins s σ H _ I hq) fun us s1 ⟨xs,H1,I1,r,z,q⟩=>⟨by rw [← r.length]; exact z,?_⟩)
  have hf:H1 s1.heap.objs.size=none:=I1.hok.fresh (Nat.le_refl _)
  refine ⟨.ref s1.heap.objs.size,upd H1 s1.heap.objs.size (.lst xs),I1.laid (t':=s1.toks) (fun b u e=>Heap.get?_push_of_some _ e) (Nat.le_refl _) ?_,rfl,q _ hf⟩
  exact ⟨z,us,0,r,Heap.get?_push_size _ rfl⟩
end
abbrev Sp:=List V→Hp→VK→XK→Prop
abbrev CXT:=List Env→Hp→Shared→XK→Value→Shared→Prop
structure Env0 (P:Program) (w:World) (K:PySem.W.Frag) (mg:Str→Option Value) (base:Heap) (A:Around) (outer:List Env) (s:Shared) (H:Hp):Prop where
  frames:A.frames=some outer
  mod:Mod K mg base
  bs:∀ b o,base.get? b=some o→s.heap.get? b=some o∧H b=none
  bsz:base.objs.size≤s.heap.objs.size
  funs:s.heap.FunFrames base outer
  frf:∀ b∈frs outer,H b=none
  hok:HOk P w H s.heap
  bare:AllBare s.gens
def CE (outer:List Env) (P:Program) (w:World) (H:Hp) (s:Shared) (Q:VK) (u:Value) (s':Shared):Prop :=
  ∃ v H',s'.os=s.os∧AllBare s'.gens∧Un (frs outer) [] H H' s.heap s'.heap∧HOk P w H' s'.heap∧RelV v u∧Q v H'
def CR (CX:CXT) (outer:List Env) (P:Program) (w:World) (H:Hp) (s:Shared) (Q:VK) (E:XK) (r:Result) (s':Shared):Prop :=
  match r with
  | .ok (.ret u)=>CE outer P w H s Q u s'
  | .ok _=>False
  | .error e=>CX outer H s E e s'
structure FnOk (P:Program) (w:World) (K:PySem.W.Frag) (mg:Str→Option Value) (base:Heap) (CX:CXT) (k:Nat) (f:Addr) (fd:FuncData) (ps:List Str) (sp:Sp):Prop where
  len:∀ vs H Q E,sp vs H Q E→vs.length=ps.length
  run:∀ (A:Around) (outer:List Env) (s:Shared) (H:Hp) (args:Args) (us:List Value) (vs:List V) (Q:VK) (E:XK),Room k A→Env0 P w K mg base A outer s H→BindsTo s fd args (ps.zip us)→Vals vs us→sp vs H Q E →
    codeAny (model P w) A (.call (.ref f) args) (CR CX outer P w H s Q E) s
theorem FnOk.imp {P:Program} {w:World} {K:PySem.W.Frag} {mg:Str→Option Value} {base:Heap} {CX:CXT} {k:Nat} {f:Addr} {fd:FuncData} {ps:List Str} {sp sp':Sp} (F:FnOk P w K mg base CX k f fd ps sp)
    (h:∀ vs H Q E,sp' vs H Q E→sp vs H Q E):FnOk P w K mg base CX k f fd ps sp' :=
  ⟨fun vs H Q E q=>F.len vs H Q E (h _ _ _ _ q),fun A outer s H args us vs Q E hr he hb hv hs=>F.run A outer s H args us vs Q E hr he hb hv (h _ _ _ _ hs)⟩
section
variable {X:Cx} {pins:List (Addr×Obj)} {σ:St} {H:Hp} {s s':Shared}
theorem Inv.env0 (I:Inv X pins σ H s):Env0 X.prog X.w X.K X.mg X.base X.A X.stack s H :=
  ⟨I.ok.frames,I.ok.mod,I.bs,Nat.le_trans I.ok.bsz I.sz,I.stack,I.stkFree,I.hok,I.bare⟩
theorem Inv.after {Q:VK} {u:Value} (I:Inv X pins σ H s) (h:CE X.stack X.prog X.w H s Q u s'):EP X pins σ Q u s':=by
  obtain ⟨v,H',os,bare,un,hok,r,q⟩:=h
  obtain ⟨hh,g,d,t,os'⟩:=s'
  obtain rfl:os'=s.os:=os
  exact ⟨v,H',I.call (h':=hh) (g':=g) (d':=d) (t':=t) (ch:=[]) un hok bare (fun b z=>absurd z (by simp)),r,q⟩
end
def tCall (sp:Sp) (dvs:List V) (E:XK) (t:TA):TE:=fun σ H Q=>t σ H fun vs H1=>sp (vs++dvs) H1 Q E
def Binds (K:PySem.W.Frag) (fd:FuncData) (ps:List Str) (ds:List Value):Prop :=
  ∀ (s:Shared) (us:List Value),K.In s.heap→(us++ds).length=ps.length→BindsTo s fd ⟨us,[]⟩ (ps.zip (us++ds))
theorem Binds.all {K:PySem.W.Frag} {fd:FuncData} {ps:List Str} (h:∀ us:List Value,us.length=ps.length→bindArgs fd ⟨us,[]⟩=pure (ps.zip us)):Binds K fd ps []:=fun s us _ hl=>by
  rw [List.append_nil] at hl ⊢
  exact .of_eq (h us hl)
def Passes (CX:CXT) (X:Cx) (E:XK):Prop:=∀ (pins:List (Addr×Obj)) (σ:St) (H:Hp) (s:Shared) (e:Value) (s':Shared),Inv X pins σ H s→CX X.stack H s E e s'→X.xe e s'
section
variable {X:Cx} {CX:CXT} {k:Nat} {f C:Addr} {fd:FuncData} {ps:List Str} {sp:Sp} {dvs:List V} {ds:List Value} {E:XK} {x m:Str} {p pos apos:Pos} {e o:Expr} {es:List Expr} {ta:TE} {t:TA}
theorem run_fn {pins:List (Addr×Obj)} {σ:St} {H:Hp} {s:Shared} {Q:VK} {us:List Value} {vs:List V} (F:FnOk X.prog X.w X.K X.mg X.base CX k f fd ps sp) (hr:Room k X.A) (hb:Binds X.K fd ps ds) (hd:Vals dvs ds) (hx:Passes CX X E)
    (I:Inv X pins σ H s) (r:Vals vs us) (h:sp (vs++dvs) H Q E):wpAny (model X.prog X.w) X.A (call (.ref f) us) (EP X pins σ Q) X.xe s:=by
  have r2:Vals (vs++dvs) (us++ds):=r.append hd
  have hl:(us++ds).length=ps.length:=by rw [← r2.length]; exact F.len _ _ _ _ h
  refine wpAny_call (codeAny_mono (F.run X.A X.stack s H ⟨us,[]⟩ (us++ds) (vs++dvs) Q E hr I.env0 (hb s us I.kIn hl) r2 h) fun r s' hq=>?_)
  cases r with
  | error e=>exact hx pins σ H s e s' I hq
  | ok fl =>
    cases fl with
    | ret u=>exact I.after hq
    | next=>exact False.elim hq
    | brk=>exact False.elim hq
    | cont=>exact False.elim hq
theorem pe_call (F:FnOk X.prog X.w X.K X.mg X.base CX k f fd ps sp) (hr:Room k X.A) (hg:Gl X x) (hm:X.mg x=some (.ref f)) (hk:PySem.W.keepIn X.K (.ref f)=true) (hb:Binds X.K fd ps ds) (hd:Vals dvs ds) (hx:Passes CX X E)
    (ha:PA X (e::es) t) (hdb:(x==("__debug__" : Str))=false:=by decide) (he:starEach (e::es) X.env=(false,eval e X.env)::starEach es X.env:=by rfl) (hpl:(backTo pos (starEach es X.env)).any (·.1)=false:=by rfl) :
    PE X (.Call (.Name x p) (e::es) [] pos) (tCall sp dvs E t):=by
  intro pins s σ H Q I h
  refine wpAny_Call_Name_kw (ld_glob I hg hm ?_ hdb)
  refine PySem.W.callWith_K (h₀:=X.base) I.ok.mod.kin hk (thn (ha pos pins s σ H _ I h) fun us s1 ⟨vs,H1,I1,r,q⟩=>⟨I1.kIn,?_⟩) he hpl
  exact run_fn F hr hb hd hx I1 r q
structure Mk (K:PySem.W.Frag) (C f:Addr):Prop where
  makes:PySem.W.makesIn K C=true
  init:PySem.W.findIn K (.ref C) "__init__" = some (some (.ref f))
  fn:PySem.W.isFn K (.ref f)=true
  kp:PySem.W.keepIn K (.ref C)=true
end
section
variable {X:Cx} {CX:CXT} {k:Nat} {f C:Addr} {fd:FuncData} {ps ks:List Str} {sp:Sp} {E:XK} {x m:Str} {p pos apos kpos:Pos} {e o:Expr} {es:List Expr} {kws:List Keyword} {te ta:TE} {t tk:TA} {nm:Option Str}
structure KBinds (K:PySem.W.Frag) (fd:FuncData) (ps ks:List Str) (g:List Value→List Value→List Value) (gV:List V→List V→List V):Prop where
  to:∀ (s:Shared) (us ws:List Value),K.In s.heap→(g us ws).length=ps.length→BindsTo s fd ⟨us,ks.zip ws⟩ (ps.zip (g us ws))
  rel:∀ {vs:List V} {us:List Value} {zs:List V} {ws:List Value},Vals vs us→Vals zs ws→Vals (gV vs zs) (g us ws)
variable {g:List Value→List Value→List Value} {gV:List V→List V→List V}
end
structure FnScope (N P:List Str) (sc:Scope):Prop where
  kind:sc.kind=.function
  co:sc.isCoroutine=false
  gen:sc.isGenerator=false
  nd:N.Nodup
  pre:N.take P.length=P
  par:∀ x∈P,sc.names.lookup x=some .local∨sc.names.lookup x=some .cell
  nofree:∀ y∈sc.names,y.2≠.free
theorem bindL_out {kindOf:Str→Option NameKind} {x:Str}:∀ {binds:List (Str×Value)} {m:Str→Option Value},(∀ v,(x,v)∉binds)→bindL kindOf binds m x=m x
  | [],_,_=>rfl
  | (n,v)::r,m,h=>by
    unfold bindL
    rw [bindL_out fun w hw=>h w (List.mem_cons_of_mem _ hw)]
    split
    · have:x≠n:=by rintro rfl; exact h v List.mem_cons_self
      simp [this]
    · rfl
theorem bindC_out {kindOf:Str→Option NameKind} {x:Str}:∀ {binds:List (Str×Value)} {m:Str→Option Value},(∀ v,(x,v)∉binds)→bindC kindOf binds m x=m x
  | [],_,_=>rfl
  | (n,v)::r,m,h=>by
    unfold bindC
    rw [bindC_out fun w hw=>h w (List.mem_cons_of_mem _ hw)]
    split
    · rfl
    · have:x≠n:=by rintro rfl; exact h v List.mem_cons_self
      simp [this]
theorem bindL_get {kindOf:Str→Option NameKind} {x:Str} {v:Value}:∀ {P:List Str} {vs:List Value} {i:Nat} {m:Str→Option Value},P.Nodup→P[i]?=some x→vs[i]?=some v→kindOf x=some .local →
    bindL kindOf (P.zip vs) m x=some v
  | [],_,_,_,_,h,_,_=>by simp at h
  | _::_,[],_,_,_,_,h,_=>by simp at h
  | p::P,w::vs,0,m,nd,h1,h2,hk=>by
    simp at h1 h2; subst h1; subst h2
    show bindL kindOf ((p,w)::P.zip vs) m p=_
    unfold bindL
    rw [bindL_out fun v hv=>(List.nodup_cons.mp nd).1 (List.of_mem_zip hv).1,if_pos hk]
    simp
  | p::P,w::vs,i+1,m,nd,h1,h2,hk=>by
    show bindL kindOf ((p,w)::P.zip vs) m x=_
    unfold bindL
    exact bindL_get (i:=i) (List.nodup_cons.mp nd).2 (by simpa using h1) (by simpa using h2) hk
theorem bindC_get {kindOf:Str→Option NameKind} {x:Str} {v:Value}:∀ {P:List Str} {vs:List Value} {i:Nat} {m:Str→Option Value},P.Nodup→P[i]?=some x→vs[i]?=some v→kindOf x≠some .local →
    bindC kindOf (P.zip vs) m x=some v
  | [],_,_,_,_,h,_,_=>by simp at h
  | _::_,[],_,_,_,_,h,_=>by simp at h
  | p::P,w::vs,0,m,nd,h1,h2,hk=>by
    simp at h1 h2; subst h1; subst h2
    show bindC kindOf ((p,w)::P.zip vs) m p=_
    unfold bindC
    rw [bindC_out fun v hv=>(List.nodup_cons.mp nd).1 (List.of_mem_zip hv).1,if_neg hk]
    simp
  | p::P,w::vs,i+1,m,nd,h1,h2,hk=>by
    show bindC kindOf ((p,w)::P.zip vs) m x=_
    unfold bindC
    exact bindC_get (i:=i) (List.nodup_cons.mp nd).2 (by simpa using h1) (by simpa using h2) hk
def start (N:List Str) (vs:List V):St:=vs.map some++List.replicate (N.length-vs.length) none
def cxOf (CX:CXT) (P:Program) (w:World) (K:PySem.W.Frag) (mg:Str→Option Value) (base:Heap) (N:List Str) (qual:Str) (scope:Scope) (f:Addr) (cd:Value) (A:Around) (outer:List Env) (s:Shared) (H:Hp) (E:XK):Cx where
  prog:=P
  w:=w
  K:=K
  mg:=mg
  base:=base
  A:=A.deeper (envOfC qual scope s.heap.objs.size f cd)
  N:=N
  s₀:=s
  H₀:=H
  env:=envOfC qual scope s.heap.objs.size f cd
  outer:=outer
  stack:=envOfC qual scope s.heap.objs.size f cd::outer
  ex:=[]
  calm:=true
  fn:=fun _=>true
  pn:=[]
  xe:=fun e s'=>wpAny (model P w) (A.deeper (envOfC qual scope s.heap.objs.size f cd)) (leaving (envOfC qual scope s.heap.objs.size f cd) e) (fun _ s''=>CX outer H s E e s'') (fun e' s''=>CX outer H s E e' s'') s'
theorem cell_has {sc:Scope} {n:Nat} {x:Str} (h:sc.names.lookup x=some .cell):∃ c,(cellsFrom n sc.names []).lookup x=some c:=by
  have q:=PySem.W.cellsFrom_some sc.names n [] (.inl h)
  exact Option.isSome_iff_exists.mp q
theorem inv_start {CX:CXT} {P:Program} {w:World} {K:PySem.W.Frag} {mg:Str→Option Value} {base:Heap} {N ps:List Str} {qual:Str} {scope:Scope} {f:Addr} {cd:Value} {A:Around} {outer:List Env} {s s1:Shared} {H:Hp} {E:XK} {us:List Value} {vs:List V}
    (S:FnScope N ps scope) (hd:A.handled=none) (e0:Env0 P w K mg base A outer s H) (hl:vs.length=ps.length) (r:Vals vs us)
    (x:InCallC s s.heap.objs.size (bindL (envOfC qual scope s.heap.objs.size f cd).kindOf (ps.zip us) fun _=>none) (cellsFrom (s.heap.objs.size+1) scope.names []) (bindC (envOfC qual scope s.heap.objs.size f cd).kindOf (ps.zip us) fun _=>none) s1) :
    Inv (cxOf CX P w K mg base N qual scope f cd A outer s H E) [] (start N vs) H s1:=by
  have hpl:ps.length≤N.length:=by have:=congrArg List.length S.pre; rw [List.length_take] at this; omega
  obtain ⟨h1,tk,rfl,hk⟩:=x.done
  have noA:∀ b:Addr,b∉(cxOf CX P w K mg base N qual scope f cd A outer s H E).ex:=fun b z=>absurd (show b∈([]:List Addr) from z) (by simp)
  refine ⟨⟨e0.mod,S.kind,rfl,rfl,Nat.le_refl _,fun y z c h1 h2=>?_,fun y hy=>?_,fun y c _ h=>?_,fun _=>hd,Around.frames_deeper e0.frames,.inr ⟨rfl,rfl⟩,fun b z=>absurd z (noA b),e0.bs,e0.bsz,fun b _ _=>noA b,fun b z=>absurd z (noA b),e0.funs,e0.frf⟩,
    rfl,e0.bare,Un.kept hk,⟨_,x.toInCall.ns,fun i y v h1 h2 h3=>?_⟩,fun y c h=>⟨_,x.cell y c h⟩,e0.hok.fresh (Nat.le_refl _),fun y c h=>?_,fun p hp=>absurd (show p∈([]:List (Addr×Obj)) from hp) (by simp),e0.hok.kept hk,?_⟩
  · exact name_of_addr x.apart (PySem.mem_of_lookup h1) (PySem.mem_of_lookup h2)
  · have hy:scope.names.lookup y=some .cell∨scope.names.lookup y=some .free:=hy
    rcases hy with hy | hy
    · exact cell_has hy
    · exact absurd rfl (S.nofree _ (PySem.mem_of_lookup hy))
  · exact Nat.le_of_lt (x.above y c (PySem.mem_of_lookup h))
  · have hi:i<vs.length:=by
      unfold start at h2
      by_cases hi:i<vs.length
      · exact hi
      · rw [List.getElem?_append_right (by simpa using hi)] at h2
        rw [List.getElem?_replicate] at h2
        split at h2 <;> cases h2
    have ha:vs[i]?=some v:=by
      unfold start at h2
      rw [List.getElem?_append_left (by simpa using hi),List.getElem?_map] at h2
      cases e:vs[i]? with
      | none=>rw [e] at h2; cases h2
      | some a=>rw [e] at h2; cases h2; rfl
    obtain ⟨u,hu,rv⟩:=r.get ha
    have hp:ps[i]?=some y:=by
      rw [← S.pre,List.getElem?_take_of_lt (by omega)]; exact h1
    have ndP:ps.Nodup:=by rw [← S.pre]; exact S.nd.sublist (List.take_sublist _ _)
    refine ⟨u,rv,?_⟩
    rcases S.par y (List.mem_of_getElem? hp) with k | k
    · exact .inl ⟨k,bindL_get ndP hp hu k⟩
    · obtain ⟨c,e⟩:=cell_has (n:=s.heap.objs.size+1) k
      refine .inr ⟨.inl k,c,e,?_⟩
      have q:=x.cell y c e
      rw [bindC_get ndP hp hu (by show scope.names.lookup y≠_; rw [k]; decide)] at q
      exact q
  · exact e0.hok.fresh (Nat.le_of_lt (x.above y c (PySem.mem_of_lookup h)))
  · unfold start
    show _=N.length
    rw [List.length_append,List.length_map,List.length_replicate]
    omega
theorem fn_of {CX:CXT} {P:Program} {w:World} {K:PySem.W.Frag} {mg:Str→Option Value} {base:Heap} {k:Nat} {f:Addr} {name qual:Str} {params:Arguments} {body:List Stmt} {scope:Scope} {dV kV doc pm cdv ct oc:Value} {an od:Option Addr}
    {osl:Array (Option Value)} {N ps:List Str} {sp:Sp} (lk:K.lookup f=some ⟨oc,od,.func (PySem.W.fnOf name qual params body scope dV kV doc pm an cdv ct),osl⟩) (hcd:PySem.W.codeIn K cdv qual=true) (S:FnScope N ps scope)
    (len:∀ vs H Q E,sp vs H Q E→vs.length=ps.length)
    (hbody:∀ (A:Around) (outer:List Env) (s:Shared) (H:Hp) (vs:List V) (Q:VK) (E:XK),Room k (A.deeper (envOfC qual scope s.heap.objs.size f cdv))→sp vs H Q E →
      ∃ t,PSs (cxOf CX P w K mg base N qual scope f cdv A outer s H E) body t∧t { nx:=fun _ H'=>Q .non H',rt:=Q } (start N vs) H) :
    FnOk P w K mg base CX (k+1) f (PySem.W.fnOf name qual params body scope dV kV doc pm an cdv ct) ps sp:=by
  refine ⟨len,fun A outer s H args us vs Q E hr e0 hb r hsp=>?_⟩
  have hl:=len _ _ _ _ hsp
  have KX:K.In s.heap:=e0.mod.kin.keeps fun b o e=>(e0.bs b o e).1
  have lim:s.heap.NoLimit:=e0.mod.nolimit.keeps fun b o e=>(e0.bs b o e).1
  have hkind:∀ y∈ps.zip us,scope.names.lookup y.1=some .local∨(scope.names.lookup y.1=some .cell∧((cellsFrom (s.heap.objs.size+1) scope.names []).lookup y.1).isSome=true):=fun ⟨n,v⟩ hy=>by
    rcases S.par n (List.of_mem_zip hy).1 with q | q
    · exact .inl q
    · exact .inr ⟨q,PySem.W.cellsFrom_some _ _ _ (.inl q)⟩
  refine codeAny_call_function hr.depth (KX _ _ lk) rfl S.co S.gen rfl (PySem.W.codeRec_of KX hcd) (hb _ _ _ _ ?_)
  refine wpAny_newFunctionEnv_cells S.kind hkind fun env he s1 x=>?_
  subst he
  refine ⟨lim.keeps x.toInCall.keep,codeAny_func ?_⟩
  obtain ⟨t,ht,hq⟩:=hbody A outer s H vs Q E (hr.deeper _) hsp
  have I:Inv (cxOf CX P w K mg base N qual scope f cdv A outer s H E) [] (start N vs) H s1:=inv_start S hr.hd e0 hl r x
  refine wpAny_mono (ht [] s1 (start N vs) H _ I hq) (fun fl s' hs=>?_) fun e s' hs=>hs
  have fin:∀ {σ':St} {H':Hp} {v:V} {u:Value},Inv (cxOf CX P w K mg base N qual scope f cdv A outer s H E) [] σ' H' s'→RelV v u→Q v H'→CE outer P w H s Q u s' :=
    fun {σ' H' v u} J rv q=>⟨v,H',J.os,J.bare,J.base,J.hok,rv,q⟩
  cases fl with
  | ret u =>
    obtain ⟨v,σ',H',J,rv,q⟩:=hs
    exact fin J rv q
  | next =>
    obtain ⟨σ',H',J,q⟩:=hs
    exact fin (v:=V.non) (u:=Value.none) J rfl q
  | brk =>
    obtain ⟨_,_,_,q⟩:=hs
    exact False.elim q
  | cont =>
    obtain ⟨_,_,_,q⟩:=hs
    exact False.elim q
end L2
namespace L2
open PySem PySem.Spec PyProof.Rows
section
variable {X:Cx} {x:Str} {p pos:Pos} {e:Expr} {es:List Expr} {t:TA} {id T:String} {r:List V→Hp→VK→Prop}
def tCB (r:List V→Hp→VK→Prop) (t:TA):TE:=fun σ H Q=>t σ H fun vs H1=>r vs H1 Q
theorem pe_callB (hc:CallR X (.builtin id) r) (hg:Gl X x) (hm:X.mg x=none) (hv:bootBuiltins x=some (.builtin id)) (ha:PA X (e::es) t) (hn:x ≠ "__name__" := by decide) (hdb:(x==("__debug__" : Str))=false:=by decide)
    (he:starEach (e::es) X.env=(false,eval e X.env)::starEach es X.env:=by rfl) (hpl:(backTo pos (starEach es X.env)).any (·.1)=false:=by rfl):PE X (.Call (.Name x p) (e::es) [] pos) (tCB r t):=by
  intro pins s σ H Q I h
  refine wpAny_Call_Name_kw (ld_blt I hg hm hv ?_ hn hdb)
  exact PyProof.Rows.callWith_builtin1 (thn (ha pos pins s σ H _ I h) fun us s1 ⟨vs,H1,I1,r1,q1⟩=>hc pins s1 σ H1 vs us Q I1 r1 q1) he hpl
theorem pe_callTy (hc:CallR X (.type T) r) (hg:Gl X x) (hm:X.mg x=none) (hv:bootBuiltins x=some (.type T)) (ha:PA X (e::es) t) (hn:x ≠ "__name__" := by decide) (hdb:(x==("__debug__" : Str))=false:=by decide)
    (he:starEach (e::es) X.env=(false,eval e X.env)::starEach es X.env:=by rfl) (hpl:(backTo pos (starEach es X.env)).any (·.1)=false:=by rfl):PE X (.Call (.Name x p) (e::es) [] pos) (tCB r t):=by
  intro pins s σ H Q I h
  refine wpAny_Call_Name_kw (ld_blt I hg hm hv ?_ hn hdb)
  exact PyProof.Rows.callWith_type1 (thn (ha pos pins s σ H _ I h) fun us s1 ⟨vs,H1,I1,r1,q1⟩=>hc pins s1 σ H1 vs us Q I1 r1 q1) he hpl
end
end L2
namespace HT
open PySem PyProof.Rows
section
open PySem.SeqAt
open PySem.AutoSeq1 (wpAny_loadPart')
open PySem.MeetsSeq PySem.MeetsSeq2 PySem.MeetsSeq3
end
section
variable {prog:Program} {w:World} {A:Around} {E:Value→Shared→Prop} {s:Shared}
def sIx (n d:Nat):Option Int→Nat
  | none=>d
  | some v=>if v<0 then (v+(n:Int)).toNat else min v.toNat n
end
end HT
namespace L2
open PySem PySem.Spec PyProof.Rows
abbrev TO:=St→Hp→(Option Int→Hp→Prop)→Prop
def PO (X:Cx) (e:Option Expr) (t:TO):Prop :=
  ∀ (pins:List (Addr×Obj)) (s:Shared) (σ:St) (H:Hp) (Q:Option Int→Hp→Prop),Inv X pins σ H s→t σ H Q →
    wpAny (model X.prog X.w) X.A (evalPart e X.env) (fun u s'=>∃ o H',Inv X pins σ H' s'∧IsPart u o∧Q o H') X.xe s
def tNoPart:TO:=fun _ H Q=>Q none H
def tPart (t:TE):TO:=fun σ H Q=>t σ H fun x H1=>∃ i,x=.int i∧Q (some i) H1
theorem intsAre_of {ns:List Int}:∀ {us:List Value},Vals (ns.map V.int) us→IntsAre us ns:=by
  induction ns with
  | nil=>intro us r; rw [List.map_nil] at r; cases r; exact .nil
  | cons n ns ih =>
    intro us r
    rw [List.map_cons] at r
    cases r with
    | cons r1 r2 =>
      obtain ⟨t,e⟩:=r1
      subst e
      exact .cons n t (ih r2)
section
variable {X:Cx} {e:Expr} {te:TE} {lo hi:Option Expr} {tl th:TO} {pos p2:Pos}
theorem po_none:PO X none tNoPart:=by
  intro pins s σ H Q I h
  rw [evalPart_none]
  exact wpAny_pure ⟨none,H,I,.none,h⟩
theorem po_some (h:PE X e te):PO X (some e) (tPart te):=by
  intro pins s σ H Q I hw
  rw [evalPart_some]
  refine thn (h pins s σ H _ I hw) fun u s1 ⟨x,H1,I1,r1,q1⟩=>?_
  obtain ⟨i,rfl,q⟩:=q1
  obtain ⟨t,rfl⟩:=r1
  exact ⟨some i,H1,I1,.int i t,q⟩
def SlR (X:Cx) (r:V→Option Int→Option Int→Hp→VK→Prop):Prop :=
  ∀ (pins:List (Addr×Obj)) (s:Shared) (σ:St) (H:Hp) (x:V) (v vl vu:Value) (lo hi:Option Int) (sl:Addr) (Q:VK),Inv X pins σ H s→RelV x v→s.heap.IsSliceOf sl vl vu .none→IsPart vl lo→IsPart vu hi→r x lo hi H Q →
    ∃ T id,typeLookup (.type T) "__getitem__" = pure (some (.builtin id))∧s.TypeIs v T∧wpAny (model X.prog X.w) X.A (getItem v (.ref sl)) (EP X pins σ Q) X.xe s
def tSl (r:V→Option Int→Option Int→Hp→VK→Prop) (te:TE) (tl th:TO):TE:=fun σ H Q=>te σ H fun x H1=>tl σ H1 fun l H2=>th σ H2 fun u H3=>r x l u H3 Q
theorem pe_slice {r:V→Option Int→Option Int→Hp→VK→Prop} (hr:SlR X r) (he:PE X e te) (hl:PO X lo tl) (hu:PO X hi th):PE X (.Subscript e (.Slice lo hi none p2) pos) (tSl r te tl th):=by
  intro pins s σ H Q I h
  refine Subscript_ (thn (he pins s σ H _ I h) fun v s1 ⟨x,H1,I1,r1,q1⟩=>?_)
  refine wpAny_Slice (thn (hl pins s1 σ H1 _ I1 q1) fun vl s2 ⟨l,H2,I2,pl,q2⟩=>thn (hu pins s2 σ H2 _ I2 q2) fun vu s3 ⟨u,H3,I3,pu,q3⟩=>?_)
  rw [evalPart_none]
  refine wpAny_pure ?_
  have I4:Inv X pins σ H3 { s3 with heap:=s3.heap.push { cls:=.type "slice", data:=.fields #[vl,vu,.none] } }:=I3.kept (t':=s3.toks) fun b ob q=>Heap.get?_push_of_some _ q
  obtain ⟨T,id,hT,ht,hg⟩:=hr pins { s3 with heap:=s3.heap.push { cls:=.type "slice", data:=.fields #[vl,vu,.none] } } σ H3 x v vl vu l u s3.heap.objs.size Q I4 r1 (Heap.IsSliceOf.new ..) pl pu q3
  show wpAny (model X.prog X.w) X.A (subscriptTail e (.Slice lo hi none p2) v (.ref s3.heap.objs.size)) (EP X pins σ Q) X.xe { s3 with heap:=s3.heap.push { cls:=.type "slice", data:=.fields #[vl,vu,.none] } }
  exact tail_any (ops:=[.ref s3.heap.objs.size,v]) ht hT hg (by with_unfolding_all rfl)
def cutV (xs:List V) (lo hi:Option Int):List V:=(xs.drop (HT.sIx xs.length 0 lo)).take (HT.sIx xs.length xs.length hi-HT.sIx xs.length 0 lo)
theorem cutV_length (xs:List V) (lo hi:Option Int):(cutV xs lo hi).length≤xs.length:=by
  unfold cutV
  rw [List.length_take,List.length_drop]
  omega
end
end L2
namespace L2
open PySem PySem.Spec PyProof.Rows
def ixN (n:Nat) (i:Int):Option Nat:=if 0≤i then (if i<n then some i.toNat else none) else if -(n:Int)≤i then some (i+n).toNat else none
def atI {α:Type} (xs:List α) (i:Int):Option α:=(ixN xs.length i).bind fun j=>xs[j]?
theorem ixN_seq {n:Nat} {i:Int} {j:Nat} (h:ixN n i=some j):seqIndex? i n=some j∧j<n∧-(n:Int)≤i∧i<n:=by
  unfold ixN at h
  by_cases h0:0≤i
  · rw [if_pos h0] at h
    by_cases h1:i<n
    · rw [if_pos h1] at h
      have e:i.toNat=j:=Option.some.inj h
      exact ⟨by rw [seqIndex_of h0 h1,e],by omega,by omega,h1⟩
    · rw [if_neg h1] at h; cases h
  · rw [if_neg h0] at h
    by_cases h1:-(n:Int)≤i
    · rw [if_pos h1] at h
      have e:(i+n).toNat=j:=Option.some.inj h
      exact ⟨by rw [seqIndex_neg (by omega) h1,e],by omega,h1,by omega⟩
    · rw [if_neg h1] at h; cases h
theorem atI_get {α:Type} {xs:List α} {i:Int} {v:α} (h:atI xs i=some v):∃ j,seqIndex? i xs.length=some j∧xs[j]?=some v∧j<xs.length∧-(xs.length:Int)≤i∧i<xs.length:=by
  unfold atI at h
  cases e:ixN xs.length i with
  | none=>rw [e] at h; cases h
  | some j =>
    rw [e] at h
    obtain ⟨h1,h2,h3,h4⟩:=ixN_seq e
    exact ⟨j,h1,h,h2,h3,h4⟩
def PlainIx (b:Expr):Prop:=∀ o i,subscripted b false o i=operate [o,i] (getItem o i)
def IxR (X:Cx) (r:R2):Prop :=
  ∀ (value slice:Expr) (pins:List (Addr×Obj)) (s:Shared) (σ:St) (H:Hp) (x y:V) (v u:Value) (Q:VK),Inv X pins σ H s→RelV x v→RelV y u→r x y H Q →
    subscripted slice false v u=operate [v,u] (getItem v u)→wpAny (model X.prog X.w) X.A (subscriptTail value slice v u) (EP X pins σ Q) X.xe s
def MtR (X:Cx) (id:String) (r:V→List V→Hp→VK→Prop):Prop :=
  ∀ (pins:List (Addr×Obj)) (s:Shared) (σ:St) (H:Hp) (x:V) (xs:List V) (v:Value) (us:List Value) (Q:VK),Inv X pins σ H s→RelV x v→Vals xs us→r x xs H Q →
    wpAny (model X.prog X.w) X.A (call (.builtin id) (v::us)) (EP X pins σ Q) X.xe s
section
variable {X:Cx} {a b:Expr} {ta tb:TE} {pos:Pos}
theorem IxR.or {r r':R2} (h:IxR X r) (h':IxR X r'):IxR X (fun x y H Q=>r x y H Q∨r' x y H Q):=by
  intro value slice pins s σ H x y v u Q I rx ry q hs
  rcases q with q | q
  · exact h value slice pins s σ H x y v u Q I rx ry q hs
  · exact h' value slice pins s σ H x y v u Q I rx ry q hs
theorem pe_ix {r:R2} (hr:IxR X r) (ha:PE X a ta) (hb:PE X b tb) (hs:PlainIx b):PE X (.Subscript a b pos) (tOp r ta tb):=by
  intro pins s σ H Q I h
  exact Subscript_ (binT ha hb I h fun v u s2 x y H2 I2 rx ry q=>hr a b pins s2 σ H2 x y v u Q I2 rx ry q (hs _ _))
def rIxL (K:PySem.W.Frag):R2:=fun x y H Q=>∃ p xs i v,x=.ref p∧y=.int i∧SqL K H p xs∧atI xs i=some v∧Q v H
def rIxT (K:PySem.W.Frag):R2:=fun x y H Q=>∃ p xs i v,x=.ref p∧y=.int i∧SqT K H p xs∧atI xs i=some v∧Q v H
def rIxS:R2:=fun x y H Q=>∃ z i c,x=.str z∧y=.int i∧z.length≤sizeLine∧atI z.cps.toList i=some c∧Q (.str ⟨#[c]⟩) H
theorem ix_list:IxR X (rIxL X.K):=by
  intro value slice pins s σ H x y v u Q I rx ry h hs
  obtain ⟨p,xs,i,z,rfl,rfl,hq,he,q⟩:=h
  cases rx
  obtain ⟨t,rfl⟩:=ry
  obtain ⟨its,r,pl,hz⟩:=I.list hq
  obtain ⟨j,h1,h2,h3,h4,h5⟩:=atI_get he
  obtain ⟨w,ew,rw'⟩:=r.get h2
  have hl:=r.length
  have hn:=line63
  have fin:EP X pins σ Q w s:=⟨z,H,I,rw',q⟩
  by_cases h0:0≤i
  · have hj:i.toNat=j:=by
      rw [seqIndex_of h0 h5] at h1
      exact Option.some.inj h1
    exact item_listR pl.isList h0 (by omega) (by rw [hj]; simpa using ew) fin hs
  · have hj:(i+(its.toArray.size:Int)).toNat=j:=by
      rw [seqIndex_neg (by omega) h4] at h1
      rw [List.size_toArray,← hl]
      exact Option.some.inj h1
    exact subscriptTail_builtinR (x:=w) pl.isList.typeIs slot_list_getitem.lookup
      (wpAny_getItem_list_neg (Q:=fun r s'=>r=w∧EP X pins σ Q r s') pl.isList (by omega) (by rw [List.size_toArray] <;> omega) (by omega) (by rw [hj]; simpa using ew) ⟨rfl,fin⟩) hs
theorem ix_tup:IxR X (rIxT X.K):=by
  intro value slice pins s σ H x y v u Q I rx ry h hs
  obtain ⟨p,xs,i,z,rfl,rfl,hq,he,q⟩:=h
  cases rx
  obtain ⟨t,rfl⟩:=ry
  obtain ⟨its,r,pl,hz⟩:=I.tuple hq
  obtain ⟨j,h1,h2,h3,h4,h5⟩:=atI_get he
  obtain ⟨w,ew,rw'⟩:=r.get h2
  have hl:=r.length
  have hn:=line63
  have fin:EP X pins σ Q w s:=⟨z,H,I,rw',q⟩
  exact subscriptTail_builtinR (x:=w) pl.typeIs slot_tuple_getitem.lookup
    (getItem_tuple (j:=j) (Q:=fun r s'=>r=w∧EP X pins σ Q r s') pl (by omega) (by omega) (by rw [List.size_toArray,← hl]; exact h1) (by simpa using ew) ⟨rfl,fin⟩) hs
theorem ix_str:IxR X rIxS:=by
  intro value slice pins s σ H x y v u Q I rx ry h hs
  obtain ⟨z,i,c,rfl,rfl,hz,he,q⟩:=h
  obtain ⟨t,rfl⟩:=rx
  obtain ⟨t',rfl⟩:=ry
  obtain ⟨j,h1,h2,h3,h4,h5⟩:=atI_get he
  have hl:z.cps.toList.length=z.length:=by simp [Str.length]
  rw [hl] at h1 h4 h5
  have hn:=line63
  exact tail_any (typeIs_str s z t) slot_str_getitem.lookup (getItem_str (c:=c) (by
    have e1:decide (i < -(2 ^ 63:Int))=false:=decide_eq_false (by omega)
    have e2:decide (i ≥ 2 ^ 63)=false:=decide_eq_false (by omega)
    rw [e1,e2,Bool.or_false]) (by rw [h1]; simpa using h2) ⟨.str ⟨#[c]⟩,H,I.tok _,⟨_,rfl⟩,q⟩) hs
def rIx (K:PySem.W.Frag):R2:=fun x y H Q=>rIxL K x y H Q∨rIxT K x y H Q∨rIxS x y H Q
theorem ix_seq:IxR X (rIx X.K):=ix_list.or (ix_tup.or ix_str)
theorem mapSeq_set (its:List Value) (n j:Nat) (u:Value):Obj.mapSeq (·.setIfInBounds j u) { cls:=.type "list", data:=.seq its.toArray n }={ cls:=.type "list", data:=.seq (its.set j u).toArray n }:=by
  simp [Obj.mapSeq]
theorem Inv.lst {pins:List (Addr×Obj)} {σ:St} {H:Hp} {s:Shared} {p:Addr} {xs:List V} (I:Inv X pins σ H s) (h:H p=some (.lst xs)) :
    ∃ (its:List Value) (n:Nat),Vals xs its∧s.heap.get? p=some { cls:=.type "list", data:=.seq its.toArray n }∧xs.length≤sizeLine:=by
  obtain ⟨z,its,n,r,e⟩:=I.hok p _ h
  exact ⟨its,n,r,e,z⟩
theorem Inv.lstUpd {pins:List (Addr×Obj)} {σ:St} {H:Hp} {s:Shared} {p:Addr} {xs ys:List V} {its its':List Value} {n n':Nat} {f:Obj→Obj} (I:Inv X pins σ H s) (h:H p=some (.lst xs))
    (ho:s.heap.get? p=some { cls:=.type "list", data:=.seq its.toArray n }) (hf:f { cls:=.type "list", data:=.seq its.toArray n }={ cls:=.type "list", data:=.seq its'.toArray n' }) (r:Vals ys its') (hz:ys.length≤sizeLine) (t:Nat) :
    Inv X pins σ (upd H p (.lst ys)) { s with heap:=s.heap.update p f,toks:=t }:=by
  have e:(s.heap.update p f).get? p=some { cls:=.type "list", data:=.seq its'.toArray n' }:=by
    rw [Heap.get?_update_self f ho (by rw [hf] <;> rfl),hf]
  refine I.write (x:=p) (e:=p) (by rw [h]; trivial) (.inl rfl) (fun b u hb q=>(Heap.get?_update_other _ _ (Ne.symm hb)).trans q) ⟨_,e⟩ ?_
  exact ⟨hz,its',n',r,e⟩
def rSetL:V→V→V→Hp→(Hp→Prop)→Prop:=fun o i v H Q=>∃ p xs k j,o=.ref p∧i=.int k∧H p=some (.lst xs)∧ixN xs.length k=some j∧Q (upd H p (.lst (xs.set j v)))
theorem set_list:PSet X rSetL:=by
  intro pins s σ H o i v ov iv u Q I ro ri rv h
  obtain ⟨p,xs,k,j,rfl,rfl,hp,hj,q⟩:=h
  cases ro
  obtain ⟨t,rfl⟩:=ri
  obtain ⟨its,n,r,ho,hz⟩:=I.lst hp
  obtain ⟨h1,h2,h3,h4⟩:=ixN_seq hj
  have hl:=r.length
  have hn:=line63
  have I':Inv X pins σ (upd H p (.lst (xs.set j v))) { s with heap:=s.heap.update p (Obj.mapSeq (·.setIfInBounds j u)) } :=
    I.lstUpd hp ho (mapSeq_set its n j u) (r.set rv j) (by rw [List.length_set]; exact hz) s.toks
  by_cases h0:0≤k
  · have hk:k.toNat=j:=by
      rw [seqIndex_of h0 h4] at h1
      exact Option.some.inj h1
    exact PySem.W.ki_setAt ho h0 (by omega) (by rw [List.size_toArray,← hl]; exact h4) (by rw [hk]; exact ⟨_,I',q⟩)
  · have hk:(k+(its.toArray.size:Int)).toNat=j:=by
      rw [seqIndex_neg (by omega) h3] at h1
      rw [List.size_toArray,← hl]
      exact Option.some.inj h1
    exact PySem.W.ki_setBack ho (by omega) (by rw [List.size_toArray,← hl]; exact h3) (by omega) (by rw [hk]; exact ⟨_,I',q⟩)
theorem slice_bounds (lo hi:Option Int) (n:Nat):(sliceBounds lo hi none n).1=((HT.sIx n 0 lo:Nat):Int)∧(sliceBounds lo hi none n).2.1=((HT.sIx n n hi:Nat):Int)∧(sliceBounds lo hi none n).2.2=1:=by
  refine ⟨?_,?_,rfl⟩
  · cases lo with
    | none=>simp [sliceBounds,HT.sIx]
    | some i =>
      simp only [sliceBounds,HT.sIx,Option.getD_none,show (1:Int) > 0 by decide,if_true]
      by_cases h:i<0
      · simp only [h,if_true] <;> omega
      · simp only [h,if_false] <;> omega
  · cases hi with
    | none=>simp [sliceBounds,HT.sIx]
    | some i =>
      simp only [sliceBounds,HT.sIx,Option.getD_none,show (1:Int) > 0 by decide,if_true]
      by_cases h:i<0
      · simp only [h,if_true] <;> omega
      · simp only [h,if_false] <;> omega
theorem slicePick_cut (its:List Value) (lo hi:Option Int):slicePick its.toArray lo hi none=((its.drop (HT.sIx its.length 0 lo)).take (HT.sIx its.length its.length hi-HT.sIx its.length 0 lo)).toArray:=by
  obtain ⟨h1,h2,h3⟩:=slice_bounds lo hi its.toArray.size
  unfold slicePick
  rw [h1,h2,h3]
  simp only [sliceRange_one,pick_run,List.size_toArray] <;> rfl
def rSlL (K:PySem.W.Frag):V→Option Int→Option Int→Hp→VK→Prop:=fun x lo hi H Q=>∃ a xs,x=.ref a∧SqL K H a xs∧∀ p,H p=none→Q (.ref p) (upd H p (.lst (cutV xs lo hi)))
theorem sl_list:SlR X (rSlL X.K):=by
  intro pins s σ H x v vl vu lo hi sl Q I rx hs pl pu h
  obtain ⟨a,xs,rfl,hx,q⟩:=h
  cases rx
  obtain ⟨its,r,ht,hz⟩:=I.list hx
  have hlen:=r.length
  refine ⟨"list", _,slot_list_getitem.lookup,ht.isList.typeIs,?_⟩
  refine wpAny_getItem_list_slice ht.isList hs pl pu .none (by simp) ?_ (by rw [List.size_toArray] <;> omega)
  rw [slicePick_cut,← hlen]
  refine ⟨.ref s.heap.objs.size,_,I.laid (t':=s.toks) (o:=.lst (cutV xs lo hi)) (fun b ob q=>Heap.get?_push_of_some _ q) (Nat.le_refl _) ?_,rfl,q _ (I.hok.fresh (Nat.le_refl _))⟩
  exact ⟨Nat.le_trans (cutV_length xs lo hi) hz,_,0,(r.drop (HT.sIx xs.length 0 lo)).take (HT.sIx xs.length xs.length hi-HT.sIx xs.length 0 lo),Heap.get?_push_size _ rfl⟩
def flatV:V→Bool
  | .non=>true
  | .bl _=>true
  | .int _=>true
  | .str _=>true
  | _=>false
def eqV:V→V→Bool
  | .non,.non=>true
  | .bl a,.bl b=>a==b
  | .bl a,.int b=>(if a then 1 else 0)==b
  | .int a,.bl b=>a==(if b then 1 else 0)
  | .int a,.int b=>a==b
  | .str a,.str b=>a==b
  | _,_=>false
theorem eqAt_V {A:Around} {s:Shared} {y x:V} {u v:Value} (ry:RelV y u) (rx:RelV x v) (fy:flatV y=true) (fx:flatV x=true):SeqAt.EqAt A s u v (eqV y x):=by
  cases y with
  | non =>
    cases ry
    cases x with
    | non=>cases rx; exact SeqAt.EqAt.same _
    | bl b=>cases rx; exact SeqAt.EqAt.none_bool b
    | int b=>obtain ⟨t,rfl⟩:=rx; exact SeqAt.EqAt.none_int b t
    | str b=>obtain ⟨t,rfl⟩:=rx; exact SeqAt.EqAt.none_str b t
    | _=>exact absurd (show false=true from fx) Bool.false_ne_true
  | bl a =>
    cases ry
    cases x with
    | non=>cases rx; exact SeqAt.EqAt.bool_none a
    | bl b=>cases rx; exact SeqAt.EqAt.bool_bool a b
    | int b=>obtain ⟨t,rfl⟩:=rx; exact SeqAt.EqAt.bool_int a b t
    | str b=>obtain ⟨t,rfl⟩:=rx; exact SeqAt.EqAt.bool_str a b t
    | _=>exact absurd (show false=true from fx) Bool.false_ne_true
  | int a =>
    obtain ⟨t',rfl⟩:=ry
    cases x with
    | non=>cases rx; exact SeqAt.EqAt.int_none a t'
    | bl b=>cases rx; exact SeqAt.EqAt.int_bool a t' b
    | int b=>obtain ⟨t,rfl⟩:=rx; exact SeqAt.EqAt.int_int a t' b t
    | str b=>obtain ⟨t,rfl⟩:=rx; exact SeqAt.EqAt.int_str a t' b t
    | _=>exact absurd (show false=true from fx) Bool.false_ne_true
  | str a =>
    obtain ⟨t',rfl⟩:=ry
    cases x with
    | non=>cases rx; exact SeqAt.EqAt.str_none a t'
    | bl b=>cases rx; exact SeqAt.EqAt.str_bool a t' b
    | int b=>obtain ⟨t,rfl⟩:=rx; exact SeqAt.EqAt.str_int a t' b t
    | str b=>obtain ⟨t,rfl⟩:=rx; exact SeqAt.EqAt.str_str a t' b t
    | _=>exact absurd (show false=true from fx) Bool.false_ne_true
  | _=>exact absurd (show false=true from fy) Bool.false_ne_true
def eqU (x:V) (u:Value):Bool:=match u with
  | .none=>eqV .non x
  | .bool b=>eqV (.bl b) x
  | .int i _=>eqV (.int i) x
  | .str z _=>eqV (.str z) x
  | _=>false
theorem eqU_of {x y:V} {u:Value} (r:RelV y u) (f:flatV y=true):eqU x u=eqV y x:=by
  cases y with
  | non=>cases r; rfl
  | bl b=>cases r; rfl
  | int i=>obtain ⟨t,rfl⟩:=r; rfl
  | str z=>obtain ⟨t,rfl⟩:=r; rfl
  | _=>exact absurd (show false=true from f) Bool.false_ne_true
theorem any_eqU {x:V}:∀ {xs:List V} {us:List Value},Vals xs us→xs.all flatV=true→us.any (eqU x)=xs.any fun y=>eqV y x
  | _,_,.nil,_=>rfl
  | y::xs,u::us,.cons r t,f=>by
    rw [List.all_cons,Bool.and_eq_true] at f
    rw [List.any_cons,List.any_cons,eqU_of r f.1,any_eqU t f.2]
theorem mem_eqAt {A:Around} {s:Shared} {x:V} {v:Value} (rx:RelV x v) (fx:flatV x=true):∀ {xs:List V} {us:List Value},Vals xs us→xs.all flatV=true→∀ u∈us,SeqAt.EqAt A s u v (eqU x u)
  | _,_,.nil,_=>fun u hu=>by cases hu
  | y::xs,u::us,.cons r t,f=>fun u' hu=>by
    rw [List.all_cons,Bool.and_eq_true] at f
    rcases List.mem_cons.mp hu with rfl | hu
    · rw [eqU_of r f.1]; exact eqAt_V r rx f.1 fx
    · exact mem_eqAt rx fx t f.2 u' hu
def inV (x:V) (xs:List V):Bool:=xs.any fun y=>eqV y x
def rIn (K:PySem.W.Frag) (neg:Bool):R2:=fun x y H Q=>∃ p xs,y=.ref p∧(SqL K H p xs∨SqT K H p xs)∧flatV x=true∧xs.all flatV=true∧Q (.bl (if neg then !inV x xs else inV x xs)) H
theorem op_notIn_seq:OpR X (compareOp .NotIn) (rIn X.K true):=by
  intro pins s σ H x y v u Q I rx ry h
  obtain ⟨p,xs,rfl,hq,fx,fs,q⟩:=h
  cases ry
  rcases hq with hq | hq
  · obtain ⟨its,r,pl,hz⟩:=I.list hq
    refine SeqAt.notIn_listAt (eqU x) pl.isList (fun w hw=>mem_eqAt rx fx r fs w (by simpa using hw)) ⟨.bl _,H,I,rfl,?_⟩
    rw [show its.toArray.any (eqU x)=its.any (eqU x) by simp,any_eqU r fs]
    exact q
  · obtain ⟨its,r,pl,hz⟩:=I.tuple hq
    refine SeqAt.notIn_tupleAt (eqU x) pl (fun w hw=>mem_eqAt rx fx r fs w (by simpa using hw)) ⟨.bl _,H,I,rfl,?_⟩
    rw [show its.toArray.any (eqU x)=its.any (eqU x) by simp,any_eqU r fs]
    exact q
theorem call_list_of:CallR X (.type "list") (fun xs H Q=>∃ p ys,xs=[.ref p]∧(SqL X.K H p ys∨SqT X.K H p ys)∧∀ l,H l=none→Q (.ref l) (upd H l (.lst ys))):=by
  intro pins s σ H xs us Q I r h
  obtain ⟨p,ys,rfl,hq,q⟩:=h
  obtain ⟨u,rfl,rx⟩:=vals1 r
  cases rx
  have fin:∀ (its:List Value),Vals ys its→ys.length≤sizeLine→∀ (h':Heap) (c':Nat),(∀ b o',s.heap.get? b=some o'→h'.get? b=some o') →
      h'.get? s.heap.objs.size=some { cls:=.type "list", dict:=none,data:=.seq its.toArray c',slots:=#[] }→EP X pins σ Q (.ref s.heap.objs.size) { s with heap:=h' }:=fun its r' hz h' c' kp e =>
    ⟨.ref s.heap.objs.size,_,I.laid (t':=s.toks) kp (Nat.le_refl _) (show ObjOk X.prog X.w _ h' _ (.lst ys) from ⟨hz,its,c',r',e⟩),rfl,q _ (I.hok.fresh (Nat.le_refl _))⟩
  rcases hq with hq | hq
  · obtain ⟨its,r',pl,hz⟩:=I.list hq
    have hlen:=r'.length
    obtain ⟨o,ho,hc,n,hd⟩:=pl.isList
    exact call_list_seq p (.inl rfl) ho hc hd (fun h' c' kp e=>fin its r' hz h' c' kp e) (by simp only [List.size_toArray] <;> omega)
  · obtain ⟨its,r',pl,hz⟩:=I.tuple hq
    have hlen:=r'.length
    obtain ⟨o,ho,hc,n,hd⟩:=pl
    exact call_list_seq p (.inr rfl) ho hc hd (fun h' c' kp e=>fin its r' hz h' c' kp e) (by simp only [List.size_toArray] <;> omega)
def tyV (K:PySem.W.Frag) (T:String) (x:V) (H:Hp):Prop:=match x with
  | .str _=>T = "str"
  | .int _=>T = "int"
  | .ref p=>(T = "list" ∧ ∃ xs,SqL K H p xs)∨(T = "tuple" ∧ ∃ o,K.lookup p=some o∧o.cls=.type "tuple" ∧ o.dict=none) ∨
      (T = "dict" ∧ ((∃ kvs,H p=some (.dK kvs))∨∃ kvs,H p=some (.dT kvs)))∨(T = "set" ∧ ∃ S n,H p=some (.set S n))
  | _=>False
theorem tyV_is {pins:List (Addr×Obj)} {σ:St} {H:Hp} {s:Shared} {T:String} {x:V} {v:Value} (I:Inv X pins σ H s) (r:RelV x v) (ty:tyV X.K T x H) :
    s.TypeIs v T∧∀ a,v=.ref a→∃ ob,s.heap.get? a=some ob∧ob.dict=none:=by
  cases x with
  | str z =>
    obtain ⟨t,rfl⟩:=r
    cases (show T = "str" from ty)
    exact ⟨typeIs_str s z t,fun _ e=>nomatch e⟩
  | int i =>
    obtain ⟨t,rfl⟩:=r
    cases (show T = "int" from ty)
    exact ⟨typeIs_int s i t,fun _ e=>nomatch e⟩
  | ref p =>
    cases r
    rcases ty with ⟨rfl,xs,hq⟩ | ⟨rfl,o,hk,hc,hd⟩ | ⟨rfl,hk⟩ | ⟨rfl,S,n,hk⟩
    · obtain ⟨its,_,pl,_⟩:=I.list hq
      refine ⟨pl.isList.typeIs,fun a e=>?_⟩
      cases e
      obtain ⟨o,n,e,c,hd,_⟩:=pl
      exact ⟨o,e,hd⟩
    · refine ⟨⟨o,I.kIn p o hk,hc⟩,fun a e=>?_⟩
      cases e
      exact ⟨o,I.kIn _ o hk,hd⟩
    · have z:∃ o,s.heap.get? p=some o∧o.ExactDict:=by
        rcases hk with ⟨kvs,hk⟩ | ⟨kvs,hk⟩
        · obtain ⟨_,_,_,_,o,_,_,e,ex,_⟩:=I.hok p _ hk
          exact ⟨o,e,ex⟩
        · obtain ⟨_,_,_,_,o,_,_,e,ex,_⟩:=I.hok p _ hk
          exact ⟨o,e,ex⟩
      obtain ⟨o,e,ex⟩:=z
      refine ⟨⟨o,e,ex.1⟩,fun a e2=>?_⟩
      cases e2
      exact ⟨o,e,ex.2.1⟩
    · obtain ⟨o,_,_,_,e,ex,_⟩:=I.hok p _ hk
      refine ⟨⟨o,e,ex.1⟩,fun a e2=>?_⟩
      cases e2
      exact ⟨o,e,ex.2.1⟩
  | _=>exact False.elim ty
def tBM (K:PySem.W.Frag) (T:String) (r:V→List V→Hp→VK→Prop) (to:TE) (t:TA):TE:=fun σ H Q=>to σ H fun x H1=>tyV K T x H1∧t σ H1 fun xs H2=>r x xs H2 Q
variable {o e:Expr} {es:List Expr} {to:TE} {t:TA} {name:Str} {apos cpos:Pos} {T id:String} {r:V→List V→Hp→VK→Prop}
theorem pe_bm (pa:PlainAttrs T) (slot:Slot T name id) (hty:typeOf (.builtin id)=pure (.type "method_descriptor")) (hm:MtR X id r) (ho:PE X o to) (ha:PA X (e::es) t)
    (hbase:attributeBase o name X.env (eval o X.env)=eval o X.env:=by rfl)
    (hfew:((backTo cpos (starEach (e::es) X.env)).all (fun x=>!x.1)&&(backToKw cpos (keywordEach [] X.env)).all (fun x=>x.1.isSome)
      && decide ((e::es).length+([]:List Keyword).length+(if ([]:List Keyword).isEmpty then 0 else 1)<30))=true:=by rfl)
    (hline:(apos.endLine==cpos.line)=true:=by rfl) (hs:starEach (e::es) X.env=(false,eval e X.env)::starEach es X.env:=by rfl) (hplain:(backTo cpos (starEach es X.env)).any (·.1)=false:=by rfl) :
    PE X (.Call (.Attribute o name apos) (e::es) [] cpos) (tBM X.K T r to t):=by
  intro pins s σ H Q I h
  refine wpAny_Call_method_late hbase hfew hline rfl (thn (ho pins s σ H _ I h) fun v s1 ⟨x,H1,I1,r1,ty,q1⟩=>?_)
  obtain ⟨h1,h2⟩:=tyV_is I1 r1 ty
  refine ⟨T,id,pa,slot,hty,h1,h2,?_⟩
  have hA:=ha cpos pins s1 σ H1 _ I1 q1
  rw [hs] at hA ⊢
  refine Calls.callWith_builtin (by show (false || (backTo cpos (starEach es X.env)).any (·.1))=false; rw [hplain] <;> rfl) (Calls.evalArgs_plain ?_)
  exact thn hA fun us s2 ⟨vs,H2,I2,r2,q2⟩=>hm pins s2 σ H2 x vs v us Q I2 r1 r2 q2
end
end L2
namespace L2
open PySem PySem.Spec PyProof.Rows
def MtM (X:Cx) (id:String) (r:V→List V→Hp→VK→Prop):Prop :=
  ∀ (pins:List (Addr×Obj)) (s:Shared) (σ:St) (H:Hp) (x:V) (xs:List V) (v:Value) (us:List Value) (Q:VK),Inv X pins σ H s→RelV x v→Vals xs us→r x xs H Q →
    wpAny (model X.prog X.w) X.A (call (.builtin id) (v::us)) (EP X pins σ Q) X.xe s
theorem Vals.one:∀ {x:V} {us:List Value},Vals [x] us→∃ u,us=[u]∧RelV x u
  | _,_,.cons r .nil=>⟨_,rfl,r⟩
theorem Vals.rep {xs:List V} {us:List Value} (h:Vals xs us):∀ k:Nat,Vals (List.replicate k xs).flatten (List.replicate k us).flatten
  | 0=>.nil
  | k+1=>by
    rw [List.replicate_succ,List.replicate_succ,List.flatten_cons,List.flatten_cons]
    exact Vals.append h (Vals.rep h k)
theorem foldl_rep (its:List Value):∀ (k:Nat) (acc:List Value),
    List.foldl (fun x1 x2=>x1++x2) acc.toArray (List.replicate k its.toArray)=(acc++(List.replicate k its).flatten).toArray
  | 0,acc=>by simp
  | k+1,acc=>by
    have e:acc.toArray++its.toArray=(acc++its).toArray:=by simp
    have e2:(acc++its)++(List.replicate k its).flatten=acc++(List.replicate (k+1) its).flatten:=by
      rw [List.replicate_succ,List.flatten_cons,List.append_assoc]
    rw [← e2,← foldl_rep its k (acc++its),← e,List.replicate_succ,List.foldl_cons]
section
variable {X:Cx} {pins:List (Addr×Obj)} {σ:St} {H:Hp} {s:Shared} {l b:Addr} {xs ys zs:List V}
theorem Inv.lset {its its':List Value} {n:Nat} {f:Array Value→Array Value} {t':Nat} (I:Inv X pins σ H s) (hH:H l=some (.lst xs))
    (e:s.heap.get? l=some { cls:=.type "list", data:=.seq its.toArray n }) (hf:f its.toArray=its'.toArray) (hv:Vals ys its') (hz:ys.length≤sizeLine) :
    Inv X pins σ (upd H l (.lst ys)) { s with heap:=s.heap.update l (Obj.mapSeq f),toks:=t' }:=by
  have q:=PySem.IsL.update e f
  rw [hf] at q
  refine I.write (x:=l) (e:=l) (by rw [hH]; exact trivial) (.inl rfl) (fun b' u hb hu=>(Heap.get?_update_other s.heap (Obj.mapSeq f) (Ne.symm hb)).trans hu) ⟨_,q⟩ ?_
  exact ⟨hz,its',_,hv,q⟩
theorem Inv.lnew {its:List Value} {t':Nat} (I:Inv X pins σ H s) (hv:Vals ys its) (hz:ys.length≤sizeLine) :
    Inv X pins σ (upd H s.heap.objs.size (.lst ys)) { s with heap:=s.heap.push { cls:=.type "list", data:=.seq its.toArray },toks:=t' } :=
  I.laid (fun _ _ q=>Heap.get?_push_of_some _ q) (Nat.le_refl _) ⟨hz,its,0,hv,Heap.get?_push_size _ rfl⟩
theorem Inv.fresh (I:Inv X pins σ H s):H s.heap.objs.size=none:=I.hok.fresh (Nat.le_refl _)
theorem Inv.lstM (I:Inv X pins σ H s) (hH:H l=some (.lst xs)):xs.length≤sizeLine∧∃ (its:List Value) (n:Nat),Vals xs its∧xs.length=its.length∧s.heap.get? l=some { cls:=.type "list", data:=.seq its.toArray n }:=by
  obtain ⟨z,its,n,r,e⟩:=I.hok l _ hH
  exact ⟨z,its,n,r,r.length,e⟩
theorem notLongL {n:Nat} (h:n≤sizeLine):Builtin.List.listTooLong n=false:=by
  unfold Builtin.List.listTooLong
  exact decide_eq_false (by omega)
end
section
variable {X:Cx}
def rAppend:V→List V→Hp→VK→Prop:=fun x vs H Q=>∃ l xs y,x=.ref l∧vs=[y]∧H l=some (.lst xs)∧xs.length<sizeLine∧Q .non (upd H l (.lst (xs++[y])))
theorem mt_append:MtM X "list.append" rAppend:=by
  intro pins s σ H x vs v us Q I rx rv h
  obtain ⟨l,xs,y,rfl,rfl,hH,hz,q⟩:=h
  cases rx
  obtain ⟨u,rfl,ru⟩:=rv.one
  obtain ⟨z,its,n,r,hl,e⟩:=I.lstM hH
  refine call_meets F.slot_list_append ⟨_,e,rfl⟩ F.entry_list_append (F.args_list_append_2 _ _) (PySem.list_append l its.toArray n u (by rw [List.size_toArray]; omega)) ⟨e,?_⟩
  refine ⟨.non,_,I.lset (its':=its++[u]) hH e (by simp) (r.append (.cons ru .nil)) ?_,rfl,q⟩
  rw [List.length_append,List.length_singleton]
  omega
def rRep:R2:=fun x y H Q=>∃ l k xs,x=.ref l∧y=.int k∧H l=some (.lst xs)∧-(2 ^ 63)≤k∧k<2 ^ 63∧xs.length*k.toNat≤sizeLine ∧
  ∀ p,H p=none→Q (.ref p) (upd H p (.lst (List.replicate k.toNat xs).flatten))
theorem len_rep {α:Type} (xs:List α) (k:Nat):(List.replicate k xs).flatten.length=k*xs.length:=by
  induction k with
  | zero=>simp
  | succ k ih=>rw [List.replicate_succ,List.flatten_cons,List.length_append,ih,Nat.succ_mul,Nat.add_comm]
theorem op_rep:OpR X (binaryOp .Mult) rRep:=by
  intro pins s σ H x y v u Q I rx ry h
  obtain ⟨l,k,xs,rfl,rfl,hH,h1,h2,hz,q⟩:=h
  cases rx
  obtain ⟨t,rfl⟩:=ry
  obtain ⟨z,its,n,r,hl,e⟩:=I.lstM hH
  have hlen:its.toArray.size*k.toNat≤sizeLine:=by rw [List.size_toArray,← hl]; exact hz
  have hcap:¬ its.toArray.size*k.toNat > (2 ^ 63-1) / 8:=by
    have:(sizeLine:Nat)≤(2 ^ 63-1) / 8:=by decide
    omega
  have hfit:¬ (!Builtin.List.listFitsIndex k)=true:=by
    rw [fitsIndex_both h1 h2]
    exact Bool.false_ne_true
  have hlong:¬ Builtin.List.listTooLong (its.toArray.size*k.toNat)=true:=by
    rw [notLongL hlen]
    exact Bool.false_ne_true
  have hnew:List.foldl (fun x1 x2=>x1++x2) #[] (List.replicate (if its.toArray.isEmpty=true then 0 else k.toNat) its.toArray)=(List.replicate k.toNat its).flatten.toArray:=by
    have f0:∀ m:Nat,List.foldl (fun x1 x2=>x1++x2) #[] (List.replicate m its.toArray)=(List.replicate m its).flatten.toArray:=fun m=>by
      have:=foldl_rep its m []
      rw [List.nil_append] at this
      exact this
    rw [f0]
    cases its with
    | nil=>simp
    | cons a r'=>rw [if_neg (by simp)]
  refine wpAny_binaryOp_repeat_ref (T := "list") (U := "int") (by decide) ⟨_,e,rfl⟩ (fun s'=>typeIs_int s' k t) noFill_list_mul F.fills_int_mul F.slot_int_rmul repeat_list F.slot_int_index.lookup
    (call_meets F.slot_int_rmul (typeIs_int s k t) F.entry_int_rmul (F.args_int_rmul_2 _ _) (int___rmul___int_list k t l its.toArray n)
      ⟨e,rfl,⟨_,e,rfl⟩,call_meets F.slot_list_mul ⟨_,e,rfl⟩ F.entry_list_mul (F.args_list_mul_2 _ _) (AutoListH.list___mul___list_int_3 l its.toArray n k t hfit hcap hlong) ⟨e,?_⟩⟩)
  rw [hnew]
  exact ⟨.ref _,_,I.lnew (t':=s.toks) (r.rep k.toNat) (by rw [len_rep,Nat.mul_comm]; exact hz),rfl,q _ I.fresh⟩
end
section
variable {prog:Program} {w:World} {A:Around} {E:Value→Shared→Prop} {s:Shared}
end
section
variable {X:Cx}
end
end L2
namespace Att
open PySem PySem.W PySem.Calls PyProof.Rows
theorem ints_of_wellAll {P:Params} {h:Heap}:∀ (ns:List Int) (vs:List Value),WellAll P h vs (ns.map WData.int)→IntsAre vs ns:=by
  intro ns
  induction ns with
  | nil =>
    intro vs w
    rw [List.map_nil] at w
    cases w
    exact .nil
  | cons n ns ih =>
    intro vs w
    rw [List.map_cons] at w
    cases w with
    | cons a b =>
      cases a
      exact .cons _ _ (ih _ b)
theorem script_of {l:OpenLaw} {n:Nat} (hn:l.most=some n) {P:Params} {h:Heap} {args:List WData} {vals:List Value}
    (hpre:l.row.toRowW.claim.pre args=true) (hwl:WellAll P h vals args) :
    ∃ a vs ns,vals=[Value.ref a]∧args=[WData.list (ns.map WData.int)]∧h.get? a=some { cls:=.type "list", data:=.seq vs.toArray }∧IntsAre vs ns∧ns.length≤n:=by
  have hsh:WShape.hasAll [] args [.list .int]=true:=(pre_splitW hpre).1
  have hc:l.pre.holds [] { args:=args }=true:=(pre_splitW hpre).2
  obtain ⟨d,r,rfl,h1,h2⟩:=hasAllW_cons hsh
  obtain rfl:=hasAllW_nil h2
  obtain ⟨xs,rfl,h3⟩:=hasW_list h1
  obtain ⟨ns,rfl⟩:=items_int h3
  have hlen:ns.length≤n:=by
    unfold OpenLaw.pre at hc
    have h4:(WTm.not (.lt (.lit (.int (n:Int))) (.len (.arg 0)))).holds [] { args:=[.list (ns.map .int)] }=true:=by
      have h4:=(holds_andW hc).1
      rw [hn] at h4
      exact h4
    have h5:=condW_of h4 (w_not (w_lt w_lit (w_len_list (w_arg rfl))))
    rw [List.length_map] at h5
    refine Nat.le_of_not_lt fun q=>?_
    have q':(n:Int)<((ns.length:Nat):Int):=by omega
    first
      | (rw [decide_eq_true q'] at h5; exact absurd h5 (by decide))
      | (simp at h5; omega)
  cases hwl with
  | cons w1 w2 =>
    cases w2
    cases w1 with
    | list ho hall=>exact ⟨_,_,ns,rfl,rfl,ho,ints_of_wellAll ns _ hall,hlen⟩
theorem post_true (l:OpenLaw) (args:List WData):l.row.toRowW.claim.post args (.bool true) args=true :=
  postW_of (r:=l.row.toRowW) (X:=(true==true))
    (show WShape.has [] (.bool true) .bool=true by first | rfl | decide | simp [WShape.has,WShape.arms,WShape.armsAll])
    (show (WTm.eq .res (.lit (.bool true))).value [] { args:=args,res:=some (.bool true),after:=args }=some (.bool (true==true)) from w_eq_bool (w_res rfl) w_lit) rfl
section
variable {prog:Program} {w:World} {A:Around} {E:Value→Shared→Prop} {s:Shared} {K:Frag}
def ledger (h:Heap) (L d:Addr):List (Addr×Obj):=(List.range h.objs.size).filterMap fun a=>if a=L∨a=d then none else (h.get? a).map fun o=>(a,o)
end
end Att
namespace L2
open PySem PySem.Spec PyProof.Rows
theorem vals_ints:∀ {vs:List Value} {ns:List Int},IntsAre vs ns→Vals (ns.map V.int) vs
  | _,_,.nil=>.nil
  | _,_,.cons n t h=>.cons ⟨t,rfl⟩ (vals_ints h)
def Only (H:Hp):Prop:=∀ b,H b=none∨∃ o xs,H b=some (.frz o (.lst xs))
theorem law_call {P:Program} {w:World} {K:PySem.W.Frag} {mg mb:Str→Option Value} {CX:CXT} {k:Nat} {fa a:Addr} {fd:FuncData} {x:Str} {sp:Sp} {s₁:Shared} {vs:List Value} {ns:List Int}
    (KX:K.In s₁.heap) (hns:s₁.heap.Ns mainGlobals mg) (hb:s₁.heap.Ns builtinsNs mb) (hbb:∀ x:Str,x ≠ "__name__" → mb x=bootBuiltins x) (hlim:s₁.heap.NoLimit) (hg:s₁.gens=#[])
    (ha:s₁.heap.get? a=some { cls:=.type "list", data:=.seq vs.toArray }) (hi:IntsAre vs ns) (hl:ns.length≤sizeLine) (hr:Room k callerA)
    (F:∀ base:Heap,K.In base→base.Ns mainGlobals mg→FnOk P w K mg base CX k fa fd [x] sp) (hbind:∀ (s:Shared) (u:Value),BindsTo s fd ⟨[u],[]⟩ [(x,u)])
    (hsp:∀ H:Hp,Only H→SqL K H a (ns.map V.int)→sp [.ref a] H (fun v _=>v=.bl true) fun _ _ _=>False)
    (hCX:∀ H e s',CX [] H s₁ (fun _ _ _=>False) e s'→False) :
    codeAny (model P w) callerA (.call (.ref fa) ⟨[.ref a],[]⟩) (fun r s'=>r=.ok (.ret (.bool true))∧OldK s₁.heap s'.heap∧s'.os=s₁.os∧AllBare s'.gens) s₁:=by
  have rv:=vals_ints hi
  have lenV:=hi.length
  have core:∀ H:Hp,Only H→SqL K H a (ns.map V.int)→HOk P w H s₁.heap→(∀ b,H b≠none→b=a)→(H a≠none→K.lookup a=none) →
      codeAny (model P w) callerA (.call (.ref fa) ⟨[.ref a],[]⟩) (fun r s'=>r=.ok (.ret (.bool true))∧OldK s₁.heap s'.heap∧s'.os=s₁.os∧AllBare s'.gens) s₁:=by
    intro H hO hS hok hA hK
    have base_of:∀ {b:Addr} {o:Obj},s₁.heap.get? b=some o→H b=none→(hidT s₁.heap H).get? b=some o:=fun e n=>hidT_get e n
    have noA:∀ {b:Addr} {o:Obj} {es:Array DictEntry} {ep:Nat},s₁.heap.get? b=some o→o.data=.dict es ep→H b=none:=fun {b o es ep} e d=>by
      cases q:H b with
      | none=>rfl
      | some u =>
        have e':b=a:=hA b (by rw [q]; simp)
        subst e'
        rw [ha] at e; cases e
        have d':Data.seq vs.toArray _=Data.dict es ep:=d
        cases d'
    have nsK:∀ {b:Addr} {m:Str→Option Value},s₁.heap.Ns b m→(hidT s₁.heap H).Ns b m:=fun {b m} ⟨o,es,ep,e,d,r⟩=>⟨o,es,ep,base_of e (noA e d),d,r⟩
    have hKb:K.In (hidT s₁.heap H):=fun b o e=>base_of (KX b o e) (by
      cases q:H b with
      | none=>rfl
      | some u =>
        have e':b=a:=hA b (by rw [q]; simp)
        subst e'
        rw [hK (by rw [q]; simp)] at e; cases e)
    have hM:Mod K mg (hidT s₁.heap H):=⟨hKb,nsK hns,⟨mb,nsK hb,hbb⟩,let ⟨mc,h1,h2⟩:=hlim; ⟨mc,nsK h1,h2⟩⟩
    have e0:Env0 P w K mg (hidT s₁.heap H) callerA [] s₁ H:=⟨rfl,hM,fun b o e=>of_hidT e,Nat.le_of_eq (hidT_size _ _),trivial,fun b hb=>absurd (show b∈([]:List Addr) from hb) (by simp),hok,.of_eq hg⟩
    refine codeAny_mono ((F _ hKb (nsK hns)).run callerA [] s₁ H ⟨[.ref a],[]⟩ [.ref a] [.ref a] _ _ hr e0 (hbind s₁ (.ref a)) (.cons rfl .nil) (hsp H hO hS)) fun r s' h=>?_
    cases r with
    | error e=>exact (hCX H e s' h).elim
    | ok fl =>
      cases fl with
      | next=>exact False.elim h
      | brk=>exact False.elim h
      | cont=>exact False.elim h
      | ret u =>
        obtain ⟨v,H',os,bare,un,hok',r',q⟩:=h
        have q':v=.bl true:=q
        subst q'
        obtain rfl:u=Value.bool true:=r'
        refine ⟨rfl,OldK.of_keep fun b o e=>?_,os,bare⟩
        cases q:H b with
        | none=>exact un.keep b o e q (by intro z; exact absurd (show b∈([]:List Addr) from z) (by simp)) (by simp)
        | some u =>
          rcases hO b with z | ⟨ob,xs,z⟩
          · rw [q] at z; cases z
          · have z2:=un.frzs b ob _ z
            obtain ⟨e1,_⟩:=hok b _ z
            obtain ⟨e2,_⟩:=hok' b _ z2
            rw [e] at e1; cases e1
            exact e2
  cases hk:K.lookup a with
  | some o =>
    have e:=KX a o hk
    rw [ha] at e
    cases e
    refine core (fun _=>none) (fun _=>.inl rfl) (.inr ⟨_,vs.toArray,_,hk,rfl,rfl,rfl,by rw [List.size_toArray,lenV]; exact hl,by simpa using rv⟩) (fun b u z=>by have z':(none:Option HO)=some u:=z; cases z') (fun b z=>absurd rfl z) fun z=>absurd rfl z
  | none =>
    refine core (fun b=>if b=a then some (.frz { cls:=.type "list", data:=.seq vs.toArray } (.lst (ns.map V.int))) else none) (fun b=>?_) (.inl (.inr ⟨{ cls:=.type "list", data:=.seq vs.toArray },if_pos rfl⟩)) (fun b u z=>?_) (fun b z=>?_) fun _=>hk
    · by_cases hb:b=a
      · exact .inr ⟨_,_,if_pos hb⟩
      · exact .inl (if_neg hb)
    · by_cases hb:b=a
      · have z':=(if_pos hb).symm.trans z
        cases z'
        subst hb
        exact ⟨ha,by rw [List.length_map]; exact hl,vs,_,rv,ha⟩
      · have z':=(if_neg hb).symm.trans z
        cases z'
    · by_cases hb:b=a
      · exact hb
      · exact absurd (if_neg hb) z
end L2
namespace L2
open PySem PySem.Spec PyProof.Rows
abbrev KOf {K:PySem.W.Frag} {h:Heap} (_:K.In h):PySem.W.Frag:=K
end L2
namespace L2
open PySem PySem.Spec PyProof.Rows
def defArgs (s:Stmt):Arguments:=match s with
  | .FunctionDef _ a _ _ _ _ _ _ _ _=>a
  | _=>{ posonlyargs:=[],args:=[],vararg:=none,kwonlyargs:=[],kw_defaults:=[],kwarg:=none,defaults:=[] }
def defBody (s:Stmt):List Stmt:=match s with
  | .FunctionDef _ _ b _ _ _ _ _ _ _=>b
  | _=>[]
def defScope (s:Stmt):Scope:=match s with
  | .FunctionDef _ _ _ _ _ _ sc _ _ _=>sc
  | _=>{ kind:=.function,names:=[],isGenerator:=false,isCoroutine:=false }
abbrev CX0:CXT:=fun _ _ _ _ _ _=>False
abbrev E0:XK:=fun _ _ _=>False
theorem pass0 {X:Cx}:Passes CX0 X E0:=fun _ _ _ _ _ _ _ h=>h.elim
structure Fun (K:PySem.W.Frag) (x qual:Str) (st:Stmt) (f:Addr) (fd:FuncData):Prop where
  ex:∃ (oc:Value) (od:Option Addr) (kV doc pm:Value) (an:Option Addr) (cdv ct:Value) (osl:Array (Option Value)),
    fd=PySem.W.fnOf x qual (defArgs st) (defBody st) (defScope st) .none kV doc pm an cdv ct∧K.lookup f=some ⟨oc,od,.func fd,osl⟩∧PySem.W.codeIn K cdv qual=true
  kp:PySem.W.keepIn K (.ref f)=true
section
variable {P:Program} {w:World} {K:PySem.W.Frag} {mg:Str→Option Value} {base:Heap}
theorem Fun.ok {x qual:Str} {st:Stmt} {f:Addr} {fd:FuncData} {N ps:List Str} {k:Nat} {sp:Sp} (F:Fun K x qual st f fd) (S:FnScope N ps (defScope st)) (len:∀ vs H Q E,sp vs H Q E→vs.length=ps.length)
    (hbody:∀ (cdv:Value) (A:Around) (outer:List Env) (s:Shared) (H:Hp) (vs:List V) (Q:VK) (E:XK),Room k (A.deeper (envOfC qual (defScope st) s.heap.objs.size f cdv))→sp vs H Q E →
      ∃ t,PSs (cxOf CX0 P w K mg base N qual (defScope st) f cdv A outer s H E).nox (defBody st) t∧t { nx:=fun _ H'=>Q .non H',rt:=Q } (start N vs) H):FnOk P w K mg base CX0 (k+1) f fd ps sp:=by
  obtain ⟨oc,od,kV,doc,pm,an,cdv,ct,osl,rfl,lk,hcd⟩:=F.ex
  refine fn_of lk hcd S len fun A outer s H vs Q E hr hsp=>?_
  obtain ⟨t,h,q⟩:=hbody cdv A outer s H vs Q E hr hsp
  exact ⟨t,h.nox,q⟩
theorem Fun.binds {x qual:Str} {st:Stmt} {f:Addr} {fd:FuncData} {ps:List Str} (F:Fun K x qual st f fd)
    (h:∀ (kV doc pm:Value) (an:Option Addr) (cdv ct:Value) (us:List Value),us.length=ps.length→bindArgs (PySem.W.fnOf x qual (defArgs st) (defBody st) (defScope st) .none kV doc pm an cdv ct) ⟨us,[]⟩=pure (ps.zip us)):Binds K fd ps []:=by
  obtain ⟨oc,od,kV,doc,pm,an,cdv,ct,osl,rfl,lk,hcd⟩:=F.ex
  exact .all (h kV doc pm an cdv ct)
theorem fun_mk {x qual:Str} {st:Stmt} {f:Addr} {oc:Value} {od an:Option Addr} {osl:Array (Option Value)} {kV doc pm cdv ct:Value} (l:K.lookup f=some ⟨oc,od,.func (PySem.W.fnOf x qual (defArgs st) (defBody st) (defScope st) .none kV doc pm an cdv ct),osl⟩)
    (c:PySem.W.codeIn K cdv qual=true) (k:PySem.W.keepIn K (.ref f)=true):Fun K x qual st f (PySem.W.fnOf x qual (defArgs st) (defBody st) (defScope st) .none kV doc pm an cdv ct):=⟨⟨oc,od,kV,doc,pm,an,cdv,ct,osl,rfl,l,c⟩,k⟩
end
theorem hu_of {A:Around} {k:Nat} (hr:Room k A):A.units+1<cLine:=Nat.lt_of_le_of_lt (Nat.add_le_add_left (by decide:1≤64) _) hr.units
section
variable {X:Cx}
theorem pv (i:Nat) {x:Str} {pos:Pos} (hN:X.N[i]?=some x:=by rfl) (hv:Vis X.env.scope x:=by first | exact Or.inl rfl | exact Or.inr (Or.inl rfl) | exact Or.inr (Or.inr rfl)) (hd:(x==("__debug__" : Str))=false:=by decide)
    (hcd:(x==("__classdict__" : Str))=false:=by decide):PE X (.Name x pos) (tVar i):=pe_var hN hv hd hcd
end
theorem iteF {A B:Prop} (h:B):if false=true then A else B:=by
  rw [if_neg Bool.false_ne_true]
  exact h
theorem iteT {A B:Prop} (h:A):if true=true then A else B:=by
  rw [if_pos rfl]
  exact h
def Same (H H':Hp):Prop:=∀ b o,H b=some o→H' b=some o
theorem Same.refl (H:Hp):Same H H:=fun _ _ h=>h
theorem Same.trans {H H1 H2:Hp} (a:Same H H1) (b:Same H1 H2):Same H H2:=fun c o h=>b c o (a c o h)
theorem Same.free {H H':Hp} (e:Same H H') {l:Addr} (h:H' l=Option.none):H l=Option.none:=by
  cases q:H l with
  | none=>rfl
  | some o =>
    rw [e l o q] at h
    cases h
end L2
namespace L2
open PySem PySem.Spec PyProof.Rows
section
variable {X:Cx}
theorem op_mulB:OpR X (binaryOp .Mult) (rI IntMulOk fun i j=>.int (i*j)):=opI fun _ _ _ _ _ _ _ hc q=>mul_int q hc
theorem op_fdivB:OpR X (binaryOp .FloorDiv) (rI (fun _ j=>0<j∧j.natAbs.log2<9000) fun i j=>.int (i / j)):=opI fun i j _ _ _ _ _ hc q=>by
  have h1:(0:Int)<j:=hc.1
  exact floordiv_int (by omega) (by rw [Int.fdiv_eq_ediv_of_nonneg i (by omega)]; exact q) (.inl (PyProof.noPylong_of_log2 hc.2))
theorem call_sum (hc:X.calm=true):CallR X (.builtin "sum") (fun xs H Q=>∃ (p:Addr) (ns:List Int),xs=[.ref p]∧SqL X.K H p (ns.map V.int)∧Q (.int ns.sum) H):=by
  intro pins s σ H xs us Q I r h
  obtain ⟨p,ns,rfl,hq,q⟩:=h
  obtain ⟨u,rfl,rx⟩:=vals1 r
  cases rx
  obtain ⟨its,r',pl,hz⟩:=I.list hq
  have hi:=intsAre_of r'
  obtain ⟨ys,hx⟩:=hi.allInts.items
  have hl':s.heap.IsList p (intItems ys):=hx ▸ pl.isList
  refine sum_intListG (I.ok.hd hc) hl' fun h' tk t' hk=>?_
  have e1:ns=ys.toList.map (·.1):=by
    rw [← nums_intItems,← hx]
    exact (show numsOf its.toArray.toList=ns from hi.numsOf).symm
  have e2:preSum (numAt ys) ys.size=ns.sum:=by
    rw [preSum_eq,List.take_of_length_le (by simp),e1]
  rw [e2]
  exact ⟨.int ns.sum,H,I.kept hk,⟨_,rfl⟩,q⟩
theorem call_max1 (hc:X.calm=true):CallR X (.builtin "max") (fun xs H Q=>∃ (p:Addr) (ns:List Int),xs=[.ref p]∧SqL X.K H p (ns.map V.int)∧ns≠[]∧∀ M,M∈ns→(∀ a,a∈ns→a≤M)→Q (.int M) H):=by
  intro pins s σ H xs us Q I r h
  obtain ⟨p,ns,rfl,hq,hne,q⟩:=h
  obtain ⟨u,rfl,rx⟩:=vals1 r
  cases rx
  obtain ⟨its,r',pl,hz⟩:=I.list hq
  have hi:=intsAre_of r'
  obtain ⟨ys,e⟩:=hi.allInts.items
  have hns:ns=ys.toList.map (·.1):=by
    rw [← hi.numsOf,← nums_intItems,← e]
  have hsz:0<ys.size:=by
    have h3:=List.length_pos_iff.mpr hne
    rw [hns,List.length_map,Array.length_toList] at h3
    exact h3
  have hl:=pl.isList
  rw [e] at hl
  refine max_intList (I.ok.hd hc) hl hsz fun v h' tk hv hk=>?_
  obtain ⟨t,rfl⟩:=intItems_at hv
  obtain ⟨h1,h2⟩:=argBest_gt (numAt ys) (ys.size-1)
  refine ⟨.int _,H,I.kept hk,⟨t,rfl⟩,q _ ?_ fun a ha=>?_⟩
  · rw [hns,numAt_eq]; exact PySem.getD_mem (by rw [List.length_map,Array.length_toList]; omega)
  · rw [hns] at ha
    obtain ⟨j,hj,rfl⟩:=mem_getD ha
    rw [List.length_map,Array.length_toList] at hj
    rw [← numAt_eq]; exact h2 j (by omega)
theorem call_isi:CallR X (.builtin "isinstance") (fun xs H Q=>∃ x n t b,xs=[x,.ty n]∧TyOf X.K H x t∧PySem.W.kitOne X.K t (.type n)=some b∧Q (.bl b) H):=by
  intro pins s σ H xs us Q I r h
  obtain ⟨x,n,t,b,rfl,ty,e,q⟩:=h
  obtain ⟨u,w',rfl,rx,ry⟩:=vals2 r
  cases ry
  exact isinst_ok I rx ty e fun tk=>⟨.bl b,H,I.tok _,rfl,q⟩
theorem range_all_eq {α:Type} [DecidableEq α] {ns ms:List α} (d:α) (h:ns.length=ms.length):((List.range ns.length).all fun j=>decide (ns.getD j d=ms.getD j d))=decide (ns=ms):=by
  rw [Bool.eq_iff_iff,List.all_eq_true,decide_eq_true_iff]
  constructor
  · intro H
    refine List.ext_getElem h fun i h1 h2=>?_
    have:=of_decide_eq_true (H i (List.mem_range.mpr h1))
    rw [List.getD_eq_getElem?_getD,List.getD_eq_getElem?_getD,List.getElem?_eq_getElem h1,List.getElem?_eq_getElem h2] at this
    exact this
  · rintro rfl i _
    simp
theorem eqAt_items {α:Type} [DecidableEq α] {A:Around} {s:Shared} {us ws:List Value} {ns ms:List α} {d:α} (hl:us.length=ns.length) (hl2:ws.length=ms.length)
    (h:∀ (j:Nat) (u v:Value) (a b:α),us[j]?=some u→ws[j]?=some v→ns[j]?=some a→ms[j]?=some b→SeqAt.EqAt A s u v (decide (a=b))) :
    ∀ j (h1:j<us.toArray.size) (h2:j<ws.toArray.size),SeqAt.EqAt A s us.toArray[j] ws.toArray[j] (decide (ns.getD j d=ms.getD j d)):=by
  intro j h1 h2
  have h1':j<us.length:=by simpa using h1
  have h2':j<ws.length:=by simpa using h2
  have q:=h j us[j] ws[j] ns[j] ms[j] (List.getElem?_eq_getElem h1') (List.getElem?_eq_getElem h2') (List.getElem?_eq_getElem (by omega)) (List.getElem?_eq_getElem (by omega))
  have e1:ns.getD j d=ns[j]:=by rw [List.getD_eq_getElem?_getD,List.getElem?_eq_getElem (by omega)]; rfl
  have e2:ms.getD j d=ms[j]:=by rw [List.getD_eq_getElem?_getD,List.getElem?_eq_getElem (by omega)]; rfl
  rw [e1,e2]
  simpa using q
theorem rcAt_lists {α:Type} [DecidableEq α] [Inhabited α] {A:Around} {s:Shared} {l b:Addr} {us ws:List Value} {ns ms:List α} (p1:s.heap.IsList l us.toArray) (p2:s.heap.IsList b ws.toArray) (hl:us.length=ns.length) (hl2:ws.length=ms.length) (hu:A.units<cLine)
    (h:∀ (j:Nat) (u v:Value) (a b:α),us[j]?=some u→ws[j]?=some v→ns[j]?=some a→ms[j]?=some b→SeqAt.EqAt A.in1 s u v (decide (a=b))) :
    SeqAt.RcAt A s (.ref l) (.ref b) (decide (ns=ms)):=by
  by_cases hs:ns.length=ms.length
  · have q:=SeqAt.RcAt.lists (e:=fun j=>decide (ns.getD j default=ms.getD j default)) p1 p2 (by simp; omega) hu (eqAt_items hl hl2 h)
    have e:((List.range us.toArray.size).all fun j=>decide (ns.getD j default=ms.getD j default))=decide (ns=ms):=by
      rw [List.size_toArray,hl]; exact range_all_eq default hs
    rw [e] at q
    exact q
  · have q:=SeqAt.RcAt.lists_lengths p1 p2 (by simp; omega) hu
    have e:decide (ns=ms)=false:=decide_eq_false fun z=>hs (by rw [z])
    rw [e]
    exact q
theorem rcNeAt_lists {α:Type} [DecidableEq α] [Inhabited α] {A:Around} {s:Shared} {l b:Addr} {us ws:List Value} {ns ms:List α} (p1:s.heap.IsList l us.toArray) (p2:s.heap.IsList b ws.toArray) (hl:us.length=ns.length) (hl2:ws.length=ms.length) (hu:A.units<cLine)
    (h:∀ (j:Nat) (u v:Value) (a b:α),us[j]?=some u→ws[j]?=some v→ns[j]?=some a→ms[j]?=some b→SeqAt.EqAt A.in1 s u v (decide (a=b))) :
    SeqAt.RcNeAt A s (.ref l) (.ref b) (!decide (ns=ms)):=by
  by_cases hs:ns.length=ms.length
  · have q:=SeqAt.RcNeAt.lists (e:=fun j=>decide (ns.getD j default=ms.getD j default)) p1 p2 (by simp; omega) hu (eqAt_items hl hl2 h)
    have e:((List.range us.toArray.size).all fun j=>decide (ns.getD j default=ms.getD j default))=decide (ns=ms):=by
      rw [List.size_toArray,hl]; exact range_all_eq default hs
    rw [e] at q
    exact q
  · have q:=SeqAt.RcNeAt.lists_lengths p1 p2 (by simp; omega) hu
    have e:decide (ns=ms)=false:=decide_eq_false fun z=>hs (by rw [z])
    rw [e]
    exact q
end
open PySem.W in
theorem bits_of_lay {ns:List Int} (h:WData.layableAll [WData.list (ns.map WData.int)]=true):∀ n∈ns,Builtin.Int.intBits n≤1048576:=by
  have w:WData.weight (.list (ns.map WData.int))≤2 ^ 20:=by
    unfold WData.layableAll WData.layable at h
    simp only [List.all_cons,List.all_nil,Bool.and_true,Bool.and_eq_true,decide_eq_true_eq] at h
    exact h.2
  have key:∀ (ms:List Int),∀ n∈ms,Builtin.Int.intBits n≤WData.weightAll (ms.map WData.int):=by
    intro ms
    induction ms with
    | nil=>intro n hn; cases hn
    | cons m ms ih =>
      intro n hn
      rw [List.map_cons,WData.weightAll]
      rcases List.mem_cons.mp hn with rfl | hn
      · have e:WData.weight (.int n)=Builtin.Int.intBits n:=by simp [WData.weight,Builtin.Int.intBits]
        omega
      · have:=ih n hn
        omega
  intro n hn
  have q:=key ns n hn
  have e:WData.weight (.list (ns.map WData.int))=WData.weightAll (ns.map WData.int):=by simp [WData.weight]
  rw [e] at w
  exact Nat.le_trans q w
theorem walk_ofB {l:PySem.W.OpenLaw} {n k:Nat} {q:Program} {loose:List Str} {XP:(Str→Option Value)→Heap→Prop} {YP:World→Heap→Prop} {d:DefRec} {K:Params→PySem.W.Frag} {CX:World→CXT} {sp:World→Sp} {x:Str}
    (hn:l.most=some n) (hn2:n≤sizeLine) (hdf:d.params.defaults=[]) (hr:Room k callerA)
    (hY:∀ (w:World) (h:Heap),YP w h→(K w.params).In h)
    (F:∀ (w:World) (mg:Str→Option Value) (fa:Addr) (h:Heap),(K w.params).In h→h.Ns mainGlobals mg→mg d.name=some (.ref fa) →
      ∃ fd:FuncData,(∀ (s:Shared) (u:Value),BindsTo s fd ⟨[u],[]⟩ [(x,u)]) ∧
        ∀ base:Heap,(K w.params).In base→base.Ns mainGlobals mg→FnOk l.prog w (K w.params) mg base (CX w) k fa fd [x] (sp w))
    (hsp:∀ (w:World) (H:Hp) (a:Addr) (ns:List Int),ns.length≤n→(∀ m∈ns,Builtin.Int.intBits m≤1048576)→Only H→SqL (K w.params) H a (ns.map V.int)→sp w [.ref a] H (fun v _=>v=.bl true) fun _ _ _=>False)
    (hCX:∀ (w:World) (H:Hp) (s:Shared) (e:Value) (s':Shared),CX w [] H s (fun _ _ _=>False) e s'→False) :
    PySem.W.WalkO q loose XP YP l.row.toRowW d [] (fun f vs=>PySem.call f vs):=by
  intro w s₀ s₁ mg mb G Y fa o pm cd doc dV kV ho hd hcd hD hmg hg args vals as hpre hlay hrd hwl hlo
  obtain rfl:dV=.none:=PySem.W.Dflts.none hD hdf
  obtain rfl:kV=.none:=PySem.W.Dflts.noKw hD
  obtain ⟨a,vs,ns,rfl,rfl,hobj,hints,hlen⟩:=Att.script_of hn hpre hwl
  have KX:=hY w _ Y
  obtain ⟨fd,hb,hF⟩:=F w mg fa _ KX G.T.g hmg
  refine PySem.W.enter_call (codeAny_mono (law_call KX G.T.g G.T.b G.T.builtins G.T.nolimit hg hobj hints (Nat.le_trans hlen hn2) hr hF hb (fun H hO hS=>hsp w H a ns hlen (bits_of_lay hlay) hO hS) fun H e s'=>hCX w H s₁ e s') fun r s' hq=>?_)
  obtain ⟨rfl,h2,h3,h4⟩:=hq
  exact ⟨.inl ⟨.bool true,.bool true,[],rfl,fun _=>rfl,.bool true,Att.post_true l _,fun _=>⟨List.Pairwise.nil,fun _ hm=>(nomatch hm)⟩⟩,h2,h3,h4⟩
end L2
namespace L2
open PySem PySem.Spec PyProof.Rows
def compCx (X:Cx) (N':List Str) (scope:Scope) (cl:List (Str×Addr)) (C:Addr) (s3:Shared) (H3:Hp) (fp:List Addr) (pins:List (Addr×Obj)):Cx :=
  { X with N:=N',s₀:=s3,H₀:=H3,env:=compEnvC scope cl C X.env,outer:=X.stack,stack:=X.stack,ex:=fp,fn:=fun _=>false,pn:=X.pn++pins,xe:=fun _ _=>False }
structure Frees (X:Cx) (N':List Str) (scope:Scope) (cl:List (Str×Addr)) (σ σ0:St):Prop where
  sub:∀ x c,cl.lookup x=some c→X.env.cells.lookup x=some c
  vals:∀ (j:Nat) (x:Str) (v:V),N'[j]?=some x→σ0[j]?=some (some v)→∃ (i:Nat) (c:Addr),X.N[i]?=some x∧σ[i]?=some (some v)∧Vis X.env.scope x∧X.env.kindOf x≠some .local∧cl.lookup x=some c ∧
    ((relabel scope X.env).names.lookup x=some .cell∨(relabel scope X.env).names.lookup x=some .free)
  has:∀ x,((relabel scope X.env).names.lookup x=some .cell∨(relabel scope X.env).names.lookup x=some .free)→∃ c,cl.lookup x=some c
  len:σ0.length=N'.length
section
variable {prog:Program} {w:World} {A:Around} {R:Result→Shared→Prop} {s:Shared}
theorem compLoop_gen {elt target iter:Expr} {ifs:List Expr} {scope:Scope} {pos:Pos} {it acc:Value} {env:Env} (I:Nat→Shared→Prop)
    (turn:∀ n s,I n s→wpAny (model prog w) A (pyNext it) (fun r s₁=>match r with
      | none=>R (.ok .next) s₁
      | some v=>wpAny (model prog w) A (letOwnedTupleGo target it v) (fun _ s₀=>wpAny (model prog w) A (assign target env v) (fun _ s₂ =>
          wpAny (model prog w) A (forIn ifs true fun c r=>if r=true then do let ok ← isTrue c env (eval c env); pure (ForInStep.yield ok) else pure (ForInStep.yield r)) (fun ok s₃ =>
            if ok=true then wpAny (model prog w) A (eval elt env) (fun x s₄ =>
              wpAny (model prog w) A (call (.builtin "list.append") [acc,x]) (fun _ s₅=>∃ m,m<n∧I m s₅) (fun _ _=>False) s₄) (fun _ _=>False) s₃
            else ∃ m,m<n∧I m s₃) (fun _ _=>False) s₂) (fun _ _=>False) s₀) (fun _ _=>False) s₁) (fun _ _=>False) s)
    (n:Nat) (h:I n s) :
    codeAny (model prog w) A (.compLoop (.ListComp elt [⟨target,iter,ifs,0⟩] scope pos) 0 it acc env) R s:=by
  refine codeAny_loop rfl I (fun n s hI=>?_) n h
  show wpAny _ A ((compTurn (.ListComp elt [⟨target,iter,ifs,0⟩] scope pos) 0 it acc env).onRaise (fun x=>do noteFrame x env; theTreesLotGoes x)) _ _ s
  refine wpAny_noted ?_
  rw [compTurn_list]
  refine wpAny_bind (wpAny_standAt (wpAny_bind (wpAny_mono (turn n s hI) (fun r s₁ h₁=>?_) fun _ _ h'=>h'.elim)))
  cases r with
  | none=>exact wpAny_pure h₁
  | some v =>
    refine wpAny_bind (wpAny_mono h₁ (fun _ s₀ h₀=>?_) fun _ _ h'=>h'.elim)
    refine wpAny_bind (wpAny_mono h₀ (fun _ s₂ h₂=>wpAny_bind (wpAny_mono h₂ (fun ok s₃ h₃=>?_) fun _ _ h'=>h'.elim)) fun _ _ h'=>h'.elim)
    cases ok with
    | false=>exact wpAny_pure ⟨rfl,h₃⟩
    | true =>
      exact wpAny_bind (wpAny_bind (wpAny_mono h₃ (fun x s₄ h₄=>wpAny_bind (wpAny_mono h₄ (fun _ s₅ h₅=>wpAny_pure (wpAny_pure ⟨rfl,h₅⟩)) fun _ _ h'=>h'.elim)) fun _ _ h'=>h'.elim))
end
def compW (J:It) (g:TG) (tt:TT) (te:TE) (σ0:St) (H1:Hp) (Q:VK):Prop:=∀ D,H1 D=none→∃ W:Nat→Nat→List V→Hp→Prop,(∃ m,W 0 m [] (upd H1 D (.lst []))) ∧
  ∀ i m ys H,W i m ys H→(J.stop i H∧H D=some (.lst ys)∧Q (.ref D) H) ∨
    (J.go i H∧∀ x H',J.yld i H x H'→g x σ0 H' fun σ2 H2=>tt σ2 H2 fun c H3 =>
      if c=true then te σ2 H3 fun v H4=>H4 D=some (.lst ys)∧ys.length<sizeLine∧∃ m',m'<m∧W (i+1) m' (ys++[v]) (upd H4 D (.lst (ys++[v])))
      else ∃ m',m'<m∧W (i+1) m' ys H3)
def Keepg (g:TG) (σ0:St):Prop:=∀ x H (Q:St→Hp→Prop),g x σ0 H Q→g x σ0 H fun σ2 H2=>Q σ2 H2∧σ2.length=σ0.length∧∀ (j:Nat) v,σ0[j]?=some (some v)→σ2[j]?=some (some v)
section
variable {X:Cx} {tg elt iter:Expr} {ifs:List Expr} {scope:Scope} {cl:List (Str×Addr)} {N':List Str} {σ0:St→St} {g:TG} {tt:TT} {te:TE}
theorem comp_block {pos:Pos} {pins:List (Addr×Obj)} {σ:St} {H1:Hp} {s2:Shared} {it:Addr} {fp:List Addr} {tn:Nat→Heap→Prop} {J:It} {Q:VK} {RR:Value→Addr→Result→Shared→Prop}
    (hc:X.calm=true) (hcell:∀ y∈scope.names,y.2≠.cell) (hkind:scope.kind=.function)
    (I:Inv X pins σ H1 s2) (T:Turn X.prog X.w X.K tg J fp it tn) (st:tn 0 s2.heap) (hfp:∀ b∈fp,FpOk X pins H1 b) (fr:Frees X N' scope cl σ (σ0 σ)) (hk:Keepg g (σ0 σ))
    (hg:∀ C s3 H3 fp pins,PG (compCx X N' scope cl C s3 H3 fp pins) tg g)
    (ht:∀ C s3 H3 fp pins (pl:List (Addr×Obj)) (s:Shared) (σ:St) (H:Hp) (Q:Bool→Hp→Prop),Inv (compCx X N' scope cl C s3 H3 fp pins) pl σ H s→tt σ H Q →
      wpAny (model X.prog X.w) X.A (forIn ifs true fun c r=>if r=true then do let ok ← isTrue c (compEnvC scope cl C X.env) (eval c (compEnvC scope cl C X.env)); pure (ForInStep.yield ok) else pure (ForInStep.yield r)) (TP (compCx X N' scope cl C s3 H3 fp pins) pl σ Q) (fun _ _=>False) s)
    (he:∀ C s3 H3 fp pins,PE (compCx X N' scope cl C s3 H3 fp pins) elt te) (hw:compW J g tt te (σ0 σ) H1 Q)
    (hRR:∀ D C s' H' m,Inv X pins σ H' s'→s'.heap.Ns C m→H' C=none→C≠X.env.locals→X.s₀.heap.objs.size≤C→(∀ x c,X.env.cells.lookup x=some c→c≠C)→(∀ p∈X.pn++pins,p.1≠C)→Q (.ref D) H'→RR (.ref D) C (.ok .next) s') :
    wpAny (model X.prog X.w) X.A (newList []) (fun acc s₃=>wpAny (model X.prog X.w) X.A (newFunctionEnv scope X.env.globals cl [] X.env.qual none .none (some X.env)) (fun cenv s₄ =>
      codeAny (model X.prog X.w) X.A (.compStart (.ListComp elt [⟨tg,iter,ifs,0⟩] scope pos) 0 (.ref it) acc { cenv with scope:=relabel scope X.env }) (RR acc cenv.locals) s₄) X.xe s₃) X.xe s2:=by
  refine wpAny_newObj_type (hd:=by size_fits) (wpAny_newFunctionEnv hcell (by intro y hy; simp at hy) (fun h₁ hns₁ hsb₁=>?_) hkind)
  dsimp only at hns₁ hsb₁ ⊢
  have I3:Inv X pins σ (upd H1 s2.heap.objs.size (.lst [])) { s2 with heap:=s2.heap.push { cls:=.type "list", dict:=none,data:=.seq ([]:List Value).toArray } }:=I.lnew (t':=s2.toks) (its:=[]) (ys:=[]) .nil (Nat.zero_le _)
  obtain ⟨W,⟨m0,w0⟩,turn⟩:=hw s2.heap.objs.size I.fresh
  have hfpo:=T.obj 0 _ st
  have fpl:∀ b∈fp,b<s2.heap.objs.size:=fun b hb=>by
    obtain ⟨o,e,_⟩:=hfpo b hb
    exact Heap.lt_size e
  have fD:∀ b∈fp,upd H1 s2.heap.objs.size (.lst []) b=none:=fun b hb=>by
    rw [upd_ne (Nat.ne_of_lt (fpl b hb))]
    exact (hfp b hb).1
  generalize hs3:({ s2 with heap:=s2.heap.push { cls:=.type "list", dict:=none,data:=.seq ([]:List Value).toArray } }:Shared)=s3 at I3
  have es3:s3.heap=s2.heap.push { cls:=.type "list", dict:=none,data:=.seq ([]:List Value).toArray }:=by rw [← hs3]
  have st3:tn 0 s3.heap:=T.keep _ _ _ st fun b hb o e=>by rw [es3]; exact Heap.get?_push_of_some _ e
  rw [← es3] at hns₁ hsb₁ ⊢
  have sz3:s2.heap.objs.size<s3.heap.objs.size:=by rw [es3,Heap.size_push]; exact Nat.lt_succ_self _
  generalize upd H1 s2.heap.objs.size (.lst [])=H3 at I3 fD w0
  have old:∀ b o,s3.heap.get? b=some o→h₁.get? b=some o:=fun b o e=>hsb₁.extBut b o (Nat.ne_of_lt (Heap.lt_size e)) (Heap.get?_push_of_some _ e)
  have fpl3:∀ b∈fp,b<s3.heap.objs.size:=fun b hb=>Nat.lt_trans (fpl b hb) sz3
  have stk:∀ b∈fp,b∉frs X.stack:=fun b hb z=>by
    rcases List.mem_cons.mp (I3.stkSub b z) with e | e
    · exact (hfp b hb).2.1 e
    · exact (hfp b hb).2.2.1 e
  have ok:(compCx X N' scope cl s3.heap.objs.size s3 H3 fp pins).Ok:=by
    refine ⟨I3.ok.mod,hkind,I3.ok.glob,I3.ok.blt,Nat.le_refl _,fun x y c h1 h2=>I3.ok.inj x y c (fr.sub x c h1) (fr.sub y c h2),fun x h=>fr.has x h,fun x c h _=>(by cases h),I3.ok.hd,I3.ok.frames,.inl rfl,
      fun b hb=>⟨Nat.ne_of_lt (fpl3 b hb),fun x c e=>(hfp b hb).2.2.2.2.1 x c (fr.sub x c e)⟩,I3.bs,Nat.le_trans I3.ok.bsz I3.sz,fun b o e hb=>?_,fun b hb=>stk b hb,I3.stack,I3.stkFree⟩
    rcases (hfp b hb).2.2.2.1 with z | z
    · exact I3.ok.noex b o e z
    · have l1:b<X.base.objs.size:=Heap.lt_size e
      have l2:X.base.objs.size≤X.s₀.heap.objs.size:=I3.ok.bsz
      have l3:X.s₀.heap.objs.size≤b:=z
      exact absurd (Nat.lt_of_lt_of_le l1 (Nat.le_trans l2 l3)) (Nat.lt_irrefl _)
  have lt3:X.env.locals<s3.heap.objs.size:=I3.lt
  have start:Inv (compCx X N' scope cl s3.heap.objs.size s3 H3 fp pins) [] (σ0 σ) H3 { s3 with heap:=h₁ }:=by
    refine ⟨ok,rfl,I3.bare,Un.kept old,⟨_,hns₁,fun j x v e1 e2 _=>?_⟩,fun x c e=>?_,I3.hok.fresh (Nat.le_refl _),fun x c e=>I3.freeC x c (fr.sub x c e),fun p hp=>?_,I3.hok.kept old,fr.len⟩
    · obtain ⟨i,c,q1,q2,q3,q4,q5,q6⟩:=fr.vals j x v e1 e2
      obtain ⟨m,hn,hl⟩:=I3.loc
      obtain ⟨u,r,l⟩:=hl i x v q1 q2 q3
      refine ⟨u,r,.inr ⟨q6,c,q5,?_⟩⟩
      rcases l with ⟨k,_⟩ | ⟨_,c',e',z⟩
      · exact absurd k q4
      · rw [fr.sub x c q5] at e'
        cases e'
        obtain ⟨o,ho,hd⟩:=z
        exact ⟨o,old _ _ ho,hd⟩
    · obtain ⟨v,o,ho,hd⟩:=I3.cell x c (fr.sub x c e)
      exact ⟨v,o,old _ _ ho,hd⟩
    · have hp':p∈X.pn++pins:=by simpa [compCx] using hp
      obtain ⟨e,n,ne,nf,d⟩:=I3.pin p hp'
      refine ⟨old _ _ e,n,Nat.ne_of_lt (Heap.lt_size e),fun z=>?_,d⟩
      rcases List.mem_cons.mp (I3.stkSub p.1 z) with q | q
      · exact ne q
      · exact nf q
  have hst₁:tn 0 h₁:=T.keep _ _ _ st3 fun b _ o e=>old b o e
  have fpok:∀ {H':Hp},(∀ b∈fp,H' b=none)→∀ b∈fp,FpOk (compCx X N' scope cl s3.heap.objs.size s3 H3 fp pins) [] H' b:=fun {H'} hn b hb =>
    ⟨hn b hb,Nat.ne_of_lt (fpl3 b hb),stk b hb,.inl hb,fun x c e=>(hfp b hb).2.2.2.2.1 x c (fr.sub x c e),fun p hp=>(hfp b hb).2.2.2.2.2 p (by simpa [compCx] using hp)⟩
  have loop:codeAny (model X.prog X.w) X.A (.compLoop (.ListComp elt [⟨tg,iter,ifs,0⟩] scope pos) 0 (.ref it) (.ref s2.heap.objs.size) (compEnvC scope cl s3.heap.objs.size X.env)) (RR (.ref s2.heap.objs.size) s3.heap.objs.size) { s3 with heap:=h₁ }:=by
    refine compLoop_gen (fun n s'=>∃ i ys H',Inv (compCx X N' scope cl s3.heap.objs.size s3 H3 fp pins) [] (σ0 σ) H' s'∧tn i s'.heap∧(∀ b∈fp,H' b=none)∧W i n ys H') ?_ m0 ⟨0,[],H3,start,hst₁,fD,w0⟩
    rintro n s4 ⟨i,ys,H4,I4,st4,fr4,w4⟩
    rcases turn i n ys H4 w4 with ⟨stop,eD,q⟩ | ⟨go,step⟩
    · refine thn (T.done (compCx X N' scope cl s3.heap.objs.size s3 H3 fp pins) rfl rfl rfl hc i [] s4 _ H4 _ I4 (fpok fr4) st4 stop) fun r s5 ⟨hr,I5⟩=>?_
      subst hr
      obtain ⟨m5,n5,_⟩:=I5.loc
      have J5:Inv X pins σ H4 s5:=I3.call' I5.os I5.base I5.hok I5.bare fun b hb=>⟨(hfp b hb).2.2.2.1,(hfp b hb).2.1,(hfp b hb).2.2.2.2.1,(hfp b hb).2.2.2.2.2⟩
      exact hRR _ _ s5 H4 m5 J5 n5 I5.free (Nat.ne_of_gt lt3) I3.sz (fun x c e z=>by
        obtain ⟨v,o,ho,_⟩:=I3.cell x c e
        exact absurd (Heap.lt_size ho) (by rw [z]; exact Nat.lt_irrefl _)) (fun p hp z=>by
        have e:=(I3.pin p hp).1
        exact absurd (Heap.lt_size e) (by rw [z]; exact Nat.lt_irrefl _)) q
    · refine thn (T.item (compCx X N' scope cl s3.heap.objs.size s3 H3 fp pins) rfl rfl rfl hc i [] s4 _ H4 _ I4 (fpok fr4) st4 go) fun r s5 ⟨u,hr,h5⟩=>?_
      subst hr
      refine thn h5 fun _ s6 ⟨x,H6,I6,r6,y6,st6,fr6⟩=>?_
      have I6':=I6.pinned (fpok fr6) (T.obj _ _ st6)
      refine thn (hg _ _ _ _ _ _ s6 _ H6 x u _ I6' r6 (hk _ _ _ (step x H6 y6))) fun _ s7 ⟨σ7,H7,I7,q7,l7,k7⟩=>?_
      have again:∀ {s8:Shared} {H8:Hp} {m:Nat} {zs:List V},Inv (compCx X N' scope cl s3.heap.objs.size s3 H3 fp pins) ([]++pinsAt fp s6.heap) σ7 H8 s8→m<n→W (i+1) m zs H8 →
          ∃ m,m<n∧∃ i ys H',Inv (compCx X N' scope cl s3.heap.objs.size s3 H3 fp pins) [] (σ0 σ) H' s8∧tn i s8.heap∧(∀ b∈fp,H' b=none)∧W i m ys H':=fun {s8 H8 m zs} I8 hm w8=>by
        refine ⟨m,hm,i+1,zs,H8,(Inv.unpinned I8).weak l7.symm k7,T.keep _ _ _ st6 fun b hb o e=>(I8.pin (b,o) (List.mem_append_right _ (List.mem_append_right _ (mem_pinsAt hb e)))).1,fun b hb=>?_,w8⟩
        obtain ⟨o,e,d⟩:=T.obj _ _ st6 b hb
        exact (I8.pin (b,o) (List.mem_append_right _ (List.mem_append_right _ (mem_pinsAt hb e)))).2.1
      refine thn (ht _ _ _ _ _ _ s7 σ7 H7 _ I7 q7) fun c s8 ⟨H8,I8,q8⟩=>?_
      cases c with
      | false =>
        rw [if_neg Bool.false_ne_true] at q8 ⊢
        obtain ⟨m',hm,w8⟩:=q8
        exact again I8 hm w8
      | true =>
        rw [if_pos rfl] at q8 ⊢
        refine thn (he _ _ _ _ _ _ s8 σ7 H8 _ I8 q8) fun v s9 ⟨y,H9,I9,r9,e9,z9,m',hm,w9⟩=>?_
        exact thn (mt_append _ s9 σ7 H9 (.ref s2.heap.objs.size) [y] (.ref s2.heap.objs.size) [v] (fun _ H'=>H'=upd H9 s2.heap.objs.size (.lst (ys++[y]))) I9 rfl (.cons r9 .nil) ⟨_,ys,y,rfl,rfl,e9,z9,rfl⟩)
          fun _ s10 ⟨_,H10,I10,_,e10⟩=>by subst e10; exact again I10 hm w9
  subst hs3
  exact codeAny_compStart_list loop (T.self _ 0 _ _ _ hst₁ loop)
def tComp (wi:TI) (g:TG) (tt:TT) (te:TE) (σ0:St→St):TE:=fun σ H Q=>wi σ H fun J H1=>compW J g tt te (σ0 σ) H1 Q
def tTrue:TT:=fun _ H Q=>Q true H
variable {pos:Pos} {wi:TI}
theorem pe_compG (hc:X.calm=true) (hi:PI X tg iter wi) (fr:∀ σ:St,σ.length=X.N.length→Frees X N' scope cl σ (σ0 σ)) (hk:∀ σ,Keepg g (σ0 σ))
    (hg:∀ C s3 H3 fp pins,PG (compCx X N' scope cl C s3 H3 fp pins) tg g)
    (ht:∀ C s3 H3 fp pins (pl:List (Addr×Obj)) (s:Shared) (σ:St) (H:Hp) (Q:Bool→Hp→Prop),Inv (compCx X N' scope cl C s3 H3 fp pins) pl σ H s→tt σ H Q →
      wpAny (model X.prog X.w) X.A (forIn ifs true fun c r=>if r=true then do let ok ← isTrue c (compEnvC scope cl C X.env) (eval c (compEnvC scope cl C X.env)); pure (ForInStep.yield ok) else pure (ForInStep.yield r)) (TP (compCx X N' scope cl C s3 H3 fp pins) pl σ Q) (fun _ _=>False) s)
    (he:∀ C s3 H3 fp pins,PE (compCx X N' scope cl C s3 H3 fp pins) elt te)
    (hclos:closureFor scope X.env=pure cl) (hcell:∀ y∈scope.names,y.2≠.cell) (hkind:scope.kind=.function) (hnames:∀ y∈scope.names,y.2=.local→scope.names.lookup y.1=some .local)
    (hs:∀ x,foldedSetIterable iter X.env x=pure x):PE X (.ListComp elt [⟨tg,iter,ifs,0⟩] scope pos) (tComp wi g tt te σ0):=by
  intro pins s σ H Q I h
  rw [eval_ListComp]
  refine wpAny_comprehension_free (use:=none) rfl hs hclos hkind hnames (thn (hi pins s σ H _ I h) fun v s1 h1=>thn h1 fun itv s2 h2=>?_)
  obtain ⟨it,fp,tn,J,H2,e,I2,T,st2,f2,q⟩:=h2
  subst e
  refine comp_block (RR:=fun acc C=>compPost (model X.prog X.w) X.A X.xe none (EP X pins σ Q) acc C) hc hcell hkind I2 T st2 f2 (fr σ I.len) (hk σ) hg ht he q ?_
  intro D C s' H' m I' hn hC h1 h2 h3 h4 q'
  refine ⟨m,hn,fun h'' hs''=>⟨.ref D,H',?_,rfl,q'⟩⟩
  exact I'.turned (t':=s'.toks) (fun b o hb e=>hs''.extBut b o hb e) hC h1 (.inr h2) h3 h4
def tSetC (t:TE) (i:Nat):TS:=fun D σ H=>t σ H fun x H1=>D.nx (σ.set i (some x)) H1
theorem ps_setCG {i:Nat} {x:Str} {pos' spos:Pos} (hN:X.N.Nodup) (hi':X.N[i]?=some x) (hx:Loc X.env.scope x) (hf:X.fn x=true∨X.env.scope.names.lookup x=some .local)
    (hc:X.calm=true) (hi:PI X tg iter wi) (fr:∀ σ:St,σ.length=X.N.length→Frees X N' scope cl σ (σ0 σ)) (hk:∀ σ,Keepg g (σ0 σ))
    (hg:∀ C s3 H3 fp pins,PG (compCx X N' scope cl C s3 H3 fp pins) tg g)
    (ht:∀ C s3 H3 fp pins (pl:List (Addr×Obj)) (s:Shared) (σ:St) (H:Hp) (Q:Bool→Hp→Prop),Inv (compCx X N' scope cl C s3 H3 fp pins) pl σ H s→tt σ H Q →
      wpAny (model X.prog X.w) X.A (forIn ifs true fun c r=>if r=true then do let ok ← isTrue c (compEnvC scope cl C X.env) (eval c (compEnvC scope cl C X.env)); pure (ForInStep.yield ok) else pure (ForInStep.yield r)) (TP (compCx X N' scope cl C s3 H3 fp pins) pl σ Q) (fun _ _=>False) s)
    (he:∀ C s3 H3 fp pins,PE (compCx X N' scope cl C s3 H3 fp pins) elt te)
    (hclos:closureFor scope X.env=pure cl) (hcell:∀ y∈scope.names,y.2≠.cell) (hkind:scope.kind=.function) (hnames:∀ y∈scope.names,y.2=.local→scope.names.lookup y.1=some .local)
    (hs:∀ x,foldedSetIterable iter X.env x=pure x) (hsw:swapsWith (.ListComp elt [⟨tg,iter,ifs,0⟩] scope pos) (some (.Name x pos')) spos.line X.env=pure true) :
    PS X (.Assign [.Name x pos'] (.ListComp elt [⟨tg,iter,ifs,0⟩] scope pos) spos) (tSetC (tComp wi g tt te σ0) i):=by
  intro pins s σ H D I h
  rw [exec_Assign_Name_used _ _ _ _ hsw]
  refine wpAny_bind (wpAny_standAt (wpAny_bind ?_))
  show wpAny _ X.A (do let _ ← comprehension (.ListComp elt [⟨tg,iter,ifs,0⟩] scope pos) scope X.env _ (newList []) false (eval iter X.env) (some (assign (.Name x pos') X.env))) _ _ s
  refine wpAny_bind (wpAny_mono (wpAny_comprehension_free (Q:=fun _ s'=>SP X pins D .next s') (use:=some (assign (.Name x pos') X.env)) rfl hs hclos hkind hnames (thn (hi pins s σ H _ I h) fun v s1 h1=>thn h1 fun itv s2 h2=>?_))
    (fun _ s' hq=>wpAny_pure (wpAny_pure hq)) fun _ _ e=>e)
  obtain ⟨it,fp,tn,J,H2,e,I2,T,st2,f2,q⟩:=h2
  subst e
  refine comp_block (RR:=fun acc C=>compPost (model X.prog X.w) X.A X.xe (some (assign (.Name x pos') X.env)) (fun _ s'=>SP X pins D .next s') acc C) hc hcell hkind I2 T st2 f2 (fr σ I.len) (hk σ) hg ht he q ?_
  intro Dl C s' H' m I' hn hC h1 h2 h3 h4 q'
  show wpAny _ _ (assign (.Name x pos') X.env (.ref Dl)) _ _ s'
  refine wpAny_assign_Name (store_ok2 (v:=.ref Dl) I' hN hi' hx rfl (fun s'' I'' ⟨a,hsb,ha⟩=>?_) hf)
  have hne:C≠a:=by
    rcases ha with rfl | ha
    · exact h1
    · exact Ne.symm (h3 x a ha)
  refine ⟨m,hn.sameBut hsb hne,fun h'' hs''=>⟨_,H',?_,q'⟩⟩
  exact I''.turned (t':=s''.toks) (fun b o hb e=>hs''.extBut b o hb e) hC h1 (.inr h2) h3 h4
end
end L2
namespace L2
open PySem PySem.Spec PyProof.Rows
section
variable {X:Cx} {iter elt c:Expr} {scope:Scope} {y z:Str} {py pos:Pos} {wi:TI} {te:TE} {tt:TT}
theorem tests0 {N':List Str} {cl:List (Str×Addr)}:∀ C s3 H3 fp pins (pl:List (Addr×Obj)) (s:Shared) (σ:St) (H:Hp) (Q:Bool→Hp→Prop),Inv (compCx X N' scope cl C s3 H3 fp pins) pl σ H s→tTrue σ H Q →
    wpAny (model X.prog X.w) X.A (forIn ([]:List Expr) true fun c r=>if r=true then do let ok ← isTrue c (compEnvC scope cl C X.env) (eval c (compEnvC scope cl C X.env)); pure (ForInStep.yield ok) else pure (ForInStep.yield r)) (TP (compCx X N' scope cl C s3 H3 fp pins) pl σ Q) (fun _ _=>False) s :=
  fun _ _ _ _ _ _ _ _ H _ I h=>wpAny_tests_nil ⟨H,I,h⟩
theorem tests1 {N':List Str} {cl:List (Str×Addr)} (ht:∀ C s3 H3 fp pins,PT (compCx X N' scope cl C s3 H3 fp pins) c tt):∀ C s3 H3 fp pins (pl:List (Addr×Obj)) (s:Shared) (σ:St) (H:Hp) (Q:Bool→Hp→Prop),Inv (compCx X N' scope cl C s3 H3 fp pins) pl σ H s→tt σ H Q →
    wpAny (model X.prog X.w) X.A (forIn [c] true fun c r=>if r=true then do let ok ← isTrue c (compEnvC scope cl C X.env) (eval c (compEnvC scope cl C X.env)); pure (ForInStep.yield ok) else pure (ForInStep.yield r)) (TP (compCx X N' scope cl C s3 H3 fp pins) pl σ Q) (fun _ _=>False) s :=
  fun C s3 H3 fp pins pl s σ H Q I h=>wpAny_tests_one (ht C s3 H3 fp pins pl s σ H Q I h)
end
end L2
namespace L2
open PySem PySem.Spec PyProof.Rows
section
variable {X:Cx}
end
section
variable {prog:Program} {w:World} {A:Around} {R:Result→Shared→Prop} {I:Addr} {fp wr:List Addr} {n:Nat} {P:Nat→Value→Prop} {St:Nat→Heap→Prop} {kw:List (Str×Value)}
end
section
variable {prog:Program} {w:World} {A:Around} {E:Value→Shared→Prop} {s:Shared}
end
section
variable {X:Cx}
end
section
variable {X:Cx}
theorem pe_globI {x:Str} {i:Int} {pos:Pos} (hg:Gl X x) (hm:∃ t,X.mg x=some (.int i t)) (hd:(x==("__debug__" : Str))=false:=by decide):PE X (.Name x pos) (tC (.int i)):=by
  obtain ⟨t,e⟩:=hm
  exact pe_glob hg e ⟨t,rfl⟩ hd
end
theorem bt_len:bootBuiltins "len" = some (.builtin "len"):=by decide +kernel
theorem bt_max:bootBuiltins "max" = some (.builtin "max"):=by decide +kernel
theorem bt_min:bootBuiltins "min" = some (.builtin "min"):=by decide +kernel
theorem bt_sum:bootBuiltins "sum" = some (.builtin "sum"):=by decide +kernel
theorem bt_isinstance:bootBuiltins "isinstance" = some (.builtin "isinstance"):=by decide +kernel
theorem bt_sorted:bootBuiltins "sorted" = some (.builtin "sorted"):=by decide +kernel
theorem bt_all:bootBuiltins "all" = some (.builtin "all"):=by decide +kernel
theorem bt_int:bootBuiltins "int" = some (.type "int"):=by decide +kernel
theorem bt_bool:bootBuiltins "bool" = some (.type "bool"):=by decide +kernel
theorem bt_list:bootBuiltins "list" = some (.type "list"):=by decide +kernel
theorem bt_set:bootBuiltins "set" = some (.type "set"):=by decide +kernel
theorem bt_tuple:bootBuiltins "tuple" = some (.type "tuple"):=by decide +kernel
theorem same_new {H:Hp} {a:Addr} {o:HO} (h:H a=none):Same H (upd H a o):=fun b u e=>by
  rw [upd_ne (ne_of_none e h)]
  exact e
theorem Paired.mono {α β:Type} {F G:α→β→Prop}:∀ {as:List α} {bs:List β},Paired F as bs→(∀ a b,a∈as→F a b→G a b)→Paired G as bs
  | _,_,.nil,_=>.nil
  | _,_,.cons r t,h=>.cons (h _ _ List.mem_cons_self r) (Paired.mono t fun a b m=>h a b (List.mem_cons_of_mem _ m))
theorem Paired.append {α β:Type} {F:α→β→Prop}:∀ {as cs:List α} {bs ds:List β},Paired F as bs→Paired F cs ds→Paired F (as++cs) (bs++ds)
  | _,_,_,_,.nil,s=>s
  | _,_,_,_,.cons r t,s=>.cons r (Paired.append t s)
theorem Paired.take {α β:Type} {F:α→β→Prop}:∀ (n:Nat) {as:List α} {bs:List β},Paired F as bs→Paired F (as.take n) (bs.take n)
  | 0,_,_,_=>.nil
  | _+1,_,_,.nil=>.nil
  | n+1,_,_,.cons r t=>.cons r (Paired.take n t)
theorem Paired.drop {α β:Type} {F:α→β→Prop}:∀ (n:Nat) {as:List α} {bs:List β},Paired F as bs→Paired F (as.drop n) (bs.drop n)
  | 0,_,_,h=>h
  | _+1,_,_,.nil=>.nil
  | n+1,_,_,.cons _ t=>Paired.drop n t
section
variable {X:Cx} {K:PySem.W.Frag}
theorem sl_listK (h:X.K=K):SlR X (rSlL K):=by subst h; exact sl_list
theorem op_notIn_seqK (h:X.K=K):OpR X (compareOp .NotIn) (rIn K true):=by subst h; exact op_notIn_seq
theorem call_list_ofK (h:X.K=K):CallR X (.type "list") (fun xs H Q=>∃ p ys,xs=[.ref p]∧(SqL K H p ys∨SqT K H p ys)∧∀ l,H l=none→Q (.ref l) (upd H l (.lst ys))):=by subst h; exact call_list_of
theorem call_isiK (h:X.K=K):CallR X (.builtin "isinstance") (fun xs H Q=>∃ x n t b,xs=[x,.ty n]∧TyOf K H x t∧PySem.W.kitOne K t (.type n)=some b∧Q (.bl b) H):=by subst h; exact call_isi
theorem pt_truthK {a:Expr} {ta:TE} (h:X.K=K) (ha:PE X a ta) (he:∀ whole,isTrue a X.env whole=(do let v ← whole; standAt a.pos; holding [v] (truthy v))) :
    PT X a (fun σ H Q=>ta σ H fun x H'=>∃ k,TruV K x H' k∧Q k H'):=by subst h; exact pt_truth ha he
end
end L2
namespace L2
open PySem PySem.Spec PyProof.Rows
section
variable {X:Cx}
end
end L2
namespace L2
open PySem PySem.Spec PyProof.Rows
section
variable {prog:Program} {w:World} {A:Around} {E:Value→Shared→Prop}
theorem draw_list {it t:Addr} {items:Array Value} (hne:t≠it):∀ (n i:Nat) (s:Shared) (Q:List Value→Shared→Prop),s.heap.IsListIter it t i→s.heap.IsList t items→i+n≤items.size →
    (∀ h',h'.IsListIter it t (i+n)→Heap.SameBut it s.heap h'→Q ((items.toList.drop i).take n) { s with heap:=h' })→wpAny (model prog w) A (draw (.ref it) n) Q E s
  | 0,i,s,Q,hit,_,_,hQ=>by
    show wpAny _ _ (pure []) Q E s
    exact wpAny_pure (by simpa using hQ s.heap hit (Heap.SameBut.refl ..))
  | n+1,i,s,Q,hit,ht,hle,hQ=>by
    have hlt:i<items.size:=by omega
    show wpAny _ _ (pyNext (.ref it) >>= _) Q E s
    refine wpAny_bind (wpAny_pyNext_list_item hit ht (x:=items[i]) (by simp [hlt]) fun h₁ hit₁ hs₁=>?_)
    refine wpAny_bind (wpAny_holding (draw_list hne n (i+1) _ _ hit₁ (ht.extBut hs₁.extBut hne) (by omega) fun h₂ hit₂ hs₂=>wpAny_pure ?_))
    have hd:items.toList.drop i=items[i]::items.toList.drop (i+1):=by simp [List.drop_eq_getElem_cons,hlt]
    have:=hQ h₂ (by rw [show i+(n+1)=i+1+n by omega]; exact hit₂) (hs₁.trans hs₂)
    rw [hd,List.take_succ_cons] at this
    exact this
theorem unpackItems_list {s:Shared} {t:Addr} {items:Array Value} {Q:List Value→Shared→Prop} (hh:A.handled=none) (ht:s.heap.IsList t items)
    (hQ:∀ h',Heap.ExtBut s.heap.objs.size s.heap h'→Q items.toList { s with heap:=h' }):wpAny (model prog w) A (unpackItems (.ref t) items.size none) Q E s:=by
  have hlt:t≠s.heap.objs.size:=by obtain ⟨o,ho,_⟩:=ht; exact Nat.ne_of_lt (Heap.lt_size ho)
  unfold unpackItems
  refine wpAny_bind ?_
  · unfold notIterableAtAll
    refine wpAny_bind (wpAny_specialOf ht.typeIs F.slot_list_iter.lookup ?_)
    refine wpAny_pure ?_
    simp only [Bool.false_eq_true,if_false]
    refine wpAny_bind (wpAny_holding (wpAny_pyIter_list ht ?_))
    refine wpAny_bind (wpAny_holding (draw_list hlt items.size 0 _ _ ⟨_,Heap.get?_push_size _ rfl,rfl,rfl⟩ (ht.push _) (by omega) fun h₁ hit₁ hs₁=>?_))
    have hall:List.take items.size (List.drop 0 items.toList)=items.toList:=by
      rw [List.drop_zero]; exact List.take_of_length_le (by simp)
    rw [hall]
    rw [if_neg (by simp)]
    have ht₁:h₁.IsList t items:=(ht.push _).extBut hs₁.extBut hlt
    refine wpAny_bind (wpAny_holding (wpAny_pyNext_list_end hh hit₁ ht₁ (by simp) fun h₂ he₂=>?_))
    simp only [Option.isSome_none,Bool.false_eq_true,if_false]
    refine wpAny_pure (hQ h₂ fun b o hb e=>he₂ b o hb (hs₁.extBut b o hb (Heap.get?_push_of_some _ e)))
theorem assign_Tuple_list {s:Shared} {env:Env} {elts:List Expr} {x1} {pos:Pos} {t:Addr} {items:Array Value} {Q:Unit→Shared→Prop} (hh:A.handled=none) (ht:s.heap.IsList t items)
    (hn:(assignEach elts env).length=items.size) (hstar:(assignEach elts env).findIdx? (·.1)=none)
    (h:∀ h',Heap.ExtBut s.heap.objs.size s.heap h'→wpAny (model prog w) A (assignInOrder ((assignEach elts env).map (·.2)) items.toList) Q E { s with heap:=h' }) :
    wpAny (model prog w) A (assign (.Tuple elts x1 pos) env (.ref t)) Q E s:=by
  rw [arm_assign_Tuple]
  refine wpAny_bind (wpAny_standAt ?_)
  unfold unpack
  rw [hn,hstar]
  exact wpAny_bind (wpAny_holding (unpackItems_list hh ht h))
end
section
variable {X:Cx} {pos:Pos}
def gLst (K:PySem.W.Frag) (n:Nat) (t:TGs):TG:=fun v σ H Q=>∃ a xs,v=.ref a∧SqL K H a xs∧xs.length=n∧t xs σ H Q
theorem pg_lst {es:List Expr} {k:Nat} {t:TGs} {n:Nat} (hc:X.calm=true) (h:PGs X es t)
    (hn:(assignEach es X.env).length=n:=by rfl) (hst:(assignEach es X.env).findIdx? (·.1)=none:=by rfl):PG X (.Tuple es k pos) (gLst X.K n t):=by
  intro pins s σ H v u Q I r hw
  obtain ⟨a,xs,e1,hq,hl,hw⟩:=hw
  subst e1
  cases r
  obtain ⟨its,rv,ht,hz⟩:=I.list hq
  refine assign_Tuple_list (I.ok.hd hc) ht.isList (by simp [hn,← hl,rv.length]) hst fun h' hx=>?_
  have I1:Inv X pins σ H { s with heap:=h' }:=I.kept (t':=s.toks) fun b o e=>hx b o (Nat.ne_of_lt (Heap.lt_size e)) e
  exact h pins _ σ H xs _ Q I1 (by simpa using rv) hw
end
end L2
namespace L2
open PySem PySem.Spec PyProof.Rows
section
variable {κ:Type} [DecidableEq κ]
def valV (kvs:List (κ×V)) (k:κ):Option V:=(kvs.find? fun kv=>decide (kv.1=k)).map (·.2)
def putK (kvs:List (κ×V)) (k:κ) (v:V):List (κ×V) :=
  if (kvs.any fun kv=>decide (kv.1=k))=true then kvs.map (fun kv=>if kv.1=k then (kv.1,v) else kv) else kvs++[(k,v)]
theorem valV_pos {p:κ×V} {r:List (κ×V)} {k:κ} (e:p.1=k):valV (p::r) k=some p.2:=by simp [valV,List.find?_cons,e]
theorem valV_neg {p:κ×V} {r:List (κ×V)} {k:κ} (e:¬ p.1=k):valV (p::r) k=valV r k:=by simp [valV,List.find?_cons,e]
theorem valV_any (k:κ):∀ kvs:List (κ×V),(kvs.any fun kv=>decide (kv.1=k))=(valV kvs k).isSome
  | []=>rfl
  | p::r=>by
    rw [List.any_cons]
    by_cases e:p.1=k
    · simp only [valV_pos e,decide_eq_true e,Bool.true_or,Option.isSome_some]
    · rw [valV_neg e,decide_eq_false e,Bool.false_or]; exact valV_any k r
theorem length_putK (kvs:List (κ×V)) (k:κ) (v:V):(putK kvs k v).length≤kvs.length+1:=by
  unfold putK
  split
  · rw [List.length_map]; omega
  · rw [List.length_append,List.length_cons,List.length_nil]; omega
theorem RelO.isSome_eq {o:Option V} {u:Option Value} (r:RelO o u):o.isSome=u.isSome:=by
  cases o with
  | none=>cases u with
    | none=>rfl
    | some _=>exact (show False from r).elim
  | some _=>cases u with
    | none=>exact (show False from r).elim
    | some _=>rfl
theorem KV.val {kvs:List (κ×V)} {vs:List (κ×Value)} (r:KV kvs vs) (k:κ):RelO (valV kvs k) (valueAt vs k):=by
  unfold KV at r
  induction r with
  | nil=>exact True.intro
  | @cons p q ps qs h t ih =>
    obtain ⟨h1,h2⟩:=h
    by_cases e:p.1=k
    · have e':q.1=k:=h1.symm.trans e
      have b:valueAt (q::qs) k=some q.2:=by simp [valueAt,List.find?_cons,e']
      rw [valV_pos e,b]; exact h2
    · have e':¬ q.1=k:=fun z=>e (h1.trans z)
      have b:valueAt (q::qs) k=valueAt qs k:=by simp [valueAt,List.find?_cons,e']
      rw [valV_neg e,b]; exact ih
theorem KV.any {kvs:List (κ×V)} {vs:List (κ×Value)} (r:KV kvs vs) (k:κ):(kvs.any fun kv=>decide (kv.1=k))=vs.any fun kv=>decide (kv.1=k):=by
  unfold KV at r
  induction r with
  | nil=>rfl
  | cons h t ih=>rw [List.any_cons,List.any_cons,ih,h.1]
theorem KV.repl {kvs:List (κ×V)} {vs:List (κ×Value)} (r:KV kvs vs) (k:κ) {y:V} {u:Value} (ry:RelV y u) :
    KV (kvs.map fun kv=>if kv.1=k then (kv.1,y) else kv) (vs.map fun kv=>if kv.1=k then (kv.1,u) else kv):=by
  unfold KV at r ⊢
  induction r with
  | nil=>exact .nil
  | @cons p q ps qs h t ih =>
    rw [List.map_cons,List.map_cons]
    refine .cons ?_ ih
    obtain ⟨h1,h2⟩:=h
    by_cases e:p.1=k
    · rw [if_pos e,if_pos (h1.symm.trans e)]; exact ⟨h1,ry⟩
    · rw [if_neg e,if_neg (fun z=>e (h1.trans z))]; exact ⟨h1,h2⟩
theorem KV.put {kvs:List (κ×V)} {vs:List (κ×Value)} (r:KV kvs vs) (k:κ) {y:V} {u:Value} (ry:RelV y u):KV (putK kvs k y) (stored vs k u):=by
  unfold putK stored
  rw [r.any k]
  by_cases e:(vs.any fun kv=>decide (kv.1=k))=true
  · rw [if_pos e,if_pos e]; exact r.repl k ry
  · rw [if_neg e,if_neg e]; exact Paired.snoc r ⟨rfl,ry⟩
theorem KV.length {kvs:List (κ×V)} {vs:List (κ×Value)} (r:KV kvs vs):kvs.length=vs.length:=Paired.length r
end
theorem kV_is {P:Program} {w:World} {k:Key} {u:Value} (r:RelV (kV k) u):(mixKind P w).is k u=true:=by
  cases k with
  | inl i=>obtain ⟨t,e⟩:=(show ∃ t,u=Value.int i t from r); subst e; exact mixKind_int P w i t
  | inr x=>obtain ⟨t,e⟩:=(show ∃ t,u=Value.str x t from r); subst e; exact mixKind_str P w x t
theorem items_are {P:Program} {w:World}:∀ {ks:List Key} {us:List Value},Vals (ks.map kV) us→ItemsAre (mixKind P w) ks us
  | [],_,r=>by rw [List.map_nil] at r; cases r; exact .nil
  | k::ks,_,r=>by
    rw [List.map_cons] at r
    cases r with
    | cons h t=>exact .cons (kV_is h) (items_are t)
abbrev KT (H:Hp):List (List Key×V)→List (List Key×Addr×Value)→Prop:=Paired fun p q=>p.1=q.1∧H q.2.1=some (.tup (p.1.map kV))∧RelV p.2 q.2.2
theorem KT.val {H:Hp} {kvs:List (List Key×V)} {xs:List (List Key×Addr×Value)} (r:KT H kvs xs) (k:List Key):RelO (valV kvs k) ((atKey xs k).map (·.2)):=by
  induction r with
  | nil=>exact True.intro
  | @cons p q ps qs h t ih =>
    obtain ⟨h1,_,h2⟩:=h
    by_cases e:p.1=k
    · have e':q.1=k:=h1.symm.trans e
      have b:atKey (q::qs) k=some q.2:=by simp [atKey,List.find?_cons,e']
      rw [valV_pos e,b]; exact h2
    · have e':¬ q.1=k:=fun z=>e (h1.trans z)
      have b:atKey (q::qs) k=atKey qs k:=by simp [atKey,List.find?_cons,e']
      rw [valV_neg e,b]; exact ih
theorem KT.repl {H:Hp} {kvs:List (List Key×V)} {xs:List (List Key×Addr×Value)} (r:KT H kvs xs) (k:List Key) {y:V} {u:Value} (ry:RelV y u) :
    KT H (kvs.map fun kv=>if kv.1=k then (kv.1,y) else kv) (xs.map (putAt k u)):=by
  induction r with
  | nil=>exact .nil
  | @cons p q ps qs h t ih =>
    rw [List.map_cons,List.map_cons]
    refine .cons ?_ ih
    obtain ⟨h1,h2,h3⟩:=h
    unfold putAt
    by_cases e:p.1=k
    · rw [if_pos e,if_pos (h1.symm.trans e)]; exact ⟨h1,h2,ry⟩
    · rw [if_neg e,if_neg (fun z=>e (h1.trans z))]; exact ⟨h1,h2,h3⟩
theorem KT.put {H:Hp} {kvs:List (List Key×V)} {xs:List (List Key×Addr×Value)} (r:KT H kvs xs) (k:List Key) {b:Addr} {y:V} {u:Value} (hb:H b=some (.tup (k.map kV))) (ry:RelV y u) :
    KT H (putK kvs k y) (storedH xs k b u):=by
  have e:(kvs.any fun kv=>decide (kv.1=k))=(atKey xs k).isSome:=by
    rw [valV_any,(r.val k).isSome_eq,Option.isSome_map]
  unfold putK storedH
  rw [e]
  by_cases q:(atKey xs k).isSome=true
  · rw [if_pos q,if_pos q]; exact r.repl k ry
  · rw [if_neg q,if_neg q]; exact Paired.snoc r ⟨rfl,hb,ry⟩
theorem KT.keeps {H H':Hp} {kvs:List (List Key×V)} {xs:List (List Key×Addr×Value)} (r:KT H kvs xs) (ht:∀ b ys,H b=some (.tup ys)→H' b=some (.tup ys)):KT H' kvs xs :=
  Paired.mapP r fun _ _ z=>⟨z.1,ht _ _ z.2.1,z.2.2⟩
section
variable {P:Program} {w:World} {H:Hp} {h:Heap} {a:Addr}
theorem rd_of {u:HO} (ok:HOk P w H h) (e:Rd H a u):ObjOk P w H h a u:=e.ok ok
theorem dk_rd {kvs:List (Key×V)} (ok:HOk P w H h) (e:Rd H a (.dK kvs)):kvs.length≤sizeLine∧(a==sysModules)=false∧∃ vs,KV kvs vs∧h.DictOf (mixKind P w) a vs :=
  show ObjOk P w H h a (.dK kvs) from rd_of ok e
theorem dk_of {kvs:List (Key×V)} (ok:HOk P w H h) (e:H a=some (.dK kvs)):kvs.length≤sizeLine∧(a==sysModules)=false∧∃ vs,KV kvs vs∧h.DictOf (mixKind P w) a vs:=dk_rd ok (.inl e)
theorem key_of {ks:List Key} (ok:HOk P w H h) (e:H a=some (.tup (ks.map kV))):(tupleKind (mixKind P w)).is h ks a:=by
  obtain ⟨_,its,r,o,h1,h2,n,h3⟩:=(show ObjOk P w H h a (.tup (ks.map kV)) from ok a _ e)
  exact ⟨o,its.toArray,n,h1,h2,h3,by simpa using items_are r⟩
theorem dt_rd {kvs:List (List Key×V)} (ok:HOk P w H h) (e:Rd H a (.dT kvs)):kvs.length≤sizeLine∧(a==sysModules)=false ∧
    ∃ xs,KT H kvs xs∧h.DictOfH (tupleKind (mixKind P w)) a xs:=by
  obtain ⟨z,y,xs,r,o,es,ep,h1,h2,h3,h4,h5⟩:=(show ObjOk P w H h a (.dT kvs) from rd_of ok e)
  refine ⟨z,y,xs,r,o,es,ep,h1,h2,h3,h4,fun x hx=>?_,h5⟩
  have all:∀ {l:List (List Key×V)} {m:List (List Key×Addr×Value)},KT H l m→∀ x∈m,(tupleKind (mixKind P w)).is h x.1 x.2.1:=by
    intro l m q
    induction q with
    | nil=>intro x hx; exact nomatch hx
    | @cons p q ps qs hq t ih =>
      intro x hx
      rcases List.mem_cons.mp hx with e | hx
      · subst e
        exact key_of ok (by rw [← hq.1]; exact hq.2.1)
      · exact ih x hx
  exact all r x hx
theorem dt_of {kvs:List (List Key×V)} (ok:HOk P w H h) (e:H a=some (.dT kvs)):kvs.length≤sizeLine∧(a==sysModules)=false ∧
    ∃ xs,KT H kvs xs∧h.DictOfH (tupleKind (mixKind P w)) a xs:=dt_rd ok (.inl e)
end
def DGet (H:Hp) (a:Addr) (y:V) (r:Option V):Prop :=
  (∃ kvs k,Rd H a (.dK kvs)∧y=kV k∧r=valV kvs k)∨∃ kvs k b,Rd H a (.dT kvs)∧y=.ref b∧H b=some (.tup (k.map kV))∧r=valV kvs k
def DPut (H:Hp) (a:Addr) (y v:V) (H':Hp):Prop :=
  (∃ kvs k,H a=some (.dK kvs)∧y=kV k∧kvs.length<sizeLine∧H'=upd H a (.dK (putK kvs k v))) ∨
  ∃ kvs k b,H a=some (.dT kvs)∧y=.ref b∧H b=some (.tup (k.map kV))∧kvs.length<sizeLine∧H'=upd H a (.dT (putK kvs k v))
section
variable {X:Cx} {pins:List (Addr×Obj)} {σ:St} {H:Hp} {s:Shared} {a:Addr} {y v:V} {u r:Value} {o:Option V} {A:Around} {E:Value→Shared→Prop}
theorem Inv.big (I:Inv X pins σ H s):sysModules<s.heap.objs.size:=by
  have h:mainGlobals<s.heap.objs.size:=(I.mod.glob.keeps I.bk).lt
  exact Nat.lt_trans (by decide) h
theorem d_getItem {Q:Value→Shared→Prop} (hu:A.units+1<cLine) (I:Inv X pins σ H s) (g:DGet H a y (some v)) (ry:RelV y u) (h:∀ w' s',Inv X pins σ H s'→RelV v w'→Q w' s') :
    wpAny (model X.prog X.w) A (getItem (.ref a) u) Q E s:=by
  rcases g with ⟨kvs,k,e,ey,l⟩ | ⟨kvs,k,b,e,ey,eb,l⟩
  · subst ey
    obtain ⟨z,hd,vs,rel,dd⟩:=dk_rd I.hok e
    obtain ⟨w',hw,rw'⟩:=RelO.some_of (v:=v) (o:=valueAt vs k) (by rw [l]; exact rel.val k)
    exact wpAny_getItem_of (kV_is ry) dd.mapOf hw (h w' _ (I.tok _) rw')
  · subst ey
    cases (show u=Value.ref b from ry)
    obtain ⟨z,hd,xs,rel,dd⟩:=dt_rd I.hok e
    obtain ⟨w',hw,rw'⟩:=RelO.some_of (v:=v) (o:=(atKey xs k).map (·.2)) (by rw [l]; exact rel.val k)
    obtain ⟨p,hp,hp2⟩:=Option.map_eq_some_iff.mp hw
    refine wpAny_getItem_heap (tupleKind_room_in1 hu) (key_of I.hok eb) dd hp ?_
    rw [hp2]
    exact h w' _ (I.tok _) rw'
theorem d_notIn {Q:Value→Shared→Prop} (hu:A.units+1<cLine) (I:Inv X pins σ H s) (g:DGet H a y o) (ry:RelV y u) (h:∀ s',Inv X pins σ H s'→Q (.bool (!o.isSome)) s') :
    wpAny (model X.prog X.w) A (compareOp .NotIn u (.ref a)) Q E s:=by
  rcases g with ⟨kvs,k,e,ey,l⟩ | ⟨kvs,k,b,e,ey,eb,l⟩
  · subst ey
    obtain ⟨z,hd,vs,rel,dd⟩:=dk_rd I.hok e
    refine wpAny_notIn_of (kV_is ry) hd dd.mapOf ?_
    rw [← (rel.val k).isSome_eq,← l]
    exact h _ (I.tok _)
  · subst ey
    cases (show u=Value.ref b from ry)
    obtain ⟨z,hd,xs,rel,dd⟩:=dt_rd I.hok e
    refine wpAny_notIn_heap (tupleKind_room_in1 hu) (key_of I.hok eb) hd dd ?_
    have q:=(rel.val k).isSome_eq
    rw [Option.isSome_map] at q
    rw [← q,← l]
    exact h _ (I.tok _)
theorem d_write {h':Heap} {t':Nat} {ob:HO} (I:Inv X pins σ H s) (mu:Mut (H a)) (hs:Heap.SameBut a s.heap h') (he:∃ q,h'.get? a=some q) (new:ObjOk X.prog X.w (upd H a ob) h' a ob) :
    Inv X pins σ (upd H a ob) { s with heap:=h',toks:=t' } :=
  I.write (x:=a) (e:=a) mu (.inl rfl) (fun b q hb z=>(hs.2 b hb).trans z) he new
theorem dk_new {P:Program} {w:World} {H':Hp} {h':Heap} {kvs:List (Key×V)} {vs:List (Key×Value)} (z:kvs.length≤sizeLine) (hd:(a==sysModules)=false) (rel:KV kvs vs) (dd:h'.DictOf (mixKind P w) a vs) :
    ObjOk P w H' h' a (.dK kvs):=⟨z,hd,vs,rel,dd⟩
theorem d_setItem {H':Hp} {Q:Unit→Shared→Prop} (hu:A.units+1<cLine) (I:Inv X pins σ H s) (g:DPut H a y v H') (ry:RelV y u) (rv:RelV v r) (h:∀ s',Inv X pins σ H' s'→Q () s') :
    wpAny (model X.prog X.w) A (setItem (.ref a) u r) Q E s:=by
  rcases g with ⟨kvs,k,e,ey,l,eH⟩ | ⟨kvs,k,b,e,ey,eb,l,eH⟩
  · subst ey eH
    obtain ⟨z,hd,vs,rel,dd⟩:=dk_of I.hok e
    have hz:vs.length≤sizeLine:=by rw [← rel.length]; exact z
    have hl:(putK kvs k v).length≤sizeLine:=by have:=length_putK kvs k v; omega
    refine wpAny_setItem_pairs (hsz:=hz) (kV_is ry) dd fun h' dd' hs=>h _ ?_
    have he:∃ q,h'.get? a=some q:=let ⟨q,_,_,hq,_⟩:=dd'; ⟨q,hq⟩
    exact d_write I (by rw [e]; exact True.intro) hs he (dk_new hl hd (rel.put k rv) dd')
  · subst ey eH
    cases (show u=Value.ref b from ry)
    obtain ⟨z,hd,xs,rel,dd⟩:=dt_of I.hok e
    have hz:xs.length≤sizeLine:=by rw [← Paired.length rel]; exact z
    have hl:(putK kvs k v).length≤sizeLine:=by have:=length_putK kvs k v; omega
    refine wpAny_setItem_heap (hsz:=hz) (tupleKind_room_in1 hu) (key_of I.hok eb) dd fun h' dd' hs=>h _ ?_
    obtain ⟨q,es,ep,hq,h2,h3,h4,_,h5⟩:=dd'
    refine d_write I (by rw [e]; exact True.intro) hs ⟨q,hq⟩ ⟨hl,hd,_,(rel.put k eb rv).keeps fun c ys ec=>?_,q,es,ep,hq,h2,h3,h4,h5⟩
    rw [upd_ne (ne_of ec e (fun z=>nomatch z))]
    exact ec
end
section
variable {X:Cx} {pins:List (Addr×Obj)} {σ:St} {H:Hp} {s:Shared} {a:Addr} {kvs:List (Key×V)} {k:Key} {u:Value} {A:Around} {E:Value→Shared→Prop}
end
def NoSl (i:Expr):Prop:=∀ ov iv,subscripted i false ov iv=operate [ov,iv] (getItem ov iv)
theorem subD_of {prog:Program} {w:World} {A:Around} {E:Value→Shared→Prop} {s:Shared} {env:Env} {value slice:Expr} {pos:Pos} {T id:String} {Q:Value→Shared→Prop}
    (hl:typeLookup (.type T) "__getitem__" = pure (some (.builtin id))) (hs:NoSl slice)
    (h:wpAny (model prog w) A (eval value env) (fun o s₁=>wpAny (model prog w) A (eval slice env) (fun i s₂=>s₂.TypeIs o T∧wpAny (model prog w) A (getItem o i) Q E s₂) E s₁) E s) :
    wpAny (model prog w) A (eval (.Subscript value slice pos) env) Q E s:=by
  refine Subscript_ (wpAny_mono h (fun o s₁ h₁=>wpAny_mono h₁ (fun i s₂ h₂=>?_) fun _ _ x=>x) fun _ _ x=>x)
  obtain ⟨hT,h₂⟩:=h₂
  unfold subscriptTail
  refine wpAny_bind ?_
  rw [getitemInPython_of_ne hT.not_modules]
  refine wpAny_bind (wpAny_specialOf hT hl ?_)
  have fin:wpAny (model prog w) A (subscripted slice false o i) (fun r s₃=>wpAny (model prog w) A (letTemporaryGo value o r >>= fun _=>pure r) Q E s₃) E s₂:=by
    rw [hs o i]
    exact wpAny_operating (wpAny_mono h₂ (fun r s₃ h₃=>wpAny_bind (wpAny_letTemporaryGo (wpAny_pure h₃))) fun _ _ x=>x)
  first
    | exact wpAny_pure (wpAny_bind fin)
    | exact wpAny_bind (wpAny_pure (wpAny_bind fin))
    | exact wpAny_bind fin
theorem dict_typeIs {X:Cx} {pins:List (Addr×Obj)} {σ:St} {H:Hp} {s:Shared} {a:Addr} {y:V} {o:Option V} (I:Inv X pins σ H s) (g:DGet H a y o):s.TypeIs (.ref a) "dict" := by
  rcases g with ⟨kvs,k,e,_,_⟩ | ⟨kvs,k,b,e,_,_,_⟩
  · obtain ⟨_,_,vs,_,dd⟩:=dk_rd I.hok e
    exact dd.typeIs
  · obtain ⟨_,_,xs,_,dd⟩:=dt_rd I.hok e
    exact dd.typeIs
def tDGet (td ty:TE):TE:=fun σ H Q=>td σ H fun x H1=>ty σ H1 fun y H2=>∃ a v,x=.ref a∧DGet H2 a y (some v)∧Q v H2
def tDNotIn (ty td:TE):TE:=fun σ H Q=>ty σ H fun y H1=>td σ H1 fun x H2=>∃ a o,x=.ref a∧DGet H2 a y o∧Q (.bl (!o.isSome)) H2
def sDPut (td ty tv:TE):TS:=fun D σ H=>tv σ H fun v H1=>td σ H1 fun x H2=>ty σ H2 fun y H3=>∃ a H4,x=.ref a∧DPut H3 a y v H4∧D.nx σ H4
section
variable {X:Cx} {o i e value:Expr} {pos pos' tpos:Pos} {td ty tv:TE}
theorem pe_dget (hu:X.A.units+1<cLine) (ho:PE X o td) (hi:PE X i ty) (hs:NoSl i):PE X (.Subscript o i pos) (tDGet td ty):=by
  intro pins s σ H Q I h
  refine subD_of PySem.F.slot_dict_getitem.lookup hs (thn (ho pins s σ H _ I h) fun u s1 ⟨x,H1,I1,rx,q1⟩=>thn (hi pins s1 σ H1 _ I1 q1) fun iv s2 ⟨y,H2,I2,ry,a,v,ex,g,q2⟩=>?_)
  subst ex
  obtain rfl:u=Value.ref a:=rx
  exact ⟨dict_typeIs I2 g,d_getItem hu I2 g ry fun w' s3 I3 rw'=>⟨v,H2,I3,rw',q2⟩⟩
theorem pc_dnotin (hu:X.A.units+1<cLine) (hi:PE X i ty) (ho:PE X o td):PC X .NotIn i o (tDNotIn ty td):=by
  intro pins s σ H Q I h
  refine thn (hi pins s σ H _ I h) fun iv s1 ⟨y,H1,I1,ry,q1⟩=>thn (ho pins s1 σ H1 _ I1 q1) fun u s2 ⟨x,H2,I2,rx,a,ov,ex,g,q2⟩=>?_
  subst ex
  obtain rfl:u=Value.ref a:=rx
  exact d_notIn hu I2 g ry fun s3 I3=>⟨.bl (!ov.isSome),H2,I3,rfl,q2⟩
theorem ps_dput (hu:X.A.units+1<cLine) (ho:PE X o td) (hi:PE X i ty) (hv:PE X value tv) (hs:swapsWith value (some (.Subscript o i pos')) pos.line X.env=pure false) :
    PS X (.Assign [.Subscript o i pos'] value pos) (sDPut td ty tv):=by
  intro pins s σ H D I h
  refine wpAny_Assign_Subscript (thn (hv pins s σ H _ I h) fun r s1 ⟨v,H1,I1,rv,q1⟩=>thn (ho pins s1 σ H1 _ I1 q1) fun u s2 ⟨x,H2,I2,rx,q2⟩=>thn (hi pins s2 σ H2 _ I2 q2) fun iv s3 ⟨y,H3,I3,ry,a,H4,ex,g,q3⟩=>?_) hs
  subst ex
  obtain rfl:u=Value.ref a:=rx
  exact d_setItem hu I3 g ry rv fun s4 I4=>⟨σ,H4,I4,q3⟩
end
theorem dk_empty {P:Program} {w:World} {H:Hp} (h:Heap) (hb:sysModules<h.objs.size):ObjOk P w H (h.push { cls:=.type "dict", data:=.dict #[] }) h.objs.size (.dK []) :=
  ⟨Nat.zero_le _,beq_eq_false_iff_ne.mpr (Ne.symm (Nat.ne_of_lt hb)),[],.nil,Heap.DictOf.new h⟩
def tDNewK:TE:=fun _ H Q=>∀ p,H p=none→Q (.ref p) (upd H p (.dK []))
section
variable {X:Cx} {pos:Pos}
theorem pe_dnewK:PE X (.Dict [] [] pos) tDNewK:=fun pins s σ H Q I h =>
  wpAny_Dict_empty ⟨.ref s.heap.objs.size,_,I.laid (a:=s.heap.objs.size) (o:=.dK []) (t':=s.toks) (fun _ _ q=>Heap.get?_push_of_some _ q) (Nat.le_refl _) (dk_empty s.heap I.big),rfl,h _ (I.hok.fresh (Nat.le_refl _))⟩
end
structure M1 (X:Cx) (o:Expr) (m:Str) (apos:Pos) (e:Expr) (cpos:Pos):Prop where
  base:attributeBase o m X.env (eval o X.env)=eval o X.env
  few:((backTo cpos (starEach [e] X.env)).all (fun x=>!x.1)&&(backToKw cpos (keywordEach [] X.env)).all (fun x=>x.1.isSome)
    && decide (([e]:List Expr).length+([]:List Keyword).length+(if ([]:List Keyword).isEmpty then 0 else 1)<30))=true
  line:(apos.endLine==cpos.line)=true
  trees:backTo cpos (starEach [e] X.env)=[(false,eval e X.env)]
structure M2 (X:Cx) (o:Expr) (m:Str) (apos:Pos) (e f:Expr) (cpos:Pos):Prop where
  base:attributeBase o m X.env (eval o X.env)=eval o X.env
  few:((backTo cpos (starEach [e,f] X.env)).all (fun x=>!x.1)&&(backToKw cpos (keywordEach [] X.env)).all (fun x=>x.1.isSome)
    && decide (([e,f]:List Expr).length+([]:List Keyword).length+(if ([]:List Keyword).isEmpty then 0 else 1)<30))=true
  line:(apos.endLine==cpos.line)=true
  trees:backTo cpos (starEach [e,f] X.env)=[(false,eval e X.env),(false,eval f X.env)]
section
variable {X:Cx} {pins:List (Addr×Obj)} {σ:St} {H:Hp} {s:Shared} {a:Addr} {y d:V} {u r:Value} {o:Option V} {A:Around} {E:Value→Shared→Prop}
end
section
variable {X:Cx} {o e f:Expr} {apos cpos:Pos} {td ty tx:TE}
end
section
variable {X:Cx} {pins:List (Addr×Obj)} {σ:St} {H:Hp} {s:Shared} {a:Addr} {kvs:List (Key×V)} {A:Around} {E:Value→Shared→Prop}
end
section
variable {X:Cx} {pins:List (Addr×Obj)} {σ:St} {H:Hp} {s:Shared} {a:Addr} {y:V} {u:Value} {A:Around} {E:Value→Shared→Prop}
end
end L2
namespace VL
open PySem L2
open Classical
inductive D where
  | non | bl (b:Bool) | int (i:Int) | str (x:Str) | ty (n:String)
  | lst (xs:List D) | tup (xs:List D) | ins (C:Addr) | scr (ns:List Int) | dct (kvs:List (Int×Int))
def dkv (p:Int×Int):Key×V:=(.inl p.1,.int p.2)
abbrev No:Addr→Prop:=fun _=>False
def KL (K:PySem.W.Frag) (a:Addr) (xs:List V):Prop :=
  ∃ (o:Obj) (its:Array Value) (n:Nat),K.lookup a=some o∧o.cls=.type "list" ∧ o.dict=none∧o.data=.seq its n∧its.size≤sizeLine∧Vals xs its.toList
mutual
inductive Is (K:PySem.W.Frag) (H:Hp) (Z:Addr→Prop):V→D→Prop
  | non:Is K H Z .non .non
  | bl (b:Bool):Is K H Z (.bl b) (.bl b)
  | int (i:Int):Is K H Z (.int i) (.int i)
  | str (x:Str):Is K H Z (.str x) (.str x)
  | ty (n:String):Is K H Z (.ty n) (.ty n)
  | lst {a:Addr} {vs:List V} {ds:List D} (hz:¬ Z a) (h:Rd H a (.lst vs)) (hl:vs.length≤sizeLine) (r:IsL K H Z vs ds):Is K H Z (.ref a) (.lst ds)
  | tup {a:Addr} {vs:List V} {ds:List D} (hz:¬ Z a) (h:H a=some (.tup vs)) (hl:vs.length≤sizeLine) (r:IsL K H Z vs ds):Is K H Z (.ref a) (.tup ds)
  | ins {a C dx:Addr} (hz:¬ Z a) (h:H a=some (.ins C dx [])):Is K H Z (.ref a) (.ins C)
  | dct {a:Addr} {kvs:List (Int×Int)} (hz:¬ Z a) (h:Rd H a (.dK (kvs.map dkv))) (hl:kvs.length≤sizeLine):Is K H Z (.ref a) (.dct kvs)
  | scr {a:Addr} {ns:List Int} (hz:¬ Z a) (h:Rd H a (.lst (ns.map V.int))) (hl:ns.length≤sizeLine):Is K H Z (.ref a) (.scr ns)
  | scrK {a:Addr} {ns:List Int} (h:KL K a (ns.map V.int)) (hl:ns.length≤sizeLine):Is K H Z (.ref a) (.scr ns)
inductive IsL (K:PySem.W.Frag) (H:Hp) (Z:Addr→Prop):List V→List D→Prop
  | nil:IsL K H Z [] []
  | cons {v:V} {d:D} {vs:List V} {ds:List D} (h:Is K H Z v d) (r:IsL K H Z vs ds):IsL K H Z (v::vs) (d::ds)
end
def Kp (Z:Addr→Prop) (H:Hp) (Z':Addr→Prop) (H':Hp):Prop:=∀ a o,H a=some o→¬ Z a→H' a=some o∧¬ Z' a
theorem Kp.refl {Z:Addr→Prop} {H:Hp}:Kp Z H Z H:=fun _ _ h z=>⟨h,z⟩
theorem Kp.trans {Z Z1 Z2:Addr→Prop} {H H1 H2:Hp} (a:Kp Z H Z1 H1) (b:Kp Z1 H1 Z2 H2):Kp Z H Z2 H2:=fun c o h z=>b c o (a c o h z).1 (a c o h z).2
theorem Kp.same {Z:Addr→Prop} {H H':Hp} (s:Same H H'):Kp Z H Z H':=fun _ _ h z=>⟨s _ _ h,z⟩
theorem Kp.less {Z Z':Addr→Prop} {H:Hp} (h:∀ a,Z' a→Z a):Kp Z H Z' H:=fun a _ e z=>⟨e,fun q=>z (h a q)⟩
theorem Rd.kp {Z Z':Addr→Prop} {H H':Hp} {a:Addr} {u:HO} (k:Kp Z H Z' H') (hz:¬ Z a) (h:Rd H a u):Rd H' a u∧¬ Z' a:=by
  rcases h with h | ⟨o,h⟩
  · exact ⟨.inl (k _ _ h hz).1,(k _ _ h hz).2⟩
  · exact ⟨.inr ⟨o,(k _ _ h hz).1⟩,(k _ _ h hz).2⟩
mutual
theorem Is.kp {Z Z':Addr→Prop} {H H':Hp} (k:Kp Z H Z' H'):∀ {v:V} {d:D},Is K H Z v d→Is K H' Z' v d
  | _,_,.non=>.non
  | _,_,.bl b=>.bl b
  | _,_,.int b=>.int b
  | _,_,.str b=>.str b
  | _,_,.ty b=>.ty b
  | _,_,.lst hz h hl r=>.lst (Rd.kp k hz h).2 (Rd.kp k hz h).1 hl (IsL.kp k r)
  | _,_,.tup hz h hl r=>.tup (k _ _ h hz).2 (k _ _ h hz).1 hl (IsL.kp k r)
  | _,_,.ins hz h=>.ins (k _ _ h hz).2 (k _ _ h hz).1
  | _,_,.dct hz h hl=>.dct (Rd.kp k hz h).2 (Rd.kp k hz h).1 hl
  | _,_,.scr hz h hl=>.scr (Rd.kp k hz h).2 (Rd.kp k hz h).1 hl
  | _,_,.scrK h hl=>.scrK h hl
theorem IsL.kp {Z Z':Addr→Prop} {H H':Hp} (k:Kp Z H Z' H'):∀ {v:List V} {d:List D},IsL K H Z v d→IsL K H' Z' v d
  | _,_,.nil=>.nil
  | _,_,.cons h r=>.cons (Is.kp k h) (IsL.kp k r)
end
theorem Is.same {Z:Addr→Prop} {H H':Hp} {v:V} {d:D} (h:Is K H Z v d) (s:Same H H'):Is K H' Z v d:=h.kp (Kp.same s)
theorem IsL.same {Z:Addr→Prop} {H H':Hp} {v:List V} {d:List D} (h:IsL K H Z v d) (s:Same H H'):IsL K H' Z v d:=h.kp (Kp.same s)
theorem Is.all {Z:Addr→Prop} {H:Hp} {v:V} {d:D} (h:Is K H Z v d):Is K H No v d:=h.kp (Kp.less fun _ z=>z.elim)
theorem IsL.all {Z:Addr→Prop} {H:Hp} {v:List V} {d:List D} (h:IsL K H Z v d):IsL K H No v d:=h.kp (Kp.less fun _ z=>z.elim)
def D.scal:D→Bool
  | .lst _=>false
  | .tup _=>false
  | .ins _=>false
  | .scr _=>false
  | .dct _=>false
  | _=>true
theorem Is.scal {Z Z':Addr→Prop} {H H':Hp} {v:V} {d:D} (h:Is K H Z v d) (e:d.scal=true):Is K H' Z' v d:=by
  cases h with
  | non=>exact .non
  | bl b=>exact .bl b
  | int b=>exact .int b
  | str b=>exact .str b
  | ty b=>exact .ty b
  | lst _ _ _ _=>cases e
  | tup _ _ _ _=>cases e
  | ins _ _=>cases e
  | dct _ _ _=>cases e
  | scr _ _ _=>cases e
  | scrK _ _=>cases e
section
variable {H:Hp} {Z:Addr→Prop}
theorem IsL.paired:∀ {vs:List V} {ds:List D},IsL K H Z vs ds→Paired (Is K H Z) vs ds
  | _,_,.nil=>.nil
  | _,_,.cons h r=>.cons h (IsL.paired r)
theorem IsL.of:∀ {vs:List V} {ds:List D},Paired (Is K H Z) vs ds→IsL K H Z vs ds
  | _,_,.nil=>.nil
  | _,_,.cons h r=>.cons h (IsL.of r)
theorem IsL.length {vs:List V} {ds:List D} (h:IsL K H Z vs ds):vs.length=ds.length:=Paired.length h.paired
theorem IsL.get:∀ {vs:List V} {ds:List D} {i:Nat} {d:D},IsL K H Z vs ds→ds[i]?=some d→∃ v,vs[i]?=some v∧Is K H Z v d
  | _,_,0,_,.cons h _,e=>by cases e; exact ⟨_,rfl,h⟩
  | _,_,i+1,_,.cons _ r,e=>by
    obtain ⟨v,e1,h1⟩:=IsL.get (i:=i) r (by simpa using e)
    exact ⟨v,by simpa using e1,h1⟩
theorem IsL.append {vs us:List V} {ds es:List D} (a:IsL K H Z vs ds) (b:IsL K H Z us es):IsL K H Z (vs++us) (ds++es):=.of (Paired.append a.paired b.paired)
theorem IsL.take (n:Nat) {vs:List V} {ds:List D} (a:IsL K H Z vs ds):IsL K H Z (vs.take n) (ds.take n):=.of (Paired.take n a.paired)
theorem IsL.drop (n:Nat) {vs:List V} {ds:List D} (a:IsL K H Z vs ds):IsL K H Z (vs.drop n) (ds.drop n):=.of (Paired.drop n a.paired)
theorem IsL.set {v:V} {d:D} (q:Is K H Z v d):∀ {vs:List V} {ds:List D} (n:Nat),IsL K H Z vs ds→IsL K H Z (vs.set n v) (ds.set n d)
  | _,_,_,.nil=>.nil
  | _,_,0,.cons _ r=>.cons q r
  | _,_,n+1,.cons h r=>.cons h (IsL.set q n r)
theorem IsL.one {v:V} {d:D} (q:Is K H Z v d):IsL K H Z [v] [d]:=.cons q .nil
theorem IsL.ints:∀ {vs:List V} {ns:List Int},IsL K H Z vs (ns.map D.int)→vs=ns.map V.int
  | _,[],.nil=>rfl
  | _,n::ns,.cons (.int _) r=>by rw [IsL.ints (ns:=ns) r]; rfl
theorem IsL.ofInts:∀ (ns:List Int),IsL K H Z (ns.map V.int) (ns.map D.int)
  | []=>.nil
  | n::ns=>.cons (.int n) (IsL.ofInts ns)
end
inductive Sl where
  | un | pu (d:D) | bo (d:D) | ol (ds:List D) | om (rows:List (List D)) | od (kvs:List (Int×Int))
  | pm (a:Addr) (ps:List Addr) (rows:List (List D)) | pd (a:Addr) (kvs:List (Int×Int))
abbrev Rho:=List Sl
abbrev Own:=Nat→List Addr
def tot (Z:Addr→Prop) (os:Own):Addr→Prop:=fun a=>Z a∨∃ i,a∈os i
def SlOk (K:PySem.W.Frag) (B H:Hp) (T:Addr→Prop) (o:List Addr):Sl→Option V→Prop
  | .un,_=>o=[]
  | .pu d,v=>o=[]∧∃ u,v=some u∧Is K H T u d
  | .bo d,v=>o=[]∧∃ u,v=some u∧Is K B No u d
  | .ol ds,v=>∃ a vs,o=[a]∧v=some (.ref a)∧H a=some (.lst vs)∧vs.length≤sizeLine∧IsL K H T vs ds
  | .om rows,v=>∃ a ps,o=a::ps∧v=some (.ref a)∧H a=some (.lst (ps.map V.ref))∧ps.length≤sizeLine∧Paired (fun p ds=>∃ vs,H p=some (.lst vs)∧vs.length≤sizeLine∧IsL K H T vs ds) ps rows
  | .od kvs,v=>∃ a,o=[a]∧v=some (.ref a)∧H a=some (.dK (kvs.map dkv))∧kvs.length≤sizeLine
  | .pm a ps rows,v=>o=a::ps∧v=some (.ref a)∧H a=some (.lst (ps.map V.ref))∧ps.length≤sizeLine∧Paired (fun p ds=>∃ vs,H p=some (.lst vs)∧vs.length≤sizeLine∧IsL K H T vs ds) ps rows
  | .pd a kvs,v=>o=[a]∧v=some (.ref a)∧H a=some (.dK (kvs.map dkv))∧kvs.length≤sizeLine
class Tabs where
  ts:List (Addr×Str)
def TabIn [Tabs] (H:Hp):Prop:=∀ p∈Tabs.ts,∃ t,H p.1=some (.tbl #[.str p.2 t])
theorem TabIn.same [Tabs] {H H':Hp} (h:TabIn H) (s:Same H H'):TabIn H':=fun p hp=>let ⟨t,e⟩:=h p hp; ⟨t,s _ _ e⟩
def ZT [Tabs] (Z:Addr→Prop) (H:Hp):Prop:=(∀ a,Z a→∃ o,H a=some o)∧TabIn H
structure Fr [Tabs] (K:PySem.W.Frag) (B:Hp) (Z:Addr→Prop) (os:Own) (ρ:Rho) (σ:St) (H:Hp):Prop where
  keep:Same B H
  zin:∀ a,Z a→∃ o,H a=some o
  len:σ.length=ρ.length
  nd:∀ i,(os i).Nodup
  dj:∀ i j a,a∈os i→a∈os j→i=j
  new:∀ i a,a∈os i→B a=none∧¬ Z a
  sl:∀ i,SlOk K B H (tot Z os) (os i) (ρ.getD i .un) ((σ[i]?).join)
  tab:TabIn B
variable [Tabs]
theorem Fr.tabH {B H:Hp} {Z:Addr→Prop} {os:Own} {ρ:Rho} {σ:St} (f:Fr K B Z os ρ σ H):TabIn H:=f.tab.same f.keep
theorem Paired.any {α β:Type} {F:α→β→Prop}:∀ {as:List α} {bs:List β} {a:α},Paired F as bs→a∈as→∃ b,F a b
  | _,_,_,.cons r t,h=>by
    rcases List.mem_cons.mp h with rfl | h
    · exact ⟨_,r⟩
    · exact Paired.any t h
theorem SlOk.dom {B H:Hp} {T:Addr→Prop} {o:List Addr} {s:Sl} {v:Option V} (h:SlOk K B H T o s v) {a:Addr} (ha:a∈o):∃ u,H a=some u:=by
  cases s with
  | un=>cases h; cases ha
  | pu d=>obtain ⟨rfl,_⟩:=h; cases ha
  | bo d=>obtain ⟨rfl,_⟩:=h; cases ha
  | ol ds =>
    obtain ⟨b,vs,rfl,_,e,_⟩:=h
    cases List.mem_singleton.mp ha
    exact ⟨_,e⟩
  | om rows =>
    obtain ⟨b,ps,rfl,_,e,_,r⟩:=h
    rcases List.mem_cons.mp ha with rfl | ha
    · exact ⟨_,e⟩
    · obtain ⟨_,vs,q,_⟩:=Paired.any r ha
      exact ⟨_,q⟩
  | od kvs =>
    obtain ⟨b,rfl,_,e,_⟩:=h
    cases List.mem_singleton.mp ha
    exact ⟨_,e⟩
  | pm b ps rows =>
    obtain ⟨rfl,_,e,_,r⟩:=h
    rcases List.mem_cons.mp ha with rfl | ha
    · exact ⟨_,e⟩
    · obtain ⟨_,vs,q,_⟩:=Paired.any r ha
      exact ⟨_,q⟩
  | pd b kvs =>
    obtain ⟨rfl,_,e,_⟩:=h
    cases List.mem_singleton.mp ha
    exact ⟨_,e⟩
theorem SlOk.kp {B B' H H':Hp} {T T':Addr→Prop} {o:List Addr} {s:Sl} {v:Option V} (h:SlOk K B H T o s v) (k:Kp T H T' H') (hb:Same B B') (ho:∀ a∈o,∀ u,H a=some u→H' a=some u):SlOk K B' H' T' o s v:=by
  cases s with
  | un=>exact h
  | pu d=>obtain ⟨e,u,e2,i⟩:=h; exact ⟨e,u,e2,i.kp k⟩
  | bo d=>obtain ⟨e,u,e2,i⟩:=h; exact ⟨e,u,e2,i.same hb⟩
  | ol ds=>obtain ⟨a,vs,rfl,e2,e3,hl,i⟩:=h; exact ⟨a,vs,rfl,e2,ho _ (List.mem_singleton.mpr rfl) _ e3,hl,i.kp k⟩
  | om rows =>
    obtain ⟨a,ps,rfl,e2,e3,hl,i⟩:=h
    exact ⟨a,ps,rfl,e2,ho _ List.mem_cons_self _ e3,hl,Paired.mono i fun p ds hp ⟨vs,q,hv,j⟩=>⟨vs,ho _ (List.mem_cons_of_mem _ hp) _ q,hv,j.kp k⟩⟩
  | od kvs=>obtain ⟨a,rfl,e2,e3,hl⟩:=h; exact ⟨a,rfl,e2,ho _ (List.mem_singleton.mpr rfl) _ e3,hl⟩
  | pm a ps rows =>
    obtain ⟨rfl,e2,e3,hl,i⟩:=h
    exact ⟨rfl,e2,ho _ List.mem_cons_self _ e3,hl,Paired.mono i fun p ds hp ⟨vs,q,hv,j⟩=>⟨vs,ho _ (List.mem_cons_of_mem _ hp) _ q,hv,j.kp k⟩⟩
  | pd a kvs=>obtain ⟨rfl,e2,e3,hl⟩:=h; exact ⟨rfl,e2,ho _ (List.mem_singleton.mpr rfl) _ e3,hl⟩
section
variable {B H H':Hp} {Z:Addr→Prop} {os:Own} {ρ:Rho} {σ:St}
theorem Fr.grow (f:Fr K B Z os ρ σ H) (s:Same H H'):Fr K B Z os ρ σ H' where
  keep:=f.keep.trans s
  zin:=fun a z=>let ⟨o,e⟩:=f.zin a z; ⟨o,s _ _ e⟩
  len:=f.len
  nd:=f.nd
  dj:=f.dj
  new:=f.new
  sl:=fun i=>(f.sl i).kp (Kp.same s) (Same.refl _) fun a _ u e=>s _ _ e
  tab:=f.tab
theorem Fr.out (f:Fr K B Z os ρ σ H) {p:Addr} (hp:H p=none):¬ tot Z os p:=by
  rintro (z | ⟨i,z⟩)
  · obtain ⟨o,e⟩:=f.zin p z
    rw [hp] at e; cases e
  · obtain ⟨xs,e⟩:=(f.sl i).dom z
    rw [hp] at e; cases e
def putO (os:Own) (i:Nat) (o:List Addr):Own:=fun j=>if j=i then o else os j
theorem putO_same {os:Own} {i:Nat} {o:List Addr}:putO os i o i=o:=if_pos rfl
theorem putO_ne {os:Own} {i j:Nat} {o:List Addr} (h:j≠i):putO os i o j=os j:=if_neg h
theorem getD_set_same {α:Type} {l:List α} {i:Nat} {x d:α} (h:i<l.length):(l.set i x).getD i d=x:=by
  rw [List.getD_eq_getElem?_getD,List.getElem?_set_self h]; rfl
theorem getD_set_ne {α:Type} {l:List α} {i j:Nat} {x d:α} (h:j≠i):(l.set i x).getD j d=l.getD j d:=by
  rw [List.getD_eq_getElem?_getD,List.getElem?_set_ne (Ne.symm h),← List.getD_eq_getElem?_getD]
theorem Fr.step (f:Fr K B Z os ρ σ H) {i:Nat} (hi:i < ρ.length) {o:List Addr} {s:Sl} {v:Option V}
    (hk:∀ a u,H a=some u→a∉os i→H' a=some u) (hs:∀ a,a∈os i→∃ u,H' a=some u) (hn:o.Nodup) (ho:∀ a∈o,a∈os i∨H a=none) (ok:SlOk K B H' (tot Z (putO os i o)) o s v) :
    Fr K B Z (putO os i o) (ρ.set i s) (σ.set i v) H'∧Kp (tot Z os) H (tot Z (putO os i o)) H':=by
  have no:∀ a u,H a=some u→a∉os i→a∉o:=fun a u e n q=>by
    rcases ho a q with z | z
    · exact n z
    · rw [z] at e; cases e
  have kp:Kp (tot Z os) H (tot Z (putO os i o)) H':=fun a u e t=>by
    have ni:a∉os i:=fun q=>t (.inr ⟨i,q⟩)
    refine ⟨hk a u e ni,?_⟩
    rintro (z | ⟨j,z⟩)
    · exact t (.inl z)
    · by_cases hj:j=i
      · subst hj; rw [putO_same] at z; exact no a u e ni z
      · rw [putO_ne hj] at z; exact t (.inr ⟨j,z⟩)
  refine ⟨⟨fun a u e=>hk a u (f.keep a u e) fun q=>?_,fun a z=>?_,?_,fun j=>?_,fun j k a h1 h2=>?_,fun j a h=>?_,fun j=>?_,f.tab⟩,kp⟩
  · have:=(f.new i a q).1; rw [e] at this; cases this
  · obtain ⟨u,e⟩:=f.zin a z
    exact ⟨u,hk a u e fun q=>(f.new i a q).2 z⟩
  · rw [List.length_set,List.length_set]; exact f.len
  · by_cases hj:j=i
    · subst hj; rw [putO_same]; exact hn
    · rw [putO_ne hj]; exact f.nd j
  · have dom:∀ k,a∈os k→∃ u,H a=some u:=fun k z=>let ⟨xs,e⟩:=(f.sl k).dom z; ⟨_,e⟩
    by_cases hj:j=i
    · by_cases hk':k=i
      · rw [hj,hk']
      · subst hj
        rw [putO_same] at h1; rw [putO_ne hk'] at h2
        rcases ho a h1 with z | z
        · exact f.dj _ _ a z h2
        · obtain ⟨u,e⟩:=dom k h2; rw [z] at e; cases e
    · by_cases hk':k=i
      · subst hk'
        rw [putO_ne hj] at h1; rw [putO_same] at h2
        rcases ho a h2 with z | z
        · exact f.dj _ _ a h1 z
        · obtain ⟨u,e⟩:=dom j h1; rw [z] at e; cases e
      · rw [putO_ne hj] at h1; rw [putO_ne hk'] at h2
        exact f.dj _ _ a h1 h2
  · by_cases hj:j=i
    · subst hj
      rw [putO_same] at h
      rcases ho a h with z | z
      · exact f.new _ a z
      · exact ⟨Same.free f.keep z,fun q=>f.out z (.inl q)⟩
    · rw [putO_ne hj] at h; exact f.new j a h
  · by_cases hj:j=i
    · subst hj
      have hσ:j < σ.length:=by rw [f.len]; exact hi
      rw [putO_same,getD_set_same hi,List.getElem?_set_self hσ]
      exact ok
    · rw [putO_ne hj,getD_set_ne hj,List.getElem?_set_ne (Ne.symm hj)]
      exact (f.sl j).kp kp (Same.refl _) fun a ha u e=>hk a u e fun q=>hj (f.dj _ _ a ha q)
theorem Fr.put (f:Fr K B Z os ρ σ H) {i:Nat} (hi:i < ρ.length) {v:V} {d:D} (h:Is K H (tot Z os) v d) :
    Fr K B Z (putO os i []) (ρ.set i (.pu d)) (σ.set i (some v)) H∧Kp (tot Z os) H (tot Z (putO os i [])) H:=by
  refine f.step hi (fun a u e _=>e) (fun a ha=>let ⟨xs,e⟩:=(f.sl i).dom ha; ⟨_,e⟩) List.nodup_nil (fun a h=>by cases h) ⟨rfl,v,rfl,h.kp (Kp.less ?_)⟩
  rintro a (z | ⟨j,z⟩)
  · exact .inl z
  · by_cases hj:j=i
    · subst hj; rw [putO_same] at z; cases z
    · rw [putO_ne hj] at z; exact .inr ⟨j,z⟩
end
end VL
namespace VL
open PySem L2
open Classical
noncomputable section
abbrev DE:=Rho→Option D
section
variable [Tabs] {K:PySem.W.Frag}
def SemB (K:PySem.W.Frag) (t:TE) (e:DE):Prop:=∀ {B:Hp} {Z:Addr→Prop} {os:Own} {ρ:Rho} {σ:L2.St} {H:Hp} {Q:VK} {d:D},Fr K B Z os ρ σ H→e ρ=some d→(∀ v H',Same H H'→Is K H' No v d→Q v H')→t σ H Q
def SemI (K:PySem.W.Frag) (t:TE) (e:DE):Prop:=∀ {B:Hp} {Z:Addr→Prop} {os:Own} {ρ:Rho} {σ:L2.St} {H:Hp} {Q:VK} {d:D},Fr K B Z os ρ σ H→e ρ=some d→(∀ v H',Same H H'→Is K H' (tot Z os) v d→Q v H')→t σ H Q
def SemF (K:PySem.W.Frag) (t:TE) (e:Rho→Option (List D)):Prop:=∀ {B:Hp} {Z:Addr→Prop} {os:Own} {ρ:Rho} {σ:L2.St} {H:Hp} {Q:VK} {ds:List D},Fr K B Z os ρ σ H→e ρ=some ds →
  (∀ p vs H',Same H H'→H p=none→H' p=some (.lst vs)→vs.length≤sizeLine→IsL K H' (fun a=>a=p∨tot Z os a) vs ds→Q (.ref p) H')→t σ H Q
def SemT (K:PySem.W.Frag) (t:TT) (e:Rho→Option Bool):Prop:=∀ {B:Hp} {Z:Addr→Prop} {os:Own} {ρ:Rho} {σ:L2.St} {H:Hp} {Q:Bool→Hp→Prop} {b:Bool},Fr K B Z os ρ σ H→e ρ=some b→(∀ H',Same H H'→Q b H')→t σ H Q
inductive Args (K:PySem.W.Frag) (H:Hp) (T:Addr→Prop):List Bool→List V→List D→Prop
  | nil:Args K H T [] [] []
  | own {ms:List Bool} {v:V} {d:D} {vs:List V} {ds:List D}:Is K H T v d→Args K H T ms vs ds→Args K H T (true::ms) (v::vs) (d::ds)
  | any {ms:List Bool} {v:V} {d:D} {vs:List V} {ds:List D}:Is K H No v d→Args K H T ms vs ds→Args K H T (false::ms) (v::vs) (d::ds)
def SemA (K:PySem.W.Frag) (ms:List Bool) (t:TA) (e:Rho→Option (List D)):Prop:=∀ {B:Hp} {Z:Addr→Prop} {os:Own} {ρ:Rho} {σ:L2.St} {H:Hp} {Q:List V→Hp→Prop} {ds:List D},Fr K B Z os ρ σ H→e ρ=some ds→(∀ vs H',Same H H'→Args K H' (tot Z os) ms vs ds→Q vs H')→t σ H Q
theorem Args.len {H:Hp} {T:Addr→Prop} {ms:List Bool} {vs:List V} {ds:List D} (a:Args K H T ms vs ds):vs.length=ms.length∧ds.length=ms.length:=by
  induction a with
  | nil=>exact ⟨rfl,rfl⟩
  | own h _ ih=>simp [ih.1,ih.2]
  | any h _ ih=>simp [ih.1,ih.2]
theorem Args.lown {H:Hp} {T:Addr→Prop}:∀ {n:Nat} {vs:List V} {ds:List D},Args K H T (List.replicate n true) vs ds→IsL K H T vs ds
  | 0,_,_,.nil=>.nil
  | _+1,_,_,.own h r=>.cons h r.lown
theorem SemI.b {t:TE} {e:DE} (h:SemI K t e):SemB K t e:=fun f q k=>h f q fun v H' s i=>k v H' s i.all
theorem SemF.i {t:TE} {e:Rho→Option (List D)} (h:SemF K t e):SemI K t (fun ρ=>(e ρ).map D.lst):=fun {B Z os ρ σ H Q d} f q k=>by
  dsimp only at q
  cases q1:e ρ with
  | none=>rw [q1] at q; cases q
  | some ds =>
    rw [q1] at q
    cases q
    refine h f q1 fun p vs H' s hp hp' hl i=>k _ _ s (.lst (f.out hp) (.inl hp') hl (i.kp (Kp.less fun a z=>.inr z)))
def lof:D→Option (List D)
  | .lst ds=>some ds
  | .scr ns=>some (ns.map D.int)
  | _=>none
theorem Is.seq {H:Hp} {Z:Addr→Prop} {v:V} {d:D} {ds:List D} (h:Is K H Z v d) (e:lof d=some ds):∃ p vs,v=.ref p∧vs.length≤sizeLine∧vs.length=ds.length∧∀ H' Z',Kp Z H Z' H'→SqL K H' p vs∧IsL K H' Z' vs ds:=by
  cases h with
  | lst hz h hl r=>cases e; exact ⟨_,_,rfl,hl,r.length,fun H' Z' k=>⟨.inl (Rd.kp k hz h).1,r.kp k⟩⟩
  | scr hz h hl=>cases e; exact ⟨_,_,rfl,by rw [List.length_map]; exact hl,by simp,fun H' Z' k=>⟨.inl (Rd.kp k hz h).1,.ofInts _⟩⟩
  | scrK h hl=>cases e; exact ⟨_,_,rfl,by rw [List.length_map]; exact hl,by simp,fun H' Z' k=>⟨.inr h,.ofInts _⟩⟩
  | _=>cases e
noncomputable def gScal (e:DE):DE:=fun ρ=>match e ρ with
  | some d=>if d.scal=true then some d else none
  | none=>none
theorem SemB.i {t:TE} {e:DE} (h:SemB K t e):SemI K t (gScal e):=fun {B Z os ρ σ H Q d} f q k=>by
  unfold gScal at q
  cases q1:e ρ with
  | none=>rw [q1] at q; cases q
  | some d' =>
    rw [q1] at q
    have q':(if d'.scal=true then some d' else none)=some d:=q
    by_cases c:d'.scal=true
    · rw [if_pos c] at q'
      cases q'
      exact h f q1 fun v H' s i=>k v H' s (i.scal c)
    · rw [if_neg c] at q'; cases q'
noncomputable def dVar (i:Nat):DE:=fun ρ=>match ρ.getD i .un with
  | .pu d=>some d
  | .bo d=>some d
  | .ol ds=>some (.lst ds)
  | .om rows=>some (.lst (rows.map D.lst))
  | .od kvs=>some (.dct kvs)
  | .pm _ _ rows=>some (.lst (rows.map D.lst))
  | .pd _ kvs=>some (.dct kvs)
  | .un=>none
noncomputable def dVarI (i:Nat):DE:=fun ρ=>match ρ.getD i .un with
  | .pu d=>some d
  | _=>none
omit [Tabs] in
theorem join_some {α:Type} {o:Option (Option α)} {u:α} (h:o.join=some u):o=some (some u):=by
  cases o with
  | none=>cases h
  | some x=>rw [show x=some u from h]
theorem rows_is {H:Hp} {T:Addr→Prop}:∀ {ps:List Addr} {rows:List (List D)},Paired (fun p ds=>∃ vs,H p=some (.lst vs)∧vs.length≤sizeLine∧IsL K H T vs ds) ps rows→IsL K H No (ps.map V.ref) (rows.map D.lst)
  | _,_,.nil=>.nil
  | _,_,.cons ⟨vs,e,hl,i⟩ r=>.cons (.lst (fun z=>z) (.inl e) hl i.all) (rows_is r)
theorem sb_var (i:Nat):SemB K (tVar i) (dVar i):=fun {B Z os ρ σ H Q d} f q k=>by
  have s:=f.sl i
  unfold dVar at q
  cases e:ρ.getD i .un with
  | un=>rw [e] at q; cases q
  | pu d' =>
    rw [e] at q s
    cases q
    obtain ⟨_,u,hu,i⟩:=s
    exact ⟨u,join_some hu,k u H (Same.refl _) i.all⟩
  | bo d' =>
    rw [e] at q s
    cases q
    obtain ⟨_,u,hu,i⟩:=s
    exact ⟨u,join_some hu,k u H (Same.refl _) (i.same f.keep)⟩
  | ol ds =>
    rw [e] at q s
    cases q
    obtain ⟨a,vs,_,hu,hH,hl,i⟩:=s
    exact ⟨_,join_some hu,k _ H (Same.refl _) (.lst (fun z=>z) (.inl hH) hl i.all)⟩
  | om rows =>
    rw [e] at q s
    cases q
    obtain ⟨a,ps,_,hu,hH,hl,i⟩:=s
    exact ⟨_,join_some hu,k _ H (Same.refl _) (.lst (fun z=>z) (.inl hH) (by rw [List.length_map]; exact hl) (rows_is i))⟩
  | od kvs =>
    rw [e] at q s
    cases q
    obtain ⟨a,_,hu,hH,hl⟩:=s
    exact ⟨_,join_some hu,k _ H (Same.refl _) (.dct (fun z=>z) (.inl hH) hl)⟩
  | pm a ps rows =>
    rw [e] at q s
    cases q
    obtain ⟨_,hu,hH,hl,i⟩:=s
    exact ⟨_,join_some hu,k _ H (Same.refl _) (.lst (fun z=>z) (.inl hH) (by rw [List.length_map]; exact hl) (rows_is i))⟩
  | pd a kvs =>
    rw [e] at q s
    cases q
    obtain ⟨_,hu,hH,hl⟩:=s
    exact ⟨_,join_some hu,k _ H (Same.refl _) (.dct (fun z=>z) (.inl hH) hl)⟩
theorem si_var (i:Nat):SemI K (tVar i) (dVarI i):=fun {B Z os ρ σ H Q d} f q k=>by
  have s:=f.sl i
  unfold dVarI at q
  cases e:ρ.getD i .un with
  | pu d' =>
    rw [e] at q s
    cases q
    obtain ⟨_,u,hu,i⟩:=s
    exact ⟨u,join_some hu,k u H (Same.refl _) i⟩
  | _=>rw [e] at q; cases q
noncomputable def dC (d:D):DE:=fun _=>some d
theorem si_int {i:Int}:SemI K (tC (.int i)) (dC (.int i)):=fun f q k=>by cases q; exact k _ _ (Same.refl _) (.int i)
theorem si_bl {i:Bool}:SemI K (tC (.bl i)) (dC (.bl i)):=fun f q k=>by cases q; exact k _ _ (Same.refl _) (.bl i)
noncomputable def dII (f:Int→Int→Option D) (a b:DE):DE:=fun ρ=>match a ρ with
  | some (.int i)=>(match b ρ with
    | some (.int j)=>f i j
    | _=>none)
  | _=>none
theorem dII_some {f:Int→Int→Option D} {a b:DE} {ρ:Rho} {d:D} (h:dII f a b ρ=some d):∃ i j,a ρ=some (.int i)∧b ρ=some (.int j)∧f i j=some d:=by
  unfold dII at h
  split at h
  · rename_i i e1
    split at h
    · rename_i j e2
      exact ⟨i,j,e1,e2,h⟩
    · cases h
  · cases h
theorem Is.isInt {H:Hp} {Z:Addr→Prop} {v:V} {i:Int} (h:Is K H Z v (.int i)):v=.int i:=by cases h; rfl
theorem Is.isBl {H:Hp} {Z:Addr→Prop} {v:V} {i:Bool} (h:Is K H Z v (.bl i)):v=.bl i:=by cases h; rfl
variable {ta tb tc:TE} {a b c:DE}
theorem si_op0 {g:Int→Int→V} (gd:Int→Int→D) (hg:∀ i j H Z,Is K H Z (g i j) (gd i j)) (ha:SemB K ta a) (hb:SemB K tb b):SemI K (tOp (rI0 g) ta tb) (dII (fun i j=>some (gd i j)) a b):=fun {B Z os ρ σ H Q d} f q k=>by
  obtain ⟨i,j,e1,e2,e3⟩:=dII_some q
  cases e3
  refine ha f e1 fun v H1 s1 i1=>hb (f.grow s1) e2 fun u H2 s2 i2=>?_
  exact ⟨i,j,i1.isInt,i2.isInt,k _ _ (s1.trans s2) (hg i j _ _)⟩
noncomputable def gC (C:Int→Int→Prop) (g:Int→Int→D):Int→Int→Option D:=fun i j=>if C i j then some (g i j) else none
theorem gC_pos {C:Int→Int→Prop} {g:Int→Int→D} {i j:Int} (h:C i j):gC C g i j=some (g i j):=if_pos h
theorem si_opC {C:Int→Int→Prop} {g:Int→Int→V} (gd:Int→Int→D) (hg:∀ i j H Z,Is K H Z (g i j) (gd i j)) (ha:SemB K ta a) (hb:SemB K tb b):SemI K (tOp (rI C g) ta tb) (dII (gC C gd) a b):=fun {B Z os ρ σ H Q d} f q k=>by
  obtain ⟨i,j,e1,e2,e3⟩:=dII_some q
  unfold gC at e3
  by_cases c:C i j
  · rw [if_pos c] at e3
    cases e3
    refine ha f e1 fun v H1 s1 i1=>hb (f.grow s1) e2 fun u H2 s2 i2=>?_
    exact ⟨i,j,i1.isInt,i2.isInt,c,k _ _ (s1.trans s2) (hg i j _ _)⟩
  · rw [if_neg c] at e3; cases e3
noncomputable def dAdd:DE→DE→DE:=dII fun i j=>some (.int (i+j))
noncomputable def dSub:DE→DE→DE:=dII fun i j=>some (.int (i-j))
noncomputable def dMul:DE→DE→DE:=dII (gC IntMulOk fun i j=>.int (i*j))
noncomputable def dFdiv:DE→DE→DE:=dII (gC (fun _ j=>0<j∧j.natAbs.log2<9000) fun i j=>.int (i / j))
noncomputable def dMod:DE→DE→DE:=dII (gC (fun _ j=>0<j) fun i j=>.int (i % j))
noncomputable def dPow:DE→DE→DE:=dII (gC CPow fun i j=>.int (i ^ j.toNat))
noncomputable def dLt:DE→DE→DE:=dII fun i j=>some (.bl (decide (i<j)))
noncomputable def dLe:DE→DE→DE:=dII fun i j=>some (.bl (decide (i≤j)))
noncomputable def dGt:DE→DE→DE:=dII fun i j=>some (.bl (decide (j<i)))
noncomputable def dGe:DE→DE→DE:=dII fun i j=>some (.bl (decide (j≤i)))
theorem si_add (ha:SemB K ta a) (hb:SemB K tb b):SemI K (tOp (rI0 fun i j=>.int (i+j)) ta tb) (dAdd a b):=si_op0 (fun i j=>.int (i+j)) (fun _ _ _ _=>.int _) ha hb
theorem si_sub (ha:SemB K ta a) (hb:SemB K tb b):SemI K (tOp (rI0 fun i j=>.int (i-j)) ta tb) (dSub a b):=si_op0 (fun i j=>.int (i-j)) (fun _ _ _ _=>.int _) ha hb
theorem si_mul (ha:SemB K ta a) (hb:SemB K tb b):SemI K (tOp (rI IntMulOk fun i j=>.int (i*j)) ta tb) (dMul a b):=si_opC (fun i j=>.int (i*j)) (fun _ _ _ _=>.int _) ha hb
theorem si_fdiv (ha:SemB K ta a) (hb:SemB K tb b):SemI K (tOp (rI (fun _ j=>0<j∧j.natAbs.log2<9000) fun i j=>.int (i / j)) ta tb) (dFdiv a b):=si_opC (fun i j=>.int (i / j)) (fun _ _ _ _=>.int _) ha hb
theorem si_mod (ha:SemB K ta a) (hb:SemB K tb b):SemI K (tOp (rI (fun _ j=>0<j) fun i j=>.int (i % j)) ta tb) (dMod a b):=si_opC (fun i j=>.int (i % j)) (fun _ _ _ _=>.int _) ha hb
theorem si_pow (ha:SemB K ta a) (hb:SemB K tb b):SemI K (tOp (rI CPow fun i j=>.int (i ^ j.toNat)) ta tb) (dPow a b):=si_opC (fun i j=>.int (i ^ j.toNat)) (fun _ _ _ _=>.int _) ha hb
theorem si_lt (ha:SemB K ta a) (hb:SemB K tb b):SemI K (tOp (rI0 fun i j=>.bl (decide (i<j))) ta tb) (dLt a b):=si_op0 (fun i j=>.bl (decide (i<j))) (fun _ _ _ _=>.bl _) ha hb
theorem si_le (ha:SemB K ta a) (hb:SemB K tb b):SemI K (tOp (rI0 fun i j=>.bl (decide (i≤j))) ta tb) (dLe a b):=si_op0 (fun i j=>.bl (decide (i≤j))) (fun _ _ _ _=>.bl _) ha hb
theorem si_gt (ha:SemB K ta a) (hb:SemB K tb b):SemI K (tOp (rI0 fun i j=>.bl (decide (j<i))) ta tb) (dGt a b):=si_op0 (fun i j=>.bl (decide (j<i))) (fun _ _ _ _=>.bl _) ha hb
theorem si_ge (ha:SemB K ta a) (hb:SemB K tb b):SemI K (tOp (rI0 fun i j=>.bl (decide (j≤i))) ta tb) (dGe a b):=si_op0 (fun i j=>.bl (decide (j≤i))) (fun _ _ _ _=>.bl _) ha hb
noncomputable def dNeg (a:DE):DE:=fun ρ=>match a ρ with
  | some (.int i)=>some (.int (-i))
  | _=>none
theorem si_neg (ha:SemB K ta a):SemI K (tUn (rU fun i=>.int (-i)) ta) (dNeg a):=fun {B Z os ρ σ H Q d} f q k=>by
  unfold dNeg at q
  split at q
  · rename_i i e1
    cases q
    exact ha f e1 fun v H1 s1 i1=>⟨i,i1.isInt,k _ _ s1 (.int _)⟩
  · cases q
noncomputable def dT (a:DE):Rho→Option Bool:=fun ρ=>match a ρ with
  | some (.bl b)=>some b
  | _=>none
theorem st_test (ha:SemB K ta a):SemT K (tTest ta) (dT a):=fun {B Z os ρ σ H Q d} f q k=>by
  unfold dT at q
  split at q
  · rename_i b e
    cases q
    exact ha f e fun v H1 s1 i1=>⟨_,i1.isBl,k _ s1⟩
  · cases q
def truD:D→Option Bool
  | .non=>some false
  | .bl b=>some b
  | .int i=>some (i != 0)
  | .str y=>if y.length≤sizeLine then some ((y.length:Int) != 0) else none
  | .lst ds=>some (!ds.isEmpty)
  | .tup ds=>some (!ds.isEmpty)
  | .scr ns=>some (!ns.isEmpty)
  | _=>none
theorem isEmpty_is {H:Hp} {Z:Addr→Prop} {vs:List V} {ds:List D} (h:IsL K H Z vs ds):vs.isEmpty=ds.isEmpty:=by cases h <;> rfl
theorem tru_is {H:Hp} {Z:Addr→Prop} {v:V} {d:D} {b:Bool} (h:Is K H Z v d) (e:truD d=some b):TruV K v H b:=by
  cases h with
  | non=>cases e; rfl
  | bl b=>cases e; rfl
  | int i=>cases e; rfl
  | str x =>
    have e:(if x.length≤sizeLine then some ((x.length:Int) != 0) else none)=some b:=e
    by_cases c:x.length≤sizeLine
    · rw [if_pos c] at e; cases e; exact ⟨c,rfl⟩
    · rw [if_neg c] at e; cases e
  | ty n=>cases e
  | lst hz h hl r=>cases e; exact .inl ⟨_,.inl h,by rw [isEmpty_is r]⟩
  | tup hz h hl r=>cases e; exact .inr (.inl ⟨_,.inl (.inl h),by rw [isEmpty_is r]⟩)
  | ins _ _=>cases e
  | dct _ _ _=>cases e
  | scr hz h hl=>cases e; exact .inl ⟨_,.inl h,by cases ‹List Int› <;> rfl⟩
  | scrK h hl=>cases e; exact .inl ⟨_,.inr h,by cases ‹List Int› <;> rfl⟩
noncomputable def dTru (a:DE):Rho→Option Bool:=fun ρ=>match a ρ with
  | some d=>truD d
  | none=>none
theorem st_tru (ha:SemB K ta a):SemT K (fun σ H Q=>ta σ H fun x H'=>∃ k,TruV K x H' k∧Q k H') (dTru a):=fun {B Z os ρ σ H Q b} f q k=>by
  unfold dTru at q
  split at q
  · rename_i d e
    exact ha f e fun v H1 s1 i1=>⟨b,tru_is i1 q,k _ s1⟩
  · cases q
variable {tA tB':TT} {x y:Rho→Option Bool}
noncomputable def dAnd (x y:Rho→Option Bool):Rho→Option Bool:=fun ρ=>match x ρ with
  | some true=>y ρ
  | some false=>some false
  | none=>none
noncomputable def dOr (x y:Rho→Option Bool):Rho→Option Bool:=fun ρ=>match x ρ with
  | some true=>some true
  | some false=>y ρ
  | none=>none
noncomputable def dNot (x:Rho→Option Bool):Rho→Option Bool:=fun ρ=>match x ρ with
  | some b=>some (!b)
  | none=>none
theorem st_and (ha:SemT K tA x) (hb:SemT K tB' y):SemT K (tAnd tA tB') (dAnd x y):=fun {B Z os ρ σ H Q b} f q k=>by
  unfold dAnd at q
  split at q
  · rename_i e
    exact ha f e fun H1 s1=>iteT (hb (f.grow s1) q fun H2 s2=>k _ (s1.trans s2))
  · rename_i e
    cases q
    exact ha f e fun H1 s1=>iteF (k _ s1)
  · cases q
theorem st_or (ha:SemT K tA x) (hb:SemT K tB' y):SemT K (tOr tA tB') (dOr x y):=fun {B Z os ρ σ H Q b} f q k=>by
  unfold dOr at q
  split at q
  · rename_i e
    cases q
    exact ha f e fun H1 s1=>iteT (k _ s1)
  · rename_i e
    exact ha f e fun H1 s1=>iteF (hb (f.grow s1) q fun H2 s2=>k _ (s1.trans s2))
  · cases q
theorem st_not (ha:SemT K tA x):SemT K (tNot tA) (dNot x):=fun {B Z os ρ σ H Q b} f q k=>by
  unfold dNot at q
  split at q
  · rename_i c e
    cases q
    exact ha f e fun H1 s1=>k _ s1
  · cases q
noncomputable def dTrue:Rho→Option Bool:=fun _=>some true
theorem st_true:SemT K tTrue dTrue:=fun f q k=>by cases q; exact k _ (Same.refl _)
noncomputable def dAndV (a b:DE):DE:=fun ρ=>match a ρ with
  | some (.bl true)=>b ρ
  | some (.bl false)=>some (.bl false)
  | _=>none
noncomputable def dNotV (a:DE):DE:=fun ρ=>match a ρ with
  | some (.bl c)=>some (.bl (!c))
  | _=>none
theorem si_andV (ha:SemB K ta a) (hb:SemI K tb b):SemI K (tAndV ta tb) (dAndV a b):=fun {B Z os ρ σ H Q d} f q k=>by
  unfold dAndV at q
  split at q
  · rename_i e
    exact ha f e fun v H1 s1 i1=>⟨true,i1.isBl,iteT (hb (f.grow s1) q fun v H2 s2=>k _ _ (s1.trans s2))⟩
  · rename_i e
    cases q
    exact ha f e fun v H1 s1 i1=>⟨false,i1.isBl,iteF (k _ _ s1 (.bl _))⟩
  · cases q
theorem si_notV (ha:SemB K ta a):SemI K (tNotV ta) (dNotV a):=fun {B Z os ρ σ H Q d} f q k=>by
  unfold dNotV at q
  split at q
  · rename_i c e
    cases q
    exact ha f e fun v H1 s1 i1=>⟨c,i1.isBl,k _ _ s1 (.bl _)⟩
  · cases q
noncomputable def dIf (x:Rho→Option Bool) (a b:DE):DE:=fun ρ=>match x ρ with
  | some true=>a ρ
  | some false=>b ρ
  | none=>none
theorem si_if (h:SemT K tA x) (ha:SemI K ta a) (hb:SemI K tb b):SemI K (tIf tA ta tb) (dIf x a b):=fun {B Z os ρ σ H Q d} f q k=>by
  unfold dIf at q
  split at q
  · rename_i e
    exact h f e fun H1 s1=>iteT (ha (f.grow s1) q fun v H2 s2=>k _ _ (s1.trans s2))
  · rename_i e
    exact h f e fun H1 s1=>iteF (hb (f.grow s1) q fun v H2 s2=>k _ _ (s1.trans s2))
  · cases q
end
end
end VL
namespace L2
open PySem PySem.Spec PyProof.Rows
section
variable {X:Cx} {pins:List (Addr×Obj)} {σ:St} {H:Hp} {s:Shared} {l:Addr} {xs:List V}
theorem Inv.lstR (I:Inv X pins σ H s) (hH:Rd H l (.lst xs)):xs.length≤sizeLine∧∃ (its:List Value) (n:Nat),Vals xs its∧xs.length=its.length∧s.heap.get? l=some { cls:=.type "list", data:=.seq its.toArray n }:=by
  obtain ⟨z,its,n,r,e⟩:=hH.ok I.hok
  exact ⟨z,its,n,r,r.length,e⟩
def rCatR:R2:=fun x y H Q=>∃ l b xs zs,x=.ref l∧y=.ref b∧Rd H l (.lst xs)∧Rd H b (.lst zs)∧xs.length+zs.length≤sizeLine∧∀ p,H p=none→Q (.ref p) (upd H p (.lst (xs++zs)))
theorem op_catR:OpR X (binaryOp .Add) rCatR:=by
  intro pins s σ H x y v u Q I rx ry h
  obtain ⟨l,b,xs,zs,rfl,rfl,hH,hB,hz,q⟩:=h
  cases rx
  cases ry
  obtain ⟨z,its,n,r,hl,e⟩:=I.lstR hH
  obtain ⟨z2,its2,n2,r2,hl2,e2⟩:=I.lstR hB
  refine PySem.P.add_list e e2 ?_ (by rw [List.size_toArray,List.size_toArray]; omega)
  have ea:its.toArray++its2.toArray=(its++its2).toArray:=by simp
  rw [ea]
  exact ⟨.ref _,_,I.lnew (t':=s.toks) (r.append r2) (by rw [List.length_append]; omega),rfl,q _ I.fresh⟩
def rExtR:V→List V→Hp→VK→Prop:=fun x vs H Q=>∃ l b xs zs,x=.ref l∧vs=[.ref b]∧H l=some (.lst xs)∧Rd H b (.lst zs)∧xs.length+zs.length≤sizeLine∧Q .non (upd H l (.lst (xs++zs)))
theorem mt_extR:MtM X "list.extend" rExtR:=by
  intro pins s σ H x vs v us Q I rx rv h
  obtain ⟨l,b,xs,zs,rfl,rfl,hH,hB,hz,q⟩:=h
  cases rx
  obtain ⟨u,rfl,ru⟩:=rv.one
  cases ru
  obtain ⟨z,its,n,r,hl,e⟩:=I.lstM hH
  obtain ⟨z2,its2,n2,r2,hl2,e2⟩:=I.lstR hB
  have hsz:its.toArray.size+its2.toArray.size≤sizeLine:=by rw [List.size_toArray,List.size_toArray]; omega
  have hlong:¬ (!its.toArray.isEmpty&&Builtin.List.listTooLong (its.toArray.size+its2.toArray.size))=true:=by
    rw [notLongL hsz,Bool.and_false]
    exact Bool.false_ne_true
  refine call_meets F.slot_list_extend ⟨_,e,rfl⟩ F.entry_list_extend (F.args_list_extend_2 _ _)
    (AutoSeq1.list_extend_list_list_0 l its.toArray n b its2.toArray n2 hlong (by rw [List.size_toArray]; omega) (by omega)) ⟨e,e2,?_⟩
  refine ⟨.non,_,I.lset (its':=its++its2) hH e (by simp) (r.append r2) ?_,rfl,q⟩
  rw [List.length_append]
  omega
theorem ix_seqK {K:PySem.W.Frag} (h:X.K=K):IxR X (rIx K):=by subst h; exact ix_seq
theorem call_lenK {K:PySem.W.Frag} (h:X.K=K):CallR X (.builtin "len") (fun xs H Q=>∃ x n,xs=[x]∧LenV K x H n∧Q (.int n) H):=by subst h; exact call_len
theorem call_sumK {K:PySem.W.Frag} (hc:X.calm=true) (h:X.K=K):CallR X (.builtin "sum") (fun xs H Q=>∃ (p:Addr) (ns:List Int),xs=[.ref p]∧SqL K H p (ns.map V.int)∧Q (.int ns.sum) H):=by subst h; exact call_sum hc
theorem call_max1K {K:PySem.W.Frag} (hc:X.calm=true) (h:X.K=K):CallR X (.builtin "max") (fun xs H Q=>∃ (p:Addr) (ns:List Int),xs=[.ref p]∧SqL K H p (ns.map V.int)∧ns≠[]∧∀ M,M∈ns→(∀ a,a∈ns→a≤M)→Q (.int M) H):=by subst h; exact call_max1 hc
end
end L2
namespace VL
open PySem L2
open Classical
noncomputable section
section
variable [Tabs] {K:PySem.W.Frag} {ta tb tc:TE} {a b c:DE}
noncomputable def dCons (a:DE) (es:Rho→Option (List D)):Rho→Option (List D):=fun ρ=>match a ρ with
  | some d=>(match es ρ with
    | some ds=>some (d::ds)
    | none=>none)
  | none=>none
noncomputable def dNil:Rho→Option (List D):=fun _=>some []
theorem dCons_some {a:DE} {es:Rho→Option (List D)} {ρ:Rho} {ds:List D} (h:dCons a es ρ=some ds):∃ d r,a ρ=some d∧es ρ=some r∧ds=d::r:=by
  unfold dCons at h
  split at h
  · rename_i d e1
    split at h
    · rename_i r e2
      exact ⟨d,r,e1,e2,(Option.some.inj h).symm⟩
    · cases h
  · cases h
theorem sa_nil:SemA K [] tNil dNil:=fun f q k=>by cases q; exact k _ _ (Same.refl _) .nil
theorem sa_own {ms:List Bool} {tr:TA} {es:Rho→Option (List D)} (ha:SemI K ta a) (hr:SemA K ms tr es):SemA K (true::ms) (tCons ta tr) (dCons a es):=fun {B Z os ρ σ H Q ds} f q k=>by
  obtain ⟨d,r,e1,e2,rfl⟩:=dCons_some q
  exact ha f e1 fun v H1 s1 i1=>hr (f.grow s1) e2 fun vs H2 s2 i2=>k _ _ (s1.trans s2) (.own (i1.same s2) i2)
theorem sa_any {ms:List Bool} {tr:TA} {es:Rho→Option (List D)} (ha:SemB K ta a) (hr:SemA K ms tr es):SemA K (false::ms) (tCons ta tr) (dCons a es):=fun {B Z os ρ σ H Q ds} f q k=>by
  obtain ⟨d,r,e1,e2,rfl⟩:=dCons_some q
  exact ha f e1 fun v H1 s1 i1=>hr (f.grow s1) e2 fun vs H2 s2 i2=>k _ _ (s1.trans s2) (.any (i1.same s2) i2)
theorem kp_new {T:Addr→Prop} {H:Hp} {p:Addr} {o:HO} (hp:H p=none):Kp T H (fun a=>a=p∨T a) (upd H p o):=fun a u e z=>by
  have hne:a≠p:=ne_of_none e hp
  exact ⟨by rw [upd_ne hne]; exact e,fun q=>q.elim hne z⟩
theorem sf_lst {n:Nat} {t:TA} {es:Rho→Option (List D)} (h:SemA K (List.replicate n true) t es) (hn:n≤sizeLine):SemF K (tLst t) es:=fun {B Z os ρ σ H Q ds} f q k=>by
  refine h f q fun vs H1 s1 a=>?_
  have hl:vs.length≤sizeLine:=by have:=a.len.1; rw [List.length_replicate] at this; omega
  exact ⟨hl,fun p hp=>k p vs _ (s1.trans (same_new hp)) (Same.free s1 hp) upd_same hl (a.lown.kp (kp_new hp))⟩
noncomputable def dTup (es:Rho→Option (List D)):DE:=fun ρ=>(es ρ).map D.tup
theorem si_tup {n:Nat} {t:TA} {es:Rho→Option (List D)} (h:SemA K (List.replicate n true) t es) (hn:n≤sizeLine):SemI K (tTup t) (dTup es):=fun {B Z os ρ σ H Q d} f q k=>by
  unfold dTup at q
  cases q1:es ρ with
  | none=>rw [q1] at q; cases q
  | some ds =>
    rw [q1] at q
    cases q
    refine h f q1 fun vs H1 s1 a=>?_
    have hl:vs.length≤sizeLine:=by have:=a.len.1; rw [List.length_replicate] at this; omega
    exact ⟨hl,fun p hp=>k _ _ (s1.trans (same_new hp)) (.tup ((f.grow s1).out hp) upd_same hl ((a.lown.kp (kp_new hp)).kp (Kp.less fun a z=>.inr z)))⟩
noncomputable def dLst (es:Rho→Option (List D)):DE:=fun ρ=>(es ρ).map D.lst
theorem SemF.l {t:TE} {e:Rho→Option (List D)} (h:SemF K t e):SemI K t (dLst e):=h.i
def ixD:D→Int→Option D
  | .lst ds,i=>atI ds i
  | .tup ds,i=>atI ds i
  | .scr ns,i=>(atI ns i).map D.int
  | .str z,i=>if z.length≤sizeLine then (atI z.cps.toList i).map fun c=>.str ⟨#[c]⟩ else none
  | _,_=>none
theorem atI_is {H:Hp} {Z:Addr→Prop} {vs:List V} {ds:List D} {i:Int} {d:D} (r:IsL K H Z vs ds) (h:atI ds i=some d):∃ v,atI vs i=some v∧Is K H Z v d:=by
  unfold atI at h ⊢
  rw [r.length]
  cases e:ixN ds.length i with
  | none=>rw [e] at h; cases h
  | some j =>
    rw [e] at h
    obtain ⟨v,e1,i1⟩:=r.get (i:=j) (show ds[j]?=some d from h)
    exact ⟨v,e1,i1⟩
theorem atI_mapI {ns:List Int} {i:Int} {n:Int} (h:atI ns i=some n):atI (ns.map V.int) i=some (.int n):=by
  unfold atI at h ⊢
  rw [List.length_map]
  cases e:ixN ns.length i with
  | none=>rw [e] at h; cases h
  | some j =>
    rw [e] at h
    have h':ns[j]?=some n:=h
    show (ns.map V.int)[j]?=some (.int n)
    rw [List.getElem?_map,h']
    rfl
theorem ix_is {H:Hp} {Z:Addr→Prop} {v:V} {d e:D} {i:Int} {Q:VK} (h:Is K H Z v d) (q:ixD d i=some e) (k:∀ u,Is K H Z u e→Q u H):rIx K v (.int i) H Q:=by
  cases h with
  | lst hz h hl r =>
    obtain ⟨u,e1,i1⟩:=atI_is r (show atI _ i=some e from q)
    exact .inl ⟨_,_,i,u,rfl,rfl,.inl h,e1,k u i1⟩
  | tup hz h hl r =>
    obtain ⟨u,e1,i1⟩:=atI_is r (show atI _ i=some e from q)
    exact .inr (.inl ⟨_,_,i,u,rfl,rfl,.inl (.inl h),e1,k u i1⟩)
  | str z =>
    have q:(if z.length≤sizeLine then (atI z.cps.toList i).map fun c=>D.str ⟨#[c]⟩ else none)=some e:=q
    by_cases c:z.length≤sizeLine
    · rw [if_pos c] at q
      cases e2:atI z.cps.toList i with
      | none=>rw [e2] at q; cases q
      | some cp =>
        rw [e2] at q
        cases q
        exact .inr (.inr ⟨z,i,cp,rfl,rfl,c,e2,k _ (.str _)⟩)
    · rw [if_neg c] at q; cases q
  | @scr p ns hz h hl =>
    have q:(atI ns i).map D.int=some e:=q
    cases e2:atI ns i with
    | none=>rw [e2] at q; cases q
    | some n=>rw [e2] at q; cases q; exact .inl ⟨_,_,i,_,rfl,rfl,.inl h,atI_mapI e2,k _ (.int n)⟩
  | @scrK p ns h hl =>
    have q:(atI ns i).map D.int=some e:=q
    cases e2:atI ns i with
    | none=>rw [e2] at q; cases q
    | some n=>rw [e2] at q; cases q; exact .inl ⟨_,_,i,_,rfl,rfl,.inr h,atI_mapI e2,k _ (.int n)⟩
  | _=>cases q
noncomputable def dIx (a b:DE):DE:=fun ρ=>match a ρ with
  | some d=>(match b ρ with
    | some (.int i)=>ixD d i
    | _=>none)
  | none=>none
theorem dIx_some {ρ:Rho} {d:D} (h:dIx a b ρ=some d):∃ e i,a ρ=some e∧b ρ=some (.int i)∧ixD e i=some d:=by
  unfold dIx at h
  split at h
  · rename_i e e1
    split at h
    · rename_i i e2
      exact ⟨e,i,e1,e2,h⟩
    · cases h
  · cases h
theorem sb_ix (ha:SemB K ta a) (hb:SemB K tb b):SemB K (tOp (rIx K) ta tb) (dIx a b):=fun {B Z os ρ σ H Q d} f q k=>by
  obtain ⟨e,i,e1,e2,e3⟩:=dIx_some q
  refine ha f e1 fun v H1 s1 i1=>hb (f.grow s1) e2 fun u H2 s2 i2=>?_
  rw [i2.isInt]
  exact ix_is (i1.same s2) e3 fun w i3=>k _ _ (s1.trans s2) i3
theorem si_ix (ha:SemI K ta a) (hb:SemB K tb b):SemI K (tOp (rIx K) ta tb) (dIx a b):=fun {B Z os ρ σ H Q d} f q k=>by
  obtain ⟨e,i,e1,e2,e3⟩:=dIx_some q
  refine ha f e1 fun v H1 s1 i1=>hb (f.grow s1) e2 fun u H2 s2 i2=>?_
  rw [i2.isInt]
  exact ix_is (i1.same s2) e3 fun w i3=>k _ _ (s1.trans s2) i3
noncomputable def dIxO (i:Nat) (b:DE):DE:=fun ρ=>match ρ.getD i .un with
  | .ol ds=>(match b ρ with
    | some (.int k)=>atI ds k
    | _=>none)
  | _=>none
theorem si_ixO {i:Nat} (hb:SemB K tb b):SemI K (tOp (rIx K) (tVar i) tb) (dIxO i b):=fun {B Z os ρ σ H Q d} f q k=>by
  have s:=f.sl i
  unfold dIxO at q
  split at q
  · rename_i ds e0
    rw [e0] at s
    obtain ⟨x,vs,_,hu,hH,hl,i⟩:=s
    split at q
    · rename_i j e2
      refine ⟨_,join_some hu,hb f e2 fun u H2 s2 i2=>?_⟩
      rw [i2.isInt]
      obtain ⟨w,e3,i3⟩:=atI_is i q
      exact .inl ⟨_,_,j,w,rfl,rfl,.inl (.inl (s2 _ _ hH)),e3,k _ _ s2 (i3.same s2)⟩
    · cases q
  · cases q
def D.v:D→V
  | .bl b=>.bl b
  | .int i=>.int i
  | .str x=>.str x
  | .ty n=>.ty n
  | _=>.non
theorem D.v_is {H:Hp} {Z:Addr→Prop} {d:D} (h:d.scal=true):Is K H Z d.v d:=by
  cases d with
  | non=>exact .non
  | bl b=>exact .bl b
  | int b=>exact .int b
  | str b=>exact .str b
  | ty b=>exact .ty b
  | _=>cases h
noncomputable def dF1 (g:D→Option D) (a:DE):DE:=fun ρ=>match a ρ with
  | some d=>g d
  | none=>none
theorem si_f1 {r:List V→Hp→VK→Prop} {g:D→Option D} (hg:∀ {H v d e} {Q:VK},Is K H No v d→g d=some e→e.scal=true∧(Q e.v H→r [v] H Q)) (ha:SemB K ta a):SemI K (tCB r (tCons ta tNil)) (dF1 g a):=fun {B Z os ρ σ H Q d} f q k=>by
  unfold dF1 at q
  split at q
  · rename_i e e1
    refine ha f e1 fun v H1 s1 i1=>?_
    obtain ⟨hs,hr⟩:=hg (Q:=Q) i1 q
    exact hr (k _ _ s1 (D.v_is hs))
  · cases q
def lenD:D→Option D
  | .lst ds=>some (.int ds.length)
  | .tup ds=>some (.int ds.length)
  | .scr ns=>some (.int ns.length)
  | .str y=>if y.length≤sizeLine then some (.int y.length) else none
  | _=>none
theorem len_is {H:Hp} {v:V} {d e:D} {Q:VK} (h:Is K H No v d) (q:lenD d=some e):e.scal=true∧(Q e.v H→∃ x n,[v]=[x]∧LenV K x H n∧Q (.int n) H):=by
  cases h with
  | lst hz h hl r=>cases q; exact ⟨rfl,fun k=>⟨_,_,rfl,.inl ⟨_,.inl h,rfl⟩,by rw [r.length]; exact k⟩⟩
  | tup hz h hl r=>cases q; exact ⟨rfl,fun k=>⟨_,_,rfl,.inr ⟨_,.inl (.inl h),rfl⟩,by rw [r.length]; exact k⟩⟩
  | str z =>
    have q:(if z.length≤sizeLine then some (D.int z.length) else none)=some e:=q
    by_cases c:z.length≤sizeLine
    · rw [if_pos c] at q; cases q; exact ⟨rfl,fun k=>⟨_,_,rfl,⟨c,rfl⟩,k⟩⟩
    · rw [if_neg c] at q; cases q
  | scr hz h hl=>cases q; exact ⟨rfl,fun k=>⟨_,_,rfl,.inl ⟨_,.inl h,rfl⟩,by rw [List.length_map]; exact k⟩⟩
  | scrK h hl=>cases q; exact ⟨rfl,fun k=>⟨_,_,rfl,.inl ⟨_,.inr h,rfl⟩,by rw [List.length_map]; exact k⟩⟩
  | _=>cases q
theorem si_len (ha:SemB K ta a):SemI K (tCB (fun xs H Q=>∃ x n,xs=[x]∧LenV K x H n∧Q (.int n) H) (tCons ta tNil)) (dF1 lenD a):=si_f1 (fun h q=>len_is h q) ha
def asInts:List D→Option (List Int)
  | []=>some []
  | .int i::r=>(asInts r).map (i::·)
  | _=>none
theorem asInts_map:∀ (ns:List Int),asInts (ns.map D.int)=some ns
  | []=>rfl
  | n::ns=>by show (asInts (ns.map D.int)).map (n::·)=_; rw [asInts_map ns]; rfl
theorem asInts_some:∀ {ds:List D} {ns:List Int},asInts ds=some ns→ds=ns.map D.int
  | [],ns,h=>by cases h; rfl
  | .int i::r,ns,h=>by
    have h:(asInts r).map (i::·)=some ns:=h
    cases e:asInts r with
    | none=>rw [e] at h; cases h
    | some ms=>rw [e] at h; cases h; rw [asInts_some e]; rfl
  | .non::_,_,h=>by cases h
  | .bl _::_,_,h=>by cases h
  | .str _::_,_,h=>by cases h
  | .ty _::_,_,h=>by cases h
  | .lst _::_,_,h=>by cases h
  | .tup _::_,_,h=>by cases h
  | .ins _::_,_,h=>by cases h
  | .dct _::_,_,h=>by cases h
  | .scr _::_,_,h=>by cases h
def ofInts (g:List Int→Option D):D→Option D
  | .lst ds=>(asInts ds).bind g
  | _=>none
theorem ofInts_lst (g:List Int→Option D) (ns:List Int):ofInts g (.lst (ns.map D.int))=g ns:=by
  show (asInts (ns.map D.int)).bind g=g ns
  rw [asInts_map]; rfl
theorem ofInts_some {g:List Int→Option D} {d e:D} (h:ofInts g d=some e):∃ ns,d=.lst (ns.map D.int)∧g ns=some e:=by
  cases d with
  | lst ds =>
    have h:(asInts ds).bind g=some e:=h
    cases q:asInts ds with
    | none=>rw [q] at h; cases h
    | some ns=>rw [q] at h; exact ⟨ns,by rw [asInts_some q],h⟩
  | _=>cases h
theorem Is.ints {H:Hp} {Z:Addr→Prop} {v:V} {ns:List Int} (h:Is K H Z v (.lst (ns.map D.int))):∃ p,v=.ref p∧Rd H p (.lst (ns.map V.int)):=by
  generalize e:D.lst (ns.map D.int)=d at h
  cases h with
  | lst hz h hl r=>cases e; rw [← r.ints]; exact ⟨_,rfl,h⟩
  | _=>cases e
def sumD:D→Option D:=ofInts fun ns=>some (.int ns.sum)
theorem si_sum (ha:SemB K ta a):SemI K (tCB (fun xs H Q=>∃ (p:Addr) (ns:List Int),xs=[.ref p]∧SqL K H p (ns.map V.int)∧Q (.int ns.sum) H) (tCons ta tNil)) (dF1 sumD a):=by
  refine si_f1 (fun h q=>?_) ha
  obtain ⟨ns,rfl,e⟩:=ofInts_some q
  cases e
  obtain ⟨p,rfl,r⟩:=h.ints
  exact ⟨rfl,fun k=>⟨p,ns,rfl,.inl r,k⟩⟩
def maxL (x:Int) (r:List Int):Int:=r.foldl max x
def minL (x:Int) (r:List Int):Int:=r.foldl min x
theorem maxL_spec:∀ (r:List Int) (x:Int),maxL x r∈x::r∧∀ a∈x::r,a≤maxL x r
  | [],x=>⟨List.mem_cons_self,fun a h=>by rw [List.mem_singleton.mp h]; exact Int.le_refl _⟩
  | y::r,x=>by
    obtain ⟨h1,h2⟩:=maxL_spec r (max x y)
    have e:maxL x (y::r)=maxL (max x y) r:=rfl
    rw [e]
    refine ⟨?_,fun a ha=>?_⟩
    · rcases List.mem_cons.mp h1 with q | q
      · rw [q]
        rcases Int.le_total x y with z | z
        · rw [Int.max_eq_right z]; simp
        · rw [Int.max_eq_left z]; simp
      · simp [q]
    · have hm:=h2 (max x y) List.mem_cons_self
      rcases List.mem_cons.mp ha with rfl | ha
      · omega
      · rcases List.mem_cons.mp ha with rfl | ha
        · omega
        · exact h2 a (List.mem_cons_of_mem _ ha)
theorem minL_spec:∀ (r:List Int) (x:Int),minL x r∈x::r∧∀ a∈x::r,minL x r≤a
  | [],x=>⟨List.mem_cons_self,fun a h=>by rw [List.mem_singleton.mp h]; exact Int.le_refl _⟩
  | y::r,x=>by
    obtain ⟨h1,h2⟩:=minL_spec r (min x y)
    have e:minL x (y::r)=minL (min x y) r:=rfl
    rw [e]
    refine ⟨?_,fun a ha=>?_⟩
    · rcases List.mem_cons.mp h1 with q | q
      · rw [q]
        rcases Int.le_total x y with z | z
        · rw [Int.min_eq_left z]; simp
        · rw [Int.min_eq_right z]; simp
      · simp [q]
    · have hm:=h2 (min x y) List.mem_cons_self
      rcases List.mem_cons.mp ha with rfl | ha
      · omega
      · rcases List.mem_cons.mp ha with rfl | ha
        · omega
        · exact h2 a (List.mem_cons_of_mem _ ha)
theorem max_uniq {ns:List Int} {M N:Int} (h1:M∈ns) (h2:∀ a∈ns,a≤M) (h3:N∈ns) (h4:∀ a∈ns,a≤N):M=N:=by
  have:=h2 N h3
  have:=h4 M h1
  omega
theorem min_uniq {ns:List Int} {M N:Int} (h1:M∈ns) (h2:∀ a∈ns,M≤a) (h3:N∈ns) (h4:∀ a∈ns,N≤a):M=N:=by
  have:=h2 N h3
  have:=h4 M h1
  omega
def maxD:D→Option D:=ofInts fun ns=>match ns with
  | []=>none
  | x::r=>some (.int (maxL x r))
theorem si_max (ha:SemB K ta a):SemI K (tCB (fun xs H Q=>∃ (p:Addr) (ns:List Int),xs=[.ref p]∧SqL K H p (ns.map V.int)∧ns≠[]∧∀ M,M∈ns→(∀ a,a∈ns→a≤M)→Q (.int M) H) (tCons ta tNil)) (dF1 maxD a):=by
  refine si_f1 (fun h q=>?_) ha
  obtain ⟨ns,rfl,e⟩:=ofInts_some q
  obtain ⟨p,rfl,r⟩:=h.ints
  cases ns with
  | nil=>cases e
  | cons x t =>
    cases e
    refine ⟨rfl,fun k=>⟨p,x::t,rfl,.inl r,by simp,fun M h1 h2=>?_⟩⟩
    rw [max_uniq h1 h2 (maxL_spec t x).1 (maxL_spec t x).2]
    exact k
noncomputable def dMax2:DE→DE→DE:=dII fun i j=>some (.int (if j > i then j else i))
noncomputable def dMin2:DE→DE→DE:=dII fun i j=>some (.int (if j<i then j else i))
theorem si_max2 (ha:SemB K ta a) (hb:SemB K tb b):SemI K (tCB (fun xs H Q=>∃ i j,xs=[.int i,.int j]∧Q (.int (if j > i then j else i)) H) (tCons ta (tCons tb tNil))) (dMax2 a b):=fun {B Z os ρ σ H Q d} f q k=>by
  obtain ⟨i,j,e1,e2,e3⟩:=dII_some q
  cases e3
  refine ha f e1 fun v H1 s1 i1=>hb (f.grow s1) e2 fun u H2 s2 i2=>⟨i,j,by rw [i1.isInt,i2.isInt],k _ _ (s1.trans s2) (.int _)⟩
theorem si_min2 (ha:SemB K ta a) (hb:SemB K tb b):SemI K (tCB (fun xs H Q=>∃ i j,xs=[.int i,.int j]∧Q (.int (if j<i then j else i)) H) (tCons ta (tCons tb tNil))) (dMin2 a b):=fun {B Z os ρ σ H Q d} f q k=>by
  obtain ⟨i,j,e1,e2,e3⟩:=dII_some q
  cases e3
  refine ha f e1 fun v H1 s1 i1=>hb (f.grow s1) e2 fun u H2 s2 i2=>⟨i,j,by rw [i1.isInt,i2.isInt],k _ _ (s1.trans s2) (.int _)⟩
def intD:D→Option D
  | .int i=>some (.int i)
  | .bl b=>some (.int (if b=true then 1 else 0))
  | _=>none
theorem si_intF (ha:SemB K ta a):SemI K (tCB (fun xs H Q=>(∃ i,xs=[.int i]∧Q (.int i) H)∨∃ k,xs=[.bl k]∧Q (.int (if k then 1 else 0)) H) (tCons ta tNil)) (dF1 intD a):=by
  refine si_f1 (fun h q=>?_) ha
  cases h with
  | int i=>cases q; exact ⟨rfl,fun k=>.inl ⟨i,rfl,k⟩⟩
  | bl b=>cases q; exact ⟨rfl,fun k=>.inr ⟨b,rfl,k⟩⟩
  | _=>cases q
def D.tyn:D→String
  | .non => "NoneType"
  | .bl _ => "bool"
  | .int _ => "int"
  | .str _ => "str"
  | .lst _ => "list"
  | .tup _ => "tuple"
  | .ty _ => "type"
  | .ins _ => "object"
  | .dct _ => "object"
  | .scr _ => "script"
def isiT:String→String→Option Bool
  | "int", "int" => some true
  | "int", "bool" => some false
  | "int", "list" => some false
  | "int", "tuple" => some false
  | "int", "str" => some false
  | "bool", "int" => some true
  | "bool", "bool" => some true
  | "bool", "list" => some false
  | "bool", "tuple" => some false
  | "list", "list" => some true
  | "list", "tuple" => some false
  | "list", "int" => some false
  | "list", "str" => some false
  | "tuple", "tuple" => some true
  | "tuple", "list" => some false
  | "tuple", "int" => some false
  | "str", "str" => some true
  | "str", "list" => some false
  | "str", "int" => some false
  | "NoneType", "int" => some false
  | "NoneType", "list" => some false
  | "NoneType", "tuple" => some false
  | _,_=>none
noncomputable def dIsi (n:String) (a:DE):DE:=fun ρ=>match a ρ with
  | some d=>(isiT d.tyn n).map D.bl
  | none=>none
theorem isiT_kit {x n:String} {b:Bool} (h:isiT x n=some b):PySem.W.kitOne K (.type x) (.type n)=some b:=by
  unfold isiT at h
  split at h <;> first | (cases h; rfl) | (cases h; with_unfolding_all rfl) | cases h
theorem tyOf_is {H:Hp} {v:V} {d:D} {n:String} {b:Bool} (h:Is K H No v d) (e:isiT d.tyn n=some b):TyOf K H v (.type d.tyn):=by
  cases h with
  | non=>exact .non
  | bl b=>exact .bl b
  | int b=>exact .int b
  | str b=>exact .str b
  | ty n=>unfold isiT at e; simp [D.tyn] at e
  | lst hz h hl r=>rcases h with h | ⟨o,h⟩; exact .lst h; exact .frz h
  | tup hz h hl r=>exact .tup h
  | ins _ _=>unfold isiT at e; simp [D.tyn] at e
  | dct _ _ _=>unfold isiT at e; simp [D.tyn] at e
  | scr _ _ _=>unfold isiT at e; simp [D.tyn] at e
  | scrK _ _=>unfold isiT at e; simp [D.tyn] at e
theorem si_isi {n:String} (ha:SemB K ta a):SemI K (tCB (fun xs H Q=>∃ x n t b,xs=[x,.ty n]∧TyOf K H x t∧PySem.W.kitOne K t (.type n)=some b∧Q (.bl b) H) (tCons ta (tCons (tC (.ty n)) tNil))) (dIsi n a):=fun {B Z os ρ σ H Q d} f q k=>by
  unfold dIsi at q
  split at q
  · rename_i e e1
    cases q1:isiT e.tyn n with
    | none=>rw [q1] at q; cases q
    | some b =>
      rw [q1] at q
      cases q
      exact ha f e1 fun v H1 s1 i1=>⟨v,n,_,b,rfl,tyOf_is i1 q1,isiT_kit q1,k _ _ s1 (.bl b)⟩
  · cases q
def cutL {α:Type} (xs:List α) (lo hi:Option Int):List α:=(xs.drop (HT.sIx xs.length 0 lo)).take (HT.sIx xs.length xs.length hi-HT.sIx xs.length 0 lo)
theorem cut_is {H:Hp} {Z:Addr→Prop} {vs:List V} {ds:List D} {lo hi:Option Int} (r:IsL K H Z vs ds):IsL K H Z (cutV vs lo hi) (cutL ds lo hi):=by
  unfold cutV cutL
  rw [r.length]
  exact (r.drop _).take _
def SemO (K:PySem.W.Frag) (t:TO) (e:Rho→Option (Option Int)):Prop:=∀ {B:Hp} {Z:Addr→Prop} {os:Own} {ρ:Rho} {σ:L2.St} {H:Hp} {Q:Option Int→Hp→Prop} {o:Option Int},Fr K B Z os ρ σ H→e ρ=some o→(∀ H',Same H H'→Q o H')→t σ H Q
noncomputable def oNone:Rho→Option (Option Int):=fun _=>some none
noncomputable def oSome (a:DE):Rho→Option (Option Int):=fun ρ=>match a ρ with
  | some (.int i)=>some (some i)
  | _=>none
theorem so_none:SemO K tNoPart oNone:=fun f q k=>by cases q; exact k _ (Same.refl _)
theorem so_some (ha:SemB K ta a):SemO K (tPart ta) (oSome a):=fun {B Z os ρ σ H Q o} f q k=>by
  unfold oSome at q
  split at q
  · rename_i i e
    cases q
    exact ha f e fun v H1 s1 i1=>⟨i,i1.isInt,k _ s1⟩
  · cases q
def asL (a:DE):Rho→Option (List D):=fun ρ=>match a ρ with
  | some d=>lof d
  | none=>none
theorem asL_some {a:DE} {ρ:Rho} {ds:List D} (h:asL a ρ=some ds):∃ d,a ρ=some d∧lof d=some ds:=by
  unfold asL at h
  split at h
  · exact ⟨_,by assumption,h⟩
  · cases h
noncomputable def dSl (a:DE) (lo hi:Rho→Option (Option Int)):Rho→Option (List D):=fun ρ=>match asL a ρ with
  | some ds=>(match lo ρ with
    | some l=>(match hi ρ with
      | some h=>some (cutL ds l h)
      | none=>none)
    | none=>none)
  | _=>none
theorem dSl_some {lo hi:Rho→Option (Option Int)} {ρ:Rho} {ds:List D} (h:dSl a lo hi ρ=some ds):∃ es l u,asL a ρ=some es∧lo ρ=some l∧hi ρ=some u∧ds=cutL es l u:=by
  unfold dSl at h
  split at h
  · rename_i es e1
    split at h
    · rename_i l e2
      split at h
      · rename_i u e3
        exact ⟨es,l,u,e1,e2,e3,(Option.some.inj h).symm⟩
      · cases h
    · cases h
  · cases h
theorem Is.isLst {H:Hp} {Z:Addr→Prop} {v:V} {ds:List D} (h:Is K H Z v (.lst ds)):∃ p vs,v=.ref p∧¬ Z p∧Rd H p (.lst vs)∧vs.length≤sizeLine∧IsL K H Z vs ds:=by
  cases h with
  | lst hz h hl r=>exact ⟨_,_,rfl,hz,h,hl,r⟩
theorem Is.isTup {H:Hp} {Z:Addr→Prop} {v:V} {ds:List D} (h:Is K H Z v (.tup ds)):∃ p vs,v=.ref p∧¬ Z p∧H p=some (.tup vs)∧vs.length≤sizeLine∧IsL K H Z vs ds:=by
  cases h with
  | tup hz h hl r=>exact ⟨_,_,rfl,hz,h,hl,r⟩
theorem sf_sl {tl th:TO} {lo hi:Rho→Option (Option Int)} (ha:SemI K ta a) (hl:SemO K tl lo) (hh:SemO K th hi):SemF K (tSl (rSlL K) ta tl th) (dSl a lo hi):=fun {B Z os ρ σ H Q ds} f q k=>by
  obtain ⟨es,l,u,e1,e2,e3,rfl⟩:=dSl_some q
  obtain ⟨d,e1,ed⟩:=asL_some e1
  refine ha f e1 fun v H1 s1 i1=>hl (f.grow s1) e2 fun H2 s2=>hh (f.grow (s1.trans s2)) e3 fun H3 s3=>?_
  obtain ⟨p,vs,rfl,hn,_,hr⟩:=i1.seq ed
  obtain ⟨hr,r⟩:=hr H3 _ (Kp.same (s2.trans s3))
  have s13:=(s1.trans s2).trans s3
  exact ⟨p,vs,rfl,hr,fun n hn'=>k n _ _ (s13.trans (same_new hn')) (Same.free s13 hn') upd_same (Nat.le_trans (cutV_length _ _ _) hn) ((cut_is r).kp (kp_new hn'))⟩
noncomputable def dLof (a:DE):Rho→Option (List D):=fun ρ=>match a ρ with
  | some (.tup ds)=>some ds
  | some d=>lof d
  | _=>none
theorem dLof_some {ρ:Rho} {ds:List D} (h:dLof a ρ=some ds):a ρ=some (.tup ds)∨∃ d,a ρ=some d∧lof d=some ds:=by
  unfold dLof at h
  split at h
  · rename_i es e; cases h; exact .inl e
  · rename_i d _ e; exact .inr ⟨d,e,h⟩
  · cases h
theorem sf_list (ha:SemI K ta a):SemF K (tCB (fun xs H Q=>∃ p ys,xs=[.ref p]∧(SqL K H p ys∨SqT K H p ys)∧∀ l,H l=none→Q (.ref l) (upd H l (.lst ys))) (tCons ta tNil)) (dLof a):=fun {B Z os ρ σ H Q ds} f q k=>by
  rcases dLof_some q with e1 | ⟨d,e1,ed⟩
  · refine ha f e1 fun v H1 s1 i1=>?_
    obtain ⟨p,vs,rfl,hz,hr,hn,r⟩:=i1.isTup
    exact ⟨p,vs,rfl,.inr (.inl (.inl hr)),fun n hn'=>k n _ _ (s1.trans (same_new hn')) (Same.free s1 hn') upd_same hn (r.kp (kp_new hn'))⟩
  · refine ha f e1 fun v H1 s1 i1=>?_
    obtain ⟨p,vs,rfl,hn,_,hr⟩:=i1.seq ed
    obtain ⟨hr,r⟩:=hr H1 _ Kp.refl
    exact ⟨p,vs,rfl,.inl hr,fun n hn'=>k n _ _ (s1.trans (same_new hn')) (Same.free s1 hn') upd_same hn (r.kp (kp_new hn'))⟩
noncomputable def dCat (a b:DE):Rho→Option (List D):=fun ρ=>match a ρ with
  | some (.lst ds)=>(match b ρ with
    | some (.lst es)=>if ds.length+es.length≤sizeLine then some (ds++es) else none
    | _=>none)
  | _=>none
theorem dCat_some {ρ:Rho} {ds:List D} (h:dCat a b ρ=some ds):∃ xs ys,a ρ=some (.lst xs)∧b ρ=some (.lst ys)∧xs.length+ys.length≤sizeLine∧ds=xs++ys:=by
  unfold dCat at h
  split at h
  · rename_i xs e1
    split at h
    · rename_i ys e2
      by_cases c:xs.length+ys.length≤sizeLine
      · rw [if_pos c] at h; exact ⟨xs,ys,e1,e2,c,(Option.some.inj h).symm⟩
      · rw [if_neg c] at h; cases h
    · cases h
  · cases h
theorem sf_cat (ha:SemI K ta a) (hb:SemI K tb b):SemF K (tOp rCatR ta tb) (dCat a b):=fun {B Z os ρ σ H Q ds} f q k=>by
  obtain ⟨xs,ys,e1,e2,hc,rfl⟩:=dCat_some q
  refine ha f e1 fun v H1 s1 i1=>hb (f.grow s1) e2 fun u H2 s2 i2=>?_
  obtain ⟨p,vs,rfl,hz,hr,hn,r⟩:=(i1.same s2).isLst
  obtain ⟨p2,us,rfl,hz2,hr2,hn2,r2⟩:=i2.isLst
  have hl:vs.length+us.length≤sizeLine:=by rw [r.length,r2.length]; exact hc
  have s12:=s1.trans s2
  exact ⟨p,p2,vs,us,rfl,rfl,hr,hr2,hl,fun n hn'=>k n _ _ (s12.trans (same_new hn')) (Same.free s12 hn') upd_same (by rw [List.length_append]; exact hl) ((r.append r2).kp (kp_new hn'))⟩
noncomputable def dRep (a:Rho→Option (List D)) (b:DE):Rho→Option (List D):=fun ρ=>match a ρ with
  | some ds=>(match b ρ with
    | some (.int n)=>if -(2 ^ 63)≤n∧n<2 ^ 63∧ds.length*n.toNat≤sizeLine then some (List.replicate n.toNat ds).flatten else none
    | _=>none)
  | none=>none
theorem IsL.rep {H:Hp} {Z:Addr→Prop} {vs:List V} {ds:List D} (r:IsL K H Z vs ds):∀ n,IsL K H Z (List.replicate n vs).flatten (List.replicate n ds).flatten
  | 0=>.nil
  | n+1=>by rw [List.replicate_succ,List.flatten_cons,List.replicate_succ,List.flatten_cons]; exact r.append (r.rep n)
theorem sf_rep {a:Rho→Option (List D)} (ha:SemF K ta a) (hb:SemB K tb b):SemF K (tOp rRep ta tb) (dRep a b):=fun {B Z os ρ σ H Q ds} f q k=>by
  unfold dRep at q
  split at q
  · rename_i es e1
    split at q
    · rename_i n e2
      by_cases c:-(2 ^ 63)≤n∧n<2 ^ 63∧es.length*n.toNat≤sizeLine
      · rw [if_pos c] at q
        cases q
        refine ha f e1 fun p vs H1 s1 hp hp' hl i1=>hb (f.grow s1) e2 fun u H2 s2 i2=>?_
        rw [i2.isInt]
        have i1':=(i1.same s2).kp (Kp.less (Z':=tot Z os) fun a z=>.inr z)
        have hlen:vs.length*n.toNat≤sizeLine:=by rw [i1.length]; exact c.2.2
        have s12:=s1.trans s2
        refine ⟨p,n,vs,rfl,rfl,s2 _ _ hp',c.1,c.2.1,hlen,fun x hx=>k x _ _ (s12.trans (same_new hx)) (Same.free s12 hx) upd_same ?_ ((i1'.rep _).kp (kp_new hx))⟩
        rw [len_rep,Nat.mul_comm]; exact hlen
      · rw [if_neg c] at q; cases q
    · cases q
  · cases q
def inS:D→List D→Option Bool
  | .int i,ds=>(asInts ds).map fun ns=>decide (i∈ns)
  | _,_=>none
theorem inV_ints' (k:Int) (hs:List Int):inV (.int k) (hs.map V.int)=decide (k∈hs):=by
  unfold inV
  rw [List.any_map,Bool.eq_iff_iff,List.any_eq_true,decide_eq_true_iff]
  constructor
  · rintro ⟨x,hx,e⟩
    have e':(x==k)=true:=e
    rw [← beq_iff_eq.mp e']
    exact hx
  · intro h
    exact ⟨k,h,show (k==k)=true from beq_self_eq_true k⟩
theorem flat_ints' (hs:List Int):(hs.map V.int).all flatV=true:=by
  rw [List.all_map,List.all_eq_true]
  intro x _
  rfl
noncomputable def dIn (neg:Bool) (a b:DE):DE:=fun ρ=>match a ρ with
  | some d=>(match b ρ with
    | some (.lst ds)=>(inS d ds).map fun c=>.bl (if neg then !c else c)
    | some (.tup ds)=>(inS d ds).map fun c=>.bl (if neg then !c else c)
    | _=>none)
  | none=>none
theorem inS_is {H:Hp} {Z:Addr→Prop} {v:V} {d:D} {vs:List V} {ds:List D} {c:Bool} (i:Is K H Z v d) (r:IsL K H Z vs ds) (h:inS d ds=some c):flatV v=true∧vs.all flatV=true∧inV v vs=c:=by
  cases i with
  | int i =>
    have h:(asInts ds).map (fun ns=>decide (i∈ns))=some c:=h
    cases e:asInts ds with
    | none=>rw [e] at h; cases h
    | some ns =>
      rw [e] at h
      cases h
      have e2:=asInts_some e
      subst e2
      rw [r.ints]
      exact ⟨rfl,flat_ints' ns,inV_ints' i ns⟩
  | _=>cases h
theorem si_in {neg:Bool} (ha:SemB K ta a) (hb:SemB K tb b):SemI K (tOp (rIn K neg) ta tb) (dIn neg a b):=fun {B Z os ρ σ H Q d} f q k=>by
  unfold dIn at q
  split at q
  · rename_i e e1
    split at q
    · rename_i ds e2
      cases q1:inS e ds with
      | none=>rw [q1] at q; cases q
      | some c =>
        rw [q1] at q
        cases q
        refine ha f e1 fun v H1 s1 i1=>hb (f.grow s1) e2 fun u H2 s2 i2=>?_
        obtain ⟨p,vs,rfl,hz,hr,hn,r⟩:=i2.isLst
        obtain ⟨h1,h2,h3⟩:=inS_is (i1.same s2) r q1
        exact ⟨p,vs,rfl,.inl (.inl hr),h1,h2,by rw [h3]; exact k _ _ (s1.trans s2) (.bl _)⟩
    · rename_i ds e2
      cases q1:inS e ds with
      | none=>rw [q1] at q; cases q
      | some c =>
        rw [q1] at q
        cases q
        refine ha f e1 fun v H1 s1 i1=>hb (f.grow s1) e2 fun u H2 s2 i2=>?_
        obtain ⟨p,vs,rfl,hz,hr,hn,r⟩:=i2.isTup
        obtain ⟨h1,h2,h3⟩:=inS_is (i1.same s2) r q1
        exact ⟨p,vs,rfl,.inr (.inl (.inl hr)),h1,h2,by rw [h3]; exact k _ _ (s1.trans s2) (.bl _)⟩
    · cases q
  · cases q
end
end
end VL
namespace VL
open PySem L2
open Classical
noncomputable section
instance:Inhabited D:=⟨.non⟩
theorem rd_lst {H:Hp} {a:Addr} {xs ys:List V} (h:Rd H a (.lst xs)) (h':Rd H a (.lst ys)):xs=ys:=by
  rcases h with h | ⟨o,h⟩ <;> rcases h' with h' | ⟨o',h'⟩ <;> rw [h] at h' <;> cases h' <;> rfl
def cmpb:Nat→D→D→Bool
  | _,.int _,.int _=>true
  | _,.bl _,.bl _=>true
  | _,.str _,.str _=>true
  | _,.non,.non=>true
  | n+1,.lst xs,.lst ys=>decide (xs.length≠ys.length) || (List.zip xs ys).all fun p=>cmpb n p.1 p.2
  | n+1,.tup xs,.tup ys=>decide (xs.length=ys.length)&&(List.zip xs ys).all fun p=>cmpb n p.1 p.2
  | _,_,_=>false
theorem zip_at {xs ys:List D} {j:Nat} {a b:D} {p:D×D→Bool} (h:(List.zip xs ys).all p=true) (e1:xs[j]?=some a) (e2:ys[j]?=some b):p (a,b)=true :=
  List.all_eq_true.mp h _ (List.mem_of_getElem? (i:=j) (List.getElem?_zip_eq_some.mpr ⟨e1,e2⟩))
inductive Cm:Nat→D→D→Prop
  | int {n:Nat} (a b:Int):Cm n (.int a) (.int b)
  | bl {n:Nat} (a b:Bool):Cm n (.bl a) (.bl b)
  | str {n:Nat} (a b:Str):Cm n (.str a) (.str b)
  | non {n:Nat}:Cm n .non .non
  | lst {n:Nat} {xs ys:List D} (h:xs.length=ys.length→(List.zip xs ys).all (fun p=>cmpb n p.1 p.2)=true):Cm (n+1) (.lst xs) (.lst ys)
  | tup {n:Nat} {xs ys:List D} (hl:xs.length=ys.length) (h:(List.zip xs ys).all (fun p=>cmpb n p.1 p.2)=true):Cm (n+1) (.tup xs) (.tup ys)
theorem cmpb_inv {n:Nat} {d e:D} (hc:cmpb n d e=true):Cm n d e:=by
  unfold cmpb at hc
  split at hc
  · exact .int _ _
  · exact .bl _ _
  · exact .str _ _
  · exact .non
  · exact .lst fun hl=>by simpa [hl] using hc
  · rw [Bool.and_eq_true] at hc; exact .tup (of_decide_eq_true hc.1) hc.2
  · cases hc
theorem Is.v_int {H:Hp} {Z:Addr→Prop} {v:V} {a:Int} (i:Is K H Z v (.int a)):v=.int a:=by cases i; rfl
theorem Is.v_bl {H:Hp} {Z:Addr→Prop} {v:V} {a:Bool} (i:Is K H Z v (.bl a)):v=.bl a:=by cases i; rfl
theorem Is.v_str {H:Hp} {Z:Addr→Prop} {v:V} {a:Str} (i:Is K H Z v (.str a)):v=.str a:=by cases i; rfl
theorem Is.v_non {H:Hp} {Z:Addr→Prop} {v:V} (i:Is K H Z v .non):v=.non:=by cases i; rfl
theorem Is.v_lst {H:Hp} {Z:Addr→Prop} {v:V} {ds:List D} (i:Is K H Z v (.lst ds)):∃ a vs,v=.ref a∧¬ Z a∧Rd H a (.lst vs)∧vs.length≤sizeLine∧IsL K H Z vs ds:=by
  cases i with | lst hz h hl r=>exact ⟨_,_,rfl,hz,h,hl,r⟩
theorem Is.v_tup {H:Hp} {Z:Addr→Prop} {v:V} {ds:List D} (i:Is K H Z v (.tup ds)):∃ a vs,v=.ref a∧¬ Z a∧H a=some (.tup vs)∧vs.length≤sizeLine∧IsL K H Z vs ds:=by
  cases i with | tup hz h hl r=>exact ⟨_,_,rfl,hz,h,hl,r⟩
theorem Is.inj {H:Hp} {Z Z':Addr→Prop}:∀ (n:Nat) {v:V} {d e:D},cmpb n d e=true→Is K H Z v d→Is K H Z' v e→d=e:=by
  intro n
  induction n using Nat.strongRecOn with | ind n ih=>?_
  have lists:∀ {m:Nat},m<n→∀ {vs:List V} {ds es:List D},(List.zip ds es).all (fun p=>cmpb m p.1 p.2)=true→IsL K H Z vs ds→IsL K H Z' vs es→ds=es:=by
    intro m hm vs ds es hc r r'
    have l1:=r.length
    have l2:=r'.length
    refine List.ext_getElem (by omega) fun k h1 h2=>?_
    obtain ⟨v,e1,i1⟩:=r.get (List.getElem?_eq_getElem h1)
    obtain ⟨v',e2,i2⟩:=r'.get (List.getElem?_eq_getElem h2)
    rw [e1] at e2
    cases e2
    exact ih m hm (zip_at hc (List.getElem?_eq_getElem h1) (List.getElem?_eq_getElem h2)) i1 i2
  intro v d e hc i j
  cases cmpb_inv hc with
  | int=>have h:=i.v_int; rw [j.v_int] at h; cases h; rfl
  | bl=>have h:=i.v_bl; rw [j.v_bl] at h; cases h; rfl
  | str=>have h:=i.v_str; rw [j.v_str] at h; cases h; rfl
  | non=>rfl
  | lst h =>
    obtain ⟨p,xs,rfl,z1,h1,l1,g1⟩:=i.v_lst
    obtain ⟨q,ys,e,z2,h2,l2,g2⟩:=j.v_lst
    cases e
    have e:=rd_lst h1 h2
    subst e
    rw [lists (Nat.lt_succ_self _) (h (by have:=g1.length; have:=g2.length; omega)) g1 g2]
  | tup hl h =>
    obtain ⟨p,xs,rfl,z1,h1,l1,g1⟩:=i.v_tup
    obtain ⟨q,ys,e,z2,h2,l2,g2⟩:=j.v_tup
    cases e
    rw [h1] at h2
    cases h2
    rw [lists (Nat.lt_succ_self _) h g1 g2]
section
variable {X:Cx} {pins:List (Addr×Obj)} {σ:L2.St} {H:Hp} {s:Shared}
theorem dec_lst (xs ys:List D):decide (D.lst xs=D.lst ys)=decide (xs=ys):=by
  rw [Bool.eq_iff_iff,decide_eq_true_iff,decide_eq_true_iff]
  exact ⟨fun h=>D.lst.inj h,fun h=>by rw [h]⟩
theorem dec_tup (xs ys:List D):decide (D.tup xs=D.tup ys)=decide (xs=ys):=by
  rw [Bool.eq_iff_iff,decide_eq_true_iff,decide_eq_true_iff]
  exact ⟨fun h=>D.tup.inj h,fun h=>by rw [h]⟩
theorem dec_int (a b:Int):decide (D.int a=D.int b)=(a==b):=by
  rw [Bool.eq_iff_iff,decide_eq_true_iff,beq_iff_eq]
  exact ⟨fun h=>D.int.inj h,fun h=>by rw [h]⟩
theorem dec_bl (a b:Bool):decide (D.bl a=D.bl b)=(a==b):=by
  rw [Bool.eq_iff_iff,decide_eq_true_iff,beq_iff_eq]
  exact ⟨fun h=>D.bl.inj h,fun h=>by rw [h]⟩
theorem dec_str (a b:Str):decide (D.str a=D.str b)=(a==b):=by
  rw [Bool.eq_iff_iff,decide_eq_true_iff,beq_iff_eq]
  exact ⟨fun h=>D.str.inj h,fun h=>by rw [h]⟩
theorem rc_tups {A:Around} {l b:Addr} {us ws:List Value} {ns ms:List D} (p1:s.heap.IsTuple l us.toArray) (p2:s.heap.IsTuple b ws.toArray) (hl:us.length=ns.length) (hl2:ws.length=ms.length) (hs:ns.length=ms.length) (hu:A.units<cLine)
    (h:∀ (j:Nat) (u v:Value) (a b:D),us[j]?=some u→ws[j]?=some v→ns[j]?=some a→ms[j]?=some b→SeqAt.EqAt A.in1 s u v (decide (a=b))) :
    SeqAt.RcAt A s (.ref l) (.ref b) (decide (ns=ms)):=by
  have q:=SeqAt.RcAt.tuples (e:=fun j=>decide (ns.getD j default=ms.getD j default)) p1 p2 hu (eqAt_items hl hl2 h)
  have e:((List.range (min us.toArray.size ws.toArray.size)).all fun j=>decide (ns.getD j default=ms.getD j default))=decide (ns=ms):=by
    rw [List.size_toArray,List.size_toArray,hl,hl2,← hs,Nat.min_self]; exact range_all_eq default hs
  have e2:(us.toArray.size==ws.toArray.size)=true:=by simp; omega
  rw [e,e2,Bool.and_true] at q
  exact q
theorem rcNe_tups {A:Around} {l b:Addr} {us ws:List Value} {ns ms:List D} (p1:s.heap.IsTuple l us.toArray) (p2:s.heap.IsTuple b ws.toArray) (hl:us.length=ns.length) (hl2:ws.length=ms.length) (hs:ns.length=ms.length) (hu:A.units<cLine)
    (h:∀ (j:Nat) (u v:Value) (a b:D),us[j]?=some u→ws[j]?=some v→ns[j]?=some a→ms[j]?=some b→SeqAt.EqAt A.in1 s u v (decide (a=b))) :
    SeqAt.RcNeAt A s (.ref l) (.ref b) (!decide (ns=ms)):=by
  have q:=SeqAt.RcNeAt.tuples (e:=fun j=>decide (ns.getD j default=ms.getD j default)) p1 p2 hu (eqAt_items hl hl2 h)
  have e:((List.range (min us.toArray.size ws.toArray.size)).all fun j=>decide (ns.getD j default=ms.getD j default))=decide (ns=ms):=by
    rw [List.size_toArray,List.size_toArray,hl,hl2,← hs,Nat.min_self]; exact range_all_eq default hs
  have e2:(us.toArray.size==ws.toArray.size)=true:=by simp; omega
  rw [e,e2,Bool.and_true] at q
  exact q
theorem in1_units {A:Around}:A.in1.units=A.units+1:=rfl
theorem items_is {n:Nat} {A:Around} {xs ys:List V} {us ws:List Value} {ds es:List D} (hc:(List.zip ds es).all (fun p=>cmpb n p.1 p.2)=true) (r1:Vals xs us) (r2:Vals ys ws) (g1:IsL K H No xs ds) (g2:IsL K H No ys es)
    (ih:∀ {v w:V} {d e:D} {u x:Value},RelV v u→RelV w x→Is K H No v d→Is K H No w e→cmpb n d e=true→SeqAt.EqAt A s u x (decide (d=e))) :
    ∀ (j:Nat) (u v:Value) (a b:D),us[j]?=some u→ws[j]?=some v→ds[j]?=some a→es[j]?=some b→SeqAt.EqAt A s u v (decide (a=b)):=by
  intro j u v a b e1 e2 e3 e4
  obtain ⟨x,f1,i1⟩:=g1.get e3
  obtain ⟨y,f2,i2⟩:=g2.get e4
  obtain ⟨u',q1,k1⟩:=r1.get f1
  obtain ⟨v',q2,k2⟩:=r2.get f2
  rw [e1] at q1; cases q1
  rw [e2] at q2; cases q2
  exact ih k1 k2 i1 i2 (zip_at hc e3 e4)
theorem eqAt_is (I:Inv X pins σ H s):∀ (n:Nat) {A:Around},A.units+n<cLine→∀ {v w:V} {d e:D} {u x:Value},RelV v u→RelV w x→Is K H No v d→Is K H No w e→cmpb n d e=true→SeqAt.EqAt A s u x (decide (d=e)):=by
  intro n
  induction n using Nat.strongRecOn with | ind n ih=>?_
  intro A hu v w d e u x r1 r2 i1 i2 hc
  have hc0:=hc
  cases cmpb_inv hc with
  | int a b=>rw [i1.v_int] at r1; rw [i2.v_int] at r2; obtain ⟨t,rfl⟩:=r1; obtain ⟨t',rfl⟩:=r2; rw [dec_int]; exact SeqAt.EqAt.int_int a t b t'
  | bl a b=>rw [i1.v_bl] at r1; rw [i2.v_bl] at r2; cases r1; cases r2; rw [dec_bl]; exact SeqAt.EqAt.bool_bool a b
  | str a b=>rw [i1.v_str] at r1; rw [i2.v_str] at r2; obtain ⟨t,rfl⟩:=r1; obtain ⟨t',rfl⟩:=r2; rw [dec_str]; exact SeqAt.EqAt.str_str a t b t'
  | non=>rw [i1.v_non] at r1; rw [i2.v_non] at r2; cases r1; cases r2; rw [decide_eq_true rfl]; exact SeqAt.EqAt.same _
  | @lst n ds es h =>
    have j1:=i1
    have j2:=i2
    obtain ⟨p,xs,rfl,z1,h1,l1,g1⟩:=i1.v_lst
    obtain ⟨q,ys,rfl,z2,h2,l2,g2⟩:=i2.v_lst
    cases r1
    cases r2
    by_cases hpq:p=q
    · subst hpq
      rw [decide_eq_true (Is.inj _ hc0 j1 j2)]
      exact SeqAt.EqAt.same _
    · obtain ⟨_,us,m1,k1,n1,o1⟩:=I.lstR h1
      obtain ⟨_,ws,m2,k2,n2,o2⟩:=I.lstR h2
      rw [dec_lst]
      have e1:=g1.length
      have e2:=g2.length
      refine SeqAt.EqAt.of_refs hpq ?_
      by_cases hl:ds.length=es.length
      · exact rcAt_lists ⟨_,o1,rfl,_,rfl⟩ ⟨_,o2,rfl,_,rfl⟩ (by omega) (by omega) (by omega) (items_is (h hl) k1 k2 g1 g2 (ih n (Nat.lt_succ_self _) (by rw [in1_units]; omega)))
      · have q:=SeqAt.RcAt.lists_lengths (A:=A) (s:=s) (items:=us.toArray) (items2:=ws.toArray) ⟨_,o1,rfl,_,rfl⟩ ⟨_,o2,rfl,_,rfl⟩ (by simp; omega) (by omega)
        have e:decide (ds=es)=false:=decide_eq_false fun z=>hl (by rw [z])
        rw [e]
        exact q
  | @tup n ds es hl h =>
    have j1:=i1
    have j2:=i2
    obtain ⟨p,xs,rfl,z1,h1,l1,g1⟩:=i1.v_tup
    obtain ⟨q,ys,rfl,z2,h2,l2,g2⟩:=i2.v_tup
    cases r1
    cases r2
    by_cases hpq:p=q
    · subst hpq
      rw [decide_eq_true (Is.inj _ hc0 j1 j2)]
      exact SeqAt.EqAt.same _
    · obtain ⟨us,k1,o1,_⟩:=I.tuple (xs:=xs) (.inl (.inl h1))
      obtain ⟨ws,k2,o2,_⟩:=I.tuple (xs:=ys) (.inl (.inl h2))
      rw [dec_tup]
      have e1:=g1.length
      have e2:=g2.length
      have n1:=k1.length
      have n2:=k2.length
      exact SeqAt.EqAt.of_refs hpq (rc_tups o1 o2 (by omega) (by omega) hl (by omega) (items_is h k1 k2 g1 g2 (ih n (Nat.lt_succ_self _) (by rw [in1_units]; omega))))
def rEqD (K:PySem.W.Frag) (neg:Bool):R2:=fun x y H Q=>∃ d e,Is K H No x d∧Is K H No y e∧cmpb 20 d e=true∧Q (.bl (if neg=true then !decide (d=e) else decide (d=e))) H
theorem op_eqD (hu:X.A.units+64<cLine):OpR X (compareOp .Eq) (rEqD K false):=by
  intro pins s σ H x y v u Q I rx ry h
  obtain ⟨d,e,i1,i2,hc,h⟩:=h
  rw [if_neg Bool.false_ne_true] at h
  cases cmpb_inv hc with
  | int a b=>obtain rfl:=i1.v_int; obtain rfl:=i2.v_int; exact op_eq pins s σ H _ _ v u Q I rx ry ⟨rfl,by rw [show decide (V.int a=V.int b)=decide (D.int a=D.int b) from decide_eq_decide.mpr ⟨fun q=>by cases q; rfl,fun q=>by cases q; rfl⟩]; exact h⟩
  | bl a b=>obtain rfl:=i1.v_bl; obtain rfl:=i2.v_bl; exact op_eq pins s σ H _ _ v u Q I rx ry ⟨rfl,by rw [show decide (V.bl a=V.bl b)=decide (D.bl a=D.bl b) from decide_eq_decide.mpr ⟨fun q=>by cases q; rfl,fun q=>by cases q; rfl⟩]; exact h⟩
  | str a b=>obtain rfl:=i1.v_str; obtain rfl:=i2.v_str; exact op_eq pins s σ H _ _ v u Q I rx ry ⟨rfl,by rw [show decide (V.str a=V.str b)=decide (D.str a=D.str b) from decide_eq_decide.mpr ⟨fun q=>by cases q; rfl,fun q=>by cases q; rfl⟩]; exact h⟩
  | non=>obtain rfl:=i1.v_non; obtain rfl:=i2.v_non; exact op_eq pins s σ H _ _ v u Q I rx ry ⟨rfl,by rw [show decide (V.non=V.non)=decide (D.non=D.non) from decide_eq_decide.mpr ⟨fun q=>rfl,fun q=>rfl⟩]; exact h⟩
  | @lst n ds es hh =>
    obtain ⟨p,xs,rfl,z1,h1,l1,g1⟩:=i1.v_lst
    obtain ⟨q,ys,rfl,z2,h2,l2,g2⟩:=i2.v_lst
    cases rx
    cases ry
    obtain ⟨_,us,m1,k1,n1,o1⟩:=I.lstR h1
    obtain ⟨_,ws,m2,k2,n2,o2⟩:=I.lstR h2
    rw [dec_lst] at h
    have e1:=g1.length
    have e2:=g2.length
    by_cases hl:ds.length=es.length
    · exact rcAt_lists ⟨_,o1,rfl,_,rfl⟩ ⟨_,o2,rfl,_,rfl⟩ (by omega) (by omega) (by omega) (items_is (hh hl) k1 k2 g1 g2 (eqAt_is I 19 (by rw [in1_units]; omega))) X.prog X.w X.xe _ ⟨.bl _,H,I,rfl,h⟩
    · have q:=SeqAt.RcAt.lists_lengths (A:=X.A) (s:=s) (items:=us.toArray) (items2:=ws.toArray) ⟨_,o1,rfl,_,rfl⟩ ⟨_,o2,rfl,_,rfl⟩ (by simp; omega) (by omega)
      have e:decide (ds=es)=false:=decide_eq_false fun z=>hl (by rw [z])
      rw [e] at h
      exact q X.prog X.w X.xe _ ⟨.bl _,H,I,rfl,h⟩
  | @tup n ds es hl hh =>
    obtain ⟨p,xs,rfl,z1,h1,l1,g1⟩:=i1.v_tup
    obtain ⟨q,ys,rfl,z2,h2,l2,g2⟩:=i2.v_tup
    cases rx
    cases ry
    obtain ⟨us,k1,o1,_⟩:=I.tuple (xs:=xs) (.inl (.inl h1))
    obtain ⟨ws,k2,o2,_⟩:=I.tuple (xs:=ys) (.inl (.inl h2))
    rw [dec_tup] at h
    have e1:=g1.length
    have e2:=g2.length
    have n1:=k1.length
    have n2:=k2.length
    exact rc_tups o1 o2 (by omega) (by omega) hl (by omega) (items_is hh k1 k2 g1 g2 (eqAt_is I 19 (by rw [in1_units]; omega))) X.prog X.w X.xe _ ⟨.bl _,H,I,rfl,h⟩
theorem op_neD (hu:X.A.units+64<cLine):OpR X (compareOp .NotEq) (rEqD K true):=by
  intro pins s σ H x y v u Q I rx ry h
  obtain ⟨d,e,i1,i2,hc,h⟩:=h
  rw [if_pos rfl] at h
  cases cmpb_inv hc with
  | int a b=>obtain rfl:=i1.v_int; obtain rfl:=i2.v_int; exact op_ne pins s σ H _ _ v u Q I rx ry ⟨rfl,by rw [show decide (V.int a=V.int b)=decide (D.int a=D.int b) from decide_eq_decide.mpr ⟨fun q=>by cases q; rfl,fun q=>by cases q; rfl⟩]; exact h⟩
  | bl a b=>obtain rfl:=i1.v_bl; obtain rfl:=i2.v_bl; exact op_ne pins s σ H _ _ v u Q I rx ry ⟨rfl,by rw [show decide (V.bl a=V.bl b)=decide (D.bl a=D.bl b) from decide_eq_decide.mpr ⟨fun q=>by cases q; rfl,fun q=>by cases q; rfl⟩]; exact h⟩
  | str a b=>obtain rfl:=i1.v_str; obtain rfl:=i2.v_str; exact op_ne pins s σ H _ _ v u Q I rx ry ⟨rfl,by rw [show decide (V.str a=V.str b)=decide (D.str a=D.str b) from decide_eq_decide.mpr ⟨fun q=>by cases q; rfl,fun q=>by cases q; rfl⟩]; exact h⟩
  | non=>obtain rfl:=i1.v_non; obtain rfl:=i2.v_non; exact op_ne pins s σ H _ _ v u Q I rx ry ⟨rfl,by rw [show decide (V.non=V.non)=decide (D.non=D.non) from decide_eq_decide.mpr ⟨fun q=>rfl,fun q=>rfl⟩]; exact h⟩
  | @lst n ds es hh =>
    obtain ⟨p,xs,rfl,z1,h1,l1,g1⟩:=i1.v_lst
    obtain ⟨q,ys,rfl,z2,h2,l2,g2⟩:=i2.v_lst
    cases rx
    cases ry
    obtain ⟨_,us,m1,k1,n1,o1⟩:=I.lstR h1
    obtain ⟨_,ws,m2,k2,n2,o2⟩:=I.lstR h2
    rw [dec_lst] at h
    have e1:=g1.length
    have e2:=g2.length
    by_cases hl:ds.length=es.length
    · exact rcNeAt_lists ⟨_,o1,rfl,_,rfl⟩ ⟨_,o2,rfl,_,rfl⟩ (by omega) (by omega) (by omega) (items_is (hh hl) k1 k2 g1 g2 (eqAt_is I 19 (by rw [in1_units]; omega))) X.prog X.w X.xe _ ⟨.bl _,H,I,rfl,h⟩
    · have q:=SeqAt.RcNeAt.lists_lengths (A:=X.A) (s:=s) (items:=us.toArray) (items2:=ws.toArray) ⟨_,o1,rfl,_,rfl⟩ ⟨_,o2,rfl,_,rfl⟩ (by simp; omega) (by omega)
      have e:decide (ds=es)=false:=decide_eq_false fun z=>hl (by rw [z])
      rw [e] at h
      exact q X.prog X.w X.xe _ ⟨.bl _,H,I,rfl,h⟩
  | @tup n ds es hl hh =>
    obtain ⟨p,xs,rfl,z1,h1,l1,g1⟩:=i1.v_tup
    obtain ⟨q,ys,rfl,z2,h2,l2,g2⟩:=i2.v_tup
    cases rx
    cases ry
    obtain ⟨us,k1,o1,_⟩:=I.tuple (xs:=xs) (.inl (.inl h1))
    obtain ⟨ws,k2,o2,_⟩:=I.tuple (xs:=ys) (.inl (.inl h2))
    rw [dec_tup] at h
    have e1:=g1.length
    have e2:=g2.length
    have n1:=k1.length
    have n2:=k2.length
    exact rcNe_tups o1 o2 (by omega) (by omega) hl (by omega) (items_is hh k1 k2 g1 g2 (eqAt_is I 19 (by rw [in1_units]; omega))) X.prog X.w X.xe _ ⟨.bl _,H,I,rfl,h⟩
end
section
variable {ta tb:TE} {a b:DE}
noncomputable def dEq (neg:Bool) (a b:DE):DE:=fun ρ=>match a ρ with
  | some d=>(match b ρ with
    | some e=>if cmpb 20 d e=true then some (.bl (if neg=true then !decide (d=e) else decide (d=e))) else none
    | none=>none)
  | none=>none
theorem si_eq [Tabs] {neg:Bool} (ha:SemB K ta a) (hb:SemB K tb b):SemI K (tOp (rEqD K neg) ta tb) (dEq neg a b):=fun {B Z os ρ σ H Q d} f q k=>by
  unfold dEq at q
  split at q
  · rename_i x e1
    split at q
    · rename_i y e2
      by_cases c:cmpb 20 x y=true
      · rw [if_pos c] at q
        cases q
        exact ha f e1 fun v H1 s1 i1=>hb (f.grow s1) e2 fun u H2 s2 i2=>⟨x,y,i1.same s2,i2,c,k _ _ (s1.trans s2) (.bl _)⟩
      · rw [if_neg c] at q; cases q
    · cases q
  · cases q
end
end
end VL
namespace L2
open PySem PySem.Spec PyProof.Rows
section
variable {X:Cx}
noncomputable def gSeq (K:PySem.W.Frag) (n:Nat) (t:TGs):TG:=fun v σ H Q=>gTup K n t v σ H Q∨gLst K n t v σ H Q
theorem pg_seq {es:List Expr} {k:Nat} {t:TGs} {n:Nat} {pos:Pos} (hc:X.calm=true) (h:PGs X es t)
    (hn:(assignEach es X.env).length=n:=by rfl) (hst:(assignEach es X.env).findIdx? (·.1)=none:=by rfl):PG X (.Tuple es k pos) (gSeq X.K n t):=by
  intro pins s σ H v u Q I r hw
  rcases hw with hw | hw
  · exact pg_tup hc h hn hst pins s σ H v u Q I r hw
  · exact pg_lst hc h hn hst pins s σ H v u Q I r hw
theorem pg_seqK {K:PySem.W.Frag} {es:List Expr} {k:Nat} {t:TGs} {n:Nat} {pos:Pos} (hK:X.K=K) (hc:X.calm=true) (h:PGs X es t)
    (hn:(assignEach es X.env).length=n:=by rfl) (hst:(assignEach es X.env).findIdx? (·.1)=none:=by rfl):PG X (.Tuple es k pos) (gSeq K n t):=by
  subst hK
  exact pg_seq hc h hn hst
end
end L2
namespace VL
open PySem L2
open Classical
noncomputable section
variable [Tabs] {K:PySem.W.Frag}
noncomputable def dVarO (i:Nat):DE:=fun ρ=>match ρ.getD i .un with
  | .bo d=>some d
  | _=>none
def ER (K:PySem.W.Frag) (m:Bool) (Bx H:Hp) (T:Addr→Prop) (x:V) (d:D):Prop:=match m with
  | true=>Is K H T x d
  | false=>Is K Bx No x d
structure Walk (K:PySem.W.Frag) (m:Bool) (Bx:Hp) (J:It) (H1:Hp) (T:Addr→Prop) (ds:List D):Prop where
  len:ds.length≤sizeLine
  go:∀ (i:Nat) (d:D) (H2:Hp) (T2:Addr→Prop),Kp T H1 T2 H2→Same Bx H2→(∀ a,T2 a→∃ o,H2 a=some o)→ds[i]?=some d→J.go i H2∧∀ x H3,J.yld i H2 x H3→Same H2 H3∧ER K m Bx H3 T2 x d
  stop:∀ (i:Nat) (H2:Hp) (T2:Addr→Prop),Kp T H1 T2 H2→Same Bx H2→ds.length=i→J.stop i H2
def SemW (K:PySem.W.Frag) (m:Bool) (wi:TI) (e:Rho→Option (List D)):Prop:=∀ {B:Hp} {Z:Addr→Prop} {os:Own} {ρ:Rho} {σ:L2.St} {H:Hp} {R:It→Hp→Prop} {ds:List D},Fr K B Z os ρ σ H→e ρ=some ds→(∀ J H1,Same H H1→Walk K m B J H1 (tot Z os) ds→R J H1)→wi σ H R
def SemWC (K:PySem.W.Frag) (m:Bool) (wi:TI) (e:Rho→Option (List D)):Prop:=∀ {B:Hp} {Z:Addr→Prop} {os:Own} {ρ:Rho} {σ:L2.St} {H:Hp} {R:It→Hp→Prop} {ds:List D},Fr K B Z os ρ σ H→e ρ=some ds→(∀ J H1,Same H H1→Walk K m H1 J H1 (tot Z os) ds→R J H1)→wi σ H R
theorem SemW.c {wi:TI} {e:Rho→Option (List D)} (h:SemW K true wi e):SemWC K true wi e:=fun f q k=>h f q fun J H1 s w=>k J H1 s ⟨w.len,fun i d H2 T2 kp sm hd e=>w.go i d H2 T2 kp ((f.keep.trans s).trans sm) hd e,fun i H2 T2 kp sm hl=>w.stop i H2 T2 kp ((f.keep.trans s).trans sm) hl⟩
theorem Rd.same {H H':Hp} {a:Addr} {u:HO} (h:Rd H a u) (s:Same H H'):Rd H' a u:=by
  rcases h with h | ⟨o,h⟩
  · exact .inl (s _ _ h)
  · exact .inr ⟨o,s _ _ h⟩
theorem walk_list {m:Bool} {Bx H1:Hp} {T:Addr→Prop} {p:Addr} {vs:List V} {ds:List D} (hl:ds.length≤sizeLine) (hd0:∀ H2 T2,Kp T H1 T2 H2→Same Bx H2→SqL K H2 p vs) (hn:vs.length=ds.length)
    (hi:∀ H2 T2 (i:Nat) v d,Kp T H1 T2 H2→Same Bx H2→vs[i]?=some v→ds[i]?=some d→ER K m Bx H2 T2 v d):Walk K m Bx (Itl K p) H1 T ds:=by
  refine ⟨hl,fun i d H2 T2 kp sb hd e=>?_,fun i H2 T2 kp sb hi=>⟨vs,hd0 H2 T2 kp sb,by omega⟩⟩
  have hr2:=hd0 H2 T2 kp sb
  have hi':i<vs.length:=by rw [hn]; exact (List.getElem?_eq_some_iff.mp e).1
  have e1:vs[i]?=some vs[i]:=List.getElem?_eq_getElem hi'
  refine ⟨⟨vs,_,hr2,e1⟩,fun x H3 ⟨e3,hx⟩=>?_⟩
  subst e3
  have:=hx vs hr2
  rw [e1] at this
  cases this
  exact ⟨Same.refl _,hi _ T2 i _ d kp sb e1 e⟩
theorem sw_list {tl:TE} {a:DE} (ha:SemI K tl a):SemW K true (iList K tl) (asL a):=fun {B Z os ρ σ H R ds} f q k=>by
  obtain ⟨d,q,ed⟩:=asL_some q
  refine ha f q fun v H1 s1 i1=>?_
  obtain ⟨p,vs,rfl,hl,hn,hr⟩:=i1.seq ed
  refine ⟨p,rfl,⟨vs,(hr H1 _ Kp.refl).1⟩,k _ _ s1 (walk_list (vs:=vs) (by omega) (fun H2 T2 kp _=>(hr H2 T2 kp).1) hn fun H2 T2 i v d kp _ e1 e2=>?_)⟩
  obtain ⟨v',f1,i2⟩:=(hr H2 T2 kp).2.get e2
  rw [e1] at f1
  cases f1
  exact i2
theorem swc_listB {tl:TE} {a:DE} (ha:SemB K tl a):SemWC K false (iList K tl) (asL a):=fun {B Z os ρ σ H R ds} f q k=>by
  obtain ⟨d,q,ed⟩:=asL_some q
  refine ha f q fun v H1 s1 i1=>?_
  obtain ⟨p,vs,rfl,hl,hn,hr⟩:=i1.seq ed
  refine ⟨p,rfl,⟨vs,(hr H1 _ Kp.refl).1⟩,k _ _ s1 (walk_list (vs:=vs) (by omega) (fun H2 T2 kp sb=>(hr H2 No (Kp.same sb)).1) hn fun H2 T2 i v d kp sb e1 e2=>?_)⟩
  obtain ⟨v',f1,i2⟩:=(hr H1 No Kp.refl).2.get e2
  rw [e1] at f1
  cases f1
  exact i2
def upL (lo:Int) (n:Nat):List D:=(List.range n).map fun (i:Nat)=>.int (lo+(i:Int))
theorem upL_len {lo:Int} {n:Nat}:(upL lo n).length=n:=by unfold upL; rw [List.length_map,List.length_range]
theorem upL_get {lo:Int} {n i:Nat} {d:D} (h:(upL lo n)[i]?=some d):i<n∧d=.int (lo+i):=by
  unfold upL at h
  rw [List.getElem?_map] at h
  by_cases hi:i<n
  · rw [List.getElem?_range hi] at h; cases h; exact ⟨hi,rfl⟩
  · rw [List.getElem?_eq_none (by rw [List.length_range]; omega)] at h; cases h
theorem walk_range {m:Bool} {Bx H1:Hp} {T:Addr→Prop} {lo:Int} {n:Nat} (hn:n≤sizeLine):Walk K m Bx (Itr lo n) H1 T (upL lo n):=by
  refine ⟨by rw [upL_len]; exact hn,fun i d H2 T2 kp _ hd e=>?_,fun i H2 T2 kp _ hi=>by rw [upL_len] at hi; exact Nat.le_of_eq hi⟩
  obtain ⟨hi,rfl⟩:=upL_get e
  refine ⟨hi,fun x H3 ⟨e3,ex⟩=>?_⟩
  subst e3 ex
  cases m
  · exact ⟨Same.refl _,.int _⟩
  · exact ⟨Same.refl _,.int _⟩
noncomputable def dRg1 (a:DE):Rho→Option (List D):=fun ρ=>match a ρ with
  | some (.int j)=>if -(2 ^ 62)≤j∧j.toNat≤sizeLine then some (upL 0 j.toNat) else none
  | _=>none
noncomputable def dRg2 (a b:DE):Rho→Option (List D):=fun ρ=>match a ρ with
  | some (.int i)=>(match b ρ with
    | some (.int j)=>if -(2 ^ 62)≤i∧i<2 ^ 62∧-(2 ^ 62)≤j∧j<2 ^ 62∧(j-i).toNat≤sizeLine then some (upL i (j-i).toNat) else none
    | _=>none)
  | _=>none
theorem sw_range1 {ta:TE} {a:DE} (ha:SemB K ta a):SemW K true (iRng1 (tCons ta tNil)) (dRg1 a):=fun {B Z os ρ σ H R ds} f q k=>by
  unfold dRg1 at q
  split at q
  · rename_i j e
    by_cases c:-(2 ^ 62)≤j∧j.toNat≤sizeLine
    · rw [if_pos c] at q
      cases q
      have hs:sizeLine=16777216:=sizeLine_eq
      exact ha f e fun v H1 s1 i1=>⟨j,by rw [i1.isInt],c.1,by omega,k _ _ s1 (walk_range c.2)⟩
    · rw [if_neg c] at q; cases q
  · cases q
theorem sw_range2 {ta tb:TE} {a b:DE} (ha:SemB K ta a) (hb:SemB K tb b):SemW K true (iRng2 (tCons ta (tCons tb tNil))) (dRg2 a b):=fun {B Z os ρ σ H R ds} f q k=>by
  unfold dRg2 at q
  split at q
  · rename_i i e
    split at q
    · rename_i j e2
      by_cases c:-(2 ^ 62)≤i∧i<2 ^ 62∧-(2 ^ 62)≤j∧j<2 ^ 62∧(j-i).toNat≤sizeLine
      · rw [if_pos c] at q
        cases q
        exact ha f e fun v H1 s1 i1=>hb (f.grow s1) e2 fun u H2 s2 i2=>⟨i,j,by rw [i1.isInt,i2.isInt],⟨c.1,c.2.1,c.2.2.1,c.2.2.2.1⟩,k _ _ (s1.trans s2) (walk_range c.2.2.2.2)⟩
      · rw [if_neg c] at q; cases q
    · cases q
  · cases q
abbrev DG:=D→Rho→Option Rho
abbrev DGs:=List D→Rho→Option Rho
def SemG (K:PySem.W.Frag) (m:Bool) (g:TG) (e:DG):Prop:=∀ {B:Hp} {Z:Addr→Prop} {os:Own} {ρ:Rho} {σ:L2.St} {H:Hp} {Q:L2.St→Hp→Prop} {v:V} {d:D} {ρ':Rho},Fr K B Z os ρ σ H→ER K m B H (tot Z os) v d→e d ρ=some ρ' →
  (∀ os' σ',Fr K B Z os' ρ' σ' H→Kp (tot Z os) H (tot Z os') H→Q σ' H)→g v σ H Q
def ERL (K:PySem.W.Frag) (m:Bool) (Bx H:Hp) (T:Addr→Prop) (vs:List V) (ds:List D):Prop:=match m with
  | true=>IsL K H T vs ds
  | false=>IsL K Bx No vs ds
def SemGs (K:PySem.W.Frag) (m:Bool) (g:TGs) (e:DGs):Prop:=∀ {B:Hp} {Z:Addr→Prop} {os:Own} {ρ:Rho} {σ:L2.St} {H:Hp} {Q:L2.St→Hp→Prop} {vs:List V} {ds:List D} {ρ':Rho},Fr K B Z os ρ σ H→ERL K m B H (tot Z os) vs ds→e ds ρ=some ρ' →
  (∀ os' σ',Fr K B Z os' ρ' σ' H→Kp (tot Z os) H (tot Z os') H→Q σ' H)→g vs σ H Q
def slm (m:Bool) (d:D):Sl:=match m with
  | true=>.pu d
  | false=>.bo d
noncomputable def gN (m:Bool) (i:Nat):DG:=fun d ρ=>some (ρ.set i (slm m d))
theorem Fr.putm {B H:Hp} {Z:Addr→Prop} {os:Own} {ρ:Rho} {σ:L2.St} (f:Fr K B Z os ρ σ H) {m:Bool} (i:Nat) {v:V} {d:D} (h:ER K m B H (tot Z os) v d) :
    ∃ os',Fr K B Z os' (ρ.set i (slm m d)) (σ.set i (some v)) H∧Kp (tot Z os) H (tot Z os') H:=by
  by_cases hi:i < ρ.length
  · cases m with
    | true=>exact ⟨_,f.put hi h⟩
    | false=>exact ⟨_,f.step (s:=.bo d) (v:=some v) hi (fun a u e _=>e) (fun a ha=>let ⟨xs,e⟩:=(f.sl i).dom ha; ⟨_,e⟩) List.nodup_nil (fun a h=>by cases h) ⟨rfl,v,rfl,h⟩⟩
  · have e1:ρ.set i (slm m d)=ρ:=List.set_eq_of_length_le (by omega)
    have e2:σ.set i (some v)=σ:=List.set_eq_of_length_le (by rw [f.len]; omega)
    rw [e1,e2]
    exact ⟨os,f,Kp.refl⟩
theorem sg_name {m:Bool} (i:Nat):SemG K m (gName i) (gN m i):=fun {B Z os ρ σ H Q v d ρ'} f h q k=>by
  cases q
  obtain ⟨os',f',kp⟩:=f.putm i h
  exact k os' _ f' kp
def gsNil:DGs:=fun ds ρ=>match ds with
  | []=>some ρ
  | _=>none
def gsCons (e:DG) (r:DGs):DGs:=fun ds ρ=>match ds with
  | d::t=>(match e d ρ with
    | some ρ'=>r t ρ'
    | none=>none)
  | []=>none
theorem sgs_nil {m:Bool}:SemGs K m gNil gsNil:=fun {B Z os ρ σ H Q vs ds ρ'} f h q k=>by
  cases ds with
  | nil =>
    cases q
    have e:vs=[]:=by cases m <;> cases h <;> rfl
    exact ⟨e,k os σ f Kp.refl⟩
  | cons d t=>cases q
theorem sgs_cons {m:Bool} {g:TG} {u:TGs} {e:DG} {r:DGs} (hg:SemG K m g e) (hr:SemGs K m u r):SemGs K m (gCons g u) (gsCons e r):=fun {B Z os ρ σ H Q vs ds ρ'} f h q k=>by
  cases ds with
  | nil=>cases q
  | cons d t =>
    have q:(match e d ρ with | some ρ'=>r t ρ' | none=>none)=some ρ':=q
    split at q
    · rename_i ρ1 e1
      obtain ⟨v,vt,rfl,h1,h2⟩:∃ v vt,vs=v::vt∧ER K m B H (tot Z os) v d∧ERL K m B H (tot Z os) vt t:=by
        cases m with
        | true=>cases h with | cons a b=>exact ⟨_,_,rfl,a,b⟩
        | false=>cases h with | cons a b=>exact ⟨_,_,rfl,a,b⟩
      refine ⟨v,vt,rfl,hg f h1 e1 fun os1 σ1 f1 k1=>hr f1 ?_ q fun os2 σ2 f2 k2=>k os2 σ2 f2 (k1.trans k2)⟩
      cases m with
      | true=>exact IsL.kp k1 h2
      | false=>exact h2
    · cases q
noncomputable def gUn (n:Nat) (r:DGs):DG:=fun d ρ=>match d with
  | .tup ds=>if ds.length=n then r ds ρ else none
  | .lst ds=>if ds.length=n then r ds ρ else none
  | _=>none
theorem sg_un {m:Bool} {n:Nat} {u:TGs} {r:DGs} (hr:SemGs K m u r):SemG K m (gSeq K n u) (gUn n r):=fun {B Z os ρ σ H Q v d ρ'} f h q k=>by
  cases d with
  | tup ds =>
    have q:(if ds.length=n then r ds ρ else none)=some ρ':=q
    by_cases c:ds.length=n
    · rw [if_pos c] at q
      cases m with
      | true =>
        obtain ⟨p,vs,rfl,hz,hr',hl,g⟩:=Is.isTup h
        exact .inl ⟨p,vs,rfl,.inl (.inl hr'),by rw [g.length]; exact c,hr f g q k⟩
      | false =>
        obtain ⟨p,vs,rfl,hz,hr',hl,g⟩:=Is.isTup h
        exact .inl ⟨p,vs,rfl,.inl (.inl (f.keep _ _ hr')),by rw [g.length]; exact c,hr f g q k⟩
    · rw [if_neg c] at q; cases q
  | lst ds =>
    have q:(if ds.length=n then r ds ρ else none)=some ρ':=q
    by_cases c:ds.length=n
    · rw [if_pos c] at q
      cases m with
      | true =>
        obtain ⟨p,vs,rfl,hz,hr',hl,g⟩:=Is.isLst h
        exact .inr ⟨p,vs,rfl,.inl hr',by rw [g.length]; exact c,hr f g q k⟩
      | false =>
        obtain ⟨p,vs,rfl,hz,hr',hl,g⟩:=Is.isLst h
        exact .inr ⟨p,vs,rfl,.inl (Rd.same hr' f.keep),by rw [g.length]; exact c,hr f g q k⟩
    · rw [if_neg c] at q; cases q
  | _=>cases q
theorem Fr.tin {B H:Hp} {Z:Addr→Prop} {os:Own} {ρ:Rho} {σ:L2.St} (f:Fr K B Z os ρ σ H):∀ a,tot Z os a→∃ o,H a=some o:=by
  rintro a (z | ⟨i,z⟩)
  · exact f.zin a z
  · obtain ⟨xs,e⟩:=(f.sl i).dom z
    exact ⟨_,e⟩
theorem Fr.zt {B H:Hp} {Z:Addr→Prop} {os:Own} {ρ:Rho} {σ:L2.St} (f:Fr K B Z os ρ σ H):ZT (tot Z os) H:=⟨f.tin,f.tabH⟩
def view:Sl→Sl
  | .pu d=>.pu d
  | .bo d=>.bo d
  | .ol ds=>.bo (.lst ds)
  | .om rows=>.bo (.lst (rows.map D.lst))
  | .od kvs=>.bo (.dct kvs)
  | .pm _ _ rows=>.bo (.lst (rows.map D.lst))
  | .pd _ kvs=>.bo (.dct kvs)
  | .un=>.un
def r0 (k:Nat) (cs:List Nat) (ρ:Rho):Rho:=List.replicate k .un++cs.map fun i=>view (ρ.getD i .un)
def s0 (k:Nat) (cs:List Nat) (σ:L2.St):L2.St:=List.replicate k none++cs.map fun i=>(σ[i]?).join
theorem blockFr {B H1 H:Hp} {Z:Addr→Prop} {os:Own} {ρ:Rho} {σ:L2.St} {Dl:Addr} {o:HO} (f:Fr K B Z os ρ σ H1) (hD:H1 Dl=none) (s:Same H1 H) (hd:H Dl=some o) (k:Nat) (cs:List Nat) :
    Fr K H1 (fun a=>a=Dl∨tot Z os a) (fun _=>[]) (r0 k cs ρ) (s0 k cs σ) H where
  keep:=s
  zin:=fun a z=>by
    rcases z with rfl | z
    · exact ⟨o,hd⟩
    · obtain ⟨u,e⟩:=f.tin a z
      exact ⟨u,s _ _ e⟩
  len:=by unfold r0 s0; simp
  nd:=fun _=>List.nodup_nil
  dj:=fun _ _ _ h=>by cases h
  tab:=f.tabH
  new:=fun _ _ h=>by cases h
  sl:=fun j=>by
    have kp:Kp (tot Z os) H1 (tot (fun a=>a=Dl∨tot Z os a) fun _=>[]) H:=fun a u e z=>by
      refine ⟨s _ _ e,?_⟩
      rintro ((rfl | q) | ⟨_,q⟩)
      · rw [hD] at e; cases e
      · exact z q
      · cases q
    unfold r0 s0
    rw [List.getD_eq_getElem?_getD]
    by_cases hj:j<k
    · rw [List.getElem?_append_left (by simpa using hj),List.getElem?_append_left (by simpa using hj),List.getElem?_replicate,if_pos hj]
      exact rfl
    · rw [List.getElem?_append_right (by simpa using hj),List.getElem?_append_right (by simpa using hj),List.length_replicate,List.length_replicate,List.getElem?_map,List.getElem?_map]
      cases e:cs[j-k]? with
      | none=>exact rfl
      | some i =>
        have h:=f.sl i
        show SlOk K _ _ _ _ (view (ρ.getD i .un)) ((σ[i]?).join)
        cases e2:ρ.getD i .un with
        | un=>exact rfl
        | pu d =>
          rw [e2] at h
          obtain ⟨_,u,hu,i1⟩:=h
          exact ⟨rfl,u,hu,i1.kp kp⟩
        | bo d =>
          rw [e2] at h
          obtain ⟨_,u,hu,i1⟩:=h
          exact ⟨rfl,u,hu,i1.same f.keep⟩
        | ol ds =>
          rw [e2] at h
          obtain ⟨a,vs,_,hu,hH,hl,i1⟩:=h
          exact ⟨rfl,_,hu,.lst (fun z=>z) (.inl hH) hl i1.all⟩
        | om rows =>
          rw [e2] at h
          obtain ⟨a,ps,_,hu,hH,hl,i1⟩:=h
          exact ⟨rfl,_,hu,.lst (fun z=>z) (.inl hH) (by rw [List.length_map]; exact hl) (rows_is i1)⟩
        | od kvs =>
          rw [e2] at h
          obtain ⟨a,_,hu,hH,hl⟩:=h
          exact ⟨rfl,_,hu,.dct (fun z=>z) (.inl hH) hl⟩
        | pm a ps rows =>
          rw [e2] at h
          obtain ⟨_,hu,hH,hl,i1⟩:=h
          exact ⟨rfl,_,hu,.lst (fun z=>z) (.inl hH) (by rw [List.length_map]; exact hl) (rows_is i1)⟩
        | pd a kvs =>
          rw [e2] at h
          obtain ⟨_,hu,hH,hl⟩:=h
          exact ⟨rfl,_,hu,.dct (fun z=>z) (.inl hH) hl⟩
def compGo (g:DG) (t:Rho→Option Bool) (e:DE) (ρ0:Rho):List D→Option (List D)
  | []=>some []
  | d::ds=>match g d ρ0 with
    | none=>none
    | some ρ1=>match t ρ1 with
      | none=>none
      | some false=>compGo g t e ρ0 ds
      | some true=>match e ρ1 with
        | none=>none
        | some y=>match compGo g t e ρ0 ds with
          | none=>none
          | some ys=>some (y::ys)
noncomputable def dComp (k:Nat) (cs:List Nat) (it:Rho→Option (List D)) (g:DG) (t:Rho→Option Bool) (e:DE):Rho→Option (List D):=fun ρ=>match it ρ with
  | some ds=>compGo g t e (r0 k cs ρ) ds
  | none=>none
theorem sf_comp {m:Bool} {k:Nat} {cs:List Nat} {wi:TI} {g:TG} {tt:TT} {te:TE} {it:Rho→Option (List D)} {gd:DG} {td:Rho→Option Bool} {ed:DE} (hw:SemWC K m wi it) (hg:SemG K m g gd) (ht:SemT K tt td) (he:SemI K te ed) :
    SemF K (tComp wi g tt te (s0 k cs)) (dComp k cs it gd td ed):=fun {B Z os ρ σ H Q ds} f q kk=>by
  unfold dComp at q
  split at q
  · rename_i xs e0
    refine hw f e0 fun J H1 s1 W Dl hD=>?_
    have f1:=f.grow s1
    have sD:∀ {H2:Hp} {ys:List V},Same H1 H2→Same H1 (upd H2 Dl (.lst ys)):=fun {H2 ys} s a o e=>by
      rw [upd_ne (ne_of_none e hD)]; exact s _ _ e
    refine ⟨fun i m ys H2=>m=xs.length-i∧i≤xs.length∧Same H1 H2∧H2 Dl=some (.lst ys)∧ys.length≤i∧∃ done rest,IsL K H2 (fun a=>a=Dl∨tot Z os a) ys done∧compGo gd td ed (r0 k cs ρ) (xs.drop i)=some rest∧done++rest=ds,
      ⟨_,rfl,Nat.zero_le _,sD (Same.refl _),upd_same,Nat.le_refl _,[],ds,.nil,q,rfl⟩,?_⟩
    rintro i mm ys H2 ⟨rfl,hi,s2,eD,hly,done,rest,il,q2,ed2⟩
    have kp12:Kp (tot Z os) H1 (fun a=>a=Dl∨tot Z os a) H2:=fun a u e z=>⟨s2 _ _ e,fun w=>w.elim (ne_of_none e hD) z⟩
    by_cases hlt:i<xs.length
    · have ex:xs[i]?=some xs[i]:=List.getElem?_eq_getElem hlt
      have ef:=blockFr f1 hD s2 eD k cs
      obtain ⟨go,yl⟩:=W.go i xs[i] H2 _ kp12 s2 (fun a z=>ef.zin a z) ex
      refine .inr ⟨go,fun x H3 hy=>?_⟩
      obtain ⟨s3,er⟩:=yl x H3 hy
      have eD3:=s3 _ _ eD
      have s13:=s2.trans s3
      have ef3:=blockFr f1 hD s13 eD3 k cs
      rw [List.drop_eq_getElem_cons hlt] at q2
      unfold compGo at q2
      have er':ER K m H1 H3 (tot (fun a=>a=Dl∨tot Z os a) fun _=>[]) x xs[i]:=by
        cases m with
        | false=>exact er
        | true=>exact Is.kp (Kp.less fun a z=>z.elim id fun ⟨_,w⟩=>by cases w) er
      split at q2
      · cases q2
      · rename_i ρ1 e1
        refine hg ef3 er' e1 fun os1 σ1 fr1 k1=>?_
        split at q2
        · cases q2
        · rename_i e2
          refine ht fr1 e2 fun H4 s4=>iteF ⟨_,by omega,rfl,hlt,s13.trans s4,s4 _ _ eD3,by omega,done,rest,(il.same s3).same s4,q2,ed2⟩
        · rename_i e2
          refine ht fr1 e2 fun H4 s4=>iteT ?_
          split at q2
          · cases q2
          · rename_i y e3
            split at q2
            · cases q2
            · rename_i rs e4
              cases q2
              refine he (fr1.grow s4) e3 fun v H5 s5 i5=>?_
              have s35:=s4.trans s5
              have eD5:=s35 _ _ eD3
              have hl:=W.len
              have kp5:∀ (zs:List V),Kp (fun a=>a=Dl∨tot Z os a) H5 (fun a=>a=Dl∨tot Z os a) (upd H5 Dl (.lst zs)):=fun zs a u e z=>⟨by rw [upd_ne (fun w=>z (.inl w))]; exact e,z⟩
              have i5':Is K H5 (fun a=>a=Dl∨tot Z os a) v y:=i5.kp (Kp.less fun a z=>.inl z)
              refine ⟨eD5,by omega,_,by omega,rfl,hlt,sD (s13.trans s35),upd_same,by rw [List.length_append,List.length_singleton]; omega,done++[y],rs,?_,e4,by rw [List.append_assoc]; exact ed2⟩
              exact ((il.same s3).same s35 |>.kp (kp5 _)).append (.one (i5'.kp (kp5 _)))
    · have e:i=xs.length:=by omega
      subst e
      rw [List.drop_length] at q2
      cases q2
      rw [List.append_nil] at ed2
      subst ed2
      have hl:=W.len
      exact .inl ⟨W.stop _ H2 _ kp12 s2 rfl,eD,kk Dl ys H2 (s1.trans s2) (Same.free s1 hD) eD (by omega) il⟩
  · cases q
inductive Fm where
  | v | l | m | x (E:XK) (C:Addr)
def RtOk (fr:Fm) (K:PySem.W.Frag) (B H:Hp) (Z:Addr→Prop) (v:V) (d:D):Prop:=match fr with
  | .v=>Is K H Z v d
  | .l=>(∃ p vs ds,v=.ref p∧d=.lst ds∧B p=none∧H p=some (.lst vs)∧vs.length≤sizeLine∧IsL K H (fun a=>a=p∨Z a) vs ds)∨∃ p kvs,v=.ref p∧d=.dct kvs∧B p=none∧H p=some (.dK (kvs.map dkv))∧kvs.length≤sizeLine
  | .m=>∃ p ps rows,v=.ref p∧d=.lst (rows.map D.lst)∧B p=none∧(∀ a∈ps,B a=none)∧(p::ps).Nodup∧H p=some (.lst (ps.map V.ref))∧ps.length≤sizeLine∧Paired (fun q ds=>∃ vs,H q=some (.lst vs)∧vs.length≤sizeLine∧IsL K H (fun a=>(a=p∨a∈ps)∨Z a) vs ds) ps rows
  | .x _ _=>Is K H Z v d
theorem rows_isZ {H:Hp} {Z T:Addr→Prop} (hT:∀ a,Z a→T a):∀ {ps:List Addr} {rows:List (List D)},(∀ p∈ps,¬ Z p)→Paired (fun p ds=>∃ vs,H p=some (.lst vs)∧vs.length≤sizeLine∧IsL K H T vs ds) ps rows→IsL K H Z (ps.map V.ref) (rows.map D.lst)
  | _,_,_,.nil=>.nil
  | _,_,hz,.cons ⟨vs,h,hl,r⟩ t=>.cons (.lst (hz _ List.mem_cons_self) (.inl h) hl (r.kp (Kp.less hT))) (rows_isZ hT (fun p hp=>hz p (List.mem_cons_of_mem _ hp)) t)
theorem RtOk.is {fr:Fm} {B H:Hp} {Z:Addr→Prop} {v:V} {d:D} (hz:∀ a,Z a→∃ o,B a=some o) (h:RtOk fr K B H Z v d):Is K H Z v d:=by
  have nz:∀ {p:Addr},B p=none→¬ Z p:=fun {p} e z=>by obtain ⟨o,q⟩:=hz p z; rw [e] at q; cases q
  cases fr with
  | v=>exact h
  | x E C=>exact h
  | l =>
    rcases h with ⟨p,vs,ds,rfl,rfl,hb,hh,hl,r⟩ | ⟨p,kvs,rfl,rfl,hb,hh,hl⟩
    · exact .lst (nz hb) (.inl hh) hl (r.kp (Kp.less fun a z=>.inr z))
    · exact .dct (nz hb) (.inl hh) hl
  | m =>
    obtain ⟨p,ps,rows,rfl,rfl,hb,hbs,_,hh,hl,r⟩:=h
    exact .lst (nz hb) (.inl hh) (by rw [List.length_map]; exact hl) (rows_isZ (fun a z=>.inr z) (fun q hq=>nz (hbs q hq)) r)
def spD (fr:Fm) (K:PySem.W.Frag) (ms:List Bool) (F:List D→Option D):Sp:=fun vs H Q _=>∃ (Z:Addr→Prop) (ds:List D) (d:D),ZT Z H∧Args K H Z ms vs ds∧F ds=some d∧∀ v H',Same H H'→RtOk fr K H H' Z v d→Q v H'
noncomputable def dCall (F:List D→Option D) (es:Rho→Option (List D)):DE:=fun ρ=>match es ρ with
  | some ds=>F ds
  | none=>none
theorem si_call {fr:Fm} {ms:List Bool} {F:List D→Option D} {t:TA} {es:Rho→Option (List D)} {E:XK} (ha:SemA K ms t es):SemI K (tCall (spD fr K ms F) [] E t) (dCall F es):=fun {B Z os ρ σ H Q d} f q k=>by
  unfold dCall at q
  split at q
  · rename_i ds e
    refine ha f e fun vs H1 s1 a=>?_
    show spD fr K ms F (vs++[]) H1 Q E
    rw [List.append_nil]
    exact ⟨tot Z os,ds,d,(f.grow s1).zt,a,q,fun v H2 s2 i=>k v H2 (s1.trans s2) (i.is (f.grow s1).tin)⟩
  · cases q
end
end VL
namespace L2
open PySem PySem.Spec PyProof.Rows
section
variable {X:Cx}
theorem get_list:PGet X (rIxL X.K):=by
  intro pins s σ H x y v u Q I rx ry h
  obtain ⟨p,xs,i,z,rfl,rfl,hq,he,q⟩:=h
  cases rx
  obtain ⟨t,rfl⟩:=ry
  obtain ⟨its,r,pl,hz⟩:=I.list hq
  obtain ⟨j,h1,h2,h3,h4,h5⟩:=atI_get he
  obtain ⟨w,ew,rw'⟩:=r.get h2
  have hl:=r.length
  have hn:=line63
  have fin:EP X pins σ Q w s:=⟨z,H,I,rw',q⟩
  by_cases h0:0≤i
  · have hj:i.toNat=j:=by
      rw [seqIndex_of h0 h5] at h1
      exact Option.some.inj h1
    exact wpAny_getItem_list pl.isList h0 (by omega) (by rw [hj]; simpa using ew) fin
  · have hj:(i+(its.toArray.size:Int)).toNat=j:=by
      rw [seqIndex_neg (by omega) h4] at h1
      rw [List.size_toArray,← hl]
      exact Option.some.inj h1
    exact wpAny_getItem_list_neg pl.isList (by omega) (by rw [List.size_toArray] <;> omega) (by omega) (by rw [hj]; simpa using ew) fin
theorem get_listK {K:PySem.W.Frag} (h:X.K=K):PGet X (rIxL K):=by subst h; exact get_list
end
end L2
namespace VL
open PySem L2
open Classical
noncomputable section
variable [Tabs] {K:PySem.W.Frag}
inductive Res where
  | nx (ρ:Rho) | rt (d:D) | bk (ρ:Rho) | ct (ρ:Rho) | no
variable {fr:Fm}
abbrev DS:=Rho→Res
def Post (fr:Fm) (K:PySem.W.Frag) (B:Hp) (Z:Addr→Prop) (os:Own) (H:Hp) (E:Ends):Res→Prop
  | .nx ρ'=>∀ os' σ' H',Fr K B Z os' ρ' σ' H'→Kp (tot Z os) H (tot Z os') H'→E.nx σ' H'
  | .bk ρ'=>∀ os' σ' H',Fr K B Z os' ρ' σ' H'→Kp (tot Z os) H (tot Z os') H'→E.bk σ' H'
  | .ct ρ'=>∀ os' σ' H',Fr K B Z os' ρ' σ' H'→Kp (tot Z os) H (tot Z os') H'→E.ct σ' H'
  | .rt d=>match fr with
    | .x E0 C=>∀ H',Same B H'→E0 (.ref C) none H'
    | fr=>∀ v H',Same B H'→RtOk fr K B H' Z v d→E.rt v H'
  | .no=>False
def SemS (fr:Fm) (K:PySem.W.Frag) (t:TS) (s:DS):Prop:=∀ {B:Hp} {Z:Addr→Prop} {os:Own} {ρ:Rho} {σ:L2.St} {H:Hp} {E:Ends},Fr K B Z os ρ σ H→Post fr K B Z os H E (s ρ)→t E σ H
theorem Post.kp {B:Hp} {Z:Addr→Prop} {os os1:Own} {H H1:Hp} {E:Ends} {r:Res} (k:Kp (tot Z os) H (tot Z os1) H1) (p:Post fr K B Z os H E r):Post fr K B Z os1 H1 E r:=by
  cases r with
  | nx ρ'=>exact fun os' σ' H' f k'=>p os' σ' H' f (k.trans k')
  | bk ρ'=>exact fun os' σ' H' f k'=>p os' σ' H' f (k.trans k')
  | ct ρ'=>exact fun os' σ' H' f k'=>p os' σ' H' f (k.trans k')
  | rt d=>exact p
  | no=>exact p
@[irreducible] noncomputable def sPass:DS:=fun ρ=>.nx ρ
theorem ss_pass:SemS fr K tNext sPass:=fun f p=>by unfold sPass at p; exact p _ _ _ f Kp.refl
@[irreducible] noncomputable def sSeq (s u:DS):DS:=fun ρ=>match s ρ with
  | .nx ρ'=>u ρ'
  | r=>r
theorem ss_seq {t u:TS} {s w:DS} (h1:SemS fr K t s) (h2:SemS fr K u w):SemS fr K (tSeq t u) (sSeq s w):=fun {B Z os ρ σ H E} f p=>by
  refine h1 f ?_
  unfold sSeq at p
  cases e:s ρ with
  | nx ρ'=>rw [e] at p; exact fun os' σ' H' f' k=>h2 f' (p.kp k)
  | bk ρ'=>rw [e] at p; exact p
  | ct ρ'=>rw [e] at p; exact p
  | rt d=>rw [e] at p; exact p
  | no=>rw [e] at p; exact p
@[irreducible] noncomputable def sRet (a:DE):DS:=fun ρ=>match a ρ with
  | some d=>.rt d
  | none=>.no
theorem ss_ret {ta:TE} {a:DE} (h:SemI K ta a):SemS .v K (tRet ta) (sRet a):=fun {B Z os ρ σ H E} f p=>by
  unfold sRet at p
  cases e:a ρ with
  | none=>rw [e] at p; exact p.elim
  | some d=>rw [e] at p; exact h f e fun v H1 s1 i1=>p v H1 (f.keep.trans s1) (i1.kp (Kp.less fun a z=>.inl z))
@[irreducible] noncomputable def sIf (c:Rho→Option Bool) (s u:DS):DS:=fun ρ=>match c ρ with
  | some true=>s ρ
  | some false=>u ρ
  | none=>.no
theorem ss_if {tc:TT} {t u:TS} {c:Rho→Option Bool} {s w:DS} (hc:SemT K tc c) (h1:SemS fr K t s) (h2:SemS fr K u w):SemS fr K (tIfS tc t u) (sIf c s w):=fun {B Z os ρ σ H E} f p=>by
  unfold sIf at p
  split at p
  · rename_i e
    exact hc f e fun H1 s1=>iteT (h1 (f.grow s1) (p.kp (Kp.same s1)))
  · rename_i e
    exact hc f e fun H1 s1=>iteF (h2 (f.grow s1) (p.kp (Kp.same s1)))
  · exact p.elim
@[irreducible] noncomputable def sSet (i:Nat) (a:DE):DS:=fun ρ=>match a ρ with
  | some d=>.nx (ρ.set i (.pu d))
  | none=>.no
theorem ss_set {i:Nat} {ta:TE} {a:DE} (h:SemI K ta a):SemS fr K (tAsg ta (gName i)) (sSet i a):=fun {B Z os ρ σ H E} f p=>by
  unfold sSet at p
  cases e:a ρ with
  | none=>rw [e] at p; exact p.elim
  | some d =>
    rw [e] at p
    refine h f e fun v H1 s1 i1=>?_
    obtain ⟨os',f',k⟩:=(f.grow s1).putm (m:=true) i i1
    exact p os' _ _ f' ((Kp.same s1).trans k)
theorem ss_setC {i:Nat} {ta:TE} {a:DE} (h:SemI K ta a):SemS fr K (tSetC ta i) (sSet i a):=ss_set (i:=i) h
@[irreducible] noncomputable def sUn (a:DE) (g:DG):DS:=fun ρ=>match a ρ with
  | some d=>(match g d ρ with
    | some ρ'=>.nx ρ'
    | none=>.no)
  | none=>.no
theorem ss_un {ta:TE} {a:DE} {t:TG} {g:DG} (h:SemI K ta a) (hg:SemG K true t g):SemS fr K (tAsg ta t) (sUn a g):=fun {B Z os ρ σ H E} f p=>by
  unfold sUn at p
  split at p
  · rename_i d e
    split at p
    · rename_i ρ' e2
      exact h f e fun v H1 s1 i1=>hg (f.grow s1) i1 e2 fun os' σ' f' k=>p os' σ' _ f' ((Kp.same s1).trans k)
    · exact p.elim
  · exact p.elim
@[irreducible] noncomputable def sSetO (i:Nat) (a:Rho→Option (List D)):DS:=fun ρ=>match a ρ with
  | some ds=>if i < ρ.length then .nx (ρ.set i (.ol ds)) else .no
  | none=>.no
theorem ss_setO {i:Nat} {ta:TE} {a:Rho→Option (List D)} (h:SemF K ta a):SemS fr K (tAsg ta (gName i)) (sSetO i a):=fun {B Z os ρ σ H E} f p=>by
  unfold sSetO at p
  split at p
  · rename_i ds e
    by_cases hi:i < ρ.length
    · rw [if_pos hi] at p
      refine h f e fun x vs H1 s1 hx hx1 hl i1=>?_
      have st:=f.step (H':=H1) (i:=i) hi (o:=[x]) (s:=.ol ds) (v:=some (.ref x)) (fun a u e _=>s1 _ _ e) (fun a ha=>let ⟨xs,e⟩:=(f.sl i).dom ha; ⟨_,s1 _ _ e⟩) (by simp) (fun a ha=>by rw [List.mem_singleton.mp ha]; exact .inr hx)
        ⟨x,vs,rfl,rfl,hx1,hl,i1.kp (Kp.less fun a z=>?_)⟩
      · exact p _ _ _ st.1 st.2
      · rcases z with z | ⟨j,z⟩
        · exact .inr (.inl z)
        · by_cases hj:j=i
          · subst hj; rw [putO_same] at z; exact .inl (List.mem_singleton.mp z)
          · rw [putO_ne hj] at z; exact .inr (.inr ⟨j,z⟩)
    · rw [if_neg hi] at p; exact p.elim
  · exact p.elim
theorem ss_setOC {i:Nat} {ta:TE} {a:Rho→Option (List D)} (h:SemF K ta a):SemS fr K (tSetC ta i) (sSetO i a):=ss_setO (i:=i) h
def frz (i:Nat) (ρ:Rho):Rho:=match ρ.getD i .un with
  | .ol ds=>ρ.set i (.pu (.lst ds))
  | .om rows=>ρ.set i (.pu (.lst (rows.map D.lst)))
  | .od kvs=>ρ.set i (.pu (.dct kvs))
  | _=>ρ
theorem set_self {σ:L2.St} {i:Nat} {v:V} (h:(σ[i]?).join=some v):σ.set i (some v)=σ:=by
  have e:=join_some h
  refine List.ext_getElem? fun j=>?_
  by_cases hj:i=j
  · subst hj
    rw [List.getElem?_set_self (List.getElem?_eq_some_iff.mp e).1,e]
  · rw [List.getElem?_set_ne hj]
theorem getD_lt {ρ:Rho} {i:Nat} {s:Sl} (h:ρ.getD i .un=s) (hs:s≠.un):i < ρ.length:=by
  by_cases hi:i < ρ.length
  · exact hi
  · rw [List.getD_eq_getElem?_getD,List.getElem?_eq_none (by omega)] at h
    exact absurd h.symm hs
theorem Fr.freeze {B H:Hp} {Z:Addr→Prop} {os:Own} {ρ:Rho} {σ:L2.St} (f:Fr K B Z os ρ σ H) (i:Nat):∃ os',Fr K B Z os' (frz i ρ) σ H∧Kp (tot Z os) H (tot Z os') H:=by
  unfold frz
  have less:∀ a,tot Z (putO os i []) a→tot Z os a:=by
    rintro a (z | ⟨j,z⟩)
    · exact .inl z
    · by_cases hj:j=i
      · subst hj; rw [putO_same] at z; cases z
      · rw [putO_ne hj] at z; exact .inr ⟨j,z⟩
  cases e:ρ.getD i .un with
  | ol ds =>
    have s:=f.sl i
    rw [e] at s
    obtain ⟨a,vs,eo,hu,hH,hl,i1⟩:=s
    have hi:=getD_lt e (by intro z; cases z)
    have st:=f.step (H':=H) (i:=i) hi (o:=[]) (s:=.pu (.lst ds)) (v:=some (.ref a)) (fun a u e _=>e) (fun a ha=>let ⟨xs,e⟩:=(f.sl i).dom ha; ⟨_,e⟩) List.nodup_nil (fun a h=>by cases h)
      ⟨rfl,_,rfl,.lst (fun z=>?_) (.inl hH) hl (i1.kp (Kp.less less))⟩
    · rw [set_self hu] at st
      exact ⟨_,st⟩
    · rcases z with z | ⟨j,z⟩
      · exact (f.new i a (by rw [eo]; exact List.mem_singleton.mpr rfl)).2 z
      · by_cases hj:j=i
        · subst hj; rw [putO_same] at z; cases z
        · rw [putO_ne hj] at z; exact hj (f.dj j i a z (by rw [eo]; exact List.mem_singleton.mpr rfl))
  | od kvs =>
    have s:=f.sl i
    rw [e] at s
    obtain ⟨a,eo,hu,hH,hl⟩:=s
    have hi:=getD_lt e (by intro z; cases z)
    have st:=f.step (H':=H) (i:=i) hi (o:=[]) (s:=.pu (.dct kvs)) (v:=some (.ref a)) (fun a u e _=>e) (fun a ha=>let ⟨xs,e⟩:=(f.sl i).dom ha; ⟨_,e⟩) List.nodup_nil (fun a h=>by cases h)
      ⟨rfl,_,rfl,.dct (fun z=>?_) (.inl hH) hl⟩
    · rw [set_self hu] at st
      exact ⟨_,st⟩
    · rcases z with z | ⟨j,z⟩
      · exact (f.new i a (by rw [eo]; exact List.mem_singleton.mpr rfl)).2 z
      · by_cases hj:j=i
        · subst hj; rw [putO_same] at z; cases z
        · rw [putO_ne hj] at z; exact hj (f.dj j i a z (by rw [eo]; exact List.mem_singleton.mpr rfl))
  | om rows =>
    have s:=f.sl i
    rw [e] at s
    obtain ⟨a,ps,eo,hu,hH,hl,i1⟩:=s
    have hi:=getD_lt e (by intro z; cases z)
    have out:∀ b,b∈os i→¬ tot Z (putO os i []) b:=by
      rintro b hb (z | ⟨j,z⟩)
      · exact (f.new i b hb).2 z
      · by_cases hj:j=i
        · subst hj; rw [putO_same] at z; cases z
        · rw [putO_ne hj] at z; exact hj (f.dj j i b z hb)
    have rowsI:∀ {ps:List Addr} {rows:List (List D)},(∀ p∈ps,p∈os i)→Paired (fun p ds=>∃ vs,H p=some (.lst vs)∧vs.length≤sizeLine∧IsL K H (tot Z os) vs ds) ps rows→IsL K H (tot Z (putO os i [])) (ps.map V.ref) (rows.map D.lst):=by
      intro ps rows hp r
      induction r with
      | nil=>exact .nil
      | cons h _ ih =>
        obtain ⟨vs,q,hv,j⟩:=h
        exact .cons (.lst (out _ (hp _ List.mem_cons_self)) (.inl q) hv (j.kp (Kp.less less))) (ih fun p h=>hp p (List.mem_cons_of_mem _ h))
    have st:=f.step (H':=H) (i:=i) hi (o:=[]) (s:=.pu (.lst (rows.map D.lst))) (v:=some (.ref a)) (fun a u e _=>e) (fun a ha=>let ⟨xs,e⟩:=(f.sl i).dom ha; ⟨_,e⟩) List.nodup_nil (fun a h=>by cases h)
      ⟨rfl,_,rfl,.lst (out a (by rw [eo]; exact List.mem_cons_self)) (.inl hH) (by rw [List.length_map]; exact hl) (rowsI (fun p hp=>by rw [eo]; exact List.mem_cons_of_mem _ hp) i1)⟩
    rw [set_self hu] at st
    exact ⟨_,st⟩
  | un=>exact ⟨os,f,Kp.refl⟩
  | pu d=>exact ⟨os,f,Kp.refl⟩
  | bo d=>exact ⟨os,f,Kp.refl⟩
  | pm _ _ _=>exact ⟨os,f,Kp.refl⟩
  | pd _ _=>exact ⟨os,f,Kp.refl⟩
@[irreducible] noncomputable def sFrz (i:Nat) (s:DS):DS:=fun ρ=>s (frz i ρ)
theorem ss_frz {t:TS} {s:DS} (i:Nat) (h:SemS fr K t s):SemS fr K t (sFrz i s):=fun {B Z os ρ σ H E} f p=>by
  obtain ⟨os',f',k⟩:=f.freeze i
  unfold sFrz at p
  exact h f' (Post.kp k p)
theorem Fr.mutO {B H:Hp} {Z:Addr→Prop} {os:Own} {ρ:Rho} {σ:L2.St} (f:Fr K B Z os ρ σ H) {i:Nat} {a:Addr} {ds ds':List D} {vs':List V} (e:ρ.getD i .un=.ol ds) (hu:(σ[i]?).join=some (.ref a)) (hl:vs'.length≤sizeLine) (h:IsL K H (tot Z os) vs' ds') :
    ∃ os',Fr K B Z os' (ρ.set i (.ol ds')) σ (upd H a (.lst vs'))∧Kp (tot Z os) H (tot Z os') (upd H a (.lst vs')):=by
  have s:=f.sl i
  rw [e] at s
  obtain ⟨b,vs,eo,hu',hH,_,_⟩:=s
  rw [hu] at hu'
  cases hu'
  have hi:=getD_lt e (by intro z; cases z)
  have ha:a∈os i:=by rw [eo]; exact List.mem_singleton.mpr rfl
  have st:=f.step (H':=upd H a (.lst vs')) (i:=i) hi (o:=[a]) (s:=.ol ds') (v:=some (.ref a)) (fun b u e n=>by rw [upd_ne (fun z=>n (by rw [z]; exact ha))]; exact e) (fun b hb=>?_) (by simp) (fun b hb=>by rw [List.mem_singleton.mp hb]; exact .inl ha)
    ⟨a,vs',rfl,rfl,upd_same,hl,h.kp fun b u e z=>⟨?_,fun q=>z ?_⟩⟩
  · rw [set_self hu] at st
    exact ⟨_,st⟩
  · rw [eo] at hb; rw [List.mem_singleton.mp hb]; exact ⟨_,upd_same⟩
  · rw [upd_ne (fun w=>z (.inr ⟨i,by rw [w]; exact ha⟩))]; exact e
  · rcases q with q | ⟨j,q⟩
    · exact .inl q
    · by_cases hj:j=i
      · subst hj; rw [putO_same] at q; exact .inr ⟨j,by rw [List.mem_singleton.mp q]; exact ha⟩
      · rw [putO_ne hj] at q; exact .inr ⟨j,q⟩
theorem ol_of {B H:Hp} {Z:Addr→Prop} {os:Own} {ρ:Rho} {σ:L2.St} (f:Fr K B Z os ρ σ H) {i:Nat} {ds:List D} (e:ρ.getD i .un=.ol ds):∃ a vs,(σ[i]?).join=some (.ref a)∧H a=some (.lst vs)∧vs.length≤sizeLine∧IsL K H (tot Z os) vs ds:=by
  have s:=f.sl i
  rw [e] at s
  obtain ⟨b,vs,eo,hu',hH,hl,r⟩:=s
  exact ⟨b,vs,hu',hH,hl,r⟩
@[irreducible] noncomputable def sApp (i:Nat) (a:DE):DS:=fun ρ=>match ρ.getD i .un with
  | .ol ds=>(match a ρ with
    | some d=>if ds.length<sizeLine then .nx (ρ.set i (.ol (ds++[d]))) else .no
    | none=>.no)
  | _=>.no
theorem ss_app {i:Nat} {ta:TE} {a:DE} (h:SemI K ta a):SemS fr K (tDrop (tBM K "list" rAppend (tVar i) (tCons ta tNil))) (sApp i a):=fun {B Z os ρ σ H E} f p=>by
  unfold sApp at p
  split at p
  · rename_i ds e
    split at p
    · rename_i d e2
      by_cases hz:ds.length<sizeLine
      · rw [if_pos hz] at p
        obtain ⟨x,vs,hu,hH,hl,r⟩:=ol_of f e
        refine ⟨_,join_some hu,.inl ⟨rfl,_,SqL.of hH⟩,h f e2 fun v H1 s1 i1=>?_⟩
        have f1:=f.grow s1
        have r1:=r.same s1
        have hlen:vs.length<sizeLine:=by rw [r.length]; exact hz
        obtain ⟨os',f',k⟩:=f1.mutO (vs':=vs++[v]) (ds':=ds++[d]) e hu (by rw [List.length_append,List.length_singleton]; omega) (r1.append (.one i1))
        exact ⟨x,vs,v,rfl,rfl,s1 _ _ hH,hlen,p os' _ _ f' ((Kp.same s1).trans k)⟩
      · rw [if_neg hz] at p; exact p.elim
    · exact p.elim
  · exact p.elim
@[irreducible] noncomputable def sExt (i:Nat) (a:DE):DS:=fun ρ=>match ρ.getD i .un with
  | .ol ds=>(match a ρ with
    | some (.lst es)=>if ds.length+es.length≤sizeLine then .nx (ρ.set i (.ol (ds++es))) else .no
    | _=>.no)
  | _=>.no
theorem ss_ext {i:Nat} {ta:TE} {a:DE} (h:SemI K ta a):SemS fr K (tDrop (tBM K "list" rExtR (tVar i) (tCons ta tNil))) (sExt i a):=fun {B Z os ρ σ H E} f p=>by
  unfold sExt at p
  split at p
  · rename_i ds e
    split at p
    · rename_i es e2
      by_cases hz:ds.length+es.length≤sizeLine
      · rw [if_pos hz] at p
        obtain ⟨x,vs,hu,hH,hl,r⟩:=ol_of f e
        refine ⟨_,join_some hu,.inl ⟨rfl,_,SqL.of hH⟩,h f e2 fun v H1 s1 i1=>?_⟩
        obtain ⟨b,us,rfl,_,hb,_,r2⟩:=i1.isLst
        have f1:=f.grow s1
        have r1:=r.same s1
        have hlen:vs.length+us.length≤sizeLine:=by rw [r.length,r2.length]; exact hz
        obtain ⟨os',f',k⟩:=f1.mutO (vs':=vs++us) (ds':=ds++es) e hu (by rw [List.length_append]; exact hlen) (r1.append r2)
        exact ⟨x,b,vs,us,rfl,rfl,s1 _ _ hH,hb,hlen,p os' _ _ f' ((Kp.same s1).trans k)⟩
      · rw [if_neg hz] at p; exact p.elim
    · exact p.elim
  · exact p.elim
@[irreducible] noncomputable def sPut (i:Nat) (b a:DE):DS:=fun ρ=>match ρ.getD i .un with
  | .ol ds=>(match a ρ with
    | some d=>(match b ρ with
      | some (.int n)=>(match ixN ds.length n with
        | some j=>.nx (ρ.set i (.ol (ds.set j d)))
        | none=>.no)
      | _=>.no)
    | none=>.no)
  | _=>.no
theorem ss_put {i:Nat} {ta tb:TE} {a b:DE} (ha:SemI K ta a) (hb:SemB K tb b):SemS fr K (tAsg ta (gSub (tVar i) tb rSetL)) (sPut i b a):=fun {B Z os ρ σ H E} f p=>by
  unfold sPut at p
  split at p
  · rename_i ds e
    split at p
    · rename_i d e2
      split at p
      · rename_i n e3
        split at p
        · rename_i j e4
          obtain ⟨x,vs,hu,hH,hl,r⟩:=ol_of f e
          refine ha f e2 fun v H1 s1 i1=>⟨_,join_some hu,hb (f.grow s1) e3 fun w H2 s2 i2=>?_⟩
          have s12:=s1.trans s2
          have f1:=f.grow s12
          have r1:=r.same s12
          obtain ⟨os',f',k⟩:=f1.mutO (vs':=vs.set j v) (ds':=ds.set j d) e hu (by rw [List.length_set]; exact hl) (r1.set (i1.same s2) j)
          exact ⟨x,vs,n,j,rfl,i2.isInt,s12 _ _ hH,by rw [r.length]; exact e4,p os' _ _ f' ((Kp.same s12).trans k)⟩
        · exact p.elim
      · exact p.elim
    · exact p.elim
  · exact p.elim
@[irreducible] noncomputable def sAug (g:Int→Int→Int) (i:Nat) (a:DE):DS:=fun ρ=>match dVar i ρ with
  | some (.int x)=>(match a ρ with
    | some (.int y)=>.nx (ρ.set i (.pu (.int (g x y))))
    | _=>.no)
  | _=>.no
theorem ss_aug {i:Nat} {g:Int→Int→Int} {ta:TE} {a:DE} (ha:SemB K ta a):SemS fr K (tAug i ta (ipI g)) (sAug g i a):=fun {B Z os ρ σ H E} f p=>by
  unfold sAug at p
  split at p
  · rename_i x e
    split at p
    · rename_i y e2
      have q:=sb_var i f (Q:=fun v H'=>v=.int x∧H'=H) e
      obtain ⟨u,hu,ix⟩:∃ u,σ[i]?=some (some u)∧u=.int x:=by
        have s:=f.sl i
        unfold dVar at e
        cases e0:ρ.getD i .un with
        | un=>rw [e0] at e; cases e
        | pu d=>rw [e0] at e s; cases e; obtain ⟨_,u,hu,i1⟩:=s; exact ⟨u,join_some hu,i1.isInt⟩
        | bo d=>rw [e0] at e s; cases e; obtain ⟨_,u,hu,i1⟩:=s; exact ⟨u,join_some hu,i1.isInt⟩
        | ol d=>rw [e0] at e; cases e
        | om d=>rw [e0] at e; cases e
        | od d=>rw [e0] at e; cases e
        | pm _ _ d=>rw [e0] at e; cases e
        | pd _ d=>rw [e0] at e; cases e
      refine ⟨u,hu,ha f e2 fun v H1 s1 i1=>⟨x,y,ix,i1.isInt,?_⟩⟩
      obtain ⟨os',f',k⟩:=(f.grow s1).putm (m:=true) i (v:=.int (g x y)) (d:=.int (g x y)) (.int _)
      exact p os' _ _ f' ((Kp.same s1).trans k)
    · exact p.elim
  · exact p.elim
def forD (g:DG) (b:DS):List D→DS
  | [],ρ=>.nx ρ
  | d::ds,ρ=>match g d ρ with
    | none=>.no
    | some ρ1=>match b ρ1 with
      | .nx ρ2=>forD g b ds ρ2
      | .ct ρ2=>forD g b ds ρ2
      | .bk ρ2=>.nx ρ2
      | .rt d=>.rt d
      | .no=>.no
@[irreducible] noncomputable def sFor (it:Rho→Option (List D)) (g:DG) (b:DS):DS:=fun ρ=>match it ρ with
  | some ds=>forD g b ds ρ
  | none=>.no
theorem ss_for {m:Bool} {wi:TI} {t:TG} {tb:TS} {it:Rho→Option (List D)} {g:DG} {b:DS} (hw:SemW K m wi it) (hg:SemG K m t g) (hb:SemS fr K tb b):SemS fr K (tFor wi t tb) (sFor it g b):=fun {B Z os ρ σ H E} f p=>by
  unfold sFor at p
  split at p
  · rename_i ds e0
    refine hw f e0 fun J H1 s1 W=>?_
    refine ⟨fun i m σ' H'=>∃ os' ρ',m=ds.length-i∧i≤ds.length∧Fr K B Z os' ρ' σ' H'∧Kp (tot Z os) H1 (tot Z os') H'∧Post fr K B Z os H1 E (forD g b (ds.drop i) ρ'),⟨_,os,ρ,rfl,Nat.zero_le _,f.grow s1,Kp.refl,Post.kp (Kp.same s1) p⟩,?_⟩
    rintro i mm σ2 H2 ⟨os2,ρ2,rfl,hi,f2,k2,p2⟩
    by_cases hlt:i<ds.length
    · have ex:ds[i]?=some ds[i]:=List.getElem?_eq_getElem hlt
      obtain ⟨go,yl⟩:=W.go i ds[i] H2 _ k2 f2.keep f2.tin ex
      rw [List.drop_eq_getElem_cons hlt] at p2
      refine .inr ⟨go,fun σ' H'=>∃ os' ρ',Fr K B Z os' ρ' σ' H'∧Kp (tot Z os) H1 (tot Z os') H'∧Post fr K B Z os H1 E (forD g b (ds.drop (i+1)) ρ'),fun σ' H' ⟨os',ρ',h1,h2,h3⟩=>⟨_,by omega,os',ρ',rfl,hlt,h1,h2,h3⟩,fun x H3 hy=>?_⟩
      obtain ⟨s3,er⟩:=yl x H3 hy
      unfold forD at p2
      split at p2
      · exact p2.elim
      · rename_i ρ1 e1
        have er':ER K m B H3 (tot Z os2) x ds[i]:=er
        refine hg (f2.grow s3) er' e1 fun os3 σ3 f3 k3=>hb f3 ?_
        have k13:Kp (tot Z os) H1 (tot Z os3) H3:=(k2.trans (Kp.same s3)).trans k3
        split at p2
        · rename_i ρ4 e4
          rw [e4]
          exact fun os' σ' H' f' k'=>⟨os',_,f',k13.trans k',p2⟩
        · rename_i ρ4 e4
          rw [e4]
          exact fun os' σ' H' f' k'=>⟨os',_,f',k13.trans k',p2⟩
        · rename_i ρ4 e4
          rw [e4]
          exact fun os' σ' H' f' k'=>p2 os' σ' H' f' (k13.trans k')
        · rename_i d e4
          rw [e4]
          exact p2
        · exact p2.elim
    · have e:i=ds.length:=by omega
      subst e
      rw [List.drop_length] at p2
      exact .inl ⟨W.stop _ H2 _ k2 f2.keep rfl,p2 os2 σ2 H2 f2 k2⟩
  · exact p.elim
def whN (c:Rho→Option Bool) (b:DS):Nat→DS
  | 0,ρ=>match c ρ with
    | some false=>.nx ρ
    | _=>.no
  | n+1,ρ=>match c ρ with
    | some false=>.nx ρ
    | some true=>(match b ρ with
      | .nx ρ'=>whN c b n ρ'
      | .ct ρ'=>whN c b n ρ'
      | .bk ρ'=>.nx ρ'
      | .rt d=>.rt d
      | .no=>.no)
    | none=>.no
@[irreducible] noncomputable def sWhile (c:Rho→Option Bool) (b:DS):DS:=fun ρ=>if h:∃ n,whN c b n ρ≠.no then whN c b h.choose ρ else .no
theorem whN_mono {c:Rho→Option Bool} {b:DS}:∀ {n:Nat} {ρ:Rho},whN c b n ρ≠.no→whN c b (n+1) ρ=whN c b n ρ
  | 0,ρ,h=>by
    unfold whN at h ⊢
    split at h
    · rename_i e; rw [e]
    · exact absurd rfl h
  | n+1,ρ,h=>by
    have e1:whN c b (n+1+1) ρ=(match c ρ with | some false=>.nx ρ | some true=>(match b ρ with | .nx ρ'=>whN c b (n+1) ρ' | .ct ρ'=>whN c b (n+1) ρ' | .bk ρ'=>.nx ρ' | .rt d=>.rt d | .no=>.no) | none=>.no):=rfl
    have e2:whN c b (n+1) ρ=(match c ρ with | some false=>.nx ρ | some true=>(match b ρ with | .nx ρ'=>whN c b n ρ' | .ct ρ'=>whN c b n ρ' | .bk ρ'=>.nx ρ' | .rt d=>.rt d | .no=>.no) | none=>.no):=rfl
    rw [e1]
    rw [e2] at h ⊢
    cases e3:c ρ with
    | none=>rfl
    | some x =>
      rw [e3] at h
      cases x with
      | false=>rfl
      | true =>
        cases e4:b ρ with
        | nx ρ'=>rw [e4] at h; exact whN_mono h
        | ct ρ'=>rw [e4] at h; exact whN_mono h
        | _=>rfl
theorem whN_le {c:Rho→Option Bool} {b:DS} {n k:Nat} {ρ:Rho} (h:whN c b n ρ≠.no):whN c b (n+k) ρ=whN c b n ρ:=by
  induction k with
  | zero=>rfl
  | succ k ih=>rw [← Nat.add_assoc,whN_mono (by rw [ih]; exact h),ih]
theorem sWhile_of {c:Rho→Option Bool} {b:DS} {n:Nat} {ρ:Rho} {r:Res} (h:whN c b n ρ=r) (hr:r≠.no):sWhile c b ρ=r:=by
  have ex:∃ n,whN c b n ρ≠.no:=⟨n,by rw [h]; exact hr⟩
  unfold sWhile
  rw [dif_pos ex]
  have q:=ex.choose_spec
  generalize ex.choose=m at q
  have e1:=whN_le (k:=n) q
  have e2:=whN_le (k:=m) (show whN c b n ρ≠.no by rw [h]; exact hr)
  rw [Nat.add_comm] at e2
  rw [← e1,e2,h]
theorem ss_while {tc:TT} {tb:TS} {c:Rho→Option Bool} {b:DS} (hc:SemT K tc c) (hb:SemS fr K tb b):SemS fr K (tWhile tc tb) (sWhile c b):=fun {B Z os ρ σ H E} f p=>by
  unfold sWhile at p
  by_cases ex:∃ n,whN c b n ρ≠.no
  · rw [dif_pos ex] at p
    generalize ex.choose=n0 at p
    refine ⟨fun m σ' H'=>∃ os' ρ',Fr K B Z os' ρ' σ' H'∧Kp (tot Z os) H (tot Z os') H'∧Post fr K B Z os H E (whN c b m ρ'),⟨n0,os,ρ,f,Kp.refl,p⟩,?_⟩
    rintro m σ2 H2 ⟨os2,ρ2,f2,k2,p2⟩
    cases m with
    | zero =>
      unfold whN at p2
      split at p2
      · rename_i e
        exact hc f2 e fun H3 s3=>iteF (p2 os2 σ2 H3 (f2.grow s3) (k2.trans (Kp.same s3)))
      · exact p2.elim
    | succ m =>
      have p2:Post fr K B Z os H E (match c ρ2 with | some false=>.nx ρ2 | some true=>(match b ρ2 with | .nx ρ'=>whN c b m ρ' | .ct ρ'=>whN c b m ρ' | .bk ρ'=>.nx ρ' | .rt d=>.rt d | .no=>.no) | none=>.no):=p2
      cases e:c ρ2 with
      | none=>rw [e] at p2; exact p2.elim
      | some x =>
        rw [e] at p2
        cases x with
        | false=>exact hc f2 e fun H3 s3=>iteF (p2 os2 σ2 H3 (f2.grow s3) (k2.trans (Kp.same s3)))
        | true =>
          refine hc f2 e fun H3 s3=>iteT ⟨fun σ' H'=>∃ os' ρ',Fr K B Z os' ρ' σ' H'∧Kp (tot Z os) H (tot Z os') H'∧Post fr K B Z os H E (whN c b m ρ'),fun σ' H' h=>⟨m,Nat.lt_succ_self _,h⟩,hb (f2.grow s3) ?_⟩
          have k3:=k2.trans (Kp.same s3)
          cases e4:b ρ2 with
          | nx ρ'=>rw [e4] at p2; exact fun os' σ' H' f' k'=>⟨os',_,f',k3.trans k',p2⟩
          | ct ρ'=>rw [e4] at p2; exact fun os' σ' H' f' k'=>⟨os',_,f',k3.trans k',p2⟩
          | bk ρ'=>rw [e4] at p2; exact fun os' σ' H' f' k'=>p2 os' σ' H' f' (k3.trans k')
          | rt d=>rw [e4] at p2; exact p2
          | no=>rw [e4] at p2; exact p2.elim
  · rw [dif_neg ex] at p; exact p.elim
def stD (n:Nat) (ms:List Bool) (ds:List D):Rho:=List.zipWith slm ms ds++List.replicate (n-ds.length) .un
@[irreducible] def runD (n:Nat) (ms:List Bool) (b:DS) (ds:List D):Option D:=match b (stD n ms ds) with
  | .rt d=>some d
  | .nx _=>some .non
  | _=>none
@[irreducible] def runF (n:Nat) (ms:List Bool) (b:DS) (ds:List D):Option D:=match b (stD n ms ds) with
  | .rt d=>some d
  | _=>none
theorem startFr {H:Hp} {Z:Addr→Prop} {N:List Str} {ms:List Bool} {vs:List V} {ds:List D} (hz:ZT Z H) (h:Args K H Z ms vs ds):Fr K H Z (fun _=>[]) (stD N.length ms ds) (L2.start N vs) H where
  keep:=Same.refl _
  zin:=hz.1
  tab:=hz.2
  len:=by
    unfold stD L2.start
    have:=h.len
    simp only [List.length_append,List.length_map,List.length_replicate,List.length_zipWith]
    omega
  nd:=fun _=>List.nodup_nil
  dj:=fun _ _ _ h=>by cases h
  new:=fun _ _ h=>by cases h
  sl:=fun j=>by
    have hl:=h.len
    have key:∀ {ms:List Bool} {vs:List V} {ds:List D} (j:Nat),Args K H Z ms vs ds→j<ms.length→SlOk K H H (tot Z fun _=>[]) [] (((List.zipWith slm ms ds)[j]?).getD .un) ((vs.map some)[j]?.join):=by
      intro ms vs ds j h
      induction h generalizing j with
      | nil=>intro hj; simp at hj
      | own i _ ih =>
        intro hj
        cases j with
        | zero=>exact ⟨rfl,_,rfl,i.kp (Kp.less fun a z=>z.elim id fun ⟨_,w⟩=>by cases w)⟩
        | succ j=>exact ih j (by simpa using hj)
      | any i _ ih =>
        intro hj
        cases j with
        | zero=>exact ⟨rfl,_,rfl,i⟩
        | succ j=>exact ih j (by simpa using hj)
    unfold stD L2.start
    rw [List.getD_eq_getElem?_getD]
    by_cases hj:j<ms.length
    · rw [List.getElem?_append_left (by rw [List.length_zipWith]; omega),List.getElem?_append_left (by rw [List.length_map]; omega)]
      exact key j h hj
    · rw [List.getElem?_append_right (by rw [List.length_zipWith]; omega),List.getElem?_replicate]
      split <;> exact rfl
theorem Fun.okD {P:Program} {w:World} {mg:Str→Option Value} {base:Heap} {x qual:Str} {st:Stmt} {f:Addr} {fd:FuncData} {N ps:List Str} {k:Nat} (F:Fun K x qual st f fd) (S:FnScope N ps (defScope st)) (ms:List Bool) (hms:ms.length=ps.length) (b:DS)
    (hbody:∀ (cdv:Value) (A:Around) (outer:List Env) (s:Shared) (H:Hp) (E:XK),Room k (A.deeper (PyProof.Rows.envOfC qual (defScope st) s.heap.objs.size f cdv)) →
      ∃ t,PSs (cxOf CX0 P w K mg base N qual (defScope st) f cdv A outer s H E).nox (defBody st) t∧SemS .v K t b):FnOk P w K mg base CX0 (k+1) f fd ps (spD .v K ms (runD N.length ms b)):=by
  refine F.ok S (fun vs H Q E h=>?_) (fun cdv A outer s H vs Q E hr h=>?_)
  · obtain ⟨Z,ds,d,hz,a,_⟩:=h
    rw [a.len.1,hms]
  · obtain ⟨Z,ds,d,hz,a,e,k⟩:=h
    obtain ⟨t,h1,h2⟩:=hbody cdv A outer s H E hr
    refine ⟨t,h1,h2 (startFr hz a) ?_⟩
    unfold runD at e
    split at e
    · rename_i d' e1
      cases e
      rw [e1]
      exact fun v H' s' i=>k v H' s' i
    · rename_i ρ e1
      cases e
      rw [e1]
      exact fun os' σ' H' f' _=>k _ H' f'.keep .non
    · cases e
theorem Fun.okF {P:Program} {w:World} {mg:Str→Option Value} {base:Heap} {x qual:Str} {st:Stmt} {f:Addr} {fd:FuncData} {N ps:List Str} {k:Nat} (F:Fun K x qual st f fd) (S:FnScope N ps (defScope st)) (ms:List Bool) (hms:ms.length=ps.length) (b:DS)
    (hbody:∀ (cdv:Value) (A:Around) (outer:List Env) (s:Shared) (H:Hp) (E:XK),Room k (A.deeper (PyProof.Rows.envOfC qual (defScope st) s.heap.objs.size f cdv)) →
      ∃ t,PSs (cxOf CX0 P w K mg base N qual (defScope st) f cdv A outer s H E).nox (defBody st) t∧SemS fr K t b) (hfr:∀ E C,fr≠.x E C:=by intro _ _ h; cases h):FnOk P w K mg base CX0 (k+1) f fd ps (spD fr K ms (runF N.length ms b)):=by
  refine F.ok S (fun vs H Q E h=>?_) (fun cdv A outer s H vs Q E hr h=>?_)
  · obtain ⟨Z,ds,d,hz,a,_⟩:=h
    rw [a.len.1,hms]
  · obtain ⟨Z,ds,d,hz,a,e,k⟩:=h
    obtain ⟨t,h1,h2⟩:=hbody cdv A outer s H E hr
    refine ⟨t,h1,h2 (startFr hz a) ?_⟩
    unfold runF at e
    split at e
    · rename_i d' e1
      cases e
      rw [e1]
      cases fr with
      | v=>exact fun v H' s' i=>k v H' s' i
      | l=>exact fun v H' s' i=>k v H' s' i
      | m=>exact fun v H' s' i=>k v H' s' i
      | x E0 C=>exact absurd rfl (hfr E0 C)
    · cases e
end
end VL
namespace L2
open PySem PySem.Spec PyProof.Rows
open VL (s0)
section
variable {X:Cx}
inductive SubL (X:Cx):List (Str×Addr)→Prop
  | nil:SubL X []
  | cons {z:Str} {c:Addr} {r:List (Str×Addr)}:X.env.cells.lookup z=some c→SubL X r→SubL X ((z,c)::r)
theorem SubL.sub {cl:List (Str×Addr)} (h:SubL X cl):∀ x c,cl.lookup x=some c→X.env.cells.lookup x=some c:=by
  induction h with
  | nil=>intro x c e; cases e
  | @cons z c r h _ ih =>
    intro x c' e
    rw [List.lookup_cons] at e
    cases q:x==z with
    | true=>rw [q] at e; cases e; rw [eq_of_beq q]; exact h
    | false=>rw [q] at e; exact ih x c' e
inductive CapL (X:Cx) (scope:Scope) (cl:List (Str×Addr)):List Nat→List Str→Prop
  | nil:CapL X scope cl [] []
  | cons {i:Nat} {z:Str} {c:Addr} {is:List Nat} {zs:List Str}:X.N[i]?=some z→(X.env.scope.names.lookup z=some .cell∨X.env.scope.names.lookup z=some .free)→cl.lookup z=some c →
      ((relabel scope X.env).names.lookup z=some .cell∨(relabel scope X.env).names.lookup z=some .free)→CapL X scope cl is zs→CapL X scope cl (i::is) (z::zs)
theorem CapL.get {scope:Scope} {cl:List (Str×Addr)} {is:List Nat} {zs:List Str} (h:CapL X scope cl is zs):∀ (j:Nat) (z:Str),zs[j]?=some z→∃ i c,is[j]?=some i∧X.N[i]?=some z∧(X.env.scope.names.lookup z=some .cell∨X.env.scope.names.lookup z=some .free)∧cl.lookup z=some c ∧
      ((relabel scope X.env).names.lookup z=some .cell∨(relabel scope X.env).names.lookup z=some .free):=by
  induction h with
  | nil=>intro j z e; simp at e
  | cons h1 h2 h3 h4 _ ih =>
    intro j z e
    cases j with
    | zero=>cases e; exact ⟨_,_,rfl,h1,h2,h3,h4⟩
    | succ j=>exact ih j z (by simpa using e)
theorem CapL.len {scope:Scope} {cl:List (Str×Addr)} {is:List Nat} {zs:List Str} (h:CapL X scope cl is zs):is.length=zs.length:=by
  induction h with
  | nil=>rfl
  | cons _ _ _ _ _ ih=>simp [ih]
theorem Frees.many {scope:Scope} {cl:List (Str×Addr)} {is:List Nat} {ts zs:List Str} {k:Nat} {σ:St} (hk:ts.length=k) (hs:SubL X cl) (hc:CapL X scope cl is zs)
    (ha:((relabel scope X.env).names.all fun y=>!(y.2==.cell || y.2==.free) || zs.contains y.1)=true):Frees X (ts++zs) scope cl σ (s0 k is σ) where
  sub:=hs.sub
  vals:=fun j x v e1 e2=>by
    unfold s0 at e2
    by_cases hj:j<k
    · rw [List.getElem?_append_left (by simpa using hj),List.getElem?_replicate,if_pos hj] at e2; cases e2
    · rw [List.getElem?_append_right (by simpa using hj),List.length_replicate,List.getElem?_map] at e2
      rw [List.getElem?_append_right (by omega),hk] at e1
      obtain ⟨i,c,f1,f2,f3,f4,f5⟩:=hc.get _ _ e1
      rw [f1] at e2
      have e3:(σ[i]?).join=some v:=Option.some.inj e2
      refine ⟨i,c,f2,VL.join_some e3,?_,?_,f4,f5⟩
      · rcases f3 with q | q
        · exact .inr (.inl q)
        · exact .inr (.inr q)
      · intro w
        have w:X.env.scope.names.lookup x=some .local:=w
        rcases f3 with q | q <;> rw [q] at w <;> cases w
  has:=fun x h=>by
    have key:∀ kd,(relabel scope X.env).names.lookup x=some kd→(kd==NameKind.cell || kd==NameKind.free)=true→x∈zs:=fun kd e q=>by
      have m:=List.all_eq_true.mp ha _ (PySem.mem_of_lookup e)
      rw [q] at m
      have:zs.contains x=true:=by simpa using m
      exact List.contains_iff_mem.mp this
    have mem:x∈zs:=by
      rcases h with h | h
      · exact key _ h rfl
      · exact key _ h rfl
    obtain ⟨j,hj⟩:=List.getElem?_of_mem mem
    obtain ⟨i,c,_,_,_,f4,_⟩:=hc.get j x hj
    exact ⟨c,f4⟩
  len:=by unfold s0; rw [List.length_append,List.length_append,List.length_replicate,List.length_map,hk,hc.len]
def Low (k:Nat) (g:TG):Prop:=∀ x σ H (Q:St→Hp→Prop),g x σ H Q→∃ σ2 H2,Q σ2 H2∧σ2.length=σ.length∧(∀ j,k≤j→σ2[j]?=σ[j]?)∧∀ Q':St→Hp→Prop,Q' σ2 H2→g x σ H Q'
def Lows (k:Nat) (g:TGs):Prop:=∀ x σ H (Q:St→Hp→Prop),g x σ H Q→∃ σ2 H2,Q σ2 H2∧σ2.length=σ.length∧(∀ j,k≤j→σ2[j]?=σ[j]?)∧∀ Q':St→Hp→Prop,Q' σ2 H2→g x σ H Q'
theorem low_name {k i:Nat} (h:i<k):Low k (gName i):=fun x σ H Q q=>⟨_,_,q,List.length_set,fun j hj=>by rw [List.getElem?_set_ne (by omega)],fun _ z=>z⟩
theorem lows_nil {k:Nat}:Lows k gNil:=fun x σ H Q q=>⟨_,_,q.2,rfl,fun _ _=>rfl,fun _ z=>⟨q.1,z⟩⟩
theorem lows_cons {t:TG} {u:TGs} {k:Nat} (h1:Low k t) (h2:Lows k u):Lows k (gCons t u):=fun x σ H Q q=>by
  obtain ⟨v,r,e,q⟩:=q
  obtain ⟨σ1,H1,q1,l1,k1,g1⟩:=h1 _ _ _ _ q
  obtain ⟨σ2,H2,q2,l2,k2,g2⟩:=h2 _ _ _ _ q1
  exact ⟨σ2,H2,q2,l2.trans l1,fun j hj=>(k2 j hj).trans (k1 j hj),fun Q' z=>⟨v,r,e,g1 _ (g2 Q' z)⟩⟩
theorem low_seq {K:PySem.W.Frag} {u:TGs} {k n:Nat} (h:Lows k u):Low k (gSeq K n u):=fun x σ H Q q=>by
  rcases q with ⟨a,xs,e,hs,hl,q⟩ | ⟨a,xs,e,hs,hl,q⟩
  · obtain ⟨σ1,H1,q1,l1,k1,g1⟩:=h _ _ _ _ q
    exact ⟨σ1,H1,q1,l1,k1,fun Q' z=>.inl ⟨a,xs,e,hs,hl,g1 Q' z⟩⟩
  · obtain ⟨σ1,H1,q1,l1,k1,g1⟩:=h _ _ _ _ q
    exact ⟨σ1,H1,q1,l1,k1,fun Q' z=>.inr ⟨a,xs,e,hs,hl,g1 Q' z⟩⟩
theorem Low.keep {k:Nat} {g:TG} {cs:List Nat} (h:Low k g) (σ:St):Keepg g (s0 k cs σ):=fun x H Q q=>by
  obtain ⟨σ1,H1,q1,l1,k1,g1⟩:=h _ _ _ _ q
  refine g1 _ ⟨q1,l1,fun j v e=>?_⟩
  by_cases hj:j<k
  · unfold s0 at e
    rw [List.getElem?_append_left (by simpa using hj),List.getElem?_replicate,if_pos hj] at e; cases e
  · rw [k1 j (by omega)]; exact e
theorem pgb {N':List Str} {scope:Scope} {cl:List (Str×Addr)} {i:Nat} {y:Str} {py:Pos} (nd:N'.Nodup) (hi:N'[i]?=some y) (hx:scope.names.lookup y=some .local) {C:Addr} {s3:Shared} {H3:Hp} {fp:List Addr} {pins:List (Addr×Obj)} :
    PG (compCx X N' scope cl C s3 H3 fp pins) (.Name y py) (gName i):=pg_name nd hi (.inl (lookup_relabel_local hx)) (.inr (lookup_relabel_local hx))
variable {tg elt iter c:Expr} {scope:Scope} {cl:List (Str×Addr)} {ts zs:List Str} {is:List Nat} {k:Nat} {g:TG} {tt:TT} {te:TE} {wi:TI} {pos:Pos}
theorem pe_cN0 (hc:X.calm=true) (hi:PI X tg iter wi) (hk:ts.length=k) (hs:SubL X cl) (hcp:CapL X scope cl is zs) (ha:((relabel scope X.env).names.all fun y=>!(y.2==.cell || y.2==.free) || zs.contains y.1)=true) (hl:Low k g)
    (hg:∀ C s3 H3 fp pins,PG (compCx X (ts++zs) scope cl C s3 H3 fp pins) tg g) (he:∀ C s3 H3 fp pins,PE (compCx X (ts++zs) scope cl C s3 H3 fp pins) elt te)
    (hclos:closureFor scope X.env=pure cl) (hcell:∀ y∈scope.names,y.2≠.cell) (hkind:scope.kind=.function) (hnames:∀ y∈scope.names,y.2=.local→scope.names.lookup y.1=some .local)
    (hf:∀ x,foldedSetIterable iter X.env x=pure x:=by intro _; rfl):PE X (.ListComp elt [⟨tg,iter,[],0⟩] scope pos) (tComp wi g tTrue te (s0 k is)) :=
  pe_compG hc hi (fun _ _=>Frees.many hk hs hcp ha) (fun σ=>hl.keep σ) hg tests0 he hclos hcell hkind hnames hf
theorem pe_cN1 (hc:X.calm=true) (hi:PI X tg iter wi) (hk:ts.length=k) (hs:SubL X cl) (hcp:CapL X scope cl is zs) (ha:((relabel scope X.env).names.all fun y=>!(y.2==.cell || y.2==.free) || zs.contains y.1)=true) (hl:Low k g)
    (hg:∀ C s3 H3 fp pins,PG (compCx X (ts++zs) scope cl C s3 H3 fp pins) tg g) (ht:∀ C s3 H3 fp pins,PT (compCx X (ts++zs) scope cl C s3 H3 fp pins) c tt) (he:∀ C s3 H3 fp pins,PE (compCx X (ts++zs) scope cl C s3 H3 fp pins) elt te)
    (hclos:closureFor scope X.env=pure cl) (hcell:∀ y∈scope.names,y.2≠.cell) (hkind:scope.kind=.function) (hnames:∀ y∈scope.names,y.2=.local→scope.names.lookup y.1=some .local)
    (hf:∀ x,foldedSetIterable iter X.env x=pure x:=by intro _; rfl):PE X (.ListComp elt [⟨tg,iter,[c],0⟩] scope pos) (tComp wi g tt te (s0 k is)) :=
  pe_compG hc hi (fun _ _=>Frees.many hk hs hcp ha) (fun σ=>hl.keep σ) hg (tests1 ht) he hclos hcell hkind hnames hf
theorem ps_cN0 {i:Nat} {x:Str} {pos' spos:Pos} (hN:X.N.Nodup) (hi':X.N[i]?=some x) (hxl:X.env.scope.names.lookup x=some .local) (hc:X.calm=true) (hi:PI X tg iter wi) (hk:ts.length=k) (hs:SubL X cl) (hcp:CapL X scope cl is zs) (ha:((relabel scope X.env).names.all fun y=>!(y.2==.cell || y.2==.free) || zs.contains y.1)=true) (hl:Low k g)
    (hg:∀ C s3 H3 fp pins,PG (compCx X (ts++zs) scope cl C s3 H3 fp pins) tg g) (he:∀ C s3 H3 fp pins,PE (compCx X (ts++zs) scope cl C s3 H3 fp pins) elt te)
    (hclos:closureFor scope X.env=pure cl) (hcell:∀ y∈scope.names,y.2≠.cell) (hkind:scope.kind=.function) (hnames:∀ y∈scope.names,y.2=.local→scope.names.lookup y.1=some .local)
    (hf:∀ x,foldedSetIterable iter X.env x=pure x:=by intro _; rfl) (hsw:swapsWith (.ListComp elt [⟨tg,iter,[],0⟩] scope pos) (some (.Name x pos')) spos.line X.env=pure true:=by rfl):PS X (.Assign [.Name x pos'] (.ListComp elt [⟨tg,iter,[],0⟩] scope pos) spos) (tSetC (tComp wi g tTrue te (s0 k is)) i) :=
 ps_setCG hN hi' (.inl hxl) (.inr hxl) hc hi (fun _ _=>Frees.many hk hs hcp ha) (fun σ=>hl.keep σ) hg tests0 he hclos hcell hkind hnames hf hsw
theorem ps_cN1 {i:Nat} {x:Str} {pos' spos:Pos} (hN:X.N.Nodup) (hi':X.N[i]?=some x) (hxl:X.env.scope.names.lookup x=some .local) (hc:X.calm=true) (hi:PI X tg iter wi) (hk:ts.length=k) (hs:SubL X cl) (hcp:CapL X scope cl is zs) (ha:((relabel scope X.env).names.all fun y=>!(y.2==.cell || y.2==.free) || zs.contains y.1)=true) (hl:Low k g)
    (hg:∀ C s3 H3 fp pins,PG (compCx X (ts++zs) scope cl C s3 H3 fp pins) tg g) (ht:∀ C s3 H3 fp pins,PT (compCx X (ts++zs) scope cl C s3 H3 fp pins) c tt) (he:∀ C s3 H3 fp pins,PE (compCx X (ts++zs) scope cl C s3 H3 fp pins) elt te)
    (hclos:closureFor scope X.env=pure cl) (hcell:∀ y∈scope.names,y.2≠.cell) (hkind:scope.kind=.function) (hnames:∀ y∈scope.names,y.2=.local→scope.names.lookup y.1=some .local)
    (hf:∀ x,foldedSetIterable iter X.env x=pure x:=by intro _; rfl) (hsw:swapsWith (.ListComp elt [⟨tg,iter,[c],0⟩] scope pos) (some (.Name x pos')) spos.line X.env=pure true:=by rfl):PS X (.Assign [.Name x pos'] (.ListComp elt [⟨tg,iter,[c],0⟩] scope pos) spos) (tSetC (tComp wi g tt te (s0 k is)) i) :=
 ps_setCG hN hi' (.inl hxl) (.inr hxl) hc hi (fun _ _=>Frees.many hk hs hcp ha) (fun σ=>hl.keep σ) hg (tests1 ht) he hclos hcell hkind hnames hf hsw
theorem pi_listK {K:PySem.W.Frag} {l:Expr} {tl:TE} (h:X.K=K) (hl:PE X l tl):PI X tg l (iList K tl):=by subst h; exact pi_list hl
end
end L2
namespace VL
open PySem L2
def sp_law [Tabs] (K:PySem.W.Frag):Sp:=fun vs H Q _=>∃ (a:Addr) (ns:List Int),vs=[.ref a]∧SqL K H a (ns.map V.int)∧ns.length≤63∧(∀ m∈ns,Builtin.Int.intBits m≤1048576)∧TabIn H∧∀ H',Q (.bl true) H'
theorem sp_law_of [Tabs] {K:PySem.W.Frag} {F:List D→Option D} (ht:∀ ns:List Int,ns.length≤63→(∀ m∈ns,Builtin.Int.intBits m≤1048576)→F [.scr ns]=some (.bl true)) {vs:List V} {H:Hp} {Q:VK} {E:XK} (h:sp_law K vs H Q E):spD .v K [false] F vs H Q E:=by
  obtain ⟨a,ns,rfl,hS,hl,hb,htab,k⟩:=h
  have hz:ns.length≤sizeLine:=Nat.le_trans hl (by decide)
  refine ⟨No,[.scr ns],.bl true,⟨fun a z=>z.elim,htab⟩,.any ?_ .nil,ht ns hl hb,fun v H' s i=>by cases i; exact k H'⟩
  rcases hS with hS | hS
  · exact .scr (fun z=>z) hS hz
  · exact .scrK hS hz
end VL
namespace L2
open PySem PySem.Spec PyProof.Rows
section
variable {X:Cx} {K:PySem.W.Frag}
theorem bt_zip:bootBuiltins "zip" = some (.type "zip"):=by decide +kernel
theorem bt_reversed:bootBuiltins "reversed" = some (.type "reversed"):=by decide +kernel
def truV:V→Option Bool
  | .bl b=>some b
  | .int i=>some (i != 0)
  | _=>none
theorem kept_it {s:Shared} {h':Heap} {o:Obj} (hk:∀ b x,b∉[s.heap.objs.size]→(s.heap.push o).get? b=some x→h'.get? b=some x):∀ b x,s.heap.get? b=some x→h'.get? b=some x :=
  fun b x e=>hk b x (fun hm=>by rw [List.mem_singleton.mp hm] at e; exact Nat.lt_irrefl _ (Heap.lt_size e)) (Heap.get?_push_of_some _ e)
theorem rall (bs:List Bool):((List.range bs.length).all fun i=>(bs[i]?).getD true)=bs.all id:=by
  rw [Bool.eq_iff_iff,List.all_eq_true,List.all_eq_true]
  constructor
  · intro h x hx
    obtain ⟨i,hi⟩:=List.getElem?_of_mem hx
    have:=h i (List.mem_range.mpr (List.getElem?_eq_some_iff.mp hi).1)
    rw [hi] at this
    exact this
  · intro h i hi
    have:=List.mem_range.mp hi
    rw [List.getElem?_eq_getElem this]
    exact h _ (List.getElem_mem this)
def rAA (K:PySem.W.Frag) (f:List Bool→Bool):List V→Hp→VK→Prop:=fun xs H Q=>∃ (p:Addr) (vs:List V) (bs:List Bool),xs=[.ref p]∧SqL K H p vs∧vs.map truV=bs.map some∧Q (.bl (f bs)) H
theorem tru_at {vs:List V} {us:List Value} {bs:List Bool} (r:Vals vs us) (h:vs.map truV=bs.map some) {i:Nat} {u:Value} (e:us[i]?=some u):∃ b,bs[i]?=some b∧∀ {prog:Program} {w:World} {A:Around} {s':Shared} {Q:Bool→Shared→Prop} {E:Value→Shared→Prop},Q b s'→wpAny (model prog w) A (truthy u) Q E s':=by
  have hi:i<vs.length:=by rw [r.length]; exact (List.getElem?_eq_some_iff.mp e).1
  have e1:vs[i]?=some vs[i]:=List.getElem?_eq_getElem hi
  obtain ⟨u',e2,ru⟩:=r.get e1
  rw [e] at e2
  cases e2
  have e3:(bs.map some)[i]?=some (truV vs[i]):=by rw [← h,List.getElem?_map,e1]; rfl
  rw [List.getElem?_map] at e3
  cases e4:bs[i]? with
  | none=>rw [e4] at e3; cases e3
  | some b =>
    rw [e4] at e3
    have e5:some b=truV vs[i]:=Option.some.inj e3
    refine ⟨b,rfl,fun {prog w A s' Q E} q=>?_⟩
    cases e6:vs[i] with
    | bl c =>
      rw [e6] at e5 ru
      cases e5
      cases ru
      exact wpAny_truthy_bool q
    | int n =>
      rw [e6] at e5 ru
      have e5:some b=some (n != 0):=e5
      cases e5
      obtain ⟨t,rfl⟩:=ru
      exact PySem.P.truthy_int q
    | _=>rw [e6] at e5; cases e5
theorem call_allK (hc:X.calm=true) (hK:X.K=K):CallR X (.builtin "all") (rAA K fun bs=>bs.all id):=by
  subst hK
  intro pins s σ H xs us Q I r h
  obtain ⟨p,vs,bs,rfl,hq,hb,q⟩:=h
  obtain ⟨u,rfl,rx⟩:=vals1 r
  cases rx
  obtain ⟨its,r',pl,hz⟩:=I.list hq
  have hl:=pl.isList
  have hlt:p<s.heap.objs.size:=by obtain ⟨_,e,_⟩:=hl; exact Heap.lt_size e
  refine call_all_walk (wpAny_pyIter_list hl ?_)
  refine ⟨s.heap.objs.size,[s.heap.objs.size,p],[s.heap.objs.size],its.toArray.size,_,_,fun i=>(bs[i]?).getD true,rfl,Walks.list (A:=X.A.in1) (I.ok.hd hc) _ p (Nat.ne_of_lt hlt) its.toArray,
    ⟨⟨_,Heap.get?_push_size _ rfl,rfl,rfl⟩,hl.push _⟩,fun i v s' Q' E' hP hQ=>?_,fun h' tk hk=>?_⟩
  · obtain ⟨b,e,k⟩:=tru_at r' hb (i:=i) (u:=v) (by simpa using hP)
    simp only [e,Option.getD_some] at hQ
    exact k hQ
  · have e:((List.range its.toArray.size).all fun i=>(bs[i]?).getD true)=bs.all id:=by
      have:its.length=bs.length:=by
        have:=congrArg List.length hb
        rw [List.length_map,List.length_map] at this
        rw [← r'.length]; exact this
      rw [List.size_toArray,this]; exact rall bs
    rw [e]
    exact ⟨.bl _,H,I.kept (t':=tk) (kept_it hk),rfl,q⟩
theorem call_min1K (hc:X.calm=true) (hK:X.K=K):CallR X (.builtin "min") (fun xs H Q=>∃ (p:Addr) (ns:List Int),xs=[.ref p]∧SqL K H p (ns.map V.int)∧ns≠[]∧∀ M,M∈ns→(∀ a,a∈ns→M≤a)→Q (.int M) H):=by
  subst hK
  intro pins s σ H xs us Q I r h
  obtain ⟨p,ns,rfl,hq,hne,q⟩:=h
  obtain ⟨u,rfl,rx⟩:=vals1 r
  cases rx
  obtain ⟨its,r',pl,hz⟩:=I.list hq
  have hi:=intsAre_of r'
  obtain ⟨ys,e⟩:=hi.allInts.items
  have hns:ns=ys.toList.map (·.1):=by
    rw [← hi.numsOf,← nums_intItems,← e]
  have hsz:0<ys.size:=by
    have h3:=List.length_pos_iff.mpr hne
    rw [hns,List.length_map,Array.length_toList] at h3
    exact h3
  have hl:=pl.isList
  rw [e] at hl
  refine min_intList (I.ok.hd hc) hl hsz fun v h' tk hv hk=>?_
  obtain ⟨t,rfl⟩:=intItems_at hv
  obtain ⟨h1,h2⟩:=argBest_lt (numAt ys) (ys.size-1)
  refine ⟨.int _,H,I.kept hk,⟨t,rfl⟩,q _ ?_ fun a ha=>?_⟩
  · rw [hns,numAt_eq]; exact PySem.getD_mem (by rw [List.length_map,Array.length_toList]; omega)
  · rw [hns] at ha
    obtain ⟨j,hj,rfl⟩:=mem_getD ha
    rw [List.length_map,Array.length_toList] at hj
    rw [← numAt_eq]; exact h2 j (by omega)
end
end L2
namespace VL
open PySem L2
open Classical
noncomputable section
section
variable [Tabs] {K:PySem.W.Frag} {ta tb tc:TE} {a b c:DE}
def trus:List D→Option (List Bool)
  | []=>some []
  | .bl b::r=>(trus r).map (b::·)
  | .int i::r=>(trus r).map ((i != 0)::·)
  | _=>none
theorem trus_is {H:Hp} {Z:Addr→Prop}:∀ {vs:List V} {ds:List D} {bs:List Bool},IsL K H Z vs ds→trus ds=some bs→vs.map truV=bs.map some
  | _,[],_,.nil,e=>by cases e; rfl
  | _,d::r,bs,.cons h t,e=>by
    unfold trus at e
    split at e
    · rename_i q; cases q
    · rename_i b r' q
      cases q
      cases q:trus r with
      | none=>rw [q] at e; cases e
      | some cs=>rw [q] at e; cases e; rw [List.map_cons,List.map_cons,trus_is t q,h.v_bl]; rfl
    · rename_i b r' q
      cases q
      cases q:trus r with
      | none=>rw [q] at e; cases e
      | some cs=>rw [q] at e; cases e; rw [List.map_cons,List.map_cons,trus_is t q,h.v_int]; rfl
    · cases e
theorem trus_bl:∀ (bs:List Bool),trus (bs.map D.bl)=some bs
  | []=>rfl
  | b::r=>by show (trus (r.map D.bl)).map (b::·)=_; rw [trus_bl r]; rfl
def aaD (g:List Bool→Bool):D→Option D
  | .lst ds=>(trus ds).map fun bs=>.bl (g bs)
  | _=>none
theorem si_aa {g:List Bool→Bool} (ha:SemB K ta a):SemI K (tCB (rAA K g) (tCons ta tNil)) (dF1 (aaD g) a):=by
  refine si_f1 (fun {H v d e Q} h q=>?_) ha
  cases h with
  | lst hz h hl r =>
    rename_i p vs ds
    have q:(trus ds).map (fun bs=>D.bl (g bs))=some e:=q
    cases q1:trus ds with
    | none=>rw [q1] at q; cases q
    | some bs =>
      rw [q1] at q
      cases q
      exact ⟨rfl,fun k=>⟨p,vs,bs,rfl,.inl h,trus_is r q1,k⟩⟩
  | _=>cases q
def allD:D→Option D:=aaD fun bs=>bs.all id
theorem si_all (ha:SemB K ta a):SemI K (tCB (rAA K fun bs=>bs.all id) (tCons ta tNil)) (dF1 allD a):=si_aa ha
def minD:D→Option D:=ofInts fun ns=>match ns with
  | []=>none
  | x::r=>some (.int (minL x r))
theorem si_min (ha:SemB K ta a):SemI K (tCB (fun xs H Q=>∃ (p:Addr) (ns:List Int),xs=[.ref p]∧SqL K H p (ns.map V.int)∧ns≠[]∧∀ M,M∈ns→(∀ a,a∈ns→M≤a)→Q (.int M) H) (tCons ta tNil)) (dF1 minD a):=by
  refine si_f1 (fun h q=>?_) ha
  obtain ⟨ns,rfl,e⟩:=ofInts_some q
  obtain ⟨p,rfl,r⟩:=h.ints
  cases ns with
  | nil=>cases e
  | cons x t =>
    cases e
    refine ⟨rfl,fun k=>⟨p,x::t,rfl,.inl r,by simp,fun M h1 h2=>?_⟩⟩
    rw [min_uniq h1 h2 (minL_spec t x).1 (minL_spec t x).2]
    exact k
end
end
end VL
namespace VL
open PySem L2
open Classical
noncomputable section
instance (priority:=low) noTabs:Tabs:=⟨[]⟩
structure Wk where
  nx:Rho→Prop
  rt:D→Prop
  bk:Rho→Prop:=fun _=>False
  ct:Rho→Prop:=fun _=>False
@[irreducible] def Wp (s:DS) (ρ:Rho) (W:Wk):Prop:=match s ρ with
  | .nx ρ'=>W.nx ρ'
  | .rt d=>W.rt d
  | .bk ρ'=>W.bk ρ'
  | .ct ρ'=>W.ct ρ'
  | .no=>False
section
variable {s u b:DS} {ρ:Rho} {W:Wk} {i:Nat} {a e k:DE} {d:D} {c:Rho→Option Bool} {es:Rho→Option (List D)} {ds:List D} {g:DG}
theorem wp_seq (h:Wp s ρ { W with nx:=fun ρ'=>Wp u ρ' W }):Wp (sSeq s u) ρ W:=by
  unfold Wp sSeq at *
  cases e:s ρ <;> rw [e] at h <;> exact h
theorem wp_pass (h:W.nx ρ):Wp sPass ρ W:=by unfold Wp sPass; exact h
theorem wp_ret (h:a ρ=some d) (k:W.rt d):Wp (sRet a) ρ W:=by unfold Wp sRet; rw [h]; exact k
theorem wp_if {x:Bool} (h:c ρ=some x) (ht:x=true→Wp s ρ W) (hf:x=false→Wp u ρ W):Wp (sIf c s u) ρ W:=by
  unfold Wp sIf at *
  rw [h]
  cases x
  · exact hf rfl
  · exact ht rfl
theorem wp_ifp {p:Prop} {_:Decidable p} (h:c ρ=some (decide p)) (ht:p→Wp s ρ W) (hf:¬ p→Wp u ρ W):Wp (sIf c s u) ρ W:=by
  refine wp_if h (fun q=>ht (of_decide_eq_true q)) fun q=>hf (of_decide_eq_false q)
theorem wp_ifF (h:c ρ=some false) (ht:Wp u ρ W):Wp (sIf c s u) ρ W:=wp_if h (fun q=>by cases q) fun _=>ht
theorem wp_set (h:a ρ=some d) (k:W.nx (ρ.set i (.pu d))):Wp (sSet i a) ρ W:=by unfold Wp sSet; rw [h]; exact k
theorem wp_setO (h:es ρ=some ds) (hi:i < ρ.length) (k:W.nx (ρ.set i (.ol ds))):Wp (sSetO i es) ρ W:=by unfold Wp sSetO; rw [h]; simp only [if_pos hi]; exact k
theorem wp_un {ρ':Rho} (h:a ρ=some d) (hg:g d ρ=some ρ') (k:W.nx ρ'):Wp (sUn a g) ρ W:=by unfold Wp sUn; rw [h]; simp only [hg]; exact k
theorem wp_frz (h:Wp s (frz i ρ) W):Wp (sFrz i s) ρ W:=by unfold Wp sFrz at *; exact h
theorem wp_app (h0:ρ.getD i .un=.ol ds) (h:a ρ=some d) (hl:ds.length<sizeLine) (k:W.nx (ρ.set i (.ol (ds++[d])))):Wp (sApp i a) ρ W:=by unfold Wp sApp; rw [h0]; simp only [h,if_pos hl]; exact k
theorem wp_ext {es:List D} (h0:ρ.getD i .un=.ol ds) (h:a ρ=some (.lst es)) (hl:ds.length+es.length≤sizeLine) (k:W.nx (ρ.set i (.ol (ds++es)))):Wp (sExt i a) ρ W:=by unfold Wp sExt; rw [h0]; simp only [h,if_pos hl]; exact k
theorem wp_put {n:Int} {j:Nat} (h0:ρ.getD i .un=.ol ds) (h1:a ρ=some d) (h:e ρ=some (.int n)) (hj:ixN ds.length n=some j) (k:W.nx (ρ.set i (.ol (ds.set j d)))):Wp (sPut i e a) ρ W:=by
  unfold Wp sPut; rw [h0]; simp only [h,h1,hj]; exact k
theorem wp_aug {f:Int→Int→Int} {x y:Int} (h0:dVar i ρ=some (.int x)) (h:a ρ=some (.int y)) (k:W.nx (ρ.set i (.pu (.int (f x y))))):Wp (sAug f i a) ρ W:=by
  unfold Wp sAug; rw [h0]; simp only [h]; exact k
theorem wp_for {it:Rho→Option (List D)} (h:it ρ=some ds) (I:Nat→Rho→Prop) (h0:I 0 ρ)
    (hs:∀ (j:Nat) (d:D) (ρ:Rho),ds[j]?=some d→I j ρ→∃ ρ1,g d ρ=some ρ1∧Wp b ρ1 { W with nx:=I (j+1),ct:=I (j+1),bk:=W.nx })
    (he:∀ ρ,I ds.length ρ→W.nx ρ):Wp (sFor it g b) ρ W:=by
  have key:∀ (n j:Nat) (ρ:Rho),n=ds.length-j→j≤ds.length→I j ρ→Wp (fun ρ=>forD g b (ds.drop j) ρ) ρ W:=by
    intro n
    induction n with
    | zero =>
      intro j ρ hn hj hI
      have e:j=ds.length:=by omega
      subst e
      unfold Wp
      simp only [List.drop_length,forD]
      exact he ρ hI
    | succ n ih =>
      intro j ρ hn hj hI
      have hlt:j<ds.length:=by omega
      obtain ⟨ρ1,e1,w1⟩:=hs j ds[j] ρ (List.getElem?_eq_getElem hlt) hI
      unfold Wp
      dsimp only
      rw [List.drop_eq_getElem_cons hlt]
      unfold forD
      rw [e1]
      unfold Wp at w1
      dsimp only
      cases e2:b ρ1 with
      | nx ρ2=>rw [e2] at w1; have q:=ih (j+1) ρ2 (by omega) hlt w1; unfold Wp at q; exact q
      | ct ρ2=>rw [e2] at w1; have q:=ih (j+1) ρ2 (by omega) hlt w1; unfold Wp at q; exact q
      | bk ρ2=>rw [e2] at w1; exact w1
      | rt d=>rw [e2] at w1; exact w1
      | no=>rw [e2] at w1; exact w1
  have:=key _ 0 ρ rfl (Nat.zero_le _) h0
  unfold Wp at this
  unfold Wp sFor
  rw [h]
  exact this
theorem wp_while (I:Nat→Rho→Prop) (n:Nat) (h0:I n ρ) (hs:∀ n ρ,I n ρ→∃ x,c ρ=some x∧(x=true→Wp b ρ { W with nx:=fun ρ'=>∃ m,m<n∧I m ρ',ct:=fun ρ'=>∃ m,m<n∧I m ρ',bk:=W.nx })∧(x=false→W.nx ρ)):Wp (sWhile c b) ρ W:=by
  have key:∀ n ρ,I n ρ→∃ r,whN c b (n+1) ρ=r∧r≠.no∧(match r with | .nx ρ'=>W.nx ρ' | .rt d=>W.rt d | .bk ρ'=>W.bk ρ' | .ct ρ'=>W.ct ρ' | .no=>False):=by
    intro n
    induction n using Nat.strongRecOn with
    | _ n ih =>
      intro ρ hI
      obtain ⟨x,ec,ht,hf⟩:=hs n ρ hI
      have un:whN c b (n+1) ρ=(match c ρ with | some false=>Res.nx ρ | some true=>(match b ρ with | .nx ρ'=>whN c b n ρ' | .ct ρ'=>whN c b n ρ' | .bk ρ'=>.nx ρ' | .rt d=>.rt d | .no=>.no) | none=>.no):=rfl
      rw [un,ec]
      cases x with
      | false=>exact ⟨.nx ρ,rfl,(fun z=>by cases z),hf rfl⟩
      | true =>
        have w:=ht rfl
        unfold Wp at w
        have step:∀ ρ',(∃ m,m<n∧I m ρ')→∃ r,whN c b n ρ'=r∧r≠.no∧(match r with | .nx ρ'=>W.nx ρ' | .rt d=>W.rt d | .bk ρ'=>W.bk ρ' | .ct ρ'=>W.ct ρ' | .no=>False):=by
          rintro ρ' ⟨m,hm,hI'⟩
          obtain ⟨r,e,hr,q⟩:=ih m hm ρ' hI'
          refine ⟨r,?_,hr,q⟩
          obtain ⟨k,rfl⟩:∃ k,n=m+1+k:=⟨n-m-1,by omega⟩
          rw [whN_le (by rw [e]; exact hr),e]
        cases eb:b ρ with
        | nx ρ'=>rw [eb] at w; exact step ρ' w
        | ct ρ'=>rw [eb] at w; exact step ρ' w
        | bk ρ'=>rw [eb] at w; exact ⟨.nx ρ',rfl,(fun z=>by cases z),w⟩
        | rt d=>rw [eb] at w; exact ⟨.rt d,rfl,(fun z=>by cases z),w⟩
        | no=>rw [eb] at w; exact w.elim
  obtain ⟨r,e,hr,q⟩:=key n ρ h0
  unfold Wp
  rw [sWhile_of e hr]
  exact q
end
section
variable {ρ:Rho} {a b c:DE} {i j k:Int} {d e:D} {es:Rho→Option (List D)} {ds:List D}
theorem ev_add (ha:a ρ=some (.int i)) (hb:b ρ=some (.int j)):dAdd a b ρ=some (.int (i+j)):=by unfold dAdd dII; rw [ha,hb]
theorem ev_sub (ha:a ρ=some (.int i)) (hb:b ρ=some (.int j)):dSub a b ρ=some (.int (i-j)):=by unfold dSub dII; rw [ha,hb]
theorem ev_mul (ha:a ρ=some (.int i)) (hb:b ρ=some (.int j)) (h:IntMulOk i j):dMul a b ρ=some (.int (i*j)):=by unfold dMul dII; rw [ha,hb]; exact gC_pos h
theorem ev_fdiv (ha:a ρ=some (.int i)) (hb:b ρ=some (.int j)) (h:0<j∧j.natAbs.log2<9000):dFdiv a b ρ=some (.int (i / j)):=by unfold dFdiv dII; rw [ha,hb]; exact gC_pos (C:=fun _ j=>0<j∧j.natAbs.log2<9000) h
theorem ev_mod (ha:a ρ=some (.int i)) (hb:b ρ=some (.int j)) (h:0<j):dMod a b ρ=some (.int (i % j)):=by unfold dMod dII; rw [ha,hb]; exact gC_pos (C:=fun _ j=>0<j) h
theorem ev_pow (ha:a ρ=some (.int i)) (hb:b ρ=some (.int j)) (h:CPow i j):dPow a b ρ=some (.int (i ^ j.toNat)):=by unfold dPow dII; rw [ha,hb]; exact gC_pos h
theorem ev_lt (ha:a ρ=some (.int i)) (hb:b ρ=some (.int j)):dLt a b ρ=some (.bl (decide (i<j))):=by unfold dLt dII; rw [ha,hb]
theorem ev_le (ha:a ρ=some (.int i)) (hb:b ρ=some (.int j)):dLe a b ρ=some (.bl (decide (i≤j))):=by unfold dLe dII; rw [ha,hb]
theorem ev_gt (ha:a ρ=some (.int i)) (hb:b ρ=some (.int j)):dGt a b ρ=some (.bl (decide (j<i))):=by unfold dGt dII; rw [ha,hb]
theorem ev_ge (ha:a ρ=some (.int i)) (hb:b ρ=some (.int j)):dGe a b ρ=some (.bl (decide (j≤i))):=by unfold dGe dII; rw [ha,hb]
theorem ev_neg (ha:a ρ=some (.int i)):dNeg a ρ=some (.int (-i)):=by unfold dNeg; rw [ha]
theorem ev_max2 (ha:a ρ=some (.int i)) (hb:b ρ=some (.int j)):dMax2 a b ρ=some (.int (max i j)):=by
  have e:(if j > i then j else i)=max i j:=by split <;> omega
  unfold dMax2 dII; rw [ha,hb,← e]
theorem ev_min2 (ha:a ρ=some (.int i)) (hb:b ρ=some (.int j)):dMin2 a b ρ=some (.int (min i j)):=by
  have e:(if j<i then j else i)=min i j:=by split <;> omega
  unfold dMin2 dII; rw [ha,hb,← e]
theorem ev_t {x:Bool} (ha:a ρ=some (.bl x)):dT a ρ=some x:=by unfold dT; rw [ha]
theorem ev_tru {x:Bool} (ha:a ρ=some d) (h:truD d=some x):dTru a ρ=some x:=by unfold dTru; rw [ha]; exact h
theorem ev_not {p:Rho→Option Bool} {x:Bool} (ha:p ρ=some x):dNot p ρ=some (!x):=by unfold dNot; rw [ha]
theorem ev_and {p q:Rho→Option Bool} {x y:Bool} (ha:p ρ=some x) (hb:x=true→q ρ=some y):dAnd p q ρ=some (x&&y):=by
  unfold dAnd; rw [ha]; cases x
  · rfl
  · rw [hb rfl]; rfl
theorem ev_or {p q:Rho→Option Bool} {x y:Bool} (ha:p ρ=some x) (hb:x=false→q ρ=some y):dOr p q ρ=some (x || y):=by
  unfold dOr; rw [ha]; cases x
  · rw [hb rfl]; rfl
  · rfl
theorem ev_andV {x y:Bool} (ha:a ρ=some (.bl x)) (hb:x=true→b ρ=some (.bl y)):dAndV a b ρ=some (.bl (x&&y)):=by
  unfold dAndV; rw [ha]; cases x
  · rfl
  · rw [hb rfl]; rfl
theorem ev_scal (ha:a ρ=some d) (h:d.scal=true):gScal a ρ=some d:=by unfold gScal; rw [ha]; exact if_pos h
theorem ev_lst (h:es ρ=some ds):dLst es ρ=some (.lst ds):=by unfold dLst; rw [h]; rfl
theorem ev_tup (h:es ρ=some ds):dTup es ρ=some (.tup ds):=by unfold dTup; rw [h]; rfl
theorem ev_cons (h:a ρ=some d) (h2:es ρ=some ds):dCons a es ρ=some (d::ds):=by unfold dCons; rw [h,h2]
theorem ev_ix (ha:a ρ=some d) (hb:b ρ=some (.int i)) (h:ixD d i=some e):dIx a b ρ=some e:=by unfold dIx; rw [ha,hb]; exact h
theorem ev_f1 {g:D→Option D} (ha:a ρ=some d) (h:g d=some e):dF1 g a ρ=some e:=by unfold dF1; rw [ha]; exact h
theorem ev_call {F:List D→Option D} (h:es ρ=some ds) (h2:F ds=some d):dCall F es ρ=some d:=by unfold dCall; rw [h]; exact h2
theorem ev_eq {neg:Bool} (ha:a ρ=some d) (hb:b ρ=some e) (h:cmpb 20 d e=true):dEq neg a b ρ=some (.bl (if neg=true then !decide (d=e) else decide (d=e))):=by unfold dEq; rw [ha,hb]; exact if_pos h
theorem ev_eqI {neg:Bool} (ha:a ρ=some (.int i)) (hb:b ρ=some (.int j)):dEq neg a b ρ=some (.bl (if neg=true then !decide (i=j) else decide (i=j))):=by
  rw [ev_eq ha hb rfl]
  have e:decide (D.int i=D.int j)=decide (i=j):=by rw [dec_int]; rw [Bool.eq_iff_iff]; simp
  rw [e]
theorem ev_eqF (ha:a ρ=some (.int i)) (hb:b ρ=some (.int j)):dEq false a b ρ=some (.bl (decide (i=j))):=ev_eqI (neg:=false) ha hb
theorem ev_neF (ha:a ρ=some (.int i)) (hb:b ρ=some (.int j)):dEq true a b ρ=some (.bl (decide (i≠j))):=by
  rw [ev_eqI (neg:=true) ha hb,if_pos rfl]
  congr 2
  rw [Bool.eq_iff_iff]
  simp
theorem ev_asL (ha:a ρ=some d) (h:lof d=some ds):asL a ρ=some ds:=by unfold asL; rw [ha]; exact h
theorem ev_rg1 (ha:a ρ=some (.int i)) (h:-(2 ^ 62)≤i∧i.toNat≤sizeLine):dRg1 a ρ=some (upL 0 i.toNat):=by unfold dRg1; rw [ha]; exact if_pos h
theorem ev_rg2 (ha:a ρ=some (.int i)) (hb:b ρ=some (.int j)) (h:-(2 ^ 62)≤i∧i<2 ^ 62∧-(2 ^ 62)≤j∧j<2 ^ 62∧(j-i).toNat≤sizeLine):dRg2 a b ρ=some (upL i (j-i).toNat):=by unfold dRg2; rw [ha,hb]; exact if_pos h
theorem ev_rep (h:es ρ=some ds) (hb:b ρ=some (.int i)) (hc:-(2 ^ 63)≤i∧i<2 ^ 63∧ds.length*i.toNat≤sizeLine):dRep es b ρ=some (List.replicate i.toNat ds).flatten:=by unfold dRep; rw [h,hb]; exact if_pos hc
theorem ev_sl {lo hi:Rho→Option (Option Int)} {l u:Option Int} (h:asL a ρ=some ds) (h1:lo ρ=some l) (h2:hi ρ=some u):dSl a lo hi ρ=some (cutL ds l u):=by unfold dSl; rw [h,h1,h2]
theorem ev_cat {xs ys:List D} (ha:a ρ=some (.lst xs)) (hb:b ρ=some (.lst ys)) (h:xs.length+ys.length≤sizeLine):dCat a b ρ=some (xs++ys):=by unfold dCat; rw [ha,hb]; exact if_pos h
theorem ev_inI {neg:Bool} {ns:List Int} (ha:a ρ=some (.int i)) (hb:b ρ=some (.lst (ns.map D.int))):dIn neg a b ρ=some (.bl (if neg=true then !decide (i∈ns) else decide (i∈ns))):=by
  unfold dIn; rw [ha,hb]; dsimp only [inS]; rw [asInts_map]; rfl
theorem run_of {n:Nat} {ms:List Bool} {b:DS} {ds:List D} {P:D→Prop} (h:Wp b (stD n ms ds) { nx:=fun _=>P .non,rt:=P }):∃ d,runD n ms b ds=some d∧P d:=by
  unfold Wp at h
  unfold runD
  cases e:b (stD n ms ds) with
  | nx ρ=>rw [e] at h; exact ⟨_,rfl,h⟩
  | rt d=>rw [e] at h; exact ⟨_,rfl,h⟩
  | bk ρ=>rw [e] at h; exact h.elim
  | ct ρ=>rw [e] at h; exact h.elim
  | no=>rw [e] at h; exact h.elim
theorem run_eq {n:Nat} {ms:List Bool} {b:DS} {ds:List D} {d:D} (h:Wp b (stD n ms ds) { nx:=fun _=>D.non=d,rt:=fun x=>x=d }):runD n ms b ds=some d:=by
  obtain ⟨x,e,rfl⟩:=run_of (P:=fun x=>x=d) h
  exact e
theorem run_ofF {F:List D→Option D} {n:Nat} {ms:List Bool} {b:DS} (hF:F=runD n ms b) {ds:List D} {P:D→Prop} (h:Wp b (stD n ms ds) { nx:=fun _=>P .non,rt:=P }):∃ d,F ds=some d∧P d:=by rw [hF]; exact run_of h
theorem run_eqF {F:List D→Option D} {n:Nat} {ms:List Bool} {b:DS} (hF:F=runD n ms b) {ds:List D} {d:D} (h:Wp b (stD n ms ds) { nx:=fun _=>D.non=d,rt:=fun x=>x=d }):F ds=some d:=by rw [hF]; exact run_eq h
theorem imul {i j:Int} (h:(-(2 ^ 64)<i∧i<2 ^ 64)∨(-(2 ^ 64)<j∧j<2 ^ 64)):IntMulOk i j:=CMul.ok h
theorem ixS {ns:List Int} {i:Int} (h0:0≤i) (h1:i<ns.length):ixD (.scr ns) i=some (.int (ns.getD i.toNat 0)):=by
  show (atI ns i).map D.int=_
  unfold atI ixN
  rw [if_pos h0,if_pos h1]
  have hi:i.toNat<ns.length:=by omega
  show (ns[i.toNat]?).map D.int=_
  rw [List.getElem?_eq_getElem hi,List.getD_eq_getElem?_getD,List.getElem?_eq_getElem hi]
  rfl
def pk3 (i x y z:Int):Int:=if i=0 then x else if i=1 then y else z
theorem ix3I (c x y z:Int):ixD (.lst [.int x,.int y,.int z]) (c % 3)=some (.int (pk3 (c % 3) x y z)):=by
  have h:c % 3=0∨c % 3=1∨c % 3=2:=by omega
  rcases h with h | h | h <;> rw [h] <;> rfl
theorem ixN_in {n:Nat} {i:Int} (h0:0≤i) (h1:i<n):ixN n i=some i.toNat:=by unfold ixN; rw [if_pos h0,if_pos h1]
end
end
end VL
namespace L2
open PySem PySem.Spec PyProof.Rows
section
variable {prog:Program} {w:World} {A:Around} {R:Result→Shared→Prop} {I:Addr} {fp wr:List Addr} {n:Nat} {P:Nat→Value→Prop} {St:Nat→Heap→Prop} {kw:List (Str×Value)}
end
section
variable {prog:Program} {w:World} {A:Around} {E:Value→Shared→Prop} {s:Shared}
end
section
variable {X:Cx}
end
section
variable {X:Cx} {K:PySem.W.Frag}
end
end L2
namespace VL
open PySem L2
open Classical
noncomputable section
section
variable [Tabs] {K:PySem.W.Frag} {ta tb tc:TE} {a b c:DE}
theorem fdok {j:Int} (h0:0<j) (h1:j<2 ^ 64):0<j∧j.natAbs.log2<9000:=by
  refine ⟨h0,(Nat.log2_lt (by omega)).mpr (Nat.lt_of_lt_of_le (m:=2 ^ 64) (by omega) (Nat.pow_le_pow_right (by decide) (by decide)))⟩
theorem ev_compA {α:Type} {ρ:Rho} {k:Nat} {cs:List Nat} {it:Rho→Option (List D)} {g:DG} {t:Rho→Option Bool} {el:DE} (emb:α→D) {xs:List α} (h:it ρ=some (xs.map emb)) (p:α→Bool) (f:α→D)
    (hs:∀ x∈xs,∃ ρ1,g (emb x) (r0 k cs ρ)=some ρ1∧t ρ1=some (p x)∧(p x=true→el ρ1=some (f x))):dComp k cs it g t el ρ=some ((xs.filter p).map f):=by
  unfold dComp
  rw [h]
  dsimp only
  clear h
  induction xs with
  | nil=>rfl
  | cons x r ih =>
    obtain ⟨ρ1,e1,e2,e3⟩:=hs x List.mem_cons_self
    have ih:=ih fun d hd=>hs d (List.mem_cons_of_mem _ hd)
    rw [List.map_cons]
    unfold compGo
    rw [e1]
    dsimp only
    rw [e2]
    cases hp:p x with
    | false =>
      dsimp only
      rw [ih,List.filter_cons_of_neg (by simp [hp])]
    | true =>
      dsimp only
      rw [e3 hp,ih,List.filter_cons_of_pos hp]
      rfl
theorem ev_compA0 {α:Type} {ρ:Rho} {k:Nat} {cs:List Nat} {it:Rho→Option (List D)} {g:DG} {el:DE} (emb:α→D) {xs:List α} (h:it ρ=some (xs.map emb)) (f:α→D)
    (hs:∀ x∈xs,∃ ρ1,g (emb x) (r0 k cs ρ)=some ρ1∧el ρ1=some (f x)):dComp k cs it g dTrue el ρ=some (xs.map f):=by
  have:=ev_compA (ρ:=ρ) (k:=k) (cs:=cs) (it:=it) (g:=g) (t:=dTrue) (el:=el) emb h (fun _=>true) f fun d hd=>let ⟨ρ1,e1,e2⟩:=hs d hd; ⟨ρ1,e1,rfl,fun _=>e2⟩
  rw [this,List.filter_eq_self.mpr fun _ _=>rfl]
theorem cmp_lst {n:Nat} {xs ys:List D} (h:∀ x∈xs,∀ y∈ys,cmpb n x y=true):cmpb (n+1) (.lst xs) (.lst ys)=true:=by
  show (decide _ || (List.zip xs ys).all fun p=>cmpb n p.1 p.2)=true
  rw [Bool.or_eq_true]
  refine .inr (List.all_eq_true.mpr fun q hq=>?_)
  obtain ⟨a,b⟩:=q
  obtain ⟨h1,h2⟩:=List.of_mem_zip hq
  exact h a h1 b h2
theorem maxD_cons (x:Int) (r:List Int):maxD (.lst ((x::r).map D.int))=some (.int (maxL x r)):=ofInts_lst _ (x::r)
end
end
end VL
namespace L2
end L2
namespace L2
open PySem PySem.Spec PyProof.Rows
open VL (s0)
structure FreesC (X:Cx) (N':List Str) (scope:Scope) (cl:List (Str×Addr)) (σ σ0:St):Prop where
  sub:∀ x c,cl.lookup x=some c→X.env.cells.lookup x=some c
  vals:∀ (j:Nat) (x:Str) (v:V),N'[j]?=some x→σ0[j]?=some (some v)→∃ (i:Nat) (c:Addr),X.N[i]?=some x∧σ[i]?=some (some v)∧Vis X.env.scope x∧X.env.kindOf x≠some .local∧cl.lookup x=some c ∧
    ((relabel scope X.env).names.lookup x=some .cell∨(relabel scope X.env).names.lookup x=some .free)
  vout:∀ (j:Nat) (x:Str) (v:V),N'[j]?=some x→σ0[j]?=some (some v)→(scope.names.all fun y=>!(y.2==.cell) || !(y.1==x))=true
  has:∀ x,((relabel scope X.env).names.lookup x=some .cell∨(relabel scope X.env).names.lookup x=some .free)→scope.names.lookup x=some .cell∨(cl.lookup x).isSome=true
  out:∀ x c,(scope.names.lookup x==some .cell)=true→¬ cl.lookup x=some c
  len:σ0.length=N'.length
section
variable {X:Cx} {tg elt iter:Expr} {ifs:List Expr} {scope:Scope} {cl:List (Str×Addr)} {N':List Str} {σ0:St→St} {g:TG} {tt:TT} {te:TE}
variable {pos:Pos} {wi:TI}
variable {c:Expr} {ts zs:List Str} {is:List Nat} {k:Nat}
end
end L2
namespace L2
open PySem PySem.Spec PyProof.Rows
end L2
namespace L2
open PySem PySem.Spec PyProof.Rows
theorem turn_pairs {P:Program} {w:World} {K:PySem.W.Frag} {elts:List Expr} {x1} {pos:Pos} {J:It} {fp wr:List Addr} {it:Addr} {tn:Nat→Heap→Prop} (hm:it∈fp) (hwr:∀ b∈wr,b∈fp)
    (ho:∀ i h,tn i h→∀ b∈fp,∃ o,h.get? b=some o∧∀ v,o.data≠.cell v) (hk:∀ i h h',tn i h→(∀ b∈fp,∀ o,h.get? b=some o→h'.get? b=some o)→tn i h')
    (hs:∀ (A:Around) (i:Nat) (s:Shared) (Q:Value→Shared→Prop) (E:Value→Shared→Prop),tn i s.heap→Q (.ref it) s→wpAny (model P w) A (pyIter (.ref it)) Q E s)
    (hi:∀ (X:Cx),X.prog=P→X.w=w→X.K=K→X.calm=true→∀ (i:Nat) (pins:List (Addr×Obj)) (s:Shared) (σ:St) (H:Hp),Inv X pins σ H s→tn i s.heap→J.go i H →
      ∃ f2 n Pt S M,WalksT P w X.A it f2 wr n Pt S M∧i<n∧S i s.heap∧(∀ h,S (i+1) h→tn (i+1) h)∧∀ vals,Pt i vals→∃ ws,ws.length≤sizeLine∧Vals ws vals.toList∧∀ t,H t=none→J.yld i H (.ref t) (upd H t (.tup ws)))
    (hd:∀ (X:Cx),X.prog=P→X.w=w→X.K=K→X.calm=true→∀ (i:Nat) (pins:List (Addr×Obj)) (s:Shared) (σ:St) (H:Hp),Inv X pins σ H s→tn i s.heap→J.stop i H→∃ f2 Pt S M,WalksT P w X.A it f2 wr i Pt S M∧S i s.heap) :
    Turn P w K (.Tuple elts x1 pos) J fp it tn where
  mem:=hm
  obj:=ho
  keep:=hk
  item:=by
    intro X hP hw hK hc i pins s σ H E I hf st hg
    obtain ⟨f2,n,Pt,S,M,W,hin,hS,hback,hpt⟩:=hi X hP hw hK hc i pins s σ H I st hg
    subst hP hw hK
    refine W.item i s _ _ hin hS fun T vals h1 tk hv hT tup1 mid kk1=>⟨_,rfl,?_⟩
    refine W.go elts x1 pos i T _ _ _ mid fun h2 S2 kk2=>?_
    obtain ⟨ws,hz,rv,yl⟩:=hpt vals hv
    have k2:∀ b o,b∉wr→s.heap.get? b=some o→h2.get? b=some o:=fun b o nb e=>kk2 b o nb (kk1 b o nb e)
    have nwr:∀ b u,H b=some u→b∉wr:=fun b u e z=>by rw [(hf b (hwr b z)).1] at e; cases e
    have nH:H T=none:=I.hok.fresh hT
    obtain ⟨o,eo,oc,nn,od⟩:=tup1
    have tup2:h2.get? T=some o:=kk2 T o (W.apart _ _ _ mid) eo
    have loc:X.env.locals∉wr:=fun z=>(hf _ (hwr _ z)).2.1 rfl
    have all:∀ b∈wr,(b∈X.ex∨X.s₀.heap.objs.size≤b)∧b≠X.env.locals∧(∀ x c,X.env.cells.lookup x=some c→c≠b)∧∀ p∈X.pn++pins,p.1≠b:=fun b z=>by
      obtain ⟨_,g1,_,g3,g4,g5⟩:=hf b (hwr b z)
      exact ⟨g3,g1,g4,g5⟩
    have nsk:∀ m,s.heap.Ns X.env.locals m→h2.Ns X.env.locals m:=fun m q=>by
      obtain ⟨oo,es,ep,q1,r⟩:=q
      exact ⟨oo,es,ep,k2 _ oo loc q1,r⟩
    have ok1:HOk X.prog X.w H h2:=fun b u q=>by
      refine (I.hok b u q).stay (fun c v hc' q'=>k2 c v ?_ q') (fun _ q'=>q') fun _ _ q'=>q'
      rcases hc' with z | z
      · rw [z]; exact nwr b u q
      · exact nwr c _ z
    have upk:∀ {b:Addr} {u:HO},H b=some u→upd H T (.tup ws) b=some u:=fun {b u} q=>by rw [upd_ne (ne_of_none q nH)]; exact q
    have ok2:HOk X.prog X.w (upd H T (.tup ws)) h2:=fun b u q=>by
      by_cases hb:b=T
      · subst hb
        rw [upd_same] at q
        cases q
        exact ⟨hz,vals.toList,rv,⟨o,tup2,oc,nn,by rw [od]⟩⟩
      · rw [upd_ne hb] at q
        exact (ok1 b u q).stay (fun c v _ q'=>q') (fun c q'=>upk q') (fun c xs' q'=>upk q') fun c o u q'=>upk q'
    have I2:Inv X pins σ (upd H T (.tup ws)) { s with heap:=h2,toks:=tk } :=
      I.step (g':=s.gens) (d':=s.drawn) (ch:=wr) all (fun b o _ _ hc' q _=>k2 b o hc' q) (fun b o _ _ hc' q _=>⟨o.slots,k2 b o hc' q⟩) (fun b o _ q n=>by rw [upd_ne (fun z=>Nat.lt_irrefl _ (Nat.lt_of_lt_of_le (Heap.lt_size q) (by rw [z]; exact hT)))]; exact n)
        (fun b o hc' q=>⟨o,k2 b o hc' q⟩) (fun b xs' q=>upk q) (fun b o u' q=>upk q) (fun b ps q=>⟨#[],by rw [upk q]; simp⟩) nsk ok2 I.bare
    refine ⟨.ref T,_,I2,rfl,yl T nH,hback _ S2,fun b hb=>?_⟩
    by_cases e:b=T
    · exfalso
      subst e
      obtain ⟨o',e',_⟩:=ho i s.heap st b hb
      exact Nat.lt_irrefl _ (Nat.lt_of_lt_of_le (Heap.lt_size e') hT)
    · rw [upd_ne e]; exact (hf b hb).1
  done:=by
    intro X hP hw hK hc i pins s σ H E I hf st hg
    obtain ⟨f2,Pt,S,M,W,hS⟩:=hd X hP hw hK hc i pins s σ H I st hg
    subst hP hw hK
    refine W.done s _ _ hS fun h' tk kk=>⟨rfl,?_⟩
    refine I.step (g':=s.gens) (d':=s.drawn) (t':=tk) (ch:=wr) (fun b z=>?_) (fun b o _ _ hc' q _=>kk b o hc' q) (fun b o _ _ hc' q _=>⟨o.slots,kk b o hc' q⟩) (fun _ _ _ _ n=>n) (fun b o hc' q=>⟨o,kk b o hc' q⟩) (fun _ _ q=>q) (fun _ _ _ q=>q) (fun b ps q=>⟨#[],by rw [q]; simp⟩) (fun m q=>?_) (fun b u q=>?_) I.bare
    · obtain ⟨_,g1,_,g3,g4,g5⟩:=hf b (hwr b z)
      exact ⟨g3,g1,g4,g5⟩
    · obtain ⟨oo,es,ep,q1,r⟩:=q
      exact ⟨oo,es,ep,kk _ oo (fun z=>(hf _ (hwr _ z)).2.1 rfl) q1,r⟩
    · refine (I.hok b u q).stay (fun c v hc' q'=>kk c v ?_ q') (fun _ q'=>q') fun _ _ q'=>q'
      rcases hc' with z | z
      · rw [z]; exact fun w=>by rw [(hf b (hwr b w)).1] at q; cases q
      · exact fun w=>by rw [(hf c (hwr c w)).1] at z; cases z
  self:=hs
def Itz (K:PySem.W.Frag) (a b:Addr):It :=
  ⟨fun i H=>∃ xs ys x y,SqL K H a xs∧SqL K H b ys∧xs[i]?=some x∧ys[i]?=some y,fun i H x H'=>∃ (t:Addr) (v u:V),x=.ref t∧H t=none∧(∀ xs,SqL K H a xs→xs[i]?=some v)∧(∀ ys,SqL K H b ys→ys[i]?=some u)∧H'=upd H t (.tup [v,u]),
    fun i H=>∃ xs ys,SqL K H a xs∧SqL K H b ys∧i=min xs.length ys.length⟩
theorem turn_zip {P:Program} {w:World} {K:PySem.W.Frag} {elts:List Expr} {x1} {pos:Pos} (a b z TI TO i1 i2:Addr) (D:ZipApart z TI TO i1 i2 a b) :
    Turn P w K (.Tuple elts x1 pos) (Itz K a b) [z,TI,TO,i1,i2] z (fun i h=>IsZip h z TI TO .none∧IsPair h TI (.ref i1) (.ref i2)∧(∃ u v,IsPair h TO u v)∧h.IsListIter i1 a i∧h.IsListIter i2 b i):=by
  refine turn_pairs (wr:=[z,TO,i1,i2]) (fp:=[z,TI,TO,i1,i2]) (by simp) (fun c hc=>by simp only [List.mem_cons,List.not_mem_nil,or_false] at hc ⊢; rcases hc with h | h | h | h <;> simp [h]) (fun i h st c hc=>?_) (fun i h h' st k=>?_) (fun A i s Q E st q=>wpAny_pyIter_zip st.1 q) (fun X hP hw hK hc i pins s σ H I st hg=>?_) (fun X hP hw hK hc i pins s σ H I st hg=>?_)
  · obtain ⟨hz,hTI,⟨u,v,hTO⟩,h1,h2⟩:=st
    have e1:∃ o:Obj,h.get? z=some o∧∀ v,o.data≠.cell v:=⟨_,hz,fun v q=>by have q':Data.fields _=Data.cell v:=q; cases q'⟩
    have e2:∃ o:Obj,h.get? TI=some o∧∀ v,o.data≠.cell v:=⟨_,hTI,fun v q=>by have q':Data.seq _ _=Data.cell v:=q; cases q'⟩
    have e3:∃ o:Obj,h.get? TO=some o∧∀ v,o.data≠.cell v:=⟨_,hTO,fun v q=>by have q':Data.seq _ _=Data.cell v:=q; cases q'⟩
    have e4:∃ o:Obj,h.get? i1=some o∧∀ v,o.data≠.cell v:=let ⟨o,e,_,d⟩:=h1; ⟨o,e,fun v q=>by rw [d] at q; cases q⟩
    have e5:∃ o:Obj,h.get? i2=some o∧∀ v,o.data≠.cell v:=let ⟨o,e,_,d⟩:=h2; ⟨o,e,fun v q=>by rw [d] at q; cases q⟩
    simp only [List.mem_cons,List.not_mem_nil,or_false] at hc
    rcases hc with rfl | rfl | rfl | rfl | rfl
    · exact e1
    · exact e2
    · exact e3
    · exact e4
    · exact e5
  · obtain ⟨hz,hTI,⟨u,v,hTO⟩,h1,h2⟩:=st
    exact ⟨k z (by simp) _ hz,k TI (by simp) _ hTI,⟨u,v,k TO (by simp) _ hTO⟩,h1.at fun o e=>k i1 (by simp) o e,h2.at fun o e=>k i2 (by simp) o e⟩
  · subst hP hw hK
    obtain ⟨xs,ys,x,y,qa,qb,ex,ey⟩:=hg
    obtain ⟨us,r1,p1,_⟩:=I.list qa
    obtain ⟨vs,r2,p2,_⟩:=I.list qb
    have lx:=(List.getElem?_eq_some_iff.mp ex).1
    have ly:=(List.getElem?_eq_some_iff.mp ey).1
    have l1:=r1.length
    have l2:=r2.length
    refine ⟨_,_,_,_,_,WalksT.zip2 (I.ok.hd hc) z TI TO i1 i2 a b D us.toArray vs.toArray,by simp; omega,⟨st.1,st.2.1,st.2.2.1,st.2.2.2.1,st.2.2.2.2,p1.isList,p2.isList⟩,fun h q=>⟨q.1,q.2.1,q.2.2.1,q.2.2.2.1,q.2.2.2.2.1⟩,?_⟩
    rintro vals ⟨u,v,eu,ev,rfl⟩
    obtain ⟨u',f1,g1⟩:=r1.get ex
    obtain ⟨v',f2,g2⟩:=r2.get ey
    have e1:us[i]?=some u:=by simpa using eu
    have e2:vs[i]?=some v:=by simpa using ev
    rw [e1] at f1; cases f1
    rw [e2] at f2; cases f2
    exact ⟨[x,y],by show 2≤sizeLine; decide,.cons g1 (.cons g2 .nil),fun t nt=>⟨t,x,y,rfl,nt,fun zs hz=>by rw [I.list_inj hz qa]; exact ex,fun zs hz=>by rw [I.list_inj hz qb]; exact ey,rfl⟩⟩
  · subst hP hw hK
    obtain ⟨xs,ys,qa,qb,e⟩:=hg
    obtain ⟨us,r1,p1,_⟩:=I.list qa
    obtain ⟨vs,r2,p2,_⟩:=I.list qb
    have l1:=r1.length
    have l2:=r2.length
    have W:=WalksT.zip2 (prog:=X.prog) (w:=X.w) (A:=X.A) (I.ok.hd hc) z TI TO i1 i2 a b D us.toArray vs.toArray
    have en:min us.toArray.size vs.toArray.size=i:=by simp; omega
    rw [en] at W
    exact ⟨_,_,_,_,W,⟨st.1,st.2.1,st.2.2.1,st.2.2.2.1,st.2.2.2.2,p1.isList,p2.isList⟩⟩
theorem zapart (n a b:Nat) (ha:a<n) (hb:b<n):ZipApart (n+4) (n+2) (n+3) n (n+1) a b:=by constructor <;> exact fun (e:@Eq Nat _ _)=>by omega
theorem le5 {n c:Nat} (h:c=n+4∨c=n+2∨c=n+3∨c=n∨c=n+1):n≤c:=by omega
section
variable {X:Cx}
def iZip (K:PySem.W.Frag) (ta tb:TE):TI:=fun σ H R=>tCons ta (tCons tb tNil) σ H fun vs H1=>∃ a b,vs=[.ref a,.ref b]∧(∃ xs,SqL K H1 a xs)∧(∃ ys,SqL K H1 b ys)∧R (Itz K a b) H1
theorem pi_zip {K:PySem.W.Frag} {l m:Expr} {tl tm:TE} {elts:List Expr} {x1} {tpos p pos:Pos} (hK:X.K=K) (hg:Gl X "zip") (hm:X.mg "zip" = none) (ha:PA X [l,m] (tCons tl (tCons tm tNil))) (hs:starEach [l,m] X.env=(false,eval l X.env)::starEach [m] X.env:=by rfl) (hp:(backTo pos (starEach [m] X.env)).any (·.1)=false:=by rfl):PI X (.Tuple elts x1 tpos) (.Call (.Name "zip" p) [l,m] [] pos) (iZip K tl tm):=by
  subst hK
  intro pins s σ H R I h
  refine Call_ (ld_blt I hg hm bt_zip (PyProof.Rows.callWith_type1 (thn (ha pos pins s σ H _ I h) fun us s1 ⟨vs,H1,I1,r1,q1⟩=>?_) hs hp))
  obtain ⟨a,b,rfl,⟨xs,qa⟩,⟨ys,qb⟩,q⟩:=q1
  cases r1 with
  | cons ra r1 =>
    cases r1 with
    | cons rb r1 =>
      cases r1
      cases ra
      cases rb
      obtain ⟨us,v1,p1,_⟩:=I1.list qa
      obtain ⟨ws,v2,p2,_⟩:=I1.list qb
      have la:a<s1.heap.objs.size:=by obtain ⟨_,e,_⟩:=p1.isList; exact Heap.lt_size e
      have lb:b<s1.heap.objs.size:=by obtain ⟨_,e,_⟩:=p2.isList; exact Heap.lt_size e
      refine call_zip_2 p1.isList p2.isList fun h' hz hTI hTO hi1 hi2 hsz hk=>wpAny_pyIter_zip hz ?_
      have I2:Inv X pins σ H1 { s1 with heap:=h' }:=I1.kept (t':=s1.toks) hk
      refine ⟨_,[s1.heap.objs.size+4,s1.heap.objs.size+2,s1.heap.objs.size+3,s1.heap.objs.size,s1.heap.objs.size+1],_,_,H1,rfl,I2,turn_zip a b _ _ _ _ _ (zapart _ _ _ la lb),⟨hz,hTI,⟨_,_,hTO⟩,hi1,hi2⟩,fun c hc=>?_,q⟩
      simp only [List.mem_cons,List.not_mem_nil,or_false] at hc
      have le:s1.heap.objs.size≤c:=le5 hc
      exact I1.fpOk le (I1.hok.fresh le)
end
end L2
namespace VL
open PySem L2
open Classical
noncomputable section
variable [Tabs] {K:PySem.W.Frag}
def zpL (xs ys:List D):List D:=List.zipWith (fun x y=>.tup [x,y]) xs ys
noncomputable def dZip (a b:DE):Rho→Option (List D):=fun ρ=>match asL a ρ with
  | some xs=>(match asL b ρ with
    | some ys=>some (zpL xs ys)
    | none=>none)
  | none=>none
theorem dZip_some {a b:DE} {ρ:Rho} {ds:List D} (h:dZip a b ρ=some ds):∃ xs ys,asL a ρ=some xs∧asL b ρ=some ys∧ds=zpL xs ys:=by
  unfold dZip at h
  split at h
  · rename_i xs e
    split at h
    · rename_i ys e2; exact ⟨xs,ys,e,e2,(Option.some.inj h).symm⟩
    · cases h
  · cases h
theorem zpL_len (xs ys:List D):(zpL xs ys).length=min xs.length ys.length:=List.length_zipWith ..
theorem zpL_get {xs ys:List D} {i:Nat} {d:D} (h:(zpL xs ys)[i]?=some d):∃ x y,xs[i]?=some x∧ys[i]?=some y∧d=.tup [x,y]:=by
  unfold zpL at h
  rw [List.getElem?_zipWith] at h
  split at h
  · rename_i x y e1 e2; exact ⟨x,y,e1,e2,(Option.some.inj h).symm⟩
  · cases h
theorem walk_zip {Bx H1:Hp} {T:Addr→Prop} {p q:Addr} {vs us:List V} {xs ys:List D} (hl:xs.length≤sizeLine) (h0:∀ H2 T2,Kp T H1 T2 H2→Same Bx H2→SqL K H2 p vs∧IsL K H2 T2 vs xs) (h1:∀ H2 T2,Kp T H1 T2 H2→Same Bx H2→SqL K H2 q us∧IsL K H2 T2 us ys)
    (hsl:vs.length=xs.length) (hsl2:us.length=ys.length):Walk K true Bx (Itz K p q) H1 T (zpL xs ys):=by
  have hlen:=zpL_len xs ys
  refine ⟨by rw [hlen]; omega,fun i d H2 T2 kp sb hd e=>?_,fun i H2 T2 kp sb hi=>?_⟩
  · obtain ⟨x,y,ex,ey,rfl⟩:=zpL_get e
    obtain ⟨s1,r1⟩:=h0 H2 T2 kp sb
    obtain ⟨s2,r2⟩:=h1 H2 T2 kp sb
    obtain ⟨v,e1,i1⟩:=r1.get ex
    obtain ⟨u,e2,i2⟩:=r2.get ey
    refine ⟨⟨vs,us,v,u,s1,s2,e1,e2⟩,fun z H3 hy=>?_⟩
    obtain ⟨t,v',u',ez,nt,hv,hu,e3⟩:=hy
    subst e3 ez
    have q1:=hv vs s1
    have q2:=hu us s2
    rw [e1] at q1; cases q1
    rw [e2] at q2; cases q2
    refine ⟨same_new nt,show Is K _ T2 (.ref t) (.tup [x,y]) from .tup (fun z=>?_) upd_same (by show 2≤sizeLine; decide) ((IsL.cons i1 (.one i2)).same (same_new nt))⟩
    obtain ⟨o,qq⟩:=hd t z
    rw [nt] at qq; cases qq
  · obtain ⟨s1,_⟩:=h0 H2 T2 kp sb
    obtain ⟨s2,_⟩:=h1 H2 T2 kp sb
    exact ⟨vs,us,s1,s2,by rw [← hi,hlen,hsl,hsl2]⟩
theorem sw_zip {ta tb:TE} {a b:DE} (ha:SemI K ta a) (hb:SemI K tb b):SemW K true (iZip K ta tb) (dZip a b):=fun {B Z os ρ σ H R ds} f q k=>by
  obtain ⟨xs,ys,e1,e2,rfl⟩:=dZip_some q
  obtain ⟨d1,e1,l1⟩:=asL_some e1
  obtain ⟨d2,e2,l2⟩:=asL_some e2
  refine ha f e1 fun v H1 s1 i1=>hb (f.grow s1) e2 fun u H2 s2 i2=>?_
  obtain ⟨p,vs,rfl,hl,hn,hr⟩:=(i1.same s2).seq l1
  obtain ⟨p2,us,rfl,hl2,hn2,hr2⟩:=i2.seq l2
  exact ⟨p,p2,rfl,⟨vs,(hr H2 _ Kp.refl).1⟩,⟨us,(hr2 H2 _ Kp.refl).1⟩,k _ _ (s1.trans s2) (walk_zip (by omega) (fun H3 T3 kp _=>hr H3 T3 kp) (fun H3 T3 kp _=>hr2 H3 T3 kp) hn hn2)⟩
theorem ev_zip {a b:DE} {ρ:Rho} {xs ys:List D} (ha:asL a ρ=some xs) (hb:asL b ρ=some ys):dZip a b ρ=some (zpL xs ys):=by unfold dZip; rw [ha,hb]
end
end VL
namespace PySem
open Sem (wp)
section
variable {prog:Program} {w:World} {A:Around} {E:Value→Shared→Prop} {s:Shared}
end
end PySem
namespace L2
open PySem PySem.Spec PyProof.Rows
section
variable {X:Cx}
end
end L2
namespace VL
open PySem L2
open Classical
noncomputable section
variable [Tabs] {K:PySem.W.Frag}
end
end VL
namespace VL
open PySem L2
open Classical
noncomputable section
variable [Tabs] {K:PySem.W.Frag} {fr:Fm}
def SemM (K:PySem.W.Frag) (t:TE) (e:Rho→Option (List (List D))):Prop:=∀ {B:Hp} {Z:Addr→Prop} {os:Own} {ρ:Rho} {σ:L2.St} {H:Hp} {Q:VK} {rows:List (List D)},Fr K B Z os ρ σ H→e ρ=some rows →
  (∀ x ps H',Same H H'→H x=none→(∀ a∈ps,H a=none)→(x::ps).Nodup→H' x=some (.lst (ps.map V.ref))→ps.length≤sizeLine→Paired (fun q ds=>∃ vs,H' q=some (.lst vs)∧vs.length≤sizeLine∧IsL K H' (fun a=>(a=x∨a∈ps)∨tot Z os a) vs ds) ps rows→Q (.ref x) H')→t σ H Q
def rowsL (rows:List (List D)):D:=.lst (rows.map D.lst)
def unrow:D→Option (List D)
  | .lst ds=>some ds
  | _=>none
def unrows:List D→Option (List (List D))
  | []=>some []
  | d::r=>match unrow d with
    | some x=>(match unrows r with
      | some y=>some (x::y)
      | none=>none)
    | none=>none
theorem unrows_map:∀ (rows:List (List D)),unrows (rows.map D.lst)=some rows
  | []=>rfl
  | x::r=>by show (match unrow (.lst x) with | some x=>(match unrows (r.map D.lst) with | some y=>some (x::y) | none=>none) | none=>none)=_; rw [unrows_map r]; rfl
noncomputable def dCallM (F:List D→Option D) (es:Rho→Option (List D)):Rho→Option (List (List D)):=fun ρ=>match dCall F es ρ with
  | some (.lst ds)=>unrows ds
  | _=>none
theorem sm_call {ms:List Bool} {F:List D→Option D} {t:TA} {es:Rho→Option (List D)} {E:XK} (ha:SemA K ms t es):SemM K (tCall (spD .m K ms F) [] E t) (dCallM F es):=fun {B Z os ρ σ H Q rows} f q k=>by
  unfold dCallM at q
  split at q
  · rename_i xs e1
    unfold dCall at e1
    split at e1
    · rename_i as e
      refine ha f e fun vs H1 s1 a=>?_
      show spD .m K ms F (vs++[]) H1 Q E
      rw [List.append_nil]
      refine ⟨tot Z os,as,.lst xs,(f.grow s1).zt,a,e1,fun v H2 s2 i=>?_⟩
      obtain ⟨p,ps,rows',rfl,ed,hb,hbs,hn,hh,hl,r⟩:=i
      cases ed
      rw [unrows_map] at q
      cases q
      exact k p ps H2 (s1.trans s2) (Same.free s1 hb) (fun a ha=>Same.free s1 (hbs a ha)) hn hh hl r
    · cases e1
  · cases q
@[irreducible] noncomputable def sRetXM (i:Nat):DS:=fun ρ=>match ρ.getD i .un with
  | .om rows=>.rt (rowsL rows)
  | _=>.no
theorem ss_retXM {i:Nat}:SemS .m K (tRet (tVar i)) (sRetXM i):=fun {B Z os ρ σ H E} f p=>by
  unfold sRetXM at p
  split at p
  · rename_i rows e
    have s:=f.sl i
    rw [e] at s
    obtain ⟨a,ps,eo,hu,hH,hl,r⟩:=s
    have hn:=f.nd i
    rw [eo] at hn
    have ha:a∈os i:=by rw [eo]; exact List.mem_cons_self
    have hp:∀ q∈ps,q∈os i:=fun q hq=>by rw [eo]; exact List.mem_cons_of_mem _ hq
    refine ⟨_,join_some hu,p _ _ f.keep ⟨a,ps,rows,rfl,rfl,(f.new i a ha).1,fun q hq=>(f.new i q (hp q hq)).1,hn,hH,hl,Paired.mono r fun q ds _ ⟨vs,h1,h2,h3⟩=>⟨vs,h1,h2,h3.kp (Kp.less fun b z=>?_)⟩⟩⟩
    rcases z with (rfl | z) | z
    · exact .inr ⟨i,ha⟩
    · exact .inr ⟨i,hp b z⟩
    · exact .inl z
  · exact p.elim
@[irreducible] noncomputable def sSetM (i:Nat) (a:Rho→Option (List (List D))):DS:=fun ρ=>match a ρ with
  | some rows=>if i < ρ.length then .nx (ρ.set i (.om rows)) else .no
  | none=>.no
theorem ss_setM {i:Nat} {ta:TE} {a:Rho→Option (List (List D))} (h:SemM K ta a):SemS fr K (tAsg ta (gName i)) (sSetM i a):=fun {B Z os ρ σ H E} f p=>by
  unfold sSetM at p
  split at p
  · rename_i rows e
    by_cases hi:i < ρ.length
    · rw [if_pos hi] at p
      refine h f e fun x ps H1 s1 hx hps hn hH hl r=>?_
      have st:=f.step (H':=H1) (i:=i) hi (o:=x::ps) (s:=.om rows) (v:=some (.ref x)) (fun a u e _=>s1 _ _ e) (fun a ha=>let ⟨xs,e⟩:=(f.sl i).dom ha; ⟨_,s1 _ _ e⟩) hn (fun a ha=>?_)
        ⟨x,ps,rfl,rfl,hH,hl,Paired.mono r fun q ds _ ⟨vs,h1,h2,h3⟩=>⟨vs,h1,h2,h3.kp (Kp.less fun a z=>?_)⟩⟩
      · exact p _ _ _ st.1 st.2
      · rcases List.mem_cons.mp ha with rfl | ha
        · exact .inr hx
        · exact .inr (hps a ha)
      · rcases z with z | ⟨j,z⟩
        · exact .inr (.inl z)
        · by_cases hj:j=i
          · subst hj; rw [putO_same] at z; exact .inl (List.mem_cons.mp z)
          · rw [putO_ne hj] at z; exact .inr (.inr ⟨j,z⟩)
    · rw [if_neg hi] at p; exact p.elim
  · exact p.elim
theorem ss_setMC {i:Nat} {ta:TE} {a:Rho→Option (List (List D))} (h:SemM K ta a):SemS fr K (tSetC ta i) (sSetM i a):=ss_setM (i:=i) h
theorem Paired.setAt {α β:Type} {F G:α→β→Prop} {p:α} {y:β}:∀ {ps:List α} {rows:List β} {r:Nat},Paired F ps rows→ps.Nodup→(∀ q ds,q≠p→F q ds→G q ds)→ps[r]?=some p→G p y→Paired G ps (rows.set r y)
  | _,_,0,.cons h t,hn,hf,e,g=>by
    cases e
    exact .cons g (Paired.mono t fun q ds hq h=>hf q ds (fun z=>(List.nodup_cons.mp hn).1 (z ▸ hq)) h)
  | _,_,r+1,.cons h t,hn,hf,e,g=>by
    have e':=show _=some p by simpa using e
    exact .cons (hf _ _ (fun z=>(List.nodup_cons.mp hn).1 (z ▸ List.mem_of_getElem? e')) h) (Paired.setAt t (List.nodup_cons.mp hn).2 hf e' g)
theorem Paired.getF {α β:Type} {F:α→β→Prop}:∀ {ps:List α} {rows:List β} {r:Nat} {y:β},Paired F ps rows→rows[r]?=some y→∃ p,ps[r]?=some p∧F p y
  | _,_,0,_,.cons h _,e=>by cases e; exact ⟨_,rfl,h⟩
  | _,_,r+1,_,.cons _ t,e=>by
    obtain ⟨p,e1,h⟩:=Paired.getF (r:=r) t (by simpa using e)
    exact ⟨p,by simpa using e1,h⟩
theorem om_of {B H:Hp} {Z:Addr→Prop} {os:Own} {ρ:Rho} {σ:L2.St} (f:Fr K B Z os ρ σ H) {i:Nat} {rows:List (List D)} (e:ρ.getD i .un=.om rows) :
    ∃ a ps,os i=a::ps∧(σ[i]?).join=some (.ref a)∧H a=some (.lst (ps.map V.ref))∧ps.length≤sizeLine∧ps.length=rows.length∧Paired (fun p ds=>∃ vs,H p=some (.lst vs)∧vs.length≤sizeLine∧IsL K H (tot Z os) vs ds) ps rows:=by
  have s:=f.sl i
  rw [e] at s
  obtain ⟨a,ps,h1,h2,h3,h4,h5⟩:=s
  exact ⟨a,ps,h1,h2,h3,h4,Paired.length h5,h5⟩
theorem Fr.mutM1 {B H:Hp} {Z:Addr→Prop} {os:Own} {ρ:Rho} {σ:L2.St} (f:Fr K B Z os ρ σ H) {i r:Nat} {a p:Addr} {ps:List Addr} {rows:List (List D)} {ds':List D} {vs':List V} (e:ρ.getD i .un=.om rows) (eo:os i=a::ps) (hu:(σ[i]?).join=some (.ref a)) (hr:ps[r]?=some p) (hl:vs'.length≤sizeLine) (h:IsL K H (tot Z os) vs' ds') :
    Fr K B Z (putO os i (a::ps)) (ρ.set i (.om (rows.set r ds'))) σ (upd H p (.lst vs'))∧Kp (tot Z os) H (tot Z (putO os i (a::ps))) (upd H p (.lst vs')):=by
  have s:=f.sl i
  rw [e] at s
  obtain ⟨b,qs,eo',hu',hH,hlp,i1⟩:=s
  rw [eo] at eo'
  cases eo'
  have hi:=getD_lt e (by intro z; cases z)
  have hn:=f.nd i
  rw [eo] at hn
  have hp:p∈ps:=List.mem_of_getElem? hr
  have hpo:p∈os i:=by rw [eo]; exact List.mem_cons_of_mem _ hp
  have hap:a≠p:=fun z=>(List.nodup_cons.mp hn).1 (z ▸ hp)
  have tt:tot Z (putO os i (a::ps))=tot Z os:=by
    funext c
    apply propext
    constructor
    · rintro (z | ⟨j,z⟩)
      · exact .inl z
      · by_cases hj:j=i
        · subst hj; rw [putO_same] at z; exact .inr ⟨j,by rw [eo]; exact z⟩
        · rw [putO_ne hj] at z; exact .inr ⟨j,z⟩
    · rintro (z | ⟨j,z⟩)
      · exact .inl z
      · by_cases hj:j=i
        · subst hj; exact .inr ⟨j,by rw [putO_same,← eo]; exact z⟩
        · exact .inr ⟨j,by rw [putO_ne hj]; exact z⟩
  have kp:Kp (tot Z os) H (tot Z os) (upd H p (.lst vs')):=fun b u e z=>⟨by rw [upd_ne (fun w=>z (.inr ⟨i,by rw [w]; exact hpo⟩))]; exact e,z⟩
  have st:=f.step (H':=upd H p (.lst vs')) (i:=i) hi (o:=a::ps) (s:=.om (rows.set r ds')) (v:=some (.ref a)) (fun b u e n=>by rw [upd_ne (fun z=>n (by rw [z]; exact hpo))]; exact e) (fun b hb=>?_) hn (fun b hb=>by rw [← eo] at hb; exact .inl hb)
    ⟨a,ps,rfl,rfl,by rw [upd_ne hap]; exact hH,hlp,?_⟩
  · rw [set_self hu'] at st
    exact st
  · by_cases hb':b=p
    · rw [hb']; exact ⟨_,upd_same⟩
    · rw [upd_ne hb']; obtain ⟨xs,e⟩:=(f.sl i).dom hb; exact ⟨_,e⟩
  · rw [tt]
    exact Paired.setAt i1 (List.nodup_cons.mp hn).2 (fun q ds hq ⟨vs,h1,h2,h3⟩=>⟨vs,by rw [upd_ne hq]; exact h1,h2,h3.kp kp⟩) hr ⟨vs',upd_same,hl,h.kp kp⟩
theorem Fr.mutM {B H:Hp} {Z:Addr→Prop} {os:Own} {ρ:Rho} {σ:L2.St} (f:Fr K B Z os ρ σ H) {i r:Nat} {a p:Addr} {ps:List Addr} {rows:List (List D)} {ds':List D} {vs':List V} (e:ρ.getD i .un=.om rows) (eo:os i=a::ps) (hu:(σ[i]?).join=some (.ref a)) (hr:ps[r]?=some p) (hl:vs'.length≤sizeLine) (h:IsL K H (tot Z os) vs' ds') :
    ∃ os',Fr K B Z os' (ρ.set i (.om (rows.set r ds'))) σ (upd H p (.lst vs'))∧Kp (tot Z os) H (tot Z os') (upd H p (.lst vs')):=⟨_,f.mutM1 e eo hu hr hl h⟩
theorem row_at {B H:Hp} {Z:Addr→Prop} {os:Own} {ρ:Rho} {σ:L2.St} (f:Fr K B Z os ρ σ H) {i:Nat} {rows:List (List D)} {n:Int} {r:Nat} {ds:List D} (e:ρ.getD i .un=.om rows) (hn:ixN rows.length n=some r) (hd:rows[r]?=some ds) :
    ∃ a ps p vs,os i=a::ps∧(σ[i]?).join=some (.ref a)∧H a=some (.lst (ps.map V.ref))∧atI (ps.map V.ref) n=some (V.ref p)∧ps[r]?=some p∧H p=some (.lst vs)∧vs.length≤sizeLine∧IsL K H (tot Z os) vs ds:=by
  obtain ⟨a,ps,h1,h2,h3,h4,h5,h6⟩:=om_of f e
  obtain ⟨p,e1,vs,g1,g2,g3⟩:=Paired.getF h6 hd
  refine ⟨a,ps,p,vs,h1,h2,h3,?_,e1,g1,g2,g3⟩
  unfold atI
  rw [List.length_map,h5,hn]
  show (ps.map V.ref)[r]?=_
  rw [List.getElem?_map,e1]
  rfl
@[irreducible] noncomputable def sPut2 (i:Nat) (b c a:DE):DS:=fun ρ=>match ρ.getD i .un with
  | .om rows=>(match a ρ with
    | some d=>(match b ρ with
      | some (.int n)=>(match ixN rows.length n with
        | some r=>(match rows[r]? with
          | some ds=>(match c ρ with
            | some (.int m)=>(match ixN ds.length m with
              | some j=>.nx (ρ.set i (.om (rows.set r (ds.set j d))))
              | none=>.no)
            | _=>.no)
          | none=>.no)
        | none=>.no)
      | _=>.no)
    | none=>.no)
  | _=>.no
theorem ss_put2 {i:Nat} {ta tb tc:TE} {a b c:DE} (ha:SemI K ta a) (hb:SemB K tb b) (hc:SemB K tc c):SemS fr K (tAsg ta (gSub (tOp (rIx K) (tVar i) tb) tc rSetL)) (sPut2 i b c a):=fun {B Z os ρ σ H E} f p=>by
  unfold sPut2 at p
  split at p
  · rename_i rows e
    split at p
    · rename_i d e1
      split at p
      · rename_i n e2
        split at p
        · rename_i r e3
          split at p
          · rename_i ds e4
            split at p
            · rename_i m e5
              split at p
              · rename_i j e6
                obtain ⟨x,ps,q,vs,eo,hu,hH,hat,hr,hq,hl,il⟩:=row_at f e e3 e4
                refine ha f e1 fun v H1 s1 i1=>⟨_,join_some hu,hb (f.grow s1) e2 fun w H2 s2 i2=>?_⟩
                have s12:=s1.trans s2
                refine .inl ⟨x,ps.map V.ref,n,.ref q,rfl,i2.isInt,SqL.of (s12 _ _ hH),hat,hc (f.grow s12) e5 fun u H3 s3 i3=>?_⟩
                have s13:=s12.trans s3
                have f3:=f.grow s13
                obtain ⟨os',f',k⟩:=f3.mutM (vs':=vs.set j v) (ds':=ds.set j d) e eo hu hr (by rw [List.length_set]; exact hl) ((il.same s13).set ((i1.same s2).same s3) j)
                exact ⟨q,vs,m,j,rfl,i3.isInt,s13 _ _ hq,by rw [il.length]; exact e6,p os' _ _ f' ((Kp.same s13).trans k)⟩
              · exact p.elim
            · exact p.elim
          · exact p.elim
        · exact p.elim
      · exact p.elim
    · exact p.elim
  · exact p.elim
end
end VL
namespace VL
open PySem L2
open Classical
noncomputable section
variable [Tabs] {K:PySem.W.Frag} {fr:Fm}
theorem blockFrZ {B H1 H:Hp} {Z W:Addr→Prop} {os:Own} {ρ:Rho} {σ:L2.St} (f:Fr K B Z os ρ σ H1) (s:Same H1 H) (hw:∀ a,W a→∃ o,H a=some o) (hk:Kp (tot Z os) H1 W H) (k:Nat) (cs:List Nat) :
    Fr K H1 W (fun _=>[]) (r0 k cs ρ) (s0 k cs σ) H where
  keep:=s
  zin:=hw
  tab:=f.tabH
  len:=by unfold r0 s0; simp
  nd:=fun _=>List.nodup_nil
  dj:=fun _ _ _ h=>by cases h
  new:=fun _ _ h=>by cases h
  sl:=fun j=>by
    have kp:Kp (tot Z os) H1 (tot W fun _=>[]) H:=fun a u e z=>⟨(hk a u e z).1,fun q=>q.elim (hk a u e z).2 fun ⟨_,q⟩=>by cases q⟩
    unfold r0 s0
    rw [List.getD_eq_getElem?_getD]
    by_cases hj:j<k
    · rw [List.getElem?_append_left (by simpa using hj),List.getElem?_append_left (by simpa using hj),List.getElem?_replicate,if_pos hj]
      exact rfl
    · rw [List.getElem?_append_right (by simpa using hj),List.getElem?_append_right (by simpa using hj),List.length_replicate,List.length_replicate,List.getElem?_map,List.getElem?_map]
      cases e:cs[j-k]? with
      | none=>exact rfl
      | some i =>
        have h:=f.sl i
        show SlOk K _ _ _ _ (view (ρ.getD i .un)) ((σ[i]?).join)
        cases e2:ρ.getD i .un with
        | un=>exact rfl
        | pu d =>
          rw [e2] at h
          obtain ⟨_,u,hu,i1⟩:=h
          exact ⟨rfl,u,hu,i1.kp kp⟩
        | bo d =>
          rw [e2] at h
          obtain ⟨_,u,hu,i1⟩:=h
          exact ⟨rfl,u,hu,i1.same f.keep⟩
        | ol ds =>
          rw [e2] at h
          obtain ⟨a,vs,_,hu,hH,hl,i1⟩:=h
          exact ⟨rfl,_,hu,.lst (fun z=>z) (.inl hH) hl i1.all⟩
        | om rows =>
          rw [e2] at h
          obtain ⟨a,ps,_,hu,hH,hl,i1⟩:=h
          exact ⟨rfl,_,hu,.lst (fun z=>z) (.inl hH) (by rw [List.length_map]; exact hl) (rows_is i1)⟩
        | od kvs =>
          rw [e2] at h
          obtain ⟨a,_,hu,hH,hl⟩:=h
          exact ⟨rfl,_,hu,.dct (fun z=>z) (.inl hH) hl⟩
        | pm a ps rows =>
          rw [e2] at h
          obtain ⟨_,hu,hH,hl,i1⟩:=h
          exact ⟨rfl,_,hu,.lst (fun z=>z) (.inl hH) (by rw [List.length_map]; exact hl) (rows_is i1)⟩
        | pd a kvs =>
          rw [e2] at h
          obtain ⟨_,hu,hH,hl⟩:=h
          exact ⟨rfl,_,hu,.dct (fun z=>z) (.inl hH) hl⟩
def compGoM (g:DG) (t:Rho→Option Bool) (e:Rho→Option (List D)) (ρ0:Rho):List D→Option (List (List D))
  | []=>some []
  | d::ds=>match g d ρ0 with
    | none=>none
    | some ρ1=>match t ρ1 with
      | none=>none
      | some false=>compGoM g t e ρ0 ds
      | some true=>match e ρ1 with
        | none=>none
        | some y=>match compGoM g t e ρ0 ds with
          | none=>none
          | some ys=>some (y::ys)
noncomputable def dCompM (k:Nat) (cs:List Nat) (it:Rho→Option (List D)) (g:DG) (t:Rho→Option Bool) (e:Rho→Option (List D)):Rho→Option (List (List D)):=fun ρ=>match it ρ with
  | some ds=>compGoM g t e (r0 k cs ρ) ds
  | none=>none
theorem sm_comp {m:Bool} {k:Nat} {cs:List Nat} {wi:TI} {g:TG} {tt:TT} {te:TE} {it:Rho→Option (List D)} {gd:DG} {td:Rho→Option Bool} {ed:Rho→Option (List D)} (hw:SemWC K m wi it) (hg:SemG K m g gd) (ht:SemT K tt td) (he:SemF K te ed) :
    SemM K (tComp wi g tt te (s0 k cs)) (dCompM k cs it gd td ed):=fun {B Z os ρ σ H Q ds} f q kk=>by
  unfold dCompM at q
  split at q
  · rename_i xs e0
    refine hw f e0 fun J H1 s1 W Dl hD=>?_
    have f1:=f.grow s1
    have sD:∀ {H2:Hp} {ys:List V},Same H1 H2→Same H1 (upd H2 Dl (.lst ys)):=fun {H2 ys} s a o e=>by
      rw [upd_ne (ne_of_none e hD)]; exact s _ _ e
    let ZZ:List Addr→Addr→Prop:=fun ps a=>(a=Dl∨a∈ps)∨tot Z os a
    refine ⟨fun i m ys H2=>m=xs.length-i∧i≤xs.length∧Same H1 H2∧H2 Dl=some (.lst ys)∧ys.length≤i∧∃ ps done rest,ys=ps.map V.ref∧(∀ a∈ps,H1 a=none)∧(Dl::ps).Nodup∧Paired (fun q ds=>∃ vs,H2 q=some (.lst vs)∧vs.length≤sizeLine∧IsL K H2 (ZZ ps) vs ds) ps done∧compGoM gd td ed (r0 k cs ρ) (xs.drop i)=some rest∧done++rest=ds,
      ⟨_,rfl,Nat.zero_le _,sD (Same.refl _),upd_same,Nat.le_refl _,[],[],ds,rfl,(fun a h=>by cases h),(by simp),.nil,q,rfl⟩,?_⟩
    rintro i mm ys H2 ⟨rfl,hi,s2,eD,hly,ps,done,rest,rfl,hps,hnd,il,q2,ed2⟩
    have zin2:∀ a,ZZ ps a→∃ o,H2 a=some o:=by
      rintro a ((rfl | z) | z)
      · exact ⟨_,eD⟩
      · obtain ⟨_,vs,h,_⟩:=Paired.any il z
        exact ⟨_,h⟩
      · obtain ⟨u,e⟩:=f1.tin a z
        exact ⟨u,s2 _ _ e⟩
    have kp12:Kp (tot Z os) H1 (ZZ ps) H2:=fun a u e z=>⟨s2 _ _ e,fun w=>by
      rcases w with (rfl | w) | w
      · rw [hD] at e; cases e
      · rw [hps a w] at e; cases e
      · exact z w⟩
    by_cases hlt:i<xs.length
    · have ex:xs[i]?=some xs[i]:=List.getElem?_eq_getElem hlt
      obtain ⟨go,yl⟩:=W.go i xs[i] H2 _ kp12 s2 zin2 ex
      refine .inr ⟨go,fun x H3 hy=>?_⟩
      obtain ⟨s3,er⟩:=yl x H3 hy
      have eD3:=s3 _ _ eD
      have s13:=s2.trans s3
      have kp13:Kp (tot Z os) H1 (ZZ ps) H3:=kp12.trans (Kp.same s3)
      have ef3:=blockFrZ f1 s13 (fun a z=>let ⟨o,e⟩:=zin2 a z; ⟨o,s3 _ _ e⟩) kp13 k cs
      rw [List.drop_eq_getElem_cons hlt] at q2
      unfold compGoM at q2
      have er':ER K m H1 H3 (tot (ZZ ps) fun _=>[]) x xs[i]:=by
        cases m with
        | false=>exact er
        | true=>exact Is.kp (Kp.less fun a z=>z.elim id fun ⟨_,w⟩=>by cases w) er
      have il3:∀ {H':Hp},Same H2 H'→Paired (fun q ds=>∃ vs,H' q=some (.lst vs)∧vs.length≤sizeLine∧IsL K H' (ZZ ps) vs ds) ps done:=fun {H'} s=>Paired.mono il fun q ds _ ⟨vs,h1,h2,h3⟩=>⟨vs,s _ _ h1,h2,h3.same s⟩
      split at q2
      · cases q2
      · rename_i ρ1 e1
        refine hg ef3 er' e1 fun os1 σ1 fr1 k1=>?_
        split at q2
        · cases q2
        · rename_i e2
          refine ht fr1 e2 fun H4 s4=>iteF ⟨_,by omega,rfl,hlt,s13.trans s4,s4 _ _ eD3,by omega,ps,done,rest,rfl,hps,hnd,il3 (s3.trans s4),q2,ed2⟩
        · rename_i e2
          refine ht fr1 e2 fun H4 s4=>iteT ?_
          split at q2
          · cases q2
          · rename_i y e3
            split at q2
            · cases q2
            · rename_i rs e4
              cases q2
              refine he (fr1.grow s4) e3 fun x2 vs2 H5 s5 hx2 hH5 hl5 i5=>?_
              have s35:=s4.trans s5
              have s25:=s3.trans s35
              have eD5:=s35 _ _ eD3
              have hl:=W.len
              have hx3:H3 x2=none:=Same.free s4 hx2
              have hxD:x2≠Dl:=fun z=>by rw [z,eD3] at hx3; cases hx3
              have hxps:x2∉ps:=fun z=>by
                obtain ⟨o,e⟩:=zin2 x2 (.inl (.inr z))
                rw [s3 _ _ e] at hx3; cases hx3
              have hxt:¬ tot Z os x2:=fun z=>by
                obtain ⟨o,e⟩:=zin2 x2 (.inr z)
                rw [s3 _ _ e] at hx3; cases hx3
              have sub:∀ a,ZZ (ps++[x2]) a→a=x2∨ZZ ps a:=by
                rintro a ((rfl | z) | z)
                · exact .inr (.inl (.inl rfl))
                · rcases List.mem_append.mp z with z | z
                  · exact .inr (.inl (.inr z))
                  · exact .inl (List.mem_singleton.mp z)
                · exact .inr (.inr z)
              have sup:∀ a,a=x2∨ZZ ps a→ZZ (ps++[x2]) a:=by
                rintro a (rfl | (rfl | z) | z)
                · exact .inl (.inr (by simp))
                · exact .inl (.inl rfl)
                · exact .inl (.inr (List.mem_append_left _ z))
                · exact .inr z
              have kp5:∀ (zs:List V),Kp (ZZ ps) H2 (ZZ (ps++[x2])) (upd H5 Dl (.lst zs)):=fun zs a u e z=>⟨by rw [upd_ne (fun w=>z (.inl (.inl w)))]; exact s25 _ _ e,fun w=>by
                rcases sub a w with rfl | w
                · rw [s3 _ _ e] at hx3; cases hx3
                · exact z w⟩
              have kp6:∀ (zs:List V),Kp (ZZ (ps++[x2])) H5 (ZZ (ps++[x2])) (upd H5 Dl (.lst zs)):=fun zs a u e z=>⟨by rw [upd_ne (fun w=>z (.inl (.inl w)))]; exact e,z⟩
              refine ⟨eD5,by rw [List.length_map] at hly ⊢; omega,_,by omega,rfl,hlt,sD (s13.trans s35),upd_same,by rw [List.length_append,List.length_singleton]; omega,ps++[x2],done++[y],rs,by rw [List.map_append]; rfl,fun a ha=>?_,?_,?_,e4,by rw [List.append_assoc]; exact ed2⟩
              · rcases List.mem_append.mp ha with ha | ha
                · exact hps a ha
                · rw [List.mem_singleton.mp ha]; exact Same.free s13 hx3
              · rw [← List.cons_append,List.nodup_append]
                refine ⟨hnd,by simp,fun a h1 b h2=>?_⟩
                rw [List.mem_singleton.mp h2]
                rintro rfl
                rcases List.mem_cons.mp h1 with z | z
                · exact hxD z
                · exact hxps z
              · refine Paired.append (Paired.mono il fun q ds hq ⟨vs,h1,h2,h3⟩=>⟨vs,?_,h2,h3.kp (kp5 _)⟩) (.cons ⟨vs2,?_,hl5,?_⟩ .nil)
                · rw [upd_ne (fun z=>by rw [z] at hq; exact (List.nodup_cons.mp hnd).1 hq)]; exact s25 _ _ h1
                · rw [upd_ne hxD]; exact hH5
                · exact (i5.kp (Kp.less fun a z=>by
                    rcases sub a z with z | z
                    · exact .inl z
                    · exact .inr (.inl z)):IsL K H5 (ZZ (ps++[x2])) vs2 y).kp (kp6 _)
    · have e:i=xs.length:=by omega
      subst e
      rw [List.drop_length] at q2
      cases q2
      rw [List.append_nil] at ed2
      subst ed2
      have hl:=W.len
      rw [List.length_map] at hly
      exact .inl ⟨W.stop _ H2 _ kp12 s2 rfl,eD,kk Dl ps H2 (s1.trans s2) (Same.free s1 hD) (fun a ha=>Same.free s1 (hps a ha)) hnd eD (by omega) il⟩
  · cases q
section
variable {s u b:DS} {ρ:Rho} {W:Wk} {i:Nat} {a e k c:DE} {d:D} {rows:List (List D)} {ds:List D}
theorem wp_setM {es:Rho→Option (List (List D))} (h:es ρ=some rows) (hi:i < ρ.length) (k:W.nx (ρ.set i (.om rows))):Wp (sSetM i es) ρ W:=by unfold Wp sSetM; rw [h]; simp only [if_pos hi]; exact k
theorem wp_retXM (h:ρ.getD i .un=.om rows) (k:W.rt (rowsL rows)):Wp (sRetXM i) ρ W:=by unfold Wp sRetXM; rw [h]; exact k
theorem wp_put2 {n m:Int} {r j:Nat} (h0:ρ.getD i .un=.om rows) (h1:a ρ=some d) (h2:e ρ=some (.int n)) (h3:ixN rows.length n=some r) (h4:rows[r]?=some ds) (h5:c ρ=some (.int m)) (h6:ixN ds.length m=some j) (k:W.nx (ρ.set i (.om (rows.set r (ds.set j d))))):Wp (sPut2 i e c a) ρ W:=by
  unfold Wp sPut2; rw [h0]; simp only [h1,h2,h3,h4,h5,h6]; exact k
theorem ev_callM {F:List D→Option D} {es:Rho→Option (List D)} {xs:List D} (h:es ρ=some xs) (h2:F xs=some (rowsL rows)):dCallM F es ρ=some rows:=by unfold dCallM dCall; rw [h]; simp only [h2]; exact unrows_map rows
theorem ev_compM {α:Type} {k:Nat} {cs:List Nat} {it:Rho→Option (List D)} {g:DG} {t:Rho→Option Bool} {el:Rho→Option (List D)} (emb:α→D) {xs:List α} (h:it ρ=some (xs.map emb)) (p:α→Bool) (f:α→List D)
    (hs:∀ x∈xs,∃ ρ1,g (emb x) (r0 k cs ρ)=some ρ1∧t ρ1=some (p x)∧(p x=true→el ρ1=some (f x))):dCompM k cs it g t el ρ=some ((xs.filter p).map f):=by
  unfold dCompM
  rw [h]
  show compGoM g t el (r0 k cs ρ) (xs.map emb)=_
  clear h
  induction xs with
  | nil=>rfl
  | cons x r ih =>
    obtain ⟨ρ1,e1,e2,e3⟩:=hs x List.mem_cons_self
    rw [List.map_cons]
    unfold compGoM
    rw [e1]
    dsimp only
    rw [e2]
    have q:=ih fun y hy=>hs y (List.mem_cons_of_mem _ hy)
    cases hp:p x with
    | false=>rw [List.filter_cons_of_neg (by rw [hp]; exact Bool.false_ne_true)]; exact q
    | true =>
      rw [List.filter_cons_of_pos hp,List.map_cons]
      dsimp only
      rw [e3 hp]
      dsimp only
      rw [q]
theorem ev_compM0 {α:Type} {k:Nat} {cs:List Nat} {it:Rho→Option (List D)} {g:DG} {el:Rho→Option (List D)} (emb:α→D) {xs:List α} (h:it ρ=some (xs.map emb)) (f:α→List D)
    (hs:∀ x∈xs,∃ ρ1,g (emb x) (r0 k cs ρ)=some ρ1∧el ρ1=some (f x)):dCompM k cs it g dTrue el ρ=some (xs.map f):=by
  have:=ev_compM (k:=k) (cs:=cs) (g:=g) (t:=dTrue) (el:=el) emb h (fun _=>true) f fun x hx=>let ⟨ρ1,e1,e2⟩:=hs x hx; ⟨ρ1,e1,rfl,fun _=>e2⟩
  rw [this,List.filter_eq_self.mpr fun _ _=>rfl]
end
theorem run_ofG {F:List D→Option D} {n:Nat} {ms:List Bool} {b:DS} (hF:F=runF n ms b) {ds:List D} {P:D→Prop} (h:Wp b (stD n ms ds) { nx:=fun _=>False,rt:=P }):∃ d,F ds=some d∧P d:=by
  rw [hF]
  unfold runF
  unfold Wp at h
  cases e:b (stD n ms ds) with
  | rt x=>rw [e] at h; exact ⟨x,rfl,h⟩
  | nx ρ=>rw [e] at h; exact h.elim
  | bk ρ=>rw [e] at h; exact h.elim
  | ct ρ=>rw [e] at h; exact h.elim
  | no=>rw [e] at h; exact h.elim
end
end VL
namespace VL
open PySem L2
open Classical
noncomputable section
variable [Tabs] {K:PySem.W.Frag} {fr:Fm}
inductive Puts (K:PySem.W.Frag):List (TE×TE)→List (DE×DE)→Prop
  | nil:Puts K [] []
  | cons {tc ta:TE} {c a:DE} {l:List (TE×TE)} {l':List (DE×DE)} (ha:SemI K ta a) (hc:SemB K tc c) (r:Puts K l l'):Puts K ((tc,ta)::l) ((c,a)::l')
end
end VL
namespace L2
open PySem PySem.Spec PyProof.Rows
structure Hop (fr ch:List Addr) (h h':Heap):Prop where
  keep:∀ b o,b∉fr→b∉ch→h.get? b=some o→h'.get? b=some o
  slot:∀ b o,b∉ch→h.get? b=some o→∃ sl,h'.get? b=some { o with slots:=sl }
section
variable {M:Model} {A:Around} {E:Value→Shared→Prop} {s:Shared} {base:Heap} {env:Env} {outer:List Env} {L e T:Addr} {cls fl:Value} {Q:Unit→Shared→Prop}
end
structure Out (X:Cx) (pins:List (Addr×Obj)) (H:Hp) (b:Addr):Prop where
  h:H b=none
  s0:X.s₀.heap.get? b=none
  loc:b≠X.env.locals
  cell:∀ x c,X.env.cells.lookup x=some c→c≠b
  pin:∀ p∈X.pn++pins,p.1≠b
section
variable {P:Program} {w:World} {H:Hp} {h:Heap} {a:Addr} {o:HO}
end
section
variable {X:Cx} {pins:List (Addr×Obj)} {σ:St} {H H':Hp} {s:Shared}
end
structure OwnX (X:Cx):Prop where
  stk:X.stack=X.env::X.outer
  fr:X.env.frame=some X.env.locals
  ex:X.ex=[]
section
variable {X:Cx} {pins:List (Addr×Obj)} {σ:St} {H:Hp} {s s':Shared} {E:XK} {e:Value}
end
end L2
namespace L2
open PySem PySem.Spec PyProof.Rows
section
variable {X:Cx} {pins:List (Addr×Obj)} {σ:St} {H:Hp} {s:Shared} {a:Addr} {u:HO}
end
section
variable {X:Cx} {k:Nat} {f:Addr} {fd:FuncData} {ps:List Str} {sp:Sp} {x y n v:Str} {e:Expr} {es:List Expr} {t:TA} {F:Value} {iv ie:Nat} {p1 p2 p3 p4 p5 p6 p7 p8 pos:Pos}
end
structure ExcK (K:PySem.W.Frag) (C:Addr):Prop where
  ga:PySem.W.findIn K (.ref C) "__getattribute__" = some (some (.builtin "BaseException.__getattribute__"))
  gk:PySem.W.findIn K (.ref C) "__getattr__" = some none
  hd:PySem.W.hasDictIn K C=true
  ca:PySem.W.findIn K (.ref C) "__class__" = some (some (.builtin "object.__class__"))
  sp:PySem.W.specialIn K (.builtin "object.__class__") "__get__" = some (some (.builtin "getset_descriptor.__get__"))
  tk:PySem.W.takesIn K (.builtin "object.__class__")=some true
  mro:PySem.W.mroIn K C (.type "object")=some true
  mrb:PySem.W.mroIn K C (.type "BaseException")=some true
end L2
namespace L2
open PySem PySem.Spec PyProof.Rows
inductive PParts (X:Cx):List Expr→List TE→Prop
  | nil:PParts X [] []
  | text {x:Str} {j p es ts} (hx:x.length≤1000) (h:PParts X es ts):PParts X (.Constant (.str x) j p::es) ts
  | val {e:Expr} {p es ts} {t:TE} (he:PE X e t) (h:PParts X es ts):PParts X (.FormattedValue e (-1) none p::es) (t::ts)
end L2
namespace VL
open PySem L2
open Classical
noncomputable section
variable [Tabs] {K:PySem.W.Frag}
variable {E:XK} {C:Addr}
inductive SemJ (K:PySem.W.Frag):List TE→List DE→Prop
  | nil:SemJ K [] []
  | cons {t ts a as} (h:SemB K t a) (r:SemJ K ts as):SemJ K (t::ts) (a::as)
theorem same_new {H:Hp} {a:Addr} {o:HO} (h:H a=none):Same H (upd H a o):=fun b u e=>by rw [upd_ne (ne_of_none e h)]; exact e
variable {iv ie:Nat}
end
end VL
namespace VL
open PySem L2
open Classical
noncomputable section
variable [Tabs] {K:PySem.W.Frag} {fr:Fm}
noncomputable def dMNil:Rho→Option (List (List D)):=fun _=>some []
theorem sm_nil:SemM K (tLst tNil) dMNil:=fun {B Z os ρ σ H Q rows} f q k=>by
  cases q
  exact ⟨Nat.zero_le _,fun p hp=>k p [] _ (same_new hp) hp (fun _ z=>nomatch z) (List.nodup_cons.mpr ⟨(fun z=>by cases z),List.nodup_nil⟩) upd_same (Nat.zero_le _) .nil⟩
@[irreducible] noncomputable def sAppM (i:Nat) (a:Rho→Option (List D)):DS:=fun ρ=>match ρ.getD i .un with
  | .om rows=>(match a ρ with
    | some ds=>if rows.length<sizeLine then .nx (ρ.set i (.om (rows++[ds]))) else .no
    | none=>.no)
  | _=>.no
theorem ss_appM {i:Nat} {ta:TE} {a:Rho→Option (List D)} (ha:SemF K ta a):SemS fr K (tDrop (tBM K "list" rAppend (tVar i) (tCons ta tNil))) (sAppM i a):=fun {B Z os ρ σ H E} f p=>by
  unfold sAppM at p
  split at p
  case h_2=>exact p.elim
  case h_1 rows e =>
    split at p
    case h_2=>exact p.elim
    case h_1 ds e1 =>
      by_cases hz:rows.length<sizeLine
      · rw [if_pos hz] at p
        obtain ⟨o,ps,eo,hu,hH,hl,hln,pr⟩:=om_of f e
        refine ⟨_,join_some hu,.inl ⟨rfl,_,SqL.of hH⟩,ha f e1 fun x vs H1 s1 hx hx1 hlv iv=>?_⟩
        have hi:=getD_lt e (by intro z; cases z)
        have hn:=f.nd i
        rw [eo] at hn
        have hxo:x∉o::ps:=fun z=>by
          obtain ⟨xs,q⟩:=(f.sl i).dom (by rw [eo]; exact z)
          rw [hx] at q; cases q
        have hxo1:o≠x:=fun z=>hxo (by rw [z]; exact List.mem_cons_self)
        have hoi:o∈os i:=by rw [eo]; exact List.mem_cons_self
        have sub:∀ c,tot Z (putO os i (o::(ps++[x]))) c→c=x∨tot Z os c:=by
          rintro c (z | ⟨j,z⟩)
          · exact .inr (.inl z)
          · by_cases hj:j=i
            · subst hj
              rw [putO_same] at z
              rcases List.mem_cons.mp z with z | z
              · exact .inr (.inr ⟨j,by rw [z]; exact hoi⟩)
              · rcases List.mem_append.mp z with z | z
                · exact .inr (.inr ⟨j,by rw [eo]; exact List.mem_cons_of_mem _ z⟩)
                · exact .inl (List.mem_singleton.mp z)
            · rw [putO_ne hj] at z; exact .inr (.inr ⟨j,z⟩)
        have kp:Kp (tot Z os) H (tot Z (putO os i (o::(ps++[x])))) (upd H1 o (.lst ((ps++[x]).map V.ref))):=fun c u q z=>by
          refine ⟨by rw [upd_ne (fun w=>z (.inr ⟨i,by rw [w]; exact hoi⟩))]; exact s1 _ _ q,fun w=>?_⟩
          rcases sub c w with rfl | w
          · rw [hx] at q; cases q
          · exact z w
        have kpx:Kp (fun c=>c=x∨tot Z os c) H1 (tot Z (putO os i (o::(ps++[x])))) (upd H1 o (.lst ((ps++[x]).map V.ref))):=fun c u q z=>by
          refine ⟨by rw [upd_ne (fun w=>z (.inr (.inr ⟨i,by rw [w]; exact hoi⟩)))]; exact q,fun w=>z (sub c w)⟩
        have hpo:∀ q∈ps,o≠q:=fun q hq z=>(List.nodup_cons.mp hn).1 (by rw [z]; exact hq)
        have st:=f.step (H':=upd H1 o (.lst ((ps++[x]).map V.ref))) (i:=i) hi (o:=o::(ps++[x])) (s:=.om (rows++[ds])) (v:=some (.ref o)) (fun c u q nn=>by rw [upd_ne (fun z=>nn (by rw [z]; exact hoi))]; exact s1 _ _ q) (fun c hc=>?_)
          (List.nodup_cons.mpr ⟨fun z=>?_,?_⟩) (fun c hc=>?_)
          ⟨o,ps++[x],rfl,rfl,upd_same,by rw [List.length_append,List.length_singleton]; omega,Paired.append (Paired.mono pr fun q ds' hq ⟨us,h1,h2,h3⟩=>⟨us,by rw [upd_ne (Ne.symm (hpo q hq))]; exact s1 _ _ h1,h2,h3.kp kp⟩) (.cons ⟨vs,by rw [upd_ne (Ne.symm hxo1)]; exact hx1,hlv,iv.kp kpx⟩ .nil)⟩
        · rw [set_self hu] at st
          refine ⟨o,ps.map V.ref,.ref x,rfl,rfl,s1 _ _ hH,by rw [List.length_map,hln]; exact hz,?_⟩
          have em:ps.map V.ref++[V.ref x]=(ps++[x]).map V.ref:=by rw [List.map_append]; rfl
          rw [em]
          exact p _ _ _ st.1 st.2
        · by_cases hc':c=o
          · rw [hc']; exact ⟨_,upd_same⟩
          · obtain ⟨xs,q⟩:=(f.sl i).dom hc
            exact ⟨_,by rw [upd_ne hc']; exact s1 _ _ q⟩
        · rcases List.mem_append.mp z with z | z
          · exact (List.nodup_cons.mp hn).1 z
          · exact hxo1 (List.mem_singleton.mp z)
        · exact List.nodup_append.mpr ⟨(List.nodup_cons.mp hn).2,List.nodup_cons.mpr ⟨(fun z=>by cases z),List.nodup_nil⟩,fun a ha b hb z=>by
            rw [List.mem_singleton.mp hb] at z
            exact hxo (List.mem_cons_of_mem _ (by rw [← z]; exact ha))⟩
        · rcases List.mem_cons.mp hc with z | z
          · exact .inl (by rw [z]; exact hoi)
          · rcases List.mem_append.mp z with z | z
            · exact .inl (by rw [eo]; exact List.mem_cons_of_mem _ z)
            · exact .inr (by rw [List.mem_singleton.mp z]; exact hx)
      · rw [if_neg hz] at p; exact p.elim
theorem Fr.forget {B H:Hp} {Z:Addr→Prop} {os:Own} {ρ:Rho} {σ:L2.St} (f:Fr K B Z os ρ σ H) {r:Nat} (hr:r < ρ.length) (v:Option V):Fr K B Z (putO os r []) (ρ.set r .un) (σ.set r v) H∧Kp (tot Z os) H (tot Z (putO os r [])) H :=
  f.step hr (fun a u e _=>e) (fun a ha=>let ⟨xs,e⟩:=(f.sl r).dom ha; ⟨_,e⟩) List.nodup_nil (fun a h=>nomatch h) rfl
def Ag (is:List Nat) (σ σ':L2.St):Prop:=σ'.length=σ.length∧∀ j,j∉is→σ'[j]?=σ[j]?
theorem Ag.refl {is:List Nat} {σ:L2.St}:Ag is σ σ:=⟨rfl,fun _ _=>rfl⟩
theorem Ag.set {is:List Nat} {σ σ':L2.St} {i:Nat} {v:Option V} (h:Ag is σ σ') (hi:i∈is):Ag is σ (σ'.set i v) :=
  ⟨by rw [List.length_set]; exact h.1,fun j hj=>by rw [List.getElem?_set_ne fun z=>hj (by rw [← z]; exact hi)]; exact h.2 j hj⟩
theorem Ag.two {r n:Nat} {σ σ':L2.St} (h:Ag [r,n] σ σ'):σ'=(σ.set r (σ'[r]?).join).set n (σ'[n]?).join:=by
  refine List.ext_getElem? fun j=>?_
  by_cases hn:j=n
  · subst hn
    by_cases hl:j < σ.length
    · rw [List.getElem?_set_self (by rw [List.length_set]; exact hl),List.getElem?_eq_getElem (by rw [h.1]; exact hl)]; rfl
    · rw [List.getElem?_eq_none (by rw [h.1]; omega),List.getElem?_eq_none (by rw [List.length_set,List.length_set]; omega)]
  · rw [List.getElem?_set_ne (Ne.symm hn)]
    by_cases hr:j=r
    · subst hr
      by_cases hl:j < σ.length
      · rw [List.getElem?_set_self hl,List.getElem?_eq_getElem (by rw [h.1]; exact hl)]; rfl
      · rw [List.getElem?_eq_none (by rw [h.1]; omega),List.getElem?_eq_none (by rw [List.length_set]; omega)]
    · rw [List.getElem?_set_ne (Ne.symm hr)]
      exact h.2 j (by simp [hn,hr])
theorem wp_appM {i:Nat} {a:Rho→Option (List D)} {ρ:Rho} {rows:List (List D)} {ds:List D} {W:Wk} (h0:ρ.getD i .un=.om rows) (h:a ρ=some ds) (hl:rows.length<sizeLine) (k:W.nx (ρ.set i (.om (rows++[ds])))):Wp (sAppM i a) ρ W:=by
  unfold Wp sAppM; rw [h0]; simp only [h,if_pos hl]; exact k
end
end VL
namespace Srt
open PySem PySem.W PyProof.Rows
section
variable {lt:Nat→Nat→Bool} {N:Nat}
structure Ord (lt:Nat→Nat→Bool):Prop where
  tr:∀ a b c,lt b a=false→lt c b=false→lt c a=false
  as:∀ a b,lt a b=true→lt b a=false
abbrev g (p:Array Nat) (i:Nat):Nat:=p.getD i 0
end
end Srt
namespace L2
open PySem PySem.Spec PyProof.Rows
section
variable {X:Cx} {pins:List (Addr×Obj)} {σ:St} {H:Hp} {s:Shared}
end
section
open PySem.W
variable {prog:Program} {w:World} {A:Around} {E:Value→Shared→Prop} {s:Shared} {a:Addr} {n:Nat} {vs:List Value}
end
end L2
namespace L2
open PySem PySem.Spec PyProof.Rows
end L2
namespace VL
open PySem L2
open Classical
noncomputable section
variable [Tabs] {K:PySem.W.Frag}
def t3 (z:Int×Int×Int):D:=.tup [.int z.1,.int z.2.1,.int z.2.2]
end
end VL
namespace L2
open PySem PySem.Spec PyProof.Rows
section
variable {M:Model} {A:Around} {E:Value→Shared→Prop} {s:Shared} {base:Heap} {env:Env} {outer:List Env} {L e T:Addr} {cls fl:Value} {Q:Unit→Shared→Prop}
end
section
variable {X:Cx} {pins:List (Addr×Obj)} {σ:St} {H:Hp} {s s':Shared} {E:XK} {e:Value}
end
section
variable {prog:Program} {w:World} {A:Around} {R:Result→Shared→Prop} {s:Shared}
end
section
variable {X:Cx} {tg elt iter:Expr} {scope:Scope} {cl:List (Str×Addr)} {N':List Str} {σ0:St→St} {g:TG} {te:TE} {E:XK}
variable {pos:Pos} {wi:TI} {ts zs:List Str} {is:List Nat} {k:Nat}
end
end L2
namespace VL
open PySem L2
open Classical
noncomputable section
variable [Tabs] {K:PySem.W.Frag} {E:XK} {C:Addr}
end
end VL
namespace L2
open PySem PySem.Spec PyProof.Rows
def BmOk (mg:Str→Option Value) (base:Heap):Prop:=∃ bm ob,mg "__builtins__" = some (.ref bm)∧bm≠builtinsNs∧base.get? bm=some ob∧ob.cls=.type "module" ∧ ob.dict=some builtinsNs∧ob.data=.plain
structure LamOk (X:Cx) (c P:Addr):Prop where
  code:X.env.code=.ref c
  hd:PySem.W.codeHdIn X.K c P=true
  bm:BmOk X.mg X.base
structure LFrees (X:Cx) (x:Str) (zs:List Str) (is:List Nat) (scope:Scope) (cl:List (Str×Addr)):Prop where
  par:scope.names.lookup x=some .local
  sub:∀ y c,cl.lookup y=some c→X.env.cells.lookup y=some c
  cap:∀ (j:Nat) (z:Str),zs[j]?=some z→∃ i c,is[j]?=some i∧X.N[i]?=some z∧(X.env.scope.names.lookup z=some .cell∨X.env.scope.names.lookup z=some .free)∧cl.lookup z=some c∧scope.names.lookup z=some .free
  has:∀ y,(scope.names.lookup y=some .cell∨scope.names.lookup y=some .free)→∃ c,cl.lookup y=some c
  len:is.length=zs.length
  nocell:∀ y∈scope.names,y.2≠.cell
  kind:scope.kind=.function
  co:scope.isCoroutine=false
  gen:scope.isGenerator=false
inductive LapL (X:Cx) (scope:Scope) (cl:List (Str×Addr)):List Nat→List Str→Prop
  | nil:LapL X scope cl [] []
  | cons {i:Nat} {z:Str} {c:Addr} {is:List Nat} {zs:List Str}:X.N[i]?=some z→(X.env.scope.names.lookup z=some .cell∨X.env.scope.names.lookup z=some .free)→cl.lookup z=some c→scope.names.lookup z=some .free→LapL X scope cl is zs→LapL X scope cl (i::is) (z::zs)
end L2
namespace L2
open PySem PySem.Spec PyProof.Rows
section
variable {X:Cx} {pins:List (Addr×Obj)} {σ:St} {H:Hp} {s:Shared} {m:Str→Option Value} {h':Heap} {kS:Addr} {ok:Obj}
end
section
variable {X:Cx} {pins:List (Addr×Obj)} {σ:St} {m:Str→Option Value} {kS f:Addr} {o:Obj} {q:Str} {params:Arguments} {body:Expr} {scope:Scope} {cl:List (Str×Addr)} {A:Around} {x:Str} {zs:List Str} {is:List Nat} {te:TE} {Fin:List V→Hp→Prop}
structure Nil (X:Cx) (pins:List (Addr×Obj)) (H:Hp) (b:Addr):Prop where
  h:H b=none
  cell:∀ x c,X.env.cells.lookup x=some c→c≠b
  pin:∀ p∈X.pn++pins,p.1≠b
  fs:b∉X.fs
end
end L2
namespace L2
open PySem PySem.Spec PyProof.Rows PySem.Calls
section
open PySem.W
variable {prog:Program} {w:World} {A:Around} {E:Value→Shared→Prop} {s:Shared} {h₀:Heap} {L kS a:Addr} {m:Str→Option Value} {news:List (Addr×Obj)} {vs:List Value}
end
section
variable {X:Cx} {pins:List (Addr×Obj)} {σ:St} {m:Str→Option Value} {kS f:Addr} {o:Obj} {q:Str} {params:Arguments} {body:Expr} {scope:Scope} {cl:List (Str×Addr)} {A:Around} {x:Str} {zs:List Str} {is:List Nat} {te:TE} {Fin:List V→Hp→Prop}
end
end L2
namespace VL
open PySem L2
open Classical
noncomputable section
variable [Tabs] {K:PySem.W.Frag}
end
end VL
namespace L2
open PySem PySem.Spec PyProof.Rows
def tabH (ts:List (Addr×Str)):Hp:=fun b=>(ts.lookup b).map fun q=>.tbl #[.str q 0]
end L2
namespace L2
open PySem PySem.Spec PyProof.Rows
end L2
namespace VL
open PySem L2
open Classical
noncomputable section
variable [Tabs] {K:PySem.W.Frag}
def srtI (ns:List Int):List Int:=ns.mergeSort fun a b=>decide (a≤b)
omit [Tabs] in
theorem srtI_perm (ns:List Int):(srtI ns).Perm ns:=List.mergeSort_perm _ _
omit [Tabs] in
theorem srtI_up (ns:List Int):(srtI ns).Pairwise (·≤·):=by
  have h:=List.pairwise_mergeSort (le:=fun a b:Int=>decide (a≤b)) (fun a b c h1 h2=>by simp at *; omega) (fun a b=>by simp; omega) ns
  exact h.imp fun h=>by simpa using h
omit [Tabs] in
end
end VL
namespace L2
open PySem PySem.Spec PyProof.Rows
end L2
namespace VL
open PySem L2
open Classical
noncomputable section
variable [Tabs] {K:PySem.W.Frag}
end
end VL
namespace PySem.SeqAt
open AutoSeq1 (wpAny_loadPart')
open MeetsSeq MeetsSeq2 MeetsSeq3
section
variable {A:Around} {s:Shared}
end
end PySem.SeqAt
namespace VL
open PySem L2
open Classical
noncomputable section
variable {K:PySem.W.Frag}
def ordb:Nat→D→D→Bool
  | _,.int _,.int _=>true
  | n+1,.lst xs,.lst ys=>(List.zip xs ys).all fun p=>cmpb n p.1 p.2&&ordb n p.1 p.2
  | n+1,.tup xs,.tup ys=>(List.zip xs ys).all fun p=>cmpb n p.1 p.2&&ordb n p.1 p.2
  | _,_,_=>false
section
variable {X:Cx} {pins:List (Addr×Obj)} {σ:L2.St} {H:Hp} {s:Shared}
inductive Om:Nat→D→D→Prop
  | int {n:Nat} (a b:Int):Om n (.int a) (.int b)
  | lst {n:Nat} {xs ys:List D} (h:(List.zip xs ys).all (fun p=>cmpb n p.1 p.2&&ordb n p.1 p.2)=true):Om (n+1) (.lst xs) (.lst ys)
  | tup {n:Nat} {xs ys:List D} (h:(List.zip xs ys).all (fun p=>cmpb n p.1 p.2&&ordb n p.1 p.2)=true):Om (n+1) (.tup xs) (.tup ys)
end
end
end VL
namespace L2
open PySem PySem.Spec PyProof.Rows VL
section
variable {X:Cx} {pins P0 P1:List (Addr×Obj)} {σ:St} {H:Hp} {s:Shared} {h':Heap} {a:Addr} {oa oa':Obj} {t':Nat}
end
section
variable {X:Cx} {pins:List (Addr×Obj)} {σ:St} {f:Addr} {o:Obj} {q:Str} {params:Arguments} {body:Expr} {scope:Scope} {cl:List (Str×Addr)} {x:Str} {zs:List Str} {is:List Nat} {te:TE} {Fin:V→Hp→Prop} {kw:List (Str×Value)} {l I S:Addr} {vs:List V}
end
end L2
namespace L2
open PySem PySem.Spec PyProof.Rows VL
section
variable {X:Cx} {pins:List (Addr×Obj)} {σ:St} {q:Str} {params:Arguments} {body:Expr} {scope:Scope} {cl:List (Str×Addr)} {x:Str} {zs:List Str} {is:List Nat} {te:TE}
end
end L2
namespace VL
open PySem L2
open Classical
noncomputable section
variable [Tabs] {K:PySem.W.Frag}
end
end VL
namespace L2
open PySem PySem.Spec PyProof.Rows
section
variable {X:Cx} {pins:List (Addr×Obj)} {σ:St} {m:Str→Option Value} {kS f:Addr} {o:Obj} {q:Str} {params:Arguments} {body:Expr} {scope:Scope} {cl:List (Str×Addr)} {A:Around} {x:Str} {zs:List Str} {is:List Nat} {te:TE} {Fin:List V→Hp→Prop}
end
end L2
namespace VL
open PySem L2
open Classical
noncomputable section
variable [Tabs] {K:PySem.W.Frag}
end
end VL
namespace VL
open PySem L2
open Classical
noncomputable section
variable [Tabs] {K:PySem.W.Frag} {fr:Fm}
end
end VL
namespace PySem.SeqAt
end PySem.SeqAt
namespace L2
open PySem PySem.Spec PyProof.Rows
end L2
namespace L2
open PySem PySem.Spec PyProof.Rows
end L2
namespace VL
open PySem L2
open Classical
noncomputable section
variable [Tabs] {K:PySem.W.Frag}
end
end VL
namespace VL
open PySem L2
open Classical
noncomputable section
variable [Tabs] {K:PySem.W.Frag}
end
end VL
namespace VL
open PySem L2
open Classical
noncomputable section
variable [Tabs] {K:PySem.W.Frag}
end
end VL
namespace L2
open PySem PySem.Spec PyProof.Rows VL
open Classical
noncomputable section
variable {X:Cx} {K:PySem.W.Frag}
end
end L2
namespace VL
open PySem L2
open Classical
noncomputable section
variable [Tabs] {K:PySem.W.Frag}
end
end VL
namespace L2
open PySem PySem.Spec PyProof.Rows VL
section
variable {X:Cx} {pins:List (Addr×Obj)} {σ:St} {f:Addr} {o:Obj} {q:Str} {params:Arguments} {body:Expr} {scope:Scope} {cl:List (Str×Addr)} {x:Str} {zs:List Str} {is:List Nat} {te:TE} {Fin:V→Hp→Prop} {kw:List (Str×Value)} {l:Addr}
end
section
variable {X:Cx} {pins:List (Addr×Obj)} {σ:St} {q:Str} {params:Arguments} {body:Expr} {scope:Scope} {cl:List (Str×Addr)} {x:Str} {zs:List Str} {is:List Nat} {te:TE}
end
end L2
namespace VL
open PySem L2
open Classical
noncomputable section
variable [Tabs] {K:PySem.W.Frag}
end
end VL
namespace L2
open PySem PySem.Spec PyProof.Rows VL
def Rs (xs:Array Nat):Prop:=xs.toList.Pairwise (· < ·)
theorem Rs.lt {xs:Array Nat} (h:Rs xs) {i j:Nat} (hij:i<j) (hj:j<xs.size):xs[i]'(by omega)<xs[j]:=by
  have:=(List.pairwise_iff_getElem.mp h) i j (by simp; omega) (by simpa using hj) hij
  simpa using this
theorem below_go {xs:Array Nat} (h:Rs xs) (j:Nat):∀ (f lo hi:Nat),hi-lo≤f→lo≤hi→hi≤xs.size→(∀ k,(hk:k<xs.size)→k<lo→xs[k]<j)→(∀ k,(hk:k<xs.size)→hi≤k→j≤xs[k]) →
    SetTable.below.go xs j f lo hi≤xs.size∧(∀ k,(hk:k<xs.size)→k<SetTable.below.go xs j f lo hi→xs[k]<j)∧∀ k,(hk:k<xs.size)→SetTable.below.go xs j f lo hi≤k→j≤xs[k]
  | 0,lo,hi,hf,h1,h2,a,b=>by
    have e:lo=hi:=by omega
    subst e
    exact ⟨h2,a,b⟩
  | f+1,lo,hi,hf,h1,h2,a,b=>by
    unfold SetTable.below.go
    by_cases c:lo<hi
    · rw [if_pos c]
      have hm:(lo+hi) / 2<xs.size:=by omega
      have hg:xs.getD ((lo+hi) / 2) j=xs[(lo+hi) / 2]:=by simp [Array.getD,hm]
      dsimp only
      rw [hg]
      by_cases d:xs[(lo+hi) / 2]<j
      · rw [if_pos d]
        refine below_go h j f _ hi (by omega) (by omega) h2 (fun k hk hk2=>?_) b
        by_cases e:k=(lo+hi) / 2
        · subst e; exact d
        · have:=h.lt (i:=k) (j:=(lo+hi) / 2) (by omega) hm; omega
      · rw [if_neg d]
        refine below_go h j f lo _ (by omega) (by omega) (by omega) a fun k hk hk2=>?_
        by_cases e:k=(lo+hi) / 2
        · subst e; omega
        · have:=h.lt (i:=(lo+hi) / 2) (j:=k) (by omega) hk; omega
    · rw [if_neg c]
      have e:lo=hi:=by omega
      subst e
      exact ⟨h2,a,b⟩
theorem below_is {xs:Array Nat} (h:Rs xs) (j:Nat):SetTable.below xs j≤xs.size∧(∀ k,(hk:k<xs.size)→k<SetTable.below xs j→xs[k]<j)∧∀ k,(hk:k<xs.size)→SetTable.below xs j≤k→j≤xs[k] :=
  below_go h j xs.size 0 xs.size (by omega) (by omega) (Nat.le_refl _) (fun k hk z=>by omega) fun k hk z=>by omega
theorem insert_list {α:Type} (xs:Array α) (p:Nat) (x:α):(SetTable.insertAt xs p x).toList=xs.toList.take p++x::xs.toList.drop p:=by
  unfold SetTable.insertAt
  simp
  exact List.take_of_length_le (by simp)
theorem insert_rs {xs:Array Nat} (h:Rs xs) {j:Nat} (hn:(xs[SetTable.below xs j]?==some j)=false):Rs (SetTable.insertAt xs (SetTable.below xs j) j):=by
  obtain ⟨b1,b2,b3⟩:=below_is h j
  unfold Rs
  rw [insert_list]
  generalize hb:SetTable.below xs j=b at *
  refine List.pairwise_append.mpr ⟨List.Pairwise.sublist (List.take_sublist _ _) h,List.pairwise_cons.mpr ⟨fun y hy=>?_,List.Pairwise.sublist (List.drop_sublist _ _) h⟩,fun y hy z hz=>?_⟩
  · obtain ⟨i,hi,e⟩:=List.getElem_of_mem hy
    rw [List.getElem_drop] at e
    have hi':b+i<xs.size:=by simp at hi; omega
    have h1:=b3 (b+i) hi' (by omega)
    have e':xs[b+i]=y:=by simpa using e
    by_cases c:i=0
    · subst c
      have:xs[b]?=some xs[b]:=Array.getElem?_eq_getElem (by omega)
      rw [this] at hn
      have ne:xs[b]≠j:=fun z=>by rw [z] at hn; simp at hn
      simp only [Nat.add_zero] at e' h1
      omega
    · have h2:=h.lt (i:=b) (j:=b+i) (by omega) hi'
      have h3:=b3 b (by omega) (Nat.le_refl _)
      omega
  · obtain ⟨i,hi,e⟩:=List.getElem_of_mem hy
    rw [List.getElem_take] at e
    have hib:i<b:=by simp at hi; omega
    have hi':i<xs.size:=by omega
    have h1:=b2 i hi' hib
    have e':xs[i]=y:=by simpa using e
    rcases List.mem_cons.mp hz with rfl | hz
    · omega
    · obtain ⟨k,hk,ek⟩:=List.getElem_of_mem hz
      rw [List.getElem_drop] at ek
      have hk':b+k<xs.size:=by simp at hk; omega
      have ek':xs[b+k]=z:=by simpa using ek
      have h2:=b3 (b+k) hk' (by omega)
      omega
def offT (t:SetTable) (j:Nat):Prop:=(t.place[SetTable.below t.place j]?==some j)=false
theorem probe_off (t:SetTable) (f:Nat→Int) (h:Int):∀ (n:Nat) (p:SetTable.Probe),(∀ d,p.dummy=some d→offT t d)→∀ j d,SetTable.probe.go t f h n p=some (.empty j d)→offT t (d.getD j)
  | 0,p,hp,j,d,e=>by cases e
  | n+1,p,hp,j,d,e=>by
    unfold SetTable.probe.go at e
    cases hs:t.slot p.j with
    | empty =>
      rw [hs] at e
      dsimp only at e
      have hoff:offT t p.j:=by
        unfold SetTable.slot at hs
        dsimp only at hs
        unfold offT
        by_cases c:(t.place[SetTable.below t.place p.j]?==some p.j)=true
        · rw [if_pos c] at hs; cases hs
        · simpa using c
      injection e with e
      injection e with e1 e2
      subst e1
      subst e2
      cases hd:p.dummy with
      | none=>exact hoff
      | some x=>exact hp x hd
    | dummy =>
      rw [hs] at e
      dsimp only at e
      have hoff:offT t p.j:=by
        unfold SetTable.slot at hs
        dsimp only at hs
        unfold offT
        by_cases c:(t.place[SetTable.below t.place p.j]?==some p.j)=true
        · rw [if_pos c] at hs; cases hs
        · simpa using c
      refine probe_off t f h n _ (fun x hx=>?_) j d e
      unfold SetTable.advance at hx
      split at hx
      · cases hx; exact hoff
      · cases hx; exact hoff
    | live i =>
      rw [hs] at e
      dsimp only at e
      split at e
      · injection e with e; cases e
      · refine probe_off t f h n _ (fun x hx=>?_) j d e
        unfold SetTable.advance at hx
        split at hx
        · exact hp x hx
        · exact hp x hx
theorem freeSlot_off {t:SetTable} {h:Int} {j:Nat} {b:Bool} (e:t.freeSlot h=some (j,b)):offT t j:=by
  unfold SetTable.freeSlot at e
  split at e
  · rename_i j' d' e'
    injection e with e
    injection e with e1 e2
    subst e1
    exact probe_off t _ h _ _ (fun d hd=>by unfold SetTable.probeStart at hd; cases hd) _ _ e'
  · cases e
theorem range_rs (n:Nat):Rs (Array.range n):=by
  unfold Rs
  rw [Array.toList_range]
  exact List.pairwise_lt_range
structure TabG (led:Bool) (t:SetTable):Prop where
  led:t.led=led
  up:Rs t.place
theorem standIn_g {led:Bool} {t:SetTable} (g:TabG led t) (n:Nat):TabG led (t.standIn n):=⟨g.led,range_rs n⟩
theorem layNew_g {led:Bool} {t:SetTable} (g:TabG led t) (es:Array (Int×Value)) (h:Int) (x:Value):TabG led (layNew t es h x).2.1:=by
  unfold layNew
  split
  · rename_i j b e
    show TabG led (SetTable.orStandIn _ _)
    have g2:TabG led (t.put j).1:=⟨g.led,insert_rs g.up (freeSlot_off e)⟩
    unfold SetTable.orStandIn
    split
    · exact g2
    · exact standIn_g g2 _
  · exact standIn_g g _
theorem fm_rise {α:Type} (f:Nat→Option α) (n:Nat):(((List.range n).filterMap fun j=>(f j).map (j,·)).map (·.1)).Pairwise (· < ·):=by
  rw [List.pairwise_map]
  refine List.Pairwise.filterMap _ (R:=(· < ·)) (fun a a' h b hb b' hb'=>?_) List.pairwise_lt_range
  cases e:f a with
  | none=>rw [e] at hb; cases hb
  | some u=>cases e':f a' with
    | none=>rw [e'] at hb'; cases hb'
    | some u' =>
      rw [e] at hb; rw [e'] at hb'
      cases hb; cases hb'
      exact h
theorem relayAll_g {led:Bool} {t:SetTable} (g:TabG led t) (es:Array (Int×Value)) (n:Nat):TabG led (relayAll t es n).2.1:=by
  unfold relayAll
  split
  · rename_i t' o e
    dsimp only
    split
    · unfold SetTable.relaid SetTable.laid at e
      obtain ⟨ow,e1,e2⟩:=Option.bind_eq_some_iff.mp e
      cases e2
      refine ⟨g.led,?_⟩
      unfold Rs
      dsimp only
      exact fm_rise _ _
    · exact standIn_g g _
  · exact standIn_g g _
def keyOf (e:Int×Value):Int:=match e.2 with
  | .int k _=>k
  | _=>0
def OkE (e:Int×Value):Prop:=∃ (k:Int) (t:Tok),e=(hashInt k,.int k t)
abbrev setO (es:Array (Int×Value)) (ep:Nat) (t:SetTable):Obj:={ cls:=.type "set", data:=.set es ep t }
def SetI (led:Bool) (h:Heap) (S:Addr) (ks:List Int):Prop:=∃ (es:Array (Int×Value)) (ep:Nat) (t:SetTable),h.get? S=some (setO es ep t)∧(∀ e∈es.toList,OkE e)∧es.toList.map keyOf=ks∧t.fits es.size=true∧TabG led t
section
variable {prog:Program} {w:World} {A:Around} {E:Value→Shared→Prop} {s:Shared}
theorem okE_elems {l:List (Int×Value)} (h:∀ e∈l,OkE e):ElemsOf (intKind prog w) l:=fun e he=>by
  obtain ⟨k,t,rfl⟩:=h e he
  exact ⟨⟨k,intKind_is _ _ _ _,rfl⟩,rfl⟩
theorem find_key {k:Int} {l:List (Int×Value)} (h:∀ e∈l,OkE e):(∃ e∈l,(intKind prog w).is k e.2=true)↔k∈l.map keyOf:=by
  rw [List.mem_map]
  constructor
  · rintro ⟨e,he,q⟩
    obtain ⟨j,t,rfl⟩:=h e he
    exact ⟨_,he,(intKind prog w).inj (.int j t) j k (intKind_is _ _ _ _) q⟩
  · rintro ⟨e,he,q⟩
    obtain ⟨j,t,rfl⟩:=h e he
    cases q
    exact ⟨_,he,intKind_is _ _ _ _⟩
theorem put_there {h:Heap} {S:Addr} {es es':Array (Int×Value)} {ep:Nat} {t t':SetTable} (ho:h.get? S=some (setO es ep t)):(h.update S (Obj.putSet es' t')).get? S=some (setO es' (ep+1) t'):=by
  have q:=Heap.get?_update_self (Obj.putSet es' t') ho (by rw [putSet_of es' t' rfl]; rfl)
  rwa [putSet_of es' t' rfl] at q
theorem add_int {led:Bool} {S:Addr} {ks:List Int} {k:Int} {tk:Tok} {Q:Bool→Shared→Prop} (hS:SetI led s.heap S ks) (hroom:ks.length+1<scanBound)
    (h:∀ (b:Bool) (g:Heap) (ks':List Int),Heap.SameBut S s.heap g→SetI led g S ks'→ks'.Perm (if k∈ks then ks else ks++[k])→Q b { s with heap:=g }):wpAny (model prog w) A (setAddHashed S (.int k tk) (hashInt k)) Q E s:=by
  obtain ⟨es,ep,t,ho,hok,rfl,hf,tg⟩:=id hS
  have hlen:es.size+1<scanBound:=by rw [List.length_map,Array.length_toList] at hroom; exact hroom
  have hel:=okE_elems (prog:=prog) (w:=w) hok
  have hky:=find_key (prog:=prog) (w:=w) (k:=k) hok
  unfold setAddHashed setAddHashedIn
  refine wpAny_holding (wpAny_bind (wpAny_setState_of ho rfl hf ?_))
  dsimp only
  rw [byScan_of (knd:=intKind prog w) (x:=.int k tk) rfl (by omega) hel]
  simp only [if_true]
  unfold setAddByScan
  refine wpAny_bind (wpAny_bind (wpAny_rule ?_))
  refine wpAny_bind (wpAny_setScan_of (knd:=intKind prog w) (k:=k) (x:=.int k tk) (intKind_is _ _ _ _) ho rfl hf hel ?_)
  cases hr:List.findIdx? (fun e=>(intKind prog w).is k e.2) es.toList with
  | some j =>
    dsimp only
    obtain ⟨hj,hpj,_⟩:=List.findIdx?_eq_some_iff_getElem.mp hr
    have hm:k∈es.toList.map keyOf:=hky.mp ⟨es.toList[j],List.getElem_mem hj,hpj⟩
    refine wpAny_pure (wpAny_pure ?_)
    have q:=h false s.heap _ (Heap.SameBut.refl S s.heap) hS (by rw [if_pos hm])
    exact q
  | none =>
    dsimp only
    have hm:k∉es.toList.map keyOf:=fun z=>by
      obtain ⟨e,he,hp⟩:=hky.mpr z
      have:=List.findIdx?_eq_none_iff.mp hr e he
      rw [hp] at this; cases this
    have gw:∀ (b:Bool) {u:Shared} {R:Unit→Shared→Prop},R () u→wpAny (model prog w) A (match b with | true=>rule "set.scan.the-table-gave-way" | false=>pure ()) R E u:=fun b _ _ q=>by cases b <;> first | exact wpAny_pure q | exact wpAny_rule q
    have pm:=layNew_perm t es (hashInt k) (.int k tk)
    have fi:=layNew_fits t es (hashInt k) (.int k tk)
    have tg1:=layNew_g tg es (hashInt k) (.int k tk)
    generalize layNew t es (hashInt k) (.int k tk)=N at pm fi tg1 ⊢
    obtain ⟨es1,t1,dum,gave⟩:=N
    dsimp only at pm fi tg1 ⊢
    rw [Array.toList_push] at pm
    have ok1:∀ e∈es1.toList,OkE e:=fun e he=>by
      rcases List.mem_append.mp (pm.mem_iff.mp he) with q | q
      · exact hok e q
      · rw [List.mem_singleton.mp q]; exact ⟨k,tk,rfl⟩
    have pk:(es1.toList.map keyOf).Perm (es.toList.map keyOf++[k]):=by
      have:=pm.map keyOf
      rwa [List.map_append] at this
    have sz:es1.size<scanBound:=by rw [← Array.length_toList,pm.length_eq,List.length_append,Array.length_toList]; exact hlen
    refine wpAny_bind (gw _ ?_)
    have tail:∀ (gf:Bool→Sem Unit) (hgf:∀ (b:Bool) (u:Shared) (R:Unit→Shared→Prop),R () u→wpAny (model prog w) A (gf b) R E u) (t2:SetTable),t2.fits es1.size=true→TabG led t2→wpAny (model prog w) A (do
        storeSet S es1 t2
        if (!dum&&t2.tooFull)=true then do
            gf (relayAll t2 es1 (SetTable.grown es1.size)).2.2
            storeSet S (relayAll t2 es1 (SetTable.grown es1.size)).1 (relayAll t2 es1 (SetTable.grown es1.size)).2.1
            pure (some true)
          else pure (some true)) (fun r u=>wpAny (model prog w) A (match r with | some b=>pure b | none=>setAddHashedIn S (.int k tk) (hashInt k) 99999) Q E u) E s:=by
      intro gf hgf t2 f2 g2
      refine wpAny_bind (wpAny_storeSet_of ho rfl ?_ (fits_of_scanBound sz))
      have h1:=put_there (es':=es1) (t':=t2) ho
      have sb:=Heap.SameBut.update s.heap S (Obj.putSet es1 t2)
      split
      · have p2:=relayAll_perm t2 es1 (SetTable.grown es1.size)
        have f3:=relayAll_fits t2 es1 (SetTable.grown es1.size)
        have g3:=relayAll_g g2 es1 (SetTable.grown es1.size)
        generalize relayAll t2 es1 (SetTable.grown es1.size)=R at p2 f3 g3 ⊢
        obtain ⟨es2,t3,gave2⟩:=R
        dsimp only at p2 f3 g3 ⊢
        have sz2:es2.size=es1.size:=by rw [← Array.length_toList,p2.length_eq,Array.length_toList]
        refine wpAny_bind (hgf _ _ _ ?_)
        refine wpAny_bind (wpAny_storeSet_of h1 rfl ?_ (fits_of_scanBound (by rw [sz2]; exact sz)))
        refine wpAny_pure (wpAny_pure (h true _ _ (sb.trans (Heap.SameBut.update _ S _)) ⟨es2,_,t3,put_there h1,fun e he=>ok1 e (p2.mem_iff.mp he),rfl,f3,g3⟩ ?_))
        rw [if_neg hm]
        exact (p2.map keyOf).trans pk
      · refine wpAny_pure (wpAny_pure (h true _ _ sb ⟨es1,_,t2,h1,ok1,rfl,f2,g2⟩ ?_))
        rw [if_neg hm]
        exact pk
    split
    · refine wpAny_bind ?_
      rw [hashByValue_scannable 8 (x:=.int k tk) rfl]
      refine wpAny_pure ?_
      exact tail _ (fun b _ _ q=>by cases b <;> first | exact wpAny_pure q | exact wpAny_rule q) _ fi tg1
    · refine wpAny_bind (wpAny_pure ?_)
      simp only [if_true]
      exact tail _ (fun b _ _ q=>by cases b <;> first | exact wpAny_pure q | exact wpAny_rule q) _ fi tg1
end
end L2
namespace L2
open PySem PySem.Spec PyProof.Rows VL
structure Once (val:Nat→Int) (i:Nat) (ks:List Int):Prop where
  nd:ks.Nodup
  mem:∀ x,x∈ks↔∃ j,j<i∧val j=x
  len:ks.length≤i
theorem Once.next {val:Nat→Int} {i:Nat} {ks ks':List Int} (h:Once val i ks) (p:ks'.Perm (if val i∈ks then ks else ks++[val i])):Once val (i+1) ks':=by
  have hl:=h.len
  by_cases c:val i∈ks
  · rw [if_pos c] at p
    refine ⟨p.nodup_iff.mpr h.nd,fun x=>?_,by rw [p.length_eq]; omega⟩
    rw [p.mem_iff,h.mem]
    constructor
    · rintro ⟨j,hj,e⟩; exact ⟨j,by omega,e⟩
    · rintro ⟨j,hj,e⟩
      by_cases z:j=i
      · subst z; exact (h.mem x).mp (e ▸ c)
      · exact ⟨j,by omega,e⟩
  · rw [if_neg c] at p
    refine ⟨p.nodup_iff.mpr (List.nodup_append.mpr ⟨h.nd,by simp,fun a ha b hb z=>?_⟩),fun x=>?_,by rw [p.length_eq,List.length_append,List.length_singleton]; omega⟩
    · rw [List.mem_singleton.mp hb] at z; subst z; exact c ha
    · rw [p.mem_iff,List.mem_append,h.mem,List.mem_singleton]
      constructor
      · rintro (⟨j,hj,e⟩ | rfl)
        · exact ⟨j,by omega,e⟩
        · exact ⟨i,by omega,rfl⟩
      · rintro ⟨j,hj,e⟩
        by_cases z:j=i
        · subst z; exact .inr e.symm
        · exact .inl ⟨j,by omega,e⟩
theorem SetI.at {led:Bool} {h h':Heap} {S:Addr} {ks:List Int} (x:SetI led h S ks) (hk:∀ o,h.get? S=some o→h'.get? S=some o):SetI led h' S ks:=by
  obtain ⟨es,ep,t,ho,r⟩:=x
  exact ⟨es,ep,t,hk _ ho,r⟩
section
variable {prog:Program} {w:World} {A:Around} {R:Result→Shared→Prop} {I:Addr} {fp wr:List Addr} {Gn:Array GenState→Array GenState→Prop} {n:Nat} {P:Nat→Value→Prop} {St:Nat→Shared→Prop}
theorem set_loop (W:WalksS prog w A.in1 I fp wr Gn n P St) {led:Bool} (S:Addr) (hSf:S∉fp) (val:Nat→Int) (hv:∀ j v,P j v→∃ t,v=.int (val j) t) (hn:n+1<scanBound) :
    ∀ (k i:Nat) (s:Shared) (ks:List Int),n-i=k→i≤n→St i s→SetI led s.heap S ks→Once val i ks→(∀ (u:Shared) (us:List Int),Moved (S::wr) Gn s u→SetI led u.heap S us→Once val n us→R (.ok (.ret .none)) u) →
      codeAny (model prog w) A (.builtin "set.update.loop" ⟨[.ref S,.ref I],[]⟩) R s:=by
  have nw:S∉wr:=fun z=>hSf (W.sub _ z)
  have sub:∀ b∈wr,b∈S::wr:=fun b z=>List.mem_cons_of_mem _ z
  intro k
  induction k with
  | zero =>
    intro i s ks hk hi st hS ho hR
    have e:i=n:=by omega
    subst e
    refine codeAny_builtin PyProof.Rows.F.entry_set_update_loop ?_
    rw [Around.under_plainId PyProof.Rows.F.plain_set_update_loop _]
    show wpAny _ A.in1 (pyNext (.ref I) >>= _) _ _ _
    refine wpAny_bind (W.done s _ _ st fun u mv=>?_)
    exact wpAny_pure (hR u ks (mv.mono sub) (hS.at fun o e=>mv.heap S _ nw e) ho)
  | succ k ih =>
    intro i s ks hk hi st hS ho hR
    have lt:i<n:=by omega
    refine codeAny_builtin PyProof.Rows.F.entry_set_update_loop ?_
    rw [Around.under_plainId PyProof.Rows.F.plain_set_update_loop _]
    show wpAny _ A.in1 (pyNext (.ref I) >>= _) _ _ _
    refine wpAny_bind (W.item i s _ _ lt st fun v u pv st' mv=>?_)
    obtain ⟨t,rfl⟩:=hv i v pv
    have hS':=hS.at (h':=u.heap) fun o e=>mv.heap S _ nw e
    show wpAny _ A.in1 (holding [.int (val i) t] (setAdd S (.int (val i) t)) >>= _) _ _ _
    refine wpAny_bind (wpAny_holding ?_)
    unfold setAdd
    refine wpAny_holding (wpAny_bind ((intKind prog w).pyHash (k:=val i) (intKind_is _ _ _ _) ?_))
    have room:ks.length+1<scanBound:=by have:=ho.len; omega
    refine add_int (s:={ u with toks:=u.toks+1 }) hS' room fun b g ks' sb hS2 pm=>?_
    refine wpAny_pure ⟨plainId_quiet PyProof.Rows.F.plain_set_update_loop _,ih (i+1) _ ks' (by omega) lt (W.frame _ u _ _ st' (Nat.le_succ _) fun b hb o e=>?_) hS2 (ho.next pm) fun u2 us m2 h2 o2=>?_⟩
    · rw [sb.2 b fun z=>hSf (z ▸ hb)]; exact e
    · refine hR u2 us (Moved.trans W.gtrans ((mv.mono sub).then_heap (Nat.le_succ _) fun b o hb e=>?_) m2) h2 o2
      rw [sb.2 b fun z=>hb (z ▸ List.mem_cons_self)]; exact e
end
section
variable {prog:Program} {w:World} {A:Around} {E:Value→Shared→Prop} {s:Shared}
def ledIn (w:World):Bool:=!(w.params.followText "set-order")
theorem new_set {Q:Value→Shared→Prop} (a:Value) (h:Q (.ref s.heap.objs.size) { s with heap:=s.heap.push (setO #[] 0 (.fresh 0 0 (ledIn w))) }):codeAny (model prog w) A (.call (.builtin "set.__new__") ⟨[.type "set", a],[]⟩) (wants Q E) s:=by
  refine codeAny_of_tree ?_
  show wpAny _ A.in1 (checkBuiltinCall "set.__new__" ⟨[.type "set", a],[]⟩ >>= fun _=>again (.builtin "set.__new__" ⟨[.type "set", a],[]⟩)) _ _ _
  refine wpAny_bind (wpAny_of_eq (PySem.F.newCall_set_1 a) (wpAny_pure ⟨plainId_quiet PySem.F.plain_set_new _,codeAny_builtin PySem.F.entry_set_new ?_⟩))
  rw [Around.under_plainId PySem.F.plain_set_new _]
  unfold Builtin.«set.__new__» Builtin.Frozenset.newClass
  have hsub:=sub_set_self
  obtain ⟨hp,gs,dr,tk,os⟩:=s
  dsimp only
  wp_walk
  refine wpAny_askSetting (wpAny_pure ?_)
  dsimp only
  simp only [newObj]
  exact wpAny_bind (wpAny_alloc (wpAny_pure (wpAny_pure h)))
theorem fresh_i (led:Bool) (h:Heap) (S:Addr) (e:h.get? S=some (setO #[] 0 (.fresh 0 0 led))):SetI led h S []:=⟨#[],0,_,e,fun e he=>(by simp at he),rfl,rfl,⟨rfl,by unfold Rs SetTable.fresh; simp⟩⟩
set_option maxHeartbeats 3200000 in
theorem call_set {l:Addr} {items:Array Value} {ns:List Int} {Q:Value→Shared→Prop} (hh:A.handled=none) (hl:s.heap.IsList l items) (hi:IntsAre items.toList ns) (hb:items.size+1<scanBound)
    (h:∀ (g:Heap) (tk:Nat) (ks:List Int),SetI (ledIn w) g s.heap.objs.size ks→Once (fun i=>ns.getD i 0) items.size ks→(∀ b o,b<s.heap.objs.size→s.heap.get? b=some o→g.get? b=some o)→Q (.ref s.heap.objs.size) { s with heap:=g,toks:=tk }) :
    wpAny (model prog w) A (call (.type "set") [.ref l]) Q E s:=by
  obtain ⟨c,tl,hmro⟩:=PySem.F.called_set.mro
  have hmade:=PySem.F.called_set.made
  have hsub:=PySem.F.called_set.sub
  refine wpAny_call (codeAny_of_tree ?_)
  show wpAny _ _ (callAny (.type "set") _) _ _ _
  refine wpAny_pure ⟨Code.quiet_builtin _ (by decide +kernel),codeAny_builtin PySem.F.entry_type_call ?_⟩
  rw [Around.under_plain (weight_type_call_type "set" [.ref l] []) rfl]
  have q1:=PySem.F.called_set.notType
  have q2:=PySem.F.called_set.canCreate
  have q3:=PySem.F.typeCall_set_1 (.ref l)
  repeat (any_goals (first | assumption | wp_step))
  refine codeAny_mono (new_set (.ref l) (E:=E) (Q:=fun v u=>v=.ref s.heap.objs.size∧u={ s with heap:=s.heap.push (setO #[] 0 (.fresh 0 0 (ledIn w))) }) ⟨rfl,rfl⟩) fun r u hr=>?_
  cases r with
  | error e=>exact hr
  | ok fl =>
    cases fl with
    | ret v =>
      obtain ⟨rfl,rfl⟩:=hr
      generalize hled:ledIn w=led at *
      have at0:(s.heap.push (setO #[] 0 (.fresh 0 0 led))).get? s.heap.objs.size=some (setO #[] 0 (.fresh 0 0 led)):=Heap.get?_push_size _ rfl
      have ty:Shared.TypeIs { s with heap:=s.heap.push (setO #[] 0 (.fresh 0 0 led)) } (.ref s.heap.objs.size) "set" := ⟨_,at0,rfl⟩
      have q4:=PySem.F.called_set.init.lookup
      have q5:=PySem.F.called_set.init.bind (.ref s.heap.objs.size)
      repeat (any_goals (first | assumption | wp_step))
      refine codeAny_mono (codeAny_call_builtin (R:=wants (fun r u=>r=.none∧∃ g tk ks,u={ s with heap:=g,toks:=tk }∧SetI led g s.heap.objs.size ks∧Once (fun i=>ns.getD i 0) items.size ks∧∀ b o,b<s.heap.objs.size→s.heap.get? b=some o→g.get? b=some o) E) PySem.F.called_set.init.plain PySem.F.entry_set_init (check_set_init_1 ty ?_)) fun r2 u2 h2=>?_
      · obtain ⟨ol,hol,hcl,nl,hdl⟩:=hl
        obtain ⟨ocls,odict,odata,oslots⟩:=ol
        simp only at hcl hdl
        subst hcl
        subst hdl
        have holp:(s.heap.push (setO #[] 0 (.fresh 0 0 led))).get? l=some { cls:=.type "list", dict:=odict,data:=.seq items nl,slots:=oslots }:=Heap.get?_push_of_some _ hol
        have q6:=PySem.F.sub_list_set
        have q7:=PySem.F.sub_list_frozenset
        have q8:(Value.type "list" == Value.type "dict")=false:=by decide
        have isl:(s.heap.push (setO #[] 0 (.fresh 0 0 led))).IsList l items:=⟨_,holp,rfl,nl,rfl⟩
        unfold Builtin.«set.__init__» noKeywords Builtin.Frozenset.updateFrom
        generalize hpi:pyIter=pit
        wp_walk
        subst hpi
        refine wpAny_pyIter_list isl ?_
        refine wpAny_bind (wpAny_runValue ?_)
        have ll:l<s.heap.objs.size:=Heap.lt_size hol
        have h3:A.in1.in1.in1.handled=none:=by simp [hh]
        have zz:(s.heap.push (setO #[] 0 (.fresh 0 0 led))).objs.size=s.heap.objs.size+1:=size_push' ..
        have nI:l≠(s.heap.push (setO #[] 0 (.fresh 0 0 led))).objs.size:=by rw [zz]; exact Nat.ne_of_lt (Nat.lt_succ_of_lt ll)
        have nS:s.heap.objs.size∉[(s.heap.push (setO #[] 0 (.fresh 0 0 led))).objs.size,l]:=by
          rw [zz]
          simp only [List.mem_cons,List.not_mem_nil,or_false,not_or]
          exact ⟨Nat.ne_of_lt (Nat.lt_succ_self _),Nat.ne_of_gt ll⟩
        have hval:∀ (i:Nat) (v:Value),items[i]?=some v→∃ t,v=.int ((fun i=>ns.getD i 0) i) t:=fun i v hv=>IntsAre.int_at hi i v (by rw [Array.getElem?_toList]; exact hv)
        refine set_loop ((Walks.list h3 _ l nI items).toS) (led:=led) s.heap.objs.size nS (fun i=>ns.getD i 0) hval hb (items.size-0) 0 _ [] (by omega) (Nat.zero_le _) ⟨⟨_,Heap.get?_push_size _ rfl,rfl,rfl⟩,isl.push _⟩ (fresh_i led _ _ (Heap.get?_push_of_some _ at0)) ⟨List.nodup_nil,fun x=>⟨fun z=>by (cases z),fun ⟨j,hj,_⟩=>by omega⟩,Nat.le_refl _⟩ fun u us mv hS ho=>?_
        obtain ⟨g,gs,dr,tk,os⟩:=u
        have e1:gs=s.gens:=mv.gens
        have e2:dr=s.drawn:=mv.drawn
        have e3:os=s.os:=mv.os
        subst e1
        subst e2
        subst e3
        show wpAny _ _ _ _ _ _
        refine wpAny_pure ?_
        show wpAny _ _ (ret Value.none) _ _ _
        refine wpAny_pure ⟨rfl,g,tk,us,rfl,hS,ho,fun b o hb e=>?_⟩
        refine mv.heap b o ?_ (Heap.get?_push_of_some _ (Heap.get?_push_of_some _ e))
        rw [zz]
        simp only [List.mem_cons,List.not_mem_nil,or_false,not_or]
        exact ⟨Nat.ne_of_lt hb,Nat.ne_of_lt (Nat.lt_succ_of_lt hb)⟩
      · cases r2 with
        | error e=>exact h2
        | ok f2 =>
          cases f2 with
          | ret r =>
            obtain ⟨rfl,g,tk,ks,rfl,hS,ho,hk⟩:=h2
            repeat (any_goals (first | assumption | wp_step))
            exact h _ _ _ hS ho hk
          | _=>exact h2.elim
    | _=>exact hr.elim
end
end L2
namespace L2
open PySem PySem.Spec PyProof.Rows VL
theorem sl_setI_next:Slot "set_iterator" "__next__" "set_iterator.__next__" := .of (owner := "set_iterator") (n := "__next__") (by rw [typeLookup_type,builtinLookup_eq_fast]; kernel_rfl) (by decide +kernel) (by decide +kernel) (by decide +kernel) (by first | exact .inl (by decide +kernel) | exact .inr (by decide +kernel)) (by rw [isSubtype_type]; kernel_rfl)
theorem sl_setI_iter:Slot "set_iterator" "__iter__" "set_iterator.__iter__" := .of (owner := "set_iterator") (n := "__iter__") (by rw [typeLookup_type,builtinLookup_eq_fast]; kernel_rfl) (by decide +kernel) (by decide +kernel) (by decide +kernel) (by first | exact .inl (by decide +kernel) | exact .inr (by decide +kernel)) (by rw [isSubtype_type]; kernel_rfl)
theorem en_setI_next:entryFor table "set_iterator.__next__" = some Builtin.«set_iterator.__next__»:=entryFor_of_tree (by kernel_rfl)
theorem en_setI_iter:entryFor table "set_iterator.__iter__" = some Builtin.«dict_keyiterator.__iter__»:=entryFor_alias (id' := "dict_keyiterator.__iter__") (by kernel_rfl) rfl (by decide +kernel) (by kernel_rfl)
theorem en_set_iter:entryFor table "set.__iter__" = some Builtin.«frozenset.__iter__»:=entryFor_alias (id' := "frozenset.__iter__") (by kernel_rfl) rfl (by decide +kernel) (by kernel_rfl)
theorem ar_setI_next (a:Value):argsOk "set_iterator.__next__" ⟨[a],[]⟩:=by unfold argsOk; kernel_rfl
theorem ar_setI_iter (a:Value):argsOk "set_iterator.__iter__" ⟨[a],[]⟩:=by unfold argsOk; kernel_rfl
def ItAt (h:Heap) (I S:Addr) (n ep:Nat) (first:Value) (i:Nat):Prop:=∃ o,h.get? I=some o∧o.cls=.type "set_iterator" ∧ o.data=.fields #[first,.int (i:Int) 0,.ref S,.int (n:Int) 0,.int (ep:Int) 0]
theorem ItAt.ty {s:Shared} {I S:Addr} {n ep:Nat} {f:Value} {i:Nat} (h:ItAt s.heap I S n ep f i):s.TypeIs (.ref I) "set_iterator" := let ⟨o,ho,hc,_⟩:=h; ⟨o,ho,hc⟩
theorem ItAt.at {h h':Heap} {I S:Addr} {n ep:Nat} {f:Value} {i:Nat} (x:ItAt h I S n ep f i) (e:∀ o,h.get? I=some o→h'.get? I=some o):ItAt h' I S n ep f i:=let ⟨o,ho,r⟩:=x; ⟨o,e _ ho,r⟩
section
variable {prog:Program} {w:World} {A:Around} {E:Value→Shared→Prop} {s:Shared} {I S:Addr} {n ep:Nat} {es:Array (Int×Value)} {t:SetTable}
theorem self_setI {f:Value} {i:Nat} {Q:Value→Shared→Prop} (h:ItAt s.heap I S n ep f i) (q:Q (.ref I) s):wpAny (model prog w) A (pyIter (.ref I)) Q E s:=by
  refine wpAny_pyIter_slot h.ty sl_setI_iter (wpAny_call_entry sl_setI_iter h.ty en_setI_iter ?_ (ar_setI_iter _))
  show wpAny _ _ (ret (.ref I)) _ _ _
  exact wpAny_pure ⟨_,rfl, "set_iterator", _,h.ty,sl_setI_next.lookup,q⟩
theorem nextS {i slot nx:Nat} {x:Value} {Q:Option Value→Shared→Prop} (h:ItAt s.heap I S es.size ep (.int (slot:Int) 0) i) (hS:s.heap.get? S=some (setO es ep t)) (hf:t.fits es.size=true)
    (hn:∀ (E':Value→Shared→Prop) (Q':Option (Value×Nat)→Shared→Prop),Q' (some (x,nx)) s→wpAny (model prog w) A.in1 (setNext S slot i ep) Q' E' s)
    (q:∀ g,ItAt g I S es.size ep (.int (nx:Int) 0) (i+1)→Heap.SameBut I s.heap g→Q (some x) { s with heap:=g }):wpAny (model prog w) A (pyNext (.ref I)) Q E s:=by
  obtain ⟨o,ho,hc,hd⟩:=id h
  unfold pyNext
  refine wpAny_bind (wpAny_attempt (wpAny_callSpecial?_slot (name:=Str.ofString "__next__") h.ty sl_setI_next (wpAny_call_entry sl_setI_next h.ty en_setI_next ?_ (ar_setI_next _))))
  unfold Builtin.«set_iterator.__next__»
  refine wpAny_bind (wpAny_pure ?_)
  refine wpAny_bind (wpAny_fieldsOf ho hd ?_)
  dsimp only
  refine wpAny_bind (wpAny_setEntries_of hS rfl hf ?_)
  rw [if_neg (by simp)]
  refine wpAny_bind ?_
  simp only [Int.toNat_natCast]
  refine hn _ _ ?_
  dsimp only
  refine wpAny_bind (wpAny_setField ho hd (by simp) ?_)
  have h1:(s.heap.update I (Obj.mapFields (·.setIfInBounds 0 (rawInt (nx:Int))))).get? I=some _:=Heap.get?_update_self _ ho (Obj.isFreed_of_fields (Obj.data_mapFields hd _))
  have d1:=Obj.data_mapFields hd (·.setIfInBounds 0 (rawInt (nx:Int)))
  refine wpAny_bind (wpAny_setField h1 d1 (by simp) ?_)
  refine wpAny_pure ⟨_,rfl,wpAny_pure (q _ ⟨_,Heap.get?_update_self _ h1 (Obj.isFreed_of_fields (Obj.data_mapFields d1 _)),(Obj.cls_mapFields ..).trans ((Obj.cls_mapFields ..).trans hc),by rw [Obj.data_mapFields d1]; simp [rawInt]⟩ ((Heap.SameBut.update ..).trans (Heap.SameBut.update ..)))⟩
theorem doneS {i slot:Nat} {Q:Option Value→Shared→Prop} (hh:A.handled=none) (h:ItAt s.heap I S es.size ep (.int (slot:Int) 0) i) (hS:s.heap.get? S=some (setO es ep t)) (hf:t.fits es.size=true)
    (hn:∀ (E':Value→Shared→Prop) (Q':Option (Value×Nat)→Shared→Prop),Q' none s→wpAny (model prog w) A.in1 (setNext S slot i ep) Q' E' s)
    (q:∀ g,Heap.ExtBut I s.heap g→Q none { s with heap:=g }):wpAny (model prog w) A (pyNext (.ref I)) Q E s:=by
  obtain ⟨o,ho,hc,hd⟩:=id h
  unfold pyNext
  refine wpAny_bind (wpAny_attempt (wpAny_callSpecial?_slot (name:=Str.ofString "__next__") h.ty sl_setI_next (wpAny_call_entry sl_setI_next h.ty en_setI_next ?_ (ar_setI_next _))))
  unfold Builtin.«set_iterator.__next__»
  refine wpAny_bind (wpAny_pure ?_)
  refine wpAny_bind (wpAny_fieldsOf ho hd ?_)
  dsimp only
  refine wpAny_bind (wpAny_setEntries_of hS rfl hf ?_)
  rw [if_neg (by simp)]
  refine wpAny_bind ?_
  simp only [Int.toNat_natCast]
  refine hn _ _ ?_
  dsimp only
  refine wpAny_bind (wpAny_setField ho hd (by simp) ?_)
  refine wpAny_bind ?_
  simp only [newExc,newTuple]
  refine wpAny_bind (wpAny_newObj_type ?_ (by size_fits))
  refine wpAny_bind (m:=firstArgMember _ _) (wpAny_of_eq (a:=Value.none) (by first | rfl | (simp only [firstArgMember]; rfl)) ?_)
  refine wpAny_newObj_type ?_ (by size_fits)
  simp only [raiseNew]
  refine wpAny_bind (wpAny_handled ?_)
  rw [show A.in1.handled=none from hh]
  refine wpAny_bind (wpAny_pure (wpAny_throw ?_))
  refine wpAny_bind (wpAny_isInstance (T := "StopIteration") (b:=true) ⟨_,Heap.get?_push_size _ rfl,rfl⟩ isSubtype_stop ?_)
  refine wpAny_pure (q _ fun b u hb e=>?_)
  exact Heap.get?_push_of_some _ (Heap.get?_push_of_some _ ((Heap.get?_update_other _ _ (Ne.symm hb)).trans e))
theorem nextD {T:Addr} {i:Nat} {pl:Array Value} {c p:Nat} {tk:Tok} {x:Value} {hx:Int} {Q:Option Value→Shared→Prop} (h:ItAt s.heap I S es.size ep (.ref T) i) (hS:s.heap.get? S=some (setO es ep t)) (hf:t.fits es.size=true)
    (hT:s.heap.get? T=some (seqObj "tuple" pl c)) (hp:pl[i]?=some (.int (p:Int) tk)) (he:es[p]?=some (hx,x))
    (q:∀ g,ItAt g I S es.size ep (.ref T) (i+1)→Heap.SameBut I s.heap g→Q (some x) { s with heap:=g }):wpAny (model prog w) A (pyNext (.ref I)) Q E s:=by
  obtain ⟨o,ho,hc,hd⟩:=id h
  unfold pyNext
  refine wpAny_bind (wpAny_attempt (wpAny_callSpecial?_slot (name:=Str.ofString "__next__") h.ty sl_setI_next (wpAny_call_entry sl_setI_next h.ty en_setI_next ?_ (ar_setI_next _))))
  unfold Builtin.«set_iterator.__next__»
  refine wpAny_bind (wpAny_pure ?_)
  refine wpAny_bind (wpAny_fieldsOf ho hd ?_)
  dsimp only
  refine wpAny_bind (wpAny_setEntries_of hS rfl hf ?_)
  rw [if_neg (by simp)]
  refine wpAny_bind (wpAny_seqItems hT rfl ?_)
  simp only [Int.toNat_natCast]
  rw [hp]
  dsimp only
  refine wpAny_bind ?_
  unfold setNextDrawn
  refine wpAny_bind (wpAny_setState_of hS rfl hf ?_)
  dsimp only
  simp only [Int.toNat_natCast,bne_self_eq_false,Bool.false_eq_true,if_false]
  rw [he]
  refine wpAny_pure ?_
  refine wpAny_bind (wpAny_setField ho hd (by simp) ?_)
  refine wpAny_pure ⟨_,rfl,wpAny_pure (q _ ⟨_,Heap.get?_update_self _ ho (Obj.isFreed_of_fields (Obj.data_mapFields hd _)),(Obj.cls_mapFields ..).trans hc,by rw [Obj.data_mapFields hd]; simp [rawInt]⟩ (Heap.SameBut.update ..))⟩
theorem doneD {T:Addr} {i:Nat} {pl:Array Value} {c:Nat} {Q:Option Value→Shared→Prop} (hh:A.handled=none) (h:ItAt s.heap I S es.size ep (.ref T) i) (hS:s.heap.get? S=some (setO es ep t)) (hf:t.fits es.size=true)
    (hT:s.heap.get? T=some (seqObj "tuple" pl c)) (hp:pl[i]?=none)
    (q:∀ g,Heap.ExtBut I s.heap g→Q none { s with heap:=g }):wpAny (model prog w) A (pyNext (.ref I)) Q E s:=by
  obtain ⟨o,ho,hc,hd⟩:=id h
  unfold pyNext
  refine wpAny_bind (wpAny_attempt (wpAny_callSpecial?_slot (name:=Str.ofString "__next__") h.ty sl_setI_next (wpAny_call_entry sl_setI_next h.ty en_setI_next ?_ (ar_setI_next _))))
  unfold Builtin.«set_iterator.__next__»
  refine wpAny_bind (wpAny_pure ?_)
  refine wpAny_bind (wpAny_fieldsOf ho hd ?_)
  dsimp only
  refine wpAny_bind (wpAny_setEntries_of hS rfl hf ?_)
  rw [if_neg (by simp)]
  refine wpAny_bind (wpAny_seqItems hT rfl ?_)
  simp only [Int.toNat_natCast]
  rw [hp]
  dsimp only
  refine wpAny_bind (wpAny_setField ho hd (by simp) ?_)
  have h1:(s.heap.update I (Obj.mapFields (·.setIfInBounds 0 (rawInt 0)))).get? I=some _:=Heap.get?_update_self _ ho (Obj.isFreed_of_fields (Obj.data_mapFields hd _))
  have d1:=Obj.data_mapFields hd (·.setIfInBounds 0 (rawInt 0))
  refine wpAny_bind (wpAny_setField h1 d1 (by simp) ?_)
  refine wpAny_bind ?_
  simp only [newExc,newTuple]
  refine wpAny_bind (wpAny_newObj_type ?_ (by size_fits))
  refine wpAny_bind (m:=firstArgMember _ _) (wpAny_of_eq (a:=Value.none) (by first | rfl | (simp only [firstArgMember]; rfl)) ?_)
  refine wpAny_newObj_type ?_ (by size_fits)
  simp only [raiseNew]
  refine wpAny_bind (wpAny_handled ?_)
  rw [show A.in1.handled=none from hh]
  refine wpAny_bind (wpAny_pure (wpAny_throw ?_))
  refine wpAny_bind (wpAny_isInstance (T := "StopIteration") (b:=true) ⟨_,Heap.get?_push_size _ rfl,rfl⟩ isSubtype_stop ?_)
  refine wpAny_pure (q _ fun b u hb e=>?_)
  exact Heap.get?_push_of_some _ (Heap.get?_push_of_some _ ((Heap.get?_update_other _ _ (Ne.symm hb)).trans ((Heap.get?_update_other _ _ (Ne.symm hb)).trans e)))
end
end L2
namespace L2
open PySem PySem.Spec PyProof.Rows VL
theorem erase_perm {α:Type} {l:List α} {i:Nat} (h:i<l.length):(l[i]::l.eraseIdx i).Perm l:=by
  have e:l=l.take i++l[i]::l.drop (i+1):=by rw [List.getElem_cons_drop,List.take_append_drop]
  rw [List.eraseIdx_eq_take_drop_succ]
  conv=>rhs; rw [e]
  exact List.perm_middle.symm
theorem pick_go {α:Type} (nx:Nat→Nat):∀ (f k:Nat) (left:List α) (out:Array α),left.length=f→(pickOrder.go nx f k left out).toList.Perm (out.toList++left)
  | 0,k,left,out,h=>by
    rw [List.eq_nil_of_length_eq_zero h,List.append_nil]
    exact .refl _
  | f+1,k,left,out,h=>by
    have hl:nx k % left.length<left.length:=Nat.mod_lt _ (by omega)
    unfold pickOrder.go
    rw [List.getElem?_eq_getElem hl]
    dsimp only
    refine (pick_go nx f (k+1) _ _ (by rw [List.length_eraseIdx_of_lt hl]; omega)).trans ?_
    rw [Array.toList_push,List.append_assoc]
    exact (erase_perm hl).append_left _
theorem pick_perm {α:Type} (nx:Nat→Nat) (xs:Array α):(pickOrder nx xs).toList.Perm xs.toList:=by
  have:=pick_go nx xs.size 0 xs.toList #[] (by simp)
  unfold pickOrder
  simpa using this
section
variable {prog:Program} {w:World} {A:Around} {E:Value→Shared→Prop} {s:Shared} {I S:Addr} {ep:Nat} {es:Array (Int×Value)} {t:SetTable}
theorem wp_choose {src:Source} {n:Nat} {Q:Nat→Shared→Prop} (hn:n≠0) (h:∀ (i:Nat) (d:Drawn),i<n→Q i { s with drawn:=d }):wpAny (model prog w) A (choose src n) Q E s:=fun Γ p _=>by
  show Sem.wp _ Γ (.choose src n .pure) _ _ _ _
  rw [Sem.wp_choose]
  exact ⟨hn,h _ _ (Nat.mod_lt _ (Nat.pos_of_ne_zero hn))⟩
theorem wp_draw {α:Type}:∀ (n:Nat) (xs:List α) (s:Shared) {Q:List α→Shared→Prop},xs.length=n→(∀ (ys:List α) (d:Drawn),ys.Perm xs→Q ys { s with drawn:=d })→wpAny (model prog w) A (drawOrder n xs) Q E s
  | 0,xs,s,Q,hl,h=>by
    rw [List.eq_nil_of_length_eq_zero hl] at h ⊢
    exact wpAny_pure (h [] s.drawn (.refl _))
  | n+1,[],s,Q,hl,h=>by cases hl
  | n+1,x::r,s,Q,hl,h=>by
    unfold drawOrder
    refine wpAny_bind (wp_choose (by simp) fun i d hi=>?_)
    rw [List.getElem?_eq_getElem hi]
    dsimp only
    refine wpAny_bind (wp_draw n _ _ (by rw [List.length_eraseIdx_of_lt hi]; simp at hl ⊢; exact hl) fun ys d' pm=>wpAny_pure (h _ _ ?_))
    exact (pm.cons _).trans (erase_perm hi)
theorem setNext_T {i slot:Nat} {Q:Option (Value×Nat)→Shared→Prop} (hb:w.params.followText "set-order" = true) (hS:s.heap.get? S=some (setO es ep t)) (hf:t.fits es.size=true)
    (h:Q (((pickOrder (w.params.setOrder S ep) es)[i]?).map fun e=>(e.2,slot)) s):wpAny (model prog w) A (setNext S slot i ep) Q E s:=by
  unfold setNext
  refine wpAny_bind (wpAny_setState_of hS rfl hf ?_)
  dsimp only
  unfold setsByText
  refine wpAny_bind (wpAny_bind (wpAny_askSetting (wpAny_pure ?_)))
  refine wpAny_ite_split (fun _=>?_) fun z=>absurd hb z
  simp only [bne_self_eq_false,Bool.false_eq_true,if_false]
  refine wpAny_bind ?_
  unfold setWalk
  refine wpAny_bind (wpAny_setState_of hS rfl hf ?_)
  dsimp only
  unfold setsByText
  refine wpAny_bind (wpAny_bind (wpAny_askSetting (wpAny_pure ?_)))
  refine wpAny_ite_split (fun _=>?_) fun z=>absurd hb z
  refine wpAny_bind (wpAny_askSetting (wpAny_pure ?_))
  exact wpAny_pure h
theorem setNext_P {i slot:Nat} {Q:Option (Value×Nat)→Shared→Prop} (hb:w.params.followText "set-order" = false) (hd:(!t.plain&&decide (es.size > 1))=false) (hled:t.led=true) (hS:s.heap.get? S=some (setO es ep t)) (hf:t.fits es.size=true)
    (h:Q (match es[SetTable.below t.place slot]?,t.place[SetTable.below t.place slot]? with | some (_,x),some j=>some (x,j+1) | _,_=>none) s):wpAny (model prog w) A (setNext S slot i ep) Q E s:=by
  unfold setNext
  refine wpAny_bind (wpAny_setState_of hS rfl hf ?_)
  dsimp only
  unfold setsByText
  refine wpAny_bind (wpAny_bind (wpAny_askSetting (wpAny_pure ?_)))
  refine wpAny_ite_split (fun z=>?_) fun _=>?_
  · have z:w.params.followText "set-order" = true:=z
    rw [hb] at z; cases z
  refine wpAny_ite_split (fun z=>?_) fun _=>?_
  · have z:(!t.plain&&decide (es.size > 1))=true:=z
    rw [hd] at z; cases z
  refine wpAny_bind ?_
  show wpAny _ _ (if (!t.led&&!es.isEmpty)=true then unsupported "set:maker-not-led" else pure PUnit.unit) _ _ _
  rw [if_neg (by rw [hled]; simp)]
  exact wpAny_pure (wpAny_pure h)
theorem below_zero {xs:Array Nat} (h:Rs xs):SetTable.below xs 0=0:=by
  obtain ⟨b1,b2,_⟩:=below_is h 0
  by_cases c:0<SetTable.below xs 0
  · have:=b2 0 (by omega) c; omega
  · omega
theorem below_succ {xs:Array Nat} (h:Rs xs) {i:Nat} (hi:i<xs.size):SetTable.below xs (xs[i]+1)=i+1:=by
  obtain ⟨b1,b2,b3⟩:=below_is h (xs[i]+1)
  generalize SetTable.below xs (xs[i]+1)=b at *
  by_cases c:b≤i
  · have:=b3 i hi c; omega
  · by_cases d:i+1<b
    · have h1:=b2 (i+1) (by omega) d
      have h2:=h.lt (i:=i) (j:=i+1) (by omega) (by omega)
      omega
    · omega
theorem fits_size {t:SetTable} {n:Nat} (h:t.fits n=true):t.place.size=n:=by
  unfold SetTable.fits at h
  simp at h
  exact h.1
theorem walk_T (hb:w.params.followText "set-order" = true) (hf:t.fits es.size=true) (hne:S≠I) (A':Around) (hh:A'.handled=none) :
    Walks prog w A' I [I,S] [I] es.size (fun i v=>((pickOrder (w.params.setOrder S ep) es).toList.map fun e=>e.2)[i]?=some v) (fun i g=>ItAt g I S es.size ep (.int ((0:Nat):Int) 0) i∧g.get? S=some (setO es ep t)) where
  sub:=fun b hb=>by simp at hb; simp [hb]
  frame:=fun _ _ _ st hk=>⟨st.1.at fun o e=>hk I (by simp) o e,hk S (by simp) _ st.2⟩
  item:=fun i s Q E hi st q=>by
    have hl:i<(pickOrder (w.params.setOrder S ep) es).size:=by
      have:=(pick_perm (w.params.setOrder S ep) es).length_eq
      simp at this; omega
    refine nextS (x:=(pickOrder (w.params.setOrder S ep) es)[i].2) (nx:=0) (t:=t) st.1 st.2 hf (fun E' Q' z=>setNext_T hb st.2 hf (by rw [Array.getElem?_eq_getElem hl]; exact z)) fun g it sb=>?_
    refine q _ g s.toks ?_ ⟨it,(sb.2 S hne).trans st.2⟩ fun b o hb e=>sb.extBut b o (fun z=>hb (by simp [z])) e
    rw [List.getElem?_map,Array.getElem?_toList,Array.getElem?_eq_getElem hl]; rfl
  done:=fun s Q E st q=>by
    refine doneS (t:=t) hh st.1 st.2 hf (fun E' Q' z=>setNext_T hb st.2 hf ?_) fun g ex=>q g s.toks fun b o hb e=>ex b o (fun z=>hb (by simp [z])) e
    rw [Array.getElem?_eq_none (by have:=(pick_perm (w.params.setOrder S ep) es).length_eq; simp at this; omega)]
    exact z
  self:=fun _ _ _ _ st q=>self_setI st.1 q
theorem walk_P (hb:w.params.followText "set-order" = false) (hd:(!t.plain&&decide (es.size > 1))=false) (tg:TabG (ledIn w) t) (hf:t.fits es.size=true) (hne:S≠I) (A':Around) (hh:A'.handled=none) :
    Walks prog w A' I [I,S] [I] es.size (fun i v=>(es.toList.map fun e=>e.2)[i]?=some v) (fun i g=>(∃ sl:Nat,ItAt g I S es.size ep (.int (sl:Int) 0) i∧SetTable.below t.place sl=i)∧g.get? S=some (setO es ep t)) where
  sub:=fun b hb=>by simp at hb; simp [hb]
  frame:=fun _ _ _ st hk=>⟨let ⟨sl,x,y⟩:=st.1; ⟨sl,x.at fun o e=>hk I (by simp) o e,y⟩,hk S (by simp) _ st.2⟩
  item:=fun i s Q E hi st q=>by
    obtain ⟨⟨sl,it0,hbl⟩,hS⟩:=st
    have hled:t.led=true:=by rw [tg.led]; unfold ledIn; rw [hb]; rfl
    have hp:=fits_size hf
    have hip:i<t.place.size:=by omega
    refine nextS (x:=es[i].2) (nx:=t.place[i]+1) (t:=t) it0 hS hf (fun E' Q' z=>setNext_P hb hd hled hS hf ?_) fun g it sb=>?_
    · rw [hbl,Array.getElem?_eq_getElem hi,Array.getElem?_eq_getElem hip]
      exact z
    · refine q _ g s.toks ?_ ⟨⟨_,it,below_succ tg.up hip⟩,(sb.2 S hne).trans hS⟩ fun b o hb e=>sb.extBut b o (fun z=>hb (by simp [z])) e
      rw [List.getElem?_map,Array.getElem?_toList,Array.getElem?_eq_getElem hi]; rfl
  done:=fun s Q E st q=>by
    obtain ⟨⟨sl,it0,hbl⟩,hS⟩:=st
    have hled:t.led=true:=by rw [tg.led]; unfold ledIn; rw [hb]; rfl
    refine doneS (t:=t) hh it0 hS hf (fun E' Q' z=>setNext_P hb hd hled hS hf ?_) fun g ex=>q g s.toks fun b o hb e=>ex b o (fun z=>hb (by simp [z])) e
    rw [hbl,Array.getElem?_eq_none (Nat.le_refl _)]
    exact z
  self:=fun _ _ _ _ st q=>let ⟨_,x,_⟩:=st.1; self_setI x q
theorem walk_D {T:Addr} {ys:List Nat} (hy:ys.Perm (List.range es.size)) (hf:t.fits es.size=true) (hne:S≠I) (hnT:T≠I) (A':Around) (hh:A'.handled=none) :
    Walks prog w A' I [I,S,T] [I] es.size (fun i v=>(ys.map fun p=>(es.getD p (0,.none)).2)[i]?=some v) (fun i g=>ItAt g I S es.size ep (.ref T) i∧g.get? S=some (setO es ep t)∧g.get? T=some (seqObj "tuple" (ys.map fun (i:Nat)=>rawInt (i:Int)).toArray 0)) where
  sub:=fun b hb=>by simp at hb; simp [hb]
  frame:=fun _ _ _ st hk=>⟨st.1.at fun o e=>hk I (by simp) o e,hk S (by simp) _ st.2.1,hk T (by simp) _ st.2.2⟩
  item:=fun i s Q E hi st q=>by
    have hl:i<ys.length:=by rw [hy.length_eq,List.length_range]; exact hi
    have hp:ys[i]<es.size:=List.mem_range.mp (hy.mem_iff.mp (List.getElem_mem hl))
    refine nextD (p:=ys[i]) (tk:=0) (x:=es[ys[i]].2) (hx:=es[ys[i]].1) (t:=t) st.1 st.2.1 hf st.2.2 (by simp [hl,rawInt]) (Array.getElem?_eq_getElem hp) fun g it sb=>?_
    refine q _ g s.toks ?_ ⟨it,(sb.2 S hne).trans st.2.1,(sb.2 T hnT).trans st.2.2⟩ fun b o hb e=>sb.extBut b o (fun z=>hb (by simp [z])) e
    rw [List.getElem?_map,List.getElem?_eq_getElem hl]
    simp [Array.getD,hp]
  done:=fun s Q E st q=>by
    refine doneD (t:=t) hh st.1 st.2.1 hf st.2.2 ?_ fun g ex=>q g s.toks fun b o hb e=>ex b o (fun z=>hb (by simp [z])) e
    have:ys.length=es.size:=by rw [hy.length_eq,List.length_range]
    simp [this]
  self:=fun _ _ _ _ st q=>self_setI st.1 q
theorem iter_set (hS:s.heap.get? S=some (setO es ep t)) (hf:t.fits es.size=true) (tg:TabG (ledIn w) t) (hsz:es.size≤sizeLine) {Q:Value→Shared→Prop}
    (h:∀ (g:Heap) (d:Drawn) (I:Addr) (ord:List Value) (fp:List Addr) (St:Nat→Heap→Prop),ord.Perm (es.toList.map fun e=>e.2)→(∀ b o,s.heap.get? b=some o→g.get? b=some o)→(∀ b∈fp,b<s.heap.objs.size→b=S)→(∀ b∈fp,b<g.objs.size)→s.heap.objs.size≤I →
      (∀ A':Around,A'.handled=none→Walks prog w A' I fp [I] es.size (fun i v=>ord[i]?=some v) St)→St 0 g→Q (.ref I) { s with heap:=g,drawn:=d }):wpAny (model prog w) A (pyIter (.ref S)) Q E s:=by
  have ty:s.TypeIs (.ref S) "set" := ⟨_,hS,rfl⟩
  have lS:S<s.heap.objs.size:=Heap.lt_size hS
  refine wpAny_pyIter_slot ty PySem.F.slot_set_iter (wpAny_call_entry PySem.F.slot_set_iter ty en_set_iter ?_ (PySem.F.args_set_iter_1 _))
  unfold Builtin.«frozenset.__iter__»
  refine wpAny_bind ?_
  unfold Builtin.Frozenset.slot0
  refine wpAny_bind (wpAny_pure (wpAny_pure ?_))
  refine wpAny_bind ?_
  unfold Builtin.Frozenset.sizeOf
  refine wpAny_bind (wpAny_setEntries_of hS rfl hf (wpAny_pure ?_))
  refine wpAny_bind ?_
  unfold setDrawn
  refine wpAny_bind (wpAny_setState_of hS rfl hf ?_)
  dsimp only
  unfold setsByText
  refine wpAny_bind (wpAny_bind (wpAny_askSetting (wpAny_pure ?_)))
  refine wpAny_pure ?_
  have nI:S≠s.heap.objs.size:=Nat.ne_of_lt lS
  refine wpAny_ite_split (fun z=>?_) fun z=>?_
  · refine wpAny_bind (wp_draw es.size (List.range es.size) _ (by simp) fun ys d pm=>?_)
    simp only [newTuple]
    refine wpAny_bind (wpAny_newObj_type ?_ (by show (ys.map fun (i:Nat)=>rawInt (i:Int)).toArray.size≤sizeLine; simp [pm.length_eq]; exact hsz))
    have hS1:(s.heap.push (seqObj "tuple" (ys.map fun (i:Nat)=>rawInt (i:Int)).toArray 0)).get? S=some (setO es ep t):=Heap.get?_push_of_some _ hS
    have hT1:(s.heap.push (seqObj "tuple" (ys.map fun (i:Nat)=>rawInt (i:Int)).toArray 0)).get? s.heap.objs.size=some (seqObj "tuple" (ys.map fun (i:Nat)=>rawInt (i:Int)).toArray 0):=Heap.get?_push_size _ rfl
    have zz:(s.heap.push (seqObj "tuple" (ys.map fun (i:Nat)=>rawInt (i:Int)).toArray 0)).objs.size=s.heap.objs.size+1:=size_push' ..
    have kp:∀ b o,s.heap.get? b=some o→(s.heap.push (seqObj "tuple" (ys.map fun (i:Nat)=>rawInt (i:Int)).toArray 0)).get? b=some o:=fun b o e=>Heap.get?_push_of_some _ e
    show wpAny _ _ _ _ _ { s with heap:=s.heap.push (seqObj "tuple" (ys.map fun (i:Nat)=>rawInt (i:Int)).toArray 0),drawn:=d }
    generalize s.heap.push (seqObj "tuple" (ys.map fun (i:Nat)=>rawInt (i:Int)).toArray 0)=g1 at *
    refine wpAny_bind ?_
    unfold setEpoch
    refine wpAny_bind (wpAny_setState_of hS1 rfl hf (wpAny_pure ?_))
    unfold newFields
    refine wpAny_bind (wpAny_newObj_type ?_ (by size_fits))
    refine wpAny_pure ⟨_,rfl, "set_iterator", _,⟨_,Heap.get?_push_size _ rfl,rfl⟩,sl_setI_next.lookup,?_⟩
    have n1:S≠g1.objs.size:=by rw [zz]; exact Nat.ne_of_lt (Nat.lt_succ_of_lt lS)
    have n2:s.heap.objs.size≠g1.objs.size:=by rw [zz]; exact Nat.ne_of_lt (Nat.lt_succ_self _)
    refine h _ d g1.objs.size (ys.map fun p=>(es.getD p (0,.none)).2) [g1.objs.size,S,s.heap.objs.size] _ ?_ (fun b o e=>Heap.get?_push_of_some _ (kp b o e)) (fun b hb lt=>?_) (fun b hb=>?_) (by rw [zz]; exact Nat.le_succ _) (fun A' hh=>walk_D (t:=t) (ep:=ep) pm hf n1 n2 A' hh) ⟨⟨_,Heap.get?_push_size _ rfl,rfl,rfl⟩,Heap.get?_push_of_some _ hS1,Heap.get?_push_of_some _ hT1⟩
    · refine (pm.map _).trans (List.Perm.of_eq ?_)
      refine List.ext_getElem (by simp) fun i h1 h2=>?_
      have hi:i<es.size:=by simpa using h1
      simp [Array.getD,hi]
    · simp only [List.mem_cons,List.not_mem_nil,or_false] at hb
      rcases hb with rfl | rfl | rfl
      · rw [zz] at lt; exact absurd lt (Nat.not_lt.mpr (Nat.le_succ _))
      · rfl
      · exact absurd lt (Nat.lt_irrefl _)
    · rw [size_push',zz]
      simp only [List.mem_cons,List.not_mem_nil,or_false] at hb
      rcases hb with rfl | rfl | rfl
      · rw [zz]; exact Nat.lt_succ_self _
      · exact Nat.lt_succ_of_lt (Nat.lt_succ_of_lt lS)
      · exact Nat.lt_succ_of_lt (Nat.lt_succ_self _)
  · refine wpAny_bind (wpAny_pure ?_)
    refine wpAny_bind ?_
    unfold setEpoch
    refine wpAny_bind (wpAny_setState_of hS rfl hf (wpAny_pure ?_))
    unfold newFields
    refine wpAny_bind (wpAny_newObj_type ?_ (by size_fits))
    refine wpAny_pure ⟨_,rfl, "set_iterator", _,⟨_,Heap.get?_push_size _ rfl,rfl⟩,sl_setI_next.lookup,?_⟩
    have fpl:∀ b∈[s.heap.objs.size,S],b<s.heap.objs.size→b=S:=fun b hb lt=>by
      simp only [List.mem_cons,List.not_mem_nil,or_false] at hb
      rcases hb with rfl | rfl
      · exact absurd lt (Nat.lt_irrefl _)
      · rfl
    have fpt:∀ (o:Obj),∀ b∈[s.heap.objs.size,S],b<(s.heap.push o).objs.size:=fun o b hb=>by
      rw [size_push']
      simp only [List.mem_cons,List.not_mem_nil,or_false] at hb
      rcases hb with rfl | rfl
      · exact Nat.lt_succ_self _
      · exact Nat.lt_succ_of_lt lS
    cases hb:w.params.followText "set-order" with
    | true =>
      refine h _ s.drawn s.heap.objs.size ((pickOrder (w.params.setOrder S ep) es).toList.map fun e=>e.2) [s.heap.objs.size,S] _ ((pick_perm _ _).map _) (fun b o e=>Heap.get?_push_of_some _ e) fpl (fpt _) (Nat.le_refl _) (fun A' hh=>walk_T (t:=t) hb hf nI A' hh) ⟨⟨_,Heap.get?_push_size _ rfl,rfl,rfl⟩,Heap.get?_push_of_some _ hS⟩
    | false =>
      have hd:(!t.plain&&decide (es.size > 1))=false:=by
        have z:¬ ((!w.params.followText "set-order" && (!t.plain&&decide (es.size > 1)))=true):=z
        rw [hb] at z
        simpa using z
      refine h _ s.drawn s.heap.objs.size (es.toList.map fun e=>e.2) [s.heap.objs.size,S] _ (.refl _) (fun b o e=>Heap.get?_push_of_some _ e) fpl (fpt _) (Nat.le_refl _) (fun A' hh=>walk_P (t:=t) (ep:=ep) hb hd tg hf nI A' hh) ⟨⟨0,⟨_,Heap.get?_push_size _ rfl,rfl,rfl⟩,below_zero tg.up⟩,Heap.get?_push_of_some _ hS⟩
end
end L2
namespace L2
open PySem PySem.Spec PyProof.Rows VL
section
variable {prog:Program} {w:World} {A:Around} {E:Value→Shared→Prop} {s:Shared} {S:Addr} {ep:Nat} {es:Array (Int×Value)} {t:SetTable}
theorem hint_set {Q:Bool→Shared→Prop} (ty:s.TypeIs (.ref S) "set") (q:Q false s):wpAny (model prog w) A (Builtin.List.listLengthHint (.ref S)) Q E s:=by
  unfold Builtin.List.listLengthHint
  refine wpAny_bind (wpAny_specialOf ty PySem.F.slot_set_len.lookup ?_)
  generalize hi:("set.__len__" : String)=i0
  wp_delta
  rw [show splitId i0=some ("set", "__len__") from by subst hi; decide +kernel]
  subst hi
  refine wpAny_bind (wpAny_isInstance (T := "set") (b:=true) ty (by rw [isSubtype_type]; kernel_rfl) ?_)
  refine wpAny_ite_split (fun z=>absurd z (by decide)) fun _=>?_
  refine wpAny_ite_split (fun _=>?_) fun z=>absurd (by decide +kernel) z
  exact wpAny_bind (wpAny_typeOf ty (wpAny_pure q))
theorem extend_set (hh:A.handled=none) (hS:s.heap.get? S=some (setO es ep t)) (hf:t.fits es.size=true) (tg:TabG (ledIn w) t) (hsz:es.size≤sizeLine) {L:Addr} (hL:s.heap.get? L=some (seqObj "list" #[] 0)) {R:Result→Shared→Prop}
    (h:∀ (g:Heap) (tk:Nat) (d:Drawn) (acc:Array Value) (c:Nat),acc.toList.Perm (es.toList.map fun e=>e.2)→g.get? L=some (seqObj "list" acc c)→(∀ b o,b≠L→s.heap.get? b=some o→g.get? b=some o)→R (.ok (.ret (.ref L))) { s with heap:=g,toks:=tk,drawn:=d }) :
    wpAny (model prog w) A.in1 (Builtin.List.listExtendWith (.ref L) (.ref S) (.ref L)) (fun fin u=>match fin with | .done f=>R (.ok f) u | .again c=>c.quiet=true∧codeAny (model prog w) A c R u) (fun e u=>R (.error e) u) s:=by
  have ty:s.TypeIs (.ref S) "set" := ⟨_,hS,rfl⟩
  have ne:L≠S:=fun z=>by
    rw [z,hS] at hL
    have q:Value.type "set" = Value.type "list" := congrArg Obj.cls (Option.some.inj hL)
    injection q with q
    exact absurd q (by decide)
  unfold Builtin.List.listExtendWith
  refine wpAny_bind (wpAny_typeOf ty ?_)
  have n1:Builtin.List.listSameRef (.ref L) (.ref S)=false:=by simp [Builtin.List.listSameRef,ne]
  have n2:(Value.type "set" == Value.type "list")=false:=by decide
  have n3:(Value.type "set" == Value.type "tuple")=false:=by decide
  simp only [n1,n2,n3,Bool.or_false,Bool.false_eq_true,if_false]
  refine wpAny_bind (iter_set hS hf tg hsz fun g d I ord fp St pm kp fpl fpt hI W st=>?_)
  have W:=W A.in1 hh
  have hL1:=kp _ _ hL
  have nL:L∉fp:=fun z=>ne (fpl L z (Heap.lt_size hL))
  have key:∀ (g2:Heap) (c1 tk:Nat),St 0 g2→(∀ b o,b≠L→s.heap.get? b=some o→g2.get? b=some o)→g2.get? L=some (seqObj "list" #[] c1)→codeAny (model prog w) A (.builtin "list.extend.loop" ⟨[.ref L,.ref I,.ref L],[]⟩) R { s with heap:=g2,toks:=tk,drawn:=d }:=by
    intro g2 c1 tk hst hk hL2
    refine codeAny_extend_loopS W.toS hsz L nL (.ref L) es.size 0 _ #[] c1 rfl (Nat.zero_le _) hst hL2 (ItemsOf.nil _) fun u acc c mv hu hacc=>?_
    rw [Moved.eq_with mv]
    refine h u.heap u.toks d acc c ?_ hu fun b o hb e=>mv.heap b o (fun z=>?_) (hk b o hb e)
    · have e:acc.toList=ord:=by
        refine List.ext_getElem? fun j=>?_
        have hl:ord.length=es.size:=by rw [pm.length_eq]; simp
        by_cases c:j<es.size
        · rw [Array.getElem?_toList,Array.getElem?_eq_getElem (by rw [hacc.1]; exact c)]
          exact (hacc.2 j _ (Array.getElem?_eq_getElem (by rw [hacc.1]; exact c))).symm
        · rw [List.getElem?_eq_none (by rw [Array.length_toList,hacc.1]; omega),List.getElem?_eq_none (by omega)]
      rw [e]; exact pm
    · rcases List.mem_cons.mp z with z | z
      · exact hb z
      · have:=Heap.lt_size e
        rw [List.mem_singleton.mp z] at this
        exact absurd (Nat.lt_of_lt_of_le this hI) (Nat.lt_irrefl _)
  refine wpAny_bind (wpAny_holding (hint_set ⟨_,kp _ _ hS,rfl⟩ ?_))
  refine wpAny_ite_split (fun _=>?_) fun _=>wpAny_pure ⟨plainId_quiet PySem.F.plain_extend_loop _,key g 0 s.toks st (fun b o _ e=>kp b o e) hL1⟩
  refine wpAny_bind (wpAny_rule (wpAny_bind ?_))
  show wpAny _ _ (updateSeq L (·.push .none) >>= fun _=>updateSeq L (·.pop)) _ _ _
  have hL2:(g.update L (Obj.mapSeq (·.push Value.none))).get? L=some _:=Heap.get?_update_self _ hL1 rfl
  refine wpAny_bind (wpAny_updateSeq hL1 rfl ?_)
  refine wpAny_updateSeq (hz:=by seq_fits) hL2 rfl ?_
  have hL3:((g.update L (Obj.mapSeq (·.push Value.none))).update L (Obj.mapSeq (·.pop))).get? L=some _:=Heap.get?_update_self _ hL2 rfl
  have oth:∀ b o,b≠L→g.get? b=some o→((g.update L (Obj.mapSeq (·.push Value.none))).update L (Obj.mapSeq (·.pop))).get? b=some o:=fun b o hb e=>(Heap.get?_update_other _ _ (Ne.symm hb)).trans ((Heap.get?_update_other _ _ (Ne.symm hb)).trans e)
  exact wpAny_pure ⟨plainId_quiet PySem.F.plain_extend_loop _,key _ _ _ (W.frame 0 _ _ st fun b hb o e=>oth b o (fun z=>nL (z ▸ hb)) e) (fun b o hb e=>oth b o hb (kp b o e)) hL3⟩
theorem collect_set (hh:A.handled=none) (hS:s.heap.get? S=some (setO es ep t)) (hf:t.fits es.size=true) (tg:TabG (ledIn w) t) (hsz:es.size≤sizeLine) {R:List Value→Shared→Prop}
    (h:∀ (g:Heap) (tk:Nat) (d:Drawn) (vs:List Value),vs.Perm (es.toList.map fun e=>e.2)→(∀ b o,s.heap.get? b=some o→g.get? b=some o)→s.heap.objs.size<g.objs.size→R vs { s with heap:=g,toks:=tk,drawn:=d }):wpAny (model prog w) A (collect (.ref S)) R E s:=by
  unfold collect
  refine wpAny_bind (wpAny_runValue (codeAny_builtin entry_proto_collect' ?_))
  rw [Around.under_plainId PySem.F.plain_proto_collect _]
  show wpAny _ A.in1 (newList [] >>= fun v=>again (.builtin "list.__iadd__" ⟨[v,.ref S],[]⟩)) _ _ _
  refine wpAny_bind (wpAny_newObj_type ?_)
  refine wpAny_pure ⟨plainId_quiet PySem.F.plain_list_iadd _,codeAny_builtin entry_list_iadd' ?_⟩
  rw [Around.under_plainId PySem.F.plain_list_iadd _]
  have hL:(s.heap.push (seqObj "list" #[] 0)).get? s.heap.objs.size=some (seqObj "list" #[] 0):=Heap.get?_push_size _ rfl
  show wpAny _ A.in1 (Builtin.List.listExtendWith (.ref s.heap.objs.size) (.ref S) (.ref s.heap.objs.size)) _ _ { s with heap:=s.heap.push (seqObj "list" #[] 0) }
  have key:=extend_set (prog:=prog) (w:=w) (A:=A) (s:={ s with heap:=s.heap.push (seqObj "list" #[] 0) }) hh (Heap.get?_push_of_some _ hS) hf tg hsz hL (R:=fun (q:Result) (u:Shared)=>∃ (g:Heap) (tk:Nat) (d:Drawn) (acc:Array Value) (c:Nat),q=.ok (.ret (.ref s.heap.objs.size))∧u={ s with heap:=g,toks:=tk,drawn:=d }∧acc.toList.Perm (es.toList.map fun e=>e.2)∧g.get? s.heap.objs.size=some (seqObj "list" acc c)∧∀ b o,s.heap.get? b=some o→g.get? b=some o)
    fun g tk d acc c pm hg kp=>⟨g,tk,d,acc,c,rfl,rfl,pm,hg,fun b o e=>kp b o (Nat.ne_of_lt (Heap.lt_size e)) (Heap.get?_push_of_some _ e)⟩
  refine wpAny_mono key (fun fin u x=>?_) fun e u x=>?_
  · cases fin with
    | done f =>
      obtain ⟨g,tk,d,acc,c,e,rfl,pm,hg,kp⟩:=x
      cases e
      refine wpAny_bind (wpAny_load hg ?_)
      exact wpAny_pure (h g tk d _ pm kp (Heap.lt_size hg))
    | again c1 =>
      refine ⟨x.1,codeAny_mono x.2 fun q u2 y=>?_⟩
      obtain ⟨g,tk,d,acc,c,rfl,rfl,pm,hg,kp⟩:=y
      refine wpAny_bind (wpAny_load hg ?_)
      exact wpAny_pure (h g tk d _ pm kp (Heap.lt_size hg))
  · obtain ⟨_,_,_,_,_,e',_⟩:=x
    cases e'
theorem vals_of {l:List (Int×Value)} (h:∀ e∈l,OkE e):∀ {vs:List Value},vs.Perm (l.map fun e=>e.2)→∃ ns:List Int,IntsAre vs ns∧ns.Perm (l.map keyOf):=by
  have hv:∀ vs:List Value,(∀ v∈vs,∃ k t,v=.int k t)→IntsAre vs (vs.map fun v=>match v with | .int k _=>k | _=>0):=by
    intro vs
    induction vs with
    | nil=>intro _; exact .nil
    | cons v r ih =>
      intro hz
      obtain ⟨k,t,rfl⟩:=hz v List.mem_cons_self
      exact .cons k t (ih fun u hu=>hz u (List.mem_cons_of_mem _ hu))
  intro vs pm
  refine ⟨_,hv vs fun v z=>?_,?_⟩
  · obtain ⟨e,he,rfl⟩:=List.mem_map.mp (pm.mem_iff.mp z)
    obtain ⟨k,t,rfl⟩:=h e he
    exact ⟨k,t,rfl⟩
  · have:=pm.map fun v=>match v with | .int k _=>k | _=>(0:Int)
    rw [List.map_map] at this
    exact this
theorem sorted_set (hh:A.handled=none) {ks:List Int} (hS:SetI (ledIn w) s.heap S ks) (hl:ks.length<64) {Q:Value→Shared→Prop}
    (h:∀ (g:Heap) (tk:Nat) (d:Drawn) (D:Addr) (out:List Value) (ms:List Int) (c:Nat),IntsAre out ms→ms.Perm ks→ms.Pairwise (·≤·)→s.heap.objs.size≤D→g.get? D=some (seqObj "list" out.toArray c)→(∀ b o,s.heap.get? b=some o→g.get? b=some o)→Q (.ref D) { s with heap:=g,toks:=tk,drawn:=d }):wpAny (model prog w) A (call (.builtin "sorted") [.ref S]) Q E s:=by
  obtain ⟨es,ep,t,ho,hok,rfl,hf,tg⟩:=hS
  have hline:sizeLine=16777216:=sizeLine_eq
  rw [List.length_map,Array.length_toList] at hl
  refine Calls.call_function_entry kind_sorted plain_sorted entry_sorted (args_sorted1 _) ?_
  unfold Builtin.«sorted»
  refine wpAny_bind (m:=checkCount "sorted" 1 1 _) (wpAny_pure ?_)
  refine wpAny_bind (collect_set (A:=A.in1) hh ho hf tg (by omega) fun g tk d vs pm kp big=>?_)
  obtain ⟨ns,hi,pn⟩:=vals_of hok pm
  have hvl:vs.length<64:=by rw [pm.length_eq,List.length_map,Array.length_toList]; exact hl
  refine wpAny_bind (wpAny_newList ?_ (by omega))
  have hD:(g.push (seqObj "list" vs.toArray 0)).get? g.objs.size=some (seqObj "list" vs.toArray 0):=Heap.get?_push_size _ rfl
  show wpAny _ _ _ _ _ { s with heap:=g.push (seqObj "list" vs.toArray 0),toks:=tk,drawn:=d }
  refine wpAny_bind (wpAny_holding (wpAny_call_entry slot_list_sort ⟨_,hD,rfl⟩ entry_list_sort (list_sort_tree hD hi hvl fun out ms a1 a2 a3=>⟨_,rfl,?_⟩) (args_list_sort _)))
  obtain ⟨c,hc⟩:=sortedHeap_at (out:=out) hD
  exact wpAny_pure ⟨_,rfl,h _ tk d g.objs.size out.toList ms c a1 (a2.trans pn) a3 (Nat.le_of_lt big) (by rw [Array.toArray_toList]; exact hc) fun b o e=>(sortedHeap_old (Nat.ne_of_lt (Heap.lt_size (kp b o e))) (by rw [size_push']; exact Nat.lt_succ_of_lt (Heap.lt_size (kp b o e)))).trans (Heap.get?_push_of_some _ (kp b o e))⟩
end
end L2
namespace L2
open PySem PySem.Spec PyProof.Rows VL
theorem Inv.drw {X:Cx} {pins:List (Addr×Obj)} {σ:St} {H:Hp} {s:Shared} {d:Drawn} (I:Inv X pins σ H s):Inv X pins σ H { s with drawn:=d }:=⟨I.ok,I.os,I.bare,I.base,I.loc,I.cell,I.free,I.freeC,I.pin,I.hok,I.len⟩
def SrtS (ns ms:List Int):Prop:=ms.Nodup∧(∀ x,x∈ms↔x∈ns)∧ms.Pairwise (·≤·)
def tSrtS (K:PySem.W.Frag) (ta:TE):TE:=fun σ H Q=>ta σ H fun v H1=>∃ (a:Addr) (ns:List Int),v=.ref a∧SqL K H1 a (ns.map V.int)∧ns.length<64∧∀ ms,SrtS ns ms→∀ D,H1 D=none→Q (.ref D) (upd H1 D (.lst (ms.map V.int)))
theorem pe_srtSet {X:Cx} {K:PySem.W.Frag} {a:Expr} {ta:TE} {p1 p2 q1 q2:Pos} (hK:X.K=K) (hc:X.calm=true) (hg1:Gl X "sorted") (hm1:X.mg "sorted" = none) (hg2:Gl X "set") (hm2:X.mg "set" = none) (ha:PE X a ta)
    (e1:starEach [.Call (.Name "set" p2) [a] [] q2] X.env=[(false,eval (.Call (.Name "set" p2) [a] [] q2) X.env)]:=by rfl) (e2:starEach [a] X.env=[(false,eval a X.env)]:=by rfl) :
    PE X (.Call (.Name "sorted" p1) [.Call (.Name "set" p2) [a] [] q2] [] q1) (tSrtS K ta):=by
  subst hK
  intro pins s σ H Q I h
  have hh:=I.ok.hd hc
  refine wpAny_Call_Name_kw (ld_blt I hg1 hm1 bt_sorted ?_ (by decide) (by decide))
  refine PyProof.Rows.callWith_builtin1 (rest:=[]) ?_ (by rw [e1]; rfl) rfl
  rw [e1]
  show wpAny _ _ (spliced [(false,eval (.Call (.Name "set" p2) [a] [] q2) X.env)]) _ _ s
  refine Calls.spliced_cons ?_
  refine wpAny_Call_Name_kw (ld_blt I hg2 hm2 bt_set ?_ (by decide) (by decide))
  refine PyProof.Rows.callWith_type1 (rest:=[]) ?_ (by rw [e2]; rfl) rfl
  refine thn (pa_cons ha pa_nil (hs:=by rw [e2]; rfl) q2 pins s σ H (fun xs H1=>match xs with
    | [v]=>∃ (a:Addr) (ns:List Int),v=.ref a∧SqL X.K H1 a (ns.map V.int)∧ns.length<64∧∀ ms,SrtS ns ms→∀ D,H1 D=none→Q (.ref D) (upd H1 D (.lst (ms.map V.int)))
    | _=>False) I h) fun us s1 ⟨vs0,H1,I1,r1,z1⟩=>?_
  match vs0,z1 with
  | [v],z1 =>
  obtain ⟨b,ns,rfl,hq,hl,hQ⟩:=z1
  cases r1 with
  | cons r1 r2 =>
  cases r2
  cases (show _=Value.ref b from r1)
  obtain ⟨its,rv,pl,_⟩:=I1.list hq
  have hi:=intsAre_of rv
  have hil:its.length=ns.length:=by rw [← rv.length,List.length_map]
  have hsb:scanBound=4096:=rfl
  refine call_set hh pl.isList (by simpa using hi) (by rw [List.size_toArray]; omega) fun g tk ks hS ho kp=>?_
  refine Calls.spliced_nil ?_
  have I2:Inv X pins σ H1 { s1 with heap:=g,toks:=tk }:=I1.kept fun b u e=>kp b u (Heap.lt_size e) e
  have hkl:=ho.len
  rw [List.size_toArray] at hkl
  refine sorted_set hh hS (by omega) fun g2 tk2 d D out ms c i1 pm up big hD kp2=>?_
  have hml:ms.length=ks.length:=pm.length_eq
  have I3:=I2.laid (a:=D) (o:=.lst (ms.map V.int)) (t':=tk2) kp2 big ⟨by rw [List.length_map,hml]; have:=sizeLine_eq; omega,out,c,vals_ints i1,hD⟩
  refine ⟨.ref D,upd H1 D (.lst (ms.map V.int)),I3.drw,rfl,hQ ms ⟨pm.nodup_iff.mpr ho.nd,fun x=>?_,up⟩ D (I2.hok.fresh big)⟩
  rw [pm.mem_iff,ho.mem,List.size_toArray]
  constructor
  · rintro ⟨j,hj,e⟩
    rw [← e]
    show ns.getD j 0∈ns
    rw [List.getD_eq_getElem?_getD,List.getElem?_eq_getElem (by omega)]
    exact List.getElem_mem _
  · intro hx
    obtain ⟨j,hj,e⟩:=List.getElem_of_mem hx
    exact ⟨j,by omega,by rw [List.getD_eq_getElem?_getD,List.getElem?_eq_getElem hj]; exact e⟩
end L2
namespace VL
open PySem L2
open Classical
noncomputable section
variable [Tabs] {K:PySem.W.Frag}
omit [Tabs] in
theorem srtS_uniq {ns a b:List Int} (h1:SrtS ns a) (h2:SrtS ns b):a=b:=by
  refine List.Perm.eq_of_pairwise (fun x y _ _ p q=>by omega) h1.2.2 h2.2.2 ?_
  refine (List.perm_ext_iff_of_nodup h1.1 h2.1).mpr fun x=>(h1.2.1 x).trans (h2.2.1 x).symm
noncomputable def dSrtS (a:DE):Rho→Option (List D):=fun ρ=>match asL a ρ with
  | some ds=>(match asInts ds with
    | some ns=>if h:ns.length<64∧∃ ms,SrtS ns ms then some ((h.2.choose).map D.int) else none
    | none=>none)
  | none=>none
omit [Tabs] in
theorem dSrtS_of {a:DE} {ρ:Rho} {ns ms:List Int} (h:asL a ρ=some (ns.map D.int)) (hl:ns.length<64) (hm:SrtS ns ms):dSrtS a ρ=some (ms.map D.int):=by
  have hh:ns.length<64∧∃ ms,SrtS ns ms:=⟨hl,ms,hm⟩
  unfold dSrtS
  rw [h]
  dsimp only
  rw [asInts_map]
  dsimp only
  rw [dif_pos hh,srtS_uniq hh.2.choose_spec hm]
theorem sf_srtS {ta:TE} {a:DE} (ha:SemB K ta a):SemF K (tSrtS K ta) (dSrtS a):=fun {B Z os ρ σ H Q es} f q k=>by
  unfold dSrtS at q
  split at q
  · rename_i ds e0
    split at q
    · rename_i ns e1
      split at q
      · rename_i hh
        cases q
        obtain ⟨d,e0,ed⟩:=asL_some e0
        refine ha f e0 fun v H1 s1 i1=>?_
        obtain ⟨p,vs,rfl,hlv,hn,hr⟩:=i1.seq ed
        obtain ⟨hq,il⟩:=hr H1 _ Kp.refl
        have ei:=asInts_some e1
        subst ei
        have ev:=IsL.ints il
        subst ev
        refine ⟨p,ns,rfl,hq,hh.1,fun ms hm D hD=>?_⟩
        rw [srtS_uniq hm hh.2.choose_spec]
        have hs:sizeLine=16777216:=sizeLine_eq
        have hlen:hh.2.choose.length≤ns.length:=by
          have sp:=hh.2.choose_spec
          exact List.Nodup.length_le_of_subset sp.1 fun x hx=>(sp.2.1 x).mp hx
        exact k D _ _ (s1.trans (same_new hD)) (Same.free s1 hD) upd_same (by rw [List.length_map]; have:=hh.1; omega) (.ofInts _)
      · cases q
    · cases q
  · cases q
theorem srtS_ex:∀ ns:List Int,∃ ms,SrtS ns ms:=by
  intro ns
  have key:∀ l:List Int,∃ ms:List Int,ms.Nodup∧∀ x,x∈ms↔x∈l:=by
    intro l
    induction l with
    | nil=>exact ⟨[],List.nodup_nil,fun x=>Iff.rfl⟩
    | cons y r ih =>
      obtain ⟨ms,h1,h2⟩:=ih
      by_cases c:y∈ms
      · refine ⟨ms,h1,fun x=>?_⟩
        rw [h2,List.mem_cons]
        constructor
        · exact .inr
        · rintro (rfl | z)
          · exact (h2 _).mp c
          · exact z
      · exact ⟨y::ms,List.nodup_cons.mpr ⟨c,h1⟩,fun x=>by rw [List.mem_cons,List.mem_cons,h2]⟩
  obtain ⟨ms,h1,h2⟩:=key ns
  exact ⟨srtI ms,(srtI_perm ms).nodup_iff.mpr h1,fun x=>by rw [(srtI_perm ms).mem_iff]; exact h2 x,srtI_up ms⟩
end
end VL
namespace VL
open PySem L2
open Classical
noncomputable section
variable [Tabs] {K:PySem.W.Frag}
end
end VL
namespace L2
open PySem PySem.Spec PyProof.Rows VL
def stepI (lo hi st:Option Int) (n:Nat):List Nat:=sliceRange (sliceBounds lo hi st n).1 (sliceBounds lo hi st n).2.1 (sliceBounds lo hi st n).2.2
def pickL {α:Type} (xs:List α) (is:List Nat):List α:=is.filterMap fun i=>xs[i]?
theorem pick_vals {vs:List V} {us:List Value} (r:Vals vs us):∀ is:List Nat,Vals (pickL vs is) (pickL us is)
  | []=>.nil
  | i::is=>by
    unfold pickL
    rw [List.filterMap_cons,List.filterMap_cons]
    have hl:=r.length
    by_cases c:i<vs.length
    · obtain ⟨u,e,ru⟩:=r.get (List.getElem?_eq_getElem c)
      rw [List.getElem?_eq_getElem c,e]
      exact .cons ru (pick_vals r is)
    · rw [List.getElem?_eq_none (by omega),List.getElem?_eq_none (by omega)]
      exact pick_vals r is
def rSlS (K:PySem.W.Frag):V→Option Int→Option Int→Option Int→Hp→VK→Prop:=fun x lo hi st H Q=>∃ a xs,x=.ref a∧SqL K H a xs∧st≠some 0∧(pickL xs (stepI lo hi st xs.length)).length≤sizeLine∧∀ p,H p=none→Q (.ref p) (upd H p (.lst (pickL xs (stepI lo hi st xs.length))))
def tSlS (K:PySem.W.Frag) (te:TE) (tl th ts:TO):TE:=fun σ H Q=>te σ H fun x H1=>tl σ H1 fun l H2=>th σ H2 fun u H3=>ts σ H3 fun w H4=>rSlS K x l u w H4 Q
theorem pe_sliceS {X:Cx} {K:PySem.W.Frag} {e:Expr} {te:TE} {lo hi:Option Expr} {st:Expr} {tl th ts:TO} {pos p2:Pos} (hK:X.K=K) (he:PE X e te) (hl:PO X lo tl) (hu:PO X hi th) (hw:PO X (some st) ts):PE X (.Subscript e (.Slice lo hi (some st) p2) pos) (tSlS K te tl th ts):=by
  subst hK
  intro pins s σ H Q I h
  refine Subscript_ (thn (he pins s σ H _ I h) fun v s1 ⟨x,H1,I1,r1,q1⟩=>?_)
  refine wpAny_Slice (thn (hl pins s1 σ H1 _ I1 q1) fun vl s2 ⟨l,H2,I2,pl,q2⟩=>thn (hu pins s2 σ H2 _ I2 q2) fun vu s3 ⟨u,H3,I3,pu,q3⟩=>thn (hw pins s3 σ H3 _ I3 q3) fun vw s4 ⟨w,H4,I4,pw,q4⟩=>?_)
  obtain ⟨a,xs,rfl,hx,hz,hlen,q⟩:=q4
  cases r1
  have I5:Inv X pins σ H4 { s4 with heap:=s4.heap.push { cls:=.type "slice", data:=.fields #[vl,vu,vw] } }:=I4.kept (t':=s4.toks) fun b ob q=>Heap.get?_push_of_some _ q
  obtain ⟨its,r,ht,hsz⟩:=I5.list hx
  have hlen2:=r.length
  show wpAny (model X.prog X.w) X.A (subscriptTail e (.Slice lo hi (some st) p2) (.ref a) (.ref s4.heap.objs.size)) (EP X pins σ Q) X.xe { s4 with heap:=s4.heap.push { cls:=.type "slice", data:=.fields #[vl,vu,vw] } }
  refine tail_any (ops:=[.ref a,.ref s4.heap.objs.size]) ht.isList.typeIs slot_list_getitem.lookup ?_ (by with_unfolding_all rfl)
  refine wpAny_getItem_list_slice ht.isList (Heap.IsSliceOf.new ..) pl pu pw hz ?_ (by rw [List.size_toArray] <;> omega)
  have ep:slicePick its.toArray l u w=(pickL its (stepI l u w xs.length)).toArray:=by
    unfold slicePick pickL stepI
    rw [List.size_toArray,hlen2]
    simp
  rw [ep]
  refine ⟨.ref _,upd H4 _ (.lst (pickL xs (stepI l u w xs.length))),I5.laid (t':=s4.toks) (fun b ob q=>Heap.get?_push_of_some _ q) (Nat.le_refl _) ⟨hlen,_,0,pick_vals r _,Heap.get?_push_size _ rfl⟩,rfl,q _ (I5.hok.fresh (Nat.le_refl _))⟩
theorem pick_len {α:Type} (xs:List α):∀ is:List Nat,(pickL xs is).length≤is.length:=fun is=>List.length_filterMap_le _ _
end L2
namespace VL
open PySem L2
open Classical
noncomputable section
variable [Tabs] {K:PySem.W.Frag}
theorem pick_is {H:Hp} {Z:Addr→Prop} {vs:List V} {ds:List D} (r:IsL K H Z vs ds):∀ is:List Nat,IsL K H Z (pickL vs is) (pickL ds is)
  | []=>.nil
  | i::is=>by
    unfold pickL
    rw [List.filterMap_cons,List.filterMap_cons]
    have hl:=r.length
    by_cases c:i<vs.length
    · obtain ⟨d,e⟩:∃ d,ds[i]?=some d:=⟨_,List.getElem?_eq_getElem (by omega)⟩
      obtain ⟨v,ev,iv⟩:=r.get e
      rw [e,ev]
      exact .cons iv (pick_is r is)
    · rw [List.getElem?_eq_none (by omega),List.getElem?_eq_none (by omega)]
      exact pick_is r is
noncomputable def dSlS (a:DE) (lo hi st:Rho→Option (Option Int)):Rho→Option (List D):=fun ρ=>match asL a ρ with
  | some ds=>(match lo ρ,hi ρ,st ρ with
    | some l,some h,some w=>if w≠some 0∧(stepI l h w ds.length).length≤sizeLine then some (pickL ds (stepI l h w ds.length)) else none
    | _,_,_=>none)
  | _=>none
omit [Tabs] in
theorem ev_slS {a:DE} {lo hi st:Rho→Option (Option Int)} {ρ:Rho} {ds:List D} {l h w:Option Int} (ha:asL a ρ=some ds) (h1:lo ρ=some l) (h2:hi ρ=some h) (h3:st ρ=some w) (hc:w≠some 0∧(stepI l h w ds.length).length≤sizeLine):dSlS a lo hi st ρ=some (pickL ds (stepI l h w ds.length)):=by
  unfold dSlS; rw [ha,h1,h2,h3]; exact if_pos hc
theorem sf_slS {ta:TE} {a:DE} {tl th ts:TO} {lo hi st:Rho→Option (Option Int)} (ha:SemI K ta a) (hl:SemO K tl lo) (hh:SemO K th hi) (hs:SemO K ts st):SemF K (tSlS K ta tl th ts) (dSlS a lo hi st):=fun {B Z os ρ σ H Q ds} f q k=>by
  unfold dSlS at q
  split at q
  · rename_i es e1
    split at q
    · rename_i l u w e2 e3 e4
      split at q
      · rename_i hc
        cases q
        obtain ⟨d,e1,ed⟩:=asL_some e1
        refine ha f e1 fun v H1 s1 i1=>hl (f.grow s1) e2 fun H2 s2=>hh (f.grow (s1.trans s2)) e3 fun H3 s3=>hs (f.grow ((s1.trans s2).trans s3)) e4 fun H4 s4=>?_
        obtain ⟨p,vs,rfl,hn,_,hr⟩:=i1.seq ed
        obtain ⟨hr,r⟩:=hr H4 _ (Kp.same ((s2.trans s3).trans s4))
        have s14:=((s1.trans s2).trans s3).trans s4
        have hvl:=r.length
        rw [← hvl] at hc k
        have hpl:(pickL vs (stepI l u w vs.length)).length≤sizeLine:=Nat.le_trans (pick_len _ _) hc.2
        exact ⟨p,vs,rfl,hr,hc.1,hpl,fun n hn'=>k n _ _ (s14.trans (same_new hn')) (Same.free s14 hn') upd_same hpl ((pick_is r _).kp (kp_new hn'))⟩
      · cases q
    · cases q
  · cases q
end
end VL
namespace VL
open PySem L2
open Classical
noncomputable section
variable [Tabs] {K:PySem.W.Frag} {fr:Fm}
def getZ (kvs:List (Int×Int)) (k:Int):Option Int:=(kvs.find? fun p=>decide (p.1=k)).map (·.2)
def putZ (kvs:List (Int×Int)) (k v:Int):List (Int×Int):=if kvs.any (fun p=>decide (p.1=k)) then kvs.map fun p=>if p.1=k then (p.1,v) else p else kvs++[(k,v)]
omit [Tabs] in
theorem val_dkv (k:Int):∀ kvs:List (Int×Int),L2.valV (kvs.map dkv) (.inl k)=(getZ kvs k).map V.int
  | []=>rfl
  | p::r=>by
    rw [List.map_cons]
    by_cases e:p.1=k
    · rw [L2.valV_pos (show (dkv p).1=.inl k by show Sum.inl p.1=_; rw [e])]
      unfold getZ
      rw [List.find?_cons_of_pos (by simpa using e)]
      rfl
    · rw [L2.valV_neg (show ¬ (dkv p).1=.inl k from fun z=>e (Sum.inl.inj z)),val_dkv k r]
      unfold getZ
      rw [List.find?_cons_of_neg (by simpa using e)]
theorem Is.isDct {H:Hp} {Z:Addr→Prop} {v:V} {kvs:List (Int×Int)} (h:Is K H Z v (.dct kvs)):∃ a,v=.ref a∧Rd H a (.dK (kvs.map dkv))∧kvs.length≤sizeLine:=by
  cases h with
  | dct hz h hl=>exact ⟨_,rfl,h,hl⟩
noncomputable def dInD (neg:Bool) (a b:DE):DE:=fun ρ=>match a ρ,b ρ with
  | some (.int k),some (.dct kvs)=>some (.bl (if neg=true then !(getZ kvs k).isSome else (getZ kvs k).isSome))
  | _,_=>none
omit [Tabs] in
theorem ev_inD {neg:Bool} {a b:DE} {ρ:Rho} {k:Int} {kvs:List (Int×Int)} (ha:a ρ=some (.int k)) (hb:b ρ=some (.dct kvs)):dInD neg a b ρ=some (.bl (if neg=true then !(getZ kvs k).isSome else (getZ kvs k).isSome)):=by unfold dInD; rw [ha,hb]
theorem si_notInD {ta tb:TE} {a b:DE} (ha:SemB K ta a) (hb:SemB K tb b):SemI K (tDNotIn ta tb) (dInD true a b):=fun {B Z os ρ σ H Q d} f q k=>by
  unfold dInD at q
  split at q
  · rename_i i kvs e1 e2
    cases q
    refine ha f e1 fun v H1 s1 i1=>hb (f.grow s1) e2 fun w H2 s2 i2=>?_
    cases (i1.isInt)
    obtain ⟨x,rfl,rd,_⟩:=i2.isDct
    refine ⟨x,_,rfl,.inl ⟨_,.inl i,rd,rfl,rfl⟩,?_⟩
    rw [val_dkv,Option.isSome_map]
    exact k _ _ (s1.trans s2) (.bl _)
  · cases q
noncomputable def dGetD (a b:DE):DE:=fun ρ=>match a ρ,b ρ with
  | some (.dct kvs),some (.int k)=>(getZ kvs k).map D.int
  | _,_=>none
omit [Tabs] in
theorem ev_getD {a b:DE} {ρ:Rho} {k v:Int} {kvs:List (Int×Int)} (ha:a ρ=some (.dct kvs)) (hb:b ρ=some (.int k)) (h:getZ kvs k=some v):dGetD a b ρ=some (.int v):=by unfold dGetD; rw [ha,hb]; dsimp only; rw [h]; rfl
theorem si_getD {ta tb:TE} {a b:DE} (ha:SemB K ta a) (hb:SemB K tb b):SemI K (tDGet ta tb) (dGetD a b):=fun {B Z os ρ σ H Q d} f q k=>by
  unfold dGetD at q
  split at q
  · rename_i kvs i e1 e2
    obtain ⟨v,ev,rfl⟩:=Option.map_eq_some_iff.mp q
    refine ha f e1 fun w H1 s1 i1=>hb (f.grow s1) e2 fun u H2 s2 i2=>?_
    cases (i2.isInt)
    obtain ⟨x,rfl,rd,_⟩:=(i1.same s2).isDct
    refine ⟨x,.int v,rfl,.inl ⟨_,.inl i,rd,rfl,?_⟩,k _ _ (s1.trans s2) (.int _)⟩
    rw [val_dkv,ev]; rfl
  · cases q
end
end VL
namespace VL
open PySem L2
open Classical
noncomputable section
variable [Tabs] {K:PySem.W.Frag} {fr:Fm}
@[irreducible] noncomputable def sSetD (i:Nat):DS:=fun ρ=>if i < ρ.length then .nx (ρ.set i (.od [])) else .no
theorem ss_setD {i:Nat}:SemS fr K (tAsg tDNewK (gName i)) (sSetD i):=fun {B Z os ρ σ H E} f p=>by
  unfold sSetD at p
  by_cases hi:i < ρ.length
  · rw [if_pos hi] at p
    intro x hx
    have st:=f.step (H':=upd H x (.dK [])) (i:=i) hi (o:=[x]) (s:=.od []) (v:=some (.ref x)) (fun a u e _=>same_new hx _ _ e) (fun a ha=>let ⟨u,e⟩:=(f.sl i).dom ha; ⟨_,same_new hx _ _ e⟩) (by simp) (fun a ha=>by rw [List.mem_singleton.mp ha]; exact .inr hx)
      ⟨x,rfl,rfl,upd_same,Nat.zero_le _⟩
    exact p _ _ _ st.1 st.2
  · rw [if_neg hi] at p; exact p.elim
omit [Tabs] in
theorem any_dkv (k:Int):∀ kvs:List (Int×Int),((kvs.map dkv).any fun kv=>decide (kv.1=Sum.inl k))=kvs.any fun p=>decide (p.1=k)
  | []=>rfl
  | p::r=>by
    rw [List.map_cons,List.any_cons,List.any_cons,any_dkv k r]
    have e:decide ((dkv p).1=Sum.inl k)=decide (p.1=k):=by
      rw [Bool.eq_iff_iff,decide_eq_true_iff,decide_eq_true_iff]
      exact ⟨fun h=>Sum.inl.inj h,fun h=>by show Sum.inl p.1=_; rw [h]⟩
    rw [e]
omit [Tabs] in
theorem put_dkv (kvs:List (Int×Int)) (k v:Int):L2.putK (kvs.map dkv) (.inl k) (.int v)=(putZ kvs k v).map dkv:=by
  unfold L2.putK putZ
  rw [any_dkv]
  split
  · rw [List.map_map,List.map_map]
    refine List.map_congr_left fun p _=>?_
    show (if (dkv p).1=Sum.inl k then ((dkv p).1,V.int v) else dkv p)=dkv (if p.1=k then (p.1,v) else p)
    by_cases e:p.1=k
    · rw [if_pos e,if_pos (by show Sum.inl p.1=_; rw [e])]; rfl
    · rw [if_neg e,if_neg (show ¬ (dkv p).1=Sum.inl k from fun z=>e (Sum.inl.inj z))]
  · rw [List.map_append]; rfl
omit [Tabs] in
theorem putZ_len (kvs:List (Int×Int)) (k v:Int):(putZ kvs k v).length≤kvs.length+1:=by
  unfold putZ
  split
  · rw [List.length_map]; omega
  · rw [List.length_append,List.length_singleton]; omega
@[irreducible] noncomputable def sPutD (i:Nat) (b a:DE):DS:=fun ρ=>match ρ.getD i .un with
  | .od kvs=>(match a ρ with
    | some (.int v)=>(match b ρ with
      | some (.int k)=>if kvs.length<sizeLine then .nx (ρ.set i (.od (putZ kvs k v))) else .no
      | _=>.no)
    | _=>.no)
  | _=>.no
omit [Tabs] in
theorem wp_setD {i:Nat} {ρ:Rho} {W:Wk} (hi:i < ρ.length) (k:W.nx (ρ.set i (.od []))):Wp (sSetD i) ρ W:=by unfold Wp sSetD; rw [if_pos hi]; exact k
omit [Tabs] in
theorem wp_putD {i:Nat} {b a:DE} {ρ:Rho} {kvs:List (Int×Int)} {k v:Int} {W:Wk} (h0:ρ.getD i .un=.od kvs) (ha:a ρ=some (.int v)) (hb:b ρ=some (.int k)) (hl:kvs.length<sizeLine) (q:W.nx (ρ.set i (.od (putZ kvs k v)))):Wp (sPutD i b a) ρ W:=by
  unfold Wp sPutD; rw [h0]; dsimp only; rw [ha]; dsimp only; rw [hb]; dsimp only; rw [if_pos hl]; exact q
theorem ss_putD {i:Nat} {ta tb:TE} {a b:DE} (ha:SemB K ta a) (hb:SemB K tb b):SemS fr K (sDPut (tVar i) tb ta) (sPutD i b a):=fun {B Z os ρ σ H E} f p=>by
  unfold sPutD at p
  split at p
  · rename_i kvs e
    split at p
    · rename_i v e1
      split at p
      · rename_i k e2
        by_cases hl:kvs.length<sizeLine
        · rw [if_pos hl] at p
          have s:=f.sl i
          rw [e] at s
          obtain ⟨x,eo,hu,hH,hlen⟩:=s
          have hi:=getD_lt e (by intro z; cases z)
          refine ha f e1 fun w H1 s1 i1=>⟨_,join_some hu,hb (f.grow s1) e2 fun y H2 s2 i2=>?_⟩
          cases (i1.isInt)
          cases (i2.isInt)
          have s12:=s1.trans s2
          have f2:=f.grow s12
          have hx:x∈os i:=by rw [eo]; exact List.mem_singleton.mpr rfl
          have st:=f2.step (H':=upd H2 x (.dK ((putZ kvs k v).map dkv))) (i:=i) hi (o:=[x]) (s:=.od (putZ kvs k v)) (v:=some (.ref x)) (fun b u e n=>by rw [upd_ne (fun z=>n (by rw [z]; exact hx))]; exact e) (fun b hb=>by rw [eo] at hb; rw [List.mem_singleton.mp hb]; exact ⟨_,upd_same⟩) (by simp) (fun b hb=>by rw [List.mem_singleton.mp hb]; exact .inl hx)
            ⟨x,rfl,rfl,upd_same,by have:=putZ_len kvs k v; omega⟩
          rw [set_self hu] at st
          refine ⟨x,_,rfl,.inl ⟨_,.inl k,s12 _ _ hH,rfl,by rw [List.length_map]; exact hl,rfl⟩,?_⟩
          rw [put_dkv]
          exact p _ _ _ st.1 ((Kp.same s12).trans st.2)
        · rw [if_neg hl] at p; exact p.elim
      · exact p.elim
    · exact p.elim
  · exact p.elim
end
end VL
namespace VL
open PySem L2
open Classical
noncomputable section
variable [Tabs] {K:PySem.W.Frag} {fr:Fm}
section
variable {B H:Hp} {Z:Addr→Prop} {os:Own} {ρ:Rho} {σ:L2.St} {i:Nat} {a:Addr} {ps:List Addr} {rows:List (List D)}
theorem Fr.unpin (f:Fr K B Z os ρ σ H) (e:ρ.getD i .un=.pm a ps rows):Fr K B Z os (ρ.set i (.om rows)) σ H∧os i=a::ps:=by
  have s:=f.sl i
  rw [e] at s
  obtain ⟨eo,hu,hH,hl,r⟩:=s
  have hi:=getD_lt e (by intro z; cases z)
  refine ⟨⟨f.keep,f.zin,by rw [List.length_set]; exact f.len,f.nd,f.dj,f.new,fun j=>?_,f.tab⟩,eo⟩
  by_cases hj:j=i
  · subst hj
    rw [getD_set_same hi]
    exact ⟨a,ps,eo,hu,hH,hl,r⟩
  · rw [getD_set_ne hj]
    exact f.sl j
theorem Fr.pin (f:Fr K B Z os ρ σ H) (e:ρ.getD i .un=.om rows) (eo:os i=a::ps):Fr K B Z os (ρ.set i (.pm a ps rows)) σ H:=by
  have s:=f.sl i
  rw [e] at s
  obtain ⟨b,qs,eo',hu,hH,hl,r⟩:=s
  rw [eo] at eo'
  cases eo'
  have hi:=getD_lt e (by intro z; cases z)
  refine ⟨f.keep,f.zin,by rw [List.length_set]; exact f.len,f.nd,f.dj,f.new,fun j=>?_,f.tab⟩
  by_cases hj:j=i
  · subst hj
    rw [getD_set_same hi]
    exact ⟨eo,hu,hH,hl,r⟩
  · rw [getD_set_ne hj]
    exact f.sl j
end
@[irreducible] noncomputable def sAug2P (g:Int→Int→Int) (i:Nat) (b c a:DE):DS:=fun ρ=>match ρ.getD i .un with
  | .pm q0 qs rows=>(match b ρ with
    | some (.int n)=>(match ixN rows.length n with
      | some r=>(match rows[r]? with
        | some ds=>(match c ρ with
          | some (.int m)=>(match ixN ds.length m with
            | some j=>(match ds[j]? with
              | some (.int x)=>(match a ρ with
                | some (.int y)=>.nx (ρ.set i (.pm q0 qs (rows.set r (ds.set j (.int (g x y))))))
                | _=>.no)
              | _=>.no)
            | none=>.no)
          | _=>.no)
        | none=>.no)
      | none=>.no)
    | _=>.no)
  | _=>.no
theorem ss_aug2P {i:Nat} {g:Int→Int→Int} {ta tb tc:TE} {a b c:DE} (hb:SemB K tb b) (hc:SemB K tc c) (ha:SemB K ta a):SemS fr K (tAugS (tOp (rIx K) (tVar i) tb) tc ta (rIxL K) (ipI g) rSetL) (sAug2P g i b c a):=fun {B Z os ρ σ H E} f p=>by
  unfold sAug2P at p
  split at p
  · rename_i q0 qs rows e
    split at p
    · rename_i n e2
      split at p
      · rename_i r e3
        split at p
        · rename_i ds e4
          split at p
          · rename_i m e5
            split at p
            · rename_i j e6
              split at p
              · rename_i z e7
                split at p
                · rename_i y e8
                  obtain ⟨f0,eo0⟩:=f.unpin e
                  have hi:=getD_lt e (by intro z; cases z)
                  have e':(ρ.set i (.om rows)).getD i .un=.om rows:=getD_set_same hi
                  obtain ⟨x,ps,q,vs,eo,hu,hH,hat,hr,hq,hl,il⟩:=row_at f0 e' e3 e4
                  rw [eo0] at eo
                  cases eo
                  refine ⟨_,join_some hu,hb f e2 fun w H2 s2 i2=>.inl ⟨q0,qs.map V.ref,n,.ref q,rfl,i2.isInt,SqL.of (s2 _ _ hH),hat,hc (f.grow s2) e5 fun u H3 s3 i3=>?_⟩⟩
                  have s13:=s2.trans s3
                  obtain ⟨v,ev,iv⟩:=il.get e7
                  refine ⟨q,vs,m,v,rfl,i3.isInt,SqL.of (s13 _ _ hq),?_,ha (f.grow s13) e8 fun u' H4 s4 i4=>⟨z,y,iv.isInt,i4.isInt,?_⟩⟩
                  · unfold atI; rw [il.length,e6]; exact ev
                  · have s14:=s13.trans s4
                    have f4:=f0.grow s14
                    obtain ⟨f',k⟩:=f4.mutM1 (vs':=vs.set j (.int (g z y))) (ds':=ds.set j (.int (g z y))) e' eo0 hu hr (by rw [List.length_set]; exact hl) ((il.same s14).set (.int _) j)
                    have f'':=f'.pin (a:=q0) (ps:=qs) (getD_set_same (by rw [List.length_set]; exact hi)) putO_same
                    rw [List.set_set,List.set_set] at f''
                    exact ⟨q,vs,m,j,rfl,i3.isInt,s14 _ _ hq,by rw [il.length]; exact e6,p _ _ _ f'' ((Kp.same s14).trans k)⟩
                · exact p.elim
              · exact p.elim
            · exact p.elim
          · exact p.elim
        · exact p.elim
      · exact p.elim
    · exact p.elim
  · exact p.elim
theorem wp_aug2P {g:Int→Int→Int} {i:Nat} {e c a:DE} {ρ:Rho} {W:Wk} {q0:Addr} {qs:List Addr} {rows:List (List D)} {ds:List D} {n m x y:Int} {r j:Nat} (h0:ρ.getD i .un=.pm q0 qs rows) (h2:e ρ=some (.int n)) (h3:ixN rows.length n=some r) (h4:rows[r]?=some ds) (h5:c ρ=some (.int m)) (h6:ixN ds.length m=some j) (h7:ds[j]?=some (.int x)) (h8:a ρ=some (.int y)) (k:W.nx (ρ.set i (.pm q0 qs (rows.set r (ds.set j (.int (g x y))))))):Wp (sAug2P g i e c a) ρ W:=by
  unfold Wp sAug2P; rw [h0]; simp only [h2,h3,h4,h5,h6,h7,h8]; exact k
theorem ms_all {ms:List Bool} {ip:Nat} (h:(ms.set ip true).all id=true):∀ j,j≠ip→ms.getD j true=true:=fun j hj=>by
  rw [List.getD_eq_getElem?_getD]
  by_cases c:j<ms.length
  · have e:(ms.set ip true)[j]?=ms[j]?:=List.getElem?_set_ne (Ne.symm hj)
    rw [List.getElem?_eq_getElem c] at e
    have:=List.all_eq_true.mp h ms[j] (List.mem_of_getElem? e)
    rw [List.getElem?_eq_getElem c]
    exact this
  · rw [List.getElem?_eq_none (by omega)]; rfl
theorem stD_bo {n:Nat} {ms:List Bool} {ds:List D} {j:Nat} {d:D} (h:(stD n ms ds).getD j .un=.bo d):ms.getD j true=false:=by
  unfold stD at h
  rw [List.getD_eq_getElem?_getD] at h
  by_cases hj:j<(List.zipWith slm ms ds).length
  · rw [List.getElem?_append_left hj,List.getElem?_zipWith] at h
    rw [List.length_zipWith] at hj
    rw [List.getElem?_eq_getElem (show j<ms.length by omega),List.getElem?_eq_getElem (show j<ds.length by omega)] at h
    rw [List.getD_eq_getElem?_getD,List.getElem?_eq_getElem (show j<ms.length by omega)]
    cases e:ms[j] with
    | false=>rfl
    | true=>rw [e] at h; cases h
  · rw [List.getElem?_append_right (by omega),List.getElem?_replicate] at h
    split at h <;> cases h
theorem pinFr {H:Hp} {Z:Addr→Prop} {N:List Str} {ms:List Bool} {vs:List V} {ds:List D} {ip:Nat} {a:Addr} {ps:List Addr} {rows:List (List D)} (hz:ZT Z H) (h:Args K H Z ms vs ds) (hm:∀ j,j≠ip→ms.getD j true=true) (hip:ip<N.length) (hv:vs[ip]?=some (.ref a)) (hn:(a::ps).Nodup) (hZ:∀ b∈a::ps,Z b) (hH:H a=some (.lst (ps.map V.ref))) (hl:ps.length≤sizeLine)
    (hp:Paired (fun p ds=>∃ vs,H p=some (.lst vs)∧vs.length≤sizeLine∧IsL K H Z vs ds) ps rows) :
    Fr K (fun b=>if b∈a::ps then none else H b) (fun b=>Z b∧b∉a::ps) (fun j=>if j=ip then a::ps else []) ((stD N.length ms ds).set ip (.pm a ps rows)) (L2.start N vs) H:=by
  have f0:=startFr (N:=N) hz h
  have tt:∀ b,tot (fun b=>Z b∧b∉a::ps) (fun j=>if j=ip then a::ps else []) b→Z b:=by
    rintro b (z | ⟨j,z⟩)
    · exact z.1
    · by_cases hj:j=ip
      · have z:b∈(if j=ip then a::ps else []):=z
        rw [if_pos hj] at z; exact hZ b z
      · have z:b∈(if j=ip then a::ps else []):=z
        rw [if_neg hj] at z; cases z
  have dom:∀ b∈a::ps,∃ vs,H b=some (.lst vs):=fun b hb=>by
    rcases List.mem_cons.mp hb with rfl | hb
    · exact ⟨_,hH⟩
    · obtain ⟨_,vs,q,_⟩:=Paired.any hp hb
      exact ⟨_,q⟩
  refine ⟨fun b o e=>?_,fun b z=>hz.1 b z.1,by rw [List.length_set]; exact f0.len,fun j=>?_,fun i j b h1 h2=>?_,fun i b hb=>?_,fun j=>?_,fun p hp'=>?_⟩
  · split at e
    · cases e
    · exact e
  · split
    · exact hn
    · exact List.nodup_nil
  · split at h1
    · split at h2
      · rename_i x y; rw [x,y]
      · cases h2
    · cases h1
  · split at hb
    · exact ⟨if_pos hb,fun z=>z.2 hb⟩
    · cases hb
  · by_cases hj:j=ip
    · subst hj
      have hlen:j<(stD N.length ms ds).length:=by rw [← f0.len]; unfold L2.start; rw [List.length_append,List.length_map,List.length_replicate]; omega
      rw [getD_set_same hlen]
      refine ⟨if_pos rfl,?_,hH,hl,Paired.mono hp fun q ds _ ⟨vs,h1,h2,h3⟩=>⟨vs,h1,h2,h3.kp (Kp.less tt)⟩⟩
      unfold L2.start
      have hjv:=(List.getElem?_eq_some_iff.mp hv).1
      rw [List.getElem?_append_left (by rw [List.length_map]; exact hjv),List.getElem?_map,hv]
      rfl
    · rw [getD_set_ne hj]
      rw [if_neg hj]
      have s:=f0.sl j
      cases e:(stD N.length ms ds).getD j .un with
      | un=>exact rfl
      | pu d=>rw [e] at s; obtain ⟨_,u,hu,i1⟩:=s; exact ⟨rfl,u,hu,i1.kp (Kp.less fun b z=>.inl (tt b z))⟩
      | bo d=>have:=stD_bo e; rw [hm j hj] at this; cases this
      | ol d=>rw [e] at s; obtain ⟨_,_,z,_⟩:=s; cases z
      | om d=>rw [e] at s; obtain ⟨_,_,z,_⟩:=s; cases z
      | od d=>rw [e] at s; obtain ⟨_,z,_⟩:=s; cases z
      | pm _ _ d=>rw [e] at s; obtain ⟨z,_⟩:=s; cases z
      | pd _ d=>rw [e] at s; obtain ⟨z,_⟩:=s; cases z
  · obtain ⟨t,e⟩:=hz.2 p hp'
    refine ⟨t,?_⟩
    rw [if_neg]
    · exact e
    · intro hb
      obtain ⟨vs,q⟩:=dom _ hb
      rw [e] at q; cases q
@[irreducible] def runU (n ip:Nat) (ms:List Bool) (b:DS) (a:Addr) (ps:List Addr) (ds:List D):Option (List (List D)):=match ds[ip]? with
  | some (.lst rs)=>(match unrows rs with
    | some rows=>(match b ((stD n ms ds).set ip (.pm a ps rows)) with
      | .nx ρ=>(match ρ.getD ip .un with
        | .pm a' ps' rows'=>if a'=a∧ps'=ps then some rows' else none
        | _=>none)
      | _=>none)
    | none=>none)
  | _=>none
def spU (K:PySem.W.Frag) (ip:Nat) (ms:List Bool) (F:Addr→List Addr→List D→Option (List (List D))):Sp:=fun vs H Q _=>∃ (Z:Addr→Prop) (ds:List D) (a:Addr) (ps:List Addr) (rows rows':List (List D)),
  ZT Z H∧Args K H Z ms vs ds∧vs[ip]?=some (.ref a)∧ds[ip]?=some (rowsL rows)∧(a::ps).Nodup∧(∀ b∈a::ps,Z b)∧H a=some (.lst (ps.map V.ref))∧ps.length≤sizeLine∧Paired (fun p ds=>∃ vs,H p=some (.lst vs)∧vs.length≤sizeLine∧IsL K H Z vs ds) ps rows∧F a ps ds=some rows' ∧
  ∀ H',(∀ b o,H b=some o→b∉a::ps→H' b=some o)→H' a=some (.lst (ps.map V.ref))→Paired (fun p ds=>∃ vs,H' p=some (.lst vs)∧vs.length≤sizeLine∧IsL K H' Z vs ds) ps rows'→Q .non H'
theorem Fun.okU {P:Program} {w:World} {mg:Str→Option Value} {base:Heap} {x qual:Str} {st:Stmt} {f:Addr} {fd:FuncData} {N qs:List Str} {k:Nat} (F:Fun K x qual st f fd) (S:FnScope N qs (defScope st)) (ip:Nat) (ms:List Bool) (hms:ms.length=qs.length) (hm:∀ j,j≠ip→ms.getD j true=true) (hip:ip<N.length) (b:DS)
    (hbody:∀ (cdv:Value) (A:Around) (outer:List Env) (s:Shared) (H:Hp) (E:XK),Room k (A.deeper (PyProof.Rows.envOfC qual (defScope st) s.heap.objs.size f cdv)) →
      ∃ t,PSs (cxOf CX0 P w K mg base N qual (defScope st) f cdv A outer s H E).nox (defBody st) t∧SemS .v K t b):FnOk P w K mg base CX0 (k+1) f fd qs (spU K ip ms (runU N.length ip ms b)):=by
  refine F.ok S (fun vs H Q E h=>?_) (fun cdv A outer s H vs Q E hr h=>?_)
  · obtain ⟨Z,ds,_,_,_,_,hz,a,_⟩:=h
    rw [a.len.1,hms]
  · obtain ⟨Z,ds,a,ps,rows,rows',hz,ar,hv,hd,hn,hZ,hH,hl,hp,hF,k⟩:=h
    obtain ⟨t,h1,h2⟩:=hbody cdv A outer s H E hr
    refine ⟨t,h1,h2 (pinFr hz ar hm hip hv hn hZ hH hl hp) ?_⟩
    unfold runU at hF
    rw [hd] at hF
    unfold rowsL at hF
    dsimp only at hF
    rw [unrows_map] at hF
    dsimp only at hF
    split at hF
    · rename_i ρ e1
      rw [e1]
      split at hF
      · rename_i a' ps' r' e2
        split at hF
        · rename_i e3
          obtain ⟨rfl,rfl⟩:=e3
          cases hF
          intro os' σ' H' f' _
          have s':=f'.sl ip
          rw [e2] at s'
          obtain ⟨eo,hu,hH',hl',pr⟩:=s'
          refine k H' (fun b o e n=>f'.keep b o ?_) hH' (Paired.mono pr fun q ds _ ⟨us,g1,g2,g3⟩=>⟨us,g1,g2,g3.kp (Kp.less fun b z=>?_)⟩)
          · rw [if_neg n]; exact e
          · by_cases hb:b∈a'::ps'
            · exact .inr ⟨ip,by rw [eo]; exact hb⟩
            · exact .inl ⟨z,hb⟩
        · cases hF
      · cases hF
    · cases hF
def SemU (K:PySem.W.Frag) (i ip:Nat) (ms:List Bool) (t:TA) (e:Rho→Option (List D)):Prop:=∀ {B:Hp} {Z:Addr→Prop} {os:Own} {ρ:Rho} {σ:L2.St} {H:Hp} {Q:List V→Hp→Prop} {ds:List D},Fr K B Z os ρ σ H→e ρ=some ds→(∀ vs H',Same H H'→Args K H' (tot Z os) ms vs ds→vs[ip]?=(σ[i]?).join→ds[ip]?=dVar i ρ→Q vs H')→t σ H Q
theorem su_here {i:Nat} {ms:List Bool} {tr:TA} {es:Rho→Option (List D)} (hr:SemA K ms tr es):SemU K i 0 (false::ms) (tCons (tVar i) tr) (dCons (dVar i) es):=fun {B Z os ρ σ H Q ds} f q k=>by
  obtain ⟨d,r,e1,e2,rfl⟩:=dCons_some q
  have hv:∃ u,(σ[i]?).join=some u∧Is K H No u d:=by
    have:=sb_var (K:=K) i f (Q:=fun v H'=>(σ[i]?).join=some v∧H'=H∧Is K H No v d) e1
    have s:=f.sl i
    unfold dVar at e1
    cases e:ρ.getD i .un with
    | un=>rw [e] at e1; cases e1
    | pu d'=>rw [e] at e1 s; cases e1; obtain ⟨_,u,hu,i1⟩:=s; exact ⟨u,hu,i1.all⟩
    | bo d'=>rw [e] at e1 s; cases e1; obtain ⟨_,u,hu,i1⟩:=s; exact ⟨u,hu,i1.same f.keep⟩
    | ol ds=>rw [e] at e1 s; cases e1; obtain ⟨a,vs,_,hu,hH,hl,i1⟩:=s; exact ⟨_,hu,.lst (fun z=>z) (.inl hH) hl i1.all⟩
    | om rows=>rw [e] at e1 s; cases e1; obtain ⟨a,ps,_,hu,hH,hl,i1⟩:=s; exact ⟨_,hu,.lst (fun z=>z) (.inl hH) (by rw [List.length_map]; exact hl) (rows_is i1)⟩
    | od kvs=>rw [e] at e1 s; cases e1; obtain ⟨a,_,hu,hH,hl⟩:=s; exact ⟨_,hu,.dct (fun z=>z) (.inl hH) hl⟩
    | pm a ps rows=>rw [e] at e1 s; cases e1; obtain ⟨_,hu,hH,hl,i1⟩:=s; exact ⟨_,hu,.lst (fun z=>z) (.inl hH) (by rw [List.length_map]; exact hl) (rows_is i1)⟩
    | pd a kvs=>rw [e] at e1 s; cases e1; obtain ⟨_,hu,hH,hl⟩:=s; exact ⟨_,hu,.dct (fun z=>z) (.inl hH) hl⟩
  obtain ⟨u,hu,iu⟩:=hv
  exact ⟨u,join_some hu,hr f e2 fun vs H' s a=>k (u::vs) H' s (.any (iu.same s) a) (by rw [hu]; rfl) (by rw [e1]; rfl)⟩
theorem su_next {i ip:Nat} {ms:List Bool} {ta:TE} {a:DE} {tr:TA} {es:Rho→Option (List D)} (ha:SemI K ta a) (hr:SemU K i ip ms tr es):SemU K i (ip+1) (true::ms) (tCons ta tr) (dCons a es):=fun {B Z os ρ σ H Q ds} f q k=>by
  obtain ⟨d,r,e1,e2,rfl⟩:=dCons_some q
  exact ha f e1 fun v H1 s1 i1=>hr (f.grow s1) e2 fun vs H2 s2 ar hv hd=>k (v::vs) H2 (s1.trans s2) (.own (i1.same s2) ar) hv hd
@[irreducible] noncomputable def sCallU (i:Nat) (F:Addr→List Addr→List D→Option (List (List D))) (es:Rho→Option (List D)):DS:=fun ρ=>match ρ.getD i .un with
  | .om rows=>(match es ρ with
    | some ds=>if h:∃ rows',∀ a ps,ps.length=rows.length→F a ps ds=some rows' then .nx (ρ.set i (.om h.choose)) else .no
    | none=>.no)
  | _=>.no
theorem wp_callU {i:Nat} {F:Addr→List Addr→List D→Option (List (List D))} {es:Rho→Option (List D)} {ρ:Rho} {W:Wk} {rows rows':List (List D)} {ds:List D} (h0:ρ.getD i .un=.om rows) (h1:es ρ=some ds) (h2:∀ a ps,ps.length=rows.length→F a ps ds=some rows') (k:W.nx (ρ.set i (.om rows'))):Wp (sCallU i F es) ρ W:=by
  have ex:∃ rows',∀ a ps,ps.length=rows.length→F a ps ds=some rows':=⟨_,h2⟩
  have e:ex.choose=rows':=by
    have q:=ex.choose_spec 0 (List.replicate rows.length 0) (List.length_replicate ..)
    rw [h2 0 _ (List.length_replicate ..)] at q
    exact (Option.some.inj q).symm
  unfold Wp sCallU
  rw [h0]
  simp only [h1]
  rw [dif_pos ex,e]
  exact k
theorem ss_callU {i ip:Nat} {ms:List Bool} {F:Addr→List Addr→List D→Option (List (List D))} {t:TA} {es:Rho→Option (List D)} {E0:XK} (hu:SemU K i ip ms t es):SemS fr K (tDrop (tCall (spU K ip ms F) [] E0 t)) (sCallU i F es):=fun {B Z os ρ σ H E} f p=>by
  unfold sCallU at p
  split at p
  · rename_i rows e
    split at p
    · rename_i ds e1
      split at p
      · rename_i ex
        have hF:=ex.choose_spec
        generalize ex.choose=rows' at p hF
        refine hu f e1 fun vs H1 s1 ar hv hd=>?_
        show spU K ip ms F (vs++[]) H1 _ E0
        rw [List.append_nil]
        have f1:=f.grow s1
        obtain ⟨a,ps,eo,hua,hH,hl,hln,pr⟩:=om_of f1 e
        have hn:=f1.nd i
        rw [eo] at hn
        have hi:=getD_lt e (by intro z; cases z)
        refine ⟨tot Z os,ds,a,ps,rows,rows',f1.zt,ar,by rw [hv,hua],by rw [hd]; unfold dVar; rw [e]; rfl,hn,fun b hb=>.inr ⟨i,by rw [eo]; exact hb⟩,hH,hl,pr,hF a ps hln,fun H' hk ha hp=>?_⟩
        have tt:tot Z (putO os i (a::ps))=tot Z os:=by
          funext c
          apply propext
          constructor
          · rintro (z | ⟨j,z⟩)
            · exact .inl z
            · by_cases hj:j=i
              · subst hj; rw [putO_same] at z; exact .inr ⟨j,by rw [eo]; exact z⟩
              · rw [putO_ne hj] at z; exact .inr ⟨j,z⟩
          · rintro (z | ⟨j,z⟩)
            · exact .inl z
            · by_cases hj:j=i
              · subst hj; exact .inr ⟨j,by rw [putO_same,← eo]; exact z⟩
              · exact .inr ⟨j,by rw [putO_ne hj]; exact z⟩
        have st:=f1.step (H':=H') (i:=i) hi (o:=a::ps) (s:=.om rows') (v:=some (.ref a)) (fun b u e n=>hk b u e (by rw [← eo]; exact n)) (fun b hb=>?_) hn (fun b hb=>by rw [← eo] at hb; exact .inl hb)
          ⟨a,ps,rfl,rfl,ha,hl,by rw [tt]; exact hp⟩
        · rw [set_self hua] at st
          exact p _ _ _ st.1 ((Kp.same s1).trans st.2)
        · rw [eo] at hb
          rcases List.mem_cons.mp hb with rfl | hb
          · exact ⟨_,ha⟩
          · obtain ⟨_,us,q,_⟩:=Paired.any hp hb
            exact ⟨_,q⟩
      · exact p.elim
    · exact p.elim
  · exact p.elim
theorem run_eqU {F:Addr→List Addr→List D→Option (List (List D))} {n ip:Nat} {ms:List Bool} {b:DS} (hF:F=runU n ip ms b) {a:Addr} {ps:List Addr} {ds:List D} {rows rows':List (List D)} (hd:ds[ip]?=some (rowsL rows)) (h:Wp b ((stD n ms ds).set ip (.pm a ps rows)) { nx:=fun ρ=>ρ.getD ip .un=.pm a ps rows',rt:=fun _=>False }):F a ps ds=some rows':=by
  subst hF
  unfold runU
  rw [hd]
  unfold rowsL
  dsimp only
  rw [unrows_map]
  dsimp only
  unfold Wp at h
  split at h
  · rename_i ρ e
    rw [e]
    dsimp only
    rw [show ρ.getD ip .un=.pm a ps rows' from h]
    exact if_pos ⟨rfl,rfl⟩
  · exact h.elim
  · exact h.elim
  · exact h.elim
  · exact h.elim
end
end VL
namespace L2
open PySem PySem.Spec PyProof.Rows VL
section
variable {X:Cx} {tg:Expr}
theorem Inv.frzD {pins:List (Addr×Obj)} {σ:List (Option V)} {H:Hp} {s:Shared} {d:Addr} {kvs:List (Key×V)} {ob:Obj} (I:Inv X pins σ H s) (e:H d=some (.dK kvs)) (eo:s.heap.get? d=some ob):Inv X pins σ (upd H d (.frz ob (.dK kvs))) s:=by
  have q:=I.hok d _ e
  exact I.un (h':=s.heap) (t':=s.toks) (Un.write (by rw [e]; trivial) (.inl rfl) (fun b u _ q=>q) ⟨_,eo⟩) (I.hok.write (by rw [e]; trivial) (.inl rfl) (fun b u _ q=>q) ⟨_,eo⟩ ⟨eo,q⟩)
def Itd (d:Addr) (o:Obj) (kvs:List (Int×Int)):It :=
  ⟨fun i H=>H d=some (.frz o (.dK (kvs.map dkv)))∧i<kvs.length,fun i H x H'=>H'=H∧∃ p,kvs[i]?=some p∧x=.int p.1,fun i H=>H d=some (.frz o (.dK (kvs.map dkv)))∧kvs.length≤i⟩
theorem dict_at {P:Program} {w:World} {H:Hp} {h:Heap} {d:Addr} {o:Obj} {kvs:List (Int×Int)} {es:Array _} {ep:Nat} (hd:o.data=.dict es ep) (x:ObjOk P w H h d (.frz o (.dK (kvs.map dkv)))):∃ vs,KV (kvs.map dkv) vs∧h.DictAt (mixKind P w) d vs ep∧(d==sysModules)=false:=by
  obtain ⟨e,_,lo,vs,r,o',es',ep',e1,c1,c2,c3⟩:=x
  rw [e] at e1
  cases e1
  rw [hd] at c2
  cases c2
  exact ⟨vs,r,⟨o,es,e,c1,hd,c3⟩,lo⟩
theorem turn_dict {P:Program} {w:World} {K:PySem.W.Frag} {tg:Expr} (d it:Addr) (o:Obj) (kvs:List (Int×Int)) {es:Array _} {ep:Nat} (hd:o.data=.dict es ep):Turn P w K tg (Itd d o kvs) [it] it (fun i h=>h.IsKeyIter it d i kvs.length ep) where
  mem:=by simp
  obj:=fun i h st b hb=>by
    have e:b=it:=by simpa using hb
    subst e
    obtain ⟨o,e,c,d⟩:=st
    exact ⟨o,e,fun v z=>by rw [d] at z; cases z⟩
  keep:=fun i h h' st k=>st.at fun o e=>k it (by simp) o e
  item:=by
    intro X hP hw hK hc i pins s σ H E I hf st hg
    subst hP hw hK
    obtain ⟨hq,hi⟩:=hg
    obtain ⟨vs,r,hat,lo⟩:=dict_at hd (I.hok d _ hq)
    have hl:kvs.length=vs.length:=by rw [← Paired.length r,List.length_map]
    obtain ⟨f0,f1,f2,f3,f4,f5⟩:=hf it (by simp)
    have e1:(kvs.map dkv)[i]?=some (dkv kvs[i]):=by rw [List.getElem?_map,List.getElem?_eq_getElem hi]; rfl
    obtain ⟨q,eq,h1,h2⟩:∃ q,vs[i]?=some q∧(dkv kvs[i]).1=q.1∧RelV (dkv kvs[i]).2 q.2:=by
      have:∀ {l:List (Key×V)} {m:List (Key×Value)} {i:Nat} {p:Key×V},KV l m→l[i]?=some p→∃ q,m[i]?=some q∧p.1=q.1∧RelV p.2 q.2:=by
        intro l m i p r
        induction r generalizing i with
        | nil=>intro e; simp at e
        | cons h _ ih =>
          intro e
          cases i with
          | zero=>cases e; exact ⟨_,rfl,h⟩
          | succ i=>exact ih (by simpa using e)
      exact this r e1
    rw [hl] at st
    refine wpAny_pyNext_dict_item st hat (k:=q.1) (v:=q.2) (by rw [eq]) fun key h' hk st' sb=>?_
    rw [← hl] at st'
    have I1:Inv X pins σ H { s with heap:=h' }:=I.turned (t':=s.toks) (fun b o hb e=>(sb.2 b hb).trans e) f0 f1 f3 f4 f5
    obtain ⟨o2,e2,c2,d2⟩:=id st'
    rw [← h1] at hk
    have hk':keyIs (.inl kvs[i].1) key=true:=hk
    rcases keyIs_shape hk' with ⟨n,t,z1,rfl⟩ | ⟨x,t,z1,_⟩
    · cases z1
      exact ⟨_,rfl,go_of (s:={ s with heap:=h' }) e2 c2 d2 (by decide) ⟨.int kvs[i].1,H,I1,⟨t,rfl⟩,⟨rfl,kvs[i],List.getElem?_eq_getElem hi,rfl⟩,st',fun b hb=>(hf b hb).1⟩⟩
    · cases z1
  done:=by
    intro X hP hw hK hc i pins s σ H E I hf st hg
    subst hP hw hK
    obtain ⟨hq,hi⟩:=hg
    obtain ⟨vs,r,hat,lo⟩:=dict_at hd (I.hok d _ hq)
    have hl:kvs.length=vs.length:=by rw [← Paired.length r,List.length_map]
    obtain ⟨f0,f1,f2,f3,f4,f5⟩:=hf it (by simp)
    rw [hl] at st
    exact wpAny_pyNext_dict_end (I.ok.hd hc) st hat (by simp; omega) fun h' eb=>⟨rfl,I.turned (t':=s.toks) (fun b o hb e=>eb b o hb e) f0 f1 f3 f4 f5⟩
  self:=fun _ _ _ _ _ st h=>wpAny_pyIter_keyiter st h
def iDict (tl:TE):TI:=fun σ H R=>tl σ H fun x H1=>∃ a kvs,x=.ref a∧H1 a=some (.dK (kvs.map dkv))∧∀ o,R (Itd a o kvs) (upd H1 a (.frz o (.dK (kvs.map dkv))))
theorem pi_dict {l:Expr} {tl:TE} (hl:PE X l tl):PI X tg l (iDict tl):=by
  intro pins s σ H R I h
  refine thn (hl pins s σ H _ I h) fun v s1 ⟨x,H1,I1,r1,q1⟩=>?_
  obtain ⟨a,kvs,e,hq,q⟩:=q1
  subst e
  cases r1
  obtain ⟨hz,lo,vs,r,o,es,ep,e1,c1,c2,c3⟩:=I1.hok a _ hq
  have hat:s1.heap.DictAt (mixKind X.prog X.w) a vs ep:=⟨o,es,e1,c1,c2,c3⟩
  have hlen:vs.length=kvs.length:=by rw [← Paired.length r,List.length_map]
  refine wpAny_pyIter_dict lo hat ?_
  have I2:=I1.frzD hq e1
  rw [hlen]
  refine ⟨s1.heap.objs.size,[s1.heap.objs.size],_,_,_,rfl,I2.kept (t':=s1.toks) fun b o e=>Heap.get?_push_of_some _ e,turn_dict a _ o kvs c2,⟨_,Heap.get?_push_size _ rfl,rfl,rfl⟩,fun b hb=>?_,q o⟩
  have e:b=s1.heap.objs.size:=by simpa using hb
  subst e
  exact I2.fpOk (Nat.le_refl _) (I2.hok.fresh (Nat.le_refl _))
def Itv (K:PySem.W.Frag) (a:Addr) (n:Nat):It :=
  ⟨fun i H=>i<n∧∃ xs,SqL K H a xs∧xs.length=n,fun i H x H'=>H'=H∧∀ xs,SqL K H a xs→xs.length=n→xs[n-1-i]?=some x,fun i H=>n≤i⟩
theorem turn_rev {P:Program} {w:World} {K:PySem.W.Frag} {tg:Expr} (a it:Addr) (n:Nat):Turn P w K tg (Itv K a n) [it] it (fun i h=>i≤n∧h.IsRevIter it a ((n:Int)-1-(i:Int))) where
  mem:=by simp
  obj:=fun i h st b hb=>by
    have e:b=it:=by simpa using hb
    subst e
    obtain ⟨_,o,e,c,d⟩:=st
    exact ⟨o,e,fun v z=>by rw [d] at z; cases z⟩
  keep:=fun i h h' st k=>⟨st.1,st.2.at fun o e=>k it (by simp) o e⟩
  item:=by
    intro X hP hw hK hc i pins s σ H E I hf st hg
    subst hP hw hK
    obtain ⟨hi,xs,hq,hn⟩:=hg
    obtain ⟨its,rv,p,hz⟩:=I.list hq
    have hi':n-1-i<xs.length:=by omega
    obtain ⟨u,hu,ru⟩:=rv.get (List.getElem?_eq_getElem hi')
    obtain ⟨f0,f1,f2,f3,f4,f5⟩:=hf it (by simp)
    have e:(n:Int)-1-(i:Int)=((n-1-i:Nat):Int):=by omega
    have hit:=st.2
    rw [e] at hit
    refine wpAny_pyNext_rev_item hit p.isList (x:=u) (by simpa using hu) fun h' st' sb=>?_
    have e2:((n-1-i:Nat):Int)-1=(n:Int)-1-((i+1:Nat):Int):=by omega
    rw [e2] at st'
    have I1:Inv X pins σ H { s with heap:=h' }:=I.turned (t':=s.toks) (fun b o hb e=>(sb.2 b hb).trans e) f0 f1 f3 f4 f5
    obtain ⟨o,e,c,d⟩:=id st'
    exact ⟨u,rfl,go_of (s:={ s with heap:=h' }) e c d (by decide) ⟨xs[n-1-i],H,I1,ru,⟨rfl,fun ys hy _=>by rw [I.list_inj hy hq]; exact List.getElem?_eq_getElem hi'⟩,⟨hi,st'⟩,fun b hb=>(hf b hb).1⟩⟩
  done:=by
    intro X hP hw hK hc i pins s σ H E I hf st hg
    subst hP hw hK
    have hg:n≤i:=hg
    have ei:i=n:=by have:=st.1; omega
    subst ei
    obtain ⟨f0,f1,f2,f3,f4,f5⟩:=hf it (by simp)
    have hit:=st.2
    rw [show (i:Int)-1-(i:Int)=-1 by omega] at hit
    exact wpAny_pyNext_rev_end (I.ok.hd hc) hit fun h' eb=>⟨rfl,I.turned (t':=s.toks) (fun b o hb e=>eb b o hb e) f0 f1 f3 f4 f5⟩
  self:=fun _ _ _ _ _ st h=>wpAny_pyIter_revIter st.2 h
def iRev (K:PySem.W.Frag) (tl:TE):TI:=fun σ H R=>tl σ H fun x H1=>∃ a xs,x=.ref a∧SqL K H1 a xs∧R (Itv K a xs.length) H1
theorem pi_rev {K:PySem.W.Frag} {l:Expr} {tl:TE} {p pos:Pos} (hK:X.K=K) (hg:Gl X "reversed") (hm:X.mg "reversed" = none) (hl:PE X l tl) (hs:starEach [l] X.env=[(false,eval l X.env)]:=by rfl):PI X tg (.Call (.Name "reversed" p) [l] [] pos) (iRev K tl):=by
  subst hK
  intro pins s σ H R I h
  have ha:PA X [l] (tCons tl tNil):=pa_cons hl pa_nil hs
  refine Call_ (ld_blt I hg hm bt_reversed (PyProof.Rows.callWith_type1 (thn (ha pos pins s σ H (fun vs H1=>match vs with | [x]=>∃ a xs,x=.ref a∧SqL X.K H1 a xs∧R (Itv X.K a xs.length) H1 | _=>False) I h) fun us s1 ⟨vs,H1,I1,r1,q1⟩=>?_) hs rfl))
  · match vs,r1,q1 with
    | [x],r1,q1 =>
    obtain ⟨a,xs,rfl,hq,q⟩:=q1
    obtain ⟨u,rfl,ru⟩:=vals1 r1
    cases ru
    obtain ⟨its,rv,pl,hz⟩:=I1.list hq
    have hlen:=rv.length
    refine call_reversed_list pl.isList ?_
    have hit:(s1.heap.push (revObj a (((its.toArray).size:Int)-1))).IsRevIter s1.heap.objs.size a ((xs.length:Int)-1-((0:Nat):Int)):=by
      rw [show (xs.length:Int)-1-((0:Nat):Int)=((its.toArray).size:Int)-1 by rw [List.size_toArray]; omega]
      exact ⟨_,Heap.get?_push_size _ rfl,rfl,rfl⟩
    refine wpAny_pyIter_revIter hit ?_
    have I2:Inv X pins σ H1 { s1 with heap:=s1.heap.push (revObj a (((its.toArray).size:Int)-1)) }:=I1.kept (t':=s1.toks) fun b o e=>Heap.get?_push_of_some _ e
    refine ⟨s1.heap.objs.size,[s1.heap.objs.size],_,_,H1,rfl,I2,turn_rev a _ xs.length,⟨Nat.zero_le _,hit⟩,fun b hb=>?_,q⟩
    have e:b=s1.heap.objs.size:=by simpa using hb
    subst e
    exact I1.fpOk (Nat.le_refl _) (I1.hok.fresh (Nat.le_refl _))
end
end L2
namespace VL
open PySem L2
open Classical
noncomputable section
variable [Tabs] {K:PySem.W.Frag} {fr:Fm}
theorem for_core {m:Bool} {J:It} {t:TG} {tb:TS} {g:DG} {b:DS} {ds:List D} {B H1:Hp} {Z:Addr→Prop} {os:Own} {ρ:Rho} {σ:L2.St} {E:Ends} (f:Fr K B Z os ρ σ H1) (W:Walk K m B J H1 (tot Z os) ds) (hg:SemG K m t g) (hb:SemS fr K tb b) (p:Post fr K B Z os H1 E (forD g b ds ρ)):tFor (fun σ H R=>R J H) t tb E σ H1:=by
  refine ⟨fun i m σ' H'=>∃ os' ρ',m=ds.length-i∧i≤ds.length∧Fr K B Z os' ρ' σ' H'∧Kp (tot Z os) H1 (tot Z os') H'∧Post fr K B Z os H1 E (forD g b (ds.drop i) ρ'),⟨_,os,ρ,rfl,Nat.zero_le _,f,Kp.refl,p⟩,?_⟩
  rintro i mm σ2 H2 ⟨os2,ρ2,rfl,hi,f2,k2,p2⟩
  by_cases hlt:i<ds.length
  · have ex:ds[i]?=some ds[i]:=List.getElem?_eq_getElem hlt
    obtain ⟨go,yl⟩:=W.go i ds[i] H2 _ k2 f2.keep f2.tin ex
    rw [List.drop_eq_getElem_cons hlt] at p2
    refine .inr ⟨go,fun σ' H'=>∃ os' ρ',Fr K B Z os' ρ' σ' H'∧Kp (tot Z os) H1 (tot Z os') H'∧Post fr K B Z os H1 E (forD g b (ds.drop (i+1)) ρ'),fun σ' H' ⟨os',ρ',h1,h2,h3⟩=>⟨_,by omega,os',ρ',rfl,hlt,h1,h2,h3⟩,fun x H3 hy=>?_⟩
    obtain ⟨s3,er⟩:=yl x H3 hy
    unfold forD at p2
    split at p2
    · exact p2.elim
    · rename_i ρ1 e1
      have er':ER K m B H3 (tot Z os2) x ds[i]:=er
      refine hg (f2.grow s3) er' e1 fun os3 σ3 f3 k3=>hb f3 ?_
      have k13:Kp (tot Z os) H1 (tot Z os3) H3:=(k2.trans (Kp.same s3)).trans k3
      split at p2
      · rename_i ρ4 e4
        rw [e4]
        exact fun os' σ' H' f' k'=>⟨os',_,f',k13.trans k',p2⟩
      · rename_i ρ4 e4
        rw [e4]
        exact fun os' σ' H' f' k'=>⟨os',_,f',k13.trans k',p2⟩
      · rename_i ρ4 e4
        rw [e4]
        exact fun os' σ' H' f' k'=>p2 os' σ' H' f' (k13.trans k')
      · rename_i d e4
        rw [e4]
        exact p2
      · exact p2.elim
  · have e:i=ds.length:=by omega
    subst e
    rw [List.drop_length] at p2
    exact .inl ⟨W.stop _ H2 _ k2 f2.keep rfl,p2 os2 σ2 H2 f2 k2⟩
def keysD (kvs:List (Int×Int)):List D:=kvs.map fun p=>.int p.1
@[irreducible] noncomputable def sForD (i:Nat) (g:DG) (b:DS):DS:=fun ρ=>match ρ.getD i .un with
  | .od kvs=>forD g b (keysD kvs) (ρ.set i (.pu (.dct kvs)))
  | _=>.no
theorem ss_forD {i:Nat} {t:TG} {tb:TS} {g:DG} {b:DS} (hg:SemG K true t g) (hb:SemS fr K tb b):SemS fr K (tFor (iDict (tVar i)) t tb) (sForD i g b):=fun {B Z os ρ σ H E} f p=>by
  unfold sForD at p
  split at p
  · rename_i kvs e
    have s:=f.sl i
    rw [e] at s
    obtain ⟨a,eo,hu,hH,hl⟩:=s
    have hi:=getD_lt e (by intro z; cases z)
    refine ⟨_,join_some hu,a,kvs,rfl,hH,fun o=>?_⟩
    have nt:¬ tot Z (putO os i []) a:=by
      rintro (z | ⟨j,z⟩)
      · exact (f.new i a (by rw [eo]; exact List.mem_singleton.mpr rfl)).2 z
      · by_cases hj:j=i
        · subst hj; rw [putO_same] at z; cases z
        · rw [putO_ne hj] at z; exact hj (f.dj j i a z (by rw [eo]; exact List.mem_singleton.mpr rfl))
    have st:=f.step (H':=upd H a (.frz o (.dK (kvs.map dkv)))) (i:=i) hi (o:=[]) (s:=.pu (.dct kvs)) (v:=some (.ref a)) (fun b u e n=>by rw [upd_ne (fun z=>n (by rw [z,eo]; exact List.mem_singleton.mpr rfl))]; exact e) (fun b hb=>by rw [eo] at hb; rw [List.mem_singleton.mp hb]; exact ⟨_,upd_same⟩) List.nodup_nil (fun b h=>by cases h)
      ⟨rfl,_,rfl,.dct nt (.inr ⟨o,upd_same⟩) hl⟩
    rw [set_self hu] at st
    refine for_core st.1 (m:=true) (ds:=keysD kvs) ⟨by unfold keysD; rw [List.length_map]; exact hl,fun j d H2 T2 kp _ hd e2=>?_,fun j H2 T2 kp _ hj=>?_⟩ hg hb (Post.kp st.2 p)
    · unfold keysD at e2
      rw [List.getElem?_map] at e2
      cases e3:kvs[j]? with
      | none=>rw [e3] at e2; cases e2
      | some q =>
        rw [e3] at e2
        cases e2
        refine ⟨⟨(kp a _ upd_same nt).1,(List.getElem?_eq_some_iff.mp e3).1⟩,fun x H3 ⟨z1,q',z2,z3⟩=>?_⟩
        subst z1 z3
        rw [e3] at z2
        cases z2
        exact ⟨Same.refl _,.int _⟩
    · exact ⟨(kp a _ upd_same nt).1,by rw [← hj]; unfold keysD; rw [List.length_map]; exact Nat.le_refl _⟩
  · exact p.elim
theorem wp_forD {i:Nat} {g:DG} {b:DS} {ρ:Rho} {W:Wk} {kvs:List (Int×Int)} (h0:ρ.getD i .un=.od kvs) (Iv:Nat→Rho→Prop) (h1:Iv 0 (ρ.set i (.pu (.dct kvs))))
    (hs:∀ j ρ' p,kvs[j]?=some p→Iv j ρ'→∃ ρ1,g (.int p.1) ρ'=some ρ1∧Wp b ρ1 { nx:=Iv (j+1),ct:=Iv (j+1),bk:=W.nx,rt:=W.rt }) (hd:∀ ρ',Iv kvs.length ρ'→W.nx ρ'):Wp (sForD i g b) ρ W:=by
  have key:∀ (n j:Nat) (ρ':Rho),kvs.length-j=n→j≤kvs.length→Iv j ρ'→Wp (forD g b ((keysD kvs).drop j)) ρ' W:=by
    intro n
    induction n with
    | zero =>
      intro j ρ' e hj iv
      have:j=kvs.length:=by omega
      subst this
      rw [show (keysD kvs).drop kvs.length=[] by rw [List.drop_eq_nil_iff]; unfold keysD; rw [List.length_map]; exact Nat.le_refl _]
      unfold Wp forD
      exact hd ρ' iv
    | succ n ih =>
      intro j ρ' e hj iv
      have hlt:j<kvs.length:=by omega
      have e1:(keysD kvs).drop j=.int kvs[j].1::(keysD kvs).drop (j+1):=by
        rw [List.drop_eq_getElem_cons (by unfold keysD; rw [List.length_map]; exact hlt)]
        unfold keysD; rw [List.getElem_map]
      obtain ⟨ρ1,g1,w1⟩:=hs j ρ' kvs[j] (List.getElem?_eq_getElem hlt) iv
      rw [e1]
      unfold Wp at w1 ⊢
      unfold forD
      rw [g1]
      dsimp only
      cases e2:b ρ1 with
      | nx ρ2 =>
        rw [e2] at w1
        have:=ih (j+1) ρ2 (by omega) hlt w1
        unfold Wp at this
        exact this
      | ct ρ2 =>
        rw [e2] at w1
        have:=ih (j+1) ρ2 (by omega) hlt w1
        unfold Wp at this
        exact this
      | bk ρ2=>rw [e2] at w1; exact w1
      | rt d=>rw [e2] at w1; exact w1
      | no=>rw [e2] at w1; exact w1
  have:=key kvs.length 0 _ rfl (Nat.zero_le _) h1
  unfold Wp at this ⊢
  unfold sForD
  rw [h0]
  exact this
@[irreducible] noncomputable def sRetXD (i:Nat):DS:=fun ρ=>match ρ.getD i .un with
  | .od kvs=>.rt (.dct kvs)
  | _=>.no
theorem ss_retXD {i:Nat}:SemS .l K (tRet (tVar i)) (sRetXD i):=fun {B Z os ρ σ H E} f p=>by
  unfold sRetXD at p
  split at p
  · rename_i kvs e
    have s:=f.sl i
    rw [e] at s
    obtain ⟨a,eo,hu,hH,hl⟩:=s
    have ha:a∈os i:=by rw [eo]; exact List.mem_singleton.mpr rfl
    exact ⟨_,join_some hu,p _ _ f.keep (.inr ⟨a,kvs,rfl,rfl,(f.new i a ha).1,hH,hl⟩)⟩
  · exact p.elim
theorem wp_retXD {i:Nat} {ρ:Rho} {W:Wk} {kvs:List (Int×Int)} (h:ρ.getD i .un=.od kvs) (k:W.rt (.dct kvs)):Wp (sRetXD i) ρ W:=by unfold Wp sRetXD; rw [h]; exact k
@[irreducible] noncomputable def sSetCD (i:Nat) (F:List D→Option D) (es:Rho→Option (List D)):DS:=fun ρ=>match dCall F es ρ with
  | some (.dct kvs)=>if i < ρ.length then .nx (ρ.set i (.od kvs)) else .no
  | _=>.no
theorem ss_setCD {i:Nat} {ms:List Bool} {F:List D→Option D} {t:TA} {es:Rho→Option (List D)} {E0:XK} (ha:SemA K ms t es):SemS fr K (tAsg (tCall (spD .l K ms F) [] E0 t) (gName i)) (sSetCD i F es):=fun {B Z os ρ σ H E} f p=>by
  unfold sSetCD at p
  split at p
  · rename_i kvs e1
    by_cases hi:i < ρ.length
    · rw [if_pos hi] at p
      unfold dCall at e1
      split at e1
      · rename_i as e
        refine ha f e fun vs H1 s1 a=>?_
        show spD .l K ms F (vs++[]) H1 _ E0
        rw [List.append_nil]
        refine ⟨tot Z os,as,.dct kvs,(f.grow s1).zt,a,e1,fun v H2 s2 i2=>?_⟩
        rcases i2 with ⟨q,us,ds',rfl,ed,hb,hh,hl,r⟩ | ⟨q,kvs',rfl,ed,hb,hh,hl⟩
        · cases ed
        · cases ed
          have hq:H q=none:=Same.free s1 hb
          have s12:=s1.trans s2
          have st:=f.step (H':=H2) (i:=i) hi (o:=[q]) (s:=.od kvs) (v:=some (.ref q)) (fun a u e _=>s12 _ _ e) (fun a ha=>let ⟨xs,e⟩:=(f.sl i).dom ha; ⟨_,s12 _ _ e⟩) (by simp) (fun a ha=>by rw [List.mem_singleton.mp ha]; exact .inr hq)
            ⟨q,rfl,rfl,hh,hl⟩
          exact p _ _ _ st.1 st.2
      · cases e1
    · rw [if_neg hi] at p; exact p.elim
  · exact p.elim
theorem wp_setCD {i:Nat} {F:List D→Option D} {es:Rho→Option (List D)} {ρ:Rho} {W:Wk} {xs:List D} {kvs:List (Int×Int)} (h:es ρ=some xs) (h2:F xs=some (.dct kvs)) (hi:i < ρ.length) (k:W.nx (ρ.set i (.od kvs))):Wp (sSetCD i F es) ρ W:=by
  unfold Wp sSetCD dCall; rw [h]; dsimp only; rw [h2]; dsimp only; rw [if_pos hi]; exact k
noncomputable def dRev (a:DE):Rho→Option (List D):=fun ρ=>(asL a ρ).map List.reverse
theorem ev_rev {a:DE} {ρ:Rho} {ds:List D} (h:asL a ρ=some ds):dRev a ρ=some ds.reverse:=by unfold dRev; rw [h]; rfl
theorem walk_rev {m:Bool} {Bx H1:Hp} {T:Addr→Prop} {p:Addr} {vs:List V} {ds:List D} (hl:ds.length≤sizeLine) (hd0:∀ H2 T2,Kp T H1 T2 H2→Same Bx H2→SqL K H2 p vs) (hn:vs.length=ds.length)
    (hi:∀ H2 T2 (i:Nat) v d,Kp T H1 T2 H2→Same Bx H2→vs[i]?=some v→ds[i]?=some d→ER K m Bx H2 T2 v d):Walk K m Bx (Itv K p vs.length) H1 T ds.reverse:=by
  refine ⟨by rw [List.length_reverse]; exact hl,fun i d H2 T2 kp sb hd e=>?_,fun i H2 T2 kp sb hi=>?_⟩
  · have hr2:=hd0 H2 T2 kp sb
    have hi0:=(List.getElem?_eq_some_iff.mp e).1
    rw [List.length_reverse] at hi0
    rw [List.getElem?_reverse hi0] at e
    refine ⟨⟨by omega,vs,hr2,rfl⟩,fun x H3 ⟨e3,hx⟩=>?_⟩
    subst e3
    have:=hx vs hr2 rfl
    rw [hn] at this
    exact ⟨Same.refl _,hi _ T2 _ _ d kp sb this e⟩
  · rw [List.length_reverse] at hi
    show vs.length≤i
    omega
theorem swc_revB {tl:TE} {a:DE} (ha:SemB K tl a):SemWC K false (iRev K tl) (dRev a):=fun {B Z os ρ σ H R ds} f q k=>by
  unfold dRev at q
  cases e0:asL a ρ with
  | none=>rw [e0] at q; cases q
  | some es =>
    rw [e0] at q
    cases q
    obtain ⟨d,q,ed⟩:=asL_some e0
    refine ha f q fun v H1 s1 i1=>?_
    obtain ⟨p,vs,rfl,hl,hn,hr⟩:=i1.seq ed
    refine ⟨p,vs,rfl,(hr H1 _ Kp.refl).1,k _ _ s1 (walk_rev (vs:=vs) (by omega) (fun H2 T2 kp sb=>(hr H2 No (Kp.same sb)).1) hn fun H2 T2 i v d kp sb e1 e2=>?_)⟩
    obtain ⟨v',f1,i2⟩:=(hr H1 No Kp.refl).2.get e2
    rw [e1] at f1
    cases f1
    exact i2
end
end VL
namespace PySem
open Sem (wp)
section
variable {prog:Program} {w:World} {A:Around} {E:Value→Shared→Prop} {s:Shared}
theorem wpAny_loadIfAlive {M:Model} {a:Addr} {Q:Option Obj→Shared→Prop} (h:Q (s.heap.get? a) s):wpAny M A (loadIfAlive a) Q E s:=fun Γ p _=>h
abbrev IsZipT (h:Heap) (z TI TO:Addr) (f0:Value) (b:Bool):Prop :=
  h.get? z=some { cls:=.type "zip", dict:=none,data:=.fields #[f0,.bool b,.bool false,.ref TI,.ref TO],slots:=#[] }
theorem zip_not_free {z TI TO T:Addr} {b:Bool} {Q:Bool→Shared→Prop} (hz:IsZipT s.heap z TI TO (rawInt T) b) (hT:∃ o,s.heap.get? T=some o)
    (h:∀ h',IsZipT h' z TI TO (rawInt T) true→Heap.SameBut z s.heap h'→Q false { s with heap:=h' }):wpAny (model prog w) A (Builtin.SmallTypes.ownedTupleIsFree (.ref z)) Q E s:=by
  obtain ⟨o,ho⟩:=hT
  unfold Builtin.SmallTypes.ownedTupleIsFree
  refine wpAny_bind (wpAny_field hz rfl (x:=rawInt T) rfl ?_)
  show wpAny _ _ (loadIfAlive ((T:Int).toNat) >>= _) _ _ _
  refine wpAny_bind (wpAny_loadIfAlive ?_)
  rw [Int.toNat_natCast,ho]
  show wpAny _ _ (field (.ref z) 1 >>= _) _ _ _
  refine wpAny_bind (wpAny_field hz rfl (x:=.bool b) rfl ?_)
  cases b with
  | true =>
    show wpAny _ _ (pure false) _ _ _
    exact wpAny_pure (h s.heap hz ⟨rfl,fun _ _=>rfl⟩)
  | false =>
    show wpAny _ _ (setField (.ref z) 1 (.bool true) >>= _) _ _ _
    refine wpAny_bind (wpAny_setField_rec hz (by simp) fun h₁ hz₁ hs₁=>?_)
    exact wpAny_pure (h h₁ hz₁ hs₁)
theorem zip_next_item2 {z TI TO i1 i2 l1 l2 T:Addr} {k1 k2:Nat} {bb:Bool} {xs ys:Array Value} {x y a b:Value} {Q:Value→Shared→Prop} (D:ZipApart z TI TO i1 i2 l1 l2)
    (hz:IsZipT s.heap z TI TO (rawInt T) bb) (hT:∃ o,s.heap.get? T=some o) (hTI:IsPair s.heap TI (.ref i1) (.ref i2)) (hTO:IsPair s.heap TO a b)
    (h1:s.heap.IsListIter i1 l1 k1) (h2:s.heap.IsListIter i2 l2 k2) (hl1:s.heap.IsList l1 xs) (hl2:s.heap.IsList l2 ys) (hx:xs[k1]?=some x) (hy:ys[k2]?=some y)
    (hQ:∀ h',IsZipT h' z TI TO (rawInt T) true→h'.IsListIter i1 l1 (k1+1)→h'.IsListIter i2 l2 (k2+1)→IsPair h' s.heap.objs.size x y→h'.objs.size=s.heap.objs.size+1 →
      (∀ c o,c≠z→c≠i1→c≠i2→s.heap.get? c=some o→h'.get? c=some o)→Q (.ref s.heap.objs.size) { s with heap:=h' }) :
    wpAny (model prog w) A (Builtin.«zip.__next__» ⟨[.ref z],[]⟩) (fun fin s'=>∃ v,fin=.done (.ret v)∧Q v s') E s:=by
  show wpAny _ _ (field (.ref z) 2 >>= _) _ _ _
  refine wpAny_bind (wpAny_field hz rfl (x:=.bool false) rfl ?_)
  show wpAny _ _ (field (.ref z) 3 >>= _) _ _ _
  refine wpAny_bind (wpAny_field hz rfl (x:=.ref TI) rfl ?_)
  refine wpAny_bind (wpAny_seqItems hTI rfl ?_)
  show wpAny _ _ (Builtin.SmallTypes.ownedTupleIsFree (.ref z) >>= _) _ _ _
  refine wpAny_bind (zip_not_free hz hT fun h₁ hz₁ hs₁=>?_)
  simp only [Bool.false_eq_true,if_false]
  refine wpAny_bind ?_
  simp only [List.forIn_toArray,List.forIn_cons,List.forIn_nil]
  refine wpAny_bind (wpAny_bind (wpAny_holding ?_))
  show wpAny _ _ (Builtin.SmallTypes.nextOf (.ref i1) >>= _) _ _ _
  refine wpAny_bind (wpAny_nextOf_list_item (h1.extBut hs₁.extBut D.i1z) (hl1.extBut hs₁.extBut D.l1z) hx fun h₂ h1₂ hs₂=>wpAny_pure (wpAny_pure ?_))
  refine wpAny_bind (wpAny_bind (wpAny_holding ?_))
  show wpAny _ _ (Builtin.SmallTypes.nextOf (.ref i2) >>= _) _ _ _
  refine wpAny_bind (wpAny_nextOf_list_item ((h2.extBut hs₁.extBut D.i2z).extBut hs₂.extBut D.i12.symm) ((hl2.extBut hs₁.extBut D.l2z).extBut hs₂.extBut D.l2i1) hy fun h₃ h2₃ hs₃=>wpAny_pure (wpAny_pure (wpAny_pure ?_)))
  show wpAny _ _ (newTuple [x,y] >>= _) _ _ _
  refine wpAny_bind (wpAny_newTuple ?_)
  have hsz:h₃.objs.size=s.heap.objs.size:=by rw [hs₃.1,hs₂.1,hs₁.1]
  have hk:∀ c o,c≠z→c≠i1→c≠i2→s.heap.get? c=some o→h₃.get? c=some o:=fun c o c1 c3 c4 e=>hs₃.extBut _ _ c4 (hs₂.extBut _ _ c3 (hs₁.extBut _ _ c1 e))
  have hz₃:IsZipT h₃ z TI TO (rawInt T) true:=hs₃.extBut _ _ D.i2z.symm (hs₂.extBut _ _ D.i1z.symm hz₁)
  have h1₃:h₃.IsListIter i1 l1 (k1+1):=h1₂.extBut hs₃.extBut D.i12
  refine wpAny_pure ⟨_,rfl,?_⟩
  show Q (.ref h₃.objs.size) _
  have g:IsPair (h₃.push { cls:=.type "tuple", data:=.seq #[x,y] }) h₃.objs.size x y:=Heap.get?_push_size _ rfl
  rw [hsz] at g ⊢
  exact hQ _ (Heap.get?_push_of_some _ hz₃) (h1₃.at fun o e=>Heap.get?_push_of_some _ e) (h2₃.at fun o e=>Heap.get?_push_of_some _ e) g (by rw [Heap.size_push,hsz]) fun c o c1 c3 c4 e=>Heap.get?_push_of_some _ (hk c o c1 c3 c4 e)
end
end PySem
namespace PySem
open Sem (wp)
namespace F
theorem zip_no_len:typeLookup (.type "zip") "__len__" = pure none:=by rw [typeLookup_type,builtinLookup_eq_fast]; kernel_rfl
theorem zip_no_hint:typeLookup (.type "zip") "__length_hint__" = pure none:=by rw [typeLookup_type,builtinLookup_eq_fast]; kernel_rfl
end F
section
variable {prog:Program} {w:World} {A:Around} {E:Value→Shared→Prop} {s:Shared}
theorem zip_next_end2 {z TI TO i1 i2 l1 l2 T:Addr} {k1 k2:Nat} {bb:Bool} {xs ys:Array Value} {Q:Fin→Shared→Prop} (hh:A.handled=none) (D:ZipApart z TI TO i1 i2 l1 l2)
    (hz:IsZipT s.heap z TI TO (rawInt T) bb) (hT:∃ o,s.heap.get? T=some o) (hTI:IsPair s.heap TI (.ref i1) (.ref i2))
    (h1:s.heap.IsListIter i1 l1 k1) (h2:s.heap.IsListIter i2 l2 k2) (hl1:s.heap.IsList l1 xs) (hl2:s.heap.IsList l2 ys) (hend:xs[k1]?=none∨ys[k2]?=none)
    (hE:∀ h' e,(∀ c o,c≠z→c≠i1→c≠i2→s.heap.get? c=some o→h'.get? c=some o)→(∃ o,h'.get? e=some o∧o.cls=.type "StopIteration")→E (.ref e) { s with heap:=h' }) :
    wpAny (model prog w) A (Builtin.«zip.__next__» ⟨[.ref z],[]⟩) Q E s:=by
  show wpAny _ _ (field (.ref z) 2 >>= _) _ _ _
  refine wpAny_bind (wpAny_field hz rfl (x:=.bool false) rfl ?_)
  show wpAny _ _ (field (.ref z) 3 >>= _) _ _ _
  refine wpAny_bind (wpAny_field hz rfl (x:=.ref TI) rfl ?_)
  refine wpAny_bind (wpAny_seqItems hTI rfl ?_)
  show wpAny _ _ (Builtin.SmallTypes.ownedTupleIsFree (.ref z) >>= _) _ _ _
  refine wpAny_bind (zip_not_free hz hT fun h₁ hz₁ hs₁=>?_)
  simp only [Bool.false_eq_true,if_false]
  refine wpAny_bind ?_
  simp only [List.forIn_toArray,List.forIn_cons,List.forIn_nil]
  refine wpAny_bind (wpAny_bind (wpAny_holding ?_))
  show wpAny _ _ (Builtin.SmallTypes.nextOf (.ref i1) >>= _) _ _ _
  cases hx:xs[k1]? with
  | none =>
    refine wpAny_bind (wpAny_nextOf_list_end hh (h1.extBut hs₁.extBut D.i1z) (hl1.extBut hs₁.extBut D.l1z) hx fun h₂ e hs₂ he=>?_)
    exact hE h₂ e (fun c o c1 c3 _ x=>hs₂ _ _ c3 (hs₁.extBut _ _ c1 x)) he
  | some x =>
    have hy:ys[k2]?=none:=by rcases hend with h | h; rw [hx] at h; cases h; exact h
    refine wpAny_bind (wpAny_nextOf_list_item (h1.extBut hs₁.extBut D.i1z) (hl1.extBut hs₁.extBut D.l1z) hx fun h₂ h1₂ hs₂=>wpAny_pure (wpAny_pure ?_))
    refine wpAny_bind (wpAny_bind (wpAny_holding ?_))
    show wpAny _ _ (Builtin.SmallTypes.nextOf (.ref i2) >>= _) _ _ _
    refine wpAny_bind (wpAny_nextOf_list_end hh ((h2.extBut hs₁.extBut D.i2z).extBut hs₂.extBut D.i12.symm) ((hl2.extBut hs₁.extBut D.l2z).extBut hs₂.extBut D.l2i1) hy fun h₃ e hs₃ he=>?_)
    exact hE h₃ e (fun c o c1 c3 c4 x=>hs₃ _ _ c4 (hs₂.extBut _ _ c3 (hs₁.extBut _ _ c1 x))) he
def ZipSt (z TI TO i1 i2 l1 l2:Addr) (xs ys:Array Value) (i:Nat) (h:Heap):Prop :=
  (IsZip h z TI TO .none∨∃ (T:Addr) (b:Bool),IsZipT h z TI TO (rawInt T) b∧∃ o,h.get? T=some o)∧IsPair h TI (.ref i1) (.ref i2)∧(∃ a b,IsPair h TO a b)∧h.IsListIter i1 l1 i∧h.IsListIter i2 l2 i∧h.IsList l1 xs∧h.IsList l2 ys
theorem ZipSt.keeps {z TI TO i1 i2 l1 l2:Addr} {xs ys:Array Value} {i:Nat} {h h':Heap} {S:Addr} (x:ZipSt z TI TO i1 i2 l1 l2 xs ys i h) (k:∀ b o,b≠S→h.get? b=some o→h'.get? b=some o) (kS:(∃ o,h.get? S=some o)→∃ o,h'.get? S=some o)
    (n1:z≠S) (n2:TI≠S) (n3:TO≠S) (n4:i1≠S) (n5:i2≠S) (n6:l1≠S) (n7:l2≠S):ZipSt z TI TO i1 i2 l1 l2 xs ys i h':=by
  obtain ⟨hz,hTI,⟨a,b,hTO⟩,h1,h2,hl1,hl2⟩:=x
  refine ⟨?_,k _ _ n2 hTI,⟨a,b,k _ _ n3 hTO⟩,h1.at fun o e=>k _ o n4 e,h2.at fun o e=>k _ o n5 e,hl1.at fun o e=>k _ o n6 e,hl2.at fun o e=>k _ o n7 e⟩
  rcases hz with hz | ⟨T,b,hz,o,ho⟩
  · exact .inl (k _ _ n1 hz)
  · refine .inr ⟨T,b,k _ _ n1 hz,?_⟩
    by_cases c:T=S
    · subst c; exact kS ⟨o,ho⟩
    · exact ⟨o,k _ _ c ho⟩
theorem zipSt_item {z TI TO i1 i2 l1 l2:Addr} {xs ys:Array Value} {i:Nat} {x y:Value} {Q:Option Value→Shared→Prop} (D:ZipApart z TI TO i1 i2 l1 l2) (st:ZipSt z TI TO i1 i2 l1 l2 xs ys i s.heap) (hx:xs[i]?=some x) (hy:ys[i]?=some y)
    (hQ:∀ h',ZipSt z TI TO i1 i2 l1 l2 xs ys (i+1) h'→IsPair h' s.heap.objs.size x y→h'.objs.size=s.heap.objs.size+1→(∀ c o,c≠z→c≠TO→c≠i1→c≠i2→s.heap.get? c=some o→h'.get? c=some o)→Q (some (.ref s.heap.objs.size)) { s with heap:=h' }) :
    wpAny (model prog w) A (pyNext (.ref z)) Q E s:=by
  obtain ⟨hz,hTI,⟨a,b,hTO⟩,h1,h2,hl1,hl2⟩:=st
  rcases hz with hz | ⟨T,bb,hz,hT⟩
  · refine wpAny_pyNext_zip_item D hz hTI hTO h1 h2 hl1 hl2 hx hy fun h' a1 a2 a3 a4 a5 a6 hk=>?_
    exact hQ h' ⟨.inr ⟨_,false,a1,_,a5⟩,hk _ _ D.TIz D.TITO D.TIi1 D.TIi2 hTI,⟨_,_,a2⟩,a3,a4,hl1.at fun o e=>hk _ o D.l1z D.l1TO D.l1i1 D.l1i2 e,hl2.at fun o e=>hk _ o D.l2z D.l2TO D.l2i1 D.l2i2 e⟩ a5 a6 hk
  · have hTy:s.TypeIs (.ref z) "zip" := ⟨_,hz,rfl⟩
    unfold pyNext
    refine wpAny_bind (wpAny_attempt (wpAny_callSpecial?_slot (name:=Str.ofString "__next__") hTy F.slot_zip_next
      (wpAny_call_entry F.slot_zip_next hTy F.entry_zip_next
        (zip_next_item2 D hz hT hTI hTO h1 h2 hl1 hl2 hx hy fun h' a1 a3 a4 a5 a6 hk=>wpAny_pure ?_) (F.args_zip_next_1 _))))
    have hTz:∃ o,h'.get? T=some o:=by
      obtain ⟨o,ho⟩:=hT
      by_cases c1:T=z
      · exact ⟨_,by rw [c1]; exact a1⟩
      · by_cases c3:T=i1
        · obtain ⟨o,e,_⟩:=a3; exact ⟨o,by rw [c3]; exact e⟩
        · by_cases c4:T=i2
          · obtain ⟨o,e,_⟩:=a4; exact ⟨o,by rw [c4]; exact e⟩
          · exact ⟨o,hk _ _ c1 c3 c4 ho⟩
    exact hQ h' ⟨.inr ⟨T,true,a1,hTz⟩,hk _ _ D.TIz D.TIi1 D.TIi2 hTI,⟨a,b,hk _ _ D.TOz D.TOi1 D.TOi2 hTO⟩,a3,a4,hl1.at fun o e=>hk _ o D.l1z D.l1i1 D.l1i2 e,hl2.at fun o e=>hk _ o D.l2z D.l2i1 D.l2i2 e⟩ a5 a6 fun c o c1 _ c3 c4 e=>hk c o c1 c3 c4 e
theorem zipSt_end {z TI TO i1 i2 l1 l2:Addr} {xs ys:Array Value} {i:Nat} {Q:Option Value→Shared→Prop} (hh:A.handled=none) (D:ZipApart z TI TO i1 i2 l1 l2) (st:ZipSt z TI TO i1 i2 l1 l2 xs ys i s.heap) (hend:xs[i]?=none∨ys[i]?=none)
    (hQ:∀ h',(∀ c o,c≠z→c≠TO→c≠i1→c≠i2→s.heap.get? c=some o→h'.get? c=some o)→Q none { s with heap:=h' }):wpAny (model prog w) A (pyNext (.ref z)) Q E s:=by
  obtain ⟨hz,hTI,⟨a,b,hTO⟩,h1,h2,hl1,hl2⟩:=st
  rcases hz with hz | ⟨T,bb,hz,hT⟩
  · exact wpAny_pyNext_zip_end hh D hz hTI hTO h1 h2 hl1 hl2 hend hQ
  · have hTy:s.TypeIs (.ref z) "zip" := ⟨_,hz,rfl⟩
    unfold pyNext
    refine wpAny_bind (wpAny_attempt (wpAny_callSpecial?_slot (name:=Str.ofString "__next__") hTy F.slot_zip_next
      (wpAny_call_entry F.slot_zip_next hTy F.entry_zip_next (zip_next_end2 hh D hz hT hTI h1 h2 hl1 hl2 hend fun h' e hk he=>?_) (F.args_zip_next_1 _))))
    obtain ⟨o,ho,hc⟩:=he
    refine wpAny_bind (wpAny_isInstance (T := "StopIteration") (b:=true) ⟨o,ho,hc⟩ isSubtype_stop ?_)
    exact wpAny_pure (hQ _ fun c o c1 _ c3 c4 e=>hk c o c1 c3 c4 e)
theorem ne_lo {a b lo:Nat} (h:a<lo) (g:lo≤b):b≠a:=by omega
def ZipGot (xs ys:Array Value) (lo:Nat) (h:Heap) (acc:List Addr):Prop:=acc.Nodup∧∀ (j:Nat) (T:Addr),acc[j]?=some T→lo≤T∧∃ x y,xs[j]?=some x∧ys[j]?=some y∧IsPair h T x y
theorem zip_loop {z TI TO i1 i2 l1 l2 S:Addr} {xs ys:Array Value} {n lo:Nat} {res:Value} {R:Result→Shared→Prop} (hh:A.handled=none) (D:ZipApart z TI TO i1 i2 l1 l2) (hn:n=min xs.size ys.size) (hsz:n≤sizeLine)
    (n1:z≠S) (n2:TI≠S) (n3:TO≠S) (n4:i1≠S) (n5:i2≠S) (n6:l1≠S) (n7:l2≠S) (hlo:z<lo∧TI<lo∧TO<lo∧i1<lo∧i2<lo∧S<lo) :
    ∀ (k i:Nat) (s:Shared) (acc:List Addr) (c:Nat),n-i=k→i≤n→lo≤s.heap.objs.size→ZipSt z TI TO i1 i2 l1 l2 xs ys i s.heap→s.heap.get? S=some { cls:=.type "list", dict:=none,data:=.seq (acc.map Value.ref).toArray c,slots:=#[] }→acc.length=i→ZipGot xs ys lo s.heap acc →
    (∀ h' acc' c',(∀ b o,b≠S→b≠z→b≠TO→b≠i1→b≠i2→s.heap.get? b=some o→h'.get? b=some o)→h'.get? S=some { cls:=.type "list", dict:=none,data:=.seq ((acc':List Addr).map Value.ref).toArray c',slots:=#[] }→acc'.length=n→ZipGot xs ys lo h' acc'→R (.ok (.ret res)) { s with heap:=h' }) →
    codeAny (model prog w) A (.builtin "list.extend.loop" ⟨[.ref S,.ref z,res],[]⟩) R s:=by
  intro k
  induction k with
  | zero =>
    intro i s acc c hk hi hlos hst hS hacc hgot hR
    have hin:i=n:=by omega
    subst hin
    refine codeAny_builtin F.entry_extend_loop ?_
    rw [Around.under_plainId F.plain_extend_loop _]
    show wpAny _ A.in1 (pyNext (.ref z) >>= _) _ _ s
    have hend:xs[i]?=none∨ys[i]?=none:=by
      rcases Nat.le_total xs.size ys.size with h | h
      · exact .inl (by rw [hn,Nat.min_eq_left h]; exact Array.getElem?_eq_none (Nat.le_refl _))
      · exact .inr (by rw [hn,Nat.min_eq_right h]; exact Array.getElem?_eq_none (Nat.le_refl _))
    refine wpAny_bind (zipSt_end hh D hst hend fun h' hk'=>?_)
    exact wpAny_pure (hR h' acc c (fun b o _ b1 b2 b3 b4 e=>hk' b o b1 b2 b3 b4 e) (hk' _ _ (Ne.symm n1) (Ne.symm n3) (Ne.symm n4) (Ne.symm n5) hS) hacc ⟨hgot.1,fun j T e=>by
      obtain ⟨g1,x,y,g2,g3,g4⟩:=hgot.2 j T e
      exact ⟨g1,x,y,g2,g3,hk' _ _ (ne_lo hlo.1 g1) (ne_lo hlo.2.2.1 g1) (ne_lo hlo.2.2.2.1 g1) (ne_lo hlo.2.2.2.2.1 g1) g4⟩⟩)
  | succ k ih =>
    intro i s acc c hk hi hlos hst hS hacc hgot hR
    have hlt:i<n:=by omega
    have hix:i<xs.size:=by omega
    have hiy:i<ys.size:=by omega
    refine codeAny_builtin F.entry_extend_loop ?_
    rw [Around.under_plainId F.plain_extend_loop _]
    show wpAny _ A.in1 (pyNext (.ref z) >>= _) _ _ s
    refine wpAny_bind (zipSt_item D hst (Array.getElem?_eq_getElem hix) (Array.getElem?_eq_getElem hiy) fun h' hst' hpr hz' hk'=>?_)
    have hS':=hk' _ _ (Ne.symm n1) (Ne.symm n3) (Ne.symm n4) (Ne.symm n5) hS
    show wpAny _ A.in1 (updateSeq S (·.push (.ref s.heap.objs.size)) >>= _) _ _ _
    refine wpAny_bind ?_
    have oth:∀ b o,b≠S→h'.get? b=some o→(h'.update S (Obj.mapSeq (·.push (Value.ref s.heap.objs.size)))).get? b=some o:=fun b o hb e=>(Heap.get?_update_other _ _ (Ne.symm hb)).trans e
    have hS2:=Heap.get?_update_self (Obj.mapSeq (·.push (Value.ref s.heap.objs.size))) hS' rfl
    have hSs:S≠s.heap.objs.size:=(ne_lo hlo.2.2.2.2.2 hlos).symm
    obtain ⟨c2,hS3⟩:∃ c2,(h'.update S (Obj.mapSeq (·.push (Value.ref s.heap.objs.size)))).get? S=some { cls:=.type "list", dict:=none,data:=.seq ((acc++[s.heap.objs.size]).map Value.ref).toArray c2,slots:=#[] }:=by
      rw [List.map_append]
      have:((acc.map Value.ref)++[s.heap.objs.size].map Value.ref).toArray=(acc.map Value.ref).toArray.push (.ref s.heap.objs.size):=by simp
      rw [this]
      exact ⟨_,hS2⟩
    refine wpAny_updateSeq hS' rfl (wpAny_pure ⟨plainId_quiet F.plain_extend_loop _,ih (i+1) _ (acc++[s.heap.objs.size]) c2 (by omega) hlt ?_ (hst'.keeps (S:=S) (fun b o hb e=>oth b o hb e) (fun _=>⟨_,hS2⟩) n1 n2 n3 n4 n5 n6 n7) hS3 (by rw [List.length_append,hacc]; rfl) ?_ fun h'' acc' c' hk'' hS'' hacc' hgot'=>?_⟩)
      (by rw [List.size_toArray,List.length_map]; omega) (by show ((acc.map Value.ref).toArray.push _).size≤sizeLine+1; rw [Array.size_push,List.size_toArray,List.length_map]; omega)
    · show lo≤(h'.update S _).objs.size
      rw [Heap.size_update,hz']; omega
    · refine ⟨List.nodup_append.mpr ⟨hgot.1,by simp,fun T hT u hu=>?_⟩,?_⟩
      · obtain ⟨j,e⟩:=List.mem_iff_getElem?.mp hT
        obtain ⟨_,_,_,_,_,g4⟩:=hgot.2 j T e
        rw [List.mem_singleton.mp hu]
        exact Nat.ne_of_lt (Heap.lt_size g4)
      intro j T e
      by_cases hj:j<acc.length
      · rw [List.getElem?_append_left hj] at e
        obtain ⟨g1,x,y,g2,g3,g4⟩:=hgot.2 j T e
        exact ⟨g1,x,y,g2,g3,oth _ _ (ne_lo hlo.2.2.2.2.2 g1) (hk' _ _ (ne_lo hlo.1 g1) (ne_lo hlo.2.2.1 g1) (ne_lo hlo.2.2.2.1 g1) (ne_lo hlo.2.2.2.2.1 g1) g4)⟩
      · rw [List.getElem?_append_right (by omega)] at e
        have e0:j-acc.length=0:=by
          cases h:j-acc.length with
          | zero=>rfl
          | succ k=>rw [h] at e; simp at e
        rw [e0] at e
        cases e
        have:j=i:=by omega
        subst this
        exact ⟨hlos,_,_,Array.getElem?_eq_getElem hix,Array.getElem?_eq_getElem hiy,oth _ _ (Ne.symm hSs) hpr⟩
    · exact hR h'' acc' c' (fun b o b0 b1 b2 b3 b4 e=>hk'' b o b0 b1 b2 b3 b4 (oth b o b0 (hk' b o b1 b2 b3 b4 e))) hS'' hacc' hgot'
theorem zip_extend {z TI TO i1 i2 l1 l2 S:Addr} {xs ys:Array Value} {n:Nat} {res:Value} {c₀:Nat} {R:Result→Shared→Prop} (hh:A.handled=none) (D:ZipApart z TI TO i1 i2 l1 l2) (hn:n=min xs.size ys.size) (hsz:n≤sizeLine)
    (n1:z≠S) (n2:TI≠S) (n3:TO≠S) (n4:i1≠S) (n5:i2≠S) (n6:l1≠S) (n7:l2≠S) (hlo:z<s.heap.objs.size∧TI<s.heap.objs.size∧TO<s.heap.objs.size∧i1<s.heap.objs.size∧i2<s.heap.objs.size∧S<s.heap.objs.size)
    (hst:ZipSt z TI TO i1 i2 l1 l2 xs ys 0 s.heap) (hS:s.heap.get? S=some { cls:=.type "list", data:=.seq #[] c₀ })
    (hR:∀ h' acc' c',(∀ b o,b≠S→b≠z→b≠TO→b≠i1→b≠i2→s.heap.get? b=some o→h'.get? b=some o)→h'.get? S=some { cls:=.type "list", dict:=none,data:=.seq ((acc':List Addr).map Value.ref).toArray c',slots:=#[] }→acc'.length=n→ZipGot xs ys s.heap.objs.size h' acc'→R (.ok (.ret res)) { s with heap:=h' }) :
    wpAny (model prog w) A.in1 (Builtin.List.listExtendWith (.ref S) (.ref z) res)
      (fun fin s'=>match fin with | .done f=>R (.ok f) s' | .again c'=>c'.quiet=true∧codeAny (model prog w) A c' R s') (fun e s'=>R (.error e) s') s:=by
  have hT:s.TypeIs (.ref z) "zip" := by
    rcases hst.1 with hz | ⟨T,b,hz,_⟩
    · exact ⟨_,hz,rfl⟩
    · exact ⟨_,hz,rfl⟩
  unfold Builtin.List.listExtendWith
  refine wpAny_bind (wpAny_typeOf hT ?_)
  have h1:Builtin.List.listSameRef (.ref S) (.ref z)=false:=by simp [Builtin.List.listSameRef,Ne.symm n1]
  have h2:(Value.type "zip" == Value.type "list")=false:=by decide
  have h3:(Value.type "zip" == Value.type "tuple")=false:=by decide
  simp only [h1,h2,h3,Bool.or_false,Bool.false_eq_true,if_false]
  refine wpAny_bind ?_
  refine wpAny_pyIter_slot hT F.slot_zip_iter (wpAny_call_entry F.slot_zip_iter hT F.entry_zip_iter ?_ (F.args_zip_iter_1 _))
  show wpAny _ _ (ret (.ref z)) _ _ s
  refine wpAny_pure ⟨_,rfl, "zip", _,hT,F.slot_zip_next.lookup,?_⟩
  refine wpAny_bind (wpAny_holding ?_)
  unfold Builtin.List.listLengthHint
  refine wpAny_bind (wpAny_specialOf hT F.zip_no_len ?_)
  show wpAny _ A.in1 (specialOf (Value.ref z) (Str.ofString "__length_hint__") >>= _) _ _ _
  refine wpAny_bind (wpAny_specialOf hT F.zip_no_hint ?_)
  refine wpAny_pure ?_
  show wpAny _ A.in1 (rule "list.extend.makes-room" >>= fun _=>Builtin.List.listTouch (.ref S) >>= fun _ =>
    again (.builtin "list.extend.loop" ⟨[.ref S,.ref z,res],[]⟩)) _ _ _
  refine wpAny_bind (wpAny_rule ?_)
  refine wpAny_bind ?_
  show wpAny _ A.in1 (updateSeq S (·.push .none) >>= fun _=>updateSeq S (·.pop)) _ _ _
  refine wpAny_bind (wpAny_updateSeq hS rfl ?_)
  have hS₂:=Heap.get?_update_self (Obj.mapSeq (·.push Value.none)) hS rfl
  refine wpAny_updateSeq (hz:=by seq_fits) hS₂ rfl ?_
  have hS₃:=Heap.get?_update_self (Obj.mapSeq (·.pop)) hS₂ rfl
  have oth:∀ b o,b≠S→s.heap.get? b=some o→((s.heap.update S (Obj.mapSeq (·.push Value.none))).update S (Obj.mapSeq (·.pop))).get? b=some o :=
    fun b o hb e=>(Heap.get?_update_other _ _ (Ne.symm hb)).trans ((Heap.get?_update_other _ _ (Ne.symm hb)).trans e)
  have hsize:((s.heap.update S (Obj.mapSeq (·.push Value.none))).update S (Obj.mapSeq (·.pop))).objs.size=s.heap.objs.size:=by rw [Heap.size_update,Heap.size_update]
  refine wpAny_pure ⟨plainId_quiet F.plain_extend_loop _,zip_loop hh D hn hsz n1 n2 n3 n4 n5 n6 n7 hlo n 0 _ [] _ rfl (Nat.zero_le _) (Nat.le_of_eq hsize.symm) (hst.keeps (S:=S) oth (fun _=>⟨_,hS₃⟩) n1 n2 n3 n4 n5 n6 n7) hS₃ rfl ⟨List.nodup_nil,fun j T e=>by simp at e⟩ fun h' acc' c' hk hS' hacc hgot=>?_⟩
  exact hR h' acc' c' (fun b o b0 b1 b2 b3 b4 e=>hk b o b0 b1 b2 b3 b4 (oth b o b0 e)) hS' hacc hgot
theorem call_list_zip {z TI TO i1 i2 l1 l2:Addr} {xs ys:Array Value} {Q:Value→Shared→Prop} (hh:A.handled=none) (D:ZipApart z TI TO i1 i2 l1 l2) (hsz:min xs.size ys.size≤sizeLine)
    (hlo:z<s.heap.objs.size∧TI<s.heap.objs.size∧TO<s.heap.objs.size∧i1<s.heap.objs.size∧i2<s.heap.objs.size∧l1<s.heap.objs.size∧l2<s.heap.objs.size)
    (hst:ZipSt z TI TO i1 i2 l1 l2 xs ys 0 s.heap)
    (hQ:∀ h' acc' c',(∀ b o,b≠z→b≠TO→b≠i1→b≠i2→s.heap.get? b=some o→h'.get? b=some o)→h'.get? s.heap.objs.size=some { cls:=.type "list", dict:=none,data:=.seq ((acc':List Addr).map Value.ref).toArray c',slots:=#[] }→acc'.length=min xs.size ys.size→ZipGot xs ys (s.heap.objs.size+1) h' acc'→Q (.ref s.heap.objs.size) { s with heap:=h' }) :
    wpAny (model prog w) A (call (.type "list") [.ref z]) Q E s:=by
  refine callType_codes (Q₁:=fun obj s₁=>obj=.ref s.heap.objs.size∧s₁={ s with heap:=s.heap.push { cls:=.type "list", data:=.seq #[] } }) F.called_list (F.typeCall_list_1 _) F.entry_list_init
    (code_list_new _ ⟨rfl,rfl⟩) fun obj s₁ h₁=>?_
  obtain ⟨rfl,rfl⟩:=h₁
  have hS:(s.heap.push { cls:=.type "list", data:=.seq #[] }).get? s.heap.objs.size=some { cls:=.type "list", data:=.seq #[] }:=Heap.get?_push_size _ rfl
  obtain ⟨m1,m2,m3,m4,m5,m6,m7⟩:=hlo
  refine ⟨⟨_,hS,rfl⟩,F.args_list_init_2 _ _,?_⟩
  show wpAny _ _ (do let old ← Builtin.List.listItems (.ref s.heap.objs.size); Builtin.List.listUpdate (.ref s.heap.objs.size) (fun _=>#[]); letGo old.toList.reverse; Builtin.List.listExtendWith (.ref s.heap.objs.size) (.ref z) .none) _ _ _
  refine wpAny_bind ?_
  unfold Builtin.List.listItems
  refine wpAny_bind (wpAny_seqItems hS rfl (wpAny_pure ?_))
  show wpAny _ _ (updateSeq s.heap.objs.size (fun _=>#[]) >>= fun _=>letGo (#[]:Array Value).toList.reverse >>= fun _=>Builtin.List.listExtendWith (.ref s.heap.objs.size) (.ref z) .none) _ _ _
  refine wpAny_bind (wpAny_updateSeq hS rfl ?_)
  have hS₂:=Heap.get?_update_self (Obj.mapSeq (fun _=>(#[]:Array Value))) hS rfl
  have oth:∀ b o,b≠s.heap.objs.size→s.heap.get? b=some o→((s.heap.push { cls:=.type "list", data:=.seq #[] }).update s.heap.objs.size (Obj.mapSeq (fun _=>(#[]:Array Value)))).get? b=some o :=
    fun b o hb e=>(Heap.get?_update_other _ _ (Ne.symm hb)).trans (Heap.get?_push_of_some _ e)
  have hsize:((s.heap.push { cls:=.type "list", data:=.seq #[] }).update s.heap.objs.size (Obj.mapSeq (fun _=>(#[]:Array Value)))).objs.size=s.heap.objs.size+1:=by rw [Heap.size_update,Heap.size_push]
  refine wpAny_bind (wpAny_letGo ?_)
  refine zip_extend (xs:=xs) (ys:=ys) (n:=min xs.size ys.size) hh D rfl hsz (Nat.ne_of_lt m1) (Nat.ne_of_lt m2) (Nat.ne_of_lt m3) (Nat.ne_of_lt m4) (Nat.ne_of_lt m5) (Nat.ne_of_lt m6) (Nat.ne_of_lt m7) ?_ (hst.keeps (S:=s.heap.objs.size) oth (fun _=>⟨_,hS₂⟩) (Nat.ne_of_lt m1) (Nat.ne_of_lt m2) (Nat.ne_of_lt m3) (Nat.ne_of_lt m4) (Nat.ne_of_lt m5) (Nat.ne_of_lt m6) (Nat.ne_of_lt m7)) hS₂ fun h' acc' c' hk hS' hacc hgot=>?_
  · show _<(Heap.update _ _ _).objs.size∧_
    rw [hsize]
    exact ⟨Nat.lt_succ_of_lt m1,Nat.lt_succ_of_lt m2,Nat.lt_succ_of_lt m3,Nat.lt_succ_of_lt m4,Nat.lt_succ_of_lt m5,Nat.lt_succ_self _⟩
  · have hgot':ZipGot xs ys (s.heap.objs.size+1) h' acc':=by rw [← hsize]; exact hgot
    exact ⟨rfl,hQ h' acc' c' (fun b o b1 b2 b3 b4 e=>hk b o (Nat.ne_of_lt (Heap.lt_size e)) b1 b2 b3 b4 (oth b o (Nat.ne_of_lt (Heap.lt_size e)) e)) hS' hacc hgot'⟩
end
end PySem
namespace L2
open PySem PySem.Spec PyProof.Rows VL
section
variable {P:Program} {w:World} {H:Hp} {h:Heap}
theorem HOk.add {a:Addr} {o:HO} (x:HOk P w H h) (hn:H a=none) (new:ObjOk P w (upd H a o) h a o):HOk P w (upd H a o) h:=fun b u e=>by
  by_cases hb:b=a
  · subst hb; rw [upd_same] at e; cases e; exact new
  · rw [upd_ne hb] at e
    exact (x b u e).stay (fun c v _ q=>q) (fun c q=>by rw [upd_ne (ne_of_none q hn)]; exact q) fun c xs q=>by rw [upd_ne (ne_of_none q hn)]; exact q
def layT:List (Addr×List V)→Hp→Hp
  | [],H=>H
  | p::r,H=>upd (layT r H) p.1 (.tup p.2)
theorem layT_ne:∀ {l:List (Addr×List V)} {H:Hp} {b:Addr},b∉l.map Prod.fst→layT l H b=H b
  | [],_,_,_=>rfl
  | p::r,H,b,h=>by
    rw [List.map_cons,List.mem_cons,not_or] at h
    show upd (layT r H) p.1 _ b=_
    rw [upd_ne h.1,layT_ne h.2]
theorem layT_at:∀ {l:List (Addr×List V)} {H:Hp} {p:Addr×List V},(l.map Prod.fst).Nodup→p∈l→layT l H p.1=some (.tup p.2)
  | [],_,_,_,h=>by cases h
  | q::r,H,p,nd,h=>by
    rw [List.map_cons,List.nodup_cons] at nd
    show upd (layT r H) q.1 _ p.1=_
    rcases List.mem_cons.mp h with rfl | h
    · exact upd_same
    · rw [upd_ne (fun z=>nd.1 (by rw [← z]; exact List.mem_map.mpr ⟨p,h,rfl⟩)),layT_at nd.2 h]
theorem layT_ok:∀ {l:List (Addr×List V)} {H:Hp},HOk P w H h→(l.map Prod.fst).Nodup→(∀ p∈l,H p.1=none∧p.2.length≤sizeLine∧∃ its:List Value,Vals p.2 its∧IsTup h p.1 its.toArray)→HOk P w (layT l H) h
  | [],_,x,_,_=>x
  | p::r,H,x,nd,hp=>by
    rw [List.map_cons,List.nodup_cons] at nd
    obtain ⟨h1,h2,h3⟩:=hp p List.mem_cons_self
    exact HOk.add (layT_ok x nd.2 fun q hq=>hp q (List.mem_cons_of_mem _ hq)) (by rw [layT_ne nd.1]; exact h1) ⟨h2,h3⟩
theorem Un.news {fs ex:List Addr} {H':Hp} {h':Heap} (k:∀ b u,h.get? b=some u→h'.get? b=some u) (e1:∀ b,b<h.objs.size→H' b=H b) (e2:Same H H'):Un fs ex H H' h h' where
  keep:=fun b u q _ _ _=>k b u q
  slot:=fun b u q _ _ _=>⟨u.slots,k b u q⟩
  free:=fun b u q n _=>by rw [e1 b (Heap.lt_size q)]; exact n
  there:=fun b u q _=>⟨u,k b u q⟩
  tups:=fun b xs q=>e2 _ _ q
  frzs:=fun b u xs q=>e2 _ _ q
  tbls:=fun b ps q=>⟨#[],by rw [e2 _ _ q]; simp⟩
end
theorem zip_got {xs ys:List V} {us ws:List Value} {lo:Nat} {h:Heap} (r1:Vals xs us) (r2:Vals ys ws) {acc:List Addr} (g:ZipGot us.toArray ws.toArray lo h acc):∀ (n:Nat),n=acc.length→∃ l:List (Addr×List V),l.map Prod.fst=acc∧l.map Prod.snd=(List.zipWith (fun x y=>[x,y]) xs ys).take n∧∀ p∈l,lo≤p.1∧p.2.length≤sizeLine∧∃ its:List Value,Vals p.2 its∧IsTup h p.1 its.toArray:=by
  intro n hn
  have hl1:=r1.length
  have hl2:=r2.length
  have key:∀ k,k≤acc.length→∃ l:List (Addr×List V),l.map Prod.fst=acc.take k∧l.map Prod.snd=(List.zipWith (fun x y=>[x,y]) xs ys).take k∧∀ p∈l,lo≤p.1∧p.2.length≤sizeLine∧∃ its:List Value,Vals p.2 its∧IsTup h p.1 its.toArray:=by
    intro k
    induction k with
    | zero=>exact fun _=>⟨[],by simp,by simp,fun p hp=>by cases hp⟩
    | succ k ih =>
      intro hk
      obtain ⟨l,e1,e2,e3⟩:=ih (by omega)
      have hT:acc[k]?=some acc[k]:=List.getElem?_eq_getElem (by omega)
      obtain ⟨g1,u,v,g2,g3,g4⟩:=g.2 k _ hT
      have g2':us[k]?=some u:=by simpa using g2
      have g3':ws[k]?=some v:=by simpa using g3
      have hk1:k<xs.length:=by rw [hl1]; exact (List.getElem?_eq_some_iff.mp g2').1
      have hk2:k<ys.length:=by rw [hl2]; exact (List.getElem?_eq_some_iff.mp g3').1
      obtain ⟨u',f1,q1⟩:=r1.get (List.getElem?_eq_getElem hk1)
      obtain ⟨v',f2,q2⟩:=r2.get (List.getElem?_eq_getElem hk2)
      rw [g2'] at f1; cases f1
      rw [g3'] at f2; cases f2
      refine ⟨l++[(acc[k],[xs[k],ys[k]])],?_,?_,fun p hp=>?_⟩
      · rw [List.map_append,e1,List.take_succ,hT]; rfl
      · rw [List.map_append,e2,List.take_succ,List.getElem?_zipWith,List.getElem?_eq_getElem hk1,List.getElem?_eq_getElem hk2]; rfl
      · rcases List.mem_append.mp hp with hp | hp
        · exact e3 p hp
        · rw [List.mem_singleton.mp hp]
          exact ⟨g1,by show 2≤sizeLine; decide,[u,v],.cons q1 (.cons q2 .nil),⟨_,g4,rfl,_,rfl⟩⟩
  obtain ⟨l,e1,e2,e3⟩:=key n (by omega)
  exact ⟨l,by rw [e1,hn,List.take_length],e2,e3⟩
def tLzip (K:PySem.W.Frag) (t:TA):TE:=fun σ H Q=>t σ H fun vs H1=>∃ a b xs ys,vs=[.ref a,.ref b]∧SqL K H1 a xs∧SqL K H1 b ys∧∀ S (l:List (Addr×List V)) H',Same H1 H'→H1 S=none→H' S=some (.lst (l.map fun p=>.ref p.1))→l.map Prod.snd=List.zipWith (fun x y=>[x,y]) xs ys→l.length≤sizeLine→(∀ p∈l,H1 p.1=none∧H' p.1=some (.tup p.2))→Q (.ref S) H'
theorem pe_lzip {X:Cx} {K:PySem.W.Frag} {a b:Expr} {ta:TA} {p1 p2 q1 q2:Pos} (hK:X.K=K) (hc:X.calm=true) (hg1:Gl X "list") (hm1:X.mg "list" = none) (hg2:Gl X "zip") (hm2:X.mg "zip" = none) (ha:PA X [a,b] ta)
    (e1:starEach [.Call (.Name "zip" p2) [a,b] [] q2] X.env=[(false,eval (.Call (.Name "zip" p2) [a,b] [] q2) X.env)]:=by rfl) (hs:starEach [a,b] X.env=(false,eval a X.env)::starEach [b] X.env:=by rfl) (hp:(backTo q2 (starEach [b] X.env)).any (·.1)=false:=by rfl) :
    PE X (.Call (.Name "list" p1) [.Call (.Name "zip" p2) [a,b] [] q2] [] q1) (tLzip K ta):=by
  subst hK
  intro pins s σ H Q I h
  have hh:=I.ok.hd hc
  refine wpAny_Call_Name_kw (ld_blt I hg1 hm1 bt_list ?_ (by decide) (by decide))
  refine PyProof.Rows.callWith_type1 (rest:=[]) ?_ (by rw [e1]; rfl) rfl
  rw [e1]
  show wpAny _ _ (spliced [(false,eval (.Call (.Name "zip" p2) [a,b] [] q2) X.env)]) _ _ s
  refine Calls.spliced_cons ?_
  refine Call_ (ld_blt I hg2 hm2 bt_zip (PyProof.Rows.callWith_type1 (thn (ha q2 pins s σ H _ I h) fun us s1 ⟨vs,H1,I1,r1,q1⟩=>?_) hs hp))
  obtain ⟨x,y,xs,ys,rfl,qa,qb,q⟩:=q1
  cases r1 with
  | cons ra r1 =>
    cases r1 with
    | cons rb r1 =>
      cases r1
      cases ra
      cases rb
      obtain ⟨us,v1,pl1,z1⟩:=I1.list qa
      obtain ⟨ws,v2,pl2,z2⟩:=I1.list qb
      have l1:=v1.length
      have l2:=v2.length
      have la:x<s1.heap.objs.size:=by obtain ⟨_,e,_⟩:=pl1.isList; exact Heap.lt_size e
      have lb:y<s1.heap.objs.size:=by obtain ⟨_,e,_⟩:=pl2.isList; exact Heap.lt_size e
      refine call_zip_2 pl1.isList pl2.isList fun h1 hz hTI hTO hi1 hi2 hsz hk=>?_
      refine Calls.spliced_nil ?_
      have hm:min us.toArray.size ws.toArray.size≤sizeLine:=by
        rw [List.size_toArray,List.size_toArray]; omega
      refine call_list_zip (s:={ s1 with heap:=h1 }) hh (zapart _ _ _ la lb) hm ?_ ⟨.inl hz,hTI,⟨_,_,hTO⟩,hi1,hi2,pl1.isList.at fun o e=>hk _ o e,pl2.isList.at fun o e=>hk _ o e⟩ fun h' acc c hk' hS hacc hgot=>?_
      · have f:∀ n m:Nat,m=n+5→∀ i j:Nat,i<n→j<n→n+4<m∧n+2<m∧n+3<m∧n<m∧n+1<m∧i<m∧j<m:=by intros; omega
        exact f s1.heap.objs.size h1.objs.size hsz x y la lb
      · obtain ⟨l,e1,e2,e3⟩:=zip_got v1 v2 hgot acc.length rfl
        have hlen:l.length=acc.length:=by rw [← e1,List.length_map]
        have hzl:(List.zipWith (fun x y=>[x,y]) xs ys).length=acc.length:=by
          have hacc':acc.length=min us.toArray.size ws.toArray.size:=hacc
          rw [List.length_zipWith,hacc',List.size_toArray,List.size_toArray,l1,l2]
        rw [List.take_of_length_le (by omega)] at e2
        have big:∀ b:Nat,h1.objs.size≤b→s1.heap.objs.size≤b:=fun b hb=>by omega
        have kall:∀ b u,s1.heap.get? b=some u→h'.get? b=some u:=fun b u e=>by
          have hb:=Heap.lt_size e
          have f:∀ n i b:Nat,b<n→b≠n+i:=by intros; omega
          exact hk' b u (f _ 4 b hb) (f _ 3 b hb) (f _ 0 b hb) (f _ 1 b hb) (hk b u e)
        have fr:∀ b:Nat,h1.objs.size≤b→H1 b=none:=fun b hb=>I1.hok.fresh (big b hb)
        have nd:(l.map Prod.fst).Nodup:=by rw [e1]; exact hgot.1
        have hS0:H1 h1.objs.size=none:=fr _ (Nat.le_refl _)
        have hSl:h1.objs.size∉l.map Prod.fst:=fun z=>by
          obtain ⟨p,hp,e⟩:=List.mem_map.mp z
          have:=(e3 p hp).1
          have f:∀ n m:Nat,n+1≤m→m≠n:=by intros; omega
          exact f _ _ this e
        have hT:∀ p∈l,H1 p.1=none:=fun p hp=>fr _ (Nat.le_of_succ_le (e3 p hp).1)
        have ok1:HOk X.prog X.w (layT l H1) h':=layT_ok (I1.hok.kept kall) nd fun p hp=>⟨hT p hp,(e3 p hp).2⟩
        have er:acc.map Value.ref=l.map fun p=>Value.ref p.1:=by rw [← e1,List.map_map]; rfl
        have vr:∀ l:List (Addr×List V),Vals (l.map fun p=>V.ref p.1) (l.map fun p=>Value.ref p.1):=by
          intro l
          induction l with
          | nil=>exact .nil
          | cons p r ih=>exact .cons rfl ih
        have ok2:HOk X.prog X.w (upd (layT l H1) h1.objs.size (.lst (l.map fun p=>V.ref p.1))) h':=HOk.add ok1 (by rw [layT_ne hSl]; exact hS0) ⟨by rw [List.length_map]; have hacc':acc.length=min us.toArray.size ws.toArray.size:=hacc; omega,_,c,vr l,by rw [← er]; exact hS⟩
        have s12:Same H1 (upd (layT l H1) h1.objs.size (.lst (l.map fun p=>V.ref p.1))):=fun b o e=>by
          rw [upd_ne (ne_of_none e hS0),layT_ne (fun z=>?_)]
          · exact e
          · obtain ⟨p,hp,e'⟩:=List.mem_map.mp z
            have:=hT p hp
            rw [e',e] at this; cases this
        have I2:Inv X pins σ (upd (layT l H1) h1.objs.size (.lst (l.map fun p=>V.ref p.1))) { s1 with heap:=h' }:=I1.un (t':=s1.toks) (Un.news kall (fun b hb=>by
          rw [upd_ne (fun z => by have f:∀ n m b:Nat,b<n→m=n+5→b≠m:=by intros; omega
                                  exact f _ _ _ hb hsz z),layT_ne (fun z=>?_)]
          obtain ⟨p,hp,e'⟩:=List.mem_map.mp z
          have g:=(e3 p hp).1
          have f:∀ n m b p:Nat,b<n→m=n+5→m+1≤p→p≠b:=by intros; omega
          exact f _ _ _ _ hb hsz g e') s12) ok2
        exact ⟨.ref _,_,I2,rfl,q _ l _ s12 hS0 upd_same e2 (by have hacc':acc.length=min us.toArray.size ws.toArray.size:=hacc; omega) fun p hp=>⟨hT p hp,by rw [upd_ne (fun z=>hSl (by rw [← z]; exact List.mem_map.mpr ⟨p,hp,rfl⟩)),layT_at nd hp]⟩⟩
end L2
namespace VL
open PySem L2
open Classical
noncomputable section
variable [Tabs] {K:PySem.W.Frag}
theorem sf_lzip {ta tb:TE} {a b:DE} (ha:SemI K ta a) (hb:SemI K tb b):SemF K (tLzip K (tCons ta (tCons tb tNil))) (dZip a b):=fun {B Z os ρ σ H Q ds} f q k=>by
  unfold dZip at q
  cases ea:asL a ρ with
  | none=>rw [ea] at q; cases q
  | some xs =>
    cases eb:asL b ρ with
    | none=>rw [ea,eb] at q; cases q
    | some ys =>
      rw [ea,eb] at q
      cases q
      obtain ⟨da,ea,eda⟩:=asL_some ea
      obtain ⟨db,eb,edb⟩:=asL_some eb
      refine ha f ea fun v H1 s1 i1=>hb (f.grow s1) eb fun u H2 s2 i2=>?_
      obtain ⟨p1,vs,rfl,hl1,hn1,hr1⟩:=i1.seq eda
      obtain ⟨p2,us,rfl,hl2,hn2,hr2⟩:=i2.seq edb
      have s12:=s1.trans s2
      have f2:=f.grow s12
      obtain ⟨g1,r1⟩:=hr1 H2 _ (Kp.same s2)
      obtain ⟨g2,r2⟩:=hr2 H2 _ Kp.refl
      refine ⟨p1,p2,vs,us,rfl,g1,g2,fun S l H' s3 hS hS' e2 hl hT=>?_⟩
      refine k S _ H' (s12.trans s3) (Same.free s12 hS) hS' (by rw [List.length_map]; exact hl) ?_
      have main:∀ {vs us:List V} {xs ys:List D} {l:List (Addr×List V)},IsL K H2 (tot Z os) vs xs→IsL K H2 (tot Z os) us ys→l.map Prod.snd=List.zipWith (fun x y=>[x,y]) vs us→(∀ p∈l,H2 p.1=none∧H' p.1=some (.tup p.2))→IsL K H' (fun a=>a=S∨tot Z os a) (l.map fun p=>V.ref p.1) (zpL xs ys):=by
        intro vs us xs ys l
        induction l generalizing vs us xs ys with
        | nil =>
          intro r1 r2 e _
          cases r1 with
          | nil=>exact .nil
          | cons h r =>
            cases r2 with
            | nil=>exact .nil
            | cons h2 r2=>cases e
        | cons p l ih =>
          intro r1 r2 e hT
          cases r1 with
          | nil=>cases e
          | @cons v d vs xs h r =>
            cases r2 with
            | nil=>cases e
            | @cons u d2 us ys h2 r2 =>
              have e':p.2::l.map Prod.snd=[v,u]::List.zipWith (fun x y=>[x,y]) vs us:=e
              obtain ⟨e4,e5⟩:=List.cons.inj e'
              obtain ⟨t1,t2⟩:=hT p List.mem_cons_self
              rw [e4] at t2
              have kp:Kp (tot Z os) H2 (fun a=>a=S∨tot Z os a) H':=fun a o e z=>⟨s3 _ _ e,fun w=>w.elim (fun w=>by rw [w,hS] at e; cases e) z⟩
              refine .cons (.tup ?_ t2 (by show 2≤sizeLine; decide) (.cons (h.kp kp) (.one (h2.kp kp)))) (ih r r2 e5 fun q hq=>hT q (List.mem_cons_of_mem _ hq))
              rintro (z | z)
              · rw [z,hS'] at t2; cases t2
              · exact f2.out t1 z
      exact main r1 r2 e2 hT
end
end VL
namespace VL
open PySem L2
open Classical
noncomputable section
variable [Tabs] {K:PySem.W.Frag}
def unI:List D→Option (List Int)
  | []=>some []
  | .int n::r=>(unI r).map (n::·)
  | _=>none
omit [Tabs] in
theorem unI_map:∀ ns:List Int,unI (ns.map D.int)=some ns
  | []=>rfl
  | n::r=>by show (unI (r.map D.int)).map (n::·)=_; rw [unI_map r]; rfl
omit [Tabs] in
theorem unI_some:∀ {ds:List D} {ns:List Int},unI ds=some ns→ds=ns.map D.int
  | [],_,h=>by cases h; rfl
  | .int n::r,ns,h=>by
    have h:(unI r).map (n::·)=some ns:=h
    cases e:unI r with
    | none=>rw [e] at h; cases h
    | some ms=>rw [e] at h; cases h; rw [unI_some e]; rfl
def selfZ (ns:List Int) (kvs:List (Int×Int)):List (Int×Int):=ns.foldl (fun m n=>putZ m n n) kvs
omit [Tabs] in
theorem selfZ_len:∀ (ns:List Int) (kvs:List (Int×Int)),(selfZ ns kvs).length≤kvs.length+ns.length
  | [],kvs=>Nat.le_refl _
  | n::r,kvs=>by
    have h1:=selfZ_len r (putZ kvs n n)
    have h2:=putZ_len kvs n n
    show (selfZ r (putZ kvs n n)).length≤_
    rw [List.length_cons]; omega
@[irreducible] noncomputable def sDictOf (i j k:Nat):DS:=fun ρ=>match ρ.getD i .un with
  | .ol ds=>(match ρ.getD j .un with
    | .od kvs=>(match unI ds with
      | some ns=>if k < ρ.length∧i≠j∧i≠k∧j≠k∧kvs.length+ns.length<sizeLine then .nx ((ρ.set j (.od (selfZ ns kvs))).set k .un) else .no
      | none=>.no)
    | _=>.no)
  | _=>.no
omit [Tabs] in
theorem wp_dictOf {i j k:Nat} {ρ:Rho} {W:Wk} {ns:List Int} {kvs:List (Int×Int)} (h0:ρ.getD i .un=.ol (ns.map D.int)) (h1:ρ.getD j .un=.od kvs) (hc:k < ρ.length∧i≠j∧i≠k∧j≠k∧kvs.length+ns.length<sizeLine) (q:W.nx ((ρ.set j (.od (selfZ ns kvs))).set k .un)):Wp (sDictOf i j k) ρ W:=by
  unfold Wp sDictOf
  rw [h0]
  dsimp only
  rw [h1]
  dsimp only
  rw [unI_map]
  dsimp only
  rw [if_pos hc]
  exact q
theorem ss_dictOf {fr:Fm} {i j k:Nat}:SemS fr K (tFor (iList K (tVar i)) (gName k) (sDPut (tVar j) (tVar k) (tVar k))) (sDictOf i j k):=fun {B Z os ρ σ H E} f p=>by
  unfold sDictOf at p
  split at p
  case h_2=>exact p.elim
  case h_1 ds e =>
    split at p
    case h_2=>exact p.elim
    case h_1 kvs e2 =>
      split at p
      case h_2=>exact p.elim
      case h_1 ns e3 =>
        split at p
        case isFalse=>exact p.elim
        case isTrue hc =>
          obtain ⟨hk,hij,hik,hjk,hsm⟩:=hc
          have hds:=unI_some e3
          subst hds
          obtain ⟨a,vs,hu,hH,hl,r⟩:=ol_of f e
          have hvs:=r.ints
          subst hvs
          have s:=f.sl j
          rw [e2] at s
          obtain ⟨x,eo,hux,hHx,hlx⟩:=s
          have hj:=getD_lt e2 (by intro z; cases z)
          have kl:k < σ.length:=by rw [f.len]; exact hk
          have hax:a≠x:=fun z=>by rw [z,hHx] at hH; cases hH
          refine ⟨_,join_some hu,a,rfl,⟨_,SqL.of hH⟩,fun t m σ' H'=>m=ns.length-t∧t≤ns.length∧(∀ b,H' b=if b=x then some (.dK ((selfZ (ns.take t) kvs).map dkv)) else H b)∧Ag [k,k] σ σ',⟨ns.length,by omega,by omega,fun b=>?_,Ag.refl⟩,?_⟩
          · split
            · rename_i z; rw [z,hHx]; rfl
            · rfl
          rintro t m σ1 H1 ⟨rfl,ht,h1,ag⟩
          have hH1:H1 a=some (.lst (ns.map V.int)):=by rw [h1,if_neg hax]; exact hH
          by_cases htl:t<ns.length
          · right
            refine ⟨⟨ns.map V.int,.int ns[t],SqL.of hH1,by rw [List.getElem?_map,List.getElem?_eq_getElem htl]; rfl⟩,fun σ' H'=>(∀ b,H' b=if b=x then some (.dK ((selfZ (ns.take (t+1)) kvs).map dkv)) else H b)∧Ag [k,k] σ σ',fun σ' H' h=>⟨ns.length-(t+1),by omega,rfl,by omega,h.1,h.2⟩,?_⟩
            rintro y H' ⟨rfl,hx⟩
            have hx:=hx _ (SqL.of hH1)
            rw [List.getElem?_map,List.getElem?_eq_getElem htl] at hx
            cases hx
            have ag2:=ag.set (v:=some (V.int ns[t])) (i:=k) (by simp)
            have hHx1:H' x=some (.dK ((selfZ (ns.take t) kvs).map dkv)):=by rw [h1,if_pos rfl]
            have sk:(σ1.set k (some (V.int ns[t])))[k]?=some (some (V.int ns[t])):=List.getElem?_set_self (by rw [ag.1]; exact kl)
            have sj:(σ1.set k (some (V.int ns[t])))[j]?=some (some (V.ref x)):=by
              rw [ag2.2 j (by simp [hjk])]
              exact join_some hux
            have hlen:=selfZ_len (ns.take t) kvs
            have htk:(ns.take t).length≤ns.length:=by rw [List.length_take]; omega
            refine ⟨_,sk,_,sj,_,sk,x,_,rfl,.inl ⟨_,.inl ns[t],hHx1,rfl,by rw [List.length_map]; omega,rfl⟩,fun b=>?_,ag2⟩
            have tk:selfZ (ns.take (t+1)) kvs=putZ (selfZ (ns.take t) kvs) ns[t] ns[t]:=by
              unfold selfZ
              rw [List.take_succ,List.getElem?_eq_getElem htl,List.foldl_append]
              rfl
            rw [tk,← put_dkv]
            by_cases hb:b=x
            · subst hb; rw [upd_same,if_pos rfl]
            · rw [upd_ne hb,h1,if_neg hb,if_neg hb]
          · left
            refine ⟨⟨_,SqL.of hH1,by rw [List.length_map]; omega⟩,?_⟩
            have ht':t=ns.length:=by omega
            subst ht'
            rw [List.take_length] at h1
            have hx:x∈os j:=by rw [eo]; exact List.mem_singleton.mpr rfl
            have st:=f.step (H':=H1) (i:=j) hj (o:=[x]) (s:=.od (selfZ ns kvs)) (v:=some (.ref x)) (fun b u e n=>by rw [h1,if_neg (fun z=>n (by rw [z]; exact hx))]; exact e) (fun b hb=>by rw [eo] at hb; rw [List.mem_singleton.mp hb]; exact ⟨_,by rw [h1,if_pos rfl]⟩) (by simp) (fun b hb=>by rw [List.mem_singleton.mp hb]; exact .inl hx)
              ⟨x,rfl,rfl,by rw [h1,if_pos rfl],by have:=selfZ_len ns kvs; omega⟩
            rw [set_self hux] at st
            obtain ⟨f2,k2⟩:=st.1.forget (r:=k) (by rw [List.length_set]; exact hk) (σ1[k]?).join
            have e5:σ1=σ.set k (σ1[k]?).join:=by
              have:=ag.two
              rw [List.set_set] at this
              exact this
            rw [← e5] at f2
            exact p _ _ _ f2 (st.2.trans k2)
end
end VL
namespace L2
open PySem PySem.Spec PyProof.Rows VL
open Builtin.Str (occurrences subAt strSub partsBetween glued strKind tooLong)
section
variable {X:Cx}
end
end L2
namespace VL
open PySem L2
open Builtin.Str (occurrences subAt strSub partsBetween glued strKind tooLong)
open Classical
noncomputable section
variable [Tabs] {K:PySem.W.Frag} {ta tb:TE} {a b:DE}
end
end VL
set_option maxHeartbeats 4000000
namespace My
open PySem L2 VL
def top (i:Nat):Stmt:=PySem.Challenge.pw_leastfloor_k42_whole_shares.main.body.getD i (.Pass ⟨0,0,0,0⟩)
noncomputable abbrev s_shares:Stmt:=top 4
noncomputable abbrev s_stretches_of:Stmt:=top 5
noncomputable abbrev s_shortest_way:Stmt:=top 6
noncomputable abbrev s_reached:Stmt:=top 7
noncomputable abbrev s_neighbours:Stmt:=top 8
noncomputable abbrev s_way_to:Stmt:=top 9
noncomputable abbrev s_move_hours:Stmt:=top 10
noncomputable abbrev s_hours_left:Stmt:=top 11
noncomputable abbrev s_work_room:Stmt:=top 12
noncomputable abbrev s_stretch_room:Stmt:=top 13
noncomputable abbrev s_l_whole:Stmt:=top 15
noncomputable abbrev s_l_cell_at:Stmt:=top 16
noncomputable abbrev s_l_mixed:Stmt:=top 17
noncomputable abbrev s_l_by_blocks:Stmt:=top 18
noncomputable abbrev s_l_by_draws:Stmt:=top 19
noncomputable abbrev s_l_floor:Stmt:=top 20
noncomputable abbrev s_l_fits:Stmt:=top 21
noncomputable abbrev s_l_no_more:Stmt:=top 22
noncomputable abbrev s_law:Stmt:=top 23
theorem sc_shares:FnScope ["works", "benches", "stretches", "table", "way"] ["works", "benches"] (defScope s_shares):=⟨rfl,rfl,rfl,by decide +kernel,rfl,by decide +kernel,by decide +kernel⟩
theorem sc_stretches_of:FnScope ["works", "moments"] ["works"] (defScope s_stretches_of):=⟨rfl,rfl,rfl,by decide +kernel,rfl,by decide +kernel,by decide +kernel⟩
theorem sc_shortest_way:FnScope ["works", "benches", "stretches", "table", "sources", "place", "number"] ["works", "benches", "stretches", "table"] (defScope s_shortest_way):=⟨rfl,rfl,rfl,by decide +kernel,rfl,by decide +kernel,by decide +kernel⟩
theorem sc_reached:FnScope ["works", "stretches", "table", "places", "sources", "place", "looked", "source", "near"] ["works", "stretches", "table"] (defScope s_reached):=⟨rfl,rfl,rfl,by decide +kernel,rfl,by decide +kernel,by decide +kernel⟩
theorem sc_neighbours:FnScope ["works", "stretches", "table", "place", "many"] ["works", "stretches", "table", "place"] (defScope s_neighbours):=⟨rfl,rfl,rfl,by decide +kernel,rfl,by decide +kernel,by decide +kernel⟩
theorem sc_way_to:FnScope ["sources", "place", "many", "places"] ["sources", "place", "many"] (defScope s_way_to):=⟨rfl,rfl,rfl,by decide +kernel,rfl,by decide +kernel,by decide +kernel⟩
theorem sc_move_hours:FnScope ["works", "benches", "stretches", "table", "way", "gains", "losses", "amounts", "amount", "work", "number"] ["works", "benches", "stretches", "table", "way"] (defScope s_move_hours):=⟨rfl,rfl,rfl,by decide +kernel,rfl,by decide +kernel,by decide +kernel⟩
theorem sc_hours_left:FnScope ["works", "table", "work"] ["works", "table", "work"] (defScope s_hours_left):=⟨rfl,rfl,rfl,by decide +kernel,rfl,by decide +kernel,by decide +kernel⟩
theorem sc_work_room:FnScope ["works", "stretches", "table", "work", "number", "begin", "end"] ["works", "stretches", "table", "work", "number"] (defScope s_work_room):=⟨rfl,rfl,rfl,by decide +kernel,rfl,by decide +kernel,by decide +kernel⟩
theorem sc_stretch_room:FnScope ["benches", "stretches", "table", "number", "length"] ["benches", "stretches", "table", "number"] (defScope s_stretch_room):=⟨rfl,rfl,rfl,by decide +kernel,rfl,by decide +kernel,by decide +kernel⟩
theorem sc_l_whole:FnScope ["_law_found"] ["_law_found"] (defScope s_l_whole):=⟨rfl,rfl,rfl,by decide +kernel,rfl,by decide +kernel,by decide +kernel⟩
theorem sc_l_cell_at:FnScope ["_law_script", "_law_k"] ["_law_script", "_law_k"] (defScope s_l_cell_at):=⟨rfl,rfl,rfl,by decide +kernel,rfl,by decide +kernel,by decide +kernel⟩
theorem sc_l_mixed:FnScope ["_law_cell", "_law_k", "_law_number"] ["_law_cell", "_law_k"] (defScope s_l_mixed):=⟨rfl,rfl,rfl,by decide +kernel,rfl,by decide +kernel,by decide +kernel⟩
theorem sc_l_by_blocks:FnScope ["_law_script", "_law_many", "_law_number", "_law_begins", "_law_works", "_law_some", "_law_k", "_law_work", "_law_bench", "_law_begin", "_law_end", "_law_found", "_law_ends", "_law_hours", "_law_slack"] ["_law_script", "_law_many", "_law_number"] (defScope s_l_by_blocks):=⟨rfl,rfl,rfl,by decide +kernel,rfl,by decide +kernel,by decide +kernel⟩
theorem sc_l_by_draws:FnScope ["_law_script", "_law_many", "_law_found", "_law_numbers", "_law_k", "_law_come", "_law_long"] ["_law_script", "_law_many"] (defScope s_l_by_draws):=⟨rfl,rfl,rfl,by decide +kernel,rfl,by decide +kernel,by decide +kernel⟩
theorem sc_l_floor:FnScope ["_law_script", "_law_cell", "_law_many", "_law_mixed_here", "_law_number", "_law_works", "_law_more", "_law_unit", "_law_far"] ["_law_script"] (defScope s_l_floor):=⟨rfl,rfl,rfl,by decide +kernel,rfl,by decide +kernel,by decide +kernel⟩
theorem sc_l_fits:FnScope ["_law_works", "_law_number", "_law_stretches", "_law_table", "_law_k", "_law_j", "_law_begin", "_law_end", "_law_inside"] ["_law_works", "_law_number", "_law_stretches", "_law_table"] (defScope s_l_fits):=⟨rfl,rfl,rfl,by decide +kernel,rfl,by decide +kernel,by decide +kernel⟩
theorem sc_l_no_more:FnScope ["_law_works", "_law_number", "_law_stretches", "_law_table", "_law_known", "_law_met", "_law_at", "_law_work", "_law_j", "_law_begin", "_law_end", "_law_inside"] ["_law_works", "_law_number", "_law_stretches", "_law_table"] (defScope s_l_no_more):=⟨rfl,rfl,rfl,by decide +kernel,rfl,by decide +kernel,by decide +kernel⟩
theorem sc_law:FnScope ["_law_script", "_law_works", "_law_number", "_law_handed", "_law_found", "_law_ends", "_law_stretches"] ["_law_script"] (defScope s_law):=⟨rfl,rfl,rfl,by decide +kernel,rfl,by decide +kernel,by decide +kernel⟩
set_option genInjectivity false in
set_option genSizeOf false in
structure Adr where
  f_shares:Addr
  d_shares:FuncData
  f_stretches_of:Addr
  d_stretches_of:FuncData
  f_shortest_way:Addr
  d_shortest_way:FuncData
  f_reached:Addr
  d_reached:FuncData
  f_neighbours:Addr
  d_neighbours:FuncData
  f_way_to:Addr
  d_way_to:FuncData
  f_move_hours:Addr
  d_move_hours:FuncData
  f_hours_left:Addr
  d_hours_left:FuncData
  f_work_room:Addr
  d_work_room:FuncData
  f_stretch_room:Addr
  d_stretch_room:FuncData
  f_l_whole:Addr
  d_l_whole:FuncData
  f_l_cell_at:Addr
  d_l_cell_at:FuncData
  f_l_mixed:Addr
  d_l_mixed:FuncData
  f_l_by_blocks:Addr
  d_l_by_blocks:FuncData
  f_l_by_draws:Addr
  d_l_by_draws:FuncData
  f_l_floor:Addr
  d_l_floor:FuncData
  f_l_fits:Addr
  d_l_fits:FuncData
  f_l_no_more:Addr
  d_l_no_more:FuncData
  f_law:Addr
  d_law:FuncData
structure Txt [Tabs] (K:PySem.W.Frag) (mg:Str→Option Value) (a:Adr):Prop where
  F_shares:Fun K "shares" "shares" s_shares a.f_shares a.d_shares
  b_shares:Binds K a.d_shares ["works", "benches"] []
  m_shares:mg "shares" = some (.ref a.f_shares)
  F_stretches_of:Fun K "stretches_of" "stretches_of" s_stretches_of a.f_stretches_of a.d_stretches_of
  b_stretches_of:Binds K a.d_stretches_of ["works"] []
  m_stretches_of:mg "stretches_of" = some (.ref a.f_stretches_of)
  F_shortest_way:Fun K "shortest_way" "shortest_way" s_shortest_way a.f_shortest_way a.d_shortest_way
  b_shortest_way:Binds K a.d_shortest_way ["works", "benches", "stretches", "table"] []
  m_shortest_way:mg "shortest_way" = some (.ref a.f_shortest_way)
  F_reached:Fun K "reached" "reached" s_reached a.f_reached a.d_reached
  b_reached:Binds K a.d_reached ["works", "stretches", "table"] []
  m_reached:mg "reached" = some (.ref a.f_reached)
  F_neighbours:Fun K "neighbours" "neighbours" s_neighbours a.f_neighbours a.d_neighbours
  b_neighbours:Binds K a.d_neighbours ["works", "stretches", "table", "place"] []
  m_neighbours:mg "neighbours" = some (.ref a.f_neighbours)
  F_way_to:Fun K "way_to" "way_to" s_way_to a.f_way_to a.d_way_to
  b_way_to:Binds K a.d_way_to ["sources", "place", "many"] []
  m_way_to:mg "way_to" = some (.ref a.f_way_to)
  F_move_hours:Fun K "move_hours" "move_hours" s_move_hours a.f_move_hours a.d_move_hours
  b_move_hours:Binds K a.d_move_hours ["works", "benches", "stretches", "table", "way"] []
  m_move_hours:mg "move_hours" = some (.ref a.f_move_hours)
  F_hours_left:Fun K "hours_left" "hours_left" s_hours_left a.f_hours_left a.d_hours_left
  b_hours_left:Binds K a.d_hours_left ["works", "table", "work"] []
  m_hours_left:mg "hours_left" = some (.ref a.f_hours_left)
  F_work_room:Fun K "work_room" "work_room" s_work_room a.f_work_room a.d_work_room
  b_work_room:Binds K a.d_work_room ["works", "stretches", "table", "work", "number"] []
  m_work_room:mg "work_room" = some (.ref a.f_work_room)
  F_stretch_room:Fun K "stretch_room" "stretch_room" s_stretch_room a.f_stretch_room a.d_stretch_room
  b_stretch_room:Binds K a.d_stretch_room ["benches", "stretches", "table", "number"] []
  m_stretch_room:mg "stretch_room" = some (.ref a.f_stretch_room)
  F_l_whole:Fun K "_law_whole" "_law_whole" s_l_whole a.f_l_whole a.d_l_whole
  b_l_whole:Binds K a.d_l_whole ["_law_found"] []
  m_l_whole:mg "_law_whole" = some (.ref a.f_l_whole)
  F_l_cell_at:Fun K "_law_cell_at" "_law_cell_at" s_l_cell_at a.f_l_cell_at a.d_l_cell_at
  b_l_cell_at:Binds K a.d_l_cell_at ["_law_script", "_law_k"] []
  m_l_cell_at:mg "_law_cell_at" = some (.ref a.f_l_cell_at)
  F_l_mixed:Fun K "_law_mixed" "_law_mixed" s_l_mixed a.f_l_mixed a.d_l_mixed
  b_l_mixed:Binds K a.d_l_mixed ["_law_cell", "_law_k"] []
  m_l_mixed:mg "_law_mixed" = some (.ref a.f_l_mixed)
  F_l_by_blocks:Fun K "_law_by_blocks" "_law_by_blocks" s_l_by_blocks a.f_l_by_blocks a.d_l_by_blocks
  b_l_by_blocks:Binds K a.d_l_by_blocks ["_law_script", "_law_many", "_law_number"] []
  m_l_by_blocks:mg "_law_by_blocks" = some (.ref a.f_l_by_blocks)
  F_l_by_draws:Fun K "_law_by_draws" "_law_by_draws" s_l_by_draws a.f_l_by_draws a.d_l_by_draws
  b_l_by_draws:Binds K a.d_l_by_draws ["_law_script", "_law_many"] []
  m_l_by_draws:mg "_law_by_draws" = some (.ref a.f_l_by_draws)
  F_l_floor:Fun K "_law_floor" "_law_floor" s_l_floor a.f_l_floor a.d_l_floor
  b_l_floor:Binds K a.d_l_floor ["_law_script"] []
  m_l_floor:mg "_law_floor" = some (.ref a.f_l_floor)
  F_l_fits:Fun K "_law_fits" "_law_fits" s_l_fits a.f_l_fits a.d_l_fits
  b_l_fits:Binds K a.d_l_fits ["_law_works", "_law_number", "_law_stretches", "_law_table"] []
  m_l_fits:mg "_law_fits" = some (.ref a.f_l_fits)
  F_l_no_more:Fun K "_law_no_more" "_law_no_more" s_l_no_more a.f_l_no_more a.d_l_no_more
  b_l_no_more:Binds K a.d_l_no_more ["_law_works", "_law_number", "_law_stretches", "_law_table"] []
  m_l_no_more:mg "_law_no_more" = some (.ref a.f_l_no_more)
  F_law:Fun K "law" "law" s_law a.f_law a.d_law
  b_law:Binds K a.d_law ["_law_script"] []
  m_law:mg "law" = some (.ref a.f_law)
  z_all:mg "all" = none
  z_bool:mg "bool" = none
  z_int:mg "int" = none
  z_isinstance:mg "isinstance" = none
  z_len:mg "len" = none
  z_list:mg "list" = none
  z_max:mg "max" = none
  z_min:mg "min" = none
  z_range:mg "range" = none
  z_reversed:mg "reversed" = none
  z_set:mg "set" = none
  z_sorted:mg "sorted" = none
  z_sum:mg "sum" = none
  z_tuple:mg "tuple" = none
  z_zip:mg "zip" = none
  c_COME:∃ t,mg "COME" = some (.int 0 t)
  c_DUE:∃ t,mg "DUE" = some (.int 1 t)
  c_HOURS:∃ t,mg "HOURS" = some (.int 2 t)
noncomputable section
theorem st_hours_left (x0 x1 x2:D):stD 3 [true,false,false] [x0,x1,x2]=[.pu x0,.bo x1,.bo x2]:=rfl
noncomputable def B_hours_left:DS:=(sRet (dSub (dIx (dIx (dVar 0) (dVar 2)) (dC (.int 2))) (dF1 sumD (dIx (dVar 1) (dVar 2)))))
@[irreducible] noncomputable def F_hours_left:List D→Option D:=runD 3 [true,false,false] B_hours_left
theorem F_hours_left_def:F_hours_left=runD 3 [true,false,false] B_hours_left:=by unfold F_hours_left; rfl
theorem st_stretch_room (x0 x1 x2 x3:D):stD 5 [true,true,false,false] [x0,x1,x2,x3]=[.pu x0,.pu x1,.bo x2,.bo x3,.un]:=rfl
noncomputable def B_stretch_room:DS:=(sSeq (sSet 4 (dSub (dIx (dIx (dVar 1) (dVar 3)) (dC (.int 1))) (dIx (dIx (dVar 1) (dVar 3)) (dC (.int 0)))))
 (sRet (dSub (dMul (dVar 4) (dVar 0)) (dF1 sumD (dLst (dComp 1 [3] (asL (dVar 2)) (gN false 0) dTrue (gScal (dIx (dVar 0) (dVar 1)))))))))
@[irreducible] noncomputable def F_stretch_room:List D→Option D:=runD 5 [true,true,false,false] B_stretch_room
theorem F_stretch_room_def:F_stretch_room=runD 5 [true,true,false,false] B_stretch_room:=by unfold F_stretch_room; rfl
theorem st_work_room (x0 x1 x2 x3 x4:D):stD 7 [true,true,false,false,false] [x0,x1,x2,x3,x4]=[.pu x0,.pu x1,.bo x2,.bo x3,.bo x4,.un,.un]:=rfl
noncomputable def B_work_room:DS:=(sSeq (sSet 5 (dIx (dIx (dVarI 1) (dVar 4)) (dC (.int 0))))
 (sSeq (sSet 6 (dIx (dIx (dVarI 1) (dVar 4)) (dC (.int 1))))
 (sSeq (sIf (dOr (dT (dLt (dVar 5) (dIx (dIx (dVar 0) (dVar 3)) (dC (.int 0))))) (dT (dGt (dVar 6) (dIx (dIx (dVar 0) (dVar 3)) (dC (.int 1))))))
 (sRet (dC (.int 0)))
      sPass)
 (sRet (dSub (dSub (dVar 6) (dVar 5)) (dIx (dIx (dVar 2) (dVar 3)) (dVar 4)))))))
@[irreducible] noncomputable def F_work_room:List D→Option D:=runD 7 [true,true,false,false,false] B_work_room
theorem F_work_room_def:F_work_room=runD 7 [true,true,false,false,false] B_work_room:=by unfold F_work_room; rfl
theorem st_move_hours (x0 x1 x2 x3 x4:D):stD 11 [true,true,true,false,true] [x0,x1,x2,x3,x4]=[.pu x0,.pu x1,.pu x2,.bo x3,.pu x4,.un,.un,.un,.un,.un,.un]:=rfl
noncomputable def B_move_hours:DS:=(sSeq (sSet 5 (dLst (dZip (dLst (dSlS (dVarI 4) (oSome (dC (.int 0))) oNone (oSome (dC (.int 2))))) (dLst (dSlS (dVarI 4) (oSome (dC (.int 1))) oNone (oSome (dC (.int 2))))))))
 (sSeq (sSet 6 (dLst (dZip (dLst (dSlS (dVarI 4) (oSome (dC (.int 2))) oNone (oSome (dC (.int 2))))) (dLst (dSlS (dVarI 4) (oSome (dC (.int 1))) oNone (oSome (dC (.int 2))))))))
 (sSeq (sSetO 7 (dCons (dCall F_hours_left (dCons (dVarI 0) (dCons (dVar 3) (dCons (dIx (dVar 4) (dC (.int 0))) dNil)))) (dCons (dCall F_stretch_room (dCons (dVarI 1) (dCons (dVarI 2) (dCons (dVar 3) (dCons (dIx (dVar 4) (dNeg (dC (.int 1)))) dNil))))) dNil)))
 (sSeq (sExt 7 (dLst (dComp 2 [0,2,3] (asL (dVarI 5)) (gUn 2 (gsCons (gN true 0) (gsCons (gN true 1) gsNil))) dTrue (dCall F_work_room (dCons (dVarI 2) (dCons (dVarI 3) (dCons (dVar 4) (dCons (dVar 0) (dCons (dVar 1) dNil)))))))))
 (sSeq (sExt 7 (dLst (dComp 2 [3] (asL (dVarI 6)) (gUn 2 (gsCons (gN true 0) (gsCons (gN true 1) gsNil))) dTrue (gScal (dIx (dIx (dVar 2) (dVar 0)) (dVar 1))))))
 (sSeq (sSet 8 (dF1 minD (dVar 7)))
 (sSeq (sFor (asL (dVarI 5)) (gUn 2 (gsCons (gN true 9) (gsCons (gN true 10) gsNil)))
 (sAug2P (fun x y=>x+y) 3 (dVar 9) (dVar 10) (dVar 8)))
 (sFor (asL (dVarI 6)) (gUn 2 (gsCons (gN true 9) (gsCons (gN true 10) gsNil)))
 (sAug2P (fun x y=>x-y) 3 (dVar 9) (dVar 10) (dVar 8))))))))))
@[irreducible] noncomputable def F_move_hours:Addr→List Addr→List D→Option (List (List D)):=runU 11 3 [true,true,true,false,true] B_move_hours
theorem F_move_hours_def:F_move_hours=runU 11 3 [true,true,true,false,true] B_move_hours:=by unfold F_move_hours; rfl
theorem st_neighbours (x0 x1 x2 x3:D):stD 5 [true,true,false,false] [x0,x1,x2,x3]=[.pu x0,.pu x1,.bo x2,.bo x3,.un]:=rfl
noncomputable def B_neighbours:DS:=(sSeq (sSet 4 (dF1 lenD (dVar 0)))
 (sSeq (sIf (dT (dGe (dVar 3) (dVar 4)))
 (sRet (dLst (dComp 1 [2,3,4] (dRg1 (dVar 4)) (gN true 0) (dT (dGt (dIx (dIx (dVar 1) (dVar 0)) (dSub (dVar 2) (dVar 3))) (dC (.int 0)))) (dVarI 0))))
      sPass)
 (sRet (dLst (dComp 1 [0,1,2,3,4] (dRg1 (dF1 lenD (dVar 1))) (gN true 0) (dT (dGt (dCall F_work_room (dCons (dVarI 1) (dCons (dVarI 2) (dCons (dVar 3) (dCons (dVar 4) (dCons (dVar 0) dNil)))))) (dC (.int 0)))) (dAdd (dVar 5) (dVar 0)))))))
@[irreducible] noncomputable def F_neighbours:List D→Option D:=runD 5 [true,true,false,false] B_neighbours
theorem F_neighbours_def:F_neighbours=runD 5 [true,true,false,false] B_neighbours:=by unfold F_neighbours; rfl
theorem st_reached (x0 x1 x2:D):stD 9 [true,true,false] [x0,x1,x2]=[.pu x0,.pu x1,.bo x2,.un,.un,.un,.un,.un,.un]:=rfl
noncomputable def B_reached:DS:=(sSeq (sSetO 3 (dComp 1 [0,2] (dRg1 (dF1 lenD (dVar 0))) (gN true 0) (dT (dGt (dCall F_hours_left (dCons (dVarI 1) (dCons (dVar 2) (dCons (dVar 0) dNil)))) (dC (.int 0)))) (dVarI 0)))
 (sSeq (sSetD 4)
 (sSeq (sDictOf 3 4 5)
 (sSeq (sSet 6 (dC (.int 0)))
 (sSeq (sWhile (dT (dLt (dVar 6) (dF1 lenD (dVar 3))))
 (sSeq (sSet 7 (dIxO 3 (dVar 6)))
 (sSeq (sAug (fun x y=>x+y) 6 (dC (.int 1)))
 (sFor (asL (dCall F_neighbours (dCons (dVarI 0) (dCons (dVarI 1) (dCons (dVar 2) (dCons (dVar 7) dNil)))))) (gN true 8)
 (sIf (dT (dInD true (dVar 8) (dVar 4)))
 (sSeq (sPutD 4 (dVar 8) (dVar 7))
 (sApp 3 (dVarI 8)))
      sPass)))))
 (sRetXD 4))))))
@[irreducible] noncomputable def F_reached:List D→Option D:=runF 9 [true,true,false] B_reached
theorem F_reached_def:F_reached=runF 9 [true,true,false] B_reached:=by unfold F_reached; rfl
theorem st_way_to (x0 x1 x2:D):stD 4 [true,true,true] [x0,x1,x2]=[.pu x0,.pu x1,.pu x2,.un]:=rfl
noncomputable def B_way_to:DS:=(sSeq (sSetO 3 (dCons (dVarI 1) dNil))
 (sSeq (sWhile (dT (dEq true (dGetD (dVar 0) (dIx (dVar 3) (dNeg (dC (.int 1))))) (dIx (dVar 3) (dNeg (dC (.int 1))))))
 (sApp 3 (dGetD (dVar 0) (dIx (dVar 3) (dNeg (dC (.int 1)))))))
 (sRet (dLst (dComp 1 [2] (dRev (dVar 3)) (gN false 0) dTrue (dIf (dT (dLt (dVar 0) (dVar 1))) (gScal (dVar 0)) (dSub (dVar 0) (dVar 1))))))))
@[irreducible] noncomputable def F_way_to:List D→Option D:=runD 4 [true,true,true] B_way_to
theorem F_way_to_def:F_way_to=runD 4 [true,true,true] B_way_to:=by unfold F_way_to; rfl
theorem st_shortest_way (x0 x1 x2 x3:D):stD 7 [true,true,true,false] [x0,x1,x2,x3]=[.pu x0,.pu x1,.pu x2,.bo x3,.un,.un,.un]:=rfl
noncomputable def B_shortest_way:DS:=(sSeq (sSetCD 4 F_reached (dCons (dVarI 0) (dCons (dVarI 2) (dCons (dVar 3) dNil))))
 (sSeq (sForD 4 (gN true 5)
 (sSeq (sSet 6 (dSub (dVar 5) (dF1 lenD (dVar 0))))
 (sIf (dAnd (dT (dGe (dVar 6) (dC (.int 0)))) (dT (dGt (dCall F_stretch_room (dCons (dVarI 1) (dCons (dVarI 2) (dCons (dVar 3) (dCons (dVar 6) dNil))))) (dC (.int 0)))))
 (sRet (dCall F_way_to (dCons (dVarI 4) (dCons (dVarI 5) (dCons (dF1 lenD (dVar 0)) dNil)))))
      sPass)))
 (sRet (dLst dNil))))
@[irreducible] noncomputable def F_shortest_way:List D→Option D:=runD 7 [true,true,true,false] B_shortest_way
theorem F_shortest_way_def:F_shortest_way=runD 7 [true,true,true,false] B_shortest_way:=by unfold F_shortest_way; rfl
theorem st_stretches_of (x0:D):stD 2 [true] [x0]=[.pu x0,.un]:=rfl
noncomputable def B_stretches_of:DS:=(sSeq (sSet 1 (dLst (dSrtS (dLst (dCat (dLst (dComp 1 [] (asL (dVarI 0)) (gN true 0) dTrue (dIx (dVarI 0) (dC (.int 0))))) (dLst (dComp 1 [] (asL (dVarI 0)) (gN true 0) dTrue (dIx (dVarI 0) (dC (.int 1))))))))))
 (sRet (dLst (dComp 2 [] (dZip (dVarI 1) (dLst (dSl (dVarI 1) (oSome (dC (.int 1))) oNone))) (gUn 2 (gsCons (gN true 0) (gsCons (gN true 1) gsNil))) dTrue (dLst (dCons (dVarI 0) (dCons (dVarI 1) dNil)))))))
@[irreducible] noncomputable def F_stretches_of:List D→Option D:=runD 2 [true] B_stretches_of
theorem F_stretches_of_def:F_stretches_of=runD 2 [true] B_stretches_of:=by unfold F_stretches_of; rfl
theorem st_shares (x0 x1:D):stD 5 [true,true] [x0,x1]=[.pu x0,.pu x1,.un,.un,.un]:=rfl
noncomputable def B_shares:DS:=(sSeq (sSet 2 (dCall F_stretches_of (dCons (dVarI 0) dNil)))
 (sSeq (sSetM 3 (dCompM 1 [2] (asL (dVarI 0)) (gN true 0) dTrue (dRep (dCons (dC (.int 0)) dNil) (dF1 lenD (dVar 1)))))
 (sSeq (sSet 4 (dCall F_shortest_way (dCons (dVarI 0) (dCons (dVarI 1) (dCons (dVarI 2) (dCons (dVar 3) dNil))))))
 (sSeq (sWhile (dTru (dVar 4))
 (sSeq (sCallU 3 F_move_hours (dCons (dVarI 0) (dCons (dVarI 1) (dCons (dVarI 2) (dCons (dVar 3) (dCons (dVarI 4) dNil))))))
 (sSet 4 (dCall F_shortest_way (dCons (dVarI 0) (dCons (dVarI 1) (dCons (dVarI 2) (dCons (dVar 3) dNil))))))))
    (sFrz 3 (sRet (dTup (dCons (dVarI 2) (dCons (dVarI 3) dNil)))))))))
@[irreducible] noncomputable def F_shares:List D→Option D:=runD 5 [true,true] B_shares
theorem F_shares_def:F_shares=runD 5 [true,true] B_shares:=by unfold F_shares; rfl
theorem st_l_whole (x0:D):stD 1 [false] [x0]=[.bo x0]:=rfl
noncomputable def B_l_whole:DS:=(sRet (dAndV (dIsi "int" (dVar 0)) (dNotV (dIsi "bool" (dVar 0)))))
@[irreducible] noncomputable def F_l_whole:List D→Option D:=runD 1 [false] B_l_whole
theorem F_l_whole_def:F_l_whole=runD 1 [false] B_l_whole:=by unfold F_l_whole; rfl
theorem st_l_cell_at (x0 x1:D):stD 2 [false,false] [x0,x1]=[.bo x0,.bo x1]:=rfl
noncomputable def B_l_cell_at:DS:=(sSeq (sIf (dT (dLt (dVar 1) (dF1 lenD (dVar 0))))
 (sRet (gScal (dIx (dVar 0) (dVar 1))))
      sPass)
 (sRet (dC (.int 0))))
@[irreducible] noncomputable def F_l_cell_at:List D→Option D:=runD 2 [false,false] B_l_cell_at
theorem F_l_cell_at_def:F_l_cell_at=runD 2 [false,false] B_l_cell_at:=by unfold F_l_cell_at; rfl
theorem st_l_mixed (x0 x1:D):stD 3 [false,false] [x0,x1]=[.bo x0,.bo x1,.un]:=rfl
noncomputable def B_l_mixed:DS:=(sSeq (sSet 2 (dMod (dAdd (dAdd (dMul (dVar 0) (dC (.int 48271))) (dMul (dMul (dVar 1) (dVar 1)) (dC (.int 69621)))) (dC (.int 3))) (dC (.int 2147483647))))
 (sRet (dMod (dMul (dVar 2) (dVar 2)) (dC (.int 2147483629)))))
@[irreducible] noncomputable def F_l_mixed:List D→Option D:=runD 3 [false,false] B_l_mixed
theorem F_l_mixed_def:F_l_mixed=runD 3 [false,false] B_l_mixed:=by unfold F_l_mixed; rfl
theorem st_l_by_blocks (x0 x1 x2:D):stD 15 [false,false,false] [x0,x1,x2]=[.bo x0,.bo x1,.bo x2,.un,.un,.un,.un,.un,.un,.un,.un,.un,.un,.un,.un]:=rfl
noncomputable def B_l_by_blocks:DS:=(sSeq (sSetO 3 (dComp 1 [] (dRg1 (dVar 1)) (gN true 0) dTrue (dLst dNil)))
 (sSeq (sSetO 4 (dRep (dCons (dC (.int 0)) dNil) (dVar 1)))
 (sSeq (sSetO 5 (dRep (dCons (dC (.int 0)) dNil) (dVar 2)))
 (sSeq (sFor (dRg2 (dC (.int 4)) (dMin2 (dC (.int 63)) (dF1 lenD (dVar 0)))) (gN true 6)
 (sSeq (sSet 7 (dMod (dCall F_l_mixed (dCons (dIx (dVar 0) (dVar 6)) (dCons (dVar 6) dNil))) (dVar 1)))
 (sSeq (sSet 8 (dMod (dCall F_l_mixed (dCons (dIx (dVar 0) (dVar 6)) (dCons (dAdd (dVar 6) (dC (.int 64))) dNil))) (dVar 2)))
 (sSeq (sSet 9 (dAdd (dMax2 (dIx (dVar 4) (dVar 7)) (dIx (dVar 5) (dVar 8))) (dMax2 (dC (.int 0)) (dSub (dMod (dCall F_l_mixed (dCons (dIx (dVar 0) (dVar 6)) (dCons (dAdd (dVar 6) (dC (.int 128))) dNil))) (dC (.int 6))) (dC (.int 3))))))
 (sSeq (sSet 10 (dAdd (dAdd (dVar 9) (dC (.int 1))) (dMod (dCall F_l_mixed (dCons (dIx (dVar 0) (dVar 6)) (dCons (dAdd (dVar 6) (dC (.int 192))) dNil))) (dC (.int 3)))))
 (sSeq (sPut 4 (dVar 7) (dVarI 10))
 (sSeq (sPut 5 (dVar 8) (dVarI 10))
 (sPut 3 (dVar 7) (dLst (dCat (dIxO 3 (dVar 7)) (dLst (dCons (dVarI 9) (dCons (dVarI 10) dNil)))))))))))))
 (sSeq (sSetM 11 dMNil)
 (sSeq (sFor (dRg1 (dVar 1)) (gN true 6)
 (sSeq (sSet 12 (dLst (dCat (dIxO 3 (dVar 6)) (dLst (dRep (dCons (dMod (dVar 6) (dC (.int 3))) dNil) (dF1 intD (dEq false (dIx (dVar 3) (dVar 6)) (dLst dNil))))))))
 (sSeq (sSet 13 (dSub (dF1 sumD (dLst (dSlS (dIxO 3 (dVar 6)) (oSome (dC (.int 1))) oNone (oSome (dC (.int 2)))))) (dF1 sumD (dLst (dSlS (dIxO 3 (dVar 6)) oNone oNone (oSome (dC (.int 2))))))))
 (sSeq (sSet 14 (dMod (dCall F_l_mixed (dCons (dCall F_l_cell_at (dCons (dVar 0) (dCons (dC (.int 3)) dNil))) (dCons (dVar 6) dNil))) (dC (.int 4))))
 (sAppM 11 (dCons (dMax2 (dC (.int 0)) (dSub (dF1 minD (dVar 12)) (dFdiv (dVar 14) (dC (.int 2))))) (dCons (dAdd (dF1 maxD (dVar 12)) (dMod (dVar 14) (dC (.int 2)))) (dCons (dVarI 13) dNil))))))))
 (sRetXM 11)))))))
@[irreducible] noncomputable def F_l_by_blocks:List D→Option D:=runF 15 [false,false,false] B_l_by_blocks
theorem F_l_by_blocks_def:F_l_by_blocks=runF 15 [false,false,false] B_l_by_blocks:=by unfold F_l_by_blocks; rfl
theorem st_l_by_draws (x0 x1:D):stD 7 [false,false] [x0,x1]=[.bo x0,.bo x1,.un,.un,.un,.un,.un]:=rfl
noncomputable def B_l_by_draws:DS:=(sSeq (sSetM 2 dMNil)
 (sSeq (sSetO 3 (dComp 1 [0] (dRg1 (dC (.int 24))) (gN true 0) dTrue (dCall F_l_mixed (dCons (dCall F_l_cell_at (dCons (dVar 1) (dCons (dC (.int 3)) dNil))) (dCons (dAdd (dC (.int 40)) (dVar 0)) dNil)))))
 (sSeq (sFor (dRg2 (dC (.int 4)) (dMin2 (dC (.int 63)) (dF1 lenD (dVar 0)))) (gN true 4)
 (sPut 3 (dMod (dVar 4) (dC (.int 24))) (dCall F_l_mixed (dCons (dAdd (dIx (dVar 3) (dMod (dVar 4) (dC (.int 24)))) (dIx (dVar 0) (dVar 4))) (dCons (dVar 4) dNil)))))
 (sSeq (sFor (dRg1 (dVar 1)) (gN true 4)
 (sSeq (sSet 5 (dMod (dIx (dVar 3) (dMul (dC (.int 3)) (dVar 4))) (dC (.int 8))))
 (sSeq (sSet 6 (dMod (dIx (dVar 3) (dAdd (dMul (dC (.int 3)) (dVar 4)) (dC (.int 1)))) (dC (.int 7))))
 (sAppM 2 (dCons (dVarI 5) (dCons (dAdd (dVar 5) (dVar 6)) (dCons (dMod (dIx (dVar 3) (dAdd (dMul (dC (.int 3)) (dVar 4)) (dC (.int 2)))) (dAdd (dAdd (dVar 6) (dC (.int 1))) (dF1 intD (dEq false (dMod (dFdiv (dIx (dVar 3) (dAdd (dMul (dC (.int 3)) (dVar 4)) (dC (.int 2)))) (dC (.int 64))) (dC (.int 9))) (dC (.int 0)))))) dNil)))))))
 (sRetXM 2)))))
@[irreducible] noncomputable def F_l_by_draws:List D→Option D:=runF 7 [false,false] B_l_by_draws
theorem F_l_by_draws_def:F_l_by_draws=runF 7 [false,false] B_l_by_draws:=by unfold F_l_by_draws; rfl
theorem st_l_floor (x0:D):stD 9 [false] [x0]=[.bo x0,.un,.un,.un,.un,.un,.un,.un,.un]:=rfl
noncomputable def B_l_floor:DS:=(sSeq (sSet 1 (dCall F_l_cell_at (dCons (dVar 0) (dCons (dC (.int 0)) dNil))))
 (sSeq (sSet 2 (dIx (dLst (dCons (dMod (dFdiv (dVar 1) (dC (.int 3))) (dC (.int 9))) (dCons (dC (.int 8)) (dCons (dMod (dFdiv (dVar 1) (dC (.int 3))) (dC (.int 9))) dNil)))) (dMod (dVar 1) (dC (.int 3)))))
 (sSeq (sSet 3 (dCall F_l_mixed (dCons (dCall F_l_cell_at (dCons (dVar 0) (dCons (dC (.int 1)) dNil))) (dCons (dC (.int 33)) dNil))))
 (sSeq (sSet 4 (dIx (dLst (dCons (dAdd (dC (.int 1)) (dMod (dVar 3) (dC (.int 3)))) (dCons (dAdd (dC (.int 1)) (dMod (dVar 3) (dC (.int 8)))) (dCons (dC (.int 8)) dNil)))) (dAdd (dF1 intD (dLt (dMod (dFdiv (dVar 3) (dC (.int 24))) (dC (.int 6))) (dC (.int 2)))) (dF1 intD (dEq false (dMod (dFdiv (dVar 3) (dC (.int 24))) (dC (.int 6))) (dC (.int 0)))))))
 (sSeq (sIf (dOr (dT (dEq false (dMod (dCall F_l_cell_at (dCons (dVar 0) (dCons (dC (.int 1)) dNil))) (dC (.int 3))) (dC (.int 0)))) (dT (dEq false (dVar 2) (dC (.int 0)))))
 (sSetM 5 (dCallM F_l_by_draws (dCons (dVar 0) (dCons (dVar 2) dNil))))
 (sSetM 5 (dCallM F_l_by_blocks (dCons (dVar 0) (dCons (dVar 2) (dCons (dVar 4) dNil))))))
 (sSeq (sSet 6 (dFdiv (dCall F_l_cell_at (dCons (dVar 0) (dCons (dC (.int 1)) dNil))) (dC (.int 3))))
 (sSeq (sSet 7 (dIx (dLst (dCons (dC (.int 1)) (dCons (dC (.int 7)) (dCons (dAdd (dPow (dC (.int 10)) (dC (.int 40))) (dC (.int 9))) dNil)))) (dMod (dVar 6) (dC (.int 3)))))
 (sSeq (sSetM 5 (dCompM 1 [7] (asL (dVar 5)) (gN false 0) dTrue (dCons (dMul (dVar 1) (dIx (dVar 0) (dC (.int 0)))) (dCons (dMul (dVar 1) (dIx (dVar 0) (dC (.int 1)))) (dCons (dMul (dVar 1) (dIx (dVar 0) (dC (.int 2)))) dNil)))))
 (sSeq (sIf (dAnd (dT (dGt (dVar 2) (dC (.int 0)))) (dT (dEq false (dMod (dFdiv (dVar 6) (dC (.int 3))) (dC (.int 3))) (dC (.int 1)))))
 (sPut2 5 (dMod (dFdiv (dVar 6) (dC (.int 9))) (dVar 2)) (dC (.int 2)) (dAdd (dIx (dIx (dVar 5) (dMod (dFdiv (dVar 6) (dC (.int 9))) (dVar 2))) (dC (.int 2))) (dC (.int 1))))
      sPass)
 (sSeq (sSet 8 (dMul (dMod (dCall F_l_cell_at (dCons (dVar 0) (dCons (dC (.int 2)) dNil))) (dPow (dC (.int 10)) (dC (.int 49)))) (dF1 intD (dEq false (dMod (dFdiv (dVar 6) (dC (.int 9))) (dC (.int 4))) (dC (.int 1))))))
 (sRet (dTup (dCons (dLst (dComp 1 [8] (asL (dVar 5)) (gN false 0) dTrue (dLst (dCons (dAdd (dIx (dVar 0) (dC (.int 0))) (dVar 1)) (dCons (dAdd (dIx (dVar 0) (dC (.int 1))) (dVar 1)) (dCons (gScal (dIx (dVar 0) (dC (.int 2)))) dNil)))))) (dCons (dVarI 4) dNil))))))))))))))
@[irreducible] noncomputable def F_l_floor:List D→Option D:=runD 9 [false] B_l_floor
theorem F_l_floor_def:F_l_floor=runD 9 [false] B_l_floor:=by unfold F_l_floor; rfl
theorem st_l_fits (x0 x1 x2 x3:D):stD 9 [true,false,true,true] [x0,x1,x2,x3]=[.pu x0,.bo x1,.pu x2,.pu x3,.un,.un,.un,.un,.un]:=rfl
noncomputable def B_l_fits:DS:=(sSeq (sIf (dOr (dNot (dTru (dIsi "list" (dVar 3)))) (dT (dEq true (dF1 lenD (dVar 3)) (dF1 lenD (dVar 0)))))
 (sRet (dC (.bl false)))
      sPass)
 (sSeq (sFor (dRg1 (dF1 lenD (dVar 0))) (gN true 4)
 (sSeq (sIf (dOr (dNot (dTru (dIsi "list" (dIx (dVar 3) (dVar 4))))) (dT (dEq true (dF1 lenD (dIx (dVar 3) (dVar 4))) (dF1 lenD (dVar 2)))))
 (sRet (dC (.bl false)))
      sPass)
 (sSeq (sIf (dOr (dNot (dTru (dF1 allD (dLst (dComp 1 [] (asL (dIx (dVarI 3) (dVar 4))) (gN true 0) dTrue (dAndV (dCall F_l_whole (dCons (dVar 0) dNil)) (dGe (dVar 0) (dC (.int 0))))))))) (dT (dGt (dF1 sumD (dIx (dVar 3) (dVar 4))) (dIx (dIx (dVar 0) (dVar 4)) (dC (.int 2))))))
 (sRet (dC (.bl false)))
      sPass)
 (sFor (dRg1 (dF1 lenD (dVar 2))) (gN true 5)
 (sSeq (sUn (dIx (dVarI 2) (dVar 5)) (gUn 2 (gsCons (gN true 6) (gsCons (gN true 7) gsNil))))
 (sSeq (sSet 8 (dAndV (dLe (dIx (dIx (dVar 0) (dVar 4)) (dC (.int 0))) (dVar 6)) (dLe (dVar 7) (dIx (dIx (dVar 0) (dVar 4)) (dC (.int 1))))))
 (sIf (dT (dGt (dIx (dIx (dVar 3) (dVar 4)) (dVar 5)) (dMul (dSub (dVar 7) (dVar 6)) (dF1 intD (dVar 8)))))
 (sRet (dC (.bl false)))
      sPass)))))))
 (sSeq (sFor (dRg1 (dF1 lenD (dVar 2))) (gN true 5)
 (sIf (dT (dGt (dF1 sumD (dLst (dComp 1 [5] (asL (dVarI 3)) (gN true 0) dTrue (dIx (dVarI 0) (dVar 1))))) (dMul (dVar 1) (dSub (dIx (dIx (dVar 2) (dVar 5)) (dC (.int 1))) (dIx (dIx (dVar 2) (dVar 5)) (dC (.int 0)))))))
 (sRet (dC (.bl false)))
      sPass))
 (sRet (dC (.bl true))))))
@[irreducible] noncomputable def F_l_fits:List D→Option D:=runD 9 [true,false,true,true] B_l_fits
theorem F_l_fits_def:F_l_fits=runD 9 [true,false,true,true] B_l_fits:=by unfold F_l_fits; rfl
theorem st_l_no_more (x0 x1 x2 x3:D):stD 12 [true,false,true,true] [x0,x1,x2,x3]=[.pu x0,.bo x1,.pu x2,.pu x3,.un,.un,.un,.un,.un,.un,.un,.un]:=rfl
noncomputable def B_l_no_more:DS:=(sSeq (sSet 4 (dLst (dComp 1 [3,0] (dRg1 (dF1 lenD (dVar 0))) (gN true 0) (dT (dLt (dF1 sumD (dIx (dVar 1) (dVar 0))) (dIx (dIx (dVar 2) (dVar 0)) (dC (.int 2))))) (dVarI 0))))
 (sSeq (sSetO 5 dNil)
 (sSeq (sSet 6 (dC (.int 0)))
 (sSeq (sWhile (dT (dLt (dVar 6) (dF1 lenD (dVar 4))))
 (sSeq (sSet 7 (dIx (dVarI 0) (dIx (dVar 4) (dVar 6))))
 (sSeq (sFor (dRg1 (dF1 lenD (dVar 2))) (gN true 8)
 (sSeq (sUn (dIx (dVarI 2) (dVar 8)) (gUn 2 (gsCons (gN true 9) (gsCons (gN true 10) gsNil))))
 (sSeq (sSet 11 (dAndV (dLe (dIx (dVar 7) (dC (.int 0))) (dVar 9)) (dLe (dVar 10) (dIx (dVar 7) (dC (.int 1))))))
 (sIf (dAnd (dTru (dVar 11)) (dAnd (dT (dIn true (dVar 8) (dVar 5))) (dT (dLt (dIx (dIx (dVar 3) (dIx (dVar 4) (dVar 6))) (dVar 8)) (dSub (dVar 10) (dVar 9))))))
 (sSeq (sApp 5 (dVarI 8))
 (sSeq (sIf (dT (dLt (dF1 sumD (dLst (dComp 1 [8] (asL (dVarI 3)) (gN true 0) dTrue (dIx (dVarI 0) (dVar 1))))) (dMul (dVar 1) (dSub (dVar 10) (dVar 9)))))
 (sRet (dC (.bl false)))
      sPass)
 (sSet 4 (dLst (dCat (dVarI 4) (dLst (dComp 1 [3,8,4] (dRg1 (dF1 lenD (dVar 0))) (gN true 0) (dAnd (dT (dGt (dIx (dIx (dVar 1) (dVar 0)) (dVar 2)) (dC (.int 0)))) (dT (dIn true (dVar 0) (dVar 3)))) (dVarI 0))))))))
      sPass))))
 (sSet 6 (dAdd (dVar 6) (dC (.int 1)))))))
 (sRet (dC (.bl true)))))))
@[irreducible] noncomputable def F_l_no_more:List D→Option D:=runD 12 [true,false,true,true] B_l_no_more
theorem F_l_no_more_def:F_l_no_more=runD 12 [true,false,true,true] B_l_no_more:=by unfold F_l_no_more; rfl
theorem st_law (x0:D):stD 7 [false] [x0]=[.bo x0,.un,.un,.un,.un,.un,.un]:=rfl
noncomputable def B_law:DS:=(sSeq (sUn (dCall F_l_floor (dCons (dVar 0) dNil)) (gUn 2 (gsCons (gN true 1) (gsCons (gN true 2) gsNil))))
 (sSeq (sSet 3 (dLst (dComp 1 [] (asL (dVarI 1)) (gN true 0) dTrue (dLst (dLof (dVarI 0))))))
 (sSeq (sSet 4 (dCall F_shares (dCons (dVarI 3) (dCons (dVarI 2) dNil))))
 (sSeq (sSet 5 (dLst (dSrtS (dLst (dCat (dLst (dComp 1 [] (asL (dVarI 1)) (gN true 0) dTrue (dIx (dVarI 0) (dC (.int 0))))) (dLst (dComp 1 [] (asL (dVarI 1)) (gN true 0) dTrue (dIx (dVarI 0) (dC (.int 1))))))))))
 (sSeq (sSet 6 (dLst (dComp 1 [5] (dRg1 (dSub (dF1 lenD (dVar 5)) (dC (.int 1)))) (gN true 0) dTrue (dLst (dCons (dIx (dVarI 1) (dVar 0)) (dCons (dIx (dVarI 1) (dAdd (dVar 0) (dC (.int 1)))) dNil))))))
 (sSeq (sIf (dOr (dT (dEq true (dVar 3) (dVar 1))) (dOr (dNot (dTru (dIsi "tuple" (dVar 4)))) (dOr (dT (dEq true (dF1 lenD (dVar 4)) (dC (.int 2)))) (dT (dEq true (dIx (dVar 4) (dC (.int 0))) (dVar 6))))))
 (sRet (dC (.bl false)))
      sPass)
 (sSeq (sIf (dOr (dNot (dTru (dIsi "list" (dIx (dVar 4) (dC (.int 0)))))) (dNot (dTru (dF1 allD (dLst (dComp 1 [] (asL (dIx (dVarI 4) (dC (.int 0)))) (gN true 0) dTrue (dIsi "list" (dVar 0))))))))
 (sRet (dC (.bl false)))
      sPass)
 (sSeq (sIf (dNot (dTru (dCall F_l_fits (dCons (dVarI 1) (dCons (dVar 2) (dCons (dVarI 6) (dCons (dIx (dVarI 4) (dC (.int 1))) dNil)))))))
 (sRet (dC (.bl false)))
      sPass)
 (sRet (dCall F_l_no_more (dCons (dVarI 1) (dCons (dVar 2) (dCons (dVarI 6) (dCons (dIx (dVarI 4) (dC (.int 1))) dNil))))))))))))))
@[irreducible] noncomputable def F_law:List D→Option D:=runD 7 [false] B_law
theorem F_law_def:F_law=runD 7 [false] B_law:=by unfold F_law; rfl
end
section
variable [Tabs] {P:Program} {w:World} {K:PySem.W.Frag} {mg:Str→Option Value} {base:Heap} {ad:Adr}
theorem ok_hours_left (T:Txt K mg ad):FnOk P w K mg base CX0 1 ad.f_hours_left ad.d_hours_left ["works", "table", "work"] (spD .v K [true,false,false] F_hours_left):=by
  rw [F_hours_left_def]
  exact Fun.okD (N:=["works", "table", "work"]) T.F_hours_left sc_hours_left [true,false,false] rfl B_hours_left fun cdv A outer s H E hr=>⟨_,
 (pss_one (ps_ret (pe_op op_sub (pe_ix (ix_seqK (K:=K) rfl) (pe_ix (ix_seqK (K:=K) rfl) (pv 0) (pv 2) (fun _ _=>rfl)) (pe_globI rfl T.c_HOURS) (fun _ _=>rfl)) (pe_callB (call_sumK (K:=K) rfl rfl) rfl T.z_sum bt_sum (pa_cons (pe_ix (ix_seqK (K:=K) rfl) (pv 1) (pv 2) (fun _ _=>rfl)) pa_nil))))),
 (ss_ret (si_sub (sb_ix (sb_ix (sb_var 0) (sb_var 2)) (SemI.b si_int)) (SemI.b (si_sum (sb_ix (sb_var 1) (sb_var 2))))))⟩
theorem ok_stretch_room (T:Txt K mg ad):FnOk P w K mg base CX0 1 ad.f_stretch_room ad.d_stretch_room ["benches", "stretches", "table", "number"] (spD .v K [true,true,false,false] F_stretch_room):=by
  rw [F_stretch_room_def]
  exact Fun.okD (N:=["benches", "stretches", "table", "number", "length"]) T.F_stretch_room sc_stretch_room [true,true,false,false] rfl B_stretch_room fun cdv A outer s H E hr=>⟨_,
 (pss_cons (ps_set (i:=4) sc_stretch_room.nd rfl (Or.inl rfl) (pe_op op_sub (pe_ix (ix_seqK (K:=K) rfl) (pe_ix (ix_seqK (K:=K) rfl) (pv 1) (pv 3) (fun _ _=>rfl)) pe_int (fun _ _=>rfl)) (pe_ix (ix_seqK (K:=K) rfl) (pe_ix (ix_seqK (K:=K) rfl) (pv 1) (pv 3) (fun _ _=>rfl)) pe_int (fun _ _=>rfl))))
 (pss_one (ps_ret (pe_op op_sub (pe_op op_mulB (pv 4) (pv 0)) (pe_callB (call_sumK (K:=K) rfl rfl) rfl T.z_sum bt_sum (pa_cons (pe_cN0 rfl (pi_listK (K:=K) rfl (pv 2)) (ts:=["row"]) (zs:=["number"]) (k:=1) (is:=[3]) rfl (.cons rfl .nil) (.cons rfl (Or.inl rfl) rfl (by first | exact Or.inl rfl | exact Or.inr rfl) .nil) rfl (low_name (by decide)) (fun _ _ _ _ _=>(pgb (by decide +kernel) rfl rfl)) (fun _ _ _ _ _=>(pe_ix (ix_seqK (K:=K) rfl) (pv 0) (pv 1) (fun _ _=>rfl))) rfl (by decide +kernel) rfl (by decide +kernel)) pa_nil)))))),
 (ss_seq (ss_set (si_sub (sb_ix (sb_ix (sb_var 1) (sb_var 3)) (SemI.b si_int)) (sb_ix (sb_ix (sb_var 1) (sb_var 3)) (SemI.b si_int))))
 (ss_ret (si_sub (SemI.b (si_mul (sb_var 4) (sb_var 0))) (SemI.b (si_sum (SemI.b (SemF.l (sf_comp (m:=false) (k:=1) (cs:=[3]) (swc_listB (sb_var 2)) (sg_name 0) st_true (SemB.i (sb_ix (sb_var 0) (sb_var 1)))))))))))⟩
theorem ok_work_room (T:Txt K mg ad):FnOk P w K mg base CX0 1 ad.f_work_room ad.d_work_room ["works", "stretches", "table", "work", "number"] (spD .v K [true,true,false,false,false] F_work_room):=by
  rw [F_work_room_def]
  exact Fun.okD (N:=["works", "stretches", "table", "work", "number", "begin", "end"]) T.F_work_room sc_work_room [true,true,false,false,false] rfl B_work_room fun cdv A outer s H E hr=>⟨_,
 (pss_cons (ps_set (i:=5) sc_work_room.nd rfl (Or.inl rfl) (pe_ix (ix_seqK (K:=K) rfl) (pe_ix (ix_seqK (K:=K) rfl) (pv 1) (pv 4) (fun _ _=>rfl)) pe_int (fun _ _=>rfl)))
 (pss_cons (ps_set (i:=6) sc_work_room.nd rfl (Or.inl rfl) (pe_ix (ix_seqK (K:=K) rfl) (pe_ix (ix_seqK (K:=K) rfl) (pv 1) (pv 4) (fun _ _=>rfl)) pe_int (fun _ _=>rfl)))
 (pss_cons (ps_if (PW.pt (pw_or (pt_cmpR op_lt (pv 5) (pe_ix (ix_seqK (K:=K) rfl) (pe_ix (ix_seqK (K:=K) rfl) (pv 0) (pv 3) (fun _ _=>rfl)) (pe_globI rfl T.c_COME) (fun _ _=>rfl)) (nomark _)) (pw_or1 (pt_cmpR op_gt (pv 6) (pe_ix (ix_seqK (K:=K) rfl) (pe_ix (ix_seqK (K:=K) rfl) (pv 0) (pv 3) (fun _ _=>rfl)) (pe_globI rfl T.c_DUE) (fun _ _=>rfl)) (nomark _)))))
 (pss_one (ps_ret pe_int))
 pss_nil)
 (pss_one (ps_ret (pe_op op_sub (pe_op op_sub (pv 6) (pv 5)) (pe_ix (ix_seqK (K:=K) rfl) (pe_ix (ix_seqK (K:=K) rfl) (pv 2) (pv 3) (fun _ _=>rfl)) (pv 4) (fun _ _=>rfl)))))))),
 (ss_seq (ss_set (si_ix (si_ix (si_var 1) (sb_var 4)) (SemI.b si_int)))
 (ss_seq (ss_set (si_ix (si_ix (si_var 1) (sb_var 4)) (SemI.b si_int)))
 (ss_seq (ss_if (st_or (st_test (SemI.b (si_lt (sb_var 5) (sb_ix (sb_ix (sb_var 0) (sb_var 3)) (SemI.b si_int))))) (st_test (SemI.b (si_gt (sb_var 6) (sb_ix (sb_ix (sb_var 0) (sb_var 3)) (SemI.b si_int))))))
 (ss_ret si_int)
 ss_pass)
 (ss_ret (si_sub (SemI.b (si_sub (sb_var 6) (sb_var 5))) (sb_ix (sb_ix (sb_var 2) (sb_var 3)) (sb_var 4)))))))⟩
theorem ok_move_hours (T:Txt K mg ad):FnOk P w K mg base CX0 2 ad.f_move_hours ad.d_move_hours ["works", "benches", "stretches", "table", "way"] (spU K 3 [true,true,true,false,true] F_move_hours):=by
  rw [F_move_hours_def]
  exact Fun.okU (N:=["works", "benches", "stretches", "table", "way", "gains", "losses", "amounts", "amount", "work", "number"]) T.F_move_hours sc_move_hours 3 [true,true,true,false,true] rfl (ms_all rfl) (by decide) B_move_hours fun cdv A outer s H E hr=>⟨_,
 (pss_cons (ps_set (i:=5) sc_move_hours.nd rfl (Or.inl rfl) (pe_lzip (K:=K) rfl rfl rfl T.z_list rfl T.z_zip (pa_cons (pe_sliceS (K:=K) rfl (pv 4) (po_some pe_int) po_none (po_some pe_int)) (pa_cons (pe_sliceS (K:=K) rfl (pv 4) (po_some pe_int) po_none (po_some pe_int)) pa_nil))))
 (pss_cons (ps_set (i:=6) sc_move_hours.nd rfl (Or.inl rfl) (pe_lzip (K:=K) rfl rfl rfl T.z_list rfl T.z_zip (pa_cons (pe_sliceS (K:=K) rfl (pv 4) (po_some pe_int) po_none (po_some pe_int)) (pa_cons (pe_sliceS (K:=K) rfl (pv 4) (po_some pe_int) po_none (po_some pe_int)) pa_nil))))
 (pss_cons (ps_set (i:=7) sc_move_hours.nd rfl (Or.inl rfl) (pe_lst (pa_cons (pe_call (ok_hours_left T) (hr.mono (by decide)) rfl T.m_hours_left T.F_hours_left.kp T.b_hours_left .nil pass0 (pa_cons (pv 0) (pa_cons (pv 3) (pa_cons (pe_ix (ix_seqK (K:=K) rfl) (pv 4) pe_int (fun _ _=>rfl)) pa_nil)))) (pa_cons (pe_call (ok_stretch_room T) (hr.mono (by decide)) rfl T.m_stretch_room T.F_stretch_room.kp T.b_stretch_room .nil pass0 (pa_cons (pv 1) (pa_cons (pv 2) (pa_cons (pv 3) (pa_cons (pe_ix (ix_seqK (K:=K) rfl) (pv 4) (pe_un un_neg pe_int) (fun _ _=>rfl)) pa_nil))))) pa_nil))))
 (pss_cons (ps_expr (pe_bm PySem.F.plainAttrs_list PySem.F.slot_list_extend PySem.F.type_list_extend mt_extR (pv 7) (pa_cons (pe_cN0 rfl (pi_listK (K:=K) rfl (pv 5)) (ts:=["work", "number"]) (zs:=["works", "stretches", "table"]) (k:=2) (is:=[0,2,3]) rfl (.cons rfl (.cons rfl (.cons rfl .nil))) (.cons rfl (Or.inl rfl) rfl (by first | exact Or.inl rfl | exact Or.inr rfl) (.cons rfl (Or.inl rfl) rfl (by first | exact Or.inl rfl | exact Or.inr rfl) (.cons rfl (Or.inl rfl) rfl (by first | exact Or.inl rfl | exact Or.inr rfl) .nil))) rfl (low_seq (lows_cons (low_name (by decide)) (lows_cons (low_name (by decide)) lows_nil))) (fun _ _ _ _ _=>(pg_seqK (K:=K) rfl rfl (pgs_cons (pgb (by decide +kernel) rfl rfl) (pgs_cons (pgb (by decide +kernel) rfl rfl) pgs_nil)))) (fun _ _ _ _ _=>(pe_call (ok_work_room T) (hr.mono (by decide)) rfl T.m_work_room T.F_work_room.kp T.b_work_room .nil pass0 (pa_cons (pv 2) (pa_cons (pv 3) (pa_cons (pv 4) (pa_cons (pv 0) (pa_cons (pv 1) pa_nil))))))) rfl (by decide +kernel) rfl (by decide +kernel)) pa_nil)))
 (pss_cons (ps_expr (pe_bm PySem.F.plainAttrs_list PySem.F.slot_list_extend PySem.F.type_list_extend mt_extR (pv 7) (pa_cons (pe_cN0 rfl (pi_listK (K:=K) rfl (pv 6)) (ts:=["work", "number"]) (zs:=["table"]) (k:=2) (is:=[3]) rfl (.cons rfl .nil) (.cons rfl (Or.inl rfl) rfl (by first | exact Or.inl rfl | exact Or.inr rfl) .nil) rfl (low_seq (lows_cons (low_name (by decide)) (lows_cons (low_name (by decide)) lows_nil))) (fun _ _ _ _ _=>(pg_seqK (K:=K) rfl rfl (pgs_cons (pgb (by decide +kernel) rfl rfl) (pgs_cons (pgb (by decide +kernel) rfl rfl) pgs_nil)))) (fun _ _ _ _ _=>(pe_ix (ix_seqK (K:=K) rfl) (pe_ix (ix_seqK (K:=K) rfl) (pv 2) (pv 0) (fun _ _=>rfl)) (pv 1) (fun _ _=>rfl))) rfl (by decide +kernel) rfl (by decide +kernel)) pa_nil)))
 (pss_cons (ps_set (i:=8) sc_move_hours.nd rfl (Or.inl rfl) (pe_callB (call_min1K (K:=K) rfl rfl) rfl T.z_min bt_min (pa_cons (pv 7) pa_nil)))
 (pss_cons (ps_for PassesOwn.never rfl (pi_listK (K:=K) rfl (pv 5)) (pg_seqK (K:=K) rfl rfl (pgs_cons (pg_name (i:=9) sc_move_hours.nd rfl (Or.inl rfl)) (pgs_cons (pg_name (i:=10) sc_move_hours.nd rfl (Or.inl rfl)) pgs_nil)))
 (pss_one (ps_augS (pe_ix (ix_seqK (K:=K) rfl) (pv 3) (pv 9) (fun _ _=>rfl)) (pv 10) (get_listK (K:=K) rfl) (pv 8) ip_add set_list)))
 (pss_one (ps_for PassesOwn.never rfl (pi_listK (K:=K) rfl (pv 6)) (pg_seqK (K:=K) rfl rfl (pgs_cons (pg_name (i:=9) sc_move_hours.nd rfl (Or.inl rfl)) (pgs_cons (pg_name (i:=10) sc_move_hours.nd rfl (Or.inl rfl)) pgs_nil)))
 (pss_one (ps_augS (pe_ix (ix_seqK (K:=K) rfl) (pv 3) (pv 9) (fun _ _=>rfl)) (pv 10) (get_listK (K:=K) rfl) (pv 8) ip_sub set_list))))))))))),
 (ss_seq (ss_set (SemF.l (sf_lzip (SemF.l (sf_slS (si_var 4) (so_some (SemI.b si_int)) so_none (so_some (SemI.b si_int)))) (SemF.l (sf_slS (si_var 4) (so_some (SemI.b si_int)) so_none (so_some (SemI.b si_int)))))))
 (ss_seq (ss_set (SemF.l (sf_lzip (SemF.l (sf_slS (si_var 4) (so_some (SemI.b si_int)) so_none (so_some (SemI.b si_int)))) (SemF.l (sf_slS (si_var 4) (so_some (SemI.b si_int)) so_none (so_some (SemI.b si_int)))))))
 (ss_seq (ss_setO (sf_lst (n:=2) (sa_own (si_call (sa_own (si_var 0) (sa_any (sb_var 3) (sa_any (sb_ix (sb_var 4) (SemI.b si_int)) sa_nil)))) (sa_own (si_call (sa_own (si_var 1) (sa_own (si_var 2) (sa_any (sb_var 3) (sa_any (sb_ix (sb_var 4) (SemI.b (si_neg (SemI.b si_int)))) sa_nil))))) sa_nil)) (by decide)))
 (ss_seq (ss_ext (SemF.l (sf_comp (m:=true) (k:=2) (cs:=[0,2,3]) (SemW.c (sw_list (si_var 5))) (sg_un (sgs_cons (sg_name 0) (sgs_cons (sg_name 1) sgs_nil))) st_true (si_call (sa_own (si_var 2) (sa_own (si_var 3) (sa_any (sb_var 4) (sa_any (sb_var 0) (sa_any (sb_var 1) sa_nil)))))))))
 (ss_seq (ss_ext (SemF.l (sf_comp (m:=true) (k:=2) (cs:=[3]) (SemW.c (sw_list (si_var 6))) (sg_un (sgs_cons (sg_name 0) (sgs_cons (sg_name 1) sgs_nil))) st_true (SemB.i (sb_ix (sb_ix (sb_var 2) (sb_var 0)) (sb_var 1))))))
 (ss_seq (ss_set (si_min (sb_var 7)))
 (ss_seq (ss_for (m:=true) (sw_list (si_var 5)) (sg_un (sgs_cons (sg_name 9) (sgs_cons (sg_name 10) sgs_nil)))
 (ss_aug2P (sb_var 9) (sb_var 10) (sb_var 8)))
 (ss_for (m:=true) (sw_list (si_var 6)) (sg_un (sgs_cons (sg_name 9) (sgs_cons (sg_name 10) sgs_nil)))
 (ss_aug2P (sb_var 9) (sb_var 10) (sb_var 8))))))))))⟩
theorem ok_neighbours (T:Txt K mg ad):FnOk P w K mg base CX0 2 ad.f_neighbours ad.d_neighbours ["works", "stretches", "table", "place"] (spD .v K [true,true,false,false] F_neighbours):=by
  rw [F_neighbours_def]
  exact Fun.okD (N:=["works", "stretches", "table", "place", "many"]) T.F_neighbours sc_neighbours [true,true,false,false] rfl B_neighbours fun cdv A outer s H E hr=>⟨_,
 (pss_cons (ps_set (i:=4) sc_neighbours.nd rfl (Or.inr rfl) (pe_callB (call_lenK (K:=K) rfl) rfl T.z_len bt_len (pa_cons (pv 0) pa_nil)))
 (pss_cons (ps_if (pt_cmpR op_ge (pv 3) (pv 4) (nomark _))
 (pss_one (ps_ret (pe_cN1 rfl (pi_range1 rfl T.z_range (pa_cons (pv 4) pa_nil)) (ts:=["work"]) (zs:=["table", "place", "many"]) (k:=1) (is:=[2,3,4]) rfl (.cons rfl (.cons rfl (.cons rfl .nil))) (.cons rfl (Or.inl rfl) rfl (by first | exact Or.inl rfl | exact Or.inr rfl) (.cons rfl (Or.inl rfl) rfl (by first | exact Or.inl rfl | exact Or.inr rfl) (.cons rfl (Or.inl rfl) rfl (by first | exact Or.inl rfl | exact Or.inr rfl) .nil))) rfl (low_name (by decide)) (fun _ _ _ _ _=>(pgb (by decide +kernel) rfl rfl)) (fun _ _ _ _ _=>(pt_cmpR op_gt (pe_ix (ix_seqK (K:=K) rfl) (pe_ix (ix_seqK (K:=K) rfl) (pv 1) (pv 0) (fun _ _=>rfl)) (pe_op op_sub (pv 2) (pv 3)) (fun _ _=>rfl)) pe_int (nomark _))) (fun _ _ _ _ _=>(pv 0)) rfl (by decide +kernel) rfl (by decide +kernel))))
 pss_nil)
 (pss_one (ps_ret (pe_cN1 rfl (pi_range1 rfl T.z_range (pa_cons (pe_callB (call_lenK (K:=K) rfl) rfl T.z_len bt_len (pa_cons (pv 1) pa_nil)) pa_nil)) (ts:=["number"]) (zs:=["works", "stretches", "table", "place", "many"]) (k:=1) (is:=[0,1,2,3,4]) rfl (.cons rfl (.cons rfl (.cons rfl (.cons rfl (.cons rfl .nil))))) (.cons rfl (Or.inl rfl) rfl (by first | exact Or.inl rfl | exact Or.inr rfl) (.cons rfl (Or.inl rfl) rfl (by first | exact Or.inl rfl | exact Or.inr rfl) (.cons rfl (Or.inl rfl) rfl (by first | exact Or.inl rfl | exact Or.inr rfl) (.cons rfl (Or.inl rfl) rfl (by first | exact Or.inl rfl | exact Or.inr rfl) (.cons rfl (Or.inl rfl) rfl (by first | exact Or.inl rfl | exact Or.inr rfl) .nil))))) rfl (low_name (by decide)) (fun _ _ _ _ _=>(pgb (by decide +kernel) rfl rfl)) (fun _ _ _ _ _=>(pt_cmpR op_gt (pe_call (ok_work_room T) (hr.mono (by decide)) rfl T.m_work_room T.F_work_room.kp T.b_work_room .nil pass0 (pa_cons (pv 1) (pa_cons (pv 2) (pa_cons (pv 3) (pa_cons (pv 4) (pa_cons (pv 0) pa_nil)))))) pe_int (nomark _))) (fun _ _ _ _ _=>(pe_op op_add (pv 5) (pv 0))) rfl (by decide +kernel) rfl (by decide +kernel)))))),
 (ss_seq (ss_set (si_len (sb_var 0)))
 (ss_seq (ss_if (st_test (SemI.b (si_ge (sb_var 3) (sb_var 4))))
 (ss_ret (SemF.l (sf_comp (m:=true) (k:=1) (cs:=[2,3,4]) (SemW.c (sw_range1 (sb_var 4))) (sg_name 0) (st_test (SemI.b (si_gt (sb_ix (sb_ix (sb_var 1) (sb_var 0)) (SemI.b (si_sub (sb_var 2) (sb_var 3)))) (SemI.b si_int)))) (si_var 0))))
 ss_pass)
 (ss_ret (SemF.l (sf_comp (m:=true) (k:=1) (cs:=[0,1,2,3,4]) (SemW.c (sw_range1 (SemI.b (si_len (sb_var 1))))) (sg_name 0) (st_test (SemI.b (si_gt (SemI.b (si_call (sa_own (si_var 1) (sa_own (si_var 2) (sa_any (sb_var 3) (sa_any (sb_var 4) (sa_any (sb_var 0) sa_nil))))))) (SemI.b si_int)))) (si_add (sb_var 5) (sb_var 0)))))))⟩
theorem ok_reached (T:Txt K mg ad):FnOk P w K mg base CX0 3 ad.f_reached ad.d_reached ["works", "stretches", "table"] (spD .l K [true,true,false] F_reached):=by
  rw [F_reached_def]
  exact Fun.okF (N:=["works", "stretches", "table", "places", "sources", "place", "looked", "source", "near"]) T.F_reached sc_reached [true,true,false] rfl B_reached fun cdv A outer s H E hr=>⟨_,
 (pss_cons (ps_cN1 (i:=3) sc_reached.nd rfl rfl rfl (pi_range1 rfl T.z_range (pa_cons (pe_callB (call_lenK (K:=K) rfl) rfl T.z_len bt_len (pa_cons (pv 0) pa_nil)) pa_nil)) (ts:=["number"]) (zs:=["works", "table"]) (k:=1) (is:=[0,2]) rfl (.cons rfl (.cons rfl .nil)) (.cons rfl (Or.inl rfl) rfl (by first | exact Or.inl rfl | exact Or.inr rfl) (.cons rfl (Or.inl rfl) rfl (by first | exact Or.inl rfl | exact Or.inr rfl) .nil)) rfl (low_name (by decide)) (fun _ _ _ _ _=>(pgb (by decide +kernel) rfl rfl)) (fun _ _ _ _ _=>(pt_cmpR op_gt (pe_call (ok_hours_left T) (hr.mono (by decide)) rfl T.m_hours_left T.F_hours_left.kp T.b_hours_left .nil pass0 (pa_cons (pv 1) (pa_cons (pv 2) (pa_cons (pv 0) pa_nil)))) pe_int (nomark _))) (fun _ _ _ _ _=>(pv 0)) rfl (by decide +kernel) rfl (by decide +kernel))
 (pss_cons (ps_set (i:=4) sc_reached.nd rfl (Or.inl rfl) pe_dnewK)
 (pss_cons (ps_for PassesOwn.never rfl (pi_listK (K:=K) rfl (pv 3)) (pg_name (i:=5) sc_reached.nd rfl (Or.inl rfl)) (pss_one (ps_dput (hu_of hr) (pv 4) (pv 5) (pv 5) rfl)))
 (pss_cons (ps_set (i:=6) sc_reached.nd rfl (Or.inl rfl) pe_int)
 (pss_cons (ps_while PassesOwn.never (pt_cmpR op_lt (pv 6) (pe_callB (call_lenK (K:=K) rfl) rfl T.z_len bt_len (pa_cons (pv 3) pa_nil)) (nomark _))
 (pss_cons (ps_set (i:=7) sc_reached.nd rfl (Or.inl rfl) (pe_ix (ix_seqK (K:=K) rfl) (pv 3) (pv 6) (fun _ _=>rfl)))
 (pss_cons (ps_aug (i:=6) sc_reached.nd rfl (Or.inl rfl) pe_int ip_add)
 (pss_one (ps_for PassesOwn.never rfl (pi_listK (K:=K) rfl (pe_call (ok_neighbours T) (hr.mono (by decide)) rfl T.m_neighbours T.F_neighbours.kp T.b_neighbours .nil pass0 (pa_cons (pv 0) (pa_cons (pv 1) (pa_cons (pv 2) (pa_cons (pv 7) pa_nil)))))) (pg_name (i:=8) sc_reached.nd rfl (Or.inl rfl))
 (pss_one (ps_if (pt_cmp (pc_dnotin (hu_of hr) (pv 8) (pv 4)))
 (pss_cons (ps_dput (hu_of hr) (pv 4) (pv 8) (pv 7) rfl)
 (pss_one (ps_expr (pe_bm PySem.F.plainAttrs_list PySem.F.slot_list_append PySem.F.type_list_append mt_append (pv 3) (pa_cons (pv 8) pa_nil)))))
 pss_nil)))))))
 (pss_one (ps_ret (pv 4)))))))),
 (ss_seq (ss_setOC (sf_comp (m:=true) (k:=1) (cs:=[0,2]) (SemW.c (sw_range1 (SemI.b (si_len (sb_var 0))))) (sg_name 0) (st_test (SemI.b (si_gt (SemI.b (si_call (sa_own (si_var 1) (sa_any (sb_var 2) (sa_any (sb_var 0) sa_nil))))) (SemI.b si_int)))) (si_var 0)))
 (ss_seq ss_setD
 (ss_seq ss_dictOf
 (ss_seq (ss_set si_int)
 (ss_seq (ss_while (st_test (SemI.b (si_lt (sb_var 6) (SemI.b (si_len (sb_var 3))))))
 (ss_seq (ss_set (si_ixO (sb_var 6)))
 (ss_seq (ss_aug (SemI.b si_int))
 (ss_for (m:=true) (sw_list (si_call (sa_own (si_var 0) (sa_own (si_var 1) (sa_any (sb_var 2) (sa_any (sb_var 7) sa_nil)))))) (sg_name 8)
 (ss_if (st_test (SemI.b (si_notInD (sb_var 8) (sb_var 4))))
 (ss_seq (ss_putD (sb_var 7) (sb_var 8))
 (ss_app (si_var 8)))
 ss_pass)))))
 ss_retXD)))))⟩
theorem ok_way_to (T:Txt K mg ad):FnOk P w K mg base CX0 1 ad.f_way_to ad.d_way_to ["sources", "place", "many"] (spD .v K [true,true,true] F_way_to):=by
  rw [F_way_to_def]
  exact Fun.okD (N:=["sources", "place", "many", "places"]) T.F_way_to sc_way_to [true,true,true] rfl B_way_to fun cdv A outer s H E hr=>⟨_,
 (pss_cons (ps_set (i:=3) sc_way_to.nd rfl (Or.inl rfl) (pe_lst (pa_cons (pv 1) pa_nil)))
 (pss_cons (ps_while PassesOwn.never (pt_cmpR (op_neD (K:=K) hr.units) (pe_dget (hu_of hr) (pv 0) (pe_ix (ix_seqK (K:=K) rfl) (pv 3) (pe_un un_neg pe_int) (fun _ _=>rfl)) (fun _ _=>rfl)) (pe_ix (ix_seqK (K:=K) rfl) (pv 3) (pe_un un_neg pe_int) (fun _ _=>rfl)) (nomark _))
 (pss_one (ps_expr (pe_bm PySem.F.plainAttrs_list PySem.F.slot_list_append PySem.F.type_list_append mt_append (pv 3) (pa_cons (pe_dget (hu_of hr) (pv 0) (pe_ix (ix_seqK (K:=K) rfl) (pv 3) (pe_un un_neg pe_int) (fun _ _=>rfl)) (fun _ _=>rfl)) pa_nil)))))
 (pss_one (ps_ret (pe_cN0 rfl (pi_rev (K:=K) rfl rfl T.z_reversed (pv 3)) (ts:=["each"]) (zs:=["many"]) (k:=1) (is:=[2]) rfl (.cons rfl .nil) (.cons rfl (Or.inl rfl) rfl (by first | exact Or.inl rfl | exact Or.inr rfl) .nil) rfl (low_name (by decide)) (fun _ _ _ _ _=>(pgb (by decide +kernel) rfl rfl)) (fun _ _ _ _ _=>(pe_ifExp (pt_cmpR op_lt (pv 0) (pv 1) (nomark _)) (pv 0) (pe_op op_sub (pv 0) (pv 1)))) rfl (by decide +kernel) rfl (by decide +kernel)))))),
 (ss_seq (ss_setO (sf_lst (n:=1) (sa_own (si_var 1) sa_nil) (by decide)))
 (ss_seq (ss_while (st_test (SemI.b (si_eq (neg:=true) (SemI.b (si_getD (sb_var 0) (sb_ix (sb_var 3) (SemI.b (si_neg (SemI.b si_int)))))) (sb_ix (sb_var 3) (SemI.b (si_neg (SemI.b si_int)))))))
 (ss_app (si_getD (sb_var 0) (sb_ix (sb_var 3) (SemI.b (si_neg (SemI.b si_int)))))))
 (ss_ret (SemF.l (sf_comp (m:=false) (k:=1) (cs:=[2]) (swc_revB (sb_var 3)) (sg_name 0) st_true (si_if (st_test (SemI.b (si_lt (sb_var 0) (sb_var 1)))) (SemB.i (sb_var 0)) (si_sub (sb_var 0) (sb_var 1))))))))⟩
theorem ok_shortest_way (T:Txt K mg ad):FnOk P w K mg base CX0 4 ad.f_shortest_way ad.d_shortest_way ["works", "benches", "stretches", "table"] (spD .v K [true,true,true,false] F_shortest_way):=by
  rw [F_shortest_way_def]
  exact Fun.okD (N:=["works", "benches", "stretches", "table", "sources", "place", "number"]) T.F_shortest_way sc_shortest_way [true,true,true,false] rfl B_shortest_way fun cdv A outer s H E hr=>⟨_,
 (pss_cons (ps_set (i:=4) sc_shortest_way.nd rfl (Or.inl rfl) (pe_call (ok_reached T) (hr.mono (by decide)) rfl T.m_reached T.F_reached.kp T.b_reached .nil pass0 (pa_cons (pv 0) (pa_cons (pv 2) (pa_cons (pv 3) pa_nil)))))
 (pss_cons (ps_for PassesOwn.never rfl (pi_dict (pv 4)) (pg_name (i:=5) sc_shortest_way.nd rfl (Or.inl rfl))
 (pss_cons (ps_set (i:=6) sc_shortest_way.nd rfl (Or.inl rfl) (pe_op op_sub (pv 5) (pe_callB (call_lenK (K:=K) rfl) rfl T.z_len bt_len (pa_cons (pv 0) pa_nil))))
 (pss_one (ps_if (PW.pt (pw_and (pt_cmpR op_ge (pv 6) pe_int (nomark _)) (pw_and1 (pt_cmpR op_gt (pe_call (ok_stretch_room T) (hr.mono (by decide)) rfl T.m_stretch_room T.F_stretch_room.kp T.b_stretch_room .nil pass0 (pa_cons (pv 1) (pa_cons (pv 2) (pa_cons (pv 3) (pa_cons (pv 6) pa_nil))))) pe_int (nomark _)))))
 (pss_one (ps_ret (pe_call (ok_way_to T) (hr.mono (by decide)) rfl T.m_way_to T.F_way_to.kp T.b_way_to .nil pass0 (pa_cons (pv 4) (pa_cons (pv 5) (pa_cons (pe_callB (call_lenK (K:=K) rfl) rfl T.z_len bt_len (pa_cons (pv 0) pa_nil)) pa_nil))))))
 pss_nil))))
 (pss_one (ps_ret (pe_lst pa_nil))))),
 (ss_seq (ss_setCD (sa_own (si_var 0) (sa_own (si_var 2) (sa_any (sb_var 3) sa_nil))))
 (ss_seq (ss_forD (sg_name 5)
 (ss_seq (ss_set (si_sub (sb_var 5) (SemI.b (si_len (sb_var 0)))))
 (ss_if (st_and (st_test (SemI.b (si_ge (sb_var 6) (SemI.b si_int)))) (st_test (SemI.b (si_gt (SemI.b (si_call (sa_own (si_var 1) (sa_own (si_var 2) (sa_any (sb_var 3) (sa_any (sb_var 6) sa_nil)))))) (SemI.b si_int)))))
 (ss_ret (si_call (sa_own (si_var 4) (sa_own (si_var 5) (sa_own (si_len (sb_var 0)) sa_nil)))))
 ss_pass)))
 (ss_ret (SemF.l (sf_lst (n:=0) sa_nil (by decide))))))⟩
theorem ok_stretches_of (T:Txt K mg ad):FnOk P w K mg base CX0 1 ad.f_stretches_of ad.d_stretches_of ["works"] (spD .v K [true] F_stretches_of):=by
  rw [F_stretches_of_def]
  exact Fun.okD (N:=["works", "moments"]) T.F_stretches_of sc_stretches_of [true] rfl B_stretches_of fun cdv A outer s H E hr=>⟨_,
 (pss_cons (ps_set (i:=1) sc_stretches_of.nd rfl (Or.inl rfl) (pe_srtSet (K:=K) rfl rfl rfl T.z_sorted rfl T.z_set (pe_op op_catR (pe_cN0 rfl (pi_listK (K:=K) rfl (pv 0)) (ts:=["work"]) (zs:=[]) (k:=1) (is:=[]) rfl .nil .nil rfl (low_name (by decide)) (fun _ _ _ _ _=>(pgb (by decide +kernel) rfl rfl)) (fun _ _ _ _ _=>(pe_ix (ix_seqK (K:=K) rfl) (pv 0) (pe_globI rfl T.c_COME) (fun _ _=>rfl))) rfl (by decide +kernel) rfl (by decide +kernel)) (pe_cN0 rfl (pi_listK (K:=K) rfl (pv 0)) (ts:=["work"]) (zs:=[]) (k:=1) (is:=[]) rfl .nil .nil rfl (low_name (by decide)) (fun _ _ _ _ _=>(pgb (by decide +kernel) rfl rfl)) (fun _ _ _ _ _=>(pe_ix (ix_seqK (K:=K) rfl) (pv 0) (pe_globI rfl T.c_DUE) (fun _ _=>rfl))) rfl (by decide +kernel) rfl (by decide +kernel)))))
 (pss_one (ps_ret (pe_cN0 rfl (pi_zip (K:=K) rfl rfl T.z_zip (pa_cons (pv 1) (pa_cons (pe_slice (sl_listK (K:=K) rfl) (pv 1) (po_some pe_int) po_none) pa_nil))) (ts:=["begin", "end"]) (zs:=[]) (k:=2) (is:=[]) rfl .nil .nil rfl (low_seq (lows_cons (low_name (by decide)) (lows_cons (low_name (by decide)) lows_nil))) (fun _ _ _ _ _=>(pg_seqK (K:=K) rfl rfl (pgs_cons (pgb (by decide +kernel) rfl rfl) (pgs_cons (pgb (by decide +kernel) rfl rfl) pgs_nil)))) (fun _ _ _ _ _=>(pe_lst (pa_cons (pv 0) (pa_cons (pv 1) pa_nil)))) rfl (by decide +kernel) rfl (by decide +kernel))))),
 (ss_seq (ss_set (SemF.l (sf_srtS (SemI.b (SemF.l (sf_cat (SemF.l (sf_comp (m:=true) (k:=1) (cs:=[]) (SemW.c (sw_list (si_var 0))) (sg_name 0) st_true (si_ix (si_var 0) (SemI.b si_int)))) (SemF.l (sf_comp (m:=true) (k:=1) (cs:=[]) (SemW.c (sw_list (si_var 0))) (sg_name 0) st_true (si_ix (si_var 0) (SemI.b si_int))))))))))
 (ss_ret (SemF.l (sf_comp (m:=true) (k:=2) (cs:=[]) (SemW.c (sw_zip (si_var 1) (SemF.l (sf_sl (si_var 1) (so_some (SemI.b si_int)) so_none)))) (sg_un (sgs_cons (sg_name 0) (sgs_cons (sg_name 1) sgs_nil))) st_true (SemF.l (sf_lst (n:=2) (sa_own (si_var 0) (sa_own (si_var 1) sa_nil)) (by decide)))))))⟩
theorem ok_shares (T:Txt K mg ad):FnOk P w K mg base CX0 5 ad.f_shares ad.d_shares ["works", "benches"] (spD .v K [true,true] F_shares):=by
  rw [F_shares_def]
  exact Fun.okD (N:=["works", "benches", "stretches", "table", "way"]) T.F_shares sc_shares [true,true] rfl B_shares fun cdv A outer s H E hr=>⟨_,
 (pss_cons (ps_set (i:=2) sc_shares.nd rfl (Or.inr rfl) (pe_call (ok_stretches_of T) (hr.mono (by decide)) rfl T.m_stretches_of T.F_stretches_of.kp T.b_stretches_of .nil pass0 (pa_cons (pv 0) pa_nil)))
 (pss_cons (ps_cN0 (i:=3) sc_shares.nd rfl rfl rfl (pi_listK (K:=K) rfl (pv 0)) (ts:=["work"]) (zs:=["stretches"]) (k:=1) (is:=[2]) rfl (.cons rfl .nil) (.cons rfl (Or.inl rfl) rfl (by first | exact Or.inl rfl | exact Or.inr rfl) .nil) rfl (low_name (by decide)) (fun _ _ _ _ _=>(pgb (by decide +kernel) rfl rfl)) (fun _ _ _ _ _=>(pe_op op_rep (pe_lst (pa_cons pe_int pa_nil)) (pe_callB (call_lenK (K:=K) rfl) rfl T.z_len bt_len (pa_cons (pv 1) pa_nil)))) rfl (by decide +kernel) rfl (by decide +kernel))
 (pss_cons (ps_set (i:=4) sc_shares.nd rfl (Or.inl rfl) (pe_call (ok_shortest_way T) (hr.mono (by decide)) rfl T.m_shortest_way T.F_shortest_way.kp T.b_shortest_way .nil pass0 (pa_cons (pv 0) (pa_cons (pv 1) (pa_cons (pv 2) (pa_cons (pv 3) pa_nil))))))
 (pss_cons (ps_while PassesOwn.never (pt_truthK (K:=K) rfl (pv 4) (fun _=>rfl))
 (pss_cons (ps_expr (pe_call (ok_move_hours T) (hr.mono (by decide)) rfl T.m_move_hours T.F_move_hours.kp T.b_move_hours .nil pass0 (pa_cons (pv 0) (pa_cons (pv 1) (pa_cons (pv 2) (pa_cons (pv 3) (pa_cons (pv 4) pa_nil)))))))
 (pss_one (ps_set (i:=4) sc_shares.nd rfl (Or.inl rfl) (pe_call (ok_shortest_way T) (hr.mono (by decide)) rfl T.m_shortest_way T.F_shortest_way.kp T.b_shortest_way .nil pass0 (pa_cons (pv 0) (pa_cons (pv 1) (pa_cons (pv 2) (pa_cons (pv 3) pa_nil)))))))))
 (pss_one (ps_ret (pe_tup (pa_cons (pv 2) (pa_cons (pv 3) pa_nil))))))))),
 (ss_seq (ss_set (si_call (sa_own (si_var 0) sa_nil)))
 (ss_seq (ss_setMC (sm_comp (m:=true) (k:=1) (cs:=[2]) (SemW.c (sw_list (si_var 0))) (sg_name 0) st_true (sf_rep (sf_lst (n:=1) (sa_own si_int sa_nil) (by decide)) (SemI.b (si_len (sb_var 1))))))
 (ss_seq (ss_set (si_call (sa_own (si_var 0) (sa_own (si_var 1) (sa_own (si_var 2) (sa_any (sb_var 3) sa_nil))))))
 (ss_seq (ss_while (st_tru (K:=K) (sb_var 4))
 (ss_seq (ss_callU (i:=3) (su_next (si_var 0) (su_next (si_var 1) (su_next (si_var 2) (su_here (sa_own (si_var 4) sa_nil))))))
 (ss_set (si_call (sa_own (si_var 0) (sa_own (si_var 1) (sa_own (si_var 2) (sa_any (sb_var 3) sa_nil))))))))
 (ss_frz 3 (ss_ret (si_tup (n:=2) (sa_own (si_var 2) (sa_own (si_var 3) sa_nil)) (by decide))))))))⟩
theorem ok_l_whole (T:Txt K mg ad):FnOk P w K mg base CX0 1 ad.f_l_whole ad.d_l_whole ["_law_found"] (spD .v K [false] F_l_whole):=by
  rw [F_l_whole_def]
  exact Fun.okD (N:=["_law_found"]) T.F_l_whole sc_l_whole [false] rfl B_l_whole fun cdv A outer s H E hr=>⟨_,
 (pss_one (ps_ret (pe_and (pe_callB (call_isiK (K:=K) rfl) rfl T.z_isinstance bt_isinstance (pa_cons (pv 0) (pa_cons (pe_bltn (v:=.ty "int") rfl T.z_int bt_int rfl) pa_nil))) (pe_one (pe_not (pe_callB (call_isiK (K:=K) rfl) rfl T.z_isinstance bt_isinstance (pa_cons (pv 0) (pa_cons (pe_bltn (v:=.ty "bool") rfl T.z_bool bt_bool rfl) pa_nil)))))))),
 (ss_ret (si_andV (SemI.b (si_isi (n := "int") (sb_var 0))) (si_notV (SemI.b (si_isi (n := "bool") (sb_var 0))))))⟩
theorem ok_l_cell_at (T:Txt K mg ad):FnOk P w K mg base CX0 1 ad.f_l_cell_at ad.d_l_cell_at ["_law_script", "_law_k"] (spD .v K [false,false] F_l_cell_at):=by
  rw [F_l_cell_at_def]
  exact Fun.okD (N:=["_law_script", "_law_k"]) T.F_l_cell_at sc_l_cell_at [false,false] rfl B_l_cell_at fun cdv A outer s H E hr=>⟨_,
 (pss_cons (ps_if (pt_cmpR op_lt (pv 1) (pe_callB (call_lenK (K:=K) rfl) rfl T.z_len bt_len (pa_cons (pv 0) pa_nil)) (nomark _))
 (pss_one (ps_ret (pe_ix (ix_seqK (K:=K) rfl) (pv 0) (pv 1) (fun _ _=>rfl))))
 pss_nil)
 (pss_one (ps_ret pe_int))),
 (ss_seq (ss_if (st_test (SemI.b (si_lt (sb_var 1) (SemI.b (si_len (sb_var 0))))))
 (ss_ret (SemB.i (sb_ix (sb_var 0) (sb_var 1))))
 ss_pass)
 (ss_ret si_int))⟩
theorem ok_l_mixed (T:Txt K mg ad):FnOk P w K mg base CX0 1 ad.f_l_mixed ad.d_l_mixed ["_law_cell", "_law_k"] (spD .v K [false,false] F_l_mixed):=by
  rw [F_l_mixed_def]
  exact Fun.okD (N:=["_law_cell", "_law_k", "_law_number"]) T.F_l_mixed sc_l_mixed [false,false] rfl B_l_mixed fun cdv A outer s H E hr=>⟨_,
 (pss_cons (ps_set (i:=2) sc_l_mixed.nd rfl (Or.inl rfl) (pe_op op_mod (pe_op op_add (pe_op op_add (pe_op op_mulB (pv 0) pe_int) (pe_op op_mulB (pe_op op_mulB (pv 1) (pv 1)) pe_int)) pe_int) pe_int))
 (pss_one (ps_ret (pe_op op_mod (pe_op op_mulB (pv 2) (pv 2)) pe_int)))),
 (ss_seq (ss_set (si_mod (SemI.b (si_add (SemI.b (si_add (SemI.b (si_mul (sb_var 0) (SemI.b si_int))) (SemI.b (si_mul (SemI.b (si_mul (sb_var 1) (sb_var 1))) (SemI.b si_int))))) (SemI.b si_int))) (SemI.b si_int)))
 (ss_ret (si_mod (SemI.b (si_mul (sb_var 2) (sb_var 2))) (SemI.b si_int))))⟩
theorem ok_l_by_blocks (T:Txt K mg ad):FnOk P w K mg base CX0 2 ad.f_l_by_blocks ad.d_l_by_blocks ["_law_script", "_law_many", "_law_number"] (spD .m K [false,false,false] F_l_by_blocks):=by
  rw [F_l_by_blocks_def]
  exact Fun.okF (N:=["_law_script", "_law_many", "_law_number", "_law_begins", "_law_works", "_law_some", "_law_k", "_law_work", "_law_bench", "_law_begin", "_law_end", "_law_found", "_law_ends", "_law_hours", "_law_slack"]) T.F_l_by_blocks sc_l_by_blocks [false,false,false] rfl B_l_by_blocks fun cdv A outer s H E hr=>⟨_,
 (pss_cons (ps_cN0 (i:=3) sc_l_by_blocks.nd rfl rfl rfl (pi_range1 rfl T.z_range (pa_cons (pv 1) pa_nil)) (ts:=["_law_k"]) (zs:=[]) (k:=1) (is:=[]) rfl .nil .nil rfl (low_name (by decide)) (fun _ _ _ _ _=>(pgb (by decide +kernel) rfl rfl)) (fun _ _ _ _ _=>(pe_lst pa_nil)) rfl (by decide +kernel) rfl (by decide +kernel))
 (pss_cons (ps_set (i:=4) sc_l_by_blocks.nd rfl (Or.inl rfl) (pe_op op_rep (pe_lst (pa_cons pe_int pa_nil)) (pv 1)))
 (pss_cons (ps_set (i:=5) sc_l_by_blocks.nd rfl (Or.inl rfl) (pe_op op_rep (pe_lst (pa_cons pe_int pa_nil)) (pv 2)))
 (pss_cons (ps_for PassesOwn.never rfl (pi_range2 rfl T.z_range (pa_cons pe_int (pa_cons (pe_callB (call_min2 rfl) rfl T.z_min bt_min (pa_cons pe_int (pa_cons (pe_callB (call_lenK (K:=K) rfl) rfl T.z_len bt_len (pa_cons (pv 0) pa_nil)) pa_nil))) pa_nil))) (pg_name (i:=6) sc_l_by_blocks.nd rfl (Or.inl rfl))
 (pss_cons (ps_set (i:=7) sc_l_by_blocks.nd rfl (Or.inl rfl) (pe_op op_mod (pe_call (ok_l_mixed T) (hr.mono (by decide)) rfl T.m_l_mixed T.F_l_mixed.kp T.b_l_mixed .nil pass0 (pa_cons (pe_ix (ix_seqK (K:=K) rfl) (pv 0) (pv 6) (fun _ _=>rfl)) (pa_cons (pv 6) pa_nil))) (pv 1)))
 (pss_cons (ps_set (i:=8) sc_l_by_blocks.nd rfl (Or.inl rfl) (pe_op op_mod (pe_call (ok_l_mixed T) (hr.mono (by decide)) rfl T.m_l_mixed T.F_l_mixed.kp T.b_l_mixed .nil pass0 (pa_cons (pe_ix (ix_seqK (K:=K) rfl) (pv 0) (pv 6) (fun _ _=>rfl)) (pa_cons (pe_op op_add (pv 6) pe_int) pa_nil))) (pv 2)))
 (pss_cons (ps_set (i:=9) sc_l_by_blocks.nd rfl (Or.inl rfl) (pe_op op_add (pe_callB (call_max2 rfl) rfl T.z_max bt_max (pa_cons (pe_ix (ix_seqK (K:=K) rfl) (pv 4) (pv 7) (fun _ _=>rfl)) (pa_cons (pe_ix (ix_seqK (K:=K) rfl) (pv 5) (pv 8) (fun _ _=>rfl)) pa_nil))) (pe_callB (call_max2 rfl) rfl T.z_max bt_max (pa_cons pe_int (pa_cons (pe_op op_sub (pe_op op_mod (pe_call (ok_l_mixed T) (hr.mono (by decide)) rfl T.m_l_mixed T.F_l_mixed.kp T.b_l_mixed .nil pass0 (pa_cons (pe_ix (ix_seqK (K:=K) rfl) (pv 0) (pv 6) (fun _ _=>rfl)) (pa_cons (pe_op op_add (pv 6) pe_int) pa_nil))) pe_int) pe_int) pa_nil)))))
 (pss_cons (ps_set (i:=10) sc_l_by_blocks.nd rfl (Or.inl rfl) (pe_op op_add (pe_op op_add (pv 9) pe_int) (pe_op op_mod (pe_call (ok_l_mixed T) (hr.mono (by decide)) rfl T.m_l_mixed T.F_l_mixed.kp T.b_l_mixed .nil pass0 (pa_cons (pe_ix (ix_seqK (K:=K) rfl) (pv 0) (pv 6) (fun _ _=>rfl)) (pa_cons (pe_op op_add (pv 6) pe_int) pa_nil))) pe_int)))
 (pss_cons (ps_asg (pv 10) (pg_sub (pv 4) (pv 7) set_list))
 (pss_cons (ps_asg (pv 10) (pg_sub (pv 5) (pv 8) set_list))
 (pss_one (ps_asg (pe_op op_catR (pe_ix (ix_seqK (K:=K) rfl) (pv 3) (pv 7) (fun _ _=>rfl)) (pe_lst (pa_cons (pv 9) (pa_cons (pv 10) pa_nil)))) (pg_sub (pv 3) (pv 7) set_list))))))))))
 (pss_cons (ps_set (i:=11) sc_l_by_blocks.nd rfl (Or.inl rfl) (pe_lst pa_nil))
 (pss_cons (ps_for PassesOwn.never rfl (pi_range1 rfl T.z_range (pa_cons (pv 1) pa_nil)) (pg_name (i:=6) sc_l_by_blocks.nd rfl (Or.inl rfl))
 (pss_cons (ps_set (i:=12) sc_l_by_blocks.nd rfl (Or.inl rfl) (pe_op op_catR (pe_ix (ix_seqK (K:=K) rfl) (pv 3) (pv 6) (fun _ _=>rfl)) (pe_op op_rep (pe_lst (pa_cons (pe_op op_mod (pv 6) pe_int) pa_nil)) (pe_callTy call_int1 rfl T.z_int bt_int (pa_cons (pe_cmpR (op_eqD (K:=K) hr.units) (pe_ix (ix_seqK (K:=K) rfl) (pv 3) (pv 6) (fun _ _=>rfl)) (pe_lst pa_nil) (nomark _)) pa_nil)))))
 (pss_cons (ps_set (i:=13) sc_l_by_blocks.nd rfl (Or.inl rfl) (pe_op op_sub (pe_callB (call_sumK (K:=K) rfl rfl) rfl T.z_sum bt_sum (pa_cons (pe_sliceS (K:=K) rfl (pe_ix (ix_seqK (K:=K) rfl) (pv 3) (pv 6) (fun _ _=>rfl)) (po_some pe_int) po_none (po_some pe_int)) pa_nil)) (pe_callB (call_sumK (K:=K) rfl rfl) rfl T.z_sum bt_sum (pa_cons (pe_sliceS (K:=K) rfl (pe_ix (ix_seqK (K:=K) rfl) (pv 3) (pv 6) (fun _ _=>rfl)) po_none po_none (po_some pe_int)) pa_nil))))
 (pss_cons (ps_set (i:=14) sc_l_by_blocks.nd rfl (Or.inl rfl) (pe_op op_mod (pe_call (ok_l_mixed T) (hr.mono (by decide)) rfl T.m_l_mixed T.F_l_mixed.kp T.b_l_mixed .nil pass0 (pa_cons (pe_call (ok_l_cell_at T) (hr.mono (by decide)) rfl T.m_l_cell_at T.F_l_cell_at.kp T.b_l_cell_at .nil pass0 (pa_cons (pv 0) (pa_cons pe_int pa_nil))) (pa_cons (pv 6) pa_nil))) pe_int))
 (pss_one (ps_expr (pe_bm PySem.F.plainAttrs_list PySem.F.slot_list_append PySem.F.type_list_append mt_append (pv 11) (pa_cons (pe_lst (pa_cons (pe_callB (call_max2 rfl) rfl T.z_max bt_max (pa_cons pe_int (pa_cons (pe_op op_sub (pe_callB (call_min1K (K:=K) rfl rfl) rfl T.z_min bt_min (pa_cons (pv 12) pa_nil)) (pe_op op_fdivB (pv 14) pe_int)) pa_nil))) (pa_cons (pe_op op_add (pe_callB (call_max1K (K:=K) rfl rfl) rfl T.z_max bt_max (pa_cons (pv 12) pa_nil)) (pe_op op_mod (pv 14) pe_int)) (pa_cons (pv 13) pa_nil)))) pa_nil))))))))
 (pss_one (ps_ret (pv 11))))))))),
 (ss_seq (ss_setOC (sf_comp (m:=true) (k:=1) (cs:=[]) (SemW.c (sw_range1 (sb_var 1))) (sg_name 0) st_true (SemF.l (sf_lst (n:=0) sa_nil (by decide)))))
 (ss_seq (ss_setO (sf_rep (sf_lst (n:=1) (sa_own si_int sa_nil) (by decide)) (sb_var 1)))
 (ss_seq (ss_setO (sf_rep (sf_lst (n:=1) (sa_own si_int sa_nil) (by decide)) (sb_var 2)))
 (ss_seq (ss_for (m:=true) (sw_range2 (SemI.b si_int) (SemI.b (si_min2 (SemI.b si_int) (SemI.b (si_len (sb_var 0)))))) (sg_name 6)
 (ss_seq (ss_set (si_mod (SemI.b (si_call (sa_any (sb_ix (sb_var 0) (sb_var 6)) (sa_any (sb_var 6) sa_nil)))) (sb_var 1)))
 (ss_seq (ss_set (si_mod (SemI.b (si_call (sa_any (sb_ix (sb_var 0) (sb_var 6)) (sa_any (SemI.b (si_add (sb_var 6) (SemI.b si_int))) sa_nil)))) (sb_var 2)))
 (ss_seq (ss_set (si_add (SemI.b (si_max2 (sb_ix (sb_var 4) (sb_var 7)) (sb_ix (sb_var 5) (sb_var 8)))) (SemI.b (si_max2 (SemI.b si_int) (SemI.b (si_sub (SemI.b (si_mod (SemI.b (si_call (sa_any (sb_ix (sb_var 0) (sb_var 6)) (sa_any (SemI.b (si_add (sb_var 6) (SemI.b si_int))) sa_nil)))) (SemI.b si_int))) (SemI.b si_int)))))))
 (ss_seq (ss_set (si_add (SemI.b (si_add (sb_var 9) (SemI.b si_int))) (SemI.b (si_mod (SemI.b (si_call (sa_any (sb_ix (sb_var 0) (sb_var 6)) (sa_any (SemI.b (si_add (sb_var 6) (SemI.b si_int))) sa_nil)))) (SemI.b si_int)))))
 (ss_seq (ss_put (si_var 10) (sb_var 7))
 (ss_seq (ss_put (si_var 10) (sb_var 8))
 (ss_put (SemF.l (sf_cat (si_ixO (sb_var 7)) (SemF.l (sf_lst (n:=2) (sa_own (si_var 9) (sa_own (si_var 10) sa_nil)) (by decide))))) (sb_var 7)))))))))
 (ss_seq (ss_setM sm_nil)
 (ss_seq (ss_for (m:=true) (sw_range1 (sb_var 1)) (sg_name 6)
 (ss_seq (ss_set (SemF.l (sf_cat (si_ixO (sb_var 6)) (SemF.l (sf_rep (sf_lst (n:=1) (sa_own (si_mod (sb_var 6) (SemI.b si_int)) sa_nil) (by decide)) (SemI.b (si_intF (SemI.b (si_eq (neg:=false) (sb_ix (sb_var 3) (sb_var 6)) (SemI.b (SemF.l (sf_lst (n:=0) sa_nil (by decide)))))))))))))
 (ss_seq (ss_set (si_sub (SemI.b (si_sum (SemI.b (SemF.l (sf_slS (si_ixO (sb_var 6)) (so_some (SemI.b si_int)) so_none (so_some (SemI.b si_int))))))) (SemI.b (si_sum (SemI.b (SemF.l (sf_slS (si_ixO (sb_var 6)) so_none so_none (so_some (SemI.b si_int)))))))))
 (ss_seq (ss_set (si_mod (SemI.b (si_call (sa_any (SemI.b (si_call (sa_any (sb_var 0) (sa_any (SemI.b si_int) sa_nil)))) (sa_any (sb_var 6) sa_nil)))) (SemI.b si_int)))
 (ss_appM (sf_lst (n:=3) (sa_own (si_max2 (SemI.b si_int) (SemI.b (si_sub (SemI.b (si_min (sb_var 12))) (SemI.b (si_fdiv (sb_var 14) (SemI.b si_int)))))) (sa_own (si_add (SemI.b (si_max (sb_var 12))) (SemI.b (si_mod (sb_var 14) (SemI.b si_int)))) (sa_own (si_var 13) sa_nil))) (by decide)))))))
 ss_retXM))))))⟩
theorem ok_l_by_draws (T:Txt K mg ad):FnOk P w K mg base CX0 2 ad.f_l_by_draws ad.d_l_by_draws ["_law_script", "_law_many"] (spD .m K [false,false] F_l_by_draws):=by
  rw [F_l_by_draws_def]
  exact Fun.okF (N:=["_law_script", "_law_many", "_law_found", "_law_numbers", "_law_k", "_law_come", "_law_long"]) T.F_l_by_draws sc_l_by_draws [false,false] rfl B_l_by_draws fun cdv A outer s H E hr=>⟨_,
 (pss_cons (ps_set (i:=2) sc_l_by_draws.nd rfl (Or.inl rfl) (pe_lst pa_nil))
 (pss_cons (ps_cN0 (i:=3) sc_l_by_draws.nd rfl rfl rfl (pi_range1 rfl T.z_range (pa_cons pe_int pa_nil)) (ts:=["_law_k"]) (zs:=["_law_script"]) (k:=1) (is:=[0]) rfl (.cons rfl .nil) (.cons rfl (Or.inl rfl) rfl (by first | exact Or.inl rfl | exact Or.inr rfl) .nil) rfl (low_name (by decide)) (fun _ _ _ _ _=>(pgb (by decide +kernel) rfl rfl)) (fun _ _ _ _ _=>(pe_call (ok_l_mixed T) (hr.mono (by decide)) rfl T.m_l_mixed T.F_l_mixed.kp T.b_l_mixed .nil pass0 (pa_cons (pe_call (ok_l_cell_at T) (hr.mono (by decide)) rfl T.m_l_cell_at T.F_l_cell_at.kp T.b_l_cell_at .nil pass0 (pa_cons (pv 1) (pa_cons pe_int pa_nil))) (pa_cons (pe_op op_add pe_int (pv 0)) pa_nil)))) rfl (by decide +kernel) rfl (by decide +kernel))
 (pss_cons (ps_for PassesOwn.never rfl (pi_range2 rfl T.z_range (pa_cons pe_int (pa_cons (pe_callB (call_min2 rfl) rfl T.z_min bt_min (pa_cons pe_int (pa_cons (pe_callB (call_lenK (K:=K) rfl) rfl T.z_len bt_len (pa_cons (pv 0) pa_nil)) pa_nil))) pa_nil))) (pg_name (i:=4) sc_l_by_draws.nd rfl (Or.inl rfl))
 (pss_one (ps_asg (pe_call (ok_l_mixed T) (hr.mono (by decide)) rfl T.m_l_mixed T.F_l_mixed.kp T.b_l_mixed .nil pass0 (pa_cons (pe_op op_add (pe_ix (ix_seqK (K:=K) rfl) (pv 3) (pe_op op_mod (pv 4) pe_int) (fun _ _=>rfl)) (pe_ix (ix_seqK (K:=K) rfl) (pv 0) (pv 4) (fun _ _=>rfl))) (pa_cons (pv 4) pa_nil))) (pg_sub (pv 3) (pe_op op_mod (pv 4) pe_int) set_list))))
 (pss_cons (ps_for PassesOwn.never rfl (pi_range1 rfl T.z_range (pa_cons (pv 1) pa_nil)) (pg_name (i:=4) sc_l_by_draws.nd rfl (Or.inl rfl))
 (pss_cons (ps_set (i:=5) sc_l_by_draws.nd rfl (Or.inl rfl) (pe_op op_mod (pe_ix (ix_seqK (K:=K) rfl) (pv 3) (pe_op op_mulB pe_int (pv 4)) (fun _ _=>rfl)) pe_int))
 (pss_cons (ps_set (i:=6) sc_l_by_draws.nd rfl (Or.inl rfl) (pe_op op_mod (pe_ix (ix_seqK (K:=K) rfl) (pv 3) (pe_op op_add (pe_op op_mulB pe_int (pv 4)) pe_int) (fun _ _=>rfl)) pe_int))
 (pss_one (ps_expr (pe_bm PySem.F.plainAttrs_list PySem.F.slot_list_append PySem.F.type_list_append mt_append (pv 2) (pa_cons (pe_lst (pa_cons (pv 5) (pa_cons (pe_op op_add (pv 5) (pv 6)) (pa_cons (pe_op op_mod (pe_ix (ix_seqK (K:=K) rfl) (pv 3) (pe_op op_add (pe_op op_mulB pe_int (pv 4)) pe_int) (fun _ _=>rfl)) (pe_op op_add (pe_op op_add (pv 6) pe_int) (pe_callTy call_int1 rfl T.z_int bt_int (pa_cons (pe_cmpR (op_eqD (K:=K) hr.units) (pe_op op_mod (pe_op op_fdivB (pe_ix (ix_seqK (K:=K) rfl) (pv 3) (pe_op op_add (pe_op op_mulB pe_int (pv 4)) pe_int) (fun _ _=>rfl)) pe_int) pe_int) pe_int (nomark _)) pa_nil)))) pa_nil)))) pa_nil)))))))
 (pss_one (ps_ret (pv 2))))))),
 (ss_seq (ss_setM sm_nil)
 (ss_seq (ss_setOC (sf_comp (m:=true) (k:=1) (cs:=[0]) (SemW.c (sw_range1 (SemI.b si_int))) (sg_name 0) st_true (si_call (sa_any (SemI.b (si_call (sa_any (sb_var 1) (sa_any (SemI.b si_int) sa_nil)))) (sa_any (SemI.b (si_add (SemI.b si_int) (sb_var 0))) sa_nil)))))
 (ss_seq (ss_for (m:=true) (sw_range2 (SemI.b si_int) (SemI.b (si_min2 (SemI.b si_int) (SemI.b (si_len (sb_var 0)))))) (sg_name 4)
 (ss_put (si_call (sa_any (SemI.b (si_add (sb_ix (sb_var 3) (SemI.b (si_mod (sb_var 4) (SemI.b si_int)))) (sb_ix (sb_var 0) (sb_var 4)))) (sa_any (sb_var 4) sa_nil))) (SemI.b (si_mod (sb_var 4) (SemI.b si_int)))))
 (ss_seq (ss_for (m:=true) (sw_range1 (sb_var 1)) (sg_name 4)
 (ss_seq (ss_set (si_mod (sb_ix (sb_var 3) (SemI.b (si_mul (SemI.b si_int) (sb_var 4)))) (SemI.b si_int)))
 (ss_seq (ss_set (si_mod (sb_ix (sb_var 3) (SemI.b (si_add (SemI.b (si_mul (SemI.b si_int) (sb_var 4))) (SemI.b si_int)))) (SemI.b si_int)))
 (ss_appM (sf_lst (n:=3) (sa_own (si_var 5) (sa_own (si_add (sb_var 5) (sb_var 6)) (sa_own (si_mod (sb_ix (sb_var 3) (SemI.b (si_add (SemI.b (si_mul (SemI.b si_int) (sb_var 4))) (SemI.b si_int)))) (SemI.b (si_add (SemI.b (si_add (sb_var 6) (SemI.b si_int))) (SemI.b (si_intF (SemI.b (si_eq (neg:=false) (SemI.b (si_mod (SemI.b (si_fdiv (sb_ix (sb_var 3) (SemI.b (si_add (SemI.b (si_mul (SemI.b si_int) (sb_var 4))) (SemI.b si_int)))) (SemI.b si_int))) (SemI.b si_int))) (SemI.b si_int)))))))) sa_nil))) (by decide))))))
 ss_retXM))))⟩
theorem ok_l_floor (T:Txt K mg ad):FnOk P w K mg base CX0 3 ad.f_l_floor ad.d_l_floor ["_law_script"] (spD .v K [false] F_l_floor):=by
  rw [F_l_floor_def]
  exact Fun.okD (N:=["_law_script", "_law_cell", "_law_many", "_law_mixed_here", "_law_number", "_law_works", "_law_more", "_law_unit", "_law_far"]) T.F_l_floor sc_l_floor [false] rfl B_l_floor fun cdv A outer s H E hr=>⟨_,
 (pss_cons (ps_set (i:=1) sc_l_floor.nd rfl (Or.inl rfl) (pe_call (ok_l_cell_at T) (hr.mono (by decide)) rfl T.m_l_cell_at T.F_l_cell_at.kp T.b_l_cell_at .nil pass0 (pa_cons (pv 0) (pa_cons pe_int pa_nil))))
 (pss_cons (ps_set (i:=2) sc_l_floor.nd rfl (Or.inl rfl) (pe_ix (ix_seqK (K:=K) rfl) (pe_lst (pa_cons (pe_op op_mod (pe_op op_fdivB (pv 1) pe_int) pe_int) (pa_cons pe_int (pa_cons (pe_op op_mod (pe_op op_fdivB (pv 1) pe_int) pe_int) pa_nil)))) (pe_op op_mod (pv 1) pe_int) (fun _ _=>rfl)))
 (pss_cons (ps_set (i:=3) sc_l_floor.nd rfl (Or.inl rfl) (pe_call (ok_l_mixed T) (hr.mono (by decide)) rfl T.m_l_mixed T.F_l_mixed.kp T.b_l_mixed .nil pass0 (pa_cons (pe_call (ok_l_cell_at T) (hr.mono (by decide)) rfl T.m_l_cell_at T.F_l_cell_at.kp T.b_l_cell_at .nil pass0 (pa_cons (pv 0) (pa_cons pe_int pa_nil))) (pa_cons pe_int pa_nil))))
 (pss_cons (ps_set (i:=4) sc_l_floor.nd rfl (Or.inl rfl) (pe_ix (ix_seqK (K:=K) rfl) (pe_lst (pa_cons (pe_op op_add pe_int (pe_op op_mod (pv 3) pe_int)) (pa_cons (pe_op op_add pe_int (pe_op op_mod (pv 3) pe_int)) (pa_cons pe_int pa_nil)))) (pe_op op_add (pe_callTy call_int1 rfl T.z_int bt_int (pa_cons (pe_cmpR op_lt (pe_op op_mod (pe_op op_fdivB (pv 3) pe_int) pe_int) pe_int (nomark _)) pa_nil)) (pe_callTy call_int1 rfl T.z_int bt_int (pa_cons (pe_cmpR (op_eqD (K:=K) hr.units) (pe_op op_mod (pe_op op_fdivB (pv 3) pe_int) pe_int) pe_int (nomark _)) pa_nil))) (fun _ _=>rfl)))
 (pss_cons (ps_if (PW.pt (pw_or (pt_cmpR (op_eqD (K:=K) hr.units) (pe_op op_mod (pe_call (ok_l_cell_at T) (hr.mono (by decide)) rfl T.m_l_cell_at T.F_l_cell_at.kp T.b_l_cell_at .nil pass0 (pa_cons (pv 0) (pa_cons pe_int pa_nil))) pe_int) pe_int (nomark _)) (pw_or1 (pt_cmpR (op_eqD (K:=K) hr.units) (pv 2) pe_int (nomark _)))))
 (pss_one (ps_set (i:=5) sc_l_floor.nd rfl (Or.inl rfl) (pe_call (ok_l_by_draws T) (hr.mono (by decide)) rfl T.m_l_by_draws T.F_l_by_draws.kp T.b_l_by_draws .nil pass0 (pa_cons (pv 0) (pa_cons (pv 2) pa_nil)))))
 (pss_one (ps_set (i:=5) sc_l_floor.nd rfl (Or.inl rfl) (pe_call (ok_l_by_blocks T) (hr.mono (by decide)) rfl T.m_l_by_blocks T.F_l_by_blocks.kp T.b_l_by_blocks .nil pass0 (pa_cons (pv 0) (pa_cons (pv 2) (pa_cons (pv 4) pa_nil)))))))
 (pss_cons (ps_set (i:=6) sc_l_floor.nd rfl (Or.inl rfl) (pe_op op_fdivB (pe_call (ok_l_cell_at T) (hr.mono (by decide)) rfl T.m_l_cell_at T.F_l_cell_at.kp T.b_l_cell_at .nil pass0 (pa_cons (pv 0) (pa_cons pe_int pa_nil))) pe_int))
 (pss_cons (ps_set (i:=7) sc_l_floor.nd rfl (Or.inr rfl) (pe_ix (ix_seqK (K:=K) rfl) (pe_lst (pa_cons pe_int (pa_cons pe_int (pa_cons (pe_op op_add (pe_op op_pow pe_int pe_int) pe_int) pa_nil)))) (pe_op op_mod (pv 6) pe_int) (fun _ _=>rfl)))
 (pss_cons (ps_cN0 (i:=5) sc_l_floor.nd rfl rfl rfl (pi_listK (K:=K) rfl (pv 5)) (ts:=["_law_work"]) (zs:=["_law_unit"]) (k:=1) (is:=[7]) rfl (.cons rfl .nil) (.cons rfl (Or.inl rfl) rfl (by first | exact Or.inl rfl | exact Or.inr rfl) .nil) rfl (low_name (by decide)) (fun _ _ _ _ _=>(pgb (by decide +kernel) rfl rfl)) (fun _ _ _ _ _=>(pe_lst (pa_cons (pe_op op_mulB (pv 1) (pe_ix (ix_seqK (K:=K) rfl) (pv 0) pe_int (fun _ _=>rfl))) (pa_cons (pe_op op_mulB (pv 1) (pe_ix (ix_seqK (K:=K) rfl) (pv 0) pe_int (fun _ _=>rfl))) (pa_cons (pe_op op_mulB (pv 1) (pe_ix (ix_seqK (K:=K) rfl) (pv 0) pe_int (fun _ _=>rfl))) pa_nil))))) rfl (by decide +kernel) rfl (by decide +kernel))
 (pss_cons (ps_if (PW.pt (pw_and (pt_cmpR op_gt (pv 2) pe_int (nomark _)) (pw_and1 (pt_cmpR (op_eqD (K:=K) hr.units) (pe_op op_mod (pe_op op_fdivB (pv 6) pe_int) pe_int) pe_int (nomark _)))))
 (pss_one (ps_asg (pe_op op_add (pe_ix (ix_seqK (K:=K) rfl) (pe_ix (ix_seqK (K:=K) rfl) (pv 5) (pe_op op_mod (pe_op op_fdivB (pv 6) pe_int) (pv 2)) (fun _ _=>rfl)) pe_int (fun _ _=>rfl)) pe_int) (pg_sub (pe_ix (ix_seqK (K:=K) rfl) (pv 5) (pe_op op_mod (pe_op op_fdivB (pv 6) pe_int) (pv 2)) (fun _ _=>rfl)) pe_int set_list)))
 pss_nil)
 (pss_cons (ps_set (i:=8) sc_l_floor.nd rfl (Or.inr rfl) (pe_op op_mulB (pe_op op_mod (pe_call (ok_l_cell_at T) (hr.mono (by decide)) rfl T.m_l_cell_at T.F_l_cell_at.kp T.b_l_cell_at .nil pass0 (pa_cons (pv 0) (pa_cons pe_int pa_nil))) (pe_op op_pow pe_int pe_int)) (pe_callTy call_int1 rfl T.z_int bt_int (pa_cons (pe_cmpR (op_eqD (K:=K) hr.units) (pe_op op_mod (pe_op op_fdivB (pv 6) pe_int) pe_int) pe_int (nomark _)) pa_nil))))
 (pss_one (ps_ret (pe_tup (pa_cons (pe_cN0 rfl (pi_listK (K:=K) rfl (pv 5)) (ts:=["_law_work"]) (zs:=["_law_far"]) (k:=1) (is:=[8]) rfl (.cons rfl .nil) (.cons rfl (Or.inl rfl) rfl (by first | exact Or.inl rfl | exact Or.inr rfl) .nil) rfl (low_name (by decide)) (fun _ _ _ _ _=>(pgb (by decide +kernel) rfl rfl)) (fun _ _ _ _ _=>(pe_lst (pa_cons (pe_op op_add (pe_ix (ix_seqK (K:=K) rfl) (pv 0) pe_int (fun _ _=>rfl)) (pv 1)) (pa_cons (pe_op op_add (pe_ix (ix_seqK (K:=K) rfl) (pv 0) pe_int (fun _ _=>rfl)) (pv 1)) (pa_cons (pe_ix (ix_seqK (K:=K) rfl) (pv 0) pe_int (fun _ _=>rfl)) pa_nil))))) rfl (by decide +kernel) rfl (by decide +kernel)) (pa_cons (pv 4) pa_nil))))))))))))))),
 (ss_seq (ss_set (si_call (sa_any (sb_var 0) (sa_any (SemI.b si_int) sa_nil))))
 (ss_seq (ss_set (si_ix (SemF.l (sf_lst (n:=3) (sa_own (si_mod (SemI.b (si_fdiv (sb_var 1) (SemI.b si_int))) (SemI.b si_int)) (sa_own si_int (sa_own (si_mod (SemI.b (si_fdiv (sb_var 1) (SemI.b si_int))) (SemI.b si_int)) sa_nil))) (by decide))) (SemI.b (si_mod (sb_var 1) (SemI.b si_int)))))
 (ss_seq (ss_set (si_call (sa_any (SemI.b (si_call (sa_any (sb_var 0) (sa_any (SemI.b si_int) sa_nil)))) (sa_any (SemI.b si_int) sa_nil))))
 (ss_seq (ss_set (si_ix (SemF.l (sf_lst (n:=3) (sa_own (si_add (SemI.b si_int) (SemI.b (si_mod (sb_var 3) (SemI.b si_int)))) (sa_own (si_add (SemI.b si_int) (SemI.b (si_mod (sb_var 3) (SemI.b si_int)))) (sa_own si_int sa_nil))) (by decide))) (SemI.b (si_add (SemI.b (si_intF (SemI.b (si_lt (SemI.b (si_mod (SemI.b (si_fdiv (sb_var 3) (SemI.b si_int))) (SemI.b si_int))) (SemI.b si_int))))) (SemI.b (si_intF (SemI.b (si_eq (neg:=false) (SemI.b (si_mod (SemI.b (si_fdiv (sb_var 3) (SemI.b si_int))) (SemI.b si_int))) (SemI.b si_int)))))))))
 (ss_seq (ss_if (st_or (st_test (SemI.b (si_eq (neg:=false) (SemI.b (si_mod (SemI.b (si_call (sa_any (sb_var 0) (sa_any (SemI.b si_int) sa_nil)))) (SemI.b si_int))) (SemI.b si_int)))) (st_test (SemI.b (si_eq (neg:=false) (sb_var 2) (SemI.b si_int)))))
 (ss_setM (sm_call (sa_any (sb_var 0) (sa_any (sb_var 2) sa_nil))))
 (ss_setM (sm_call (sa_any (sb_var 0) (sa_any (sb_var 2) (sa_any (sb_var 4) sa_nil))))))
 (ss_seq (ss_set (si_fdiv (SemI.b (si_call (sa_any (sb_var 0) (sa_any (SemI.b si_int) sa_nil)))) (SemI.b si_int)))
 (ss_seq (ss_set (si_ix (SemF.l (sf_lst (n:=3) (sa_own si_int (sa_own si_int (sa_own (si_add (SemI.b (si_pow (SemI.b si_int) (SemI.b si_int))) (SemI.b si_int)) sa_nil))) (by decide))) (SemI.b (si_mod (sb_var 6) (SemI.b si_int)))))
 (ss_seq (ss_setMC (sm_comp (m:=false) (k:=1) (cs:=[7]) (swc_listB (sb_var 5)) (sg_name 0) st_true (sf_lst (n:=3) (sa_own (si_mul (sb_var 1) (sb_ix (sb_var 0) (SemI.b si_int))) (sa_own (si_mul (sb_var 1) (sb_ix (sb_var 0) (SemI.b si_int))) (sa_own (si_mul (sb_var 1) (sb_ix (sb_var 0) (SemI.b si_int))) sa_nil))) (by decide))))
 (ss_seq (ss_if (st_and (st_test (SemI.b (si_gt (sb_var 2) (SemI.b si_int)))) (st_test (SemI.b (si_eq (neg:=false) (SemI.b (si_mod (SemI.b (si_fdiv (sb_var 6) (SemI.b si_int))) (SemI.b si_int))) (SemI.b si_int)))))
 (ss_put2 (si_add (sb_ix (sb_ix (sb_var 5) (SemI.b (si_mod (SemI.b (si_fdiv (sb_var 6) (SemI.b si_int))) (sb_var 2)))) (SemI.b si_int)) (SemI.b si_int)) (SemI.b (si_mod (SemI.b (si_fdiv (sb_var 6) (SemI.b si_int))) (sb_var 2))) (SemI.b si_int))
 ss_pass)
 (ss_seq (ss_set (si_mul (SemI.b (si_mod (SemI.b (si_call (sa_any (sb_var 0) (sa_any (SemI.b si_int) sa_nil)))) (SemI.b (si_pow (SemI.b si_int) (SemI.b si_int))))) (SemI.b (si_intF (SemI.b (si_eq (neg:=false) (SemI.b (si_mod (SemI.b (si_fdiv (sb_var 6) (SemI.b si_int))) (SemI.b si_int))) (SemI.b si_int)))))))
 (ss_ret (si_tup (n:=2) (sa_own (SemF.l (sf_comp (m:=false) (k:=1) (cs:=[8]) (swc_listB (sb_var 5)) (sg_name 0) st_true (SemF.l (sf_lst (n:=3) (sa_own (si_add (sb_ix (sb_var 0) (SemI.b si_int)) (sb_var 1)) (sa_own (si_add (sb_ix (sb_var 0) (SemI.b si_int)) (sb_var 1)) (sa_own (SemB.i (sb_ix (sb_var 0) (SemI.b si_int))) sa_nil))) (by decide))))) (sa_own (si_var 4) sa_nil)) (by decide)))))))))))))⟩
theorem ok_l_fits (T:Txt K mg ad):FnOk P w K mg base CX0 2 ad.f_l_fits ad.d_l_fits ["_law_works", "_law_number", "_law_stretches", "_law_table"] (spD .v K [true,false,true,true] F_l_fits):=by
  rw [F_l_fits_def]
  exact Fun.okD (N:=["_law_works", "_law_number", "_law_stretches", "_law_table", "_law_k", "_law_j", "_law_begin", "_law_end", "_law_inside"]) T.F_l_fits sc_l_fits [true,false,true,true] rfl B_l_fits fun cdv A outer s H E hr=>⟨_,
 (pss_cons (ps_if (PW.pt (pw_or (pt_not (pt_truthK (K:=K) rfl (pe_callB (call_isiK (K:=K) rfl) rfl T.z_isinstance bt_isinstance (pa_cons (pv 3) (pa_cons (pe_bltn (v:=.ty "list") rfl T.z_list bt_list rfl) pa_nil))) (fun _=>rfl))) (pw_or1 (pt_cmpR (op_neD (K:=K) hr.units) (pe_callB (call_lenK (K:=K) rfl) rfl T.z_len bt_len (pa_cons (pv 3) pa_nil)) (pe_callB (call_lenK (K:=K) rfl) rfl T.z_len bt_len (pa_cons (pv 0) pa_nil)) (nomark _)))))
 (pss_one (ps_ret pe_bl))
 pss_nil)
 (pss_cons (ps_for PassesOwn.never rfl (pi_range1 rfl T.z_range (pa_cons (pe_callB (call_lenK (K:=K) rfl) rfl T.z_len bt_len (pa_cons (pv 0) pa_nil)) pa_nil)) (pg_name (i:=4) sc_l_fits.nd rfl (Or.inl rfl))
 (pss_cons (ps_if (PW.pt (pw_or (pt_not (pt_truthK (K:=K) rfl (pe_callB (call_isiK (K:=K) rfl) rfl T.z_isinstance bt_isinstance (pa_cons (pe_ix (ix_seqK (K:=K) rfl) (pv 3) (pv 4) (fun _ _=>rfl)) (pa_cons (pe_bltn (v:=.ty "list") rfl T.z_list bt_list rfl) pa_nil))) (fun _=>rfl))) (pw_or1 (pt_cmpR (op_neD (K:=K) hr.units) (pe_callB (call_lenK (K:=K) rfl) rfl T.z_len bt_len (pa_cons (pe_ix (ix_seqK (K:=K) rfl) (pv 3) (pv 4) (fun _ _=>rfl)) pa_nil)) (pe_callB (call_lenK (K:=K) rfl) rfl T.z_len bt_len (pa_cons (pv 2) pa_nil)) (nomark _)))))
 (pss_one (ps_ret pe_bl))
 pss_nil)
 (pss_cons (ps_if (PW.pt (pw_or (pt_not (pt_truthK (K:=K) rfl (pe_callB (call_allK (K:=K) rfl rfl) rfl T.z_all bt_all (pa_cons (pe_cN0 rfl (pi_listK (K:=K) rfl (pe_ix (ix_seqK (K:=K) rfl) (pv 3) (pv 4) (fun _ _=>rfl))) (ts:=["_law_one"]) (zs:=[]) (k:=1) (is:=[]) rfl .nil .nil rfl (low_name (by decide)) (fun _ _ _ _ _=>(pgb (by decide +kernel) rfl rfl)) (fun _ _ _ _ _=>(pe_and (pe_call (ok_l_whole T) (hr.mono (by decide)) rfl T.m_l_whole T.F_l_whole.kp T.b_l_whole .nil pass0 (pa_cons (pv 0) pa_nil)) (pe_one (pe_cmpR op_ge (pv 0) pe_int (nomark _))))) rfl (by decide +kernel) rfl (by decide +kernel)) pa_nil)) (fun _=>rfl))) (pw_or1 (pt_cmpR op_gt (pe_callB (call_sumK (K:=K) rfl rfl) rfl T.z_sum bt_sum (pa_cons (pe_ix (ix_seqK (K:=K) rfl) (pv 3) (pv 4) (fun _ _=>rfl)) pa_nil)) (pe_ix (ix_seqK (K:=K) rfl) (pe_ix (ix_seqK (K:=K) rfl) (pv 0) (pv 4) (fun _ _=>rfl)) pe_int (fun _ _=>rfl)) (nomark _)))))
 (pss_one (ps_ret pe_bl))
 pss_nil)
 (pss_one (ps_for PassesOwn.never rfl (pi_range1 rfl T.z_range (pa_cons (pe_callB (call_lenK (K:=K) rfl) rfl T.z_len bt_len (pa_cons (pv 2) pa_nil)) pa_nil)) (pg_name (i:=5) sc_l_fits.nd rfl (Or.inr rfl))
 (pss_cons (ps_asg (pe_ix (ix_seqK (K:=K) rfl) (pv 2) (pv 5) (fun _ _=>rfl)) (pg_seqK (K:=K) rfl rfl (pgs_cons (pg_name (i:=6) sc_l_fits.nd rfl (Or.inl rfl)) (pgs_cons (pg_name (i:=7) sc_l_fits.nd rfl (Or.inl rfl)) pgs_nil))))
 (pss_cons (ps_set (i:=8) sc_l_fits.nd rfl (Or.inl rfl) (pe_and (pe_cmpR op_le (pe_ix (ix_seqK (K:=K) rfl) (pe_ix (ix_seqK (K:=K) rfl) (pv 0) (pv 4) (fun _ _=>rfl)) pe_int (fun _ _=>rfl)) (pv 6) (nomark _)) (pe_one (pe_cmpR op_le (pv 7) (pe_ix (ix_seqK (K:=K) rfl) (pe_ix (ix_seqK (K:=K) rfl) (pv 0) (pv 4) (fun _ _=>rfl)) pe_int (fun _ _=>rfl)) (nomark _)))))
 (pss_one (ps_if (pt_cmpR op_gt (pe_ix (ix_seqK (K:=K) rfl) (pe_ix (ix_seqK (K:=K) rfl) (pv 3) (pv 4) (fun _ _=>rfl)) (pv 5) (fun _ _=>rfl)) (pe_op op_mulB (pe_op op_sub (pv 7) (pv 6)) (pe_callTy call_int1 rfl T.z_int bt_int (pa_cons (pv 8) pa_nil))) (nomark _))
 (pss_one (ps_ret pe_bl))
 pss_nil)))))))))
 (pss_cons (ps_for PassesOwn.never rfl (pi_range1 rfl T.z_range (pa_cons (pe_callB (call_lenK (K:=K) rfl) rfl T.z_len bt_len (pa_cons (pv 2) pa_nil)) pa_nil)) (pg_name (i:=5) sc_l_fits.nd rfl (Or.inr rfl))
 (pss_one (ps_if (pt_cmpR op_gt (pe_callB (call_sumK (K:=K) rfl rfl) rfl T.z_sum bt_sum (pa_cons (pe_cN0 rfl (pi_listK (K:=K) rfl (pv 3)) (ts:=["_law_row"]) (zs:=["_law_j"]) (k:=1) (is:=[5]) rfl (.cons rfl .nil) (.cons rfl (Or.inl rfl) rfl (by first | exact Or.inl rfl | exact Or.inr rfl) .nil) rfl (low_name (by decide)) (fun _ _ _ _ _=>(pgb (by decide +kernel) rfl rfl)) (fun _ _ _ _ _=>(pe_ix (ix_seqK (K:=K) rfl) (pv 0) (pv 1) (fun _ _=>rfl))) rfl (by decide +kernel) rfl (by decide +kernel)) pa_nil)) (pe_op op_mulB (pv 1) (pe_op op_sub (pe_ix (ix_seqK (K:=K) rfl) (pe_ix (ix_seqK (K:=K) rfl) (pv 2) (pv 5) (fun _ _=>rfl)) pe_int (fun _ _=>rfl)) (pe_ix (ix_seqK (K:=K) rfl) (pe_ix (ix_seqK (K:=K) rfl) (pv 2) (pv 5) (fun _ _=>rfl)) pe_int (fun _ _=>rfl)))) (nomark _))
 (pss_one (ps_ret pe_bl))
 pss_nil)))
 (pss_one (ps_ret pe_bl))))),
 (ss_seq (ss_if (st_or (st_not (st_tru (K:=K) (SemI.b (si_isi (n := "list") (sb_var 3))))) (st_test (SemI.b (si_eq (neg:=true) (SemI.b (si_len (sb_var 3))) (SemI.b (si_len (sb_var 0)))))))
 (ss_ret si_bl)
 ss_pass)
 (ss_seq (ss_for (m:=true) (sw_range1 (SemI.b (si_len (sb_var 0)))) (sg_name 4)
 (ss_seq (ss_if (st_or (st_not (st_tru (K:=K) (SemI.b (si_isi (n := "list") (sb_ix (sb_var 3) (sb_var 4)))))) (st_test (SemI.b (si_eq (neg:=true) (SemI.b (si_len (sb_ix (sb_var 3) (sb_var 4)))) (SemI.b (si_len (sb_var 2)))))))
 (ss_ret si_bl)
 ss_pass)
 (ss_seq (ss_if (st_or (st_not (st_tru (K:=K) (SemI.b (si_all (SemI.b (SemF.l (sf_comp (m:=true) (k:=1) (cs:=[]) (SemW.c (sw_list (si_ix (si_var 3) (sb_var 4)))) (sg_name 0) st_true (si_andV (SemI.b (si_call (sa_any (sb_var 0) sa_nil))) (si_ge (sb_var 0) (SemI.b si_int)))))))))) (st_test (SemI.b (si_gt (SemI.b (si_sum (sb_ix (sb_var 3) (sb_var 4)))) (sb_ix (sb_ix (sb_var 0) (sb_var 4)) (SemI.b si_int))))))
 (ss_ret si_bl)
 ss_pass)
 (ss_for (m:=true) (sw_range1 (SemI.b (si_len (sb_var 2)))) (sg_name 5)
 (ss_seq (ss_un (si_ix (si_var 2) (sb_var 5)) (sg_un (sgs_cons (sg_name 6) (sgs_cons (sg_name 7) sgs_nil))))
 (ss_seq (ss_set (si_andV (SemI.b (si_le (sb_ix (sb_ix (sb_var 0) (sb_var 4)) (SemI.b si_int)) (sb_var 6))) (si_le (sb_var 7) (sb_ix (sb_ix (sb_var 0) (sb_var 4)) (SemI.b si_int)))))
 (ss_if (st_test (SemI.b (si_gt (sb_ix (sb_ix (sb_var 3) (sb_var 4)) (sb_var 5)) (SemI.b (si_mul (SemI.b (si_sub (sb_var 7) (sb_var 6))) (SemI.b (si_intF (sb_var 8))))))))
 (ss_ret si_bl)
 ss_pass)))))))
 (ss_seq (ss_for (m:=true) (sw_range1 (SemI.b (si_len (sb_var 2)))) (sg_name 5)
 (ss_if (st_test (SemI.b (si_gt (SemI.b (si_sum (SemI.b (SemF.l (sf_comp (m:=true) (k:=1) (cs:=[5]) (SemW.c (sw_list (si_var 3))) (sg_name 0) st_true (si_ix (si_var 0) (sb_var 1))))))) (SemI.b (si_mul (sb_var 1) (SemI.b (si_sub (sb_ix (sb_ix (sb_var 2) (sb_var 5)) (SemI.b si_int)) (sb_ix (sb_ix (sb_var 2) (sb_var 5)) (SemI.b si_int)))))))))
 (ss_ret si_bl)
 ss_pass))
 (ss_ret si_bl))))⟩
theorem ok_l_no_more (T:Txt K mg ad):FnOk P w K mg base CX0 1 ad.f_l_no_more ad.d_l_no_more ["_law_works", "_law_number", "_law_stretches", "_law_table"] (spD .v K [true,false,true,true] F_l_no_more):=by
  rw [F_l_no_more_def]
  exact Fun.okD (N:=["_law_works", "_law_number", "_law_stretches", "_law_table", "_law_known", "_law_met", "_law_at", "_law_work", "_law_j", "_law_begin", "_law_end", "_law_inside"]) T.F_l_no_more sc_l_no_more [true,false,true,true] rfl B_l_no_more fun cdv A outer s H E hr=>⟨_,
 (pss_cons (ps_set (i:=4) sc_l_no_more.nd rfl (Or.inr rfl) (pe_cN1 rfl (pi_range1 rfl T.z_range (pa_cons (pe_callB (call_lenK (K:=K) rfl) rfl T.z_len bt_len (pa_cons (pv 0) pa_nil)) pa_nil)) (ts:=["_law_k"]) (zs:=["_law_table", "_law_works"]) (k:=1) (is:=[3,0]) rfl (.cons rfl (.cons rfl .nil)) (.cons rfl (Or.inl rfl) rfl (by first | exact Or.inl rfl | exact Or.inr rfl) (.cons rfl (Or.inl rfl) rfl (by first | exact Or.inl rfl | exact Or.inr rfl) .nil)) rfl (low_name (by decide)) (fun _ _ _ _ _=>(pgb (by decide +kernel) rfl rfl)) (fun _ _ _ _ _=>(pt_cmpR op_lt (pe_callB (call_sumK (K:=K) rfl rfl) rfl T.z_sum bt_sum (pa_cons (pe_ix (ix_seqK (K:=K) rfl) (pv 1) (pv 0) (fun _ _=>rfl)) pa_nil)) (pe_ix (ix_seqK (K:=K) rfl) (pe_ix (ix_seqK (K:=K) rfl) (pv 2) (pv 0) (fun _ _=>rfl)) pe_int (fun _ _=>rfl)) (nomark _))) (fun _ _ _ _ _=>(pv 0)) rfl (by decide +kernel) rfl (by decide +kernel)))
 (pss_cons (ps_set (i:=5) sc_l_no_more.nd rfl (Or.inl rfl) (pe_lst pa_nil))
 (pss_cons (ps_set (i:=6) sc_l_no_more.nd rfl (Or.inl rfl) pe_int)
 (pss_cons (ps_while PassesOwn.never (pt_cmpR op_lt (pv 6) (pe_callB (call_lenK (K:=K) rfl) rfl T.z_len bt_len (pa_cons (pv 4) pa_nil)) (nomark _))
 (pss_cons (ps_set (i:=7) sc_l_no_more.nd rfl (Or.inl rfl) (pe_ix (ix_seqK (K:=K) rfl) (pv 0) (pe_ix (ix_seqK (K:=K) rfl) (pv 4) (pv 6) (fun _ _=>rfl)) (fun _ _=>rfl)))
 (pss_cons (ps_for PassesOwn.never rfl (pi_range1 rfl T.z_range (pa_cons (pe_callB (call_lenK (K:=K) rfl) rfl T.z_len bt_len (pa_cons (pv 2) pa_nil)) pa_nil)) (pg_name (i:=8) sc_l_no_more.nd rfl (Or.inr rfl))
 (pss_cons (ps_asg (pe_ix (ix_seqK (K:=K) rfl) (pv 2) (pv 8) (fun _ _=>rfl)) (pg_seqK (K:=K) rfl rfl (pgs_cons (pg_name (i:=9) sc_l_no_more.nd rfl (Or.inl rfl)) (pgs_cons (pg_name (i:=10) sc_l_no_more.nd rfl (Or.inl rfl)) pgs_nil))))
 (pss_cons (ps_set (i:=11) sc_l_no_more.nd rfl (Or.inl rfl) (pe_and (pe_cmpR op_le (pe_ix (ix_seqK (K:=K) rfl) (pv 7) pe_int (fun _ _=>rfl)) (pv 9) (nomark _)) (pe_one (pe_cmpR op_le (pv 10) (pe_ix (ix_seqK (K:=K) rfl) (pv 7) pe_int (fun _ _=>rfl)) (nomark _)))))
 (pss_one (ps_if (PW.pt (pw_and (pt_truthK (K:=K) rfl (pv 11) (fun _=>rfl)) (pw_and (pt_cmpR (op_notIn_seqK (K:=K) rfl) (pv 8) (pv 5) (by with_unfolding_all rfl)) (pw_and1 (pt_cmpR op_lt (pe_ix (ix_seqK (K:=K) rfl) (pe_ix (ix_seqK (K:=K) rfl) (pv 3) (pe_ix (ix_seqK (K:=K) rfl) (pv 4) (pv 6) (fun _ _=>rfl)) (fun _ _=>rfl)) (pv 8) (fun _ _=>rfl)) (pe_op op_sub (pv 10) (pv 9)) (nomark _))))))
 (pss_cons (ps_expr (pe_bm PySem.F.plainAttrs_list PySem.F.slot_list_append PySem.F.type_list_append mt_append (pv 5) (pa_cons (pv 8) pa_nil)))
 (pss_cons (ps_if (pt_cmpR op_lt (pe_callB (call_sumK (K:=K) rfl rfl) rfl T.z_sum bt_sum (pa_cons (pe_cN0 rfl (pi_listK (K:=K) rfl (pv 3)) (ts:=["_law_row"]) (zs:=["_law_j"]) (k:=1) (is:=[8]) rfl (.cons rfl .nil) (.cons rfl (Or.inl rfl) rfl (by first | exact Or.inl rfl | exact Or.inr rfl) .nil) rfl (low_name (by decide)) (fun _ _ _ _ _=>(pgb (by decide +kernel) rfl rfl)) (fun _ _ _ _ _=>(pe_ix (ix_seqK (K:=K) rfl) (pv 0) (pv 1) (fun _ _=>rfl))) rfl (by decide +kernel) rfl (by decide +kernel)) pa_nil)) (pe_op op_mulB (pv 1) (pe_op op_sub (pv 10) (pv 9))) (nomark _))
 (pss_one (ps_ret pe_bl))
 pss_nil)
 (pss_one (ps_set (i:=4) sc_l_no_more.nd rfl (Or.inr rfl) (pe_op op_catR (pv 4) (pe_cN1 rfl (pi_range1 rfl T.z_range (pa_cons (pe_callB (call_lenK (K:=K) rfl) rfl T.z_len bt_len (pa_cons (pv 0) pa_nil)) pa_nil)) (ts:=["_law_k"]) (zs:=["_law_table", "_law_j", "_law_known"]) (k:=1) (is:=[3,8,4]) rfl (.cons rfl (.cons rfl (.cons rfl .nil))) (.cons rfl (Or.inl rfl) rfl (by first | exact Or.inl rfl | exact Or.inr rfl) (.cons rfl (Or.inl rfl) rfl (by first | exact Or.inl rfl | exact Or.inr rfl) (.cons rfl (Or.inl rfl) rfl (by first | exact Or.inl rfl | exact Or.inr rfl) .nil))) rfl (low_name (by decide)) (fun _ _ _ _ _=>(pgb (by decide +kernel) rfl rfl)) (fun _ _ _ _ _=>(PW.pt (pw_and (pt_cmpR op_gt (pe_ix (ix_seqK (K:=K) rfl) (pe_ix (ix_seqK (K:=K) rfl) (pv 1) (pv 0) (fun _ _=>rfl)) (pv 2) (fun _ _=>rfl)) pe_int (nomark _)) (pw_and1 (pt_cmpR (op_notIn_seqK (K:=K) rfl) (pv 0) (pv 3) (by with_unfolding_all rfl)))))) (fun _ _ _ _ _=>(pv 0)) rfl (by decide +kernel) rfl (by decide +kernel)))))))
 pss_nil)))))
 (pss_one (ps_set (i:=6) sc_l_no_more.nd rfl (Or.inl rfl) (pe_op op_add (pv 6) pe_int))))))
 (pss_one (ps_ret pe_bl)))))),
 (ss_seq (ss_set (SemF.l (sf_comp (m:=true) (k:=1) (cs:=[3,0]) (SemW.c (sw_range1 (SemI.b (si_len (sb_var 0))))) (sg_name 0) (st_test (SemI.b (si_lt (SemI.b (si_sum (sb_ix (sb_var 1) (sb_var 0)))) (sb_ix (sb_ix (sb_var 2) (sb_var 0)) (SemI.b si_int))))) (si_var 0))))
 (ss_seq (ss_setO (sf_lst (n:=0) sa_nil (by decide)))
 (ss_seq (ss_set si_int)
 (ss_seq (ss_while (st_test (SemI.b (si_lt (sb_var 6) (SemI.b (si_len (sb_var 4))))))
 (ss_seq (ss_set (si_ix (si_var 0) (sb_ix (sb_var 4) (sb_var 6))))
 (ss_seq (ss_for (m:=true) (sw_range1 (SemI.b (si_len (sb_var 2)))) (sg_name 8)
 (ss_seq (ss_un (si_ix (si_var 2) (sb_var 8)) (sg_un (sgs_cons (sg_name 9) (sgs_cons (sg_name 10) sgs_nil))))
 (ss_seq (ss_set (si_andV (SemI.b (si_le (sb_ix (sb_var 7) (SemI.b si_int)) (sb_var 9))) (si_le (sb_var 10) (sb_ix (sb_var 7) (SemI.b si_int)))))
 (ss_if (st_and (st_tru (K:=K) (sb_var 11)) (st_and (st_test (SemI.b (si_in (neg:=true) (sb_var 8) (sb_var 5)))) (st_test (SemI.b (si_lt (sb_ix (sb_ix (sb_var 3) (sb_ix (sb_var 4) (sb_var 6))) (sb_var 8)) (SemI.b (si_sub (sb_var 10) (sb_var 9))))))))
 (ss_seq (ss_app (si_var 8))
 (ss_seq (ss_if (st_test (SemI.b (si_lt (SemI.b (si_sum (SemI.b (SemF.l (sf_comp (m:=true) (k:=1) (cs:=[8]) (SemW.c (sw_list (si_var 3))) (sg_name 0) st_true (si_ix (si_var 0) (sb_var 1))))))) (SemI.b (si_mul (sb_var 1) (SemI.b (si_sub (sb_var 10) (sb_var 9))))))))
 (ss_ret si_bl)
 ss_pass)
 (ss_set (SemF.l (sf_cat (si_var 4) (SemF.l (sf_comp (m:=true) (k:=1) (cs:=[3,8,4]) (SemW.c (sw_range1 (SemI.b (si_len (sb_var 0))))) (sg_name 0) (st_and (st_test (SemI.b (si_gt (sb_ix (sb_ix (sb_var 1) (sb_var 0)) (sb_var 2)) (SemI.b si_int)))) (st_test (SemI.b (si_in (neg:=true) (sb_var 0) (sb_var 3))))) (si_var 0))))))))
 ss_pass))))
 (ss_set (si_add (sb_var 6) (SemI.b si_int))))))
 (ss_ret si_bl)))))⟩
theorem ok_law (T:Txt K mg ad):FnOk P w K mg base CX0 6 ad.f_law ad.d_law ["_law_script"] (spD .v K [false] F_law):=by
  rw [F_law_def]
  exact Fun.okD (N:=["_law_script", "_law_works", "_law_number", "_law_handed", "_law_found", "_law_ends", "_law_stretches"]) T.F_law sc_law [false] rfl B_law fun cdv A outer s H E hr=>⟨_,
 (pss_cons (ps_asg (pe_call (ok_l_floor T) (hr.mono (by decide)) rfl T.m_l_floor T.F_l_floor.kp T.b_l_floor .nil pass0 (pa_cons (pv 0) pa_nil)) (pg_seqK (K:=K) rfl rfl (pgs_cons (pg_name (i:=1) sc_law.nd rfl (Or.inl rfl)) (pgs_cons (pg_name (i:=2) sc_law.nd rfl (Or.inl rfl)) pgs_nil))))
 (pss_cons (ps_cN0 (i:=3) sc_law.nd rfl rfl rfl (pi_listK (K:=K) rfl (pv 1)) (ts:=["_law_work"]) (zs:=[]) (k:=1) (is:=[]) rfl .nil .nil rfl (low_name (by decide)) (fun _ _ _ _ _=>(pgb (by decide +kernel) rfl rfl)) (fun _ _ _ _ _=>(pe_callTy (call_list_ofK (K:=K) rfl) rfl T.z_list bt_list (pa_cons (pv 0) pa_nil))) rfl (by decide +kernel) rfl (by decide +kernel))
 (pss_cons (ps_set (i:=4) sc_law.nd rfl (Or.inl rfl) (pe_call (ok_shares T) (hr.mono (by decide)) rfl T.m_shares T.F_shares.kp T.b_shares .nil pass0 (pa_cons (pv 3) (pa_cons (pv 2) pa_nil))))
 (pss_cons (ps_set (i:=5) sc_law.nd rfl (Or.inr rfl) (pe_srtSet (K:=K) rfl rfl rfl T.z_sorted rfl T.z_set (pe_op op_catR (pe_cN0 rfl (pi_listK (K:=K) rfl (pv 1)) (ts:=["_law_work"]) (zs:=[]) (k:=1) (is:=[]) rfl .nil .nil rfl (low_name (by decide)) (fun _ _ _ _ _=>(pgb (by decide +kernel) rfl rfl)) (fun _ _ _ _ _=>(pe_ix (ix_seqK (K:=K) rfl) (pv 0) pe_int (fun _ _=>rfl))) rfl (by decide +kernel) rfl (by decide +kernel)) (pe_cN0 rfl (pi_listK (K:=K) rfl (pv 1)) (ts:=["_law_work"]) (zs:=[]) (k:=1) (is:=[]) rfl .nil .nil rfl (low_name (by decide)) (fun _ _ _ _ _=>(pgb (by decide +kernel) rfl rfl)) (fun _ _ _ _ _=>(pe_ix (ix_seqK (K:=K) rfl) (pv 0) pe_int (fun _ _=>rfl))) rfl (by decide +kernel) rfl (by decide +kernel)))))
 (pss_cons (ps_cN0 (i:=6) sc_law.nd rfl rfl rfl (pi_range1 rfl T.z_range (pa_cons (pe_op op_sub (pe_callB (call_lenK (K:=K) rfl) rfl T.z_len bt_len (pa_cons (pv 5) pa_nil)) pe_int) pa_nil)) (ts:=["_law_k"]) (zs:=["_law_ends"]) (k:=1) (is:=[5]) rfl (.cons rfl .nil) (.cons rfl (Or.inl rfl) rfl (by first | exact Or.inl rfl | exact Or.inr rfl) .nil) rfl (low_name (by decide)) (fun _ _ _ _ _=>(pgb (by decide +kernel) rfl rfl)) (fun _ _ _ _ _=>(pe_lst (pa_cons (pe_ix (ix_seqK (K:=K) rfl) (pv 1) (pv 0) (fun _ _=>rfl)) (pa_cons (pe_ix (ix_seqK (K:=K) rfl) (pv 1) (pe_op op_add (pv 0) pe_int) (fun _ _=>rfl)) pa_nil)))) rfl (by decide +kernel) rfl (by decide +kernel))
 (pss_cons (ps_if (PW.pt (pw_or (pt_cmpR (op_neD (K:=K) hr.units) (pv 3) (pv 1) (nomark _)) (pw_or (pt_not (pt_truthK (K:=K) rfl (pe_callB (call_isiK (K:=K) rfl) rfl T.z_isinstance bt_isinstance (pa_cons (pv 4) (pa_cons (pe_bltn (v:=.ty "tuple") rfl T.z_tuple bt_tuple rfl) pa_nil))) (fun _=>rfl))) (pw_or (pt_cmpR (op_neD (K:=K) hr.units) (pe_callB (call_lenK (K:=K) rfl) rfl T.z_len bt_len (pa_cons (pv 4) pa_nil)) pe_int (nomark _)) (pw_or1 (pt_cmpR (op_neD (K:=K) hr.units) (pe_ix (ix_seqK (K:=K) rfl) (pv 4) pe_int (fun _ _=>rfl)) (pv 6) (nomark _)))))))
 (pss_one (ps_ret pe_bl))
 pss_nil)
 (pss_cons (ps_if (PW.pt (pw_or (pt_not (pt_truthK (K:=K) rfl (pe_callB (call_isiK (K:=K) rfl) rfl T.z_isinstance bt_isinstance (pa_cons (pe_ix (ix_seqK (K:=K) rfl) (pv 4) pe_int (fun _ _=>rfl)) (pa_cons (pe_bltn (v:=.ty "list") rfl T.z_list bt_list rfl) pa_nil))) (fun _=>rfl))) (pw_or1 (pt_not (pt_truthK (K:=K) rfl (pe_callB (call_allK (K:=K) rfl rfl) rfl T.z_all bt_all (pa_cons (pe_cN0 rfl (pi_listK (K:=K) rfl (pe_ix (ix_seqK (K:=K) rfl) (pv 4) pe_int (fun _ _=>rfl))) (ts:=["_law_stretch"]) (zs:=[]) (k:=1) (is:=[]) rfl .nil .nil rfl (low_name (by decide)) (fun _ _ _ _ _=>(pgb (by decide +kernel) rfl rfl)) (fun _ _ _ _ _=>(pe_callB (call_isiK (K:=K) rfl) rfl T.z_isinstance bt_isinstance (pa_cons (pv 0) (pa_cons (pe_bltn (v:=.ty "list") rfl T.z_list bt_list rfl) pa_nil)))) rfl (by decide +kernel) rfl (by decide +kernel)) pa_nil)) (fun _=>rfl))))))
 (pss_one (ps_ret pe_bl))
 pss_nil)
 (pss_cons (ps_if (pt_not (pt_truthK (K:=K) rfl (pe_call (ok_l_fits T) (hr.mono (by decide)) rfl T.m_l_fits T.F_l_fits.kp T.b_l_fits .nil pass0 (pa_cons (pv 1) (pa_cons (pv 2) (pa_cons (pv 6) (pa_cons (pe_ix (ix_seqK (K:=K) rfl) (pv 4) pe_int (fun _ _=>rfl)) pa_nil))))) (fun _=>rfl)))
 (pss_one (ps_ret pe_bl))
 pss_nil)
 (pss_one (ps_ret (pe_call (ok_l_no_more T) (hr.mono (by decide)) rfl T.m_l_no_more T.F_l_no_more.kp T.b_l_no_more .nil pass0 (pa_cons (pv 1) (pa_cons (pv 2) (pa_cons (pv 6) (pa_cons (pe_ix (ix_seqK (K:=K) rfl) (pv 4) pe_int (fun _ _=>rfl)) pa_nil))))))))))))))),
 (ss_seq (ss_un (si_call (sa_any (sb_var 0) sa_nil)) (sg_un (sgs_cons (sg_name 1) (sgs_cons (sg_name 2) sgs_nil))))
 (ss_seq (ss_setC (SemF.l (sf_comp (m:=true) (k:=1) (cs:=[]) (SemW.c (sw_list (si_var 1))) (sg_name 0) st_true (SemF.l (sf_list (si_var 0))))))
 (ss_seq (ss_set (si_call (sa_own (si_var 3) (sa_own (si_var 2) sa_nil))))
 (ss_seq (ss_set (SemF.l (sf_srtS (SemI.b (SemF.l (sf_cat (SemF.l (sf_comp (m:=true) (k:=1) (cs:=[]) (SemW.c (sw_list (si_var 1))) (sg_name 0) st_true (si_ix (si_var 0) (SemI.b si_int)))) (SemF.l (sf_comp (m:=true) (k:=1) (cs:=[]) (SemW.c (sw_list (si_var 1))) (sg_name 0) st_true (si_ix (si_var 0) (SemI.b si_int))))))))))
 (ss_seq (ss_setC (SemF.l (sf_comp (m:=true) (k:=1) (cs:=[5]) (SemW.c (sw_range1 (SemI.b (si_sub (SemI.b (si_len (sb_var 5))) (SemI.b si_int))))) (sg_name 0) st_true (SemF.l (sf_lst (n:=2) (sa_own (si_ix (si_var 1) (sb_var 0)) (sa_own (si_ix (si_var 1) (SemI.b (si_add (sb_var 0) (SemI.b si_int)))) sa_nil)) (by decide))))))
 (ss_seq (ss_if (st_or (st_test (SemI.b (si_eq (neg:=true) (sb_var 3) (sb_var 1)))) (st_or (st_not (st_tru (K:=K) (SemI.b (si_isi (n := "tuple") (sb_var 4))))) (st_or (st_test (SemI.b (si_eq (neg:=true) (SemI.b (si_len (sb_var 4))) (SemI.b si_int)))) (st_test (SemI.b (si_eq (neg:=true) (sb_ix (sb_var 4) (SemI.b si_int)) (sb_var 6)))))))
 (ss_ret si_bl)
 ss_pass)
 (ss_seq (ss_if (st_or (st_not (st_tru (K:=K) (SemI.b (si_isi (n := "list") (sb_ix (sb_var 4) (SemI.b si_int)))))) (st_not (st_tru (K:=K) (SemI.b (si_all (SemI.b (SemF.l (sf_comp (m:=true) (k:=1) (cs:=[]) (SemW.c (sw_list (si_ix (si_var 4) (SemI.b si_int)))) (sg_name 0) st_true (si_isi (n := "list") (sb_var 0))))))))))
 (ss_ret si_bl)
 ss_pass)
 (ss_seq (ss_if (st_not (st_tru (K:=K) (SemI.b (si_call (sa_own (si_var 1) (sa_any (sb_var 2) (sa_own (si_var 6) (sa_own (si_ix (si_var 4) (SemI.b si_int)) sa_nil))))))))
 (ss_ret si_bl)
 ss_pass)
 (ss_ret (si_call (sa_own (si_var 1) (sa_any (sb_var 2) (sa_own (si_var 6) (sa_own (si_ix (si_var 4) (SemI.b si_int)) sa_nil))))))))))))))⟩
end
local macro_rules | `(tactic| walk_at "sd")=>`(tactic| first | assumption | omega | decide | (simp only [List.length_map,List.length_cons,List.length_nil]; omega) | ((with_reducible apply And.intro) <;> walk_at "sd"))
local macro_rules | `(tactic| walk_at "fn")=>`(tactic| assumption)
local macro_rules | `(tactic| walk_at "ix")=>`(tactic| first | exact ixS (by omega) (by omega) | exact ixI (by omega) (by omega) | exact ix2I _ _ _ | exact ix3I _ _ _ _ | exact ix4I _ _ _ _ _ | rfl)
local macro_rules | `(tactic| walk_at "ev")=>`(tactic| first
  | ((with_reducible first | apply ev_add | apply ev_sub | apply ev_lt | apply ev_le | apply ev_gt | apply ev_ge | apply ev_max2 | apply ev_min2 | apply ev_cons | apply ev_eqF | apply ev_neF); (· walk_at "ev"); (· walk_at "ev"))
  | ((with_reducible first | apply ev_neg | apply ev_t | apply ev_not | apply ev_notV | apply ev_lst | apply ev_tup | apply ev_oSome); (· walk_at "ev"))
  | ((with_reducible first | apply ev_tru | apply ev_scal | apply ev_f1 | apply ev_asL | apply ev_lof); (· walk_at "ev"); (· rfl))
  | ((with_reducible first | apply ev_and | apply ev_or | apply ev_andV | apply ev_orV); (· walk_at "ev"); (· intro _; walk_at "ev"))
  | ((with_reducible first | show dVar _ _=_ | show dVarI _ _=_ | show dVarO _ _=_ | show dC _ _=_ | show dNil _=_ | show oNone _=_ | show dTrue _=_); rfl)
  | ((with_reducible apply ev_ix); (· walk_at "ev"); (· walk_at "ev"); (· walk_at "ix"))
  | ((with_reducible apply ev_call); (· walk_at "ev"); (· walk_at "fn"))
  | ((with_reducible first | apply ev_chain | apply ev_sl); (· walk_at "ev"); (· walk_at "ev"); (· walk_at "ev"))
  | ((with_reducible apply ev_mul); (· walk_at "ev"); (· walk_at "ev"); (· first | assumption | (apply imul; omega)))
  | ((with_reducible apply ev_fdiv); (· walk_at "ev"); (· walk_at "ev"); (· first | exact fdok (by omega) (by omega) | walk_at "sd"))
  | ((with_reducible first | apply ev_mod | apply ev_rg2); (· walk_at "ev"); (· walk_at "ev"); (· walk_at "sd"))
  | ((with_reducible apply ev_rg1); (· walk_at "ev"); (· walk_at "sd"))
  | ((with_reducible apply ev_rep); (· walk_at "ev"); (· walk_at "ev"); (· simp only [List.length_cons,List.length_nil]; walk_at "sd")))
local macro_rules | `(tactic| walk_at "st")=>`(tactic| dsimp only [List.set_cons_succ,List.set_cons_zero])
local macro_rules | `(tactic| walk_at "go")=>`(tactic| ((try dsimp only); walk_at "go1"))
local macro_rules | `(tactic| walk_at "go1")=>`(tactic| first
  | ((with_reducible apply wp_seq); walk_at "go")
  | ((with_reducible apply wp_frz); dsimp only [frz,List.getD_cons_succ,List.getD_cons_zero,List.set_cons_succ,List.set_cons_zero]; walk_at "go")
  | ((with_reducible apply wp_set); (· walk_at "ev"); walk_at "st"; walk_at "go")
  | ((with_reducible apply wp_setO); (· walk_at "ev"); (· simp only [List.length_cons,List.length_nil]; omega); walk_at "st"; walk_at "go")
  | ((with_reducible apply wp_aug); (· rfl); (· walk_at "ev"); walk_at "st"; walk_at "go")
  | ((with_reducible apply wp_pass); (try dsimp only); walk_at "go")
  | skip)
theorem cell_at (ns:List Int) (k:Int) (h:0≤k):F_l_cell_at [.scr ns,.int k]=some (.int (ns.getD k.toNat 0)):=by
  refine run_eqF F_l_cell_at_def ?_
  rw [st_l_cell_at]
  unfold B_l_cell_at
  walk_at "go"
  refine wp_ifp (by walk_at "ev") (fun c=>?_) fun c=>?_
  · refine wp_ret (by walk_at "ev") rfl
  · walk_at "go"
    refine wp_ret (by walk_at "ev") ?_
    rw [List.getD_eq_getElem?_getD,List.getElem?_eq_none (by omega)]
    rfl
def mixedZ (c k:Int):Int:=(c*48271+k*k*69621+3) % 2147483647*((c*48271+k*k*69621+3) % 2147483647) % 2147483629
theorem mixed (c k:Int) (h0:0≤k) (h:k<2 ^ 31):F_l_mixed [.int c,.int k]=some (.int (mixedZ c k)):=by
  refine run_eqF F_l_mixed_def ?_
  rw [st_l_mixed]
  unfold B_l_mixed
  have hk:k*k<2 ^ 64:=by
    have:=Int.mul_le_mul (a:=k) (b:=k) (c:=2 ^ 31) (d:=2 ^ 31) (by omega) (by omega) h0 (by omega)
    omega
  have hk0:0≤k*k:=Int.mul_nonneg h0 h0
  walk_at "go"
  refine wp_ret (by walk_at "ev") ?_
  rfl
theorem mixedZ_nn (c k:Int):0≤mixedZ c k:=Int.emod_nonneg _ (by decide)
local macro_rules | `(tactic| walk_at "fn")=>`(tactic| first | exact cell_at _ _ (by omega) | exact mixed _ _ (by omega) (by omega))
theorem upL_at {lo:Int} {n j:Nat} {d:D} (h:(upL lo n)[j]?=some d):j<n∧d=.int (lo+j):=upL_get h
theorem set_mapI (xs:List Int) (j:Nat) (v:Int):(xs.map D.int).set j (.int v)=(xs.set j v).map D.int:=by rw [List.map_set]
def SM {α:Type} (l:List α) (f:α→Int):Int:=(l.map f).sum
theorem SM_cons {α:Type} (x:α) (l:List α) (f:α→Int):SM (x::l) f=f x+SM l f:=by unfold SM; rw [List.map_cons,List.sum_cons]
theorem SM_congr {α:Type} {l:List α} {f g:α→Int} (h:∀ x∈l,f x=g x):SM l f=SM l g:=by unfold SM; rw [List.map_congr_left h]
theorem SM_sub {α:Type} (l:List α) (f g:α→Int):SM l (fun x=>f x-g x)=SM l f-SM l g:=by
  induction l with
  | nil=>rfl
  | cons x l ih=>rw [SM_cons,SM_cons,SM_cons,ih]; omega
theorem SM_zero {α:Type} (l:List α):SM l (fun _=>0)=0:=by
  induction l with
  | nil=>rfl
  | cons x l ih=>rw [SM_cons,ih]; rfl
def pcs:List Int→List (Int×Int)
  | x::y::r=>(x,y)::pcs (y::r)
  | _=>[]
theorem pcs_lt:∀ {es:List Int},es.Pairwise (· < ·)→∀ p∈pcs es,p.1<p.2∧p.1∈es∧p.2∈es
  | [],_,p,hp=>by cases hp
  | [x],_,p,hp=>by cases hp
  | x::y::r,h,p,hp=>by
    obtain ⟨h1,h2⟩:=List.pairwise_cons.mp h
    rcases List.mem_cons.mp hp with rfl | hp
    · exact ⟨h1 y (by simp),by simp,by simp⟩
    · obtain ⟨a,b,c⟩:=pcs_lt h2 p hp
      exact ⟨a,List.mem_cons_of_mem _ b,List.mem_cons_of_mem _ c⟩
abbrev I2:=Int×Int
def inI (s p:I2):Prop:=s.1≤p.1∧p.2≤s.2
instance (s p:I2):Decidable (inI s p):=by unfold inI; infer_instance
structure Sts (S:List I2):Prop where
  le:∀ s∈S,s.1≤s.2
  dj:S.Pairwise fun x y=>x.2≤y.1∨y.2≤x.1
def entI (l:List Int) (j:Nat):Int:=l.getD j 0
def entR (T:List (List Int)) (i:Nat):List Int:=T.getD i []
def cel (T:List (List Int)) (i j:Nat):Int:=entI (entR T i) j
def rowS (T:List (List Int)) (i:Nat):Int:=(entR T i).sum
def colS (T:List (List Int)) (j:Nat):Int:=(T.map fun r=>entI r j).sum
def Rect (T:List (List Int)) (n m:Nat):Prop:=T.length=n∧∀ i,i<n→(entR T i).length=m
def addC (T:List (List Int)) (i j:Nat) (a:Int):List (List Int):=T.set i ((entR T i).set j (cel T i j+a))
theorem entI_set {l:List Int} {j:Nat} (h:j<l.length) (x:Int) (k:Nat):entI (l.set j x) k=if j=k then x else entI l k:=by
  unfold entI
  rw [List.getD_eq_getElem?_getD,List.getElem?_set]
  split
  · rename_i e; subst e; simp [h]
  · rw [List.getD_eq_getElem?_getD]
theorem entR_set {T:List (List Int)} {i:Nat} (h:i<T.length) (x:List Int) (k:Nat):entR (T.set i x) k=if i=k then x else entR T k:=by
  unfold entR
  rw [List.getD_eq_getElem?_getD,List.getElem?_set]
  split
  · rename_i e; subst e; simp [h]
  · rw [List.getD_eq_getElem?_getD]
theorem sum_set:∀ (l:List Int) (j:Nat) (x:Int),j<l.length→(l.set j x).sum=l.sum-entI l j+x
  | [],_,_,h=>by simp at h
  | y::l,0,x,_=>by
    show (x::l).sum=(y::l).sum-y+x
    rw [List.sum_cons,List.sum_cons]; omega
  | y::l,j+1,x,h=>by
    have:=sum_set l j x (by simpa using h)
    show (y::l.set j x).sum=(y::l).sum-entI l j+x
    rw [List.sum_cons,List.sum_cons,this]; omega
theorem Rect.add {T:List (List Int)} {n m i j:Nat} {a:Int} (h:Rect T n m):Rect (addC T i j a) n m:=by
  unfold addC
  refine ⟨by rw [List.length_set]; exact h.1,fun k hk=>?_⟩
  by_cases hi:i<T.length
  · rw [entR_set hi]
    split
    · rename_i e; subst e; rw [List.length_set]; exact h.2 _ hk
    · exact h.2 k hk
  · rw [List.set_eq_of_length_le (by omega)]; exact h.2 k hk
theorem cel_add {T:List (List Int)} {n m i j:Nat} {a:Int} (h:Rect T n m) (hi:i<n) (hj:j<m) (k l:Nat):cel (addC T i j a) k l=cel T k l+if i=k∧j=l then a else 0:=by
  have hi':i<T.length:=by rw [h.1]; exact hi
  unfold addC
  show entI (entR (T.set i _) k) l=_
  rw [entR_set hi']
  by_cases e:i=k
  · subst e
    rw [if_pos rfl,entI_set (by rw [h.2 i hi]; exact hj)]
    by_cases e2:j=l
    · subst e2; rw [if_pos rfl,if_pos ⟨rfl,rfl⟩]
    · rw [if_neg e2,if_neg (fun z=>e2 z.2),Int.add_zero]; rfl
  · rw [if_neg e,if_neg (fun z=>e z.1),Int.add_zero]; rfl
theorem rowS_add {T:List (List Int)} {n m i j:Nat} {a:Int} (h:Rect T n m) (hi:i<n) (hj:j<m) (k:Nat):rowS (addC T i j a) k=rowS T k+if i=k then a else 0:=by
  have hi':i<T.length:=by rw [h.1]; exact hi
  unfold addC rowS
  rw [entR_set hi']
  by_cases e:i=k
  · subst e
    rw [if_pos rfl,if_pos rfl,sum_set _ _ _ (by rw [h.2 i hi]; exact hj)]
    unfold cel; omega
  · rw [if_neg e,if_neg e,Int.add_zero]
theorem colS_add {T:List (List Int)} {n m i j:Nat} {a:Int} (h:Rect T n m) (hi:i<n) (hj:j<m) (l:Nat):colS (addC T i j a) l=colS T l+if j=l then a else 0:=by
  have hi':i<T.length:=by rw [h.1]; exact hi
  unfold addC colS
  rw [List.map_set,sum_set _ _ _ (by rw [List.length_map]; exact hi')]
  have e1:entI (T.map fun r=>entI r l) i=cel T i l:=by
    unfold entI cel entR
    rw [List.getD_eq_getElem?_getD,List.getElem?_map,List.getD_eq_getElem?_getD (l:=T),List.getElem?_eq_getElem hi']
    rfl
  rw [e1,entI_set (by rw [h.2 i hi]; exact hj)]
  by_cases e:j=l
  · subst e; rw [if_pos rfl,if_pos rfl]; omega
  · rw [if_neg e,if_neg e]; show _-cel T i l+cel T i l=_; omega
def addAll (T:List (List Int)) (ps:List (Nat×Nat)) (a:Int):List (List Int):=ps.foldl (fun T p=>addC T p.1 p.2 a) T
def cnt {α:Type} (f:α→Bool) (l:List α):Int:=(l.countP f:Nat)
theorem cnt_nil {α:Type} (f:α→Bool):cnt f []=0:=rfl
theorem cnt_cons {α:Type} (f:α→Bool) (x:α) (l:List α):cnt f (x::l)=cnt f l+if f x=true then 1 else 0:=by
  unfold cnt; rw [List.countP_cons]; split <;> simp
theorem addAll_ok {n m:Nat} {a:Int}:∀ {ps:List (Nat×Nat)} {T:List (List Int)},Rect T n m→(∀ p∈ps,p.1<n∧p.2<m) →
    Rect (addAll T ps a) n m∧(∀ k l,cel (addAll T ps a) k l=cel T k l+a*cnt (fun p=>decide (p=(k,l))) ps)∧(∀ k,rowS (addAll T ps a) k=rowS T k+a*cnt (fun p=>decide (p.1=k)) ps)∧∀ l,colS (addAll T ps a) l=colS T l+a*cnt (fun p=>decide (p.2=l)) ps
  | [],T,h,_=>⟨h,fun k l=>by rw [cnt_nil,Int.mul_zero,Int.add_zero]; rfl,fun k=>by rw [cnt_nil,Int.mul_zero,Int.add_zero]; rfl,fun k=>by rw [cnt_nil,Int.mul_zero,Int.add_zero]; rfl⟩
  | p::ps,T,h,hp=>by
    obtain ⟨p1,p2⟩:=hp p (by simp)
    obtain ⟨r,c,w,s⟩:=addAll_ok (a:=a) (ps:=ps) (h.add (i:=p.1) (j:=p.2) (a:=a)) fun q hq=>hp q (List.mem_cons_of_mem _ hq)
    refine ⟨r,fun k l=>?_,fun k=>?_,fun l=>?_⟩
    · rw [show addAll T (p::ps) a=addAll (addC T p.1 p.2 a) ps a from rfl,c,cel_add h p1 p2,cnt_cons,Int.mul_add]
      have:(p=(k,l))↔(p.1=k∧p.2=l):=by constructor <;> intro z; (subst z; exact ⟨rfl,rfl⟩); (exact Prod.ext z.1 z.2)
      by_cases e:p.1=k∧p.2=l
      · rw [if_pos e,if_pos (by simpa using this.mpr e)]; omega
      · rw [if_neg e,if_neg (by simpa using fun z=>e (this.mp z))]; omega
    · rw [show addAll T (p::ps) a=addAll (addC T p.1 p.2 a) ps a from rfl,w,rowS_add h p1 p2,cnt_cons,Int.mul_add]
      by_cases e:p.1=k
      · rw [if_pos e,if_pos (by simpa using e)]; omega
      · rw [if_neg e,if_neg (by simpa using e)]; omega
    · rw [show addAll T (p::ps) a=addAll (addC T p.1 p.2 a) ps a from rfl,s,colS_add h p1 p2,cnt_cons,Int.mul_add]
      by_cases e:p.2=l
      · rw [if_pos e,if_pos (by simpa using e)]; omega
      · rw [if_neg e,if_neg (by simpa using e)]; omega
def gains (ws ss:List Nat):List (Nat×Nat):=ws.zip ss
def losses (ws ss:List Nat):List (Nat×Nat):=(ws.drop 1).zip ss
theorem cnt_fst:∀ {ws ss:List Nat} (k:Nat),ws.length≤ss.length→cnt (fun p:Nat×Nat=>decide (p.1=k)) (ws.zip ss)=cnt (fun x=>decide (x=k)) ws
  | [],ss,k,_=>by simp [cnt]
  | w::ws,[],k,h=>by simp at h
  | w::ws,s::ss,k,h=>by
    rw [List.zip_cons_cons,cnt_cons,cnt_cons,cnt_fst k (by simpa using h)]
theorem cnt_snd:∀ {ws ss:List Nat} (k:Nat),cnt (fun p:Nat×Nat=>decide (p.2=k)) (ws.zip ss)=cnt (fun x=>decide (x=k)) (ss.take ws.length)
  | [],ss,k=>by simp [cnt]
  | w::ws,[],k=>by simp [cnt]
  | w::ws,s::ss,k=>by
    rw [List.zip_cons_cons,cnt_cons,List.length_cons,List.take_succ_cons,cnt_cons,cnt_snd k]
theorem cnt_le_one:∀ {ws ss:List Nat} (k l:Nat),ws.Nodup→cnt (fun p:Nat×Nat=>decide (p=(k,l))) (ws.zip ss)≤1
  | [],ss,k,l,_=>by simp [cnt]
  | w::ws,[],k,l,_=>by simp [cnt]
  | w::ws,s::ss,k,l,h=>by
    obtain ⟨h1,h2⟩:=List.nodup_cons.mp h
    rw [List.zip_cons_cons,cnt_cons]
    split
    · rename_i e
      have e:(w,s)=(k,l):=by simpa using e
      cases e
      have:cnt (fun p:Nat×Nat=>decide (p=(w,s))) (ws.zip ss)=0:=by
        unfold cnt
        rw [List.countP_eq_zero.mpr fun q hq=>?_]; rfl
        have:=(List.of_mem_zip (a:=q.1) (b:=q.2) hq).1
        simp only [decide_eq_true_eq]
        rintro rfl
        exact h1 this
      omega
    · have:=cnt_le_one (ss:=ss) k l h2
      omega
theorem cnt_nonneg {α:Type} (f:α→Bool) (l:List α):0≤cnt f l:=by unfold cnt; omega
theorem cnt_zero {α:Type} {f:α→Bool} {l:List α} (h:∀ x∈l,f x=false):cnt f l=0:=by
  unfold cnt; rw [List.countP_eq_zero.mpr fun x hx=>by rw [h x hx]; simp]; rfl
structure Fit (n m:Nat) (cap:Nat→Nat→Int) (hrs bnd:Nat→Int) (T:List (List Int)):Prop where
  rect:Rect T n m
  lo:∀ i j,i<n→j<m→0≤cel T i j
  hi:∀ i j,i<n→j<m→cel T i j≤cap i j
  row:∀ i,i<n→rowS T i≤hrs i
  col:∀ j,j<m→colS T j≤bnd j
def moved (T:List (List Int)) (ws ss:List Nat) (a:Int):List (List Int):=addAll (addAll T (gains ws ss) a) (losses ws ss) (-a)
theorem Fit.moved {n m:Nat} {cap:Nat→Nat→Int} {hrs bnd:Nat→Int} {T:List (List Int)} (h:Fit n m cap hrs bnd T) {w0:Nat} {ws ss:List Nat} {sl:Nat} {a:Int} (ha:0≤a) (hl:(w0::ws).length=ss.length) (hlast:ss=ss.take ws.length++[sl]) (hw:∀ w∈w0::ws,w<n) (hs:∀ s∈ss,s<m) (nd:(w0::ws).Nodup)
    (h0:rowS T w0+a≤hrs w0) (h1:colS T sl+a≤bnd sl) (hg:∀ p∈gains (w0::ws) ss,cel T p.1 p.2+a≤cap p.1 p.2) (hlo:∀ p∈losses (w0::ws) ss,a≤cel T p.1 p.2) :
    Fit n m cap hrs bnd (My.moved T (w0::ws) ss a)∧(∀ k,rowS (My.moved T (w0::ws) ss a) k=rowS T k+if w0=k then a else 0):=by
  have hz:∀ {vs us:List Nat} {p:Nat×Nat},p∈vs.zip us→p.1∈vs∧p.2∈us:=fun {vs us p} hp=>List.of_mem_zip (a:=p.1) (b:=p.2) hp
  obtain ⟨r1,c1,w1,s1⟩:=addAll_ok (a:=a) (ps:=gains (w0::ws) ss) h.rect fun p hp=>⟨hw _ (hz hp).1,hs _ (hz hp).2⟩
  obtain ⟨r2,c2,w2,s2⟩:=addAll_ok (a:=-a) (ps:=losses (w0::ws) ss) r1 fun p hp=>⟨hw _ (List.mem_of_mem_drop (hz hp).1),hs _ (hz hp).2⟩
  have row:∀ k,rowS (My.moved T (w0::ws) ss a) k=rowS T k+if w0=k then a else 0:=fun k=>by
    show rowS (addAll _ _ _) k=_
    rw [w2,w1]
    unfold gains losses
    rw [cnt_fst k (by rw [hl]; exact Nat.le_refl _),List.drop_one,List.tail_cons,cnt_fst k (by rw [← hl]; simp),cnt_cons]
    by_cases e:w0=k
    · rw [if_pos e,if_pos (by simpa using e),Int.mul_add,Int.neg_mul]; omega
    · rw [if_neg e,if_neg (by simpa using e),Int.add_zero,Int.neg_mul]; omega
  have col:∀ l,colS (My.moved T (w0::ws) ss a) l=colS T l+if sl=l then a else 0:=fun l=>by
    show colS (addAll _ _ _) l=_
    rw [s2,s1]
    unfold gains losses
    rw [cnt_snd,List.drop_one,List.tail_cons,cnt_snd,hl,List.take_length]
    have e:cnt (fun x=>decide (x=l)) ss=cnt (fun x=>decide (x=l)) (ss.take ws.length)+if sl=l then 1 else 0:=by
      conv=>lhs; rw [hlast]
      unfold cnt
      rw [List.countP_append,List.countP_cons]
      by_cases e:sl=l
      · rw [if_pos (by simpa using e),if_pos e]; simp
      · rw [if_neg (by simpa using e),if_neg e]; simp
    rw [e,Int.mul_add,Int.neg_mul]
    by_cases e:sl=l
    · rw [if_pos e,if_pos e]; omega
    · rw [if_neg e,if_neg e]; omega
  refine ⟨⟨r2,fun i j hi hj=>?_,fun i j hi hj=>?_,fun i hi=>?_,fun j hj=>?_⟩,row⟩
  · show 0≤cel (addAll _ _ _) i j
    rw [c2,c1]
    have n1:=cnt_nonneg (fun p=>decide (p=(i,j))) (gains (w0::ws) ss)
    have a1:=Int.mul_nonneg ha n1
    have l0:=h.lo i j hi hj
    by_cases e:(i,j)∈losses (w0::ws) ss
    · have b1:=cnt_le_one (ws:=ws) (ss:=ss) i j (List.nodup_cons.mp nd).2
      have b0:=cnt_nonneg (fun p=>decide (p=(i,j))) (losses (w0::ws) ss)
      have b1:cnt (fun p=>decide (p=(i,j))) (losses (w0::ws) ss)≤1:=b1
      have b2:=hlo _ e
      have b3:a*cnt (fun p=>decide (p=(i,j))) (losses (w0::ws) ss)≤a:=by
        rcases Int.le_iff_lt_or_eq.mp b1 with z | z
        · rw [show cnt (fun p=>decide (p=(i,j))) (losses (w0::ws) ss)=0 by omega,Int.mul_zero]; exact ha
        · rw [z,Int.mul_one]; exact Int.le_refl _
      rw [Int.neg_mul]
      have b2:a≤cel T i j:=b2
      omega
    · rw [cnt_zero (l:=losses (w0::ws) ss) fun p hp=>by simp only [decide_eq_false_iff_not]; rintro rfl; exact e hp,Int.mul_zero]
      omega
  · show cel (addAll _ _ _) i j≤_
    rw [c2,c1]
    have n1:=cnt_nonneg (fun p=>decide (p=(i,j))) (losses (w0::ws) ss)
    have a1:=Int.mul_nonneg ha n1
    have l0:=h.hi i j hi hj
    rw [Int.neg_mul]
    by_cases e:(i,j)∈gains (w0::ws) ss
    · have b1:cnt (fun p=>decide (p=(i,j))) (gains (w0::ws) ss)≤1:=cnt_le_one (ws:=w0::ws) (ss:=ss) i j nd
      have b0:=cnt_nonneg (fun p=>decide (p=(i,j))) (gains (w0::ws) ss)
      have b2:cel T i j+a≤cap i j:=hg _ e
      have b3:a*cnt (fun p=>decide (p=(i,j))) (gains (w0::ws) ss)≤a:=by
        rcases Int.le_iff_lt_or_eq.mp b1 with z | z
        · rw [show cnt (fun p=>decide (p=(i,j))) (gains (w0::ws) ss)=0 by omega,Int.mul_zero]; exact ha
        · rw [z,Int.mul_one]; exact Int.le_refl _
      omega
    · rw [cnt_zero (l:=gains (w0::ws) ss) fun p hp=>by simp only [decide_eq_false_iff_not]; rintro rfl; exact e hp,Int.mul_zero]
      omega
  · rw [row]
    have:=h.row i hi
    by_cases e:w0=i
    · subst e; rw [if_pos rfl]; exact h0
    · rw [if_neg e]; omega
  · rw [col]
    have:=h.col j hj
    by_cases e:sl=j
    · subst e; rw [if_pos rfl]; exact h1
    · rw [if_neg e]; omega
structure Bf (root:Nat→Prop) (edge:Nat→Nat→Prop) (kvs:List (Nat×Nat)):Prop where
  nd:(kvs.map Prod.fst).Nodup
  src:∀ (t p q:Nat),kvs[t]?=some (p,q)→(q=p∧root p)∨∃ u r,u<t∧kvs[u]?=some (q,r)∧edge q p
def Chn (R:Nat→Nat→Prop):List Nat→Prop
  | x::y::r=>R x y∧Chn R (y::r)
  | _=>True
def key (kvs:List (Nat×Nat)) (t p:Nat):Prop:=∃ q,kvs[t]?=some (p,q)
theorem key_inj {kvs:List (Nat×Nat)} (h:(kvs.map Prod.fst).Nodup) {t u p:Nat} (a:key kvs t p) (b:key kvs u p):t=u:=by
  obtain ⟨q,a⟩:=a
  obtain ⟨r,b⟩:=b
  have a':(kvs.map Prod.fst)[t]?=some p:=by rw [List.getElem?_map,a]; rfl
  have b':(kvs.map Prod.fst)[u]?=some p:=by rw [List.getElem?_map,b]; rfl
  have ht:=(List.getElem?_eq_some_iff.mp a').1
  exact (List.getElem?_inj ht h).mp (a'.trans b'.symm)
structure Bk (edge:Nat→Nat→Prop) (kvs:List (Nat×Nat)) (place t:Nat) (L:List Nat):Prop where
  front:∃ x r,L=x::r∧key kvs t x
  chn:Chn edge L
  last:L.getLast?=some place
  up:∀ y∈L,∃ u,t≤u∧key kvs u y
  nd:L.Nodup
theorem Bk.one {edge:Nat→Nat→Prop} {kvs:List (Nat×Nat)} {place t:Nat} (h:key kvs t place):Bk edge kvs place t [place] :=
  ⟨⟨place,[],rfl,h⟩,trivial,rfl,fun y hy=>by rw [List.mem_singleton.mp hy]; exact ⟨t,Nat.le_refl _,h⟩,by simp⟩
theorem Bk.step {root:Nat→Prop} {edge:Nat→Nat→Prop} {kvs:List (Nat×Nat)} (B:Bf root edge kvs) {place t x q:Nat} {r:List Nat} (h:Bk edge kvs place t (x::r)) (e:kvs[t]?=some (x,q)) (hq:q≠x):∃ u,u<t∧Bk edge kvs place u (q::x::r):=by
  rcases B.src t x q e with ⟨z,_⟩ | ⟨u,s,hu,eu,ed⟩
  · exact absurd z hq
  · refine ⟨u,hu,⟨q,_,rfl,s,eu⟩,⟨ed,h.chn⟩,by have:=h.last; simpa using this,fun y hy=>?_,List.nodup_cons.mpr ⟨fun z=>?_,h.nd⟩⟩
    · rcases List.mem_cons.mp hy with rfl | hy
      · exact ⟨u,Nat.le_refl _,s,eu⟩
      · obtain ⟨v,hv,k⟩:=h.up y hy
        exact ⟨v,by omega,k⟩
    · obtain ⟨v,hv,k⟩:=h.up q z
      have:=key_inj B.nd k ⟨s,eu⟩
      omega
theorem Bf.root {root:Nat→Prop} {edge:Nat→Nat→Prop} {kvs:List (Nat×Nat)} (B:Bf root edge kvs) {t x:Nat} (e:kvs[t]?=some (x,x)):root x:=by
  rcases B.src t x x e with ⟨_,z⟩ | ⟨u,s,hu,eu,ed⟩
  · exact z
  · have:=key_inj B.nd ⟨_,e⟩ ⟨s,eu⟩
    omega
def intr (n:Nat):List Nat→List Nat→List Nat
  | w::ws,s::ss=>w::(n+s)::intr n ws ss
  | _,_=>[]
theorem alt {n m:Nat} {wr tb:Nat→Nat→Prop}:∀ (k:Nat) (x:Nat) (P:List Nat),P.length≤k→Chn (fun u v=>(u<n∧n≤v∧v<n+m∧wr u (v-n))∨(n≤u∧v<n∧tb v (u-n))) (x::P)→x<n→∀ place,(x::P).getLast?=some place→n≤place →
    ∃ ws ss,x::P=intr n (x::ws) ss∧(x::ws).length=ss.length∧(∀ p∈gains (x::ws) ss,p.2<m∧wr p.1 p.2)∧(∀ p∈losses (x::ws) ss,tb p.1 p.2)∧(∀ w∈x::ws,w<n)∧(x::ws).Sublist (x::P)∧ss=ss.take ws.length++[place-n]
  | k,x,[],_,_,hx,place,hl,hp=>by
    have:x=place:=by simpa using hl
    omega
  | k,x,[y],_,hc,hx,place,hl,hp=>by
    have e:y=place:=by simpa using hl
    subst e
    rcases hc.1 with ⟨_,h2,h3,h4⟩ | ⟨h1,_⟩
    · refine ⟨[],[y-n],?_,rfl,fun p hp=>?_,fun p hp=>?_,fun w hw=>?_,?_,rfl⟩
      · show [x,y]=[x,n+(y-n)]
        rw [show n+(y-n)=y by omega]
      · have:p=(x,y-n):=by simpa [gains] using hp
        rw [this]; exact ⟨by show y-n<m; omega,h4⟩
      · simp [losses] at hp
      · rw [List.mem_singleton.mp hw]; exact hx
      · simp
    · omega
  | 0,x,y::z::P,h,_,_,_,_,_=>by simp at h
  | k+1,x,y::z::P,h,hc,hx,place,hl,hp=>by
    obtain ⟨c1,c2,c3⟩:=hc
    rcases c1 with ⟨_,h2,h3,h4⟩ | ⟨h1,_⟩
    · rcases c2 with ⟨q1,_⟩ | ⟨q1,q2,q3⟩
      · omega
      · obtain ⟨ws,ss,e1,e2,e3,e4,e5,e6,e7⟩:=alt k z P (by simp at h; omega) c3 q2 place (by simpa using hl) hp
        refine ⟨z::ws,(y-n)::ss,?_,by simpa using e2,fun p hp=>?_,fun p hp=>?_,fun w hw=>?_,?_,?_⟩
        · show x::y::z::P=x::(n+(y-n))::intr n (z::ws) ss
          rw [← e1,show n+(y-n)=y by omega]
        · have hp':p∈(x,y-n)::gains (z::ws) ss:=hp
          rcases List.mem_cons.mp hp' with rfl | hp'
          · exact ⟨by show y-n<m; omega,h4⟩
          · exact e3 p hp'
        · have hp':p∈(z,y-n)::losses (z::ws) ss:=hp
          rcases List.mem_cons.mp hp' with rfl | hp'
          · exact q3
          · exact e4 p hp'
        · rcases List.mem_cons.mp hw with rfl | hw
          · exact hx
          · exact e5 w hw
        · exact (e6.cons y).cons_cons x
        · rw [List.length_cons,List.take_succ_cons,List.cons_append,← e7]
    · omega
def evs {α:Type}:List α→List α
  | x::_::r=>x::evs r
  | [x]=>[x]
  | []=>[]
theorem evs_intr (n:Nat):∀ (ws ss:List Nat),ws.length=ss.length→evs (intr n ws ss)=ws
  | [],[],_=>rfl
  | w::ws,s::ss,h=>by show w::evs (intr n ws ss)=_; rw [evs_intr n ws ss (by simpa using h)]
  | [],s::ss,h=>by simp at h
  | w::ws,[],h=>by simp at h
theorem ods_intr (n:Nat):∀ (ws ss:List Nat),ws.length=ss.length→evs ((intr n ws ss).drop 1)=ss.map (n+·)
  | [],[],_=>rfl
  | [w],[s],_=>rfl
  | w::w2::ws,s::s2::ss,h=>by
    have:=ods_intr n (w2::ws) (s2::ss) (by simpa using h)
    show (n+s)::evs ((n+s2)::intr n ws ss)=_
    rw [List.map_cons]
    exact congrArg _ this
  | [],s::ss,h=>by simp at h
  | w::ws,[],h=>by simp at h
  | [w],s::s2::ss,h=>by simp at h
  | w::w2::ws,[s],h=>by simp at h
theorem evs_intr2 (n:Nat):∀ (ws ss:List Nat),ws.length=ss.length→evs ((intr n ws ss).drop 2)=ws.drop 1
  | [],[],_=>rfl
  | w::ws,s::ss,h=>by show evs (intr n ws ss)=ws; exact evs_intr n ws ss (by simpa using h)
  | [],s::ss,h=>by simp at h
  | w::ws,[],h=>by simp at h
theorem intr_len (n:Nat):∀ (ws ss:List Nat),ws.length=ss.length→(intr n ws ss).length=2*ws.length
  | [],[],_=>rfl
  | w::ws,s::ss,h=>by
    have:=intr_len n ws ss (by simpa using h)
    show (intr n ws ss).length+1+1=2*(ws.length+1)
    omega
  | [],s::ss,h=>by simp at h
  | w::ws,[],h=>by simp at h
theorem intr_map {n:Nat}:∀ (ws ss:List Nat),(∀ w∈ws,w<n)→(intr n ws ss).map (fun e=>if e<n then e else e-n)=intr 0 ws ss
  | [],_,_=>rfl
  | _::_,[],_=>rfl
  | w::ws,s::ss,h=>by
    show (if w<n then w else w-n)::(if n+s<n then n+s else n+s-n)::(intr n ws ss).map _=w::(0+s)::intr 0 ws ss
    rw [if_pos (h w (by simp)),if_neg (by omega),intr_map ws ss fun v hv=>h v (List.mem_cons_of_mem _ hv),show n+s-n=0+s by omega]
theorem nd_len {α:Type} [DecidableEq α]:∀ {l m:List α},l.Nodup→(∀ x∈l,x∈m)→l.length≤m.length
  | [],_,_,_=>Nat.zero_le _
  | x::l,m,h,hs=>by
    obtain ⟨h1,h2⟩:=List.nodup_cons.mp h
    have hx:x∈m:=hs x List.mem_cons_self
    have:=nd_len (m:=m.erase x) h2 fun y hy=>(List.mem_erase_of_ne (fun z:y=x=>h1 (z ▸ hy))).mpr (hs y (List.mem_cons_of_mem _ hy))
    rw [List.length_erase_of_mem hx] at this
    have:=List.length_pos_of_mem hx
    show l.length+1≤_
    omega
def keys (kvs:List (Nat×Nat)):List Nat:=kvs.map Prod.fst
theorem keys_get {kvs:List (Nat×Nat)} {p:Nat} (h:p∈keys kvs):∃ t,key kvs t p:=by
  obtain ⟨q,hq,rfl⟩:=List.mem_map.mp h
  obtain ⟨t,ht⟩:=List.mem_iff_getElem?.mp hq
  exact ⟨t,q.2,ht⟩
theorem key_mem {kvs:List (Nat×Nat)} {t p:Nat} (h:key kvs t p):p∈keys kvs:=by
  obtain ⟨q,h⟩:=h
  exact List.mem_map.mpr ⟨_,List.mem_of_getElem? h,rfl⟩
theorem key_at {kvs:List (Nat×Nat)} {t p:Nat} (h:(keys kvs)[t]?=some p):key kvs t p:=by
  unfold keys at h
  rw [List.getElem?_map] at h
  cases e:kvs[t]? with
  | none=>rw [e] at h; cases h
  | some q=>rw [e] at h; cases h; exact ⟨q.2,e⟩
theorem Bf.roots {root:Nat→Prop} {edge:Nat→Nat→Prop} {rs:List Nat} (nd:rs.Nodup) (h:∀ r∈rs,root r):Bf root edge (rs.map fun r=>(r,r)):=by
  refine ⟨by rw [List.map_map,show (Prod.fst∘fun r:Nat=>(r,r))=id from rfl,List.map_id]; exact nd,fun t p q e=>.inl ?_⟩
  rw [List.getElem?_map] at e
  cases e2:rs[t]? with
  | none=>rw [e2] at e; cases e
  | some r=>rw [e2] at e; cases e; exact ⟨rfl,h _ (List.mem_of_getElem? e2)⟩
theorem Bf.more {root:Nat→Prop} {edge:Nat→Nat→Prop} {kvs:List (Nat×Nat)} (B:Bf root edge kvs) {p q:Nat} (hp:p∉keys kvs) (hq:q∈keys kvs) (he:edge q p):Bf root edge (kvs++[(p,q)]):=by
  refine ⟨?_,fun t a b e=>?_⟩
  · rw [List.map_append]
    refine List.nodup_append.mpr ⟨B.nd,by simp,fun x hx y hy z=>?_⟩
    have:y=p:=by simpa using hy
    exact hp (by rw [← this,← z]; exact hx)
  · by_cases ht:t<kvs.length
    · rw [List.getElem?_append_left ht] at e
      rcases B.src t a b e with z | ⟨u,r,hu,eu,ed⟩
      · exact .inl z
      · exact .inr ⟨u,r,hu,by rw [List.getElem?_append_left (by omega)]; exact eu,ed⟩
    · rw [List.getElem?_append_right (by omega)] at e
      have e0:t-kvs.length=0:=by
        cases h:t-kvs.length with
        | zero=>rfl
        | succ k=>rw [h] at e; simp at e
      rw [e0] at e
      cases e
      obtain ⟨u,r,eu⟩:=keys_get hq
      have hu:u<kvs.length:=(List.getElem?_eq_some_iff.mp eu).1
      exact .inr ⟨u,r,by omega,by rw [List.getElem?_append_left hu]; exact eu,he⟩
theorem keys_len (kvs:List (Nat×Nat)):(keys kvs).length=kvs.length:=List.length_map ..
theorem keys_snoc (kvs:List (Nat×Nat)) (p q:Nat):keys (kvs++[(p,q)])=keys kvs++[p]:=by unfold keys; rw [List.map_append]; rfl
theorem lt_len {l:List Nat} {n:Nat} (h:l.Nodup) (hl:∀ x∈l,x<n):l.length≤n:=by
  have:=nd_len (m:=List.range n) h fun x hx=>List.mem_range.mpr (hl x hx)
  rw [List.length_range] at this
  exact this
theorem evs_pick {α:Type}:∀ (l:List α),(List.range ((l.length+1) / 2)).filterMap (fun k=>l[2*k]?)=evs l
  | []=>by
    rw [show (([]:List α).length+1) / 2=0 by simp]
    rfl
  | [x]=>by
    rw [show ([x].length+1) / 2=1 by simp]
    rfl
  | x::y::r=>by
    have ih:=evs_pick r
    rw [show ((x::y::r).length+1) / 2=(r.length+1) / 2+1 by simp only [List.length_cons]; omega,List.range_succ_eq_map,List.filterMap_cons]
    show x::_=x::evs r
    rw [List.filterMap_map,← ih]
    congr 1
theorem evs_drop {α:Type} (l:List α) (a n:Nat) (hn:n=l.length) (ha:a≤n):((List.range ((n-a+1) / 2)).map fun k=>a+2*k).filterMap (fun i=>l[i]?)=evs (l.drop a):=by
  rw [List.filterMap_map,← evs_pick (l.drop a),List.length_drop,hn]
  congr 1
  funext k
  show l[a+2*k]?=_
  rw [List.getElem?_drop]
theorem evs_map {α β:Type} (f:α→β):∀ l:List α,evs (l.map f)=(evs l).map f
  | []=>rfl
  | [x]=>rfl
  | x::y::r=>by show f x::evs (r.map f)=f x::(evs r).map f; rw [evs_map f r]
def Al:List Int→Prop
  | []=>True
  | b::e::r=>b≤e∧Al r
  | [_]=>False
theorem Al.snoc:∀ {l:List Int},Al l→∀ {b e:Int},b≤e→Al (l++[b,e])
  | [],_,b,e,h=>⟨h,trivial⟩
  | [x],q,_,_,_=>q.elim
  | x::y::r,q,b,e,h=>⟨q.1,Al.snoc q.2 h⟩
theorem Al.sums:∀ {l:List Int},Al l→(evs l).sum≤(evs (l.drop 1)).sum
  | [],_=>Int.le_refl _
  | [x],q=>q.elim
  | x::y::r,q=>by
    have ih:=Al.sums q.2
    have e1:evs ((x::y::r).drop 1)=y::evs (r.drop 1):=by cases r <;> rfl
    rw [e1]
    show (x::evs r).sum≤_
    rw [List.sum_cons,List.sum_cons]
    have:=q.1
    omega
theorem step2 (n a:Nat) (o:Option Int) (h:o=some (a:Int)∨(o=none∧a=0)):L2.stepI o none (some 2) n=(List.range ((n-min a n+1) / 2)).map fun k=>min a n+2*k:=by
  have e:L2.stepI o none (some 2) n=sliceRange ((min a n:Nat):Int) (n:Int) 2:=by
    unfold L2.stepI sliceBounds
    rcases h with rfl | ⟨rfl,rfl⟩
    · show sliceRange (max 0 (min (if (a:Int)<0 then (a:Int)+n else (a:Int)) n)) n 2=_
      rw [if_neg (by omega),show max 0 (min (a:Int) (n:Int))=((min a n:Nat):Int) by omega]
    · show sliceRange 0 n 2=_
      rw [show ((min 0 n:Nat):Int)=0 by omega]
  rw [e]
  generalize ha:min a n=b
  have hb:b≤n:=by omega
  unfold sliceRange
  simp only [show (2:Int) > 0 from by decide,if_true]
  have e2:(if (b:Int)<(n:Int) then ((n:Int)-b+2-1) / 2 else 0).toNat=(n-b+1) / 2:=by
    split
    · omega
    · omega
  rw [e2]
  refine List.map_congr_left fun k _=>?_
  omega
theorem pick2 {α:Type} (l:List α) (a:Nat) (o:Option Int) (h:o=some (a:Int)∨(o=none∧a=0)):L2.pickL l (L2.stepI o none (some 2) l.length)=evs (l.drop a):=by
  rw [step2 l.length a o h]
  unfold L2.pickL
  rw [evs_drop l (min a l.length) l.length rfl (by omega)]
  by_cases c:a≤l.length
  · rw [show min a l.length=a by omega]
  · rw [show min a l.length=l.length by omega,List.drop_length,List.drop_eq_nil_of_le (by omega)]
theorem step2_len (o:Option Int) (n:Nat) (a:Nat) (h:o=some (a:Int)∨(o=none∧a=0)):(L2.stepI o none (some 2) n).length≤n:=by
  rw [step2 n a o h,List.length_map,List.length_range]
  omega
abbrev Wk3:=Int×Int×Int
def rowZ (w:Wk3):List D:=[.int w.1,.int w.2.1,.int w.2.2]
def worksD (W:List Wk3):D:=.lst (W.map fun w=>.lst (rowZ w))
theorem worksD_rows (W:List Wk3):rowsL (W.map rowZ)=worksD W:=by unfold rowsL worksD; rw [List.map_map]; rfl
theorem works_get {W:List Wk3} {k:Nat} (hk:k<W.length):(W.map fun w=>D.lst (rowZ w))[k]?=some (.lst (rowZ (W.getD k (0,0,0)))):=by
  rw [List.getElem?_map,List.getD_eq_getElem?_getD,List.getElem?_eq_getElem hk]; rfl
theorem ixNn {n a:Nat} (h:a<n):ixN n (a:Int)=some a:=by rw [ixN_in (by omega) (by omega)]; simp
theorem ixL {xs:List D} {a:Nat} {d:D} (h:xs[a]?=some d):ixD (.lst xs) (a:Int)=some d:=by
  have hl:=(List.getElem?_eq_some_iff.mp h).1
  show atI xs (a:Int)=some d
  unfold atI
  rw [ixNn hl]
  exact h
theorem ixLi {xs:List D} {i:Int} {a:Nat} {d:D} (e:i=(a:Int)) (h:xs[a]?=some d):ixD (.lst xs) i=some d:=by rw [e]; exact ixL h
theorem pow40 {ρ:Rho}:dPow (dC (.int 10)) (dC (.int 40)) ρ=some (.int (10 ^ 40)):=ev_pow (i:=10) (j:=40) rfl rfl (by unfold CPow; decide)
theorem pow49 {ρ:Rho}:dPow (dC (.int 10)) (dC (.int 49)) ρ=some (.int (10 ^ 49)):=ev_pow (i:=10) (j:=49) rfl rfl (by unfold CPow; decide)
theorem int_at {L:List Int} {i:Nat} (h:i<L.length):(L.map D.int)[i]?=some (.int (L.getD i 0)):=by
  rw [List.getElem?_map,List.getD_eq_getElem?_getD,List.getElem?_eq_getElem h]; rfl
def Gs (w:Wk3):Prop:=0≤w.1∧w.1≤w.2.1∧w.2.1<2 ^ 50∧0≤w.2.2∧w.2.2<2 ^ 50
theorem ev_intb {a:DE} {ρ:Rho} {b:Bool} (h:a ρ=some (.bl b)):dF1 intD a ρ=some (.int (if b=true then 1 else 0)):=ev_f1 h rfl
theorem scr_at {ns:List Int} {k:Int} {ρ:Rho} {a b:DE} (ha:a ρ=some (.scr ns)) (hb:b ρ=some (.int k)) (h0:0≤k) (h1:k<ns.length):dIx a b ρ=some (.int (ns.getD k.toNat 0)):=ev_ix ha hb (ixS h0 h1)
theorem by_draws (ns:List Int) (hl:ns.length≤63) (m:Nat) (hm:m≤8):∃ W:List Wk3,F_l_by_draws [.scr ns,.int (m:Int)]=some (worksD W)∧W.length=m∧∀ w∈W,Gs w:=by
  have hline:sizeLine=16777216:=sizeLine_eq
  obtain ⟨d,e,W,rfl,hW⟩:=run_ofG F_l_by_draws_def (ds:=[.scr ns,.int (m:Int)]) (P:=fun d=>∃ W:List Wk3,d=worksD W∧W.length=m∧∀ w∈W,Gs w) (by
    rw [st_l_by_draws]
    unfold B_l_by_draws
    refine wp_seq (wp_setM (rows:=([]:List Wk3).map rowZ) rfl (by simp only [List.length_cons,List.length_nil]; omega) ?_)
    walk_at "st"
    have e24:∀ ρ:Rho,dRg1 (dC (.int 24)) ρ=some ((List.range 24).map fun (i:Nat)=>D.int (0+i)):=fun ρ=>by rw [ev_rg1 (i:=24) rfl ⟨by decide,by rw [hline]; decide⟩]; rfl
    refine wp_seq (wp_setO (ds:=((List.range 24).map fun (i:Nat)=>mixedZ (ns.getD (3:Int).toNat 0) (40+(0+(i:Int)))).map D.int) ?_ (by simp only [List.length_cons,List.length_nil]; omega) ?_)
    · rw [List.map_map]
      refine ev_compA0 (fun (i:Nat)=>D.int (0+i)) (e24 _) (fun i=>D.int (mixedZ (ns.getD (3:Int).toNat 0) (40+(0+(i:Int))))) fun i hi=>⟨_,rfl,?_⟩
      have:=List.mem_range.mp hi
      exact ev_call (ev_cons (ev_call (ev_cons rfl (ev_cons rfl rfl)) (cell_at _ _ (by decide))) (ev_cons (ev_add rfl rfl) rfl)) (mixed _ _ (by omega) (by omega))
    walk_at "st"
    refine wp_seq (wp_for (by walk_at "ev") (fun j ρ=>∃ (L:List Int) (v4:Sl),L.length=24∧ρ=[.bo (.scr ns),.bo (.int (m:Int)),.om (([]:List Wk3).map rowZ),.ol (L.map D.int),v4,.un,.un]) ⟨_,_,by simp,rfl⟩ ?_ ?_)
    · rintro j d ρ hd ⟨L,v4,hL,rfl⟩
      obtain ⟨hj,rfl⟩:=upL_at hd
      refine ⟨_,rfl,?_⟩
      dsimp only [gN,slm,List.set_cons_succ,List.set_cons_zero]
      have hk:(4:Int)+j<ns.length:=by omega
      have hk0:0≤(4:Int)+j:=by omega
      generalize (4:Int)+(j:Int)=k at hk hk0
      have hr:(k % 24).toNat<24:=by omega
      have er:k % 24=((k % 24).toNat:Int):=by omega
      refine wp_put (n:=k % 24) (j:=(k % 24).toNat) (d:=.int (mixedZ (L.getD (k % 24).toNat 0+ns.getD k.toNat 0) k)) rfl ?_ (ev_mod rfl rfl (by decide)) (by rw [er,List.length_map]; exact ixNn (by omega)) ?_
      · exact ev_call (ev_cons (ev_add (ev_ix rfl (ev_mod rfl rfl (by decide)) (ixLi er (int_at (by omega)))) (scr_at rfl rfl hk0 hk)) (ev_cons rfl rfl)) (mixed _ _ hk0 (by omega))
      · walk_at "st"
        rw [set_mapI]
        exact ⟨_,_,by rw [List.length_set]; exact hL,rfl⟩
    · rintro ρ ⟨L,v4,hL,rfl⟩
      refine wp_seq (wp_for (ds:=upL 0 m) (by rw [ev_rg1 (i:=(m:Int)) rfl ⟨by omega,by omega⟩,Int.toNat_natCast]) (fun j ρ=>∃ (W:List Wk3) (v4 v5 v6:Sl),W.length=j∧(∀ w∈W,Gs w)∧ρ=[.bo (.scr ns),.bo (.int (m:Int)),.om (W.map rowZ),.ol (L.map D.int),v4,v5,v6]) ⟨[],_,_,_,rfl,by simp,rfl⟩ ?_ ?_)
      · rintro j d ρ hd ⟨W,v4,v5,v6,hW,hg,rfl⟩
        obtain ⟨hj,rfl⟩:=upL_at hd
        refine ⟨_,rfl,?_⟩
        dsimp only [gN,slm,List.set_cons_succ,List.set_cons_zero]
        rw [show (0:Int)+(j:Int)=(j:Int) by omega]
        have g0:∀ ρ:Rho,dVar 3 ρ=some (.lst (L.map D.int))→dVar 4 ρ=some (.int (j:Int))→dIx (dVar 3) (dMul (dC (.int 3)) (dVar 4)) ρ=some (.int (L.getD (3*j) 0)):=fun ρ h3 h4=>ev_ix h3 (ev_mul rfl h4 (imul (by omega))) (ixLi (a:=3*j) (by omega) (int_at (by omega)))
        have g1:∀ ρ:Rho,dVar 3 ρ=some (.lst (L.map D.int))→dVar 4 ρ=some (.int (j:Int))→dIx (dVar 3) (dAdd (dMul (dC (.int 3)) (dVar 4)) (dC (.int 1))) ρ=some (.int (L.getD (3*j+1) 0)):=fun ρ h3 h4=>ev_ix h3 (ev_add (ev_mul rfl h4 (imul (by omega))) rfl) (ixLi (a:=3*j+1) (by omega) (int_at (by omega)))
        have g2:∀ ρ:Rho,dVar 3 ρ=some (.lst (L.map D.int))→dVar 4 ρ=some (.int (j:Int))→dIx (dVar 3) (dAdd (dMul (dC (.int 3)) (dVar 4)) (dC (.int 2))) ρ=some (.int (L.getD (3*j+2) 0)):=fun ρ h3 h4=>ev_ix h3 (ev_add (ev_mul rfl h4 (imul (by omega))) rfl) (ixLi (a:=3*j+2) (by omega) (int_at (by omega)))
        generalize L.getD (3*j) 0=x0 at g0
        generalize L.getD (3*j+1) 0=x1 at g1
        generalize L.getD (3*j+2) 0=x2 at g2
        refine wp_seq (wp_set (ev_mod (g0 _ rfl rfl) rfl (by decide)) ?_)
        walk_at "st"
        refine wp_seq (wp_set (ev_mod (g1 _ rfl rfl) rfl (by decide)) ?_)
        walk_at "st"
        obtain ⟨q,hq,hq0,hq1⟩:∃ q:Int,q=(if decide (x2 / 64 % 9=0)=true then (1:Int) else 0)∧0≤q∧q≤1:=⟨_,rfl,by split <;> omega,by split <;> omega⟩
        have hm3:0<x1 % 7+1+q:=by omega
        refine wp_appM (ds:=rowZ (x0 % 8,x0 % 8+x1 % 7,x2 % (x1 % 7+1+q))) rfl (ev_cons rfl (ev_cons (ev_add rfl rfl) (ev_cons ?_ rfl))) (by rw [List.length_map]; omega) ?_
        · refine ev_mod (g2 _ rfl rfl) (ev_add (ev_add rfl rfl) ?_) hm3
          rw [hq]
          exact ev_intb (ev_eqF (ev_mod (ev_fdiv (g2 _ rfl rfl) rfl (fdok (by omega) (by omega))) rfl (by decide)) rfl)
        · walk_at "st"
          refine ⟨W++[(x0 % 8,x0 % 8+x1 % 7,x2 % (x1 % 7+1+q))],_,_,_,by rw [List.length_append,List.length_singleton,hW],fun w hw=>?_,by rw [List.map_append]; rfl⟩
          rcases List.mem_append.mp hw with hw | hw
          · exact hg w hw
          · rw [List.mem_singleton.mp hw]
            have a1:=Int.emod_nonneg x2 (show x1 % 7+1+q≠0 by omega)
            have a2:=Int.emod_lt_of_pos x2 hm3
            exact ⟨by show 0≤x0 % 8; omega,by show x0 % 8≤x0 % 8+x1 % 7; omega,by show x0 % 8+x1 % 7<2 ^ 50; omega,by show 0≤x2 % (x1 % 7+1+q); omega,by show x2 % (x1 % 7+1+q)<2 ^ 50; omega⟩
      · rintro ρ ⟨W,v4,v5,v6,hW,hg,rfl⟩
        rw [upL_len] at hW
        exact wp_retXM rfl ⟨W,worksD_rows W,hW,hg⟩)
  exact ⟨W,e,hW⟩
def lsD (l:List Int):D:=.lst (l.map D.int)
theorem ls_at {B:List (List Int)} {i:Nat} (h:i<B.length):(B.map lsD)[i]?=some (lsD (B.getD i [])):=by
  rw [List.getElem?_map,List.getD_eq_getElem?_getD,List.getElem?_eq_getElem h]; rfl
theorem ixO_ev {ρ:Rho} {i:Nat} {b:DE} {xs:List D} {k:Int} {a:Nat} {d:D} (h0:ρ.getD i .un=.ol xs) (hb:b ρ=some (.int k)) (e:k=(a:Int)) (h:xs[a]?=some d):dIxO i b ρ=some d:=by
  unfold dIxO
  rw [h0]
  dsimp only
  rw [hb]
  dsimp only
  have hl:=(List.getElem?_eq_some_iff.mp h).1
  unfold atI
  rw [e,ixNn hl]
  exact h
theorem pick_int (l:List Int) (is:List Nat):pickL (l.map D.int) is=(pickL l is).map D.int:=by
  unfold pickL
  induction is with
  | nil=>rfl
  | cons i is ih =>
    rw [List.filterMap_cons,List.filterMap_cons,List.getElem?_map]
    cases l[i]? with
    | none=>exact ih
    | some x=>exact congrArg (D.int x::·) ih
theorem sum_bound {M:Int} (hM:0≤M):∀ l:List Int,(∀ x∈l,0≤x∧x≤M)→0≤l.sum∧l.sum≤M*l.length
  | [],_=>by simp
  | x::r,h=>by
    have h1:=h x List.mem_cons_self
    have h2:=sum_bound hM r fun y hy=>h y (List.mem_cons_of_mem _ hy)
    rw [List.sum_cons,List.length_cons]
    have e:M*((r.length+1:Nat):Int)=M*r.length+M:=by rw [Int.natCast_add,Int.mul_add]; simp
    rw [e]
    omega
theorem pick_mem {l:List Int} {is:List Nat} {x:Int} (h:x∈pickL l is):x∈l:=by
  unfold pickL at h
  obtain ⟨i,_,e⟩:=List.mem_filterMap.mp h
  exact List.mem_of_getElem? e
theorem minD_cons (x:Int) (r:List Int):minD (.lst ((x::r).map D.int))=some (.int (minL x r)):=ofInts_lst _ (x::r)
theorem maxD_cons (x:Int) (r:List Int):maxD (.lst ((x::r).map D.int))=some (.int (maxL x r)):=ofInts_lst _ (x::r)
theorem sumD_ints' (ns:List Int):sumD (.lst (ns.map D.int))=some (.int ns.sum):=ofInts_lst _ ns
theorem cmp_nil (xs:List D):cmpb 20 (.lst xs) (.lst [])=true:=by
  show (decide (xs.length≠([]:List D).length) || (List.zip xs []).all fun p=>cmpb 19 p.1 p.2)=true
  rw [List.zip_nil_right]
  simp
theorem ev_isNilV {a:DE} {ρ:Rho} {xs:List D} (ha:a ρ=some (.lst xs)):dEq false a (dLst dNil) ρ=some (.bl (decide (xs=[]))):=by
  rw [ev_eq (neg:=false) ha (e:=.lst []) rfl (cmp_nil xs)]
  cases xs with
  | nil=>simp
  | cons x r=>simp
def Sm (M:Int) (l:List Int):Prop:=∀ x∈l,0≤x∧x≤M
theorem Sm.at {M:Int} {l:List Int} (h:Sm M l) (hM:0≤M) (i:Nat):0≤l.getD i 0∧l.getD i 0≤M:=by
  rw [List.getD_eq_getElem?_getD]
  cases e:l[i]? with
  | none=>exact ⟨Int.le_refl _,hM⟩
  | some x=>exact h x (List.mem_of_getElem? e)
theorem Sm.set {M:Int} {l:List Int} (h:Sm M l) {x:Int} (hx:0≤x∧x≤M) (i:Nat):Sm M (l.set i x):=fun y hy=>by
  rcases List.mem_or_eq_of_mem_set hy with hy | rfl
  · exact h y hy
  · exact hx
theorem Sm.up {M N:Int} {l:List Int} (h:Sm M l) (hMN:M≤N):Sm N l:=fun x hx=>by have:=h x hx; omega
theorem rep_int (n:Nat):(List.replicate n [D.int 0]).flatten=(List.replicate n (0:Int)).map D.int:=by
  induction n with
  | zero=>rfl
  | succ n ih=>rw [List.replicate_succ,List.replicate_succ,List.flatten_cons,ih]; rfl
theorem by_blocks (ns:List Int) (hl:ns.length≤63) (m N:Nat) (hm0:1≤m) (hm:m≤8) (hN0:1≤N) (hN:N≤8):∃ W:List Wk3,F_l_by_blocks [.scr ns,.int (m:Int),.int (N:Int)]=some (worksD W)∧W.length=m∧∀ w∈W,Gs w:=by
  have hline:sizeLine=16777216:=sizeLine_eq
  obtain ⟨d,e,W,rfl,hW⟩:=run_ofG F_l_by_blocks_def (ds:=[.scr ns,.int (m:Int),.int (N:Int)]) (P:=fun d=>∃ W:List Wk3,d=worksD W∧W.length=m∧∀ w∈W,Gs w) (by
    rw [st_l_by_blocks]
    unfold B_l_by_blocks
    refine wp_seq (wp_setO (ds:=(List.replicate m ([]:List Int)).map lsD) ?_ (by simp only [List.length_cons,List.length_nil]; omega) ?_)
    · rw [ev_compA0 (fun (i:Nat)=>D.int (0+i)) (xs:=List.range m) (by rw [ev_rg1 (i:=(m:Int)) rfl ⟨by omega,by omega⟩,Int.toNat_natCast]; rfl) (fun _=>D.lst []) fun i _=>⟨_,rfl,rfl⟩]
      rw [List.map_const',List.map_replicate,List.length_range]
      rfl
    walk_at "st"
    have eR:∀ (ρ:Rho) (b:DE) (n:Nat),n≤8→b ρ=some (.int (n:Int))→dRep (dCons (dC (.int 0)) dNil) b ρ=some ((List.replicate n (0:Int)).map D.int):=fun ρ b n hn hb=>by
      rw [ev_rep (ds:=[.int 0]) (i:=(n:Int)) rfl hb ⟨by omega,by omega,by simp; omega⟩,Int.toNat_natCast,rep_int]
    refine wp_seq (wp_setO (eR _ _ m hm rfl) (by simp only [List.length_cons,List.length_nil]; omega) ?_)
    walk_at "st"
    refine wp_seq (wp_setO (eR _ _ N hN rfl) (by simp only [List.length_cons,List.length_nil]; omega) ?_)
    walk_at "st"
    have sm0:∀ n:Nat,Sm 0 (List.replicate n (0:Int)):=fun n x hx=>by rw [(List.mem_replicate.mp hx).2]; exact ⟨Int.le_refl _,Int.le_refl _⟩
    refine wp_seq (wp_for (by walk_at "ev") (fun j ρ=>∃ (B:List (List Int)) (A C:List Int) (v6 v7 v8 v9 v10:Sl),B.length=m∧A.length=m∧C.length=N∧Sm (5*j) A∧Sm (5*j) C∧(∀ l∈B,Sm (5*j) l∧l.length≤2*j∧Al l)∧ρ=[.bo (.scr ns),.bo (.int (m:Int)),.bo (.int (N:Int)),.ol (B.map lsD),.ol (A.map D.int),.ol (C.map D.int),v6,v7,v8,v9,v10,.un,.un,.un,.un]) ⟨_,_,_,_,_,_,_,_,List.length_replicate,List.length_replicate,List.length_replicate,sm0 m,sm0 N,fun l hl=>by rw [(List.mem_replicate.mp hl).2]; exact ⟨fun x hx=>by (cases hx),Nat.zero_le _,trivial⟩,rfl⟩ ?_ ?_)
    · rintro j d ρ hd ⟨B,A,C,v6,v7,v8,v9,v10,hB,hA,hC,sA,sC,sB,rfl⟩
      obtain ⟨hj,rfl⟩:=upL_at hd
      refine ⟨_,rfl,?_⟩
      dsimp only [gN,slm,List.set_cons_succ,List.set_cons_zero]
      have hk:(4:Int)+j<ns.length:=by omega
      have hk0:0≤(4:Int)+j:=by omega
      have hk1:(4:Int)+j<63:=by omega
      have hj60:j<60:=by omega
      generalize (4:Int)+(j:Int)=k at hk hk0 hk1
      have ex:∀ ρ:Rho,dVar 0 ρ=some (.scr ns)→dVar 6 ρ=some (.int k)→dIx (dVar 0) (dVar 6) ρ=some (.int (ns.getD k.toNat 0)):=fun ρ h1 h2=>scr_at h1 h2 hk0 hk
      generalize ns.getD k.toNat 0=x at ex
      refine wp_seq (wp_set (ev_mod (ev_call (ev_cons (ex _ rfl rfl) (ev_cons rfl rfl)) (mixed _ _ hk0 (by omega))) rfl (by omega)) ?_)
      walk_at "st"
      refine wp_seq (wp_set (ev_mod (ev_call (ev_cons (ex _ rfl rfl) (ev_cons (ev_add rfl rfl) rfl)) (mixed _ _ (by omega) (by omega))) rfl (by omega)) ?_)
      walk_at "st"
      have w0:=Int.emod_nonneg (mixedZ x k) (show (m:Int)≠0 by omega)
      have w1:=Int.emod_lt_of_pos (mixedZ x k) (show 0<(m:Int) by omega)
      have b0:=Int.emod_nonneg (mixedZ x (k+64)) (show (N:Int)≠0 by omega)
      have b1:=Int.emod_lt_of_pos (mixedZ x (k+64)) (show 0<(N:Int) by omega)
      obtain ⟨a,ea⟩:∃ a:Nat,mixedZ x k % (m:Int)=(a:Int):=⟨(mixedZ x k % (m:Int)).toNat,by omega⟩
      obtain ⟨c,ec⟩:∃ c:Nat,mixedZ x (k+64) % (N:Int)=(c:Int):=⟨(mixedZ x (k+64) % (N:Int)).toNat,by omega⟩
      rw [ea,ec]
      rw [ea] at w0 w1
      rw [ec] at b0 b1
      have ha:a<m:=by omega
      have hc:c<N:=by omega
      have d1:=sA.at (by omega) a
      have d2:=sC.at (by omega) c
      have m6:=mixedZ_nn x (k+128)
      have m3:=mixedZ_nn x (k+192)
      refine wp_seq (wp_set (d:=.int (max (A.getD a 0) (C.getD c 0)+max 0 (mixedZ x (k+128) % 6-3))) (ev_add (ev_max2 (ev_ix rfl rfl (ixL (int_at (by omega)))) (ev_ix rfl rfl (ixL (int_at (by omega))))) (ev_max2 rfl (ev_sub (ev_mod (ev_call (ev_cons (ex _ rfl rfl) (ev_cons (ev_add rfl rfl) rfl)) (mixed _ _ (by omega) (by omega))) rfl (by decide)) rfl))) ?_)
      walk_at "st"
      generalize hbg:max (A.getD a 0) (C.getD c 0)+max 0 (mixedZ x (k+128) % 6-3)=bg
      refine wp_seq (wp_set (d:=.int (bg+1+mixedZ x (k+192) % 3)) (ev_add (ev_add rfl rfl) (ev_mod (ev_call (ev_cons (ex _ rfl rfl) (ev_cons (ev_add rfl rfl) rfl)) (mixed _ _ (by omega) (by omega))) rfl (by decide))) ?_)
      walk_at "st"
      generalize hen:bg+1+mixedZ x (k+192) % 3=en
      have hbg1:0≤bg∧bg≤5*((j+1:Nat):Int):=by omega
      have hen1:0≤en∧en≤5*((j+1:Nat):Int):=by omega
      refine wp_seq (wp_put (n:=(a:Int)) (j:=a) (d:=.int en) rfl rfl rfl (by rw [List.length_map]; exact ixNn (by omega)) ?_)
      walk_at "st"
      refine wp_seq (wp_put (n:=(c:Int)) (j:=c) (d:=.int en) rfl rfl rfl (by rw [List.length_map]; exact ixNn (by omega)) ?_)
      walk_at "st"
      have bl:(B.getD a [])∈B:=by rw [List.getD_eq_getElem?_getD,List.getElem?_eq_getElem (by omega)]; exact List.getElem_mem _
      obtain ⟨sb,lb,ab⟩:=sB _ bl
      refine wp_put (n:=(a:Int)) (j:=a) (d:=lsD (B.getD a []++[bg,en])) rfl (ev_lst ?_) rfl (by rw [List.length_map]; exact ixNn (by omega)) ?_
      · rw [List.map_append]
        exact ev_cat (ixO_ev rfl rfl rfl (ls_at (by omega))) (ev_lst (ev_cons rfl (ev_cons rfl rfl))) (by rw [List.length_map,List.length_map,List.length_cons,List.length_cons,List.length_nil]; omega)
      · walk_at "st"
        rw [set_mapI,set_mapI,← List.map_set]
        refine ⟨_,_,_,_,_,_,_,_,by rw [List.length_set]; exact hB,by rw [List.length_set]; exact hA,by rw [List.length_set]; exact hC,(sA.up (by omega)).set hen1 _,(sC.up (by omega)).set hen1 _,fun l hl=>?_,rfl⟩
        rcases List.mem_or_eq_of_mem_set hl with hl | rfl
        · obtain ⟨q1,q2,q3⟩:=sB l hl
          exact ⟨q1.up (by omega),by omega,q3⟩
        · refine ⟨fun y hy=>?_,by rw [List.length_append,List.length_cons,List.length_cons,List.length_nil]; omega,ab.snoc (by omega)⟩
          rcases List.mem_append.mp hy with hy | hy
          · have:=sb y hy; omega
          · simp only [List.mem_cons,List.not_mem_nil,or_false] at hy
            rcases hy with rfl | rfl
            · exact hbg1
            · exact hen1
    · rintro ρ ⟨B,A,C,v6,v7,v8,v9,v10,hB,hA,hC,sA,sC,sB,rfl⟩
      rw [upL_len] at sB
      have hJ:((min (63:Int) (ns.length:Int))-4).toNat≤59:=by omega
      generalize ((min (63:Int) (ns.length:Int))-4).toNat=J at sB hJ
      refine wp_seq (wp_setM (rows:=([]:List Wk3).map rowZ) rfl (by simp only [List.length_cons,List.length_nil]; omega) ?_)
      walk_at "st"
      refine wp_seq (wp_for (ds:=upL 0 m) (by rw [ev_rg1 (i:=(m:Int)) rfl ⟨by omega,by omega⟩,Int.toNat_natCast]) (fun j ρ=>∃ (W:List Wk3) (v6 v7 v8 v9 v10 v12 v13 v14:Sl),W.length=j∧(∀ w∈W,Gs w)∧ρ=[.bo (.scr ns),.bo (.int (m:Int)),.bo (.int (N:Int)),.ol (B.map lsD),.ol (A.map D.int),.ol (C.map D.int),v6,v7,v8,v9,v10,.om (W.map rowZ),v12,v13,v14]) ⟨[],_,_,_,_,_,_,_,_,rfl,by simp,rfl⟩ ?_ ?_)
      · rintro j d ρ hd ⟨W,v6,v7,v8,v9,v10,v12,v13,v14,hW,hg,rfl⟩
        obtain ⟨hj,rfl⟩:=upL_at hd
        refine ⟨_,rfl,?_⟩
        dsimp only [gN,slm,List.set_cons_succ,List.set_cons_zero]
        rw [show (0:Int)+(j:Int)=(j:Int) by omega]
        have bl:(B.getD j [])∈B:=by rw [List.getD_eq_getElem?_getD,List.getElem?_eq_getElem (by omega)]; exact List.getElem_mem _
        obtain ⟨sb,lb,ab⟩:=sB _ bl
        have eB:∀ ρ:Rho,ρ.getD 3 .un=.ol (B.map lsD)→dVar 6 ρ=some (.int (j:Int))→dIxO 3 (dVar 6) ρ=some (lsD (B.getD j [])):=fun ρ h1 h2=>ixO_ev h1 h2 rfl (ls_at (by omega))
        have eB2:∀ ρ:Rho,dVar 3 ρ=some (.lst (B.map lsD))→dVar 6 ρ=some (.int (j:Int))→dIx (dVar 3) (dVar 6) ρ=some (lsD (B.getD j [])):=fun ρ h1 h2=>ev_ix h1 h2 (ixL (ls_at (by omega)))
        generalize B.getD j []=l at sb lb ab eB eB2
        obtain ⟨x,r,hE,sE⟩:∃ (x:Int) (r:List Int),l++(if l=[] then [(j:Int) % 3] else [])=x::r∧Sm 1000 (x::r):=by
          cases l with
          | nil=>exact ⟨(j:Int) % 3,[],rfl,fun y hy=>by rw [List.mem_singleton.mp hy]; omega⟩
          | cons x r=>exact ⟨x,r,by simp,sb.up (by omega)⟩
        have erep:∀ ρ:Rho,dVar 3 ρ=some (.lst (B.map lsD))→dVar 6 ρ=some (.int (j:Int))→dLst (dRep (dCons (dMod (dVar 6) (dC (.int 3))) dNil) (dF1 intD (dEq false (dIx (dVar 3) (dVar 6)) (dLst dNil)))) ρ=some (lsD (if l=[] then [(j:Int) % 3] else [])):=fun ρ h1 h2=>by
          refine ev_lst ?_
          have hb:=ev_intb (ev_isNilV (xs:=l.map D.int) (eB2 ρ h1 h2))
          by_cases c:l=[]
          · subst c
            rw [ev_rep (ds:=[.int ((j:Int) % 3)]) (i:=1) (ev_cons (ev_mod h2 rfl (by decide)) rfl) hb ⟨by decide,by decide,by show 1*1≤sizeLine; omega⟩]
            rfl
          · have hb0:dF1 intD (dEq false (dIx (dVar 3) (dVar 6)) (dLst dNil)) ρ=some (.int 0):=by
              rw [hb,if_neg (by simpa using c)]
            rw [ev_rep (ds:=[.int ((j:Int) % 3)]) (i:=0) (ev_cons (ev_mod h2 rfl (by decide)) rfl) hb0 ⟨by decide,by decide,by show 1*0≤sizeLine; omega⟩,if_neg c]
            rfl
        refine wp_seq (wp_set (d:=lsD (x::r)) (ev_lst ?_) ?_)
        · rw [← hE,List.map_append]
          exact ev_cat (eB _ rfl rfl) (erep _ rfl rfl) (by rw [List.length_map,List.length_map]; split <;> simp <;> omega)
        walk_at "st"
        have pk:∀ (ρ:Rho) (lo:Rho→Option (Option Int)) (o:Option Int),o=none∨o=some 1→ρ.getD 3 .un=.ol (B.map lsD)→dVar 6 ρ=some (.int (j:Int))→lo ρ=some o→dF1 sumD (dLst (dSlS (dIxO 3 (dVar 6)) lo oNone (oSome (dC (.int 2))))) ρ=some (.int (pickL l (L2.stepI o none (some 2) l.length)).sum):=fun ρ lo o ho h1 h2 h3=>by
          have q:=ev_slS (a:=dIxO 3 (dVar 6)) (lo:=lo) (hi:=oNone) (st:=oSome (dC (.int 2))) (ds:=l.map D.int) (ev_asL (eB ρ h1 h2) rfl) h3 rfl rfl ⟨by decide,by rw [List.length_map]; have:=(ho.elim (fun z=>step2_len o l.length 0 (.inr ⟨z,rfl⟩)) fun z=>step2_len o l.length 1 (.inl z):(L2.stepI o none (some 2) l.length).length≤l.length); omega⟩
          rw [List.length_map,pick_int] at q
          exact ev_f1 (ev_lst q) (sumD_ints' _)
        refine wp_seq (wp_set (d:=.int ((pickL l (L2.stepI (some 1) none (some 2) l.length)).sum-(pickL l (L2.stepI none none (some 2) l.length)).sum)) (ev_sub (pk _ _ (some 1) (.inr rfl) rfl rfl rfl) (pk _ _ none (.inl rfl) rfl rfl rfl)) ?_)
        walk_at "st"
        have pb:∀ o:Option Int,o=none∨o=some 1→0≤(pickL l (L2.stepI o none (some 2) l.length)).sum∧(pickL l (L2.stepI o none (some 2) l.length)).sum≤1000*118:=fun o ho=>by
          have s1:=sum_bound (M:=1000) (by omega) (pickL l (L2.stepI o none (some 2) l.length)) fun y hy=>by have:=sb y (pick_mem hy); omega
          have l1:=pick_len l (L2.stepI o none (some 2) l.length)
          have l2:(L2.stepI o none (some 2) l.length).length≤l.length:=ho.elim (fun z=>step2_len o l.length 0 (.inr ⟨z,rfl⟩)) fun z=>step2_len o l.length 1 (.inl z)
          omega
        have p1:=pb (some 1) (.inr rfl)
        have p2:=pb none (.inl rfl)
        have p3:=ab.sums
        rw [← pick2 l 1 (some 1) (.inl rfl),show evs l=evs (l.drop 0) from rfl,← pick2 l 0 none (.inr ⟨rfl,rfl⟩)] at p3
        generalize (pickL l (L2.stepI (some 1) none (some 2) l.length)).sum=S1 at p1 p3
        generalize (pickL l (L2.stepI none none (some 2) l.length)).sum=S2 at p2 p3
        refine wp_seq (wp_set (d:=.int (mixedZ (ns.getD (3:Int).toNat 0) (j:Int) % 4)) (ev_mod (ev_call (ev_cons (ev_call (ev_cons rfl (ev_cons rfl rfl)) (cell_at _ _ (by decide))) (ev_cons rfl rfl)) (mixed _ _ (by omega) (by omega))) rfl (by decide)) ?_)
        walk_at "st"
        generalize mixedZ (ns.getD (3:Int).toNat 0) (j:Int)=sl
        obtain ⟨mn1,mn2⟩:=minL_spec r x
        obtain ⟨mx1,mx2⟩:=maxL_spec r x
        have z1:=sE _ mn1
        have z2:=sE _ mx1
        have z3:=mn2 _ mx1
        refine wp_appM (ds:=rowZ (max 0 (minL x r-sl % 4 / 2),maxL x r+sl % 4 % 2,S1-S2)) rfl (ev_cons (ev_max2 rfl (ev_sub (ev_f1 rfl (minD_cons _ _)) (ev_fdiv rfl rfl (fdok (by omega) (by omega))))) (ev_cons (ev_add (ev_f1 rfl (maxD_cons _ _)) (ev_mod rfl rfl (by decide))) (ev_cons rfl rfl))) (by rw [List.length_map]; omega) ?_
        walk_at "st"
        refine ⟨W++[(max 0 (minL x r-sl % 4 / 2),maxL x r+sl % 4 % 2,S1-S2)],_,_,_,_,_,_,_,_,by rw [List.length_append,List.length_singleton,hW],fun w hw=>?_,by rw [List.map_append]; rfl⟩
        rcases List.mem_append.mp hw with hw | hw
        · exact hg w hw
        · rw [List.mem_singleton.mp hw]
          exact ⟨by show 0≤max 0 (minL x r-sl % 4 / 2); omega,by show max 0 (minL x r-sl % 4 / 2)≤maxL x r+sl % 4 % 2; omega,by show maxL x r+sl % 4 % 2<2 ^ 50; omega,by show 0≤S1-S2; omega,by show S1-S2<2 ^ 50; omega⟩
      · rintro ρ ⟨W,v6,v7,v8,v9,v10,v12,v13,v14,hW,hg,rfl⟩
        rw [upL_len] at hW
        exact wp_retXM rfl ⟨W,worksD_rows W,hW,hg⟩)
  exact ⟨W,e,hW⟩
def Gf (w:Wk3):Prop:=0≤w.1∧w.1≤w.2.1∧0≤w.2.2
theorem row_at {W:List Wk3} {i:Nat} (h:i<W.length):(W.map rowZ)[i]?=some (rowZ (W.getD i (0,0,0))):=by
  rw [List.getElem?_map,List.getD_eq_getElem?_getD,List.getElem?_eq_getElem h]; rfl
theorem rows_lst (W:List Wk3):(W.map rowZ).map D.lst=W.map fun w=>D.lst (rowZ w):=by rw [List.map_map]; rfl
theorem l_floor (ns:List Int) (hl:ns.length≤63):∃ (W:List Wk3) (N:Nat),F_l_floor [.scr ns]=some (.tup [worksD W,.int (N:Int)])∧W.length≤8∧N≤8∧∀ w∈W,Gf w:=by
  have hline:sizeLine=16777216:=sizeLine_eq
  obtain ⟨d,e,W,N,rfl,hW⟩:=run_ofF F_l_floor_def (ds:=[.scr ns]) (P:=fun d=>∃ (W:List Wk3) (N:Nat),d=.tup [worksD W,.int (N:Int)]∧W.length≤8∧N≤8∧∀ w∈W,Gf w) (by
    rw [st_l_floor]
    unfold B_l_floor
    refine wp_seq (wp_set (ev_call (ev_cons rfl (ev_cons rfl rfl)) (cell_at _ _ (by decide))) ?_)
    walk_at "st"
    generalize ns.getD (0:Int).toNat 0=c
    obtain ⟨m,hm,em⟩:∃ m:Nat,m≤8∧pk3 (c % 3) (c / 3 % 9) 8 (c / 3 % 9)=(m:Int):=by
      unfold pk3
      split
      · exact ⟨(c / 3 % 9).toNat,by omega,by omega⟩
      · split
        · exact ⟨8,by omega,rfl⟩
        · exact ⟨(c / 3 % 9).toNat,by omega,by omega⟩
    have ef:∀ ρ:Rho,dVar 1 ρ=some (.int c)→dMod (dFdiv (dVar 1) (dC (.int 3))) (dC (.int 9)) ρ=some (.int (c / 3 % 9)):=fun ρ h=>ev_mod (ev_fdiv h rfl (fdok (by omega) (by omega))) rfl (by decide)
    refine wp_seq (wp_set (d:=.int (m:Int)) (by rw [← em]; exact ev_ix (ev_lst (ev_cons (ef _ rfl) (ev_cons rfl (ev_cons (ef _ rfl) rfl)))) (ev_mod rfl rfl (by decide)) (ix3I _ _ _ _)) ?_)
    walk_at "st"
    refine wp_seq (wp_set (ev_call (ev_cons (ev_call (ev_cons rfl (ev_cons rfl rfl)) (cell_at _ _ (by decide))) (ev_cons rfl rfl)) (mixed _ _ (by decide) (by decide))) ?_)
    walk_at "st"
    have mx0:=mixedZ_nn (ns.getD (1:Int).toNat 0) 33
    generalize mixedZ (ns.getD (1:Int).toNat 0) 33=mx at mx0
    obtain ⟨N,hN0,hN,eN⟩:∃ N:Nat,1≤N∧N≤8∧ixD (.lst [.int (1+mx % 3),.int (1+mx % 8),.int 8]) ((if decide (mx / 24 % 6<2)=true then (1:Int) else 0)+(if decide (mx / 24 % 6=0)=true then (1:Int) else 0))=some (.int (N:Int)):=by
      by_cases a:mx / 24 % 6<2
      · by_cases b:mx / 24 % 6=0
        · rw [if_pos (decide_eq_true a),if_pos (decide_eq_true b)]
          exact ⟨8,by omega,by omega,rfl⟩
        · rw [if_pos (decide_eq_true a),if_neg (by simpa using b)]
          exact ⟨(1+mx % 8).toNat,by omega,by omega,by rw [show (((1+mx % 8).toNat:Nat):Int)=1+mx % 8 by omega]; rfl⟩
      · rw [if_neg (by simpa using a),if_neg (by simp; omega)]
        exact ⟨(1+mx % 3).toNat,by omega,by omega,by rw [show (((1+mx % 3).toNat:Nat):Int)=1+mx % 3 by omega]; rfl⟩
    have e246:∀ ρ:Rho,dVar 3 ρ=some (.int mx)→dMod (dFdiv (dVar 3) (dC (.int 24))) (dC (.int 6)) ρ=some (.int (mx / 24 % 6)):=fun ρ h=>ev_mod (ev_fdiv h rfl (fdok (by omega) (by omega))) rfl (by decide)
    refine wp_seq (wp_set (d:=.int (N:Int)) (ev_ix (ev_lst (ev_cons (ev_add rfl (ev_mod rfl rfl (by decide))) (ev_cons (ev_add rfl (ev_mod rfl rfl (by decide))) (ev_cons rfl rfl)))) (ev_add (ev_intb (ev_lt (e246 _ rfl) rfl)) (ev_intb (ev_eqF (e246 _ rfl) rfl))) eN) ?_)
    walk_at "st"
    have rest:∀ W:List Wk3,W.length=m→(∀ w∈W,Gs w)→Wp (sSeq (sSet 6 (dFdiv (dCall F_l_cell_at (dCons (dVar 0) (dCons (dC (.int 1)) dNil))) (dC (.int 3))))
 (sSeq (sSet 7 (dIx (dLst (dCons (dC (.int 1)) (dCons (dC (.int 7)) (dCons (dAdd (dPow (dC (.int 10)) (dC (.int 40))) (dC (.int 9))) dNil)))) (dMod (dVar 6) (dC (.int 3)))))
 (sSeq (sSetM 5 (dCompM 1 [7] (asL (dVar 5)) (gN false 0) dTrue (dCons (dMul (dVar 1) (dIx (dVar 0) (dC (.int 0)))) (dCons (dMul (dVar 1) (dIx (dVar 0) (dC (.int 1)))) (dCons (dMul (dVar 1) (dIx (dVar 0) (dC (.int 2)))) dNil)))))
 (sSeq (sIf (dAnd (dT (dGt (dVar 2) (dC (.int 0)))) (dT (dEq false (dMod (dFdiv (dVar 6) (dC (.int 3))) (dC (.int 3))) (dC (.int 1)))))
 (sPut2 5 (dMod (dFdiv (dVar 6) (dC (.int 9))) (dVar 2)) (dC (.int 2)) (dAdd (dIx (dIx (dVar 5) (dMod (dFdiv (dVar 6) (dC (.int 9))) (dVar 2))) (dC (.int 2))) (dC (.int 1))))
        sPass)
 (sSeq (sSet 8 (dMul (dMod (dCall F_l_cell_at (dCons (dVar 0) (dCons (dC (.int 2)) dNil))) (dPow (dC (.int 10)) (dC (.int 49)))) (dF1 intD (dEq false (dMod (dFdiv (dVar 6) (dC (.int 9))) (dC (.int 4))) (dC (.int 1))))))
 (sRet (dTup (dCons (dLst (dComp 1 [8] (asL (dVar 5)) (gN false 0) dTrue (dLst (dCons (dAdd (dIx (dVar 0) (dC (.int 0))) (dVar 1)) (dCons (dAdd (dIx (dVar 0) (dC (.int 1))) (dVar 1)) (dCons (gScal (dIx (dVar 0) (dC (.int 2)))) dNil)))))) (dCons (dVarI 4) dNil)))))))))
        [.bo (.scr ns),.pu (.int c),.pu (.int (m:Int)),.pu (.int mx),.pu (.int (N:Int)),.om (W.map rowZ),.un,.un,.un] { nx:=fun _=>∃ (W:List Wk3) (N:Nat),D.non=.tup [worksD W,.int (N:Int)]∧W.length≤8∧N≤8∧∀ w∈W,Gf w,rt:=fun d=>∃ (W:List Wk3) (N:Nat),d=.tup [worksD W,.int (N:Int)]∧W.length≤8∧N≤8∧∀ w∈W,Gf w }:=by
      intro W hW hg
      refine wp_seq (wp_set (d:=.int (ns.getD (1:Int).toNat 0 / 3)) (ev_fdiv (ev_call (ev_cons rfl (ev_cons rfl rfl)) (cell_at _ _ (by decide))) rfl (fdok (by omega) (by omega))) ?_)
      walk_at "st"
      generalize ns.getD (1:Int).toNat 0 / 3=mo
      refine wp_seq (wp_set (d:=.int (pk3 (mo % 3) 1 7 (10 ^ 40+9))) (ev_ix (ev_lst (ev_cons rfl (ev_cons rfl (ev_cons (ev_add pow40 rfl) rfl)))) (ev_mod rfl rfl (by decide)) (ix3I _ _ _ _)) ?_)
      walk_at "st"
      generalize hu:pk3 (mo % 3) 1 7 (10 ^ 40+9)=u
      have hu0:0≤u:=by rw [← hu]; unfold pk3; split <;> (try split) <;> omega
      clear hu
      refine wp_seq (wp_setM (rows:=(W.map fun w=>((u*w.1,u*w.2.1,u*w.2.2):Wk3)).map rowZ) ?_ (by simp only [List.length_cons,List.length_nil]; omega) ?_)
      · rw [List.map_map]
        refine ev_compM0 (fun w:Wk3=>D.lst (rowZ w)) (by rw [← rows_lst]; exact ev_asL (d:=rowsL (W.map rowZ)) rfl rfl) (fun w=>rowZ (u*w.1,u*w.2.1,u*w.2.2)) fun w hw=>⟨_,rfl,?_⟩
        obtain ⟨g1,g2,g3,g4,g5⟩:=hg w hw
        exact ev_cons (ev_mul rfl (ev_ix rfl rfl rfl) (imul (.inr ⟨by omega,by omega⟩))) (ev_cons (ev_mul rfl (ev_ix rfl rfl rfl) (imul (.inr ⟨by omega,by omega⟩))) (ev_cons (ev_mul rfl (ev_ix rfl rfl rfl) (imul (.inr ⟨by omega,by omega⟩))) rfl))
      walk_at "st"
      have hg2:∀ w∈W.map (fun w=>((u*w.1,u*w.2.1,u*w.2.2):Wk3)),Gf w:=fun w hw=>by
        obtain ⟨v,hv,rfl⟩:=List.mem_map.mp hw
        obtain ⟨g1,g2,_,g4,_⟩:=hg v hv
        exact ⟨Int.mul_nonneg hu0 g1,Int.mul_le_mul_of_nonneg_left g2 hu0,Int.mul_nonneg hu0 g4⟩
      have hW2:(W.map fun w=>((u*w.1,u*w.2.1,u*w.2.2):Wk3)).length=m:=by rw [List.length_map]; exact hW
      generalize W.map (fun w=>((u*w.1,u*w.2.1,u*w.2.2):Wk3))=V at hg2 hW2
      have fin:∀ V:List Wk3,V.length=m→(∀ w∈V,Gf w)→Wp (sSeq (sSet 8 (dMul (dMod (dCall F_l_cell_at (dCons (dVar 0) (dCons (dC (.int 2)) dNil))) (dPow (dC (.int 10)) (dC (.int 49)))) (dF1 intD (dEq false (dMod (dFdiv (dVar 6) (dC (.int 9))) (dC (.int 4))) (dC (.int 1))))))
 (sRet (dTup (dCons (dLst (dComp 1 [8] (asL (dVar 5)) (gN false 0) dTrue (dLst (dCons (dAdd (dIx (dVar 0) (dC (.int 0))) (dVar 1)) (dCons (dAdd (dIx (dVar 0) (dC (.int 1))) (dVar 1)) (dCons (gScal (dIx (dVar 0) (dC (.int 2)))) dNil)))))) (dCons (dVarI 4) dNil)))))
          [.bo (.scr ns),.pu (.int c),.pu (.int (m:Int)),.pu (.int mx),.pu (.int (N:Int)),.om (V.map rowZ),.pu (.int mo),.pu (.int u),.un] { nx:=fun _=>∃ (W:List Wk3) (N:Nat),D.non=.tup [worksD W,.int (N:Int)]∧W.length≤8∧N≤8∧∀ w∈W,Gf w,rt:=fun d=>∃ (W:List Wk3) (N:Nat),d=.tup [worksD W,.int (N:Int)]∧W.length≤8∧N≤8∧∀ w∈W,Gf w }:=by
        intro V hV hgV
        have hq:∀ b:Bool,0≤(if b=true then (1:Int) else 0)∧(if b=true then (1:Int) else 0)≤1:=fun b=>by cases b <;> decide
        refine wp_seq (wp_set (ev_mul (ev_mod (ev_call (ev_cons rfl (ev_cons rfl rfl)) (cell_at _ _ (by decide))) pow49 (by decide)) (ev_intb (ev_eqF (ev_mod (ev_fdiv rfl rfl (fdok (by omega) (by omega))) rfl (by decide)) rfl)) (imul (.inr (by have:=hq (decide (mo / 9 % 4=1)); omega)))) ?_)
        walk_at "st"
        have hf0:0≤ns.getD (2:Int).toNat 0 % 10 ^ 49*(if decide (mo / 9 % 4=1)=true then (1:Int) else 0):=Int.mul_nonneg (Int.emod_nonneg _ (by decide)) (hq _).1
        generalize ns.getD (2:Int).toNat 0 % 10 ^ 49*(if decide (mo / 9 % 4=1)=true then (1:Int) else 0)=fa at hf0
        refine wp_ret (d:=.tup [worksD (V.map fun w=>((w.1+fa,w.2.1+fa,w.2.2):Wk3)),.int (N:Int)]) (ev_tup (ev_cons (ev_lst ?_) (ev_cons rfl rfl))) ⟨_,N,rfl,by rw [List.length_map]; omega,hN,fun w hw=>?_⟩
        · rw [List.map_map]
          exact ev_compA0 (fun w:Wk3=>D.lst (rowZ w)) (by rw [← rows_lst]; exact ev_asL (d:=rowsL (V.map rowZ)) rfl rfl) (fun w=>D.lst (rowZ (w.1+fa,w.2.1+fa,w.2.2))) fun w hw=>⟨_,rfl,ev_lst (ev_cons (ev_add (ev_ix rfl rfl rfl) rfl) (ev_cons (ev_add (ev_ix rfl rfl rfl) rfl) (ev_cons (ev_scal (ev_ix rfl rfl rfl) rfl) rfl)))⟩
        · obtain ⟨v,hv,rfl⟩:=List.mem_map.mp hw
          obtain ⟨g1,g2,g3⟩:=hgV v hv
          exact ⟨by show 0≤v.1+fa; omega,by show v.1+fa≤v.2.1+fa; omega,g3⟩
      by_cases q:0<m
      · have r0:=Int.emod_nonneg (mo / 9) (show (m:Int)≠0 by omega)
        have r1:=Int.emod_lt_of_pos (mo / 9) (show 0<(m:Int) by omega)
        obtain ⟨i,ei⟩:∃ i:Nat,mo / 9 % (m:Int)=(i:Int):=⟨(mo / 9 % (m:Int)).toNat,by omega⟩
        have hi:i<V.length:=by omega
        have eix:∀ ρ:Rho,dVar 6 ρ=some (.int mo)→dVar 2 ρ=some (.int (m:Int))→dMod (dFdiv (dVar 6) (dC (.int 9))) (dVar 2) ρ=some (.int (i:Int)):=fun ρ h6 h2=>by rw [← ei]; exact ev_mod (ev_fdiv h6 rfl (fdok (by omega) (by omega))) h2 (by omega)
        have hgi:Gf (V.getD i (0,0,0)):=by
          rw [List.getD_eq_getElem?_getD,List.getElem?_eq_getElem hi]; exact hg2 _ (List.getElem_mem _)
        have erow:ixD (rowsL (V.map rowZ)) (i:Int)=some (.lst (rowZ (V.getD i (0,0,0)))):=by
          show ixD (.lst ((V.map rowZ).map D.lst)) _=_
          rw [rows_lst]; exact ixL (works_get hi)
        refine wp_seq (wp_if (ev_and (ev_t (ev_gt rfl rfl)) fun _=>ev_t (ev_eqF (ev_mod (ev_fdiv rfl rfl (fdok (by omega) (by omega))) rfl (by decide)) rfl)) (fun _=>?_) fun _=>wp_pass (fin V hW2 hg2))
        refine wp_put2 (r:=i) (j:=2) (ds:=rowZ (V.getD i (0,0,0))) (n:=(i:Int)) (m:=2) (d:=.int ((V.getD i (0,0,0)).2.2+1)) rfl (ev_add (ev_ix (ev_ix rfl (eix _ rfl rfl) erow) rfl rfl) rfl) (eix _ rfl rfl) (by rw [List.length_map]; exact ixNn hi) (row_at hi) rfl rfl ?_
        walk_at "st"
        have e6:(V.map rowZ).set i [.int (V.getD i (0,0,0)).1,.int (V.getD i (0,0,0)).2.1,.int ((V.getD i (0,0,0)).2.2+1)]=(V.set i ((V.getD i (0,0,0)).1,(V.getD i (0,0,0)).2.1,(V.getD i (0,0,0)).2.2+1)).map rowZ:=by rw [List.map_set]; rfl
        have q6:=fin (V.set i ((V.getD i (0,0,0)).1,(V.getD i (0,0,0)).2.1,(V.getD i (0,0,0)).2.2+1)) (by rw [List.length_set]; exact hW2) fun w hw=>by
          rcases List.mem_or_eq_of_mem_set hw with hw | rfl
          · exact hg2 w hw
          · exact ⟨hgi.1,hgi.2.1,by have:=hgi.2.2; show 0≤(V.getD i (0,0,0)).2.2+1; omega⟩
        rw [← e6] at q6
        exact q6
      · refine wp_seq (wp_ifF (ev_and (x:=false) (y:=false) (ev_t ?_) fun z=>by cases z) (wp_pass (fin V hW2 hg2)))
        rw [ev_gt (i:=(m:Int)) (j:=0) rfl rfl]
        exact congrArg (fun b=>some (D.bl b)) (decide_eq_false (by omega))
    obtain ⟨W1,e1,hW1,hg1⟩:=by_draws ns hl m hm
    by_cases q:m=0
    · refine wp_seq (wp_if (x:=true) ?_ (fun _=>wp_setM (rows:=W1.map rowZ) (ev_callM (ev_cons rfl (ev_cons rfl rfl)) (by rw [worksD_rows]; exact e1)) (by simp only [List.length_cons,List.length_nil]; omega) (rest W1 hW1 hg1)) fun z=>by cases z)
      rw [ev_or (ev_t (ev_eqF (ev_mod (ev_call (ev_cons rfl (ev_cons rfl rfl)) (cell_at _ _ (by decide))) rfl (by decide)) rfl)) fun _=>ev_t (ev_eqF (i:=(m:Int)) (j:=0) rfl rfl)]
      rw [Option.some.injEq,Bool.or_eq_true,decide_eq_true_iff,decide_eq_true_iff]
      exact .inr (by omega)
    · obtain ⟨W2,e2,hW2,hg2⟩:=by_blocks ns hl m N (by omega) hm hN0 hN
      refine wp_seq (wp_if (ev_or (ev_t (ev_eqF (ev_mod (ev_call (ev_cons rfl (ev_cons rfl rfl)) (cell_at _ _ (by decide))) rfl (by decide)) rfl)) fun _=>ev_t (ev_eqF (i:=(m:Int)) (j:=0) rfl rfl)) (fun _=>wp_setM (rows:=W1.map rowZ) (ev_callM (ev_cons rfl (ev_cons rfl rfl)) (by rw [worksD_rows]; exact e1)) (by simp only [List.length_cons,List.length_nil]; omega) (rest W1 hW1 hg1)) fun _=>wp_setM (rows:=W2.map rowZ) (ev_callM (ev_cons rfl (ev_cons rfl (ev_cons rfl rfl))) (by rw [worksD_rows]; exact e2)) (by simp only [List.length_cons,List.length_nil]; omega) (rest W2 hW2 hg2)))
  exact ⟨W,N,e,hW⟩
def natD (x:Nat):D:=.int (x:Int)
def stR (s:I2):D:=.lst [.int s.1,.int s.2]
def stsD (S:List I2):D:=.lst (S.map stR)
def tD (T:List (List Int)):D:=.lst (T.map lsD)
theorem tD_rows (T:List (List Int)):rowsL (T.map fun r=>r.map D.int)=tD T:=by unfold rowsL tD; rw [List.map_map]; rfl
theorem t_row {T:List (List Int)} {i:Nat} (h:i<T.length):ixD (tD T) (i:Int)=some (lsD (entR T i)):=ixL (ls_at h)
theorem t_cel {T:List (List Int)} {n m i j:Nat} (h:Rect T n m) (hi:i<n) (hj:j<m):ixD (lsD (entR T i)) (j:Int)=some (.int (cel T i j)):=ixL (int_at (by rw [h.2 i hi]; exact hj))
theorem Rect.mem {T:List (List Int)} {n m:Nat} (h:Rect T n m) {r:List Int} (hr:r∈T):r.length=m:=by
  obtain ⟨i,e⟩:=List.mem_iff_getElem?.mp hr
  have hi:=(List.getElem?_eq_some_iff.mp e).1
  have:=h.2 i (by rw [← h.1]; exact hi)
  unfold entR at this
  rw [List.getD_eq_getElem?_getD,e] at this
  exact this
abbrev wk (W:List Wk3) (i:Nat):Wk3:=W.getD i (0,0,0)
abbrev sg (S:List I2) (j:Nat):I2:=S.getD j (0,0)
theorem s_get {S:List I2} {j:Nat} (h:j<S.length):(S.map stR)[j]?=some (stR (sg S j)):=by
  unfold sg
  rw [List.getElem?_map,List.getD_eq_getElem?_getD,List.getElem?_eq_getElem h]; rfl
theorem lenD_lst (xs:List D):lenD (.lst xs)=some (.int (xs.length:Int)):=rfl
def lft (W:List Wk3) (T:List (List Int)) (i:Nat):Int:=(wk W i).2.2-rowS T i
def wrm (W:List Wk3) (S:List I2) (T:List (List Int)) (i j:Nat):Int:=if (sg S j).1<(wk W i).1∨(wk W i).2.1<(sg S j).2 then 0 else (sg S j).2-(sg S j).1-cel T i j
def srm (N:Nat) (S:List I2) (T:List (List Int)) (j:Nat):Int:=((sg S j).2-(sg S j).1)*N-colS T j
section
variable {W:List Wk3} {S:List I2} {T:List (List Int)} {n m N:Nat}
theorem hours_left (hW:W.length=n) (h:Rect T n m) {i:Nat} (hi:i<n):F_hours_left [worksD W,tD T,.int (i:Int)]=some (.int (lft W T i)):=by
  refine run_eqF F_hours_left_def ?_
  rw [st_hours_left]
  unfold B_hours_left
  exact wp_ret (ev_sub (ev_ix (ev_ix rfl rfl (ixL (works_get (by omega)))) rfl rfl) (ev_f1 (ev_ix rfl rfl (t_row (by rw [h.1]; exact hi))) (sumD_ints' _))) rfl
theorem col_ev (h:Rect T n m) {j:Nat} (hj:j<m) {ρ:Rho} {it:Rho→Option (List D)} {k:Nat} {cs:List Nat} {g:DG} {el:DE} (hi:it ρ=some (T.map lsD)) (hs:∀ r∈T,∃ ρ1,g (lsD r) (r0 k cs ρ)=some ρ1∧el ρ1=some (.int (entI r j))):dF1 sumD (dLst (dComp k cs it g dTrue el)) ρ=some (.int (colS T j)):=by
  refine ev_f1 (ev_lst ?_) (sumD_ints' (T.map fun r=>entI r j))
  rw [List.map_map]
  exact ev_compA0 lsD hi (fun r=>D.int (entI r j)) hs
theorem r_at (h:Rect T n m) {j:Nat} (hj:j<m) {r:List Int} (hr:r∈T):ixD (lsD r) (j:Int)=some (.int (entI r j)):=ixL (int_at (by rw [h.mem hr]; exact hj))
theorem stretch_room (hN:N≤8) (hS:S.length=m) (h:Rect T n m) {j:Nat} (hj:j<m):F_stretch_room [.int (N:Int),stsD S,tD T,.int (j:Int)]=some (.int (srm N S T j)):=by
  refine run_eqF F_stretch_room_def ?_
  rw [st_stretch_room]
  unfold B_stretch_room
  refine wp_seq (wp_set (ev_sub (ev_ix (ev_ix rfl rfl (ixL (s_get (by omega)))) rfl rfl) (ev_ix (ev_ix rfl rfl (ixL (s_get (by omega)))) rfl rfl)) ?_)
  walk_at "st"
  exact wp_ret (ev_sub (ev_mul rfl rfl (imul (.inr ⟨by omega,by omega⟩))) (col_ev h hj (ev_asL rfl rfl) fun r hr=>⟨_,rfl,ev_scal (ev_ix rfl rfl (r_at h hj hr)) rfl⟩)) rfl
theorem work_room (hW:W.length=n) (hS:S.length=m) (h:Rect T n m) {i j:Nat} (hi:i<n) (hj:j<m):F_work_room [worksD W,stsD S,tD T,.int (i:Int),.int (j:Int)]=some (.int (wrm W S T i j)):=by
  refine run_eqF F_work_room_def ?_
  rw [st_work_room]
  unfold B_work_room
  refine wp_seq (wp_set (ev_ix (ev_ix rfl rfl (ixL (s_get (by omega)))) rfl rfl) ?_)
  walk_at "st"
  refine wp_seq (wp_set (ev_ix (ev_ix rfl rfl (ixL (s_get (by omega)))) rfl rfl) ?_)
  walk_at "st"
  refine wp_seq (wp_if (ev_or (ev_t (ev_lt rfl (ev_ix (ev_ix rfl rfl (ixL (works_get (by omega)))) rfl rfl))) fun _=>ev_t (ev_gt rfl (ev_ix (ev_ix rfl rfl (ixL (works_get (by omega)))) rfl rfl))) (fun c=>?_) fun c=>?_)
  · rw [Bool.or_eq_true,decide_eq_true_iff,decide_eq_true_iff] at c
    exact wp_ret rfl (by unfold wrm; rw [if_pos c])
  · rw [Bool.or_eq_false_iff,decide_eq_false_iff_not,decide_eq_false_iff_not] at c
    refine wp_pass (wp_ret (ev_sub (ev_sub rfl rfl) (ev_ix (ev_ix rfl rfl (t_row (by rw [h.1]; exact hi))) rfl (t_cel h hi hj))) ?_)
    unfold wrm
    rw [if_neg (by rintro (z | z); exact c.1 z; exact c.2 z)]
def nbs (W:List Wk3) (S:List I2) (T:List (List Int)) (n m p:Nat):List Nat :=
  if n≤p then (List.range n).filter fun w=>decide (0<cel T w (p-n)) else ((List.range m).filter fun j=>decide (0<wrm W S T p j)).map (n+·)
def edg (W:List Wk3) (S:List I2) (T:List (List Int)) (n m u v:Nat):Prop:=(u<n∧n≤v∧v<n+m∧0<wrm W S T u (v-n))∨(n≤u∧v<n∧0<cel T v (u-n))
theorem mem_nbs {p v:Nat}:v∈nbs W S T n m p↔edg W S T n m p v:=by
  unfold nbs edg
  by_cases c:n≤p
  · rw [if_pos c,List.mem_filter,List.mem_range,decide_eq_true_iff]
    constructor
    · exact fun h=>.inr ⟨c,h.1,h.2⟩
    · rintro (h | h)
      · omega
      · exact ⟨h.2.1,h.2.2⟩
  · rw [if_neg c,List.mem_map]
    constructor
    · rintro ⟨j,hj,rfl⟩
      rw [List.mem_filter,List.mem_range,decide_eq_true_iff] at hj
      exact .inl ⟨by omega,by omega,by omega,by rw [show n+j-n=j by omega]; exact hj.2⟩
    · rintro (h | h)
      · exact ⟨v-n,by rw [List.mem_filter,List.mem_range,decide_eq_true_iff]; exact ⟨by omega,h.2.2.2⟩,by omega⟩
      · omega
theorem rng_ev {ρ:Rho} {a:DE} {k:Nat} (h:a ρ=some (.int (k:Int))) (hk:k≤1000):dRg1 a ρ=some ((List.range k).map natD):=by
  have hline:sizeLine=16777216:=sizeLine_eq
  rw [ev_rg1 (i:=(k:Int)) h ⟨by omega,by omega⟩,Int.toNat_natCast]
  unfold upL
  congr 1
  refine List.map_congr_left fun i _=>?_
  show D.int (0+(i:Int))=D.int (i:Int)
  rw [Int.zero_add]
theorem neighbours (hW:W.length=n) (hS:S.length=m) (hn:n≤8) (hm:m≤20) (h:Rect T n m) {p:Nat} (hp:p<n+m):F_neighbours [worksD W,stsD S,tD T,.int (p:Int)]=some (.lst ((nbs W S T n m p).map natD)):=by
  have eW:lenD (worksD W)=some (.int (n:Int)):=by unfold worksD; rw [lenD_lst,List.length_map,hW]
  have eS:lenD (stsD S)=some (.int (m:Int)):=by unfold stsD; rw [lenD_lst,List.length_map,hS]
  refine run_eqF F_neighbours_def ?_
  rw [st_neighbours]
  unfold B_neighbours
  refine wp_seq (wp_set (ev_f1 rfl eW) ?_)
  walk_at "st"
  refine wp_seq (wp_ifp (p:=(n:Int)≤(p:Int)) (ev_t (ev_ge rfl rfl)) (fun c=>?_) fun c=>?_)
  · have c':n≤p:=by omega
    refine wp_ret (ev_lst (ev_compA natD (xs:=List.range n) (rng_ev rfl (by omega)) (fun w=>decide (0<cel T w (p-n))) natD fun w hw=>⟨_,rfl,ev_t (ev_gt (ev_ix (ev_ix rfl rfl (t_row (i:=w) ?_)) (ev_sub rfl rfl) ?_) rfl),fun _=>rfl⟩)) ?_
    · rw [h.1]; exact List.mem_range.mp hw
    · rw [show (p:Int)-(n:Int)=((p-n:Nat):Int) by omega]
      exact t_cel h (List.mem_range.mp hw) (by omega)
    · unfold nbs; rw [if_pos c']
  · have c':¬ n≤p:=by omega
    refine wp_pass (wp_ret (ev_lst (ev_compA natD (xs:=List.range m) (rng_ev (ev_f1 rfl eS) (by omega)) (fun j=>decide (0<wrm W S T p j)) (fun j=>natD (n+j)) fun j hj=>⟨_,rfl,ev_t (ev_gt (ev_call (ev_cons rfl (ev_cons rfl (ev_cons rfl (ev_cons rfl (ev_cons rfl rfl))))) (work_room hW hS h (by omega) (List.mem_range.mp hj))) rfl),fun _=>?_⟩)) ?_)
    · rw [ev_add (i:=(n:Int)) (j:=(j:Int)) rfl rfl]
      show some (D.int ((n:Int)+(j:Int)))=some (D.int ((n+j:Nat):Int))
      rw [Int.natCast_add]
    · unfold nbs; rw [if_neg c',List.map_map]; rfl
end
def zz (p:Nat×Nat):Int×Int:=((p.1:Int),(p.2:Int))
theorem getZ_is {kvs:List (Nat×Nat)} (p:Nat):(getZ (kvs.map zz) (p:Int)).isSome=decide (p∈keys kvs):=by
  unfold getZ keys
  induction kvs with
  | nil=>rfl
  | cons q r ih =>
    rw [List.map_cons,List.map_cons,List.find?_cons]
    by_cases c:q.1=p
    · rw [show decide ((zz q).1=(p:Int))=true by simp [zz,c]]
      simp [c]
    · rw [show decide ((zz q).1=(p:Int))=false from decide_eq_false (by show ¬ ((q.1:Int)=(p:Int)); omega)]
      dsimp only
      rw [ih]
      have c':¬ p=q.1:=fun z=>c z.symm
      simp only [List.mem_cons,c',false_or]
theorem getZ_at {kvs:List (Nat×Nat)} (nd:(keys kvs).Nodup) {t p q:Nat} (e:kvs[t]?=some (p,q)):getZ (kvs.map zz) (p:Int)=some (q:Int):=by
  unfold getZ
  unfold keys at nd
  induction kvs generalizing t with
  | nil=>simp at e
  | cons x r ih =>
    rw [List.map_cons,List.nodup_cons] at nd
    rw [List.map_cons,List.find?_cons]
    cases t with
    | zero =>
      cases e
      rw [show decide ((zz (p,q)).1=(p:Int))=true by simp [zz]]
      rfl
    | succ t =>
      have e:r[t]?=some (p,q):=by simpa using e
      have:x.1≠p:=fun z=>nd.1 (by rw [z]; exact List.mem_map.mpr ⟨_,List.mem_of_getElem? e,rfl⟩)
      rw [show decide ((zz x).1=(p:Int))=false from decide_eq_false (by show ¬ ((x.1:Int)=(p:Int)); omega)]
      exact ih nd.2 e
theorem putZ_new {kvs:List (Nat×Nat)} {p:Nat} (h:p∉keys kvs) (q:Nat):putZ (kvs.map zz) (p:Int) (q:Int)=(kvs++[(p,q)]).map zz:=by
  unfold putZ
  rw [if_neg,List.map_append]
  · rfl
  · rw [List.any_map,List.any_eq_true]
    rintro ⟨x,hx,e⟩
    have e:(zz x).1=(p:Int):=by simpa using e
    have:x.1=p:=by unfold zz at e; omega
    exact h (by rw [← this]; exact List.mem_map.mpr ⟨x,hx,rfl⟩)
theorem selfZ_new:∀ {rs:List Nat} {kvs:List (Nat×Nat)},rs.Nodup→(∀ r∈rs,r∉keys kvs)→selfZ (rs.map fun r:Nat=>(r:Int)) (kvs.map zz)=(kvs++rs.map fun r=>(r,r)).map zz
  | [],kvs,_,_=>by rw [List.map_nil,List.map_nil,List.append_nil]; rfl
  | r::rs,kvs,nd,h=>by
    obtain ⟨n1,n2⟩:=List.nodup_cons.mp nd
    show selfZ (rs.map fun r:Nat=>(r:Int)) (putZ (kvs.map zz) (r:Int) (r:Int))=_
    rw [putZ_new (h r List.mem_cons_self),selfZ_new n2 fun s hs=>?_]
    · rw [List.append_assoc]; rfl
    · rw [keys_snoc,List.mem_append,not_or]
      exact ⟨h s (List.mem_cons_of_mem _ hs),fun z=>n1 (by rw [← List.mem_singleton.mp z]; exact hs)⟩
theorem natD_map (l:List Nat):l.map natD=(l.map fun r:Nat=>(r:Int)).map D.int:=by rw [List.map_map]; rfl
structure Rch (W:List Wk3) (S:List I2) (T:List (List Int)) (n m:Nat) (kvs:List (Nat×Nat)):Prop where
  bf:Bf (fun r=>r<n∧0<lft W T r) (edg W S T n m) kvs
  roots:∀ r,r<n→0<lft W T r→r∈keys kvs
  lt:∀ p∈keys kvs,p<n+m
section
variable {W:List Wk3} {S:List I2} {T:List (List Int)} {n m N:Nat}
theorem edg_lt {u v:Nat} (h:edg W S T n m u v):v<n+m:=by
  unfold edg at h
  omega
theorem Rch.len {kvs:List (Nat×Nat)} (h:Rch W S T n m kvs):kvs.length≤n+m:=by
  rw [← keys_len]
  exact lt_len h.bf.nd h.lt
theorem reached (hW:W.length=n) (hS:S.length=m) (hn:n≤8) (hm:m≤20) (h:Rect T n m):∃ kvs:List (Nat×Nat),F_reached [worksD W,stsD S,tD T]=some (.dct (kvs.map zz))∧Rch W S T n m kvs∧∀ p∈keys kvs,∀ v,edg W S T n m p v→v∈keys kvs:=by
  have hline:sizeLine=16777216:=sizeLine_eq
  have eW:lenD (worksD W)=some (.int (n:Int)):=by unfold worksD; rw [lenD_lst,List.length_map,hW]
  obtain ⟨d,e,kvs,rfl,hk⟩:=run_ofG F_reached_def (ds:=[worksD W,stsD S,tD T]) (P:=fun d=>∃ kvs:List (Nat×Nat),d=.dct (kvs.map zz)∧Rch W S T n m kvs∧∀ p∈keys kvs,∀ v,edg W S T n m p v→v∈keys kvs) (by
    rw [st_reached]
    unfold B_reached
    generalize hrs:(List.range n).filter (fun i=>decide (0<lft W T i))=rs
    have rnd:rs.Nodup:=by rw [← hrs]; exact List.nodup_range.filter _
    have rmem:∀ r,r∈rs↔r<n∧0<lft W T r:=fun r=>by rw [← hrs,List.mem_filter,List.mem_range,decide_eq_true_iff]
    have rlen:rs.length≤n:=lt_len rnd fun r hr=>((rmem r).mp hr).1
    refine wp_seq (wp_setO (ds:=rs.map natD) ?_ (by simp only [List.length_cons,List.length_nil]; omega) ?_)
    · rw [← hrs]
      exact ev_compA natD (xs:=List.range n) (rng_ev (ev_f1 rfl eW) (by omega)) (fun i=>decide (0<lft W T i)) natD fun i hi=>⟨_,rfl,ev_t (ev_gt (ev_call (ev_cons rfl (ev_cons rfl (ev_cons rfl rfl))) (hours_left hW h (List.mem_range.mp hi))) rfl),fun _=>rfl⟩
    walk_at "st"
    refine wp_seq (wp_setD (by simp only [List.length_cons,List.length_nil]; omega) ?_)
    walk_at "st"
    refine wp_seq (wp_dictOf (ns:=rs.map fun r:Nat=>(r:Int)) (kvs:=([]:List (Nat×Nat)).map zz) (by rw [← natD_map]; rfl) rfl ⟨by simp only [List.length_cons,List.length_nil]; omega,by decide,by decide,by decide,by simp only [List.map_nil,List.length_nil,List.length_map]; omega⟩ ?_)
    rw [selfZ_new rnd fun r _ z=>by cases z]
    rw [List.nil_append]
    walk_at "st"
    refine wp_seq (wp_set rfl ?_)
    walk_at "st"
    have R0:Rch W S T n m (rs.map fun r=>(r,r)):=by
      refine ⟨Bf.roots rnd fun r hr=>(rmem r).mp hr,fun r h1 h2=>?_,fun p hp=>?_⟩
      · exact List.mem_map.mpr ⟨(r,r),List.mem_map.mpr ⟨r,(rmem r).mpr ⟨h1,h2⟩,rfl⟩,rfl⟩
      · obtain ⟨q,hq,rfl⟩:=List.mem_map.mp hp
        obtain ⟨r,hr,rfl⟩:=List.mem_map.mp hq
        have:=((rmem r).mp hr).1
        show r<n+m
        omega
    have k0:rs.map natD=(keys (rs.map fun r=>(r,r))).map natD:=by
      unfold keys
      rw [List.map_map,List.map_map]
      rfl
    rw [k0]
    refine wp_seq (wp_while (fun k ρ=>∃ (kvs:List (Nat×Nat)) (l:Nat) (v7 v8:Sl),k=n+m-l∧l≤kvs.length∧Rch W S T n m kvs∧(∀ t p,t<l→key kvs t p→∀ v,edg W S T n m p v→v∈keys kvs)∧ρ=[.pu (worksD W),.pu (stsD S),.bo (tD T),.ol ((keys kvs).map natD),.od (kvs.map zz),.un,.pu (.int (l:Int)),v7,v8]) (n+m) ⟨_,0,_,_,rfl,Nat.zero_le _,R0,fun t p ht=>by omega,rfl⟩ ?_)
    rintro k ρ ⟨kvs,l,v7,v8,rfl,hl,R,cl,rfl⟩
    have hkl:=R.len
    refine ⟨_,ev_t (ev_lt rfl (ev_f1 rfl (lenD_lst _))),fun c=>?_,fun c=>?_⟩
    · have c:(l:Int)<(((keys kvs).map natD).length:Int):=by simpa using c
      rw [List.length_map,keys_len] at c
      have hlt:l<kvs.length:=by omega
      obtain ⟨p,hp⟩:∃ p,(keys kvs)[l]?=some p:=⟨_,List.getElem?_eq_getElem (by rw [keys_len]; exact hlt)⟩
      have hpk:=key_at hp
      have hpl:=R.lt p (key_mem hpk)
      refine wp_seq (wp_set (d:=natD p) (ixO_ev rfl rfl rfl (by rw [List.getElem?_map,hp]; rfl)) ?_)
      walk_at "st"
      refine wp_seq (wp_aug (x:=(l:Int)) (y:=1) rfl rfl ?_)
      walk_at "st"
      refine wp_for (ds:=(nbs W S T n m p).map natD) (ev_asL (ev_call (ev_cons rfl (ev_cons rfl (ev_cons rfl (ev_cons rfl rfl)))) (neighbours hW hS hn hm h hpl)) rfl) (fun j ρ=>∃ (kvs':List (Nat×Nat)) (v8:Sl),Rch W S T n m kvs'∧(∃ more,kvs'=kvs++more)∧(∀ v∈(nbs W S T n m p).take j,v∈keys kvs')∧ρ=[.pu (worksD W),.pu (stsD S),.bo (tD T),.ol ((keys kvs').map natD),.od (kvs'.map zz),.un,.pu (.int ((l:Int)+1)),.pu (natD p),v8]) ⟨kvs,_,R,⟨[],by rw [List.append_nil]⟩,fun v hv=>by simp at hv,rfl⟩ ?_ ?_
      · rintro j d ρ hd ⟨kvs',v8,R',⟨more,em⟩,hv,rfl⟩
        rw [List.getElem?_map] at hd
        cases ed:(nbs W S T n m p)[j]? with
        | none=>rw [ed] at hd; cases hd
        | some v =>
          rw [ed] at hd
          cases hd
          refine ⟨_,rfl,?_⟩
          dsimp only [gN,slm,List.set_cons_succ,List.set_cons_zero]
          have hpm:p∈keys kvs':=by rw [em]; unfold keys; rw [List.map_append]; exact List.mem_append_left _ (key_mem hpk)
          have hev:edg W S T n m p v:=mem_nbs.mp (List.mem_of_getElem? ed)
          have tk:(nbs W S T n m p).take (j+1)=(nbs W S T n m p).take j++[v]:=by rw [List.take_succ,ed]; rfl
          have hl':=R'.len
          refine wp_if (ev_t (ev_inD (k:=(v:Int)) (kvs:=kvs'.map zz) rfl rfl)) (fun c=>?_) fun c=>?_
          · have c:v∉keys kvs':=by
              rw [if_pos rfl,getZ_is] at c
              simpa using c
            refine wp_seq (wp_putD (kvs:=kvs'.map zz) (k:=(v:Int)) (v:=(p:Int)) rfl rfl rfl (by rw [List.length_map]; omega) ?_)
            walk_at "st"
            rw [putZ_new c p]
            refine wp_app (ds:=(keys kvs').map natD) (d:=natD v) rfl rfl (by rw [List.length_map,keys_len]; omega) ?_
            walk_at "st"
            refine ⟨kvs'++[(v,p)],_,⟨R'.bf.more c hpm hev,fun r h1 h2=>?_,fun q hq=>?_⟩,⟨more++[(v,p)],by rw [em,List.append_assoc]⟩,fun w hw=>?_,by rw [keys_snoc,List.map_append (f:=natD)]; rfl⟩
            · rw [keys_snoc]; exact List.mem_append_left _ (R'.roots r h1 h2)
            · rw [keys_snoc] at hq
              rcases List.mem_append.mp hq with hq | hq
              · exact R'.lt q hq
              · rw [List.mem_singleton.mp hq]; exact edg_lt hev
            · rw [keys_snoc]
              rw [tk] at hw
              rcases List.mem_append.mp hw with hw | hw
              · exact List.mem_append_left _ (hv w hw)
              · exact List.mem_append_right _ hw
          · have c:v∈keys kvs':=by
              rw [if_pos rfl,getZ_is] at c
              simpa using c
            refine wp_pass ⟨kvs',_,R',⟨more,em⟩,fun w hw=>?_,rfl⟩
            rw [tk] at hw
            rcases List.mem_append.mp hw with hw | hw
            · exact hv w hw
            · rw [List.mem_singleton.mp hw]; exact c
      · rintro ρ ⟨kvs',v8,R',⟨more,em⟩,hv,rfl⟩
        rw [List.length_map,List.take_length] at hv
        refine ⟨n+m-(l+1),by omega,kvs',l+1,_,_,rfl,by rw [em,List.length_append]; omega,R',fun t q ht hk v hq=>?_,rfl⟩
        have hk':key kvs t q:=by
          obtain ⟨r,hr⟩:=hk
          rw [em,List.getElem?_append_left (by omega)] at hr
          exact ⟨r,hr⟩
        by_cases ht':t<l
        · have:=cl t q ht' hk' v hq
          rw [em]; unfold keys; rw [List.map_append]; exact List.mem_append_left _ this
        · have:t=l:=by omega
          subst this
          have:q=p:=by
            obtain ⟨r1,h1⟩:=hk'
            obtain ⟨r2,h2⟩:=hpk
            rw [h1] at h2
            cases h2; rfl
          subst this
          exact hv v (mem_nbs.mpr hq)
    · have c:¬ (l:Int)<(((keys kvs).map natD).length:Int):=by simpa using c
      rw [List.length_map,keys_len] at c
      have:l=kvs.length:=by omega
      subst this
      refine wp_retXD rfl ⟨kvs,rfl,R,fun p hp v hv=>?_⟩
      obtain ⟨t,ht⟩:=keys_get hp
      have htl:t<kvs.length:=by obtain ⟨q,e⟩:=ht; exact (List.getElem?_eq_some_iff.mp e).1
      exact cl t p htl ht v hv)
  exact ⟨kvs,e,hk⟩
end
theorem ev_dif {c:Rho→Option Bool} {a b:DE} {ρ:Rho} {x:Bool} {d:D} (h:c ρ=some x) (h1:x=true→a ρ=some d) (h2:x=false→b ρ=some d):dIf c a b ρ=some d:=by
  unfold dIf
  rw [h]
  cases x with
  | true=>exact h1 rfl
  | false=>exact h2 rfl
theorem ix_last (xs:List D) (d:D):ixD (.lst (xs++[d])) (-1)=some d:=by
  show atI (xs++[d]) (-1)=some d
  unfold atI ixN
  rw [if_neg (by omega),List.length_append,List.length_singleton,if_pos (by omega)]
  rw [show ((-1:Int)+((xs.length+1:Nat):Int)).toNat=xs.length by omega]
  show (xs++[d])[xs.length]?=some d
  rw [List.getElem?_append_right (Nat.le_refl _),Nat.sub_self]
  rfl
structure Wy (W:List Wk3) (S:List I2) (T:List (List Int)) (n m w0:Nat) (ws ss:List Nat) (sl:Nat):Prop where
  len:(w0::ws).length=ss.length
  last:ss=ss.take ws.length++[sl]
  gn:∀ p∈gains (w0::ws) ss,p.2<m∧0<wrm W S T p.1 p.2
  ls:∀ p∈losses (w0::ws) ss,0<cel T p.1 p.2
  lt:∀ w∈w0::ws,w<n
  nd:(w0::ws).Nodup
  root:0<lft W T w0
theorem zip_has:∀ {ws ss:List Nat},ws.length=ss.length→∀ s∈ss,∃ p∈ws.zip ss,p.2=s
  | [],[],_,s,h=>by cases h
  | w::ws,t::ss,hl,s,h=>by
    rcases List.mem_cons.mp h with rfl | h
    · exact ⟨(w,s),by rw [List.zip_cons_cons]; exact List.mem_cons_self,rfl⟩
    · obtain ⟨p,hp,e⟩:=zip_has (ws:=ws) (by simpa using hl) s h
      exact ⟨p,by rw [List.zip_cons_cons]; exact List.mem_cons_of_mem _ hp,e⟩
  | [],t::ss,hl,_,_=>by simp at hl
  | w::ws,[],hl,_,_=>by simp at hl
section
variable {W:List Wk3} {S:List I2} {T:List (List Int)} {n m N:Nat}
theorem Wy.slt {w0:Nat} {ws ss:List Nat} {sl:Nat} (h:Wy W S T n m w0 ws ss sl):∀ s∈ss,s<m:=fun s hs=>by
  obtain ⟨p,hp,e⟩:=zip_has h.len s hs
  rw [← e]
  exact (h.gn p hp).1
theorem Wy.sl_lt {w0:Nat} {ws ss:List Nat} {sl:Nat} (h:Wy W S T n m w0 ws ss sl):sl<m:=h.slt sl (by rw [h.last]; simp)
theorem way_to (hn:n≤8) (hm:m≤20) {kvs:List (Nat×Nat)} (R:Rch W S T n m kvs) {place:Nat} (hp:place∈keys kvs) (hpl:n≤place):∃ (w0:Nat) (ws ss:List Nat),F_way_to [.dct (kvs.map zz),.int (place:Int),.int (n:Int)]=some (.lst ((intr 0 (w0::ws) ss).map natD))∧Wy W S T n m w0 ws ss (place-n):=by
  have hline:sizeLine=16777216:=sizeLine_eq
  obtain ⟨t0,ht0⟩:=keys_get hp
  obtain ⟨d,e,w0,ws,ss,rfl,hk⟩:=run_ofF F_way_to_def (ds:=[.dct (kvs.map zz),.int (place:Int),.int (n:Int)]) (P:=fun d=>∃ (w0:Nat) (ws ss:List Nat),d=.lst ((intr 0 (w0::ws) ss).map natD)∧Wy W S T n m w0 ws ss (place-n)) (by
    rw [st_way_to]
    unfold B_way_to
    refine wp_seq (wp_setO (ds:=[place].reverse.map natD) rfl (by simp only [List.length_cons,List.length_nil]; omega) ?_)
    walk_at "st"
    refine wp_seq (wp_while (fun t ρ=>∃ (x:Nat) (r:List Nat),Bk (edg W S T n m) kvs place t (x::r)∧ρ=[.pu (.dct (kvs.map zz)),.pu (.int (place:Int)),.pu (.int (n:Int)),.ol ((x::r).reverse.map natD)]) t0 ⟨place,[],Bk.one ht0,rfl⟩ ?_)
    rintro t ρ ⟨x,r,B,rfl⟩
    obtain ⟨x',r',e1,q,eq⟩:=B.front
    cases e1
    have el:∀ ρ:Rho,dVar 3 ρ=some (.lst ((x::r).reverse.map natD))→dIx (dVar 3) (dNeg (dC (.int 1))) ρ=some (natD x):=fun ρ h=>by
      refine ev_ix h (ev_neg rfl) ?_
      rw [List.reverse_cons,List.map_append]
      exact ix_last _ _
    have eg:∀ ρ:Rho,dVar 0 ρ=some (.dct (kvs.map zz))→dVar 3 ρ=some (.lst ((x::r).reverse.map natD))→dGetD (dVar 0) (dIx (dVar 3) (dNeg (dC (.int 1)))) ρ=some (natD q):=fun ρ h0 h3=>ev_getD h0 (el ρ h3) (getZ_at R.bf.nd eq)
    have hlen:(x::r).length≤n+m:=lt_len B.nd fun y hy=>by
      obtain ⟨u,_,hu⟩:=B.up y hy
      exact R.lt y (key_mem hu)
    refine ⟨_,ev_t (ev_neF (eg _ rfl rfl) (el _ rfl)),fun c=>?_,fun c=>?_⟩
    · have c:q≠x:=by
        have c:¬ ((q:Int)=(x:Int)):=by simpa using c
        intro z; exact c (by rw [z])
      obtain ⟨u,hu,B'⟩:=Bk.step R.bf B eq c
      refine wp_app (ds:=(x::r).reverse.map natD) (d:=natD q) rfl (eg _ rfl rfl) (by rw [List.length_map,List.length_reverse]; omega) ?_
      walk_at "st"
      refine ⟨u,hu,q,x::r,B',?_⟩
      rw [List.reverse_cons (a:=q),List.map_append]
      rfl
    · have c:q=x:=by
        have c:(q:Int)=(x:Int):=by simpa using c
        omega
      subst c
      have hr:=R.bf.root eq
      obtain ⟨ws,ss,a1,a2,a3,a4,a5,a6,a7⟩:=alt (n:=n) (m:=m) (wr:=fun u j=>0<wrm W S T u j) (tb:=fun v j=>0<cel T v j) r.length q r (Nat.le_refl _) B.chn hr.1 place B.last hpl
      refine wp_ret (ev_lst (ev_compA0 natD (xs:=q::r) ?_ (fun e=>natD (if e<n then e else e-n)) fun e he=>⟨_,rfl,?_⟩)) ⟨q,ws,ss,?_,a2,a7,a3,a4,a5,a6.nodup B.nd,hr.2⟩
      · rw [ev_rev (ds:=(q::r).reverse.map natD) (ev_asL rfl rfl),← List.map_reverse,List.reverse_reverse]
      · refine ev_dif (ev_t (ev_lt (i:=(e:Int)) (j:=(n:Int)) rfl rfl)) (fun z=>?_) fun z=>?_
        · have z:(e:Int)<(n:Int):=by simpa using z
          rw [if_pos (by omega)]
          exact ev_scal rfl rfl
        · have z:¬ (e:Int)<(n:Int):=by simpa using z
          rw [if_neg (by omega),ev_sub (i:=(e:Int)) (j:=(n:Int)) rfl rfl]
          show some (D.int ((e:Int)-(n:Int)))=some (D.int ((e-n:Nat):Int))
          rw [show (e:Int)-(n:Int)=((e-n:Nat):Int) by omega]
      · have:=intr_map (n:=n) (q::ws) ss a5
        rw [← a1] at this
        rw [← this,List.map_map]
        rfl)
  exact ⟨w0,ws,ss,e,hk⟩
theorem shortest_way (hW:W.length=n) (hS:S.length=m) (hn:n≤8) (hm:m≤20) (hN:N≤8) (h:Rect T n m) :
    (F_shortest_way [worksD W,.int (N:Int),stsD S,tD T]=some (.lst [])∧∃ kvs,Rch W S T n m kvs∧(∀ p∈keys kvs,∀ v,edg W S T n m p v→v∈keys kvs)∧∀ j,n+j∈keys kvs→srm N S T j≤0) ∨
    ∃ (w0:Nat) (ws ss:List Nat) (sl:Nat),F_shortest_way [worksD W,.int (N:Int),stsD S,tD T]=some (.lst ((intr 0 (w0::ws) ss).map natD))∧Wy W S T n m w0 ws ss sl∧0<srm N S T sl:=by
  have eW:lenD (worksD W)=some (.int (n:Int)):=by unfold worksD; rw [lenD_lst,List.length_map,hW]
  obtain ⟨kvs,ek,R,cl⟩:=reached hW hS hn hm h
  obtain ⟨d,e,hd⟩:=run_ofF F_shortest_way_def (ds:=[worksD W,.int (N:Int),stsD S,tD T]) (P:=fun d=>(d=.lst []∧∀ j,n+j∈keys kvs→srm N S T j≤0)∨∃ (w0:Nat) (ws ss:List Nat) (sl:Nat),d=.lst ((intr 0 (w0::ws) ss).map natD)∧Wy W S T n m w0 ws ss sl∧0<srm N S T sl) (by
    rw [st_shortest_way]
    unfold B_shortest_way
    refine wp_seq (wp_setCD (ev_cons rfl (ev_cons rfl (ev_cons rfl rfl))) ek (by simp only [List.length_cons,List.length_nil]; omega) ?_)
    walk_at "st"
    refine wp_seq (wp_forD (kvs:=kvs.map zz) rfl (fun j ρ=>∃ (v5 v6:Sl),(∀ i p,i<j→(keys kvs)[i]?=some p→∀ k,p=n+k→srm N S T k≤0)∧ρ=[.pu (worksD W),.pu (.int (N:Int)),.pu (stsD S),.bo (tD T),.pu (.dct (kvs.map zz)),v5,v6]) ⟨_,_,fun i p hi=>by omega,rfl⟩ ?_ ?_)
    · rintro j ρ p hp ⟨v5,v6,hv,rfl⟩
      rw [List.getElem?_map] at hp
      cases ep:kvs[j]? with
      | none=>rw [ep] at hp; cases hp
      | some q =>
        rw [ep] at hp
        cases hp
        refine ⟨_,rfl,?_⟩
        dsimp only [gN,slm,List.set_cons_succ,List.set_cons_zero]
        have hkj:(keys kvs)[j]?=some q.1:=by unfold keys; rw [List.getElem?_map,ep]; rfl
        have hq:q.1∈keys kvs:=List.mem_of_getElem? hkj
        have hql:=R.lt _ hq
        refine wp_seq (wp_set (d:=.int ((q.1:Int)-(n:Int))) (ev_sub rfl (ev_f1 rfl eW)) ?_)
        walk_at "st"
        by_cases c:n≤q.1
        · have es:F_stretch_room [.int (N:Int),stsD S,tD T,.int ((q.1:Int)-(n:Int))]=some (.int (srm N S T (q.1-n))):=by
            rw [show (q.1:Int)-(n:Int)=((q.1-n:Nat):Int) by omega]
            exact stretch_room hN hS h (by omega)
          refine wp_if (ev_and (ev_t (ev_ge rfl rfl)) fun _=>ev_t (ev_gt (ev_call (ev_cons rfl (ev_cons rfl (ev_cons rfl (ev_cons rfl rfl)))) es) rfl)) (fun z=>?_) fun z=>?_
          · rw [Bool.and_eq_true,decide_eq_true_iff,decide_eq_true_iff] at z
            obtain ⟨w0,ws,ss,ew,hw⟩:=way_to hn hm R hq c
            exact wp_ret (ev_call (ev_cons rfl (ev_cons rfl (ev_cons (ev_f1 rfl eW) rfl))) ew) (.inr ⟨w0,ws,ss,_,rfl,hw,z.2⟩)
          · refine wp_pass ⟨_,_,fun i p hi ei k ek=>?_,rfl⟩
            by_cases hij:i<j
            · exact hv i p hij ei k ek
            · have:i=j:=by omega
              subst this
              rw [hkj] at ei
              cases ei
              rw [Bool.and_eq_false_iff,decide_eq_false_iff_not,decide_eq_false_iff_not] at z
              rw [show q.1-n=k by omega] at z
              omega
        · refine wp_ifF ?_ (wp_pass ⟨_,_,fun i p hi ei k ek=>?_,rfl⟩)
          · refine (ev_and (x:=false) (y:=false) (ev_t ?_) fun z=>by cases z)
            rw [ev_ge (i:=(q.1:Int)-(n:Int)) (j:=0) rfl rfl]
            exact congrArg (fun b=>some (D.bl b)) (decide_eq_false (by omega))
          · by_cases hij:i<j
            · exact hv i p hij ei k ek
            · have:i=j:=by omega
              subst this
              rw [hkj] at ei
              cases ei
              omega
    · rintro ρ ⟨v5,v6,hv,rfl⟩
      refine wp_ret rfl (.inl ⟨rfl,fun j hj=>?_⟩)
      obtain ⟨t,ht⟩:=List.mem_iff_getElem?.mp hj
      refine hv t _ ?_ ht j rfl
      rw [List.length_map,← keys_len]
      exact (List.getElem?_eq_some_iff.mp ht).1)
  rcases hd with ⟨rfl,hj⟩ | ⟨w0,ws,ss,sl,rfl,hw⟩
  · exact .inl ⟨e,kvs,R,cl,hj⟩
  · exact .inr ⟨w0,ws,ss,sl,e,hw⟩
end
def pD (p:Nat×Nat):D:=.tup [natD p.1,natD p.2]
theorem zp_nat:∀ (ws ss:List Nat),zpL (ws.map natD) (ss.map natD)=(ws.zip ss).map pD
  | [],_=>rfl
  | _::_,[]=>rfl
  | w::ws,s::ss=>by
    have:=zp_nat ws ss
    unfold zpL at this ⊢
    rw [List.map_cons,List.map_cons,List.zipWith_cons_cons,this]
    rfl
def tR (T:List (List Int)):List (List D):=T.map fun r=>r.map D.int
theorem tR_len (T:List (List Int)):(tR T).length=T.length:=List.length_map ..
theorem tR_at {T:List (List Int)} {i:Nat} (h:i<T.length):(tR T)[i]?=some ((entR T i).map D.int):=by
  unfold tR entR
  rw [List.getElem?_map,List.getD_eq_getElem?_getD,List.getElem?_eq_getElem h]; rfl
theorem tR_add {T:List (List Int)} {i j:Nat} {a:Int}:(tR T).set i (((entR T i).map D.int).set j (.int (cel T i j+a)))=tR (addC T i j a):=by
  unfold addC tR
  rw [List.map_set,List.map_set]
theorem minD_ne {l:List Int} (h:l≠[]):∃ a,minD (.lst (l.map D.int))=some (.int a)∧a∈l∧∀ x∈l,a≤x:=by
  cases l with
  | nil=>exact absurd rfl h
  | cons x r=>exact ⟨_,minD_cons x r,minL_spec r x⟩
section
variable {W:List Wk3} {S:List I2} {T:List (List Int)} {n m N:Nat}
theorem aug_loop {ps:List (Nat×Nat)} {a:Int} (hr:Rect T n m) (hp:∀ p∈ps,p.1<n∧p.2<m) (j:Nat):Rect (addAll T (ps.take j) a) n m:=(addAll_ok (a:=a) hr fun p hp'=>hp p (List.mem_of_mem_take hp')).1
theorem addAll_snoc (T:List (List Int)) (ps:List (Nat×Nat)) (p:Nat×Nat) (a:Int):addAll T (ps++[p]) a=addC (addAll T ps a) p.1 p.2 a:=by unfold addAll; rw [List.foldl_append]; rfl
theorem move_hours (hW:W.length=n) (hS:S.length=m) (hn:n≤8) (hm:m≤20) (hN:N≤8) (h:Rect T n m) {w0:Nat} {ws ss:List Nat} {sl:Nat} (y:Wy W S T n m w0 ws ss sl) (hs:0<srm N S T sl):∃ a:Int,0<a∧a≤lft W T w0∧a≤srm N S T sl∧(∀ p∈gains (w0::ws) ss,a≤wrm W S T p.1 p.2)∧(∀ p∈losses (w0::ws) ss,a≤cel T p.1 p.2) ∧
    ∀ q qs,F_move_hours q qs [worksD W,.int (N:Int),stsD S,tD T,.lst ((intr 0 (w0::ws) ss).map natD)]=some (tR (moved T (w0::ws) ss a)):=by
  have hline:sizeLine=16777216:=sizeLine_eq
  have hwl:(w0::ws).length≤n:=lt_len y.nd y.lt
  generalize hl:(lft W T w0::srm N S T sl::((gains (w0::ws) ss).map fun p=>wrm W S T p.1 p.2))++((losses (w0::ws) ss).map fun p=>cel T p.1 p.2)=l
  obtain ⟨a,ea,ha,hmin⟩:=minD_ne (l:=l) (by rw [← hl]; simp)
  have pos:∀ x∈l,0<x:=fun x hx=>by
    rw [← hl] at hx
    rcases List.mem_append.mp hx with hx | hx
    · rcases List.mem_cons.mp hx with rfl | hx
      · exact y.root
      · rcases List.mem_cons.mp hx with rfl | hx
        · exact hs
        · obtain ⟨p,hp,rfl⟩:=List.mem_map.mp hx
          exact (y.gn p hp).2
    · obtain ⟨p,hp,rfl⟩:=List.mem_map.mp hx
      exact y.ls p hp
  have inL:∀ x,x∈l↔x∈(lft W T w0::srm N S T sl::((gains (w0::ws) ss).map fun p=>wrm W S T p.1 p.2))++((losses (w0::ws) ss).map fun p=>cel T p.1 p.2):=fun x=>by rw [hl]
  refine ⟨a,pos a ha,hmin _ ((inL _).mpr (List.mem_append_left _ List.mem_cons_self)),hmin _ ((inL _).mpr (List.mem_append_left _ (List.mem_cons_of_mem _ List.mem_cons_self))),fun p hp=>hmin _ ((inL _).mpr (List.mem_append_left _ (List.mem_cons_of_mem _ (List.mem_cons_of_mem _ (List.mem_map.mpr ⟨p,hp,rfl⟩))))),fun p hp=>hmin _ ((inL _).mpr (List.mem_append_right _ (List.mem_map.mpr ⟨p,hp,rfl⟩))),fun q qs=>?_⟩
  have gl:∀ p∈gains (w0::ws) ss,p.1<n∧p.2<m:=fun p hp=>⟨y.lt _ (List.of_mem_zip (a:=p.1) (b:=p.2) hp).1,(y.gn p hp).1⟩
  have ll:∀ p∈losses (w0::ws) ss,p.1<n∧p.2<m:=fun p hp=>⟨y.lt _ (List.mem_of_mem_drop (List.of_mem_zip (a:=p.1) (b:=p.2) hp).1),y.slt _ (List.of_mem_zip (a:=p.1) (b:=p.2) hp).2⟩
  refine run_eqU F_move_hours_def (rows:=tR T) (by rw [show rowsL (tR T)=tD T from tD_rows T]; rfl) ?_
  rw [st_move_hours]
  dsimp only [List.set_cons_succ,List.set_cons_zero]
  unfold B_move_hours
  have il:=intr_len 0 (w0::ws) ss y.len
  have sl2:∀ (ρ:Rho) (lo:Rho→Option (Option Int)) (k:Nat),dVarI 4 ρ=some (.lst ((intr 0 (w0::ws) ss).map natD))→lo ρ=some (some (k:Int))→dLst (dSlS (dVarI 4) lo oNone (oSome (dC (.int 2)))) ρ=some (.lst ((evs ((intr 0 (w0::ws) ss).drop k)).map natD)):=fun ρ lo k h4 hlo=>by
    have q:=ev_slS (a:=dVarI 4) (lo:=lo) (hi:=oNone) (st:=oSome (dC (.int 2))) (ds:=(intr 0 (w0::ws) ss).map natD) (ev_asL h4 rfl) hlo rfl rfl ⟨by decide,by have:=step2_len (some (k:Int)) ((intr 0 (w0::ws) ss).map natD).length k (.inl rfl); rw [List.length_map] at this ⊢; omega⟩
    rw [pick2 _ k _ (.inl rfl),← List.map_drop,evs_map] at q
    exact ev_lst q
  have e0:evs ((intr 0 (w0::ws) ss).drop 0)=w0::ws:=evs_intr 0 (w0::ws) ss y.len
  have e1:evs ((intr 0 (w0::ws) ss).drop 1)=ss:=by rw [ods_intr 0 (w0::ws) ss y.len]; rw [show (fun x:Nat=>0+x)=id from funext fun x=>Nat.zero_add x,List.map_id]
  have e2:evs ((intr 0 (w0::ws) ss).drop 2)=(w0::ws).drop 1:=evs_intr2 0 (w0::ws) ss y.len
  refine wp_seq (wp_set (d:=.lst ((gains (w0::ws) ss).map pD)) (ev_lst ?_) ?_)
  · rw [ev_zip (ev_asL (sl2 _ _ 0 rfl rfl) rfl) (ev_asL (sl2 _ _ 1 rfl rfl) rfl),e0,e1,zp_nat]; rfl
  walk_at "st"
  refine wp_seq (wp_set (d:=.lst ((losses (w0::ws) ss).map pD)) (ev_lst ?_) ?_)
  · rw [ev_zip (ev_asL (sl2 _ _ 2 rfl rfl) rfl) (ev_asL (sl2 _ _ 1 rfl rfl) rfl),e2,e1,zp_nat]; rfl
  walk_at "st"
  have t0:∀ ρ:Rho,ρ.getD 3 .un=.pm q qs (tR T)→dVar 3 ρ=some (tD T):=fun ρ h3=>by unfold dVar; rw [h3]; dsimp only; rw [← tD_rows]; rfl
  obtain ⟨ss',ess⟩:∃ ss',ss=ss'++[sl]:=⟨_,y.last⟩
  have elast:∃ xs,(intr 0 (w0::ws) ss).map natD=xs++[natD sl]:=by
    have key:∀ (ws us:List Nat),ws.length=us.length+1→∃ xs,(intr 0 ws (us++[sl])).map natD=xs++[natD sl]:=by
      intro ws us
      induction us generalizing ws with
      | nil =>
        intro h
        match ws,h with
        | [w],_=>exact ⟨[natD w],by show [natD w,natD (0+sl)]=_; rw [Nat.zero_add]; rfl⟩
      | cons u us ih =>
        intro h
        match ws,h with
        | w::ws,h =>
          obtain ⟨xs,e⟩:=ih ws (by simpa using h)
          exact ⟨natD w::natD (0+u)::xs,by show natD w::natD (0+u)::(intr 0 ws (us++[sl])).map natD=_; rw [e]; rfl⟩
    have hlen:=y.len
    rw [ess] at hlen ⊢
    exact key (w0::ws) ss' (by rw [hlen,List.length_append]; rfl)
  have ehead:∃ xs,(intr 0 (w0::ws) ss).map natD=natD w0::xs:=by
    have hlen:=y.len
    cases ss with
    | nil=>simp at hlen
    | cons s r=>exact ⟨_,rfl⟩
  obtain ⟨x1,ex1⟩:=elast
  obtain ⟨x2,ex2⟩:=ehead
  have hl0:∀ ρ:Rho,dVarI 0 ρ=some (worksD W)→ρ.getD 3 .un=.pm q qs (tR T)→dVar 4 ρ=some (.lst ((intr 0 (w0::ws) ss).map natD))→dCall F_hours_left (dCons (dVarI 0) (dCons (dVar 3) (dCons (dIx (dVar 4) (dC (.int 0))) dNil))) ρ=some (.int (lft W T w0)):=fun ρ h0 h3 h4=>ev_call (ev_cons h0 (ev_cons (t0 ρ h3) (ev_cons (ev_ix (e:=natD w0) h4 rfl (by rw [ex2]; exact ixLi (a:=0) rfl rfl)) rfl))) (hours_left hW h (y.lt _ List.mem_cons_self))
  have hr0:∀ ρ:Rho,dVarI 1 ρ=some (.int (N:Int))→dVarI 2 ρ=some (stsD S)→ρ.getD 3 .un=.pm q qs (tR T)→dVar 4 ρ=some (.lst ((intr 0 (w0::ws) ss).map natD))→dCall F_stretch_room (dCons (dVarI 1) (dCons (dVarI 2) (dCons (dVar 3) (dCons (dIx (dVar 4) (dNeg (dC (.int 1)))) dNil)))) ρ=some (.int (srm N S T sl)):=fun ρ h1 h2 h3 h4=>ev_call (ev_cons h1 (ev_cons h2 (ev_cons (t0 ρ h3) (ev_cons (ev_ix (e:=natD sl) h4 (ev_neg rfl) (by rw [ex1]; exact ix_last _ _)) rfl)))) (stretch_room hN hS h y.sl_lt)
  refine wp_seq (wp_setO (ds:=[lft W T w0,srm N S T sl].map D.int) (ev_cons (hl0 _ rfl rfl rfl) (ev_cons (hr0 _ rfl rfl rfl rfl) rfl)) (by simp only [List.length_cons,List.length_nil]; omega) ?_)
  walk_at "st"
  have gln:(gains (w0::ws) ss).length≤8:=by unfold gains; rw [List.length_zip]; omega
  have lln:(losses (w0::ws) ss).length≤8:=by unfold losses; rw [List.length_zip,List.length_drop]; omega
  have vw:∀ (k:Nat) (cs:List Nat) (ρ:Rho),True:=fun _ _ _=>trivial
  refine wp_seq (wp_ext (ds:=[lft W T w0,srm N S T sl].map D.int) (es:=((gains (w0::ws) ss).map fun p=>wrm W S T p.1 p.2).map D.int) rfl (ev_lst ?_) (by rw [List.length_map,List.length_map,List.length_map,List.length_cons,List.length_cons,List.length_nil]; omega) ?_)
  · rw [show ((gains (w0::ws) ss).map fun p=>wrm W S T p.1 p.2).map D.int=(gains (w0::ws) ss).map fun p=>D.int (wrm W S T p.1 p.2) by rw [List.map_map]; rfl]
    refine ev_compA0 pD (xs:=gains (w0::ws) ss) ?_ (fun p=>D.int (wrm W S T p.1 p.2)) ?_
    · exact ev_asL rfl rfl
    intro p hp
    refine ⟨_,rfl,?_⟩
    refine ev_call (ev_cons rfl (ev_cons rfl (ev_cons (d:=tD T) ?_ (ev_cons rfl (ev_cons rfl rfl))))) (work_room hW hS h (gl p hp).1 (gl p hp).2)
    show some (D.lst ((tR T).map D.lst))=_
    rw [← tD_rows]; rfl
  walk_at "st"
  refine wp_seq (wp_ext (ds:=[lft W T w0,srm N S T sl].map D.int++((gains (w0::ws) ss).map fun p=>wrm W S T p.1 p.2).map D.int) (es:=((losses (w0::ws) ss).map fun p=>cel T p.1 p.2).map D.int) rfl (ev_lst ?_) (by rw [List.length_append,List.length_map,List.length_map,List.length_map,List.length_map,List.length_map,List.length_cons,List.length_cons,List.length_nil]; omega) ?_)
  · rw [show ((losses (w0::ws) ss).map fun p=>cel T p.1 p.2).map D.int=(losses (w0::ws) ss).map fun p=>D.int (cel T p.1 p.2) by rw [List.map_map]; rfl]
    refine ev_compA0 pD (xs:=losses (w0::ws) ss) ?_ (fun p=>D.int (cel T p.1 p.2)) ?_
    · exact ev_asL rfl rfl
    intro p hp
    refine ⟨_,rfl,?_⟩
    refine ev_scal (ev_ix (ev_ix (d:=tD T) ?_ rfl (t_row (by rw [h.1]; exact (ll p hp).1))) rfl (t_cel h (ll p hp).1 (ll p hp).2)) rfl
    show some (D.lst ((tR T).map D.lst))=_
    rw [← tD_rows]; rfl
  walk_at "st"
  rw [← List.map_append,← List.map_append,show ([lft W T w0,srm N S T sl]++(gains (w0::ws) ss).map fun p=>wrm W S T p.1 p.2)++((losses (w0::ws) ss).map fun p=>cel T p.1 p.2)=l from hl]
  refine wp_seq (wp_set (d:=.int a) (ev_f1 rfl ea) ?_)
  walk_at "st"
  refine wp_seq (wp_for (ds:=(gains (w0::ws) ss).map pD) (ev_asL rfl rfl) (fun j ρ=>∃ v9 v10:Sl,ρ=[.pu (worksD W),.pu (.int (N:Int)),.pu (stsD S),.pm q qs (tR (addAll T ((gains (w0::ws) ss).take j) a)),.pu (.lst ((intr 0 (w0::ws) ss).map natD)),.pu (.lst ((gains (w0::ws) ss).map pD)),.pu (.lst ((losses (w0::ws) ss).map pD)),.ol (l.map D.int),.pu (.int a),v9,v10]) ⟨_,_,rfl⟩ ?_ ?_)
  · rintro j d ρ hd ⟨v9,v10,rfl⟩
    rw [List.getElem?_map] at hd
    cases ed:(gains (w0::ws) ss)[j]? with
    | none=>rw [ed] at hd; cases hd
    | some p =>
      rw [ed] at hd
      cases hd
      refine ⟨_,rfl,?_⟩
      dsimp only [gN,slm,List.set_cons_succ,List.set_cons_zero]
      obtain ⟨p1,p2⟩:=gl p (List.mem_of_getElem? ed)
      have hR:=aug_loop (a:=a) h gl j
      rw [List.take_succ,ed,show (some p).toList=[p] from rfl,addAll_snoc]
      generalize addAll T ((gains (w0::ws) ss).take j) a=T1 at hR
      refine wp_aug2P (n:=(p.1:Int)) (r:=p.1) (m:=(p.2:Int)) (j:=p.2) (x:=cel T1 p.1 p.2) (y:=a) (ds:=(entR T1 p.1).map D.int) rfl rfl (by rw [tR_len,hR.1]; exact ixNn p1) (tR_at (by rw [hR.1]; exact p1)) rfl (by rw [List.length_map,hR.2 _ p1]; exact ixNn p2) (int_at (by rw [hR.2 _ p1]; exact p2)) rfl ?_
      rw [tR_add]
      exact ⟨_,_,rfl⟩
  · rintro ρ ⟨v9,v10,rfl⟩
    rw [List.length_map,List.take_length]
    have hR1:=aug_loop (a:=a) h gl (gains (w0::ws) ss).length
    rw [List.take_length] at hR1
    refine wp_for (ds:=(losses (w0::ws) ss).map pD) (ev_asL rfl rfl) (fun j ρ=>∃ v9 v10:Sl,ρ=[.pu (worksD W),.pu (.int (N:Int)),.pu (stsD S),.pm q qs (tR (addAll (addAll T (gains (w0::ws) ss) a) ((losses (w0::ws) ss).take j) (-a))),.pu (.lst ((intr 0 (w0::ws) ss).map natD)),.pu (.lst ((gains (w0::ws) ss).map pD)),.pu (.lst ((losses (w0::ws) ss).map pD)),.ol (l.map D.int),.pu (.int a),v9,v10]) ⟨_,_,rfl⟩ ?_ ?_
    · rintro j d ρ hd ⟨v9,v10,rfl⟩
      rw [List.getElem?_map] at hd
      cases ed:(losses (w0::ws) ss)[j]? with
      | none=>rw [ed] at hd; cases hd
      | some p =>
        rw [ed] at hd
        cases hd
        refine ⟨_,rfl,?_⟩
        dsimp only [gN,slm,List.set_cons_succ,List.set_cons_zero]
        obtain ⟨p1,p2⟩:=ll p (List.mem_of_getElem? ed)
        have hR:=aug_loop (a:=-a) hR1 ll j
        rw [List.take_succ,ed,show (some p).toList=[p] from rfl,addAll_snoc]
        generalize addAll (addAll T (gains (w0::ws) ss) a) ((losses (w0::ws) ss).take j) (-a)=T1 at hR
        refine wp_aug2P (n:=(p.1:Int)) (r:=p.1) (m:=(p.2:Int)) (j:=p.2) (x:=cel T1 p.1 p.2) (y:=a) (ds:=(entR T1 p.1).map D.int) rfl rfl (by rw [tR_len,hR.1]; exact ixNn p1) (tR_at (by rw [hR.1]; exact p1)) rfl (by rw [List.length_map,hR.2 _ p1]; exact ixNn p2) (int_at (by rw [hR.2 _ p1]; exact p2)) rfl ?_
        rw [show cel T1 p.1 p.2-a=cel T1 p.1 p.2+-a from Int.sub_eq_add_neg,tR_add]
        exact ⟨_,_,rfl⟩
    · rintro ρ ⟨v9,v10,rfl⟩
      rw [List.length_map,List.take_length]
      rfl
end
def endsW (W:List Wk3):List Int:=(W.map fun w=>w.1)++W.map fun w=>w.2.1
theorem endsW_len (W:List Wk3):(endsW W).length=2*W.length:=by unfold endsW; rw [List.length_append,List.length_map,List.length_map]; omega
theorem srt_lt {ns ms:List Int} (h:SrtS ns ms):ms.Pairwise (· < ·):=by
  have h1:=h.1
  have h2:=h.2.2
  refine List.Pairwise.imp_of_mem (fun {a b} _ _ q=>?_) (List.Pairwise.and h1 h2)
  have:=q.1
  have:=q.2
  omega
theorem srt_len {W:List Wk3} {es:List Int} (he:SrtS (endsW W) es):es.length≤2*W.length:=by
  rw [← endsW_len]
  exact List.Nodup.length_le_of_subset he.1 fun x hx=>(he.2.1 x).mp hx
theorem pcs_len:∀ es:List Int,(pcs es).length=es.length-1
  | []=>rfl
  | [x]=>rfl
  | x::y::r=>by
    have:=pcs_len (y::r)
    show (pcs (y::r)).length+1=_
    rw [this]
    simp
theorem pcs_zip:∀ es:List Int,pcs es=es.zip (es.drop 1)
  | []=>rfl
  | [x]=>rfl
  | x::y::r=>by
    have:=pcs_zip (y::r)
    show (x,y)::pcs (y::r)=_
    rw [this]
    rfl
theorem pcs_range:∀ es:List Int,pcs es=(List.range (es.length-1)).map fun k=>(es.getD k 0,es.getD (k+1) 0)
  | []=>rfl
  | [x]=>rfl
  | x::y::r=>by
    have ih:=pcs_range (y::r)
    show (x,y)::pcs (y::r)=_
    rw [ih,show (x::y::r).length-1=r.length+1 from rfl,List.range_succ_eq_map,List.map_cons,List.map_map]
    rfl
theorem ends_ev {W:List Wk3} (hW:W.length≤8) {es:List Int} (he:SrtS (endsW W) es) {ρ:Rho} {a b:DE} (ha:a ρ=some (.lst ((W.map fun w=>w.1).map D.int))) (hb:b ρ=some (.lst ((W.map fun w=>w.2.1).map D.int))):dLst (dSrtS (dLst (dCat a b))) ρ=some (.lst (es.map D.int)):=by
  have hline:sizeLine=16777216:=sizeLine_eq
  refine ev_lst (dSrtS_of (ns:=endsW W) (ev_asL (ev_lst (ev_cat ha hb (by rw [List.length_map,List.length_map,List.length_map,List.length_map]; omega))) ?_) (by rw [endsW_len]; omega) he)
  unfold endsW
  rw [List.map_append]
  rfl
theorem zp_int:∀ (xs ys:List Int),zpL (xs.map D.int) (ys.map D.int)=(xs.zip ys).map fun p=>D.tup [.int p.1,.int p.2]
  | [],_=>rfl
  | _::_,[]=>rfl
  | x::xs,y::ys=>by
    have:=zp_int xs ys
    unfold zpL at this ⊢
    rw [List.map_cons,List.map_cons,List.zipWith_cons_cons,this]
    rfl
theorem cut1 (ds:List D):cutL ds (some 1) none=ds.drop 1:=by
  unfold cutL
  cases ds with
  | nil=>rfl
  | cons d r =>
    have e1:HT.sIx (d::r).length 0 (some 1)=1:=by simp [HT.sIx]
    have e2:HT.sIx (d::r).length (d::r).length none=(d::r).length:=rfl
    rw [e1,e2]
    show ((d::r).take (d::r).length).drop 1=_
    rw [List.take_length]
theorem stretches_of {W:List Wk3} (hW:W.length≤8) {es:List Int} (he:SrtS (endsW W) es):F_stretches_of [worksD W]=some (stsD (pcs es)):=by
  refine run_eqF F_stretches_of_def ?_
  rw [st_stretches_of]
  unfold B_stretches_of
  refine wp_seq (wp_set (ends_ev hW he (ev_lst ?_) (ev_lst ?_)) ?_)
  · rw [List.map_map]
    exact ev_compA0 (fun w:Wk3=>D.lst (rowZ w)) (ev_asL rfl rfl) (fun w=>D.int w.1) fun w _=>⟨_,rfl,ev_ix rfl rfl rfl⟩
  · rw [List.map_map]
    exact ev_compA0 (fun w:Wk3=>D.lst (rowZ w)) (ev_asL rfl rfl) (fun w=>D.int w.2.1) fun w _=>⟨_,rfl,ev_ix rfl rfl rfl⟩
  walk_at "st"
  refine wp_ret (d:=stsD (pcs es)) (ev_lst ?_) rfl
  rw [pcs_zip]
  refine ev_compA0 (fun p:I2=>D.tup [.int p.1,.int p.2]) ?_ stR fun p _=>⟨_,rfl,ev_lst (ev_cons rfl (ev_cons rfl rfl))⟩
  rw [ev_zip (xs:=es.map D.int) (ys:=(es.drop 1).map D.int) (ev_asL rfl rfl) (ev_asL (ev_lst (ev_sl (ev_asL rfl rfl) rfl rfl)) (by rw [cut1,← List.map_drop]; rfl)),zp_int]
def capW (W:List Wk3) (S:List I2) (i j:Nat):Int:=if (sg S j).1<(wk W i).1∨(wk W i).2.1<(sg S j).2 then 0 else (sg S j).2-(sg S j).1
abbrev FitW (W:List Wk3) (S:List I2) (N n m:Nat) (T:List (List Int)):Prop:=Fit n m (capW W S) (fun i=>(wk W i).2.2) (fun j=>((sg S j).2-(sg S j).1)*N) T
theorem wrm_pos {W:List Wk3} {S:List I2} {T:List (List Int)} {i j:Nat} (h:0<wrm W S T i j):wrm W S T i j=capW W S i j-cel T i j:=by
  unfold wrm capW at *
  by_cases c:(sg S j).1<(wk W i).1∨(wk W i).2.1<(sg S j).2
  · rw [if_pos c] at h; omega
  · rw [if_neg c,if_neg c]
theorem SM_one {a:Int}:∀ {l:List Nat} {w:Nat},l.Nodup→w∈l→SM l (fun i=>if w=i then a else 0)=a
  | [],_,_,h=>by cases h
  | x::l,w,nd,h=>by
    obtain ⟨n1,n2⟩:=List.nodup_cons.mp nd
    rw [SM_cons]
    by_cases c:w=x
    · subst c
      rw [if_pos rfl,SM_congr (g:=fun _=>0) fun i hi=>if_neg fun z=>n1 (by rw [z]; exact hi),SM_zero]
      omega
    · rw [if_neg c,SM_one n2 (by rcases List.mem_cons.mp h with z | z; exact absurd z c; exact z)]
      omega
theorem SM_nn {α:Type} {f:α→Int}:∀ {l:List α},(∀ x∈l,0≤f x)→0≤SM l f
  | [],_=>Int.le_refl _
  | x::l,h=>by
    rw [SM_cons]
    have:=h x List.mem_cons_self
    have:=SM_nn (f:=f) (l:=l) fun y hy=>h y (List.mem_cons_of_mem _ hy)
    omega
def Full (W:List Wk3) (S:List I2) (N n m:Nat) (T:List (List Int)):Prop:=∃ kvs,Rch W S T n m kvs∧(∀ p∈keys kvs,∀ v,edg W S T n m p v→v∈keys kvs)∧∀ j,n+j∈keys kvs→srm N S T j≤0
theorem zero_get {n m i:Nat} (h:i<n):entR (List.replicate n (List.replicate m (0:Int))) i=List.replicate m 0:=by
  unfold entR; rw [List.getD_eq_getElem?_getD,List.getElem?_replicate,if_pos h]; rfl
theorem zero_sum (m:Nat):(List.replicate m (0:Int)).sum=0:=by
  induction m with
  | zero=>rfl
  | succ m ih=>rw [List.replicate_succ,List.sum_cons,ih]; rfl
theorem zero_cel {m j:Nat}:entI (List.replicate m (0:Int)) j=0:=by
  unfold entI; rw [List.getD_eq_getElem?_getD,List.getElem?_replicate]; split <;> rfl
section
variable {W:List Wk3} {S:List I2} {n m N:Nat}
theorem fit0 (hg:∀ w∈W,Gf w) (hW:W.length=n) (hS:S.length=m) (hlt:∀ s∈S,s.1<s.2):FitW W S N n m (List.replicate n (List.replicate m 0)):=by
  have hs:∀ j,j<m→(sg S j).1<(sg S j).2:=fun j hj=>hlt _ (by
    unfold sg; rw [List.getD_eq_getElem?_getD,List.getElem?_eq_getElem (by omega)]; exact List.getElem_mem _)
  have hw:∀ i,i<n→0≤(wk W i).2.2:=fun i hi=>(hg _ (by
    unfold wk; rw [List.getD_eq_getElem?_getD,List.getElem?_eq_getElem (by omega)]; exact List.getElem_mem _)).2.2
  have hc:∀ i j,i<n→cel (List.replicate n (List.replicate m 0)) i j=0:=fun i j hi=>by unfold cel; rw [zero_get hi,zero_cel]
  refine ⟨⟨List.length_replicate,fun i hi=>by rw [zero_get hi,List.length_replicate]⟩,fun i j hi hj=>by rw [hc i j hi]; exact Int.le_refl _,fun i j hi hj=>?_,fun i hi=>?_,fun j hj=>?_⟩
  · rw [hc i j hi]
    have:=hs j hj
    unfold capW
    split <;> omega
  · unfold rowS
    rw [zero_get hi,zero_sum]
    exact hw i hi
  · unfold colS
    rw [List.map_replicate,zero_cel,zero_sum]
    have:=hs j hj
    exact Int.mul_nonneg (by omega) (by omega)
theorem shares (hW:W.length=n) (hn:n≤8) (hN:N≤8) (hg:∀ w∈W,Gf w) {es:List Int} (he:SrtS (endsW W) es):∃ T,F_shares [worksD W,.int (N:Int)]=some (.tup [stsD (pcs es),tD T])∧FitW W (pcs es) N n (pcs es).length T∧Full W (pcs es) N n (pcs es).length T:=by
  have hline:sizeLine=16777216:=sizeLine_eq
  have hel:=srt_len he
  have hlt:=srt_lt he
  generalize hS:pcs es=S
  have hSl:S.length≤20:=by rw [← hS,pcs_len]; omega
  have hSlt:∀ s∈S,s.1<s.2:=fun s hs=>by rw [← hS] at hs; exact (pcs_lt hlt s hs).1
  have eS:=stretches_of (by omega) he
  rw [hS] at eS
  generalize hm:S.length=m
  have hm20:m≤20:=by omega
  have eL:lenD (stsD S)=some (.int (m:Int)):=by unfold stsD; rw [lenD_lst,List.length_map,hm]
  obtain ⟨d,e,T,rfl,hT⟩:=run_ofF F_shares_def (ds:=[worksD W,.int (N:Int)]) (P:=fun d=>∃ T,d=.tup [stsD S,tD T]∧FitW W S N n m T∧Full W S N n m T) (by
    rw [st_shares]
    unfold B_shares
    refine wp_seq (wp_set (ev_call (ev_cons rfl rfl) eS) ?_)
    walk_at "st"
    refine wp_seq (wp_setM (rows:=tR (List.replicate n (List.replicate m 0))) ?_ (by simp only [List.length_cons,List.length_nil]; omega) ?_)
    · have:=ev_compM0 (ρ:=[.pu (worksD W),.pu (.int (N:Int)),.pu (stsD S),.un,.un]) (k:=1) (cs:=[2]) (it:=asL (dVarI 0)) (g:=gN true 0) (el:=dRep (dCons (dC (.int 0)) dNil) (dF1 lenD (dVar 1))) (fun w:Wk3=>D.lst (rowZ w)) (xs:=W) (ev_asL rfl rfl) (fun _=>(List.replicate m (0:Int)).map D.int) fun w _=>⟨_,rfl,by
        rw [ev_rep (ds:=[.int 0]) (i:=(m:Int)) rfl (ev_f1 rfl eL) ⟨by omega,by omega,by simp; omega⟩,Int.toNat_natCast,rep_int]⟩
      rw [this]
      unfold tR
      simp only [List.map_const',List.map_replicate,hW]
    walk_at "st"
    have F0:=fit0 (N:=N) hg hW hm hSlt
    have tv:∀ (T:List (List Int)) (ρ:Rho),ρ.getD 3 .un=.om (tR T)→dVar 3 ρ=some (tD T):=fun T ρ h3=>by unfold dVar; rw [h3]; dsimp only; rw [← tD_rows]; rfl
    generalize List.replicate n (List.replicate m (0:Int))=T0 at F0
    /- ahead of each turn: a way,or none -/
    have fin:∀ (T:List (List Int)) (v4:Sl),FitW W S N n m T→Full W S N n m T→Wp (sFrz 3 (sRet (dTup (dCons (dVarI 2) (dCons (dVarI 3) dNil))))) [.pu (worksD W),.pu (.int (N:Int)),.pu (stsD S),.om (tR T),v4] { nx:=fun _=>∃ T,D.non=.tup [stsD S,tD T]∧FitW W S N n m T∧Full W S N n m T,rt:=fun d=>∃ T,d=.tup [stsD S,tD T]∧FitW W S N n m T∧Full W S N n m T }:=by
      intro T v4 F1 F2
      refine wp_frz ?_
      dsimp only [frz,List.getD_cons_succ,List.getD_cons_zero,List.set_cons_succ,List.set_cons_zero]
      refine wp_ret (d:=.tup [stsD S,tD T]) (ev_tup (ev_cons rfl (ev_cons ?_ rfl))) ⟨T,rfl,F1,F2⟩
      rw [← tD_rows]; rfl
    have way:∀ T,FitW W S N n m T→∃ d,F_shortest_way [worksD W,.int (N:Int),stsD S,tD T]=some d∧((d=.lst []∧Full W S N n m T)∨∃ (w0:Nat) (ws ss:List Nat) (sl:Nat),d=.lst ((intr 0 (w0::ws) ss).map natD)∧Wy W S T n m w0 ws ss sl∧0<srm N S T sl):=fun T F1=>by
      rcases shortest_way hW hm hn hm20 hN F1.rect with ⟨e1,kvs,k1,k2,k3⟩ | ⟨w0,ws,ss,sl,e1,y,hs⟩
      · exact ⟨_,e1,.inl ⟨rfl,kvs,k1,k2,k3⟩⟩
      · exact ⟨_,e1,.inr ⟨w0,ws,ss,sl,rfl,y,hs⟩⟩
    obtain ⟨d0,ed0,hd0⟩:=way T0 F0
    refine wp_seq (wp_set (ev_call (ev_cons rfl (ev_cons rfl (ev_cons rfl (ev_cons (tv T0 _ rfl) rfl)))) ed0) ?_)
    walk_at "st"
    refine wp_seq (wp_while (fun k ρ=>∃ (T:List (List Int)) (d:D),k=(SM (List.range n) (lft W T)).toNat∧FitW W S N n m T∧((d=.lst []∧Full W S N n m T)∨∃ (w0:Nat) (ws ss:List Nat) (sl:Nat),d=.lst ((intr 0 (w0::ws) ss).map natD)∧Wy W S T n m w0 ws ss sl∧0<srm N S T sl)∧ρ=[.pu (worksD W),.pu (.int (N:Int)),.pu (stsD S),.om (tR T),.pu d]) _ ⟨T0,d0,rfl,F0,hd0,rfl⟩ ?_)
    rintro k ρ ⟨T,d,rfl,F1,hd,rfl⟩
    rcases hd with ⟨rfl,hF⟩ | ⟨w0,ws,ss,sl,rfl,y,hs⟩
    · exact ⟨false,ev_tru rfl rfl,fun z=>(by cases z),fun _=>fin T _ F1 hF⟩
    · have hne:truD (.lst ((intr 0 (w0::ws) ss).map natD))=some true:=by
        have hlen:=y.len
        cases ss with
        | nil=>simp at hlen
        | cons s r=>rfl
      refine ⟨true,ev_tru rfl hne,fun _=>?_,fun z=>(by cases z)⟩
      obtain ⟨a,a0,a1,a2,a3,a4,a5⟩:=move_hours hW hm hn hm20 hN F1.rect y hs
      refine wp_seq (wp_callU (rows:=tR T) rfl (ev_cons rfl (ev_cons rfl (ev_cons rfl (ev_cons (tv T _ rfl) (ev_cons rfl rfl))))) (fun q qs _=>a5 q qs) ?_)
      walk_at "st"
      obtain ⟨F2,hrow⟩:=Fit.moved F1 (w0:=w0) (ws:=ws) (ss:=ss) (sl:=sl) (a:=a) (by omega) y.len y.last y.lt y.slt y.nd (by unfold lft at a1; omega) (by unfold srm at a2; omega) (fun p hp=>by
        have h1:=wrm_pos (y.gn p hp).2
        have h2:=a3 p hp
        omega) a4
      obtain ⟨d2,ed2,hd2⟩:=way _ F2
      refine wp_set (ev_call (ev_cons rfl (ev_cons rfl (ev_cons rfl (ev_cons (tv _ _ rfl) rfl)))) ed2) ?_
      refine ⟨(SM (List.range n) (lft W (moved T (w0::ws) ss a))).toNat,?_,_,d2,rfl,F2,hd2,rfl⟩
      have e1:SM (List.range n) (lft W (moved T (w0::ws) ss a))=SM (List.range n) (lft W T)-a:=by
        have e2:SM (List.range n) (lft W (moved T (w0::ws) ss a))=SM (List.range n) fun i=>lft W T i-if w0=i then a else 0:=SM_congr fun i _=>by
          unfold lft
          rw [hrow i]
          omega
        rw [e2,SM_sub,SM_one List.nodup_range (List.mem_range.mpr (y.lt _ List.mem_cons_self))]
      have nn:0≤SM (List.range n) (lft W (moved T (w0::ws) ss a)):=SM_nn fun i hi=>by
        have:=F2.row i (List.mem_range.mp hi)
        unfold lft
        omega
      omega)
  exact ⟨T,e,hT⟩
end
theorem all_ev {bs:List Bool}:allD (.lst (bs.map D.bl))=some (.bl (bs.all id)):=by
  show (trus _).map _=_
  rw [trus_bl]; rfl
theorem cmp_works (n:Nat) (W V:List Wk3):cmpb (n+2) (worksD W) (worksD V)=true:=by
  refine cmp_lst fun x hx y hy=>?_
  obtain ⟨p,_,rfl⟩:=List.mem_map.mp hx
  obtain ⟨q,_,rfl⟩:=List.mem_map.mp hy
  cases n <;> rfl
theorem cmp_sts (n:Nat) (W V:List I2):cmpb (n+2) (stsD W) (stsD V)=true:=by
  refine cmp_lst fun x hx y hy=>?_
  obtain ⟨p,_,rfl⟩:=List.mem_map.mp hx
  obtain ⟨q,_,rfl⟩:=List.mem_map.mp hy
  cases n <;> rfl
theorem ev_neSame {a b:DE} {ρ:Rho} {d:D} (ha:a ρ=some d) (hb:b ρ=some d) (h:cmpb 20 d d=true):dEq true a b ρ=some (.bl false):=by
  rw [ev_eq ha hb h,if_pos rfl]
  simp
theorem ev_neN {a b:DE} {ρ:Rho} {n:Nat} (ha:a ρ=some (.int (n:Int))) (hb:b ρ=some (.int (n:Int))):dEq true a b ρ=some (.bl false):=ev_neSame ha hb rfl
theorem whole (n:Int):F_l_whole [.int n]=some (.bl true):=by
  refine run_eqF F_l_whole_def ?_
  rw [st_l_whole]
  unfold B_l_whole
  exact wp_ret rfl rfl
section
variable {W:List Wk3} {S:List I2} {T:List (List Int)} {n m N:Nat}
theorem l_fits (hW:W.length=n) (hS:S.length=m) (hn:n≤8) (hm:m≤20) (hN:N≤8) (F:FitW W S N n m T):F_l_fits [worksD W,.int (N:Int),stsD S,tD T]=some (.bl true):=by
  have eW:lenD (worksD W)=some (.int (n:Int)):=by unfold worksD; rw [lenD_lst,List.length_map,hW]
  have eS:lenD (stsD S)=some (.int (m:Int)):=by unfold stsD; rw [lenD_lst,List.length_map,hS]
  have eT:lenD (tD T)=some (.int (n:Int)):=by unfold tD; rw [lenD_lst,List.length_map,F.rect.1]
  refine run_eqF F_l_fits_def ?_
  rw [st_l_fits]
  unfold B_l_fits
  refine wp_seq (wp_ifF (ev_or (x:=false) (y:=false) (ev_not (x:=true) (ev_tru (d:=.bl true) rfl rfl)) fun _=>ev_t (ev_neN (ev_f1 rfl eT) (ev_f1 rfl eW))) (wp_pass ?_))
  refine wp_seq (wp_for (ds:=(List.range n).map natD) (rng_ev (ev_f1 rfl eW) (by omega)) (fun _ ρ=>∃ v4 v5 v6 v7 v8:Sl,ρ=[.pu (worksD W),.bo (.int (N:Int)),.pu (stsD S),.pu (tD T),v4,v5,v6,v7,v8]) ⟨_,_,_,_,_,rfl⟩ ?_ ?_)
  · rintro i d ρ hd ⟨v4,v5,v6,v7,v8,rfl⟩
    rw [List.getElem?_map] at hd
    obtain ⟨k,hk,rfl⟩:=Option.map_eq_some_iff.mp hd
    have hk:=List.mem_range.mp (List.mem_of_getElem? hk)
    refine ⟨_,rfl,?_⟩
    dsimp only [gN,slm,List.set_cons_succ,List.set_cons_zero]
    have er:=t_row (T:=T) (i:=k) (by rw [F.rect.1]; exact hk)
    have ew:=ixL (works_get (W:=W) (k:=k) (by omega))
    have el:lenD (lsD (entR T k))=some (.int (m:Int)):=by unfold lsD; rw [lenD_lst,List.length_map,F.rect.2 k hk]
    refine wp_seq (wp_ifF (ev_or (x:=false) (y:=false) (ev_not (x:=true) (ev_tru (d:=.bl true) ?_ rfl)) fun _=>ev_t (ev_neN (ev_f1 (ev_ix rfl rfl er) el) (ev_f1 rfl eS))) (wp_pass ?_))
    · unfold dIsi
      rw [show dIx (dVar 3) (dVar 4) [.pu (worksD W),.bo (.int (N:Int)),.pu (stsD S),.pu (tD T),.pu (natD k),v5,v6,v7,v8]=some (lsD (entR T k)) from ev_ix rfl rfl er]
      rfl
    refine wp_seq (wp_ifF (ev_or (x:=false) (y:=false) (ev_not (x:=true) (ev_tru (d:=.bl true) ?_ rfl)) fun _=>ev_t ?_) (wp_pass ?_))
    · have e1:dComp 1 [] (asL (dIx (dVarI 3) (dVar 4))) (gN true 0) dTrue (dAndV (dCall F_l_whole (dCons (dVar 0) dNil)) (dGe (dVar 0) (dC (.int 0)))) [.pu (worksD W),.bo (.int (N:Int)),.pu (stsD S),.pu (tD T),.pu (natD k),v5,v6,v7,v8]=some (((entR T k).map fun _=>true).map D.bl):=by
        rw [List.map_map]
        refine ev_compA0 D.int (ev_asL (ev_ix rfl rfl er) rfl) (fun _=>D.bl true) fun x hx=>⟨_,rfl,?_⟩
        have hx0:0≤x:=by
          obtain ⟨j,ej⟩:=List.mem_iff_getElem?.mp hx
          have hj:=(List.getElem?_eq_some_iff.mp ej).1
          have:=F.lo k j hk (by rw [← F.rect.2 k hk]; exact hj)
          unfold cel entI at this
          rw [List.getD_eq_getElem?_getD,ej] at this
          exact this
        rw [ev_andV (x:=true) (y:=decide ((0:Int)≤x)) (ev_call (ev_cons rfl rfl) (whole x)) fun _=>ev_ge rfl rfl,decide_eq_true hx0]
        rfl
      rw [ev_f1 (ev_lst e1) all_ev]
      simp
    · rw [ev_gt (ev_f1 (ev_ix rfl rfl er) (sumD_ints' _)) (ev_ix (ev_ix rfl rfl ew) rfl rfl)]
      have:=F.row k hk
      exact congrArg (fun b=>some (D.bl b)) (decide_eq_false (by show ¬ (wk W k).2.2<(entR T k).sum; have:(entR T k).sum≤(wk W k).2.2:=this; omega))
    refine wp_for (ds:=(List.range m).map natD) (rng_ev (ev_f1 rfl eS) (by omega)) (fun _ ρ=>∃ v5 v6 v7 v8:Sl,ρ=[.pu (worksD W),.bo (.int (N:Int)),.pu (stsD S),.pu (tD T),.pu (natD k),v5,v6,v7,v8]) ⟨_,_,_,_,rfl⟩ ?_ ?_
    · rintro i d ρ hd ⟨v5,v6,v7,v8,rfl⟩
      rw [List.getElem?_map] at hd
      obtain ⟨j,hj,rfl⟩:=Option.map_eq_some_iff.mp hd
      have hj:=List.mem_range.mp (List.mem_of_getElem? hj)
      refine ⟨_,rfl,?_⟩
      dsimp only [gN,slm,List.set_cons_succ,List.set_cons_zero]
      refine wp_seq (wp_un (ev_ix rfl rfl (ixL (s_get (by omega)))) rfl ?_)
      dsimp only [gN,slm,List.set_cons_succ,List.set_cons_zero]
      refine wp_seq (wp_set (d:=.bl (decide ((wk W k).1≤(sg S j).1)&&decide ((sg S j).2≤(wk W k).2.1))) (ev_andV (ev_le (ev_ix (ev_ix rfl rfl ew) rfl rfl) rfl) fun _=>ev_le rfl (ev_ix (ev_ix rfl rfl ew) rfl rfl)) ?_)
      walk_at "st"
      have hb:∀ b:Bool,0≤(if b=true then (1:Int) else 0)∧(if b=true then (1:Int) else 0)≤1:=fun b=>by cases b <;> decide
      refine wp_ifF (ev_t ?_) (wp_pass ⟨_,_,_,_,rfl⟩)
      rw [ev_gt (ev_ix (ev_ix rfl rfl er) rfl (t_cel F.rect hk hj)) (ev_mul (ev_sub rfl rfl) (ev_intb rfl) (imul (.inr (by have:=hb (decide ((wk W k).1≤(sg S j).1)&&decide ((sg S j).2≤(wk W k).2.1)); omega))))]
      refine congrArg (fun b=>some (D.bl b)) (decide_eq_false ?_)
      have hc:=F.hi k j hk hj
      unfold capW at hc
      by_cases c:(sg S j).1<(wk W k).1∨(wk W k).2.1<(sg S j).2
      · rw [if_pos c] at hc
        rw [if_neg (by rw [Bool.and_eq_true,decide_eq_true_iff,decide_eq_true_iff]; omega),Int.mul_zero]
        omega
      · rw [if_neg c] at hc
        rw [if_pos (by rw [Bool.and_eq_true,decide_eq_true_iff,decide_eq_true_iff]; omega),Int.mul_one]
        omega
    · rintro ρ ⟨v5,v6,v7,v8,rfl⟩
      exact ⟨_,_,_,_,_,rfl⟩
  · rintro ρ ⟨v4,v5,v6,v7,v8,rfl⟩
    refine wp_seq (wp_for (ds:=(List.range m).map natD) (rng_ev (ev_f1 rfl eS) (by omega)) (fun _ ρ=>∃ v5:Sl,ρ=[.pu (worksD W),.bo (.int (N:Int)),.pu (stsD S),.pu (tD T),v4,v5,v6,v7,v8]) ⟨_,rfl⟩ ?_ ?_)
    · rintro i d ρ hd ⟨v5,rfl⟩
      rw [List.getElem?_map] at hd
      obtain ⟨j,hj,rfl⟩:=Option.map_eq_some_iff.mp hd
      have hj:=List.mem_range.mp (List.mem_of_getElem? hj)
      refine ⟨_,rfl,?_⟩
      dsimp only [gN,slm,List.set_cons_succ,List.set_cons_zero]
      have es:=ixL (s_get (S:=S) (j:=j) (by omega))
      refine wp_ifF (ev_t ?_) (wp_pass ⟨_,rfl⟩)
      rw [ev_gt (col_ev F.rect hj (ev_asL rfl rfl) fun r hr=>⟨_,rfl,ev_ix rfl rfl (r_at F.rect hj hr)⟩) (ev_mul rfl (ev_sub (ev_ix (ev_ix rfl rfl es) rfl rfl) (ev_ix (ev_ix rfl rfl es) rfl rfl)) (imul (.inl ⟨by omega,by omega⟩)))]
      have:=F.col j hj
      refine congrArg (fun b=>some (D.bl b)) (decide_eq_false ?_)
      rw [Int.mul_comm]
      omega
    · rintro ρ ⟨v5,rfl⟩
      exact wp_ret rfl rfl
theorem l_no_more (hW:W.length=n) (hS:S.length=m) (hn:n≤8) (hm:m≤20) (hN:N≤8) (F:FitW W S N n m T) (hF:Full W S N n m T):F_l_no_more [worksD W,.int (N:Int),stsD S,tD T]=some (.bl true):=by
  have hline:sizeLine=16777216:=sizeLine_eq
  have eW:lenD (worksD W)=some (.int (n:Int)):=by unfold worksD; rw [lenD_lst,List.length_map,hW]
  have eS:lenD (stsD S)=some (.int (m:Int)):=by unfold stsD; rw [lenD_lst,List.length_map,hS]
  obtain ⟨kvs,R,cl,rm⟩:=hF
  refine run_eqF F_l_no_more_def ?_
  rw [st_l_no_more]
  unfold B_l_no_more
  generalize hrs:(List.range n).filter (fun i=>decide (rowS T i<(wk W i).2.2))=rs
  have rnd:rs.Nodup:=by rw [← hrs]; exact List.nodup_range.filter _
  have rmem:∀ r∈rs,r<n∧r∈keys kvs:=fun r hr=>by
    rw [← hrs,List.mem_filter,List.mem_range,decide_eq_true_iff] at hr
    exact ⟨hr.1,R.roots r hr.1 (by unfold lft; omega)⟩
  refine wp_seq (wp_set (d:=.lst (rs.map natD)) (ev_lst ?_) ?_)
  · rw [← hrs]
    refine ev_compA natD (xs:=List.range n) (rng_ev (ev_f1 rfl eW) (by omega)) (fun i=>decide (rowS T i<(wk W i).2.2)) natD fun i hi=>⟨_,rfl,?_,fun _=>rfl⟩
    have hi:=List.mem_range.mp hi
    exact ev_t (ev_lt (ev_f1 (ev_ix rfl rfl (t_row (by rw [F.rect.1]; exact hi))) (sumD_ints' _)) (ev_ix (ev_ix rfl rfl (ixL (works_get (by omega)))) rfl rfl))
  walk_at "st"
  refine wp_seq (wp_setO (ds:=([]:List Nat).map natD) rfl (by simp only [List.length_cons,List.length_nil]; omega) ?_)
  walk_at "st"
  refine wp_seq (wp_set rfl ?_)
  walk_at "st"
  refine wp_seq (wp_while (fun c ρ=>∃ (ks ms:List Nat) (l:Nat) (v7 v8 v9 v10 v11:Sl),c=n-l∧l≤n∧ks.Nodup∧(∀ k∈ks,k<n∧k∈keys kvs)∧ms.length≤m*l∧ρ=[.pu (worksD W),.bo (.int (N:Int)),.pu (stsD S),.pu (tD T),.pu (.lst (ks.map natD)),.ol (ms.map natD),.pu (.int (l:Int)),v7,v8,v9,v10,v11]) n ⟨rs,[],0,_,_,_,_,_,rfl,Nat.zero_le _,rnd,rmem,Nat.zero_le _,rfl⟩ ?_)
  rintro c ρ ⟨ks,ms,l,v7,v8,v9,v10,v11,rfl,hl,nd,hk,hms,rfl⟩
  refine ⟨_,ev_t (ev_lt rfl (ev_f1 rfl (lenD_lst _))),fun c=>?_,fun c=>?_⟩
  · have c:(l:Int)<((ks.map natD).length:Int):=by simpa using c
    rw [List.length_map] at c
    have hlk:l<ks.length:=by omega
    have hkn:=lt_len nd fun k h=>(hk k h).1
    obtain ⟨k0,hk0⟩:∃ k0,ks[l]?=some k0:=⟨_,List.getElem?_eq_getElem hlk⟩
    obtain ⟨q1,q2⟩:=hk k0 (List.mem_of_getElem? hk0)
    have ew:=ixL (works_get (W:=W) (k:=k0) (by omega))
    refine wp_seq (wp_set (d:=.lst (rowZ (wk W k0))) (ev_ix rfl (ev_ix (e:=natD k0) rfl rfl (ixL (by rw [List.getElem?_map,hk0]; rfl))) ew) ?_)
    walk_at "st"
    have er:=t_row (T:=T) (i:=k0) (by rw [F.rect.1]; exact q1)
    have hml:m*l+m≤200:=by
      have:=Nat.mul_le_mul hm (show l≤7 by omega)
      omega
    refine wp_seq (wp_for (ds:=(List.range m).map natD) (rng_ev (ev_f1 rfl eS) (by omega)) (fun t ρ=>∃ (ks ms:List Nat) (v8 v9 v10 v11:Sl),ks.Nodup∧ks[l]?=some k0∧(∀ k∈ks,k<n∧k∈keys kvs)∧ms.length≤m*l+t∧ρ=[.pu (worksD W),.bo (.int (N:Int)),.pu (stsD S),.pu (tD T),.pu (.lst (ks.map natD)),.ol (ms.map natD),.pu (.int (l:Int)),.pu (.lst (rowZ (wk W k0))),v8,v9,v10,v11]) ⟨ks,ms,_,_,_,_,nd,hk0,hk,hms,rfl⟩ ?_ ?_)
    · rintro t d ρ hd ⟨ks,ms,v8,v9,v10,v11,nd,hk0,hk,hms,rfl⟩
      rw [List.getElem?_map] at hd
      obtain ⟨j,hj,rfl⟩:=Option.map_eq_some_iff.mp hd
      have htm:t<m:=by have:=(List.getElem?_eq_some_iff.mp hj).1; rw [List.length_range] at this; exact this
      have hj:=List.mem_range.mp (List.mem_of_getElem? hj)
      refine ⟨_,rfl,?_⟩
      dsimp only [gN,slm,List.set_cons_succ,List.set_cons_zero]
      refine wp_seq (wp_un (ev_ix rfl rfl (ixL (s_get (by omega)))) rfl ?_)
      dsimp only [gN,slm,List.set_cons_succ,List.set_cons_zero]
      refine wp_seq (wp_set (d:=.bl (decide ((wk W k0).1≤(sg S j).1)&&decide ((sg S j).2≤(wk W k0).2.1))) (ev_andV (ev_le (ev_ix rfl rfl rfl) rfl) fun _=>ev_le rfl (ev_ix rfl rfl rfl)) ?_)
      walk_at "st"
      have ein:∀ (ρ:Rho),dVar 8 ρ=some (natD j)→dVar 5 ρ=some (.lst (ms.map natD))→dIn true (dVar 8) (dVar 5) ρ=some (.bl (!decide ((j:Int)∈ms.map fun r:Nat=>(r:Int)))):=fun ρ h8 h5=>by
        rw [natD_map] at h5
        rw [ev_inI (neg:=true) h8 h5,if_pos rfl]
      refine wp_if (ev_and (ev_tru rfl rfl) fun _=>ev_and (ev_t (ein _ rfl rfl)) fun _=>ev_t (ev_lt (ev_ix (ev_ix rfl (ev_ix (e:=natD k0) rfl rfl (ixL (by rw [List.getElem?_map,hk0]; rfl))) er) rfl (t_cel F.rect q1 hj)) (ev_sub rfl rfl))) (fun c=>?_) fun _=>wp_pass ⟨ks,ms,_,_,_,_,nd,hk0,hk,by omega,rfl⟩
      rw [Bool.and_eq_true,Bool.and_eq_true,Bool.and_eq_true,decide_eq_true_iff,decide_eq_true_iff,decide_eq_true_iff] at c
      obtain ⟨⟨c1,c2⟩,_,c4⟩:=c
      have hwr:0<wrm W S T k0 j:=by
        unfold wrm
        rw [if_neg (by omega)]
        omega
      have hjk:n+j∈keys kvs:=cl k0 q2 (n+j) (.inl ⟨q1,by omega,by omega,by rw [show n+j-n=j by omega]; exact hwr⟩)
      have hroom:=rm j hjk
      refine wp_seq (wp_app (ds:=ms.map natD) (d:=natD j) rfl rfl (by rw [List.length_map]; omega) ?_)
      walk_at "st"
      refine wp_seq (wp_ifF (ev_t ?_) (wp_pass ?_))
      · rw [ev_lt (col_ev F.rect hj (ev_asL rfl rfl) fun r hr=>⟨_,rfl,ev_ix rfl rfl (r_at F.rect hj hr)⟩) (ev_mul rfl (ev_sub rfl rfl) (imul (.inl ⟨by omega,by omega⟩)))]
        refine congrArg (fun b=>some (D.bl b)) (decide_eq_false ?_)
        unfold srm at hroom
        rw [Int.mul_comm]
        omega
      generalize hnew:(List.range n).filter (fun k=>decide (0<cel T k j)&&!decide ((k:Int)∈ks.map fun r:Nat=>(r:Int)))=nw
      have hnw:∀ k,k∈nw↔k<n∧0<cel T k j∧k∉ks:=fun k=>by
        rw [← hnew,List.mem_filter,List.mem_range,Bool.and_eq_true,decide_eq_true_iff,Bool.not_eq_true',decide_eq_false_iff_not,List.mem_map]
        constructor
        · rintro ⟨a,b,c⟩
          exact ⟨a,b,fun z=>c ⟨k,z,rfl⟩⟩
        · rintro ⟨a,b,c⟩
          exact ⟨a,b,fun ⟨r,hr,e⟩=>c (by rw [← show r=k by omega]; exact hr)⟩
      have nnd:nw.Nodup:=by rw [← hnew]; exact List.nodup_range.filter _
      have hks:=lt_len nd fun k h=>(hk k h).1
      have hnl:=lt_len nnd fun k h=>((hnw k).mp h).1
      refine wp_set (d:=.lst ((ks++nw).map natD)) (ev_lst ?_) ⟨ks++nw,ms++[j],_,_,_,_,?_,?_,fun k h=>?_,?_,by rw [List.map_append (l₁:=ms)]; rfl⟩
      · rw [List.map_append]
        refine ev_cat rfl (ev_lst ?_) (by rw [List.length_map,List.length_map]; omega)
        rw [← hnew]
        refine ev_compA natD (xs:=List.range n) (rng_ev (ev_f1 rfl eW) (by omega)) (fun k=>decide (0<cel T k j)&&!decide ((k:Int)∈ks.map fun r:Nat=>(r:Int))) natD fun k hk'=>⟨_,rfl,?_,fun _=>rfl⟩
        have hk':=List.mem_range.mp hk'
        refine ev_and (ev_t (ev_gt (ev_ix (ev_ix rfl rfl (t_row (by rw [F.rect.1]; exact hk'))) rfl (t_cel F.rect hk' hj)) rfl)) fun _=>ev_t ?_
        rw [ev_inI (neg:=true) (i:=(k:Int)) (ns:=ks.map fun r:Nat=>(r:Int)) rfl (by rw [← natD_map]; rfl),if_pos rfl]
      · refine List.nodup_append.mpr ⟨nd,nnd,fun a ha b hb z=>?_⟩
        exact ((hnw b).mp hb).2.2 (by rw [← z]; exact ha)
      · rw [List.getElem?_append_left (List.getElem?_eq_some_iff.mp hk0).1]; exact hk0
      · rcases List.mem_append.mp h with h | h
        · exact hk k h
        · obtain ⟨a,b,_⟩:=(hnw k).mp h
          exact ⟨a,cl (n+j) hjk k (.inr ⟨by omega,a,by rw [show n+j-n=j by omega]; exact b⟩)⟩
      · rw [List.length_append,List.length_singleton]; omega
    · rintro ρ ⟨ks,ms,v8,v9,v10,v11,nd,hk0,hk,hms,rfl⟩
      rw [List.length_map,List.length_range] at hms
      refine wp_set (d:=.int ((l+1:Nat):Int)) (by rw [ev_add (i:=(l:Int)) (j:=1) rfl rfl]; rfl) ?_
      exact ⟨n-(l+1),by omega,ks,ms,l+1,_,_,_,_,_,rfl,by omega,nd,hk,by rw [Nat.mul_add,Nat.mul_one]; exact hms,rfl⟩
  · exact wp_ret rfl rfl
end
theorem law_true (ns:List Int) (hl:ns.length≤63) (hb:∀ m∈ns,Builtin.Int.intBits m≤1048576):F_law [.scr ns]=some (.bl true):=by
  have hline:sizeLine=16777216:=sizeLine_eq
  obtain ⟨W,N,eW,hW,hN,hg⟩:=l_floor ns hl
  obtain ⟨es,he⟩:=srtS_ex (endsW W)
  have hel:=srt_len he
  obtain ⟨T,eT,F,hF⟩:=shares rfl hW hN hg he
  have hpl:=pcs_len es
  refine run_eqF F_law_def ?_
  rw [st_law]
  unfold B_law
  refine wp_seq (wp_un (ev_call (ev_cons rfl rfl) eW) rfl ?_)
  dsimp only [gN,slm,List.set_cons_succ,List.set_cons_zero]
  refine wp_seq (wp_set (d:=worksD W) (ev_lst ?_) ?_)
  · exact ev_compA0 (fun w:Wk3=>D.lst (rowZ w)) (ev_asL rfl rfl) (fun w=>D.lst (rowZ w)) fun r _=>⟨_,rfl,rfl⟩
  walk_at "st"
  refine wp_seq (wp_set (ev_call (ev_cons rfl (ev_cons rfl rfl)) eT) ?_)
  walk_at "st"
  refine wp_seq (wp_set (ends_ev hW he (ev_lst ?_) (ev_lst ?_)) ?_)
  · rw [List.map_map]
    exact ev_compA0 (fun w:Wk3=>D.lst (rowZ w)) (ev_asL rfl rfl) (fun w=>D.int w.1) fun w _=>⟨_,rfl,ev_ix rfl rfl rfl⟩
  · rw [List.map_map]
    exact ev_compA0 (fun w:Wk3=>D.lst (rowZ w)) (ev_asL rfl rfl) (fun w=>D.int w.2.1) fun w _=>⟨_,rfl,ev_ix rfl rfl rfl⟩
  walk_at "st"
  refine wp_seq (wp_set (d:=stsD (pcs es)) (ev_lst ?_) ?_)
  · rw [pcs_range,List.map_map]
    refine ev_compA0 natD (xs:=List.range (es.length-1)) ?_ (fun k=>stR (es.getD k 0,es.getD (k+1) 0)) fun k hk=>⟨_,rfl,?_⟩
    · rw [ev_rg1 (i:=(es.length:Int)-1) (ev_sub (ev_f1 rfl (by show some (D.int ((es.map D.int).length:Nat))=_; rw [List.length_map])) rfl) ⟨by omega,by omega⟩]
      rw [show ((es.length:Int)-1).toNat=es.length-1 by omega]
      unfold upL
      refine congrArg some (List.map_congr_left fun i _=>?_)
      unfold natD
      rw [show (0:Int)+(i:Int)=(i:Int) by omega]
    · have hk:=List.mem_range.mp hk
      exact ev_lst (ev_cons (ev_ix rfl rfl (ixL (int_at (by omega)))) (ev_cons (ev_ix rfl (ev_add rfl rfl) (ixLi (a:=k+1) (by omega) (int_at (by omega)))) rfl))
  walk_at "st"
  generalize pcs es=S at F hF hpl
  refine wp_seq (wp_ifF (ev_or (x:=false) (y:=false) (ev_t (ev_neSame rfl rfl (cmp_works 18 W W))) fun _=>ev_or (x:=false) (y:=false) (ev_not (x:=true) (ev_tru (d:=.bl true) rfl rfl)) fun _=>ev_or (x:=false) (y:=false) (ev_t (ev_neN (n:=2) (ev_f1 rfl rfl) rfl)) fun _=>ev_t (ev_neSame (d:=stsD S) (ev_ix rfl rfl rfl) rfl (cmp_sts 18 S S))) (wp_pass ?_))
  refine wp_seq (wp_ifF (ev_or (x:=false) (y:=false) (ev_not (x:=true) (ev_tru (d:=.bl true) rfl rfl)) fun _=>ev_not (x:=true) (ev_tru (d:=.bl true) ?_ rfl)) (wp_pass ?_))
  · have e1:∀ ρ:Rho,dVarI 4 ρ=some (.tup [stsD S,tD T])→dComp 1 [] (asL (dIx (dVarI 4) (dC (.int 0)))) (gN true 0) dTrue (dIsi "list" (dVar 0)) ρ=some ((S.map fun _=>true).map D.bl):=fun ρ h4=>by
      rw [List.map_map]
      exact ev_compA0 stR (ev_asL (ev_ix h4 rfl rfl) rfl) (fun _=>D.bl true) fun s _=>⟨_,rfl,rfl⟩
    rw [ev_f1 (ev_lst (e1 _ rfl)) all_ev]
    simp
  refine wp_seq (wp_ifF (ev_not (x:=true) (ev_tru (d:=.bl true) (ev_call (ev_cons rfl (ev_cons rfl (ev_cons rfl (ev_cons (ev_ix rfl rfl rfl) rfl)))) (l_fits rfl rfl hW (by omega) hN F)) rfl)) (wp_pass ?_))
  exact wp_ret (ev_call (ev_cons rfl (ev_cons rfl (ev_cons rfl (ev_cons (ev_ix rfl rfl rfl) rfl)))) (l_no_more rfl rfl hW (by omega) hN F hF)) rfl
theorem all_mk {K:PySem.W.Frag} {h:Heap} {mg:Str→Option Value} {fa:Addr} (X:K.In h) (G:h.Ns mainGlobals mg) (hfa:mg "law" = some (.ref fa))
    {f0:Addr} {od0 an0:Option Addr} {sl0:Array (Option Value)} {oc0 kV0 dc0 pm0 cd0 ct0:Value}
    {f1:Addr} {od1 an1:Option Addr} {sl1:Array (Option Value)} {oc1 kV1 dc1 pm1 cd1 ct1:Value}
    {f2:Addr} {od2 an2:Option Addr} {sl2:Array (Option Value)} {oc2 kV2 dc2 pm2 cd2 ct2:Value}
    {f3:Addr} {od3 an3:Option Addr} {sl3:Array (Option Value)} {oc3 kV3 dc3 pm3 cd3 ct3:Value}
    {f4:Addr} {od4 an4:Option Addr} {sl4:Array (Option Value)} {oc4 kV4 dc4 pm4 cd4 ct4:Value}
    {f5:Addr} {od5 an5:Option Addr} {sl5:Array (Option Value)} {oc5 kV5 dc5 pm5 cd5 ct5:Value}
    {f6:Addr} {od6 an6:Option Addr} {sl6:Array (Option Value)} {oc6 kV6 dc6 pm6 cd6 ct6:Value}
    {f7:Addr} {od7 an7:Option Addr} {sl7:Array (Option Value)} {oc7 kV7 dc7 pm7 cd7 ct7:Value}
    {f8:Addr} {od8 an8:Option Addr} {sl8:Array (Option Value)} {oc8 kV8 dc8 pm8 cd8 ct8:Value}
    {f9:Addr} {od9 an9:Option Addr} {sl9:Array (Option Value)} {oc9 kV9 dc9 pm9 cd9 ct9:Value}
    {f10:Addr} {od10 an10:Option Addr} {sl10:Array (Option Value)} {oc10 kV10 dc10 pm10 cd10 ct10:Value}
    {f11:Addr} {od11 an11:Option Addr} {sl11:Array (Option Value)} {oc11 kV11 dc11 pm11 cd11 ct11:Value}
    {f12:Addr} {od12 an12:Option Addr} {sl12:Array (Option Value)} {oc12 kV12 dc12 pm12 cd12 ct12:Value}
    {f13:Addr} {od13 an13:Option Addr} {sl13:Array (Option Value)} {oc13 kV13 dc13 pm13 cd13 ct13:Value}
    {f14:Addr} {od14 an14:Option Addr} {sl14:Array (Option Value)} {oc14 kV14 dc14 pm14 cd14 ct14:Value}
    {f15:Addr} {od15 an15:Option Addr} {sl15:Array (Option Value)} {oc15 kV15 dc15 pm15 cd15 ct15:Value}
    {f16:Addr} {od16 an16:Option Addr} {sl16:Array (Option Value)} {oc16 kV16 dc16 pm16 cd16 ct16:Value}
    {f17:Addr} {od17 an17:Option Addr} {sl17:Array (Option Value)} {oc17 kV17 dc17 pm17 cd17 ct17:Value}
    {f18:Addr} {od18 an18:Option Addr} {sl18:Array (Option Value)} {oc18 kV18 dc18 pm18 cd18 ct18:Value}
    {t_COME:Tok}
    {t_DUE:Tok}
    {t_HOURS:Tok}
    (a0:PySem.W.nsIn K mainGlobals "shares" = some (some (.ref f0))) (l0:K.lookup f0=some ⟨oc0,od0,.func (PySem.W.fnOf "shares" "shares" (defArgs s_shares) (defBody s_shares) (defScope s_shares) .none kV0 dc0 pm0 an0 cd0 ct0),sl0⟩) (c0:PySem.W.codeIn K cd0 "shares" = true) (k0:PySem.W.keepIn K (.ref f0)=true)
    (a1:PySem.W.nsIn K mainGlobals "stretches_of" = some (some (.ref f1))) (l1:K.lookup f1=some ⟨oc1,od1,.func (PySem.W.fnOf "stretches_of" "stretches_of" (defArgs s_stretches_of) (defBody s_stretches_of) (defScope s_stretches_of) .none kV1 dc1 pm1 an1 cd1 ct1),sl1⟩) (c1:PySem.W.codeIn K cd1 "stretches_of" = true) (k1:PySem.W.keepIn K (.ref f1)=true)
    (a2:PySem.W.nsIn K mainGlobals "shortest_way" = some (some (.ref f2))) (l2:K.lookup f2=some ⟨oc2,od2,.func (PySem.W.fnOf "shortest_way" "shortest_way" (defArgs s_shortest_way) (defBody s_shortest_way) (defScope s_shortest_way) .none kV2 dc2 pm2 an2 cd2 ct2),sl2⟩) (c2:PySem.W.codeIn K cd2 "shortest_way" = true) (k2:PySem.W.keepIn K (.ref f2)=true)
    (a3:PySem.W.nsIn K mainGlobals "reached" = some (some (.ref f3))) (l3:K.lookup f3=some ⟨oc3,od3,.func (PySem.W.fnOf "reached" "reached" (defArgs s_reached) (defBody s_reached) (defScope s_reached) .none kV3 dc3 pm3 an3 cd3 ct3),sl3⟩) (c3:PySem.W.codeIn K cd3 "reached" = true) (k3:PySem.W.keepIn K (.ref f3)=true)
    (a4:PySem.W.nsIn K mainGlobals "neighbours" = some (some (.ref f4))) (l4:K.lookup f4=some ⟨oc4,od4,.func (PySem.W.fnOf "neighbours" "neighbours" (defArgs s_neighbours) (defBody s_neighbours) (defScope s_neighbours) .none kV4 dc4 pm4 an4 cd4 ct4),sl4⟩) (c4:PySem.W.codeIn K cd4 "neighbours" = true) (k4:PySem.W.keepIn K (.ref f4)=true)
    (a5:PySem.W.nsIn K mainGlobals "way_to" = some (some (.ref f5))) (l5:K.lookup f5=some ⟨oc5,od5,.func (PySem.W.fnOf "way_to" "way_to" (defArgs s_way_to) (defBody s_way_to) (defScope s_way_to) .none kV5 dc5 pm5 an5 cd5 ct5),sl5⟩) (c5:PySem.W.codeIn K cd5 "way_to" = true) (k5:PySem.W.keepIn K (.ref f5)=true)
    (a6:PySem.W.nsIn K mainGlobals "move_hours" = some (some (.ref f6))) (l6:K.lookup f6=some ⟨oc6,od6,.func (PySem.W.fnOf "move_hours" "move_hours" (defArgs s_move_hours) (defBody s_move_hours) (defScope s_move_hours) .none kV6 dc6 pm6 an6 cd6 ct6),sl6⟩) (c6:PySem.W.codeIn K cd6 "move_hours" = true) (k6:PySem.W.keepIn K (.ref f6)=true)
    (a7:PySem.W.nsIn K mainGlobals "hours_left" = some (some (.ref f7))) (l7:K.lookup f7=some ⟨oc7,od7,.func (PySem.W.fnOf "hours_left" "hours_left" (defArgs s_hours_left) (defBody s_hours_left) (defScope s_hours_left) .none kV7 dc7 pm7 an7 cd7 ct7),sl7⟩) (c7:PySem.W.codeIn K cd7 "hours_left" = true) (k7:PySem.W.keepIn K (.ref f7)=true)
    (a8:PySem.W.nsIn K mainGlobals "work_room" = some (some (.ref f8))) (l8:K.lookup f8=some ⟨oc8,od8,.func (PySem.W.fnOf "work_room" "work_room" (defArgs s_work_room) (defBody s_work_room) (defScope s_work_room) .none kV8 dc8 pm8 an8 cd8 ct8),sl8⟩) (c8:PySem.W.codeIn K cd8 "work_room" = true) (k8:PySem.W.keepIn K (.ref f8)=true)
    (a9:PySem.W.nsIn K mainGlobals "stretch_room" = some (some (.ref f9))) (l9:K.lookup f9=some ⟨oc9,od9,.func (PySem.W.fnOf "stretch_room" "stretch_room" (defArgs s_stretch_room) (defBody s_stretch_room) (defScope s_stretch_room) .none kV9 dc9 pm9 an9 cd9 ct9),sl9⟩) (c9:PySem.W.codeIn K cd9 "stretch_room" = true) (k9:PySem.W.keepIn K (.ref f9)=true)
    (a10:PySem.W.nsIn K mainGlobals "_law_whole" = some (some (.ref f10))) (l10:K.lookup f10=some ⟨oc10,od10,.func (PySem.W.fnOf "_law_whole" "_law_whole" (defArgs s_l_whole) (defBody s_l_whole) (defScope s_l_whole) .none kV10 dc10 pm10 an10 cd10 ct10),sl10⟩) (c10:PySem.W.codeIn K cd10 "_law_whole" = true) (k10:PySem.W.keepIn K (.ref f10)=true)
    (a11:PySem.W.nsIn K mainGlobals "_law_cell_at" = some (some (.ref f11))) (l11:K.lookup f11=some ⟨oc11,od11,.func (PySem.W.fnOf "_law_cell_at" "_law_cell_at" (defArgs s_l_cell_at) (defBody s_l_cell_at) (defScope s_l_cell_at) .none kV11 dc11 pm11 an11 cd11 ct11),sl11⟩) (c11:PySem.W.codeIn K cd11 "_law_cell_at" = true) (k11:PySem.W.keepIn K (.ref f11)=true)
    (a12:PySem.W.nsIn K mainGlobals "_law_mixed" = some (some (.ref f12))) (l12:K.lookup f12=some ⟨oc12,od12,.func (PySem.W.fnOf "_law_mixed" "_law_mixed" (defArgs s_l_mixed) (defBody s_l_mixed) (defScope s_l_mixed) .none kV12 dc12 pm12 an12 cd12 ct12),sl12⟩) (c12:PySem.W.codeIn K cd12 "_law_mixed" = true) (k12:PySem.W.keepIn K (.ref f12)=true)
    (a13:PySem.W.nsIn K mainGlobals "_law_by_blocks" = some (some (.ref f13))) (l13:K.lookup f13=some ⟨oc13,od13,.func (PySem.W.fnOf "_law_by_blocks" "_law_by_blocks" (defArgs s_l_by_blocks) (defBody s_l_by_blocks) (defScope s_l_by_blocks) .none kV13 dc13 pm13 an13 cd13 ct13),sl13⟩) (c13:PySem.W.codeIn K cd13 "_law_by_blocks" = true) (k13:PySem.W.keepIn K (.ref f13)=true)
    (a14:PySem.W.nsIn K mainGlobals "_law_by_draws" = some (some (.ref f14))) (l14:K.lookup f14=some ⟨oc14,od14,.func (PySem.W.fnOf "_law_by_draws" "_law_by_draws" (defArgs s_l_by_draws) (defBody s_l_by_draws) (defScope s_l_by_draws) .none kV14 dc14 pm14 an14 cd14 ct14),sl14⟩) (c14:PySem.W.codeIn K cd14 "_law_by_draws" = true) (k14:PySem.W.keepIn K (.ref f14)=true)
    (a15:PySem.W.nsIn K mainGlobals "_law_floor" = some (some (.ref f15))) (l15:K.lookup f15=some ⟨oc15,od15,.func (PySem.W.fnOf "_law_floor" "_law_floor" (defArgs s_l_floor) (defBody s_l_floor) (defScope s_l_floor) .none kV15 dc15 pm15 an15 cd15 ct15),sl15⟩) (c15:PySem.W.codeIn K cd15 "_law_floor" = true) (k15:PySem.W.keepIn K (.ref f15)=true)
    (a16:PySem.W.nsIn K mainGlobals "_law_fits" = some (some (.ref f16))) (l16:K.lookup f16=some ⟨oc16,od16,.func (PySem.W.fnOf "_law_fits" "_law_fits" (defArgs s_l_fits) (defBody s_l_fits) (defScope s_l_fits) .none kV16 dc16 pm16 an16 cd16 ct16),sl16⟩) (c16:PySem.W.codeIn K cd16 "_law_fits" = true) (k16:PySem.W.keepIn K (.ref f16)=true)
    (a17:PySem.W.nsIn K mainGlobals "_law_no_more" = some (some (.ref f17))) (l17:K.lookup f17=some ⟨oc17,od17,.func (PySem.W.fnOf "_law_no_more" "_law_no_more" (defArgs s_l_no_more) (defBody s_l_no_more) (defScope s_l_no_more) .none kV17 dc17 pm17 an17 cd17 ct17),sl17⟩) (c17:PySem.W.codeIn K cd17 "_law_no_more" = true) (k17:PySem.W.keepIn K (.ref f17)=true)
    (a18:PySem.W.nsIn K mainGlobals "law" = some (some (.ref f18))) (l18:K.lookup f18=some ⟨oc18,od18,.func (PySem.W.fnOf "law" "law" (defArgs s_law) (defBody s_law) (defScope s_law) .none kV18 dc18 pm18 an18 cd18 ct18),sl18⟩) (c18:PySem.W.codeIn K cd18 "law" = true) (k18:PySem.W.keepIn K (.ref f18)=true)
    (z_all:PySem.W.nsIn K mainGlobals "all" = some none)
    (z_bool:PySem.W.nsIn K mainGlobals "bool" = some none)
    (z_int:PySem.W.nsIn K mainGlobals "int" = some none)
    (z_isinstance:PySem.W.nsIn K mainGlobals "isinstance" = some none)
    (z_len:PySem.W.nsIn K mainGlobals "len" = some none)
    (z_list:PySem.W.nsIn K mainGlobals "list" = some none)
    (z_max:PySem.W.nsIn K mainGlobals "max" = some none)
    (z_min:PySem.W.nsIn K mainGlobals "min" = some none)
    (z_range:PySem.W.nsIn K mainGlobals "range" = some none)
    (z_reversed:PySem.W.nsIn K mainGlobals "reversed" = some none)
    (z_set:PySem.W.nsIn K mainGlobals "set" = some none)
    (z_sorted:PySem.W.nsIn K mainGlobals "sorted" = some none)
    (z_sum:PySem.W.nsIn K mainGlobals "sum" = some none)
    (z_tuple:PySem.W.nsIn K mainGlobals "tuple" = some none)
    (z_zip:PySem.W.nsIn K mainGlobals "zip" = some none)
    (c_COME:PySem.W.nsIn K mainGlobals "COME" = some (some (.int 0 t_COME)))
    (c_DUE:PySem.W.nsIn K mainGlobals "DUE" = some (some (.int 1 t_DUE)))
    (c_HOURS:PySem.W.nsIn K mainGlobals "HOURS" = some (some (.int 2 t_HOURS))) :
    ∃ a:Adr,Txt K mg a∧a.f_law=fa∧∀ (s:Shared) (v:Value),BindsTo s a.d_law ⟨[v],[]⟩ [("_law_script", v)]:=by
  have e:=hfa.symm.trans (PySem.W.mg_of X G a18)
  cases e
  have F0:=fun_mk (st:=s_shares) l0 c0 k0
  have F1:=fun_mk (st:=s_stretches_of) l1 c1 k1
  have F2:=fun_mk (st:=s_shortest_way) l2 c2 k2
  have F3:=fun_mk (st:=s_reached) l3 c3 k3
  have F4:=fun_mk (st:=s_neighbours) l4 c4 k4
  have F5:=fun_mk (st:=s_way_to) l5 c5 k5
  have F6:=fun_mk (st:=s_move_hours) l6 c6 k6
  have F7:=fun_mk (st:=s_hours_left) l7 c7 k7
  have F8:=fun_mk (st:=s_work_room) l8 c8 k8
  have F9:=fun_mk (st:=s_stretch_room) l9 c9 k9
  have F10:=fun_mk (st:=s_l_whole) l10 c10 k10
  have F11:=fun_mk (st:=s_l_cell_at) l11 c11 k11
  have F12:=fun_mk (st:=s_l_mixed) l12 c12 k12
  have F13:=fun_mk (st:=s_l_by_blocks) l13 c13 k13
  have F14:=fun_mk (st:=s_l_by_draws) l14 c14 k14
  have F15:=fun_mk (st:=s_l_floor) l15 c15 k15
  have F16:=fun_mk (st:=s_l_fits) l16 c16 k16
  have F17:=fun_mk (st:=s_l_no_more) l17 c17 k17
  have F18:=fun_mk (st:=s_law) l18 c18 k18
  have b0:=F0.binds (ps:=["works", "benches"]) fun _ _ _ _ _ _ us hl=>match us,hl with | [_,_],_=>rfl
  have b1:=F1.binds (ps:=["works"]) fun _ _ _ _ _ _ us hl=>match us,hl with | [_],_=>rfl
  have b2:=F2.binds (ps:=["works", "benches", "stretches", "table"]) fun _ _ _ _ _ _ us hl=>match us,hl with | [_,_,_,_],_=>rfl
  have b3:=F3.binds (ps:=["works", "stretches", "table"]) fun _ _ _ _ _ _ us hl=>match us,hl with | [_,_,_],_=>rfl
  have b4:=F4.binds (ps:=["works", "stretches", "table", "place"]) fun _ _ _ _ _ _ us hl=>match us,hl with | [_,_,_,_],_=>rfl
  have b5:=F5.binds (ps:=["sources", "place", "many"]) fun _ _ _ _ _ _ us hl=>match us,hl with | [_,_,_],_=>rfl
  have b6:=F6.binds (ps:=["works", "benches", "stretches", "table", "way"]) fun _ _ _ _ _ _ us hl=>match us,hl with | [_,_,_,_,_],_=>rfl
  have b7:=F7.binds (ps:=["works", "table", "work"]) fun _ _ _ _ _ _ us hl=>match us,hl with | [_,_,_],_=>rfl
  have b8:=F8.binds (ps:=["works", "stretches", "table", "work", "number"]) fun _ _ _ _ _ _ us hl=>match us,hl with | [_,_,_,_,_],_=>rfl
  have b9:=F9.binds (ps:=["benches", "stretches", "table", "number"]) fun _ _ _ _ _ _ us hl=>match us,hl with | [_,_,_,_],_=>rfl
  have b10:=F10.binds (ps:=["_law_found"]) fun _ _ _ _ _ _ us hl=>match us,hl with | [_],_=>rfl
  have b11:=F11.binds (ps:=["_law_script", "_law_k"]) fun _ _ _ _ _ _ us hl=>match us,hl with | [_,_],_=>rfl
  have b12:=F12.binds (ps:=["_law_cell", "_law_k"]) fun _ _ _ _ _ _ us hl=>match us,hl with | [_,_],_=>rfl
  have b13:=F13.binds (ps:=["_law_script", "_law_many", "_law_number"]) fun _ _ _ _ _ _ us hl=>match us,hl with | [_,_,_],_=>rfl
  have b14:=F14.binds (ps:=["_law_script", "_law_many"]) fun _ _ _ _ _ _ us hl=>match us,hl with | [_,_],_=>rfl
  have b15:=F15.binds (ps:=["_law_script"]) fun _ _ _ _ _ _ us hl=>match us,hl with | [_],_=>rfl
  have b16:=F16.binds (ps:=["_law_works", "_law_number", "_law_stretches", "_law_table"]) fun _ _ _ _ _ _ us hl=>match us,hl with | [_,_,_,_],_=>rfl
  have b17:=F17.binds (ps:=["_law_works", "_law_number", "_law_stretches", "_law_table"]) fun _ _ _ _ _ _ us hl=>match us,hl with | [_,_,_,_],_=>rfl
  have b18:=F18.binds (ps:=["_law_script"]) fun _ _ _ _ _ _ us hl=>match us,hl with | [_],_=>rfl
  exact ⟨⟨f0,_,f1,_,f2,_,f3,_,f4,_,f5,_,f6,_,f7,_,f8,_,f9,_,f10,_,f11,_,f12,_,f13,_,f14,_,f15,_,f16,_,f17,_,fa,_⟩,⟨F0,b0,PySem.W.mg_of X G a0,F1,b1,PySem.W.mg_of X G a1,F2,b2,PySem.W.mg_of X G a2,F3,b3,PySem.W.mg_of X G a3,F4,b4,PySem.W.mg_of X G a4,F5,b5,PySem.W.mg_of X G a5,F6,b6,PySem.W.mg_of X G a6,F7,b7,PySem.W.mg_of X G a7,F8,b8,PySem.W.mg_of X G a8,F9,b9,PySem.W.mg_of X G a9,F10,b10,PySem.W.mg_of X G a10,F11,b11,PySem.W.mg_of X G a11,F12,b12,PySem.W.mg_of X G a12,F13,b13,PySem.W.mg_of X G a13,F14,b14,PySem.W.mg_of X G a14,F15,b15,PySem.W.mg_of X G a15,F16,b16,PySem.W.mg_of X G a16,F17,b17,PySem.W.mg_of X G a17,F18,b18,PySem.W.mg_of X G a18,PySem.W.mg_none_of X G z_all,PySem.W.mg_none_of X G z_bool,PySem.W.mg_none_of X G z_int,PySem.W.mg_none_of X G z_isinstance,PySem.W.mg_none_of X G z_len,PySem.W.mg_none_of X G z_list,PySem.W.mg_none_of X G z_max,PySem.W.mg_none_of X G z_min,PySem.W.mg_none_of X G z_range,PySem.W.mg_none_of X G z_reversed,PySem.W.mg_none_of X G z_set,PySem.W.mg_none_of X G z_sorted,PySem.W.mg_none_of X G z_sum,PySem.W.mg_none_of X G z_tuple,PySem.W.mg_none_of X G z_zip,⟨_,PySem.W.mg_of X G c_COME⟩,⟨_,PySem.W.mg_of X G c_DUE⟩,⟨_,PySem.W.mg_of X G c_HOURS⟩⟩,rfl,fun s v=>.of_eq rfl⟩
theorem walk {l:PySem.W.OpenLaw} {q:Program} {loose:List Str} {XP:(Str→Option Value)→Heap→Prop} {YP:World→Heap→Prop} {d:DefRec} {K:Params→PySem.W.Frag} (hn:l.most=some 63) (hdf:d.params.defaults=[])
    (hY:∀ (w:World) (h:Heap),YP w h→(K w.params).In h)
    (F:∀ (w:World) (mg:Str→Option Value) (fa:Addr) (h:Heap),(K w.params).In h→h.Ns mainGlobals mg→mg d.name=some (.ref fa)→∃ a:Adr,Txt (K w.params) mg a∧a.f_law=fa∧∀ (s:Shared) (v:Value),BindsTo s a.d_law ⟨[v],[]⟩ [("_law_script", v)]) :
    PySem.W.WalkO q loose XP YP l.row.toRowW d [] (fun f vs=>PySem.call f vs) :=
  L2.walk_ofB (n:=63) (k:=6) (x := "_law_script") (CX:=fun _=>CX0) (sp:=fun w=>sp_law (K w.params)) hn (by decide) hdf ⟨rfl,by decide,by decide⟩ hY
    (fun w mg fa h KX G e=>by
      obtain ⟨a,T,rfl,hb⟩:=F w mg fa h KX G e
      exact ⟨a.d_law,hb,fun base kb nb=>(ok_law T).imp fun vs H Q E h=>sp_law_of law_true h⟩)
    (fun _ _ a ns hl hbits _ hS=>⟨a,ns,rfl,hS,hl,hbits,(fun _ h=>by cases h),fun _=>rfl⟩) fun _ _ _ _ _ z=>z
end My
open PySem PySem.W PyProof.Rows
set_option maxRecDepth 100000 in
set_option maxHeartbeats 0 in
theorem PySem.Challenge.cw_leastfloor_k42_whole_shares_holds : PySem.Challenge.rw_leastfloor_k42_whole_shares.Holds := by
  w_on; o_law; k_head; (case hw => w_witness2)
  k_fill
  refine My.walk (l := PySem.Challenge.rw_leastfloor_k42_whole_shares) rfl rfl (fun w h Y => by first | exact PySem.W.kIn_of Y | exact PySem.W.km_in_of Y) ?F
  case F =>
    intro w mg fa h KX G hmg
    refine' My.all_mk KX G hmg ?a0 ?l0 ?c0 ?k0 ?a1 ?l1 ?c1 ?k1 ?a2 ?l2 ?c2 ?k2 ?a3 ?l3 ?c3 ?k3 ?a4 ?l4 ?c4 ?k4 ?a5 ?l5 ?c5 ?k5 ?a6 ?l6 ?c6 ?k6 ?a7 ?l7 ?c7 ?k7 ?a8 ?l8 ?c8 ?k8 ?a9 ?l9 ?c9 ?k9 ?a10 ?l10 ?c10 ?k10 ?a11 ?l11 ?c11 ?k11 ?a12 ?l12 ?c12 ?k12 ?a13 ?l13 ?c13 ?k13 ?a14 ?l14 ?c14 ?k14 ?a15 ?l15 ?c15 ?k15 ?a16 ?l16 ?c16 ?k16 ?a17 ?l17 ?c17 ?k17 ?a18 ?l18 ?c18 ?k18 ?z_all ?z_bool ?z_int ?z_isinstance ?z_len ?z_list ?z_max ?z_min ?z_range ?z_reversed ?z_set ?z_sorted ?z_sum ?z_tuple ?z_zip ?c_COME ?c_DUE ?c_HOURS
    (case a0 => k_is); (case l0 => k_is); (case c0 => k_is); (case k0 => k_is)
    (case a1 => k_is); (case l1 => k_is); (case c1 => k_is); (case k1 => k_is)
    (case a2 => k_is); (case l2 => k_is); (case c2 => k_is); (case k2 => k_is)
    (case a3 => k_is); (case l3 => k_is); (case c3 => k_is); (case k3 => k_is)
    (case a4 => k_is); (case l4 => k_is); (case c4 => k_is); (case k4 => k_is)
    (case a5 => k_is); (case l5 => k_is); (case c5 => k_is); (case k5 => k_is)
    (case a6 => k_is); (case l6 => k_is); (case c6 => k_is); (case k6 => k_is)
    (case a7 => k_is); (case l7 => k_is); (case c7 => k_is); (case k7 => k_is)
    (case a8 => k_is); (case l8 => k_is); (case c8 => k_is); (case k8 => k_is)
    (case a9 => k_is); (case l9 => k_is); (case c9 => k_is); (case k9 => k_is)
    (case a10 => k_is); (case l10 => k_is); (case c10 => k_is); (case k10 => k_is)
    (case a11 => k_is); (case l11 => k_is); (case c11 => k_is); (case k11 => k_is)
    (case a12 => k_is); (case l12 => k_is); (case c12 => k_is); (case k12 => k_is)
    (case a13 => k_is); (case l13 => k_is); (case c13 => k_is); (case k13 => k_is)
    (case a14 => k_is); (case l14 => k_is); (case c14 => k_is); (case k14 => k_is)
    (case a15 => k_is); (case l15 => k_is); (case c15 => k_is); (case k15 => k_is)
    (case a16 => k_is); (case l16 => k_is); (case c16 => k_is); (case k16 => k_is)
    (case a17 => k_is); (case l17 => k_is); (case c17 => k_is); (case k17 => k_is)
    (case a18 => k_is); (case l18 => k_is); (case c18 => k_is); (case k18 => k_is)
    (case z_all => k_is); (case z_bool => k_is); (case z_int => k_is); (case z_isinstance => k_is)
    (case z_len => k_is); (case z_list => k_is); (case z_max => k_is); (case z_min => k_is)
    (case z_range => k_is); (case z_reversed => k_is); (case z_set => k_is); (case z_sorted => k_is)
    (case z_sum => k_is); (case z_tuple => k_is); (case z_zip => k_is); (case c_COME => k_is)
    (case c_DUE => k_is); (case c_HOURS => k_is)
#print axioms PySem.Challenge.cw_leastfloor_k42_whole_shares_holds
