import PyProof.Rows.All
import Wide.All
import OpenK.AllK
import Wide.FinOn
import Lean
import PyProof.EqAt
import PyProof.EqKinds
import PyProof.TupleCall
import PySem.Challenge.RW_leastfloor_k72_what_is_a_floor
set_option compiler.extract_closed false
set_option Elab.async false
set_option linter.all false
set_option maxRecDepth 100000
namespace L2
open PySem PySem.Spec PyProof.Rows
abbrev Key:=Sum Int Str
def keyIs:Key→Value→Bool
  | .inl k,v=>Value.isInt k v
  | .inr x,v=>Value.isStrOf x v
def keyH (w:World):Key→Int
  | .inl k=>hashInt k
  | .inr x=>hashStr w x
theorem keyIs_shape:∀ {k:Key} {v:Value},keyIs k v=true→(∃ i t,k=Sum.inl i∧v=Value.int i t)∨(∃ x t,k=Sum.inr x∧v=Value.str x t)
  | .inl i,v,h=>by
    obtain ⟨t,e⟩:=Value.isInt_shape (k:=i) (v:=v) h
    exact .inl ⟨i,t,rfl,e⟩
  | .inr x,v,h=>by
    obtain ⟨t,e⟩:=Value.isStrOf_shape (x:=x) (v:=v) h
    exact .inr ⟨x,t,rfl,e⟩
theorem key_ll (a b:Int):decide ((Sum.inl a:Key)=Sum.inl b)=(a==b):=by
  by_cases e:a=b
  · subst e; simp
  · have h:¬ (Sum.inl a:Key)=Sum.inl b:=fun q=>e (Sum.inl.inj q)
    rw [decide_eq_false h]
    exact (beq_eq_false_iff_ne.mpr e).symm
theorem key_rr (a b:Str):decide ((Sum.inr a:Key)=Sum.inr b)=decide (a=b):=by
  by_cases e:a=b
  · subst e; simp
  · have h:¬ (Sum.inr a:Key)=Sum.inr b:=fun q=>e (Sum.inr.inj q)
    rw [decide_eq_false h,decide_eq_false e]
theorem key_lr (a:Int) (b:Str):decide ((Sum.inl a:Key)=Sum.inr b)=false:=decide_eq_false (fun q=>nomatch q)
theorem key_rl (a:Str) (b:Int):decide ((Sum.inr a:Key)=Sum.inl b)=false:=decide_eq_false (fun q=>nomatch q)
def zle (prog:Program) (w:World):PySem.KeyKind prog w Key where
  is:=keyIs
  hash:=keyH w
  inj:=fun v a b ha hb=>by
    rcases keyIs_shape ha with ⟨i,t,rfl,rfl⟩ | ⟨x,t,rfl,rfl⟩
    · rcases keyIs_shape hb with ⟨j,u,rfl,e⟩ | ⟨y,u,rfl,e⟩
      · injection e with e1 _; rw [e1]
      · exact nomatch e
    · rcases keyIs_shape hb with ⟨j,u,rfl,e⟩ | ⟨y,u,rfl,e⟩
      · exact nomatch e
      · injection e with e1 _; rw [e1]
  byValue:=fun k v h=>by
    rcases keyIs_shape h with ⟨i,t,rfl,rfl⟩ | ⟨x,t,rfl,rfl⟩ <;> rfl
  pyHash:=fun hv h=>by
    rcases keyIs_shape hv with ⟨i,t,rfl,rfl⟩ | ⟨x,t,rfl,rfl⟩
    · exact wpAny_pyHash_int h
    · exact wpAny_pyHash_str h
  eqBool:=fun hu hv h=>by
    rcases keyIs_shape hu with ⟨i,t,rfl,rfl⟩ | ⟨x,t,rfl,rfl⟩
    · rcases keyIs_shape hv with ⟨j,u,rfl,rfl⟩ | ⟨y,u,rfl,rfl⟩
      · rw [key_ll] at h; exact wpAny_eqBool_int h
      · rw [key_lr] at h; exact SeqAt.EqAt.int_str i t y u _ _ _ _ h
    · rcases keyIs_shape hv with ⟨j,u,rfl,rfl⟩ | ⟨y,u,rfl,rfl⟩
      · rw [key_rl] at h; exact SeqAt.EqAt.str_int x t j u _ _ _ _ h
      · rw [key_rr] at h; exact wpAny_eqBool_str h
  «strs»:=fun k x t v h=>by
    rcases keyIs_shape h with ⟨i,u,rfl,e⟩ | ⟨y,u,rfl,e⟩
    · exact nomatch e
    · injection e with e1 _
      subst e1
      cases v <;> rfl
end L2
namespace L2
open PySem PySem.Spec PyProof.Rows
inductive V where
  | non | bl (b:Bool) | int (i:Int) | str (x:Str) | byt (b:Array UInt8) | flt (b:UInt64) | ref (a:Addr) | ty (n:String)
  deriving DecidableEq
def RelV:V→Value→Prop
  | .non,u=>u=Value.none
  | .bl b,u=>u=Value.bool b
  | .int i,u=>∃ t,u=Value.int i t
  | .str x,u=>∃ t,u=Value.str x t
  | .byt b,u=>∃ t,u=Value.bytes b t
  | .flt b,u=>∃ t,u=Value.float b t
  | .ref a,u=>u=Value.ref a
  | .ty n,u=>u=Value.type n
abbrev Vals:List V→List Value→Prop:=Paired RelV
theorem Vals.length {xs:List V} {us:List Value} (r:Vals xs us):xs.length=us.length:=Paired.length r
theorem Vals.get:∀ {xs:List V} {us:List Value} {i:Nat} {x:V},Vals xs us→xs[i]?=some x→∃ u,us[i]?=some u∧RelV x u
  | _,_,_,_,.nil,e=>by simp at e
  | _,_,0,_,.cons r _,e=>by simp at e; subst e; exact ⟨_,rfl,r⟩
  | _,_,i+1,x,.cons _ t,e=>by
    obtain ⟨u,h1,h2⟩:=Vals.get (i:=i) (x:=x) t (by simpa using e)
    exact ⟨u,by simpa using h1,h2⟩
theorem Vals.set {x:V} {u:Value} (r:RelV x u):∀ {xs:List V} {us:List Value} (i:Nat),Vals xs us→Vals (xs.set i x) (us.set i u)
  | _,_,_,.nil=>.nil
  | _,_,0,.cons _ t=>.cons r t
  | _,_,i+1,.cons q t=>.cons q (Vals.set r i t)
theorem Vals.append:∀ {xs ys:List V} {us ws:List Value},Vals xs us→Vals ys ws→Vals (xs++ys) (us++ws)
  | _,_,_,_,.nil,s=>s
  | _,_,_,_,.cons r t,s=>.cons r (Vals.append t s)
theorem Vals.take:∀ {xs:List V} {us:List Value} (n:Nat),Vals xs us→Vals (xs.take n) (us.take n)
  | _,_,0,_=>.nil
  | _,_,_+1,.nil=>.nil
  | _,_,n+1,.cons r t=>.cons r (Vals.take n t)
theorem Vals.drop:∀ {xs:List V} {us:List Value} (n:Nat),Vals xs us→Vals (xs.drop n) (us.drop n)
  | _,_,0,r=>r
  | _,_,_+1,.nil=>.nil
  | _,_,n+1,.cons _ t=>Vals.drop n t
def RelO:Option V→Option Value→Prop
  | some v,some u=>RelV v u
  | none,none=>True
  | _,_=>False
def KV {κ:Type}:List (κ×V)→List (κ×Value)→Prop:=Paired fun (p:κ×V) (q:κ×Value)=>p.1=q.1∧RelV p.2 q.2
def kV:Key→V
  | .inl i=>.int i
  | .inr x=>.str x
inductive HO where
  | lst (xs:List V)
  | tup (xs:List V)
  | dK (kvs:List (Key×V)) | dT (kvs:List (List Key×V))
  | set (S:Int→Bool) (n:Nat)
  | ins (C dx:Addr) (fs:List (Str×V))
  | own (x:Addr)
  | xd (fs:List (Str×V))
  | met (f x:Addr)
  | rng (lo hi:Int)
  | frz (o:Obj) (u:HO)
  | tbl (ps:Array Value)
  | ext (φ:Heap→Prop)
abbrev Hp:=Addr→Option HO
def upd (H:Hp) (a:Addr) (o:HO):Hp:=fun b=>if b=a then some o else H b
theorem zbt {H:Hp} {a:Addr} {o:HO}:upd H a o a=some o:=by unfold upd; rw [if_pos rfl]
theorem upd_ne {H:Hp} {a b:Addr} {o:HO} (h:b≠a):upd H a o b=H b:=by unfold upd; rw [if_neg h]
theorem zb2 {H:Hp} {a b:Addr} {o:HO} (h:H a=some o) (h':H b=none):a≠b:=by
  intro e; subst e; rw [h] at h'; cases h'
section
variable (P:Program) (w:World)
def ObjOk (H:Hp) (h:Heap) (a:Addr):HO→Prop
  | .lst xs=>xs.length≤sizeLine∧∃ (its:List Value) (n:Nat),Vals xs its∧h.get? a=some { cls:=.type "list", data:=.seq its.toArray n }
  | .tup xs=>xs.length≤sizeLine∧∃ its:List Value,Vals xs its∧IsTup h a its.toArray
  | .dK kvs=>kvs.length≤sizeLine∧(a==sysModules)=false∧∃ vs,KV kvs vs∧h.DictOf (zle P w) a vs
  | .dT kvs=>kvs.length≤sizeLine∧(a==sysModules)=false∧∃ xs:List (List Key×Addr×Value),
      Paired (fun (p:List Key×V) (q:List Key×Addr×Value)=>p.1=q.1∧H q.2.1=some (.tup (p.1.map kV))∧RelV p.2 q.2.2) kvs xs ∧
      ∃ o es ep,h.get? a=some o∧o.ExactDict∧o.data=.dict es ep∧es.toList=xs.map (entryOfKey (tupleKind (zle P w)))∧(xs.map (·.1)).Nodup
  | .set S n=>h.SetOf (intKind P w) a S n
  | .ins C dx fs=>H dx=some (.own a)∧fs.length≤1000∧dx≠a∧h.get? a=some (PySem.W.instObj C dx) ∧
      ∃ mA,h.Ns1 dx mA∧(∀ f,RelO (fs.lookup f) (mA f))∧PySem.Within mA (fs.map (·.1))
  | .own _=>∃ o,h.get? a=some o
  | .xd fs=>∃ mA,h.Ns1 a mA∧∀ f,RelO (fs.lookup f) (mA f)
  | .rng lo hi=>∃ t u v,h.get? a=some { cls:=.type "range", data:=.fields #[.int lo t,.int hi u,.int 1 v] }
  | .frz o u=>h.get? a=some o∧ObjOk H h a u
  | .tbl ps=>∃ (q:Str) (t:Tok) (qs:Array Value),ps[0]?=some (.str q t)∧h.get? a=some { cls:=.none,data:=.fields qs }∧TriplesOk qs.toList ∧
      ∀ pos v,codeAmong pos qs.toList=some v→∃ c o u vs t,v=.ref c∧H c=some (.frz o u)∧o.data=.fields vs∧vs[1]?=some (.str q t)
  | .met f x=>h.get? a=some (PySem.W.methodObj (.ref f) (.ref x))
  | .ext φ=>φ h∧(∃ o,h.get? a=some o)∧∀ h1 h2:Heap,φ h1→(∀ o,h1.get? a=some o→h2.get? a=some o)→φ h2
def HOk (H:Hp) (h:Heap):Prop:=∀ a o,H a=some o→ObjOk P w H h a o
end
section
variable {P:Program} {w:World} {H H':Hp} {h h':Heap} {a:Addr} {o:HO}
theorem ObjOk.lt (x:ObjOk P w H h a o):a<h.objs.size:=by
  cases o with
  | lst xs=>obtain ⟨_,_,_,_,e⟩:=x; exact Heap.lt_size e
  | tup xs=>obtain ⟨_,_,_,p⟩:=x; exact p.lt
  | dK kvs=>obtain ⟨_,_,_,_,o,_,_,e,_⟩:=x; exact Heap.lt_size e
  | dT kvs=>obtain ⟨_,_,_,_,o,_,_,e,_⟩:=x; exact Heap.lt_size e
  | set S n=>obtain ⟨o,_,_,_,e,_⟩:=x; exact Heap.lt_size e
  | ins C dx fs=>obtain ⟨_,_,_,e,_⟩:=x; exact Heap.lt_size e
  | own y=>obtain ⟨_,e⟩:=x; exact Heap.lt_size e
  | xd fs=>obtain ⟨_,⟨_,_,_,e,_⟩,_⟩:=x; exact Heap.lt_size e
  | rng lo hi=>obtain ⟨_,_,_,e⟩:=x; exact Heap.lt_size e
  | frz ob u=>obtain ⟨e,_⟩:=x; exact Heap.lt_size e
  | tbl ps=>obtain ⟨_,_,_,_,e,_⟩:=x; exact Heap.lt_size e
  | met f y=>exact Heap.lt_size (show h.get? a=some _ from x)
  | ext φ=>obtain ⟨_,⟨_,e⟩,_⟩:=x; exact Heap.lt_size e
theorem Paired.mapP {α β:Type} {F G:α→β→Prop}:∀ {l₁:List α} {l₂:List β},Paired F l₁ l₂→(∀ a b,F a b→G a b)→Paired G l₁ l₂
  | _,_,.nil,_=>.nil
  | _,_,.cons r t,f=>.cons (f _ _ r) (Paired.mapP t f)
theorem ObjOk.stay (x:ObjOk P w H h a o) (k:∀ b u,(b=a∨H b=some (.own a))→h.get? b=some u→h'.get? b=some u)
    (ho:∀ b,H b=some (.own a)→H' b=some (.own a)) (ht:∀ b xs,H b=some (.tup xs)→H' b=some (.tup xs)) (hz:∀ b o u,H b=some (.frz o u)→H' b=some (.frz o u):=by first | exact fun _ _ _ q=>q | (intro b o u q; rw [upd_ne (zb2 q (by assumption))]; exact q)):ObjOk P w H' h' a o:=by
  induction o with
  | lst xs=>obtain ⟨z,its,n,r,e⟩:=x; exact ⟨z,its,n,r,k _ _ (.inl rfl) e⟩
  | tup xs=>obtain ⟨z,its,r,ob,e,c⟩:=x; exact ⟨z,its,r,ob,k _ _ (.inl rfl) e,c⟩
  | dK kvs=>obtain ⟨z,y,vs,r,ob,es,ep,e,c⟩:=x; exact ⟨z,y,vs,r,ob,es,ep,k _ _ (.inl rfl) e,c⟩
  | dT kvs =>
    obtain ⟨z,y,xs,r,ob,es,ep,e,c⟩:=x
    exact ⟨z,y,xs,Paired.mapP r fun p q z=>⟨z.1,ht _ _ z.2.1,z.2.2⟩,ob,es,ep,k _ _ (.inl rfl) e,c⟩
  | set S n=>obtain ⟨ob,es,ep,t,e,c⟩:=x; exact ⟨ob,es,ep,t,k _ _ (.inl rfl) e,c⟩
  | ins C dx fs =>
    obtain ⟨d,z,ne,e,mA,⟨od,es,ep,e2,c⟩,r⟩:=x
    exact ⟨ho _ d,z,ne,k _ _ (.inl rfl) e,mA,⟨od,es,ep,k _ _ (.inr d) e2,c⟩,r⟩
  | own y=>obtain ⟨ob,e⟩:=x; exact ⟨ob,k _ _ (.inl rfl) e⟩
  | xd fs=>obtain ⟨mA,⟨od,es,ep,e,c⟩,r⟩:=x; exact ⟨mA,⟨od,es,ep,k _ _ (.inl rfl) e,c⟩,r⟩
  | rng lo hi=>obtain ⟨t,u,v,e⟩:=x; exact ⟨t,u,v,k _ _ (.inl rfl) e⟩
  | frz ob u ih=>obtain ⟨e,q⟩:=x; exact ⟨k _ _ (.inl rfl) e,ih q⟩
  | tbl ps =>
    obtain ⟨q,t,qs,h0,h1,h2,h3⟩:=x
    refine ⟨q,t,qs,h0,k _ _ (.inl rfl) h1,h2,fun pos v e=>?_⟩
    obtain ⟨c,o,u,vs,t2,e1,e2,e3⟩:=h3 pos v e
    exact ⟨c,o,u,vs,t2,e1,hz _ _ _ e2,e3⟩
  | met f y =>
    have e:h.get? a=some (PySem.W.methodObj (.ref f) (.ref y)):=x
    show h'.get? a=some (PySem.W.methodObj (.ref f) (.ref y))
    exact k a _ (.inl rfl) e
  | ext φ=>obtain ⟨p,⟨o,e⟩,st⟩:=x; exact ⟨st _ _ p fun o q=>k _ _ (.inl rfl) q,⟨o,k _ _ (.inl rfl) e⟩,st⟩
theorem HOk.lt (x:HOk P w H h) (e:H a=some o):a<h.objs.size:=(x a o e).lt
theorem HOk.fresh (x:HOk P w H h) (e:h.objs.size≤a):H a=none:=by
  cases q:H a with
  | none=>rfl
  | some u=>exact absurd (Nat.lt_of_lt_of_le (x.lt q) e) (Nat.lt_irrefl _)
theorem HOk.kept (x:HOk P w H h) (k:∀ b u,h.get? b=some u→h'.get? b=some u):HOk P w H h':=fun a o e =>
  (x a o e).stay (fun b u _ q=>k b u q) (fun _ q=>q) fun _ _ q=>q
theorem HOk.laid (x:HOk P w H h) (k:∀ b u,h.get? b=some u→h'.get? b=some u) (hp:h.objs.size≤a) (new:ObjOk P w (upd H a o) h' a o):HOk P w (upd H a o) h':=fun b u e=>by
  have hn:=x.fresh hp
  by_cases hb:b=a
  · subst hb; rw [zbt] at e; cases e; exact new
  · rw [upd_ne hb] at e
    exact (x b u e).stay (fun c v _ q=>k c v q) (fun c q=>by rw [upd_ne (zb2 q hn)]; exact q) fun c xs q=>by rw [upd_ne (zb2 q hn)]; exact q
end
def Rd (H:Hp) (a:Addr) (u:HO):Prop:=H a=some u∨∃ o,H a=some (.frz o u)
theorem Rd.ok {P:Program} {w:World} {H:Hp} {h:Heap} {a:Addr} {u:HO} (r:Rd H a u) (x:HOk P w H h):ObjOk P w H h a u:=by
  rcases r with r | ⟨o,r⟩
  · exact x a u r
  · obtain ⟨_,q⟩:=x a _ r
    exact q
def Mut:Option HO→Prop
  | some (.lst _)=>True
  | some (.dK _)=>True
  | some (.dT _)=>True
  | some (.set _ _)=>True
  | some (.ins _ _ _)=>True
  | some (.ext _)=>True
  | _=>False
section
variable {P:Program} {w:World} {H:Hp} {h h':Heap} {x e:Addr} {o':HO}
theorem HOk.write (ok:HOk P w H h) (mu:Mut (H x)) (he:e=x∨H e=some (.own x)) (k:∀ b u,b≠e→h.get? b=some u→h'.get? b=some u) (heo:∃ u,h'.get? e=some u)
    (new:ObjOk P w (upd H x o') h' x o'):HOk P w (upd H x o') h':=fun b u q=>by
  have nown:∀ c y,H c=some (.own y)→c≠x:=fun c y r z=>by subst z; rw [r] at mu; exact mu
  have ntup:∀ c xs,H c=some (.tup xs)→c≠x:=fun c xs r z=>by subst z; rw [r] at mu; exact mu
  have nfrz:∀ c o u,H c=some (.frz o u)→c≠x:=fun c o u r z=>by subst z; rw [r] at mu; exact mu
  by_cases hb:b=x
  · subst hb; rw [zbt] at q; cases q; exact new
  · rw [upd_ne hb] at q
    by_cases hbe:b=e
    · have q':H b=some (.own x):=by
        rcases he with z | z
        · exact absurd (hbe.trans z) hb
        · rw [hbe]; exact z
      rw [q] at q'; cases q'
      obtain ⟨v,hv⟩:=heo
      exact ⟨v,by rw [hbe]; exact hv⟩
    · refine (ok b u q).stay (fun c v hc r=>k c v ?_ r) (fun c r=>by rw [upd_ne (nown c b r)]; exact r) (fun c xs r=>by rw [upd_ne (ntup c xs r)]; exact r) fun c o u r=>by rw [upd_ne (nfrz c o u r)]; exact r
      rcases hc with rfl | hc
      · exact hbe
      · rintro rfl
        rcases he with z | z
        · exact nown c b hc z
        · rw [hc] at z; cases z; exact hb rfl
end
structure Un (fs ex:List Addr) (H H':Hp) (h h':Heap):Prop where
  keep:∀ b o,h.get? b=some o→H b=none→b∉fs→b∉ex→h'.get? b=some o
  slot:∀ b o,h.get? b=some o→H b=none→b∈fs→b∉ex→∃ sl,h'.get? b=some { o with slots:=sl }
  free:∀ b o,h.get? b=some o→H b=none→b∉ex→H' b=none
  there:∀ b o,h.get? b=some o→b∉ex→∃ o',h'.get? b=some o'
  tups:∀ b xs,H b=some (.tup xs)→H' b=some (.tup xs)
  frzs:∀ b o u,H b=some (.frz o u)→H' b=some (.frz o u)
  tbls:∀ b ps,H b=some (.tbl ps)→∃ more,H' b=some (.tbl (ps++more))
section
variable {fs fs' ex ex':List Addr} {H H1 H2:Hp} {h h1 h2 h':Heap} {a x e:Addr} {o:HO}
theorem Un.any (u:Un fs ex H H1 h h1) {b:Addr} {ob:Obj} (q:h.get? b=some ob) (n:H b=none) (hx:b∉ex):∃ sl,h1.get? b=some { ob with slots:=sl }:=by
  by_cases hb:b∈fs
  · exact u.slot b ob q n hb hx
  · exact ⟨ob.slots,u.keep b ob q n hb hx⟩
theorem Un.kept (k:∀ b u,h.get? b=some u→h'.get? b=some u):Un fs ex H H h h' :=
  ⟨fun b ob q _ _ _=>k b ob q,fun b ob q _ _ _=>⟨ob.slots,k b ob q⟩,fun _ _ _ n _=>n,fun b ob q _=>⟨ob,k b ob q⟩,fun _ _ q=>q,fun _ _ _ q=>q,fun _ ps q=>⟨#[],by rw [q]; simp⟩⟩
theorem Un.refl:Un fs ex H H h h:=Un.kept fun _ _ q=>q
theorem Un.laid (k:∀ b u,h.get? b=some u→h'.get? b=some u) (hp:h.objs.size≤a) (hn:H a=none):Un fs ex H (upd H a o) h h' where
  keep:=fun b u q _ _ _=>k b u q
  slot:=fun b u q _ _ _=>⟨u.slots,k b u q⟩
  free:=fun b u q n _=>by rw [upd_ne (Nat.ne_of_lt (Nat.lt_of_lt_of_le (Heap.lt_size q) hp))]; exact n
  there:=fun b u q _=>⟨u,k b u q⟩
  tups:=fun b xs q=>by rw [upd_ne (zb2 q hn)]; exact q
  frzs:=fun b u xs q=>by rw [upd_ne (zb2 q hn)]; exact q
  tbls:=fun b ps q=>⟨#[],by rw [upd_ne (zb2 q hn),q]; simp⟩
theorem Un.write (mu:Mut (H x)) (he:e=x∨H e=some (.own x)) (k:∀ b u,b≠e→h.get? b=some u→h'.get? b=some u) (heo:∃ u,h'.get? e=some u):Un fs ex H (upd H x o) h h':=by
  have hx:∀ b,H b=none→b≠x:=fun b n z=>by subst z; rw [n] at mu; exact mu
  have hb:∀ b,H b=none→b≠e:=fun b n z=>by
    subst z
    rcases he with r | r
    · exact hx b n r
    · rw [n] at r; cases r
  have hm:∀ b u,H b=some u→¬ Mut (some u)→b≠x:=fun b u q nm z=>by subst z; rw [q] at mu; exact nm mu
  refine ⟨fun b u q n _ _=>k b u (hb b n) q,fun b u q n _ _=>⟨u.slots,k b u (hb b n) q⟩,fun b u q n _=>by rw [upd_ne (hx b n)]; exact n,fun b u q _=>?_,
    fun b xs q=>by rw [upd_ne (hm b _ q fun z=>z)]; exact q,fun b u xs q=>by rw [upd_ne (hm b _ q fun z=>z)]; exact q,fun b ps q=>⟨#[],by rw [upd_ne (hm b _ q fun z=>z),q]; simp⟩⟩
  by_cases hbe:b=e
  · subst hbe; exact heo
  · exact ⟨u,k b u hbe q⟩
end
def trk (h:Heap) (H:Hp):List Addr:=(List.range h.objs.size).filter fun a=>(H a).isSome
def hidT (h:Heap) (H:Hp):Heap:=PySem.W.hideAll h (trk h H)
theorem hidT_size (h:Heap) (H:Hp):(hidT h H).objs.size=h.objs.size:=PySem.W.hideAll_size _ _
theorem hidT_get {h:Heap} {H:Hp} {b:Addr} {o:Obj} (e:h.get? b=some o) (n:H b=none):(hidT h H).get? b=some o :=
  PySem.W.hideAll_get _ e fun hm=>by
    have q:(H b).isSome=true:=(List.mem_filter.mp hm).2
    rw [n] at q; simp at q
theorem of_hidT {h:Heap} {H:Hp} {b:Addr} {o:Obj} (e:(hidT h H).get? b=some o):h.get? b=some o∧H b=none:=by
  have e':h.get? b=some o:=PySem.W.of_hideAll (trk h H) e
  refine ⟨e',?_⟩
  cases q:H b with
  | none=>rfl
  | some x =>
    have hm:b∈trk h H:=List.mem_filter.mpr ⟨List.mem_range.mpr (Heap.lt_size e'),by simp [q]⟩
    have z:(hidT h H).get? b=none:=PySem.W.hideAll_none (trk h H) hm
    rw [z] at e; cases e
def allNews (g h:Heap) (L:Addr):List (Addr×Obj):=(List.range h.objs.size).filterMap fun a=>if a=L∨(g.get? a).isSome=true then none else (h.get? a).map fun o=>(a,o)
def rest (g h:Heap) (L d:Addr):List (Addr×Obj):=(allNews g h L).filter fun p=>decide (p.1≠d)
end L2
namespace L2
open PySem PySem.Spec PyProof.Rows
structure Mod (K:PySem.W.Frag) (mg:Str→Option Value) (base:Heap):Prop where
  kin:K.In base
  glob:base.Ns mainGlobals mg
  blt:∃ mb,base.Ns builtinsNs mb∧∀ x:Str,x ≠ "__name__" → mb x=bootBuiltins x
  nolimit:base.NoLimit
structure Cx where
  prog:Program
  w:World
  K:PySem.W.Frag
  mg:Str→Option Value
  base:Heap
  A:Around
  N:List Str
  s₀:Shared
  H₀:Hp
  env:Env
  outer:List Env
  stack:List Env
  ex:List Addr
  fn:Str→Bool
  calm:Bool
  pn:List (Addr×Obj)
  xe:Value→Shared→Prop
def frs (l:List Env):List Addr:=l.filterMap (·.frame)
abbrev Cx.fs (X:Cx):List Addr:=frs X.outer
def Vis (sc:Scope) (x:Str):Prop:=sc.names.lookup x=some .local∨sc.names.lookup x=some .cell∨sc.names.lookup x=some .free
def Loc (sc:Scope) (x:Str):Prop:=sc.names.lookup x=some .local∨sc.names.lookup x=some .cell
def Look (env:Env) (h:Heap) (m:Str→Option Value) (x:Str) (u:Value):Prop :=
  (env.kindOf x=some .local∧m x=some u)∨((env.kindOf x=some .cell∨env.kindOf x=some .free)∧∃ c,env.cells.lookup x=some c∧h.IsCell c (some u))
structure Cx.Ok (X:Cx):Prop where
  mod:Mod X.K X.mg X.base
  kind:X.env.scope.kind=.function
  glob:X.env.globals=mainGlobals
  blt:X.env.builtins=builtinsNs
  above:X.s₀.heap.objs.size≤X.env.locals
  inj:∀ x y c,X.env.cells.lookup x=some c→X.env.cells.lookup y=some c→x=y
  has:∀ x,(X.env.kindOf x=some .cell∨X.env.kindOf x=some .free)→∃ c,X.env.cells.lookup x=some c
  cab:∀ x c,X.fn x=true→X.env.cells.lookup x=some c→X.s₀.heap.objs.size≤c
  hd:X.calm=true→X.A.handled=none
  frames:X.A.frames=some X.stack
  stk:X.stack=X.outer∨(X.stack=X.env::X.outer∧X.env.frame=some X.env.locals)
  exf:∀ b∈X.ex,b≠X.env.locals∧∀ x c,X.env.cells.lookup x=some c→c≠b
  bs:∀ b o,X.base.get? b=some o→X.s₀.heap.get? b=some o∧X.H₀ b=none
  bsz:X.base.objs.size≤X.s₀.heap.objs.size
  noex:∀ b o,X.base.get? b=some o→b∉X.ex
  exfs:∀ b∈X.ex,b∉X.fs
  funs:X.s₀.heap.FunFrames X.base X.outer
  frf:∀ b∈X.fs,X.H₀ b=none
structure Inv (X:Cx) (pins:List (Addr×Obj)) (σ:List (Option V)) (H:Hp) (s:Shared):Prop where
  ok:X.Ok
  os:s.os=X.s₀.os
  bare:AllBare s.gens
  base:Un X.fs X.ex X.H₀ H X.s₀.heap s.heap
  loc:∃ m,s.heap.Ns X.env.locals m∧∀ (i:Nat) (x:Str) (v:V),X.N[i]?=some x→σ[i]?=some (some v)→Vis X.env.scope x→∃ u,RelV v u∧Look X.env s.heap m x u
  cell:∀ x c,X.env.cells.lookup x=some c→∃ v,s.heap.IsCell c v
  free:H X.env.locals=none
  freeC:∀ x c,X.env.cells.lookup x=some c→H c=none
  pin:∀ p∈X.pn++pins,s.heap.get? p.1=some p.2∧H p.1=none∧p.1≠X.env.locals∧p.1∉X.fs∧∀ v,p.2.data≠.cell v
  hok:HOk X.prog X.w H s.heap
  len:σ.length=X.N.length
section
variable {X:Cx} {pins:List (Addr×Obj)} {σ:List (Option V)} {H H':Hp} {s:Shared} {h':Heap}
theorem Cx.Ok.nofr (ok:X.Ok) {b:Addr} {o:Obj} (e:X.base.get? b=some o):b∉X.fs:=fun hb=>by
  have:=(ok.funs.mem hb).1
  rw [e] at this; cases this
theorem Inv.bs (I:Inv X pins σ H s):∀ b o,X.base.get? b=some o→s.heap.get? b=some o∧H b=none:=fun b o e =>
  ⟨I.base.keep b o (I.ok.bs b o e).1 (I.ok.bs b o e).2 (I.ok.nofr e) (I.ok.noex b o e),I.base.free b o (I.ok.bs b o e).1 (I.ok.bs b o e).2 (I.ok.noex b o e)⟩
theorem Inv.bk (I:Inv X pins σ H s):∀ b o,X.base.get? b=some o→s.heap.get? b=some o:=fun b o e=>(I.bs b o e).1
theorem Inv.mod (I:Inv X pins σ H s):Mod X.K X.mg X.base:=I.ok.mod
theorem Inv.kIn (I:Inv X pins σ H s):X.K.In s.heap:=I.ok.mod.kin.keeps I.bk
theorem Inv.lt (I:Inv X pins σ H s):X.env.locals<s.heap.objs.size:=let ⟨_,hn,_⟩:=I.loc; hn.lt
theorem Inv.sz (I:Inv X pins σ H s):X.s₀.heap.objs.size≤s.heap.objs.size:=Nat.le_trans I.ok.above (Nat.le_of_lt I.lt)
theorem Inv.nofs (I:Inv X pins σ H s) {a:Addr} (h:s.heap.objs.size≤a):a∉X.fs:=fun hb=>by
  obtain ⟨_,o,ho,_⟩:=I.ok.funs.mem hb
  exact absurd (Nat.lt_of_lt_of_le (Heap.lt_size ho) (Nat.le_trans I.sz h)) (Nat.lt_irrefl _)
theorem Inv.cne (I:Inv X pins σ H s):∀ x c,X.env.cells.lookup x=some c→c≠X.env.locals:=fun x c e z=>by
  obtain ⟨v,o,ho,hd⟩:=I.cell x c e
  obtain ⟨m,⟨o',es,ep,ho',hd',_⟩,_⟩:=I.loc
  rw [z,ho'] at ho; cases ho; rw [hd'] at hd; cases hd
theorem Inv.funs (I:Inv X pins σ H s):s.heap.FunFrames X.base X.outer:=by
  have all:∀ (l:List Env),(∀ b∈frs l,b∈X.fs)→X.s₀.heap.FunFrames X.base l→s.heap.FunFrames X.base l:=by
    intro l
    induction l with
    | nil=>intro _ _; trivial
    | cons env r ih =>
      intro hs hl
      obtain ⟨hk,⟨L,o,hf,hn,ho,hd⟩,hr⟩:=hl
      have hL:L∈X.fs:=hs L (by unfold frs; rw [List.filterMap_cons,hf]; exact List.mem_cons_self)
      obtain ⟨sl,e⟩:=I.base.slot L o ho (I.ok.frf L hL) hL fun z=>I.ok.exfs L z hL
      exact ⟨hk,⟨L,_,hf,hn,e,hd⟩,ih (fun b hb=>hs b (by unfold frs; rw [List.filterMap_cons,hf]; exact List.mem_cons_of_mem _ hb)) hr⟩
  exact all X.outer (fun _ hb=>hb) I.ok.funs
theorem Inv.stack (I:Inv X pins σ H s):s.heap.FunFrames X.base X.stack:=by
  rcases I.ok.stk with e | ⟨e,hf⟩
  · rw [e]; exact I.funs
  · rw [e]
    obtain ⟨m,hn,_⟩:=I.loc
    refine .cons (by rw [I.ok.kind]; decide) hf hn ?_ I.funs
    exact Heap.get?_none_of_le (Nat.le_trans I.ok.bsz I.ok.above)
theorem Inv.stkSub (I:Inv X pins σ H s):∀ b∈frs X.stack,b∈X.env.locals::X.fs:=fun b hb=>by
  rcases I.ok.stk with e | ⟨e,hf⟩
  · rw [e] at hb; exact List.mem_cons_of_mem _ hb
  · rw [e] at hb
    unfold frs at hb
    rw [List.filterMap_cons,hf] at hb
    exact hb
theorem Inv.stkFree (I:Inv X pins σ H s):∀ b∈frs X.stack,H b=none:=fun b hb=>by
  rcases List.mem_cons.mp (I.stkSub b hb) with e | hb
  · rw [e]; exact I.free
  · obtain ⟨_,o,ho,_⟩:=I.ok.funs.mem hb
    exact I.base.free b o ho (I.ok.frf b hb) fun z=>I.ok.exfs b z hb
theorem Inv.step {g':Array GenState} {t':Nat} {d':Drawn} {ch:List Addr} (I:Inv X pins σ H s)
    (hch:∀ b∈ch,(b∈X.ex∨X.s₀.heap.objs.size≤b)∧b≠X.env.locals∧(∀ x c,X.env.cells.lookup x=some c→c≠b)∧∀ p∈X.pn++pins,p.1≠b)
    (keep:∀ b o,b≠X.env.locals→b∉X.fs→b∉ch→s.heap.get? b=some o→H b=none→h'.get? b=some o)
    (slot:∀ b o,b≠X.env.locals→b∈X.fs→b∉ch→s.heap.get? b=some o→H b=none→∃ sl,h'.get? b=some { o with slots:=sl }) (free:∀ b o,b∉ch→s.heap.get? b=some o→H b=none→H' b=none)
    (there:∀ b o,b∉ch→s.heap.get? b=some o→∃ o',h'.get? b=some o')
    (tups:∀ b xs,H b=some (.tup xs)→H' b=some (.tup xs)) (frzs:∀ b o u,H b=some (.frz o u)→H' b=some (.frz o u)) (tbls:∀ b ps,H b=some (.tbl ps)→∃ more,H' b=some (.tbl (ps++more)))
    (ns:∀ m,s.heap.Ns X.env.locals m→h'.Ns X.env.locals m) (hok:HOk X.prog X.w H' h') (hg:AllBare g') :
    Inv X pins σ H' { s with heap:=h',gens:=g',drawn:=d',toks:=t' }:=by
  have neL:∀ b o,X.s₀.heap.get? b=some o→b≠X.env.locals:=fun b o e=>Nat.ne_of_lt (Nat.lt_of_lt_of_le (Heap.lt_size e) I.ok.above)
  have neC:∀ b o,X.s₀.heap.get? b=some o→b∉X.ex→b∉ch:=fun b o e hx hb=>by
    rcases (hch b hb).1 with z | z
    · exact hx z
    · exact absurd (Nat.lt_of_lt_of_le (Heap.lt_size e) z) (Nat.lt_irrefl _)
  have cellK:∀ x c,X.env.cells.lookup x=some c→∀ v,s.heap.IsCell c v→h'.IsCell c v:=fun x c e v ⟨o,ho,hd⟩=>by
    have nch:c∉ch:=fun z=>(hch c z).2.2.1 x c e rfl
    by_cases hc:c∈X.fs
    · obtain ⟨sl,q⟩:=slot c o (I.cne x c e) hc nch ho (I.freeC x c e)
      exact ⟨_,q,hd⟩
    · exact ⟨o,keep c o (I.cne x c e) hc nch ho (I.freeC x c e),hd⟩
  refine ⟨I.ok,I.os,hg,⟨fun b o e n hb hx=>?_,fun b o e n hb hx=>?_,fun b o e n hx=>?_,fun b o e hx=>?_,fun b xs e=>tups b xs (I.base.tups b xs e),fun b o xs e=>frzs b o xs (I.base.frzs b o xs e),fun b ps e=>?_⟩,?_,fun x c e=>?_,?_,fun x c e=>?_,fun p hp=>?_,hok,I.len⟩
  · exact keep b o (neL b o e) hb (neC b o e hx) (I.base.keep b o e n hb hx) (I.base.free b o e n hx)
  · obtain ⟨sl,e1⟩:=I.base.slot b o e n hb hx
    obtain ⟨sl',e2⟩:=slot b _ (neL b o e) hb (neC b o e hx) e1 (I.base.free b o e n hx)
    exact ⟨sl',e2⟩
  · obtain ⟨o',e1⟩:=I.base.there b o e hx
    exact free b o' (neC b o e hx) e1 (I.base.free b o e n hx)
  · obtain ⟨o',e1⟩:=I.base.there b o e hx
    exact there b o' (neC b o e hx) e1
  · obtain ⟨m1,e1⟩:=I.base.tbls b ps e
    obtain ⟨m2,e2⟩:=tbls b _ e1
    exact ⟨m1++m2,by rw [e2,Array.append_assoc]⟩
  · obtain ⟨m,hn,hl⟩:=I.loc
    refine ⟨m,ns m hn,fun i x v e1 e2 e3=>?_⟩
    obtain ⟨u,r,l⟩:=hl i x v e1 e2 e3
    refine ⟨u,r,?_⟩
    rcases l with l | ⟨k,c,e,z⟩
    · exact .inl l
    · exact .inr ⟨k,c,e,cellK x c e _ z⟩
  · obtain ⟨v,z⟩:=I.cell x c e
    exact ⟨v,cellK x c e v z⟩
  · obtain ⟨m,⟨o,_,_,ho,_⟩,_⟩:=I.loc
    exact free _ o (fun z=>(hch _ z).2.1 rfl) ho I.free
  · obtain ⟨v,o,ho,hd⟩:=I.cell x c e
    exact free c o (fun z=>(hch c z).2.2.1 x c e rfl) ho (I.freeC x c e)
  · obtain ⟨e,n,ne,nf,d⟩:=I.pin p hp
    have nch:p.1∉ch:=fun z=>(hch p.1 z).2.2.2 p hp rfl
    exact ⟨keep p.1 p.2 ne nf nch e n,free p.1 p.2 nch e n,ne,nf,d⟩
theorem Inv.un {t':Nat} (I:Inv X pins σ H s) (u:Un X.fs [] H H' s.heap h') (hok:HOk X.prog X.w H' h'):Inv X pins σ H' { s with heap:=h',toks:=t' }:=by
  obtain ⟨m,⟨o,es,ep,ho,r⟩,_⟩:=id I.loc
  obtain ⟨sl,hL⟩:=u.any ho I.free (by simp)
  exact I.step (g':=s.gens) (d':=s.drawn) (ch:=[]) (fun _ z=>nomatch z) (fun b o _ hb _ e n=>u.keep b o e n hb (by simp)) (fun b o _ hb _ e n=>u.slot b o e n hb (by simp)) (fun b o _ e n=>u.free b o e n (by simp)) (fun b o _ e=>u.there b o e (by simp)) u.tups u.frzs u.tbls (fun m' hm=>by
    obtain ⟨o',es',ep',ho',r'⟩:=hm
    rw [ho] at ho'; cases ho'
    exact ⟨_,es',ep',hL,r'⟩) hok I.bare
theorem Inv.call {g':Array GenState} {t':Nat} {d':Drawn} {ch:List Addr} (I:Inv X pins σ H s) (u:Un (frs X.stack) ch H H' s.heap h') (hok:HOk X.prog X.w H' h') (hg:AllBare g')
    (hch:∀ b∈ch,(b∈X.ex∨X.s₀.heap.objs.size≤b)∧b≠X.env.locals∧(∀ x c,X.env.cells.lookup x=some c→c≠b)∧∀ p∈X.pn++pins,p.1≠b) :
    Inv X pins σ H' { s with heap:=h',gens:=g',drawn:=d',toks:=t' }:=by
  obtain ⟨m,⟨o,es,ep,ho,r⟩,_⟩:=id I.loc
  obtain ⟨sl,hL⟩:=u.any ho I.free fun z=>(hch _ z).2.1 rfl
  exact I.step (ch:=ch) hch (fun b o hL hb hc e n=>u.keep b o e n (fun z=>(List.mem_cons.mp (I.stkSub b z)).elim hL hb) hc) (fun b o _ _ hc e n=>u.any e n hc) (fun b o hc e n=>u.free b o e n hc) (fun b o hc e=>u.there b o e hc) u.tups u.frzs u.tbls (fun m' hm=>by
    obtain ⟨o',es',ep',ho',r'⟩:=hm
    rw [ho] at ho'; cases ho'
    exact ⟨_,es',ep',hL,r'⟩) hok hg
theorem Inv.turned {t':Nat} {it:Addr} (I:Inv X pins σ H s) (k:∀ b o,b≠it→s.heap.get? b=some o→h'.get? b=some o) (hn:H it=none) (hL:it≠X.env.locals)
    (h1:it∈X.ex∨X.s₀.heap.objs.size≤it) (h2:∀ x c,X.env.cells.lookup x=some c→c≠it) (h3:∀ p∈X.pn++pins,p.1≠it):Inv X pins σ H { s with heap:=h',toks:=t' }:=by
  have nit:∀ b u,H b=some u→b≠it:=fun b u e z=>by rw [z,hn] at e; cases e
  refine I.step (g':=s.gens) (d':=s.drawn) (ch:=[it]) (fun b hb=>?_) (fun b o _ _ hc e _=>k b o (fun z=>hc (by simp [z])) e) (fun b o _ _ hc e _=>⟨o.slots,k b o (fun z=>hc (by simp [z])) e⟩) (fun _ _ _ _ n=>n)
    (fun b o hc e=>⟨o,k b o (fun z=>hc (by simp [z])) e⟩) (fun _ _ e=>e) (fun _ _ _ e=>e) (fun b ps e=>⟨#[],by rw [e]; simp⟩) (fun m hm=>?_) (fun b u e=>?_) I.bare
  · have e:b=it:=by simpa using hb
    subst e
    exact ⟨h1,hL,h2,h3⟩
  · obtain ⟨o,es,ep,ho,r⟩:=hm
    exact ⟨o,es,ep,k _ o (Ne.symm hL) ho,r⟩
  · refine (I.hok b u e).stay (fun c v hc q=>k c v ?_ q) (fun _ q=>q) fun _ _ q=>q
    rcases hc with z | z
    · rw [z]; exact nit b u e
    · exact nit c _ z
theorem Inv.tok (I:Inv X pins σ H s) (t:Nat):Inv X pins σ H { s with toks:=t }:=I.un (h':=s.heap) (t':=t) Un.refl I.hok
theorem Inv.kept {t':Nat} (I:Inv X pins σ H s) (k:∀ b u,s.heap.get? b=some u→h'.get? b=some u):Inv X pins σ H { s with heap:=h',toks:=t' }:=I.un (Un.kept k) (I.hok.kept k)
theorem Inv.laid {a:Addr} {o:HO} {t':Nat} (I:Inv X pins σ H s) (k:∀ b u,s.heap.get? b=some u→h'.get? b=some u) (hp:s.heap.objs.size≤a) (new:ObjOk X.prog X.w (upd H a o) h' a o) :
    Inv X pins σ (upd H a o) { s with heap:=h',toks:=t' }:=I.un (Un.laid k hp (I.hok.fresh hp)) (I.hok.laid k hp new)
theorem Inv.write {x e:Addr} {o:HO} {t':Nat} (I:Inv X pins σ H s) (mu:Mut (H x)) (he:e=x∨H e=some (.own x)) (k:∀ b u,b≠e→s.heap.get? b=some u→h'.get? b=some u) (heo:∃ u,h'.get? e=some u)
    (new:ObjOk X.prog X.w (upd H x o) h' x o):Inv X pins σ (upd H x o) { s with heap:=h',toks:=t' }:=I.un (Un.write mu he k heo) (I.hok.write mu he k heo new)
theorem Inv.weak {σ':List (Option V)} (I:Inv X pins σ H s) (hl:σ'.length=σ.length) (w:∀ (i:Nat) v,σ'[i]?=some (some v)→σ[i]?=some (some v)):Inv X pins σ' H s :=
  ⟨I.ok,I.os,I.bare,I.base,let ⟨m,hn,hl'⟩:=I.loc; ⟨m,hn,fun i x v e1 e2 e3=>hl' i x v e1 (w i v e2) e3⟩,I.cell,I.free,I.freeC,I.pin,I.hok,hl.trans I.len⟩
theorem Inv.pins_of {pins':List (Addr×Obj)} (I:Inv X pins σ H s) (h:∀ p∈pins',s.heap.get? p.1=some p.2∧H p.1=none∧p.1≠X.env.locals∧p.1∉X.fs∧∀ v,p.2.data≠.cell v):Inv X pins' σ H s :=
  ⟨I.ok,I.os,I.bare,I.base,I.loc,I.cell,I.free,I.freeC,fun p hp=>(List.mem_append.mp hp).elim (fun z=>I.pin p (List.mem_append_left _ z)) (h p),I.hok,I.len⟩
theorem nodup_ix {N:List Str} (hN:N.Nodup) {i j:Nat} {x:Str} (a:N[i]?=some x) (b:N[j]?=some x):i=j:=by
  obtain ⟨h1,e1⟩:=List.getElem?_eq_some_iff.mp a
  obtain ⟨h2,e2⟩:=List.getElem?_eq_some_iff.mp b
  exact (List.getElem_inj hN).mp (e1.trans e2.symm)
theorem store_ok2 {M:Model} {A:Around} {E:Value→Shared→Prop} {i:Nat} {x:Str} {v:V} {u:Value} {Q:Unit→Shared→Prop} (I:Inv X pins σ H s) (hN:X.N.Nodup) (hi:X.N[i]?=some x) (hx:Loc X.env.scope x) (r:RelV v u)
    (h:∀ s',Inv X pins (σ.set i (some v)) H s'→(∃ a,Heap.SameBut a s.heap s'.heap∧(a=X.env.locals∨X.env.cells.lookup x=some a))→Q () s') (hf:X.fn x=true∨X.env.scope.names.lookup x=some .local:=by first | exact .inl rfl | exact .inr rfl | assumption):wpAny M A (storeName X.env x u) Q E s:=by
  obtain ⟨m,hn,hl⟩:=id I.loc
  have hcls:(X.env.scope.kind==.class || (X.env.scope.kind==.module&&X.env.locals != X.env.globals))=false:=by rw [I.ok.kind]; rfl
  have hiσ:i < σ.length:=by rw [I.len]; exact (List.getElem?_eq_some_iff.mp hi).1
  have cne:=I.cne
  have tracked:∀ {a:Addr} {h':Heap},(∃ o,s.heap.get? a=some o∧H a=none)→Heap.SameBut a s.heap h'→HOk X.prog X.w H h':=fun {a h'} ha hs b ob e=>by
    obtain ⟨_,_,hfree⟩:=ha
    refine (I.hok b ob e).stay (fun c w' hc q=>(hs.2 c ?_).trans q) (fun _ q=>q) fun _ _ q=>q
    rintro rfl
    rcases hc with rfl | hc
    · rw [hfree] at e; cases e
    · rw [hfree] at hc; cases hc
  rcases hx with hk | hk
  · refine wpAny_storeName_local hk hn (fun h' hn' hs=>?_) hcls
    obtain ⟨oL,_,_,hoL,_⟩:=id hn
    refine h _ ⟨I.ok,I.os,I.bare,⟨fun b o e n hb hx=>?_,fun b o e n hb hx=>?_,I.base.free,fun b o e hx=>?_,I.base.tups,I.base.frzs,I.base.tbls⟩,⟨_,hn',fun j y v' e1 e2 e3=>?_⟩,fun y c e=>?_,I.free,I.freeC,fun p hp=>?_,tracked ⟨oL,hoL,I.free⟩ hs,by simpa using I.len⟩ ⟨_,hs,.inl rfl⟩
    · exact (hs.2 b (Nat.ne_of_lt (Nat.lt_of_lt_of_le (Heap.lt_size e) I.ok.above))).trans (I.base.keep b o e n hb hx)
    · obtain ⟨sl,e1⟩:=I.base.slot b o e n hb hx
      exact ⟨sl,(hs.2 b (Nat.ne_of_lt (Nat.lt_of_lt_of_le (Heap.lt_size e) I.ok.above))).trans e1⟩
    · obtain ⟨o',e1⟩:=I.base.there b o e hx
      exact ⟨o',(hs.2 b (Nat.ne_of_lt (Nat.lt_of_lt_of_le (Heap.lt_size e) I.ok.above))).trans e1⟩
    · by_cases hj:j=i
      · subst hj
        rw [hi] at e1; cases e1
        rw [List.getElem?_set_self hiσ] at e2
        cases e2
        exact ⟨u,r,.inl ⟨hk,by simp⟩⟩
      · rw [List.getElem?_set_ne (Ne.symm hj)] at e2
        obtain ⟨u',r',q⟩:=hl j y v' e1 e2 e3
        refine ⟨u',r',?_⟩
        rcases q with ⟨k,e⟩ | ⟨k,c,e,z⟩
        · refine .inl ⟨k,?_⟩
          have:y≠x:=fun e=>hj (nodup_ix hN e1 (e ▸ hi))
          simp [this,e]
        · exact .inr ⟨k,c,e,z.sameBut hs (cne y c e)⟩
    · obtain ⟨w',z⟩:=I.cell y c e
      exact ⟨w',z.sameBut hs (cne y c e)⟩
    · obtain ⟨e,n,ne,nf,d⟩:=I.pin p hp
      exact ⟨(hs.2 p.1 ne).trans e,n,ne,nf,d⟩
  · have hfn:X.fn x=true:=by
      rcases hf with z | z
      · exact z
      · rw [z] at hk; cases hk
    obtain ⟨c,hc⟩:=I.ok.has x (.inl hk)
    obtain ⟨w',z⟩:=I.cell x c hc
    refine wpAny_storeName_cell I.ok.kind hk hc z (fun h' hc' hs=>?_)
    obtain ⟨oc,hoc,hocd⟩:=id z
    refine h { s with heap:=h' } ⟨I.ok,I.os,I.bare,⟨fun b o e n hb hx=>?_,fun b o e n hb hx=>?_,I.base.free,fun b o e hx=>?_,I.base.tups,I.base.frzs,I.base.tbls⟩,⟨m,hn.sameBut hs (Ne.symm (cne x c hc)),fun j y v' e1 e2 e3=>?_⟩,fun y c' e=>?_,I.free,I.freeC,fun p hp=>?_,tracked ⟨oc,hoc,I.freeC x c hc⟩ hs,by simpa using I.len⟩ ⟨c,hs,.inr hc⟩
    · exact (hs.2 b (Nat.ne_of_lt (Nat.lt_of_lt_of_le (Heap.lt_size e) (I.ok.cab x c hfn hc)))).trans (I.base.keep b o e n hb hx)
    · obtain ⟨sl,e1⟩:=I.base.slot b o e n hb hx
      exact ⟨sl,(hs.2 b (Nat.ne_of_lt (Nat.lt_of_lt_of_le (Heap.lt_size e) (I.ok.cab x c hfn hc)))).trans e1⟩
    · obtain ⟨o',e1⟩:=I.base.there b o e hx
      exact ⟨o',(hs.2 b (Nat.ne_of_lt (Nat.lt_of_lt_of_le (Heap.lt_size e) (I.ok.cab x c hfn hc)))).trans e1⟩
    · by_cases hj:j=i
      · subst hj
        rw [hi] at e1; cases e1
        rw [List.getElem?_set_self hiσ] at e2
        cases e2
        exact ⟨u,r,.inr ⟨.inl hk,c,hc,hc'⟩⟩
      · rw [List.getElem?_set_ne (Ne.symm hj)] at e2
        obtain ⟨u',r',q⟩:=hl j y v' e1 e2 e3
        refine ⟨u',r',?_⟩
        rcases q with q | ⟨k,c',e,z'⟩
        · exact .inl q
        · refine .inr ⟨k,c',e,z'.sameBut hs ?_⟩
          rintro rfl
          exact hj (nodup_ix hN e1 (I.ok.inj _ _ _ e hc ▸ hi))
    · by_cases hcc:c'=c
      · subst hcc; exact ⟨_,hc'⟩
      · obtain ⟨w2,z2⟩:=I.cell y c' e
        exact ⟨w2,z2.sameBut hs hcc⟩
    · obtain ⟨e,n,ne,nf,d⟩:=I.pin p hp
      refine ⟨(hs.2 p.1 ?_).trans e,n,ne,nf,d⟩
      intro q
      rw [q,hoc] at e
      have q':oc=p.2:=Option.some.inj e
      exact d w' (by rw [← q']; exact hocd)
theorem zj7 {M:Model} {A:Around} {E:Value→Shared→Prop} {i:Nat} {x:Str} {v:V} {u:Value} {Q:Unit→Shared→Prop} (I:Inv X pins σ H s) (hN:X.N.Nodup) (hi:X.N[i]?=some x) (hx:Loc X.env.scope x) (r:RelV v u)
    (h:∀ s',Inv X pins (σ.set i (some v)) H s'→Q () s') (hf:X.fn x=true∨X.env.scope.names.lookup x=some .local:=by first | exact .inl rfl | exact .inr rfl | assumption):wpAny M A (storeName X.env x u) Q E s :=
  store_ok2 I hN hi hx r (fun s' I' _=>h s' I') hf
theorem Inv.call' {s':Shared} {ch:List Addr} (I:Inv X pins σ H s) (ho:s'.os=s.os) (u:Un (frs X.stack) ch H H' s.heap s'.heap) (hok:HOk X.prog X.w H' s'.heap) (hg:AllBare s'.gens)
    (hch:∀ b∈ch,(b∈X.ex∨X.s₀.heap.objs.size≤b)∧b≠X.env.locals∧(∀ x c,X.env.cells.lookup x=some c→c≠b)∧∀ p∈X.pn++pins,p.1≠b):Inv X pins σ H' s':=by
  obtain ⟨h',g',d',t',o'⟩:=s'
  have e:o'=s.os:=ho
  subst e
  exact I.call (g':=g') (t':=t') (d':=d') u hok hg hch
end
abbrev XK:=Value→Option Addr→Hp→Prop
abbrev St:=List (Option V)
abbrev VK:=V→Hp→Prop
abbrev TE:=St→Hp→VK→Prop
abbrev TT:=St→Hp→(Bool→Hp→Prop)→Prop
abbrev TA:=St→Hp→(List V→Hp→Prop)→Prop
structure Ends where
  nx:St→Hp→Prop
  rt:VK
  bk:St→Hp→Prop:=fun _ _=>False
  ct:St→Hp→Prop:=fun _ _=>False
abbrev TS:=Ends→St→Hp→Prop
def EP (X:Cx) (pins:List (Addr×Obj)) (σ:St) (Q:VK) (u:Value) (s':Shared):Prop:=∃ v H',Inv X pins σ H' s'∧RelV v u∧Q v H'
def TP (X:Cx) (pins:List (Addr×Obj)) (σ:St) (Q:Bool→Hp→Prop) (b:Bool) (s':Shared):Prop:=∃ H',Inv X pins σ H' s'∧Q b H'
def AP (X:Cx) (pins:List (Addr×Obj)) (σ:St) (Q:List V→Hp→Prop) (us:List Value) (s':Shared):Prop:=∃ vs H',Inv X pins σ H' s'∧Vals vs us∧Q vs H'
def SP (X:Cx) (pins:List (Addr×Obj)) (D:Ends) (f:Flow) (s':Shared):Prop :=
  match f with
  | .next=>∃ σ' H',Inv X pins σ' H' s'∧D.nx σ' H'
  | .brk=>∃ σ' H',Inv X pins σ' H' s'∧D.bk σ' H'
  | .cont=>∃ σ' H',Inv X pins σ' H' s'∧D.ct σ' H'
  | .ret u=>∃ v σ' H',Inv X pins σ' H' s'∧RelV v u∧D.rt v H'
def PE (X:Cx) (e:Expr) (t:TE):Prop :=
  ∀ (pins:List (Addr×Obj)) (s:Shared) (σ:St) (H:Hp) (Q:VK),Inv X pins σ H s→t σ H Q→wpAny (model X.prog X.w) X.A (eval e X.env) (EP X pins σ Q) X.xe s
def PT (X:Cx) (e:Expr) (t:TT):Prop :=
  ∀ (pins:List (Addr×Obj)) (s:Shared) (σ:St) (H:Hp) (Q:Bool→Hp→Prop),Inv X pins σ H s→t σ H Q→wpAny (model X.prog X.w) X.A (isTrue e X.env (eval e X.env)) (TP X pins σ Q) X.xe s
def PW (X:Cx) (e:Expr) (t:TT):Prop :=
  ∀ (whole:Sem Value) (pins:List (Addr×Obj)) (s:Shared) (σ:St) (H:Hp) (Q:Bool→Hp→Prop),Inv X pins σ H s→t σ H Q→wpAny (model X.prog X.w) X.A (isTrue e X.env whole) (TP X pins σ Q) X.xe s
theorem PW.pt {X:Cx} {e:Expr} {t:TT} (h:PW X e t):PT X e t:=h _
def PA (X:Cx) (es:List Expr) (t:TA):Prop :=
  ∀ (pos:Pos) (pins:List (Addr×Obj)) (s:Shared) (σ:St) (H:Hp) (Q:List V→Hp→Prop),Inv X pins σ H s→t σ H Q→wpAny (model X.prog X.w) X.A (spliced (backTo pos (starEach es X.env))) (AP X pins σ Q) X.xe s
def PS (X:Cx) (st:Stmt) (t:TS):Prop :=
  ∀ (pins:List (Addr×Obj)) (s:Shared) (σ:St) (H:Hp) (D:Ends),Inv X pins σ H s→t D σ H→wpAny (model X.prog X.w) X.A (exec st X.env) (SP X pins D) X.xe s
def PSs (X:Cx) (st:List Stmt) (t:TS):Prop :=
  ∀ (pins:List (Addr×Obj)) (s:Shared) (σ:St) (H:Hp) (D:Ends),Inv X pins σ H s→t D σ H→wpAny (model X.prog X.w) X.A (execs st X.env) (SP X pins D) X.xe s
theorem thn {α:Type} {t:Sem α} {Q Q':α→Shared→Prop} {M:Model} {A:Around} {E:Value→Shared→Prop} {s:Shared} (h:wpAny M A t Q E s) (hQ:∀ a s,Q a s→Q' a s):wpAny M A t Q' E s:=wpAny_mono h hQ fun _ _ x=>x
end L2
namespace L2
open PySem PySem.Spec PyProof.Rows
section
variable {X:Cx}
def tVar (i:Nat):TE:=fun σ H Q=>∃ v,σ[i]?=some (some v)∧Q v H
def tC (v:V):TE:=fun _ H Q=>Q v H
theorem pe_var {i:Nat} {x:Str} {pos:Pos} (hN:X.N[i]?=some x) (hv:Vis X.env.scope x) (hd:(x==("__debug__" : Str))=false:=by decide) (hcd:(x==("__classdict__" : Str))=false:=by decide):PE X (.Name x pos) (tVar i):=by
  intro pins s σ H Q I h
  obtain ⟨v,e,h⟩:=h
  obtain ⟨m,hn,hl⟩:=I.loc
  obtain ⟨u,r,l⟩:=hl i x v hN e hv
  have fin:EP X pins σ Q u s:=⟨v,H,I,r,h⟩
  rcases l with ⟨hk,hm⟩ | ⟨hk,c,hc,hcell⟩
  · exact wpAny_Name (wpAny_loadName_local I.ok.kind hk hn hm fin) hd
  · rcases hk with hk | hk
    · exact wpAny_Name (wpAny_loadName_cell I.ok.kind hk hc hcell fin) hd
    · exact wpAny_Name (wpAny_loadName_free I.ok.kind hk hc hcell fin hcd) hd
theorem zaf {i j pos}:PE X (.Constant (.int i) j pos) (tC (.int i)):=fun _ _ _ H _ I h=>wpAny_Constant_int ⟨.int i,H,I.tok _,⟨_,rfl⟩,h⟩
theorem zec {b j pos}:PE X (.Constant (.bool b) j pos) (tC (.bl b)):=fun _ _ _ H _ I h=>Constant_bool ⟨.bl b,H,I,rfl,h⟩
theorem pe_str {x j pos}:PE X (.Constant (.str x) j pos) (tC (.str x)):=fun _ _ _ H _ I h=>Calls.Constant_str ⟨.str x,H,I.tok _,⟨_,rfl⟩,h⟩
def Gl (X:Cx) (x:Str):Prop:=X.env.kindOf x=some .globalImplicit
theorem zh3 {E:Value→Shared→Prop} {pins:List (Addr×Obj)} {s:Shared} {σ:St} {H:Hp} {x:Str} {u:Value} {pos:Pos} {Q:Value→Shared→Prop} (I:Inv X pins σ H s) (hg:Gl X x) (hm:X.mg x=some u) (h:Q u s)
    (hd:(x==("__debug__" : Str))=false:=by decide):wpAny (model X.prog X.w) X.A (eval (.Name x pos) X.env) Q E s :=
  Calls.Name_function_global I.ok.kind hg (Calls.loadGlobal_global (by rw [I.ok.glob]; exact I.mod.glob.keeps I.bk) hm h) hd
theorem zks {E:Value→Shared→Prop} {pins:List (Addr×Obj)} {s:Shared} {σ:St} {H:Hp} {x:Str} {u:Value} {pos:Pos} {Q:Value→Shared→Prop} (I:Inv X pins σ H s) (hg:Gl X x) (hm:X.mg x=none) (hv:bootBuiltins x=some u) (h:Q u s)
    (hn:x ≠ "__name__" := by decide) (hd:(x==("__debug__" : Str))=false:=by decide):wpAny (model X.prog X.w) X.A (eval (.Name x pos) X.env) Q E s:=by
  obtain ⟨mb,h1,h2⟩:=I.mod.blt
  exact Calls.Name_function_global I.ok.kind hg (Calls.loadGlobal_builtin (by rw [I.ok.glob]; exact I.mod.glob.keeps I.bk) hm (by rw [I.ok.blt]; exact h1.keeps I.bk) ((h2 x hn).trans hv) h) hd
theorem pe_bltn {x:Str} {v:V} {u:Value} {pos:Pos} (hg:Gl X x) (hm:X.mg x=none) (hv:bootBuiltins x=some u) (r:RelV v u) (hn:x ≠ "__name__" := by decide) (hd:(x==("__debug__" : Str))=false:=by decide):PE X (.Name x pos) (tC v) :=
  fun _ _ _ H _ I h=>zks I hg hm hv ⟨v,H,I,r,h⟩ hn hd
variable {a b:Expr} {ta tb:TE} {pos:Pos}
variable {tA tB':TT} {rest:List Expr}
def tAnd (t u:TT):TT:=fun σ H Q=>t σ H fun c H1=>if c=true then u σ H1 Q else Q false H1
def tOr (t u:TT):TT:=fun σ H Q=>t σ H fun c H1=>if c=true then Q true H1 else u σ H1 Q
def tNot (t:TT):TT:=fun σ H Q=>t σ H fun c H1=>Q (!c) H1
theorem zgd (ha:PT X a tA):PW X (.BoolOp .And [a] pos) tA:=by
  intro wh pins s σ H Q I h
  refine isTrue_and (thn (ha pins s σ H Q I h) fun c s1 e=>?_)
  cases c with
  | true=>exact isTrue_and_nil e
  | false=>exact e
theorem zgc (ha:PT X a tA):PW X (.BoolOp .Or [a] pos) tA:=by
  intro wh pins s σ H Q I h
  refine isTrue_or (thn (ha pins s σ H Q I h) fun c s1 e=>?_)
  cases c with
  | false=>exact isTrue_or_nil e
  | true=>exact e
theorem zic (ha:PT X a tA) (hb:PW X (.BoolOp .And (b::rest) pos) tB'):PW X (.BoolOp .And (a::b::rest) pos) (tAnd tA tB'):=by
  intro wh pins s σ H Q I h
  refine isTrue_and (thn (ha pins s σ H _ I h) fun c s1 ⟨H1,I1,q1⟩=>?_)
  cases c with
  | true=>exact hb wh pins s1 σ H1 Q I1 q1
  | false=>exact ⟨H1,I1,q1⟩
theorem zf8 (ha:PT X a tA) (hb:PW X (.BoolOp .Or (b::rest) pos) tB'):PW X (.BoolOp .Or (a::b::rest) pos) (tOr tA tB'):=by
  intro wh pins s σ H Q I h
  refine isTrue_or (thn (ha pins s σ H _ I h) fun c s1 ⟨H1,I1,q1⟩=>?_)
  cases c with
  | true=>exact ⟨H1,I1,q1⟩
  | false=>exact hb wh pins s1 σ H1 Q I1 q1
theorem zeg (ha:PT X a tA):PT X (.UnaryOp .Not a pos) (tNot tA):=by
  intro pins s σ H Q I h
  exact isTrue_not (ha pins s σ H (fun c H1=>Q (!c) H1) I h)
def tAndV (ta tb:TE):TE:=fun σ H Q=>ta σ H fun x H1=>∃ c,x=.bl c∧if c=true then tb σ H1 Q else Q (.bl false) H1
def tOrV (ta tb:TE):TE:=fun σ H Q=>ta σ H fun x H1=>∃ c,x=.bl c∧if c=true then Q (.bl true) H1 else tb σ H1 Q
def tNotV (ta:TE):TE:=fun σ H Q=>ta σ H fun x H1=>∃ c,x=.bl c∧Q (.bl (!c)) H1
theorem zhm {op} {t:TE} (h:PE X a t):PE X (.BoolOp op [a] pos) t:=fun pins s σ H Q I hw=>BoolOp_one (h pins s σ H Q I hw)
theorem zer (ha:PE X a ta) (hb:PE X (.BoolOp .And (b::rest) pos) tb):PE X (.BoolOp .And (a::b::rest) pos) (tAndV ta tb):=by
  intro pins s σ H Q I h
  refine BoolOp_and (thn (ha pins s σ H _ I h) fun v s1 ⟨x,H1,I1,r1,q1⟩=>?_)
  obtain ⟨c,rfl,q1⟩:=q1
  cases r1
  refine wpAny_truthy_bool ?_
  cases c with
  | true=>exact hb pins s1 σ H1 Q I1 q1
  | false=>exact ⟨.bl false,H1,I1,rfl,q1⟩
theorem pe_or (ha:PE X a ta) (hb:PE X (.BoolOp .Or (b::rest) pos) tb):PE X (.BoolOp .Or (a::b::rest) pos) (tOrV ta tb):=by
  intro pins s σ H Q I h
  refine BoolOp_or (thn (ha pins s σ H _ I h) fun v s1 ⟨x,H1,I1,r1,q1⟩=>?_)
  obtain ⟨c,rfl,q1⟩:=q1
  cases r1
  refine wpAny_truthy_bool ?_
  cases c with
  | false=>exact hb pins s1 σ H1 Q I1 q1
  | true=>exact ⟨.bl true,H1,I1,rfl,q1⟩
theorem pe_not (ha:PE X a ta):PE X (.UnaryOp .Not a pos) (tNotV ta):=by
  intro pins s σ H Q I h
  refine UnaryOp_ (thn (ha pins s σ H _ I h) fun v s1 ⟨x,H1,I1,r1,q1⟩=>?_)
  obtain ⟨c,rfl,q1⟩:=q1
  cases r1
  exact not_of (wpAny_truthy_bool ⟨.bl (!c),H1,I1,rfl,q1⟩)
end
end L2
namespace L2
open PySem PySem.Spec PyProof.Rows
def SqL (K:PySem.W.Frag) (H:Hp) (a:Addr) (xs:List V):Prop :=
  Rd H a (.lst xs) ∨
    ∃ (o:Obj) (its:Array Value) (n:Nat),K.lookup a=some o∧o.cls=.type "list" ∧ o.dict=none∧o.data=.seq its n∧its.size≤sizeLine∧Vals xs its.toList
def SqT (K:PySem.W.Frag) (H:Hp) (a:Addr) (xs:List V):Prop :=
  Rd H a (.tup xs) ∨
    ∃ (o:Obj) (its:Array Value) (n:Nat),K.lookup a=some o∧o.cls=.type "tuple" ∧ o.data=.seq its n∧its.size≤sizeLine∧Vals xs its.toList
def absV:Value→Option V
  | .none=>some .non
  | .bool b=>some (.bl b)
  | .int i _=>some (.int i)
  | .str x _=>some (.str x)
  | .bytes b _=>some (.byt b)
  | .float b _=>some (.flt b)
  | .ref a=>some (.ref a)
  | .type n=>some (.ty n)
  | _=>none
theorem RelV.abs {x:V} {u:Value} (r:RelV x u):absV u=some x:=by
  cases x with
  | non=>cases r; rfl
  | bl _=>cases r; rfl
  | int _=>obtain ⟨t,rfl⟩:=r; rfl
  | str _=>obtain ⟨t,rfl⟩:=r; rfl
  | byt _=>obtain ⟨t,rfl⟩:=r; rfl
  | flt _=>obtain ⟨t,rfl⟩:=r; rfl
  | ref _=>cases r; rfl
  | ty _=>cases r; rfl
theorem RelV.inj {x y:V} {u:Value} (r:RelV x u) (q:RelV y u):x=y:=Option.some.inj (r.abs.symm.trans q.abs)
theorem Vals.inj:∀ {xs ys:List V} {us:List Value},Vals xs us→Vals ys us→xs=ys
  | _,_,_,.nil,.nil=>rfl
  | _,_,_,.cons r t,.cons r' t'=>by rw [r.inj r',Vals.inj t t']
section
variable {X:Cx} {pins:List (Addr×Obj)} {σ:St} {H:Hp} {s:Shared} {a:Addr} {xs ys:List V}
theorem SqL.of {K:PySem.W.Frag} (h:H a=some (.lst xs)):SqL K H a xs:=.inl (.inl h)
theorem Inv.list (I:Inv X pins σ H s) (h:SqL X.K H a xs):∃ its:List Value,Vals xs its∧PlainL s.heap a its.toArray∧xs.length≤sizeLine:=by
  rcases h with h | ⟨o,its,n,hk,hc,hd,hs,hz,r⟩
  · obtain ⟨z,its,n,r,e⟩:=h.ok I.hok
    exact ⟨its,r,⟨_,n,e,rfl,rfl,rfl⟩,z⟩
  · refine ⟨its.toList,r,⟨o,n,I.kIn a o hk,hc,hd,by simpa using hs⟩,?_⟩
    have e:=r.length
    simp only [Array.length_toList] at e
    omega
theorem Inv.tuple (I:Inv X pins σ H s) (h:SqT X.K H a xs):∃ its:List Value,Vals xs its∧IsTup s.heap a its.toArray∧xs.length≤sizeLine:=by
  rcases h with h | ⟨o,its,n,hk,hc,hs,hz,r⟩
  · obtain ⟨z,its,r,p⟩:=h.ok I.hok
    exact ⟨its,r,p,z⟩
  · refine ⟨its.toList,r,⟨o,I.kIn a o hk,hc,n,by simpa using hs⟩,?_⟩
    have e:=r.length
    simp only [Array.length_toList] at e
    omega
theorem Inv.list_inj (I:Inv X pins σ H s) (h:SqL X.K H a xs) (h':SqL X.K H a ys):xs=ys:=by
  obtain ⟨its,r,⟨o,n,e,_,_,d⟩,_⟩:=I.list h
  obtain ⟨its',r',⟨o',n',e',_,_,d'⟩,_⟩:=I.list h'
  rw [e] at e'; cases e'
  rw [d] at d'
  injection d' with d1 _
  have:its=its':=by simpa using congrArg Array.toList d1
  subst this
  exact r.inj r'
end
abbrev Cx.wish (X:Cx) (E:Value→Shared→Prop):Cx:={ X with xe:=E }
abbrev Cx.nox (X:Cx):Cx:=X.wish fun _ _=>False
theorem Cx.Ok.wish {X:Cx} (ok:X.Ok) (E:Value→Shared→Prop):(X.wish E).Ok :=
  ⟨ok.mod,ok.kind,ok.glob,ok.blt,ok.above,ok.inj,ok.has,ok.cab,ok.hd,ok.frames,ok.stk,ok.exf,ok.bs,ok.bsz,ok.noex,ok.exfs,ok.funs,ok.frf⟩
theorem Cx.Ok.unwish {X:Cx} {E:Value→Shared→Prop} (ok:(X.wish E).Ok):X.Ok :=
  ⟨ok.mod,ok.kind,ok.glob,ok.blt,ok.above,ok.inj,ok.has,ok.cab,ok.hd,ok.frames,ok.stk,ok.exf,ok.bs,ok.bsz,ok.noex,ok.exfs,ok.funs,ok.frf⟩
section
variable {X:Cx} {pins:List (Addr×Obj)} {σ:St} {H:Hp} {s:Shared} {E:Value→Shared→Prop}
theorem Inv.wish (I:Inv X pins σ H s) (E:Value→Shared→Prop):Inv (X.wish E) pins σ H s:=⟨I.ok.wish E,I.os,I.bare,I.base,I.loc,I.cell,I.free,I.freeC,I.pin,I.hok,I.len⟩
theorem Inv.unwish (I:Inv (X.wish E) pins σ H s):Inv X pins σ H s:=⟨I.ok.unwish,I.os,I.bare,I.base,I.loc,I.cell,I.free,I.freeC,I.pin,I.hok,I.len⟩
theorem SP.unwish {D:Ends} {f:Flow} {s':Shared} (h:SP (X.wish E) pins D f s'):SP X pins D f s':=by
  cases f with
  | next=>obtain ⟨σ',H',I,q⟩:=h; exact ⟨σ',H',I.unwish,q⟩
  | brk=>obtain ⟨σ',H',I,q⟩:=h; exact ⟨σ',H',I.unwish,q⟩
  | cont=>obtain ⟨σ',H',I,q⟩:=h; exact ⟨σ',H',I.unwish,q⟩
  | ret u=>obtain ⟨v,σ',H',I,r,q⟩:=h; exact ⟨v,σ',H',I.unwish,r,q⟩
theorem PSs.nox {st:List Stmt} {t:TS} (h:PSs X.nox st t):PSs X st t:=fun pins s σ H D I hw =>
  wpAny_mono (h pins s σ H D (I.wish _) hw) (fun _ _ q=>q.unwish) fun _ _ z=>False.elim z
end
section
variable {X:Cx} {st:Stmt} {rest:List Stmt} {t u:TS} {e:Expr} {te:TE} {pos:Pos}
def tNext:TS:=fun D σ H=>D.nx σ H
def tSeq (t u:TS):TS:=fun D σ H=>t { D with nx:=u D } σ H
theorem zbc:PSs X [] tNext:=fun _ _ σ H _ I h=>wpAny_execs_nil ⟨σ,H,I,h⟩
theorem zaj (h1:PS X st t) (h2:PSs X rest u):PSs X (st::rest) (tSeq t u):=by
  intro pins s σ H D I h
  refine wpAny_execs_cons (thn (h1 pins s σ H { D with nx:=u D } I h) fun f s1 q=>?_)
  cases f with
  | next =>
    obtain ⟨σ',H',I',q⟩:=q
    exact h2 pins s1 σ' H' D I' q
  | ret v=>exact q
  | brk=>exact q
  | cont=>exact q
theorem zan (h1:PS X st t):PSs X [st] t:=by
  intro pins s σ H D I h
  refine wpAny_execs_cons (thn (h1 pins s σ H D I h) fun f s1 q=>?_)
  cases f with
  | next=>exact wpAny_execs_nil q
  | ret v=>exact q
  | brk=>exact q
  | cont=>exact q
theorem Inv.quiet {pins:List (Addr×Obj)} {σ:St} {H:Hp} {s:Shared} (I:Inv X pins σ H s):interactive X.env=false:=by simp [interactive,I.ok.kind]
def zmh (te:TE):TS:=fun D σ H=>te σ H fun _ H1=>D.nx σ H1
theorem zdc (he:PE X e te) (hs:swapsWith e none pos.line X.env=pure false:=by rfl):PS X (.Expr e pos) (zmh te):=by
  intro pins s σ H D I h
  exact wpAny_Expr_any (thn (he pins s σ H _ I h) fun v s1 ⟨x,H1,I1,r1,q1⟩=>⟨σ,H1,I1,q1⟩) I.quiet hs
def tRet (te:TE):TS:=fun D σ H=>te σ H D.rt
theorem zbd (he:PE X e te):PS X (.Return (some e) pos) (tRet te):=by
  intro pins s σ H D I h
  exact wpAny_Return_some (thn (he pins s σ H _ I h) fun v s1 ⟨x,H1,I1,r1,q1⟩=>⟨x,σ,H1,I1,r1,q1⟩)
def tIfS (c:TT) (t u:TS):TS:=fun D σ H=>c σ H fun b H1=>if b=true then t D σ H1 else u D σ H1
theorem zcl {c:Expr} {a b:List Stmt} {tc:TT} (hc:PT X c tc) (ha:PSs X a t) (hb:PSs X b u):PS X (.If c a b pos) (tIfS tc t u):=by
  intro pins s σ H D I h
  refine wpAny_If (thn (hc pins s σ H _ I h) fun d s1 ⟨H1,I1,q1⟩=>?_)
  cases d with
  | true=>exact ha pins s1 σ H1 D I1 q1
  | false=>exact hb pins s1 σ H1 D I1 q1
def tNever:TS:=fun _ _ _=>False
theorem zfo:PS X st tNever:=fun _ _ _ _ _ _ h=>h.elim
end
abbrev TG:=V→St→Hp→(St→Hp→Prop)→Prop
abbrev TGs:=List V→St→Hp→(St→Hp→Prop)→Prop
def PG (X:Cx) (target:Expr) (t:TG):Prop :=
  ∀ (pins:List (Addr×Obj)) (s:Shared) (σ:St) (H:Hp) (v:V) (u:Value) (Q:St→Hp→Prop),Inv X pins σ H s→RelV v u→t v σ H Q →
    wpAny (model X.prog X.w) X.A (assign target X.env u) (fun _ s'=>∃ σ' H',Inv X pins σ' H' s'∧Q σ' H') X.xe s
def PGs (X:Cx) (ts:List Expr) (t:TGs):Prop :=
  ∀ (pins:List (Addr×Obj)) (s:Shared) (σ:St) (H:Hp) (vs:List V) (us:List Value) (Q:St→Hp→Prop),Inv X pins σ H s→Vals vs us→t vs σ H Q →
    wpAny (model X.prog X.w) X.A (assignInOrder ((assignEach ts X.env).map (·.2)) us) (fun _ s'=>∃ σ' H',Inv X pins σ' H' s'∧Q σ' H') X.xe s
abbrev TSet:=V→V→V→Hp→(Hp→Prop)→Prop
def PSet (X:Cx) (t:TSet):Prop :=
  ∀ (pins:List (Addr×Obj)) (s:Shared) (σ:St) (H:Hp) (o i v:V) (ov iv u:Value) (Q:Hp→Prop),Inv X pins σ H s→RelV o ov→RelV i iv→RelV v u→t o i v H Q →
    wpAny (model X.prog X.w) X.A (setItem ov iv u) (fun _ s'=>∃ H',Inv X pins σ H' s'∧Q H') X.xe s
abbrev TIp:=V→V→Hp→VK→Prop
def PIp (X:Cx) (op:Operator) (t:TIp):Prop :=
  ∀ (pins:List (Addr×Obj)) (s:Shared) (σ:St) (H:Hp) (x y:V) (v u:Value) (Q:VK),Inv X pins σ H s→RelV x v→RelV y u→t x y H Q →
    wpAny (model X.prog X.w) X.A (inplaceOp op v u) (EP X pins σ Q) X.xe s
section
variable {X:Cx} {pos:Pos}
def zjo (i:Nat):TG:=fun v σ H Q=>Q (σ.set i (some v)) H
theorem zb5 {i:Nat} {x:Str} (hN:X.N.Nodup) (hi:X.N[i]?=some x) (hx:Loc X.env.scope x) (hf:X.fn x=true∨X.env.scope.names.lookup x=some .local:=by first | exact .inl rfl | exact .inr rfl | assumption):PG X (.Name x pos) (zjo i):=by
  intro pins s σ H v u Q I r h
  exact wpAny_assign_Name (zj7 I hN hi hx r (fun s' I'=>⟨_,H,I',h⟩) hf)
def gNil:TGs:=fun vs σ H Q=>vs=[]∧Q σ H
def znb (t:TG) (u:TGs):TGs:=fun vs σ H Q=>∃ v r,vs=v::r∧t v σ H fun σ' H'=>u r σ' H' Q
theorem zi9:PGs X [] gNil:=by
  intro pins s σ H vs us Q I r h
  obtain ⟨e,h⟩:=h
  subst e
  cases r
  exact assignInOrder_nil ⟨σ,H,I,h⟩
theorem zd4 {e:Expr} {es:List Expr} {t:TG} {u:TGs} (h1:PG X e t) (h2:PGs X es u)
    (hs:(assignEach (e::es) X.env).map (·.2)=assign e X.env::(assignEach es X.env).map (·.2):=by rfl):PGs X (e::es) (znb t u):=by
  intro pins s σ H vs us Q I r h
  obtain ⟨v,vr,e1,h⟩:=h
  subst e1
  cases r with
  | cons r rr =>
    rw [hs]
    refine assignInOrder_cons (thn (h1 pins s σ H _ _ _ I r h) fun _ s1 ⟨σ1,H1,I1,q1⟩=>?_)
    exact h2 pins s1 σ1 H1 _ _ Q I1 rr q1
def gTup (K:PySem.W.Frag) (n:Nat) (t:TGs):TG:=fun v σ H Q=>∃ a xs,v=.ref a∧SqT K H a xs∧xs.length=n∧t xs σ H Q
theorem pg_tup {es:List Expr} {k:Nat} {t:TGs} {n:Nat} (hc:X.calm=true) (h:PGs X es t)
    (hn:(assignEach es X.env).length=n:=by rfl) (hst:(assignEach es X.env).findIdx? (·.1)=none:=by rfl):PG X (.Tuple es k pos) (gTup X.K n t):=by
  intro pins s σ H v u Q I r hw
  obtain ⟨a,xs,e1,hq,hl,hw⟩:=hw
  subst e1
  cases r
  obtain ⟨its,rv,ht,hz⟩:=I.tuple hq
  refine assign_Tuple_tuple (I.ok.hd hc) ht (by simp [hn,← hl,rv.length]) hst fun h' hx=>?_
  have I1:Inv X pins σ H { s with heap:=h' }:=I.kept (t':=s.toks) fun b o e=>hx b o (Nat.ne_of_lt (Heap.lt_size e)) e
  exact h pins _ σ H xs _ Q I1 (by simpa using rv) hw
def gSub (to ti:TE) (t:TSet):TG:=fun v σ H Q=>to σ H fun o H1=>ti σ H1 fun i H2=>t o i v H2 fun H3=>Q σ H3
theorem zjw {o i:Expr} {to ti:TE} {t:TSet} (ho:PE X o to) (hi:PE X i ti) (hs:PSet X t)
    (ha:∀ v,assign (.Subscript o i pos) X.env v=(do
      let ov ← holding [v] (eval o X.env)
      let iv ← holding [v,ov] (eval i X.env)
      standAt pos
      holding [v,ov,iv] (setItem ov iv v)
      release [v,ov,iv] []):=by intro _; rfl):PG X (.Subscript o i pos) (gSub to ti t):=by
  intro pins s σ H v u Q I r h
  rw [ha]
  refine wpAny_bind (wpAny_holding (thn (ho pins s σ H _ I h) fun ov s1 ⟨x,H1,I1,r1,q1⟩=>?_))
  refine wpAny_bind (wpAny_holding (thn (hi pins s1 σ H1 _ I1 q1) fun iv s2 ⟨y,H2,I2,r2,q2⟩=>?_))
  refine wpAny_bind (wpAny_standAt (wpAny_bind (wpAny_holding (thn (hs pins s2 σ H2 x y v ov iv u _ I2 r1 r2 r q2) fun _ s3 ⟨H3,I3,q3⟩=>?_))))
  exact wpAny_release ⟨σ,H3,I3,q3⟩
def tAsg (te:TE) (g:TG):TS:=fun D σ H=>te σ H fun x H1=>g x σ H1 D.nx
theorem zjv {tg e:Expr} {te:TE} {g:TG} (he:PE X e te) (hg:PG X tg g) (hs:swapsWithSole [tg] e pos.line X.env=pure false:=by rfl) (hw:swappedStores [tg] e X.env=pure none:=by rfl)
    (h1:(assignEach [tg] X.env).map (·.2)=[assign tg X.env]:=by rfl):PS X (.Assign [tg] e pos) (tAsg te g):=by
  intro pins s σ H D I h
  refine wpAny_Assign_stores (thn (he pins s σ H _ I h) fun v s1 ⟨x,H1,I1,r1,q1⟩=>?_) hs hw
  rw [h1]
  exact thn (hg pins s1 σ H1 x v _ I1 r1 q1) fun _ s2 q=>q
theorem zbf {i:Nat} {x:Str} {e:Expr} {te:TE} {pos':Pos} (hN:X.N.Nodup) (hi:X.N[i]?=some x) (hx:Loc X.env.scope x) (he:PE X e te) (hs:swapsWith e (some (.Name x pos')) pos.line X.env=pure false:=by rfl) (hf:X.fn x=true∨X.env.scope.names.lookup x=some .local:=by first | exact .inl rfl | exact .inr rfl | assumption) :
    PS X (.Assign [.Name x pos'] e pos) (tAsg te (zjo i)):=by
  intro pins s σ H D I h
  refine wpAny_Assign_Name (thn (he pins s σ H _ I h) fun v s1 ⟨y,H1,I1,r1,q1⟩=>?_) hs
  exact zj7 I1 hN hi hx r1 (fun s2 I2=>⟨_,H1,I2,q1⟩) hf
def tAug (i:Nat) (te:TE) (ti:TIp):TS:=fun D σ H=>∃ x,σ[i]?=some (some x)∧te σ H fun y H1=>ti x y H1 fun z H2=>D.nx (σ.set i (some z)) H2
theorem ps_aug {i:Nat} {x:Str} {e:Expr} {te:TE} {op:Operator} {ti:TIp} {pos':Pos} (hN:X.N.Nodup) (hi:X.N[i]?=some x) (hx:Loc X.env.scope x) (he:PE X e te) (ho:PIp X op ti) (hf:X.fn x=true∨X.env.scope.names.lookup x=some .local:=by first | exact .inl rfl | exact .inr rfl | assumption) :
    PS X (.AugAssign (.Name x pos') op e pos) (tAug i te ti):=by
  intro pins s σ H D I h
  obtain ⟨v,e1,h⟩:=h
  obtain ⟨m,hn,hl⟩:=I.loc
  have vis:Vis X.env.scope x:=by rcases hx with k | k; exact .inl k; exact .inr (.inl k)
  obtain ⟨u,r,l⟩:=hl i x v hi e1 vis
  refine wpAny_AugAssign_Name ?_
  have go:wpAny (model X.prog X.w) X.A (eval e X.env) (fun w s₂=>wpAny (model X.prog X.w) X.A (inplaceOp op u w) (fun r s₃=>wpAny (model X.prog X.w) X.A (storeName X.env x r) (fun _=>SP X pins D .next) X.xe s₃) X.xe s₂) X.xe s:=by
    refine thn (he pins s σ H _ I h) fun w s1 ⟨y,H1,I1,r1,q1⟩=>?_
    refine thn (ho pins s1 σ H1 v y u w _ I1 r r1 q1) fun z s2 ⟨zv,H2,I2,r2,q2⟩=>?_
    exact zj7 I2 hN hi hx r2 (fun s3 I3=>⟨_,H2,I3,q2⟩) hf
  rcases l with ⟨hk,hm⟩ | ⟨hk,c,hc,hcell⟩
  · exact wpAny_loadName_local I.ok.kind hk hn hm go
  · rcases hk with hk | hk
    · exact wpAny_loadName_cell I.ok.kind hk hc hcell go
    · rcases hx with k | k
      · have:X.env.scope.names.lookup x=some .free:=hk
        rw [k] at this; cases this
      · have:X.env.scope.names.lookup x=some .free:=hk
        rw [k] at this; cases this
def ipI (f:Int→Int→Int):TIp:=fun x y H Q=>∃ i j,x=.int i∧y=.int j∧Q (.int (f i j)) H
theorem ip_add:PIp X .Add (ipI fun i j=>i+j):=by
  intro pins s σ H x y v u Q I r1 r2 h
  obtain ⟨i,j,e1,e2,q⟩:=h
  subst e1; subst e2
  obtain ⟨t,rfl⟩:=r1
  obtain ⟨t',rfl⟩:=r2
  exact iadd_int ⟨.int _,H,I.tok _,⟨_,rfl⟩,q⟩
end
section
variable {X:Cx} {pos:Pos}
def tWhile (c:TT) (tb:TS):TS:=fun D σ H=>∃ W:Nat→St→Hp→Prop,(∃ m,W m σ H)∧∀ m σ H,W m σ H →
  c σ H fun b H1=>if b=true then ∃ N:St→Hp→Prop,(∀ σ' H',N σ' H'→∃ m',m'<m∧W m' σ' H')∧tb { D with nx:=N,ct:=N,bk:=D.nx } σ H1 else D.nx σ H1
theorem zkc {c:Expr} {body:List Stmt} {tc:TT} {tb:TS} (hp:PassesOwn (model X.prog X.w) X.A X.env X.xe) (hc:PT X c tc) (hb:PSs X body tb):PS X (.While c body [] pos) (tWhile tc tb):=by
  intro pins s σ H D I h
  obtain ⟨W,⟨m0,w0⟩,turn⟩:=h
  refine wpAny_While (codeAny_whileLoop (fun n s'=>∃ σ' H',Inv X pins σ' H' s'∧W n σ' H') ?_ m0 ⟨σ,H,I,w0⟩)
  rintro n s1 ⟨σ1,H1,I1,w1⟩
  refine wpAny_passesOwn hp (thn (hc pins s1 σ1 H1 _ I1 (turn n σ1 H1 w1)) fun b s2 ⟨H2,I2,q2⟩=>?_)
  cases b with
  | true =>
    obtain ⟨N,hN,q2⟩:=q2
    rw [if_pos rfl]
    refine wpAny_passesOwn hp (thn (hb pins s2 σ1 H2 _ I2 q2) fun f s3 q3=>?_)
    cases f with
    | next =>
      obtain ⟨σ3,H3,I3,n3⟩:=q3
      obtain ⟨m',hm,w3⟩:=hN σ3 H3 n3
      exact ⟨m',hm,σ3,H3,I3,w3⟩
    | cont =>
      obtain ⟨σ3,H3,I3,n3⟩:=q3
      obtain ⟨m',hm,w3⟩:=hN σ3 H3 n3
      exact ⟨m',hm,σ3,H3,I3,w3⟩
    | brk=>exact q3
    | ret v=>exact q3
  | false =>
    rw [if_neg Bool.false_ne_true]
    exact wpAny_execs_nil ⟨σ1,H2,I2,q2⟩
end
structure It where
  go:Nat→Hp→Prop
  yld:Nat→Hp→V→Hp→Prop
  stop:Nat→Hp→Prop
def FpOk (X:Cx) (pins:List (Addr×Obj)) (H:Hp) (b:Addr):Prop :=
  H b=none∧b≠X.env.locals∧b∉X.fs∧(b∈X.ex∨X.s₀.heap.objs.size≤b)∧(∀ x c,X.env.cells.lookup x=some c→c≠b)∧∀ p∈X.pn++pins,p.1≠b
theorem Inv.fpOk {X:Cx} {pins:List (Addr×Obj)} {σ:St} {H H':Hp} {s:Shared} {b:Addr} (I:Inv X pins σ H s) (hb:s.heap.objs.size≤b) (hn:H' b=none):FpOk X pins H' b:=by
  refine ⟨hn,Nat.ne_of_gt (Nat.lt_of_lt_of_le I.lt hb),I.nofs hb,.inr (Nat.le_trans I.sz hb),fun x c e z=>?_,fun p hp z=>?_⟩
  · obtain ⟨v,q⟩:=I.cell x c e
    exact absurd (Nat.lt_of_lt_of_le q.lt (by rw [z]; exact hb)) (Nat.lt_irrefl _)
  · exact absurd (Nat.lt_of_lt_of_le (Heap.lt_size (I.pin p hp).1) (by rw [z]; exact hb)) (Nat.lt_irrefl _)
structure Turn (P:Program) (w:World) (K:PySem.W.Frag) (tg:Expr) (J:It) (fp:List Addr) (it:Addr) (tn:Nat→Heap→Prop):Prop where
  mem:it∈fp
  obj:∀ i h,tn i h→∀ b∈fp,∃ o,h.get? b=some o∧∀ v,o.data≠.cell v
  keep:∀ i h h',tn i h→(∀ b∈fp,∀ o,h.get? b=some o→h'.get? b=some o)→tn i h'
  item:∀ (X:Cx),X.prog=P→X.w=w→X.K=K→X.calm=true→∀ (i:Nat) (pins:List (Addr×Obj)) (s:Shared) (σ:St) (H:Hp) (E:Value→Shared→Prop),Inv X pins σ H s→(∀ b∈fp,FpOk X pins H b)→tn i s.heap→J.go i H →
    wpAny (model P w) X.A (pyNext (.ref it)) (fun r s1=>∃ u,r=some u ∧
      wpAny (model P w) X.A (letOwnedTupleGo tg (.ref it) u) (fun _ s2=>∃ x H',Inv X pins σ H' s2∧RelV x u∧J.yld i H x H'∧tn (i+1) s2.heap∧∀ b∈fp,H' b=none) E s1) E s
  done:∀ (X:Cx),X.prog=P→X.w=w→X.K=K→X.calm=true→∀ (i:Nat) (pins:List (Addr×Obj)) (s:Shared) (σ:St) (H:Hp) (E:Value→Shared→Prop),Inv X pins σ H s→(∀ b∈fp,FpOk X pins H b)→tn i s.heap→J.stop i H →
    wpAny (model P w) X.A (pyNext (.ref it)) (fun r s1=>r=none∧Inv X pins σ H s1) E s
  self:∀ (A:Around) (i:Nat) (s:Shared) (Q:Value→Shared→Prop) (E:Value→Shared→Prop),tn i s.heap→Q (.ref it) s→wpAny (model P w) A (pyIter (.ref it)) Q E s
abbrev TI:=St→Hp→(It→Hp→Prop)→Prop
def PIE (X:Cx) (pins:List (Addr×Obj)) (σ:St) (tg:Expr) (R:It→Hp→Prop) (itv:Value) (s2:Shared):Prop :=
  ∃ (it:Addr) (fp:List Addr) (tn:Nat→Heap→Prop) (J:It) (H':Hp),itv=.ref it∧Inv X pins σ H' s2∧Turn X.prog X.w X.K tg J fp it tn∧tn 0 s2.heap∧(∀ b∈fp,FpOk X pins H' b)∧R J H'
def PI (X:Cx) (tg iter:Expr) (wi:TI):Prop :=
  ∀ (pins:List (Addr×Obj)) (s:Shared) (σ:St) (H:Hp) (R:It→Hp→Prop),Inv X pins σ H s→wi σ H R →
    wpAny (model X.prog X.w) X.A (eval iter X.env) (fun v s1=>wpAny (model X.prog X.w) X.A (pyIter v) (PIE X pins σ tg R) X.xe s1) X.xe s
theorem go_of {M:Model} {A:Around} {E:Value→Shared→Prop} {s:Shared} {tg:Expr} {it:Addr} {u:Value} {o:Obj} {n:String} {vs:Array Value} {Q:Unit→Shared→Prop} (ho:s.heap.get? it=some o) (hc:o.cls=.type n) (hd:o.data=.fields vs)
    (hn:["enumerate", "zip", "dict_itemiterator", "dict_reverseitemiterator", "odict_iterator", "itertools.zip_longest", "itertools.pairwise"].contains n=false) (hQ:Q () s):wpAny M A (letOwnedTupleGo tg (.ref it) u) Q E s:=by
  unfold letOwnedTupleGo
  cases tg <;> first
    | exact wpAny_pure hQ
    | (cases u <;> first
        | exact wpAny_pure hQ
        | (refine wpAny_bind (wpAny_load ho ?_)
           rw [hc,hd]
           show wpAny M A (if (["enumerate", "zip", "dict_itemiterator", "dict_reverseitemiterator", "odict_iterator", "itertools.zip_longest", "itertools.pairwise"].contains n&&vs[0]?==some (rawInt _))=true then _ else _) Q E s
           rw [if_neg (by intro h; rw [hn,Bool.false_and] at h; cases h)]
           exact wpAny_pure hQ))
def Itl (K:PySem.W.Frag) (a:Addr):It :=
  ⟨fun i H=>∃ xs x,SqL K H a xs∧xs[i]?=some x,fun i H x H'=>H'=H∧∀ xs,SqL K H a xs→xs[i]?=some x,fun i H=>∃ xs,SqL K H a xs∧xs.length≤i⟩
def Itr (lo:Int) (n:Nat):It:=⟨fun i _=>i<n,fun i H x H'=>H'=H∧x=.int (lo+i),fun i _=>n≤i⟩
theorem turn_list {P:Program} {w:World} {K:PySem.W.Frag} {tg:Expr} (a it:Addr):Turn P w K tg (Itl K a) [it] it (fun i h=>h.IsListIter it a i) where
  mem:=by simp
  obj:=fun i h st b hb=>by
    have e:b=it:=by simpa using hb
    subst e
    obtain ⟨o,e,c,d⟩:=st
    exact ⟨o,e,fun v z=>by rw [d] at z; cases z⟩
  keep:=fun i h h' st k=>st.at fun o e=>k it (by simp) o e
  item:=by
    intro X hP hw hK hc i pins s σ H E I hf st hg
    subst hP hw hK
    obtain ⟨xs,x,hq,hx⟩:=hg
    obtain ⟨its,rv,p,hz⟩:=I.list hq
    obtain ⟨u,hu,ru⟩:=rv.get hx
    obtain ⟨f0,f1,f2,f3,f4,f5⟩:=hf it (by simp)
    refine wpAny_pyNext_list_item st p.isList (x:=u) (by simpa using hu) fun h' st' sb=>?_
    have I1:Inv X pins σ H { s with heap:=h' }:=I.turned (t':=s.toks) (fun b o hb e=>(sb.2 b hb).trans e) f0 f1 f3 f4 f5
    obtain ⟨o,e,c,d⟩:=id st'
    exact ⟨u,rfl,go_of (s:={ s with heap:=h' }) e c d (by decide) ⟨x,H,I1,ru,⟨rfl,fun ys hy=>by rw [I.list_inj hy hq]; exact hx⟩,st',fun b hb=>(hf b hb).1⟩⟩
  done:=by
    intro X hP hw hK hc i pins s σ H E I hf st hg
    subst hP hw hK
    obtain ⟨xs,hq,hx⟩:=hg
    obtain ⟨its,rv,p,hz⟩:=I.list hq
    obtain ⟨f0,f1,f2,f3,f4,f5⟩:=hf it (by simp)
    have hl:=rv.length
    exact wpAny_pyNext_list_end (I.ok.hd hc) st p.isList (by simp; omega) fun h' eb=>⟨rfl,I.turned (t':=s.toks) (fun b o hb e=>eb b o hb e) f0 f1 f3 f4 f5⟩
  self:=fun _ _ _ _ _ st h=>wpAny_pyIter_listiter st h
theorem turn_range {P:Program} {w:World} {K:PySem.W.Frag} {tg:Expr} (it:Addr) (lo:Int) (n:Nat):Turn P w K tg (Itr lo n) [it] it (fun i h=>IsRangeIter h it (lo+(i:Nat)*1) ((n:Int)-(i:Nat)) 1) where
  mem:=by simp
  obj:=fun i h st b hb=>by
    have e:b=it:=by simpa using hb
    subst e
    exact ⟨_,st,fun v z=>by
      have z':Data.fields _=Data.cell v:=z
      cases z'⟩
  keep:=fun i h h' st k=>k it (by simp) _ st
  item:=by
    intro X hP hw hK hc i pins s σ H E I hf st hg
    subst hP hw hK
    obtain ⟨f0,f1,f2,f3,f4,f5⟩:=hf it (by simp)
    have W:=Walks.range (prog:=X.prog) (w:=X.w) (I.ok.hd hc) it lo 1 n
    refine W.item i s _ _ hg st fun v h' tk hv st' kk=>?_
    obtain ⟨t,rfl⟩:=hv
    have I1:Inv X pins σ H { s with heap:=h',toks:=tk }:=I.turned (fun b o hb e=>kk b o (by simpa using hb) e) f0 f1 f3 f4 f5
    refine ⟨_,rfl,go_of (s:={ s with heap:=h',toks:=tk }) (n := "range_iterator") st' rfl rfl (by decide) ⟨.int (lo+i),H,I1,⟨t,?_⟩,⟨rfl,rfl⟩,st',fun b hb=>(hf b hb).1⟩⟩
    rw [Int.mul_one]
  done:=by
    intro X hP hw hK hc i pins s σ H E I hf st hg
    subst hP hw hK
    obtain ⟨f0,f1,f2,f3,f4,f5⟩:=hf it (by simp)
    exact wpAny_pyNext_range_end (I.ok.hd hc) st (by have:n≤i:=hg; omega) fun h' eb=>⟨rfl,I.turned (t':=s.toks) (fun b o hb e=>eb b o hb e) f0 f1 f3 f4 f5⟩
  self:=fun _ _ _ _ _ st h=>wpAny_pyIter_rangeiter st h
end L2
namespace L2
open PySem PySem.Spec PyProof.Rows
section
variable {X:Cx} {tg:Expr}
def zmr (K:PySem.W.Frag) (tl:TE):TI:=fun σ H R=>tl σ H fun x H1=>∃ a,x=.ref a∧(∃ xs,SqL K H1 a xs)∧R (Itl K a) H1
theorem pi_list {l:Expr} {tl:TE} (hl:PE X l tl):PI X tg l (zmr X.K tl):=by
  intro pins s σ H R I h
  refine thn (hl pins s σ H _ I h) fun v s1 ⟨x,H1,I1,r1,q1⟩=>?_
  obtain ⟨a,e,⟨xs,hq⟩,q⟩:=q1
  subst e
  cases r1
  obtain ⟨its,rv,p,hz⟩:=I1.list hq
  refine wpAny_pyIter_list p.isList ?_
  refine ⟨s1.heap.objs.size,[s1.heap.objs.size],_,_,H1,rfl,I1.kept (t':=s1.toks) fun b o e=>Heap.get?_push_of_some _ e,turn_list a _,⟨_,Heap.get?_push_size _ rfl,rfl,rfl⟩,fun b hb=>?_,q⟩
  have e:b=s1.heap.objs.size:=by simpa using hb
  subst e
  exact I1.fpOk (Nat.le_refl _) (I1.hok.fresh (Nat.le_refl _))
theorem range_it {pins:List (Addr×Obj)} {σ:St} {H:Hp} {s:Shared} {R:It→Hp→Prop} {E:Value→Shared→Prop} {lo hi:Int} {t u v:Tok} {tk:Nat} (I:Inv X pins σ H s) (h1:-(2 ^ 62)≤lo) (h2:lo<2 ^ 62) (h3:-(2 ^ 62)≤hi) (h4:hi<2 ^ 62)
    (q:R (Itr lo (hi-lo).toNat) H):wpAny (model X.prog X.w) X.A (pyIter (.ref s.heap.objs.size)) (PIE X pins σ tg R) E { s with heap:=s.heap.push { cls:=.type "range", data:=.fields #[.int lo t,.int hi u,.int 1 v] },toks:=tk }:=by
  refine wpAny_pyIter_range (IsRange.new ..) (small_one h1 h2 h3 h4) ?_
  have I1:Inv X pins σ H { s with heap:=s.heap.push { cls:=.type "range", data:=.fields #[.int lo t,.int hi u,.int 1 v] },toks:=tk }:=I.kept fun b o e=>Heap.get?_push_of_some _ e
  refine ⟨(s.heap.push { cls:=.type "range", data:=.fields #[.int lo t,.int hi u,.int 1 v] }).objs.size,[(s.heap.push { cls:=.type "range", data:=.fields #[.int lo t,.int hi u,.int 1 v] }).objs.size],_,_,H,rfl,
    I1.kept (t':=tk) fun b o e=>Heap.get?_push_of_some _ e,turn_range _ lo (hi-lo).toNat,?_,fun b hb=>?_,q⟩
  · have e1:lo+((0:Nat):Int)*1=lo:=by simp
    have e2:(((hi-lo).toNat:Nat):Int)-((0:Nat):Int)=Builtin.Range.rangeSize lo hi 1:=by rw [rangeSize_one]; split <;> omega
    show IsRangeIter _ _ (lo+((0:Nat):Int)*1) ((((hi-lo).toNat:Nat):Int)-((0:Nat):Int)) 1
    rw [e1,e2]
    exact Heap.get?_push_size _ rfl
  · have e:b=(s.heap.push { cls:=.type "range", data:=.fields #[.int lo t,.int hi u,.int 1 v] }).objs.size:=by simpa using hb
    subst e
    exact I1.fpOk (Nat.le_refl _) (I1.hok.fresh (Nat.le_refl _))
def iRng1 (ta:TA):TI:=fun σ H R=>ta σ H fun vs H1=>∃ j:Int,vs=[.int j]∧-(2 ^ 62)≤j∧j<2 ^ 62∧R (Itr 0 j.toNat) H1
theorem zbq {a:Expr} {ta:TA} {p pos:Pos} (hg:Gl X "range") (hm:X.mg "range" = none) (ha:PA X [a] ta) (hs:starEach [a] X.env=[(false,eval a X.env)]:=by rfl):PI X tg (.Call (.Name "range" p) [a] [] pos) (iRng1 ta):=by
  intro pins s σ H R I h
  refine Call_ (zks I hg hm boot_range (PyProof.Rows.callWith_type1 (thn (ha pos pins s σ H _ I h) fun us s1 ⟨vs,H1,I1,r1,q1⟩=>?_) hs rfl))
  obtain ⟨j,e,q1,q2,q⟩:=q1
  subst e
  cases r1 with
  | cons r rr =>
    cases rr
    obtain ⟨t,rfl⟩:=r
    exact call_range_1 (range_it I1 (by omega) (by omega) q1 q2 (by simpa using q))
def tFor (wi:TI) (g:TG) (tb:TS):TS:=fun D σ H=>wi σ H fun J H1=>∃ W:Nat→Nat→St→Hp→Prop,(∃ m,W 0 m σ H1)∧∀ i m σ H,W i m σ H →
  (J.stop i H∧D.nx σ H)∨(J.go i H∧∃ N:St→Hp→Prop,(∀ σ' H',N σ' H'→∃ m',m'<m∧W (i+1) m' σ' H')∧∀ x H',J.yld i H x H'→g x σ H' fun σ2 H2=>tb { D with nx:=N,ct:=N,bk:=D.nx } σ2 H2)
def zi8 (fp:List Addr) (h:Heap):List (Addr×Obj):=fp.filterMap fun b=>(h.get? b).map fun o=>(b,o)
theorem zdm {fp:List Addr} {h:Heap} {b:Addr} {o:Obj} (hb:b∈fp) (e:h.get? b=some o):(b,o)∈zi8 fp h:=List.mem_filterMap.mpr ⟨b,hb,by rw [e]; rfl⟩
theorem of_pinsAt {fp:List Addr} {h:Heap} {p:Addr×Obj} (hp:p∈zi8 fp h):p.1∈fp∧h.get? p.1=some p.2:=by
  obtain ⟨b,hb,e⟩:=List.mem_filterMap.mp hp
  cases q:h.get? b with
  | none=>rw [q] at e; cases e
  | some o =>
    rw [q] at e
    have e':(b,o)=p:=Option.some.inj e
    subst e'
    exact ⟨hb,q⟩
theorem Inv.pinned {pins:List (Addr×Obj)} {σ:St} {H:Hp} {s:Shared} {fp:List Addr} (I:Inv X pins σ H s) (hf:∀ b∈fp,FpOk X pins H b) (ho:∀ b∈fp,∃ o,s.heap.get? b=some o∧∀ v,o.data≠.cell v):Inv X (pins++zi8 fp s.heap) σ H s :=
  I.pins_of fun p hp=>(List.mem_append.mp hp).elim (fun z=>I.pin p (List.mem_append_right _ z)) fun z=>by
    obtain ⟨hb,e⟩:=of_pinsAt z
    obtain ⟨f0,f1,f2,_⟩:=hf p.1 hb
    obtain ⟨o,e',d⟩:=ho p.1 hb
    rw [e] at e'; cases e'
    exact ⟨e,f0,f1,f2,d⟩
theorem Inv.unpinned {pins pl:List (Addr×Obj)} {σ:St} {H:Hp} {s:Shared} (I:Inv X (pins++pl) σ H s):Inv X pins σ H s:=I.pins_of fun p hp=>I.pin p (List.mem_append_right _ (List.mem_append_left _ hp))
theorem zdp {iter:Expr} {body:List Stmt} {wi:TI} {g:TG} {tb:TS} {pos:Pos} (hp:PassesOwn (model X.prog X.w) X.A X.env X.xe) (hc:X.calm=true) (hi:PI X tg iter wi) (hg:PG X tg g) (hb:PSs X body tb)
    (hs:∀ x,foldedSetIterable iter X.env x=pure x:=by intro _; rfl):PS X (.For tg iter body [] pos) (tFor wi g tb):=by
  intro pins s σ H D I h
  refine wpAny_For (thn (hi pins s σ H _ I h) fun v s1 h1=>thn h1 fun itv s2 h2=>?_) hs
  obtain ⟨it,fp,tn,J,H2,e,I2,T,st2,f2,W,⟨m0,w0⟩,turn⟩:=h2
  subst e
  have stat:∀ {H':Hp},(∀ b∈fp,H' b=none)→∀ b∈fp,FpOk X pins H' b:=fun hn b hb=>⟨hn b hb,(f2 b hb).2⟩
  refine codeAny_forLoop_any (fun n s'=>∃ i σ' H',Inv X pins σ' H' s'∧tn i s'.heap∧(∀ b∈fp,H' b=none)∧W i n σ' H') ?_ m0 ⟨0,σ,H2,I2,st2,fun b hb=>(f2 b hb).1,w0⟩
  rintro n s3 ⟨i,σ3,H3,I3,st3,fr3,w3⟩
  rcases turn i n σ3 H3 w3 with ⟨stop,qn⟩ | ⟨go,N,hN,step⟩
  · refine wpAny_passesOwn hp (thn (T.done X rfl rfl rfl hc i pins s3 σ3 H3 X.xe I3 (stat fr3) st3 stop) fun r s4 ⟨hr,I4⟩=>?_)
    subst hr
    exact wpAny_execs_nil ⟨σ3,H3,I4,qn⟩
  · refine wpAny_passesOwn hp (thn (T.item X rfl rfl rfl hc i pins s3 σ3 H3 X.xe I3 (stat fr3) st3 go) fun r s4 ⟨u,hr,h4⟩=>?_)
    subst hr
    refine wpAny_passesOwn hp (thn h4 fun _ s5 ⟨x,H5,I5,r5,y5,st5,fr5⟩=>?_)
    have I5':=I5.pinned (stat fr5) (T.obj _ _ st5)
    refine wpAny_passesOwn hp (thn (hg _ s5 σ3 H5 x u _ I5' r5 (step x H5 y5)) fun _ s6 ⟨σ6,H6,I6,q6⟩=>?_)
    refine wpAny_passesOwn hp (thn (hb _ s6 σ6 H6 _ I6 q6) fun f s7 q7=>?_)
    have again:∀ {σ7:St} {H7:Hp},Inv X (pins++zi8 fp s5.heap) σ7 H7 s7→N σ7 H7→∃ m,m<n∧∃ i σ' H',Inv X pins σ' H' s7∧tn i s7.heap∧(∀ b∈fp,H' b=none)∧W i m σ' H':=fun {σ7 H7} I7 n7=>by
      obtain ⟨m',hm,w7⟩:=hN σ7 H7 n7
      refine ⟨m',hm,i+1,σ7,H7,I7.unpinned,T.keep _ _ _ st5 fun b hb o e=>(I7.pin (b,o) (List.mem_append_right _ (List.mem_append_right _ (zdm hb e)))).1,fun b hb=>?_,w7⟩
      obtain ⟨o,e,d⟩:=T.obj _ _ st5 b hb
      exact (I7.pin (b,o) (List.mem_append_right _ (List.mem_append_right _ (zdm hb e)))).2.1
    cases f with
    | next=>obtain ⟨σ7,H7,I7,n7⟩:=q7; exact again I7 n7
    | cont=>obtain ⟨σ7,H7,I7,n7⟩:=q7; exact again I7 n7
    | brk=>obtain ⟨σ7,H7,I7,q7⟩:=q7; exact ⟨σ7,H7,I7.unpinned,q7⟩
    | ret v=>obtain ⟨x7,σ7,H7,I7,r7,q7⟩:=q7; exact ⟨x7,σ7,H7,I7.unpinned,r7,q7⟩
end
end L2
namespace L2
open PySem PySem.Spec PyProof.Rows
abbrev R2:=V→V→Hp→VK→Prop
def OpR (X:Cx) (f:Value→Value→Sem Value) (r:R2):Prop :=
  ∀ (pins:List (Addr×Obj)) (s:Shared) (σ:St) (H:Hp) (x y:V) (v u:Value) (Q:VK),Inv X pins σ H s→RelV x v→RelV y u→r x y H Q →
    wpAny (model X.prog X.w) X.A (f v u) (EP X pins σ Q) X.xe s
def UnR (X:Cx) (f:Value→Sem Value) (r:V→Hp→VK→Prop):Prop :=
  ∀ (pins:List (Addr×Obj)) (s:Shared) (σ:St) (H:Hp) (x:V) (v:Value) (Q:VK),Inv X pins σ H s→RelV x v→r x H Q →
    wpAny (model X.prog X.w) X.A (f v) (EP X pins σ Q) X.xe s
def zhu (X:Cx) (f:Value) (r:List V→Hp→VK→Prop):Prop :=
  ∀ (pins:List (Addr×Obj)) (s:Shared) (σ:St) (H:Hp) (xs:List V) (us:List Value) (Q:VK),Inv X pins σ H s→Vals xs us→r xs H Q →
    wpAny (model X.prog X.w) X.A (call f us) (EP X pins σ Q) X.xe s
def TruR (X:Cx) (r:V→Hp→(Bool→Hp→Prop)→Prop):Prop :=
  ∀ (pins:List (Addr×Obj)) (s:Shared) (σ:St) (H:Hp) (x:V) (v:Value) (Q:Bool→Hp→Prop),Inv X pins σ H s→RelV x v→r x H Q →
    wpAny (model X.prog X.w) X.A (truthy v) (TP X pins σ Q) X.xe s
def tOp (r:R2) (ta tb:TE):TE:=fun σ H Q=>ta σ H fun x H1=>tb σ H1 fun y H2=>r x y H2 Q
def tUn (r:V→Hp→VK→Prop) (ta:TE):TE:=fun σ H Q=>ta σ H fun x H1=>r x H1 Q
def rI (C:Int→Int→Prop) (g:Int→Int→V):R2:=fun x y H Q=>∃ i j,x=.int i∧y=.int j∧C i j∧Q (g i j) H
def rI0 (g:Int→Int→V):R2:=fun x y H Q=>∃ i j,x=.int i∧y=.int j∧Q (g i j) H
def rU (g:Int→V):V→Hp→VK→Prop:=fun x H Q=>∃ i,x=.int i∧Q (g i) H
section
variable {X:Cx} {a b c:Expr} {ta tb tc:TE} {pos:Pos}
theorem binT (ha:PE X a ta) (hb:PE X b tb) {pins:List (Addr×Obj)} {s:Shared} {σ:St} {H:Hp} {R:V→V→Hp→Prop} (I:Inv X pins σ H s)
    (h:ta σ H fun x H1=>tb σ H1 fun y H2=>R x y H2) {Q:Value→Shared→Prop} {f:Value→Value→Sem Value}
    (hf:∀ v u s2 x y H2,Inv X pins σ H2 s2→RelV x v→RelV y u→R x y H2→wpAny (model X.prog X.w) X.A (f v u) Q X.xe s2) :
    wpAny (model X.prog X.w) X.A (eval a X.env) (fun v s₁=>wpAny (model X.prog X.w) X.A (eval b X.env) (fun u s₂=>wpAny (model X.prog X.w) X.A (f v u) Q X.xe s₂) X.xe s₁) X.xe s:=by
  refine thn (ha pins s σ H _ I h) fun v s1 ⟨x,H1,I1,r1,q1⟩=>?_
  refine thn (hb pins s1 σ H1 _ I1 q1) fun u s2 ⟨y,H2,I2,r2,q2⟩=>?_
  exact hf v u s2 x y H2 I2 r1 r2 q2
theorem za1 {op:Operator} {r:R2} (ho:OpR X (binaryOp op) r) (ha:PE X a ta) (hb:PE X b tb):PE X (.BinOp a op b pos) (tOp r ta tb):=by
  intro pins s σ H Q I h
  exact wpAny_BinOp (binT ha hb I h fun v u s2 x y H2 I2 rx ry q=>ho pins s2 σ H2 x y v u Q I2 rx ry q)
theorem zik {op:UnaryOp} {r:V→Hp→VK→Prop} (ho:UnR X (unaryOp op) r) (ha:PE X a ta):PE X (.UnaryOp op a pos) (tUn r ta):=by
  intro pins s σ H Q I h
  exact UnaryOp_ (thn (ha pins s σ H _ I h) fun v s1 ⟨x,H1,I1,r1,q1⟩=>ho pins s1 σ H1 x v Q I1 r1 q1)
theorem opI {f:Value→Value→Sem Value} {C:Int→Int→Prop} {g:Int→Int→Int}
    (rule:∀ (i j:Int) (t u:Tok) (s:Shared) (Q:Value→Shared→Prop) (E:Value→Shared→Prop),C i j→Q (.int (g i j) s.toks) { s with toks:=s.toks+1 }→wpAny (model X.prog X.w) X.A (f (.int i t) (.int j u)) Q E s) :
    OpR X f (rI C fun i j=>.int (g i j)):=by
  intro pins s σ H x y v u Q I rx ry h
  obtain ⟨i,j,rfl,rfl,hc,q⟩:=h
  obtain ⟨t,rfl⟩:=rx
  obtain ⟨t',rfl⟩:=ry
  exact rule i j t t' s _ _ hc ⟨.int (g i j),H,I.tok _,⟨_,rfl⟩,q⟩
theorem opI0 {f:Value→Value→Sem Value} {g:Int→Int→Int}
    (rule:∀ (i j:Int) (t u:Tok) (s:Shared) (Q:Value→Shared→Prop) (E:Value→Shared→Prop),Q (.int (g i j) s.toks) { s with toks:=s.toks+1 }→wpAny (model X.prog X.w) X.A (f (.int i t) (.int j u)) Q E s) :
    OpR X f (rI0 fun i j=>.int (g i j)):=by
  intro pins s σ H x y v u Q I rx ry h
  obtain ⟨i,j,rfl,rfl,q⟩:=h
  obtain ⟨t,rfl⟩:=rx
  obtain ⟨t',rfl⟩:=ry
  exact rule i j t t' s _ _ ⟨.int (g i j),H,I.tok _,⟨_,rfl⟩,q⟩
theorem opB0 {f:Value→Value→Sem Value} {g:Int→Int→Bool}
    (rule:∀ (i j:Int) (t u:Tok) (s:Shared) (Q:Value→Shared→Prop) (E:Value→Shared→Prop),Q (.bool (g i j)) s→wpAny (model X.prog X.w) X.A (f (.int i t) (.int j u)) Q E s) :
    OpR X f (rI0 fun i j=>.bl (g i j)):=by
  intro pins s σ H x y v u Q I rx ry h
  obtain ⟨i,j,rfl,rfl,q⟩:=h
  obtain ⟨t,rfl⟩:=rx
  obtain ⟨t',rfl⟩:=ry
  exact rule i j t t' s _ _ ⟨.bl (g i j),H,I,rfl,q⟩
def CPow (i j:Int):Prop:=0≤j∧j≤1000000∧i.natAbs<2 ^ 64
def CMul (i j:Int):Prop:=(-(2 ^ 64)<i∧i<2 ^ 64)∨(-(2 ^ 64)<j∧j<2 ^ 64)
theorem CMul.ok {i j:Int} (h:CMul i j):IntMulOk i j:=by
  rcases h with ⟨h1,h2⟩ | ⟨h1,h2⟩
  · exact .of_left (intBits_le_64 h1 h2)
  · exact .of_right (intBits_le_64 h1 h2)
theorem zcr:OpR X (binaryOp .Add) (rI0 fun i j=>.int (i+j)):=opI0 fun _ _ _ _ _ _ _ q=>add_int q
theorem zhn:OpR X (binaryOp .Sub) (rI0 fun i j=>.int (i-j)):=opI0 fun _ _ _ _ _ _ _ q=>sub_int q
theorem zc4:OpR X (binaryOp .Mod) (rI (fun _ j=>0<j) fun i j=>.int (i % j)):=opI fun i j _ _ _ _ _ hc q=>by
  have h1:(0:Int)<j:=hc
  exact mod_int' (by omega) (by rw [Int.fmod_eq_emod_of_nonneg i (by omega)]; exact q)
theorem op_pow:OpR X (binaryOp .Pow) (rI CPow fun i j=>.int (i ^ j.toNat)):=opI fun _ _ _ _ _ _ _ hc q=>pow_int_small hc.1 hc.2.1 hc.2.2 q
theorem unI {f:Value→Sem Value} {g:Int→Int}
    (rule:∀ (i:Int) (t:Tok) (s:Shared) (Q:Value→Shared→Prop) (E:Value→Shared→Prop),Q (.int (g i) s.toks) { s with toks:=s.toks+1 }→wpAny (model X.prog X.w) X.A (f (.int i t)) Q E s) :
    UnR X f (rU fun i=>.int (g i)):=by
  intro pins s σ H x v Q I rx h
  obtain ⟨i,rfl,q⟩:=h
  obtain ⟨t,rfl⟩:=rx
  exact rule i t s _ _ ⟨.int (g i),H,I.tok _,⟨_,rfl⟩,q⟩
theorem zf1:UnR X (unaryOp .USub) (rU fun i=>.int (-i)):=unI fun _ _ _ _ _ q=>neg_int q
end
def scal:V→V→Bool
  | .non,.non=>true | .non,.int _=>true | .int _,.non=>true | .non,.bl _=>true | .bl _,.non=>true | .non,.str _=>true | .str _,.non=>true
  | .int _,.int _=>true | .bl _,.bl _=>true | .str _,.str _=>true | .byt _,.byt _=>true
  | .int _,.str _=>true | .str _,.int _=>true | .bl _,.str _=>true | .str _,.bl _=>true
  | _,_=>false
def rEq:R2:=fun x y H Q=>scal x y=true∧Q (.bl (decide (x=y))) H
def rNe:R2:=fun x y H Q=>scal x y=true∧Q (.bl (!decide (x=y))) H
theorem zji {i j:Int}:decide (V.int i=V.int j)=(i==j):=by
  rw [Bool.eq_iff_iff]
  simp
theorem zlz {i j:Bool}:decide (V.bl i=V.bl j)=(i==j):=by
  rw [Bool.eq_iff_iff]
  simp
theorem zkf {i j:Str}:decide (V.str i=V.str j)=(i==j):=by
  rw [Bool.eq_iff_iff]
  simp
theorem dec_byt {i j:Array UInt8}:decide (V.byt i=V.byt j)=(i.toList==j.toList):=by
  rw [Bool.eq_iff_iff]
  cases i
  cases j
  simp
section
variable {X:Cx} {a b c:Expr} {ta tb tc:TE} {pos:Pos}
theorem zcf {pins:List (Addr×Obj)} {σ:St} {H:Hp} {s:Shared} {Q:VK} {k k':Bool} (I:Inv X pins σ H s) (q:Q (.bl k) H) (e:k=k'):EP X pins σ Q (.bool k') s:=by
  subst e
  exact ⟨.bl k,H,I,rfl,q⟩
theorem zmz:OpR X (compareOp .Eq) rEq:=by
  intro pins s σ H x y v u Q I rx ry h
  obtain ⟨hs,q⟩:=h
  cases x with
  | non =>
    cases rx
    cases y with
    | non=>cases ry; exact PySem.EqNone.eq_none_none (zcf I q (by simp))
    | bl j=>cases ry; exact PySem.EqNone.eq_none_bool (zcf I q (by simp))
    | int j=>obtain ⟨t',rfl⟩:=ry; exact PySem.EqNone.eq_none_int (zcf I q (by simp))
    | str j=>obtain ⟨t',rfl⟩:=ry; exact PySem.EqNone.eq_none_str (zcf I q (by simp))
    | _=>exact absurd (show false=true from hs) Bool.false_ne_true
  | bl i =>
    cases rx
    cases y with
    | non=>cases ry; exact PySem.EqNone.eq_bool_none (zcf I q (by simp))
    | bl j=>cases ry; exact eq_bool (zcf I q zlz)
    | str j=>obtain ⟨t',rfl⟩:=ry; exact PySem.EqMixed.eq_bool_str (zcf I q (by simp))
    | _=>exact absurd (show false=true from hs) Bool.false_ne_true
  | int i =>
    obtain ⟨t,rfl⟩:=rx
    cases y with
    | non=>cases ry; exact PySem.EqNone.eq_int_none (zcf I q (by simp))
    | int j=>obtain ⟨t',rfl⟩:=ry; exact eq_int (zcf I q zji)
    | str j=>obtain ⟨t',rfl⟩:=ry; exact PySem.EqMixed.eq_int_str (zcf I q (by simp))
    | _=>exact absurd (show false=true from hs) Bool.false_ne_true
  | str i =>
    obtain ⟨t,rfl⟩:=rx
    cases y with
    | non=>cases ry; exact PySem.EqNone.eq_str_none (zcf I q (by simp))
    | bl j=>cases ry; exact PySem.EqMixed.eq_str_bool (zcf I q (by simp))
    | int j=>obtain ⟨t',rfl⟩:=ry; exact PySem.EqMixed.eq_str_int (zcf I q (by simp))
    | str j=>obtain ⟨t',rfl⟩:=ry; exact eq_str (zcf I q zkf)
    | _=>exact absurd (show false=true from hs) Bool.false_ne_true
  | byt i =>
    obtain ⟨t,rfl⟩:=rx
    cases y with
    | byt j=>obtain ⟨t',rfl⟩:=ry; exact PySem.W.eq_bytes (zcf I q dec_byt)
    | _=>exact absurd (show false=true from hs) Bool.false_ne_true
  | _=>cases y <;> exact absurd (show false=true from hs) Bool.false_ne_true
theorem zmy:OpR X (compareOp .NotEq) rNe:=by
  intro pins s σ H x y v u Q I rx ry h
  obtain ⟨hs,q⟩:=h
  cases x with
  | non =>
    cases rx
    cases y with
    | non=>cases ry; exact PySem.EqNone.ne_none_none (zcf I q (by simp))
    | bl j=>cases ry; exact PySem.EqNone.ne_none_bool (zcf I q (by simp))
    | int j=>obtain ⟨t',rfl⟩:=ry; exact PySem.EqNone.ne_none_int (zcf I q (by simp))
    | str j=>obtain ⟨t',rfl⟩:=ry; exact PySem.EqNone.ne_none_str (zcf I q (by simp))
    | _=>exact absurd (show false=true from hs) Bool.false_ne_true
  | bl i =>
    cases rx
    cases y with
    | non=>cases ry; exact PySem.EqNone.ne_bool_none (zcf I q (by simp))
    | bl j=>cases ry; exact ne_bool (zcf I q (congrArg not zlz))
    | str j=>obtain ⟨t',rfl⟩:=ry; exact PySem.EqMixed.ne_bool_str (zcf I q (by simp))
    | _=>exact absurd (show false=true from hs) Bool.false_ne_true
  | int i =>
    obtain ⟨t,rfl⟩:=rx
    cases y with
    | non=>cases ry; exact PySem.EqNone.ne_int_none (zcf I q (by simp))
    | int j=>obtain ⟨t',rfl⟩:=ry; exact ne_int (zcf I q (congrArg not zji))
    | str j=>obtain ⟨t',rfl⟩:=ry; exact PySem.EqMixed.ne_int_str (zcf I q (by simp))
    | _=>exact absurd (show false=true from hs) Bool.false_ne_true
  | str i =>
    obtain ⟨t,rfl⟩:=rx
    cases y with
    | non=>cases ry; exact PySem.EqNone.ne_str_none (zcf I q (by simp))
    | bl j=>cases ry; exact PySem.EqMixed.ne_str_bool (zcf I q (by simp))
    | int j=>obtain ⟨t',rfl⟩:=ry; exact PySem.EqMixed.ne_str_int (zcf I q (by simp))
    | str j=>obtain ⟨t',rfl⟩:=ry; exact ne_str (zcf I q (congrArg not zkf))
    | _=>exact absurd (show false=true from hs) Bool.false_ne_true
  | byt i =>
    obtain ⟨t,rfl⟩:=rx
    cases y with
    | byt j=>obtain ⟨t',rfl⟩:=ry; exact PySem.W.ne_bytes (zcf I q (congrArg not dec_byt))
    | _=>exact absurd (show false=true from hs) Bool.false_ne_true
  | _=>cases y <;> exact absurd (show false=true from hs) Bool.false_ne_true
theorem zil:OpR X (compareOp .Lt) (rI0 fun i j=>.bl (decide (i<j))):=opB0 fun _ _ _ _ _ _ _ q=>lt_int q
theorem zg4:OpR X (compareOp .LtE) (rI0 fun i j=>.bl (decide (i≤j))):=opB0 fun _ _ _ _ _ _ _ q=>le_int q
theorem zg5:OpR X (compareOp .Gt) (rI0 fun i j=>.bl (decide (j<i))):=opB0 fun _ _ _ _ _ _ _ q=>gt_int q
theorem zkq:OpR X (compareOp .GtE) (rI0 fun i j=>.bl (decide (j≤i))):=opB0 fun _ _ _ _ _ _ _ q=>ge_int q
theorem za3 (b:Expr) {op:CmpOp} (h:op≠.In:=by decide) (h2:op≠.NotIn:=by decide):behindInMarks op b=false:=by
  have e1:(op==CmpOp.In)=false:=by cases op <;> first | rfl | exact absurd rfl h
  have e2:(op==CmpOp.NotIn)=false:=by cases op <;> first | rfl | exact absurd rfl h2
  cases b <;> simp [behindInMarks,e1,e2]
theorem zb6 {op:CmpOp} {r:R2} (ho:OpR X (compareOp op) r) (ha:PE X a ta) (hb:PE X b tb) (hm:behindInMarks op b=false):PE X (.Compare a [op] [b] pos) (tOp r ta tb):=by
  intro pins s σ H Q I h
  exact wpAny_Compare1 (binT ha hb I h fun v u s2 x y H2 I2 rx ry q=>ho pins s2 σ H2 x y v u Q I2 rx ry q) hm
def zm5 (t:TE):TT:=fun σ H Q=>t σ H fun x H'=>∃ k,x=.bl k∧Q k H'
theorem za4 {op:CmpOp} {r:R2} (ho:OpR X (compareOp op) r) (ha:PE X a ta) (hb:PE X b tb) (hm:behindInMarks op b=false):PT X (.Compare a [op] [b] pos) (zm5 (tOp r ta tb)):=by
  intro pins s σ H Q I h
  refine wpAny_isTrue_Compare1 (thn (ha pins s σ H _ I h) fun v s1 ⟨x,H1,I1,r1,q1⟩=>thn (hb pins s1 σ H1 _ I1 q1) fun u s2 ⟨y,H2,I2,r2,q2⟩ =>
    thn (ho pins s2 σ H2 x y v u _ I2 r1 r2 q2) fun c s3 ⟨z,H3,I3,r3,k,e,q3⟩=>?_) hm
  subst e
  cases r3
  exact wpAny_truthy_bool ⟨H3,I3,q3⟩
def zmi (r r':R2) (ta tb tc:TE):TE:=fun σ H Q=>ta σ H fun x H1=>tb σ H1 fun y H2=>r x y H2 fun z H3=>∃ k,z=.bl k ∧
  (if k=true then tc σ H3 fun w' H4=>r' y w' H4 Q else Q (.bl false) H3)
theorem pe_chain {op op':CmpOp} {r r':R2} (ho:OpR X (compareOp op) r) (ho':OpR X (compareOp op') r') (ha:PE X a ta) (hb:PE X b tb) (hc:PE X c tc)
    (hm:lastMarks [op,op'] [b,c]=false:=by with_unfolding_all rfl):PE X (.Compare a [op,op'] [b,c] pos) (zmi r r' ta tb tc):=by
  intro pins s σ H Q I h
  refine Compare_chain (thn (ha pins s σ H _ I h) fun v s1 ⟨x,H1,I1,r1,q1⟩=>chain_link (thn (hb pins s1 σ H1 _ I1 q1) fun u s2 ⟨y,H2,I2,r2,q2⟩ =>
    thn (ho pins s2 σ H2 x y v u _ I2 r1 r2 q2) fun d s3 ⟨z,H3,I3,r3,k,e,q3⟩=>?_)) hm
  subst e
  cases r3
  refine wpAny_truthy_bool ?_
  cases k with
  | false=>exact ite_ff ⟨.bl false,H3,I3,rfl,q3⟩
  | true=>exact ite_tt (chain_last (thn (hc pins s3 σ H3 _ I3 q3) fun w' s4 ⟨z',H4,I4,r4,q4⟩=>ho' pins s4 σ H4 y z' u w' Q I4 r2 r4 q4))
theorem zfn {op op':CmpOp} {r r':R2} (ho:OpR X (compareOp op) r) (ho':OpR X (compareOp op') r') (ha:PE X a ta) (hb:PE X b tb) (hc:PE X c tc)
    (hm:lastMarks [op,op'] [b,c]=false:=by with_unfolding_all rfl):PT X (.Compare a [op,op'] [b,c] pos) (zm5 (zmi r r' ta tb tc)):=by
  intro pins s σ H Q I h
  refine isTrue_chain (thn (ha pins s σ H _ I h) fun v s1 ⟨x,H1,I1,r1,q1⟩=>test_link (thn (hb pins s1 σ H1 _ I1 q1) fun u s2 ⟨y,H2,I2,r2,q2⟩ =>
    thn (ho pins s2 σ H2 x y v u _ I2 r1 r2 q2) fun d s3 ⟨z,H3,I3,r3,k,e,q3⟩=>?_)) hm
  subst e
  cases r3
  refine wpAny_truthy_bool ?_
  cases k with
  | false =>
    obtain ⟨k',e',q'⟩:=q3
    cases e'
    exact ite_ff ⟨H3,I3,q'⟩
  | true =>
    refine ite_tt (test_last (thn (hc pins s3 σ H3 _ I3 q3) fun w' s4 ⟨z',H4,I4,r4,q4⟩=>thn (ho' pins s4 σ H4 y z' u w' _ I4 r2 r4 q4) fun d' s5 ⟨z2,H5,I5,r5,k2,e2,q5⟩=>?_))
    subst e2
    cases r5
    exact wpAny_truthy_bool ⟨H5,I5,q5⟩
def TruV (K:PySem.W.Frag) (x:V) (H:Hp) (k:Bool):Prop :=
  match x with
  | .non=>k=false
  | .bl b=>k=b
  | .int i=>k=(i != 0)
  | .str y=>y.length≤sizeLine∧k=((y.length:Int) != 0)
  | .byt y=>y.size≤sizeLine∧k=((y.size:Int) != 0)
  | .ref p=>(∃ xs,SqL K H p xs∧k=!xs.isEmpty)∨(∃ xs,SqT K H p xs∧k=!xs.isEmpty)∨∃ kvs,H p=some (.dK kvs)∧k=!kvs.isEmpty
  | _=>False
theorem isEmpty_kv {κ:Type} {kvs:List (κ×V)} {vs:List (κ×Value)} (r:KV kvs vs):(!vs.isEmpty)=!kvs.isEmpty:=by
  cases r <;> rfl
theorem isEmpty_of {xs:List V} {its:List Value} (r:Vals xs its):(!its.toArray.isEmpty)=!xs.isEmpty:=by
  cases r <;> simp
theorem zjc:(sizeLine:Nat)<2 ^ 63:=by rw [sizeLine_eq]; decide
theorem tru_ok:TruR X (fun x H Q=>∃ k,TruV X.K x H k∧Q k H):=by
  intro pins s σ H x v Q I rx h
  obtain ⟨k,e,q⟩:=h
  have hl:=zjc
  have hs:sizeLine=16777216:=sizeLine_eq
  cases x with
  | non =>
    cases rx
    have e':k=false:=e
    subst e'
    exact truthy_none ⟨H,I,q⟩
  | bl b =>
    cases rx
    have e':k=b:=e
    subst e'
    exact wpAny_truthy_bool ⟨H,I,q⟩
  | int i =>
    obtain ⟨t,rfl⟩:=rx
    have e':k=(i != 0):=e
    subst e'
    exact PySem.P.truthy_int ⟨H,I,q⟩
  | str y =>
    obtain ⟨t,rfl⟩:=rx
    obtain ⟨hy,e'⟩:y.length≤sizeLine∧k=((y.length:Int) != 0):=e
    subst e'
    exact PySem.P.truthy_str (by omega) ⟨H,I.tok _,q⟩
  | byt y =>
    obtain ⟨t,rfl⟩:=rx
    obtain ⟨hy,e'⟩:y.size≤sizeLine∧k=((y.size:Int) != 0):=e
    subst e'
    exact PySem.W.truthy_bytes (by omega) ⟨H,I.tok _,q⟩
  | ref p =>
    cases rx
    have e':(∃ xs,SqL X.K H p xs∧k=!xs.isEmpty)∨(∃ xs,SqT X.K H p xs∧k=!xs.isEmpty)∨∃ kvs,H p=some (.dK kvs)∧k=!kvs.isEmpty:=e
    rcases e' with ⟨xs,hx,e'⟩ | ⟨xs,hx,e'⟩ | ⟨kvs,hx,e'⟩
    · subst e'
      obtain ⟨its,r,pl,hz⟩:=I.list hx
      have hlen:=r.length
      exact wpAny_truthy_list pl.isList (by simp only [List.size_toArray]; omega) ⟨H,I.tok _,by rw [isEmpty_of r]; exact q⟩
    · subst e'
      obtain ⟨its,r,pl,hz⟩:=I.tuple hx
      have hlen:=r.length
      exact truthy_tuple pl (by simp only [List.size_toArray]; omega) ⟨H,I.tok _,by rw [isEmpty_of r]; exact q⟩
    · subst e'
      obtain ⟨hz,hS,vs,r,m⟩:kvs.length≤sizeLine∧(p==sysModules)=false∧∃ vs,KV kvs vs∧s.heap.DictOf (zle X.prog X.w) p vs:=I.hok p _ hx
      have hlen:kvs.length=vs.length:=Paired.length r
      exact wpAny_truthy_dict hS m (by omega) ⟨H,I.tok _,by rw [isEmpty_kv r]; exact q⟩
  | _=>exact (show False from e).elim
theorem pt_truth (ha:PE X a ta) (he:∀ whole,isTrue a X.env whole=(do let v ← whole; standAt a.pos; holding [v] (truthy v))) :
    PT X a (fun σ H Q=>ta σ H fun x H'=>∃ k,TruV X.K x H' k∧Q k H'):=by
  intro pins s σ H Q I h
  exact isTrue_plain (thn (ha pins s σ H _ I h) fun v s1 ⟨x,H1,I1,r1,q1⟩=>tru_ok pins s1 σ H1 x v Q I1 r1 q1) (he _)
theorem vals1 {x:V} {us:List Value} (r:Vals [x] us):∃ u,us=[u]∧RelV x u:=by
  cases r with
  | cons r1 r2=>cases r2; exact ⟨_,rfl,r1⟩
theorem zmw {x y:V} {us:List Value} (r:Vals [x,y] us):∃ u w',us=[u,w']∧RelV x u∧RelV y w':=by
  cases r with
  | cons r1 r2 =>
    cases r2 with
    | cons r3 r4=>cases r4; exact ⟨_,_,rfl,r1,r3⟩
theorem zgh (hc:X.calm=true):zhu X (.builtin "max") (fun xs H Q=>∃ i j,xs=[.int i,.int j]∧Q (.int (if j > i then j else i)) H):=by
  intro pins s σ H xs us Q I r h
  obtain ⟨i,j,rfl,q⟩:=h
  obtain ⟨u,w',rfl,⟨t,rfl⟩,⟨t',rfl⟩⟩:=zmw r
  refine max_two_ints (I.ok.hd hc) fun h' tk k=>⟨_,H,I.kept k,?_,q⟩
  by_cases hj:j > i
  · rw [if_pos hj,if_pos hj]; exact ⟨_,rfl⟩
  · rw [if_neg hj,if_neg hj]; exact ⟨_,rfl⟩
theorem call_min2 (hc:X.calm=true):zhu X (.builtin "min") (fun xs H Q=>∃ i j,xs=[.int i,.int j]∧Q (.int (if j<i then j else i)) H):=by
  intro pins s σ H xs us Q I r h
  obtain ⟨i,j,rfl,q⟩:=h
  obtain ⟨u,w',rfl,⟨t,rfl⟩,⟨t',rfl⟩⟩:=zmw r
  refine min_two_ints (I.ok.hd hc) fun h' tk k=>⟨_,H,I.kept k,?_,q⟩
  by_cases hj:j<i
  · rw [if_pos hj,if_pos hj]; exact ⟨_,rfl⟩
  · rw [if_neg hj,if_neg hj]; exact ⟨_,rfl⟩
theorem zhs:zhu X (.type "int") (fun xs H Q=>(∃ i,xs=[.int i]∧Q (.int i) H)∨∃ k,xs=[.bl k]∧Q (.int (if k then 1 else 0)) H):=by
  intro pins s σ H xs us Q I r h
  rcases h with ⟨i,rfl,q⟩ | ⟨k,rfl,q⟩
  · obtain ⟨u,rfl,t,rfl⟩:=vals1 r
    exact call_int_int ⟨.int i,H,I,⟨_,rfl⟩,q⟩
  · obtain ⟨u,rfl,r1⟩:=vals1 r
    cases r1
    exact call_int_bool ⟨.int (if k then 1 else 0),H,I.tok _,⟨_,rfl⟩,q⟩
def LenV (K:PySem.W.Frag) (x:V) (H:Hp) (n:Nat):Prop :=
  match x with
  | .str y=>y.length≤sizeLine∧n=y.length
  | .byt y=>y.size≤sizeLine∧n=y.size
  | .ref p=>(∃ xs,SqL K H p xs∧n=xs.length)∨∃ xs,SqT K H p xs∧n=xs.length
  | _=>False
theorem call_len:zhu X (.builtin "len") (fun xs H Q=>∃ x n,xs=[x]∧LenV X.K x H n∧Q (.int n) H):=by
  intro pins s σ H xs us Q I r h
  obtain ⟨x,n,rfl,e,q⟩:=h
  obtain ⟨u,rfl,rx⟩:=vals1 r
  have hl:=zjc
  have hs:sizeLine=16777216:=sizeLine_eq
  cases x with
  | str y =>
    obtain ⟨t,rfl⟩:=rx
    obtain ⟨hy,e'⟩:y.length≤sizeLine∧n=y.length:=e
    subst e'
    exact len_str (by omega) ⟨.int _,H,I.tok _,⟨_,rfl⟩,q⟩
  | byt y =>
    obtain ⟨t,rfl⟩:=rx
    obtain ⟨hy,e'⟩:y.size≤sizeLine∧n=y.size:=e
    subst e'
    exact PySem.W.len_bytes (by omega) ⟨.int _,H,I.tok _,⟨_,rfl⟩,q⟩
  | ref p =>
    cases rx
    have e':(∃ xs,SqL X.K H p xs∧n=xs.length)∨∃ xs,SqT X.K H p xs∧n=xs.length:=e
    rcases e' with ⟨xs,hx,e'⟩ | ⟨xs,hx,e'⟩
    · subst e'
      obtain ⟨its,r',pl,hz⟩:=I.list hx
      have hlen:=r'.length
      exact Calls.call_len_list pl.isList (by simp only [List.size_toArray]; omega) ⟨.int xs.length,H,I.tok _,⟨_,by simp only [List.size_toArray]; rw [hlen]⟩,q⟩
    · subst e'
      obtain ⟨its,r',pl,hz⟩:=I.tuple hx
      have hlen:=r'.length
      exact len_tuple pl (by simp only [List.size_toArray]; omega) ⟨.int xs.length,H,I.tok _,⟨_,by simp only [List.size_toArray]; rw [hlen]⟩,q⟩
  | _=>exact (show False from e).elim
end
end L2
namespace L2
open PySem PySem.Spec PyProof.Rows
structure ObjM (h:Heap) (x dx C:Addr) (mA:Str→Option Value):Prop where
  obj:h.get? x=some (PySem.W.instObj C dx)
  ns:h.Ns1 dx mA
  ne:dx≠x
theorem lookIn_ns {h:Heap} {dx:Addr} {mA:Str→Option Value} (n:h.Ns1 dx mA):∃ od,h.get? dx=some od∧∀ name,PySem.W.lookIn name od=some (mA name):=by
  obtain ⟨o,es,ep,ho,hd,hk,_,hm⟩:=n
  refine ⟨o,ho,fun name=>?_⟩
  have e:=hm name
  unfold nsFind findBy at e
  rw [← Array.find?_toList] at e
  unfold PySem.W.lookIn
  rw [hd]
  dsimp only
  split
  · rename_i y q
    rw [q] at e
    exact congrArg some e
  · rename_i q
    rw [q] at e
    have a:es.toList.any (·.refKey)=false:=by
      rw [List.any_eq_false]
      intro y hy
      obtain ⟨z,t,hkey⟩:=hk y (Array.mem_toList_iff.mp hy)
      simp [DictEntry.refKey,hkey]
    have a':¬ es.toList.any (·.refKey)=true:=by rw [a]; exact Bool.false_ne_true
    rw [if_neg a']
    exact congrArg some e
theorem ObjM.look {h:Heap} {x dx C:Addr} {mA:Str→Option Value} (I:ObjM h x dx C mA):∃ od,PySem.W.InstAt h x (PySem.W.instObj C dx) C (some od)∧∀ name,PySem.W.lookIn name od=some (mA name) :=
  let ⟨od,ho,hl⟩:=lookIn_ns I.ns
  ⟨od,⟨I.obj,rfl,rfl,ho⟩,hl⟩
section
variable {prog:Program} {w:World} {A:Around} {E:Value→Shared→Prop} {s:Shared} {K:PySem.W.Frag} {x dx C f:Addr} {mA:Str→Option Value} {name:Str} {v:Value}
theorem get_meth {pl:Sem Bool} {Q:Value×List Value→Shared→Prop} (X:K.In s.heap) (I:ObjM s.heap x dx C mA) (hg:PySem.W.plainGet K C name=true)
    (hf:PySem.W.findIn K (.ref C) name=some (some (.ref f))) (ht:PySem.W.isFn K (.ref f)=true) (hv:mA name=none) (h:Q (.ref f,[.ref x]) s) :
    wpAny (model prog w) A (getMethod (.ref x) name pl) Q E s:=by
  obtain ⟨od,J,hl⟩:=I.look
  exact PySem.W.method_fn X J (PySem.W.plainGet_of hg).1 (PySem.W.plainGet_of hg).2 hf (beq_iff_eq.mp ht) (by show (PySem.W.lookIn name od).map (·.isSome)=some false; rw [hl,hv]; rfl) h
theorem make_map0 {R:Result→Shared→Prop} (X:K.In s.heap) (hm:PySem.W.makesIn K C=true)
    (hi:PySem.W.findIn K (.ref C) "__init__" = some (some (.builtin "object.__init__")))
    (hb:∀ self,PySem.W.Looks (model prog w) s.heap (bindSpecial (.builtin "object.__init__") self) (.builtin "object.__init__", [self]))
    (h:codeAny (model prog w) (A.under (.builtin "type.__call__" ⟨[.ref C],[]⟩)) (.call (.builtin "object.__init__") ⟨[.ref (s.heap.objs.size+1)],[]⟩) (PySem.W.InitBack (s.heap.objs.size+1) R)
      { s with heap:=(s.heap.push PySem.W.emptyDict).push (PySem.W.instObj C s.heap.objs.size) }) :
    codeAny (model prog w) A (.call (.ref C) ⟨[],[]⟩) R s:=by
  obtain ⟨hh,g,d,t,os⟩:=s
  exact PySem.W.make_core (PySem.W.makes_of X hm) (PySem.W.looks_findIn X hi) hb (.inr ⟨rfl,rfl⟩) h
end
theorem RelO.none_of {o:Option Value} (r:RelO none o):o=none:=by
  cases o with
  | none=>rfl
  | some u=>exact (show False from r).elim
section
variable {P:Program} {w:World} {H H':Hp} {h h':Heap} {a C dx:Addr} {fs fs':List (Str×V)}
theorem ins_get (hok:HOk P w H h) (e:H a=some (.ins C dx fs)):∃ mA,ObjM h a dx C mA∧(∀ f,RelO (fs.lookup f) (mA f))∧PySem.Within mA (fs.map (·.1))∧fs.length≤1000∧H dx=some (.own a):=by
  obtain ⟨d,z,ne,ob,mA,n,r,q⟩:=(show ObjOk P w H h a (.ins C dx fs) from hok a _ e)
  exact ⟨mA,⟨ob,n,ne⟩,r,q,z,d⟩
end
structure Cls (K:PySem.W.Frag) (C:Addr):Prop where
  pg:PySem.W.plainGet K C Str.empty=true
  hd:PySem.W.hasDictIn K C=true
  po:PySem.W.plainOver K C=true
  sa:PySem.W.findIn K (.ref C) "__setattr__" = some (some (.builtin "object.__setattr__"))
theorem Cls.get {K:PySem.W.Frag} {C:Addr} (c:Cls K C) (f:Str):PySem.W.plainGet K C f=true:=c.pg
structure Con (K:PySem.W.Frag) (C:Addr) (f:Str) (v:V) (u:Value):Prop where
  at_:PySem.W.findIn K (.ref C) f=some (some u)
  rel:RelV v u
  get:PySem.W.specialIn K u "__get__" = some none
  cp:PySem.W.copiedNames.contains f=false
structure Meth (K:PySem.W.Frag) (C:Addr) (m:Str) (f:Addr):Prop where
  at_:PySem.W.findIn K (.ref C) m=some (some (.ref f))
  fn:PySem.W.isFn K (.ref f)=true
  kp:PySem.W.keepIn K (.ref f)=true
section
variable {X:Cx} {pins:List (Addr×Obj)} {σ:St} {H:Hp} {s:Shared} {a C dx:Addr} {fs:List (Str×V)} {f:Str} {v:V} {A:Around} {E:Value→Shared→Prop}
theorem getmeth_ok {m:Str} {g:Addr} {pl:Sem Bool} {Q:Value×List Value→Shared→Prop} (I:Inv X pins σ H s) (e:H a=some (.ins C dx fs)) (c:Cls X.K C) (k:Meth X.K C m g) (l:fs.lookup m=none)
    (h:Q (.ref g,[.ref a]) s):wpAny (model X.prog X.w) A (getMethod (.ref a) m pl) Q E s:=by
  obtain ⟨mA,O,r,_,_,_⟩:=ins_get I.hok e
  have hn:mA m=none:=RelO.none_of (by rw [← l]; exact r m)
  exact get_meth I.kIn O (c.get m) k.at_ k.fn hn h
theorem Inv.made (I:Inv X pins σ H s):Inv X pins σ (upd (upd H s.heap.objs.size (.own (s.heap.objs.size+1))) (s.heap.objs.size+1) (.ins C s.heap.objs.size []))
    { s with heap:=(s.heap.push PySem.W.emptyDict).push (PySem.W.instObj C s.heap.objs.size) }:=by
  have e1:(s.heap.push PySem.W.emptyDict).get? s.heap.objs.size=some PySem.W.emptyDict:=Heap.get?_push_size s.heap rfl
  have e2:((s.heap.push PySem.W.emptyDict).push (PySem.W.instObj C s.heap.objs.size)).get? (s.heap.objs.size+1)=some (PySem.W.instObj C s.heap.objs.size):=by
    have:=Heap.get?_push_size (s.heap.push PySem.W.emptyDict) (o:=PySem.W.instObj C s.heap.objs.size) rfl
    rwa [Heap.size_push] at this
  have e3:(s.heap.push PySem.W.emptyDict).Ns s.heap.objs.size (fun _=>none):=⟨PySem.W.emptyDict,#[],_,e1,rfl,(fun e he=>absurd he (by simp)),fun _=>rfl⟩
  have I1:=I.laid (a:=s.heap.objs.size) (o:=.own (s.heap.objs.size+1)) (h':=s.heap.push PySem.W.emptyDict) (t':=s.toks) (fun b u q=>Heap.get?_push_of_some _ q) (Nat.le_refl _) ⟨_,e1⟩
  refine I1.laid (a:=s.heap.objs.size+1) (o:=.ins C s.heap.objs.size []) (t':=s.toks) (fun b u q=>Heap.get?_push_of_some _ q) (Nat.le_of_eq (Heap.size_push _ _)) ?_
  have ne:s.heap.objs.size≠s.heap.objs.size+1:=Nat.ne_of_lt (Nat.lt_succ_self _)
  refine ⟨by rw [upd_ne ne,zbt],Nat.zero_le _,ne,e2,fun _=>none,(Heap.Ns1.of_empty e3).at fun o q=>Heap.get?_push_of_some _ q,fun _=>True.intro,fun y hy=>absurd rfl hy⟩
end
section
variable {X:Cx} {o e value:Expr} {f:Str} {pos pos' tpos:Pos} {ta tv:TE}
end
section
variable {X:Cx} {pins:List (Addr×Obj)} {σ:St} {H:Hp} {s:Shared} {A:Around} {E:Value→Shared→Prop} {Q:Value→Shared→Prop} {c:Value} {b:Bool}
inductive TyOf (K:PySem.W.Frag) (H:Hp):V→Value→Prop where
  | non:TyOf K H .non (.type "NoneType")
  | bl (x:Bool):TyOf K H (.bl x) (.type "bool")
  | int (i:Int):TyOf K H (.int i) (.type "int")
  | str (x:Str):TyOf K H (.str x) (.type "str")
  | flt (x:UInt64):TyOf K H (.flt x) (.type "float")
  | lst {a:Addr} {xs:List V} (e:H a=some (.lst xs)):TyOf K H (.ref a) (.type "list")
  | frz {a:Addr} {o:Obj} {xs:List V} (e:H a=some (.frz o (.lst xs))):TyOf K H (.ref a) (.type "list")
  | tup {a:Addr} {xs:List V} (e:H a=some (.tup xs)):TyOf K H (.ref a) (.type "tuple")
  | dK {a:Addr} {kvs:List (Key×V)} (e:H a=some (.dK kvs)):TyOf K H (.ref a) (.type "dict")
  | dT {a:Addr} {kvs:List (List Key×V)} (e:H a=some (.dT kvs)):TyOf K H (.ref a) (.type "dict")
  | ins {a C dx:Addr} {fs:List (Str×V)} (e:H a=some (.ins C dx fs)) (cl:Cls K C) (ha:PySem.W.findIn K (.ref C) "__class__" = some (some (.builtin "object.__class__")))
      (hn:PySem.W.specialIn K (.builtin "object.__class__") "__get__" = some (some (.builtin "getset_descriptor.__get__"))) (htk:PySem.W.takesIn K (.builtin "object.__class__")=some true)
      (hm:PySem.W.mroIn K C (.type "object")=some true):TyOf K H (.ref a) (.ref C)
theorem isinst_ok {x:V} {u t:Value} (I:Inv X pins σ H s) (rx:RelV x u) (ty:TyOf X.K H x t) (e:PySem.W.kitOne X.K t c=some b) (h:∀ tk,Q (.bool b) { s with toks:=tk }) :
    wpAny (model X.prog X.w) A (call (.builtin "isinstance") [u,c]) Q E s:=by
  cases ty with
  | non=>cases (show u=Value.none from rx); exact PySem.W.kia_one PySem.W.kitx_none I.kIn True.intro e (fun z=>nomatch z) h
  | bl y=>cases (show u=Value.bool y from rx); exact PySem.W.kia_one PySem.W.kitx_bool I.kIn True.intro e (fun z=>nomatch z) h
  | int i=>obtain ⟨t,q⟩:=(show ∃ t,u=Value.int i t from rx); cases q; exact PySem.W.kia_one PySem.W.kitx_int I.kIn True.intro e (fun z=>nomatch z) h
  | str y=>obtain ⟨t,q⟩:=(show ∃ t,u=Value.str y t from rx); cases q; exact PySem.W.kia_one PySem.W.kitx_str I.kIn True.intro e (fun z=>nomatch z) h
  | flt y=>obtain ⟨t,q⟩:=(show ∃ t,u=Value.float y t from rx); cases q; exact PySem.W.kia_one PySem.W.kitx_float I.kIn True.intro e (fun z=>nomatch z) h
  | @lst a xs ea =>
    cases (show u=Value.ref a from rx)
    obtain ⟨_,_,n,_,h1⟩:=(show ObjOk X.prog X.w H s.heap a (.lst xs) from I.hok a _ ea)
    exact PySem.W.kia_one PySem.W.kitx_list I.kIn ⟨_,h1,rfl⟩ e (fun z=>nomatch z) h
  | @frz a ob xs ea =>
    cases (show u=Value.ref a from rx)
    obtain ⟨_,_,_,n,_,h1⟩:=(show ObjOk X.prog X.w H s.heap a (.frz ob (.lst xs)) from I.hok a _ ea)
    exact PySem.W.kia_one PySem.W.kitx_list I.kIn ⟨_,h1,rfl⟩ e (fun z=>nomatch z) h
  | @tup a xs ea =>
    cases (show u=Value.ref a from rx)
    obtain ⟨_,_,_,p⟩:=(show ObjOk X.prog X.w H s.heap a (.tup xs) from I.hok a _ ea)
    obtain ⟨o,h1,h2,_⟩:=p
    exact PySem.W.kia_one PySem.W.kitx_tuple I.kIn ⟨o,h1,h2⟩ e (fun z=>nomatch z) h
  | @dK a kvs ea =>
    cases (show u=Value.ref a from rx)
    obtain ⟨_,_,vs,_,p⟩:=(show ObjOk X.prog X.w H s.heap a (.dK kvs) from I.hok a _ ea)
    obtain ⟨o,es,ep,h1,h2,_⟩:=p
    exact PySem.W.kia_one PySem.W.kitx_dict I.kIn ⟨o,h1,h2.1⟩ e (fun z=>nomatch z) h
  | @dT a kvs ea =>
    cases (show u=Value.ref a from rx)
    obtain ⟨_,_,xs,_,o,es,ep,h1,h2,_⟩:=(show ObjOk X.prog X.w H s.heap a (.dT kvs) from I.hok a _ ea)
    exact PySem.W.kia_one PySem.W.kitx_dict I.kIn ⟨o,h1,h2.1⟩ e (fun z=>nomatch z) h
  | @ins a C dx fs ea cl ha hn htk hm =>
    cases (show u=Value.ref a from rx)
    obtain ⟨mA,O,_⟩:=ins_get I.hok ea
    obtain ⟨od,J,_⟩:=O.look
    exact PySem.W.kia_one (PySem.W.kitx_own (cl.get _) cl.hd ha hn htk hm) I.kIn J e (fun z=>nomatch z) h
end
end L2
namespace L2
open PySem PySem.Spec PyProof.Rows
structure Room (k:Nat) (A:Around):Prop where
  hd:A.handled=none
  dp:A.depth+3*k+5<recursionLimit
  un:A.units+16*k+200<cLine
theorem Room.mono {j k:Nat} {A:Around} (r:Room k A) (h:j≤k):Room j A:=⟨r.hd,by have:=r.dp; omega,by have:=r.un; omega⟩
theorem Room.deeper {k:Nat} {A:Around} (r:Room (k+1) A) (env:Env):Room k (A.deeper env) :=
  ⟨r.hd,by have:=r.dp; show A.depth+1+3*k+5 < _; omega,by have:=r.un; show A.units+3+16*k+200 < _; omega⟩
theorem Room.depth {k:Nat} {A:Around} (r:Room k A):A.depth<recursionLimit:=by have:=r.dp; omega
theorem Room.units {k:Nat} {A:Around} (r:Room k A):A.units+64<cLine:=by have:=r.un; omega
def tNil:TA:=fun _ H Q=>Q [] H
def zdw (ta:TE) (tr:TA):TA:=fun σ H Q=>ta σ H fun x H1=>tr σ H1 fun xs H2=>Q (x::xs) H2
section
variable {X:Cx} {e:Expr} {es:List Expr} {te:TE} {t:TA} {pos:Pos}
theorem zac:PA X [] tNil:=fun _ _ _ _ H Q I h=>Calls.spliced_nil ⟨[],H,I,.nil,h⟩
theorem zaa (ha:PE X e te) (hr:PA X es t) (hs:starEach (e::es) X.env=(false,eval e X.env)::starEach es X.env:=by rfl):PA X (e::es) (zdw te t):=by
  intro pos pins s σ H Q I h
  rw [hs]
  show wpAny _ _ (spliced ((false,eval e X.env)::backTo pos (starEach es X.env))) _ _ s
  refine Calls.spliced_cons (thn (ha pins s σ H _ I h) fun u s1 ⟨x,H1,I1,r1,q1⟩=>?_)
  exact thn (hr pos pins s1 σ H1 _ I1 q1) fun us s2 ⟨xs,H2,I2,r2,q2⟩=>⟨x::xs,H2,I2,.cons r1 r2,q2⟩
def tTup (t:TA):TE:=fun σ H Q=>t σ H fun xs H1=>xs.length≤sizeLine∧∀ p,H1 p=none→Q (.ref p) (upd H1 p (.tup xs))
def tLst (t:TA):TE:=fun σ H Q=>t σ H fun xs H1=>xs.length≤sizeLine∧∀ p,H1 p=none→Q (.ref p) (upd H1 p (.lst xs))
theorem pe_tup {x1} (h:PA X es t):PE X (.Tuple es x1 pos) (tTup t):=by
  intro pins s σ H Q I hq
  refine wpAny_Tuple_spliced (thn (h pos pins s σ H _ I hq) fun us s1 ⟨xs,H1,I1,r,z,q⟩=>⟨by rw [← r.length]; exact z,?_⟩)
  have hf:H1 s1.heap.objs.size=none:=I1.hok.fresh (Nat.le_refl _)
  refine ⟨.ref s1.heap.objs.size,upd H1 s1.heap.objs.size (.tup xs),I1.laid (t':=s1.toks) (fun b u e=>Heap.get?_push_of_some _ e) (Nat.le_refl _) ?_,rfl,q _ hf⟩
  exact ⟨z,us,r,⟨_,Heap.get?_push_size _ rfl,rfl,_,rfl⟩⟩
theorem zaq (h:PA X es t):PE X (.List es pos) (tLst t):=by
  intro pins s σ H Q I hq
  refine wpAny_List_spliced (thn (h pos pins s σ H _ I hq) fun us s1 ⟨xs,H1,I1,r,z,q⟩=>⟨by rw [← r.length]; exact z,?_⟩)
  have hf:H1 s1.heap.objs.size=none:=I1.hok.fresh (Nat.le_refl _)
  refine ⟨.ref s1.heap.objs.size,upd H1 s1.heap.objs.size (.lst xs),I1.laid (t':=s1.toks) (fun b u e=>Heap.get?_push_of_some _ e) (Nat.le_refl _) ?_,rfl,q _ hf⟩
  exact ⟨z,us,0,r,Heap.get?_push_size _ rfl⟩
end
abbrev Sp:=List V→Hp→VK→XK→Prop
abbrev CXT:=List Env→Hp→Shared→XK→Value→Shared→Prop
structure Env0 (P:Program) (w:World) (K:PySem.W.Frag) (mg:Str→Option Value) (base:Heap) (A:Around) (outer:List Env) (s:Shared) (H:Hp):Prop where
  frames:A.frames=some outer
  mod:Mod K mg base
  bs:∀ b o,base.get? b=some o→s.heap.get? b=some o∧H b=none
  bsz:base.objs.size≤s.heap.objs.size
  funs:s.heap.FunFrames base outer
  frf:∀ b∈frs outer,H b=none
  hok:HOk P w H s.heap
  bare:AllBare s.gens
def CE (outer:List Env) (P:Program) (w:World) (H:Hp) (s:Shared) (Q:VK) (u:Value) (s':Shared):Prop :=
  ∃ v H',s'.os=s.os∧AllBare s'.gens∧Un (frs outer) [] H H' s.heap s'.heap∧HOk P w H' s'.heap∧RelV v u∧Q v H'
def CR (CX:CXT) (outer:List Env) (P:Program) (w:World) (H:Hp) (s:Shared) (Q:VK) (E:XK) (r:Result) (s':Shared):Prop :=
  match r with
  | .ok (.ret u)=>CE outer P w H s Q u s'
  | .ok _=>False
  | .error e=>CX outer H s E e s'
structure FnOk (P:Program) (w:World) (K:PySem.W.Frag) (mg:Str→Option Value) (base:Heap) (CX:CXT) (k:Nat) (f:Addr) (fd:FuncData) (ps:List Str) (sp:Sp):Prop where
  len:∀ vs H Q E,sp vs H Q E→vs.length=ps.length
  run:∀ (A:Around) (outer:List Env) (s:Shared) (H:Hp) (args:Args) (us:List Value) (vs:List V) (Q:VK) (E:XK),Room k A→Env0 P w K mg base A outer s H→BindsTo s fd args (ps.zip us)→Vals vs us→sp vs H Q E →
    codeAny (model P w) A (.call (.ref f) args) (CR CX outer P w H s Q E) s
theorem FnOk.imp {P:Program} {w:World} {K:PySem.W.Frag} {mg:Str→Option Value} {base:Heap} {CX:CXT} {k:Nat} {f:Addr} {fd:FuncData} {ps:List Str} {sp sp':Sp} (F:FnOk P w K mg base CX k f fd ps sp)
    (h:∀ vs H Q E,sp' vs H Q E→sp vs H Q E):FnOk P w K mg base CX k f fd ps sp' :=
  ⟨fun vs H Q E q=>F.len vs H Q E (h _ _ _ _ q),fun A outer s H args us vs Q E hr he hb hv hs=>F.run A outer s H args us vs Q E hr he hb hv (h _ _ _ _ hs)⟩
section
variable {X:Cx} {pins:List (Addr×Obj)} {σ:St} {H:Hp} {s s':Shared}
theorem Inv.env0 (I:Inv X pins σ H s):Env0 X.prog X.w X.K X.mg X.base X.A X.stack s H :=
  ⟨I.ok.frames,I.ok.mod,I.bs,Nat.le_trans I.ok.bsz I.sz,I.stack,I.stkFree,I.hok,I.bare⟩
theorem Inv.after {Q:VK} {u:Value} (I:Inv X pins σ H s) (h:CE X.stack X.prog X.w H s Q u s'):EP X pins σ Q u s':=by
  obtain ⟨v,H',os,bare,un,hok,r,q⟩:=h
  obtain ⟨hh,g,d,t,os'⟩:=s'
  obtain rfl:os'=s.os:=os
  exact ⟨v,H',I.call (h':=hh) (g':=g) (d':=d) (t':=t) (ch:=[]) un hok bare (fun b z=>absurd z (by simp)),r,q⟩
end
def zk5 (sp:Sp) (dvs:List V) (E:XK) (t:TA):TE:=fun σ H Q=>t σ H fun vs H1=>sp (vs++dvs) H1 Q E
def Binds (K:PySem.W.Frag) (fd:FuncData) (ps:List Str) (ds:List Value):Prop :=
  ∀ (s:Shared) (us:List Value),K.In s.heap→(us++ds).length=ps.length→BindsTo s fd ⟨us,[]⟩ (ps.zip (us++ds))
theorem Binds.all {K:PySem.W.Frag} {fd:FuncData} {ps:List Str} (h:∀ us:List Value,us.length=ps.length→bindArgs fd ⟨us,[]⟩=pure (ps.zip us)):Binds K fd ps []:=fun s us _ hl=>by
  rw [List.append_nil] at hl ⊢
  exact .of_eq (h us hl)
def zii (CX:CXT) (X:Cx) (E:XK):Prop:=∀ (pins:List (Addr×Obj)) (σ:St) (H:Hp) (s:Shared) (e:Value) (s':Shared),Inv X pins σ H s→CX X.stack H s E e s'→X.xe e s'
section
variable {X:Cx} {CX:CXT} {k:Nat} {f C:Addr} {fd:FuncData} {ps:List Str} {sp:Sp} {dvs:List V} {ds:List Value} {E:XK} {x m:Str} {p pos apos:Pos} {e o:Expr} {es:List Expr} {ta:TE} {t:TA}
theorem zmm {pins:List (Addr×Obj)} {σ:St} {H:Hp} {s:Shared} {Q:VK} {us:List Value} {vs:List V} (F:FnOk X.prog X.w X.K X.mg X.base CX k f fd ps sp) (hr:Room k X.A) (hb:Binds X.K fd ps ds) (hd:Vals dvs ds) (hx:zii CX X E)
    (I:Inv X pins σ H s) (r:Vals vs us) (h:sp (vs++dvs) H Q E):wpAny (model X.prog X.w) X.A (call (.ref f) us) (EP X pins σ Q) X.xe s:=by
  have r2:Vals (vs++dvs) (us++ds):=r.append hd
  have hl:(us++ds).length=ps.length:=by rw [← r2.length]; exact F.len _ _ _ _ h
  refine wpAny_call (codeAny_mono (F.run X.A X.stack s H ⟨us,[]⟩ (us++ds) (vs++dvs) Q E hr I.env0 (hb s us I.kIn hl) r2 h) fun r s' hq=>?_)
  cases r with
  | error e=>exact hx pins σ H s e s' I hq
  | ok fl =>
    cases fl with
    | ret u=>exact I.after hq
    | next=>exact False.elim hq
    | brk=>exact False.elim hq
    | cont=>exact False.elim hq
theorem zaw (F:FnOk X.prog X.w X.K X.mg X.base CX k f fd ps sp) (hr:Room k X.A) (hg:Gl X x) (hm:X.mg x=some (.ref f)) (hk:PySem.W.keepIn X.K (.ref f)=true) (hb:Binds X.K fd ps ds) (hd:Vals dvs ds) (hx:zii CX X E)
    (ha:PA X (e::es) t) (hdb:(x==("__debug__" : Str))=false:=by decide) (he:starEach (e::es) X.env=(false,eval e X.env)::starEach es X.env:=by rfl) (hpl:(backTo pos (starEach es X.env)).any (·.1)=false:=by rfl) :
    PE X (.Call (.Name x p) (e::es) [] pos) (zk5 sp dvs E t):=by
  intro pins s σ H Q I h
  refine wpAny_Call_Name_kw (zh3 I hg hm ?_ hdb)
  refine PySem.W.callWith_K (h₀:=X.base) I.ok.mod.kin hk (thn (ha pos pins s σ H _ I h) fun us s1 ⟨vs,H1,I1,r,q⟩=>⟨I1.kIn,?_⟩) he hpl
  exact zmm F hr hb hd hx I1 r q
theorem pe_call0 (F:FnOk X.prog X.w X.K X.mg X.base CX k f fd ps sp) (hr:Room k X.A) (hg:Gl X x) (hm:X.mg x=some (.ref f)) (hk:PySem.W.keepIn X.K (.ref f)=true) (hb:Binds X.K fd ps ds) (hd:Vals dvs ds) (hx:zii CX X E)
    (hdb:(x==("__debug__" : Str))=false:=by decide):PE X (.Call (.Name x p) [] [] pos) (zk5 sp dvs E tNil):=by
  intro pins s σ H Q I h
  refine wpAny_Call_Name_kw (zh3 I hg hm ?_ hdb)
  exact PySem.W.callWith_K0 I.kIn hk (zmm (us:=[]) F hr hb hd hx I .nil h)
structure Mk (K:PySem.W.Frag) (C f:Addr):Prop where
  makes:PySem.W.makesIn K C=true
  init:PySem.W.findIn K (.ref C) "__init__" = some (some (.ref f))
  fn:PySem.W.isFn K (.ref f)=true
  kp:PySem.W.keepIn K (.ref C)=true
end
section
variable {X:Cx} {CX:CXT} {k:Nat} {f C:Addr} {fd:FuncData} {ps ks:List Str} {sp:Sp} {E:XK} {x m:Str} {p pos apos kpos:Pos} {e o:Expr} {es:List Expr} {kws:List Keyword} {te ta:TE} {t tk:TA} {nm:Option Str}
structure KBinds (K:PySem.W.Frag) (fd:FuncData) (ps ks:List Str) (g:List Value→List Value→List Value) (gV:List V→List V→List V):Prop where
  to:∀ (s:Shared) (us ws:List Value),K.In s.heap→(g us ws).length=ps.length→BindsTo s fd ⟨us,ks.zip ws⟩ (ps.zip (g us ws))
  rel:∀ {vs:List V} {us:List Value} {zs:List V} {ws:List Value},Vals vs us→Vals zs ws→Vals (gV vs zs) (g us ws)
variable {g:List Value→List Value→List Value} {gV:List V→List V→List V}
end
structure FnScope (N P:List Str) (sc:Scope):Prop where
  kind:sc.kind=.function
  co:sc.isCoroutine=false
  gen:sc.isGenerator=false
  nd:N.Nodup
  pre:N.take P.length=P
  par:∀ x∈P,sc.names.lookup x=some .local∨sc.names.lookup x=some .cell
  nofree:∀ y∈sc.names,y.2≠.free
theorem bindL_out {kindOf:Str→Option NameKind} {x:Str}:∀ {binds:List (Str×Value)} {m:Str→Option Value},(∀ v,(x,v)∉binds)→bindL kindOf binds m x=m x
  | [],_,_=>rfl
  | (n,v)::r,m,h=>by
    unfold bindL
    rw [bindL_out fun w hw=>h w (List.mem_cons_of_mem _ hw)]
    split
    · have:x≠n:=by rintro rfl; exact h v List.mem_cons_self
      simp [this]
    · rfl
theorem bindC_out {kindOf:Str→Option NameKind} {x:Str}:∀ {binds:List (Str×Value)} {m:Str→Option Value},(∀ v,(x,v)∉binds)→bindC kindOf binds m x=m x
  | [],_,_=>rfl
  | (n,v)::r,m,h=>by
    unfold bindC
    rw [bindC_out fun w hw=>h w (List.mem_cons_of_mem _ hw)]
    split
    · rfl
    · have:x≠n:=by rintro rfl; exact h v List.mem_cons_self
      simp [this]
theorem bindL_get {kindOf:Str→Option NameKind} {x:Str} {v:Value}:∀ {P:List Str} {vs:List Value} {i:Nat} {m:Str→Option Value},P.Nodup→P[i]?=some x→vs[i]?=some v→kindOf x=some .local →
    bindL kindOf (P.zip vs) m x=some v
  | [],_,_,_,_,h,_,_=>by simp at h
  | _::_,[],_,_,_,_,h,_=>by simp at h
  | p::P,w::vs,0,m,nd,h1,h2,hk=>by
    simp at h1 h2; subst h1; subst h2
    show bindL kindOf ((p,w)::P.zip vs) m p=_
    unfold bindL
    rw [bindL_out fun v hv=>(List.nodup_cons.mp nd).1 (List.of_mem_zip hv).1,if_pos hk]
    simp
  | p::P,w::vs,i+1,m,nd,h1,h2,hk=>by
    show bindL kindOf ((p,w)::P.zip vs) m x=_
    unfold bindL
    exact bindL_get (i:=i) (List.nodup_cons.mp nd).2 (by simpa using h1) (by simpa using h2) hk
theorem bindC_get {kindOf:Str→Option NameKind} {x:Str} {v:Value}:∀ {P:List Str} {vs:List Value} {i:Nat} {m:Str→Option Value},P.Nodup→P[i]?=some x→vs[i]?=some v→kindOf x≠some .local →
    bindC kindOf (P.zip vs) m x=some v
  | [],_,_,_,_,h,_,_=>by simp at h
  | _::_,[],_,_,_,_,h,_=>by simp at h
  | p::P,w::vs,0,m,nd,h1,h2,hk=>by
    simp at h1 h2; subst h1; subst h2
    show bindC kindOf ((p,w)::P.zip vs) m p=_
    unfold bindC
    rw [bindC_out fun v hv=>(List.nodup_cons.mp nd).1 (List.of_mem_zip hv).1,if_neg hk]
    simp
  | p::P,w::vs,i+1,m,nd,h1,h2,hk=>by
    show bindC kindOf ((p,w)::P.zip vs) m x=_
    unfold bindC
    exact bindC_get (i:=i) (List.nodup_cons.mp nd).2 (by simpa using h1) (by simpa using h2) hk
def start (N:List Str) (vs:List V):St:=vs.map some++List.replicate (N.length-vs.length) none
def cxOf (CX:CXT) (P:Program) (w:World) (K:PySem.W.Frag) (mg:Str→Option Value) (base:Heap) (N:List Str) (qual:Str) (scope:Scope) (f:Addr) (cd:Value) (A:Around) (outer:List Env) (s:Shared) (H:Hp) (E:XK):Cx where
  prog:=P
  w:=w
  K:=K
  mg:=mg
  base:=base
  A:=A.deeper (envOfC qual scope s.heap.objs.size f cd)
  N:=N
  s₀:=s
  H₀:=H
  env:=envOfC qual scope s.heap.objs.size f cd
  outer:=outer
  stack:=envOfC qual scope s.heap.objs.size f cd::outer
  ex:=[]
  calm:=true
  fn:=fun _=>true
  pn:=[]
  xe:=fun e s'=>wpAny (model P w) (A.deeper (envOfC qual scope s.heap.objs.size f cd)) (leaving (envOfC qual scope s.heap.objs.size f cd) e) (fun _ s''=>CX outer H s E e s'') (fun e' s''=>CX outer H s E e' s'') s'
theorem cell_has {sc:Scope} {n:Nat} {x:Str} (h:sc.names.lookup x=some .cell):∃ c,(cellsFrom n sc.names []).lookup x=some c:=by
  have q:=PySem.W.cellsFrom_some sc.names n [] (.inl h)
  exact Option.isSome_iff_exists.mp q
theorem inv_start {CX:CXT} {P:Program} {w:World} {K:PySem.W.Frag} {mg:Str→Option Value} {base:Heap} {N ps:List Str} {qual:Str} {scope:Scope} {f:Addr} {cd:Value} {A:Around} {outer:List Env} {s s1:Shared} {H:Hp} {E:XK} {us:List Value} {vs:List V}
    (S:FnScope N ps scope) (hd:A.handled=none) (e0:Env0 P w K mg base A outer s H) (hl:vs.length=ps.length) (r:Vals vs us)
    (x:InCallC s s.heap.objs.size (bindL (envOfC qual scope s.heap.objs.size f cd).kindOf (ps.zip us) fun _=>none) (cellsFrom (s.heap.objs.size+1) scope.names []) (bindC (envOfC qual scope s.heap.objs.size f cd).kindOf (ps.zip us) fun _=>none) s1) :
    Inv (cxOf CX P w K mg base N qual scope f cd A outer s H E) [] (start N vs) H s1:=by
  have hpl:ps.length≤N.length:=by have:=congrArg List.length S.pre; rw [List.length_take] at this; omega
  obtain ⟨h1,tk,rfl,hk⟩:=x.done
  have noA:∀ b:Addr,b∉(cxOf CX P w K mg base N qual scope f cd A outer s H E).ex:=fun b z=>absurd (show b∈([]:List Addr) from z) (by simp)
  refine ⟨⟨e0.mod,S.kind,rfl,rfl,Nat.le_refl _,fun y z c h1 h2=>?_,fun y hy=>?_,fun y c _ h=>?_,fun _=>hd,Around.frames_deeper e0.frames,.inr ⟨rfl,rfl⟩,fun b z=>absurd z (noA b),e0.bs,e0.bsz,fun b _ _=>noA b,fun b z=>absurd z (noA b),e0.funs,e0.frf⟩,
    rfl,e0.bare,Un.kept hk,⟨_,x.toInCall.ns,fun i y v h1 h2 h3=>?_⟩,fun y c h=>⟨_,x.cell y c h⟩,e0.hok.fresh (Nat.le_refl _),fun y c h=>?_,fun p hp=>absurd (show p∈([]:List (Addr×Obj)) from hp) (by simp),e0.hok.kept hk,?_⟩
  · exact name_of_addr x.apart (PySem.mem_of_lookup h1) (PySem.mem_of_lookup h2)
  · have hy:scope.names.lookup y=some .cell∨scope.names.lookup y=some .free:=hy
    rcases hy with hy | hy
    · exact cell_has hy
    · exact absurd rfl (S.nofree _ (PySem.mem_of_lookup hy))
  · exact Nat.le_of_lt (x.above y c (PySem.mem_of_lookup h))
  · have hi:i<vs.length:=by
      unfold start at h2
      by_cases hi:i<vs.length
      · exact hi
      · rw [List.getElem?_append_right (by simpa using hi)] at h2
        rw [List.getElem?_replicate] at h2
        split at h2 <;> cases h2
    have ha:vs[i]?=some v:=by
      unfold start at h2
      rw [List.getElem?_append_left (by simpa using hi),List.getElem?_map] at h2
      cases e:vs[i]? with
      | none=>rw [e] at h2; cases h2
      | some a=>rw [e] at h2; cases h2; rfl
    obtain ⟨u,hu,rv⟩:=r.get ha
    have hp:ps[i]?=some y:=by
      rw [← S.pre,List.getElem?_take_of_lt (by omega)]; exact h1
    have ndP:ps.Nodup:=by rw [← S.pre]; exact S.nd.sublist (List.take_sublist _ _)
    refine ⟨u,rv,?_⟩
    rcases S.par y (List.mem_of_getElem? hp) with k | k
    · exact .inl ⟨k,bindL_get ndP hp hu k⟩
    · obtain ⟨c,e⟩:=cell_has (n:=s.heap.objs.size+1) k
      refine .inr ⟨.inl k,c,e,?_⟩
      have q:=x.cell y c e
      rw [bindC_get ndP hp hu (by show scope.names.lookup y≠_; rw [k]; decide)] at q
      exact q
  · exact e0.hok.fresh (Nat.le_of_lt (x.above y c (PySem.mem_of_lookup h)))
  · unfold start
    show _=N.length
    rw [List.length_append,List.length_map,List.length_replicate]
    omega
theorem fn_of {CX:CXT} {P:Program} {w:World} {K:PySem.W.Frag} {mg:Str→Option Value} {base:Heap} {k:Nat} {f:Addr} {name qual:Str} {params:Arguments} {body:List Stmt} {scope:Scope} {dV kV doc pm cdv ct oc:Value} {an od:Option Addr}
    {osl:Array (Option Value)} {N ps:List Str} {sp:Sp} (lk:K.lookup f=some ⟨oc,od,.func (PySem.W.fnOf name qual params body scope dV kV doc pm an cdv ct),osl⟩) (hcd:PySem.W.codeIn K cdv qual=true) (S:FnScope N ps scope)
    (len:∀ vs H Q E,sp vs H Q E→vs.length=ps.length)
    (hbody:∀ (A:Around) (outer:List Env) (s:Shared) (H:Hp) (vs:List V) (Q:VK) (E:XK),Room k (A.deeper (envOfC qual scope s.heap.objs.size f cdv))→sp vs H Q E →
      ∃ t,PSs (cxOf CX P w K mg base N qual scope f cdv A outer s H E) body t∧t { nx:=fun _ H'=>Q .non H',rt:=Q } (start N vs) H) :
    FnOk P w K mg base CX (k+1) f (PySem.W.fnOf name qual params body scope dV kV doc pm an cdv ct) ps sp:=by
  refine ⟨len,fun A outer s H args us vs Q E hr e0 hb r hsp=>?_⟩
  have hl:=len _ _ _ _ hsp
  have KX:K.In s.heap:=e0.mod.kin.keeps fun b o e=>(e0.bs b o e).1
  have lim:s.heap.NoLimit:=e0.mod.nolimit.keeps fun b o e=>(e0.bs b o e).1
  have hkind:∀ y∈ps.zip us,scope.names.lookup y.1=some .local∨(scope.names.lookup y.1=some .cell∧((cellsFrom (s.heap.objs.size+1) scope.names []).lookup y.1).isSome=true):=fun ⟨n,v⟩ hy=>by
    rcases S.par n (List.of_mem_zip hy).1 with q | q
    · exact .inl q
    · exact .inr ⟨q,PySem.W.cellsFrom_some _ _ _ (.inl q)⟩
  refine codeAny_call_function hr.depth (KX _ _ lk) rfl S.co S.gen rfl (PySem.W.codeRec_of KX hcd) (hb _ _ _ _ ?_)
  refine wpAny_newFunctionEnv_cells S.kind hkind fun env he s1 x=>?_
  subst he
  refine ⟨lim.keeps x.toInCall.keep,codeAny_func ?_⟩
  obtain ⟨t,ht,hq⟩:=hbody A outer s H vs Q E (hr.deeper _) hsp
  have I:Inv (cxOf CX P w K mg base N qual scope f cdv A outer s H E) [] (start N vs) H s1:=inv_start S hr.hd e0 hl r x
  refine wpAny_mono (ht [] s1 (start N vs) H _ I hq) (fun fl s' hs=>?_) fun e s' hs=>hs
  have fin:∀ {σ':St} {H':Hp} {v:V} {u:Value},Inv (cxOf CX P w K mg base N qual scope f cdv A outer s H E) [] σ' H' s'→RelV v u→Q v H'→CE outer P w H s Q u s' :=
    fun {σ' H' v u} J rv q=>⟨v,H',J.os,J.bare,J.base,J.hok,rv,q⟩
  cases fl with
  | ret u =>
    obtain ⟨v,σ',H',J,rv,q⟩:=hs
    exact fin J rv q
  | next =>
    obtain ⟨σ',H',J,q⟩:=hs
    exact fin (v:=V.non) (u:=Value.none) J rfl q
  | brk =>
    obtain ⟨_,_,_,q⟩:=hs
    exact False.elim q
  | cont =>
    obtain ⟨_,_,_,q⟩:=hs
    exact False.elim q
end L2
namespace L2
open PySem PySem.Spec PyProof.Rows
section
variable {X:Cx} {x:Str} {p pos:Pos} {e:Expr} {es:List Expr} {t:TA} {id T:String} {r:List V→Hp→VK→Prop}
def tCB (r:List V→Hp→VK→Prop) (t:TA):TE:=fun σ H Q=>t σ H fun vs H1=>r vs H1 Q
theorem zar (hc:zhu X (.builtin id) r) (hg:Gl X x) (hm:X.mg x=none) (hv:bootBuiltins x=some (.builtin id)) (ha:PA X (e::es) t) (hn:x ≠ "__name__" := by decide) (hdb:(x==("__debug__" : Str))=false:=by decide)
    (he:starEach (e::es) X.env=(false,eval e X.env)::starEach es X.env:=by rfl) (hpl:(backTo pos (starEach es X.env)).any (·.1)=false:=by rfl):PE X (.Call (.Name x p) (e::es) [] pos) (tCB r t):=by
  intro pins s σ H Q I h
  refine wpAny_Call_Name_kw (zks I hg hm hv ?_ hn hdb)
  exact PyProof.Rows.callWith_builtin1 (thn (ha pos pins s σ H _ I h) fun us s1 ⟨vs,H1,I1,r1,q1⟩=>hc pins s1 σ H1 vs us Q I1 r1 q1) he hpl
theorem zfd (hc:zhu X (.type T) r) (hg:Gl X x) (hm:X.mg x=none) (hv:bootBuiltins x=some (.type T)) (ha:PA X (e::es) t) (hn:x ≠ "__name__" := by decide) (hdb:(x==("__debug__" : Str))=false:=by decide)
    (he:starEach (e::es) X.env=(false,eval e X.env)::starEach es X.env:=by rfl) (hpl:(backTo pos (starEach es X.env)).any (·.1)=false:=by rfl):PE X (.Call (.Name x p) (e::es) [] pos) (tCB r t):=by
  intro pins s σ H Q I h
  refine wpAny_Call_Name_kw (zks I hg hm hv ?_ hn hdb)
  exact PyProof.Rows.callWith_type1 (thn (ha pos pins s σ H _ I h) fun us s1 ⟨vs,H1,I1,r1,q1⟩=>hc pins s1 σ H1 vs us Q I1 r1 q1) he hpl
end
end L2
namespace HT
open PySem PyProof.Rows
section
open PySem.SeqAt
open PySem.AutoSeq1 (wpAny_loadPart')
open PySem.MeetsSeq PySem.MeetsSeq2 PySem.MeetsSeq3
end
section
variable {prog:Program} {w:World} {A:Around} {E:Value→Shared→Prop} {s:Shared}
def sIx (n d:Nat):Option Int→Nat
  | none=>d
  | some v=>if v<0 then (v+(n:Int)).toNat else min v.toNat n
end
end HT
namespace L2
open PySem PySem.Spec PyProof.Rows
abbrev TO:=St→Hp→(Option Int→Hp→Prop)→Prop
def PO (X:Cx) (e:Option Expr) (t:TO):Prop :=
  ∀ (pins:List (Addr×Obj)) (s:Shared) (σ:St) (H:Hp) (Q:Option Int→Hp→Prop),Inv X pins σ H s→t σ H Q →
    wpAny (model X.prog X.w) X.A (evalPart e X.env) (fun u s'=>∃ o H',Inv X pins σ H' s'∧IsPart u o∧Q o H') X.xe s
def tNoPart:TO:=fun _ H Q=>Q none H
def tPart (t:TE):TO:=fun σ H Q=>t σ H fun x H1=>∃ i,x=.int i∧Q (some i) H1
theorem intsAre_of {ns:List Int}:∀ {us:List Value},Vals (ns.map V.int) us→IntsAre us ns:=by
  induction ns with
  | nil=>intro us r; rw [List.map_nil] at r; cases r; exact .nil
  | cons n ns ih =>
    intro us r
    rw [List.map_cons] at r
    cases r with
    | cons r1 r2 =>
      obtain ⟨t,e⟩:=r1
      subst e
      exact .cons n t (ih r2)
section
variable {X:Cx} {e:Expr} {te:TE} {lo hi:Option Expr} {tl th:TO} {pos p2:Pos}
theorem zcn:PO X none tNoPart:=by
  intro pins s σ H Q I h
  rw [evalPart_none]
  exact wpAny_pure ⟨none,H,I,.none,h⟩
theorem zcm (h:PE X e te):PO X (some e) (tPart te):=by
  intro pins s σ H Q I hw
  rw [evalPart_some]
  refine thn (h pins s σ H _ I hw) fun u s1 ⟨x,H1,I1,r1,q1⟩=>?_
  obtain ⟨i,rfl,q⟩:=q1
  obtain ⟨t,rfl⟩:=r1
  exact ⟨some i,H1,I1,.int i t,q⟩
def SlR (X:Cx) (r:V→Option Int→Option Int→Hp→VK→Prop):Prop :=
  ∀ (pins:List (Addr×Obj)) (s:Shared) (σ:St) (H:Hp) (x:V) (v vl vu:Value) (lo hi:Option Int) (sl:Addr) (Q:VK),Inv X pins σ H s→RelV x v→s.heap.IsSliceOf sl vl vu .none→IsPart vl lo→IsPart vu hi→r x lo hi H Q →
    ∃ T id,typeLookup (.type T) "__getitem__" = pure (some (.builtin id))∧s.TypeIs v T∧wpAny (model X.prog X.w) X.A (getItem v (.ref sl)) (EP X pins σ Q) X.xe s
def tSl (r:V→Option Int→Option Int→Hp→VK→Prop) (te:TE) (tl th:TO):TE:=fun σ H Q=>te σ H fun x H1=>tl σ H1 fun l H2=>th σ H2 fun u H3=>r x l u H3 Q
theorem zb4 {r:V→Option Int→Option Int→Hp→VK→Prop} (hr:SlR X r) (he:PE X e te) (hl:PO X lo tl) (hu:PO X hi th):PE X (.Subscript e (.Slice lo hi none p2) pos) (tSl r te tl th):=by
  intro pins s σ H Q I h
  refine Subscript_ (thn (he pins s σ H _ I h) fun v s1 ⟨x,H1,I1,r1,q1⟩=>?_)
  refine wpAny_Slice (thn (hl pins s1 σ H1 _ I1 q1) fun vl s2 ⟨l,H2,I2,pl,q2⟩=>thn (hu pins s2 σ H2 _ I2 q2) fun vu s3 ⟨u,H3,I3,pu,q3⟩=>?_)
  rw [evalPart_none]
  refine wpAny_pure ?_
  have I4:Inv X pins σ H3 { s3 with heap:=s3.heap.push { cls:=.type "slice", data:=.fields #[vl,vu,.none] } }:=I3.kept (t':=s3.toks) fun b ob q=>Heap.get?_push_of_some _ q
  obtain ⟨T,id,hT,ht,hg⟩:=hr pins { s3 with heap:=s3.heap.push { cls:=.type "slice", data:=.fields #[vl,vu,.none] } } σ H3 x v vl vu l u s3.heap.objs.size Q I4 r1 (Heap.IsSliceOf.new ..) pl pu q3
  show wpAny (model X.prog X.w) X.A (subscriptTail e (.Slice lo hi none p2) v (.ref s3.heap.objs.size)) (EP X pins σ Q) X.xe { s3 with heap:=s3.heap.push { cls:=.type "slice", data:=.fields #[vl,vu,.none] } }
  exact tail_any (ops:=[.ref s3.heap.objs.size,v]) ht hT hg (by with_unfolding_all rfl)
def cutV (xs:List V) (lo hi:Option Int):List V:=(xs.drop (HT.sIx xs.length 0 lo)).take (HT.sIx xs.length xs.length hi-HT.sIx xs.length 0 lo)
theorem zhe (xs:List V) (lo hi:Option Int):(cutV xs lo hi).length≤xs.length:=by
  unfold cutV
  rw [List.length_take,List.length_drop]
  omega
end
end L2
namespace L2
open PySem PySem.Spec PyProof.Rows
def ixN (n:Nat) (i:Int):Option Nat:=if 0≤i then (if i<n then some i.toNat else none) else if -(n:Int)≤i then some (i+n).toNat else none
def atI {α:Type} (xs:List α) (i:Int):Option α:=(ixN xs.length i).bind fun j=>xs[j]?
theorem ixN_seq {n:Nat} {i:Int} {j:Nat} (h:ixN n i=some j):seqIndex? i n=some j∧j<n∧-(n:Int)≤i∧i<n:=by
  unfold ixN at h
  by_cases h0:0≤i
  · rw [if_pos h0] at h
    by_cases h1:i<n
    · rw [if_pos h1] at h
      have e:i.toNat=j:=Option.some.inj h
      exact ⟨by rw [seqIndex_of h0 h1,e],by omega,by omega,h1⟩
    · rw [if_neg h1] at h; cases h
  · rw [if_neg h0] at h
    by_cases h1:-(n:Int)≤i
    · rw [if_pos h1] at h
      have e:(i+n).toNat=j:=Option.some.inj h
      exact ⟨by rw [seqIndex_neg (by omega) h1,e],by omega,h1,by omega⟩
    · rw [if_neg h1] at h; cases h
theorem zln {α:Type} {xs:List α} {i:Int} {v:α} (h:atI xs i=some v):∃ j,seqIndex? i xs.length=some j∧xs[j]?=some v∧j<xs.length∧-(xs.length:Int)≤i∧i<xs.length:=by
  unfold atI at h
  cases e:ixN xs.length i with
  | none=>rw [e] at h; cases h
  | some j =>
    rw [e] at h
    obtain ⟨h1,h2,h3,h4⟩:=ixN_seq e
    exact ⟨j,h1,h,h2,h3,h4⟩
def PlainIx (b:Expr):Prop:=∀ o i,subscripted b false o i=operate [o,i] (getItem o i)
def IxR (X:Cx) (r:R2):Prop :=
  ∀ (value slice:Expr) (pins:List (Addr×Obj)) (s:Shared) (σ:St) (H:Hp) (x y:V) (v u:Value) (Q:VK),Inv X pins σ H s→RelV x v→RelV y u→r x y H Q →
    subscripted slice false v u=operate [v,u] (getItem v u)→wpAny (model X.prog X.w) X.A (subscriptTail value slice v u) (EP X pins σ Q) X.xe s
def MtR (X:Cx) (id:String) (r:V→List V→Hp→VK→Prop):Prop :=
  ∀ (pins:List (Addr×Obj)) (s:Shared) (σ:St) (H:Hp) (x:V) (xs:List V) (v:Value) (us:List Value) (Q:VK),Inv X pins σ H s→RelV x v→Vals xs us→r x xs H Q →
    wpAny (model X.prog X.w) X.A (call (.builtin id) (v::us)) (EP X pins σ Q) X.xe s
section
variable {X:Cx} {a b:Expr} {ta tb:TE} {pos:Pos}
theorem IxR.or {r r':R2} (h:IxR X r) (h':IxR X r'):IxR X (fun x y H Q=>r x y H Q∨r' x y H Q):=by
  intro value slice pins s σ H x y v u Q I rx ry q hs
  rcases q with q | q
  · exact h value slice pins s σ H x y v u Q I rx ry q hs
  · exact h' value slice pins s σ H x y v u Q I rx ry q hs
theorem zbj {r:R2} (hr:IxR X r) (ha:PE X a ta) (hb:PE X b tb) (hs:PlainIx b):PE X (.Subscript a b pos) (tOp r ta tb):=by
  intro pins s σ H Q I h
  exact Subscript_ (binT ha hb I h fun v u s2 x y H2 I2 rx ry q=>hr a b pins s2 σ H2 x y v u Q I2 rx ry q (hs _ _))
def rIxL (K:PySem.W.Frag):R2:=fun x y H Q=>∃ p xs i v,x=.ref p∧y=.int i∧SqL K H p xs∧atI xs i=some v∧Q v H
def rIxT (K:PySem.W.Frag):R2:=fun x y H Q=>∃ p xs i v,x=.ref p∧y=.int i∧SqT K H p xs∧atI xs i=some v∧Q v H
def rIxS:R2:=fun x y H Q=>∃ z i c,x=.str z∧y=.int i∧z.length≤sizeLine∧atI z.cps.toList i=some c∧Q (.str ⟨#[c]⟩) H
theorem ix_list:IxR X (rIxL X.K):=by
  intro value slice pins s σ H x y v u Q I rx ry h hs
  obtain ⟨p,xs,i,z,rfl,rfl,hq,he,q⟩:=h
  cases rx
  obtain ⟨t,rfl⟩:=ry
  obtain ⟨its,r,pl,hz⟩:=I.list hq
  obtain ⟨j,h1,h2,h3,h4,h5⟩:=zln he
  obtain ⟨w,ew,rw'⟩:=r.get h2
  have hl:=r.length
  have hn:=zjc
  have fin:EP X pins σ Q w s:=⟨z,H,I,rw',q⟩
  by_cases h0:0≤i
  · have hj:i.toNat=j:=by
      rw [seqIndex_of h0 h5] at h1
      exact Option.some.inj h1
    exact item_listR pl.isList h0 (by omega) (by rw [hj]; simpa using ew) fin hs
  · have hj:(i+(its.toArray.size:Int)).toNat=j:=by
      rw [seqIndex_neg (by omega) h4] at h1
      rw [List.size_toArray,← hl]
      exact Option.some.inj h1
    exact subscriptTail_builtinR (x:=w) pl.isList.typeIs slot_list_getitem.lookup
      (wpAny_getItem_list_neg (Q:=fun r s'=>r=w∧EP X pins σ Q r s') pl.isList (by omega) (by rw [List.size_toArray] <;> omega) (by omega) (by rw [hj]; simpa using ew) ⟨rfl,fin⟩) hs
theorem ix_tup:IxR X (rIxT X.K):=by
  intro value slice pins s σ H x y v u Q I rx ry h hs
  obtain ⟨p,xs,i,z,rfl,rfl,hq,he,q⟩:=h
  cases rx
  obtain ⟨t,rfl⟩:=ry
  obtain ⟨its,r,pl,hz⟩:=I.tuple hq
  obtain ⟨j,h1,h2,h3,h4,h5⟩:=zln he
  obtain ⟨w,ew,rw'⟩:=r.get h2
  have hl:=r.length
  have hn:=zjc
  have fin:EP X pins σ Q w s:=⟨z,H,I,rw',q⟩
  exact subscriptTail_builtinR (x:=w) pl.typeIs slot_tuple_getitem.lookup
    (getItem_tuple (j:=j) (Q:=fun r s'=>r=w∧EP X pins σ Q r s') pl (by omega) (by omega) (by rw [List.size_toArray,← hl]; exact h1) (by simpa using ew) ⟨rfl,fin⟩) hs
theorem ix_str:IxR X rIxS:=by
  intro value slice pins s σ H x y v u Q I rx ry h hs
  obtain ⟨z,i,c,rfl,rfl,hz,he,q⟩:=h
  obtain ⟨t,rfl⟩:=rx
  obtain ⟨t',rfl⟩:=ry
  obtain ⟨j,h1,h2,h3,h4,h5⟩:=zln he
  have hl:z.cps.toList.length=z.length:=by simp [Str.length]
  rw [hl] at h1 h4 h5
  have hn:=zjc
  exact tail_any (typeIs_str s z t) slot_str_getitem.lookup (getItem_str (c:=c) (by
    have e1:decide (i < -(2 ^ 63:Int))=false:=decide_eq_false (by omega)
    have e2:decide (i ≥ 2 ^ 63)=false:=decide_eq_false (by omega)
    rw [e1,e2,Bool.or_false]) (by rw [h1]; simpa using h2) ⟨.str ⟨#[c]⟩,H,I.tok _,⟨_,rfl⟩,q⟩) hs
def rIx (K:PySem.W.Frag):R2:=fun x y H Q=>rIxL K x y H Q∨rIxT K x y H Q∨rIxS x y H Q
theorem ix_seq:IxR X (rIx X.K):=ix_list.or (ix_tup.or ix_str)
theorem mapSeq_set (its:List Value) (n j:Nat) (u:Value):Obj.mapSeq (·.setIfInBounds j u) { cls:=.type "list", data:=.seq its.toArray n }={ cls:=.type "list", data:=.seq (its.set j u).toArray n }:=by
  simp [Obj.mapSeq]
theorem Inv.lst {pins:List (Addr×Obj)} {σ:St} {H:Hp} {s:Shared} {p:Addr} {xs:List V} (I:Inv X pins σ H s) (h:H p=some (.lst xs)) :
    ∃ (its:List Value) (n:Nat),Vals xs its∧s.heap.get? p=some { cls:=.type "list", data:=.seq its.toArray n }∧xs.length≤sizeLine:=by
  obtain ⟨z,its,n,r,e⟩:=I.hok p _ h
  exact ⟨its,n,r,e,z⟩
theorem Inv.lstUpd {pins:List (Addr×Obj)} {σ:St} {H:Hp} {s:Shared} {p:Addr} {xs ys:List V} {its its':List Value} {n n':Nat} {f:Obj→Obj} (I:Inv X pins σ H s) (h:H p=some (.lst xs))
    (ho:s.heap.get? p=some { cls:=.type "list", data:=.seq its.toArray n }) (hf:f { cls:=.type "list", data:=.seq its.toArray n }={ cls:=.type "list", data:=.seq its'.toArray n' }) (r:Vals ys its') (hz:ys.length≤sizeLine) (t:Nat) :
    Inv X pins σ (upd H p (.lst ys)) { s with heap:=s.heap.update p f,toks:=t }:=by
  have e:(s.heap.update p f).get? p=some { cls:=.type "list", data:=.seq its'.toArray n' }:=by
    rw [Heap.get?_update_self f ho (by rw [hf] <;> rfl),hf]
  refine I.write (x:=p) (e:=p) (by rw [h]; trivial) (.inl rfl) (fun b u hb q=>(Heap.get?_update_other _ _ (Ne.symm hb)).trans q) ⟨_,e⟩ ?_
  exact ⟨hz,its',n',r,e⟩
def zm6:V→V→V→Hp→(Hp→Prop)→Prop:=fun o i v H Q=>∃ p xs k j,o=.ref p∧i=.int k∧H p=some (.lst xs)∧ixN xs.length k=some j∧Q (upd H p (.lst (xs.set j v)))
theorem zgm:PSet X zm6:=by
  intro pins s σ H o i v ov iv u Q I ro ri rv h
  obtain ⟨p,xs,k,j,rfl,rfl,hp,hj,q⟩:=h
  cases ro
  obtain ⟨t,rfl⟩:=ri
  obtain ⟨its,n,r,ho,hz⟩:=I.lst hp
  obtain ⟨h1,h2,h3,h4⟩:=ixN_seq hj
  have hl:=r.length
  have hn:=zjc
  have I':Inv X pins σ (upd H p (.lst (xs.set j v))) { s with heap:=s.heap.update p (Obj.mapSeq (·.setIfInBounds j u)) } :=
    I.lstUpd hp ho (mapSeq_set its n j u) (r.set rv j) (by rw [List.length_set]; exact hz) s.toks
  by_cases h0:0≤k
  · have hk:k.toNat=j:=by
      rw [seqIndex_of h0 h4] at h1
      exact Option.some.inj h1
    exact PySem.W.ki_setAt ho h0 (by omega) (by rw [List.size_toArray,← hl]; exact h4) (by rw [hk]; exact ⟨_,I',q⟩)
  · have hk:(k+(its.toArray.size:Int)).toNat=j:=by
      rw [seqIndex_neg (by omega) h3] at h1
      rw [List.size_toArray,← hl]
      exact Option.some.inj h1
    exact PySem.W.ki_setBack ho (by omega) (by rw [List.size_toArray,← hl]; exact h3) (by omega) (by rw [hk]; exact ⟨_,I',q⟩)
theorem slice_bounds (lo hi:Option Int) (n:Nat):(sliceBounds lo hi none n).1=((HT.sIx n 0 lo:Nat):Int)∧(sliceBounds lo hi none n).2.1=((HT.sIx n n hi:Nat):Int)∧(sliceBounds lo hi none n).2.2=1:=by
  refine ⟨?_,?_,rfl⟩
  · cases lo with
    | none=>simp [sliceBounds,HT.sIx]
    | some i =>
      simp only [sliceBounds,HT.sIx,Option.getD_none,show (1:Int) > 0 by decide,if_true]
      by_cases h:i<0
      · simp only [h,if_true] <;> omega
      · simp only [h,if_false] <;> omega
  · cases hi with
    | none=>simp [sliceBounds,HT.sIx]
    | some i =>
      simp only [sliceBounds,HT.sIx,Option.getD_none,show (1:Int) > 0 by decide,if_true]
      by_cases h:i<0
      · simp only [h,if_true] <;> omega
      · simp only [h,if_false] <;> omega
theorem slicePick_cut (its:List Value) (lo hi:Option Int):slicePick its.toArray lo hi none=((its.drop (HT.sIx its.length 0 lo)).take (HT.sIx its.length its.length hi-HT.sIx its.length 0 lo)).toArray:=by
  obtain ⟨h1,h2,h3⟩:=slice_bounds lo hi its.toArray.size
  unfold slicePick
  rw [h1,h2,h3]
  simp only [sliceRange_one,pick_run,List.size_toArray] <;> rfl
def rSlL (K:PySem.W.Frag):V→Option Int→Option Int→Hp→VK→Prop:=fun x lo hi H Q=>∃ a xs,x=.ref a∧SqL K H a xs∧∀ p,H p=none→Q (.ref p) (upd H p (.lst (cutV xs lo hi)))
theorem sl_list:SlR X (rSlL X.K):=by
  intro pins s σ H x v vl vu lo hi sl Q I rx hs pl pu h
  obtain ⟨a,xs,rfl,hx,q⟩:=h
  cases rx
  obtain ⟨its,r,ht,hz⟩:=I.list hx
  have hlen:=r.length
  refine ⟨"list", _,slot_list_getitem.lookup,ht.isList.typeIs,?_⟩
  refine wpAny_getItem_list_slice ht.isList hs pl pu .none (by simp) ?_ (by rw [List.size_toArray] <;> omega)
  rw [slicePick_cut,← hlen]
  refine ⟨.ref s.heap.objs.size,_,I.laid (t':=s.toks) (o:=.lst (cutV xs lo hi)) (fun b ob q=>Heap.get?_push_of_some _ q) (Nat.le_refl _) ?_,rfl,q _ (I.hok.fresh (Nat.le_refl _))⟩
  exact ⟨Nat.le_trans (zhe xs lo hi) hz,_,0,(r.drop (HT.sIx xs.length 0 lo)).take (HT.sIx xs.length xs.length hi-HT.sIx xs.length 0 lo),Heap.get?_push_size _ rfl⟩
def zim:V→Bool
  | .non=>true
  | .bl _=>true
  | .int _=>true
  | .str _=>true
  | _=>false
def eqV:V→V→Bool
  | .non,.non=>true
  | .bl a,.bl b=>a==b
  | .bl a,.int b=>(if a then 1 else 0)==b
  | .int a,.bl b=>a==(if b then 1 else 0)
  | .int a,.int b=>a==b
  | .str a,.str b=>a==b
  | _,_=>false
theorem eqAt_V {A:Around} {s:Shared} {y x:V} {u v:Value} (ry:RelV y u) (rx:RelV x v) (fy:zim y=true) (fx:zim x=true):SeqAt.EqAt A s u v (eqV y x):=by
  cases y with
  | non =>
    cases ry
    cases x with
    | non=>cases rx; exact SeqAt.EqAt.same _
    | bl b=>cases rx; exact SeqAt.EqAt.none_bool b
    | int b=>obtain ⟨t,rfl⟩:=rx; exact SeqAt.EqAt.none_int b t
    | str b=>obtain ⟨t,rfl⟩:=rx; exact SeqAt.EqAt.none_str b t
    | _=>exact absurd (show false=true from fx) Bool.false_ne_true
  | bl a =>
    cases ry
    cases x with
    | non=>cases rx; exact SeqAt.EqAt.bool_none a
    | bl b=>cases rx; exact SeqAt.EqAt.bool_bool a b
    | int b=>obtain ⟨t,rfl⟩:=rx; exact SeqAt.EqAt.bool_int a b t
    | str b=>obtain ⟨t,rfl⟩:=rx; exact SeqAt.EqAt.bool_str a b t
    | _=>exact absurd (show false=true from fx) Bool.false_ne_true
  | int a =>
    obtain ⟨t',rfl⟩:=ry
    cases x with
    | non=>cases rx; exact SeqAt.EqAt.int_none a t'
    | bl b=>cases rx; exact SeqAt.EqAt.int_bool a t' b
    | int b=>obtain ⟨t,rfl⟩:=rx; exact SeqAt.EqAt.int_int a t' b t
    | str b=>obtain ⟨t,rfl⟩:=rx; exact SeqAt.EqAt.int_str a t' b t
    | _=>exact absurd (show false=true from fx) Bool.false_ne_true
  | str a =>
    obtain ⟨t',rfl⟩:=ry
    cases x with
    | non=>cases rx; exact SeqAt.EqAt.str_none a t'
    | bl b=>cases rx; exact SeqAt.EqAt.str_bool a t' b
    | int b=>obtain ⟨t,rfl⟩:=rx; exact SeqAt.EqAt.str_int a t' b t
    | str b=>obtain ⟨t,rfl⟩:=rx; exact SeqAt.EqAt.str_str a t' b t
    | _=>exact absurd (show false=true from fx) Bool.false_ne_true
  | _=>exact absurd (show false=true from fy) Bool.false_ne_true
def eqU (x:V) (u:Value):Bool:=match u with
  | .none=>eqV .non x
  | .bool b=>eqV (.bl b) x
  | .int i _=>eqV (.int i) x
  | .str z _=>eqV (.str z) x
  | _=>false
theorem eqU_of {x y:V} {u:Value} (r:RelV y u) (f:zim y=true):eqU x u=eqV y x:=by
  cases y with
  | non=>cases r; rfl
  | bl b=>cases r; rfl
  | int i=>obtain ⟨t,rfl⟩:=r; rfl
  | str z=>obtain ⟨t,rfl⟩:=r; rfl
  | _=>exact absurd (show false=true from f) Bool.false_ne_true
theorem zjm {x:V}:∀ {xs:List V} {us:List Value},Vals xs us→xs.all zim=true→us.any (eqU x)=xs.any fun y=>eqV y x
  | _,_,.nil,_=>rfl
  | y::xs,u::us,.cons r t,f=>by
    rw [List.all_cons,Bool.and_eq_true] at f
    rw [List.any_cons,List.any_cons,eqU_of r f.1,zjm t f.2]
theorem zhp {A:Around} {s:Shared} {x:V} {v:Value} (rx:RelV x v) (fx:zim x=true):∀ {xs:List V} {us:List Value},Vals xs us→xs.all zim=true→∀ u∈us,SeqAt.EqAt A s u v (eqU x u)
  | _,_,.nil,_=>fun u hu=>by cases hu
  | y::xs,u::us,.cons r t,f=>fun u' hu=>by
    rw [List.all_cons,Bool.and_eq_true] at f
    rcases List.mem_cons.mp hu with rfl | hu
    · rw [eqU_of r f.1]; exact eqAt_V r rx f.1 fx
    · exact zhp rx fx t f.2 u' hu
def inV (x:V) (xs:List V):Bool:=xs.any fun y=>eqV y x
def rIn (K:PySem.W.Frag) (neg:Bool):R2:=fun x y H Q=>∃ p xs,y=.ref p∧(SqL K H p xs∨SqT K H p xs)∧zim x=true∧xs.all zim=true∧Q (.bl (if neg then !inV x xs else inV x xs)) H
theorem op_in_seq:OpR X (compareOp .In) (rIn X.K false):=by
  intro pins s σ H x y v u Q I rx ry h
  obtain ⟨p,xs,rfl,hq,fx,fs,q⟩:=h
  cases ry
  rcases hq with hq | hq
  · obtain ⟨its,r,pl,hz⟩:=I.list hq
    refine SeqAt.in_listAt (eqU x) pl.isList (fun w hw=>zhp rx fx r fs w (by simpa using hw)) ⟨.bl _,H,I,rfl,?_⟩
    rw [show its.toArray.any (eqU x)=its.any (eqU x) by simp,zjm r fs]
    exact q
  · obtain ⟨its,r,pl,hz⟩:=I.tuple hq
    refine SeqAt.in_tupleAt (eqU x) pl (fun w hw=>zhp rx fx r fs w (by simpa using hw)) ⟨.bl _,H,I,rfl,?_⟩
    rw [show its.toArray.any (eqU x)=its.any (eqU x) by simp,zjm r fs]
    exact q
theorem op_notIn_seq:OpR X (compareOp .NotIn) (rIn X.K true):=by
  intro pins s σ H x y v u Q I rx ry h
  obtain ⟨p,xs,rfl,hq,fx,fs,q⟩:=h
  cases ry
  rcases hq with hq | hq
  · obtain ⟨its,r,pl,hz⟩:=I.list hq
    refine SeqAt.notIn_listAt (eqU x) pl.isList (fun w hw=>zhp rx fx r fs w (by simpa using hw)) ⟨.bl _,H,I,rfl,?_⟩
    rw [show its.toArray.any (eqU x)=its.any (eqU x) by simp,zjm r fs]
    exact q
  · obtain ⟨its,r,pl,hz⟩:=I.tuple hq
    refine SeqAt.notIn_tupleAt (eqU x) pl (fun w hw=>zhp rx fx r fs w (by simpa using hw)) ⟨.bl _,H,I,rfl,?_⟩
    rw [show its.toArray.any (eqU x)=its.any (eqU x) by simp,zjm r fs]
    exact q
theorem call_list_of:zhu X (.type "list") (fun xs H Q=>∃ p ys,xs=[.ref p]∧(SqL X.K H p ys∨SqT X.K H p ys)∧∀ l,H l=none→Q (.ref l) (upd H l (.lst ys))):=by
  intro pins s σ H xs us Q I r h
  obtain ⟨p,ys,rfl,hq,q⟩:=h
  obtain ⟨u,rfl,rx⟩:=vals1 r
  cases rx
  have fin:∀ (its:List Value),Vals ys its→ys.length≤sizeLine→∀ (h':Heap) (c':Nat),(∀ b o',s.heap.get? b=some o'→h'.get? b=some o') →
      h'.get? s.heap.objs.size=some { cls:=.type "list", dict:=none,data:=.seq its.toArray c',slots:=#[] }→EP X pins σ Q (.ref s.heap.objs.size) { s with heap:=h' }:=fun its r' hz h' c' kp e =>
    ⟨.ref s.heap.objs.size,_,I.laid (t':=s.toks) kp (Nat.le_refl _) (show ObjOk X.prog X.w _ h' _ (.lst ys) from ⟨hz,its,c',r',e⟩),rfl,q _ (I.hok.fresh (Nat.le_refl _))⟩
  rcases hq with hq | hq
  · obtain ⟨its,r',pl,hz⟩:=I.list hq
    have hlen:=r'.length
    obtain ⟨o,ho,hc,n,hd⟩:=pl.isList
    exact call_list_seq p (.inl rfl) ho hc hd (fun h' c' kp e=>fin its r' hz h' c' kp e) (by simp only [List.size_toArray] <;> omega)
  · obtain ⟨its,r',pl,hz⟩:=I.tuple hq
    have hlen:=r'.length
    obtain ⟨o,ho,hc,n,hd⟩:=pl
    exact call_list_seq p (.inr rfl) ho hc hd (fun h' c' kp e=>fin its r' hz h' c' kp e) (by simp only [List.size_toArray] <;> omega)
def tyV (K:PySem.W.Frag) (T:String) (x:V) (H:Hp):Prop:=match x with
  | .str _=>T = "str"
  | .int _=>T = "int"
  | .ref p=>(T = "list" ∧ ∃ xs,SqL K H p xs)∨(T = "tuple" ∧ ∃ o,K.lookup p=some o∧o.cls=.type "tuple" ∧ o.dict=none) ∨
      (T = "dict" ∧ ((∃ kvs,H p=some (.dK kvs))∨∃ kvs,H p=some (.dT kvs)))∨(T = "set" ∧ ∃ S n,H p=some (.set S n))
  | _=>False
theorem tyV_is {pins:List (Addr×Obj)} {σ:St} {H:Hp} {s:Shared} {T:String} {x:V} {v:Value} (I:Inv X pins σ H s) (r:RelV x v) (ty:tyV X.K T x H) :
    s.TypeIs v T∧∀ a,v=.ref a→∃ ob,s.heap.get? a=some ob∧ob.dict=none:=by
  cases x with
  | str z =>
    obtain ⟨t,rfl⟩:=r
    cases (show T = "str" from ty)
    exact ⟨typeIs_str s z t,fun _ e=>nomatch e⟩
  | int i =>
    obtain ⟨t,rfl⟩:=r
    cases (show T = "int" from ty)
    exact ⟨typeIs_int s i t,fun _ e=>nomatch e⟩
  | ref p =>
    cases r
    rcases ty with ⟨rfl,xs,hq⟩ | ⟨rfl,o,hk,hc,hd⟩ | ⟨rfl,hk⟩ | ⟨rfl,S,n,hk⟩
    · obtain ⟨its,_,pl,_⟩:=I.list hq
      refine ⟨pl.isList.typeIs,fun a e=>?_⟩
      cases e
      obtain ⟨o,n,e,c,hd,_⟩:=pl
      exact ⟨o,e,hd⟩
    · refine ⟨⟨o,I.kIn p o hk,hc⟩,fun a e=>?_⟩
      cases e
      exact ⟨o,I.kIn _ o hk,hd⟩
    · have z:∃ o,s.heap.get? p=some o∧o.ExactDict:=by
        rcases hk with ⟨kvs,hk⟩ | ⟨kvs,hk⟩
        · obtain ⟨_,_,_,_,o,_,_,e,ex,_⟩:=I.hok p _ hk
          exact ⟨o,e,ex⟩
        · obtain ⟨_,_,_,_,o,_,_,e,ex,_⟩:=I.hok p _ hk
          exact ⟨o,e,ex⟩
      obtain ⟨o,e,ex⟩:=z
      refine ⟨⟨o,e,ex.1⟩,fun a e2=>?_⟩
      cases e2
      exact ⟨o,e,ex.2.1⟩
    · obtain ⟨o,_,_,_,e,ex,_⟩:=I.hok p _ hk
      refine ⟨⟨o,e,ex.1⟩,fun a e2=>?_⟩
      cases e2
      exact ⟨o,e,ex.2.1⟩
  | _=>exact False.elim ty
def tBM (K:PySem.W.Frag) (T:String) (r:V→List V→Hp→VK→Prop) (to:TE) (t:TA):TE:=fun σ H Q=>to σ H fun x H1=>tyV K T x H1∧t σ H1 fun xs H2=>r x xs H2 Q
variable {o e:Expr} {es:List Expr} {to:TE} {t:TA} {name:Str} {apos cpos:Pos} {T id:String} {r:V→List V→Hp→VK→Prop}
theorem zg3 (pa:PlainAttrs T) (slot:Slot T name id) (hty:typeOf (.builtin id)=pure (.type "method_descriptor")) (hm:MtR X id r) (ho:PE X o to) (ha:PA X (e::es) t)
    (hbase:attributeBase o name X.env (eval o X.env)=eval o X.env:=by rfl)
    (hfew:((backTo cpos (starEach (e::es) X.env)).all (fun x=>!x.1)&&(backToKw cpos (keywordEach [] X.env)).all (fun x=>x.1.isSome)
      && decide ((e::es).length+([]:List Keyword).length+(if ([]:List Keyword).isEmpty then 0 else 1)<30))=true:=by rfl)
    (hline:(apos.endLine==cpos.line)=true:=by rfl) (hs:starEach (e::es) X.env=(false,eval e X.env)::starEach es X.env:=by rfl) (hplain:(backTo cpos (starEach es X.env)).any (·.1)=false:=by rfl) :
    PE X (.Call (.Attribute o name apos) (e::es) [] cpos) (tBM X.K T r to t):=by
  intro pins s σ H Q I h
  refine wpAny_Call_method_late hbase hfew hline rfl (thn (ho pins s σ H _ I h) fun v s1 ⟨x,H1,I1,r1,ty,q1⟩=>?_)
  obtain ⟨h1,h2⟩:=tyV_is I1 r1 ty
  refine ⟨T,id,pa,slot,hty,h1,h2,?_⟩
  have hA:=ha cpos pins s1 σ H1 _ I1 q1
  rw [hs] at hA ⊢
  refine Calls.callWith_builtin (by show (false || (backTo cpos (starEach es X.env)).any (·.1))=false; rw [hplain] <;> rfl) (Calls.evalArgs_plain ?_)
  exact thn hA fun us s2 ⟨vs,H2,I2,r2,q2⟩=>hm pins s2 σ H2 x vs v us Q I2 r1 r2 q2
end
end L2
namespace L2
open PySem PySem.Spec PyProof.Rows
def MtM (X:Cx) (id:String) (r:V→List V→Hp→VK→Prop):Prop :=
  ∀ (pins:List (Addr×Obj)) (s:Shared) (σ:St) (H:Hp) (x:V) (xs:List V) (v:Value) (us:List Value) (Q:VK),Inv X pins σ H s→RelV x v→Vals xs us→r x xs H Q →
    wpAny (model X.prog X.w) X.A (call (.builtin id) (v::us)) (EP X pins σ Q) X.xe s
theorem Vals.one:∀ {x:V} {us:List Value},Vals [x] us→∃ u,us=[u]∧RelV x u
  | _,_,.cons r .nil=>⟨_,rfl,r⟩
theorem Vals.rep {xs:List V} {us:List Value} (h:Vals xs us):∀ k:Nat,Vals (List.replicate k xs).flatten (List.replicate k us).flatten
  | 0=>.nil
  | k+1=>by
    rw [List.replicate_succ,List.replicate_succ,List.flatten_cons,List.flatten_cons]
    exact Vals.append h (Vals.rep h k)
theorem foldl_rep (its:List Value):∀ (k:Nat) (acc:List Value),
    List.foldl (fun x1 x2=>x1++x2) acc.toArray (List.replicate k its.toArray)=(acc++(List.replicate k its).flatten).toArray
  | 0,acc=>by simp
  | k+1,acc=>by
    have e:acc.toArray++its.toArray=(acc++its).toArray:=by simp
    have e2:(acc++its)++(List.replicate k its).flatten=acc++(List.replicate (k+1) its).flatten:=by
      rw [List.replicate_succ,List.flatten_cons,List.append_assoc]
    rw [← e2,← foldl_rep its k (acc++its),← e,List.replicate_succ,List.foldl_cons]
section
variable {X:Cx} {pins:List (Addr×Obj)} {σ:St} {H:Hp} {s:Shared} {l b:Addr} {xs ys zs:List V}
theorem Inv.lset {its its':List Value} {n:Nat} {f:Array Value→Array Value} {t':Nat} (I:Inv X pins σ H s) (hH:H l=some (.lst xs))
    (e:s.heap.get? l=some { cls:=.type "list", data:=.seq its.toArray n }) (hf:f its.toArray=its'.toArray) (hv:Vals ys its') (hz:ys.length≤sizeLine) :
    Inv X pins σ (upd H l (.lst ys)) { s with heap:=s.heap.update l (Obj.mapSeq f),toks:=t' }:=by
  have q:=PySem.IsL.update e f
  rw [hf] at q
  refine I.write (x:=l) (e:=l) (by rw [hH]; exact trivial) (.inl rfl) (fun b' u hb hu=>(Heap.get?_update_other s.heap (Obj.mapSeq f) (Ne.symm hb)).trans hu) ⟨_,q⟩ ?_
  exact ⟨hz,its',_,hv,q⟩
theorem Inv.lnew {its:List Value} {t':Nat} (I:Inv X pins σ H s) (hv:Vals ys its) (hz:ys.length≤sizeLine) :
    Inv X pins σ (upd H s.heap.objs.size (.lst ys)) { s with heap:=s.heap.push { cls:=.type "list", data:=.seq its.toArray },toks:=t' } :=
  I.laid (fun _ _ q=>Heap.get?_push_of_some _ q) (Nat.le_refl _) ⟨hz,its,0,hv,Heap.get?_push_size _ rfl⟩
theorem Inv.fresh (I:Inv X pins σ H s):H s.heap.objs.size=none:=I.hok.fresh (Nat.le_refl _)
theorem Inv.lstM (I:Inv X pins σ H s) (hH:H l=some (.lst xs)):xs.length≤sizeLine∧∃ (its:List Value) (n:Nat),Vals xs its∧xs.length=its.length∧s.heap.get? l=some { cls:=.type "list", data:=.seq its.toArray n }:=by
  obtain ⟨z,its,n,r,e⟩:=I.hok l _ hH
  exact ⟨z,its,n,r,r.length,e⟩
theorem notLongL {n:Nat} (h:n≤sizeLine):Builtin.List.listTooLong n=false:=by
  unfold Builtin.List.listTooLong
  exact decide_eq_false (by omega)
end
section
variable {X:Cx}
def rAppend:V→List V→Hp→VK→Prop:=fun x vs H Q=>∃ l xs y,x=.ref l∧vs=[y]∧H l=some (.lst xs)∧xs.length<sizeLine∧Q .non (upd H l (.lst (xs++[y])))
theorem zbz:MtM X "list.append" rAppend:=by
  intro pins s σ H x vs v us Q I rx rv h
  obtain ⟨l,xs,y,rfl,rfl,hH,hz,q⟩:=h
  cases rx
  obtain ⟨u,rfl,ru⟩:=rv.one
  obtain ⟨z,its,n,r,hl,e⟩:=I.lstM hH
  refine call_meets F.slot_list_append ⟨_,e,rfl⟩ F.entry_list_append (F.args_list_append_2 _ _) (PySem.list_append l its.toArray n u (by rw [List.size_toArray]; omega)) ⟨e,?_⟩
  refine ⟨.non,_,I.lset (its':=its++[u]) hH e (by simp) (r.append (.cons ru .nil)) ?_,rfl,q⟩
  rw [List.length_append,List.length_singleton]
  omega
def rRep:R2:=fun x y H Q=>∃ l k xs,x=.ref l∧y=.int k∧H l=some (.lst xs)∧-(2 ^ 63)≤k∧k<2 ^ 63∧xs.length*k.toNat≤sizeLine ∧
  ∀ p,H p=none→Q (.ref p) (upd H p (.lst (List.replicate k.toNat xs).flatten))
theorem len_rep {α:Type} (xs:List α) (k:Nat):(List.replicate k xs).flatten.length=k*xs.length:=by
  induction k with
  | zero=>simp
  | succ k ih=>rw [List.replicate_succ,List.flatten_cons,List.length_append,ih,Nat.succ_mul,Nat.add_comm]
theorem zg9:OpR X (binaryOp .Mult) rRep:=by
  intro pins s σ H x y v u Q I rx ry h
  obtain ⟨l,k,xs,rfl,rfl,hH,h1,h2,hz,q⟩:=h
  cases rx
  obtain ⟨t,rfl⟩:=ry
  obtain ⟨z,its,n,r,hl,e⟩:=I.lstM hH
  have hlen:its.toArray.size*k.toNat≤sizeLine:=by rw [List.size_toArray,← hl]; exact hz
  have hcap:¬ its.toArray.size*k.toNat > (2 ^ 63-1) / 8:=by
    have:(sizeLine:Nat)≤(2 ^ 63-1) / 8:=by decide
    omega
  have hfit:¬ (!Builtin.List.listFitsIndex k)=true:=by
    rw [fitsIndex_both h1 h2]
    exact Bool.false_ne_true
  have hlong:¬ Builtin.List.listTooLong (its.toArray.size*k.toNat)=true:=by
    rw [notLongL hlen]
    exact Bool.false_ne_true
  have hnew:List.foldl (fun x1 x2=>x1++x2) #[] (List.replicate (if its.toArray.isEmpty=true then 0 else k.toNat) its.toArray)=(List.replicate k.toNat its).flatten.toArray:=by
    have f0:∀ m:Nat,List.foldl (fun x1 x2=>x1++x2) #[] (List.replicate m its.toArray)=(List.replicate m its).flatten.toArray:=fun m=>by
      have:=foldl_rep its m []
      rw [List.nil_append] at this
      exact this
    rw [f0]
    cases its with
    | nil=>simp
    | cons a r'=>rw [if_neg (by simp)]
  refine wpAny_binaryOp_repeat_ref (T := "list") (U := "int") (by decide) ⟨_,e,rfl⟩ (fun s'=>typeIs_int s' k t) noFill_list_mul F.fills_int_mul F.slot_int_rmul repeat_list F.slot_int_index.lookup
    (call_meets F.slot_int_rmul (typeIs_int s k t) F.entry_int_rmul (F.args_int_rmul_2 _ _) (int___rmul___int_list k t l its.toArray n)
      ⟨e,rfl,⟨_,e,rfl⟩,call_meets F.slot_list_mul ⟨_,e,rfl⟩ F.entry_list_mul (F.args_list_mul_2 _ _) (AutoListH.list___mul___list_int_3 l its.toArray n k t hfit hcap hlong) ⟨e,?_⟩⟩)
  rw [hnew]
  exact ⟨.ref _,_,I.lnew (t':=s.toks) (r.rep k.toNat) (by rw [len_rep,Nat.mul_comm]; exact hz),rfl,q _ I.fresh⟩
end
section
variable {prog:Program} {w:World} {A:Around} {E:Value→Shared→Prop} {s:Shared}
end
section
variable {X:Cx}
end
end L2
namespace Att
open PySem PySem.W PySem.Calls PyProof.Rows
theorem ints_of_wellAll {P:Params} {h:Heap}:∀ (ns:List Int) (vs:List Value),WellAll P h vs (ns.map WData.int)→IntsAre vs ns:=by
  intro ns
  induction ns with
  | nil =>
    intro vs w
    rw [List.map_nil] at w
    cases w
    exact .nil
  | cons n ns ih =>
    intro vs w
    rw [List.map_cons] at w
    cases w with
    | cons a b =>
      cases a
      exact .cons _ _ (ih _ b)
theorem script_of {l:OpenLaw} {n:Nat} (hn:l.most=some n) {P:Params} {h:Heap} {args:List WData} {vals:List Value}
    (hpre:l.row.toRowW.claim.pre args=true) (hwl:WellAll P h vals args) :
    ∃ a vs ns,vals=[Value.ref a]∧args=[WData.list (ns.map WData.int)]∧h.get? a=some { cls:=.type "list", data:=.seq vs.toArray }∧IntsAre vs ns∧ns.length≤n:=by
  have hsh:WShape.hasAll [] args [.list .int]=true:=(pre_splitW hpre).1
  have hc:l.pre.holds [] { args:=args }=true:=(pre_splitW hpre).2
  obtain ⟨d,r,rfl,h1,h2⟩:=hasAllW_cons hsh
  obtain rfl:=hasAllW_nil h2
  obtain ⟨xs,rfl,h3⟩:=hasW_list h1
  obtain ⟨ns,rfl⟩:=items_int h3
  have hlen:ns.length≤n:=by
    unfold OpenLaw.pre at hc
    have h4:(WTm.not (.lt (.lit (.int (n:Int))) (.len (.arg 0)))).holds [] { args:=[.list (ns.map .int)] }=true:=by
      have h4:=(holds_andW hc).1
      rw [hn] at h4
      exact h4
    have h5:=condW_of h4 (w_not (w_lt w_lit (w_len_list (w_arg rfl))))
    rw [List.length_map] at h5
    refine Nat.le_of_not_lt fun q=>?_
    have q':(n:Int)<((ns.length:Nat):Int):=by omega
    first
      | (rw [decide_eq_true q'] at h5; exact absurd h5 (by decide))
      | (simp at h5; omega)
  cases hwl with
  | cons w1 w2 =>
    cases w2
    cases w1 with
    | list ho hall=>exact ⟨_,_,ns,rfl,rfl,ho,ints_of_wellAll ns _ hall,hlen⟩
theorem post_true (l:OpenLaw) (args:List WData):l.row.toRowW.claim.post args (.bool true) args=true :=
  postW_of (r:=l.row.toRowW) (X:=(true==true))
    (show WShape.has [] (.bool true) .bool=true by first | rfl | decide | simp [WShape.has,WShape.arms,WShape.armsAll])
    (show (WTm.eq .res (.lit (.bool true))).value [] { args:=args,res:=some (.bool true),after:=args }=some (.bool (true==true)) from w_eq_bool (w_res rfl) w_lit) rfl
section
variable {prog:Program} {w:World} {A:Around} {E:Value→Shared→Prop} {s:Shared} {K:Frag}
def ledger (h:Heap) (L d:Addr):List (Addr×Obj):=(List.range h.objs.size).filterMap fun a=>if a=L∨a=d then none else (h.get? a).map fun o=>(a,o)
end
end Att
namespace L2
open PySem PySem.Spec PyProof.Rows
theorem vals_ints:∀ {vs:List Value} {ns:List Int},IntsAre vs ns→Vals (ns.map V.int) vs
  | _,_,.nil=>.nil
  | _,_,.cons n t h=>.cons ⟨t,rfl⟩ (vals_ints h)
def Only (H:Hp):Prop:=∀ b,H b=none∨∃ o xs,H b=some (.frz o (.lst xs))
theorem law_call {P:Program} {w:World} {K:PySem.W.Frag} {mg mb:Str→Option Value} {CX:CXT} {k:Nat} {fa a:Addr} {fd:FuncData} {x:Str} {sp:Sp} {s₁:Shared} {vs:List Value} {ns:List Int}
    (KX:K.In s₁.heap) (hns:s₁.heap.Ns mainGlobals mg) (hb:s₁.heap.Ns builtinsNs mb) (hbb:∀ x:Str,x ≠ "__name__" → mb x=bootBuiltins x) (hlim:s₁.heap.NoLimit) (hg:s₁.gens=#[])
    (ha:s₁.heap.get? a=some { cls:=.type "list", data:=.seq vs.toArray }) (hi:IntsAre vs ns) (hl:ns.length≤sizeLine) (hr:Room k callerA)
    (F:∀ base:Heap,K.In base→base.Ns mainGlobals mg→FnOk P w K mg base CX k fa fd [x] sp) (hbind:∀ (s:Shared) (u:Value),BindsTo s fd ⟨[u],[]⟩ [(x,u)])
    (hsp:∀ H:Hp,Only H→SqL K H a (ns.map V.int)→sp [.ref a] H (fun v _=>v=.bl true) fun _ _ _=>False)
    (hCX:∀ H e s',CX [] H s₁ (fun _ _ _=>False) e s'→False) :
    codeAny (model P w) callerA (.call (.ref fa) ⟨[.ref a],[]⟩) (fun r s'=>r=.ok (.ret (.bool true))∧OldK s₁.heap s'.heap∧s'.os=s₁.os∧AllBare s'.gens) s₁:=by
  have rv:=vals_ints hi
  have lenV:=hi.length
  have core:∀ H:Hp,Only H→SqL K H a (ns.map V.int)→HOk P w H s₁.heap→(∀ b,H b≠none→b=a)→(H a≠none→K.lookup a=none) →
      codeAny (model P w) callerA (.call (.ref fa) ⟨[.ref a],[]⟩) (fun r s'=>r=.ok (.ret (.bool true))∧OldK s₁.heap s'.heap∧s'.os=s₁.os∧AllBare s'.gens) s₁:=by
    intro H hO hS hok hA hK
    have base_of:∀ {b:Addr} {o:Obj},s₁.heap.get? b=some o→H b=none→(hidT s₁.heap H).get? b=some o:=fun e n=>hidT_get e n
    have noA:∀ {b:Addr} {o:Obj} {es:Array DictEntry} {ep:Nat},s₁.heap.get? b=some o→o.data=.dict es ep→H b=none:=fun {b o es ep} e d=>by
      cases q:H b with
      | none=>rfl
      | some u =>
        have e':b=a:=hA b (by rw [q]; simp)
        subst e'
        rw [ha] at e; cases e
        have d':Data.seq vs.toArray _=Data.dict es ep:=d
        cases d'
    have nsK:∀ {b:Addr} {m:Str→Option Value},s₁.heap.Ns b m→(hidT s₁.heap H).Ns b m:=fun {b m} ⟨o,es,ep,e,d,r⟩=>⟨o,es,ep,base_of e (noA e d),d,r⟩
    have hKb:K.In (hidT s₁.heap H):=fun b o e=>base_of (KX b o e) (by
      cases q:H b with
      | none=>rfl
      | some u =>
        have e':b=a:=hA b (by rw [q]; simp)
        subst e'
        rw [hK (by rw [q]; simp)] at e; cases e)
    have hM:Mod K mg (hidT s₁.heap H):=⟨hKb,nsK hns,⟨mb,nsK hb,hbb⟩,let ⟨mc,h1,h2⟩:=hlim; ⟨mc,nsK h1,h2⟩⟩
    have e0:Env0 P w K mg (hidT s₁.heap H) callerA [] s₁ H:=⟨rfl,hM,fun b o e=>of_hidT e,Nat.le_of_eq (hidT_size _ _),trivial,fun b hb=>absurd (show b∈([]:List Addr) from hb) (by simp),hok,.of_eq hg⟩
    refine codeAny_mono ((F _ hKb (nsK hns)).run callerA [] s₁ H ⟨[.ref a],[]⟩ [.ref a] [.ref a] _ _ hr e0 (hbind s₁ (.ref a)) (.cons rfl .nil) (hsp H hO hS)) fun r s' h=>?_
    cases r with
    | error e=>exact (hCX H e s' h).elim
    | ok fl =>
      cases fl with
      | next=>exact False.elim h
      | brk=>exact False.elim h
      | cont=>exact False.elim h
      | ret u =>
        obtain ⟨v,H',os,bare,un,hok',r',q⟩:=h
        have q':v=.bl true:=q
        subst q'
        obtain rfl:u=Value.bool true:=r'
        refine ⟨rfl,OldK.of_keep fun b o e=>?_,os,bare⟩
        cases q:H b with
        | none=>exact un.keep b o e q (by intro z; exact absurd (show b∈([]:List Addr) from z) (by simp)) (by simp)
        | some u =>
          rcases hO b with z | ⟨ob,xs,z⟩
          · rw [q] at z; cases z
          · have z2:=un.frzs b ob _ z
            obtain ⟨e1,_⟩:=hok b _ z
            obtain ⟨e2,_⟩:=hok' b _ z2
            rw [e] at e1; cases e1
            exact e2
  cases hk:K.lookup a with
  | some o =>
    have e:=KX a o hk
    rw [ha] at e
    cases e
    refine core (fun _=>none) (fun _=>.inl rfl) (.inr ⟨_,vs.toArray,_,hk,rfl,rfl,rfl,by rw [List.size_toArray,lenV]; exact hl,by simpa using rv⟩) (fun b u z=>by have z':(none:Option HO)=some u:=z; cases z') (fun b z=>absurd rfl z) fun z=>absurd rfl z
  | none =>
    refine core (fun b=>if b=a then some (.frz { cls:=.type "list", data:=.seq vs.toArray } (.lst (ns.map V.int))) else none) (fun b=>?_) (.inl (.inr ⟨{ cls:=.type "list", data:=.seq vs.toArray },if_pos rfl⟩)) (fun b u z=>?_) (fun b z=>?_) fun _=>hk
    · by_cases hb:b=a
      · exact .inr ⟨_,_,if_pos hb⟩
      · exact .inl (if_neg hb)
    · by_cases hb:b=a
      · have z':=(if_pos hb).symm.trans z
        cases z'
        subst hb
        exact ⟨ha,by rw [List.length_map]; exact hl,vs,_,rv,ha⟩
      · have z':=(if_neg hb).symm.trans z
        cases z'
    · by_cases hb:b=a
      · exact hb
      · exact absurd (if_neg hb) z
end L2
namespace L2
open PySem PySem.Spec PyProof.Rows
abbrev KOf {K:PySem.W.Frag} {h:Heap} (_:K.In h):PySem.W.Frag:=K
end L2
namespace L2
open PySem PySem.Spec PyProof.Rows
def zbs (s:Stmt):Arguments:=match s with
  | .FunctionDef _ a _ _ _ _ _ _ _ _=>a
  | _=>{ posonlyargs:=[],args:=[],vararg:=none,kwonlyargs:=[],kw_defaults:=[],kwarg:=none,defaults:=[] }
def zbh (s:Stmt):List Stmt:=match s with
  | .FunctionDef _ _ b _ _ _ _ _ _ _=>b
  | _=>[]
def zao (s:Stmt):Scope:=match s with
  | .FunctionDef _ _ _ _ _ _ sc _ _ _=>sc
  | _=>{ kind:=.function,names:=[],isGenerator:=false,isCoroutine:=false }
abbrev CX0:CXT:=fun _ _ _ _ _ _=>False
abbrev E0:XK:=fun _ _ _=>False
theorem zbk {X:Cx}:zii CX0 X E0:=fun _ _ _ _ _ _ _ h=>h.elim
structure Fun (K:PySem.W.Frag) (x qual:Str) (st:Stmt) (f:Addr) (fd:FuncData):Prop where
  ex:∃ (oc:Value) (od:Option Addr) (kV doc pm:Value) (an:Option Addr) (cdv ct:Value) (osl:Array (Option Value)),
    fd=PySem.W.fnOf x qual (zbs st) (zbh st) (zao st) .none kV doc pm an cdv ct∧K.lookup f=some ⟨oc,od,.func fd,osl⟩∧PySem.W.codeIn K cdv qual=true
  kp:PySem.W.keepIn K (.ref f)=true
section
variable {P:Program} {w:World} {K:PySem.W.Frag} {mg:Str→Option Value} {base:Heap}
theorem Fun.ok {x qual:Str} {st:Stmt} {f:Addr} {fd:FuncData} {N ps:List Str} {k:Nat} {sp:Sp} (F:Fun K x qual st f fd) (S:FnScope N ps (zao st)) (len:∀ vs H Q E,sp vs H Q E→vs.length=ps.length)
    (hbody:∀ (cdv:Value) (A:Around) (outer:List Env) (s:Shared) (H:Hp) (vs:List V) (Q:VK) (E:XK),Room k (A.deeper (envOfC qual (zao st) s.heap.objs.size f cdv))→sp vs H Q E →
      ∃ t,PSs (cxOf CX0 P w K mg base N qual (zao st) f cdv A outer s H E).nox (zbh st) t∧t { nx:=fun _ H'=>Q .non H',rt:=Q } (start N vs) H):FnOk P w K mg base CX0 (k+1) f fd ps sp:=by
  obtain ⟨oc,od,kV,doc,pm,an,cdv,ct,osl,rfl,lk,hcd⟩:=F.ex
  refine fn_of lk hcd S len fun A outer s H vs Q E hr hsp=>?_
  obtain ⟨t,h,q⟩:=hbody cdv A outer s H vs Q E hr hsp
  exact ⟨t,h.nox,q⟩
theorem Fun.binds {x qual:Str} {st:Stmt} {f:Addr} {fd:FuncData} {ps:List Str} (F:Fun K x qual st f fd)
    (h:∀ (kV doc pm:Value) (an:Option Addr) (cdv ct:Value) (us:List Value),us.length=ps.length→bindArgs (PySem.W.fnOf x qual (zbs st) (zbh st) (zao st) .none kV doc pm an cdv ct) ⟨us,[]⟩=pure (ps.zip us)):Binds K fd ps []:=by
  obtain ⟨oc,od,kV,doc,pm,an,cdv,ct,osl,rfl,lk,hcd⟩:=F.ex
  exact .all (h kV doc pm an cdv ct)
theorem zcs {x qual:Str} {st:Stmt} {f:Addr} {oc:Value} {od an:Option Addr} {osl:Array (Option Value)} {kV doc pm cdv ct:Value} (l:K.lookup f=some ⟨oc,od,.func (PySem.W.fnOf x qual (zbs st) (zbh st) (zao st) .none kV doc pm an cdv ct),osl⟩)
    (c:PySem.W.codeIn K cdv qual=true) (k:PySem.W.keepIn K (.ref f)=true):Fun K x qual st f (PySem.W.fnOf x qual (zbs st) (zbh st) (zao st) .none kV doc pm an cdv ct):=⟨⟨oc,od,kV,doc,pm,an,cdv,ct,osl,rfl,l,c⟩,k⟩
end
section
variable {X:Cx}
theorem pv (i:Nat) {x:Str} {pos:Pos} (hN:X.N[i]?=some x:=by rfl) (hv:Vis X.env.scope x:=by first | exact Or.inl rfl | exact Or.inr (Or.inl rfl) | exact Or.inr (Or.inr rfl)) (hd:(x==("__debug__" : Str))=false:=by decide)
    (hcd:(x==("__classdict__" : Str))=false:=by decide):PE X (.Name x pos) (tVar i):=pe_var hN hv hd hcd
end
theorem iteF {A B:Prop} (h:B):if false=true then A else B:=by
  rw [if_neg Bool.false_ne_true]
  exact h
theorem iteT {A B:Prop} (h:A):if true=true then A else B:=by
  rw [if_pos rfl]
  exact h
def Same (H H':Hp):Prop:=∀ b o,H b=some o→H' b=some o
theorem Same.refl (H:Hp):Same H H:=fun _ _ h=>h
theorem Same.trans {H H1 H2:Hp} (a:Same H H1) (b:Same H1 H2):Same H H2:=fun c o h=>b c o (a c o h)
theorem Same.free {H H':Hp} (e:Same H H') {l:Addr} (h:H' l=Option.none):H l=Option.none:=by
  cases q:H l with
  | none=>rfl
  | some o =>
    rw [e l o q] at h
    cases h
end L2
namespace L2
open PySem PySem.Spec PyProof.Rows
section
variable {X:Cx}
theorem zh1:OpR X (binaryOp .Mult) (rI IntMulOk fun i j=>.int (i*j)):=opI fun _ _ _ _ _ _ _ hc q=>mul_int q hc
theorem op_fdivB:OpR X (binaryOp .FloorDiv) (rI (fun _ j=>0<j∧j.natAbs.log2<9000) fun i j=>.int (i / j)):=opI fun i j _ _ _ _ _ hc q=>by
  have h1:(0:Int)<j:=hc.1
  exact floordiv_int (by omega) (by rw [Int.fdiv_eq_ediv_of_nonneg i (by omega)]; exact q) (.inl (PyProof.noPylong_of_log2 hc.2))
theorem call_isi:zhu X (.builtin "isinstance") (fun xs H Q=>∃ x n t b,xs=[x,.ty n]∧TyOf X.K H x t∧PySem.W.kitOne X.K t (.type n)=some b∧Q (.bl b) H):=by
  intro pins s σ H xs us Q I r h
  obtain ⟨x,n,t,b,rfl,ty,e,q⟩:=h
  obtain ⟨u,w',rfl,rx,ry⟩:=zmw r
  cases ry
  exact isinst_ok I rx ty e fun tk=>⟨.bl b,H,I.tok _,rfl,q⟩
theorem zew {α:Type} [DecidableEq α] {ns ms:List α} (d:α) (h:ns.length=ms.length):((List.range ns.length).all fun j=>decide (ns.getD j d=ms.getD j d))=decide (ns=ms):=by
  rw [Bool.eq_iff_iff,List.all_eq_true,decide_eq_true_iff]
  constructor
  · intro H
    refine List.ext_getElem h fun i h1 h2=>?_
    have:=of_decide_eq_true (H i (List.mem_range.mpr h1))
    rw [List.getD_eq_getElem?_getD,List.getD_eq_getElem?_getD,List.getElem?_eq_getElem h1,List.getElem?_eq_getElem h2] at this
    exact this
  · rintro rfl i _
    simp
theorem eqAt_items {α:Type} [DecidableEq α] {A:Around} {s:Shared} {us ws:List Value} {ns ms:List α} {d:α} (hl:us.length=ns.length) (hl2:ws.length=ms.length)
    (h:∀ (j:Nat) (u v:Value) (a b:α),us[j]?=some u→ws[j]?=some v→ns[j]?=some a→ms[j]?=some b→SeqAt.EqAt A s u v (decide (a=b))) :
    ∀ j (h1:j<us.toArray.size) (h2:j<ws.toArray.size),SeqAt.EqAt A s us.toArray[j] ws.toArray[j] (decide (ns.getD j d=ms.getD j d)):=by
  intro j h1 h2
  have h1':j<us.length:=by simpa using h1
  have h2':j<ws.length:=by simpa using h2
  have q:=h j us[j] ws[j] ns[j] ms[j] (List.getElem?_eq_getElem h1') (List.getElem?_eq_getElem h2') (List.getElem?_eq_getElem (by omega)) (List.getElem?_eq_getElem (by omega))
  have e1:ns.getD j d=ns[j]:=by rw [List.getD_eq_getElem?_getD,List.getElem?_eq_getElem (by omega)]; rfl
  have e2:ms.getD j d=ms[j]:=by rw [List.getD_eq_getElem?_getD,List.getElem?_eq_getElem (by omega)]; rfl
  rw [e1,e2]
  simpa using q
theorem rcAt_lists {α:Type} [DecidableEq α] [Inhabited α] {A:Around} {s:Shared} {l b:Addr} {us ws:List Value} {ns ms:List α} (p1:s.heap.IsList l us.toArray) (p2:s.heap.IsList b ws.toArray) (hl:us.length=ns.length) (hl2:ws.length=ms.length) (hu:A.units<cLine)
    (h:∀ (j:Nat) (u v:Value) (a b:α),us[j]?=some u→ws[j]?=some v→ns[j]?=some a→ms[j]?=some b→SeqAt.EqAt A.in1 s u v (decide (a=b))) :
    SeqAt.RcAt A s (.ref l) (.ref b) (decide (ns=ms)):=by
  by_cases hs:ns.length=ms.length
  · have q:=SeqAt.RcAt.lists (e:=fun j=>decide (ns.getD j default=ms.getD j default)) p1 p2 (by simp; omega) hu (eqAt_items hl hl2 h)
    have e:((List.range us.toArray.size).all fun j=>decide (ns.getD j default=ms.getD j default))=decide (ns=ms):=by
      rw [List.size_toArray,hl]; exact zew default hs
    rw [e] at q
    exact q
  · have q:=SeqAt.RcAt.lists_lengths p1 p2 (by simp; omega) hu
    have e:decide (ns=ms)=false:=decide_eq_false fun z=>hs (by rw [z])
    rw [e]
    exact q
theorem rcNeAt_lists {α:Type} [DecidableEq α] [Inhabited α] {A:Around} {s:Shared} {l b:Addr} {us ws:List Value} {ns ms:List α} (p1:s.heap.IsList l us.toArray) (p2:s.heap.IsList b ws.toArray) (hl:us.length=ns.length) (hl2:ws.length=ms.length) (hu:A.units<cLine)
    (h:∀ (j:Nat) (u v:Value) (a b:α),us[j]?=some u→ws[j]?=some v→ns[j]?=some a→ms[j]?=some b→SeqAt.EqAt A.in1 s u v (decide (a=b))) :
    SeqAt.RcNeAt A s (.ref l) (.ref b) (!decide (ns=ms)):=by
  by_cases hs:ns.length=ms.length
  · have q:=SeqAt.RcNeAt.lists (e:=fun j=>decide (ns.getD j default=ms.getD j default)) p1 p2 (by simp; omega) hu (eqAt_items hl hl2 h)
    have e:((List.range us.toArray.size).all fun j=>decide (ns.getD j default=ms.getD j default))=decide (ns=ms):=by
      rw [List.size_toArray,hl]; exact zew default hs
    rw [e] at q
    exact q
  · have q:=SeqAt.RcNeAt.lists_lengths p1 p2 (by simp; omega) hu
    have e:decide (ns=ms)=false:=decide_eq_false fun z=>hs (by rw [z])
    rw [e]
    exact q
end
open PySem.W in
theorem bits_of_lay {ns:List Int} (h:WData.layableAll [WData.list (ns.map WData.int)]=true):∀ n∈ns,Builtin.Int.intBits n≤1048576:=by
  have w:WData.weight (.list (ns.map WData.int))≤2 ^ 20:=by
    unfold WData.layableAll WData.layable at h
    simp only [List.all_cons,List.all_nil,Bool.and_true,Bool.and_eq_true,decide_eq_true_eq] at h
    exact h.2
  have key:∀ (ms:List Int),∀ n∈ms,Builtin.Int.intBits n≤WData.weightAll (ms.map WData.int):=by
    intro ms
    induction ms with
    | nil=>intro n hn; cases hn
    | cons m ms ih =>
      intro n hn
      rw [List.map_cons,WData.weightAll]
      rcases List.mem_cons.mp hn with rfl | hn
      · have e:WData.weight (.int n)=Builtin.Int.intBits n:=by simp [WData.weight,Builtin.Int.intBits]
        omega
      · have:=ih n hn
        omega
  intro n hn
  have q:=key ns n hn
  have e:WData.weight (.list (ns.map WData.int))=WData.weightAll (ns.map WData.int):=by simp [WData.weight]
  rw [e] at w
  exact Nat.le_trans q w
theorem walk_ofB {l:PySem.W.OpenLaw} {n k:Nat} {q:Program} {loose:List Str} {XP:(Str→Option Value)→Heap→Prop} {YP:World→Heap→Prop} {d:DefRec} {K:Params→PySem.W.Frag} {CX:World→CXT} {sp:World→Sp} {x:Str}
    (hn:l.most=some n) (hn2:n≤sizeLine) (hdf:d.params.defaults=[]) (hr:Room k callerA)
    (hY:∀ (w:World) (h:Heap),YP w h→(K w.params).In h)
    (F:∀ (w:World) (mg:Str→Option Value) (fa:Addr) (h:Heap),(K w.params).In h→h.Ns mainGlobals mg→mg d.name=some (.ref fa) →
      ∃ fd:FuncData,(∀ (s:Shared) (u:Value),BindsTo s fd ⟨[u],[]⟩ [(x,u)]) ∧
        ∀ base:Heap,(K w.params).In base→base.Ns mainGlobals mg→FnOk l.prog w (K w.params) mg base (CX w) k fa fd [x] (sp w))
    (hsp:∀ (w:World) (H:Hp) (a:Addr) (ns:List Int),ns.length≤n→(∀ m∈ns,Builtin.Int.intBits m≤1048576)→Only H→SqL (K w.params) H a (ns.map V.int)→sp w [.ref a] H (fun v _=>v=.bl true) fun _ _ _=>False)
    (hCX:∀ (w:World) (H:Hp) (s:Shared) (e:Value) (s':Shared),CX w [] H s (fun _ _ _=>False) e s'→False) :
    PySem.W.WalkO q loose XP YP l.row.toRowW d [] (fun f vs=>PySem.call f vs):=by
  intro w s₀ s₁ mg mb G Y fa o pm cd doc dV kV ho hd hcd hD hmg hg args vals as hpre hlay hrd hwl hlo
  obtain rfl:dV=.none:=PySem.W.Dflts.none hD hdf
  obtain rfl:kV=.none:=PySem.W.Dflts.noKw hD
  obtain ⟨a,vs,ns,rfl,rfl,hobj,hints,hlen⟩:=Att.script_of hn hpre hwl
  have KX:=hY w _ Y
  obtain ⟨fd,hb,hF⟩:=F w mg fa _ KX G.T.g hmg
  refine PySem.W.enter_call (codeAny_mono (law_call KX G.T.g G.T.b G.T.builtins G.T.nolimit hg hobj hints (Nat.le_trans hlen hn2) hr hF hb (fun H hO hS=>hsp w H a ns hlen (bits_of_lay hlay) hO hS) fun H e s'=>hCX w H s₁ e s') fun r s' hq=>?_)
  obtain ⟨rfl,h2,h3,h4⟩:=hq
  exact ⟨.inl ⟨.bool true,.bool true,[],rfl,fun _=>rfl,.bool true,Att.post_true l _,fun _=>⟨List.Pairwise.nil,fun _ hm=>(nomatch hm)⟩⟩,h2,h3,h4⟩
end L2
namespace L2
open PySem PySem.Spec PyProof.Rows
def compCx (X:Cx) (N':List Str) (scope:Scope) (cl:List (Str×Addr)) (C:Addr) (s3:Shared) (H3:Hp) (fp:List Addr) (pins:List (Addr×Obj)):Cx :=
  { X with N:=N',s₀:=s3,H₀:=H3,env:=compEnvC scope cl C X.env,outer:=X.stack,stack:=X.stack,ex:=fp,fn:=fun _=>false,pn:=X.pn++pins,xe:=fun _ _=>False }
structure Frees (X:Cx) (N':List Str) (scope:Scope) (cl:List (Str×Addr)) (σ σ0:St):Prop where
  sub:∀ x c,cl.lookup x=some c→X.env.cells.lookup x=some c
  vals:∀ (j:Nat) (x:Str) (v:V),N'[j]?=some x→σ0[j]?=some (some v)→∃ (i:Nat) (c:Addr),X.N[i]?=some x∧σ[i]?=some (some v)∧Vis X.env.scope x∧X.env.kindOf x≠some .local∧cl.lookup x=some c ∧
    ((relabel scope X.env).names.lookup x=some .cell∨(relabel scope X.env).names.lookup x=some .free)
  has:∀ x,((relabel scope X.env).names.lookup x=some .cell∨(relabel scope X.env).names.lookup x=some .free)→∃ c,cl.lookup x=some c
  len:σ0.length=N'.length
section
variable {prog:Program} {w:World} {A:Around} {R:Result→Shared→Prop} {s:Shared}
theorem compLoop_gen {elt target iter:Expr} {ifs:List Expr} {scope:Scope} {pos:Pos} {it acc:Value} {env:Env} (I:Nat→Shared→Prop)
    (turn:∀ n s,I n s→wpAny (model prog w) A (pyNext it) (fun r s₁=>match r with
      | none=>R (.ok .next) s₁
      | some v=>wpAny (model prog w) A (letOwnedTupleGo target it v) (fun _ s₀=>wpAny (model prog w) A (assign target env v) (fun _ s₂ =>
          wpAny (model prog w) A (forIn ifs true fun c r=>if r=true then do let ok ← isTrue c env (eval c env); pure (ForInStep.yield ok) else pure (ForInStep.yield r)) (fun ok s₃ =>
            if ok=true then wpAny (model prog w) A (eval elt env) (fun x s₄ =>
              wpAny (model prog w) A (call (.builtin "list.append") [acc,x]) (fun _ s₅=>∃ m,m<n∧I m s₅) (fun _ _=>False) s₄) (fun _ _=>False) s₃
            else ∃ m,m<n∧I m s₃) (fun _ _=>False) s₂) (fun _ _=>False) s₀) (fun _ _=>False) s₁) (fun _ _=>False) s)
    (n:Nat) (h:I n s) :
    codeAny (model prog w) A (.compLoop (.ListComp elt [⟨target,iter,ifs,0⟩] scope pos) 0 it acc env) R s:=by
  refine codeAny_loop rfl I (fun n s hI=>?_) n h
  show wpAny _ A ((compTurn (.ListComp elt [⟨target,iter,ifs,0⟩] scope pos) 0 it acc env).onRaise (fun x=>do noteFrame x env; theTreesLotGoes x)) _ _ s
  refine wpAny_noted ?_
  rw [compTurn_list]
  refine wpAny_bind (wpAny_standAt (wpAny_bind (wpAny_mono (turn n s hI) (fun r s₁ h₁=>?_) fun _ _ h'=>h'.elim)))
  cases r with
  | none=>exact wpAny_pure h₁
  | some v =>
    refine wpAny_bind (wpAny_mono h₁ (fun _ s₀ h₀=>?_) fun _ _ h'=>h'.elim)
    refine wpAny_bind (wpAny_mono h₀ (fun _ s₂ h₂=>wpAny_bind (wpAny_mono h₂ (fun ok s₃ h₃=>?_) fun _ _ h'=>h'.elim)) fun _ _ h'=>h'.elim)
    cases ok with
    | false=>exact wpAny_pure ⟨rfl,h₃⟩
    | true =>
      exact wpAny_bind (wpAny_bind (wpAny_mono h₃ (fun x s₄ h₄=>wpAny_bind (wpAny_mono h₄ (fun _ s₅ h₅=>wpAny_pure (wpAny_pure ⟨rfl,h₅⟩)) fun _ _ h'=>h'.elim)) fun _ _ h'=>h'.elim))
end
def znc (J:It) (g:TG) (tt:TT) (te:TE) (σ0:St) (H1:Hp) (Q:VK):Prop:=∀ D,H1 D=none→∃ W:Nat→Nat→List V→Hp→Prop,(∃ m,W 0 m [] (upd H1 D (.lst []))) ∧
  ∀ i m ys H,W i m ys H→(J.stop i H∧H D=some (.lst ys)∧Q (.ref D) H) ∨
    (J.go i H∧∀ x H',J.yld i H x H'→g x σ0 H' fun σ2 H2=>tt σ2 H2 fun c H3 =>
      if c=true then te σ2 H3 fun v H4=>H4 D=some (.lst ys)∧ys.length<sizeLine∧∃ m',m'<m∧W (i+1) m' (ys++[v]) (upd H4 D (.lst (ys++[v])))
      else ∃ m',m'<m∧W (i+1) m' ys H3)
def zlo (g:TG) (σ0:St):Prop:=∀ x H (Q:St→Hp→Prop),g x σ0 H Q→g x σ0 H fun σ2 H2=>Q σ2 H2∧σ2.length=σ0.length∧∀ (j:Nat) v,σ0[j]?=some (some v)→σ2[j]?=some (some v)
section
variable {X:Cx} {tg elt iter:Expr} {ifs:List Expr} {scope:Scope} {cl:List (Str×Addr)} {N':List Str} {σ0:St→St} {g:TG} {tt:TT} {te:TE}
theorem comp_block {pos:Pos} {pins:List (Addr×Obj)} {σ:St} {H1:Hp} {s2:Shared} {it:Addr} {fp:List Addr} {tn:Nat→Heap→Prop} {J:It} {Q:VK} {RR:Value→Addr→Result→Shared→Prop}
    (hc:X.calm=true) (hcell:∀ y∈scope.names,y.2≠.cell) (hkind:scope.kind=.function)
    (I:Inv X pins σ H1 s2) (T:Turn X.prog X.w X.K tg J fp it tn) (st:tn 0 s2.heap) (hfp:∀ b∈fp,FpOk X pins H1 b) (fr:Frees X N' scope cl σ (σ0 σ)) (hk:zlo g (σ0 σ))
    (hg:∀ C s3 H3 fp pins,PG (compCx X N' scope cl C s3 H3 fp pins) tg g)
    (ht:∀ C s3 H3 fp pins (pl:List (Addr×Obj)) (s:Shared) (σ:St) (H:Hp) (Q:Bool→Hp→Prop),Inv (compCx X N' scope cl C s3 H3 fp pins) pl σ H s→tt σ H Q →
      wpAny (model X.prog X.w) X.A (forIn ifs true fun c r=>if r=true then do let ok ← isTrue c (compEnvC scope cl C X.env) (eval c (compEnvC scope cl C X.env)); pure (ForInStep.yield ok) else pure (ForInStep.yield r)) (TP (compCx X N' scope cl C s3 H3 fp pins) pl σ Q) (fun _ _=>False) s)
    (he:∀ C s3 H3 fp pins,PE (compCx X N' scope cl C s3 H3 fp pins) elt te) (hw:znc J g tt te (σ0 σ) H1 Q)
    (hRR:∀ D C s' H' m,Inv X pins σ H' s'→s'.heap.Ns C m→H' C=none→C≠X.env.locals→X.s₀.heap.objs.size≤C→(∀ x c,X.env.cells.lookup x=some c→c≠C)→(∀ p∈X.pn++pins,p.1≠C)→Q (.ref D) H'→RR (.ref D) C (.ok .next) s') :
    wpAny (model X.prog X.w) X.A (newList []) (fun acc s₃=>wpAny (model X.prog X.w) X.A (newFunctionEnv scope X.env.globals cl [] X.env.qual none .none (some X.env)) (fun cenv s₄ =>
      codeAny (model X.prog X.w) X.A (.compStart (.ListComp elt [⟨tg,iter,ifs,0⟩] scope pos) 0 (.ref it) acc { cenv with scope:=relabel scope X.env }) (RR acc cenv.locals) s₄) X.xe s₃) X.xe s2:=by
  refine wpAny_newObj_type (hd:=by size_fits) (wpAny_newFunctionEnv hcell (by intro y hy; simp at hy) (fun h₁ hns₁ hsb₁=>?_) hkind)
  dsimp only at hns₁ hsb₁ ⊢
  have I3:Inv X pins σ (upd H1 s2.heap.objs.size (.lst [])) { s2 with heap:=s2.heap.push { cls:=.type "list", dict:=none,data:=.seq ([]:List Value).toArray } }:=I.lnew (t':=s2.toks) (its:=[]) (ys:=[]) .nil (Nat.zero_le _)
  obtain ⟨W,⟨m0,w0⟩,turn⟩:=hw s2.heap.objs.size I.fresh
  have hfpo:=T.obj 0 _ st
  have fpl:∀ b∈fp,b<s2.heap.objs.size:=fun b hb=>by
    obtain ⟨o,e,_⟩:=hfpo b hb
    exact Heap.lt_size e
  have fD:∀ b∈fp,upd H1 s2.heap.objs.size (.lst []) b=none:=fun b hb=>by
    rw [upd_ne (Nat.ne_of_lt (fpl b hb))]
    exact (hfp b hb).1
  generalize hs3:({ s2 with heap:=s2.heap.push { cls:=.type "list", dict:=none,data:=.seq ([]:List Value).toArray } }:Shared)=s3 at I3
  have es3:s3.heap=s2.heap.push { cls:=.type "list", dict:=none,data:=.seq ([]:List Value).toArray }:=by rw [← hs3]
  have st3:tn 0 s3.heap:=T.keep _ _ _ st fun b hb o e=>by rw [es3]; exact Heap.get?_push_of_some _ e
  rw [← es3] at hns₁ hsb₁ ⊢
  have sz3:s2.heap.objs.size<s3.heap.objs.size:=by rw [es3,Heap.size_push]; exact Nat.lt_succ_self _
  generalize upd H1 s2.heap.objs.size (.lst [])=H3 at I3 fD w0
  have old:∀ b o,s3.heap.get? b=some o→h₁.get? b=some o:=fun b o e=>hsb₁.extBut b o (Nat.ne_of_lt (Heap.lt_size e)) (Heap.get?_push_of_some _ e)
  have fpl3:∀ b∈fp,b<s3.heap.objs.size:=fun b hb=>Nat.lt_trans (fpl b hb) sz3
  have stk:∀ b∈fp,b∉frs X.stack:=fun b hb z=>by
    rcases List.mem_cons.mp (I3.stkSub b z) with e | e
    · exact (hfp b hb).2.1 e
    · exact (hfp b hb).2.2.1 e
  have ok:(compCx X N' scope cl s3.heap.objs.size s3 H3 fp pins).Ok:=by
    refine ⟨I3.ok.mod,hkind,I3.ok.glob,I3.ok.blt,Nat.le_refl _,fun x y c h1 h2=>I3.ok.inj x y c (fr.sub x c h1) (fr.sub y c h2),fun x h=>fr.has x h,fun x c h _=>(by cases h),I3.ok.hd,I3.ok.frames,.inl rfl,
      fun b hb=>⟨Nat.ne_of_lt (fpl3 b hb),fun x c e=>(hfp b hb).2.2.2.2.1 x c (fr.sub x c e)⟩,I3.bs,Nat.le_trans I3.ok.bsz I3.sz,fun b o e hb=>?_,fun b hb=>stk b hb,I3.stack,I3.stkFree⟩
    rcases (hfp b hb).2.2.2.1 with z | z
    · exact I3.ok.noex b o e z
    · have l1:b<X.base.objs.size:=Heap.lt_size e
      have l2:X.base.objs.size≤X.s₀.heap.objs.size:=I3.ok.bsz
      have l3:X.s₀.heap.objs.size≤b:=z
      exact absurd (Nat.lt_of_lt_of_le l1 (Nat.le_trans l2 l3)) (Nat.lt_irrefl _)
  have lt3:X.env.locals<s3.heap.objs.size:=I3.lt
  have start:Inv (compCx X N' scope cl s3.heap.objs.size s3 H3 fp pins) [] (σ0 σ) H3 { s3 with heap:=h₁ }:=by
    refine ⟨ok,rfl,I3.bare,Un.kept old,⟨_,hns₁,fun j x v e1 e2 _=>?_⟩,fun x c e=>?_,I3.hok.fresh (Nat.le_refl _),fun x c e=>I3.freeC x c (fr.sub x c e),fun p hp=>?_,I3.hok.kept old,fr.len⟩
    · obtain ⟨i,c,q1,q2,q3,q4,q5,q6⟩:=fr.vals j x v e1 e2
      obtain ⟨m,hn,hl⟩:=I3.loc
      obtain ⟨u,r,l⟩:=hl i x v q1 q2 q3
      refine ⟨u,r,.inr ⟨q6,c,q5,?_⟩⟩
      rcases l with ⟨k,_⟩ | ⟨_,c',e',z⟩
      · exact absurd k q4
      · rw [fr.sub x c q5] at e'
        cases e'
        obtain ⟨o,ho,hd⟩:=z
        exact ⟨o,old _ _ ho,hd⟩
    · obtain ⟨v,o,ho,hd⟩:=I3.cell x c (fr.sub x c e)
      exact ⟨v,o,old _ _ ho,hd⟩
    · have hp':p∈X.pn++pins:=by simpa [compCx] using hp
      obtain ⟨e,n,ne,nf,d⟩:=I3.pin p hp'
      refine ⟨old _ _ e,n,Nat.ne_of_lt (Heap.lt_size e),fun z=>?_,d⟩
      rcases List.mem_cons.mp (I3.stkSub p.1 z) with q | q
      · exact ne q
      · exact nf q
  have hst₁:tn 0 h₁:=T.keep _ _ _ st3 fun b _ o e=>old b o e
  have fpok:∀ {H':Hp},(∀ b∈fp,H' b=none)→∀ b∈fp,FpOk (compCx X N' scope cl s3.heap.objs.size s3 H3 fp pins) [] H' b:=fun {H'} hn b hb =>
    ⟨hn b hb,Nat.ne_of_lt (fpl3 b hb),stk b hb,.inl hb,fun x c e=>(hfp b hb).2.2.2.2.1 x c (fr.sub x c e),fun p hp=>(hfp b hb).2.2.2.2.2 p (by simpa [compCx] using hp)⟩
  have loop:codeAny (model X.prog X.w) X.A (.compLoop (.ListComp elt [⟨tg,iter,ifs,0⟩] scope pos) 0 (.ref it) (.ref s2.heap.objs.size) (compEnvC scope cl s3.heap.objs.size X.env)) (RR (.ref s2.heap.objs.size) s3.heap.objs.size) { s3 with heap:=h₁ }:=by
    refine compLoop_gen (fun n s'=>∃ i ys H',Inv (compCx X N' scope cl s3.heap.objs.size s3 H3 fp pins) [] (σ0 σ) H' s'∧tn i s'.heap∧(∀ b∈fp,H' b=none)∧W i n ys H') ?_ m0 ⟨0,[],H3,start,hst₁,fD,w0⟩
    rintro n s4 ⟨i,ys,H4,I4,st4,fr4,w4⟩
    rcases turn i n ys H4 w4 with ⟨stop,eD,q⟩ | ⟨go,step⟩
    · refine thn (T.done (compCx X N' scope cl s3.heap.objs.size s3 H3 fp pins) rfl rfl rfl hc i [] s4 _ H4 _ I4 (fpok fr4) st4 stop) fun r s5 ⟨hr,I5⟩=>?_
      subst hr
      obtain ⟨m5,n5,_⟩:=I5.loc
      have J5:Inv X pins σ H4 s5:=I3.call' I5.os I5.base I5.hok I5.bare fun b hb=>⟨(hfp b hb).2.2.2.1,(hfp b hb).2.1,(hfp b hb).2.2.2.2.1,(hfp b hb).2.2.2.2.2⟩
      exact hRR _ _ s5 H4 m5 J5 n5 I5.free (Nat.ne_of_gt lt3) I3.sz (fun x c e z=>by
        obtain ⟨v,o,ho,_⟩:=I3.cell x c e
        exact absurd (Heap.lt_size ho) (by rw [z]; exact Nat.lt_irrefl _)) (fun p hp z=>by
        have e:=(I3.pin p hp).1
        exact absurd (Heap.lt_size e) (by rw [z]; exact Nat.lt_irrefl _)) q
    · refine thn (T.item (compCx X N' scope cl s3.heap.objs.size s3 H3 fp pins) rfl rfl rfl hc i [] s4 _ H4 _ I4 (fpok fr4) st4 go) fun r s5 ⟨u,hr,h5⟩=>?_
      subst hr
      refine thn h5 fun _ s6 ⟨x,H6,I6,r6,y6,st6,fr6⟩=>?_
      have I6':=I6.pinned (fpok fr6) (T.obj _ _ st6)
      refine thn (hg _ _ _ _ _ _ s6 _ H6 x u _ I6' r6 (hk _ _ _ (step x H6 y6))) fun _ s7 ⟨σ7,H7,I7,q7,l7,k7⟩=>?_
      have again:∀ {s8:Shared} {H8:Hp} {m:Nat} {zs:List V},Inv (compCx X N' scope cl s3.heap.objs.size s3 H3 fp pins) ([]++zi8 fp s6.heap) σ7 H8 s8→m<n→W (i+1) m zs H8 →
          ∃ m,m<n∧∃ i ys H',Inv (compCx X N' scope cl s3.heap.objs.size s3 H3 fp pins) [] (σ0 σ) H' s8∧tn i s8.heap∧(∀ b∈fp,H' b=none)∧W i m ys H':=fun {s8 H8 m zs} I8 hm w8=>by
        refine ⟨m,hm,i+1,zs,H8,(Inv.unpinned I8).weak l7.symm k7,T.keep _ _ _ st6 fun b hb o e=>(I8.pin (b,o) (List.mem_append_right _ (List.mem_append_right _ (zdm hb e)))).1,fun b hb=>?_,w8⟩
        obtain ⟨o,e,d⟩:=T.obj _ _ st6 b hb
        exact (I8.pin (b,o) (List.mem_append_right _ (List.mem_append_right _ (zdm hb e)))).2.1
      refine thn (ht _ _ _ _ _ _ s7 σ7 H7 _ I7 q7) fun c s8 ⟨H8,I8,q8⟩=>?_
      cases c with
      | false =>
        rw [if_neg Bool.false_ne_true] at q8 ⊢
        obtain ⟨m',hm,w8⟩:=q8
        exact again I8 hm w8
      | true =>
        rw [if_pos rfl] at q8 ⊢
        refine thn (he _ _ _ _ _ _ s8 σ7 H8 _ I8 q8) fun v s9 ⟨y,H9,I9,r9,e9,z9,m',hm,w9⟩=>?_
        exact thn (zbz _ s9 σ7 H9 (.ref s2.heap.objs.size) [y] (.ref s2.heap.objs.size) [v] (fun _ H'=>H'=upd H9 s2.heap.objs.size (.lst (ys++[y]))) I9 rfl (.cons r9 .nil) ⟨_,ys,y,rfl,rfl,e9,z9,rfl⟩)
          fun _ s10 ⟨_,H10,I10,_,e10⟩=>by subst e10; exact again I10 hm w9
  subst hs3
  exact codeAny_compStart_list loop (T.self _ 0 _ _ _ hst₁ loop)
def zjn (wi:TI) (g:TG) (tt:TT) (te:TE) (σ0:St→St):TE:=fun σ H Q=>wi σ H fun J H1=>znc J g tt te (σ0 σ) H1 Q
def zl1:TT:=fun _ H Q=>Q true H
variable {pos:Pos} {wi:TI}
theorem pe_compG (hc:X.calm=true) (hi:PI X tg iter wi) (fr:∀ σ:St,σ.length=X.N.length→Frees X N' scope cl σ (σ0 σ)) (hk:∀ σ,zlo g (σ0 σ))
    (hg:∀ C s3 H3 fp pins,PG (compCx X N' scope cl C s3 H3 fp pins) tg g)
    (ht:∀ C s3 H3 fp pins (pl:List (Addr×Obj)) (s:Shared) (σ:St) (H:Hp) (Q:Bool→Hp→Prop),Inv (compCx X N' scope cl C s3 H3 fp pins) pl σ H s→tt σ H Q →
      wpAny (model X.prog X.w) X.A (forIn ifs true fun c r=>if r=true then do let ok ← isTrue c (compEnvC scope cl C X.env) (eval c (compEnvC scope cl C X.env)); pure (ForInStep.yield ok) else pure (ForInStep.yield r)) (TP (compCx X N' scope cl C s3 H3 fp pins) pl σ Q) (fun _ _=>False) s)
    (he:∀ C s3 H3 fp pins,PE (compCx X N' scope cl C s3 H3 fp pins) elt te)
    (hclos:closureFor scope X.env=pure cl) (hcell:∀ y∈scope.names,y.2≠.cell) (hkind:scope.kind=.function) (hnames:∀ y∈scope.names,y.2=.local→scope.names.lookup y.1=some .local)
    (hs:∀ x,foldedSetIterable iter X.env x=pure x):PE X (.ListComp elt [⟨tg,iter,ifs,0⟩] scope pos) (zjn wi g tt te σ0):=by
  intro pins s σ H Q I h
  rw [eval_ListComp]
  refine wpAny_comprehension_free (use:=none) rfl hs hclos hkind hnames (thn (hi pins s σ H _ I h) fun v s1 h1=>thn h1 fun itv s2 h2=>?_)
  obtain ⟨it,fp,tn,J,H2,e,I2,T,st2,f2,q⟩:=h2
  subst e
  refine comp_block (RR:=fun acc C=>compPost (model X.prog X.w) X.A X.xe none (EP X pins σ Q) acc C) hc hcell hkind I2 T st2 f2 (fr σ I.len) (hk σ) hg ht he q ?_
  intro D C s' H' m I' hn hC h1 h2 h3 h4 q'
  refine ⟨m,hn,fun h'' hs''=>⟨.ref D,H',?_,rfl,q'⟩⟩
  exact I'.turned (t':=s'.toks) (fun b o hb e=>hs''.extBut b o hb e) hC h1 (.inr h2) h3 h4
def zl2 (t:TE) (i:Nat):TS:=fun D σ H=>t σ H fun x H1=>D.nx (σ.set i (some x)) H1
theorem ps_setCG {i:Nat} {x:Str} {pos' spos:Pos} (hN:X.N.Nodup) (hi':X.N[i]?=some x) (hx:Loc X.env.scope x) (hf:X.fn x=true∨X.env.scope.names.lookup x=some .local)
    (hc:X.calm=true) (hi:PI X tg iter wi) (fr:∀ σ:St,σ.length=X.N.length→Frees X N' scope cl σ (σ0 σ)) (hk:∀ σ,zlo g (σ0 σ))
    (hg:∀ C s3 H3 fp pins,PG (compCx X N' scope cl C s3 H3 fp pins) tg g)
    (ht:∀ C s3 H3 fp pins (pl:List (Addr×Obj)) (s:Shared) (σ:St) (H:Hp) (Q:Bool→Hp→Prop),Inv (compCx X N' scope cl C s3 H3 fp pins) pl σ H s→tt σ H Q →
      wpAny (model X.prog X.w) X.A (forIn ifs true fun c r=>if r=true then do let ok ← isTrue c (compEnvC scope cl C X.env) (eval c (compEnvC scope cl C X.env)); pure (ForInStep.yield ok) else pure (ForInStep.yield r)) (TP (compCx X N' scope cl C s3 H3 fp pins) pl σ Q) (fun _ _=>False) s)
    (he:∀ C s3 H3 fp pins,PE (compCx X N' scope cl C s3 H3 fp pins) elt te)
    (hclos:closureFor scope X.env=pure cl) (hcell:∀ y∈scope.names,y.2≠.cell) (hkind:scope.kind=.function) (hnames:∀ y∈scope.names,y.2=.local→scope.names.lookup y.1=some .local)
    (hs:∀ x,foldedSetIterable iter X.env x=pure x) (hsw:swapsWith (.ListComp elt [⟨tg,iter,ifs,0⟩] scope pos) (some (.Name x pos')) spos.line X.env=pure true) :
    PS X (.Assign [.Name x pos'] (.ListComp elt [⟨tg,iter,ifs,0⟩] scope pos) spos) (zl2 (zjn wi g tt te σ0) i):=by
  intro pins s σ H D I h
  rw [exec_Assign_Name_used _ _ _ _ hsw]
  refine wpAny_bind (wpAny_standAt (wpAny_bind ?_))
  show wpAny _ X.A (do let _ ← comprehension (.ListComp elt [⟨tg,iter,ifs,0⟩] scope pos) scope X.env _ (newList []) false (eval iter X.env) (some (assign (.Name x pos') X.env))) _ _ s
  refine wpAny_bind (wpAny_mono (wpAny_comprehension_free (Q:=fun _ s'=>SP X pins D .next s') (use:=some (assign (.Name x pos') X.env)) rfl hs hclos hkind hnames (thn (hi pins s σ H _ I h) fun v s1 h1=>thn h1 fun itv s2 h2=>?_))
    (fun _ s' hq=>wpAny_pure (wpAny_pure hq)) fun _ _ e=>e)
  obtain ⟨it,fp,tn,J,H2,e,I2,T,st2,f2,q⟩:=h2
  subst e
  refine comp_block (RR:=fun acc C=>compPost (model X.prog X.w) X.A X.xe (some (assign (.Name x pos') X.env)) (fun _ s'=>SP X pins D .next s') acc C) hc hcell hkind I2 T st2 f2 (fr σ I.len) (hk σ) hg ht he q ?_
  intro Dl C s' H' m I' hn hC h1 h2 h3 h4 q'
  show wpAny _ _ (assign (.Name x pos') X.env (.ref Dl)) _ _ s'
  refine wpAny_assign_Name (store_ok2 (v:=.ref Dl) I' hN hi' hx rfl (fun s'' I'' ⟨a,hsb,ha⟩=>?_) hf)
  have hne:C≠a:=by
    rcases ha with rfl | ha
    · exact h1
    · exact Ne.symm (h3 x a ha)
  refine ⟨m,hn.sameBut hsb hne,fun h'' hs''=>⟨_,H',?_,q'⟩⟩
  exact I''.turned (t':=s''.toks) (fun b o hb e=>hs''.extBut b o hb e) hC h1 (.inr h2) h3 h4
end
end L2
namespace L2
open PySem PySem.Spec PyProof.Rows
section
variable {X:Cx} {iter elt c:Expr} {scope:Scope} {y z:Str} {py pos:Pos} {wi:TI} {te:TE} {tt:TT}
theorem tests0 {N':List Str} {cl:List (Str×Addr)}:∀ C s3 H3 fp pins (pl:List (Addr×Obj)) (s:Shared) (σ:St) (H:Hp) (Q:Bool→Hp→Prop),Inv (compCx X N' scope cl C s3 H3 fp pins) pl σ H s→zl1 σ H Q →
    wpAny (model X.prog X.w) X.A (forIn ([]:List Expr) true fun c r=>if r=true then do let ok ← isTrue c (compEnvC scope cl C X.env) (eval c (compEnvC scope cl C X.env)); pure (ForInStep.yield ok) else pure (ForInStep.yield r)) (TP (compCx X N' scope cl C s3 H3 fp pins) pl σ Q) (fun _ _=>False) s :=
  fun _ _ _ _ _ _ _ _ H _ I h=>wpAny_tests_nil ⟨H,I,h⟩
theorem tests1 {N':List Str} {cl:List (Str×Addr)} (ht:∀ C s3 H3 fp pins,PT (compCx X N' scope cl C s3 H3 fp pins) c tt):∀ C s3 H3 fp pins (pl:List (Addr×Obj)) (s:Shared) (σ:St) (H:Hp) (Q:Bool→Hp→Prop),Inv (compCx X N' scope cl C s3 H3 fp pins) pl σ H s→tt σ H Q →
    wpAny (model X.prog X.w) X.A (forIn [c] true fun c r=>if r=true then do let ok ← isTrue c (compEnvC scope cl C X.env) (eval c (compEnvC scope cl C X.env)); pure (ForInStep.yield ok) else pure (ForInStep.yield r)) (TP (compCx X N' scope cl C s3 H3 fp pins) pl σ Q) (fun _ _=>False) s :=
  fun C s3 H3 fp pins pl s σ H Q I h=>wpAny_tests_one (ht C s3 H3 fp pins pl s σ H Q I h)
end
end L2
namespace L2
open PySem PySem.Spec PyProof.Rows
section
variable {X:Cx}
theorem Vals.insert {xs:List V} {us:List Value} {y:V} {u:Value} (k:Nat) (h:Vals xs us) (r:RelV y u):Vals (xs.take k++y::xs.drop k) (us.take k++u::us.drop k) :=
  Vals.append (h.take k) (.cons r (h.drop k))
def rInsert:V→List V→Hp→VK→Prop:=fun x vs H Q=>∃ l xs i y,x=.ref l∧vs=[.int i,y]∧H l=some (.lst xs)∧0≤i∧i≤xs.length∧xs.length<sizeLine∧Q .non (upd H l (.lst (xs.take i.toNat++y::xs.drop i.toNat)))
theorem mt_insert:MtM X "list.insert" rInsert:=by
  intro pins s σ H x vs v us Q I rx rv h
  obtain ⟨l,xs,i,y,rfl,rfl,hH,h0,h1,hz,q⟩:=h
  cases rx
  obtain ⟨u,w',rfl,⟨t,rfl⟩,ru⟩:=zmw rv
  obtain ⟨z,its,n,r,hl,e⟩:=I.lstM hH
  have hn:=zjc
  refine call_meets F.slot_list_insert ⟨_,e,rfl⟩ F.entry_list_insert (F.args_list_insert_3 _ _ _) (AutoListH.list_insert_list_int_val_1 l its.toArray n i t w' (by rw [fitsIndex_both (by omega) (by omega)]; exact Bool.false_ne_true) (by rw [List.size_toArray]; omega)) ⟨e,?_⟩
  refine ⟨.non,_,I.lset (its':=its.take i.toNat++w'::its.drop i.toNat) hH e ?_ (Vals.insert _ r ru) ?_,rfl,q⟩
  · have hk:(if i<0 then (i+((its.toArray.size:Nat):Int)).toNat else min i.toNat its.toArray.size)=i.toNat:=by
      rw [if_neg (by omega),List.size_toArray]
      omega
    dsimp only
    rw [hk]
    apply Array.ext'
    simp
    exact List.take_of_length_le (by simp)
  · rw [List.length_append,List.length_cons,List.length_take,List.length_drop]
    omega
end
section
variable {prog:Program} {w:World} {A:Around} {R:Result→Shared→Prop} {I:Addr} {fp wr:List Addr} {n:Nat} {P:Nat→Value→Prop} {St:Nat→Heap→Prop} {kw:List (Str×Value)}
end
section
variable {prog:Program} {w:World} {A:Around} {E:Value→Shared→Prop} {s:Shared}
end
section
variable {X:Cx}
end
section
variable {X:Cx}
end
theorem zbg:bootBuiltins "len" = some (.builtin "len"):=by decide +kernel
theorem zkz:bootBuiltins "max" = some (.builtin "max"):=by decide +kernel
theorem zky:bootBuiltins "min" = some (.builtin "min"):=by decide +kernel
theorem bt_isinstance:bootBuiltins "isinstance" = some (.builtin "isinstance"):=by decide +kernel
theorem zk0:bootBuiltins "all" = some (.builtin "all"):=by decide +kernel
theorem zl0:bootBuiltins "int" = some (.type "int"):=by decide +kernel
theorem bt_bool:bootBuiltins "bool" = some (.type "bool"):=by decide +kernel
theorem bt_list:bootBuiltins "list" = some (.type "list"):=by decide +kernel
theorem zc9 {H:Hp} {a:Addr} {o:HO} (h:H a=none):Same H (upd H a o):=fun b u e=>by
  rw [upd_ne (zb2 e h)]
  exact e
theorem Paired.mono {α β:Type} {F G:α→β→Prop}:∀ {as:List α} {bs:List β},Paired F as bs→(∀ a b,a∈as→F a b→G a b)→Paired G as bs
  | _,_,.nil,_=>.nil
  | _,_,.cons r t,h=>.cons (h _ _ List.mem_cons_self r) (Paired.mono t fun a b m=>h a b (List.mem_cons_of_mem _ m))
theorem Paired.append {α β:Type} {F:α→β→Prop}:∀ {as cs:List α} {bs ds:List β},Paired F as bs→Paired F cs ds→Paired F (as++cs) (bs++ds)
  | _,_,_,_,.nil,s=>s
  | _,_,_,_,.cons r t,s=>.cons r (Paired.append t s)
theorem Paired.take {α β:Type} {F:α→β→Prop}:∀ (n:Nat) {as:List α} {bs:List β},Paired F as bs→Paired F (as.take n) (bs.take n)
  | 0,_,_,_=>.nil
  | _+1,_,_,.nil=>.nil
  | n+1,_,_,.cons r t=>.cons r (Paired.take n t)
theorem Paired.drop {α β:Type} {F:α→β→Prop}:∀ (n:Nat) {as:List α} {bs:List β},Paired F as bs→Paired F (as.drop n) (bs.drop n)
  | 0,_,_,h=>h
  | _+1,_,_,.nil=>.nil
  | n+1,_,_,.cons _ t=>Paired.drop n t
section
variable {X:Cx} {K:PySem.W.Frag}
theorem zb3 (h:X.K=K):SlR X (rSlL K):=by subst h; exact sl_list
theorem op_in_seqK (h:X.K=K):OpR X (compareOp .In) (rIn K false):=by subst h; exact op_in_seq
theorem op_notIn_seqK (h:X.K=K):OpR X (compareOp .NotIn) (rIn K true):=by subst h; exact op_notIn_seq
theorem call_list_ofK (h:X.K=K):zhu X (.type "list") (fun xs H Q=>∃ p ys,xs=[.ref p]∧(SqL K H p ys∨SqT K H p ys)∧∀ l,H l=none→Q (.ref l) (upd H l (.lst ys))):=by subst h; exact call_list_of
theorem call_isiK (h:X.K=K):zhu X (.builtin "isinstance") (fun xs H Q=>∃ x n t b,xs=[x,.ty n]∧TyOf K H x t∧PySem.W.kitOne K t (.type n)=some b∧Q (.bl b) H):=by subst h; exact call_isi
theorem zb8 {a:Expr} {ta:TE} (h:X.K=K) (ha:PE X a ta) (he:∀ whole,isTrue a X.env whole=(do let v ← whole; standAt a.pos; holding [v] (truthy v))) :
    PT X a (fun σ H Q=>ta σ H fun x H'=>∃ k,TruV K x H' k∧Q k H'):=by subst h; exact pt_truth ha he
end
end L2
namespace L2
open PySem PySem.Spec PyProof.Rows
section
variable {X:Cx}
end
end L2
namespace L2
open PySem PySem.Spec PyProof.Rows
section
variable {prog:Program} {w:World} {A:Around} {E:Value→Shared→Prop}
theorem draw_list {it t:Addr} {items:Array Value} (hne:t≠it):∀ (n i:Nat) (s:Shared) (Q:List Value→Shared→Prop),s.heap.IsListIter it t i→s.heap.IsList t items→i+n≤items.size →
    (∀ h',h'.IsListIter it t (i+n)→Heap.SameBut it s.heap h'→Q ((items.toList.drop i).take n) { s with heap:=h' })→wpAny (model prog w) A (draw (.ref it) n) Q E s
  | 0,i,s,Q,hit,_,_,hQ=>by
    show wpAny _ _ (pure []) Q E s
    exact wpAny_pure (by simpa using hQ s.heap hit (Heap.SameBut.refl ..))
  | n+1,i,s,Q,hit,ht,hle,hQ=>by
    have hlt:i<items.size:=by omega
    show wpAny _ _ (pyNext (.ref it) >>= _) Q E s
    refine wpAny_bind (wpAny_pyNext_list_item hit ht (x:=items[i]) (by simp [hlt]) fun h₁ hit₁ hs₁=>?_)
    refine wpAny_bind (wpAny_holding (draw_list hne n (i+1) _ _ hit₁ (ht.extBut hs₁.extBut hne) (by omega) fun h₂ hit₂ hs₂=>wpAny_pure ?_))
    have hd:items.toList.drop i=items[i]::items.toList.drop (i+1):=by simp [List.drop_eq_getElem_cons,hlt]
    have:=hQ h₂ (by rw [show i+(n+1)=i+1+n by omega]; exact hit₂) (hs₁.trans hs₂)
    rw [hd,List.take_succ_cons] at this
    exact this
theorem unpackItems_list {s:Shared} {t:Addr} {items:Array Value} {Q:List Value→Shared→Prop} (hh:A.handled=none) (ht:s.heap.IsList t items)
    (hQ:∀ h',Heap.ExtBut s.heap.objs.size s.heap h'→Q items.toList { s with heap:=h' }):wpAny (model prog w) A (unpackItems (.ref t) items.size none) Q E s:=by
  have hlt:t≠s.heap.objs.size:=by obtain ⟨o,ho,_⟩:=ht; exact Nat.ne_of_lt (Heap.lt_size ho)
  unfold unpackItems
  refine wpAny_bind ?_
  · unfold notIterableAtAll
    refine wpAny_bind (wpAny_specialOf ht.typeIs F.slot_list_iter.lookup ?_)
    refine wpAny_pure ?_
    simp only [Bool.false_eq_true,if_false]
    refine wpAny_bind (wpAny_holding (wpAny_pyIter_list ht ?_))
    refine wpAny_bind (wpAny_holding (draw_list hlt items.size 0 _ _ ⟨_,Heap.get?_push_size _ rfl,rfl,rfl⟩ (ht.push _) (by omega) fun h₁ hit₁ hs₁=>?_))
    have hall:List.take items.size (List.drop 0 items.toList)=items.toList:=by
      rw [List.drop_zero]; exact List.take_of_length_le (by simp)
    rw [hall]
    rw [if_neg (by simp)]
    have ht₁:h₁.IsList t items:=(ht.push _).extBut hs₁.extBut hlt
    refine wpAny_bind (wpAny_holding (wpAny_pyNext_list_end hh hit₁ ht₁ (by simp) fun h₂ he₂=>?_))
    simp only [Option.isSome_none,Bool.false_eq_true,if_false]
    refine wpAny_pure (hQ h₂ fun b o hb e=>he₂ b o hb (hs₁.extBut b o hb (Heap.get?_push_of_some _ e)))
theorem assign_Tuple_list {s:Shared} {env:Env} {elts:List Expr} {x1} {pos:Pos} {t:Addr} {items:Array Value} {Q:Unit→Shared→Prop} (hh:A.handled=none) (ht:s.heap.IsList t items)
    (hn:(assignEach elts env).length=items.size) (hstar:(assignEach elts env).findIdx? (·.1)=none)
    (h:∀ h',Heap.ExtBut s.heap.objs.size s.heap h'→wpAny (model prog w) A (assignInOrder ((assignEach elts env).map (·.2)) items.toList) Q E { s with heap:=h' }) :
    wpAny (model prog w) A (assign (.Tuple elts x1 pos) env (.ref t)) Q E s:=by
  rw [arm_assign_Tuple]
  refine wpAny_bind (wpAny_standAt ?_)
  unfold unpack
  rw [hn,hstar]
  exact wpAny_bind (wpAny_holding (unpackItems_list hh ht h))
end
section
variable {X:Cx} {pos:Pos}
def gLst (K:PySem.W.Frag) (n:Nat) (t:TGs):TG:=fun v σ H Q=>∃ a xs,v=.ref a∧SqL K H a xs∧xs.length=n∧t xs σ H Q
theorem pg_lst {es:List Expr} {k:Nat} {t:TGs} {n:Nat} (hc:X.calm=true) (h:PGs X es t)
    (hn:(assignEach es X.env).length=n:=by rfl) (hst:(assignEach es X.env).findIdx? (·.1)=none:=by rfl):PG X (.Tuple es k pos) (gLst X.K n t):=by
  intro pins s σ H v u Q I r hw
  obtain ⟨a,xs,e1,hq,hl,hw⟩:=hw
  subst e1
  cases r
  obtain ⟨its,rv,ht,hz⟩:=I.list hq
  refine assign_Tuple_list (I.ok.hd hc) ht.isList (by simp [hn,← hl,rv.length]) hst fun h' hx=>?_
  have I1:Inv X pins σ H { s with heap:=h' }:=I.kept (t':=s.toks) fun b o e=>hx b o (Nat.ne_of_lt (Heap.lt_size e)) e
  exact h pins _ σ H xs _ Q I1 (by simpa using rv) hw
end
end L2
namespace L2
open PySem PySem.Spec PyProof.Rows
section
variable {κ:Type} [DecidableEq κ]
end
section
variable {P:Program} {w:World} {H:Hp} {h:Heap} {a:Addr}
end
section
variable {X:Cx} {pins:List (Addr×Obj)} {σ:St} {H:Hp} {s:Shared} {a:Addr} {y v:V} {u r:Value} {o:Option V} {A:Around} {E:Value→Shared→Prop}
end
section
variable {X:Cx} {pins:List (Addr×Obj)} {σ:St} {H:Hp} {s:Shared} {a:Addr} {kvs:List (Key×V)} {k:Key} {u:Value} {A:Around} {E:Value→Shared→Prop}
end
section
variable {X:Cx} {o i e value:Expr} {pos pos' tpos:Pos} {td ty tv:TE}
end
section
variable {X:Cx} {pos:Pos}
end
structure M1 (X:Cx) (o:Expr) (m:Str) (apos:Pos) (e:Expr) (cpos:Pos):Prop where
  base:attributeBase o m X.env (eval o X.env)=eval o X.env
  few:((backTo cpos (starEach [e] X.env)).all (fun x=>!x.1)&&(backToKw cpos (keywordEach [] X.env)).all (fun x=>x.1.isSome)
    && decide (([e]:List Expr).length+([]:List Keyword).length+(if ([]:List Keyword).isEmpty then 0 else 1)<30))=true
  line:(apos.endLine==cpos.line)=true
  trees:backTo cpos (starEach [e] X.env)=[(false,eval e X.env)]
structure M2 (X:Cx) (o:Expr) (m:Str) (apos:Pos) (e f:Expr) (cpos:Pos):Prop where
  base:attributeBase o m X.env (eval o X.env)=eval o X.env
  few:((backTo cpos (starEach [e,f] X.env)).all (fun x=>!x.1)&&(backToKw cpos (keywordEach [] X.env)).all (fun x=>x.1.isSome)
    && decide (([e,f]:List Expr).length+([]:List Keyword).length+(if ([]:List Keyword).isEmpty then 0 else 1)<30))=true
  line:(apos.endLine==cpos.line)=true
  trees:backTo cpos (starEach [e,f] X.env)=[(false,eval e X.env),(false,eval f X.env)]
section
variable {X:Cx} {pins:List (Addr×Obj)} {σ:St} {H:Hp} {s:Shared} {a:Addr} {y d:V} {u r:Value} {o:Option V} {A:Around} {E:Value→Shared→Prop}
end
section
variable {X:Cx} {o e f:Expr} {apos cpos:Pos} {td ty tx:TE}
end
section
variable {X:Cx} {pins:List (Addr×Obj)} {σ:St} {H:Hp} {s:Shared} {a:Addr} {kvs:List (Key×V)} {A:Around} {E:Value→Shared→Prop}
end
section
variable {X:Cx} {pins:List (Addr×Obj)} {σ:St} {H:Hp} {s:Shared} {a:Addr} {y:V} {u:Value} {A:Around} {E:Value→Shared→Prop}
end
end L2
namespace Tm
open PySem PyProof.Rows
end Tm
namespace Tm
open PySem PyProof.Rows
section
variable {M:Model} {A:Around} {E:Value→Shared→Prop} {s:Shared} {κ:SortKind} {G:Keyed→Prop} {C:Keyed→Keyed→Bool}
structure OrdC (C:Keyed→Keyed→Bool):Prop where
  as:∀ x y,C x y=true→C y x=false
  tr:∀ x y z,C y x=false→C z y=false→C z x=false
end
end Tm
namespace Tm
open PySem PyProof.Rows
section pure
variable {α:Type} {C:α→α→Bool}
structure OrdG (C:α→α→Bool):Prop where
  as:∀ x y,C x y=true→C y x=false
  tr:∀ x y z,C y x=false→C z y=false→C z x=false
def Le (C:α→α→Bool) (x y:α):Prop:=C y x=false
abbrev Srt (C:α→α→Bool) (l:List α):Prop:=l.Pairwise (Le C)
structure ML (C:α→α→Bool) (L out A B:List α):Prop where
  so:Srt C out
  oa:∀ x∈out,∀ y∈A,Le C x y
  ob:∀ x∈out,∀ y∈B,Le C x y
  pm:(out++(A++B)).Perm L
  sa:Srt C A
  sb:Srt C B
end pure
end Tm
namespace Tm
open PySem PyProof.Rows
section
variable {C:Keyed→Keyed→Bool}
variable {M:Model} {A:Around} {E:Value→Shared→Prop} {s:Shared} {κ:SortKind} {G:Keyed→Prop}
structure MA (C:Keyed→Keyed→Bool) (a b out:Array Keyed) (ia ib:Nat):Prop where
  ml:ML C (a.toList++b.toList) out.toList (a.toList.drop ia) (b.toList.drop ib)
  la:ia≤a.size
  lb:ib≤b.size
end
end Tm
set_option pp.maxSteps 1000000
set_option pp.deepTerms true
namespace Tm
open PySem PyProof.Rows
section
variable {M:Model} {A:Around} {E:Value→Shared→Prop} {s:Shared} {κ:SortKind} {G:Keyed→Prop} {C:Keyed→Keyed→Bool}
structure Two (G:Keyed→Prop) (C:Keyed→Keyed→Bool) (a b:Array Keyed):Prop where
  ga:∀ x∈a.toList,G x
  gb:∀ x∈b.toList,G x
  sa:Srt C a.toList
  sb:Srt C b.toList
  fst:∀ (h:0<b.size),∀ x∈a.toList,Le C b[0] x
  lst:∀ y∈b.toList,∀ x∈a.toList.drop (a.size-1),Le C y x
end
end Tm
namespace Tm
open PySem PyProof.Rows
section pure
variable {α:Type} {C:α→α→Bool}
structure MH (C:α→α→Bool) (L S A B:List α):Prop where
  so:Srt C S
  oa:∀ x∈A,∀ z∈S,Le C x z
  ob:∀ x∈B,∀ z∈S,Le C x z
  pm:((A++B)++S).Perm L
  sa:Srt C A
  sb:Srt C B
end pure
section
variable {C:Keyed→Keyed→Bool}
structure MB (C:Keyed→Keyed→Bool) (a b out:Array Keyed) (na nb:Nat):Prop where
  mh:MH C (a.toList++b.toList) out.toList.reverse (a.toList.take na) (b.toList.take nb)
  la:na≤a.size
  lb:nb≤b.size
end
end Tm
namespace Tm
open PySem PyProof.Rows
section
variable {M:Model} {A:Around} {E:Value→Shared→Prop} {s:Shared} {κ:SortKind} {G:Keyed→Prop} {C:Keyed→Keyed→Bool}
end
end Tm
namespace Tm
open PySem PyProof.Rows
def gk (xs:Array Keyed) (i:Nat):Keyed:=xs[i]?.getD (.none,.none)
def Up (C:Keyed→Keyed→Bool) (xs:Array Keyed) (lo hi:Nat):Prop:=∀ i j,lo≤i→i≤j→j<hi→Le C (gk xs i) (gk xs j)
structure SB (κ:SortKind) (a₀:Array Keyed) (st:SortSt):Prop where
  perm:(arrOf st).Perm a₀
  kind:kindOf st=κ
  failed:failedOf st=none
section
variable {M:Model} {A:Around} {E:Value→Shared→Prop} {s:Shared} {κ:SortKind} {G:Keyed→Prop} {C:Keyed→Keyed→Bool} {a₀:Array Keyed}
end
end Tm
namespace Tm
open PySem PyProof.Rows
section
variable {M:Model} {A:Around} {E:Value→Shared→Prop} {s:Shared} {κ:SortKind} {G:Keyed→Prop} {C:Keyed→Keyed→Bool} {a₀:Array Keyed}
structure Run (κ:SortKind) (a₀:Array Keyed) (st:SortSt) (lo nrem:Nat) (xs:Array Keyed):Prop where
  sb:SB κ a₀ (setArr st xs)
  out:∀ k,k<lo∨lo+nrem≤k→gk xs k=gk (arrOf st) k
end
end Tm
namespace Tm
open PySem PyProof.Rows
section
variable {M:Model} {A:Around} {E:Value→Shared→Prop} {s:Shared} {κ:SortKind} {G:Keyed→Prop} {C:Keyed→Keyed→Bool} {a₀:Array Keyed}
end
end Tm
namespace Tm
open PySem PyProof.Rows
def prs (st:SortSt):List (Nat×Nat):=(pendingOf st).toList.map fun q=>(q.1,q.2.1)
section
variable {C:Keyed→Keyed→Bool}
variable {M:Model} {A:Around} {E:Value→Shared→Prop} {s:Shared} {κ:SortKind} {G:Keyed→Prop} {a₀:Array Keyed}
end
end Tm
namespace Tm
open PySem PyProof.Rows
section
variable {prog:Program} {w:World} {A:Around} {E:Value→Shared→Prop} {s:Shared}
end
end Tm
namespace VL
open PySem L2
open Classical
inductive D where
  | non | bl (b:Bool) | int (i:Int) | str (x:Str) | ty (n:String)
  | lst (xs:List D) | tup (xs:List D) | ins (C:Addr) | scr (ns:List Int) | dct (kvs:List (Int×Int))
def dkv (p:Int×Int):Key×V:=(.inl p.1,.int p.2)
abbrev No:Addr→Prop:=fun _=>False
def KL (K:PySem.W.Frag) (a:Addr) (xs:List V):Prop :=
  ∃ (o:Obj) (its:Array Value) (n:Nat),K.lookup a=some o∧o.cls=.type "list" ∧ o.dict=none∧o.data=.seq its n∧its.size≤sizeLine∧Vals xs its.toList
mutual
inductive Is (K:PySem.W.Frag) (H:Hp) (Z:Addr→Prop):V→D→Prop
  | non:Is K H Z .non .non
  | bl (b:Bool):Is K H Z (.bl b) (.bl b)
  | int (i:Int):Is K H Z (.int i) (.int i)
  | str (x:Str):Is K H Z (.str x) (.str x)
  | ty (n:String):Is K H Z (.ty n) (.ty n)
  | lst {a:Addr} {vs:List V} {ds:List D} (hz:¬ Z a) (h:Rd H a (.lst vs)) (hl:vs.length≤sizeLine) (r:IsL K H Z vs ds):Is K H Z (.ref a) (.lst ds)
  | tup {a:Addr} {vs:List V} {ds:List D} (hz:¬ Z a) (h:H a=some (.tup vs)) (hl:vs.length≤sizeLine) (r:IsL K H Z vs ds):Is K H Z (.ref a) (.tup ds)
  | ins {a C dx:Addr} (hz:¬ Z a) (h:H a=some (.ins C dx [])):Is K H Z (.ref a) (.ins C)
  | dct {a:Addr} {kvs:List (Int×Int)} (hz:¬ Z a) (h:Rd H a (.dK (kvs.map dkv))) (hl:kvs.length≤sizeLine):Is K H Z (.ref a) (.dct kvs)
  | scr {a:Addr} {ns:List Int} (hz:¬ Z a) (h:Rd H a (.lst (ns.map V.int))) (hl:ns.length≤sizeLine):Is K H Z (.ref a) (.scr ns)
  | scrK {a:Addr} {ns:List Int} (h:KL K a (ns.map V.int)) (hl:ns.length≤sizeLine):Is K H Z (.ref a) (.scr ns)
inductive IsL (K:PySem.W.Frag) (H:Hp) (Z:Addr→Prop):List V→List D→Prop
  | nil:IsL K H Z [] []
  | cons {v:V} {d:D} {vs:List V} {ds:List D} (h:Is K H Z v d) (r:IsL K H Z vs ds):IsL K H Z (v::vs) (d::ds)
end
def Kp (Z:Addr→Prop) (H:Hp) (Z':Addr→Prop) (H':Hp):Prop:=∀ a o,H a=some o→¬ Z a→H' a=some o∧¬ Z' a
theorem Kp.refl {Z:Addr→Prop} {H:Hp}:Kp Z H Z H:=fun _ _ h z=>⟨h,z⟩
theorem Kp.trans {Z Z1 Z2:Addr→Prop} {H H1 H2:Hp} (a:Kp Z H Z1 H1) (b:Kp Z1 H1 Z2 H2):Kp Z H Z2 H2:=fun c o h z=>b c o (a c o h z).1 (a c o h z).2
theorem Kp.same {Z:Addr→Prop} {H H':Hp} (s:Same H H'):Kp Z H Z H':=fun _ _ h z=>⟨s _ _ h,z⟩
theorem Kp.less {Z Z':Addr→Prop} {H:Hp} (h:∀ a,Z' a→Z a):Kp Z H Z' H:=fun a _ e z=>⟨e,fun q=>z (h a q)⟩
theorem Rd.kp {Z Z':Addr→Prop} {H H':Hp} {a:Addr} {u:HO} (k:Kp Z H Z' H') (hz:¬ Z a) (h:Rd H a u):Rd H' a u∧¬ Z' a:=by
  rcases h with h | ⟨o,h⟩
  · exact ⟨.inl (k _ _ h hz).1,(k _ _ h hz).2⟩
  · exact ⟨.inr ⟨o,(k _ _ h hz).1⟩,(k _ _ h hz).2⟩
mutual
theorem Is.kp {Z Z':Addr→Prop} {H H':Hp} (k:Kp Z H Z' H'):∀ {v:V} {d:D},Is K H Z v d→Is K H' Z' v d
  | _,_,.non=>.non
  | _,_,.bl b=>.bl b
  | _,_,.int b=>.int b
  | _,_,.str b=>.str b
  | _,_,.ty b=>.ty b
  | _,_,.lst hz h hl r=>.lst (Rd.kp k hz h).2 (Rd.kp k hz h).1 hl (IsL.kp k r)
  | _,_,.tup hz h hl r=>.tup (k _ _ h hz).2 (k _ _ h hz).1 hl (IsL.kp k r)
  | _,_,.ins hz h=>.ins (k _ _ h hz).2 (k _ _ h hz).1
  | _,_,.dct hz h hl=>.dct (Rd.kp k hz h).2 (Rd.kp k hz h).1 hl
  | _,_,.scr hz h hl=>.scr (Rd.kp k hz h).2 (Rd.kp k hz h).1 hl
  | _,_,.scrK h hl=>.scrK h hl
theorem IsL.kp {Z Z':Addr→Prop} {H H':Hp} (k:Kp Z H Z' H'):∀ {v:List V} {d:List D},IsL K H Z v d→IsL K H' Z' v d
  | _,_,.nil=>.nil
  | _,_,.cons h r=>.cons (Is.kp k h) (IsL.kp k r)
end
theorem Is.same {Z:Addr→Prop} {H H':Hp} {v:V} {d:D} (h:Is K H Z v d) (s:Same H H'):Is K H' Z v d:=h.kp (Kp.same s)
theorem IsL.same {Z:Addr→Prop} {H H':Hp} {v:List V} {d:List D} (h:IsL K H Z v d) (s:Same H H'):IsL K H' Z v d:=h.kp (Kp.same s)
theorem Is.all {Z:Addr→Prop} {H:Hp} {v:V} {d:D} (h:Is K H Z v d):Is K H No v d:=h.kp (Kp.less fun _ z=>z.elim)
theorem IsL.all {Z:Addr→Prop} {H:Hp} {v:List V} {d:List D} (h:IsL K H Z v d):IsL K H No v d:=h.kp (Kp.less fun _ z=>z.elim)
def D.scal:D→Bool
  | .lst _=>false
  | .tup _=>false
  | .ins _=>false
  | .scr _=>false
  | .dct _=>false
  | _=>true
theorem Is.scal {Z Z':Addr→Prop} {H H':Hp} {v:V} {d:D} (h:Is K H Z v d) (e:d.scal=true):Is K H' Z' v d:=by
  cases h with
  | non=>exact .non
  | bl b=>exact .bl b
  | int b=>exact .int b
  | str b=>exact .str b
  | ty b=>exact .ty b
  | lst _ _ _ _=>cases e
  | tup _ _ _ _=>cases e
  | ins _ _=>cases e
  | dct _ _ _=>cases e
  | scr _ _ _=>cases e
  | scrK _ _=>cases e
section
variable {H:Hp} {Z:Addr→Prop}
theorem IsL.paired:∀ {vs:List V} {ds:List D},IsL K H Z vs ds→Paired (Is K H Z) vs ds
  | _,_,.nil=>.nil
  | _,_,.cons h r=>.cons h (IsL.paired r)
theorem IsL.of:∀ {vs:List V} {ds:List D},Paired (Is K H Z) vs ds→IsL K H Z vs ds
  | _,_,.nil=>.nil
  | _,_,.cons h r=>.cons h (IsL.of r)
theorem IsL.length {vs:List V} {ds:List D} (h:IsL K H Z vs ds):vs.length=ds.length:=Paired.length h.paired
theorem IsL.get:∀ {vs:List V} {ds:List D} {i:Nat} {d:D},IsL K H Z vs ds→ds[i]?=some d→∃ v,vs[i]?=some v∧Is K H Z v d
  | _,_,0,_,.cons h _,e=>by cases e; exact ⟨_,rfl,h⟩
  | _,_,i+1,_,.cons _ r,e=>by
    obtain ⟨v,e1,h1⟩:=IsL.get (i:=i) r (by simpa using e)
    exact ⟨v,by simpa using e1,h1⟩
theorem IsL.append {vs us:List V} {ds es:List D} (a:IsL K H Z vs ds) (b:IsL K H Z us es):IsL K H Z (vs++us) (ds++es):=.of (Paired.append a.paired b.paired)
theorem IsL.take (n:Nat) {vs:List V} {ds:List D} (a:IsL K H Z vs ds):IsL K H Z (vs.take n) (ds.take n):=.of (Paired.take n a.paired)
theorem IsL.drop (n:Nat) {vs:List V} {ds:List D} (a:IsL K H Z vs ds):IsL K H Z (vs.drop n) (ds.drop n):=.of (Paired.drop n a.paired)
theorem IsL.set {v:V} {d:D} (q:Is K H Z v d):∀ {vs:List V} {ds:List D} (n:Nat),IsL K H Z vs ds→IsL K H Z (vs.set n v) (ds.set n d)
  | _,_,_,.nil=>.nil
  | _,_,0,.cons _ r=>.cons q r
  | _,_,n+1,.cons h r=>.cons h (IsL.set q n r)
theorem IsL.one {v:V} {d:D} (q:Is K H Z v d):IsL K H Z [v] [d]:=.cons q .nil
theorem IsL.ints:∀ {vs:List V} {ns:List Int},IsL K H Z vs (ns.map D.int)→vs=ns.map V.int
  | _,[],.nil=>rfl
  | _,n::ns,.cons (.int _) r=>by rw [IsL.ints (ns:=ns) r]; rfl
theorem IsL.ofInts:∀ (ns:List Int),IsL K H Z (ns.map V.int) (ns.map D.int)
  | []=>.nil
  | n::ns=>.cons (.int n) (IsL.ofInts ns)
end
inductive Sl where
  | un | pu (d:D) | bo (d:D) | ol (ds:List D) | om (rows:List (List D)) | od (kvs:List (Int×Int))
  | pm (a:Addr) (ps:List Addr) (rows:List (List D)) | pd (a:Addr) (kvs:List (Int×Int))
abbrev Rho:=List Sl
abbrev Own:=Nat→List Addr
def tot (Z:Addr→Prop) (os:Own):Addr→Prop:=fun a=>Z a∨∃ i,a∈os i
def SlOk (K:PySem.W.Frag) (B H:Hp) (T:Addr→Prop) (o:List Addr):Sl→Option V→Prop
  | .un,_=>o=[]
  | .pu d,v=>o=[]∧∃ u,v=some u∧Is K H T u d
  | .bo d,v=>o=[]∧∃ u,v=some u∧Is K B No u d
  | .ol ds,v=>∃ a vs,o=[a]∧v=some (.ref a)∧H a=some (.lst vs)∧vs.length≤sizeLine∧IsL K H T vs ds
  | .om rows,v=>∃ a ps,o=a::ps∧v=some (.ref a)∧H a=some (.lst (ps.map V.ref))∧ps.length≤sizeLine∧Paired (fun p ds=>∃ vs,H p=some (.lst vs)∧vs.length≤sizeLine∧IsL K H T vs ds) ps rows
  | .od kvs,v=>∃ a,o=[a]∧v=some (.ref a)∧H a=some (.dK (kvs.map dkv))∧kvs.length≤sizeLine
  | .pm a ps rows,v=>o=a::ps∧v=some (.ref a)∧H a=some (.lst (ps.map V.ref))∧ps.length≤sizeLine∧Paired (fun p ds=>∃ vs,H p=some (.lst vs)∧vs.length≤sizeLine∧IsL K H T vs ds) ps rows
  | .pd a kvs,v=>o=[a]∧v=some (.ref a)∧H a=some (.dK (kvs.map dkv))∧kvs.length≤sizeLine
class Tabs where
  ts:List (Addr×Str)
def TabIn [Tabs] (H:Hp):Prop:=∀ p∈Tabs.ts,∃ t,H p.1=some (.tbl #[.str p.2 t])
theorem TabIn.same [Tabs] {H H':Hp} (h:TabIn H) (s:Same H H'):TabIn H':=fun p hp=>let ⟨t,e⟩:=h p hp; ⟨t,s _ _ e⟩
def ZT [Tabs] (Z:Addr→Prop) (H:Hp):Prop:=(∀ a,Z a→∃ o,H a=some o)∧TabIn H
structure Fr [Tabs] (K:PySem.W.Frag) (B:Hp) (Z:Addr→Prop) (os:Own) (ρ:Rho) (σ:St) (H:Hp):Prop where
  keep:Same B H
  zin:∀ a,Z a→∃ o,H a=some o
  len:σ.length=ρ.length
  nd:∀ i,(os i).Nodup
  dj:∀ i j a,a∈os i→a∈os j→i=j
  new:∀ i a,a∈os i→B a=none∧¬ Z a
  sl:∀ i,SlOk K B H (tot Z os) (os i) (ρ.getD i .un) ((σ[i]?).join)
  tab:TabIn B
variable [Tabs]
theorem Fr.tabH {B H:Hp} {Z:Addr→Prop} {os:Own} {ρ:Rho} {σ:St} (f:Fr K B Z os ρ σ H):TabIn H:=f.tab.same f.keep
theorem Paired.any {α β:Type} {F:α→β→Prop}:∀ {as:List α} {bs:List β} {a:α},Paired F as bs→a∈as→∃ b,F a b
  | _,_,_,.cons r t,h=>by
    rcases List.mem_cons.mp h with rfl | h
    · exact ⟨_,r⟩
    · exact Paired.any t h
theorem SlOk.dom {B H:Hp} {T:Addr→Prop} {o:List Addr} {s:Sl} {v:Option V} (h:SlOk K B H T o s v) {a:Addr} (ha:a∈o):∃ u,H a=some u:=by
  cases s with
  | un=>cases h; cases ha
  | pu d=>obtain ⟨rfl,_⟩:=h; cases ha
  | bo d=>obtain ⟨rfl,_⟩:=h; cases ha
  | ol ds =>
    obtain ⟨b,vs,rfl,_,e,_⟩:=h
    cases List.mem_singleton.mp ha
    exact ⟨_,e⟩
  | om rows =>
    obtain ⟨b,ps,rfl,_,e,_,r⟩:=h
    rcases List.mem_cons.mp ha with rfl | ha
    · exact ⟨_,e⟩
    · obtain ⟨_,vs,q,_⟩:=Paired.any r ha
      exact ⟨_,q⟩
  | od kvs =>
    obtain ⟨b,rfl,_,e,_⟩:=h
    cases List.mem_singleton.mp ha
    exact ⟨_,e⟩
  | pm b ps rows =>
    obtain ⟨rfl,_,e,_,r⟩:=h
    rcases List.mem_cons.mp ha with rfl | ha
    · exact ⟨_,e⟩
    · obtain ⟨_,vs,q,_⟩:=Paired.any r ha
      exact ⟨_,q⟩
  | pd b kvs =>
    obtain ⟨rfl,_,e,_⟩:=h
    cases List.mem_singleton.mp ha
    exact ⟨_,e⟩
theorem SlOk.kp {B B' H H':Hp} {T T':Addr→Prop} {o:List Addr} {s:Sl} {v:Option V} (h:SlOk K B H T o s v) (k:Kp T H T' H') (hb:Same B B') (ho:∀ a∈o,∀ u,H a=some u→H' a=some u):SlOk K B' H' T' o s v:=by
  cases s with
  | un=>exact h
  | pu d=>obtain ⟨e,u,e2,i⟩:=h; exact ⟨e,u,e2,i.kp k⟩
  | bo d=>obtain ⟨e,u,e2,i⟩:=h; exact ⟨e,u,e2,i.same hb⟩
  | ol ds=>obtain ⟨a,vs,rfl,e2,e3,hl,i⟩:=h; exact ⟨a,vs,rfl,e2,ho _ (List.mem_singleton.mpr rfl) _ e3,hl,i.kp k⟩
  | om rows =>
    obtain ⟨a,ps,rfl,e2,e3,hl,i⟩:=h
    exact ⟨a,ps,rfl,e2,ho _ List.mem_cons_self _ e3,hl,Paired.mono i fun p ds hp ⟨vs,q,hv,j⟩=>⟨vs,ho _ (List.mem_cons_of_mem _ hp) _ q,hv,j.kp k⟩⟩
  | od kvs=>obtain ⟨a,rfl,e2,e3,hl⟩:=h; exact ⟨a,rfl,e2,ho _ (List.mem_singleton.mpr rfl) _ e3,hl⟩
  | pm a ps rows =>
    obtain ⟨rfl,e2,e3,hl,i⟩:=h
    exact ⟨rfl,e2,ho _ List.mem_cons_self _ e3,hl,Paired.mono i fun p ds hp ⟨vs,q,hv,j⟩=>⟨vs,ho _ (List.mem_cons_of_mem _ hp) _ q,hv,j.kp k⟩⟩
  | pd a kvs=>obtain ⟨rfl,e2,e3,hl⟩:=h; exact ⟨rfl,e2,ho _ (List.mem_singleton.mpr rfl) _ e3,hl⟩
section
variable {B H H':Hp} {Z:Addr→Prop} {os:Own} {ρ:Rho} {σ:St}
theorem Fr.grow (f:Fr K B Z os ρ σ H) (s:Same H H'):Fr K B Z os ρ σ H' where
  keep:=f.keep.trans s
  zin:=fun a z=>let ⟨o,e⟩:=f.zin a z; ⟨o,s _ _ e⟩
  len:=f.len
  nd:=f.nd
  dj:=f.dj
  new:=f.new
  sl:=fun i=>(f.sl i).kp (Kp.same s) (Same.refl _) fun a _ u e=>s _ _ e
  tab:=f.tab
theorem Fr.out (f:Fr K B Z os ρ σ H) {p:Addr} (hp:H p=none):¬ tot Z os p:=by
  rintro (z | ⟨i,z⟩)
  · obtain ⟨o,e⟩:=f.zin p z
    rw [hp] at e; cases e
  · obtain ⟨xs,e⟩:=(f.sl i).dom z
    rw [hp] at e; cases e
def putO (os:Own) (i:Nat) (o:List Addr):Own:=fun j=>if j=i then o else os j
theorem zby {os:Own} {i:Nat} {o:List Addr}:putO os i o i=o:=if_pos rfl
theorem putO_ne {os:Own} {i j:Nat} {o:List Addr} (h:j≠i):putO os i o j=os j:=if_neg h
theorem getD_set_same {α:Type} {l:List α} {i:Nat} {x d:α} (h:i<l.length):(l.set i x).getD i d=x:=by
  rw [List.getD_eq_getElem?_getD,List.getElem?_set_self h]; rfl
theorem getD_set_ne {α:Type} {l:List α} {i j:Nat} {x d:α} (h:j≠i):(l.set i x).getD j d=l.getD j d:=by
  rw [List.getD_eq_getElem?_getD,List.getElem?_set_ne (Ne.symm h),← List.getD_eq_getElem?_getD]
theorem Fr.step (f:Fr K B Z os ρ σ H) {i:Nat} (hi:i < ρ.length) {o:List Addr} {s:Sl} {v:Option V}
    (hk:∀ a u,H a=some u→a∉os i→H' a=some u) (hs:∀ a,a∈os i→∃ u,H' a=some u) (hn:o.Nodup) (ho:∀ a∈o,a∈os i∨H a=none) (ok:SlOk K B H' (tot Z (putO os i o)) o s v) :
    Fr K B Z (putO os i o) (ρ.set i s) (σ.set i v) H'∧Kp (tot Z os) H (tot Z (putO os i o)) H':=by
  have no:∀ a u,H a=some u→a∉os i→a∉o:=fun a u e n q=>by
    rcases ho a q with z | z
    · exact n z
    · rw [z] at e; cases e
  have kp:Kp (tot Z os) H (tot Z (putO os i o)) H':=fun a u e t=>by
    have ni:a∉os i:=fun q=>t (.inr ⟨i,q⟩)
    refine ⟨hk a u e ni,?_⟩
    rintro (z | ⟨j,z⟩)
    · exact t (.inl z)
    · by_cases hj:j=i
      · subst hj; rw [zby] at z; exact no a u e ni z
      · rw [putO_ne hj] at z; exact t (.inr ⟨j,z⟩)
  refine ⟨⟨fun a u e=>hk a u (f.keep a u e) fun q=>?_,fun a z=>?_,?_,fun j=>?_,fun j k a h1 h2=>?_,fun j a h=>?_,fun j=>?_,f.tab⟩,kp⟩
  · have:=(f.new i a q).1; rw [e] at this; cases this
  · obtain ⟨u,e⟩:=f.zin a z
    exact ⟨u,hk a u e fun q=>(f.new i a q).2 z⟩
  · rw [List.length_set,List.length_set]; exact f.len
  · by_cases hj:j=i
    · subst hj; rw [zby]; exact hn
    · rw [putO_ne hj]; exact f.nd j
  · have dom:∀ k,a∈os k→∃ u,H a=some u:=fun k z=>let ⟨xs,e⟩:=(f.sl k).dom z; ⟨_,e⟩
    by_cases hj:j=i
    · by_cases hk':k=i
      · rw [hj,hk']
      · subst hj
        rw [zby] at h1; rw [putO_ne hk'] at h2
        rcases ho a h1 with z | z
        · exact f.dj _ _ a z h2
        · obtain ⟨u,e⟩:=dom k h2; rw [z] at e; cases e
    · by_cases hk':k=i
      · subst hk'
        rw [putO_ne hj] at h1; rw [zby] at h2
        rcases ho a h2 with z | z
        · exact f.dj _ _ a h1 z
        · obtain ⟨u,e⟩:=dom j h1; rw [z] at e; cases e
      · rw [putO_ne hj] at h1; rw [putO_ne hk'] at h2
        exact f.dj _ _ a h1 h2
  · by_cases hj:j=i
    · subst hj
      rw [zby] at h
      rcases ho a h with z | z
      · exact f.new _ a z
      · exact ⟨Same.free f.keep z,fun q=>f.out z (.inl q)⟩
    · rw [putO_ne hj] at h; exact f.new j a h
  · by_cases hj:j=i
    · subst hj
      have hσ:j < σ.length:=by rw [f.len]; exact hi
      rw [zby,getD_set_same hi,List.getElem?_set_self hσ]
      exact ok
    · rw [putO_ne hj,getD_set_ne hj,List.getElem?_set_ne (Ne.symm hj)]
      exact (f.sl j).kp kp (Same.refl _) fun a ha u e=>hk a u e fun q=>hj (f.dj _ _ a ha q)
theorem Fr.put (f:Fr K B Z os ρ σ H) {i:Nat} (hi:i < ρ.length) {v:V} {d:D} (h:Is K H (tot Z os) v d) :
    Fr K B Z (putO os i []) (ρ.set i (.pu d)) (σ.set i (some v)) H∧Kp (tot Z os) H (tot Z (putO os i [])) H:=by
  refine f.step hi (fun a u e _=>e) (fun a ha=>let ⟨xs,e⟩:=(f.sl i).dom ha; ⟨_,e⟩) List.nodup_nil (fun a h=>by cases h) ⟨rfl,v,rfl,h.kp (Kp.less ?_)⟩
  rintro a (z | ⟨j,z⟩)
  · exact .inl z
  · by_cases hj:j=i
    · subst hj; rw [zby] at z; cases z
    · rw [putO_ne hj] at z; exact .inr ⟨j,z⟩
end
end VL
namespace VL
open PySem L2
open Classical
noncomputable section
abbrev DE:=Rho→Option D
section
variable [Tabs] {K:PySem.W.Frag}
def SemB (K:PySem.W.Frag) (t:TE) (e:DE):Prop:=∀ {B:Hp} {Z:Addr→Prop} {os:Own} {ρ:Rho} {σ:L2.St} {H:Hp} {Q:VK} {d:D},Fr K B Z os ρ σ H→e ρ=some d→(∀ v H',Same H H'→Is K H' No v d→Q v H')→t σ H Q
def SemI (K:PySem.W.Frag) (t:TE) (e:DE):Prop:=∀ {B:Hp} {Z:Addr→Prop} {os:Own} {ρ:Rho} {σ:L2.St} {H:Hp} {Q:VK} {d:D},Fr K B Z os ρ σ H→e ρ=some d→(∀ v H',Same H H'→Is K H' (tot Z os) v d→Q v H')→t σ H Q
def SemF (K:PySem.W.Frag) (t:TE) (e:Rho→Option (List D)):Prop:=∀ {B:Hp} {Z:Addr→Prop} {os:Own} {ρ:Rho} {σ:L2.St} {H:Hp} {Q:VK} {ds:List D},Fr K B Z os ρ σ H→e ρ=some ds →
  (∀ p vs H',Same H H'→H p=none→H' p=some (.lst vs)→vs.length≤sizeLine→IsL K H' (fun a=>a=p∨tot Z os a) vs ds→Q (.ref p) H')→t σ H Q
def SemT (K:PySem.W.Frag) (t:TT) (e:Rho→Option Bool):Prop:=∀ {B:Hp} {Z:Addr→Prop} {os:Own} {ρ:Rho} {σ:L2.St} {H:Hp} {Q:Bool→Hp→Prop} {b:Bool},Fr K B Z os ρ σ H→e ρ=some b→(∀ H',Same H H'→Q b H')→t σ H Q
inductive Args (K:PySem.W.Frag) (H:Hp) (T:Addr→Prop):List Bool→List V→List D→Prop
  | nil:Args K H T [] [] []
  | own {ms:List Bool} {v:V} {d:D} {vs:List V} {ds:List D}:Is K H T v d→Args K H T ms vs ds→Args K H T (true::ms) (v::vs) (d::ds)
  | any {ms:List Bool} {v:V} {d:D} {vs:List V} {ds:List D}:Is K H No v d→Args K H T ms vs ds→Args K H T (false::ms) (v::vs) (d::ds)
def SemA (K:PySem.W.Frag) (ms:List Bool) (t:TA) (e:Rho→Option (List D)):Prop:=∀ {B:Hp} {Z:Addr→Prop} {os:Own} {ρ:Rho} {σ:L2.St} {H:Hp} {Q:List V→Hp→Prop} {ds:List D},Fr K B Z os ρ σ H→e ρ=some ds→(∀ vs H',Same H H'→Args K H' (tot Z os) ms vs ds→Q vs H')→t σ H Q
theorem Args.len {H:Hp} {T:Addr→Prop} {ms:List Bool} {vs:List V} {ds:List D} (a:Args K H T ms vs ds):vs.length=ms.length∧ds.length=ms.length:=by
  induction a with
  | nil=>exact ⟨rfl,rfl⟩
  | own h _ ih=>simp [ih.1,ih.2]
  | any h _ ih=>simp [ih.1,ih.2]
theorem Args.lown {H:Hp} {T:Addr→Prop}:∀ {n:Nat} {vs:List V} {ds:List D},Args K H T (List.replicate n true) vs ds→IsL K H T vs ds
  | 0,_,_,.nil=>.nil
  | _+1,_,_,.own h r=>.cons h r.lown
theorem SemI.b {t:TE} {e:DE} (h:SemI K t e):SemB K t e:=fun f q k=>h f q fun v H' s i=>k v H' s i.all
theorem SemF.i {t:TE} {e:Rho→Option (List D)} (h:SemF K t e):SemI K t (fun ρ=>(e ρ).map D.lst):=fun {B Z os ρ σ H Q d} f q k=>by
  dsimp only at q
  cases q1:e ρ with
  | none=>rw [q1] at q; cases q
  | some ds =>
    rw [q1] at q
    cases q
    refine h f q1 fun p vs H' s hp hp' hl i=>k _ _ s (.lst (f.out hp) (.inl hp') hl (i.kp (Kp.less fun a z=>.inr z)))
def lof:D→Option (List D)
  | .lst ds=>some ds
  | .scr ns=>some (ns.map D.int)
  | _=>none
theorem Is.seq {H:Hp} {Z:Addr→Prop} {v:V} {d:D} {ds:List D} (h:Is K H Z v d) (e:lof d=some ds):∃ p vs,v=.ref p∧vs.length≤sizeLine∧vs.length=ds.length∧∀ H' Z',Kp Z H Z' H'→SqL K H' p vs∧IsL K H' Z' vs ds:=by
  cases h with
  | lst hz h hl r=>cases e; exact ⟨_,_,rfl,hl,r.length,fun H' Z' k=>⟨.inl (Rd.kp k hz h).1,r.kp k⟩⟩
  | scr hz h hl=>cases e; exact ⟨_,_,rfl,by rw [List.length_map]; exact hl,by simp,fun H' Z' k=>⟨.inl (Rd.kp k hz h).1,.ofInts _⟩⟩
  | scrK h hl=>cases e; exact ⟨_,_,rfl,by rw [List.length_map]; exact hl,by simp,fun H' Z' k=>⟨.inr h,.ofInts _⟩⟩
  | _=>cases e
noncomputable def zjf (e:DE):DE:=fun ρ=>match e ρ with
  | some d=>if d.scal=true then some d else none
  | none=>none
theorem SemB.i {t:TE} {e:DE} (h:SemB K t e):SemI K t (zjf e):=fun {B Z os ρ σ H Q d} f q k=>by
  unfold zjf at q
  cases q1:e ρ with
  | none=>rw [q1] at q; cases q
  | some d' =>
    rw [q1] at q
    have q':(if d'.scal=true then some d' else none)=some d:=q
    by_cases c:d'.scal=true
    · rw [if_pos c] at q'
      cases q'
      exact h f q1 fun v H' s i=>k v H' s (i.scal c)
    · rw [if_neg c] at q'; cases q'
noncomputable def dVar (i:Nat):DE:=fun ρ=>match ρ.getD i .un with
  | .pu d=>some d
  | .bo d=>some d
  | .ol ds=>some (.lst ds)
  | .om rows=>some (.lst (rows.map D.lst))
  | .od kvs=>some (.dct kvs)
  | .pm _ _ rows=>some (.lst (rows.map D.lst))
  | .pd _ kvs=>some (.dct kvs)
  | .un=>none
noncomputable def zat (i:Nat):DE:=fun ρ=>match ρ.getD i .un with
  | .pu d=>some d
  | _=>none
omit [Tabs] in
theorem join_some {α:Type} {o:Option (Option α)} {u:α} (h:o.join=some u):o=some (some u):=by
  cases o with
  | none=>cases h
  | some x=>rw [show x=some u from h]
theorem zhb {H:Hp} {T:Addr→Prop}:∀ {ps:List Addr} {rows:List (List D)},Paired (fun p ds=>∃ vs,H p=some (.lst vs)∧vs.length≤sizeLine∧IsL K H T vs ds) ps rows→IsL K H No (ps.map V.ref) (rows.map D.lst)
  | _,_,.nil=>.nil
  | _,_,.cons ⟨vs,e,hl,i⟩ r=>.cons (.lst (fun z=>z) (.inl e) hl i.all) (zhb r)
theorem zab (i:Nat):SemB K (tVar i) (dVar i):=fun {B Z os ρ σ H Q d} f q k=>by
  have s:=f.sl i
  unfold dVar at q
  cases e:ρ.getD i .un with
  | un=>rw [e] at q; cases q
  | pu d' =>
    rw [e] at q s
    cases q
    obtain ⟨_,u,hu,i⟩:=s
    exact ⟨u,join_some hu,k u H (Same.refl _) i.all⟩
  | bo d' =>
    rw [e] at q s
    cases q
    obtain ⟨_,u,hu,i⟩:=s
    exact ⟨u,join_some hu,k u H (Same.refl _) (i.same f.keep)⟩
  | ol ds =>
    rw [e] at q s
    cases q
    obtain ⟨a,vs,_,hu,hH,hl,i⟩:=s
    exact ⟨_,join_some hu,k _ H (Same.refl _) (.lst (fun z=>z) (.inl hH) hl i.all)⟩
  | om rows =>
    rw [e] at q s
    cases q
    obtain ⟨a,ps,_,hu,hH,hl,i⟩:=s
    exact ⟨_,join_some hu,k _ H (Same.refl _) (.lst (fun z=>z) (.inl hH) (by rw [List.length_map]; exact hl) (zhb i))⟩
  | od kvs =>
    rw [e] at q s
    cases q
    obtain ⟨a,_,hu,hH,hl⟩:=s
    exact ⟨_,join_some hu,k _ H (Same.refl _) (.dct (fun z=>z) (.inl hH) hl)⟩
  | pm a ps rows =>
    rw [e] at q s
    cases q
    obtain ⟨_,hu,hH,hl,i⟩:=s
    exact ⟨_,join_some hu,k _ H (Same.refl _) (.lst (fun z=>z) (.inl hH) (by rw [List.length_map]; exact hl) (zhb i))⟩
  | pd a kvs =>
    rw [e] at q s
    cases q
    obtain ⟨_,hu,hH,hl⟩:=s
    exact ⟨_,join_some hu,k _ H (Same.refl _) (.dct (fun z=>z) (.inl hH) hl)⟩
theorem zam (i:Nat):SemI K (tVar i) (zat i):=fun {B Z os ρ σ H Q d} f q k=>by
  have s:=f.sl i
  unfold zat at q
  cases e:ρ.getD i .un with
  | pu d' =>
    rw [e] at q s
    cases q
    obtain ⟨_,u,hu,i⟩:=s
    exact ⟨u,join_some hu,k u H (Same.refl _) i⟩
  | _=>rw [e] at q; cases q
noncomputable def dC (d:D):DE:=fun _=>some d
theorem zae {i:Int}:SemI K (tC (.int i)) (dC (.int i)):=fun f q k=>by cases q; exact k _ _ (Same.refl _) (.int i)
theorem zep {i:Bool}:SemI K (tC (.bl i)) (dC (.bl i)):=fun f q k=>by cases q; exact k _ _ (Same.refl _) (.bl i)
noncomputable def dII (f:Int→Int→Option D) (a b:DE):DE:=fun ρ=>match a ρ with
  | some (.int i)=>(match b ρ with
    | some (.int j)=>f i j
    | _=>none)
  | _=>none
theorem zis {f:Int→Int→Option D} {a b:DE} {ρ:Rho} {d:D} (h:dII f a b ρ=some d):∃ i j,a ρ=some (.int i)∧b ρ=some (.int j)∧f i j=some d:=by
  unfold dII at h
  split at h
  · rename_i i e1
    split at h
    · rename_i j e2
      exact ⟨i,j,e1,e2,h⟩
    · cases h
  · cases h
theorem Is.isInt {H:Hp} {Z:Addr→Prop} {v:V} {i:Int} (h:Is K H Z v (.int i)):v=.int i:=by cases h; rfl
theorem Is.isBl {H:Hp} {Z:Addr→Prop} {v:V} {i:Bool} (h:Is K H Z v (.bl i)):v=.bl i:=by cases h; rfl
variable {ta tb tc:TE} {a b c:DE}
theorem zjt {g:Int→Int→V} (gd:Int→Int→D) (hg:∀ i j H Z,Is K H Z (g i j) (gd i j)) (ha:SemB K ta a) (hb:SemB K tb b):SemI K (tOp (rI0 g) ta tb) (dII (fun i j=>some (gd i j)) a b):=fun {B Z os ρ σ H Q d} f q k=>by
  obtain ⟨i,j,e1,e2,e3⟩:=zis q
  cases e3
  refine ha f e1 fun v H1 s1 i1=>hb (f.grow s1) e2 fun u H2 s2 i2=>?_
  exact ⟨i,j,i1.isInt,i2.isInt,k _ _ (s1.trans s2) (hg i j _ _)⟩
noncomputable def gC (C:Int→Int→Prop) (g:Int→Int→D):Int→Int→Option D:=fun i j=>if C i j then some (g i j) else none
theorem zly {C:Int→Int→Prop} {g:Int→Int→D} {i j:Int} (h:C i j):gC C g i j=some (g i j):=if_pos h
theorem zlv {C:Int→Int→Prop} {g:Int→Int→V} (gd:Int→Int→D) (hg:∀ i j H Z,Is K H Z (g i j) (gd i j)) (ha:SemB K ta a) (hb:SemB K tb b):SemI K (tOp (rI C g) ta tb) (dII (gC C gd) a b):=fun {B Z os ρ σ H Q d} f q k=>by
  obtain ⟨i,j,e1,e2,e3⟩:=zis q
  unfold gC at e3
  by_cases c:C i j
  · rw [if_pos c] at e3
    cases e3
    refine ha f e1 fun v H1 s1 i1=>hb (f.grow s1) e2 fun u H2 s2 i2=>?_
    exact ⟨i,j,i1.isInt,i2.isInt,c,k _ _ (s1.trans s2) (hg i j _ _)⟩
  · rw [if_neg c] at e3; cases e3
noncomputable def dAdd:DE→DE→DE:=dII fun i j=>some (.int (i+j))
noncomputable def dSub:DE→DE→DE:=dII fun i j=>some (.int (i-j))
noncomputable def dMul:DE→DE→DE:=dII (gC IntMulOk fun i j=>.int (i*j))
noncomputable def zm2:DE→DE→DE:=dII (gC (fun _ j=>0<j∧j.natAbs.log2<9000) fun i j=>.int (i / j))
noncomputable def dMod:DE→DE→DE:=dII (gC (fun _ j=>0<j) fun i j=>.int (i % j))
noncomputable def dPow:DE→DE→DE:=dII (gC CPow fun i j=>.int (i ^ j.toNat))
noncomputable def dLt:DE→DE→DE:=dII fun i j=>some (.bl (decide (i<j)))
noncomputable def dLe:DE→DE→DE:=dII fun i j=>some (.bl (decide (i≤j)))
noncomputable def dGt:DE→DE→DE:=dII fun i j=>some (.bl (decide (j<i)))
noncomputable def dGe:DE→DE→DE:=dII fun i j=>some (.bl (decide (j≤i)))
theorem zcp (ha:SemB K ta a) (hb:SemB K tb b):SemI K (tOp (rI0 fun i j=>.int (i+j)) ta tb) (dAdd a b):=zjt (fun i j=>.int (i+j)) (fun _ _ _ _=>.int _) ha hb
theorem zhl (ha:SemB K ta a) (hb:SemB K tb b):SemI K (tOp (rI0 fun i j=>.int (i-j)) ta tb) (dSub a b):=zjt (fun i j=>.int (i-j)) (fun _ _ _ _=>.int _) ha hb
theorem zju (ha:SemB K ta a) (hb:SemB K tb b):SemI K (tOp (rI IntMulOk fun i j=>.int (i*j)) ta tb) (dMul a b):=zlv (fun i j=>.int (i*j)) (fun _ _ _ _=>.int _) ha hb
theorem si_fdiv (ha:SemB K ta a) (hb:SemB K tb b):SemI K (tOp (rI (fun _ j=>0<j∧j.natAbs.log2<9000) fun i j=>.int (i / j)) ta tb) (zm2 a b):=zlv (fun i j=>.int (i / j)) (fun _ _ _ _=>.int _) ha hb
theorem zc3 (ha:SemB K ta a) (hb:SemB K tb b):SemI K (tOp (rI (fun _ j=>0<j) fun i j=>.int (i % j)) ta tb) (dMod a b):=zlv (fun i j=>.int (i % j)) (fun _ _ _ _=>.int _) ha hb
theorem si_pow (ha:SemB K ta a) (hb:SemB K tb b):SemI K (tOp (rI CPow fun i j=>.int (i ^ j.toNat)) ta tb) (dPow a b):=zlv (fun i j=>.int (i ^ j.toNat)) (fun _ _ _ _=>.int _) ha hb
theorem zl3 (ha:SemB K ta a) (hb:SemB K tb b):SemI K (tOp (rI0 fun i j=>.bl (decide (i<j))) ta tb) (dLt a b):=zjt (fun i j=>.bl (decide (i<j))) (fun _ _ _ _=>.bl _) ha hb
theorem zl4 (ha:SemB K ta a) (hb:SemB K tb b):SemI K (tOp (rI0 fun i j=>.bl (decide (i≤j))) ta tb) (dLe a b):=zjt (fun i j=>.bl (decide (i≤j))) (fun _ _ _ _=>.bl _) ha hb
theorem zg2 (ha:SemB K ta a) (hb:SemB K tb b):SemI K (tOp (rI0 fun i j=>.bl (decide (j<i))) ta tb) (dGt a b):=zjt (fun i j=>.bl (decide (j<i))) (fun _ _ _ _=>.bl _) ha hb
theorem zkm (ha:SemB K ta a) (hb:SemB K tb b):SemI K (tOp (rI0 fun i j=>.bl (decide (j≤i))) ta tb) (dGe a b):=zjt (fun i j=>.bl (decide (j≤i))) (fun _ _ _ _=>.bl _) ha hb
noncomputable def dNeg (a:DE):DE:=fun ρ=>match a ρ with
  | some (.int i)=>some (.int (-i))
  | _=>none
theorem zf2 (ha:SemB K ta a):SemI K (tUn (rU fun i=>.int (-i)) ta) (dNeg a):=fun {B Z os ρ σ H Q d} f q k=>by
  unfold dNeg at q
  split at q
  · rename_i i e1
    cases q
    exact ha f e1 fun v H1 s1 i1=>⟨i,i1.isInt,k _ _ s1 (.int _)⟩
  · cases q
noncomputable def ze1 (p q:Int→Int→Bool) (a b c:DE):DE:=fun ρ=>match a ρ with
  | some (.int i)=>(match b ρ with
    | some (.int j)=>if p i j=true then (match c ρ with
      | some (.int k)=>some (.bl (q j k))
      | _=>none) else some (.bl false)
    | _=>none)
  | _=>none
theorem zev {p q:Int→Int→Bool} (ha:SemB K ta a) (hb:SemB K tb b) (hc:SemB K tc c):SemI K (zmi (rI0 fun i j=>.bl (p i j)) (rI0 fun i j=>.bl (q i j)) ta tb tc) (ze1 p q a b c):=fun {B Z os ρ σ H Q d} f e k=>by
  unfold ze1 at e
  split at e
  · rename_i i e1
    split at e
    · rename_i j e2
      refine ha f e1 fun v H1 s1 i1=>hb (f.grow s1) e2 fun u H2 s2 i2=>⟨i,j,i1.isInt,i2.isInt,p i j,rfl,?_⟩
      by_cases hp:p i j=true
      · rw [if_pos hp] at e ⊢
        split at e
        · rename_i l e3
          cases e
          exact hc (f.grow (s1.trans s2)) e3 fun w H3 s3 i3=>⟨j,l,i2.isInt,i3.isInt,k _ _ ((s1.trans s2).trans s3) (.bl _)⟩
        · cases e
      · rw [if_neg hp] at e ⊢
        cases e
        exact k _ _ (s1.trans s2) (.bl _)
    · cases e
  · cases e
noncomputable def dT (a:DE):Rho→Option Bool:=fun ρ=>match a ρ with
  | some (.bl b)=>some b
  | _=>none
theorem za2 (ha:SemB K ta a):SemT K (zm5 ta) (dT a):=fun {B Z os ρ σ H Q d} f q k=>by
  unfold dT at q
  split at q
  · rename_i b e
    cases q
    exact ha f e fun v H1 s1 i1=>⟨_,i1.isBl,k _ s1⟩
  · cases q
def truD:D→Option Bool
  | .non=>some false
  | .bl b=>some b
  | .int i=>some (i != 0)
  | .str y=>if y.length≤sizeLine then some ((y.length:Int) != 0) else none
  | .lst ds=>some (!ds.isEmpty)
  | .tup ds=>some (!ds.isEmpty)
  | .scr ns=>some (!ns.isEmpty)
  | _=>none
theorem isEmpty_is {H:Hp} {Z:Addr→Prop} {vs:List V} {ds:List D} (h:IsL K H Z vs ds):vs.isEmpty=ds.isEmpty:=by cases h <;> rfl
theorem tru_is {H:Hp} {Z:Addr→Prop} {v:V} {d:D} {b:Bool} (h:Is K H Z v d) (e:truD d=some b):TruV K v H b:=by
  cases h with
  | non=>cases e; rfl
  | bl b=>cases e; rfl
  | int i=>cases e; rfl
  | str x =>
    have e:(if x.length≤sizeLine then some ((x.length:Int) != 0) else none)=some b:=e
    by_cases c:x.length≤sizeLine
    · rw [if_pos c] at e; cases e; exact ⟨c,rfl⟩
    · rw [if_neg c] at e; cases e
  | ty n=>cases e
  | lst hz h hl r=>cases e; exact .inl ⟨_,.inl h,by rw [isEmpty_is r]⟩
  | tup hz h hl r=>cases e; exact .inr (.inl ⟨_,.inl (.inl h),by rw [isEmpty_is r]⟩)
  | ins _ _=>cases e
  | dct _ _ _=>cases e
  | scr hz h hl=>cases e; exact .inl ⟨_,.inl h,by cases ‹List Int› <;> rfl⟩
  | scrK h hl=>cases e; exact .inl ⟨_,.inr h,by cases ‹List Int› <;> rfl⟩
noncomputable def dTru (a:DE):Rho→Option Bool:=fun ρ=>match a ρ with
  | some d=>truD d
  | none=>none
theorem zee (ha:SemB K ta a):SemT K (fun σ H Q=>ta σ H fun x H'=>∃ k,TruV K x H' k∧Q k H') (dTru a):=fun {B Z os ρ σ H Q b} f q k=>by
  unfold dTru at q
  split at q
  · rename_i d e
    exact ha f e fun v H1 s1 i1=>⟨b,tru_is i1 q,k _ s1⟩
  · cases q
variable {tA tB':TT} {x y:Rho→Option Bool}
noncomputable def dAnd (x y:Rho→Option Bool):Rho→Option Bool:=fun ρ=>match x ρ with
  | some true=>y ρ
  | some false=>some false
  | none=>none
noncomputable def dOr (x y:Rho→Option Bool):Rho→Option Bool:=fun ρ=>match x ρ with
  | some true=>some true
  | some false=>y ρ
  | none=>none
noncomputable def dNot (x:Rho→Option Bool):Rho→Option Bool:=fun ρ=>match x ρ with
  | some b=>some (!b)
  | none=>none
theorem zh8 (ha:SemT K tA x) (hb:SemT K tB' y):SemT K (tAnd tA tB') (dAnd x y):=fun {B Z os ρ σ H Q b} f q k=>by
  unfold dAnd at q
  split at q
  · rename_i e
    exact ha f e fun H1 s1=>iteT (hb (f.grow s1) q fun H2 s2=>k _ (s1.trans s2))
  · rename_i e
    cases q
    exact ha f e fun H1 s1=>iteF (k _ s1)
  · cases q
theorem zf4 (ha:SemT K tA x) (hb:SemT K tB' y):SemT K (tOr tA tB') (dOr x y):=fun {B Z os ρ σ H Q b} f q k=>by
  unfold dOr at q
  split at q
  · rename_i e
    cases q
    exact ha f e fun H1 s1=>iteT (k _ s1)
  · rename_i e
    exact ha f e fun H1 s1=>iteF (hb (f.grow s1) q fun H2 s2=>k _ (s1.trans s2))
  · cases q
theorem zef (ha:SemT K tA x):SemT K (tNot tA) (dNot x):=fun {B Z os ρ σ H Q b} f q k=>by
  unfold dNot at q
  split at q
  · rename_i c e
    cases q
    exact ha f e fun H1 s1=>k _ s1
  · cases q
noncomputable def zdd:Rho→Option Bool:=fun _=>some true
theorem zch:SemT K zl1 zdd:=fun f q k=>by cases q; exact k _ (Same.refl _)
noncomputable def zfq (a b:DE):DE:=fun ρ=>match a ρ with
  | some (.bl true)=>b ρ
  | some (.bl false)=>some (.bl false)
  | _=>none
noncomputable def dOrV (a b:DE):DE:=fun ρ=>match a ρ with
  | some (.bl true)=>some (.bl true)
  | some (.bl false)=>b ρ
  | _=>none
noncomputable def zmv (a:DE):DE:=fun ρ=>match a ρ with
  | some (.bl c)=>some (.bl (!c))
  | _=>none
theorem zde (ha:SemB K ta a) (hb:SemI K tb b):SemI K (tAndV ta tb) (zfq a b):=fun {B Z os ρ σ H Q d} f q k=>by
  unfold zfq at q
  split at q
  · rename_i e
    exact ha f e fun v H1 s1 i1=>⟨true,i1.isBl,iteT (hb (f.grow s1) q fun v H2 s2=>k _ _ (s1.trans s2))⟩
  · rename_i e
    cases q
    exact ha f e fun v H1 s1 i1=>⟨false,i1.isBl,iteF (k _ _ s1 (.bl _))⟩
  · cases q
theorem si_orV (ha:SemB K ta a) (hb:SemI K tb b):SemI K (tOrV ta tb) (dOrV a b):=fun {B Z os ρ σ H Q d} f q k=>by
  unfold dOrV at q
  split at q
  · rename_i e
    cases q
    exact ha f e fun v H1 s1 i1=>⟨true,i1.isBl,iteT (k _ _ s1 (.bl _))⟩
  · rename_i e
    exact ha f e fun v H1 s1 i1=>⟨false,i1.isBl,iteF (hb (f.grow s1) q fun v H2 s2=>k _ _ (s1.trans s2))⟩
  · cases q
theorem si_notV (ha:SemB K ta a):SemI K (tNotV ta) (zmv a):=fun {B Z os ρ σ H Q d} f q k=>by
  unfold zmv at q
  split at q
  · rename_i c e
    cases q
    exact ha f e fun v H1 s1 i1=>⟨c,i1.isBl,k _ _ s1 (.bl _)⟩
  · cases q
end
end
end VL
namespace L2
open PySem PySem.Spec PyProof.Rows
section
variable {X:Cx} {pins:List (Addr×Obj)} {σ:St} {H:Hp} {s:Shared} {l:Addr} {xs:List V}
theorem Inv.lstR (I:Inv X pins σ H s) (hH:Rd H l (.lst xs)):xs.length≤sizeLine∧∃ (its:List Value) (n:Nat),Vals xs its∧xs.length=its.length∧s.heap.get? l=some { cls:=.type "list", data:=.seq its.toArray n }:=by
  obtain ⟨z,its,n,r,e⟩:=hH.ok I.hok
  exact ⟨z,its,n,r,r.length,e⟩
def rCatR:R2:=fun x y H Q=>∃ l b xs zs,x=.ref l∧y=.ref b∧Rd H l (.lst xs)∧Rd H b (.lst zs)∧xs.length+zs.length≤sizeLine∧∀ p,H p=none→Q (.ref p) (upd H p (.lst (xs++zs)))
theorem za7:OpR X (binaryOp .Add) rCatR:=by
  intro pins s σ H x y v u Q I rx ry h
  obtain ⟨l,b,xs,zs,rfl,rfl,hH,hB,hz,q⟩:=h
  cases rx
  cases ry
  obtain ⟨z,its,n,r,hl,e⟩:=I.lstR hH
  obtain ⟨z2,its2,n2,r2,hl2,e2⟩:=I.lstR hB
  refine PySem.P.add_list e e2 ?_ (by rw [List.size_toArray,List.size_toArray]; omega)
  have ea:its.toArray++its2.toArray=(its++its2).toArray:=by simp
  rw [ea]
  exact ⟨.ref _,_,I.lnew (t':=s.toks) (r.append r2) (by rw [List.length_append]; omega),rfl,q _ I.fresh⟩
theorem zax {K:PySem.W.Frag} (h:X.K=K):IxR X (rIx K):=by subst h; exact ix_seq
theorem zau {K:PySem.W.Frag} (h:X.K=K):zhu X (.builtin "len") (fun xs H Q=>∃ x n,xs=[x]∧LenV K x H n∧Q (.int n) H):=by subst h; exact call_len
end
end L2
namespace VL
open PySem L2
open Classical
noncomputable section
section
variable [Tabs] {K:PySem.W.Frag} {ta tb tc:TE} {a b c:DE}
noncomputable def zag (a:DE) (es:Rho→Option (List D)):Rho→Option (List D):=fun ρ=>match a ρ with
  | some d=>(match es ρ with
    | some ds=>some (d::ds)
    | none=>none)
  | none=>none
noncomputable def dNil:Rho→Option (List D):=fun _=>some []
theorem dCons_some {a:DE} {es:Rho→Option (List D)} {ρ:Rho} {ds:List D} (h:zag a es ρ=some ds):∃ d r,a ρ=some d∧es ρ=some r∧ds=d::r:=by
  unfold zag at h
  split at h
  · rename_i d e1
    split at h
    · rename_i r e2
      exact ⟨d,r,e1,e2,(Option.some.inj h).symm⟩
    · cases h
  · cases h
theorem zai:SemA K [] tNil dNil:=fun f q k=>by cases q; exact k _ _ (Same.refl _) .nil
theorem zah {ms:List Bool} {tr:TA} {es:Rho→Option (List D)} (ha:SemI K ta a) (hr:SemA K ms tr es):SemA K (true::ms) (zdw ta tr) (zag a es):=fun {B Z os ρ σ H Q ds} f q k=>by
  obtain ⟨d,r,e1,e2,rfl⟩:=dCons_some q
  exact ha f e1 fun v H1 s1 i1=>hr (f.grow s1) e2 fun vs H2 s2 i2=>k _ _ (s1.trans s2) (.own (i1.same s2) i2)
theorem zal {ms:List Bool} {tr:TA} {es:Rho→Option (List D)} (ha:SemB K ta a) (hr:SemA K ms tr es):SemA K (false::ms) (zdw ta tr) (zag a es):=fun {B Z os ρ σ H Q ds} f q k=>by
  obtain ⟨d,r,e1,e2,rfl⟩:=dCons_some q
  exact ha f e1 fun v H1 s1 i1=>hr (f.grow s1) e2 fun vs H2 s2 i2=>k _ _ (s1.trans s2) (.any (i1.same s2) i2)
theorem zje {T:Addr→Prop} {H:Hp} {p:Addr} {o:HO} (hp:H p=none):Kp T H (fun a=>a=p∨T a) (upd H p o):=fun a u e z=>by
  have hne:a≠p:=zb2 e hp
  exact ⟨by rw [upd_ne hne]; exact e,fun q=>q.elim hne z⟩
theorem zap {n:Nat} {t:TA} {es:Rho→Option (List D)} (h:SemA K (List.replicate n true) t es) (hn:n≤sizeLine):SemF K (tLst t) es:=fun {B Z os ρ σ H Q ds} f q k=>by
  refine h f q fun vs H1 s1 a=>?_
  have hl:vs.length≤sizeLine:=by have:=a.len.1; rw [List.length_replicate] at this; omega
  exact ⟨hl,fun p hp=>k p vs _ (s1.trans (zc9 hp)) (Same.free s1 hp) zbt hl (a.lown.kp (zje hp))⟩
noncomputable def dTup (es:Rho→Option (List D)):DE:=fun ρ=>(es ρ).map D.tup
theorem si_tup {n:Nat} {t:TA} {es:Rho→Option (List D)} (h:SemA K (List.replicate n true) t es) (hn:n≤sizeLine):SemI K (tTup t) (dTup es):=fun {B Z os ρ σ H Q d} f q k=>by
  unfold dTup at q
  cases q1:es ρ with
  | none=>rw [q1] at q; cases q
  | some ds =>
    rw [q1] at q
    cases q
    refine h f q1 fun vs H1 s1 a=>?_
    have hl:vs.length≤sizeLine:=by have:=a.len.1; rw [List.length_replicate] at this; omega
    exact ⟨hl,fun p hp=>k _ _ (s1.trans (zc9 hp)) (.tup ((f.grow s1).out hp) zbt hl ((a.lown.kp (zje hp)).kp (Kp.less fun a z=>.inr z)))⟩
noncomputable def dLst (es:Rho→Option (List D)):DE:=fun ρ=>(es ρ).map D.lst
theorem SemF.l {t:TE} {e:Rho→Option (List D)} (h:SemF K t e):SemI K t (dLst e):=h.i
def ixD:D→Int→Option D
  | .lst ds,i=>atI ds i
  | .tup ds,i=>atI ds i
  | .scr ns,i=>(atI ns i).map D.int
  | .str z,i=>if z.length≤sizeLine then (atI z.cps.toList i).map fun c=>.str ⟨#[c]⟩ else none
  | _,_=>none
theorem atI_is {H:Hp} {Z:Addr→Prop} {vs:List V} {ds:List D} {i:Int} {d:D} (r:IsL K H Z vs ds) (h:atI ds i=some d):∃ v,atI vs i=some v∧Is K H Z v d:=by
  unfold atI at h ⊢
  rw [r.length]
  cases e:ixN ds.length i with
  | none=>rw [e] at h; cases h
  | some j =>
    rw [e] at h
    obtain ⟨v,e1,i1⟩:=r.get (i:=j) (show ds[j]?=some d from h)
    exact ⟨v,e1,i1⟩
theorem atI_mapI {ns:List Int} {i:Int} {n:Int} (h:atI ns i=some n):atI (ns.map V.int) i=some (.int n):=by
  unfold atI at h ⊢
  rw [List.length_map]
  cases e:ixN ns.length i with
  | none=>rw [e] at h; cases h
  | some j =>
    rw [e] at h
    have h':ns[j]?=some n:=h
    show (ns.map V.int)[j]?=some (.int n)
    rw [List.getElem?_map,h']
    rfl
theorem ix_is {H:Hp} {Z:Addr→Prop} {v:V} {d e:D} {i:Int} {Q:VK} (h:Is K H Z v d) (q:ixD d i=some e) (k:∀ u,Is K H Z u e→Q u H):rIx K v (.int i) H Q:=by
  cases h with
  | lst hz h hl r =>
    obtain ⟨u,e1,i1⟩:=atI_is r (show atI _ i=some e from q)
    exact .inl ⟨_,_,i,u,rfl,rfl,.inl h,e1,k u i1⟩
  | tup hz h hl r =>
    obtain ⟨u,e1,i1⟩:=atI_is r (show atI _ i=some e from q)
    exact .inr (.inl ⟨_,_,i,u,rfl,rfl,.inl (.inl h),e1,k u i1⟩)
  | str z =>
    have q:(if z.length≤sizeLine then (atI z.cps.toList i).map fun c=>D.str ⟨#[c]⟩ else none)=some e:=q
    by_cases c:z.length≤sizeLine
    · rw [if_pos c] at q
      cases e2:atI z.cps.toList i with
      | none=>rw [e2] at q; cases q
      | some cp =>
        rw [e2] at q
        cases q
        exact .inr (.inr ⟨z,i,cp,rfl,rfl,c,e2,k _ (.str _)⟩)
    · rw [if_neg c] at q; cases q
  | @scr p ns hz h hl =>
    have q:(atI ns i).map D.int=some e:=q
    cases e2:atI ns i with
    | none=>rw [e2] at q; cases q
    | some n=>rw [e2] at q; cases q; exact .inl ⟨_,_,i,_,rfl,rfl,.inl h,atI_mapI e2,k _ (.int n)⟩
  | @scrK p ns h hl =>
    have q:(atI ns i).map D.int=some e:=q
    cases e2:atI ns i with
    | none=>rw [e2] at q; cases q
    | some n=>rw [e2] at q; cases q; exact .inl ⟨_,_,i,_,rfl,rfl,.inr h,atI_mapI e2,k _ (.int n)⟩
  | _=>cases q
noncomputable def dIx (a b:DE):DE:=fun ρ=>match a ρ with
  | some d=>(match b ρ with
    | some (.int i)=>ixD d i
    | _=>none)
  | none=>none
theorem dIx_some {ρ:Rho} {d:D} (h:dIx a b ρ=some d):∃ e i,a ρ=some e∧b ρ=some (.int i)∧ixD e i=some d:=by
  unfold dIx at h
  split at h
  · rename_i e e1
    split at h
    · rename_i i e2
      exact ⟨e,i,e1,e2,h⟩
    · cases h
  · cases h
theorem zbw (ha:SemB K ta a) (hb:SemB K tb b):SemB K (tOp (rIx K) ta tb) (dIx a b):=fun {B Z os ρ σ H Q d} f q k=>by
  obtain ⟨e,i,e1,e2,e3⟩:=dIx_some q
  refine ha f e1 fun v H1 s1 i1=>hb (f.grow s1) e2 fun u H2 s2 i2=>?_
  rw [i2.isInt]
  exact ix_is (i1.same s2) e3 fun w i3=>k _ _ (s1.trans s2) i3
theorem zij (ha:SemI K ta a) (hb:SemB K tb b):SemI K (tOp (rIx K) ta tb) (dIx a b):=fun {B Z os ρ σ H Q d} f q k=>by
  obtain ⟨e,i,e1,e2,e3⟩:=dIx_some q
  refine ha f e1 fun v H1 s1 i1=>hb (f.grow s1) e2 fun u H2 s2 i2=>?_
  rw [i2.isInt]
  exact ix_is (i1.same s2) e3 fun w i3=>k _ _ (s1.trans s2) i3
def D.v:D→V
  | .bl b=>.bl b
  | .int i=>.int i
  | .str x=>.str x
  | .ty n=>.ty n
  | _=>.non
theorem D.v_is {H:Hp} {Z:Addr→Prop} {d:D} (h:d.scal=true):Is K H Z d.v d:=by
  cases d with
  | non=>exact .non
  | bl b=>exact .bl b
  | int b=>exact .int b
  | str b=>exact .str b
  | ty b=>exact .ty b
  | _=>cases h
noncomputable def dF1 (g:D→Option D) (a:DE):DE:=fun ρ=>match a ρ with
  | some d=>g d
  | none=>none
theorem zmx {r:List V→Hp→VK→Prop} {g:D→Option D} (hg:∀ {H v d e} {Q:VK},Is K H No v d→g d=some e→e.scal=true∧(Q e.v H→r [v] H Q)) (ha:SemB K ta a):SemI K (tCB r (zdw ta tNil)) (dF1 g a):=fun {B Z os ρ σ H Q d} f q k=>by
  unfold dF1 at q
  split at q
  · rename_i e e1
    refine ha f e1 fun v H1 s1 i1=>?_
    obtain ⟨hs,hr⟩:=hg (Q:=Q) i1 q
    exact hr (k _ _ s1 (D.v_is hs))
  · cases q
def lenD:D→Option D
  | .lst ds=>some (.int ds.length)
  | .tup ds=>some (.int ds.length)
  | .scr ns=>some (.int ns.length)
  | .str y=>if y.length≤sizeLine then some (.int y.length) else none
  | _=>none
theorem len_is {H:Hp} {v:V} {d e:D} {Q:VK} (h:Is K H No v d) (q:lenD d=some e):e.scal=true∧(Q e.v H→∃ x n,[v]=[x]∧LenV K x H n∧Q (.int n) H):=by
  cases h with
  | lst hz h hl r=>cases q; exact ⟨rfl,fun k=>⟨_,_,rfl,.inl ⟨_,.inl h,rfl⟩,by rw [r.length]; exact k⟩⟩
  | tup hz h hl r=>cases q; exact ⟨rfl,fun k=>⟨_,_,rfl,.inr ⟨_,.inl (.inl h),rfl⟩,by rw [r.length]; exact k⟩⟩
  | str z =>
    have q:(if z.length≤sizeLine then some (D.int z.length) else none)=some e:=q
    by_cases c:z.length≤sizeLine
    · rw [if_pos c] at q; cases q; exact ⟨rfl,fun k=>⟨_,_,rfl,⟨c,rfl⟩,k⟩⟩
    · rw [if_neg c] at q; cases q
  | scr hz h hl=>cases q; exact ⟨rfl,fun k=>⟨_,_,rfl,.inl ⟨_,.inl h,rfl⟩,by rw [List.length_map]; exact k⟩⟩
  | scrK h hl=>cases q; exact ⟨rfl,fun k=>⟨_,_,rfl,.inl ⟨_,.inr h,rfl⟩,by rw [List.length_map]; exact k⟩⟩
  | _=>cases q
theorem zbe (ha:SemB K ta a):SemI K (tCB (fun xs H Q=>∃ x n,xs=[x]∧LenV K x H n∧Q (.int n) H) (zdw ta tNil)) (dF1 lenD a):=zmx (fun h q=>len_is h q) ha
def ze2:List D→Option (List Int)
  | []=>some []
  | .int i::r=>(ze2 r).map (i::·)
  | _=>none
theorem zgy:∀ (ns:List Int),ze2 (ns.map D.int)=some ns
  | []=>rfl
  | n::ns=>by show (ze2 (ns.map D.int)).map (n::·)=_; rw [zgy ns]; rfl
theorem zhj:∀ {ds:List D} {ns:List Int},ze2 ds=some ns→ds=ns.map D.int
  | [],ns,h=>by cases h; rfl
  | .int i::r,ns,h=>by
    have h:(ze2 r).map (i::·)=some ns:=h
    cases e:ze2 r with
    | none=>rw [e] at h; cases h
    | some ms=>rw [e] at h; cases h; rw [zhj e]; rfl
  | .non::_,_,h=>by cases h
  | .bl _::_,_,h=>by cases h
  | .str _::_,_,h=>by cases h
  | .ty _::_,_,h=>by cases h
  | .lst _::_,_,h=>by cases h
  | .tup _::_,_,h=>by cases h
  | .ins _::_,_,h=>by cases h
  | .dct _::_,_,h=>by cases h
  | .scr _::_,_,h=>by cases h
def ofInts (g:List Int→Option D):D→Option D
  | .lst ds=>(ze2 ds).bind g
  | _=>none
theorem ofInts_some {g:List Int→Option D} {d e:D} (h:ofInts g d=some e):∃ ns,d=.lst (ns.map D.int)∧g ns=some e:=by
  cases d with
  | lst ds =>
    have h:(ze2 ds).bind g=some e:=h
    cases q:ze2 ds with
    | none=>rw [q] at h; cases h
    | some ns=>rw [q] at h; exact ⟨ns,by rw [zhj q],h⟩
  | _=>cases h
theorem Is.ints {H:Hp} {Z:Addr→Prop} {v:V} {ns:List Int} (h:Is K H Z v (.lst (ns.map D.int))):∃ p,v=.ref p∧Rd H p (.lst (ns.map V.int)):=by
  generalize e:D.lst (ns.map D.int)=d at h
  cases h with
  | lst hz h hl r=>cases e; rw [← r.ints]; exact ⟨_,rfl,h⟩
  | _=>cases e
def minL (x:Int) (r:List Int):Int:=r.foldl min x
theorem minL_spec:∀ (r:List Int) (x:Int),minL x r∈x::r∧∀ a∈x::r,minL x r≤a
  | [],x=>⟨List.mem_cons_self,fun a h=>by rw [List.mem_singleton.mp h]; exact Int.le_refl _⟩
  | y::r,x=>by
    obtain ⟨h1,h2⟩:=minL_spec r (min x y)
    have e:minL x (y::r)=minL (min x y) r:=rfl
    rw [e]
    refine ⟨?_,fun a ha=>?_⟩
    · rcases List.mem_cons.mp h1 with q | q
      · rw [q]
        rcases Int.le_total x y with z | z
        · rw [Int.min_eq_left z]; simp
        · rw [Int.min_eq_right z]; simp
      · simp [q]
    · have hm:=h2 (min x y) List.mem_cons_self
      rcases List.mem_cons.mp ha with rfl | ha
      · omega
      · rcases List.mem_cons.mp ha with rfl | ha
        · omega
        · exact h2 a (List.mem_cons_of_mem _ ha)
theorem min_uniq {ns:List Int} {M N:Int} (h1:M∈ns) (h2:∀ a∈ns,M≤a) (h3:N∈ns) (h4:∀ a∈ns,N≤a):M=N:=by
  have:=h2 N h3
  have:=h4 M h1
  omega
noncomputable def zkx:DE→DE→DE:=dII fun i j=>some (.int (if j > i then j else i))
noncomputable def zm1:DE→DE→DE:=dII fun i j=>some (.int (if j<i then j else i))
theorem zi3 (ha:SemB K ta a) (hb:SemB K tb b):SemI K (tCB (fun xs H Q=>∃ i j,xs=[.int i,.int j]∧Q (.int (if j > i then j else i)) H) (zdw ta (zdw tb tNil))) (zkx a b):=fun {B Z os ρ σ H Q d} f q k=>by
  obtain ⟨i,j,e1,e2,e3⟩:=zis q
  cases e3
  refine ha f e1 fun v H1 s1 i1=>hb (f.grow s1) e2 fun u H2 s2 i2=>⟨i,j,by rw [i1.isInt,i2.isInt],k _ _ (s1.trans s2) (.int _)⟩
theorem si_min2 (ha:SemB K ta a) (hb:SemB K tb b):SemI K (tCB (fun xs H Q=>∃ i j,xs=[.int i,.int j]∧Q (.int (if j<i then j else i)) H) (zdw ta (zdw tb tNil))) (zm1 a b):=fun {B Z os ρ σ H Q d} f q k=>by
  obtain ⟨i,j,e1,e2,e3⟩:=zis q
  cases e3
  refine ha f e1 fun v H1 s1 i1=>hb (f.grow s1) e2 fun u H2 s2 i2=>⟨i,j,by rw [i1.isInt,i2.isInt],k _ _ (s1.trans s2) (.int _)⟩
def intD:D→Option D
  | .int i=>some (.int i)
  | .bl b=>some (.int (if b=true then 1 else 0))
  | _=>none
theorem zj9 (ha:SemB K ta a):SemI K (tCB (fun xs H Q=>(∃ i,xs=[.int i]∧Q (.int i) H)∨∃ k,xs=[.bl k]∧Q (.int (if k then 1 else 0)) H) (zdw ta tNil)) (dF1 intD a):=by
  refine zmx (fun h q=>?_) ha
  cases h with
  | int i=>cases q; exact ⟨rfl,fun k=>.inl ⟨i,rfl,k⟩⟩
  | bl b=>cases q; exact ⟨rfl,fun k=>.inr ⟨b,rfl,k⟩⟩
  | _=>cases q
def D.tyn:D→String
  | .non => "NoneType"
  | .bl _ => "bool"
  | .int _ => "int"
  | .str _ => "str"
  | .lst _ => "list"
  | .tup _ => "tuple"
  | .ty _ => "type"
  | .ins _ => "object"
  | .dct _ => "object"
  | .scr _ => "script"
def isiT:String→String→Option Bool
  | "int", "int" => some true
  | "int", "bool" => some false
  | "int", "list" => some false
  | "int", "tuple" => some false
  | "int", "str" => some false
  | "bool", "int" => some true
  | "bool", "bool" => some true
  | "bool", "list" => some false
  | "bool", "tuple" => some false
  | "list", "list" => some true
  | "list", "tuple" => some false
  | "list", "int" => some false
  | "list", "str" => some false
  | "tuple", "tuple" => some true
  | "tuple", "list" => some false
  | "tuple", "int" => some false
  | "str", "str" => some true
  | "str", "list" => some false
  | "str", "int" => some false
  | "NoneType", "int" => some false
  | "NoneType", "list" => some false
  | "NoneType", "tuple" => some false
  | _,_=>none
noncomputable def dIsi (n:String) (a:DE):DE:=fun ρ=>match a ρ with
  | some d=>(isiT d.tyn n).map D.bl
  | none=>none
theorem isiT_kit {x n:String} {b:Bool} (h:isiT x n=some b):PySem.W.kitOne K (.type x) (.type n)=some b:=by
  unfold isiT at h
  split at h <;> first | (cases h; rfl) | (cases h; with_unfolding_all rfl) | cases h
theorem tyOf_is {H:Hp} {v:V} {d:D} {n:String} {b:Bool} (h:Is K H No v d) (e:isiT d.tyn n=some b):TyOf K H v (.type d.tyn):=by
  cases h with
  | non=>exact .non
  | bl b=>exact .bl b
  | int b=>exact .int b
  | str b=>exact .str b
  | ty n=>unfold isiT at e; simp [D.tyn] at e
  | lst hz h hl r=>rcases h with h | ⟨o,h⟩; exact .lst h; exact .frz h
  | tup hz h hl r=>exact .tup h
  | ins _ _=>unfold isiT at e; simp [D.tyn] at e
  | dct _ _ _=>unfold isiT at e; simp [D.tyn] at e
  | scr _ _ _=>unfold isiT at e; simp [D.tyn] at e
  | scrK _ _=>unfold isiT at e; simp [D.tyn] at e
theorem si_isi {n:String} (ha:SemB K ta a):SemI K (tCB (fun xs H Q=>∃ x n t b,xs=[x,.ty n]∧TyOf K H x t∧PySem.W.kitOne K t (.type n)=some b∧Q (.bl b) H) (zdw ta (zdw (tC (.ty n)) tNil))) (dIsi n a):=fun {B Z os ρ σ H Q d} f q k=>by
  unfold dIsi at q
  split at q
  · rename_i e e1
    cases q1:isiT e.tyn n with
    | none=>rw [q1] at q; cases q
    | some b =>
      rw [q1] at q
      cases q
      exact ha f e1 fun v H1 s1 i1=>⟨v,n,_,b,rfl,tyOf_is i1 q1,isiT_kit q1,k _ _ s1 (.bl b)⟩
  · cases q
def cutL {α:Type} (xs:List α) (lo hi:Option Int):List α:=(xs.drop (HT.sIx xs.length 0 lo)).take (HT.sIx xs.length xs.length hi-HT.sIx xs.length 0 lo)
theorem cut_is {H:Hp} {Z:Addr→Prop} {vs:List V} {ds:List D} {lo hi:Option Int} (r:IsL K H Z vs ds):IsL K H Z (cutV vs lo hi) (cutL ds lo hi):=by
  unfold cutV cutL
  rw [r.length]
  exact (r.drop _).take _
def SemO (K:PySem.W.Frag) (t:TO) (e:Rho→Option (Option Int)):Prop:=∀ {B:Hp} {Z:Addr→Prop} {os:Own} {ρ:Rho} {σ:L2.St} {H:Hp} {Q:Option Int→Hp→Prop} {o:Option Int},Fr K B Z os ρ σ H→e ρ=some o→(∀ H',Same H H'→Q o H')→t σ H Q
noncomputable def zd1:Rho→Option (Option Int):=fun _=>some none
noncomputable def zdt (a:DE):Rho→Option (Option Int):=fun ρ=>match a ρ with
  | some (.int i)=>some (some i)
  | _=>none
theorem zck:SemO K tNoPart zd1:=fun f q k=>by cases q; exact k _ (Same.refl _)
theorem zcj (ha:SemB K ta a):SemO K (tPart ta) (zdt a):=fun {B Z os ρ σ H Q o} f q k=>by
  unfold zdt at q
  split at q
  · rename_i i e
    cases q
    exact ha f e fun v H1 s1 i1=>⟨i,i1.isInt,k _ s1⟩
  · cases q
def asL (a:DE):Rho→Option (List D):=fun ρ=>match a ρ with
  | some d=>lof d
  | none=>none
theorem zfu {a:DE} {ρ:Rho} {ds:List D} (h:asL a ρ=some ds):∃ d,a ρ=some d∧lof d=some ds:=by
  unfold asL at h
  split at h
  · exact ⟨_,by assumption,h⟩
  · cases h
noncomputable def dSl (a:DE) (lo hi:Rho→Option (Option Int)):Rho→Option (List D):=fun ρ=>match asL a ρ with
  | some ds=>(match lo ρ with
    | some l=>(match hi ρ with
      | some h=>some (cutL ds l h)
      | none=>none)
    | none=>none)
  | _=>none
theorem dSl_some {lo hi:Rho→Option (Option Int)} {ρ:Rho} {ds:List D} (h:dSl a lo hi ρ=some ds):∃ es l u,asL a ρ=some es∧lo ρ=some l∧hi ρ=some u∧ds=cutL es l u:=by
  unfold dSl at h
  split at h
  · rename_i es e1
    split at h
    · rename_i l e2
      split at h
      · rename_i u e3
        exact ⟨es,l,u,e1,e2,e3,(Option.some.inj h).symm⟩
      · cases h
    · cases h
  · cases h
theorem Is.isLst {H:Hp} {Z:Addr→Prop} {v:V} {ds:List D} (h:Is K H Z v (.lst ds)):∃ p vs,v=.ref p∧¬ Z p∧Rd H p (.lst vs)∧vs.length≤sizeLine∧IsL K H Z vs ds:=by
  cases h with
  | lst hz h hl r=>exact ⟨_,_,rfl,hz,h,hl,r⟩
theorem Is.isTup {H:Hp} {Z:Addr→Prop} {v:V} {ds:List D} (h:Is K H Z v (.tup ds)):∃ p vs,v=.ref p∧¬ Z p∧H p=some (.tup vs)∧vs.length≤sizeLine∧IsL K H Z vs ds:=by
  cases h with
  | tup hz h hl r=>exact ⟨_,_,rfl,hz,h,hl,r⟩
theorem zfb {tl th:TO} {lo hi:Rho→Option (Option Int)} (ha:SemI K ta a) (hl:SemO K tl lo) (hh:SemO K th hi):SemF K (tSl (rSlL K) ta tl th) (dSl a lo hi):=fun {B Z os ρ σ H Q ds} f q k=>by
  obtain ⟨es,l,u,e1,e2,e3,rfl⟩:=dSl_some q
  obtain ⟨d,e1,ed⟩:=zfu e1
  refine ha f e1 fun v H1 s1 i1=>hl (f.grow s1) e2 fun H2 s2=>hh (f.grow (s1.trans s2)) e3 fun H3 s3=>?_
  obtain ⟨p,vs,rfl,hn,_,hr⟩:=i1.seq ed
  obtain ⟨hr,r⟩:=hr H3 _ (Kp.same (s2.trans s3))
  have s13:=(s1.trans s2).trans s3
  exact ⟨p,vs,rfl,hr,fun n hn'=>k n _ _ (s13.trans (zc9 hn')) (Same.free s13 hn') zbt (Nat.le_trans (zhe _ _ _) hn) ((cut_is r).kp (zje hn'))⟩
def zf9 (ds:List D):Bool:=ds.all D.scal
theorem IsL.flat {H H':Hp} {Z Z':Addr→Prop}:∀ {vs:List V} {ds:List D},IsL K H Z vs ds→zf9 ds=true→IsL K H' Z' vs ds
  | _,_,.nil,_=>.nil
  | _,_,.cons h r,e=>by
    have e:=(Bool.and_eq_true _ _).mp (show (D.scal _&&zf9 _)=true from e)
    exact .cons (h.scal e.1) (r.flat e.2)
noncomputable def zl8 (e:Rho→Option (List D)):Rho→Option (List D):=fun ρ=>match e ρ with
  | some ds=>if zf9 ds=true then some ds else none
  | none=>none
theorem gFlat_some {e:Rho→Option (List D)} {ρ:Rho} {ds:List D} (h:zl8 e ρ=some ds):e ρ=some ds∧zf9 ds=true:=by
  unfold zl8 at h
  split at h
  · rename_i es e1
    by_cases c:zf9 es=true
    · rw [if_pos c] at h; cases h; exact ⟨e1,c⟩
    · rw [if_neg c] at h; cases h
  · cases h
theorem sf_slB {tl th:TO} {lo hi:Rho→Option (Option Int)} (ha:SemB K ta a) (hl:SemO K tl lo) (hh:SemO K th hi):SemF K (tSl (rSlL K) ta tl th) (zl8 (dSl a lo hi)):=fun {B Z os ρ σ H Q ds} f q k=>by
  obtain ⟨q,hf⟩:=gFlat_some q
  obtain ⟨es,l,u,e1,e2,e3,rfl⟩:=dSl_some q
  obtain ⟨d,e1,ed⟩:=zfu e1
  refine ha f e1 fun v H1 s1 i1=>hl (f.grow s1) e2 fun H2 s2=>hh (f.grow (s1.trans s2)) e3 fun H3 s3=>?_
  obtain ⟨p,vs,rfl,hn,_,hr⟩:=i1.seq ed
  obtain ⟨hr,r⟩:=hr H3 _ (Kp.same (s2.trans s3))
  have s13:=(s1.trans s2).trans s3
  exact ⟨p,vs,rfl,hr,fun n hn'=>k n _ _ (s13.trans (zc9 hn')) (Same.free s13 hn') zbt (Nat.le_trans (zhe _ _ _) hn) ((cut_is r).flat hf)⟩
noncomputable def dLof (a:DE):Rho→Option (List D):=fun ρ=>match a ρ with
  | some (.tup ds)=>some ds
  | some d=>lof d
  | _=>none
theorem dLof_some {ρ:Rho} {ds:List D} (h:dLof a ρ=some ds):a ρ=some (.tup ds)∨∃ d,a ρ=some d∧lof d=some ds:=by
  unfold dLof at h
  split at h
  · rename_i es e; cases h; exact .inl e
  · rename_i d _ e; exact .inr ⟨d,e,h⟩
  · cases h
theorem sf_list (ha:SemI K ta a):SemF K (tCB (fun xs H Q=>∃ p ys,xs=[.ref p]∧(SqL K H p ys∨SqT K H p ys)∧∀ l,H l=none→Q (.ref l) (upd H l (.lst ys))) (zdw ta tNil)) (dLof a):=fun {B Z os ρ σ H Q ds} f q k=>by
  rcases dLof_some q with e1 | ⟨d,e1,ed⟩
  · refine ha f e1 fun v H1 s1 i1=>?_
    obtain ⟨p,vs,rfl,hz,hr,hn,r⟩:=i1.isTup
    exact ⟨p,vs,rfl,.inr (.inl (.inl hr)),fun n hn'=>k n _ _ (s1.trans (zc9 hn')) (Same.free s1 hn') zbt hn (r.kp (zje hn'))⟩
  · refine ha f e1 fun v H1 s1 i1=>?_
    obtain ⟨p,vs,rfl,hn,_,hr⟩:=i1.seq ed
    obtain ⟨hr,r⟩:=hr H1 _ Kp.refl
    exact ⟨p,vs,rfl,.inl hr,fun n hn'=>k n _ _ (s1.trans (zc9 hn')) (Same.free s1 hn') zbt hn (r.kp (zje hn'))⟩
noncomputable def dCat (a b:DE):Rho→Option (List D):=fun ρ=>match a ρ with
  | some (.lst ds)=>(match b ρ with
    | some (.lst es)=>if ds.length+es.length≤sizeLine then some (ds++es) else none
    | _=>none)
  | _=>none
theorem dCat_some {ρ:Rho} {ds:List D} (h:dCat a b ρ=some ds):∃ xs ys,a ρ=some (.lst xs)∧b ρ=some (.lst ys)∧xs.length+ys.length≤sizeLine∧ds=xs++ys:=by
  unfold dCat at h
  split at h
  · rename_i xs e1
    split at h
    · rename_i ys e2
      by_cases c:xs.length+ys.length≤sizeLine
      · rw [if_pos c] at h; exact ⟨xs,ys,e1,e2,c,(Option.some.inj h).symm⟩
      · rw [if_neg c] at h; cases h
    · cases h
  · cases h
theorem zbl (ha:SemI K ta a) (hb:SemI K tb b):SemF K (tOp rCatR ta tb) (dCat a b):=fun {B Z os ρ σ H Q ds} f q k=>by
  obtain ⟨xs,ys,e1,e2,hc,rfl⟩:=dCat_some q
  refine ha f e1 fun v H1 s1 i1=>hb (f.grow s1) e2 fun u H2 s2 i2=>?_
  obtain ⟨p,vs,rfl,hz,hr,hn,r⟩:=(i1.same s2).isLst
  obtain ⟨p2,us,rfl,hz2,hr2,hn2,r2⟩:=i2.isLst
  have hl:vs.length+us.length≤sizeLine:=by rw [r.length,r2.length]; exact hc
  have s12:=s1.trans s2
  exact ⟨p,p2,vs,us,rfl,rfl,hr,hr2,hl,fun n hn'=>k n _ _ (s12.trans (zc9 hn')) (Same.free s12 hn') zbt (by rw [List.length_append]; exact hl) ((r.append r2).kp (zje hn'))⟩
noncomputable def dRep (a:Rho→Option (List D)) (b:DE):Rho→Option (List D):=fun ρ=>match a ρ with
  | some ds=>(match b ρ with
    | some (.int n)=>if -(2 ^ 63)≤n∧n<2 ^ 63∧ds.length*n.toNat≤sizeLine then some (List.replicate n.toNat ds).flatten else none
    | _=>none)
  | none=>none
theorem IsL.rep {H:Hp} {Z:Addr→Prop} {vs:List V} {ds:List D} (r:IsL K H Z vs ds):∀ n,IsL K H Z (List.replicate n vs).flatten (List.replicate n ds).flatten
  | 0=>.nil
  | n+1=>by rw [List.replicate_succ,List.flatten_cons,List.replicate_succ,List.flatten_cons]; exact r.append (r.rep n)
theorem zg7 {a:Rho→Option (List D)} (ha:SemF K ta a) (hb:SemB K tb b):SemF K (tOp rRep ta tb) (dRep a b):=fun {B Z os ρ σ H Q ds} f q k=>by
  unfold dRep at q
  split at q
  · rename_i es e1
    split at q
    · rename_i n e2
      by_cases c:-(2 ^ 63)≤n∧n<2 ^ 63∧es.length*n.toNat≤sizeLine
      · rw [if_pos c] at q
        cases q
        refine ha f e1 fun p vs H1 s1 hp hp' hl i1=>hb (f.grow s1) e2 fun u H2 s2 i2=>?_
        rw [i2.isInt]
        have i1':=(i1.same s2).kp (Kp.less (Z':=tot Z os) fun a z=>.inr z)
        have hlen:vs.length*n.toNat≤sizeLine:=by rw [i1.length]; exact c.2.2
        have s12:=s1.trans s2
        refine ⟨p,n,vs,rfl,rfl,s2 _ _ hp',c.1,c.2.1,hlen,fun x hx=>k x _ _ (s12.trans (zc9 hx)) (Same.free s12 hx) zbt ?_ ((i1'.rep _).kp (zje hx))⟩
        rw [len_rep,Nat.mul_comm]; exact hlen
      · rw [if_neg c] at q; cases q
    · cases q
  · cases q
def inS:D→List D→Option Bool
  | .int i,ds=>(ze2 ds).map fun ns=>decide (i∈ns)
  | _,_=>none
theorem inV_ints' (k:Int) (hs:List Int):inV (.int k) (hs.map V.int)=decide (k∈hs):=by
  unfold inV
  rw [List.any_map,Bool.eq_iff_iff,List.any_eq_true,decide_eq_true_iff]
  constructor
  · rintro ⟨x,hx,e⟩
    have e':(x==k)=true:=e
    rw [← beq_iff_eq.mp e']
    exact hx
  · intro h
    exact ⟨k,h,show (k==k)=true from beq_self_eq_true k⟩
theorem flat_ints' (hs:List Int):(hs.map V.int).all zim=true:=by
  rw [List.all_map,List.all_eq_true]
  intro x _
  rfl
noncomputable def dIn (neg:Bool) (a b:DE):DE:=fun ρ=>match a ρ with
  | some d=>(match b ρ with
    | some (.lst ds)=>(inS d ds).map fun c=>.bl (if neg then !c else c)
    | some (.tup ds)=>(inS d ds).map fun c=>.bl (if neg then !c else c)
    | _=>none)
  | none=>none
theorem inS_is {H:Hp} {Z:Addr→Prop} {v:V} {d:D} {vs:List V} {ds:List D} {c:Bool} (i:Is K H Z v d) (r:IsL K H Z vs ds) (h:inS d ds=some c):zim v=true∧vs.all zim=true∧inV v vs=c:=by
  cases i with
  | int i =>
    have h:(ze2 ds).map (fun ns=>decide (i∈ns))=some c:=h
    cases e:ze2 ds with
    | none=>rw [e] at h; cases h
    | some ns =>
      rw [e] at h
      cases h
      have e2:=zhj e
      subst e2
      rw [r.ints]
      exact ⟨rfl,flat_ints' ns,inV_ints' i ns⟩
  | _=>cases h
theorem si_in {neg:Bool} (ha:SemB K ta a) (hb:SemB K tb b):SemI K (tOp (rIn K neg) ta tb) (dIn neg a b):=fun {B Z os ρ σ H Q d} f q k=>by
  unfold dIn at q
  split at q
  · rename_i e e1
    split at q
    · rename_i ds e2
      cases q1:inS e ds with
      | none=>rw [q1] at q; cases q
      | some c =>
        rw [q1] at q
        cases q
        refine ha f e1 fun v H1 s1 i1=>hb (f.grow s1) e2 fun u H2 s2 i2=>?_
        obtain ⟨p,vs,rfl,hz,hr,hn,r⟩:=i2.isLst
        obtain ⟨h1,h2,h3⟩:=inS_is (i1.same s2) r q1
        exact ⟨p,vs,rfl,.inl (.inl hr),h1,h2,by rw [h3]; exact k _ _ (s1.trans s2) (.bl _)⟩
    · rename_i ds e2
      cases q1:inS e ds with
      | none=>rw [q1] at q; cases q
      | some c =>
        rw [q1] at q
        cases q
        refine ha f e1 fun v H1 s1 i1=>hb (f.grow s1) e2 fun u H2 s2 i2=>?_
        obtain ⟨p,vs,rfl,hz,hr,hn,r⟩:=i2.isTup
        obtain ⟨h1,h2,h3⟩:=inS_is (i1.same s2) r q1
        exact ⟨p,vs,rfl,.inr (.inl (.inl hr)),h1,h2,by rw [h3]; exact k _ _ (s1.trans s2) (.bl _)⟩
    · cases q
  · cases q
end
end
end VL
namespace VL
open PySem L2
open Classical
noncomputable section
instance:Inhabited D:=⟨.non⟩
theorem rd_lst {H:Hp} {a:Addr} {xs ys:List V} (h:Rd H a (.lst xs)) (h':Rd H a (.lst ys)):xs=ys:=by
  rcases h with h | ⟨o,h⟩ <;> rcases h' with h' | ⟨o',h'⟩ <;> rw [h] at h' <;> cases h' <;> rfl
def cmpb:Nat→D→D→Bool
  | _,.int _,.int _=>true
  | _,.bl _,.bl _=>true
  | _,.str _,.str _=>true
  | _,.non,.non=>true
  | n+1,.lst xs,.lst ys=>decide (xs.length≠ys.length) || (List.zip xs ys).all fun p=>cmpb n p.1 p.2
  | n+1,.tup xs,.tup ys=>decide (xs.length=ys.length)&&(List.zip xs ys).all fun p=>cmpb n p.1 p.2
  | _,_,_=>false
theorem zip_at {xs ys:List D} {j:Nat} {a b:D} {p:D×D→Bool} (h:(List.zip xs ys).all p=true) (e1:xs[j]?=some a) (e2:ys[j]?=some b):p (a,b)=true :=
  List.all_eq_true.mp h _ (List.mem_of_getElem? (i:=j) (List.getElem?_zip_eq_some.mpr ⟨e1,e2⟩))
inductive Cm:Nat→D→D→Prop
  | int {n:Nat} (a b:Int):Cm n (.int a) (.int b)
  | bl {n:Nat} (a b:Bool):Cm n (.bl a) (.bl b)
  | str {n:Nat} (a b:Str):Cm n (.str a) (.str b)
  | non {n:Nat}:Cm n .non .non
  | lst {n:Nat} {xs ys:List D} (h:xs.length=ys.length→(List.zip xs ys).all (fun p=>cmpb n p.1 p.2)=true):Cm (n+1) (.lst xs) (.lst ys)
  | tup {n:Nat} {xs ys:List D} (hl:xs.length=ys.length) (h:(List.zip xs ys).all (fun p=>cmpb n p.1 p.2)=true):Cm (n+1) (.tup xs) (.tup ys)
theorem zit {n:Nat} {d e:D} (hc:cmpb n d e=true):Cm n d e:=by
  unfold cmpb at hc
  split at hc
  · exact .int _ _
  · exact .bl _ _
  · exact .str _ _
  · exact .non
  · exact .lst fun hl=>by simpa [hl] using hc
  · rw [Bool.and_eq_true] at hc; exact .tup (of_decide_eq_true hc.1) hc.2
  · cases hc
theorem Is.v_int {H:Hp} {Z:Addr→Prop} {v:V} {a:Int} (i:Is K H Z v (.int a)):v=.int a:=by cases i; rfl
theorem Is.v_bl {H:Hp} {Z:Addr→Prop} {v:V} {a:Bool} (i:Is K H Z v (.bl a)):v=.bl a:=by cases i; rfl
theorem Is.v_str {H:Hp} {Z:Addr→Prop} {v:V} {a:Str} (i:Is K H Z v (.str a)):v=.str a:=by cases i; rfl
theorem Is.v_non {H:Hp} {Z:Addr→Prop} {v:V} (i:Is K H Z v .non):v=.non:=by cases i; rfl
theorem Is.v_lst {H:Hp} {Z:Addr→Prop} {v:V} {ds:List D} (i:Is K H Z v (.lst ds)):∃ a vs,v=.ref a∧¬ Z a∧Rd H a (.lst vs)∧vs.length≤sizeLine∧IsL K H Z vs ds:=by
  cases i with | lst hz h hl r=>exact ⟨_,_,rfl,hz,h,hl,r⟩
theorem Is.v_tup {H:Hp} {Z:Addr→Prop} {v:V} {ds:List D} (i:Is K H Z v (.tup ds)):∃ a vs,v=.ref a∧¬ Z a∧H a=some (.tup vs)∧vs.length≤sizeLine∧IsL K H Z vs ds:=by
  cases i with | tup hz h hl r=>exact ⟨_,_,rfl,hz,h,hl,r⟩
theorem Is.inj {H:Hp} {Z Z':Addr→Prop}:∀ (n:Nat) {v:V} {d e:D},cmpb n d e=true→Is K H Z v d→Is K H Z' v e→d=e:=by
  intro n
  induction n using Nat.strongRecOn with | ind n ih=>?_
  have lists:∀ {m:Nat},m<n→∀ {vs:List V} {ds es:List D},(List.zip ds es).all (fun p=>cmpb m p.1 p.2)=true→IsL K H Z vs ds→IsL K H Z' vs es→ds=es:=by
    intro m hm vs ds es hc r r'
    have l1:=r.length
    have l2:=r'.length
    refine List.ext_getElem (by omega) fun k h1 h2=>?_
    obtain ⟨v,e1,i1⟩:=r.get (List.getElem?_eq_getElem h1)
    obtain ⟨v',e2,i2⟩:=r'.get (List.getElem?_eq_getElem h2)
    rw [e1] at e2
    cases e2
    exact ih m hm (zip_at hc (List.getElem?_eq_getElem h1) (List.getElem?_eq_getElem h2)) i1 i2
  intro v d e hc i j
  cases zit hc with
  | int=>have h:=i.v_int; rw [j.v_int] at h; cases h; rfl
  | bl=>have h:=i.v_bl; rw [j.v_bl] at h; cases h; rfl
  | str=>have h:=i.v_str; rw [j.v_str] at h; cases h; rfl
  | non=>rfl
  | lst h =>
    obtain ⟨p,xs,rfl,z1,h1,l1,g1⟩:=i.v_lst
    obtain ⟨q,ys,e,z2,h2,l2,g2⟩:=j.v_lst
    cases e
    have e:=rd_lst h1 h2
    subst e
    rw [lists (Nat.lt_succ_self _) (h (by have:=g1.length; have:=g2.length; omega)) g1 g2]
  | tup hl h =>
    obtain ⟨p,xs,rfl,z1,h1,l1,g1⟩:=i.v_tup
    obtain ⟨q,ys,e,z2,h2,l2,g2⟩:=j.v_tup
    cases e
    rw [h1] at h2
    cases h2
    rw [lists (Nat.lt_succ_self _) h g1 g2]
section
variable {X:Cx} {pins:List (Addr×Obj)} {σ:L2.St} {H:Hp} {s:Shared}
theorem zlk (xs ys:List D):decide (D.lst xs=D.lst ys)=decide (xs=ys):=by
  rw [Bool.eq_iff_iff,decide_eq_true_iff,decide_eq_true_iff]
  exact ⟨fun h=>D.lst.inj h,fun h=>by rw [h]⟩
theorem zlj (xs ys:List D):decide (D.tup xs=D.tup ys)=decide (xs=ys):=by
  rw [Bool.eq_iff_iff,decide_eq_true_iff,decide_eq_true_iff]
  exact ⟨fun h=>D.tup.inj h,fun h=>by rw [h]⟩
theorem zji (a b:Int):decide (D.int a=D.int b)=(a==b):=by
  rw [Bool.eq_iff_iff,decide_eq_true_iff,beq_iff_eq]
  exact ⟨fun h=>D.int.inj h,fun h=>by rw [h]⟩
theorem zlz (a b:Bool):decide (D.bl a=D.bl b)=(a==b):=by
  rw [Bool.eq_iff_iff,decide_eq_true_iff,beq_iff_eq]
  exact ⟨fun h=>D.bl.inj h,fun h=>by rw [h]⟩
theorem zkf (a b:Str):decide (D.str a=D.str b)=(a==b):=by
  rw [Bool.eq_iff_iff,decide_eq_true_iff,beq_iff_eq]
  exact ⟨fun h=>D.str.inj h,fun h=>by rw [h]⟩
theorem rc_tups {A:Around} {l b:Addr} {us ws:List Value} {ns ms:List D} (p1:s.heap.IsTuple l us.toArray) (p2:s.heap.IsTuple b ws.toArray) (hl:us.length=ns.length) (hl2:ws.length=ms.length) (hs:ns.length=ms.length) (hu:A.units<cLine)
    (h:∀ (j:Nat) (u v:Value) (a b:D),us[j]?=some u→ws[j]?=some v→ns[j]?=some a→ms[j]?=some b→SeqAt.EqAt A.in1 s u v (decide (a=b))) :
    SeqAt.RcAt A s (.ref l) (.ref b) (decide (ns=ms)):=by
  have q:=SeqAt.RcAt.tuples (e:=fun j=>decide (ns.getD j default=ms.getD j default)) p1 p2 hu (eqAt_items hl hl2 h)
  have e:((List.range (min us.toArray.size ws.toArray.size)).all fun j=>decide (ns.getD j default=ms.getD j default))=decide (ns=ms):=by
    rw [List.size_toArray,List.size_toArray,hl,hl2,← hs,Nat.min_self]; exact zew default hs
  have e2:(us.toArray.size==ws.toArray.size)=true:=by simp; omega
  rw [e,e2,Bool.and_true] at q
  exact q
theorem rcNe_tups {A:Around} {l b:Addr} {us ws:List Value} {ns ms:List D} (p1:s.heap.IsTuple l us.toArray) (p2:s.heap.IsTuple b ws.toArray) (hl:us.length=ns.length) (hl2:ws.length=ms.length) (hs:ns.length=ms.length) (hu:A.units<cLine)
    (h:∀ (j:Nat) (u v:Value) (a b:D),us[j]?=some u→ws[j]?=some v→ns[j]?=some a→ms[j]?=some b→SeqAt.EqAt A.in1 s u v (decide (a=b))) :
    SeqAt.RcNeAt A s (.ref l) (.ref b) (!decide (ns=ms)):=by
  have q:=SeqAt.RcNeAt.tuples (e:=fun j=>decide (ns.getD j default=ms.getD j default)) p1 p2 hu (eqAt_items hl hl2 h)
  have e:((List.range (min us.toArray.size ws.toArray.size)).all fun j=>decide (ns.getD j default=ms.getD j default))=decide (ns=ms):=by
    rw [List.size_toArray,List.size_toArray,hl,hl2,← hs,Nat.min_self]; exact zew default hs
  have e2:(us.toArray.size==ws.toArray.size)=true:=by simp; omega
  rw [e,e2,Bool.and_true] at q
  exact q
theorem zfg {A:Around}:A.in1.units=A.units+1:=rfl
theorem zgv {n:Nat} {A:Around} {xs ys:List V} {us ws:List Value} {ds es:List D} (hc:(List.zip ds es).all (fun p=>cmpb n p.1 p.2)=true) (r1:Vals xs us) (r2:Vals ys ws) (g1:IsL K H No xs ds) (g2:IsL K H No ys es)
    (ih:∀ {v w:V} {d e:D} {u x:Value},RelV v u→RelV w x→Is K H No v d→Is K H No w e→cmpb n d e=true→SeqAt.EqAt A s u x (decide (d=e))) :
    ∀ (j:Nat) (u v:Value) (a b:D),us[j]?=some u→ws[j]?=some v→ds[j]?=some a→es[j]?=some b→SeqAt.EqAt A s u v (decide (a=b)):=by
  intro j u v a b e1 e2 e3 e4
  obtain ⟨x,f1,i1⟩:=g1.get e3
  obtain ⟨y,f2,i2⟩:=g2.get e4
  obtain ⟨u',q1,k1⟩:=r1.get f1
  obtain ⟨v',q2,k2⟩:=r2.get f2
  rw [e1] at q1; cases q1
  rw [e2] at q2; cases q2
  exact ih k1 k2 i1 i2 (zip_at hc e3 e4)
theorem zke (I:Inv X pins σ H s):∀ (n:Nat) {A:Around},A.units+n<cLine→∀ {v w:V} {d e:D} {u x:Value},RelV v u→RelV w x→Is K H No v d→Is K H No w e→cmpb n d e=true→SeqAt.EqAt A s u x (decide (d=e)):=by
  intro n
  induction n using Nat.strongRecOn with | ind n ih=>?_
  intro A hu v w d e u x r1 r2 i1 i2 hc
  have hc0:=hc
  cases zit hc with
  | int a b=>rw [i1.v_int] at r1; rw [i2.v_int] at r2; obtain ⟨t,rfl⟩:=r1; obtain ⟨t',rfl⟩:=r2; rw [zji]; exact SeqAt.EqAt.int_int a t b t'
  | bl a b=>rw [i1.v_bl] at r1; rw [i2.v_bl] at r2; cases r1; cases r2; rw [zlz]; exact SeqAt.EqAt.bool_bool a b
  | str a b=>rw [i1.v_str] at r1; rw [i2.v_str] at r2; obtain ⟨t,rfl⟩:=r1; obtain ⟨t',rfl⟩:=r2; rw [zkf]; exact SeqAt.EqAt.str_str a t b t'
  | non=>rw [i1.v_non] at r1; rw [i2.v_non] at r2; cases r1; cases r2; rw [decide_eq_true rfl]; exact SeqAt.EqAt.same _
  | @lst n ds es h =>
    have j1:=i1
    have j2:=i2
    obtain ⟨p,xs,rfl,z1,h1,l1,g1⟩:=i1.v_lst
    obtain ⟨q,ys,rfl,z2,h2,l2,g2⟩:=i2.v_lst
    cases r1
    cases r2
    by_cases hpq:p=q
    · subst hpq
      rw [decide_eq_true (Is.inj _ hc0 j1 j2)]
      exact SeqAt.EqAt.same _
    · obtain ⟨_,us,m1,k1,n1,o1⟩:=I.lstR h1
      obtain ⟨_,ws,m2,k2,n2,o2⟩:=I.lstR h2
      rw [zlk]
      have e1:=g1.length
      have e2:=g2.length
      refine SeqAt.EqAt.of_refs hpq ?_
      by_cases hl:ds.length=es.length
      · exact rcAt_lists ⟨_,o1,rfl,_,rfl⟩ ⟨_,o2,rfl,_,rfl⟩ (by omega) (by omega) (by omega) (zgv (h hl) k1 k2 g1 g2 (ih n (Nat.lt_succ_self _) (by rw [zfg]; omega)))
      · have q:=SeqAt.RcAt.lists_lengths (A:=A) (s:=s) (items:=us.toArray) (items2:=ws.toArray) ⟨_,o1,rfl,_,rfl⟩ ⟨_,o2,rfl,_,rfl⟩ (by simp; omega) (by omega)
        have e:decide (ds=es)=false:=decide_eq_false fun z=>hl (by rw [z])
        rw [e]
        exact q
  | @tup n ds es hl h =>
    have j1:=i1
    have j2:=i2
    obtain ⟨p,xs,rfl,z1,h1,l1,g1⟩:=i1.v_tup
    obtain ⟨q,ys,rfl,z2,h2,l2,g2⟩:=i2.v_tup
    cases r1
    cases r2
    by_cases hpq:p=q
    · subst hpq
      rw [decide_eq_true (Is.inj _ hc0 j1 j2)]
      exact SeqAt.EqAt.same _
    · obtain ⟨us,k1,o1,_⟩:=I.tuple (xs:=xs) (.inl (.inl h1))
      obtain ⟨ws,k2,o2,_⟩:=I.tuple (xs:=ys) (.inl (.inl h2))
      rw [zlj]
      have e1:=g1.length
      have e2:=g2.length
      have n1:=k1.length
      have n2:=k2.length
      exact SeqAt.EqAt.of_refs hpq (rc_tups o1 o2 (by omega) (by omega) hl (by omega) (zgv h k1 k2 g1 g2 (ih n (Nat.lt_succ_self _) (by rw [zfg]; omega))))
def rEqD (K:PySem.W.Frag) (neg:Bool):R2:=fun x y H Q=>∃ d e,Is K H No x d∧Is K H No y e∧cmpb 20 d e=true∧Q (.bl (if neg=true then !decide (d=e) else decide (d=e))) H
theorem zce (hu:X.A.units+64<cLine):OpR X (compareOp .Eq) (rEqD K false):=by
  intro pins s σ H x y v u Q I rx ry h
  obtain ⟨d,e,i1,i2,hc,h⟩:=h
  rw [if_neg Bool.false_ne_true] at h
  cases zit hc with
  | int a b=>obtain rfl:=i1.v_int; obtain rfl:=i2.v_int; exact zmz pins s σ H _ _ v u Q I rx ry ⟨rfl,by rw [show decide (V.int a=V.int b)=decide (D.int a=D.int b) from decide_eq_decide.mpr ⟨fun q=>by cases q; rfl,fun q=>by cases q; rfl⟩]; exact h⟩
  | bl a b=>obtain rfl:=i1.v_bl; obtain rfl:=i2.v_bl; exact zmz pins s σ H _ _ v u Q I rx ry ⟨rfl,by rw [show decide (V.bl a=V.bl b)=decide (D.bl a=D.bl b) from decide_eq_decide.mpr ⟨fun q=>by cases q; rfl,fun q=>by cases q; rfl⟩]; exact h⟩
  | str a b=>obtain rfl:=i1.v_str; obtain rfl:=i2.v_str; exact zmz pins s σ H _ _ v u Q I rx ry ⟨rfl,by rw [show decide (V.str a=V.str b)=decide (D.str a=D.str b) from decide_eq_decide.mpr ⟨fun q=>by cases q; rfl,fun q=>by cases q; rfl⟩]; exact h⟩
  | non=>obtain rfl:=i1.v_non; obtain rfl:=i2.v_non; exact zmz pins s σ H _ _ v u Q I rx ry ⟨rfl,by rw [show decide (V.non=V.non)=decide (D.non=D.non) from decide_eq_decide.mpr ⟨fun q=>rfl,fun q=>rfl⟩]; exact h⟩
  | @lst n ds es hh =>
    obtain ⟨p,xs,rfl,z1,h1,l1,g1⟩:=i1.v_lst
    obtain ⟨q,ys,rfl,z2,h2,l2,g2⟩:=i2.v_lst
    cases rx
    cases ry
    obtain ⟨_,us,m1,k1,n1,o1⟩:=I.lstR h1
    obtain ⟨_,ws,m2,k2,n2,o2⟩:=I.lstR h2
    rw [zlk] at h
    have e1:=g1.length
    have e2:=g2.length
    by_cases hl:ds.length=es.length
    · exact rcAt_lists ⟨_,o1,rfl,_,rfl⟩ ⟨_,o2,rfl,_,rfl⟩ (by omega) (by omega) (by omega) (zgv (hh hl) k1 k2 g1 g2 (zke I 19 (by rw [zfg]; omega))) X.prog X.w X.xe _ ⟨.bl _,H,I,rfl,h⟩
    · have q:=SeqAt.RcAt.lists_lengths (A:=X.A) (s:=s) (items:=us.toArray) (items2:=ws.toArray) ⟨_,o1,rfl,_,rfl⟩ ⟨_,o2,rfl,_,rfl⟩ (by simp; omega) (by omega)
      have e:decide (ds=es)=false:=decide_eq_false fun z=>hl (by rw [z])
      rw [e] at h
      exact q X.prog X.w X.xe _ ⟨.bl _,H,I,rfl,h⟩
  | @tup n ds es hl hh =>
    obtain ⟨p,xs,rfl,z1,h1,l1,g1⟩:=i1.v_tup
    obtain ⟨q,ys,rfl,z2,h2,l2,g2⟩:=i2.v_tup
    cases rx
    cases ry
    obtain ⟨us,k1,o1,_⟩:=I.tuple (xs:=xs) (.inl (.inl h1))
    obtain ⟨ws,k2,o2,_⟩:=I.tuple (xs:=ys) (.inl (.inl h2))
    rw [zlj] at h
    have e1:=g1.length
    have e2:=g2.length
    have n1:=k1.length
    have n2:=k2.length
    exact rc_tups o1 o2 (by omega) (by omega) hl (by omega) (zgv hh k1 k2 g1 g2 (zke I 19 (by rw [zfg]; omega))) X.prog X.w X.xe _ ⟨.bl _,H,I,rfl,h⟩
theorem zha (hu:X.A.units+64<cLine):OpR X (compareOp .NotEq) (rEqD K true):=by
  intro pins s σ H x y v u Q I rx ry h
  obtain ⟨d,e,i1,i2,hc,h⟩:=h
  rw [if_pos rfl] at h
  cases zit hc with
  | int a b=>obtain rfl:=i1.v_int; obtain rfl:=i2.v_int; exact zmy pins s σ H _ _ v u Q I rx ry ⟨rfl,by rw [show decide (V.int a=V.int b)=decide (D.int a=D.int b) from decide_eq_decide.mpr ⟨fun q=>by cases q; rfl,fun q=>by cases q; rfl⟩]; exact h⟩
  | bl a b=>obtain rfl:=i1.v_bl; obtain rfl:=i2.v_bl; exact zmy pins s σ H _ _ v u Q I rx ry ⟨rfl,by rw [show decide (V.bl a=V.bl b)=decide (D.bl a=D.bl b) from decide_eq_decide.mpr ⟨fun q=>by cases q; rfl,fun q=>by cases q; rfl⟩]; exact h⟩
  | str a b=>obtain rfl:=i1.v_str; obtain rfl:=i2.v_str; exact zmy pins s σ H _ _ v u Q I rx ry ⟨rfl,by rw [show decide (V.str a=V.str b)=decide (D.str a=D.str b) from decide_eq_decide.mpr ⟨fun q=>by cases q; rfl,fun q=>by cases q; rfl⟩]; exact h⟩
  | non=>obtain rfl:=i1.v_non; obtain rfl:=i2.v_non; exact zmy pins s σ H _ _ v u Q I rx ry ⟨rfl,by rw [show decide (V.non=V.non)=decide (D.non=D.non) from decide_eq_decide.mpr ⟨fun q=>rfl,fun q=>rfl⟩]; exact h⟩
  | @lst n ds es hh =>
    obtain ⟨p,xs,rfl,z1,h1,l1,g1⟩:=i1.v_lst
    obtain ⟨q,ys,rfl,z2,h2,l2,g2⟩:=i2.v_lst
    cases rx
    cases ry
    obtain ⟨_,us,m1,k1,n1,o1⟩:=I.lstR h1
    obtain ⟨_,ws,m2,k2,n2,o2⟩:=I.lstR h2
    rw [zlk] at h
    have e1:=g1.length
    have e2:=g2.length
    by_cases hl:ds.length=es.length
    · exact rcNeAt_lists ⟨_,o1,rfl,_,rfl⟩ ⟨_,o2,rfl,_,rfl⟩ (by omega) (by omega) (by omega) (zgv (hh hl) k1 k2 g1 g2 (zke I 19 (by rw [zfg]; omega))) X.prog X.w X.xe _ ⟨.bl _,H,I,rfl,h⟩
    · have q:=SeqAt.RcNeAt.lists_lengths (A:=X.A) (s:=s) (items:=us.toArray) (items2:=ws.toArray) ⟨_,o1,rfl,_,rfl⟩ ⟨_,o2,rfl,_,rfl⟩ (by simp; omega) (by omega)
      have e:decide (ds=es)=false:=decide_eq_false fun z=>hl (by rw [z])
      rw [e] at h
      exact q X.prog X.w X.xe _ ⟨.bl _,H,I,rfl,h⟩
  | @tup n ds es hl hh =>
    obtain ⟨p,xs,rfl,z1,h1,l1,g1⟩:=i1.v_tup
    obtain ⟨q,ys,rfl,z2,h2,l2,g2⟩:=i2.v_tup
    cases rx
    cases ry
    obtain ⟨us,k1,o1,_⟩:=I.tuple (xs:=xs) (.inl (.inl h1))
    obtain ⟨ws,k2,o2,_⟩:=I.tuple (xs:=ys) (.inl (.inl h2))
    rw [zlj] at h
    have e1:=g1.length
    have e2:=g2.length
    have n1:=k1.length
    have n2:=k2.length
    exact rcNe_tups o1 o2 (by omega) (by omega) hl (by omega) (zgv hh k1 k2 g1 g2 (zke I 19 (by rw [zfg]; omega))) X.prog X.w X.xe _ ⟨.bl _,H,I,rfl,h⟩
end
section
variable {ta tb:TE} {a b:DE}
noncomputable def dEq (neg:Bool) (a b:DE):DE:=fun ρ=>match a ρ with
  | some d=>(match b ρ with
    | some e=>if cmpb 20 d e=true then some (.bl (if neg=true then !decide (d=e) else decide (d=e))) else none
    | none=>none)
  | none=>none
theorem zcu [Tabs] {neg:Bool} (ha:SemB K ta a) (hb:SemB K tb b):SemI K (tOp (rEqD K neg) ta tb) (dEq neg a b):=fun {B Z os ρ σ H Q d} f q k=>by
  unfold dEq at q
  split at q
  · rename_i x e1
    split at q
    · rename_i y e2
      by_cases c:cmpb 20 x y=true
      · rw [if_pos c] at q
        cases q
        exact ha f e1 fun v H1 s1 i1=>hb (f.grow s1) e2 fun u H2 s2 i2=>⟨x,y,i1.same s2,i2,c,k _ _ (s1.trans s2) (.bl _)⟩
      · rw [if_neg c] at q; cases q
    · cases q
  · cases q
end
end
end VL
namespace L2
open PySem PySem.Spec PyProof.Rows
section
variable {X:Cx}
noncomputable def gSeq (K:PySem.W.Frag) (n:Nat) (t:TGs):TG:=fun v σ H Q=>gTup K n t v σ H Q∨gLst K n t v σ H Q
theorem pg_seq {es:List Expr} {k:Nat} {t:TGs} {n:Nat} {pos:Pos} (hc:X.calm=true) (h:PGs X es t)
    (hn:(assignEach es X.env).length=n:=by rfl) (hst:(assignEach es X.env).findIdx? (·.1)=none:=by rfl):PG X (.Tuple es k pos) (gSeq X.K n t):=by
  intro pins s σ H v u Q I r hw
  rcases hw with hw | hw
  · exact pg_tup hc h hn hst pins s σ H v u Q I r hw
  · exact pg_lst hc h hn hst pins s σ H v u Q I r hw
theorem zja {K:PySem.W.Frag} {es:List Expr} {k:Nat} {t:TGs} {n:Nat} {pos:Pos} (hK:X.K=K) (hc:X.calm=true) (h:PGs X es t)
    (hn:(assignEach es X.env).length=n:=by rfl) (hst:(assignEach es X.env).findIdx? (·.1)=none:=by rfl):PG X (.Tuple es k pos) (gSeq K n t):=by
  subst hK
  exact pg_seq hc h hn hst
end
end L2
namespace VL
open PySem L2
open Classical
noncomputable section
variable [Tabs] {K:PySem.W.Frag}
def SemO' (K:PySem.W.Frag) (t:TE) (e:DE):Prop:=∀ {B:Hp} {Z:Addr→Prop} {os:Own} {ρ:Rho} {σ:L2.St} {H:Hp} {Q:VK} {d:D},Fr K B Z os ρ σ H→e ρ=some d→(∀ v H',Same H H'→Is K B No v d→Q v H')→t σ H Q
noncomputable def zjq (i:Nat):DE:=fun ρ=>match ρ.getD i .un with
  | .bo d=>some d
  | _=>none
theorem zjs (i:Nat):SemO' K (tVar i) (zjq i):=fun {B Z os ρ σ H Q d} f q k=>by
  have s:=f.sl i
  unfold zjq at q
  cases e:ρ.getD i .un with
  | bo d' =>
    rw [e] at q s
    cases q
    obtain ⟨_,u,hu,i⟩:=s
    exact ⟨u,join_some hu,k u H (Same.refl _) i⟩
  | _=>rw [e] at q; cases q
def ER (K:PySem.W.Frag) (m:Bool) (Bx H:Hp) (T:Addr→Prop) (x:V) (d:D):Prop:=match m with
  | true=>Is K H T x d
  | false=>Is K Bx No x d
structure Walk (K:PySem.W.Frag) (m:Bool) (Bx:Hp) (J:It) (H1:Hp) (T:Addr→Prop) (ds:List D):Prop where
  len:ds.length≤sizeLine
  go:∀ (i:Nat) (d:D) (H2:Hp) (T2:Addr→Prop),Kp T H1 T2 H2→Same Bx H2→(∀ a,T2 a→∃ o,H2 a=some o)→ds[i]?=some d→J.go i H2∧∀ x H3,J.yld i H2 x H3→Same H2 H3∧ER K m Bx H3 T2 x d
  stop:∀ (i:Nat) (H2:Hp) (T2:Addr→Prop),Kp T H1 T2 H2→Same Bx H2→ds.length=i→J.stop i H2
def SemW (K:PySem.W.Frag) (m:Bool) (wi:TI) (e:Rho→Option (List D)):Prop:=∀ {B:Hp} {Z:Addr→Prop} {os:Own} {ρ:Rho} {σ:L2.St} {H:Hp} {R:It→Hp→Prop} {ds:List D},Fr K B Z os ρ σ H→e ρ=some ds→(∀ J H1,Same H H1→Walk K m B J H1 (tot Z os) ds→R J H1)→wi σ H R
def zmb (K:PySem.W.Frag) (m:Bool) (wi:TI) (e:Rho→Option (List D)):Prop:=∀ {B:Hp} {Z:Addr→Prop} {os:Own} {ρ:Rho} {σ:L2.St} {H:Hp} {R:It→Hp→Prop} {ds:List D},Fr K B Z os ρ σ H→e ρ=some ds→(∀ J H1,Same H H1→Walk K m H1 J H1 (tot Z os) ds→R J H1)→wi σ H R
theorem SemW.c {wi:TI} {e:Rho→Option (List D)} (h:SemW K true wi e):zmb K true wi e:=fun f q k=>h f q fun J H1 s w=>k J H1 s ⟨w.len,fun i d H2 T2 kp sm hd e=>w.go i d H2 T2 kp ((f.keep.trans s).trans sm) hd e,fun i H2 T2 kp sm hl=>w.stop i H2 T2 kp ((f.keep.trans s).trans sm) hl⟩
theorem Rd.same {H H':Hp} {a:Addr} {u:HO} (h:Rd H a u) (s:Same H H'):Rd H' a u:=by
  rcases h with h | ⟨o,h⟩
  · exact .inl (s _ _ h)
  · exact .inr ⟨o,s _ _ h⟩
theorem ze9 {m:Bool} {Bx H1:Hp} {T:Addr→Prop} {p:Addr} {vs:List V} {ds:List D} (hl:ds.length≤sizeLine) (hd0:∀ H2 T2,Kp T H1 T2 H2→Same Bx H2→SqL K H2 p vs) (hn:vs.length=ds.length)
    (hi:∀ H2 T2 (i:Nat) v d,Kp T H1 T2 H2→Same Bx H2→vs[i]?=some v→ds[i]?=some d→ER K m Bx H2 T2 v d):Walk K m Bx (Itl K p) H1 T ds:=by
  refine ⟨hl,fun i d H2 T2 kp sb hd e=>?_,fun i H2 T2 kp sb hi=>⟨vs,hd0 H2 T2 kp sb,by omega⟩⟩
  have hr2:=hd0 H2 T2 kp sb
  have hi':i<vs.length:=by rw [hn]; exact (List.getElem?_eq_some_iff.mp e).1
  have e1:vs[i]?=some vs[i]:=List.getElem?_eq_getElem hi'
  refine ⟨⟨vs,_,hr2,e1⟩,fun x H3 ⟨e3,hx⟩=>?_⟩
  subst e3
  have:=hx vs hr2
  rw [e1] at this
  cases this
  exact ⟨Same.refl _,hi _ T2 i _ d kp sb e1 e⟩
theorem zdx {tl:TE} {a:DE} (ha:SemI K tl a):SemW K true (zmr K tl) (asL a):=fun {B Z os ρ σ H R ds} f q k=>by
  obtain ⟨d,q,ed⟩:=zfu q
  refine ha f q fun v H1 s1 i1=>?_
  obtain ⟨p,vs,rfl,hl,hn,hr⟩:=i1.seq ed
  refine ⟨p,rfl,⟨vs,(hr H1 _ Kp.refl).1⟩,k _ _ s1 (ze9 (vs:=vs) (by omega) (fun H2 T2 kp _=>(hr H2 T2 kp).1) hn fun H2 T2 i v d kp _ e1 e2=>?_)⟩
  obtain ⟨v',f1,i2⟩:=(hr H2 T2 kp).2.get e2
  rw [e1] at f1
  cases f1
  exact i2
theorem zgj {tl:TE} {a:DE} (ha:SemO' K tl a):SemW K false (zmr K tl) (asL a):=fun {B Z os ρ σ H R ds} f q k=>by
  obtain ⟨d,q,ed⟩:=zfu q
  refine ha f q fun v H1 s1 i1=>?_
  obtain ⟨p,vs,rfl,hl,hn,hr⟩:=i1.seq ed
  refine ⟨p,rfl,⟨vs,(hr H1 No (Kp.same (f.keep.trans s1))).1⟩,k _ _ s1 (ze9 (vs:=vs) (by omega) (fun H2 T2 kp sb=>(hr H2 No (Kp.same sb)).1) hn fun H2 T2 i v d kp sb e1 e2=>?_)⟩
  obtain ⟨v',f1,i2⟩:=(hr B No Kp.refl).2.get e2
  rw [e1] at f1
  cases f1
  exact i2
theorem zhk {tl:TE} {a:DE} (ha:SemB K tl a):zmb K false (zmr K tl) (asL a):=fun {B Z os ρ σ H R ds} f q k=>by
  obtain ⟨d,q,ed⟩:=zfu q
  refine ha f q fun v H1 s1 i1=>?_
  obtain ⟨p,vs,rfl,hl,hn,hr⟩:=i1.seq ed
  refine ⟨p,rfl,⟨vs,(hr H1 _ Kp.refl).1⟩,k _ _ s1 (ze9 (vs:=vs) (by omega) (fun H2 T2 kp sb=>(hr H2 No (Kp.same sb)).1) hn fun H2 T2 i v d kp sb e1 e2=>?_)⟩
  obtain ⟨v',f1,i2⟩:=(hr H1 No Kp.refl).2.get e2
  rw [e1] at f1
  cases f1
  exact i2
def upL (lo:Int) (n:Nat):List D:=(List.range n).map fun (i:Nat)=>.int (lo+(i:Int))
theorem upL_len {lo:Int} {n:Nat}:(upL lo n).length=n:=by unfold upL; rw [List.length_map,List.length_range]
theorem upL_get {lo:Int} {n i:Nat} {d:D} (h:(upL lo n)[i]?=some d):i<n∧d=.int (lo+i):=by
  unfold upL at h
  rw [List.getElem?_map] at h
  by_cases hi:i<n
  · rw [List.getElem?_range hi] at h; cases h; exact ⟨hi,rfl⟩
  · rw [List.getElem?_eq_none (by rw [List.length_range]; omega)] at h; cases h
theorem walk_range {m:Bool} {Bx H1:Hp} {T:Addr→Prop} {lo:Int} {n:Nat} (hn:n≤sizeLine):Walk K m Bx (Itr lo n) H1 T (upL lo n):=by
  refine ⟨by rw [upL_len]; exact hn,fun i d H2 T2 kp _ hd e=>?_,fun i H2 T2 kp _ hi=>by rw [upL_len] at hi; exact Nat.le_of_eq hi⟩
  obtain ⟨hi,rfl⟩:=upL_get e
  refine ⟨hi,fun x H3 ⟨e3,ex⟩=>?_⟩
  subst e3 ex
  cases m
  · exact ⟨Same.refl _,.int _⟩
  · exact ⟨Same.refl _,.int _⟩
noncomputable def dRg1 (a:DE):Rho→Option (List D):=fun ρ=>match a ρ with
  | some (.int j)=>if -(2 ^ 62)≤j∧j.toNat≤sizeLine then some (upL 0 j.toNat) else none
  | _=>none
theorem zbp {ta:TE} {a:DE} (ha:SemB K ta a):SemW K true (iRng1 (zdw ta tNil)) (dRg1 a):=fun {B Z os ρ σ H R ds} f q k=>by
  unfold dRg1 at q
  split at q
  · rename_i j e
    by_cases c:-(2 ^ 62)≤j∧j.toNat≤sizeLine
    · rw [if_pos c] at q
      cases q
      have hs:sizeLine=16777216:=sizeLine_eq
      exact ha f e fun v H1 s1 i1=>⟨j,by rw [i1.isInt],c.1,by omega,k _ _ s1 (walk_range c.2)⟩
    · rw [if_neg c] at q; cases q
  · cases q
abbrev DG:=D→Rho→Option Rho
abbrev DGs:=List D→Rho→Option Rho
def SemG (K:PySem.W.Frag) (m:Bool) (g:TG) (e:DG):Prop:=∀ {B:Hp} {Z:Addr→Prop} {os:Own} {ρ:Rho} {σ:L2.St} {H:Hp} {Q:L2.St→Hp→Prop} {v:V} {d:D} {ρ':Rho},Fr K B Z os ρ σ H→ER K m B H (tot Z os) v d→e d ρ=some ρ' →
  (∀ os' σ',Fr K B Z os' ρ' σ' H→Kp (tot Z os) H (tot Z os') H→Q σ' H)→g v σ H Q
def ERL (K:PySem.W.Frag) (m:Bool) (Bx H:Hp) (T:Addr→Prop) (vs:List V) (ds:List D):Prop:=match m with
  | true=>IsL K H T vs ds
  | false=>IsL K Bx No vs ds
def zm3 (K:PySem.W.Frag) (m:Bool) (g:TGs) (e:DGs):Prop:=∀ {B:Hp} {Z:Addr→Prop} {os:Own} {ρ:Rho} {σ:L2.St} {H:Hp} {Q:L2.St→Hp→Prop} {vs:List V} {ds:List D} {ρ':Rho},Fr K B Z os ρ σ H→ERL K m B H (tot Z os) vs ds→e ds ρ=some ρ' →
  (∀ os' σ',Fr K B Z os' ρ' σ' H→Kp (tot Z os) H (tot Z os') H→Q σ' H)→g vs σ H Q
def slm (m:Bool) (d:D):Sl:=match m with
  | true=>.pu d
  | false=>.bo d
noncomputable def gN (m:Bool) (i:Nat):DG:=fun d ρ=>some (ρ.set i (slm m d))
theorem Fr.putm {B H:Hp} {Z:Addr→Prop} {os:Own} {ρ:Rho} {σ:L2.St} (f:Fr K B Z os ρ σ H) {m:Bool} (i:Nat) {v:V} {d:D} (h:ER K m B H (tot Z os) v d) :
    ∃ os',Fr K B Z os' (ρ.set i (slm m d)) (σ.set i (some v)) H∧Kp (tot Z os) H (tot Z os') H:=by
  by_cases hi:i < ρ.length
  · cases m with
    | true=>exact ⟨_,f.put hi h⟩
    | false=>exact ⟨_,f.step (s:=.bo d) (v:=some v) hi (fun a u e _=>e) (fun a ha=>let ⟨xs,e⟩:=(f.sl i).dom ha; ⟨_,e⟩) List.nodup_nil (fun a h=>by cases h) ⟨rfl,v,rfl,h⟩⟩
  · have e1:ρ.set i (slm m d)=ρ:=List.set_eq_of_length_le (by omega)
    have e2:σ.set i (some v)=σ:=List.set_eq_of_length_le (by rw [f.len]; omega)
    rw [e1,e2]
    exact ⟨os,f,Kp.refl⟩
theorem za5 {m:Bool} (i:Nat):SemG K m (zjo i) (gN m i):=fun {B Z os ρ σ H Q v d ρ'} f h q k=>by
  cases q
  obtain ⟨os',f',kp⟩:=f.putm i h
  exact k os' _ f' kp
def zlf:DGs:=fun ds ρ=>match ds with
  | []=>some ρ
  | _=>none
def zfh (e:DG) (r:DGs):DGs:=fun ds ρ=>match ds with
  | d::t=>(match e d ρ with
    | some ρ'=>r t ρ'
    | none=>none)
  | []=>none
theorem zi4 {m:Bool}:zm3 K m gNil zlf:=fun {B Z os ρ σ H Q vs ds ρ'} f h q k=>by
  cases ds with
  | nil =>
    cases q
    have e:vs=[]:=by cases m <;> cases h <;> rfl
    exact ⟨e,k os σ f Kp.refl⟩
  | cons d t=>cases q
theorem zd3 {m:Bool} {g:TG} {u:TGs} {e:DG} {r:DGs} (hg:SemG K m g e) (hr:zm3 K m u r):zm3 K m (znb g u) (zfh e r):=fun {B Z os ρ σ H Q vs ds ρ'} f h q k=>by
  cases ds with
  | nil=>cases q
  | cons d t =>
    have q:(match e d ρ with | some ρ'=>r t ρ' | none=>none)=some ρ':=q
    split at q
    · rename_i ρ1 e1
      obtain ⟨v,vt,rfl,h1,h2⟩:∃ v vt,vs=v::vt∧ER K m B H (tot Z os) v d∧ERL K m B H (tot Z os) vt t:=by
        cases m with
        | true=>cases h with | cons a b=>exact ⟨_,_,rfl,a,b⟩
        | false=>cases h with | cons a b=>exact ⟨_,_,rfl,a,b⟩
      refine ⟨v,vt,rfl,hg f h1 e1 fun os1 σ1 f1 k1=>hr f1 ?_ q fun os2 σ2 f2 k2=>k os2 σ2 f2 (k1.trans k2)⟩
      cases m with
      | true=>exact IsL.kp k1 h2
      | false=>exact h2
    · cases q
noncomputable def gUn (n:Nat) (r:DGs):DG:=fun d ρ=>match d with
  | .tup ds=>if ds.length=n then r ds ρ else none
  | .lst ds=>if ds.length=n then r ds ρ else none
  | _=>none
theorem zmj {m:Bool} {n:Nat} {u:TGs} {r:DGs} (hr:zm3 K m u r):SemG K m (gSeq K n u) (gUn n r):=fun {B Z os ρ σ H Q v d ρ'} f h q k=>by
  cases d with
  | tup ds =>
    have q:(if ds.length=n then r ds ρ else none)=some ρ':=q
    by_cases c:ds.length=n
    · rw [if_pos c] at q
      cases m with
      | true =>
        obtain ⟨p,vs,rfl,hz,hr',hl,g⟩:=Is.isTup h
        exact .inl ⟨p,vs,rfl,.inl (.inl hr'),by rw [g.length]; exact c,hr f g q k⟩
      | false =>
        obtain ⟨p,vs,rfl,hz,hr',hl,g⟩:=Is.isTup h
        exact .inl ⟨p,vs,rfl,.inl (.inl (f.keep _ _ hr')),by rw [g.length]; exact c,hr f g q k⟩
    · rw [if_neg c] at q; cases q
  | lst ds =>
    have q:(if ds.length=n then r ds ρ else none)=some ρ':=q
    by_cases c:ds.length=n
    · rw [if_pos c] at q
      cases m with
      | true =>
        obtain ⟨p,vs,rfl,hz,hr',hl,g⟩:=Is.isLst h
        exact .inr ⟨p,vs,rfl,.inl hr',by rw [g.length]; exact c,hr f g q k⟩
      | false =>
        obtain ⟨p,vs,rfl,hz,hr',hl,g⟩:=Is.isLst h
        exact .inr ⟨p,vs,rfl,.inl (Rd.same hr' f.keep),by rw [g.length]; exact c,hr f g q k⟩
    · rw [if_neg c] at q; cases q
  | _=>cases q
theorem Fr.tin {B H:Hp} {Z:Addr→Prop} {os:Own} {ρ:Rho} {σ:L2.St} (f:Fr K B Z os ρ σ H):∀ a,tot Z os a→∃ o,H a=some o:=by
  rintro a (z | ⟨i,z⟩)
  · exact f.zin a z
  · obtain ⟨xs,e⟩:=(f.sl i).dom z
    exact ⟨_,e⟩
theorem Fr.zt {B H:Hp} {Z:Addr→Prop} {os:Own} {ρ:Rho} {σ:L2.St} (f:Fr K B Z os ρ σ H):ZT (tot Z os) H:=⟨f.tin,f.tabH⟩
def view:Sl→Sl
  | .pu d=>.pu d
  | .bo d=>.bo d
  | .ol ds=>.bo (.lst ds)
  | .om rows=>.bo (.lst (rows.map D.lst))
  | .od kvs=>.bo (.dct kvs)
  | .pm _ _ rows=>.bo (.lst (rows.map D.lst))
  | .pd _ kvs=>.bo (.dct kvs)
  | .un=>.un
def r0 (k:Nat) (cs:List Nat) (ρ:Rho):Rho:=List.replicate k .un++cs.map fun i=>view (ρ.getD i .un)
def s0 (k:Nat) (cs:List Nat) (σ:L2.St):L2.St:=List.replicate k none++cs.map fun i=>(σ[i]?).join
theorem zkh {B H1 H:Hp} {Z:Addr→Prop} {os:Own} {ρ:Rho} {σ:L2.St} {Dl:Addr} {o:HO} (f:Fr K B Z os ρ σ H1) (hD:H1 Dl=none) (s:Same H1 H) (hd:H Dl=some o) (k:Nat) (cs:List Nat) :
    Fr K H1 (fun a=>a=Dl∨tot Z os a) (fun _=>[]) (r0 k cs ρ) (s0 k cs σ) H where
  keep:=s
  zin:=fun a z=>by
    rcases z with rfl | z
    · exact ⟨o,hd⟩
    · obtain ⟨u,e⟩:=f.tin a z
      exact ⟨u,s _ _ e⟩
  len:=by unfold r0 s0; simp
  nd:=fun _=>List.nodup_nil
  dj:=fun _ _ _ h=>by cases h
  tab:=f.tabH
  new:=fun _ _ h=>by cases h
  sl:=fun j=>by
    have kp:Kp (tot Z os) H1 (tot (fun a=>a=Dl∨tot Z os a) fun _=>[]) H:=fun a u e z=>by
      refine ⟨s _ _ e,?_⟩
      rintro ((rfl | q) | ⟨_,q⟩)
      · rw [hD] at e; cases e
      · exact z q
      · cases q
    unfold r0 s0
    rw [List.getD_eq_getElem?_getD]
    by_cases hj:j<k
    · rw [List.getElem?_append_left (by simpa using hj),List.getElem?_append_left (by simpa using hj),List.getElem?_replicate,if_pos hj]
      exact rfl
    · rw [List.getElem?_append_right (by simpa using hj),List.getElem?_append_right (by simpa using hj),List.length_replicate,List.length_replicate,List.getElem?_map,List.getElem?_map]
      cases e:cs[j-k]? with
      | none=>exact rfl
      | some i =>
        have h:=f.sl i
        show SlOk K _ _ _ _ (view (ρ.getD i .un)) ((σ[i]?).join)
        cases e2:ρ.getD i .un with
        | un=>exact rfl
        | pu d =>
          rw [e2] at h
          obtain ⟨_,u,hu,i1⟩:=h
          exact ⟨rfl,u,hu,i1.kp kp⟩
        | bo d =>
          rw [e2] at h
          obtain ⟨_,u,hu,i1⟩:=h
          exact ⟨rfl,u,hu,i1.same f.keep⟩
        | ol ds =>
          rw [e2] at h
          obtain ⟨a,vs,_,hu,hH,hl,i1⟩:=h
          exact ⟨rfl,_,hu,.lst (fun z=>z) (.inl hH) hl i1.all⟩
        | om rows =>
          rw [e2] at h
          obtain ⟨a,ps,_,hu,hH,hl,i1⟩:=h
          exact ⟨rfl,_,hu,.lst (fun z=>z) (.inl hH) (by rw [List.length_map]; exact hl) (zhb i1)⟩
        | od kvs =>
          rw [e2] at h
          obtain ⟨a,_,hu,hH,hl⟩:=h
          exact ⟨rfl,_,hu,.dct (fun z=>z) (.inl hH) hl⟩
        | pm a ps rows =>
          rw [e2] at h
          obtain ⟨_,hu,hH,hl,i1⟩:=h
          exact ⟨rfl,_,hu,.lst (fun z=>z) (.inl hH) (by rw [List.length_map]; exact hl) (zhb i1)⟩
        | pd a kvs =>
          rw [e2] at h
          obtain ⟨_,hu,hH,hl⟩:=h
          exact ⟨rfl,_,hu,.dct (fun z=>z) (.inl hH) hl⟩
def zj1 (g:DG) (t:Rho→Option Bool) (e:DE) (ρ0:Rho):List D→Option (List D)
  | []=>some []
  | d::ds=>match g d ρ0 with
    | none=>none
    | some ρ1=>match t ρ1 with
      | none=>none
      | some false=>zj1 g t e ρ0 ds
      | some true=>match e ρ1 with
        | none=>none
        | some y=>match zj1 g t e ρ0 ds with
          | none=>none
          | some ys=>some (y::ys)
noncomputable def zdb (k:Nat) (cs:List Nat) (it:Rho→Option (List D)) (g:DG) (t:Rho→Option Bool) (e:DE):Rho→Option (List D):=fun ρ=>match it ρ with
  | some ds=>zj1 g t e (r0 k cs ρ) ds
  | none=>none
theorem zcc {m:Bool} {k:Nat} {cs:List Nat} {wi:TI} {g:TG} {tt:TT} {te:TE} {it:Rho→Option (List D)} {gd:DG} {td:Rho→Option Bool} {ed:DE} (hw:zmb K m wi it) (hg:SemG K m g gd) (ht:SemT K tt td) (he:SemI K te ed) :
    SemF K (zjn wi g tt te (s0 k cs)) (zdb k cs it gd td ed):=fun {B Z os ρ σ H Q ds} f q kk=>by
  unfold zdb at q
  split at q
  · rename_i xs e0
    refine hw f e0 fun J H1 s1 W Dl hD=>?_
    have f1:=f.grow s1
    have sD:∀ {H2:Hp} {ys:List V},Same H1 H2→Same H1 (upd H2 Dl (.lst ys)):=fun {H2 ys} s a o e=>by
      rw [upd_ne (zb2 e hD)]; exact s _ _ e
    refine ⟨fun i m ys H2=>m=xs.length-i∧i≤xs.length∧Same H1 H2∧H2 Dl=some (.lst ys)∧ys.length≤i∧∃ done rest,IsL K H2 (fun a=>a=Dl∨tot Z os a) ys done∧zj1 gd td ed (r0 k cs ρ) (xs.drop i)=some rest∧done++rest=ds,
      ⟨_,rfl,Nat.zero_le _,sD (Same.refl _),zbt,Nat.le_refl _,[],ds,.nil,q,rfl⟩,?_⟩
    rintro i mm ys H2 ⟨rfl,hi,s2,eD,hly,done,rest,il,q2,ed2⟩
    have kp12:Kp (tot Z os) H1 (fun a=>a=Dl∨tot Z os a) H2:=fun a u e z=>⟨s2 _ _ e,fun w=>w.elim (zb2 e hD) z⟩
    by_cases hlt:i<xs.length
    · have ex:xs[i]?=some xs[i]:=List.getElem?_eq_getElem hlt
      have ef:=zkh f1 hD s2 eD k cs
      obtain ⟨go,yl⟩:=W.go i xs[i] H2 _ kp12 s2 (fun a z=>ef.zin a z) ex
      refine .inr ⟨go,fun x H3 hy=>?_⟩
      obtain ⟨s3,er⟩:=yl x H3 hy
      have eD3:=s3 _ _ eD
      have s13:=s2.trans s3
      have ef3:=zkh f1 hD s13 eD3 k cs
      rw [List.drop_eq_getElem_cons hlt] at q2
      unfold zj1 at q2
      have er':ER K m H1 H3 (tot (fun a=>a=Dl∨tot Z os a) fun _=>[]) x xs[i]:=by
        cases m with
        | false=>exact er
        | true=>exact Is.kp (Kp.less fun a z=>z.elim id fun ⟨_,w⟩=>by cases w) er
      split at q2
      · cases q2
      · rename_i ρ1 e1
        refine hg ef3 er' e1 fun os1 σ1 fr1 k1=>?_
        split at q2
        · cases q2
        · rename_i e2
          refine ht fr1 e2 fun H4 s4=>iteF ⟨_,by omega,rfl,hlt,s13.trans s4,s4 _ _ eD3,by omega,done,rest,(il.same s3).same s4,q2,ed2⟩
        · rename_i e2
          refine ht fr1 e2 fun H4 s4=>iteT ?_
          split at q2
          · cases q2
          · rename_i y e3
            split at q2
            · cases q2
            · rename_i rs e4
              cases q2
              refine he (fr1.grow s4) e3 fun v H5 s5 i5=>?_
              have s35:=s4.trans s5
              have eD5:=s35 _ _ eD3
              have hl:=W.len
              have kp5:∀ (zs:List V),Kp (fun a=>a=Dl∨tot Z os a) H5 (fun a=>a=Dl∨tot Z os a) (upd H5 Dl (.lst zs)):=fun zs a u e z=>⟨by rw [upd_ne (fun w=>z (.inl w))]; exact e,z⟩
              have i5':Is K H5 (fun a=>a=Dl∨tot Z os a) v y:=i5.kp (Kp.less fun a z=>.inl z)
              refine ⟨eD5,by omega,_,by omega,rfl,hlt,sD (s13.trans s35),zbt,by rw [List.length_append,List.length_singleton]; omega,done++[y],rs,?_,e4,by rw [List.append_assoc]; exact ed2⟩
              exact ((il.same s3).same s35 |>.kp (kp5 _)).append (.one (i5'.kp (kp5 _)))
    · have e:i=xs.length:=by omega
      subst e
      rw [List.drop_length] at q2
      cases q2
      rw [List.append_nil] at ed2
      subst ed2
      have hl:=W.len
      exact .inl ⟨W.stop _ H2 _ kp12 s2 rfl,eD,kk Dl ys H2 (s1.trans s2) (Same.free s1 hD) eD (by omega) il⟩
  · cases q
inductive Fm where
  | v | l | m | x (E:XK) (C:Addr)
def RtOk (fr:Fm) (K:PySem.W.Frag) (B H:Hp) (Z:Addr→Prop) (v:V) (d:D):Prop:=match fr with
  | .v=>Is K H Z v d
  | .l=>(∃ p vs ds,v=.ref p∧d=.lst ds∧B p=none∧H p=some (.lst vs)∧vs.length≤sizeLine∧IsL K H (fun a=>a=p∨Z a) vs ds)∨∃ p kvs,v=.ref p∧d=.dct kvs∧B p=none∧H p=some (.dK (kvs.map dkv))∧kvs.length≤sizeLine
  | .m=>∃ p ps rows,v=.ref p∧d=.lst (rows.map D.lst)∧B p=none∧(∀ a∈ps,B a=none)∧(p::ps).Nodup∧H p=some (.lst (ps.map V.ref))∧ps.length≤sizeLine∧Paired (fun q ds=>∃ vs,H q=some (.lst vs)∧vs.length≤sizeLine∧IsL K H (fun a=>(a=p∨a∈ps)∨Z a) vs ds) ps rows
  | .x _ _=>Is K H Z v d
theorem zkb {H:Hp} {Z T:Addr→Prop} (hT:∀ a,Z a→T a):∀ {ps:List Addr} {rows:List (List D)},(∀ p∈ps,¬ Z p)→Paired (fun p ds=>∃ vs,H p=some (.lst vs)∧vs.length≤sizeLine∧IsL K H T vs ds) ps rows→IsL K H Z (ps.map V.ref) (rows.map D.lst)
  | _,_,_,.nil=>.nil
  | _,_,hz,.cons ⟨vs,h,hl,r⟩ t=>.cons (.lst (hz _ List.mem_cons_self) (.inl h) hl (r.kp (Kp.less hT))) (zkb hT (fun p hp=>hz p (List.mem_cons_of_mem _ hp)) t)
theorem RtOk.is {fr:Fm} {B H:Hp} {Z:Addr→Prop} {v:V} {d:D} (hz:∀ a,Z a→∃ o,B a=some o) (h:RtOk fr K B H Z v d):Is K H Z v d:=by
  have nz:∀ {p:Addr},B p=none→¬ Z p:=fun {p} e z=>by obtain ⟨o,q⟩:=hz p z; rw [e] at q; cases q
  cases fr with
  | v=>exact h
  | x E C=>exact h
  | l =>
    rcases h with ⟨p,vs,ds,rfl,rfl,hb,hh,hl,r⟩ | ⟨p,kvs,rfl,rfl,hb,hh,hl⟩
    · exact .lst (nz hb) (.inl hh) hl (r.kp (Kp.less fun a z=>.inr z))
    · exact .dct (nz hb) (.inl hh) hl
  | m =>
    obtain ⟨p,ps,rows,rfl,rfl,hb,hbs,_,hh,hl,r⟩:=h
    exact .lst (nz hb) (.inl hh) (by rw [List.length_map]; exact hl) (zkb (fun a z=>.inr z) (fun q hq=>nz (hbs q hq)) r)
def spD (fr:Fm) (K:PySem.W.Frag) (ms:List Bool) (F:List D→Option D):Sp:=fun vs H Q _=>∃ (Z:Addr→Prop) (ds:List D) (d:D),ZT Z H∧Args K H Z ms vs ds∧F ds=some d∧∀ v H',Same H H'→RtOk fr K H H' Z v d→Q v H'
noncomputable def za8 (F:List D→Option D) (es:Rho→Option (List D)):DE:=fun ρ=>match es ρ with
  | some ds=>F ds
  | none=>none
theorem zaz {fr:Fm} {ms:List Bool} {F:List D→Option D} {t:TA} {es:Rho→Option (List D)} {E:XK} (ha:SemA K ms t es):SemI K (zk5 (spD fr K ms F) [] E t) (za8 F es):=fun {B Z os ρ σ H Q d} f q k=>by
  unfold za8 at q
  split at q
  · rename_i ds e
    refine ha f e fun vs H1 s1 a=>?_
    show spD fr K ms F (vs++[]) H1 Q E
    rw [List.append_nil]
    exact ⟨tot Z os,ds,d,(f.grow s1).zt,a,q,fun v H2 s2 i=>k v H2 (s1.trans s2) (i.is (f.grow s1).tin)⟩
  · cases q
end
end VL
namespace L2
open PySem PySem.Spec PyProof.Rows
section
variable {X:Cx}
end
end L2
namespace VL
open PySem L2
open Classical
noncomputable section
variable [Tabs] {K:PySem.W.Frag}
inductive Res where
  | nx (ρ:Rho) | rt (d:D) | bk (ρ:Rho) | ct (ρ:Rho) | no
variable {fr:Fm}
abbrev DS:=Rho→Res
def Post (fr:Fm) (K:PySem.W.Frag) (B:Hp) (Z:Addr→Prop) (os:Own) (H:Hp) (E:Ends):Res→Prop
  | .nx ρ'=>∀ os' σ' H',Fr K B Z os' ρ' σ' H'→Kp (tot Z os) H (tot Z os') H'→E.nx σ' H'
  | .bk ρ'=>∀ os' σ' H',Fr K B Z os' ρ' σ' H'→Kp (tot Z os) H (tot Z os') H'→E.bk σ' H'
  | .ct ρ'=>∀ os' σ' H',Fr K B Z os' ρ' σ' H'→Kp (tot Z os) H (tot Z os') H'→E.ct σ' H'
  | .rt d=>match fr with
    | .x E0 C=>∀ H',Same B H'→E0 (.ref C) none H'
    | fr=>∀ v H',Same B H'→RtOk fr K B H' Z v d→E.rt v H'
  | .no=>False
def SemS (fr:Fm) (K:PySem.W.Frag) (t:TS) (s:DS):Prop:=∀ {B:Hp} {Z:Addr→Prop} {os:Own} {ρ:Rho} {σ:L2.St} {H:Hp} {E:Ends},Fr K B Z os ρ σ H→Post fr K B Z os H E (s ρ)→t E σ H
theorem Post.kp {B:Hp} {Z:Addr→Prop} {os os1:Own} {H H1:Hp} {E:Ends} {r:Res} (k:Kp (tot Z os) H (tot Z os1) H1) (p:Post fr K B Z os H E r):Post fr K B Z os1 H1 E r:=by
  cases r with
  | nx ρ'=>exact fun os' σ' H' f k'=>p os' σ' H' f (k.trans k')
  | bk ρ'=>exact fun os' σ' H' f k'=>p os' σ' H' f (k.trans k')
  | ct ρ'=>exact fun os' σ' H' f k'=>p os' σ' H' f (k.trans k')
  | rt d=>exact p
  | no=>exact p
@[irreducible] noncomputable def zb7:DS:=fun ρ=>.nx ρ
theorem zbb:SemS fr K tNext zb7:=fun f p=>by unfold zb7 at p; exact p _ _ _ f Kp.refl
@[irreducible] noncomputable def sNo:DS:=fun _=>.no
theorem zfm:SemS fr K tNever sNo:=fun f p=>by unfold sNo at p; exact p.elim
@[irreducible] noncomputable def sSeq (s u:DS):DS:=fun ρ=>match s ρ with
  | .nx ρ'=>u ρ'
  | r=>r
theorem zas {t u:TS} {s w:DS} (h1:SemS fr K t s) (h2:SemS fr K u w):SemS fr K (tSeq t u) (sSeq s w):=fun {B Z os ρ σ H E} f p=>by
  refine h1 f ?_
  unfold sSeq at p
  cases e:s ρ with
  | nx ρ'=>rw [e] at p; exact fun os' σ' H' f' k=>h2 f' (p.kp k)
  | bk ρ'=>rw [e] at p; exact p
  | ct ρ'=>rw [e] at p; exact p
  | rt d=>rw [e] at p; exact p
  | no=>rw [e] at p; exact p
@[irreducible] noncomputable def sRet (a:DE):DS:=fun ρ=>match a ρ with
  | some d=>.rt d
  | none=>.no
theorem zbi {ta:TE} {a:DE} (h:SemI K ta a):SemS .v K (tRet ta) (sRet a):=fun {B Z os ρ σ H E} f p=>by
  unfold sRet at p
  cases e:a ρ with
  | none=>rw [e] at p; exact p.elim
  | some d=>rw [e] at p; exact h f e fun v H1 s1 i1=>p v H1 (f.keep.trans s1) (i1.kp (Kp.less fun a z=>.inl z))
@[irreducible] noncomputable def sIf (c:Rho→Option Bool) (s u:DS):DS:=fun ρ=>match c ρ with
  | some true=>s ρ
  | some false=>u ρ
  | none=>.no
theorem zci {tc:TT} {t u:TS} {c:Rho→Option Bool} {s w:DS} (hc:SemT K tc c) (h1:SemS fr K t s) (h2:SemS fr K u w):SemS fr K (tIfS tc t u) (sIf c s w):=fun {B Z os ρ σ H E} f p=>by
  unfold sIf at p
  split at p
  · rename_i e
    exact hc f e fun H1 s1=>iteT (h1 (f.grow s1) (p.kp (Kp.same s1)))
  · rename_i e
    exact hc f e fun H1 s1=>iteF (h2 (f.grow s1) (p.kp (Kp.same s1)))
  · exact p.elim
@[irreducible] noncomputable def sSet (i:Nat) (a:DE):DS:=fun ρ=>match a ρ with
  | some d=>.nx (ρ.set i (.pu d))
  | none=>.no
theorem zbu {i:Nat} {ta:TE} {a:DE} (h:SemI K ta a):SemS fr K (tAsg ta (zjo i)) (sSet i a):=fun {B Z os ρ σ H E} f p=>by
  unfold sSet at p
  cases e:a ρ with
  | none=>rw [e] at p; exact p.elim
  | some d =>
    rw [e] at p
    refine h f e fun v H1 s1 i1=>?_
    obtain ⟨os',f',k⟩:=(f.grow s1).putm (m:=true) i i1
    exact p os' _ _ f' ((Kp.same s1).trans k)
theorem zk7 {i:Nat} {ta:TE} {a:DE} (h:SemI K ta a):SemS fr K (zl2 ta i) (sSet i a):=zbu (i:=i) h
@[irreducible] noncomputable def zfc (i:Nat) (a:Rho→Option (List D)):DS:=fun ρ=>match a ρ with
  | some ds=>if i < ρ.length then .nx (ρ.set i (.ol ds)) else .no
  | none=>.no
theorem zeb {i:Nat} {ta:TE} {a:Rho→Option (List D)} (h:SemF K ta a):SemS fr K (tAsg ta (zjo i)) (zfc i a):=fun {B Z os ρ σ H E} f p=>by
  unfold zfc at p
  split at p
  · rename_i ds e
    by_cases hi:i < ρ.length
    · rw [if_pos hi] at p
      refine h f e fun x vs H1 s1 hx hx1 hl i1=>?_
      have st:=f.step (H':=H1) (i:=i) hi (o:=[x]) (s:=.ol ds) (v:=some (.ref x)) (fun a u e _=>s1 _ _ e) (fun a ha=>let ⟨xs,e⟩:=(f.sl i).dom ha; ⟨_,s1 _ _ e⟩) (by simp) (fun a ha=>by rw [List.mem_singleton.mp ha]; exact .inr hx)
        ⟨x,vs,rfl,rfl,hx1,hl,i1.kp (Kp.less fun a z=>?_)⟩
      · exact p _ _ _ st.1 st.2
      · rcases z with z | ⟨j,z⟩
        · exact .inr (.inl z)
        · by_cases hj:j=i
          · subst hj; rw [zby] at z; exact .inl (List.mem_singleton.mp z)
          · rw [putO_ne hj] at z; exact .inr (.inr ⟨j,z⟩)
    · rw [if_neg hi] at p; exact p.elim
  · exact p.elim
theorem ss_setOC {i:Nat} {ta:TE} {a:Rho→Option (List D)} (h:SemF K ta a):SemS fr K (zl2 ta i) (zfc i a):=zeb (i:=i) h
def frz (i:Nat) (ρ:Rho):Rho:=match ρ.getD i .un with
  | .ol ds=>ρ.set i (.pu (.lst ds))
  | .om rows=>ρ.set i (.pu (.lst (rows.map D.lst)))
  | .od kvs=>ρ.set i (.pu (.dct kvs))
  | _=>ρ
theorem set_self {σ:L2.St} {i:Nat} {v:V} (h:(σ[i]?).join=some v):σ.set i (some v)=σ:=by
  have e:=join_some h
  refine List.ext_getElem? fun j=>?_
  by_cases hj:i=j
  · subst hj
    rw [List.getElem?_set_self (List.getElem?_eq_some_iff.mp e).1,e]
  · rw [List.getElem?_set_ne hj]
theorem zh4 {ρ:Rho} {i:Nat} {s:Sl} (h:ρ.getD i .un=s) (hs:s≠.un):i < ρ.length:=by
  by_cases hi:i < ρ.length
  · exact hi
  · rw [List.getD_eq_getElem?_getD,List.getElem?_eq_none (by omega)] at h
    exact absurd h.symm hs
theorem Fr.freeze {B H:Hp} {Z:Addr→Prop} {os:Own} {ρ:Rho} {σ:L2.St} (f:Fr K B Z os ρ σ H) (i:Nat):∃ os',Fr K B Z os' (frz i ρ) σ H∧Kp (tot Z os) H (tot Z os') H:=by
  unfold frz
  have less:∀ a,tot Z (putO os i []) a→tot Z os a:=by
    rintro a (z | ⟨j,z⟩)
    · exact .inl z
    · by_cases hj:j=i
      · subst hj; rw [zby] at z; cases z
      · rw [putO_ne hj] at z; exact .inr ⟨j,z⟩
  cases e:ρ.getD i .un with
  | ol ds =>
    have s:=f.sl i
    rw [e] at s
    obtain ⟨a,vs,eo,hu,hH,hl,i1⟩:=s
    have hi:=zh4 e (by intro z; cases z)
    have st:=f.step (H':=H) (i:=i) hi (o:=[]) (s:=.pu (.lst ds)) (v:=some (.ref a)) (fun a u e _=>e) (fun a ha=>let ⟨xs,e⟩:=(f.sl i).dom ha; ⟨_,e⟩) List.nodup_nil (fun a h=>by cases h)
      ⟨rfl,_,rfl,.lst (fun z=>?_) (.inl hH) hl (i1.kp (Kp.less less))⟩
    · rw [set_self hu] at st
      exact ⟨_,st⟩
    · rcases z with z | ⟨j,z⟩
      · exact (f.new i a (by rw [eo]; exact List.mem_singleton.mpr rfl)).2 z
      · by_cases hj:j=i
        · subst hj; rw [zby] at z; cases z
        · rw [putO_ne hj] at z; exact hj (f.dj j i a z (by rw [eo]; exact List.mem_singleton.mpr rfl))
  | od kvs =>
    have s:=f.sl i
    rw [e] at s
    obtain ⟨a,eo,hu,hH,hl⟩:=s
    have hi:=zh4 e (by intro z; cases z)
    have st:=f.step (H':=H) (i:=i) hi (o:=[]) (s:=.pu (.dct kvs)) (v:=some (.ref a)) (fun a u e _=>e) (fun a ha=>let ⟨xs,e⟩:=(f.sl i).dom ha; ⟨_,e⟩) List.nodup_nil (fun a h=>by cases h)
      ⟨rfl,_,rfl,.dct (fun z=>?_) (.inl hH) hl⟩
    · rw [set_self hu] at st
      exact ⟨_,st⟩
    · rcases z with z | ⟨j,z⟩
      · exact (f.new i a (by rw [eo]; exact List.mem_singleton.mpr rfl)).2 z
      · by_cases hj:j=i
        · subst hj; rw [zby] at z; cases z
        · rw [putO_ne hj] at z; exact hj (f.dj j i a z (by rw [eo]; exact List.mem_singleton.mpr rfl))
  | om rows =>
    have s:=f.sl i
    rw [e] at s
    obtain ⟨a,ps,eo,hu,hH,hl,i1⟩:=s
    have hi:=zh4 e (by intro z; cases z)
    have out:∀ b,b∈os i→¬ tot Z (putO os i []) b:=by
      rintro b hb (z | ⟨j,z⟩)
      · exact (f.new i b hb).2 z
      · by_cases hj:j=i
        · subst hj; rw [zby] at z; cases z
        · rw [putO_ne hj] at z; exact hj (f.dj j i b z hb)
    have rowsI:∀ {ps:List Addr} {rows:List (List D)},(∀ p∈ps,p∈os i)→Paired (fun p ds=>∃ vs,H p=some (.lst vs)∧vs.length≤sizeLine∧IsL K H (tot Z os) vs ds) ps rows→IsL K H (tot Z (putO os i [])) (ps.map V.ref) (rows.map D.lst):=by
      intro ps rows hp r
      induction r with
      | nil=>exact .nil
      | cons h _ ih =>
        obtain ⟨vs,q,hv,j⟩:=h
        exact .cons (.lst (out _ (hp _ List.mem_cons_self)) (.inl q) hv (j.kp (Kp.less less))) (ih fun p h=>hp p (List.mem_cons_of_mem _ h))
    have st:=f.step (H':=H) (i:=i) hi (o:=[]) (s:=.pu (.lst (rows.map D.lst))) (v:=some (.ref a)) (fun a u e _=>e) (fun a ha=>let ⟨xs,e⟩:=(f.sl i).dom ha; ⟨_,e⟩) List.nodup_nil (fun a h=>by cases h)
      ⟨rfl,_,rfl,.lst (out a (by rw [eo]; exact List.mem_cons_self)) (.inl hH) (by rw [List.length_map]; exact hl) (rowsI (fun p hp=>by rw [eo]; exact List.mem_cons_of_mem _ hp) i1)⟩
    rw [set_self hu] at st
    exact ⟨_,st⟩
  | un=>exact ⟨os,f,Kp.refl⟩
  | pu d=>exact ⟨os,f,Kp.refl⟩
  | bo d=>exact ⟨os,f,Kp.refl⟩
  | pm _ _ _=>exact ⟨os,f,Kp.refl⟩
  | pd _ _=>exact ⟨os,f,Kp.refl⟩
@[irreducible] noncomputable def sFrz (i:Nat) (s:DS):DS:=fun ρ=>s (frz i ρ)
theorem zh9 {t:TS} {s:DS} (i:Nat) (h:SemS fr K t s):SemS fr K t (sFrz i s):=fun {B Z os ρ σ H E} f p=>by
  obtain ⟨os',f',k⟩:=f.freeze i
  unfold sFrz at p
  exact h f' (Post.kp k p)
theorem Fr.mutO {B H:Hp} {Z:Addr→Prop} {os:Own} {ρ:Rho} {σ:L2.St} (f:Fr K B Z os ρ σ H) {i:Nat} {a:Addr} {ds ds':List D} {vs':List V} (e:ρ.getD i .un=.ol ds) (hu:(σ[i]?).join=some (.ref a)) (hl:vs'.length≤sizeLine) (h:IsL K H (tot Z os) vs' ds') :
    ∃ os',Fr K B Z os' (ρ.set i (.ol ds')) σ (upd H a (.lst vs'))∧Kp (tot Z os) H (tot Z os') (upd H a (.lst vs')):=by
  have s:=f.sl i
  rw [e] at s
  obtain ⟨b,vs,eo,hu',hH,_,_⟩:=s
  rw [hu] at hu'
  cases hu'
  have hi:=zh4 e (by intro z; cases z)
  have ha:a∈os i:=by rw [eo]; exact List.mem_singleton.mpr rfl
  have st:=f.step (H':=upd H a (.lst vs')) (i:=i) hi (o:=[a]) (s:=.ol ds') (v:=some (.ref a)) (fun b u e n=>by rw [upd_ne (fun z=>n (by rw [z]; exact ha))]; exact e) (fun b hb=>?_) (by simp) (fun b hb=>by rw [List.mem_singleton.mp hb]; exact .inl ha)
    ⟨a,vs',rfl,rfl,zbt,hl,h.kp fun b u e z=>⟨?_,fun q=>z ?_⟩⟩
  · rw [set_self hu] at st
    exact ⟨_,st⟩
  · rw [eo] at hb; rw [List.mem_singleton.mp hb]; exact ⟨_,zbt⟩
  · rw [upd_ne (fun w=>z (.inr ⟨i,by rw [w]; exact ha⟩))]; exact e
  · rcases q with q | ⟨j,q⟩
    · exact .inl q
    · by_cases hj:j=i
      · subst hj; rw [zby] at q; exact .inr ⟨j,by rw [List.mem_singleton.mp q]; exact ha⟩
      · rw [putO_ne hj] at q; exact .inr ⟨j,q⟩
theorem zm8 {B H:Hp} {Z:Addr→Prop} {os:Own} {ρ:Rho} {σ:L2.St} (f:Fr K B Z os ρ σ H) {i:Nat} {ds:List D} (e:ρ.getD i .un=.ol ds):∃ a vs,(σ[i]?).join=some (.ref a)∧H a=some (.lst vs)∧vs.length≤sizeLine∧IsL K H (tot Z os) vs ds:=by
  have s:=f.sl i
  rw [e] at s
  obtain ⟨b,vs,eo,hu',hH,hl,r⟩:=s
  exact ⟨b,vs,hu',hH,hl,r⟩
@[irreducible] noncomputable def sApp (i:Nat) (a:DE):DS:=fun ρ=>match ρ.getD i .un with
  | .ol ds=>(match a ρ with
    | some d=>if ds.length<sizeLine then .nx (ρ.set i (.ol (ds++[d]))) else .no
    | none=>.no)
  | _=>.no
theorem zeo {i:Nat} {ta:TE} {a:DE} (h:SemI K ta a):SemS fr K (zmh (tBM K "list" rAppend (tVar i) (zdw ta tNil))) (sApp i a):=fun {B Z os ρ σ H E} f p=>by
  unfold sApp at p
  split at p
  · rename_i ds e
    split at p
    · rename_i d e2
      by_cases hz:ds.length<sizeLine
      · rw [if_pos hz] at p
        obtain ⟨x,vs,hu,hH,hl,r⟩:=zm8 f e
        refine ⟨_,join_some hu,.inl ⟨rfl,_,SqL.of hH⟩,h f e2 fun v H1 s1 i1=>?_⟩
        have f1:=f.grow s1
        have r1:=r.same s1
        have hlen:vs.length<sizeLine:=by rw [r.length]; exact hz
        obtain ⟨os',f',k⟩:=f1.mutO (vs':=vs++[v]) (ds':=ds++[d]) e hu (by rw [List.length_append,List.length_singleton]; omega) (r1.append (.one i1))
        exact ⟨x,vs,v,rfl,rfl,s1 _ _ hH,hlen,p os' _ _ f' ((Kp.same s1).trans k)⟩
      · rw [if_neg hz] at p; exact p.elim
    · exact p.elim
  · exact p.elim
@[irreducible] noncomputable def sIns (i:Nat) (a b:DE):DS:=fun ρ=>match ρ.getD i .un with
  | .ol ds=>(match a ρ with
    | some (.int n)=>(match b ρ with
      | some d=>if 0≤n∧n≤ds.length∧ds.length<sizeLine then .nx (ρ.set i (.ol (ds.take n.toNat++d::ds.drop n.toNat))) else .no
      | none=>.no)
    | _=>.no)
  | _=>.no
theorem ss_ins {i:Nat} {ta tb:TE} {a b:DE} (ha:SemB K ta a) (hb:SemI K tb b):SemS fr K (zmh (tBM K "list" rInsert (tVar i) (zdw ta (zdw tb tNil)))) (sIns i a b):=fun {B Z os ρ σ H E} f p=>by
  unfold sIns at p
  split at p
  · rename_i ds e
    split at p
    · rename_i n e2
      split at p
      · rename_i d e3
        by_cases hz:0≤n∧n≤ds.length∧ds.length<sizeLine
        · rw [if_pos hz] at p
          obtain ⟨x,vs,hu,hH,hl,r⟩:=zm8 f e
          refine ⟨_,join_some hu,.inl ⟨rfl,_,SqL.of hH⟩,ha f e2 fun v H1 s1 i1=>hb (f.grow s1) e3 fun w H2 s2 i2=>?_⟩
          have s12:=s1.trans s2
          have f1:=f.grow s12
          have r1:=r.same s12
          have hlen:=r.length
          obtain ⟨os',f',k⟩:=f1.mutO (vs':=vs.take n.toNat++w::vs.drop n.toNat) (ds':=ds.take n.toNat++d::ds.drop n.toNat) e hu (by rw [List.length_append,List.length_cons,List.length_take,List.length_drop]; omega) ((r1.take _).append (.cons i2 (r1.drop _)))
          exact ⟨x,vs,n,w,rfl,by rw [i1.isInt],s12 _ _ hH,hz.1,by omega,by omega,p os' _ _ f' ((Kp.same s12).trans k)⟩
        · rw [if_neg hz] at p; exact p.elim
      · exact p.elim
    · exact p.elim
  · exact p.elim
@[irreducible] noncomputable def sPut (i:Nat) (b a:DE):DS:=fun ρ=>match ρ.getD i .un with
  | .ol ds=>(match a ρ with
    | some d=>(match b ρ with
      | some (.int n)=>(match ixN ds.length n with
        | some j=>.nx (ρ.set i (.ol (ds.set j d)))
        | none=>.no)
      | _=>.no)
    | none=>.no)
  | _=>.no
theorem zlt {i:Nat} {ta tb:TE} {a b:DE} (ha:SemI K ta a) (hb:SemB K tb b):SemS fr K (tAsg ta (gSub (tVar i) tb zm6)) (sPut i b a):=fun {B Z os ρ σ H E} f p=>by
  unfold sPut at p
  split at p
  · rename_i ds e
    split at p
    · rename_i d e2
      split at p
      · rename_i n e3
        split at p
        · rename_i j e4
          obtain ⟨x,vs,hu,hH,hl,r⟩:=zm8 f e
          refine ha f e2 fun v H1 s1 i1=>⟨_,join_some hu,hb (f.grow s1) e3 fun w H2 s2 i2=>?_⟩
          have s12:=s1.trans s2
          have f1:=f.grow s12
          have r1:=r.same s12
          obtain ⟨os',f',k⟩:=f1.mutO (vs':=vs.set j v) (ds':=ds.set j d) e hu (by rw [List.length_set]; exact hl) (r1.set (i1.same s2) j)
          exact ⟨x,vs,n,j,rfl,i2.isInt,s12 _ _ hH,by rw [r.length]; exact e4,p os' _ _ f' ((Kp.same s12).trans k)⟩
        · exact p.elim
      · exact p.elim
    · exact p.elim
  · exact p.elim
@[irreducible] noncomputable def sAug (g:Int→Int→Int) (i:Nat) (a:DE):DS:=fun ρ=>match dVar i ρ with
  | some (.int x)=>(match a ρ with
    | some (.int y)=>.nx (ρ.set i (.pu (.int (g x y))))
    | _=>.no)
  | _=>.no
theorem ss_aug {i:Nat} {g:Int→Int→Int} {ta:TE} {a:DE} (ha:SemB K ta a):SemS fr K (tAug i ta (ipI g)) (sAug g i a):=fun {B Z os ρ σ H E} f p=>by
  unfold sAug at p
  split at p
  · rename_i x e
    split at p
    · rename_i y e2
      have q:=zab i f (Q:=fun v H'=>v=.int x∧H'=H) e
      obtain ⟨u,hu,ix⟩:∃ u,σ[i]?=some (some u)∧u=.int x:=by
        have s:=f.sl i
        unfold dVar at e
        cases e0:ρ.getD i .un with
        | un=>rw [e0] at e; cases e
        | pu d=>rw [e0] at e s; cases e; obtain ⟨_,u,hu,i1⟩:=s; exact ⟨u,join_some hu,i1.isInt⟩
        | bo d=>rw [e0] at e s; cases e; obtain ⟨_,u,hu,i1⟩:=s; exact ⟨u,join_some hu,i1.isInt⟩
        | ol d=>rw [e0] at e; cases e
        | om d=>rw [e0] at e; cases e
        | od d=>rw [e0] at e; cases e
        | pm _ _ d=>rw [e0] at e; cases e
        | pd _ d=>rw [e0] at e; cases e
      refine ⟨u,hu,ha f e2 fun v H1 s1 i1=>⟨x,y,ix,i1.isInt,?_⟩⟩
      obtain ⟨os',f',k⟩:=(f.grow s1).putm (m:=true) i (v:=.int (g x y)) (d:=.int (g x y)) (.int _)
      exact p os' _ _ f' ((Kp.same s1).trans k)
    · exact p.elim
  · exact p.elim
def forD (g:DG) (b:DS):List D→DS
  | [],ρ=>.nx ρ
  | d::ds,ρ=>match g d ρ with
    | none=>.no
    | some ρ1=>match b ρ1 with
      | .nx ρ2=>forD g b ds ρ2
      | .ct ρ2=>forD g b ds ρ2
      | .bk ρ2=>.nx ρ2
      | .rt d=>.rt d
      | .no=>.no
@[irreducible] noncomputable def sFor (it:Rho→Option (List D)) (g:DG) (b:DS):DS:=fun ρ=>match it ρ with
  | some ds=>forD g b ds ρ
  | none=>.no
theorem zdo {m:Bool} {wi:TI} {t:TG} {tb:TS} {it:Rho→Option (List D)} {g:DG} {b:DS} (hw:SemW K m wi it) (hg:SemG K m t g) (hb:SemS fr K tb b):SemS fr K (tFor wi t tb) (sFor it g b):=fun {B Z os ρ σ H E} f p=>by
  unfold sFor at p
  split at p
  · rename_i ds e0
    refine hw f e0 fun J H1 s1 W=>?_
    refine ⟨fun i m σ' H'=>∃ os' ρ',m=ds.length-i∧i≤ds.length∧Fr K B Z os' ρ' σ' H'∧Kp (tot Z os) H1 (tot Z os') H'∧Post fr K B Z os H1 E (forD g b (ds.drop i) ρ'),⟨_,os,ρ,rfl,Nat.zero_le _,f.grow s1,Kp.refl,Post.kp (Kp.same s1) p⟩,?_⟩
    rintro i mm σ2 H2 ⟨os2,ρ2,rfl,hi,f2,k2,p2⟩
    by_cases hlt:i<ds.length
    · have ex:ds[i]?=some ds[i]:=List.getElem?_eq_getElem hlt
      obtain ⟨go,yl⟩:=W.go i ds[i] H2 _ k2 f2.keep f2.tin ex
      rw [List.drop_eq_getElem_cons hlt] at p2
      refine .inr ⟨go,fun σ' H'=>∃ os' ρ',Fr K B Z os' ρ' σ' H'∧Kp (tot Z os) H1 (tot Z os') H'∧Post fr K B Z os H1 E (forD g b (ds.drop (i+1)) ρ'),fun σ' H' ⟨os',ρ',h1,h2,h3⟩=>⟨_,by omega,os',ρ',rfl,hlt,h1,h2,h3⟩,fun x H3 hy=>?_⟩
      obtain ⟨s3,er⟩:=yl x H3 hy
      unfold forD at p2
      split at p2
      · exact p2.elim
      · rename_i ρ1 e1
        have er':ER K m B H3 (tot Z os2) x ds[i]:=er
        refine hg (f2.grow s3) er' e1 fun os3 σ3 f3 k3=>hb f3 ?_
        have k13:Kp (tot Z os) H1 (tot Z os3) H3:=(k2.trans (Kp.same s3)).trans k3
        split at p2
        · rename_i ρ4 e4
          rw [e4]
          exact fun os' σ' H' f' k'=>⟨os',_,f',k13.trans k',p2⟩
        · rename_i ρ4 e4
          rw [e4]
          exact fun os' σ' H' f' k'=>⟨os',_,f',k13.trans k',p2⟩
        · rename_i ρ4 e4
          rw [e4]
          exact fun os' σ' H' f' k'=>p2 os' σ' H' f' (k13.trans k')
        · rename_i d e4
          rw [e4]
          exact p2
        · exact p2.elim
    · have e:i=ds.length:=by omega
      subst e
      rw [List.drop_length] at p2
      exact .inl ⟨W.stop _ H2 _ k2 f2.keep rfl,p2 os2 σ2 H2 f2 k2⟩
  · exact p.elim
def whN (c:Rho→Option Bool) (b:DS):Nat→DS
  | 0,ρ=>match c ρ with
    | some false=>.nx ρ
    | _=>.no
  | n+1,ρ=>match c ρ with
    | some false=>.nx ρ
    | some true=>(match b ρ with
      | .nx ρ'=>whN c b n ρ'
      | .ct ρ'=>whN c b n ρ'
      | .bk ρ'=>.nx ρ'
      | .rt d=>.rt d
      | .no=>.no)
    | none=>.no
@[irreducible] noncomputable def zia (c:Rho→Option Bool) (b:DS):DS:=fun ρ=>if h:∃ n,whN c b n ρ≠.no then whN c b h.choose ρ else .no
theorem zj4 {c:Rho→Option Bool} {b:DS}:∀ {n:Nat} {ρ:Rho},whN c b n ρ≠.no→whN c b (n+1) ρ=whN c b n ρ
  | 0,ρ,h=>by
    unfold whN at h ⊢
    split at h
    · rename_i e; rw [e]
    · exact absurd rfl h
  | n+1,ρ,h=>by
    have e1:whN c b (n+1+1) ρ=(match c ρ with | some false=>.nx ρ | some true=>(match b ρ with | .nx ρ'=>whN c b (n+1) ρ' | .ct ρ'=>whN c b (n+1) ρ' | .bk ρ'=>.nx ρ' | .rt d=>.rt d | .no=>.no) | none=>.no):=rfl
    have e2:whN c b (n+1) ρ=(match c ρ with | some false=>.nx ρ | some true=>(match b ρ with | .nx ρ'=>whN c b n ρ' | .ct ρ'=>whN c b n ρ' | .bk ρ'=>.nx ρ' | .rt d=>.rt d | .no=>.no) | none=>.no):=rfl
    rw [e1]
    rw [e2] at h ⊢
    cases e3:c ρ with
    | none=>rfl
    | some x =>
      rw [e3] at h
      cases x with
      | false=>rfl
      | true =>
        cases e4:b ρ with
        | nx ρ'=>rw [e4] at h; exact zj4 h
        | ct ρ'=>rw [e4] at h; exact zj4 h
        | _=>rfl
theorem zmd {c:Rho→Option Bool} {b:DS} {n k:Nat} {ρ:Rho} (h:whN c b n ρ≠.no):whN c b (n+k) ρ=whN c b n ρ:=by
  induction k with
  | zero=>rfl
  | succ k ih=>rw [← Nat.add_assoc,zj4 (by rw [ih]; exact h),ih]
theorem sWhile_of {c:Rho→Option Bool} {b:DS} {n:Nat} {ρ:Rho} {r:Res} (h:whN c b n ρ=r) (hr:r≠.no):zia c b ρ=r:=by
  have ex:∃ n,whN c b n ρ≠.no:=⟨n,by rw [h]; exact hr⟩
  unfold zia
  rw [dif_pos ex]
  have q:=ex.choose_spec
  generalize ex.choose=m at q
  have e1:=zmd (k:=n) q
  have e2:=zmd (k:=m) (show whN c b n ρ≠.no by rw [h]; exact hr)
  rw [Nat.add_comm] at e2
  rw [← e1,e2,h]
theorem zj8 {tc:TT} {tb:TS} {c:Rho→Option Bool} {b:DS} (hc:SemT K tc c) (hb:SemS fr K tb b):SemS fr K (tWhile tc tb) (zia c b):=fun {B Z os ρ σ H E} f p=>by
  unfold zia at p
  by_cases ex:∃ n,whN c b n ρ≠.no
  · rw [dif_pos ex] at p
    generalize ex.choose=n0 at p
    refine ⟨fun m σ' H'=>∃ os' ρ',Fr K B Z os' ρ' σ' H'∧Kp (tot Z os) H (tot Z os') H'∧Post fr K B Z os H E (whN c b m ρ'),⟨n0,os,ρ,f,Kp.refl,p⟩,?_⟩
    rintro m σ2 H2 ⟨os2,ρ2,f2,k2,p2⟩
    cases m with
    | zero =>
      unfold whN at p2
      split at p2
      · rename_i e
        exact hc f2 e fun H3 s3=>iteF (p2 os2 σ2 H3 (f2.grow s3) (k2.trans (Kp.same s3)))
      · exact p2.elim
    | succ m =>
      have p2:Post fr K B Z os H E (match c ρ2 with | some false=>.nx ρ2 | some true=>(match b ρ2 with | .nx ρ'=>whN c b m ρ' | .ct ρ'=>whN c b m ρ' | .bk ρ'=>.nx ρ' | .rt d=>.rt d | .no=>.no) | none=>.no):=p2
      cases e:c ρ2 with
      | none=>rw [e] at p2; exact p2.elim
      | some x =>
        rw [e] at p2
        cases x with
        | false=>exact hc f2 e fun H3 s3=>iteF (p2 os2 σ2 H3 (f2.grow s3) (k2.trans (Kp.same s3)))
        | true =>
          refine hc f2 e fun H3 s3=>iteT ⟨fun σ' H'=>∃ os' ρ',Fr K B Z os' ρ' σ' H'∧Kp (tot Z os) H (tot Z os') H'∧Post fr K B Z os H E (whN c b m ρ'),fun σ' H' h=>⟨m,Nat.lt_succ_self _,h⟩,hb (f2.grow s3) ?_⟩
          have k3:=k2.trans (Kp.same s3)
          cases e4:b ρ2 with
          | nx ρ'=>rw [e4] at p2; exact fun os' σ' H' f' k'=>⟨os',_,f',k3.trans k',p2⟩
          | ct ρ'=>rw [e4] at p2; exact fun os' σ' H' f' k'=>⟨os',_,f',k3.trans k',p2⟩
          | bk ρ'=>rw [e4] at p2; exact fun os' σ' H' f' k'=>p2 os' σ' H' f' (k3.trans k')
          | rt d=>rw [e4] at p2; exact p2
          | no=>rw [e4] at p2; exact p2.elim
  · rw [dif_neg ex] at p; exact p.elim
def stD (n:Nat) (ms:List Bool) (ds:List D):Rho:=List.zipWith slm ms ds++List.replicate (n-ds.length) .un
@[irreducible] def runD (n:Nat) (ms:List Bool) (b:DS) (ds:List D):Option D:=match b (stD n ms ds) with
  | .rt d=>some d
  | .nx _=>some .non
  | _=>none
@[irreducible] def runF (n:Nat) (ms:List Bool) (b:DS) (ds:List D):Option D:=match b (stD n ms ds) with
  | .rt d=>some d
  | _=>none
theorem zk6 {H:Hp} {Z:Addr→Prop} {N:List Str} {ms:List Bool} {vs:List V} {ds:List D} (hz:ZT Z H) (h:Args K H Z ms vs ds):Fr K H Z (fun _=>[]) (stD N.length ms ds) (L2.start N vs) H where
  keep:=Same.refl _
  zin:=hz.1
  tab:=hz.2
  len:=by
    unfold stD L2.start
    have:=h.len
    simp only [List.length_append,List.length_map,List.length_replicate,List.length_zipWith]
    omega
  nd:=fun _=>List.nodup_nil
  dj:=fun _ _ _ h=>by cases h
  new:=fun _ _ h=>by cases h
  sl:=fun j=>by
    have hl:=h.len
    have key:∀ {ms:List Bool} {vs:List V} {ds:List D} (j:Nat),Args K H Z ms vs ds→j<ms.length→SlOk K H H (tot Z fun _=>[]) [] (((List.zipWith slm ms ds)[j]?).getD .un) ((vs.map some)[j]?.join):=by
      intro ms vs ds j h
      induction h generalizing j with
      | nil=>intro hj; simp at hj
      | own i _ ih =>
        intro hj
        cases j with
        | zero=>exact ⟨rfl,_,rfl,i.kp (Kp.less fun a z=>z.elim id fun ⟨_,w⟩=>by cases w)⟩
        | succ j=>exact ih j (by simpa using hj)
      | any i _ ih =>
        intro hj
        cases j with
        | zero=>exact ⟨rfl,_,rfl,i⟩
        | succ j=>exact ih j (by simpa using hj)
    unfold stD L2.start
    rw [List.getD_eq_getElem?_getD]
    by_cases hj:j<ms.length
    · rw [List.getElem?_append_left (by rw [List.length_zipWith]; omega),List.getElem?_append_left (by rw [List.length_map]; omega)]
      exact key j h hj
    · rw [List.getElem?_append_right (by rw [List.length_zipWith]; omega),List.getElem?_replicate]
      split <;> exact rfl
theorem Fun.okD {P:Program} {w:World} {mg:Str→Option Value} {base:Heap} {x qual:Str} {st:Stmt} {f:Addr} {fd:FuncData} {N ps:List Str} {k:Nat} (F:Fun K x qual st f fd) (S:FnScope N ps (zao st)) (ms:List Bool) (hms:ms.length=ps.length) (b:DS)
    (hbody:∀ (cdv:Value) (A:Around) (outer:List Env) (s:Shared) (H:Hp) (E:XK),Room k (A.deeper (PyProof.Rows.envOfC qual (zao st) s.heap.objs.size f cdv)) →
      ∃ t,PSs (cxOf CX0 P w K mg base N qual (zao st) f cdv A outer s H E).nox (zbh st) t∧SemS .v K t b):FnOk P w K mg base CX0 (k+1) f fd ps (spD .v K ms (runD N.length ms b)):=by
  refine F.ok S (fun vs H Q E h=>?_) (fun cdv A outer s H vs Q E hr h=>?_)
  · obtain ⟨Z,ds,d,hz,a,_⟩:=h
    rw [a.len.1,hms]
  · obtain ⟨Z,ds,d,hz,a,e,k⟩:=h
    obtain ⟨t,h1,h2⟩:=hbody cdv A outer s H E hr
    refine ⟨t,h1,h2 (zk6 hz a) ?_⟩
    unfold runD at e
    split at e
    · rename_i d' e1
      cases e
      rw [e1]
      exact fun v H' s' i=>k v H' s' i
    · rename_i ρ e1
      cases e
      rw [e1]
      exact fun os' σ' H' f' _=>k _ H' f'.keep .non
    · cases e
theorem Fun.okF {P:Program} {w:World} {mg:Str→Option Value} {base:Heap} {x qual:Str} {st:Stmt} {f:Addr} {fd:FuncData} {N ps:List Str} {k:Nat} (F:Fun K x qual st f fd) (S:FnScope N ps (zao st)) (ms:List Bool) (hms:ms.length=ps.length) (b:DS)
    (hbody:∀ (cdv:Value) (A:Around) (outer:List Env) (s:Shared) (H:Hp) (E:XK),Room k (A.deeper (PyProof.Rows.envOfC qual (zao st) s.heap.objs.size f cdv)) →
      ∃ t,PSs (cxOf CX0 P w K mg base N qual (zao st) f cdv A outer s H E).nox (zbh st) t∧SemS fr K t b) (hfr:∀ E C,fr≠.x E C:=by intro _ _ h; cases h):FnOk P w K mg base CX0 (k+1) f fd ps (spD fr K ms (runF N.length ms b)):=by
  refine F.ok S (fun vs H Q E h=>?_) (fun cdv A outer s H vs Q E hr h=>?_)
  · obtain ⟨Z,ds,d,hz,a,_⟩:=h
    rw [a.len.1,hms]
  · obtain ⟨Z,ds,d,hz,a,e,k⟩:=h
    obtain ⟨t,h1,h2⟩:=hbody cdv A outer s H E hr
    refine ⟨t,h1,h2 (zk6 hz a) ?_⟩
    unfold runF at e
    split at e
    · rename_i d' e1
      cases e
      rw [e1]
      cases fr with
      | v=>exact fun v H' s' i=>k v H' s' i
      | l=>exact fun v H' s' i=>k v H' s' i
      | m=>exact fun v H' s' i=>k v H' s' i
      | x E0 C=>exact absurd rfl (hfr E0 C)
    · cases e
end
end VL
namespace L2
open PySem PySem.Spec PyProof.Rows
open VL (s0)
section
variable {X:Cx}
inductive SubL (X:Cx):List (Str×Addr)→Prop
  | nil:SubL X []
  | cons {z:Str} {c:Addr} {r:List (Str×Addr)}:X.env.cells.lookup z=some c→SubL X r→SubL X ((z,c)::r)
theorem SubL.sub {cl:List (Str×Addr)} (h:SubL X cl):∀ x c,cl.lookup x=some c→X.env.cells.lookup x=some c:=by
  induction h with
  | nil=>intro x c e; cases e
  | @cons z c r h _ ih =>
    intro x c' e
    rw [List.lookup_cons] at e
    cases q:x==z with
    | true=>rw [q] at e; cases e; rw [eq_of_beq q]; exact h
    | false=>rw [q] at e; exact ih x c' e
inductive CapL (X:Cx) (scope:Scope) (cl:List (Str×Addr)):List Nat→List Str→Prop
  | nil:CapL X scope cl [] []
  | cons {i:Nat} {z:Str} {c:Addr} {is:List Nat} {zs:List Str}:X.N[i]?=some z→(X.env.scope.names.lookup z=some .cell∨X.env.scope.names.lookup z=some .free)→cl.lookup z=some c →
      ((relabel scope X.env).names.lookup z=some .cell∨(relabel scope X.env).names.lookup z=some .free)→CapL X scope cl is zs→CapL X scope cl (i::is) (z::zs)
theorem CapL.get {scope:Scope} {cl:List (Str×Addr)} {is:List Nat} {zs:List Str} (h:CapL X scope cl is zs):∀ (j:Nat) (z:Str),zs[j]?=some z→∃ i c,is[j]?=some i∧X.N[i]?=some z∧(X.env.scope.names.lookup z=some .cell∨X.env.scope.names.lookup z=some .free)∧cl.lookup z=some c ∧
      ((relabel scope X.env).names.lookup z=some .cell∨(relabel scope X.env).names.lookup z=some .free):=by
  induction h with
  | nil=>intro j z e; simp at e
  | cons h1 h2 h3 h4 _ ih =>
    intro j z e
    cases j with
    | zero=>cases e; exact ⟨_,_,rfl,h1,h2,h3,h4⟩
    | succ j=>exact ih j z (by simpa using e)
theorem CapL.len {scope:Scope} {cl:List (Str×Addr)} {is:List Nat} {zs:List Str} (h:CapL X scope cl is zs):is.length=zs.length:=by
  induction h with
  | nil=>rfl
  | cons _ _ _ _ _ ih=>simp [ih]
theorem Frees.many {scope:Scope} {cl:List (Str×Addr)} {is:List Nat} {ts zs:List Str} {k:Nat} {σ:St} (hk:ts.length=k) (hs:SubL X cl) (hc:CapL X scope cl is zs)
    (ha:((relabel scope X.env).names.all fun y=>!(y.2==.cell || y.2==.free) || zs.contains y.1)=true):Frees X (ts++zs) scope cl σ (s0 k is σ) where
  sub:=hs.sub
  vals:=fun j x v e1 e2=>by
    unfold s0 at e2
    by_cases hj:j<k
    · rw [List.getElem?_append_left (by simpa using hj),List.getElem?_replicate,if_pos hj] at e2; cases e2
    · rw [List.getElem?_append_right (by simpa using hj),List.length_replicate,List.getElem?_map] at e2
      rw [List.getElem?_append_right (by omega),hk] at e1
      obtain ⟨i,c,f1,f2,f3,f4,f5⟩:=hc.get _ _ e1
      rw [f1] at e2
      have e3:(σ[i]?).join=some v:=Option.some.inj e2
      refine ⟨i,c,f2,VL.join_some e3,?_,?_,f4,f5⟩
      · rcases f3 with q | q
        · exact .inr (.inl q)
        · exact .inr (.inr q)
      · intro w
        have w:X.env.scope.names.lookup x=some .local:=w
        rcases f3 with q | q <;> rw [q] at w <;> cases w
  has:=fun x h=>by
    have key:∀ kd,(relabel scope X.env).names.lookup x=some kd→(kd==NameKind.cell || kd==NameKind.free)=true→x∈zs:=fun kd e q=>by
      have m:=List.all_eq_true.mp ha _ (PySem.mem_of_lookup e)
      rw [q] at m
      have:zs.contains x=true:=by simpa using m
      exact List.contains_iff_mem.mp this
    have mem:x∈zs:=by
      rcases h with h | h
      · exact key _ h rfl
      · exact key _ h rfl
    obtain ⟨j,hj⟩:=List.getElem?_of_mem mem
    obtain ⟨i,c,_,_,_,f4,_⟩:=hc.get j x hj
    exact ⟨c,f4⟩
  len:=by unfold s0; rw [List.length_append,List.length_append,List.length_replicate,List.length_map,hk,hc.len]
def Low (k:Nat) (g:TG):Prop:=∀ x σ H (Q:St→Hp→Prop),g x σ H Q→∃ σ2 H2,Q σ2 H2∧σ2.length=σ.length∧(∀ j,k≤j→σ2[j]?=σ[j]?)∧∀ Q':St→Hp→Prop,Q' σ2 H2→g x σ H Q'
def Lows (k:Nat) (g:TGs):Prop:=∀ x σ H (Q:St→Hp→Prop),g x σ H Q→∃ σ2 H2,Q σ2 H2∧σ2.length=σ.length∧(∀ j,k≤j→σ2[j]?=σ[j]?)∧∀ Q':St→Hp→Prop,Q' σ2 H2→g x σ H Q'
theorem zbm {k i:Nat} (h:i<k):Low k (zjo i):=fun x σ H Q q=>⟨_,_,q,List.length_set,fun j hj=>by rw [List.getElem?_set_ne (by omega)],fun _ z=>z⟩
theorem lows_nil {k:Nat}:Lows k gNil:=fun x σ H Q q=>⟨_,_,q.2,rfl,fun _ _=>rfl,fun _ z=>⟨q.1,z⟩⟩
theorem lows_cons {t:TG} {u:TGs} {k:Nat} (h1:Low k t) (h2:Lows k u):Lows k (znb t u):=fun x σ H Q q=>by
  obtain ⟨v,r,e,q⟩:=q
  obtain ⟨σ1,H1,q1,l1,k1,g1⟩:=h1 _ _ _ _ q
  obtain ⟨σ2,H2,q2,l2,k2,g2⟩:=h2 _ _ _ _ q1
  exact ⟨σ2,H2,q2,l2.trans l1,fun j hj=>(k2 j hj).trans (k1 j hj),fun Q' z=>⟨v,r,e,g1 _ (g2 Q' z)⟩⟩
theorem low_seq {K:PySem.W.Frag} {u:TGs} {k n:Nat} (h:Lows k u):Low k (gSeq K n u):=fun x σ H Q q=>by
  rcases q with ⟨a,xs,e,hs,hl,q⟩ | ⟨a,xs,e,hs,hl,q⟩
  · obtain ⟨σ1,H1,q1,l1,k1,g1⟩:=h _ _ _ _ q
    exact ⟨σ1,H1,q1,l1,k1,fun Q' z=>.inl ⟨a,xs,e,hs,hl,g1 Q' z⟩⟩
  · obtain ⟨σ1,H1,q1,l1,k1,g1⟩:=h _ _ _ _ q
    exact ⟨σ1,H1,q1,l1,k1,fun Q' z=>.inr ⟨a,xs,e,hs,hl,g1 Q' z⟩⟩
theorem Low.keep {k:Nat} {g:TG} {cs:List Nat} (h:Low k g) (σ:St):zlo g (s0 k cs σ):=fun x H Q q=>by
  obtain ⟨σ1,H1,q1,l1,k1,g1⟩:=h _ _ _ _ q
  refine g1 _ ⟨q1,l1,fun j v e=>?_⟩
  by_cases hj:j<k
  · unfold s0 at e
    rw [List.getElem?_append_left (by simpa using hj),List.getElem?_replicate,if_pos hj] at e; cases e
  · rw [k1 j (by omega)]; exact e
theorem pgb {N':List Str} {scope:Scope} {cl:List (Str×Addr)} {i:Nat} {y:Str} {py:Pos} (nd:N'.Nodup) (hi:N'[i]?=some y) (hx:scope.names.lookup y=some .local) {C:Addr} {s3:Shared} {H3:Hp} {fp:List Addr} {pins:List (Addr×Obj)} :
    PG (compCx X N' scope cl C s3 H3 fp pins) (.Name y py) (zjo i):=zb5 nd hi (.inl (lookup_relabel_local hx)) (.inr (lookup_relabel_local hx))
variable {tg elt iter c:Expr} {scope:Scope} {cl:List (Str×Addr)} {ts zs:List Str} {is:List Nat} {k:Nat} {g:TG} {tt:TT} {te:TE} {wi:TI} {pos:Pos}
theorem zey (hc:X.calm=true) (hi:PI X tg iter wi) (hk:ts.length=k) (hs:SubL X cl) (hcp:CapL X scope cl is zs) (ha:((relabel scope X.env).names.all fun y=>!(y.2==.cell || y.2==.free) || zs.contains y.1)=true) (hl:Low k g)
    (hg:∀ C s3 H3 fp pins,PG (compCx X (ts++zs) scope cl C s3 H3 fp pins) tg g) (he:∀ C s3 H3 fp pins,PE (compCx X (ts++zs) scope cl C s3 H3 fp pins) elt te)
    (hclos:closureFor scope X.env=pure cl) (hcell:∀ y∈scope.names,y.2≠.cell) (hkind:scope.kind=.function) (hnames:∀ y∈scope.names,y.2=.local→scope.names.lookup y.1=some .local)
    (hf:∀ x,foldedSetIterable iter X.env x=pure x:=by intro _; rfl):PE X (.ListComp elt [⟨tg,iter,[],0⟩] scope pos) (zjn wi g zl1 te (s0 k is)) :=
  pe_compG hc hi (fun _ _=>Frees.many hk hs hcp ha) (fun σ=>hl.keep σ) hg tests0 he hclos hcell hkind hnames hf
theorem zmo (hc:X.calm=true) (hi:PI X tg iter wi) (hk:ts.length=k) (hs:SubL X cl) (hcp:CapL X scope cl is zs) (ha:((relabel scope X.env).names.all fun y=>!(y.2==.cell || y.2==.free) || zs.contains y.1)=true) (hl:Low k g)
    (hg:∀ C s3 H3 fp pins,PG (compCx X (ts++zs) scope cl C s3 H3 fp pins) tg g) (ht:∀ C s3 H3 fp pins,PT (compCx X (ts++zs) scope cl C s3 H3 fp pins) c tt) (he:∀ C s3 H3 fp pins,PE (compCx X (ts++zs) scope cl C s3 H3 fp pins) elt te)
    (hclos:closureFor scope X.env=pure cl) (hcell:∀ y∈scope.names,y.2≠.cell) (hkind:scope.kind=.function) (hnames:∀ y∈scope.names,y.2=.local→scope.names.lookup y.1=some .local)
    (hf:∀ x,foldedSetIterable iter X.env x=pure x:=by intro _; rfl):PE X (.ListComp elt [⟨tg,iter,[c],0⟩] scope pos) (zjn wi g tt te (s0 k is)) :=
  pe_compG hc hi (fun _ _=>Frees.many hk hs hcp ha) (fun σ=>hl.keep σ) hg (tests1 ht) he hclos hcell hkind hnames hf
theorem zkp {i:Nat} {x:Str} {pos' spos:Pos} (hN:X.N.Nodup) (hi':X.N[i]?=some x) (hxl:X.env.scope.names.lookup x=some .local) (hc:X.calm=true) (hi:PI X tg iter wi) (hk:ts.length=k) (hs:SubL X cl) (hcp:CapL X scope cl is zs) (ha:((relabel scope X.env).names.all fun y=>!(y.2==.cell || y.2==.free) || zs.contains y.1)=true) (hl:Low k g)
    (hg:∀ C s3 H3 fp pins,PG (compCx X (ts++zs) scope cl C s3 H3 fp pins) tg g) (he:∀ C s3 H3 fp pins,PE (compCx X (ts++zs) scope cl C s3 H3 fp pins) elt te)
    (hclos:closureFor scope X.env=pure cl) (hcell:∀ y∈scope.names,y.2≠.cell) (hkind:scope.kind=.function) (hnames:∀ y∈scope.names,y.2=.local→scope.names.lookup y.1=some .local)
    (hf:∀ x,foldedSetIterable iter X.env x=pure x:=by intro _; rfl) (hsw:swapsWith (.ListComp elt [⟨tg,iter,[],0⟩] scope pos) (some (.Name x pos')) spos.line X.env=pure true:=by rfl):PS X (.Assign [.Name x pos'] (.ListComp elt [⟨tg,iter,[],0⟩] scope pos) spos) (zl2 (zjn wi g zl1 te (s0 k is)) i) :=
 ps_setCG hN hi' (.inl hxl) (.inr hxl) hc hi (fun _ _=>Frees.many hk hs hcp ha) (fun σ=>hl.keep σ) hg tests0 he hclos hcell hkind hnames hf hsw
theorem ps_cN1 {i:Nat} {x:Str} {pos' spos:Pos} (hN:X.N.Nodup) (hi':X.N[i]?=some x) (hxl:X.env.scope.names.lookup x=some .local) (hc:X.calm=true) (hi:PI X tg iter wi) (hk:ts.length=k) (hs:SubL X cl) (hcp:CapL X scope cl is zs) (ha:((relabel scope X.env).names.all fun y=>!(y.2==.cell || y.2==.free) || zs.contains y.1)=true) (hl:Low k g)
    (hg:∀ C s3 H3 fp pins,PG (compCx X (ts++zs) scope cl C s3 H3 fp pins) tg g) (ht:∀ C s3 H3 fp pins,PT (compCx X (ts++zs) scope cl C s3 H3 fp pins) c tt) (he:∀ C s3 H3 fp pins,PE (compCx X (ts++zs) scope cl C s3 H3 fp pins) elt te)
    (hclos:closureFor scope X.env=pure cl) (hcell:∀ y∈scope.names,y.2≠.cell) (hkind:scope.kind=.function) (hnames:∀ y∈scope.names,y.2=.local→scope.names.lookup y.1=some .local)
    (hf:∀ x,foldedSetIterable iter X.env x=pure x:=by intro _; rfl) (hsw:swapsWith (.ListComp elt [⟨tg,iter,[c],0⟩] scope pos) (some (.Name x pos')) spos.line X.env=pure true:=by rfl):PS X (.Assign [.Name x pos'] (.ListComp elt [⟨tg,iter,[c],0⟩] scope pos) spos) (zl2 (zjn wi g tt te (s0 k is)) i) :=
 ps_setCG hN hi' (.inl hxl) (.inr hxl) hc hi (fun _ _=>Frees.many hk hs hcp ha) (fun σ=>hl.keep σ) hg (tests1 ht) he hclos hcell hkind hnames hf hsw
theorem zbv {K:PySem.W.Frag} {l:Expr} {tl:TE} (h:X.K=K) (hl:PE X l tl):PI X tg l (zmr K tl):=by subst h; exact pi_list hl
end
end L2
namespace VL
open PySem L2
def sp_law [Tabs] (K:PySem.W.Frag):Sp:=fun vs H Q _=>∃ (a:Addr) (ns:List Int),vs=[.ref a]∧SqL K H a (ns.map V.int)∧ns.length≤63∧(∀ m∈ns,Builtin.Int.intBits m≤1048576)∧TabIn H∧∀ H',Q (.bl true) H'
theorem sp_law_of [Tabs] {K:PySem.W.Frag} {F:List D→Option D} (ht:∀ ns:List Int,ns.length≤63→(∀ m∈ns,Builtin.Int.intBits m≤1048576)→F [.scr ns]=some (.bl true)) {vs:List V} {H:Hp} {Q:VK} {E:XK} (h:sp_law K vs H Q E):spD .v K [false] F vs H Q E:=by
  obtain ⟨a,ns,rfl,hS,hl,hb,htab,k⟩:=h
  have hz:ns.length≤sizeLine:=Nat.le_trans hl (by decide)
  refine ⟨No,[.scr ns],.bl true,⟨fun a z=>z.elim,htab⟩,.any ?_ .nil,ht ns hl hb,fun v H' s i=>by cases i; exact k H'⟩
  rcases hS with hS | hS
  · exact .scr (fun z=>z) hS hz
  · exact .scrK hS hz
end VL
namespace L2
open PySem PySem.Spec PyProof.Rows
section
variable {X:Cx} {K:PySem.W.Frag}
theorem bt_any:bootBuiltins "any" = some (.builtin "any"):=by decide +kernel
theorem bt_zip:bootBuiltins "zip" = some (.type "zip"):=by decide +kernel
def truV:V→Option Bool
  | .bl b=>some b
  | .int i=>some (i != 0)
  | _=>none
theorem kept_it {s:Shared} {h':Heap} {o:Obj} (hk:∀ b x,b∉[s.heap.objs.size]→(s.heap.push o).get? b=some x→h'.get? b=some x):∀ b x,s.heap.get? b=some x→h'.get? b=some x :=
  fun b x e=>hk b x (fun hm=>by rw [List.mem_singleton.mp hm] at e; exact Nat.lt_irrefl _ (Heap.lt_size e)) (Heap.get?_push_of_some _ e)
theorem rall (bs:List Bool):((List.range bs.length).all fun i=>(bs[i]?).getD true)=bs.all id:=by
  rw [Bool.eq_iff_iff,List.all_eq_true,List.all_eq_true]
  constructor
  · intro h x hx
    obtain ⟨i,hi⟩:=List.getElem?_of_mem hx
    have:=h i (List.mem_range.mpr (List.getElem?_eq_some_iff.mp hi).1)
    rw [hi] at this
    exact this
  · intro h i hi
    have:=List.mem_range.mp hi
    rw [List.getElem?_eq_getElem this]
    exact h _ (List.getElem_mem this)
theorem rany (bs:List Bool):((List.range bs.length).any fun i=>(bs[i]?).getD false)=bs.any id:=by
  rw [Bool.eq_iff_iff,List.any_eq_true,List.any_eq_true]
  constructor
  · rintro ⟨i,hi,h⟩
    have:=List.mem_range.mp hi
    rw [List.getElem?_eq_getElem this] at h
    exact ⟨_,List.getElem_mem this,h⟩
  · rintro ⟨x,hx,h⟩
    obtain ⟨i,hi⟩:=List.getElem?_of_mem hx
    exact ⟨i,List.mem_range.mpr (List.getElem?_eq_some_iff.mp hi).1,by rw [hi]; exact h⟩
def rAA (K:PySem.W.Frag) (f:List Bool→Bool):List V→Hp→VK→Prop:=fun xs H Q=>∃ (p:Addr) (vs:List V) (bs:List Bool),xs=[.ref p]∧SqL K H p vs∧vs.map truV=bs.map some∧Q (.bl (f bs)) H
theorem tru_at {vs:List V} {us:List Value} {bs:List Bool} (r:Vals vs us) (h:vs.map truV=bs.map some) {i:Nat} {u:Value} (e:us[i]?=some u):∃ b,bs[i]?=some b∧∀ {prog:Program} {w:World} {A:Around} {s':Shared} {Q:Bool→Shared→Prop} {E:Value→Shared→Prop},Q b s'→wpAny (model prog w) A (truthy u) Q E s':=by
  have hi:i<vs.length:=by rw [r.length]; exact (List.getElem?_eq_some_iff.mp e).1
  have e1:vs[i]?=some vs[i]:=List.getElem?_eq_getElem hi
  obtain ⟨u',e2,ru⟩:=r.get e1
  rw [e] at e2
  cases e2
  have e3:(bs.map some)[i]?=some (truV vs[i]):=by rw [← h,List.getElem?_map,e1]; rfl
  rw [List.getElem?_map] at e3
  cases e4:bs[i]? with
  | none=>rw [e4] at e3; cases e3
  | some b =>
    rw [e4] at e3
    have e5:some b=truV vs[i]:=Option.some.inj e3
    refine ⟨b,rfl,fun {prog w A s' Q E} q=>?_⟩
    cases e6:vs[i] with
    | bl c =>
      rw [e6] at e5 ru
      cases e5
      cases ru
      exact wpAny_truthy_bool q
    | int n =>
      rw [e6] at e5 ru
      have e5:some b=some (n != 0):=e5
      cases e5
      obtain ⟨t,rfl⟩:=ru
      exact PySem.P.truthy_int q
    | _=>rw [e6] at e5; cases e5
theorem zgi (hc:X.calm=true) (hK:X.K=K):zhu X (.builtin "all") (rAA K fun bs=>bs.all id):=by
  subst hK
  intro pins s σ H xs us Q I r h
  obtain ⟨p,vs,bs,rfl,hq,hb,q⟩:=h
  obtain ⟨u,rfl,rx⟩:=vals1 r
  cases rx
  obtain ⟨its,r',pl,hz⟩:=I.list hq
  have hl:=pl.isList
  have hlt:p<s.heap.objs.size:=by obtain ⟨_,e,_⟩:=hl; exact Heap.lt_size e
  refine call_all_walk (wpAny_pyIter_list hl ?_)
  refine ⟨s.heap.objs.size,[s.heap.objs.size,p],[s.heap.objs.size],its.toArray.size,_,_,fun i=>(bs[i]?).getD true,rfl,Walks.list (A:=X.A.in1) (I.ok.hd hc) _ p (Nat.ne_of_lt hlt) its.toArray,
    ⟨⟨_,Heap.get?_push_size _ rfl,rfl,rfl⟩,hl.push _⟩,fun i v s' Q' E' hP hQ=>?_,fun h' tk hk=>?_⟩
  · obtain ⟨b,e,k⟩:=tru_at r' hb (i:=i) (u:=v) (by simpa using hP)
    simp only [e,Option.getD_some] at hQ
    exact k hQ
  · have e:((List.range its.toArray.size).all fun i=>(bs[i]?).getD true)=bs.all id:=by
      have:its.length=bs.length:=by
        have:=congrArg List.length hb
        rw [List.length_map,List.length_map] at this
        rw [← r'.length]; exact this
      rw [List.size_toArray,this]; exact rall bs
    rw [e]
    exact ⟨.bl _,H,I.kept (t':=tk) (kept_it hk),rfl,q⟩
theorem call_anyK (hc:X.calm=true) (hK:X.K=K):zhu X (.builtin "any") (rAA K fun bs=>bs.any id):=by
  subst hK
  intro pins s σ H xs us Q I r h
  obtain ⟨p,vs,bs,rfl,hq,hb,q⟩:=h
  obtain ⟨u,rfl,rx⟩:=vals1 r
  cases rx
  obtain ⟨its,r',pl,hz⟩:=I.list hq
  have hl:=pl.isList
  have hlt:p<s.heap.objs.size:=by obtain ⟨_,e,_⟩:=hl; exact Heap.lt_size e
  refine call_any_walk (wpAny_pyIter_list hl ?_)
  refine ⟨s.heap.objs.size,[s.heap.objs.size,p],[s.heap.objs.size],its.toArray.size,_,_,fun i=>(bs[i]?).getD false,rfl,Walks.list (A:=X.A.in1) (I.ok.hd hc) _ p (Nat.ne_of_lt hlt) its.toArray,
    ⟨⟨_,Heap.get?_push_size _ rfl,rfl,rfl⟩,hl.push _⟩,fun i v s' Q' E' hP hQ=>?_,fun h' tk hk=>?_⟩
  · obtain ⟨b,e,k⟩:=tru_at r' hb (i:=i) (u:=v) (by simpa using hP)
    simp only [e,Option.getD_some] at hQ
    exact k hQ
  · have e:((List.range its.toArray.size).any fun i=>(bs[i]?).getD false)=bs.any id:=by
      have:its.length=bs.length:=by
        have:=congrArg List.length hb
        rw [List.length_map,List.length_map] at this
        rw [← r'.length]; exact this
      rw [List.size_toArray,this]; exact rany bs
    rw [e]
    exact ⟨.bl _,H,I.kept (t':=tk) (kept_it hk),rfl,q⟩
theorem zgx (hc:X.calm=true) (hK:X.K=K):zhu X (.builtin "min") (fun xs H Q=>∃ (p:Addr) (ns:List Int),xs=[.ref p]∧SqL K H p (ns.map V.int)∧ns≠[]∧∀ M,M∈ns→(∀ a,a∈ns→M≤a)→Q (.int M) H):=by
  subst hK
  intro pins s σ H xs us Q I r h
  obtain ⟨p,ns,rfl,hq,hne,q⟩:=h
  obtain ⟨u,rfl,rx⟩:=vals1 r
  cases rx
  obtain ⟨its,r',pl,hz⟩:=I.list hq
  have hi:=intsAre_of r'
  obtain ⟨ys,e⟩:=hi.allInts.items
  have hns:ns=ys.toList.map (·.1):=by
    rw [← hi.numsOf,← nums_intItems,← e]
  have hsz:0<ys.size:=by
    have h3:=List.length_pos_iff.mpr hne
    rw [hns,List.length_map,Array.length_toList] at h3
    exact h3
  have hl:=pl.isList
  rw [e] at hl
  refine min_intList (I.ok.hd hc) hl hsz fun v h' tk hv hk=>?_
  obtain ⟨t,rfl⟩:=intItems_at hv
  obtain ⟨h1,h2⟩:=argBest_lt (numAt ys) (ys.size-1)
  refine ⟨.int _,H,I.kept hk,⟨t,rfl⟩,q _ ?_ fun a ha=>?_⟩
  · rw [hns,numAt_eq]; exact PySem.getD_mem (by rw [List.length_map,Array.length_toList]; omega)
  · rw [hns] at ha
    obtain ⟨j,hj,rfl⟩:=mem_getD ha
    rw [List.length_map,Array.length_toList] at hj
    rw [← numAt_eq]; exact h2 j (by omega)
end
end L2
namespace VL
open PySem L2
open Classical
noncomputable section
section
variable [Tabs] {K:PySem.W.Frag} {ta tb tc:TE} {a b c:DE}
def trus:List D→Option (List Bool)
  | []=>some []
  | .bl b::r=>(trus r).map (b::·)
  | .int i::r=>(trus r).map ((i != 0)::·)
  | _=>none
theorem zk4 {H:Hp} {Z:Addr→Prop}:∀ {vs:List V} {ds:List D} {bs:List Bool},IsL K H Z vs ds→trus ds=some bs→vs.map truV=bs.map some
  | _,[],_,.nil,e=>by cases e; rfl
  | _,d::r,bs,.cons h t,e=>by
    unfold trus at e
    split at e
    · rename_i q; cases q
    · rename_i b r' q
      cases q
      cases q:trus r with
      | none=>rw [q] at e; cases e
      | some cs=>rw [q] at e; cases e; rw [List.map_cons,List.map_cons,zk4 t q,h.v_bl]; rfl
    · rename_i b r' q
      cases q
      cases q:trus r with
      | none=>rw [q] at e; cases e
      | some cs=>rw [q] at e; cases e; rw [List.map_cons,List.map_cons,zk4 t q,h.v_int]; rfl
    · cases e
theorem zj6:∀ (bs:List Bool),trus (bs.map D.bl)=some bs
  | []=>rfl
  | b::r=>by show (trus (r.map D.bl)).map (b::·)=_; rw [zj6 r]; rfl
def aaD (g:List Bool→Bool):D→Option D
  | .lst ds=>(trus ds).map fun bs=>.bl (g bs)
  | _=>none
theorem si_aa {g:List Bool→Bool} (ha:SemB K ta a):SemI K (tCB (rAA K g) (zdw ta tNil)) (dF1 (aaD g) a):=by
  refine zmx (fun {H v d e Q} h q=>?_) ha
  cases h with
  | lst hz h hl r =>
    rename_i p vs ds
    have q:(trus ds).map (fun bs=>D.bl (g bs))=some e:=q
    cases q1:trus ds with
    | none=>rw [q1] at q; cases q
    | some bs =>
      rw [q1] at q
      cases q
      exact ⟨rfl,fun k=>⟨p,vs,bs,rfl,.inl h,zk4 r q1,k⟩⟩
  | _=>cases q
def allD:D→Option D:=aaD fun bs=>bs.all id
def anyD:D→Option D:=aaD fun bs=>bs.any id
theorem zkn (ha:SemB K ta a):SemI K (tCB (rAA K fun bs=>bs.all id) (zdw ta tNil)) (dF1 allD a):=si_aa ha
theorem si_any (ha:SemB K ta a):SemI K (tCB (rAA K fun bs=>bs.any id) (zdw ta tNil)) (dF1 anyD a):=si_aa ha
def minD:D→Option D:=ofInts fun ns=>match ns with
  | []=>none
  | x::r=>some (.int (minL x r))
theorem zlw (ha:SemB K ta a):SemI K (tCB (fun xs H Q=>∃ (p:Addr) (ns:List Int),xs=[.ref p]∧SqL K H p (ns.map V.int)∧ns≠[]∧∀ M,M∈ns→(∀ a,a∈ns→M≤a)→Q (.int M) H) (zdw ta tNil)) (dF1 minD a):=by
  refine zmx (fun h q=>?_) ha
  obtain ⟨ns,rfl,e⟩:=ofInts_some q
  obtain ⟨p,rfl,r⟩:=h.ints
  cases ns with
  | nil=>cases e
  | cons x t =>
    cases e
    refine ⟨rfl,fun k=>⟨p,x::t,rfl,.inl r,by simp,fun M h1 h2=>?_⟩⟩
    rw [min_uniq h1 h2 (minL_spec t x).1 (minL_spec t x).2]
    exact k
end
end
end VL
namespace VL
open PySem L2
open Classical
noncomputable section
instance (priority:=low) noTabs:Tabs:=⟨[]⟩
structure Wk where
  nx:Rho→Prop
  rt:D→Prop
  bk:Rho→Prop:=fun _=>False
  ct:Rho→Prop:=fun _=>False
@[irreducible] def Wp (s:DS) (ρ:Rho) (W:Wk):Prop:=match s ρ with
  | .nx ρ'=>W.nx ρ'
  | .rt d=>W.rt d
  | .bk ρ'=>W.bk ρ'
  | .ct ρ'=>W.ct ρ'
  | .no=>False
section
variable {s u b:DS} {ρ:Rho} {W:Wk} {i:Nat} {a e k:DE} {d:D} {c:Rho→Option Bool} {es:Rho→Option (List D)} {ds:List D} {g:DG}
theorem wp_seq (h:Wp s ρ { W with nx:=fun ρ'=>Wp u ρ' W }):Wp (sSeq s u) ρ W:=by
  unfold Wp sSeq at *
  cases e:s ρ <;> rw [e] at h <;> exact h
theorem wp_pass (h:W.nx ρ):Wp zb7 ρ W:=by unfold Wp zb7; exact h
theorem wp_ret (h:a ρ=some d) (k:W.rt d):Wp (sRet a) ρ W:=by unfold Wp sRet; rw [h]; exact k
theorem zfl {x:Bool} (h:c ρ=some x) (ht:x=true→Wp s ρ W) (hf:x=false→Wp u ρ W):Wp (sIf c s u) ρ W:=by
  unfold Wp sIf at *
  rw [h]
  cases x
  · exact hf rfl
  · exact ht rfl
theorem zjr {p:Prop} {_:Decidable p} (h:c ρ=some (decide p)) (ht:p→Wp s ρ W) (hf:¬ p→Wp u ρ W):Wp (sIf c s u) ρ W:=by
  refine zfl h (fun q=>ht (of_decide_eq_true q)) fun q=>hf (of_decide_eq_false q)
theorem wp_ifT (h:c ρ=some true) (ht:Wp s ρ W):Wp (sIf c s u) ρ W:=zfl h (fun _=>ht) fun q=>by cases q
theorem wp_ifF (h:c ρ=some false) (ht:Wp u ρ W):Wp (sIf c s u) ρ W:=zfl h (fun q=>by cases q) fun _=>ht
theorem zbr (h:a ρ=some d) (k:W.nx (ρ.set i (.pu d))):Wp (sSet i a) ρ W:=by unfold Wp sSet; rw [h]; exact k
theorem zdu (h:es ρ=some ds) (hi:i < ρ.length) (k:W.nx (ρ.set i (.ol ds))):Wp (zfc i es) ρ W:=by unfold Wp zfc; rw [h]; simp only [if_pos hi]; exact k
theorem zg6 (h:Wp s (frz i ρ) W):Wp (sFrz i s) ρ W:=by unfold Wp sFrz at *; exact h
theorem zmc (h0:ρ.getD i .un=.ol ds) (h:a ρ=some d) (hl:ds.length<sizeLine) (k:W.nx (ρ.set i (.ol (ds++[d])))):Wp (sApp i a) ρ W:=by unfold Wp sApp; rw [h0]; simp only [h,if_pos hl]; exact k
theorem wp_ins {n:Int} (h0:ρ.getD i .un=.ol ds) (h:a ρ=some (.int n)) (h1:e ρ=some d) (hl:0≤n∧n≤ds.length∧ds.length<sizeLine) (k:W.nx (ρ.set i (.ol (ds.take n.toNat++d::ds.drop n.toNat)))):Wp (sIns i a e) ρ W:=by
  unfold Wp sIns; rw [h0]; simp only [h,h1,if_pos hl]; exact k
theorem wp_put {n:Int} {j:Nat} (h0:ρ.getD i .un=.ol ds) (h1:a ρ=some d) (h:e ρ=some (.int n)) (hj:ixN ds.length n=some j) (k:W.nx (ρ.set i (.ol (ds.set j d)))):Wp (sPut i e a) ρ W:=by
  unfold Wp sPut; rw [h0]; simp only [h,h1,hj]; exact k
theorem wp_aug {f:Int→Int→Int} {x y:Int} (h0:dVar i ρ=some (.int x)) (h:a ρ=some (.int y)) (k:W.nx (ρ.set i (.pu (.int (f x y))))):Wp (sAug f i a) ρ W:=by
  unfold Wp sAug; rw [h0]; simp only [h]; exact k
theorem zdn {it:Rho→Option (List D)} (h:it ρ=some ds) (I:Nat→Rho→Prop) (h0:I 0 ρ)
    (hs:∀ (j:Nat) (d:D) (ρ:Rho),ds[j]?=some d→I j ρ→∃ ρ1,g d ρ=some ρ1∧Wp b ρ1 { W with nx:=I (j+1),ct:=I (j+1),bk:=W.nx })
    (he:∀ ρ,I ds.length ρ→W.nx ρ):Wp (sFor it g b) ρ W:=by
  have key:∀ (n j:Nat) (ρ:Rho),n=ds.length-j→j≤ds.length→I j ρ→Wp (fun ρ=>forD g b (ds.drop j) ρ) ρ W:=by
    intro n
    induction n with
    | zero =>
      intro j ρ hn hj hI
      have e:j=ds.length:=by omega
      subst e
      unfold Wp
      simp only [List.drop_length,forD]
      exact he ρ hI
    | succ n ih =>
      intro j ρ hn hj hI
      have hlt:j<ds.length:=by omega
      obtain ⟨ρ1,e1,w1⟩:=hs j ds[j] ρ (List.getElem?_eq_getElem hlt) hI
      unfold Wp
      dsimp only
      rw [List.drop_eq_getElem_cons hlt]
      unfold forD
      rw [e1]
      unfold Wp at w1
      dsimp only
      cases e2:b ρ1 with
      | nx ρ2=>rw [e2] at w1; have q:=ih (j+1) ρ2 (by omega) hlt w1; unfold Wp at q; exact q
      | ct ρ2=>rw [e2] at w1; have q:=ih (j+1) ρ2 (by omega) hlt w1; unfold Wp at q; exact q
      | bk ρ2=>rw [e2] at w1; exact w1
      | rt d=>rw [e2] at w1; exact w1
      | no=>rw [e2] at w1; exact w1
  have:=key _ 0 ρ rfl (Nat.zero_le _) h0
  unfold Wp at this
  unfold Wp sFor
  rw [h]
  exact this
theorem zj2 (I:Nat→Rho→Prop) (n:Nat) (h0:I n ρ) (hs:∀ n ρ,I n ρ→∃ x,c ρ=some x∧(x=true→Wp b ρ { W with nx:=fun ρ'=>∃ m,m<n∧I m ρ',ct:=fun ρ'=>∃ m,m<n∧I m ρ',bk:=W.nx })∧(x=false→W.nx ρ)):Wp (zia c b) ρ W:=by
  have key:∀ n ρ,I n ρ→∃ r,whN c b (n+1) ρ=r∧r≠.no∧(match r with | .nx ρ'=>W.nx ρ' | .rt d=>W.rt d | .bk ρ'=>W.bk ρ' | .ct ρ'=>W.ct ρ' | .no=>False):=by
    intro n
    induction n using Nat.strongRecOn with
    | _ n ih =>
      intro ρ hI
      obtain ⟨x,ec,ht,hf⟩:=hs n ρ hI
      have un:whN c b (n+1) ρ=(match c ρ with | some false=>Res.nx ρ | some true=>(match b ρ with | .nx ρ'=>whN c b n ρ' | .ct ρ'=>whN c b n ρ' | .bk ρ'=>.nx ρ' | .rt d=>.rt d | .no=>.no) | none=>.no):=rfl
      rw [un,ec]
      cases x with
      | false=>exact ⟨.nx ρ,rfl,(fun z=>by cases z),hf rfl⟩
      | true =>
        have w:=ht rfl
        unfold Wp at w
        have step:∀ ρ',(∃ m,m<n∧I m ρ')→∃ r,whN c b n ρ'=r∧r≠.no∧(match r with | .nx ρ'=>W.nx ρ' | .rt d=>W.rt d | .bk ρ'=>W.bk ρ' | .ct ρ'=>W.ct ρ' | .no=>False):=by
          rintro ρ' ⟨m,hm,hI'⟩
          obtain ⟨r,e,hr,q⟩:=ih m hm ρ' hI'
          refine ⟨r,?_,hr,q⟩
          obtain ⟨k,rfl⟩:∃ k,n=m+1+k:=⟨n-m-1,by omega⟩
          rw [zmd (by rw [e]; exact hr),e]
        cases eb:b ρ with
        | nx ρ'=>rw [eb] at w; exact step ρ' w
        | ct ρ'=>rw [eb] at w; exact step ρ' w
        | bk ρ'=>rw [eb] at w; exact ⟨.nx ρ',rfl,(fun z=>by cases z),w⟩
        | rt d=>rw [eb] at w; exact ⟨.rt d,rfl,(fun z=>by cases z),w⟩
        | no=>rw [eb] at w; exact w.elim
  obtain ⟨r,e,hr,q⟩:=key n ρ h0
  unfold Wp
  rw [sWhile_of e hr]
  exact q
end
section
variable {ρ:Rho} {a b c:DE} {i j k:Int} {d e:D} {es:Rho→Option (List D)} {ds:List D}
theorem zcg (ha:a ρ=some (.int i)) (hb:b ρ=some (.int j)):dAdd a b ρ=some (.int (i+j)):=by unfold dAdd dII; rw [ha,hb]
theorem zgg (ha:a ρ=some (.int i)) (hb:b ρ=some (.int j)):dSub a b ρ=some (.int (i-j)):=by unfold dSub dII; rw [ha,hb]
theorem zif (ha:a ρ=some (.int i)) (hb:b ρ=some (.int j)) (h:IntMulOk i j):dMul a b ρ=some (.int (i*j)):=by unfold dMul dII; rw [ha,hb]; exact zly h
theorem zli (ha:a ρ=some (.int i)) (hb:b ρ=some (.int j)) (h:0<j∧j.natAbs.log2<9000):zm2 a b ρ=some (.int (i / j)):=by unfold zm2 dII; rw [ha,hb]; exact zly (C:=fun _ j=>0<j∧j.natAbs.log2<9000) h
theorem zcw (ha:a ρ=some (.int i)) (hb:b ρ=some (.int j)) (h:0<j):dMod a b ρ=some (.int (i % j)):=by unfold dMod dII; rw [ha,hb]; exact zly (C:=fun _ j=>0<j) h
theorem ev_pow (ha:a ρ=some (.int i)) (hb:b ρ=some (.int j)) (h:CPow i j):dPow a b ρ=some (.int (i ^ j.toNat)):=by unfold dPow dII; rw [ha,hb]; exact zly h
theorem ev_lt (ha:a ρ=some (.int i)) (hb:b ρ=some (.int j)):dLt a b ρ=some (.bl (decide (i<j))):=by unfold dLt dII; rw [ha,hb]
theorem ev_le (ha:a ρ=some (.int i)) (hb:b ρ=some (.int j)):dLe a b ρ=some (.bl (decide (i≤j))):=by unfold dLe dII; rw [ha,hb]
theorem ev_gt (ha:a ρ=some (.int i)) (hb:b ρ=some (.int j)):dGt a b ρ=some (.bl (decide (j<i))):=by unfold dGt dII; rw [ha,hb]
theorem ev_ge (ha:a ρ=some (.int i)) (hb:b ρ=some (.int j)):dGe a b ρ=some (.bl (decide (j≤i))):=by unfold dGe dII; rw [ha,hb]
theorem zfi (ha:a ρ=some (.int i)):dNeg a ρ=some (.int (-i)):=by unfold dNeg; rw [ha]
theorem ev_chain {p q:Int→Int→Bool} (ha:a ρ=some (.int i)) (hb:b ρ=some (.int j)) (hc:c ρ=some (.int k)):ze1 p q a b c ρ=some (.bl (p i j&&q j k)):=by
  unfold ze1; rw [ha,hb]; dsimp only
  cases e:p i j
  · rfl
  · rw [if_pos rfl,hc]; rfl
theorem ev_max2 (ha:a ρ=some (.int i)) (hb:b ρ=some (.int j)):zkx a b ρ=some (.int (max i j)):=by
  have e:(if j > i then j else i)=max i j:=by split <;> omega
  unfold zkx dII; rw [ha,hb,← e]
theorem ev_min2 (ha:a ρ=some (.int i)) (hb:b ρ=some (.int j)):zm1 a b ρ=some (.int (min i j)):=by
  have e:(if j<i then j else i)=min i j:=by split <;> omega
  unfold zm1 dII; rw [ha,hb,← e]
theorem ev_t {x:Bool} (ha:a ρ=some (.bl x)):dT a ρ=some x:=by unfold dT; rw [ha]
theorem ev_tru {x:Bool} (ha:a ρ=some d) (h:truD d=some x):dTru a ρ=some x:=by unfold dTru; rw [ha]; exact h
theorem ev_not {p:Rho→Option Bool} {x:Bool} (ha:p ρ=some x):dNot p ρ=some (!x):=by unfold dNot; rw [ha]
theorem ev_and {p q:Rho→Option Bool} {x y:Bool} (ha:p ρ=some x) (hb:x=true→q ρ=some y):dAnd p q ρ=some (x&&y):=by
  unfold dAnd; rw [ha]; cases x
  · rfl
  · rw [hb rfl]; rfl
theorem ev_or {p q:Rho→Option Bool} {x y:Bool} (ha:p ρ=some x) (hb:x=false→q ρ=some y):dOr p q ρ=some (x || y):=by
  unfold dOr; rw [ha]; cases x
  · rw [hb rfl]; rfl
  · rfl
theorem ev_andV {x y:Bool} (ha:a ρ=some (.bl x)) (hb:x=true→b ρ=some (.bl y)):zfq a b ρ=some (.bl (x&&y)):=by
  unfold zfq; rw [ha]; cases x
  · rfl
  · rw [hb rfl]; rfl
theorem zmt {x y:Bool} (ha:a ρ=some (.bl x)) (hb:x=false→b ρ=some (.bl y)):dOrV a b ρ=some (.bl (x || y)):=by
  unfold dOrV; rw [ha]; cases x
  · rw [hb rfl]; rfl
  · rfl
theorem zlg {x:Bool} (ha:a ρ=some (.bl x)):zmv a ρ=some (.bl (!x)):=by unfold zmv; rw [ha]
theorem zfp (ha:a ρ=some d) (h:d.scal=true):zjf a ρ=some d:=by unfold zjf; rw [ha]; exact if_pos h
theorem ev_lst (h:es ρ=some ds):dLst es ρ=some (.lst ds):=by unfold dLst; rw [h]; rfl
theorem zms (h:es ρ=some ds):dTup es ρ=some (.tup ds):=by unfold dTup; rw [h]; rfl
theorem ev_cons (h:a ρ=some d) (h2:es ρ=some ds):zag a es ρ=some (d::ds):=by unfold zag; rw [h,h2]
theorem ev_ix (ha:a ρ=some d) (hb:b ρ=some (.int i)) (h:ixD d i=some e):dIx a b ρ=some e:=by unfold dIx; rw [ha,hb]; exact h
theorem ev_f1 {g:D→Option D} (ha:a ρ=some d) (h:g d=some e):dF1 g a ρ=some e:=by unfold dF1; rw [ha]; exact h
theorem ev_call {F:List D→Option D} (h:es ρ=some ds) (h2:F ds=some d):za8 F es ρ=some d:=by unfold za8; rw [h]; exact h2
theorem ev_eq {neg:Bool} (ha:a ρ=some d) (hb:b ρ=some e) (h:cmpb 20 d e=true):dEq neg a b ρ=some (.bl (if neg=true then !decide (d=e) else decide (d=e))):=by unfold dEq; rw [ha,hb]; exact if_pos h
theorem ev_eqI {neg:Bool} (ha:a ρ=some (.int i)) (hb:b ρ=some (.int j)):dEq neg a b ρ=some (.bl (if neg=true then !decide (i=j) else decide (i=j))):=by
  rw [ev_eq ha hb rfl]
  have e:decide (D.int i=D.int j)=decide (i=j):=by rw [zji]; rw [Bool.eq_iff_iff]; simp
  rw [e]
theorem ev_eqF (ha:a ρ=some (.int i)) (hb:b ρ=some (.int j)):dEq false a b ρ=some (.bl (decide (i=j))):=ev_eqI (neg:=false) ha hb
theorem zjg (ha:a ρ=some (.int i)) (hb:b ρ=some (.int j)):dEq true a b ρ=some (.bl (decide (i≠j))):=by
  rw [ev_eqI (neg:=true) ha hb,if_pos rfl]
  congr 2
  rw [Bool.eq_iff_iff]
  simp
theorem cmp_ints {n:Nat} (xs ys:List Int):cmpb (n+1) (.lst (xs.map D.int)) (.lst (ys.map D.int))=true:=by
  show (decide _ || (List.zip (xs.map D.int) (ys.map D.int)).all fun p=>cmpb n p.1 p.2)=true
  rw [Bool.or_eq_true]
  refine .inr (List.all_eq_true.mpr fun q hq=>?_)
  obtain ⟨a,b⟩:=q
  obtain ⟨h1,h2⟩:=List.of_mem_zip hq
  obtain ⟨x,_,rfl⟩:=List.mem_map.mp h1
  obtain ⟨y,_,rfl⟩:=List.mem_map.mp h2
  cases n <;> rfl
theorem ev_asL (ha:a ρ=some d) (h:lof d=some ds):asL a ρ=some ds:=by unfold asL; rw [ha]; exact h
theorem zkv (ha:a ρ=some (.int i)) (h:-(2 ^ 62)≤i∧i.toNat≤sizeLine):dRg1 a ρ=some (upL 0 i.toNat):=by unfold dRg1; rw [ha]; exact if_pos h
theorem ev_rep (h:es ρ=some ds) (hb:b ρ=some (.int i)) (hc:-(2 ^ 63)≤i∧i<2 ^ 63∧ds.length*i.toNat≤sizeLine):dRep es b ρ=some (List.replicate i.toNat ds).flatten:=by unfold dRep; rw [h,hb]; exact if_pos hc
theorem zku {lo hi:Rho→Option (Option Int)} {l u:Option Int} (h:asL a ρ=some ds) (h1:lo ρ=some l) (h2:hi ρ=some u):dSl a lo hi ρ=some (cutL ds l u):=by unfold dSl; rw [h,h1,h2]
theorem ev_flat (h:es ρ=some ds) (hf:zf9 ds=true):zl8 es ρ=some ds:=by unfold zl8; rw [h]; exact if_pos hf
theorem zmu (h:a ρ=some d) (hl:lof d=some ds):dLof a ρ=some ds:=by
  unfold dLof; rw [h]
  cases d with
  | lst xs=>exact hl
  | scr ns=>exact hl
  | _=>cases hl
theorem zig {xs ys:List D} (ha:a ρ=some (.lst xs)) (hb:b ρ=some (.lst ys)) (h:xs.length+ys.length≤sizeLine):dCat a b ρ=some (xs++ys):=by unfold dCat; rw [ha,hb]; exact if_pos h
theorem zds (ha:a ρ=some (.int i)):zdt a ρ=some (some i):=by unfold zdt; rw [ha]
theorem run_of {n:Nat} {ms:List Bool} {b:DS} {ds:List D} {P:D→Prop} (h:Wp b (stD n ms ds) { nx:=fun _=>P .non,rt:=P }):∃ d,runD n ms b ds=some d∧P d:=by
  unfold Wp at h
  unfold runD
  cases e:b (stD n ms ds) with
  | nx ρ=>rw [e] at h; exact ⟨_,rfl,h⟩
  | rt d=>rw [e] at h; exact ⟨_,rfl,h⟩
  | bk ρ=>rw [e] at h; exact h.elim
  | ct ρ=>rw [e] at h; exact h.elim
  | no=>rw [e] at h; exact h.elim
theorem run_eq {n:Nat} {ms:List Bool} {b:DS} {ds:List D} {d:D} (h:Wp b (stD n ms ds) { nx:=fun _=>D.non=d,rt:=fun x=>x=d }):runD n ms b ds=some d:=by
  obtain ⟨x,e,rfl⟩:=run_of (P:=fun x=>x=d) h
  exact e
theorem zeq {F:List D→Option D} {n:Nat} {ms:List Bool} {b:DS} (hF:F=runD n ms b) {ds:List D} {P:D→Prop} (h:Wp b (stD n ms ds) { nx:=fun _=>P .non,rt:=P }):∃ d,F ds=some d∧P d:=by rw [hF]; exact run_of h
theorem run_eqF {F:List D→Option D} {n:Nat} {ms:List Bool} {b:DS} (hF:F=runD n ms b) {ds:List D} {d:D} (h:Wp b (stD n ms ds) { nx:=fun _=>D.non=d,rt:=fun x=>x=d }):F ds=some d:=by rw [hF]; exact run_eq h
theorem imul {i j:Int} (h:(-(2 ^ 64)<i∧i<2 ^ 64)∨(-(2 ^ 64)<j∧j<2 ^ 64)):IntMulOk i j:=CMul.ok h
theorem ixI {ns:List Int} {i:Int} (h0:0≤i) (h1:i<ns.length):ixD (.lst (ns.map D.int)) i=some (.int (ns.getD i.toNat 0)):=by
  show atI (ns.map D.int) i=_
  unfold atI ixN
  rw [if_pos h0,List.length_map,if_pos h1]
  show (ns.map D.int)[i.toNat]?=_
  have hi:i.toNat<ns.length:=by omega
  rw [List.getElem?_map,List.getElem?_eq_getElem hi,List.getD_eq_getElem?_getD,List.getElem?_eq_getElem hi]
  rfl
theorem zjz {n:Nat} {i:Int} (h0:0≤i) (h1:i<n):ixN n i=some i.toNat:=by unfold ixN; rw [if_pos h0,if_pos h1]
end
end
end VL
namespace L2
open PySem PySem.Spec PyProof.Rows
section
variable {prog:Program} {w:World} {A:Around} {R:Result→Shared→Prop} {I:Addr} {fp wr:List Addr} {n:Nat} {P:Nat→Value→Prop} {St:Nat→Heap→Prop} {kw:List (Str×Value)}
end
section
variable {prog:Program} {w:World} {A:Around} {E:Value→Shared→Prop} {s:Shared}
end
section
variable {X:Cx}
end
section
variable {X:Cx} {K:PySem.W.Frag}
end
end L2
namespace VL
open PySem L2
open Classical
noncomputable section
section
variable [Tabs] {K:PySem.W.Frag} {ta tb tc:TE} {a b c:DE}
theorem fdok {j:Int} (h0:0<j) (h1:j<2 ^ 64):0<j∧j.natAbs.log2<9000:=by
  refine ⟨h0,(Nat.log2_lt (by omega)).mpr (Nat.lt_of_lt_of_le (m:=2 ^ 64) (by omega) (Nat.pow_le_pow_right (by decide) (by decide)))⟩
theorem ev_compA {α:Type} {ρ:Rho} {k:Nat} {cs:List Nat} {it:Rho→Option (List D)} {g:DG} {t:Rho→Option Bool} {el:DE} (emb:α→D) {xs:List α} (h:it ρ=some (xs.map emb)) (p:α→Bool) (f:α→D)
    (hs:∀ x∈xs,∃ ρ1,g (emb x) (r0 k cs ρ)=some ρ1∧t ρ1=some (p x)∧(p x=true→el ρ1=some (f x))):zdb k cs it g t el ρ=some ((xs.filter p).map f):=by
  unfold zdb
  rw [h]
  dsimp only
  clear h
  induction xs with
  | nil=>rfl
  | cons x r ih =>
    obtain ⟨ρ1,e1,e2,e3⟩:=hs x List.mem_cons_self
    have ih:=ih fun d hd=>hs d (List.mem_cons_of_mem _ hd)
    rw [List.map_cons]
    unfold zj1
    rw [e1]
    dsimp only
    rw [e2]
    cases hp:p x with
    | false =>
      dsimp only
      rw [ih,List.filter_cons_of_neg (by simp [hp])]
    | true =>
      dsimp only
      rw [e3 hp,ih,List.filter_cons_of_pos hp]
      rfl
theorem ev_compA0 {α:Type} {ρ:Rho} {k:Nat} {cs:List Nat} {it:Rho→Option (List D)} {g:DG} {el:DE} (emb:α→D) {xs:List α} (h:it ρ=some (xs.map emb)) (f:α→D)
    (hs:∀ x∈xs,∃ ρ1,g (emb x) (r0 k cs ρ)=some ρ1∧el ρ1=some (f x)):zdb k cs it g zdd el ρ=some (xs.map f):=by
  have:=ev_compA (ρ:=ρ) (k:=k) (cs:=cs) (it:=it) (g:=g) (t:=zdd) (el:=el) emb h (fun _=>true) f fun d hd=>let ⟨ρ1,e1,e2⟩:=hs d hd; ⟨ρ1,e1,rfl,fun _=>e2⟩
  rw [this,List.filter_eq_self.mpr fun _ _=>rfl]
end
end
end VL
namespace L2
end L2
namespace L2
open PySem PySem.Spec PyProof.Rows
open VL (s0)
theorem newEnv_around {M:Model} {A:Around} {E:Value→Shared→Prop} {s:Shared} {scope:Scope} {globals:Addr} {cl:List (Str×Addr)} {qual:Str} {outer:Env} {Q:Env→Shared→Prop}
    (hQ:Q { scope,locals:=s.heap.objs.size,globals,cells:=cellsFrom (s.heap.objs.size+1) scope.names cl,qual,func:=none,code:=outer.code,frame:=outer.frame,builtins:=outer.builtins } { s with heap:=pushCells (s.heap.push { cls:=.type "dict", data:=.dict #[] }) scope.names }) :
    wpAny M A (newFunctionEnv scope globals cl [] qual none .none (some outer)) Q E s:=by
  simp only [newFunctionEnv,Option.isSome_some,if_true]
  refine wpAny_bind (wpAny_alloc ?_)
  refine wpAny_bind (wpAny_layCells _ (fun name kind cells=>by cases hkc:kind==NameKind.cell <;> simp [hkc]) _ _ _ _ ?_)
  rw [show ({ s with heap:=s.heap.push { cls:=.type "dict", data:=.dict #[] } }:Shared).heap.objs.size=s.heap.objs.size+1 from Heap.size_push ..]
  rw [List.forIn_nil]
  exact wpAny_bind (wpAny_pure (wpAny_pure hQ))
theorem zhg:∀ (names:List (Str×NameKind)) (h:Heap) (acc:List (Str×Addr)) (x:Str) (c:Addr),(cellsFrom h.objs.size names acc).lookup x=some c→((pushCells h names).IsCell c none∧h.objs.size≤c)∨acc.lookup x=some c
  | [],_,_,_,_,e=>.inr e
  | (name,kind)::r,h,acc,x,c,e=>by
    unfold cellsFrom at e
    unfold pushCells
    split at e
    · rename_i hk
      rw [if_pos hk]
      rcases zhg r (h.push { cls:=.type "cell", data:=.cell none }) ((name,h.objs.size)::acc) x c (by rw [Heap.size_push]; exact e) with ⟨q1,q2⟩ | q
      · rw [Heap.size_push] at q2
        exact .inl ⟨q1,by omega⟩
      · rw [List.lookup_cons] at q
        cases hb:x==name with
        | true =>
          rw [hb] at q
          cases q
          exact .inl ⟨⟨_,pushCells_keeps _ _ _ _ (Heap.get?_push_size _ rfl),rfl⟩,Nat.le_refl _⟩
        | false=>rw [hb] at q; exact .inr q
    · rename_i hk
      rw [if_neg hk]
      exact zhg r h acc x c e
theorem cells_inj:∀ (names:List (Str×NameKind)) (n:Nat) (acc:List (Str×Addr)),(∀ x y c,acc.lookup x=some c→acc.lookup y=some c→x=y)→(∀ x c,acc.lookup x=some c→c<n)→∀ x y c,(cellsFrom n names acc).lookup x=some c→(cellsFrom n names acc).lookup y=some c→x=y
  | [],_,_,hi,_=>hi
  | (name,kind)::r,n,acc,hi,hb=>by
    unfold cellsFrom
    split
    · refine cells_inj r (n+1) ((name,n)::acc) (fun x y c h1 h2=>?_) fun x c h=>?_
      · rw [List.lookup_cons] at h1 h2
        cases e1:x==name with
        | true =>
          cases e2:y==name with
          | true=>rw [eq_of_beq e1,eq_of_beq e2]
          | false =>
            rw [e1] at h1; rw [e2] at h2
            cases h1
            exact absurd (hb _ _ h2) (Nat.lt_irrefl _)
        | false =>
          cases e2:y==name with
          | true =>
            rw [e1] at h1; rw [e2] at h2
            cases h2
            exact absurd (hb _ _ h1) (Nat.lt_irrefl _)
          | false=>rw [e1] at h1; rw [e2] at h2; exact hi x y c h1 h2
      · rw [List.lookup_cons] at h
        cases e1:x==name with
        | true=>rw [e1] at h; cases h; exact Nat.lt_succ_self _
        | false=>rw [e1] at h; exact Nat.lt_succ_of_lt (hb _ _ h)
    · exact cells_inj r n acc hi hb
theorem zjk:∀ (names:List (Str×NameKind)) (n:Nat) (acc:List (Str×Addr)) (x:Str),(names.all fun y=>!(y.2==.cell) || !(y.1==x))=true→(cellsFrom n names acc).lookup x=acc.lookup x
  | [],_,_,_,_=>rfl
  | (name,kind)::r,n,acc,x,h=>by
    have h:((!(kind==.cell) || !(name==x))&&r.all fun y=>!(y.2==.cell) || !(y.1==x))=true:=h
    obtain ⟨h1,h2⟩:=(Bool.and_eq_true _ _).mp h
    unfold cellsFrom
    split
    · rename_i hk
      rw [zjk r _ _ x h2,List.lookup_cons]
      have:(x==name)=false:=by
        rw [hk] at h1
        have h1:(name==x)=false:=by simpa using h1
        rw [beq_eq_false_iff_ne] at h1 ⊢
        exact fun z=>h1 z.symm
      rw [this]
    · exact zjk r _ _ x h2
def compCxC (X:Cx) (N':List Str) (scope:Scope) (cl:List (Str×Addr)) (C:Addr) (s3:Shared) (H3:Hp) (fp:List Addr) (pins:List (Addr×Obj)):Cx :=
  { X with N:=N',s₀:=s3,H₀:=H3,env:=compEnvC scope (cellsFrom (C+1) scope.names cl) C X.env,outer:=X.stack,stack:=X.stack,ex:=fp,fn:=fun x=>scope.names.lookup x==some .cell,pn:=X.pn++pins,xe:=fun _ _=>False }
structure FreesC (X:Cx) (N':List Str) (scope:Scope) (cl:List (Str×Addr)) (σ σ0:St):Prop where
  sub:∀ x c,cl.lookup x=some c→X.env.cells.lookup x=some c
  vals:∀ (j:Nat) (x:Str) (v:V),N'[j]?=some x→σ0[j]?=some (some v)→∃ (i:Nat) (c:Addr),X.N[i]?=some x∧σ[i]?=some (some v)∧Vis X.env.scope x∧X.env.kindOf x≠some .local∧cl.lookup x=some c ∧
    ((relabel scope X.env).names.lookup x=some .cell∨(relabel scope X.env).names.lookup x=some .free)
  vout:∀ (j:Nat) (x:Str) (v:V),N'[j]?=some x→σ0[j]?=some (some v)→(scope.names.all fun y=>!(y.2==.cell) || !(y.1==x))=true
  has:∀ x,((relabel scope X.env).names.lookup x=some .cell∨(relabel scope X.env).names.lookup x=some .free)→scope.names.lookup x=some .cell∨(cl.lookup x).isSome=true
  out:∀ x c,(scope.names.lookup x==some .cell)=true→¬ cl.lookup x=some c
  len:σ0.length=N'.length
section
variable {X:Cx} {tg elt iter:Expr} {ifs:List Expr} {scope:Scope} {cl:List (Str×Addr)} {N':List Str} {σ0:St→St} {g:TG} {tt:TT} {te:TE}
theorem comp_blockC {pos:Pos} {pins:List (Addr×Obj)} {σ:St} {H1:Hp} {s2:Shared} {it:Addr} {fp:List Addr} {tn:Nat→Heap→Prop} {J:It} {Q:VK} {RR:Value→Addr→Result→Shared→Prop}
    (hc:X.calm=true) (hkind:scope.kind=.function)
    (I:Inv X pins σ H1 s2) (T:Turn X.prog X.w X.K tg J fp it tn) (st:tn 0 s2.heap) (hfp:∀ b∈fp,FpOk X pins H1 b) (fr:FreesC X N' scope cl σ (σ0 σ)) (hk:zlo g (σ0 σ))
    (hg:∀ C s3 H3 fp pins,PG (compCxC X N' scope cl C s3 H3 fp pins) tg g)
    (ht:∀ C s3 H3 fp pins (pl:List (Addr×Obj)) (s:Shared) (σ:St) (H:Hp) (Q:Bool→Hp→Prop),Inv (compCxC X N' scope cl C s3 H3 fp pins) pl σ H s→tt σ H Q →
      wpAny (model X.prog X.w) X.A (forIn ifs true fun c r=>if r=true then do let ok ← isTrue c (compEnvC scope (cellsFrom (C+1) scope.names cl) C X.env) (eval c (compEnvC scope (cellsFrom (C+1) scope.names cl) C X.env)); pure (ForInStep.yield ok) else pure (ForInStep.yield r)) (TP (compCxC X N' scope cl C s3 H3 fp pins) pl σ Q) (fun _ _=>False) s)
    (he:∀ C s3 H3 fp pins,PE (compCxC X N' scope cl C s3 H3 fp pins) elt te) (hw:znc J g tt te (σ0 σ) H1 Q)
    (hRR:∀ D C s' H' m,Inv X pins σ H' s'→s'.heap.Ns C m→H' C=none→C≠X.env.locals→X.s₀.heap.objs.size≤C→(∀ x c,X.env.cells.lookup x=some c→c≠C)→(∀ p∈X.pn++pins,p.1≠C)→Q (.ref D) H'→RR (.ref D) C (.ok .next) s') :
    wpAny (model X.prog X.w) X.A (newList []) (fun acc s₃=>wpAny (model X.prog X.w) X.A (newFunctionEnv scope X.env.globals cl [] X.env.qual none .none (some X.env)) (fun cenv s₄ =>
      codeAny (model X.prog X.w) X.A (.compStart (.ListComp elt [⟨tg,iter,ifs,0⟩] scope pos) 0 (.ref it) acc { cenv with scope:=relabel scope X.env }) (RR acc cenv.locals) s₄) X.xe s₃) X.xe s2:=by
  refine wpAny_newObj_type (hd:=by size_fits) (newEnv_around ?_)
  dsimp only
  have I3:Inv X pins σ (upd H1 s2.heap.objs.size (.lst [])) { s2 with heap:=s2.heap.push { cls:=.type "list", dict:=none,data:=.seq ([]:List Value).toArray } }:=I.lnew (t':=s2.toks) (its:=[]) (ys:=[]) .nil (Nat.zero_le _)
  obtain ⟨W,⟨m0,w0⟩,turn⟩:=hw s2.heap.objs.size I.fresh
  have hfpo:=T.obj 0 _ st
  have fpl:∀ b∈fp,b<s2.heap.objs.size:=fun b hb=>by
    obtain ⟨o,e,_⟩:=hfpo b hb
    exact Heap.lt_size e
  have fD:∀ b∈fp,upd H1 s2.heap.objs.size (.lst []) b=none:=fun b hb=>by
    rw [upd_ne (Nat.ne_of_lt (fpl b hb))]
    exact (hfp b hb).1
  generalize hs3:({ s2 with heap:=s2.heap.push { cls:=.type "list", dict:=none,data:=.seq ([]:List Value).toArray } }:Shared)=s3 at I3
  have es3:s3.heap=s2.heap.push { cls:=.type "list", dict:=none,data:=.seq ([]:List Value).toArray }:=by rw [← hs3]
  have st3:tn 0 s3.heap:=T.keep _ _ _ st fun b hb o e=>by rw [es3]; exact Heap.get?_push_of_some _ e
  rw [← es3]
  have sz3:s2.heap.objs.size<s3.heap.objs.size:=by rw [es3,Heap.size_push]; exact Nat.lt_succ_self _
  generalize upd H1 s2.heap.objs.size (.lst [])=H3 at I3 fD w0
  have hns₁:(pushCells (s3.heap.push { cls:=.type "dict", data:=.dict #[] }) scope.names).Ns s3.heap.objs.size (fun _=>none):=(Heap.Ns.new s3.heap (.type "dict")).keeps (pushCells_keeps _ _)
  have old:∀ b o,s3.heap.get? b=some o→(pushCells (s3.heap.push { cls:=.type "dict", data:=.dict #[] }) scope.names).get? b=some o:=fun b o e=>pushCells_keeps _ _ b o (Heap.get?_push_of_some _ e)
  have cnew:=fun x c (e:(cellsFrom (s3.heap.objs.size+1) scope.names cl).lookup x=some c)=>zhg scope.names (s3.heap.push { cls:=.type "dict", data:=.dict #[] }) cl x c (by rw [Heap.size_push]; exact e)
  rw [Heap.size_push] at cnew
  have below:∀ x c,cl.lookup x=some c→c<s3.heap.objs.size:=fun x c e=>by
    obtain ⟨v,o,ho,_⟩:=I3.cell x c (fr.sub x c e)
    exact Heap.lt_size ho
  generalize pushCells (s3.heap.push { cls:=.type "dict", data:=.dict #[] }) scope.names=h₁ at hns₁ old cnew
  have fpl3:∀ b∈fp,b<s3.heap.objs.size:=fun b hb=>Nat.lt_trans (fpl b hb) sz3
  have stk:∀ b∈fp,b∉frs X.stack:=fun b hb z=>by
    rcases List.mem_cons.mp (I3.stkSub b z) with e | e
    · exact (hfp b hb).2.1 e
    · exact (hfp b hb).2.2.1 e
  have ok:(compCxC X N' scope cl s3.heap.objs.size s3 H3 fp pins).Ok:=by
    refine ⟨I3.ok.mod,hkind,I3.ok.glob,I3.ok.blt,Nat.le_refl _,cells_inj scope.names _ cl (fun x y c h1 h2=>I3.ok.inj x y c (fr.sub x c h1) (fr.sub y c h2)) (fun x c e=>Nat.lt_succ_of_lt (below x c e)),fun x h=>?has,fun x c h e=>?cab,I3.ok.hd,I3.ok.frames,.inl rfl,
      fun b hb=>⟨Nat.ne_of_lt (fpl3 b hb),fun x c e=>?exf⟩,I3.bs,Nat.le_trans I3.ok.bsz I3.sz,fun b o e hb=>?noex,fun b hb=>stk b hb,I3.stack,I3.stkFree⟩
    case has=>exact Option.isSome_iff_exists.mp (PySem.W.cellsFrom_some scope.names _ cl (fr.has x h))
    case cab =>
      rcases cnew x c e with ⟨_,q⟩ | q
      · exact Nat.le_trans (Nat.le_succ _) q
      · exact absurd q (fr.out x c h)
    case exf =>
      rcases cnew x c e with ⟨_,q⟩ | q
      · intro z
        have l1:=fpl3 b hb
        rw [← z] at l1
        exact absurd (Nat.lt_of_lt_of_le l1 (Nat.le_trans (Nat.le_succ _) q)) (Nat.lt_irrefl _)
      · exact (hfp b hb).2.2.2.2.1 x c (fr.sub x c q)
    case noex =>
      rcases (hfp b hb).2.2.2.1 with z | z
      · exact I3.ok.noex b o e z
      · have l1:b<X.base.objs.size:=Heap.lt_size e
        have l2:X.base.objs.size≤X.s₀.heap.objs.size:=I3.ok.bsz
        have l3:X.s₀.heap.objs.size≤b:=z
        exact absurd (Nat.lt_of_lt_of_le l1 (Nat.le_trans l2 l3)) (Nat.lt_irrefl _)
  have lt3:X.env.locals<s3.heap.objs.size:=I3.lt
  have start:Inv (compCxC X N' scope cl s3.heap.objs.size s3 H3 fp pins) [] (σ0 σ) H3 { s3 with heap:=h₁ }:=by
    refine ⟨ok,rfl,I3.bare,Un.kept old,⟨_,hns₁,fun j x v e1 e2 _=>?_⟩,fun x c e=>?_,I3.hok.fresh (Nat.le_refl _),fun x c e=>?fc,fun p hp=>?_,I3.hok.kept old,fr.len⟩
    case fc =>
      rcases cnew x c e with ⟨_,q⟩ | q
      · exact I3.hok.fresh (by omega)
      · exact I3.freeC x c (fr.sub x c q)
    · obtain ⟨i,c,q1,q2,q3,q4,q5,q6⟩:=fr.vals j x v e1 e2
      obtain ⟨m,hn,hl⟩:=I3.loc
      obtain ⟨u,r,l⟩:=hl i x v q1 q2 q3
      refine ⟨u,r,.inr ⟨q6,c,(zjk scope.names _ cl x (fr.vout j x v e1 e2)).trans q5,?_⟩⟩
      rcases l with ⟨k,_⟩ | ⟨_,c',e',z⟩
      · exact absurd k q4
      · rw [fr.sub x c q5] at e'
        cases e'
        obtain ⟨o,ho,hd⟩:=z
        exact ⟨o,old _ _ ho,hd⟩
    · rcases cnew x c e with ⟨q,_⟩ | q
      · exact ⟨_,q⟩
      · obtain ⟨v,o,ho,hd⟩:=I3.cell x c (fr.sub x c q)
        exact ⟨v,o,old _ _ ho,hd⟩
    · have hp':p∈X.pn++pins:=by simpa [compCxC] using hp
      obtain ⟨e,n,ne,nf,d⟩:=I3.pin p hp'
      refine ⟨old _ _ e,n,Nat.ne_of_lt (Heap.lt_size e),fun z=>?_,d⟩
      rcases List.mem_cons.mp (I3.stkSub p.1 z) with q | q
      · exact ne q
      · exact nf q
  have hst₁:tn 0 h₁:=T.keep _ _ _ st3 fun b _ o e=>old b o e
  have fpok:∀ {H':Hp},(∀ b∈fp,H' b=none)→∀ b∈fp,FpOk (compCxC X N' scope cl s3.heap.objs.size s3 H3 fp pins) [] H' b:=fun {H'} hn b hb =>
    ⟨hn b hb,Nat.ne_of_lt (fpl3 b hb),stk b hb,.inl hb,fun x c e=>by
      rcases cnew x c e with ⟨_,q⟩ | q
      · intro z
        have l1:=fpl3 b hb
        rw [← z] at l1
        exact absurd (Nat.lt_of_lt_of_le l1 (Nat.le_trans (Nat.le_succ _) q)) (Nat.lt_irrefl _)
      · exact (hfp b hb).2.2.2.2.1 x c (fr.sub x c q),fun p hp=>(hfp b hb).2.2.2.2.2 p (by simpa [compCxC] using hp)⟩
  have loop:codeAny (model X.prog X.w) X.A (.compLoop (.ListComp elt [⟨tg,iter,ifs,0⟩] scope pos) 0 (.ref it) (.ref s2.heap.objs.size) (compEnvC scope (cellsFrom (s3.heap.objs.size+1) scope.names cl) s3.heap.objs.size X.env)) (RR (.ref s2.heap.objs.size) s3.heap.objs.size) { s3 with heap:=h₁ }:=by
    refine compLoop_gen (fun n s'=>∃ i ys H',Inv (compCxC X N' scope cl s3.heap.objs.size s3 H3 fp pins) [] (σ0 σ) H' s'∧tn i s'.heap∧(∀ b∈fp,H' b=none)∧W i n ys H') ?_ m0 ⟨0,[],H3,start,hst₁,fD,w0⟩
    rintro n s4 ⟨i,ys,H4,I4,st4,fr4,w4⟩
    rcases turn i n ys H4 w4 with ⟨stop,eD,q⟩ | ⟨go,step⟩
    · refine thn (T.done (compCxC X N' scope cl s3.heap.objs.size s3 H3 fp pins) rfl rfl rfl hc i [] s4 _ H4 _ I4 (fpok fr4) st4 stop) fun r s5 ⟨hr,I5⟩=>?_
      subst hr
      obtain ⟨m5,n5,_⟩:=I5.loc
      have J5:Inv X pins σ H4 s5:=I3.call' I5.os I5.base I5.hok I5.bare fun b hb=>⟨(hfp b hb).2.2.2.1,(hfp b hb).2.1,(hfp b hb).2.2.2.2.1,(hfp b hb).2.2.2.2.2⟩
      exact hRR _ _ s5 H4 m5 J5 n5 I5.free (Nat.ne_of_gt lt3) I3.sz (fun x c e z=>by
        obtain ⟨v,o,ho,_⟩:=I3.cell x c e
        exact absurd (Heap.lt_size ho) (by rw [z]; exact Nat.lt_irrefl _)) (fun p hp z=>by
        have e:=(I3.pin p hp).1
        exact absurd (Heap.lt_size e) (by rw [z]; exact Nat.lt_irrefl _)) q
    · refine thn (T.item (compCxC X N' scope cl s3.heap.objs.size s3 H3 fp pins) rfl rfl rfl hc i [] s4 _ H4 _ I4 (fpok fr4) st4 go) fun r s5 ⟨u,hr,h5⟩=>?_
      subst hr
      refine thn h5 fun _ s6 ⟨x,H6,I6,r6,y6,st6,fr6⟩=>?_
      have I6':=I6.pinned (fpok fr6) (T.obj _ _ st6)
      refine thn (hg _ _ _ _ _ _ s6 _ H6 x u _ I6' r6 (hk _ _ _ (step x H6 y6))) fun _ s7 ⟨σ7,H7,I7,q7,l7,k7⟩=>?_
      have again:∀ {s8:Shared} {H8:Hp} {m:Nat} {zs:List V},Inv (compCxC X N' scope cl s3.heap.objs.size s3 H3 fp pins) ([]++zi8 fp s6.heap) σ7 H8 s8→m<n→W (i+1) m zs H8 →
          ∃ m,m<n∧∃ i ys H',Inv (compCxC X N' scope cl s3.heap.objs.size s3 H3 fp pins) [] (σ0 σ) H' s8∧tn i s8.heap∧(∀ b∈fp,H' b=none)∧W i m ys H':=fun {s8 H8 m zs} I8 hm w8=>by
        refine ⟨m,hm,i+1,zs,H8,(Inv.unpinned I8).weak l7.symm k7,T.keep _ _ _ st6 fun b hb o e=>(I8.pin (b,o) (List.mem_append_right _ (List.mem_append_right _ (zdm hb e)))).1,fun b hb=>?_,w8⟩
        obtain ⟨o,e,d⟩:=T.obj _ _ st6 b hb
        exact (I8.pin (b,o) (List.mem_append_right _ (List.mem_append_right _ (zdm hb e)))).2.1
      refine thn (ht _ _ _ _ _ _ s7 σ7 H7 _ I7 q7) fun c s8 ⟨H8,I8,q8⟩=>?_
      cases c with
      | false =>
        rw [if_neg Bool.false_ne_true] at q8 ⊢
        obtain ⟨m',hm,w8⟩:=q8
        exact again I8 hm w8
      | true =>
        rw [if_pos rfl] at q8 ⊢
        refine thn (he _ _ _ _ _ _ s8 σ7 H8 _ I8 q8) fun v s9 ⟨y,H9,I9,r9,e9,z9,m',hm,w9⟩=>?_
        exact thn (zbz _ s9 σ7 H9 (.ref s2.heap.objs.size) [y] (.ref s2.heap.objs.size) [v] (fun _ H'=>H'=upd H9 s2.heap.objs.size (.lst (ys++[y]))) I9 rfl (.cons r9 .nil) ⟨_,ys,y,rfl,rfl,e9,z9,rfl⟩)
          fun _ s10 ⟨_,H10,I10,_,e10⟩=>by subst e10; exact again I10 hm w9
  subst hs3
  exact codeAny_compStart_list loop (T.self _ 0 _ _ _ hst₁ loop)
variable {pos:Pos} {wi:TI}
theorem pe_compGC (hc:X.calm=true) (hi:PI X tg iter wi) (fr:∀ σ:St,σ.length=X.N.length→FreesC X N' scope cl σ (σ0 σ)) (hk:∀ σ,zlo g (σ0 σ))
    (hg:∀ C s3 H3 fp pins,PG (compCxC X N' scope cl C s3 H3 fp pins) tg g)
    (ht:∀ C s3 H3 fp pins (pl:List (Addr×Obj)) (s:Shared) (σ:St) (H:Hp) (Q:Bool→Hp→Prop),Inv (compCxC X N' scope cl C s3 H3 fp pins) pl σ H s→tt σ H Q →
      wpAny (model X.prog X.w) X.A (forIn ifs true fun c r=>if r=true then do let ok ← isTrue c (compEnvC scope (cellsFrom (C+1) scope.names cl) C X.env) (eval c (compEnvC scope (cellsFrom (C+1) scope.names cl) C X.env)); pure (ForInStep.yield ok) else pure (ForInStep.yield r)) (TP (compCxC X N' scope cl C s3 H3 fp pins) pl σ Q) (fun _ _=>False) s)
    (he:∀ C s3 H3 fp pins,PE (compCxC X N' scope cl C s3 H3 fp pins) elt te)
    (hclos:closureFor scope X.env=pure cl) (hkind:scope.kind=.function) (hnames:∀ y∈scope.names,y.2=.local→scope.names.lookup y.1=some .local)
    (hs:∀ x,foldedSetIterable iter X.env x=pure x):PE X (.ListComp elt [⟨tg,iter,ifs,0⟩] scope pos) (zjn wi g tt te σ0):=by
  intro pins s σ H Q I h
  rw [eval_ListComp]
  refine wpAny_comprehension_free (use:=none) rfl hs hclos hkind hnames (thn (hi pins s σ H _ I h) fun v s1 h1=>thn h1 fun itv s2 h2=>?_)
  obtain ⟨it,fp,tn,J,H2,e,I2,T,st2,f2,q⟩:=h2
  subst e
  refine comp_blockC (RR:=fun acc C=>compPost (model X.prog X.w) X.A X.xe none (EP X pins σ Q) acc C) hc hkind I2 T st2 f2 (fr σ I.len) (hk σ) hg ht he q ?_
  intro D C s' H' m I' hn hC h1 h2 h3 h4 q'
  refine ⟨m,hn,fun h'' hs''=>⟨.ref D,H',?_,rfl,q'⟩⟩
  exact I'.turned (t':=s'.toks) (fun b o hb e=>hs''.extBut b o hb e) hC h1 (.inr h2) h3 h4
theorem FreesC.many {is:List Nat} {ts zs:List Str} {k:Nat} {σ:St} (hk:ts.length=k) (hs:SubL X cl) (hc:CapL X scope cl is zs)
    (ha:((relabel scope X.env).names.all fun y=>!(y.2==.cell || y.2==.free) || zs.contains y.1 || (scope.names.lookup y.1==some .cell))=true)
    (ho:(zs.all fun z=>scope.names.all fun y=>!(y.2==.cell) || !(y.1==z))=true) (hcl:(scope.names.all fun y=>!(y.2==.cell) || (cl.lookup y.1).isNone)=true):FreesC X (ts++zs) scope cl σ (s0 k is σ):=by
  have vals:∀ (j:Nat) (x:Str) (v:V),(ts++zs)[j]?=some x→(s0 k is σ)[j]?=some (some v)→x∈zs∧∃ (i:Nat) (c:Addr),X.N[i]?=some x∧σ[i]?=some (some v)∧Vis X.env.scope x∧X.env.kindOf x≠some .local∧cl.lookup x=some c ∧
    ((relabel scope X.env).names.lookup x=some .cell∨(relabel scope X.env).names.lookup x=some .free):=fun j x v e1 e2=>by
    unfold s0 at e2
    by_cases hj:j<k
    · rw [List.getElem?_append_left (by simpa using hj),List.getElem?_replicate,if_pos hj] at e2; cases e2
    · rw [List.getElem?_append_right (by simpa using hj),List.length_replicate,List.getElem?_map] at e2
      rw [List.getElem?_append_right (by omega),hk] at e1
      obtain ⟨i,c,f1,f2,f3,f4,f5⟩:=hc.get _ _ e1
      rw [f1] at e2
      have e3:(σ[i]?).join=some v:=Option.some.inj e2
      refine ⟨List.mem_of_getElem? e1,i,c,f2,VL.join_some e3,?_,?_,f4,f5⟩
      · rcases f3 with q | q
        · exact .inr (.inl q)
        · exact .inr (.inr q)
      · intro w
        have w:X.env.scope.names.lookup x=some .local:=w
        rcases f3 with q | q <;> rw [q] at w <;> cases w
  refine ⟨hs.sub,fun j x v e1 e2=>(vals j x v e1 e2).2,fun j x v e1 e2=>List.all_eq_true.mp ho x (vals j x v e1 e2).1,fun x h=>?_,fun x c h e=>?_,by unfold s0; rw [List.length_append,List.length_append,List.length_replicate,List.length_map,hk,hc.len]⟩
  · have key:∀ kd,(relabel scope X.env).names.lookup x=some kd→(kd==NameKind.cell || kd==NameKind.free)=true→x∈zs∨scope.names.lookup x=some .cell:=fun kd e q=>by
      have m:=List.all_eq_true.mp ha _ (PySem.mem_of_lookup e)
      rw [q] at m
      have m':zs.contains x=true∨(scope.names.lookup x==some .cell)=true:=by simpa using m
      rcases m' with m' | m'
      · exact .inl (List.contains_iff_mem.mp m')
      · exact .inr (eq_of_beq m')
    have mem:x∈zs∨scope.names.lookup x=some .cell:=by
      rcases h with h | h
      · exact key _ h rfl
      · exact key _ h rfl
    rcases mem with mem | mem
    · obtain ⟨j,hj⟩:=List.getElem?_of_mem mem
      obtain ⟨i,c,_,_,_,f4,_⟩:=hc.get j x hj
      exact .inr (by rw [f4]; rfl)
    · exact .inl mem
  · have m:=List.all_eq_true.mp hcl _ (PySem.mem_of_lookup (eq_of_beq h))
    rw [e] at m
    simp at m
variable {c:Expr} {ts zs:List Str} {is:List Nat} {k:Nat}
theorem testsC0:∀ C s3 H3 fp pins (pl:List (Addr×Obj)) (s:Shared) (σ:St) (H:Hp) (Q:Bool→Hp→Prop),Inv (compCxC X N' scope cl C s3 H3 fp pins) pl σ H s→zl1 σ H Q →
    wpAny (model X.prog X.w) X.A (forIn ([]:List Expr) true fun c r=>if r=true then do let ok ← isTrue c (compEnvC scope (cellsFrom (C+1) scope.names cl) C X.env) (eval c (compEnvC scope (cellsFrom (C+1) scope.names cl) C X.env)); pure (ForInStep.yield ok) else pure (ForInStep.yield r)) (TP (compCxC X N' scope cl C s3 H3 fp pins) pl σ Q) (fun _ _=>False) s :=
  fun _ _ _ _ _ _ _ _ H _ I h=>wpAny_tests_nil ⟨H,I,h⟩
theorem pe_cM0 (hc:X.calm=true) (hi:PI X tg iter wi) (hk:ts.length=k) (hs:SubL X cl) (hcp:CapL X scope cl is zs) (ha:((relabel scope X.env).names.all fun y=>!(y.2==.cell || y.2==.free) || zs.contains y.1 || (scope.names.lookup y.1==some .cell))=true)
    (ho:(zs.all fun z=>scope.names.all fun y=>!(y.2==.cell) || !(y.1==z))=true) (hcl:(scope.names.all fun y=>!(y.2==.cell) || (cl.lookup y.1).isNone)=true) (hl:Low k g)
    (hg:∀ C s3 H3 fp pins,PG (compCxC X (ts++zs) scope cl C s3 H3 fp pins) tg g) (he:∀ C s3 H3 fp pins,PE (compCxC X (ts++zs) scope cl C s3 H3 fp pins) elt te)
    (hclos:closureFor scope X.env=pure cl) (hkind:scope.kind=.function) (hnames:∀ y∈scope.names,y.2=.local→scope.names.lookup y.1=some .local)
    (hf:∀ x,foldedSetIterable iter X.env x=pure x:=by intro _; rfl):PE X (.ListComp elt [⟨tg,iter,[],0⟩] scope pos) (zjn wi g zl1 te (s0 k is)) :=
  pe_compGC hc hi (fun _ _=>FreesC.many hk hs hcp ha ho hcl) (fun σ=>hl.keep σ) hg testsC0 he hclos hkind hnames hf
end
end L2
namespace L2
open PySem PySem.Spec PyProof.Rows
theorem pgbC {X:Cx} {N':List Str} {scope:Scope} {cl:List (Str×Addr)} {i:Nat} {y:Str} {py:Pos} {C:Addr} {s3:Shared} {H3:Hp} {fp:List Addr} {pins:List (Addr×Obj)} (nd:N'.Nodup) (hi:N'[i]?=some y)
    (hx:Loc (relabel scope X.env) y) (hf:(scope.names.lookup y==some .cell)=true∨(relabel scope X.env).names.lookup y=some .local):PG (compCxC X N' scope cl C s3 H3 fp pins) (.Name y py) (zjo i):=zb5 nd hi hx hf
end L2
namespace L2
open PySem PySem.Spec PyProof.Rows
theorem turn_pairs {P:Program} {w:World} {K:PySem.W.Frag} {elts:List Expr} {x1} {pos:Pos} {J:It} {fp wr:List Addr} {it:Addr} {tn:Nat→Heap→Prop} (hm:it∈fp) (hwr:∀ b∈wr,b∈fp)
    (ho:∀ i h,tn i h→∀ b∈fp,∃ o,h.get? b=some o∧∀ v,o.data≠.cell v) (hk:∀ i h h',tn i h→(∀ b∈fp,∀ o,h.get? b=some o→h'.get? b=some o)→tn i h')
    (hs:∀ (A:Around) (i:Nat) (s:Shared) (Q:Value→Shared→Prop) (E:Value→Shared→Prop),tn i s.heap→Q (.ref it) s→wpAny (model P w) A (pyIter (.ref it)) Q E s)
    (hi:∀ (X:Cx),X.prog=P→X.w=w→X.K=K→X.calm=true→∀ (i:Nat) (pins:List (Addr×Obj)) (s:Shared) (σ:St) (H:Hp),Inv X pins σ H s→tn i s.heap→J.go i H →
      ∃ f2 n Pt S M,WalksT P w X.A it f2 wr n Pt S M∧i<n∧S i s.heap∧(∀ h,S (i+1) h→tn (i+1) h)∧∀ vals,Pt i vals→∃ ws,ws.length≤sizeLine∧Vals ws vals.toList∧∀ t,H t=none→J.yld i H (.ref t) (upd H t (.tup ws)))
    (hd:∀ (X:Cx),X.prog=P→X.w=w→X.K=K→X.calm=true→∀ (i:Nat) (pins:List (Addr×Obj)) (s:Shared) (σ:St) (H:Hp),Inv X pins σ H s→tn i s.heap→J.stop i H→∃ f2 Pt S M,WalksT P w X.A it f2 wr i Pt S M∧S i s.heap) :
    Turn P w K (.Tuple elts x1 pos) J fp it tn where
  mem:=hm
  obj:=ho
  keep:=hk
  item:=by
    intro X hP hw hK hc i pins s σ H E I hf st hg
    obtain ⟨f2,n,Pt,S,M,W,hin,hS,hback,hpt⟩:=hi X hP hw hK hc i pins s σ H I st hg
    subst hP hw hK
    refine W.item i s _ _ hin hS fun T vals h1 tk hv hT tup1 mid kk1=>⟨_,rfl,?_⟩
    refine W.go elts x1 pos i T _ _ _ mid fun h2 S2 kk2=>?_
    obtain ⟨ws,hz,rv,yl⟩:=hpt vals hv
    have k2:∀ b o,b∉wr→s.heap.get? b=some o→h2.get? b=some o:=fun b o nb e=>kk2 b o nb (kk1 b o nb e)
    have nwr:∀ b u,H b=some u→b∉wr:=fun b u e z=>by rw [(hf b (hwr b z)).1] at e; cases e
    have nH:H T=none:=I.hok.fresh hT
    obtain ⟨o,eo,oc,nn,od⟩:=tup1
    have tup2:h2.get? T=some o:=kk2 T o (W.apart _ _ _ mid) eo
    have loc:X.env.locals∉wr:=fun z=>(hf _ (hwr _ z)).2.1 rfl
    have all:∀ b∈wr,(b∈X.ex∨X.s₀.heap.objs.size≤b)∧b≠X.env.locals∧(∀ x c,X.env.cells.lookup x=some c→c≠b)∧∀ p∈X.pn++pins,p.1≠b:=fun b z=>by
      obtain ⟨_,g1,_,g3,g4,g5⟩:=hf b (hwr b z)
      exact ⟨g3,g1,g4,g5⟩
    have nsk:∀ m,s.heap.Ns X.env.locals m→h2.Ns X.env.locals m:=fun m q=>by
      obtain ⟨oo,es,ep,q1,r⟩:=q
      exact ⟨oo,es,ep,k2 _ oo loc q1,r⟩
    have ok1:HOk X.prog X.w H h2:=fun b u q=>by
      refine (I.hok b u q).stay (fun c v hc' q'=>k2 c v ?_ q') (fun _ q'=>q') fun _ _ q'=>q'
      rcases hc' with z | z
      · rw [z]; exact nwr b u q
      · exact nwr c _ z
    have upk:∀ {b:Addr} {u:HO},H b=some u→upd H T (.tup ws) b=some u:=fun {b u} q=>by rw [upd_ne (zb2 q nH)]; exact q
    have ok2:HOk X.prog X.w (upd H T (.tup ws)) h2:=fun b u q=>by
      by_cases hb:b=T
      · subst hb
        rw [zbt] at q
        cases q
        exact ⟨hz,vals.toList,rv,⟨o,tup2,oc,nn,by rw [od]⟩⟩
      · rw [upd_ne hb] at q
        exact (ok1 b u q).stay (fun c v _ q'=>q') (fun c q'=>upk q') (fun c xs' q'=>upk q') fun c o u q'=>upk q'
    have I2:Inv X pins σ (upd H T (.tup ws)) { s with heap:=h2,toks:=tk } :=
      I.step (g':=s.gens) (d':=s.drawn) (ch:=wr) all (fun b o _ _ hc' q _=>k2 b o hc' q) (fun b o _ _ hc' q _=>⟨o.slots,k2 b o hc' q⟩) (fun b o _ q n=>by rw [upd_ne (fun z=>Nat.lt_irrefl _ (Nat.lt_of_lt_of_le (Heap.lt_size q) (by rw [z]; exact hT)))]; exact n)
        (fun b o hc' q=>⟨o,k2 b o hc' q⟩) (fun b xs' q=>upk q) (fun b o u' q=>upk q) (fun b ps q=>⟨#[],by rw [upk q]; simp⟩) nsk ok2 I.bare
    refine ⟨.ref T,_,I2,rfl,yl T nH,hback _ S2,fun b hb=>?_⟩
    by_cases e:b=T
    · exfalso
      subst e
      obtain ⟨o',e',_⟩:=ho i s.heap st b hb
      exact Nat.lt_irrefl _ (Nat.lt_of_lt_of_le (Heap.lt_size e') hT)
    · rw [upd_ne e]; exact (hf b hb).1
  done:=by
    intro X hP hw hK hc i pins s σ H E I hf st hg
    obtain ⟨f2,Pt,S,M,W,hS⟩:=hd X hP hw hK hc i pins s σ H I st hg
    subst hP hw hK
    refine W.done s _ _ hS fun h' tk kk=>⟨rfl,?_⟩
    refine I.step (g':=s.gens) (d':=s.drawn) (t':=tk) (ch:=wr) (fun b z=>?_) (fun b o _ _ hc' q _=>kk b o hc' q) (fun b o _ _ hc' q _=>⟨o.slots,kk b o hc' q⟩) (fun _ _ _ _ n=>n) (fun b o hc' q=>⟨o,kk b o hc' q⟩) (fun _ _ q=>q) (fun _ _ _ q=>q) (fun b ps q=>⟨#[],by rw [q]; simp⟩) (fun m q=>?_) (fun b u q=>?_) I.bare
    · obtain ⟨_,g1,_,g3,g4,g5⟩:=hf b (hwr b z)
      exact ⟨g3,g1,g4,g5⟩
    · obtain ⟨oo,es,ep,q1,r⟩:=q
      exact ⟨oo,es,ep,kk _ oo (fun z=>(hf _ (hwr _ z)).2.1 rfl) q1,r⟩
    · refine (I.hok b u q).stay (fun c v hc' q'=>kk c v ?_ q') (fun _ q'=>q') fun _ _ q'=>q'
      rcases hc' with z | z
      · rw [z]; exact fun w=>by rw [(hf b (hwr b w)).1] at q; cases q
      · exact fun w=>by rw [(hf c (hwr c w)).1] at z; cases z
  self:=hs
def Itz (K:PySem.W.Frag) (a b:Addr):It :=
  ⟨fun i H=>∃ xs ys x y,SqL K H a xs∧SqL K H b ys∧xs[i]?=some x∧ys[i]?=some y,fun i H x H'=>∃ (t:Addr) (v u:V),x=.ref t∧H t=none∧(∀ xs,SqL K H a xs→xs[i]?=some v)∧(∀ ys,SqL K H b ys→ys[i]?=some u)∧H'=upd H t (.tup [v,u]),
    fun i H=>∃ xs ys,SqL K H a xs∧SqL K H b ys∧i=min xs.length ys.length⟩
theorem turn_zip {P:Program} {w:World} {K:PySem.W.Frag} {elts:List Expr} {x1} {pos:Pos} (a b z TI TO i1 i2:Addr) (D:ZipApart z TI TO i1 i2 a b) :
    Turn P w K (.Tuple elts x1 pos) (Itz K a b) [z,TI,TO,i1,i2] z (fun i h=>IsZip h z TI TO .none∧IsPair h TI (.ref i1) (.ref i2)∧(∃ u v,IsPair h TO u v)∧h.IsListIter i1 a i∧h.IsListIter i2 b i):=by
  refine turn_pairs (wr:=[z,TO,i1,i2]) (fp:=[z,TI,TO,i1,i2]) (by simp) (fun c hc=>by simp only [List.mem_cons,List.not_mem_nil,or_false] at hc ⊢; rcases hc with h | h | h | h <;> simp [h]) (fun i h st c hc=>?_) (fun i h h' st k=>?_) (fun A i s Q E st q=>wpAny_pyIter_zip st.1 q) (fun X hP hw hK hc i pins s σ H I st hg=>?_) (fun X hP hw hK hc i pins s σ H I st hg=>?_)
  · obtain ⟨hz,hTI,⟨u,v,hTO⟩,h1,h2⟩:=st
    have e1:∃ o:Obj,h.get? z=some o∧∀ v,o.data≠.cell v:=⟨_,hz,fun v q=>by have q':Data.fields _=Data.cell v:=q; cases q'⟩
    have e2:∃ o:Obj,h.get? TI=some o∧∀ v,o.data≠.cell v:=⟨_,hTI,fun v q=>by have q':Data.seq _ _=Data.cell v:=q; cases q'⟩
    have e3:∃ o:Obj,h.get? TO=some o∧∀ v,o.data≠.cell v:=⟨_,hTO,fun v q=>by have q':Data.seq _ _=Data.cell v:=q; cases q'⟩
    have e4:∃ o:Obj,h.get? i1=some o∧∀ v,o.data≠.cell v:=let ⟨o,e,_,d⟩:=h1; ⟨o,e,fun v q=>by rw [d] at q; cases q⟩
    have e5:∃ o:Obj,h.get? i2=some o∧∀ v,o.data≠.cell v:=let ⟨o,e,_,d⟩:=h2; ⟨o,e,fun v q=>by rw [d] at q; cases q⟩
    simp only [List.mem_cons,List.not_mem_nil,or_false] at hc
    rcases hc with rfl | rfl | rfl | rfl | rfl
    · exact e1
    · exact e2
    · exact e3
    · exact e4
    · exact e5
  · obtain ⟨hz,hTI,⟨u,v,hTO⟩,h1,h2⟩:=st
    exact ⟨k z (by simp) _ hz,k TI (by simp) _ hTI,⟨u,v,k TO (by simp) _ hTO⟩,h1.at fun o e=>k i1 (by simp) o e,h2.at fun o e=>k i2 (by simp) o e⟩
  · subst hP hw hK
    obtain ⟨xs,ys,x,y,qa,qb,ex,ey⟩:=hg
    obtain ⟨us,r1,p1,_⟩:=I.list qa
    obtain ⟨vs,r2,p2,_⟩:=I.list qb
    have lx:=(List.getElem?_eq_some_iff.mp ex).1
    have ly:=(List.getElem?_eq_some_iff.mp ey).1
    have l1:=r1.length
    have l2:=r2.length
    refine ⟨_,_,_,_,_,WalksT.zip2 (I.ok.hd hc) z TI TO i1 i2 a b D us.toArray vs.toArray,by simp; omega,⟨st.1,st.2.1,st.2.2.1,st.2.2.2.1,st.2.2.2.2,p1.isList,p2.isList⟩,fun h q=>⟨q.1,q.2.1,q.2.2.1,q.2.2.2.1,q.2.2.2.2.1⟩,?_⟩
    rintro vals ⟨u,v,eu,ev,rfl⟩
    obtain ⟨u',f1,g1⟩:=r1.get ex
    obtain ⟨v',f2,g2⟩:=r2.get ey
    have e1:us[i]?=some u:=by simpa using eu
    have e2:vs[i]?=some v:=by simpa using ev
    rw [e1] at f1; cases f1
    rw [e2] at f2; cases f2
    exact ⟨[x,y],by show 2≤sizeLine; decide,.cons g1 (.cons g2 .nil),fun t nt=>⟨t,x,y,rfl,nt,fun zs hz=>by rw [I.list_inj hz qa]; exact ex,fun zs hz=>by rw [I.list_inj hz qb]; exact ey,rfl⟩⟩
  · subst hP hw hK
    obtain ⟨xs,ys,qa,qb,e⟩:=hg
    obtain ⟨us,r1,p1,_⟩:=I.list qa
    obtain ⟨vs,r2,p2,_⟩:=I.list qb
    have l1:=r1.length
    have l2:=r2.length
    have W:=WalksT.zip2 (prog:=X.prog) (w:=X.w) (A:=X.A) (I.ok.hd hc) z TI TO i1 i2 a b D us.toArray vs.toArray
    have en:min us.toArray.size vs.toArray.size=i:=by simp; omega
    rw [en] at W
    exact ⟨_,_,_,_,W,⟨st.1,st.2.1,st.2.2.1,st.2.2.2.1,st.2.2.2.2,p1.isList,p2.isList⟩⟩
theorem zapart (n a b:Nat) (ha:a<n) (hb:b<n):ZipApart (n+4) (n+2) (n+3) n (n+1) a b:=by constructor <;> exact fun (e:@Eq Nat _ _)=>by omega
theorem le5 {n c:Nat} (h:c=n+4∨c=n+2∨c=n+3∨c=n∨c=n+1):n≤c:=by omega
section
variable {X:Cx}
def iZip (K:PySem.W.Frag) (ta tb:TE):TI:=fun σ H R=>zdw ta (zdw tb tNil) σ H fun vs H1=>∃ a b,vs=[.ref a,.ref b]∧(∃ xs,SqL K H1 a xs)∧(∃ ys,SqL K H1 b ys)∧R (Itz K a b) H1
theorem pi_zip {K:PySem.W.Frag} {l m:Expr} {tl tm:TE} {elts:List Expr} {x1} {tpos p pos:Pos} (hK:X.K=K) (hg:Gl X "zip") (hm:X.mg "zip" = none) (ha:PA X [l,m] (zdw tl (zdw tm tNil))) (hs:starEach [l,m] X.env=(false,eval l X.env)::starEach [m] X.env:=by rfl) (hp:(backTo pos (starEach [m] X.env)).any (·.1)=false:=by rfl):PI X (.Tuple elts x1 tpos) (.Call (.Name "zip" p) [l,m] [] pos) (iZip K tl tm):=by
  subst hK
  intro pins s σ H R I h
  refine Call_ (zks I hg hm bt_zip (PyProof.Rows.callWith_type1 (thn (ha pos pins s σ H _ I h) fun us s1 ⟨vs,H1,I1,r1,q1⟩=>?_) hs hp))
  obtain ⟨a,b,rfl,⟨xs,qa⟩,⟨ys,qb⟩,q⟩:=q1
  cases r1 with
  | cons ra r1 =>
    cases r1 with
    | cons rb r1 =>
      cases r1
      cases ra
      cases rb
      obtain ⟨us,v1,p1,_⟩:=I1.list qa
      obtain ⟨ws,v2,p2,_⟩:=I1.list qb
      have la:a<s1.heap.objs.size:=by obtain ⟨_,e,_⟩:=p1.isList; exact Heap.lt_size e
      have lb:b<s1.heap.objs.size:=by obtain ⟨_,e,_⟩:=p2.isList; exact Heap.lt_size e
      refine call_zip_2 p1.isList p2.isList fun h' hz hTI hTO hi1 hi2 hsz hk=>wpAny_pyIter_zip hz ?_
      have I2:Inv X pins σ H1 { s1 with heap:=h' }:=I1.kept (t':=s1.toks) hk
      refine ⟨_,[s1.heap.objs.size+4,s1.heap.objs.size+2,s1.heap.objs.size+3,s1.heap.objs.size,s1.heap.objs.size+1],_,_,H1,rfl,I2,turn_zip a b _ _ _ _ _ (zapart _ _ _ la lb),⟨hz,hTI,⟨_,_,hTO⟩,hi1,hi2⟩,fun c hc=>?_,q⟩
      simp only [List.mem_cons,List.not_mem_nil,or_false] at hc
      have le:s1.heap.objs.size≤c:=le5 hc
      exact I1.fpOk le (I1.hok.fresh le)
end
end L2
namespace VL
open PySem L2
open Classical
noncomputable section
variable [Tabs] {K:PySem.W.Frag}
def zpL (xs ys:List D):List D:=List.zipWith (fun x y=>.tup [x,y]) xs ys
theorem zpL_len (xs ys:List D):(zpL xs ys).length=min xs.length ys.length:=List.length_zipWith ..
theorem zpL_get {xs ys:List D} {i:Nat} {d:D} (h:(zpL xs ys)[i]?=some d):∃ x y,xs[i]?=some x∧ys[i]?=some y∧d=.tup [x,y]:=by
  unfold zpL at h
  rw [List.getElem?_zipWith] at h
  split at h
  · rename_i x y e1 e2; exact ⟨x,y,e1,e2,(Option.some.inj h).symm⟩
  · cases h
theorem walk_zip {Bx H1:Hp} {T:Addr→Prop} {p q:Addr} {vs us:List V} {xs ys:List D} (hl:xs.length≤sizeLine) (h0:∀ H2 T2,Kp T H1 T2 H2→Same Bx H2→SqL K H2 p vs∧IsL K H2 T2 vs xs) (h1:∀ H2 T2,Kp T H1 T2 H2→Same Bx H2→SqL K H2 q us∧IsL K H2 T2 us ys)
    (hsl:vs.length=xs.length) (hsl2:us.length=ys.length):Walk K true Bx (Itz K p q) H1 T (zpL xs ys):=by
  have hlen:=zpL_len xs ys
  refine ⟨by rw [hlen]; omega,fun i d H2 T2 kp sb hd e=>?_,fun i H2 T2 kp sb hi=>?_⟩
  · obtain ⟨x,y,ex,ey,rfl⟩:=zpL_get e
    obtain ⟨s1,r1⟩:=h0 H2 T2 kp sb
    obtain ⟨s2,r2⟩:=h1 H2 T2 kp sb
    obtain ⟨v,e1,i1⟩:=r1.get ex
    obtain ⟨u,e2,i2⟩:=r2.get ey
    refine ⟨⟨vs,us,v,u,s1,s2,e1,e2⟩,fun z H3 hy=>?_⟩
    obtain ⟨t,v',u',ez,nt,hv,hu,e3⟩:=hy
    subst e3 ez
    have q1:=hv vs s1
    have q2:=hu us s2
    rw [e1] at q1; cases q1
    rw [e2] at q2; cases q2
    refine ⟨zc9 nt,show Is K _ T2 (.ref t) (.tup [x,y]) from .tup (fun z=>?_) zbt (by show 2≤sizeLine; decide) ((IsL.cons i1 (.one i2)).same (zc9 nt))⟩
    obtain ⟨o,qq⟩:=hd t z
    rw [nt] at qq; cases qq
  · obtain ⟨s1,_⟩:=h0 H2 T2 kp sb
    obtain ⟨s2,_⟩:=h1 H2 T2 kp sb
    exact ⟨vs,us,s1,s2,by rw [← hi,hlen,hsl,hsl2]⟩
noncomputable def zl9 (a b:DE):Rho→Option (List D):=fun ρ=>match asL a ρ with
  | some xs=>(match asL b ρ with
    | some ys=>if zf9 xs=true∧zf9 ys=true then some (zpL xs ys) else none
    | none=>none)
  | none=>none
theorem dZipB_some {a b:DE} {ρ:Rho} {ds:List D} (h:zl9 a b ρ=some ds):∃ xs ys,asL a ρ=some xs∧asL b ρ=some ys∧zf9 xs=true∧zf9 ys=true∧ds=zpL xs ys:=by
  unfold zl9 at h
  split at h
  · rename_i xs e
    split at h
    · rename_i ys e2
      by_cases c:zf9 xs=true∧zf9 ys=true
      · rw [if_pos c] at h; exact ⟨xs,ys,e,e2,c.1,c.2,(Option.some.inj h).symm⟩
      · rw [if_neg c] at h; cases h
    · cases h
  · cases h
theorem swc_zipB {ta tb:TE} {a b:DE} (ha:SemB K ta a) (hb:SemB K tb b):zmb K true (iZip K ta tb) (zl9 a b):=fun {B Z os ρ σ H R ds} f q k=>by
  obtain ⟨xs,ys,e1,e2,c1,c2,rfl⟩:=dZipB_some q
  obtain ⟨d1,e1,l1⟩:=zfu e1
  obtain ⟨d2,e2,l2⟩:=zfu e2
  refine ha f e1 fun v H1 s1 i1=>hb (f.grow s1) e2 fun u H2 s2 i2=>?_
  obtain ⟨p,vs,rfl,hl,hn,hr⟩:=(i1.same s2).seq l1
  obtain ⟨p2,us,rfl,hl2,hn2,hr2⟩:=i2.seq l2
  exact ⟨p,p2,rfl,⟨vs,(hr H2 _ Kp.refl).1⟩,⟨us,(hr2 H2 _ Kp.refl).1⟩,k _ _ (s1.trans s2) (walk_zip (by omega) (fun H3 T3 kp sb=>⟨(hr H3 No (Kp.same sb)).1,(hr H3 No (Kp.same sb)).2.flat c1⟩) (fun H3 T3 kp sb=>⟨(hr2 H3 No (Kp.same sb)).1,(hr2 H3 No (Kp.same sb)).2.flat c2⟩) hn hn2)⟩
theorem ev_zipB {a b:DE} {ρ:Rho} {xs ys:List D} (ha:asL a ρ=some xs) (hb:asL b ρ=some ys) (h1:zf9 xs=true) (h2:zf9 ys=true):zl9 a b ρ=some (zpL xs ys):=by unfold zl9; rw [ha,hb]; exact if_pos ⟨h1,h2⟩
end
end VL
namespace PySem
open Sem (wp)
section
variable {prog:Program} {w:World} {A:Around} {E:Value→Shared→Prop} {s:Shared}
end
end PySem
namespace L2
open PySem PySem.Spec PyProof.Rows
section
variable {X:Cx}
end
end L2
namespace VL
open PySem L2
open Classical
noncomputable section
variable [Tabs] {K:PySem.W.Frag}
end
end VL
namespace VL
open PySem L2
open Classical
noncomputable section
variable [Tabs] {K:PySem.W.Frag} {fr:Fm}
def SemM (K:PySem.W.Frag) (t:TE) (e:Rho→Option (List (List D))):Prop:=∀ {B:Hp} {Z:Addr→Prop} {os:Own} {ρ:Rho} {σ:L2.St} {H:Hp} {Q:VK} {rows:List (List D)},Fr K B Z os ρ σ H→e ρ=some rows →
  (∀ x ps H',Same H H'→H x=none→(∀ a∈ps,H a=none)→(x::ps).Nodup→H' x=some (.lst (ps.map V.ref))→ps.length≤sizeLine→Paired (fun q ds=>∃ vs,H' q=some (.lst vs)∧vs.length≤sizeLine∧IsL K H' (fun a=>(a=x∨a∈ps)∨tot Z os a) vs ds) ps rows→Q (.ref x) H')→t σ H Q
noncomputable def zj0 (F:List D→Option D) (es:Rho→Option (List D)):Rho→Option (List D):=fun ρ=>match za8 F es ρ with
  | some (.lst ds)=>some ds
  | _=>none
theorem sf_call {ms:List Bool} {F:List D→Option D} {t:TA} {es:Rho→Option (List D)} {E:XK} (ha:SemA K ms t es):SemF K (zk5 (spD .l K ms F) [] E t) (zj0 F es):=fun {B Z os ρ σ H Q ds} f q k=>by
  unfold zj0 at q
  split at q
  · rename_i xs e1
    cases q
    unfold za8 at e1
    split at e1
    · rename_i as e
      refine ha f e fun vs H1 s1 a=>?_
      show spD .l K ms F (vs++[]) H1 Q E
      rw [List.append_nil]
      refine ⟨tot Z os,as,.lst ds,(f.grow s1).zt,a,e1,fun v H2 s2 i=>?_⟩
      rcases i with ⟨p,us,ds',rfl,ed,hb,hh,hl,r⟩ | ⟨p,kvs,rfl,ed,hb,hh,hl⟩
      · cases ed
        exact k p us H2 (s1.trans s2) (Same.free s1 hb) hh hl r
      · cases ed
    · cases e1
  · cases q
theorem ss_retF {ta:TE} {a:Rho→Option (List D)} (h:SemF K ta a):SemS .l K (tRet ta) (sRet (dLst a)):=fun {B Z os ρ σ H E} f p=>by
  unfold sRet dLst at p
  cases e:a ρ with
  | none=>rw [e] at p; exact p.elim
  | some ds =>
    rw [e] at p
    exact h f e fun x vs H1 s1 hx hH hl r=>p _ _ (f.keep.trans s1) (.inl ⟨x,vs,ds,rfl,rfl,Same.free f.keep hx,hH,hl,r.kp (Kp.less fun a z=>z.elim .inl fun z=>.inr (.inl z))⟩)
@[irreducible] noncomputable def zmk (i:Nat):DS:=fun ρ=>match ρ.getD i .un with
  | .ol ds=>.rt (.lst ds)
  | _=>.no
theorem ss_retX {i:Nat}:SemS .l K (tRet (tVar i)) (zmk i):=fun {B Z os ρ σ H E} f p=>by
  unfold zmk at p
  split at p
  · rename_i ds e
    have s:=f.sl i
    rw [e] at s
    obtain ⟨a,vs,eo,hu,hH,hl,r⟩:=s
    have ha:a∈os i:=by rw [eo]; exact List.mem_singleton.mpr rfl
    exact ⟨_,join_some hu,p _ _ f.keep (.inl ⟨a,vs,ds,rfl,rfl,(f.new i a ha).1,hH,hl,r.kp (Kp.less fun b z=>z.elim (fun z=>.inr ⟨i,by rw [z]; exact ha⟩) .inl)⟩)⟩
  · exact p.elim
@[irreducible] noncomputable def zk8 (i:Nat) (a:Rho→Option (List (List D))):DS:=fun ρ=>match a ρ with
  | some rows=>if i < ρ.length then .nx (ρ.set i (.om rows)) else .no
  | none=>.no
theorem ss_setM {i:Nat} {ta:TE} {a:Rho→Option (List (List D))} (h:SemM K ta a):SemS fr K (tAsg ta (zjo i)) (zk8 i a):=fun {B Z os ρ σ H E} f p=>by
  unfold zk8 at p
  split at p
  · rename_i rows e
    by_cases hi:i < ρ.length
    · rw [if_pos hi] at p
      refine h f e fun x ps H1 s1 hx hps hn hH hl r=>?_
      have st:=f.step (H':=H1) (i:=i) hi (o:=x::ps) (s:=.om rows) (v:=some (.ref x)) (fun a u e _=>s1 _ _ e) (fun a ha=>let ⟨xs,e⟩:=(f.sl i).dom ha; ⟨_,s1 _ _ e⟩) hn (fun a ha=>?_)
        ⟨x,ps,rfl,rfl,hH,hl,Paired.mono r fun q ds _ ⟨vs,h1,h2,h3⟩=>⟨vs,h1,h2,h3.kp (Kp.less fun a z=>?_)⟩⟩
      · exact p _ _ _ st.1 st.2
      · rcases List.mem_cons.mp ha with rfl | ha
        · exact .inr hx
        · exact .inr (hps a ha)
      · rcases z with z | ⟨j,z⟩
        · exact .inr (.inl z)
        · by_cases hj:j=i
          · subst hj; rw [zby] at z; exact .inl (List.mem_cons.mp z)
          · rw [putO_ne hj] at z; exact .inr (.inr ⟨j,z⟩)
    · rw [if_neg hi] at p; exact p.elim
  · exact p.elim
theorem ss_setMC {i:Nat} {ta:TE} {a:Rho→Option (List (List D))} (h:SemM K ta a):SemS fr K (zl2 ta i) (zk8 i a):=ss_setM (i:=i) h
def frzR (i:Nat) (ρ:Rho):Rho:=match ρ.getD i .un with
  | .om rows=>ρ.set i (.ol (rows.map D.lst))
  | _=>ρ
theorem Fr.freezeR {B H:Hp} {Z:Addr→Prop} {os:Own} {ρ:Rho} {σ:L2.St} (f:Fr K B Z os ρ σ H) (i:Nat):∃ os',Fr K B Z os' (frzR i ρ) σ H∧Kp (tot Z os) H (tot Z os') H:=by
  unfold frzR
  cases e:ρ.getD i .un with
  | om rows =>
    have s:=f.sl i
    rw [e] at s
    obtain ⟨a,ps,eo,hu,hH,hl,i1⟩:=s
    have hi:=zh4 e (by intro z; cases z)
    have hn:=f.nd i
    rw [eo] at hn
    have less:∀ b,tot Z (putO os i [a]) b→tot Z os b:=by
      rintro b (z | ⟨j,z⟩)
      · exact .inl z
      · by_cases hj:j=i
        · subst hj; rw [zby] at z; exact .inr ⟨j,by rw [eo,List.mem_singleton.mp z]; exact List.mem_cons_self⟩
        · rw [putO_ne hj] at z; exact .inr ⟨j,z⟩
    have out:∀ b,b∈ps→¬ tot Z (putO os i [a]) b:=by
      rintro b hb (z | ⟨j,z⟩)
      · exact (f.new i b (by rw [eo]; exact List.mem_cons_of_mem _ hb)).2 z
      · by_cases hj:j=i
        · subst hj; rw [zby] at z; rw [List.mem_singleton.mp z] at hb; exact (List.nodup_cons.mp hn).1 hb
        · rw [putO_ne hj] at z; exact hj (f.dj j i b z (by rw [eo]; exact List.mem_cons_of_mem _ hb))
    have st:=f.step (H':=H) (i:=i) hi (o:=[a]) (s:=.ol (rows.map D.lst)) (v:=some (.ref a)) (fun a u e _=>e) (fun a ha=>let ⟨xs,e⟩:=(f.sl i).dom ha; ⟨_,e⟩) (by simp) (fun b h=>by rw [List.mem_singleton.mp h,eo]; exact .inl List.mem_cons_self)
      ⟨a,ps.map V.ref,rfl,rfl,hH,by rw [List.length_map]; exact hl,zkb less out i1⟩
    rw [set_self hu] at st
    exact ⟨_,st⟩
  | od d=>exact ⟨os,f,Kp.refl⟩
  | pm _ _ _=>exact ⟨os,f,Kp.refl⟩
  | pd _ _=>exact ⟨os,f,Kp.refl⟩
  | ol d=>exact ⟨os,f,Kp.refl⟩
  | un=>exact ⟨os,f,Kp.refl⟩
  | pu d=>exact ⟨os,f,Kp.refl⟩
  | bo d=>exact ⟨os,f,Kp.refl⟩
@[irreducible] noncomputable def zml (i:Nat) (s:DS):DS:=fun ρ=>s (frzR i ρ)
theorem ss_frzR {t:TS} {s:DS} (i:Nat) (h:SemS fr K t s):SemS fr K t (zml i s):=fun {B Z os ρ σ H E} f p=>by
  obtain ⟨os',f',k⟩:=f.freezeR i
  unfold zml at p
  exact h f' (Post.kp k p)
theorem Paired.setAt {α β:Type} {F G:α→β→Prop} {p:α} {y:β}:∀ {ps:List α} {rows:List β} {r:Nat},Paired F ps rows→ps.Nodup→(∀ q ds,q≠p→F q ds→G q ds)→ps[r]?=some p→G p y→Paired G ps (rows.set r y)
  | _,_,0,.cons h t,hn,hf,e,g=>by
    cases e
    exact .cons g (Paired.mono t fun q ds hq h=>hf q ds (fun z=>(List.nodup_cons.mp hn).1 (z ▸ hq)) h)
  | _,_,r+1,.cons h t,hn,hf,e,g=>by
    have e':=show _=some p by simpa using e
    exact .cons (hf _ _ (fun z=>(List.nodup_cons.mp hn).1 (z ▸ List.mem_of_getElem? e')) h) (Paired.setAt t (List.nodup_cons.mp hn).2 hf e' g)
theorem Paired.getF {α β:Type} {F:α→β→Prop}:∀ {ps:List α} {rows:List β} {r:Nat} {y:β},Paired F ps rows→rows[r]?=some y→∃ p,ps[r]?=some p∧F p y
  | _,_,0,_,.cons h _,e=>by cases e; exact ⟨_,rfl,h⟩
  | _,_,r+1,_,.cons _ t,e=>by
    obtain ⟨p,e1,h⟩:=Paired.getF (r:=r) t (by simpa using e)
    exact ⟨p,by simpa using e1,h⟩
theorem om_of {B H:Hp} {Z:Addr→Prop} {os:Own} {ρ:Rho} {σ:L2.St} (f:Fr K B Z os ρ σ H) {i:Nat} {rows:List (List D)} (e:ρ.getD i .un=.om rows) :
    ∃ a ps,os i=a::ps∧(σ[i]?).join=some (.ref a)∧H a=some (.lst (ps.map V.ref))∧ps.length≤sizeLine∧ps.length=rows.length∧Paired (fun p ds=>∃ vs,H p=some (.lst vs)∧vs.length≤sizeLine∧IsL K H (tot Z os) vs ds) ps rows:=by
  have s:=f.sl i
  rw [e] at s
  obtain ⟨a,ps,h1,h2,h3,h4,h5⟩:=s
  exact ⟨a,ps,h1,h2,h3,h4,Paired.length h5,h5⟩
theorem Fr.mutM1 {B H:Hp} {Z:Addr→Prop} {os:Own} {ρ:Rho} {σ:L2.St} (f:Fr K B Z os ρ σ H) {i r:Nat} {a p:Addr} {ps:List Addr} {rows:List (List D)} {ds':List D} {vs':List V} (e:ρ.getD i .un=.om rows) (eo:os i=a::ps) (hu:(σ[i]?).join=some (.ref a)) (hr:ps[r]?=some p) (hl:vs'.length≤sizeLine) (h:IsL K H (tot Z os) vs' ds') :
    Fr K B Z (putO os i (a::ps)) (ρ.set i (.om (rows.set r ds'))) σ (upd H p (.lst vs'))∧Kp (tot Z os) H (tot Z (putO os i (a::ps))) (upd H p (.lst vs')):=by
  have s:=f.sl i
  rw [e] at s
  obtain ⟨b,qs,eo',hu',hH,hlp,i1⟩:=s
  rw [eo] at eo'
  cases eo'
  have hi:=zh4 e (by intro z; cases z)
  have hn:=f.nd i
  rw [eo] at hn
  have hp:p∈ps:=List.mem_of_getElem? hr
  have hpo:p∈os i:=by rw [eo]; exact List.mem_cons_of_mem _ hp
  have hap:a≠p:=fun z=>(List.nodup_cons.mp hn).1 (z ▸ hp)
  have tt:tot Z (putO os i (a::ps))=tot Z os:=by
    funext c
    apply propext
    constructor
    · rintro (z | ⟨j,z⟩)
      · exact .inl z
      · by_cases hj:j=i
        · subst hj; rw [zby] at z; exact .inr ⟨j,by rw [eo]; exact z⟩
        · rw [putO_ne hj] at z; exact .inr ⟨j,z⟩
    · rintro (z | ⟨j,z⟩)
      · exact .inl z
      · by_cases hj:j=i
        · subst hj; exact .inr ⟨j,by rw [zby,← eo]; exact z⟩
        · exact .inr ⟨j,by rw [putO_ne hj]; exact z⟩
  have kp:Kp (tot Z os) H (tot Z os) (upd H p (.lst vs')):=fun b u e z=>⟨by rw [upd_ne (fun w=>z (.inr ⟨i,by rw [w]; exact hpo⟩))]; exact e,z⟩
  have st:=f.step (H':=upd H p (.lst vs')) (i:=i) hi (o:=a::ps) (s:=.om (rows.set r ds')) (v:=some (.ref a)) (fun b u e n=>by rw [upd_ne (fun z=>n (by rw [z]; exact hpo))]; exact e) (fun b hb=>?_) hn (fun b hb=>by rw [← eo] at hb; exact .inl hb)
    ⟨a,ps,rfl,rfl,by rw [upd_ne hap]; exact hH,hlp,?_⟩
  · rw [set_self hu'] at st
    exact st
  · by_cases hb':b=p
    · rw [hb']; exact ⟨_,zbt⟩
    · rw [upd_ne hb']; obtain ⟨xs,e⟩:=(f.sl i).dom hb; exact ⟨_,e⟩
  · rw [tt]
    exact Paired.setAt i1 (List.nodup_cons.mp hn).2 (fun q ds hq ⟨vs,h1,h2,h3⟩=>⟨vs,by rw [upd_ne hq]; exact h1,h2,h3.kp kp⟩) hr ⟨vs',zbt,hl,h.kp kp⟩
theorem Fr.mutM {B H:Hp} {Z:Addr→Prop} {os:Own} {ρ:Rho} {σ:L2.St} (f:Fr K B Z os ρ σ H) {i r:Nat} {a p:Addr} {ps:List Addr} {rows:List (List D)} {ds':List D} {vs':List V} (e:ρ.getD i .un=.om rows) (eo:os i=a::ps) (hu:(σ[i]?).join=some (.ref a)) (hr:ps[r]?=some p) (hl:vs'.length≤sizeLine) (h:IsL K H (tot Z os) vs' ds') :
    ∃ os',Fr K B Z os' (ρ.set i (.om (rows.set r ds'))) σ (upd H p (.lst vs'))∧Kp (tot Z os) H (tot Z os') (upd H p (.lst vs')):=⟨_,f.mutM1 e eo hu hr hl h⟩
theorem zd8 {B H:Hp} {Z:Addr→Prop} {os:Own} {ρ:Rho} {σ:L2.St} (f:Fr K B Z os ρ σ H) {i:Nat} {rows:List (List D)} {n:Int} {r:Nat} {ds:List D} (e:ρ.getD i .un=.om rows) (hn:ixN rows.length n=some r) (hd:rows[r]?=some ds) :
    ∃ a ps p vs,os i=a::ps∧(σ[i]?).join=some (.ref a)∧H a=some (.lst (ps.map V.ref))∧atI (ps.map V.ref) n=some (V.ref p)∧ps[r]?=some p∧H p=some (.lst vs)∧vs.length≤sizeLine∧IsL K H (tot Z os) vs ds:=by
  obtain ⟨a,ps,h1,h2,h3,h4,h5,h6⟩:=om_of f e
  obtain ⟨p,e1,vs,g1,g2,g3⟩:=Paired.getF h6 hd
  refine ⟨a,ps,p,vs,h1,h2,h3,?_,e1,g1,g2,g3⟩
  unfold atI
  rw [List.length_map,h5,hn]
  show (ps.map V.ref)[r]?=_
  rw [List.getElem?_map,e1]
  rfl
@[irreducible] noncomputable def zl6 (i:Nat) (b c a:DE):DS:=fun ρ=>match ρ.getD i .un with
  | .om rows=>(match a ρ with
    | some d=>(match b ρ with
      | some (.int n)=>(match ixN rows.length n with
        | some r=>(match rows[r]? with
          | some ds=>(match c ρ with
            | some (.int m)=>(match ixN ds.length m with
              | some j=>.nx (ρ.set i (.om (rows.set r (ds.set j d))))
              | none=>.no)
            | _=>.no)
          | none=>.no)
        | none=>.no)
      | _=>.no)
    | none=>.no)
  | _=>.no
theorem ss_put2 {i:Nat} {ta tb tc:TE} {a b c:DE} (ha:SemI K ta a) (hb:SemB K tb b) (hc:SemB K tc c):SemS fr K (tAsg ta (gSub (tOp (rIx K) (tVar i) tb) tc zm6)) (zl6 i b c a):=fun {B Z os ρ σ H E} f p=>by
  unfold zl6 at p
  split at p
  · rename_i rows e
    split at p
    · rename_i d e1
      split at p
      · rename_i n e2
        split at p
        · rename_i r e3
          split at p
          · rename_i ds e4
            split at p
            · rename_i m e5
              split at p
              · rename_i j e6
                obtain ⟨x,ps,q,vs,eo,hu,hH,hat,hr,hq,hl,il⟩:=zd8 f e e3 e4
                refine ha f e1 fun v H1 s1 i1=>⟨_,join_some hu,hb (f.grow s1) e2 fun w H2 s2 i2=>?_⟩
                have s12:=s1.trans s2
                refine .inl ⟨x,ps.map V.ref,n,.ref q,rfl,i2.isInt,SqL.of (s12 _ _ hH),hat,hc (f.grow s12) e5 fun u H3 s3 i3=>?_⟩
                have s13:=s12.trans s3
                have f3:=f.grow s13
                obtain ⟨os',f',k⟩:=f3.mutM (vs':=vs.set j v) (ds':=ds.set j d) e eo hu hr (by rw [List.length_set]; exact hl) ((il.same s13).set ((i1.same s2).same s3) j)
                exact ⟨q,vs,m,j,rfl,i3.isInt,s13 _ _ hq,by rw [il.length]; exact e6,p os' _ _ f' ((Kp.same s13).trans k)⟩
              · exact p.elim
            · exact p.elim
          · exact p.elim
        · exact p.elim
      · exact p.elim
    · exact p.elim
  · exact p.elim
end
end VL
namespace VL
open PySem L2
open Classical
noncomputable section
variable [Tabs] {K:PySem.W.Frag} {fr:Fm}
theorem blockFrZ {B H1 H:Hp} {Z W:Addr→Prop} {os:Own} {ρ:Rho} {σ:L2.St} (f:Fr K B Z os ρ σ H1) (s:Same H1 H) (hw:∀ a,W a→∃ o,H a=some o) (hk:Kp (tot Z os) H1 W H) (k:Nat) (cs:List Nat) :
    Fr K H1 W (fun _=>[]) (r0 k cs ρ) (s0 k cs σ) H where
  keep:=s
  zin:=hw
  tab:=f.tabH
  len:=by unfold r0 s0; simp
  nd:=fun _=>List.nodup_nil
  dj:=fun _ _ _ h=>by cases h
  new:=fun _ _ h=>by cases h
  sl:=fun j=>by
    have kp:Kp (tot Z os) H1 (tot W fun _=>[]) H:=fun a u e z=>⟨(hk a u e z).1,fun q=>q.elim (hk a u e z).2 fun ⟨_,q⟩=>by cases q⟩
    unfold r0 s0
    rw [List.getD_eq_getElem?_getD]
    by_cases hj:j<k
    · rw [List.getElem?_append_left (by simpa using hj),List.getElem?_append_left (by simpa using hj),List.getElem?_replicate,if_pos hj]
      exact rfl
    · rw [List.getElem?_append_right (by simpa using hj),List.getElem?_append_right (by simpa using hj),List.length_replicate,List.length_replicate,List.getElem?_map,List.getElem?_map]
      cases e:cs[j-k]? with
      | none=>exact rfl
      | some i =>
        have h:=f.sl i
        show SlOk K _ _ _ _ (view (ρ.getD i .un)) ((σ[i]?).join)
        cases e2:ρ.getD i .un with
        | un=>exact rfl
        | pu d =>
          rw [e2] at h
          obtain ⟨_,u,hu,i1⟩:=h
          exact ⟨rfl,u,hu,i1.kp kp⟩
        | bo d =>
          rw [e2] at h
          obtain ⟨_,u,hu,i1⟩:=h
          exact ⟨rfl,u,hu,i1.same f.keep⟩
        | ol ds =>
          rw [e2] at h
          obtain ⟨a,vs,_,hu,hH,hl,i1⟩:=h
          exact ⟨rfl,_,hu,.lst (fun z=>z) (.inl hH) hl i1.all⟩
        | om rows =>
          rw [e2] at h
          obtain ⟨a,ps,_,hu,hH,hl,i1⟩:=h
          exact ⟨rfl,_,hu,.lst (fun z=>z) (.inl hH) (by rw [List.length_map]; exact hl) (zhb i1)⟩
        | od kvs =>
          rw [e2] at h
          obtain ⟨a,_,hu,hH,hl⟩:=h
          exact ⟨rfl,_,hu,.dct (fun z=>z) (.inl hH) hl⟩
        | pm a ps rows =>
          rw [e2] at h
          obtain ⟨_,hu,hH,hl,i1⟩:=h
          exact ⟨rfl,_,hu,.lst (fun z=>z) (.inl hH) (by rw [List.length_map]; exact hl) (zhb i1)⟩
        | pd a kvs =>
          rw [e2] at h
          obtain ⟨_,hu,hH,hl⟩:=h
          exact ⟨rfl,_,hu,.dct (fun z=>z) (.inl hH) hl⟩
def zhf (g:DG) (t:Rho→Option Bool) (e:Rho→Option (List D)) (ρ0:Rho):List D→Option (List (List D))
  | []=>some []
  | d::ds=>match g d ρ0 with
    | none=>none
    | some ρ1=>match t ρ1 with
      | none=>none
      | some false=>zhf g t e ρ0 ds
      | some true=>match e ρ1 with
        | none=>none
        | some y=>match zhf g t e ρ0 ds with
          | none=>none
          | some ys=>some (y::ys)
noncomputable def zih (k:Nat) (cs:List Nat) (it:Rho→Option (List D)) (g:DG) (t:Rho→Option Bool) (e:Rho→Option (List D)):Rho→Option (List (List D)):=fun ρ=>match it ρ with
  | some ds=>zhf g t e (r0 k cs ρ) ds
  | none=>none
theorem sm_comp {m:Bool} {k:Nat} {cs:List Nat} {wi:TI} {g:TG} {tt:TT} {te:TE} {it:Rho→Option (List D)} {gd:DG} {td:Rho→Option Bool} {ed:Rho→Option (List D)} (hw:zmb K m wi it) (hg:SemG K m g gd) (ht:SemT K tt td) (he:SemF K te ed) :
    SemM K (zjn wi g tt te (s0 k cs)) (zih k cs it gd td ed):=fun {B Z os ρ σ H Q ds} f q kk=>by
  unfold zih at q
  split at q
  · rename_i xs e0
    refine hw f e0 fun J H1 s1 W Dl hD=>?_
    have f1:=f.grow s1
    have sD:∀ {H2:Hp} {ys:List V},Same H1 H2→Same H1 (upd H2 Dl (.lst ys)):=fun {H2 ys} s a o e=>by
      rw [upd_ne (zb2 e hD)]; exact s _ _ e
    let ZZ:List Addr→Addr→Prop:=fun ps a=>(a=Dl∨a∈ps)∨tot Z os a
    refine ⟨fun i m ys H2=>m=xs.length-i∧i≤xs.length∧Same H1 H2∧H2 Dl=some (.lst ys)∧ys.length≤i∧∃ ps done rest,ys=ps.map V.ref∧(∀ a∈ps,H1 a=none)∧(Dl::ps).Nodup∧Paired (fun q ds=>∃ vs,H2 q=some (.lst vs)∧vs.length≤sizeLine∧IsL K H2 (ZZ ps) vs ds) ps done∧zhf gd td ed (r0 k cs ρ) (xs.drop i)=some rest∧done++rest=ds,
      ⟨_,rfl,Nat.zero_le _,sD (Same.refl _),zbt,Nat.le_refl _,[],[],ds,rfl,(fun a h=>by cases h),(by simp),.nil,q,rfl⟩,?_⟩
    rintro i mm ys H2 ⟨rfl,hi,s2,eD,hly,ps,done,rest,rfl,hps,hnd,il,q2,ed2⟩
    have zin2:∀ a,ZZ ps a→∃ o,H2 a=some o:=by
      rintro a ((rfl | z) | z)
      · exact ⟨_,eD⟩
      · obtain ⟨_,vs,h,_⟩:=Paired.any il z
        exact ⟨_,h⟩
      · obtain ⟨u,e⟩:=f1.tin a z
        exact ⟨u,s2 _ _ e⟩
    have kp12:Kp (tot Z os) H1 (ZZ ps) H2:=fun a u e z=>⟨s2 _ _ e,fun w=>by
      rcases w with (rfl | w) | w
      · rw [hD] at e; cases e
      · rw [hps a w] at e; cases e
      · exact z w⟩
    by_cases hlt:i<xs.length
    · have ex:xs[i]?=some xs[i]:=List.getElem?_eq_getElem hlt
      obtain ⟨go,yl⟩:=W.go i xs[i] H2 _ kp12 s2 zin2 ex
      refine .inr ⟨go,fun x H3 hy=>?_⟩
      obtain ⟨s3,er⟩:=yl x H3 hy
      have eD3:=s3 _ _ eD
      have s13:=s2.trans s3
      have kp13:Kp (tot Z os) H1 (ZZ ps) H3:=kp12.trans (Kp.same s3)
      have ef3:=blockFrZ f1 s13 (fun a z=>let ⟨o,e⟩:=zin2 a z; ⟨o,s3 _ _ e⟩) kp13 k cs
      rw [List.drop_eq_getElem_cons hlt] at q2
      unfold zhf at q2
      have er':ER K m H1 H3 (tot (ZZ ps) fun _=>[]) x xs[i]:=by
        cases m with
        | false=>exact er
        | true=>exact Is.kp (Kp.less fun a z=>z.elim id fun ⟨_,w⟩=>by cases w) er
      have il3:∀ {H':Hp},Same H2 H'→Paired (fun q ds=>∃ vs,H' q=some (.lst vs)∧vs.length≤sizeLine∧IsL K H' (ZZ ps) vs ds) ps done:=fun {H'} s=>Paired.mono il fun q ds _ ⟨vs,h1,h2,h3⟩=>⟨vs,s _ _ h1,h2,h3.same s⟩
      split at q2
      · cases q2
      · rename_i ρ1 e1
        refine hg ef3 er' e1 fun os1 σ1 fr1 k1=>?_
        split at q2
        · cases q2
        · rename_i e2
          refine ht fr1 e2 fun H4 s4=>iteF ⟨_,by omega,rfl,hlt,s13.trans s4,s4 _ _ eD3,by omega,ps,done,rest,rfl,hps,hnd,il3 (s3.trans s4),q2,ed2⟩
        · rename_i e2
          refine ht fr1 e2 fun H4 s4=>iteT ?_
          split at q2
          · cases q2
          · rename_i y e3
            split at q2
            · cases q2
            · rename_i rs e4
              cases q2
              refine he (fr1.grow s4) e3 fun x2 vs2 H5 s5 hx2 hH5 hl5 i5=>?_
              have s35:=s4.trans s5
              have s25:=s3.trans s35
              have eD5:=s35 _ _ eD3
              have hl:=W.len
              have hx3:H3 x2=none:=Same.free s4 hx2
              have hxD:x2≠Dl:=fun z=>by rw [z,eD3] at hx3; cases hx3
              have hxps:x2∉ps:=fun z=>by
                obtain ⟨o,e⟩:=zin2 x2 (.inl (.inr z))
                rw [s3 _ _ e] at hx3; cases hx3
              have hxt:¬ tot Z os x2:=fun z=>by
                obtain ⟨o,e⟩:=zin2 x2 (.inr z)
                rw [s3 _ _ e] at hx3; cases hx3
              have sub:∀ a,ZZ (ps++[x2]) a→a=x2∨ZZ ps a:=by
                rintro a ((rfl | z) | z)
                · exact .inr (.inl (.inl rfl))
                · rcases List.mem_append.mp z with z | z
                  · exact .inr (.inl (.inr z))
                  · exact .inl (List.mem_singleton.mp z)
                · exact .inr (.inr z)
              have sup:∀ a,a=x2∨ZZ ps a→ZZ (ps++[x2]) a:=by
                rintro a (rfl | (rfl | z) | z)
                · exact .inl (.inr (by simp))
                · exact .inl (.inl rfl)
                · exact .inl (.inr (List.mem_append_left _ z))
                · exact .inr z
              have kp5:∀ (zs:List V),Kp (ZZ ps) H2 (ZZ (ps++[x2])) (upd H5 Dl (.lst zs)):=fun zs a u e z=>⟨by rw [upd_ne (fun w=>z (.inl (.inl w)))]; exact s25 _ _ e,fun w=>by
                rcases sub a w with rfl | w
                · rw [s3 _ _ e] at hx3; cases hx3
                · exact z w⟩
              have kp6:∀ (zs:List V),Kp (ZZ (ps++[x2])) H5 (ZZ (ps++[x2])) (upd H5 Dl (.lst zs)):=fun zs a u e z=>⟨by rw [upd_ne (fun w=>z (.inl (.inl w)))]; exact e,z⟩
              refine ⟨eD5,by rw [List.length_map] at hly ⊢; omega,_,by omega,rfl,hlt,sD (s13.trans s35),zbt,by rw [List.length_append,List.length_singleton]; omega,ps++[x2],done++[y],rs,by rw [List.map_append]; rfl,fun a ha=>?_,?_,?_,e4,by rw [List.append_assoc]; exact ed2⟩
              · rcases List.mem_append.mp ha with ha | ha
                · exact hps a ha
                · rw [List.mem_singleton.mp ha]; exact Same.free s13 hx3
              · rw [← List.cons_append,List.nodup_append]
                refine ⟨hnd,by simp,fun a h1 b h2=>?_⟩
                rw [List.mem_singleton.mp h2]
                rintro rfl
                rcases List.mem_cons.mp h1 with z | z
                · exact hxD z
                · exact hxps z
              · refine Paired.append (Paired.mono il fun q ds hq ⟨vs,h1,h2,h3⟩=>⟨vs,?_,h2,h3.kp (kp5 _)⟩) (.cons ⟨vs2,?_,hl5,?_⟩ .nil)
                · rw [upd_ne (fun z=>by rw [z] at hq; exact (List.nodup_cons.mp hnd).1 hq)]; exact s25 _ _ h1
                · rw [upd_ne hxD]; exact hH5
                · exact (i5.kp (Kp.less fun a z=>by
                    rcases sub a z with z | z
                    · exact .inl z
                    · exact .inr (.inl z)):IsL K H5 (ZZ (ps++[x2])) vs2 y).kp (kp6 _)
    · have e:i=xs.length:=by omega
      subst e
      rw [List.drop_length] at q2
      cases q2
      rw [List.append_nil] at ed2
      subst ed2
      have hl:=W.len
      rw [List.length_map] at hly
      exact .inl ⟨W.stop _ H2 _ kp12 s2 rfl,eD,kk Dl ps H2 (s1.trans s2) (Same.free s1 hD) (fun a ha=>Same.free s1 (hps a ha)) hnd eD (by omega) il⟩
  · cases q
section
variable {s u b:DS} {ρ:Rho} {W:Wk} {i:Nat} {a e k c:DE} {d:D} {rows:List (List D)} {ds:List D}
theorem wp_setM {es:Rho→Option (List (List D))} (h:es ρ=some rows) (hi:i < ρ.length) (k:W.nx (ρ.set i (.om rows))):Wp (zk8 i es) ρ W:=by unfold Wp zk8; rw [h]; simp only [if_pos hi]; exact k
theorem wp_frzR (h:Wp s (frzR i ρ) W):Wp (zml i s) ρ W:=by unfold Wp zml at *; exact h
theorem wp_retX (h:ρ.getD i .un=.ol ds) (k:W.rt (.lst ds)):Wp (zmk i) ρ W:=by unfold Wp zmk; rw [h]; exact k
theorem wp_put2 {n m:Int} {r j:Nat} (h0:ρ.getD i .un=.om rows) (h1:a ρ=some d) (h2:e ρ=some (.int n)) (h3:ixN rows.length n=some r) (h4:rows[r]?=some ds) (h5:c ρ=some (.int m)) (h6:ixN ds.length m=some j) (k:W.nx (ρ.set i (.om (rows.set r (ds.set j d))))):Wp (zl6 i e c a) ρ W:=by
  unfold Wp zl6; rw [h0]; simp only [h1,h2,h3,h4,h5,h6]; exact k
theorem ev_callF {F:List D→Option D} {es:Rho→Option (List D)} {xs:List D} (h:es ρ=some xs) (h2:F xs=some (.lst ds)):zj0 F es ρ=some ds:=by unfold zj0 za8; rw [h]; simp only [h2]
theorem ev_compM {α:Type} {k:Nat} {cs:List Nat} {it:Rho→Option (List D)} {g:DG} {t:Rho→Option Bool} {el:Rho→Option (List D)} (emb:α→D) {xs:List α} (h:it ρ=some (xs.map emb)) (p:α→Bool) (f:α→List D)
    (hs:∀ x∈xs,∃ ρ1,g (emb x) (r0 k cs ρ)=some ρ1∧t ρ1=some (p x)∧(p x=true→el ρ1=some (f x))):zih k cs it g t el ρ=some ((xs.filter p).map f):=by
  unfold zih
  rw [h]
  show zhf g t el (r0 k cs ρ) (xs.map emb)=_
  clear h
  induction xs with
  | nil=>rfl
  | cons x r ih =>
    obtain ⟨ρ1,e1,e2,e3⟩:=hs x List.mem_cons_self
    rw [List.map_cons]
    unfold zhf
    rw [e1]
    dsimp only
    rw [e2]
    have q:=ih fun y hy=>hs y (List.mem_cons_of_mem _ hy)
    cases hp:p x with
    | false=>rw [List.filter_cons_of_neg (by rw [hp]; exact Bool.false_ne_true)]; exact q
    | true =>
      rw [List.filter_cons_of_pos hp,List.map_cons]
      dsimp only
      rw [e3 hp]
      dsimp only
      rw [q]
theorem ev_compM0 {α:Type} {k:Nat} {cs:List Nat} {it:Rho→Option (List D)} {g:DG} {el:Rho→Option (List D)} (emb:α→D) {xs:List α} (h:it ρ=some (xs.map emb)) (f:α→List D)
    (hs:∀ x∈xs,∃ ρ1,g (emb x) (r0 k cs ρ)=some ρ1∧el ρ1=some (f x)):zih k cs it g zdd el ρ=some (xs.map f):=by
  have:=ev_compM (k:=k) (cs:=cs) (g:=g) (t:=zdd) (el:=el) emb h (fun _=>true) f fun x hx=>let ⟨ρ1,e1,e2⟩:=hs x hx; ⟨ρ1,e1,rfl,fun _=>e2⟩
  rw [this,List.filter_eq_self.mpr fun _ _=>rfl]
end
theorem run_eqG {F:List D→Option D} {n:Nat} {ms:List Bool} {b:DS} (hF:F=runF n ms b) {ds:List D} {d:D} (h:Wp b (stD n ms ds) { nx:=fun _=>False,rt:=fun x=>x=d }):F ds=some d:=by
  rw [hF]
  unfold runF
  unfold Wp at h
  cases e:b (stD n ms ds) with
  | rt x=>rw [e] at h; show some x=some d; rw [show x=d from h]
  | nx ρ=>rw [e] at h; exact h.elim
  | bk ρ=>rw [e] at h; exact h.elim
  | ct ρ=>rw [e] at h; exact h.elim
  | no=>rw [e] at h; exact h.elim
theorem zka {F:List D→Option D} {n:Nat} {ms:List Bool} {b:DS} (hF:F=runF n ms b) {ds:List D} {P:D→Prop} (h:Wp b (stD n ms ds) { nx:=fun _=>False,rt:=P }):∃ d,F ds=some d∧P d:=by
  rw [hF]
  unfold runF
  unfold Wp at h
  cases e:b (stD n ms ds) with
  | rt x=>rw [e] at h; exact ⟨x,rfl,h⟩
  | nx ρ=>rw [e] at h; exact h.elim
  | bk ρ=>rw [e] at h; exact h.elim
  | ct ρ=>rw [e] at h; exact h.elim
  | no=>rw [e] at h; exact h.elim
end
end VL
namespace VL
open PySem L2
open Classical
noncomputable section
variable [Tabs] {K:PySem.W.Frag} {fr:Fm}
inductive Puts (K:PySem.W.Frag):List (TE×TE)→List (DE×DE)→Prop
  | nil:Puts K [] []
  | cons {tc ta:TE} {c a:DE} {l:List (TE×TE)} {l':List (DE×DE)} (ha:SemI K ta a) (hc:SemB K tc c) (r:Puts K l l'):Puts K ((tc,ta)::l) ((c,a)::l')
end
end VL
namespace L2
open PySem PySem.Spec PyProof.Rows
theorem mapF_dict (o:Obj) (f):(o.mapFields f).dict=o.dict:=by
  cases o with | mk c d dt sl=>cases dt <;> rfl
def Rec (h:Heap) (e T:Addr) (cls fl:Value):Prop :=
  ∃ oe vs oT ts,(h.get? e=some oe∧oe.cls=cls∧oe.dict=none∧oe.data=.fields vs)∧vs[1]?=some (.ref T)∧T≠e∧h.get? T=some oT∧oT.data=.fields ts∧ts[3]?=some fl
structure Hop (fr ch:List Addr) (h h':Heap):Prop where
  keep:∀ b o,b∉fr→b∉ch→h.get? b=some o→h'.get? b=some o
  slot:∀ b o,b∉ch→h.get? b=some o→∃ sl,h'.get? b=some { o with slots:=sl }
theorem Hop.trans {fr c1 c2:List Addr} {h h1 h2:Heap} (a:Hop fr c1 h h1) (b:Hop fr c2 h1 h2):Hop fr (c1++c2) h h2 where
  keep:=fun x o hf hc q=>b.keep x o hf (fun z=>hc (List.mem_append_right _ z)) (a.keep x o hf (fun z=>hc (List.mem_append_left _ z)) q)
  slot:=fun x o hc q=>by
    obtain ⟨s1,q1⟩:=a.slot x o (fun z=>hc (List.mem_append_left _ z)) q
    obtain ⟨s2,q2⟩:=b.slot x _ (fun z=>hc (List.mem_append_right _ z)) q1
    exact ⟨s2,q2⟩
theorem Hop.upd {fr:List Addr} {h:Heap} {a:Addr} (f:Obj→Obj):Hop fr [a] h (h.update a f) where
  keep:=fun b o _ hc q=>by rw [Heap.get?_update_other _ _ fun z=>hc (by rw [z]; exact List.mem_singleton.mpr rfl)]; exact q
  slot:=fun b o hc q=>⟨o.slots,by rw [Heap.get?_update_other _ _ fun z=>hc (by rw [z]; exact List.mem_singleton.mpr rfl)]; exact q⟩
section
variable {M:Model} {A:Around} {E:Value→Shared→Prop} {s:Shared} {base:Heap} {env:Env} {outer:List Env} {L e T:Addr} {cls fl:Value} {Q:Unit→Shared→Prop}
theorem zh6 {oe:Obj} {vs:Array Value} {head:Value} {more:Bool} (h1:A.frames=some (env::outer)) (h2:s.heap.FunFrames base (env::outer)) (h3:env.frame=some L)
    (h4:s.heap.get? e=some oe) (h5:oe.data=.fields vs) (h6:1<vs.size) (h7:oe.dict=none)
    (q:∀ h' T,s.heap.get? T=none→Rec h' e T oe.cls (rawInt L)→Hop (frs (env::outer)) [e] s.heap h'→Q () { s with heap:=h' }) :
    wpAny M A (do let f ← frameOf env; let p ← entryPlaceOf L more; let b ← EntryCells.newEntry head f .none (rawInt L) .none p; setField (.ref e) 1 b) Q E s:=by
  have nf:e∉frs (env::outer):=fun hm=>by
    obtain ⟨_,o,ho,hz⟩:=h2.mem hm
    rw [h4] at ho
    cases ho
    exact hz vs h5
  refine wpAny_bind (wpAny_frameOf_fun h1 h2 h3 fun g so=>wpAny_bind (wpAny_entryPlaceOf fun p hp=>?_))
  obtain ⟨z1,z2,z3⟩:=so
  unfold EntryCells.newEntry newFields
  refine wpAny_bind (wpAny_newObj_type ?_ (hp.sizeOk5 _ _ _ _ _))
  have e1:g.get? e=some oe:=by rw [z2 e nf]; exact h4
  have e2:=Heap.get?_push_of_some (h:=g) { cls:=.type "traceback", dict:=none,data:=.fields ([head,.ref L,.none,rawInt L,.none]++(if p.isEmpty then List.replicate 6 Value.none else p)).toArray } e1
  refine wpAny_setField e2 h5 h6 (q _ g.objs.size ?_ ?_ ?_)
  · exact Heap.get?_none_of_le (by rw [z1]; exact Nat.le_refl _)
  · have ne:g.objs.size≠e:=Nat.ne_of_gt (Heap.lt_size e1)
    have d:=Obj.data_mapFields h5 (·.setIfInBounds 1 (Value.ref g.objs.size))
    refine ⟨_,_,_,_,⟨Heap.get?_update_self _ e2 (Obj.isFreed_of_fields d),Obj.cls_mapFields _ _,by rw [mapF_dict]; exact h7,d⟩,by simp [h6],ne,(Heap.get?_update_other _ _ (Ne.symm ne)).trans (Heap.get?_push_size g rfl),rfl,?_⟩
    first
      | (simp; done)
      | (rcases hp with rfl | ⟨_,_,_,_,_,_,_,rfl⟩ <;> simp)
  · refine ⟨fun b o hb hc y=>?_,fun b o hc y=>?_⟩
    · rw [Heap.get?_update_other _ _ fun z=>hc (by rw [z]; exact List.mem_singleton.mpr rfl)]
      exact Heap.get?_push_of_some _ (by rw [z2 b hb]; exact y)
    · obtain ⟨sl,y1⟩:=z3 b o y
      refine ⟨sl,?_⟩
      rw [Heap.get?_update_other _ _ fun z=>hc (by rw [z]; exact List.mem_singleton.mpr rfl)]
      exact Heap.get?_push_of_some _ y1
theorem note_first {oe:Obj} {vs:Array Value} (h1:A.frames=some (env::outer)) (h2:s.heap.FunFrames base (env::outer)) (h3:env.frame=some L)
    (h4:s.heap.get? e=some oe) (h5:oe.data=.fields vs) (h6:vs[1]?=some .none) (h7:oe.dict=none)
    (q:∀ h' T,s.heap.get? T=none→Rec h' e T oe.cls (rawInt L)→Hop (frs (env::outer)) [e] s.heap h'→Q () { s with heap:=h' }):wpAny M A (noteFrame (.ref e) env) Q E s:=by
  unfold noteFrame
  simp only [h3]
  refine wpAny_bind (wpAny_field h4 h5 h6 ?_)
  rw [if_neg (by decide)]
  exact zh6 h1 h2 h3 h4 h5 (Array.getElem?_eq_some_iff.mp h6).1 h7 q
theorem zjb (h1:A.frames=some (env::outer)) (h2:s.heap.FunFrames base (env::outer)) (h3:env.frame=some L) (r:Rec s.heap e T cls .none)
    (q:∀ h' T',s.heap.get? T'=none→Rec h' e T' cls (rawInt L)→Hop (frs (env::outer)) [T,e] s.heap h'→Q () { s with heap:=h' }):wpAny M A (noteFrame (.ref e) env) Q E s:=by
  obtain ⟨oe,vs,oT,ts,⟨a1,a2,a3,a4⟩,b1,ne,b2,b3,b4⟩:=r
  subst a2
  unfold noteFrame
  simp only [h3]
  refine wpAny_bind (wpAny_field a1 a4 b1 ?_)
  rw [if_pos (by simp)]
  refine wpAny_bind (wpAny_field b2 b3 b4 ?_)
  rw [if_neg (by simp [rawInt])]
  refine wpAny_bind (wpAny_setField b2 b3 (Array.getElem?_eq_some_iff.mp b4).1 ?_)
  have other:∀ b,b≠T→∀ x:Obj→Obj,(s.heap.update T x).get? b=s.heap.get? b:=fun b hb x=>Heap.get?_update_other _ _ (Ne.symm hb)
  refine zh6 h1 (h2.of_keeps fun b o hb hn=>⟨o,?_,rfl⟩) h3 ((other e (Ne.symm ne) _).trans a1) a4 (Array.getElem?_eq_some_iff.mp b1).1 a3 fun h' T' n1 r1 hp=>q h' T' ?_ r1 ?_
  · rw [other b (fun z=>by rw [z,b2] at hb; cases hb; exact hn ts b3)]; exact hb
  · by_cases z:T'=T
    · rw [z] at n1
      rw [Heap.get?_update_self _ b2 (Obj.isFreed_of_fields (Obj.data_mapFields b3 _))] at n1
      cases n1
    · rw [other T' z] at n1; exact n1
  · exact (Hop.upd (fr:=frs (env::outer)) _).trans hp
theorem land (r:Rec s.heap e T cls fl) (q:∀ h',Rec h' e T cls .none→Hop (frs (env::outer)) [T] s.heap h'→Q () { s with heap:=h' }):wpAny M A (setFlight (.ref e) none) Q E s:=by
  obtain ⟨oe,vs,oT,ts,⟨a1,a2,a3,a4⟩,b1,ne,b2,b3,b4⟩:=r
  refine wpAny_setFlight_none a1 a4 b1 b2 b3 (Array.getElem?_eq_some_iff.mp b4).1 (q _ ?_ (Hop.upd _))
  have d:=Obj.data_mapFields b3 (·.setIfInBounds 3 Value.none)
  exact ⟨oe,vs,_,_,⟨(Heap.get?_update_other _ _ ne).trans a1,a2,a3,a4⟩,b1,ne,Heap.get?_update_self _ b2 (Obj.isFreed_of_fields d),d,by simp [(Array.getElem?_eq_some_iff.mp b4).1]⟩
end
structure Out (X:Cx) (pins:List (Addr×Obj)) (H:Hp) (b:Addr):Prop where
  h:H b=none
  s0:X.s₀.heap.get? b=none
  loc:b≠X.env.locals
  cell:∀ x c,X.env.cells.lookup x=some c→c≠b
  pin:∀ p∈X.pn++pins,p.1≠b
section
variable {P:Program} {w:World} {H:Hp} {h:Heap} {a:Addr} {o:HO}
theorem ObjOk.live (x:ObjOk P w H h a o):∃ u,h.get? a=some u:=by
  cases o with
  | lst xs=>obtain ⟨_,_,_,_,e⟩:=x; exact ⟨_,e⟩
  | tup xs=>obtain ⟨_,_,_,ob,e,_⟩:=x; exact ⟨_,e⟩
  | dK kvs=>obtain ⟨_,_,_,_,o,_,_,e,_⟩:=x; exact ⟨_,e⟩
  | dT kvs=>obtain ⟨_,_,_,_,o,_,_,e,_⟩:=x; exact ⟨_,e⟩
  | set S n=>obtain ⟨o,_,_,_,e,_⟩:=x; exact ⟨_,e⟩
  | ins C dx fs=>obtain ⟨_,_,_,e,_⟩:=x; exact ⟨_,e⟩
  | own y=>exact x
  | xd fs=>obtain ⟨_,⟨_,_,_,e,_⟩,_⟩:=x; exact ⟨_,e⟩
  | rng lo hi=>obtain ⟨_,_,_,e⟩:=x; exact ⟨_,e⟩
  | frz ob u=>obtain ⟨e,_⟩:=x; exact ⟨_,e⟩
  | tbl ps=>obtain ⟨_,_,_,_,e,_⟩:=x; exact ⟨_,e⟩
  | met f y=>exact ⟨_,show h.get? a=some _ from x⟩
  | ext φ=>obtain ⟨_,e,_⟩:=x; exact e
end
section
variable {X:Cx} {pins:List (Addr×Obj)} {σ:St} {H H':Hp} {s:Shared}
theorem Inv.out (I:Inv X pins σ H s) (hx:X.ex=[]) {b:Addr} (e:s.heap.get? b=none):Out X pins H b where
  h:=by
    cases q:H b with
    | none=>rfl
    | some o=>obtain ⟨u,hu⟩:=(I.hok b o q).live; rw [e] at hu; cases hu
  s0:=by
    cases q:X.s₀.heap.get? b with
    | none=>rfl
    | some o=>obtain ⟨u,hu⟩:=I.base.there b o q (by rw [hx]; simp); rw [e] at hu; cases hu
  loc:=fun z=>by
    obtain ⟨m,⟨o,_,_,ho,_⟩,_⟩:=I.loc
    rw [← z,e] at ho; cases ho
  cell:=fun x c q z=>by
    obtain ⟨v,o,ho,_⟩:=I.cell x c q
    rw [z,e] at ho; cases ho
  pin:=fun p hp z=>by
    have:=(I.pin p hp).1
    rw [z,e] at this; cases this
theorem Inv.hop {h':Heap} {ch:List Addr} {t':Nat} (I:Inv X pins σ H s) (hp:Hop (frs X.stack) ch s.heap h') (hc:∀ b∈ch,Out X pins H b):Inv X pins σ H { s with heap:=h',toks:=t' }:=by
  have nst:∀ b,b≠X.env.locals→b∉X.fs→b∉frs X.stack:=fun b h1 h2 h3=>by
    rcases List.mem_cons.mp (I.stkSub b h3) with z | z
    · exact h1 z
    · exact h2 z
  have neC:∀ b o,X.s₀.heap.get? b=some o→b∉ch:=fun b o e z=>by rw [(hc b z).s0] at e; cases e
  have neL:∀ b o,X.s₀.heap.get? b=some o→b≠X.env.locals:=fun b o e=>Nat.ne_of_lt (Nat.lt_of_lt_of_le (Heap.lt_size e) I.ok.above)
  have cellK:∀ x c,X.env.cells.lookup x=some c→∀ v,s.heap.IsCell c v→h'.IsCell c v:=fun x c e v ⟨o,ho,hd⟩=>by
    obtain ⟨sl,q⟩:=hp.slot c o (fun z=>(hc c z).cell x c e rfl) ho
    exact ⟨_,q,hd⟩
  refine ⟨I.ok,I.os,I.bare,⟨fun b o e n hb hx=>?_,fun b o e n hb hx=>?_,I.base.free,fun b o e hx=>?_,I.base.tups,I.base.frzs,I.base.tbls⟩,?_,fun x c e=>?_,I.free,I.freeC,fun p hq=>?_,fun b u e=>?_,I.len⟩
  · exact hp.keep b o (nst b (neL b o e) hb) (neC b o e) (I.base.keep b o e n hb hx)
  · obtain ⟨sl,e1⟩:=I.base.slot b o e n hb hx
    obtain ⟨sl',e2⟩:=hp.slot b _ (neC b o e) e1
    exact ⟨sl',e2⟩
  · obtain ⟨o',e1⟩:=I.base.there b o e hx
    obtain ⟨sl,e2⟩:=hp.slot b o' (neC b o e) e1
    exact ⟨_,e2⟩
  · obtain ⟨m,⟨o,es,ep,ho,r⟩,hl⟩:=I.loc
    obtain ⟨sl,q⟩:=hp.slot _ o (fun z=>(hc _ z).loc rfl) ho
    refine ⟨m,⟨_,es,ep,q,r⟩,fun i x v e1 e2 e3=>?_⟩
    obtain ⟨u,ru,l⟩:=hl i x v e1 e2 e3
    refine ⟨u,ru,?_⟩
    rcases l with l | ⟨k,c,e,z⟩
    · exact .inl l
    · exact .inr ⟨k,c,e,cellK x c e _ z⟩
  · obtain ⟨v,z⟩:=I.cell x c e
    exact ⟨v,cellK x c e v z⟩
  · obtain ⟨e,n,ne,nf,d⟩:=I.pin p hq
    exact ⟨hp.keep p.1 p.2 (nst _ ne nf) (fun z=>(hc _ z).pin p hq rfl) e,n,ne,nf,d⟩
  · have k:∀ c v,(H c).isSome=true→s.heap.get? c=some v→h'.get? c=some v:=fun c v hs q =>
      hp.keep c v (fun z=>by rw [I.stkFree c z] at hs; cases hs) (fun z=>by rw [(hc c z).h] at hs; cases hs) q
    refine (I.hok b u e).stay (fun c v hb q=>k c v ?_ q) (fun _ q=>q) fun _ _ q=>q
    rcases hb with rfl | hb
    · rw [e]; rfl
    · rw [hb]; rfl
theorem Out.weak {b:Addr} (o:Out X pins H b) (h:H' b=none):Out X pins H' b:=⟨h,o.s0,o.loc,o.cell,o.pin⟩
end
def Fly (h₀ h:Heap) (H:Hp) (e:Addr) (cls:Value):Prop:=∃ T,Rec h e T cls .none∧(H e=none∧h₀.get? e=none)∧(H T=none∧h₀.get? T=none)
def CXE (P:Program) (w:World):CXT:=fun outer H s E e s'=>∃ a cls H',e=.ref a∧s'.os=s.os∧AllBare s'.gens∧Un (frs outer) [] H H' s.heap s'.heap∧HOk P w H' s'.heap∧Fly s.heap s'.heap H' a cls∧E cls none H'
structure OwnX (X:Cx):Prop where
  stk:X.stack=X.env::X.outer
  fr:X.env.frame=some X.env.locals
  ex:X.ex=[]
section
variable {X:Cx} {pins:List (Addr×Obj)} {σ:St} {H:Hp} {s s':Shared} {E:XK} {e:Value}
theorem Inv.raised (I:Inv X pins σ H s) (hx:X.ex=[]) (h:CXE X.prog X.w X.stack H s E e s'):∃ a T cls H',e=.ref a∧Inv X pins σ H' s'∧Rec s'.heap a T cls .none∧Out X pins H' a∧Out X pins H' T∧E cls none H':=by
  obtain ⟨a,cls,H',rfl,ho,hb,u,hok,⟨T,r,⟨a1,a2⟩,b1,b2⟩,q⟩:=h
  exact ⟨a,T,cls,H',rfl,I.call' ho u hok hb (fun b z=>absurd z (by simp)),r,(I.out hx a2).weak a1,(I.out hx b2).weak b1,q⟩
theorem Inv.leave {a T:Addr} {cls:Value} {Ex:Value→Shared→Prop} (I:Inv X pins σ H s) (ow:OwnX X) (r:Rec s.heap a T cls .none) (o1:Out X pins H a) (o2:Out X pins H T) (q:E cls none H) :
    wpAny (model X.prog X.w) X.A (leaving X.env (.ref a)) (fun _ s''=>CXE X.prog X.w X.outer X.H₀ X.s₀ E (.ref a) s'') Ex s:=by
  unfold leaving
  refine wpAny_bind (zjb (base:=X.base) (outer:=X.outer) (by rw [← ow.stk]; exact I.ok.frames) (by rw [← ow.stk]; exact I.stack) ow.fr r fun h1 T' n1 r1 p1=>?_)
  have o3:=I.out ow.ex n1
  rw [← ow.stk] at p1
  have I1:Inv X pins σ H { s with heap:=h1,toks:=s.toks }:=I.hop p1 fun b hb=>by
    rcases List.mem_cons.mp hb with rfl | hb
    · exact o2
    · rw [List.mem_singleton.mp hb]; exact o1
  refine land (env:=X.env) (outer:=X.outer) (s:={ s with heap:=h1 }) r1 fun h2 r2 p2=>?_
  rw [← ow.stk] at p2
  have I2:Inv X pins σ H { s with heap:=h2,toks:=s.toks }:=I1.hop p2 fun b hb=>by rw [List.mem_singleton.mp hb]; exact o3
  have u:=I2.base
  rw [ow.ex] at u
  exact ⟨a,cls,H,rfl,I2.os,I2.bare,u,I2.hok,⟨T',r2,⟨o1.h,o1.s0⟩,o3.h,o3.s0⟩,q⟩
theorem Inv.leaveNew {a:Addr} {h':Heap} {cls:Value} {vs:List Value} {t':Nat} {Ex:Value→Shared→Prop} (I:Inv X pins σ H s) (ow:OwnX X) (m:Heap.MadeExcOf s.heap h' a cls vs) (q:E cls none H) :
    wpAny (model X.prog X.w) X.A (leaving X.env (.ref a)) (fun _ s''=>CXE X.prog X.w X.outer X.H₀ X.s₀ E (.ref a) s'') Ex { s with heap:=h',toks:=t' }:=by
  have I0:Inv X pins σ H { s with heap:=h',toks:=t' }:=I.kept m.keeps
  have o1:=I.out ow.ex m.new
  obtain ⟨t,m1,_,_⟩:=m.there
  unfold leaving
  refine wpAny_bind (note_first (base:=X.base) (outer:=X.outer) (by rw [← ow.stk]; exact I.ok.frames) (by rw [← ow.stk]; exact I0.stack) ow.fr m1 rfl rfl rfl fun h1 T n1 r1 p1=>?_)
  have o3:=I0.out ow.ex n1
  rw [← ow.stk] at p1
  have I1:Inv X pins σ H { s with heap:=h1,toks:=t' }:=I0.hop p1 fun b hb=>by rw [List.mem_singleton.mp hb]; exact o1
  refine land (env:=X.env) (outer:=X.outer) (s:={ s with heap:=h1,toks:=t' }) r1 fun h2 r2 p2=>?_
  rw [← ow.stk] at p2
  have I2:Inv X pins σ H { s with heap:=h2,toks:=t' }:=I1.hop p2 fun b hb=>by rw [List.mem_singleton.mp hb]; exact o3
  have u:=I2.base
  rw [ow.ex] at u
  exact ⟨a,cls,H,rfl,I2.os,I2.bare,u,I2.hok,⟨T,r2,⟨o1.h,o1.s0⟩,o3.h,o3.s0⟩,q⟩
end
def XLink (X:Cx) (E:XK):Prop:=∀ (e:Value) (s':Shared),wpAny (model X.prog X.w) X.A (leaving X.env e) (fun _ s''=>CXE X.prog X.w X.outer X.H₀ X.s₀ E e s'') (fun e' s''=>CXE X.prog X.w X.outer X.H₀ X.s₀ E e' s'') s'→X.xe e s'
theorem XLink.passes {X:Cx} {E:XK} (l:XLink X E) (ow:OwnX X):zii (CXE X.prog X.w) X E:=fun pins σ H s e s' I h=>by
  obtain ⟨a,T,cls,H',rfl,I',r,o1,o2,q⟩:=I.raised ow.ex h
  exact l _ _ (I'.leave ow r o1 o2 q)
theorem exc_obj {K:PySem.W.Frag} {h:Heap} {C:Addr} {bmB:List Value} {newId:String} (X:K.In h) (q:PySem.W.excIn K C bmB newId=true) :
    ∃ bm N nm qn bs hd sn sub ab col dd k0 k1 k2 k3 k5 mN,h.get? C=some (excClassObj nm qn C N bs bm hd sn sub ab col dd k0 k1 k2 k3 k5 newId)∧h.Ns N mN∧mN "__init__" = none∧OwnTail h bmB bm:=by
  unfold PySem.W.excIn at q
  split at q
  case h_2=>cases q
  case h_1 dd cd sl ho =>
    split at q
    case h_2=>cases q
    case h_1 C1 bm k0 k1 k2 k3 n k5 hm hs =>
      rw [Bool.and_eq_true,Bool.and_eq_true,Bool.and_eq_true,Bool.and_eq_true,Bool.and_eq_true] at q
      obtain ⟨⟨⟨⟨⟨q1,q2⟩,q3⟩,q4⟩,q5⟩,q6⟩:=q
      cases beq_iff_eq.mp q1
      cases beq_iff_eq.mp q2
      have q7:cd.hasDel=false:=by simpa using q3
      clear q3
      obtain ⟨f1,f2,f3,f4,f5,f6,f7,f8,f9,f10,f11⟩:=cd
      dsimp only at hm q7 q4 q5 q6
      subst hm q7
      obtain ⟨l⟩:=sl
      have hs:l=_:=hs
      subst hs
      exact ⟨bm,_,_,_,_,_,_,_,_,_,dd,k0,k1,k2,k3,k5,_,X _ _ ho,.of_isNs (PySem.W.isNs_of_in X q5),PySem.W.nsMap_none_of_in X q5 (beq_iff_eq.mp q6),PySem.W.tail_of_in X q4⟩
def zmf (C:Addr) (E:XK) (ta:TA):TS:=fun _ σ H=>ta σ H fun vs H1=>vs.length≤sizeLine∧E (.ref C) none H1
theorem ziq {X:Cx} {E:XK} {x:Str} {C:Addr} {B newId initId:String} {bmB:List Value} {np cpos pos:Pos} {a:Expr} {as:List Expr} {ta:TA} (l:XLink X E) (ow:OwnX X) (hc:X.calm=true) (FB:ExcBaseFacts B newId initId bmB) (hg:Gl X x) (hm:X.mg x=some (.ref C))
    (hq:PySem.W.excIn X.K C bmB newId=true) (ha:PA X (a::as) ta) (hdb:(x==("__debug__" : Str))=false:=by decide)
    (he:starEach (a::as) X.env=(false,eval a X.env)::starEach as X.env:=by rfl) (hpl:(backTo cpos (starEach as X.env)).any (·.1)=false:=by rfl) :
    PS X (.Raise (some (.Call (.Name x np) (a::as) [] cpos)) none pos) (zmf C E ta):=by
  intro pins s σ H D I h
  obtain ⟨bm,N,nm,qn,bs,hd,sn,sub,ab,col,dd,k0,k1,k2,k3,k5,mN,c1,c2,c3,c4⟩:=exc_obj (h:=X.base) I.mod.kin hq
  refine wpAny_Raise_call_subT (C:=C) (nm:=nm) (q:=qn) (N:=N) (bs:=bs) (bm:=bm) (hdct:=hd) (sn:=sn) (sub:=sub) (ab:=ab) (col:=col) (dd:=dd) (k0:=k0) (k1:=k1) (k2:=k2) (k3:=k3) (k5:=k5) (mN:=mN) FB (c4.hasType FB.hasBase) (I.ok.hd hc) ?_ c3 (zh3 I hg hm ⟨rfl,?_⟩ hdb)
  · rw [he]
    show (false || (backTo cpos (starEach as X.env)).any fun x=>x.1)=false
    rw [hpl]; rfl
  · have p:=ha cpos pins s σ H _ I h
    rw [he] at p ⊢
    refine Calls.evalArgs_plain (thn p fun us s1 ⟨vs,H1,I1,rv,hl,q⟩=>⟨rfl,by rw [← rv.length]; exact hl,I1.bk _ _ c1,c2.keeps I1.bk,c4.keeps I1.bk,fun h' e m=>?_⟩)
    exact l _ _ (I1.leaveNew (t':=s1.toks) ow m q)
theorem Fun.okE {P:Program} {w:World} {K:PySem.W.Frag} {mg:Str→Option Value} {base:Heap} {CX:CXT} {x qual:Str} {st:Stmt} {f:Addr} {fd:FuncData} {N ps:List Str} {k:Nat} {sp:Sp} (F:Fun K x qual st f fd) (S:FnScope N ps (zao st)) (len:∀ vs H Q E,sp vs H Q E→vs.length=ps.length)
    (hb:∀ (cdv:Value) (A:Around) (outer:List Env) (s:Shared) (H:Hp) (vs:List V) (Q:VK) (E:XK),Room k (A.deeper (envOfC qual (zao st) s.heap.objs.size f cdv))→sp vs H Q E →
      ∃ t,PSs (cxOf CX P w K mg base N qual (zao st) f cdv A outer s H E) (zbh st) t∧t { nx:=fun _ H'=>Q .non H',rt:=Q } (start N vs) H):FnOk P w K mg base CX (k+1) f fd ps sp:=by
  obtain ⟨oc,od,kV,doc,pm,an,cdv,ct,osl,rfl,lk,hcd⟩:=F.ex
  exact fn_of lk hcd S len fun A outer s H vs Q E hr hsp=>hb cdv A outer s H vs Q E hr hsp
end L2
namespace L2
open PySem PySem.Spec PyProof.Rows
def excP (a C:Addr) (h:Heap):Prop:=∃ o,h.get? a=some o∧o.cls=.ref C∧o.dict=none∧PySem.W.notCls o=true
theorem Rec.exc {h:Heap} {e T C:Addr} {fl:Value} (r:Rec h e T (.ref C) fl):excP e C h:=by
  obtain ⟨oe,vs,_,_,⟨a1,a2,a3,a4⟩,_⟩:=r
  exact ⟨oe,a1,a2,a3,by unfold PySem.W.notCls; rw [a4]⟩
section
variable {X:Cx} {pins:List (Addr×Obj)} {σ:St} {H:Hp} {s:Shared} {a:Addr} {u:HO}
def Cx.marked (X:Cx) (e:Value):Cx:={ X with A:=X.A.mark (some e),calm:=false }
theorem Inv.marked (I:Inv X pins σ H s) (e:Value):Inv (X.marked e) pins σ H s :=
  ⟨⟨I.ok.mod,I.ok.kind,I.ok.glob,I.ok.blt,I.ok.above,I.ok.inj,I.ok.has,I.ok.cab,(fun z=>by cases z),I.ok.frames,I.ok.stk,I.ok.exf,I.ok.bs,I.ok.bsz,I.ok.noex,I.ok.exfs,I.ok.funs,I.ok.frf⟩,I.os,I.bare,I.base,I.loc,I.cell,I.free,I.freeC,I.pin,I.hok,I.len⟩
theorem Inv.unmarked {e:Value} {xe:Value→Shared→Prop} (ok:X.Ok) (I:Inv ((X.marked e).wish xe) pins σ H s):Inv X pins σ H s :=
  ⟨ok,I.os,I.bare,I.base,I.loc,I.cell,I.free,I.freeC,I.pin,I.hok,I.len⟩
end
section
variable {X:Cx} {k:Nat} {f:Addr} {fd:FuncData} {ps:List Str} {sp:Sp} {x y n v:Str} {e:Expr} {es:List Expr} {t:TA} {F:Value} {iv ie:Nat} {p1 p2 p3 p4 p5 p6 p7 p8 pos:Pos}
end
structure ExcK (K:PySem.W.Frag) (C:Addr):Prop where
  ga:PySem.W.findIn K (.ref C) "__getattribute__" = some (some (.builtin "BaseException.__getattribute__"))
  gk:PySem.W.findIn K (.ref C) "__getattr__" = some none
  hd:PySem.W.hasDictIn K C=true
  ca:PySem.W.findIn K (.ref C) "__class__" = some (some (.builtin "object.__class__"))
  sp:PySem.W.specialIn K (.builtin "object.__class__") "__get__" = some (some (.builtin "getset_descriptor.__get__"))
  tk:PySem.W.takesIn K (.builtin "object.__class__")=some true
  mro:PySem.W.mroIn K C (.type "object")=some true
  mrb:PySem.W.mroIn K C (.type "BaseException")=some true
end L2
namespace L2
open PySem PySem.Spec PyProof.Rows
def tFs:List TE→St→Hp→(Hp→Prop)→Prop
  | [],_,H,R=>R H
  | t::ts,σ,H,R=>t σ H fun x H1=>∃ i,x=.int i∧i.natAbs.log2<1920∧tFs ts σ H1 R
def tJoin (ts:List TE):TE:=fun σ H Q=>tFs ts σ H fun H'=>∀ x,Q (.str x) H'
inductive PParts (X:Cx):List Expr→List TE→Prop
  | nil:PParts X [] []
  | text {x:Str} {j p es ts} (hx:x.length≤1000) (h:PParts X es ts):PParts X (.Constant (.str x) j p::es) ts
  | val {e:Expr} {p es ts} {t:TE} (he:PE X e t) (h:PParts X es ts):PParts X (.FormattedValue e (-1) none p::es) (t::ts)
theorem joins {X:Cx} {es:List Expr} {ts:List TE} (h:PParts X es ts):∀ (out:Str) (pins:List (Addr×Obj)) (s:Shared) (σ:St) (H:Hp) (Q:VK),out.length+2000*es.length≤sizeLine→Inv X pins σ H s→tFs ts σ H (fun H'=>∀ x,Q (.str x) H') →
    wpAny (model X.prog X.w) X.A (joinParts out (evalEach es X.env)) (EP X pins σ Q) X.xe s:=by
  induction h with
  | nil =>
    intro out pins s σ H Q hl I q
    exact joinParts_nil ⟨.str out,H,I.tok _,⟨_,rfl⟩,q out⟩ (by simpa using hl)
  | @text x j p es ts hx h ih =>
    intro out pins s σ H Q hl I q
    rw [List.length_cons] at hl
    refine joinParts_cons (Calls.Constant_str ⟨?_,ih _ _ _ σ H Q ?_ (I.tok _) q⟩)
    · rw [PySem.strLen_append]; omega
    · rw [PySem.strLen_append]; omega
  | @val e p es ts t he h ih =>
    intro out pins s σ H Q hl I q
    rw [List.length_cons] at hl
    refine joinParts_cons (FormattedValue_plain (thn (he pins s σ H _ I q) fun u s1 ⟨x,H1,I1,r1,i,hx,hi,q1⟩=>?_))
    subst hx
    obtain ⟨tk,rfl⟩:=r1
    have e:=int_text_length_le (k:=1920) (by decide) hi
    have e2:(Str.ofString (toString i)).length≤1921:=by rw [PySem.ofString_length]; exact e
    refine formatField_int_small hi ⟨?_,ih _ _ _ σ H1 Q ?_ (I1.tok _) q1⟩
    · show (out++Str.ofString (toString i)).length≤sizeLine
      rw [PySem.strLen_append]; omega
    · show (out++Str.ofString (toString i)).length+_≤sizeLine
      rw [PySem.strLen_append]; omega
theorem zlc {X:Cx} {a b:Expr} {es:List Expr} {ts:List TE} {pos:Pos} (h:PParts X (a::b::es) ts) (hl:es.length≤1000:=by decide):PE X (.JoinedStr (a::b::es) pos) (tJoin ts):=fun pins s σ H Q I q =>
  JoinedStr_many (joins h Str.empty pins s σ H Q (by
    have hz:sizeLine=16777216:=sizeLine_eq
    have e:(Str.empty).length=0:=rfl
    rw [e,hz,List.length_cons,List.length_cons]; omega) I q)
def tOrS (t u:TS):TS:=fun D σ H=>t D σ H∨u D σ H
theorem zm7 {X:Cx} {st:Stmt} {t u:TS} (h1:PS X st t) (h2:PS X st u):PS X st (tOrS t u):=fun pins s σ H D I h=>h.elim (h1 pins s σ H D I) (h2 pins s σ H D I)
end L2
namespace VL
open PySem L2
open Classical
noncomputable section
variable [Tabs] {K:PySem.W.Frag}
def spX (K:PySem.W.Frag) (ms:List Bool) (C:Addr) (F:List D→Option D):Sp:=fun vs H _ E=>∃ (Z:Addr→Prop) (ds:List D) (d:D),ZT Z H∧Args K H Z ms vs ds∧F ds=some d∧∀ H',Same H H'→E (.ref C) none H'
theorem Fun.okX {P:Program} {w:World} {mg:Str→Option Value} {base:Heap} {x qual:Str} {st:Stmt} {f C:Addr} {fd:FuncData} {N ps:List Str} {k:Nat} (F:Fun K x qual st f fd) (S:FnScope N ps (zao st)) (ms:List Bool) (hms:ms.length=ps.length) (b:DS)
    (hbody:∀ (cdv:Value) (A:Around) (outer:List Env) (s:Shared) (H:Hp) (E:XK),Room k (A.deeper (PyProof.Rows.envOfC qual (zao st) s.heap.objs.size f cdv)) →
      ∃ t,PSs (cxOf (CXE P w) P w K mg base N qual (zao st) f cdv A outer s H E) (zbh st) t∧SemS (.x E C) K t b):FnOk P w K mg base (CXE P w) (k+1) f fd ps (spX K ms C (runF N.length ms b)):=by
  refine F.okE S (fun vs H Q E h=>?_) (fun cdv A outer s H vs Q E hr h=>?_)
  · obtain ⟨Z,ds,d,hz,a,_⟩:=h
    rw [a.len.1,hms]
  · obtain ⟨Z,ds,d,hz,a,e,k⟩:=h
    obtain ⟨t,h1,h2⟩:=hbody cdv A outer s H E hr
    refine ⟨t,h1,h2 (zk6 hz a) ?_⟩
    unfold runF at e
    split at e
    · rename_i d' e1
      cases e
      rw [e1]
      exact k
    · cases e
variable {E:XK} {C:Addr}
@[irreducible] noncomputable def sX (x:DE):DS:=fun ρ=>match x ρ with
  | some d=>.rt d
  | none=>.no
@[irreducible] noncomputable def sXor (x:DE) (s:DS):DS:=fun ρ=>match x ρ with
  | some d=>.rt d
  | none=>s ρ
theorem ss_or {t u:TS} {x:DE} {s:DS} (h1:SemS (.x E C) K t (sX x)) (h2:SemS (.x E C) K u s):SemS (.x E C) K (tOrS t u) (sXor x s):=fun {B Z os ρ σ H En} f p=>by
  unfold sXor at p
  cases e:x ρ with
  | none=>rw [e] at p; exact .inr (h2 f p)
  | some d =>
    rw [e] at p
    refine .inl (h1 f ?_)
    unfold sX
    rw [e]
    exact p
theorem sx_call {ms:List Bool} {F:List D→Option D} {t:TA} {es:Rho→Option (List D)} (ha:SemA K ms t es) {B:Hp} {Z:Addr→Prop} {os:Own} {ρ:Rho} {σ:L2.St} {H:Hp} {d:D} (f:Fr K B Z os ρ σ H) (q:za8 F es ρ=some d) (p:∀ H',Same B H'→E (.ref C) none H') (Q:VK) :
    zk5 (spX K ms C F) [] E t σ H Q:=by
  unfold za8 at q
  split at q
  · rename_i ds e
    refine ha f e fun vs H1 s1 a=>?_
    show spX K ms C F (vs++[]) H1 Q E
    rw [List.append_nil]
    exact ⟨tot Z os,ds,d,(f.grow s1).zt,a,q,fun H2 s2=>p H2 (f.keep.trans (s1.trans s2))⟩
  · cases q
theorem ss_xset {ms:List Bool} {F:List D→Option D} {t:TA} {es:Rho→Option (List D)} {g:TG} (ha:SemA K ms t es):SemS (.x E C) K (tAsg (zk5 (spX K ms C F) [] E t) g) (sX (za8 F es)):=fun {B Z os ρ σ H En} f p=>by
  unfold sX at p
  split at p
  · rename_i d e; exact sx_call ha f e p _
  · exact p.elim
def fmtD:List DE→Rho→Bool
  | [],_=>true
  | a::as,ρ=>match a ρ with
    | some (.int i)=>decide (i.natAbs.log2<1920)&&fmtD as ρ
    | _=>false
inductive SemJ (K:PySem.W.Frag):List TE→List DE→Prop
  | nil:SemJ K [] []
  | cons {t ts a as} (h:SemB K t a) (r:SemJ K ts as):SemJ K (t::ts) (a::as)
theorem semJ {ts:List TE} {as:List DE} (h:SemJ K ts as):∀ {B:Hp} {Z:Addr→Prop} {os:Own} {ρ:Rho} {σ:L2.St} {H:Hp} {R:Hp→Prop},Fr K B Z os ρ σ H→fmtD as ρ=true→(∀ H',Same H H'→R H')→tFs ts σ H R:=by
  induction h with
  | nil=>intro B Z os ρ σ H R f _ k; exact k H (Same.refl _)
  | @cons t ts a as h r ih =>
    intro B Z os ρ σ H R f q k
    unfold fmtD at q
    split at q
    · rename_i i e
      rw [Bool.and_eq_true] at q
      exact h f e fun v H1 s1 i1=>⟨i,i1.isInt,of_decide_eq_true q.1,ih (f.grow s1) q.2 fun H' s2=>k H' (s1.trans s2)⟩
    · cases q
@[irreducible] noncomputable def zg8 (as:List DE):DS:=fun ρ=>if fmtD as ρ=true then .rt .non else .no
theorem zi2 {ts:List TE} {as:List DE} (h:SemJ K ts as):SemS (.x E C) K (zmf C E (zdw (tJoin ts) tNil)) (zg8 as):=fun {B Z os ρ σ H En} f p=>by
  unfold zg8 at p
  split at p
  · rename_i q
    exact semJ h f q fun H1 s1 x=>⟨by have:=sizeLine_eq; show 1≤sizeLine; omega,p H1 (f.keep.trans s1)⟩
  · exact p.elim
theorem ss_raiseC {x:Str}:SemS (.x E C) K (zmf C E (zdw (tC (.str x)) tNil)) (zg8 []):=fun {B Z os ρ σ H En} f p=>by
  unfold zg8 at p
  rw [if_pos (show fmtD [] ρ=true from rfl)] at p
  exact ⟨by have:=sizeLine_eq; show 1≤sizeLine; omega,p H f.keep⟩
theorem wp_xor {x:DE} {s:DS} {ρ:Rho} {d:D} {W:Wk} (h:x ρ=some d) (k:W.rt d):Wp (sXor x s) ρ W:=by unfold Wp sXor; rw [h]; exact k
theorem wp_xorN {x:DE} {s:DS} {ρ:Rho} {W:Wk} (h:x ρ=none) (k:Wp s ρ W):Wp (sXor x s) ρ W:=by
  unfold Wp at *
  unfold sXor
  rw [h]
  exact k
theorem wp_raise {as:List DE} {ρ:Rho} {W:Wk} (h:fmtD as ρ=true) (k:W.rt .non):Wp (zg8 as) ρ W:=by unfold Wp zg8; rw [if_pos h]; exact k
theorem fmt_nil {ρ:Rho}:fmtD [] ρ=true:=rfl
theorem fmt_cons {a:DE} {as:List DE} {ρ:Rho} {i:Int} (h:a ρ=some (.int i)) (hi:i.natAbs.log2<1920) (r:fmtD as ρ=true):fmtD (a::as) ρ=true:=by
  unfold fmtD
  rw [h]
  simp [hi,r]
theorem zc9 {H:Hp} {a:Addr} {o:HO} (h:H a=none):Same H (upd H a o):=fun b u e=>by rw [upd_ne (zb2 e h)]; exact e
variable {iv ie:Nat}
end
end VL
namespace VL
open PySem L2
open Classical
noncomputable section
variable [Tabs] {K:PySem.W.Frag} {fr:Fm}
end
end VL
namespace Srt
open PySem PySem.W PyProof.Rows
section
variable {lt:Nat→Nat→Bool} {N:Nat}
structure Ord (lt:Nat→Nat→Bool):Prop where
  tr:∀ a b c,lt b a=false→lt c b=false→lt c a=false
  as:∀ a b,lt a b=true→lt b a=false
abbrev g (p:Array Nat) (i:Nat):Nat:=p.getD i 0
def Up (lt:Nat→Nat→Bool) (p:Array Nat) (k:Nat):Prop:=∀ i j,i≤j→j<k→lt (g p j) (g p i)=false
end
end Srt
namespace L2
open PySem PySem.Spec PyProof.Rows
section
variable {X:Cx} {pins:List (Addr×Obj)} {σ:St} {H:Hp} {s:Shared}
end
section
open PySem.W
variable {prog:Program} {w:World} {A:Around} {E:Value→Shared→Prop} {s:Shared} {a:Addr} {n:Nat} {vs:List Value}
end
end L2
namespace L2
open PySem PySem.Spec PyProof.Rows
end L2
namespace VL
open PySem L2
open Classical
noncomputable section
variable [Tabs] {K:PySem.W.Frag}
end
end VL
namespace L2
open PySem PySem.Spec PyProof.Rows
section
variable {M:Model} {A:Around} {E:Value→Shared→Prop} {s:Shared} {base:Heap} {env:Env} {outer:List Env} {L e T:Addr} {cls fl:Value} {Q:Unit→Shared→Prop}
theorem note_any (h1:A.frames=some (env::outer)) (h2:s.heap.FunFrames base (env::outer)) (h3:env.frame=some L) (r:Rec s.heap e T cls fl) (hf:(fl==rawInt L)=false)
    (q:∀ h' T',s.heap.get? T'=none→Rec h' e T' cls (rawInt L)→Hop (frs (env::outer)) [T,e] s.heap h'→Q () { s with heap:=h' }):wpAny M A (noteFrame (.ref e) env) Q E s:=by
  obtain ⟨oe,vs,oT,ts,⟨a1,a2,a3,a4⟩,b1,ne,b2,b3,b4⟩:=r
  subst a2
  unfold noteFrame
  simp only [h3]
  refine wpAny_bind (wpAny_field a1 a4 b1 ?_)
  rw [if_pos (by simp)]
  refine wpAny_bind (wpAny_field b2 b3 b4 ?_)
  rw [hf,if_neg Bool.false_ne_true]
  refine wpAny_bind (wpAny_setField b2 b3 (Array.getElem?_eq_some_iff.mp b4).1 ?_)
  have other:∀ b,b≠T→∀ x:Obj→Obj,(s.heap.update T x).get? b=s.heap.get? b:=fun b hb x=>Heap.get?_update_other _ _ (Ne.symm hb)
  refine zh6 h1 (h2.of_keeps fun b o hb hn=>⟨o,?_,rfl⟩) h3 ((other e (Ne.symm ne) _).trans a1) a4 (Array.getElem?_eq_some_iff.mp b1).1 a3 fun h' T' n1 r1 hp=>q h' T' ?_ r1 ?_
  · rw [other b (fun z=>by rw [z,b2] at hb; cases hb; exact hn ts b3)]; exact hb
  · by_cases z:T'=T
    · rw [z] at n1
      rw [Heap.get?_update_self _ b2 (Obj.isFreed_of_fields (Obj.data_mapFields b3 _))] at n1
      cases n1
    · rw [other T' z] at n1; exact n1
  · exact (Hop.upd (fr:=frs (env::outer)) _).trans hp
theorem note_same (h3:env.frame=some L) (r:Rec s.heap e T cls fl) (hf:(fl==rawInt L)=true) (q:Q () s):wpAny M A (noteFrame (.ref e) env) Q E s:=by
  obtain ⟨oe,vs,oT,ts,⟨a1,a2,a3,a4⟩,b1,ne,b2,b3,b4⟩:=r
  unfold noteFrame
  simp only [h3]
  refine wpAny_bind (wpAny_field a1 a4 b1 ?_)
  rw [if_pos (by simp)]
  refine wpAny_bind (wpAny_field b2 b3 b4 ?_)
  rw [hf,if_pos rfl]
  exact wpAny_pure q
theorem fly_on {what:String} {cenv:Env} {α:Type} {P:α→Shared→Prop} (r:Rec s.heap e T cls fl) (q:∀ h' fl',Rec h' e T cls fl'→Hop (frs (env::outer)) [T] s.heap h'→E (.ref e) { s with heap:=h' }):wpAny M A (PySem.passOn what (.ref e) cenv:Sem α) P E s:=by
  obtain ⟨oe,vs,oT,ts,⟨a1,a2,a3,a4⟩,b1,ne,b2,b3,b4⟩:=r
  unfold PySem.passOn
  refine wpAny_bind (wpAny_field a1 a4 b1 ?_)
  rw [if_neg (by simp)]
  refine wpAny_bind ?_
  unfold setFlight
  refine wpAny_bind (wpAny_field a1 a4 b1 ?_)
  rw [if_pos (by simp)]
  refine wpAny_setField b2 b3 (Array.getElem?_eq_some_iff.mp b4).1 ?_
  refine wpAny_throw (q _ (cenv.frame.elim .none fun f=>rawInt f) ?_ (Hop.upd _))
  have d:=Obj.data_mapFields b3 (·.setIfInBounds 3 (cenv.frame.elim Value.none fun f=>rawInt f))
  exact ⟨oe,vs,_,_,⟨(Heap.get?_update_other _ _ ne).trans a1,a2,a3,a4⟩,b1,ne,Heap.get?_update_self _ b2 (Obj.isFreed_of_fields d),d,by simp [(Array.getElem?_eq_some_iff.mp b4).1]⟩
end
section
variable {X:Cx} {pins:List (Addr×Obj)} {σ:St} {H:Hp} {s s':Shared} {E:XK} {e:Value}
theorem Inv.leaveAny {a T:Addr} {cls fl:Value} {Ex:Value→Shared→Prop} (I:Inv X pins σ H s) (ow:OwnX X) (r:Rec s.heap a T cls fl) (o1:Out X pins H a) (o2:Out X pins H T) (q:E cls none H) :
    wpAny (model X.prog X.w) X.A (leaving X.env (.ref a)) (fun _ s''=>CXE X.prog X.w X.outer X.H₀ X.s₀ E (.ref a) s'') Ex s:=by
  have fin:∀ {h1:Heap} {T':Addr} {fl':Value},Inv X pins σ H { s with heap:=h1,toks:=s.toks }→Rec h1 a T' cls fl'→Out X pins H T'→wpAny (model X.prog X.w) X.A (setFlight (.ref a) none) (fun _ s''=>CXE X.prog X.w X.outer X.H₀ X.s₀ E (.ref a) s'') Ex { s with heap:=h1 }:=fun {h1 T' fl'} I1 r1 o3=>by
    refine land (env:=X.env) (outer:=X.outer) (s:={ s with heap:=h1 }) r1 fun h2 r2 p2=>?_
    rw [← ow.stk] at p2
    have I2:Inv X pins σ H { s with heap:=h2,toks:=s.toks }:=I1.hop p2 fun b hb=>by rw [List.mem_singleton.mp hb]; exact o3
    have u:=I2.base
    rw [ow.ex] at u
    exact ⟨a,cls,H,rfl,I2.os,I2.bare,u,I2.hok,⟨T',r2,⟨o1.h,o1.s0⟩,o3.h,o3.s0⟩,q⟩
  unfold leaving
  cases hf:(fl==rawInt X.env.locals) with
  | true=>exact wpAny_bind (note_same ow.fr r hf (fin I r o2))
  | false =>
    refine wpAny_bind (note_any (base:=X.base) (outer:=X.outer) (by rw [← ow.stk]; exact I.ok.frames) (by rw [← ow.stk]; exact I.stack) ow.fr r hf fun h1 T' n1 r1 p1=>?_)
    have o3:=I.out ow.ex n1
    rw [← ow.stk] at p1
    refine fin (I.hop p1 fun b hb=>?_) r1 o3
    rcases List.mem_cons.mp hb with rfl | hb
    · exact o2
    · rw [List.mem_singleton.mp hb]; exact o1
end
section
variable {prog:Program} {w:World} {A:Around} {R:Result→Shared→Prop} {s:Shared}
theorem compLoop_genX {elt target iter:Expr} {scope:Scope} {pos:Pos} {it acc:Value} {env:Env} (I:Nat→Shared→Prop)
    (turn:∀ n s,I n s→wpAny (model prog w) A (pyNext it) (fun r s₁=>match r with
      | none=>R (.ok .next) s₁
      | some v=>wpAny (model prog w) A (letOwnedTupleGo target it v) (fun _ s₀=>wpAny (model prog w) A (assign target env v) (fun _ s₂ =>
          wpAny (model prog w) A (eval elt env) (fun x s₄ =>
              wpAny (model prog w) A (call (.builtin "list.append") [acc,x]) (fun _ s₅=>∃ m,m<n∧I m s₅) (notedBy (model prog w) A env fun e s'=>R (.error e) s') s₄) (notedBy (model prog w) A env fun e s'=>R (.error e) s') s₂) (notedBy (model prog w) A env fun e s'=>R (.error e) s') s₀) (notedBy (model prog w) A env fun e s'=>R (.error e) s') s₁) (notedBy (model prog w) A env fun e s'=>R (.error e) s') s)
    (n:Nat) (h:I n s) :
    codeAny (model prog w) A (.compLoop (.ListComp elt [⟨target,iter,[],0⟩] scope pos) 0 it acc env) R s:=by
  refine codeAny_loop rfl I (fun n s hI=>?_) n h
  show wpAny _ A ((compTurn (.ListComp elt [⟨target,iter,[],0⟩] scope pos) 0 it acc env).onRaise (fun x=>do noteFrame x env; theTreesLotGoes x)) _ _ s
  refine wpAny_noted ?_
  rw [compTurn_list]
  refine wpAny_bind (wpAny_standAt (wpAny_bind (wpAny_mono (turn n s hI) (fun r s₁ h₁=>?_) fun _ _ h'=>h')))
  cases r with
  | none=>exact wpAny_pure h₁
  | some v =>
    refine wpAny_bind (wpAny_mono h₁ (fun _ s₀ h₀=>?_) fun _ _ h'=>h')
    refine wpAny_bind (wpAny_mono h₀ (fun _ s₂ h₂=>wpAny_bind (wpAny_tests_nil ?_)) fun _ _ h'=>h')
    exact wpAny_bind (wpAny_bind (wpAny_mono h₂ (fun x s₄ h₄=>wpAny_bind (wpAny_mono h₄ (fun _ s₅ h₅=>wpAny_pure (wpAny_pure ⟨rfl,h₅⟩)) fun _ _ h'=>h')) fun _ _ h'=>h'))
end
theorem Rec.keep {h h':Heap} {e T:Addr} {cls fl:Value} (r:Rec h e T cls fl) (k:∀ b o,(b=e∨b=T)→h.get? b=some o→h'.get? b=some o):Rec h' e T cls fl:=by
  obtain ⟨oe,vs,oT,ts,⟨a1,a2,a3,a4⟩,b1,ne,b2,b3,b4⟩:=r
  exact ⟨oe,vs,oT,ts,⟨k _ _ (.inl rfl) a1,a2,a3,a4⟩,b1,ne,k _ _ (.inr rfl) b2,b3,b4⟩
def compCxX (X:Cx) (N':List Str) (scope:Scope) (cl:List (Str×Addr)) (C:Addr) (s3:Shared) (H3:Hp) (fp:List Addr) (pins:List (Addr×Obj)) (xe:Value→Shared→Prop):Cx :=
  { X with N:=N',s₀:=s3,H₀:=H3,env:=compEnvC scope cl C X.env,outer:=X.stack,stack:=X.stack,ex:=fp,fn:=fun _=>false,pn:=X.pn++pins,xe:=xe }
def compWX (J:It) (g:TG) (te:TE) (σ0:St) (H1:Hp) (Q:VK):Prop:=∀ D,H1 D=none→∃ W:Nat→Nat→List V→Hp→Prop,(∃ m,W 0 m [] (upd H1 D (.lst []))) ∧
  ∀ i m ys H,W i m ys H→(J.stop i H∧H D=some (.lst ys)∧Q (.ref D) H) ∨
    (J.go i H∧∀ x H',J.yld i H x H'→g x σ0 H' fun σ2 H2=>te σ2 H2 fun v H4=>H4 D=some (.lst ys)∧ys.length<sizeLine∧∃ m',m'<m∧W (i+1) m' (ys++[v]) (upd H4 D (.lst (ys++[v]))))
section
variable {X:Cx} {tg elt iter:Expr} {scope:Scope} {cl:List (Str×Addr)} {N':List Str} {σ0:St→St} {g:TG} {te:TE} {E:XK}
theorem comp_blockX {pos:Pos} {pins:List (Addr×Obj)} {σ:St} {H1:Hp} {s2:Shared} {it:Addr} {fp:List Addr} {tn:Nat→Heap→Prop} {J:It} {Q:VK}
    (ow:OwnX X) (lk:XLink X E) (hc:X.calm=true) (hcell:∀ y∈scope.names,y.2≠.cell) (hkind:scope.kind=.function)
    (I:Inv X pins σ H1 s2) (T:Turn X.prog X.w X.K tg J fp it tn) (st:tn 0 s2.heap) (hfp:∀ b∈fp,FpOk X pins H1 b) (fr:Frees X N' scope cl σ (σ0 σ)) (hk:zlo g (σ0 σ))
    (hg:∀ C s3 H3 fp pins xe,PG (compCxX X N' scope cl C s3 H3 fp pins xe) tg g)
    (he:∀ C s3 H3 fp pins xe,zii (CXE X.prog X.w) (compCxX X N' scope cl C s3 H3 fp pins xe) E→PE (compCxX X N' scope cl C s3 H3 fp pins xe) elt te) (hw:compWX J g te (σ0 σ) H1 Q) :
    wpAny (model X.prog X.w) X.A (newList []) (fun acc s₃=>wpAny (model X.prog X.w) X.A (newFunctionEnv scope X.env.globals cl [] X.env.qual none .none (some X.env)) (fun cenv s₄ =>
      codeAny (model X.prog X.w) X.A (.compStart (.ListComp elt [⟨tg,iter,[],0⟩] scope pos) 0 (.ref it) acc { cenv with scope:=relabel scope X.env }) (compPost (model X.prog X.w) X.A X.xe none (EP X pins σ Q) acc cenv.locals) s₄) X.xe s₃) X.xe s2:=by
  refine wpAny_newObj_type (hd:=by size_fits) (wpAny_newFunctionEnv hcell (by intro y hy; simp at hy) (fun h₁ hns₁ hsb₁=>?_) hkind)
  dsimp only at hns₁ hsb₁ ⊢
  have I3:Inv X pins σ (upd H1 s2.heap.objs.size (.lst [])) { s2 with heap:=s2.heap.push { cls:=.type "list", dict:=none,data:=.seq ([]:List Value).toArray } }:=I.lnew (t':=s2.toks) (its:=[]) (ys:=[]) .nil (Nat.zero_le _)
  obtain ⟨W,⟨m0,w0⟩,turn⟩:=hw s2.heap.objs.size I.fresh
  have hfpo:=T.obj 0 _ st
  have fpl:∀ b∈fp,b<s2.heap.objs.size:=fun b hb=>by
    obtain ⟨o,e,_⟩:=hfpo b hb
    exact Heap.lt_size e
  have fD:∀ b∈fp,upd H1 s2.heap.objs.size (.lst []) b=none:=fun b hb=>by
    rw [upd_ne (Nat.ne_of_lt (fpl b hb))]
    exact (hfp b hb).1
  generalize hs3:({ s2 with heap:=s2.heap.push { cls:=.type "list", dict:=none,data:=.seq ([]:List Value).toArray } }:Shared)=s3 at I3
  have es3:s3.heap=s2.heap.push { cls:=.type "list", dict:=none,data:=.seq ([]:List Value).toArray }:=by rw [← hs3]
  have st3:tn 0 s3.heap:=T.keep _ _ _ st fun b hb o e=>by rw [es3]; exact Heap.get?_push_of_some _ e
  rw [← es3] at hns₁ hsb₁ ⊢
  have sz3:s2.heap.objs.size<s3.heap.objs.size:=by rw [es3,Heap.size_push]; exact Nat.lt_succ_self _
  generalize upd H1 s2.heap.objs.size (.lst [])=H3 at I3 fD w0
  have old:∀ b o,s3.heap.get? b=some o→h₁.get? b=some o:=fun b o e=>hsb₁.extBut b o (Nat.ne_of_lt (Heap.lt_size e)) (Heap.get?_push_of_some _ e)
  have fpl3:∀ b∈fp,b<s3.heap.objs.size:=fun b hb=>Nat.lt_trans (fpl b hb) sz3
  have stk:∀ b∈fp,b∉frs X.stack:=fun b hb z=>by
    rcases List.mem_cons.mp (I3.stkSub b z) with e | e
    · exact (hfp b hb).2.1 e
    · exact (hfp b hb).2.2.1 e
  have lt3:X.env.locals<s3.heap.objs.size:=I3.lt
  have cC:∀ x c,X.env.cells.lookup x=some c→c≠s3.heap.objs.size:=fun x c e z=>by
    obtain ⟨v,o,ho,_⟩:=I3.cell x c e
    exact absurd (Heap.lt_size ho) (by rw [z]; exact Nat.lt_irrefl _)
  have pC:∀ p∈X.pn++pins,p.1≠s3.heap.objs.size:=fun p hp z=>by
    have e:=(I3.pin p hp).1
    exact absurd (Heap.lt_size e) (by rw [z]; exact Nat.lt_irrefl _)
  have xeC:zii (CXE X.prog X.w) (compCxX X N' scope cl s3.heap.objs.size s3 H3 fp pins (notedBy (model X.prog X.w) X.A (compEnvC scope cl s3.heap.objs.size X.env) fun e s'=>compPost (model X.prog X.w) X.A X.xe none (EP X pins σ Q) (.ref s2.heap.objs.size) s3.heap.objs.size (.error e) s')) E:=by
    intro pl σ' H s e s' Ii h
    have J0:Inv X pins σ H s:=I3.call' Ii.os Ii.base Ii.hok Ii.bare fun b hb=>⟨(hfp b hb).2.2.2.1,(hfp b hb).2.1,(hfp b hb).2.2.2.2.1,(hfp b hb).2.2.2.2.2⟩
    have Cs:∃ o,s.heap.get? s3.heap.objs.size=some o:=by
      obtain ⟨m,⟨o,es,ep,ho,_⟩,_⟩:=Ii.loc
      exact ⟨o,ho⟩
    obtain ⟨a,cls,H',rfl,ho,hb,u,hok,⟨T',r,⟨a1,a2⟩,b1,b2⟩,q⟩:=h
    have Ij:=Ii.call' ho u hok hb (fun b z=>absurd z (by simp))
    have J1:Inv X pins σ H' s':=J0.call' ho u hok hb (fun b z=>absurd z (by simp))
    have o1:=(J0.out ow.ex a2).weak a1
    have o2:=(J0.out ow.ex b2).weak b1
    obtain ⟨m,⟨oC,es,ep,hoC,rC⟩,_⟩:=Ij.loc
    have hCH:H' s3.heap.objs.size=none:=Ij.free
    have neA:s3.heap.objs.size≠a:=fun z=>by obtain ⟨o,e⟩:=Cs; rw [z,a2] at e; cases e
    have neT:s3.heap.objs.size≠T':=fun z=>by obtain ⟨o,e⟩:=Cs; rw [z,b2] at e; cases e
    show wpAny _ _ (noteFrame (.ref a) X.env) _ _ s'
    refine zjb (base:=X.base) (outer:=X.outer) (by rw [← ow.stk]; exact J1.ok.frames) (by rw [← ow.stk]; exact J1.stack) ow.fr r fun h1 T2 n1 r1 p1=>?_
    rw [← ow.stk] at p1
    have o3:=J1.out ow.ex n1
    have neT2:s3.heap.objs.size≠T2:=fun z=>by rw [← z] at n1; have hoC:s'.heap.get? s3.heap.objs.size=some oC:=hoC; rw [hoC] at n1; cases n1
    have J2:Inv X pins σ H' { s' with heap:=h1,toks:=s'.toks }:=J1.hop p1 fun b hb=>by
      rcases List.mem_cons.mp hb with rfl | hb
      · exact o2
      · rw [List.mem_singleton.mp hb]; exact o1
    obtain ⟨sl,hoC1⟩:=p1.slot s3.heap.objs.size oC (fun z=>by
      rcases List.mem_cons.mp z with z | z
      · exact neT z
      · exact neA (List.mem_singleton.mp z)) hoC
    refine ⟨m,⟨_,es,ep,hoC1,rC⟩,fun h2 sb cenv _=>?_⟩
    have J3:Inv X pins σ H' { s' with heap:=h2,toks:=s'.toks }:=J2.turned (t':=s'.toks) (fun b o hb e=>sb.extBut b o hb e) hCH (Nat.ne_of_gt lt3) (.inr I3.sz) cC pC
    have r2:Rec h2 a T2 cls (rawInt X.env.locals):=r1.keep fun b o hb e=>sb.extBut b o (by
      rcases hb with rfl | rfl
      · exact Ne.symm neA
      · exact Ne.symm neT2) e
    refine fly_on (env:=X.env) (outer:=X.outer) (s:={ s' with heap:=h2 }) r2 fun h3 fl' r3 p3=>?_
    rw [← ow.stk] at p3
    have J4:Inv X pins σ H' { s' with heap:=h3,toks:=s'.toks }:=J3.hop p3 fun b hb=>by rw [List.mem_singleton.mp hb]; exact o3
    exact lk _ _ (J4.leaveAny ow r3 o1 o3 q)
  generalize hxe:(notedBy (model X.prog X.w) X.A (compEnvC scope cl s3.heap.objs.size X.env) fun e s'=>compPost (model X.prog X.w) X.A X.xe none (EP X pins σ Q) (.ref s2.heap.objs.size) s3.heap.objs.size (.error e) s')=xe at xeC
  have ok:(compCxX X N' scope cl s3.heap.objs.size s3 H3 fp pins xe).Ok:=by
    refine ⟨I3.ok.mod,hkind,I3.ok.glob,I3.ok.blt,Nat.le_refl _,fun x y c h1 h2=>I3.ok.inj x y c (fr.sub x c h1) (fr.sub y c h2),fun x h=>fr.has x h,fun x c h _=>(by cases h),I3.ok.hd,I3.ok.frames,.inl rfl,
      fun b hb=>⟨Nat.ne_of_lt (fpl3 b hb),fun x c e=>(hfp b hb).2.2.2.2.1 x c (fr.sub x c e)⟩,I3.bs,Nat.le_trans I3.ok.bsz I3.sz,fun b o e hb=>?_,fun b hb=>stk b hb,I3.stack,I3.stkFree⟩
    rcases (hfp b hb).2.2.2.1 with z | z
    · exact I3.ok.noex b o e z
    · have l1:b<X.base.objs.size:=Heap.lt_size e
      have l2:X.base.objs.size≤X.s₀.heap.objs.size:=I3.ok.bsz
      have l3:X.s₀.heap.objs.size≤b:=z
      exact absurd (Nat.lt_of_lt_of_le l1 (Nat.le_trans l2 l3)) (Nat.lt_irrefl _)
  have start:Inv (compCxX X N' scope cl s3.heap.objs.size s3 H3 fp pins xe) [] (σ0 σ) H3 { s3 with heap:=h₁ }:=by
    refine ⟨ok,rfl,I3.bare,Un.kept old,⟨_,hns₁,fun j x v e1 e2 _=>?_⟩,fun x c e=>?_,I3.hok.fresh (Nat.le_refl _),fun x c e=>I3.freeC x c (fr.sub x c e),fun p hp=>?_,I3.hok.kept old,fr.len⟩
    · obtain ⟨i,c,q1,q2,q3,q4,q5,q6⟩:=fr.vals j x v e1 e2
      obtain ⟨m,hn,hl⟩:=I3.loc
      obtain ⟨u,r,l⟩:=hl i x v q1 q2 q3
      refine ⟨u,r,.inr ⟨q6,c,q5,?_⟩⟩
      rcases l with ⟨k,_⟩ | ⟨_,c',e',z⟩
      · exact absurd k q4
      · rw [fr.sub x c q5] at e'
        cases e'
        obtain ⟨o,ho,hd⟩:=z
        exact ⟨o,old _ _ ho,hd⟩
    · obtain ⟨v,o,ho,hd⟩:=I3.cell x c (fr.sub x c e)
      exact ⟨v,o,old _ _ ho,hd⟩
    · have hp':p∈X.pn++pins:=by simpa [compCxX] using hp
      obtain ⟨e,n,ne,nf,d⟩:=I3.pin p hp'
      refine ⟨old _ _ e,n,Nat.ne_of_lt (Heap.lt_size e),fun z=>?_,d⟩
      rcases List.mem_cons.mp (I3.stkSub p.1 z) with q | q
      · exact ne q
      · exact nf q
  have hst₁:tn 0 h₁:=T.keep _ _ _ st3 fun b _ o e=>old b o e
  have fpok:∀ {H':Hp},(∀ b∈fp,H' b=none)→∀ b∈fp,FpOk (compCxX X N' scope cl s3.heap.objs.size s3 H3 fp pins xe) [] H' b:=fun {H'} hn b hb =>
    ⟨hn b hb,Nat.ne_of_lt (fpl3 b hb),stk b hb,.inl hb,fun x c e=>(hfp b hb).2.2.2.2.1 x c (fr.sub x c e),fun p hp=>(hfp b hb).2.2.2.2.2 p (by simpa [compCxX] using hp)⟩
  have loop:codeAny (model X.prog X.w) X.A (.compLoop (.ListComp elt [⟨tg,iter,[],0⟩] scope pos) 0 (.ref it) (.ref s2.heap.objs.size) (compEnvC scope cl s3.heap.objs.size X.env)) (compPost (model X.prog X.w) X.A X.xe none (EP X pins σ Q) (.ref s2.heap.objs.size) s3.heap.objs.size) { s3 with heap:=h₁ }:=by
    refine compLoop_genX (fun n s'=>∃ i ys H',Inv (compCxX X N' scope cl s3.heap.objs.size s3 H3 fp pins xe) [] (σ0 σ) H' s'∧tn i s'.heap∧(∀ b∈fp,H' b=none)∧W i n ys H') ?_ m0 ⟨0,[],H3,start,hst₁,fD,w0⟩
    rw [hxe]
    rintro n s4 ⟨i,ys,H4,I4,st4,fr4,w4⟩
    rcases turn i n ys H4 w4 with ⟨stop,eD,q⟩ | ⟨go,step⟩
    · refine thn (T.done (compCxX X N' scope cl s3.heap.objs.size s3 H3 fp pins xe) rfl rfl rfl hc i [] s4 _ H4 _ I4 (fpok fr4) st4 stop) fun r s5 ⟨hr,I5⟩=>?_
      subst hr
      obtain ⟨m5,n5,_⟩:=I5.loc
      have J5:Inv X pins σ H4 s5:=I3.call' I5.os I5.base I5.hok I5.bare fun b hb=>⟨(hfp b hb).2.2.2.1,(hfp b hb).2.1,(hfp b hb).2.2.2.2.1,(hfp b hb).2.2.2.2.2⟩
      refine ⟨m5,n5,fun h'' hs''=>⟨.ref s2.heap.objs.size,H4,?_,rfl,q⟩⟩
      exact J5.turned (t':=s5.toks) (fun b o hb e=>hs''.extBut b o hb e) I5.free (Nat.ne_of_gt lt3) (.inr I3.sz) cC pC
    · refine thn (T.item (compCxX X N' scope cl s3.heap.objs.size s3 H3 fp pins xe) rfl rfl rfl hc i [] s4 _ H4 _ I4 (fpok fr4) st4 go) fun r s5 ⟨u,hr,h5⟩=>?_
      subst hr
      refine thn h5 fun _ s6 ⟨x,H6,I6,r6,y6,st6,fr6⟩=>?_
      have I6':=I6.pinned (fpok fr6) (T.obj _ _ st6)
      refine thn (hg _ _ _ _ _ _ _ s6 _ H6 x u _ I6' r6 (hk _ _ _ (step x H6 y6))) fun _ s7 ⟨σ7,H7,I7,q7,l7,k7⟩=>?_
      have again:∀ {s8:Shared} {H8:Hp} {m:Nat} {zs:List V},Inv (compCxX X N' scope cl s3.heap.objs.size s3 H3 fp pins xe) ([]++zi8 fp s6.heap) σ7 H8 s8→m<n→W (i+1) m zs H8 →
          ∃ m,m<n∧∃ i ys H',Inv (compCxX X N' scope cl s3.heap.objs.size s3 H3 fp pins xe) [] (σ0 σ) H' s8∧tn i s8.heap∧(∀ b∈fp,H' b=none)∧W i m ys H':=fun {s8 H8 m zs} I8 hm w8=>by
        refine ⟨m,hm,i+1,zs,H8,(Inv.unpinned I8).weak l7.symm k7,T.keep _ _ _ st6 fun b hb o e=>(I8.pin (b,o) (List.mem_append_right _ (List.mem_append_right _ (zdm hb e)))).1,fun b hb=>?_,w8⟩
        obtain ⟨o,e,d⟩:=T.obj _ _ st6 b hb
        exact (I8.pin (b,o) (List.mem_append_right _ (List.mem_append_right _ (zdm hb e)))).2.1
      refine thn (he _ _ _ _ _ _ xeC _ s7 σ7 H7 _ I7 q7) fun v s9 ⟨y,H9,I9,r9,e9,z9,m',hm,w9⟩=>?_
      exact thn (zbz _ s9 σ7 H9 (.ref s2.heap.objs.size) [y] (.ref s2.heap.objs.size) [v] (fun _ H'=>H'=upd H9 s2.heap.objs.size (.lst (ys++[y]))) I9 rfl (.cons r9 .nil) ⟨_,ys,y,rfl,rfl,e9,z9,rfl⟩)
          fun _ s10 ⟨_,H10,I10,_,e10⟩=>by subst e10; exact again I10 hm w9
  subst hs3
  exact codeAny_compStart_list loop (T.self _ 0 _ _ _ hst₁ loop)
def tCompX (wi:TI) (g:TG) (te:TE) (σ0:St→St):TE:=fun σ H Q=>wi σ H fun J H1=>compWX J g te (σ0 σ) H1 Q
variable {pos:Pos} {wi:TI} {ts zs:List Str} {is:List Nat} {k:Nat}
theorem pe_cX (lk:XLink X E) (ow:OwnX X) (hc:X.calm=true) (hi:PI X tg iter wi) (hk:ts.length=k) (hs:SubL X cl) (hcp:CapL X scope cl is zs) (ha:((relabel scope X.env).names.all fun y=>!(y.2==.cell || y.2==.free) || zs.contains y.1)=true) (hl:Low k g)
    (hg:∀ C s3 H3 fp pins xe,PG (compCxX X (ts++zs) scope cl C s3 H3 fp pins xe) tg g) (he:∀ C s3 H3 fp pins xe,zii (CXE X.prog X.w) (compCxX X (ts++zs) scope cl C s3 H3 fp pins xe) E→PE (compCxX X (ts++zs) scope cl C s3 H3 fp pins xe) elt te)
    (hclos:closureFor scope X.env=pure cl) (hcell:∀ y∈scope.names,y.2≠.cell) (hkind:scope.kind=.function) (hnames:∀ y∈scope.names,y.2=.local→scope.names.lookup y.1=some .local)
    (hf:∀ x,foldedSetIterable iter X.env x=pure x:=by intro _; rfl):PE X (.ListComp elt [⟨tg,iter,[],0⟩] scope pos) (tCompX wi g te (VL.s0 k is)):=by
  intro pins s σ H Q I h
  rw [eval_ListComp]
  refine wpAny_comprehension_free (use:=none) rfl hf hclos hkind hnames (thn (hi pins s σ H _ I h) fun v s1 h1=>thn h1 fun itv s2 h2=>?_)
  obtain ⟨it,fp,tn,J,H2,e,I2,T,st2,f2,q⟩:=h2
  subst e
  exact comp_blockX ow lk hc hcell hkind I2 T st2 f2 (Frees.many hk hs hcp ha) (hl.keep σ) hg he q
theorem pgbX {i:Nat} {y:Str} {py:Pos} (nd:N'.Nodup) (hi:N'[i]?=some y) (hx:scope.names.lookup y=some .local) {C:Addr} {s3:Shared} {H3:Hp} {fp:List Addr} {pins:List (Addr×Obj)} {xe:Value→Shared→Prop} :
    PG (compCxX X N' scope cl C s3 H3 fp pins xe) (.Name y py) (zjo i):=zb5 nd hi (.inl (lookup_relabel_local hx)) (.inr (lookup_relabel_local hx))
def tOrE (t u:TE):TE:=fun σ H Q=>t σ H Q∨u σ H Q
theorem pe_or2 {e:Expr} {t u:TE} (h1:PE X e t) (h2:PE X e u):PE X e (tOrE t u):=fun pins s σ H Q I h=>h.elim (h1 pins s σ H Q I) (h2 pins s σ H Q I)
end
end L2
namespace VL
open PySem L2
open Classical
noncomputable section
variable [Tabs] {K:PySem.W.Frag} {E:XK} {C:Addr}
def zex (g:DG) (e x:DE) (r:Rho):List D→Prop
  | []=>False
  | d::ds=>match g d r with
    | none=>False
    | some ρ1=>match x ρ1 with
      | some _=>True
      | none=>match e ρ1 with
        | some _=>zex g e x r ds
        | none=>False
@[irreducible] noncomputable def sXC (k:Nat) (cs:List Nat) (it:Rho→Option (List D)) (g:DG) (e x:DE):DS:=fun ρ=>match it ρ with
  | some ds=>if zex g e x (r0 k cs ρ) ds then .rt .non else .no
  | none=>.no
theorem ss_xcomp {m:Bool} {k:Nat} {cs:List Nat} {wi:TI} {g:TG} {te:TE} {it:Rho→Option (List D)} {gd:DG} {ed:DE} {ms:List Bool} {F:List D→Option D} {t:TA} {es:Rho→Option (List D)} (hw:zmb K m wi it) (hg:SemG K m g gd) (he:SemI K te ed) (ha:SemA K ms t es) :
    SemS (.x E C) K (tRet (tCompX wi g (tOrE te (zk5 (spX K ms C F) [] E t)) (s0 k cs))) (sXC k cs it gd ed (za8 F es)):=fun {B Z os ρ σ H En} f p=>by
  have hk:∃ xs,it ρ=some xs∧zex gd ed (za8 F es) (r0 k cs ρ) xs∧∀ H',Same B H'→E (.ref C) none H':=by
    unfold sXC at p
    split at p
    · rename_i xs e0
      split at p
      · rename_i h; exact ⟨xs,e0,h,p⟩
      · exact p.elim
    · exact p.elim
  clear p
  obtain ⟨xs,e0,q,p⟩:=hk
  show wi σ H _
  refine hw f e0 fun J H1 s1 W Dl hD=>?_
  have f1:=f.grow s1
  have sD:∀ {H2:Hp} {ys:List V},Same H1 H2→Same H1 (upd H2 Dl (.lst ys)):=fun {H2 ys} s a o e=>by
    rw [upd_ne (zb2 e hD)]; exact s _ _ e
  refine ⟨fun i m ys H2=>m=xs.length-i∧i≤xs.length∧Same H1 H2∧H2 Dl=some (.lst ys)∧ys.length≤i∧zex gd ed (za8 F es) (r0 k cs ρ) (xs.drop i),
    ⟨_,rfl,Nat.zero_le _,sD (Same.refl _),zbt,Nat.le_refl _,q⟩,?_⟩
  rintro i mm ys H2 ⟨rfl,hi,s2,eD,hly,q2⟩
  have kp12:Kp (tot Z os) H1 (fun a=>a=Dl∨tot Z os a) H2:=fun a u e z=>⟨s2 _ _ e,fun w=>w.elim (zb2 e hD) z⟩
  by_cases hlt:i<xs.length
  · have ex:xs[i]?=some xs[i]:=List.getElem?_eq_getElem hlt
    have ef:=zkh f1 hD s2 eD k cs
    obtain ⟨go,yl⟩:=W.go i xs[i] H2 _ kp12 s2 (fun a z=>ef.zin a z) ex
    refine .inr ⟨go,fun x H3 hy=>?_⟩
    obtain ⟨s3,er⟩:=yl x H3 hy
    have eD3:=s3 _ _ eD
    have s13:=s2.trans s3
    have ef3:=zkh f1 hD s13 eD3 k cs
    rw [List.drop_eq_getElem_cons hlt] at q2
    unfold zex at q2
    have er':ER K m H1 H3 (tot (fun a=>a=Dl∨tot Z os a) fun _=>[]) x xs[i]:=by
      cases m with
      | false=>exact er
      | true=>exact Is.kp (Kp.less fun a z=>z.elim id fun ⟨_,w⟩=>by cases w) er
    split at q2
    · exact q2.elim
    · rename_i ρ1 e1
      refine hg ef3 er' e1 fun os1 σ1 fr1 k1=>?_
      split at q2
      · rename_i d e2
        exact .inr (sx_call ha fr1 e2 (fun H' s'=>p H' (f1.keep.trans s')) _)
      · split at q2
        · rename_i y e3
          refine .inl (he fr1 e3 fun v H5 s5 i5=>?_)
          have hl:=W.len
          exact ⟨s5 _ _ eD3,by omega,_,by omega,rfl,hlt,sD (s13.trans s5),zbt,by rw [List.length_append,List.length_singleton]; omega,q2⟩
        · exact q2.elim
  · have e:i=xs.length:=by omega
    subst e
    rw [List.drop_length] at q2
    exact q2.elim
theorem wp_xcomp {k:Nat} {cs:List Nat} {it:Rho→Option (List D)} {g:DG} {e x:DE} {ρ:Rho} {ds:List D} {W:Wk} (h:it ρ=some ds) (hr:zex g e x (r0 k cs ρ) ds) (kk:W.rt .non):Wp (sXC k cs it g e x) ρ W:=by
  unfold Wp sXC
  rw [h]
  simp only [if_pos hr]
  exact kk
theorem raises_of {α:Type} {g:DG} {e x:DE} {r:Rho} (emb:α→D):∀ {xs:List α},(∀ a∈xs,∃ ρ1,g (emb a) r=some ρ1∧((∃ d,x ρ1=some d)∨∃ d,e ρ1=some d))→(∃ a∈xs,∀ ρ1,g (emb a) r=some ρ1→∃ d,x ρ1=some d)→zex g e x r (xs.map emb)
  | [],_,⟨_,h,_⟩=>by cases h
  | a::xs,h,hx=>by
    obtain ⟨ρ1,e1,h1⟩:=h a List.mem_cons_self
    rw [List.map_cons]
    unfold zex
    rw [e1]
    dsimp only
    cases ex:x ρ1 with
    | some d=>trivial
    | none =>
      rcases h1 with ⟨d,h1⟩ | ⟨d,h1⟩
      · rw [ex] at h1; cases h1
      · rw [h1]
        refine raises_of emb (fun b hb=>h b (List.mem_cons_of_mem _ hb)) ?_
        obtain ⟨b,hb,h2⟩:=hx
        rcases List.mem_cons.mp hb with rfl | hb
        · obtain ⟨d',h3⟩:=h2 ρ1 e1
          rw [ex] at h3; cases h3
        · exact ⟨b,hb,h2⟩
end
end VL
namespace L2
open PySem PySem.Spec PyProof.Rows
def BmOk (mg:Str→Option Value) (base:Heap):Prop:=∃ bm ob,mg "__builtins__" = some (.ref bm)∧bm≠builtinsNs∧base.get? bm=some ob∧ob.cls=.type "module" ∧ ob.dict=some builtinsNs∧ob.data=.plain
structure LamOk (X:Cx) (c P:Addr):Prop where
  code:X.env.code=.ref c
  hd:PySem.W.codeHdIn X.K c P=true
  bm:BmOk X.mg X.base
structure LFrees (X:Cx) (x:Str) (zs:List Str) (is:List Nat) (scope:Scope) (cl:List (Str×Addr)):Prop where
  par:scope.names.lookup x=some .local
  sub:∀ y c,cl.lookup y=some c→X.env.cells.lookup y=some c
  cap:∀ (j:Nat) (z:Str),zs[j]?=some z→∃ i c,is[j]?=some i∧X.N[i]?=some z∧(X.env.scope.names.lookup z=some .cell∨X.env.scope.names.lookup z=some .free)∧cl.lookup z=some c∧scope.names.lookup z=some .free
  has:∀ y,(scope.names.lookup y=some .cell∨scope.names.lookup y=some .free)→∃ c,cl.lookup y=some c
  len:is.length=zs.length
  nocell:∀ y∈scope.names,y.2≠.cell
  kind:scope.kind=.function
  co:scope.isCoroutine=false
  gen:scope.isGenerator=false
inductive LapL (X:Cx) (scope:Scope) (cl:List (Str×Addr)):List Nat→List Str→Prop
  | nil:LapL X scope cl [] []
  | cons {i:Nat} {z:Str} {c:Addr} {is:List Nat} {zs:List Str}:X.N[i]?=some z→(X.env.scope.names.lookup z=some .cell∨X.env.scope.names.lookup z=some .free)→cl.lookup z=some c→scope.names.lookup z=some .free→LapL X scope cl is zs→LapL X scope cl (i::is) (z::zs)
end L2
namespace L2
open PySem PySem.Spec PyProof.Rows
section
variable {X:Cx} {pins:List (Addr×Obj)} {σ:St} {H:Hp} {s:Shared} {m:Str→Option Value} {h':Heap} {kS:Addr} {ok:Obj}
end
section
variable {X:Cx} {pins:List (Addr×Obj)} {σ:St} {m:Str→Option Value} {kS f:Addr} {o:Obj} {q:Str} {params:Arguments} {body:Expr} {scope:Scope} {cl:List (Str×Addr)} {A:Around} {x:Str} {zs:List Str} {is:List Nat} {te:TE} {Fin:List V→Hp→Prop}
structure Nil (X:Cx) (pins:List (Addr×Obj)) (H:Hp) (b:Addr):Prop where
  h:H b=none
  cell:∀ x c,X.env.cells.lookup x=some c→c≠b
  pin:∀ p∈X.pn++pins,p.1≠b
  fs:b∉X.fs
end
end L2
namespace L2
open PySem PySem.Spec PyProof.Rows PySem.Calls
section
open PySem.W
variable {prog:Program} {w:World} {A:Around} {E:Value→Shared→Prop} {s:Shared} {h₀:Heap} {L kS a:Addr} {m:Str→Option Value} {news:List (Addr×Obj)} {vs:List Value}
end
section
variable {X:Cx} {pins:List (Addr×Obj)} {σ:St} {m:Str→Option Value} {kS f:Addr} {o:Obj} {q:Str} {params:Arguments} {body:Expr} {scope:Scope} {cl:List (Str×Addr)} {A:Around} {x:Str} {zs:List Str} {is:List Nat} {te:TE} {Fin:List V→Hp→Prop}
end
end L2
namespace VL
open PySem L2
open Classical
noncomputable section
variable [Tabs] {K:PySem.W.Frag}
end
end VL
namespace L2
open PySem PySem.Spec PyProof.Rows
def tabH (ts:List (Addr×Str)):Hp:=fun b=>(ts.lookup b).map fun q=>.tbl #[.str q 0]
end L2
namespace L2
open PySem PySem.Spec PyProof.Rows
end L2
namespace VL
open PySem L2
open Classical
noncomputable section
variable [Tabs] {K:PySem.W.Frag}
end
end VL
namespace L2
open PySem PySem.Spec PyProof.Rows
end L2
namespace VL
open PySem L2
open Classical
noncomputable section
variable [Tabs] {K:PySem.W.Frag}
end
end VL
namespace PySem.SeqAt
open AutoSeq1 (wpAny_loadPart')
open MeetsSeq MeetsSeq2 MeetsSeq3
section
variable {A:Around} {s:Shared}
end
end PySem.SeqAt
namespace VL
open PySem L2
open Classical
noncomputable section
variable {K:PySem.W.Frag}
def ordb:Nat→D→D→Bool
  | _,.int _,.int _=>true
  | n+1,.lst xs,.lst ys=>(List.zip xs ys).all fun p=>cmpb n p.1 p.2&&ordb n p.1 p.2
  | n+1,.tup xs,.tup ys=>(List.zip xs ys).all fun p=>cmpb n p.1 p.2&&ordb n p.1 p.2
  | _,_,_=>false
section
variable {X:Cx} {pins:List (Addr×Obj)} {σ:L2.St} {H:Hp} {s:Shared}
inductive Om:Nat→D→D→Prop
  | int {n:Nat} (a b:Int):Om n (.int a) (.int b)
  | lst {n:Nat} {xs ys:List D} (h:(List.zip xs ys).all (fun p=>cmpb n p.1 p.2&&ordb n p.1 p.2)=true):Om (n+1) (.lst xs) (.lst ys)
  | tup {n:Nat} {xs ys:List D} (h:(List.zip xs ys).all (fun p=>cmpb n p.1 p.2&&ordb n p.1 p.2)=true):Om (n+1) (.tup xs) (.tup ys)
end
end
end VL
namespace L2
open PySem PySem.Spec PyProof.Rows VL
section
variable {X:Cx} {pins P0 P1:List (Addr×Obj)} {σ:St} {H:Hp} {s:Shared} {h':Heap} {a:Addr} {oa oa':Obj} {t':Nat}
end
section
variable {X:Cx} {pins:List (Addr×Obj)} {σ:St} {f:Addr} {o:Obj} {q:Str} {params:Arguments} {body:Expr} {scope:Scope} {cl:List (Str×Addr)} {x:Str} {zs:List Str} {is:List Nat} {te:TE} {Fin:V→Hp→Prop} {kw:List (Str×Value)} {l I S:Addr} {vs:List V}
end
end L2
namespace L2
open PySem PySem.Spec PyProof.Rows VL
section
variable {X:Cx} {pins:List (Addr×Obj)} {σ:St} {q:Str} {params:Arguments} {body:Expr} {scope:Scope} {cl:List (Str×Addr)} {x:Str} {zs:List Str} {is:List Nat} {te:TE}
end
end L2
namespace VL
open PySem L2
open Classical
noncomputable section
variable [Tabs] {K:PySem.W.Frag}
end
end VL
namespace L2
open PySem PySem.Spec PyProof.Rows
section
variable {X:Cx} {pins:List (Addr×Obj)} {σ:St} {m:Str→Option Value} {kS f:Addr} {o:Obj} {q:Str} {params:Arguments} {body:Expr} {scope:Scope} {cl:List (Str×Addr)} {A:Around} {x:Str} {zs:List Str} {is:List Nat} {te:TE} {Fin:List V→Hp→Prop}
end
end L2
namespace VL
open PySem L2
open Classical
noncomputable section
variable [Tabs] {K:PySem.W.Frag}
end
end VL
namespace VL
open PySem L2
open Classical
noncomputable section
variable [Tabs] {K:PySem.W.Frag} {fr:Fm}
end
end VL
namespace PySem.SeqAt
end PySem.SeqAt
namespace L2
open PySem PySem.Spec PyProof.Rows
end L2
namespace L2
open PySem PySem.Spec PyProof.Rows
end L2
namespace VL
open PySem L2
open Classical
noncomputable section
variable [Tabs] {K:PySem.W.Frag}
end
end VL
namespace VL
open PySem L2
open Classical
noncomputable section
variable [Tabs] {K:PySem.W.Frag}
end
end VL
namespace VL
open PySem L2
open Classical
noncomputable section
variable [Tabs] {K:PySem.W.Frag}
end
end VL
namespace L2
open PySem PySem.Spec PyProof.Rows VL
open Classical
noncomputable section
variable {X:Cx} {K:PySem.W.Frag}
end
end L2
namespace VL
open PySem L2
open Classical
noncomputable section
variable [Tabs] {K:PySem.W.Frag}
end
end VL
namespace L2
open PySem PySem.Spec PyProof.Rows VL
section
variable {X:Cx} {pins:List (Addr×Obj)} {σ:St} {f:Addr} {o:Obj} {q:Str} {params:Arguments} {body:Expr} {scope:Scope} {cl:List (Str×Addr)} {x:Str} {zs:List Str} {is:List Nat} {te:TE} {Fin:V→Hp→Prop} {kw:List (Str×Value)} {l:Addr}
end
section
variable {X:Cx} {pins:List (Addr×Obj)} {σ:St} {q:Str} {params:Arguments} {body:Expr} {scope:Scope} {cl:List (Str×Addr)} {x:Str} {zs:List Str} {is:List Nat} {te:TE}
end
end L2
namespace VL
open PySem L2
open Classical
noncomputable section
variable [Tabs] {K:PySem.W.Frag}
end
end VL
namespace L2
open PySem PySem.Spec PyProof.Rows VL
def Rs (xs:Array Nat):Prop:=xs.toList.Pairwise (· < ·)
structure TabG (led:Bool) (t:SetTable):Prop where
  led:t.led=led
  up:Rs t.place
section
variable {prog:Program} {w:World} {A:Around} {E:Value→Shared→Prop} {s:Shared}
end
end L2
namespace L2
open PySem PySem.Spec PyProof.Rows VL
structure Once (val:Nat→Int) (i:Nat) (ks:List Int):Prop where
  nd:ks.Nodup
  mem:∀ x,x∈ks↔∃ j,j<i∧val j=x
  len:ks.length≤i
section
variable {prog:Program} {w:World} {A:Around} {R:Result→Shared→Prop} {I:Addr} {fp wr:List Addr} {Gn:Array GenState→Array GenState→Prop} {n:Nat} {P:Nat→Value→Prop} {St:Nat→Shared→Prop}
end
section
variable {prog:Program} {w:World} {A:Around} {E:Value→Shared→Prop} {s:Shared}
end
end L2
namespace L2
open PySem PySem.Spec PyProof.Rows VL
section
variable {prog:Program} {w:World} {A:Around} {E:Value→Shared→Prop} {s:Shared} {I S:Addr} {n ep:Nat} {es:Array (Int×Value)} {t:SetTable}
end
end L2
namespace L2
open PySem PySem.Spec PyProof.Rows VL
section
variable {prog:Program} {w:World} {A:Around} {E:Value→Shared→Prop} {s:Shared} {I S:Addr} {ep:Nat} {es:Array (Int×Value)} {t:SetTable}
end
end L2
namespace L2
open PySem PySem.Spec PyProof.Rows VL
section
variable {prog:Program} {w:World} {A:Around} {E:Value→Shared→Prop} {s:Shared} {S:Addr} {ep:Nat} {es:Array (Int×Value)} {t:SetTable}
end
end L2
namespace L2
open PySem PySem.Spec PyProof.Rows VL
end L2
namespace VL
open PySem L2
open Classical
noncomputable section
variable [Tabs] {K:PySem.W.Frag}
omit [Tabs] in
end
end VL
namespace VL
open PySem L2
open Classical
noncomputable section
variable [Tabs] {K:PySem.W.Frag}
end
end VL
namespace L2
open PySem PySem.Spec PyProof.Rows VL
end L2
namespace VL
open PySem L2
open Classical
noncomputable section
variable [Tabs] {K:PySem.W.Frag}
end
end VL
namespace VL
open PySem L2
open Classical
noncomputable section
variable [Tabs] {K:PySem.W.Frag} {fr:Fm}
end
end VL
namespace VL
open PySem L2
open Classical
noncomputable section
variable [Tabs] {K:PySem.W.Frag} {fr:Fm}
end
end VL
namespace VL
open PySem L2
open Classical
noncomputable section
variable [Tabs] {K:PySem.W.Frag} {fr:Fm}
section
variable {B H:Hp} {Z:Addr→Prop} {os:Own} {ρ:Rho} {σ:L2.St} {i:Nat} {a:Addr} {ps:List Addr} {rows:List (List D)}
end
end
end VL
namespace L2
open PySem PySem.Spec PyProof.Rows VL
section
variable {X:Cx} {tg:Expr}
end
end L2
namespace VL
open PySem L2
open Classical
noncomputable section
variable [Tabs] {K:PySem.W.Frag} {fr:Fm}
end
end VL
namespace PySem
open Sem (wp)
section
variable {prog:Program} {w:World} {A:Around} {E:Value→Shared→Prop} {s:Shared}
end
end PySem
namespace PySem
open Sem (wp)
namespace F
end F
section
variable {prog:Program} {w:World} {A:Around} {E:Value→Shared→Prop} {s:Shared}
end
end PySem
namespace L2
open PySem PySem.Spec PyProof.Rows VL
section
variable {P:Program} {w:World} {H:Hp} {h:Heap}
end
end L2
namespace VL
open PySem L2
open Classical
noncomputable section
variable [Tabs] {K:PySem.W.Frag}
end
end VL
namespace VL
open PySem L2
open Classical
noncomputable section
variable [Tabs] {K:PySem.W.Frag}
def unI:List D→Option (List Int)
  | []=>some []
  | .int n::r=>(unI r).map (n::·)
  | _=>none
omit [Tabs] in
end
end VL
namespace L2
open PySem PySem.Spec PyProof.Rows VL
open Builtin.Str (occurrences subAt strSub partsBetween glued strKind tooLong)
section
variable {X:Cx}
end
end L2
namespace VL
open PySem L2
open Builtin.Str (occurrences subAt strSub partsBetween glued strKind tooLong)
open Classical
noncomputable section
variable [Tabs] {K:PySem.W.Frag} {ta tb:TE} {a b:DE}
end
end VL
namespace L2
open PySem PySem.Spec PyProof.Rows VL
open Builtin.Str (occurrences subAt strSub partsBetween glued strKind tooLong strSliceIndices)
section
variable {X:Cx}
end
end L2
namespace VL
open PySem L2
open Builtin.Str (occurrences subAt strSub partsBetween glued strKind tooLong)
open Classical
noncomputable section
variable [Tabs] {K:PySem.W.Frag} {ta tb:TE} {a b:DE}
end
end VL
namespace L2
open PySem PySem.Spec PyProof.Rows VL
def zmg (C:Addr):TE:=fun _ H Q=>∀ x dx,H x=none→H dx=none→dx≠x→Q (.ref x) (upd (upd H dx (.own x)) x (.ins C dx []))
structure MkP (K:PySem.W.Frag) (C:Addr):Prop where
  makes:PySem.W.makesIn K C=true
  init:PySem.W.findIn K (.ref C) "__init__" = some (some (.builtin "object.__init__"))
  kp:PySem.W.keepIn K (.ref C)=true
section
variable {X:Cx}
theorem oinit {P:Program} {w:World} {A:Around} {R:Result→Shared→Prop} {s:Shared} {v:Value} (h:PySem.W.Looks (model P w) s.heap (isInstance v (.type "object")) true) (q:R (.ok (.ret .none)) s):codeAny (model P w) A (.call (.builtin "object.__init__") ⟨[v],[]⟩) R s:=by
  have k:=PySem.W.oi_run v
  refine codeAny_call_builtin (b:=Builtin.«object.__init__») PySem.W.oi_plain PySem.W.entry_oi ?_
  refine PySem.W.check_slot (i := "object.__init__") (owner := "object") (n := "__init__") (self:=v) (rest:=[]) (kw:=[]) PySem.W.oi_kind PySem.W.oi_split h (PySem.W.oi_args v) ?_
  rw [k]
  exact wpAny_pure q
theorem run_makeP {C:Addr} {pins:List (Addr×Obj)} {σ:St} {H:Hp} {s:Shared} {Q:VK} (M:MkP X.K C) (I:Inv X pins σ H s) (h:zmg C σ H Q):wpAny (model X.prog X.w) X.A (call (.ref C) []) (EP X pins σ Q) X.xe s:=by
  have I2:=Inv.made (C:=C) I
  have Y:=PySem.W.makes_of (M:=model X.prog X.w) I.kIn M.makes
  refine wpAny_call (make_map0 I.kIn M.makes M.init (fun self=>PySem.W.Looks.of_pure (PySem.W.oi_bind self)) ?_)
  have hg:((s.heap.push PySem.W.emptyDict).push (PySem.W.instObj C s.heap.objs.size)).get? (s.heap.objs.size+1)=some (PySem.W.instObj C s.heap.objs.size):=by
    have:=Heap.get?_push_size (o:=PySem.W.instObj C s.heap.objs.size) (s.heap.push PySem.W.emptyDict) rfl
    rw [Heap.size_push] at this
    exact this
  have t1:PySem.W.Looks (model X.prog X.w) ((s.heap.push PySem.W.emptyDict).push (PySem.W.instObj C s.heap.objs.size)) (typeOf (.ref (s.heap.objs.size+1))) (.ref C):=PySem.W.Looks.andThen (PySem.W.Looks.ld hg) PySem.W.Looks.now
  have t2:PySem.W.Looks (model X.prog X.w) ((s.heap.push PySem.W.emptyDict).push (PySem.W.instObj C s.heap.objs.size)) (isInstance (.ref (s.heap.objs.size+1)) (.type "object")) true :=
    PySem.W.Looks.andThen t1 (PySem.W.Looks.keeps Y.top fun b o e=>Heap.get?_push_of_some _ (Heap.get?_push_of_some _ e))
  exact oinit t2 ⟨rfl,⟨V.ref (s.heap.objs.size+1),_,I2,rfl,h _ _ (I.hok.fresh (Nat.le_succ _)) (I.hok.fresh (Nat.le_refl _)) (Nat.ne_of_lt (Nat.lt_succ_self _))⟩⟩
theorem zgu {C:Addr} {x:Str} {p pos:Pos} (M:MkP X.K C) (hg:Gl X x) (hm:X.mg x=some (.ref C)) (hdb:(x==("__debug__" : Str))=false:=by decide):PE X (.Call (.Name x p) [] [] pos) (zmg C):=by
  intro pins s σ H Q I h
  refine wpAny_Call_Name_kw (zh3 I hg hm ?_ hdb)
  exact PySem.W.callWith_K0 I.kIn M.kp (run_makeP M I h)
inductive MTab (X:Cx) (m:Str):List (Addr×Sp)→Prop
  | nil:MTab X m []
  | cons {C f:Addr} {fd:FuncData} {ps:List Str} {sp:Sp} {k:Nat} {tbl:List (Addr×Sp)} (c:Cls X.K C) (hm:Meth X.K C m f) (F:FnOk X.prog X.w X.K X.mg X.base CX0 k f fd ps sp) (hr:Room k X.A) (hb:Binds X.K fd ps []) (r:MTab X m tbl):MTab X m ((C,sp)::tbl)
theorem MTab.get {m:Str} {tbl:List (Addr×Sp)} (h:MTab X m tbl) {C:Addr} {sp:Sp} (e:tbl.lookup C=some sp):∃ (f:Addr) (fd:FuncData) (ps:List Str) (k:Nat),Cls X.K C∧Meth X.K C m f∧FnOk X.prog X.w X.K X.mg X.base CX0 k f fd ps sp∧Room k X.A∧Binds X.K fd ps []:=by
  induction h with
  | nil=>cases e
  | @cons C' f fd ps sp' k tbl c hm F hr hb r ih =>
    rw [List.lookup_cons] at e
    cases q:C==C' with
    | true =>
      rw [q] at e
      cases e
      have:=beq_iff_eq.mp q
      subst this
      exact ⟨f,fd,ps,k,c,hm,F,hr,hb⟩
    | false =>
      rw [q] at e
      exact ih e
def tMethD (tbl:List (Addr×Sp)) (E:XK) (ta:TE) (t:TA):TE:=fun σ H Q=>ta σ H fun x H1=>∃ a C dx sp,x=.ref a∧H1 a=some (.ins C dx [])∧tbl.lookup C=some sp∧t σ H1 fun vs H2=>sp (x::vs) H2 Q E
theorem pe_methD {m:Str} {o e:Expr} {es:List Expr} {apos pos:Pos} {ta:TE} {t:TA} {tbl:List (Addr×Sp)} {pl:Sem Bool} (he:PE X o ta) (h:MTab X m tbl) (ha:PA X (e::es) t)
    (hst:starEach (e::es) X.env=(false,eval e X.env)::starEach es X.env:=by rfl) (hpl:(backTo pos (starEach es X.env)).any (·.1)=false:=by rfl)
    (ht:eval (.Call (.Attribute o m apos) (e::es) [] pos) X.env=(do
      let ov ← eval o X.env
      standAt apos.atName
      let (f,first) ← holding [ov] (getMethod ov m pl)
      callWith pos f first (backTo pos (starEach (e::es) X.env)) (backToKw pos (keywordEach [] X.env))):=by rfl) :
    PE X (.Call (.Attribute o m apos) (e::es) [] pos) (tMethD tbl E0 ta t):=by
  intro pins s σ H Q I q
  refine PySem.W.methodCall_KW (pl:=pl) (thn (he pins s σ H _ I q) fun u s1 ⟨x,H1,I1,rx,a,C,dx,sp,ex,ea,el,q⟩=>?_) ht
  subst ex
  obtain rfl:u=Value.ref a:=rx
  obtain ⟨f,fd,ps,k,c,hm,F,hr,hb⟩:=h.get el
  refine getmeth_ok I1 ea c hm rfl ?_
  refine PySem.W.callWith_K (first:=[.ref a]) (h₀:=X.base) I.ok.mod.kin hm.kp (thn (ha pos pins s1 σ H1 _ I1 q) fun us s2 ⟨vs,H2,I2,r,q2⟩=>⟨I2.kIn,?_⟩) hst hpl
  have q':sp ((V.ref a::vs)++[]) H2 Q E0:=by rw [List.append_nil]; exact q2
  exact zmm (us:=.ref a::us) (vs:=.ref a::vs) F hr hb .nil zbk I2 (.cons rfl r) q'
structure ClsI (K:PySem.W.Frag) (C:Addr):Prop where
  cl:Cls K C
  ha:PySem.W.findIn K (.ref C) "__class__" = some (some (.builtin "object.__class__"))
  hn:PySem.W.specialIn K (.builtin "object.__class__") "__get__" = some (some (.builtin "getset_descriptor.__get__"))
  htk:PySem.W.takesIn K (.builtin "object.__class__")=some true
  hm:PySem.W.mroIn K C (.type "object")=some true
end
end L2
namespace VL
open PySem L2
open Classical
noncomputable section
variable [Tabs] {K:PySem.W.Frag} {ta tb:TE} {a b:DE}
noncomputable def zjj (C:Addr):DE:=fun _=>some (.ins C)
theorem zhw {C:Addr}:SemI K (zmg C) (zjj C):=fun {B Z os ρ σ H Q d} f q k=>by
  cases q
  intro x dx hx hd ne
  have s1:Same H (upd H dx (.own x)):=zc9 hd
  have hx2:upd H dx (.own x) x=none:=by rw [upd_ne (Ne.symm ne)]; exact hx
  exact k _ _ (s1.trans (zc9 hx2)) (.ins (f.out hx) zbt)
noncomputable def zll (tbl:List (Addr×(List D→Option D))) (a:DE) (es:Rho→Option (List D)):DE:=fun ρ=>match a ρ with
  | some (.ins C)=>(match tbl.lookup C with
    | some F=>(match es ρ with
      | some ds=>F (.ins C::ds)
      | none=>none)
    | none=>none)
  | _=>none
omit [Tabs] in
theorem zh5 {tbl:List (Addr×(List D→Option D))} {es:Rho→Option (List D)} {ρ:Rho} {C:Addr} {F:List D→Option D} {ds:List D} {d:D} (ha:a ρ=some (.ins C)) (h1:tbl.lookup C=some F) (h2:es ρ=some ds) (h3:F (.ins C::ds)=some d):zll tbl a es ρ=some d:=by
  unfold zll; rw [ha]; dsimp only; rw [h1]; dsimp only; rw [h2]; exact h3
def spT (K:PySem.W.Frag) (ms:List Bool) (tbl:List (Addr×(List D→Option D))):List (Addr×Sp):=tbl.map fun p=>(p.1,spD .v K (false::ms) p.2)
theorem spT_lookup {ms:List Bool} {C:Addr} {F:List D→Option D}:∀ {tbl:List (Addr×(List D→Option D))},tbl.lookup C=some F→(spT K ms tbl).lookup C=some (spD .v K (false::ms) F)
  | [],h=>by cases h
  | (C',F')::r,h=>by
    rw [List.lookup_cons] at h
    show List.lookup C ((C',spD .v K (false::ms) F')::spT K ms r)=_
    rw [List.lookup_cons]
    cases q:C==C' with
    | true=>rw [q] at h; cases h; rfl
    | false=>rw [q] at h; exact spT_lookup h
theorem si_meth {ms:List Bool} {tbl:List (Addr×(List D→Option D))} {t:TA} {es:Rho→Option (List D)} {E:XK} (ha:SemB K ta a) (hes:SemA K ms t es):SemI K (tMethD (spT K ms tbl) E ta t) (zll tbl a es):=fun {B Z os ρ σ H Q d} f q k=>by
  unfold zll at q
  split at q
  · rename_i C e1
    split at q
    · rename_i F e2
      split at q
      · rename_i ds e3
        refine ha f e1 fun v H1 s1 i1=>?_
        cases i1 with
        | @ins x _ dx hz hH =>
          refine ⟨x,C,dx,_,rfl,hH,spT_lookup e2,hes (f.grow s1) e3 fun vs H2 s2 ar=>?_⟩
          exact ⟨tot Z os,_,d,(f.grow (s1.trans s2)).zt,.any (.ins (fun h=>h.elim) (s2 _ _ hH)) ar,q,fun w H3 s3 i=>k w H3 ((s1.trans s2).trans s3) (i.is (f.grow (s1.trans s2)).tin)⟩
      · cases q
    · cases q
  · cases q
inductive KTab (K:PySem.W.Frag) (c:Addr):List (Addr×Bool)→Prop
  | nil:KTab K c []
  | cons {C:Addr} {b:Bool} {r:List (Addr×Bool)} (k:ClsI K C) (e:PySem.W.kitOne K (.ref C) (.ref c)=some b) (h:KTab K c r):KTab K c ((C,b)::r)
end
end VL
namespace VL
open PySem L2
open Classical
noncomputable section
variable [Tabs] {K:PySem.W.Frag} {fr:Fm}
end
end VL
namespace L2
open PySem PySem.Spec PyProof.Rows VL
section
variable {X:Cx}
end
end L2
namespace VL
open PySem L2
open Classical
noncomputable section
variable [Tabs] {K:PySem.W.Frag} {ta tb:TE} {a b:DE}
end
end VL
namespace L2
open PySem PySem.Spec PyProof.Rows VL
def tTryX (K:PySem.W.Frag) (F:Value) (b:Bool) (sp:Sp) (t:TA):TS:=fun D σ H=>t σ H fun vs H1=>sp vs H1 (fun _ H'=>D.nx σ H') fun cls _ H' =>
  ∃ C,cls=.ref C∧PySem.W.exmOne K (.ref C) F=some true∧D.rt (.bl b) H'
section
variable {X:Cx} {k:Nat} {f:Addr} {fd:FuncData} {ps:List Str} {sp:Sp} {x y:Str} {e:Expr} {es:List Expr} {t:TA} {F:Value} {p1 p2 p3 p4 p6 p7 p8 pos:Pos} {b:Bool} {j6:Nat}
theorem ps_tryX (ow:OwnX X) (FO:FnOk X.prog X.w X.K X.mg X.base (CXE X.prog X.w) k f fd ps sp) (hr:Room k X.A) (hg:Gl X x) (hm:X.mg x=some (.ref f)) (hk:PySem.W.keepIn X.K (.ref f)=true) (hb:Binds X.K fd ps [])
    (ha:∀ xe,PA (X.wish xe) (e::es) t) (hy:Gl X y) (my:X.mg y=some F)
    (hbody:∀ (a:Addr) xe,PSs ((X.marked (.ref a)).wish xe) [.Return (some (.Constant (.bool b) j6 p6)) p7] (tRet (tC (.bl b))))
    (hdb:(x==("__debug__" : Str))=false:=by decide) (hdy:(y==("__debug__" : Str))=false:=by decide)
    (he:starEach (e::es) X.env=(false,eval e X.env)::starEach es X.env:=by rfl) (hpl:(backTo p2 (starEach es X.env)).any (·.1)=false:=by rfl)
    (hs:swapsWith (.Call (.Name x p1) (e::es) [] p2) none p3.line X.env=pure false:=by rfl) :
    PS X (.Try [.Expr (.Call (.Name x p1) (e::es) [] p2) p3] [.ExceptHandler (some (.Name y p4)) none [.Return (some (.Constant (.bool b) j6 p6)) p7] p8] [] [] pos) (tTryX X.K F b sp t):=by
  intro pins s σ H D I h
  refine wpAny_Try_except (wpAny_execs_cons (wpAny_Expr_any ?_ I.quiet hs))
  refine wpAny_Call_Name_kw (zh3 I hg hm ?_ hdb)
  refine PySem.W.callWith_K (h₀:=X.base) I.ok.mod.kin hk ?_ he hpl
  refine thn (ha (fun e s₁=>wpAny (model X.prog X.w) X.A (noteFrame e X.env) (fun _ s₂=>wpAny (model X.prog X.w) X.A (setFlight e none) (fun _ s₃=>wpAny (model X.prog X.w) X.A (handleBy e X.env [.ExceptHandler (some (.Name y p4)) none [.Return (some (.Constant (.bool b) j6 p6)) p7] p8]) (SP X pins D) X.xe s₃) X.xe s₂) X.xe s₁) p2 pins s σ H _ (I.wish _) h) ?_
  rintro us s1 ⟨vs,H1,I1,r,q⟩
  refine ⟨I1.unwish.kIn,?_⟩
  have I1:=I1.unwish
  have hl:us.length=ps.length:=by rw [← r.length]; exact FO.len _ _ _ _ q
  have hb1:=hb s1 us I1.kIn (by rw [List.append_nil]; exact hl)
  rw [List.append_nil] at hb1
  refine wpAny_call (codeAny_mono (FO.run X.A X.stack s1 H1 ⟨us,[]⟩ us vs _ _ hr I1.env0 hb1 r q) fun r s' hq=>?_)
  cases r with
  | ok fl =>
    cases fl with
    | ret u =>
      obtain ⟨v',H',I',_,q'⟩:=I1.after hq
      exact wpAny_execs_nil (wpAny_execs_nil ⟨σ,H',I',q'⟩)
    | next=>exact False.elim hq
    | brk=>exact False.elim hq
    | cont=>exact False.elim hq
  | error ev =>
    unfold CR at hq
    dsimp only at hq ⊢
    obtain ⟨a,T,cls,H',rfl,I',rc,o1,o2,C,rfl,hx,q'⟩:=I1.raised ow.ex hq
    refine zjb (base:=X.base) (outer:=X.outer) (by rw [← ow.stk]; exact I'.ok.frames) (by rw [← ow.stk]; exact I'.stack) ow.fr rc fun h1 T' n1 r1 g1=>?_
    have o3:=I'.out ow.ex n1
    rw [← ow.stk] at g1
    have I1:Inv X pins σ H' { s' with heap:=h1,toks:=s'.toks }:=I'.hop g1 fun b hb=>by
      rcases List.mem_cons.mp hb with rfl | hb
      · exact o2
      · rw [List.mem_singleton.mp hb]; exact o1
    refine land (env:=X.env) (outer:=X.outer) (s:={ s' with heap:=h1 }) r1 fun h2 r2 g2=>?_
    rw [← ow.stk] at g2
    have I2:Inv X pins σ H' { s' with heap:=h2,toks:=s'.toks }:=I1.hop g2 fun b hb=>by rw [List.mem_singleton.mp hb]; exact o3
    refine wpAny_handleBy_cons (codeAny_handlers_test (zh3 (X:=X.marked (.ref a)) (I2.marked _) hy my ?_ hdy)) (by intro z; cases z)
    have LT:PySem.W.Looks (model X.prog X.w) h2 (typeOf (.ref a)) (.ref C):=by
      obtain ⟨o,e1,e2,_⟩:=r2.exc
      exact e2 ▸ (PySem.W.Looks.ld e1).andThen .now
    refine PySem.W.Looks.at (PySem.W.exm_one (M:=model X.prog X.w) I2.kIn LT hx) ?_
    refine codeAny_handlers_suite (land (env:=X.env) (outer:=X.outer) (s:={ s' with heap:=h2 }) r2 fun h3 r3 g3=>?_)
    rw [← ow.stk] at g3
    have I3:Inv X pins σ H' { s' with heap:=h3,toks:=s'.toks }:=I2.hop g3 fun b hb=>by rw [List.mem_singleton.mp hb]; exact o3
    refine wpAny_mono (hbody a (fun _ _=>False) pins _ _ _ { nx:=fun _ _=>False,rt:=fun v H2=>v=.bl b∧H2=H' } ((I3.marked (.ref a)).wish _) ⟨rfl,rfl⟩) (fun fl s6 h6=>?_) fun _ _ z=>z.elim
    cases fl with
    | next=>obtain ⟨_,_,_,z⟩:=h6; exact z.elim
    | brk=>obtain ⟨_,_,_,z⟩:=h6; exact z.elim
    | cont=>obtain ⟨_,_,_,z⟩:=h6; exact z.elim
    | ret u =>
      obtain ⟨v,σ',H2,I6,r6,rfl,rfl⟩:=h6
      exact ⟨.bl b,σ',H2,I6.unmarked I.ok,r6,q'⟩
theorem ps_tryN {c:Expr} {t:TE} {hd:ExceptHandler} {hs:List ExceptHandler} (he:∀ xe,PE (X.wish xe) c t) (hsw:swapsWith c none p3.line X.env=pure false:=by rfl):PS X (.Try [.Expr c p3] (hd::hs) [] [] pos) (zmh t):=by
  intro pins s σ H D I h
  refine wpAny_Try_except (wpAny_execs_cons (wpAny_Expr_any ?_ I.quiet hsw))
  refine thn (he (fun e s₁=>wpAny (model X.prog X.w) X.A (noteFrame e X.env) (fun _ s₂=>wpAny (model X.prog X.w) X.A (setFlight e none) (fun _ s₃=>wpAny (model X.prog X.w) X.A (handleBy e X.env (hd::hs)) (SP X pins D) X.xe s₃) X.xe s₂) X.xe s₁) pins s σ H _ (I.wish _) h) ?_
  rintro u s1 ⟨v,H1,I1,r,q⟩
  exact wpAny_execs_nil (wpAny_execs_nil ⟨σ,H1,I1.unwish,q⟩)
end
end L2
namespace VL
open PySem L2
open Classical
noncomputable section
variable [Tabs] {K:PySem.W.Frag}
@[irreducible] noncomputable def zko (G:List D→Option Bool) (es:Rho→Option (List D)):DS:=fun ρ=>match es ρ with
  | some ds=>(match G ds with
    | some true=>.nx ρ
    | some false=>.rt (.bl false)
    | none=>.no)
  | none=>.no
theorem ss_tryD {ms:List Bool} {G:List D→Option Bool} {F Xf:List D→Option D} {C:Addr} {t:TA} {es:Rho→Option (List D)} {Fl:Value} {u:TE} (ha:SemA K ms t es) (hF:PySem.W.exmOne K (.ref C) Fl=some true) (hu:SemB K u (za8 F es))
    (hN:∀ ds,G ds=some true→∃ d,F ds=some d) (hX:∀ ds,G ds=some false→∃ d,Xf ds=some d) :
    SemS .v K (tOrS (tTryX K Fl false (spX K ms C Xf) t) (zmh u)) (zko G es):=fun {B Z os ρ σ H En} f p=>by
  unfold zko at p
  cases e1:es ρ with
  | none=>rw [e1] at p; exact p.elim
  | some ds =>
    rw [e1] at p
    dsimp only at p
    cases g:G ds with
    | none=>rw [g] at p; exact p.elim
    | some b =>
      rw [g] at p
      cases b with
      | true =>
        obtain ⟨d,e2⟩:=hN ds g
        exact .inr (hu f (show za8 F es ρ=some d by unfold za8; rw [e1]; exact e2) fun v H1 s1 i1=>p os _ _ (f.grow s1) (.same s1))
      | false =>
        obtain ⟨d,e2⟩:=hX ds g
        exact .inl (ha f e1 fun vs H1 s1 a=>⟨tot Z os,ds,d,(f.grow s1).zt,a,e2,fun H2 s2=>⟨C,rfl,hF,p (.bl false) H2 (f.keep.trans (s1.trans s2)) (.bl false)⟩⟩)
theorem wp_tryT {G:List D→Option Bool} {es:Rho→Option (List D)} {ρ:Rho} {ds:List D} {W:Wk} (h0:es ρ=some ds) (h:G ds=some true) (k:W.nx ρ):Wp (zko G es) ρ W:=by
  unfold Wp zko
  rw [h0]
  dsimp only
  rw [h]
  exact k
theorem wp_tryF {G:List D→Option Bool} {es:Rho→Option (List D)} {ρ:Rho} {ds:List D} {W:Wk} (h0:es ρ=some ds) (h:G ds=some false) (k:W.rt (.bl false)):Wp (zko G es) ρ W:=by
  unfold Wp zko
  rw [h0]
  dsimp only
  rw [h]
  exact k
end
end VL
namespace VL
open PySem L2
open Classical
noncomputable section
variable [Tabs] {K:PySem.W.Frag} {ta tb:TE} {a b:DE}
def unB:List D→Option (List Bool)
  | []=>some []
  | .bl x::r=>(unB r).map (x::·)
  | _::_=>none
omit [Tabs] in
theorem unB_map:∀ xs:List Bool,unB (xs.map D.bl)=some xs
  | []=>rfl
  | x::r=>by show (unB (r.map D.bl)).map (x::·)=_; rw [unB_map r]; rfl
omit [Tabs] in
theorem unB_some:∀ {ds:List D} {xs:List Bool},unB ds=some xs→ds=xs.map D.bl
  | [],_,h=>by cases h; rfl
  | d::r,xs,h=>by
    unfold unB at h
    split at h
    · cases h; rename_i e; cases e
    · rename_i x r' e
      cases e
      obtain ⟨ys,e1,rfl⟩:=Option.map_eq_some_iff.mp h
      rw [unB_some e1]
      rfl
    · cases h
omit [Tabs] in
theorem IsL.unbls {H:Hp} {Z:Addr→Prop}:∀ {vs:List V} {xs:List Bool},IsL K H Z vs (xs.map D.bl)→vs=xs.map V.bl
  | _,[],.nil=>rfl
  | _,x::xs,.cons (.bl _) r=>by rw [IsL.unbls (xs:=xs) r]; rfl
noncomputable def dInB (neg:Bool) (a b:DE):DE:=fun ρ=>match a ρ with
  | some (.bl x)=>(match b ρ with
    | some (.lst ds)=>(unB ds).map fun xs=>.bl (if neg then !xs.contains x else xs.contains x)
    | _=>none)
  | _=>none
omit [Tabs] in
theorem ev_inB {neg:Bool} {ρ:Rho} {x:Bool} {xs:List Bool} (ha:a ρ=some (.bl x)) (hb:b ρ=some (.lst (xs.map D.bl))):dInB neg a b ρ=some (.bl (if neg then !xs.contains x else xs.contains x)):=by unfold dInB; rw [ha,hb]; dsimp only; rw [unB_map]; rfl
omit [Tabs] in
theorem inV_bls (k:Bool) (hs:List Bool):inV (.bl k) (hs.map V.bl)=hs.contains k:=by
  unfold inV
  rw [List.any_map,Bool.eq_iff_iff,List.any_eq_true,List.contains_iff_mem]
  constructor
  · rintro ⟨x,hx,e⟩
    have e':(x==k)=true:=e
    rw [← beq_iff_eq.mp e']
    exact hx
  · intro h
    exact ⟨k,h,show (k==k)=true from beq_self_eq_true k⟩
omit [Tabs] in
theorem flat_bls (ns:List Bool):(ns.map V.bl).all zim=true:=by
  rw [List.all_map,List.all_eq_true]
  intro x _
  rfl
theorem si_inB {neg:Bool} (ha:SemB K ta a) (hb:SemB K tb b):SemI K (tOp (rIn K neg) ta tb) (dInB neg a b):=fun {B Z os ρ σ H Q d} f q k=>by
  unfold dInB at q
  split at q
  · rename_i x e1
    split at q
    · rename_i ds e2
      cases e3:unB ds with
      | none=>rw [e3] at q; cases q
      | some xs =>
        rw [e3] at q
        cases q
        have:=unB_some e3
        subst this
        refine ha f e1 fun v H1 s1 i1=>hb (f.grow s1) e2 fun u H2 s2 i2=>?_
        obtain ⟨p,vs,rfl,hz,hr,hn,r⟩:=i2.isLst
        have:=r.unbls
        subst this
        cases i1
        exact ⟨p,_,rfl,.inl (.inl hr),rfl,flat_bls xs,by rw [inV_bls]; exact k _ _ (s1.trans s2) (.bl _)⟩
    · cases q
  · cases q
end
end VL
set_option maxHeartbeats 4000000
namespace My
open PySem L2 VL
def top (i:Nat):Stmt:=PySem.Challenge.pw_leastfloor_k72_what_is_a_floor.main.body.getD i (.Pass ⟨0,0,0,0⟩)
abbrev zft:Addr:=596
abbrev zhi:Addr:=655
abbrev zfr:Addr:=714
abbrev zd2:Addr:=771
abbrev zhh:Addr:=891
abbrev zfs:Addr:=955
def zma (s:Stmt) (j:Nat):Stmt:=match s with
  | .ClassDef _ _ _ b _ _ _ _ _ _ _=>b.getD j (.Pass ⟨0,0,0,0⟩)
  | _=>.Pass ⟨0,0,0,0⟩
noncomputable abbrev zdy:Stmt:=top 7
noncomputable abbrev zdh:Stmt:=top 8
noncomputable abbrev zen:Stmt:=top 38
noncomputable abbrev zdg:Stmt:=top 39
noncomputable abbrev zgt:Stmt:=top 40
noncomputable abbrev zgn:Stmt:=top 69
noncomputable abbrev zem:Stmt:=top 70
noncomputable abbrev zdl:Stmt:=zma (top 99) 1
noncomputable abbrev zd0:Stmt:=zma (top 100) 1
noncomputable abbrev zdj:Stmt:=zma (top 101) 1
noncomputable abbrev zc0:Stmt:=zma (top 102) 1
noncomputable abbrev zdz:Stmt:=zma (top 104) 1
noncomputable abbrev zdk:Stmt:=zma (top 105) 1
noncomputable abbrev zh0:Stmt:=top 106
noncomputable abbrev zhy:Stmt:=top 108
noncomputable abbrev zgo:Stmt:=top 109
noncomputable abbrev zgp:Stmt:=top 110
noncomputable abbrev zgr:Stmt:=top 111
noncomputable abbrev zhx:Stmt:=top 112
noncomputable abbrev zda:Stmt:=top 113
noncomputable abbrev zcz:Stmt:=top 114
noncomputable abbrev zcy:Stmt:=top 115
noncomputable abbrev zgs:Stmt:=top 116
noncomputable abbrev zdi:Stmt:=top 117
noncomputable abbrev zgq:Stmt:=top 118
noncomputable abbrev zhz:Stmt:=top 119
noncomputable abbrev zl5:Stmt:=top 120
theorem sc_tells_one:FnScope ["numbers", "least", "most"] ["numbers", "least", "most"] (zao zdy):=⟨rfl,rfl,rfl,by decide +kernel,rfl,by decide +kernel,by decide +kernel⟩
theorem sc_none_below:FnScope ["numbers", "least"] ["numbers", "least"] (zao zdh):=⟨rfl,rfl,rfl,by decide +kernel,rfl,by decide +kernel,by decide +kernel⟩
theorem sc_ahead_of:FnScope ["many", "needs", "before", "between", "first"] ["many", "needs"] (zao zen):=⟨rfl,rfl,rfl,by decide +kernel,rfl,by decide +kernel,by decide +kernel⟩
theorem sc_told_order:FnScope ["many", "needs", "before", "first", "later"] ["many", "needs"] (zao zdg):=⟨rfl,rfl,rfl,by decide +kernel,rfl,by decide +kernel,by decide +kernel⟩
theorem sc_either:FnScope ["truths", "others"] ["truths", "others"] (zao zgt):=⟨rfl,rfl,rfl,by decide +kernel,rfl,by decide +kernel,by decide +kernel⟩
theorem sc_levels:FnScope ["behind", "later"] ["behind"] (zao zgn):=⟨rfl,rfl,rfl,by decide +kernel,rfl,by decide +kernel,by decide +kernel⟩
theorem sc_level_of:FnScope ["behind", "work", "level", "later"] ["behind", "work"] (zao zem):=⟨rfl,rfl,rfl,by decide +kernel,rfl,by decide +kernel,by decide +kernel⟩
theorem sc_Alike_fits:FnScope ["self", "rows"] ["self", "rows"] (zao zdl):=⟨rfl,rfl,rfl,by decide +kernel,rfl,by decide +kernel,by decide +kernel⟩
theorem sc_Open_fits:FnScope ["self", "rows"] ["self", "rows"] (zao zd0):=⟨rfl,rfl,rfl,by decide +kernel,rfl,by decide +kernel,by decide +kernel⟩
theorem sc_Tails_fits:FnScope ["self", "rows"] ["self", "rows"] (zao zdj):=⟨rfl,rfl,rfl,by decide +kernel,rfl,by decide +kernel,by decide +kernel⟩
theorem sc_Windows_fits:FnScope ["self", "rows"] ["self", "rows"] (zao zc0):=⟨rfl,rfl,rfl,by decide +kernel,rfl,by decide +kernel,by decide +kernel⟩
theorem sc_Tree_fits:FnScope ["self", "rows"] ["self", "rows"] (zao zdz):=⟨rfl,rfl,rfl,by decide +kernel,rfl,by decide +kernel,by decide +kernel⟩
theorem sc_Pairs_fits:FnScope ["self", "rows"] ["self", "rows"] (zao zdk):=⟨rfl,rfl,rfl,by decide +kernel,rfl,by decide +kernel,by decide +kernel⟩
theorem sc_kinds:FnScope [] [] (zao zh0):=⟨rfl,rfl,rfl,by decide +kernel,rfl,by decide +kernel,by decide +kernel⟩
theorem sc_l_mix:FnScope ["_law_number", "_law_k"] ["_law_number", "_law_k"] (zao zhy):=⟨rfl,rfl,rfl,by decide +kernel,rfl,by decide +kernel,by decide +kernel⟩
theorem sc_l_many:FnScope ["_law_cell", "_law_most"] ["_law_cell", "_law_most"] (zao zgo):=⟨rfl,rfl,rfl,by decide +kernel,rfl,by decide +kernel,by decide +kernel⟩
theorem sc_l_hour:FnScope ["_law_cell", "_law_k"] ["_law_cell", "_law_k"] (zao zgp):=⟨rfl,rfl,rfl,by decide +kernel,rfl,by decide +kernel,by decide +kernel⟩
theorem sc_l_good:FnScope ["_law_at", "_law_cell", "_law_wide", "_law_many_here", "_law_rows", "_law_k", "_law_come", "_law_behind", "_law_one"] ["_law_at", "_law_cell"] (zao zgr):=⟨rfl,rfl,rfl,by decide +kernel,rfl,by decide +kernel,by decide +kernel⟩
theorem sc_l_put:FnScope ["_law_rows", "_law_at", "_law_some"] ["_law_rows", "_law_at", "_law_some"] (zao zhx):=⟨rfl,rfl,rfl,by decide +kernel,rfl,by decide +kernel,by decide +kernel⟩
theorem sc_l_bent_list:FnScope ["_law_at", "_law_rows", "_law_cell", "_law_head_here", "_law_listed", "_law_place", "_law_least", "_law_some", "_law_root"] ["_law_at", "_law_rows", "_law_cell"] (zao zda):=⟨rfl,rfl,rfl,by decide +kernel,rfl,by decide +kernel,by decide +kernel⟩
theorem sc_l_bent_pairs:FnScope ["_law_rows", "_law_cell", "_law_many_here", "_law_a", "_law_b", "_law_more", "_law_some", "_law_c"] ["_law_rows", "_law_cell"] (zao zcz):=⟨rfl,rfl,rfl,by decide +kernel,rfl,by decide +kernel,by decide +kernel⟩
theorem sc_l_bent_place:FnScope ["_law_head_here", "_law_rows", "_law_cell", "_law_some", "_law_place", "_law_row", "_law_k", "_law_number"] ["_law_head_here", "_law_rows", "_law_cell"] (zao zcy):=⟨rfl,rfl,rfl,by decide +kernel,rfl,by decide +kernel,by decide +kernel⟩
theorem sc_l_bent:FnScope ["_law_at", "_law_rows", "_law_cell", "_law_some", "_law_head_here", "_law_row"] ["_law_at", "_law_rows", "_law_cell"] (zao zgs):=⟨rfl,rfl,rfl,by decide +kernel,rfl,by decide +kernel,by decide +kernel⟩
theorem sc_l_in_order:FnScope ["_law_many_here", "_law_pairs", "_law_one", "_law_other", "_law_gone", "_law_k", "_law_held"] ["_law_many_here", "_law_pairs"] (zao zdi):=⟨rfl,rfl,rfl,by decide +kernel,rfl,by decide +kernel,by decide +kernel⟩
theorem sc_l_head:FnScope ["_law_rows", "_law_least", "_law_most"] ["_law_rows", "_law_least", "_law_most"] (zao zgq):=⟨rfl,rfl,rfl,by decide +kernel,rfl,by decide +kernel,by decide +kernel⟩
theorem sc_l_due:FnScope ["_law_at", "_law_rows", "_law_pairs", "_law_some", "_law_row"] ["_law_at", "_law_rows"] (zao zhz):=⟨rfl,rfl,rfl,by decide +kernel,rfl,by decide +kernel,by decide +kernel⟩
theorem sc_law:FnScope ["_law_script", "_law_found", "_law_cell", "_law_at", "_law_rows", "_law_bent_here", "_law_handed", "_law_right"] ["_law_script"] (zao zl5):=⟨rfl,rfl,rfl,by decide +kernel,rfl,by decide +kernel,by decide +kernel⟩
set_option genInjectivity false in
set_option genSizeOf false in
structure Adr where
  f_tells_one:Addr
  d_tells_one:FuncData
  f_none_below:Addr
  d_none_below:FuncData
  f_ahead_of:Addr
  d_ahead_of:FuncData
  f_told_order:Addr
  d_told_order:FuncData
  f_either:Addr
  d_either:FuncData
  f_levels:Addr
  d_levels:FuncData
  f_level_of:Addr
  d_level_of:FuncData
  f_Alike_fits:Addr
  d_Alike_fits:FuncData
  f_Open_fits:Addr
  d_Open_fits:FuncData
  f_Tails_fits:Addr
  d_Tails_fits:FuncData
  f_Windows_fits:Addr
  d_Windows_fits:FuncData
  f_Tree_fits:Addr
  d_Tree_fits:FuncData
  f_Pairs_fits:Addr
  d_Pairs_fits:FuncData
  f_kinds:Addr
  d_kinds:FuncData
  f_l_mix:Addr
  d_l_mix:FuncData
  f_l_many:Addr
  d_l_many:FuncData
  f_l_hour:Addr
  d_l_hour:FuncData
  f_l_good:Addr
  d_l_good:FuncData
  f_l_put:Addr
  d_l_put:FuncData
  f_l_bent_list:Addr
  d_l_bent_list:FuncData
  f_l_bent_pairs:Addr
  d_l_bent_pairs:FuncData
  f_l_bent_place:Addr
  d_l_bent_place:FuncData
  f_l_bent:Addr
  d_l_bent:FuncData
  f_l_in_order:Addr
  d_l_in_order:FuncData
  f_l_head:Addr
  d_l_head:FuncData
  f_l_due:Addr
  d_l_due:FuncData
  f_law:Addr
  d_law:FuncData
  c_NoOrder:Addr
structure Txt [Tabs] (K:PySem.W.Frag) (mg:Str→Option Value) (a:Adr):Prop where
  F_tells_one:Fun K "tells_one" "tells_one" zdy a.f_tells_one a.d_tells_one
  b_tells_one:Binds K a.d_tells_one ["numbers", "least", "most"] []
  m_tells_one:mg "tells_one" = some (.ref a.f_tells_one)
  F_none_below:Fun K "none_below" "none_below" zdh a.f_none_below a.d_none_below
  b_none_below:Binds K a.d_none_below ["numbers", "least"] []
  m_none_below:mg "none_below" = some (.ref a.f_none_below)
  F_ahead_of:Fun K "ahead_of" "ahead_of" zen a.f_ahead_of a.d_ahead_of
  b_ahead_of:Binds K a.d_ahead_of ["many", "needs"] []
  m_ahead_of:mg "ahead_of" = some (.ref a.f_ahead_of)
  F_told_order:Fun K "told_order" "told_order" zdg a.f_told_order a.d_told_order
  b_told_order:Binds K a.d_told_order ["many", "needs"] []
  m_told_order:mg "told_order" = some (.ref a.f_told_order)
  F_either:Fun K "either" "either" zgt a.f_either a.d_either
  b_either:Binds K a.d_either ["truths", "others"] []
  m_either:mg "either" = some (.ref a.f_either)
  F_levels:Fun K "levels" "levels" zgn a.f_levels a.d_levels
  b_levels:Binds K a.d_levels ["behind"] []
  m_levels:mg "levels" = some (.ref a.f_levels)
  F_level_of:Fun K "level_of" "level_of" zem a.f_level_of a.d_level_of
  b_level_of:Binds K a.d_level_of ["behind", "work"] []
  m_level_of:mg "level_of" = some (.ref a.f_level_of)
  F_Alike_fits:Fun K "fits" "Alike.fits" zdl a.f_Alike_fits a.d_Alike_fits
  b_Alike_fits:Binds K a.d_Alike_fits ["self", "rows"] []
  t_Alike_fits:Meth K 596 "fits" a.f_Alike_fits
  F_Open_fits:Fun K "fits" "Open.fits" zd0 a.f_Open_fits a.d_Open_fits
  b_Open_fits:Binds K a.d_Open_fits ["self", "rows"] []
  t_Open_fits:Meth K 655 "fits" a.f_Open_fits
  F_Tails_fits:Fun K "fits" "Tails.fits" zdj a.f_Tails_fits a.d_Tails_fits
  b_Tails_fits:Binds K a.d_Tails_fits ["self", "rows"] []
  t_Tails_fits:Meth K 714 "fits" a.f_Tails_fits
  F_Windows_fits:Fun K "fits" "Windows.fits" zc0 a.f_Windows_fits a.d_Windows_fits
  b_Windows_fits:Binds K a.d_Windows_fits ["self", "rows"] []
  t_Windows_fits:Meth K 771 "fits" a.f_Windows_fits
  F_Tree_fits:Fun K "fits" "Tree.fits" zdz a.f_Tree_fits a.d_Tree_fits
  b_Tree_fits:Binds K a.d_Tree_fits ["self", "rows"] []
  t_Tree_fits:Meth K 891 "fits" a.f_Tree_fits
  F_Pairs_fits:Fun K "fits" "Pairs.fits" zdk a.f_Pairs_fits a.d_Pairs_fits
  b_Pairs_fits:Binds K a.d_Pairs_fits ["self", "rows"] []
  t_Pairs_fits:Meth K 955 "fits" a.f_Pairs_fits
  F_kinds:Fun K "kinds" "kinds" zh0 a.f_kinds a.d_kinds
  b_kinds:Binds K a.d_kinds [] []
  m_kinds:mg "kinds" = some (.ref a.f_kinds)
  F_l_mix:Fun K "_law_mix" "_law_mix" zhy a.f_l_mix a.d_l_mix
  b_l_mix:Binds K a.d_l_mix ["_law_number", "_law_k"] []
  m_l_mix:mg "_law_mix" = some (.ref a.f_l_mix)
  F_l_many:Fun K "_law_many" "_law_many" zgo a.f_l_many a.d_l_many
  b_l_many:Binds K a.d_l_many ["_law_cell", "_law_most"] []
  m_l_many:mg "_law_many" = some (.ref a.f_l_many)
  F_l_hour:Fun K "_law_hour" "_law_hour" zgp a.f_l_hour a.d_l_hour
  b_l_hour:Binds K a.d_l_hour ["_law_cell", "_law_k"] []
  m_l_hour:mg "_law_hour" = some (.ref a.f_l_hour)
  F_l_good:Fun K "_law_good" "_law_good" zgr a.f_l_good a.d_l_good
  b_l_good:Binds K a.d_l_good ["_law_at", "_law_cell"] []
  m_l_good:mg "_law_good" = some (.ref a.f_l_good)
  F_l_put:Fun K "_law_put" "_law_put" zhx a.f_l_put a.d_l_put
  b_l_put:Binds K a.d_l_put ["_law_rows", "_law_at", "_law_some"] []
  m_l_put:mg "_law_put" = some (.ref a.f_l_put)
  F_l_bent_list:Fun K "_law_bent_list" "_law_bent_list" zda a.f_l_bent_list a.d_l_bent_list
  b_l_bent_list:Binds K a.d_l_bent_list ["_law_at", "_law_rows", "_law_cell"] []
  m_l_bent_list:mg "_law_bent_list" = some (.ref a.f_l_bent_list)
  F_l_bent_pairs:Fun K "_law_bent_pairs" "_law_bent_pairs" zcz a.f_l_bent_pairs a.d_l_bent_pairs
  b_l_bent_pairs:Binds K a.d_l_bent_pairs ["_law_rows", "_law_cell"] []
  m_l_bent_pairs:mg "_law_bent_pairs" = some (.ref a.f_l_bent_pairs)
  F_l_bent_place:Fun K "_law_bent_place" "_law_bent_place" zcy a.f_l_bent_place a.d_l_bent_place
  b_l_bent_place:Binds K a.d_l_bent_place ["_law_head_here", "_law_rows", "_law_cell"] []
  m_l_bent_place:mg "_law_bent_place" = some (.ref a.f_l_bent_place)
  F_l_bent:Fun K "_law_bent" "_law_bent" zgs a.f_l_bent a.d_l_bent
  b_l_bent:Binds K a.d_l_bent ["_law_at", "_law_rows", "_law_cell"] []
  m_l_bent:mg "_law_bent" = some (.ref a.f_l_bent)
  F_l_in_order:Fun K "_law_in_order" "_law_in_order" zdi a.f_l_in_order a.d_l_in_order
  b_l_in_order:Binds K a.d_l_in_order ["_law_many_here", "_law_pairs"] []
  m_l_in_order:mg "_law_in_order" = some (.ref a.f_l_in_order)
  F_l_head:Fun K "_law_head" "_law_head" zgq a.f_l_head a.d_l_head
  b_l_head:Binds K a.d_l_head ["_law_rows", "_law_least", "_law_most"] []
  m_l_head:mg "_law_head" = some (.ref a.f_l_head)
  F_l_due:Fun K "_law_due" "_law_due" zhz a.f_l_due a.d_l_due
  b_l_due:Binds K a.d_l_due ["_law_at", "_law_rows"] []
  m_l_due:mg "_law_due" = some (.ref a.f_l_due)
  F_law:Fun K "law" "law" zl5 a.f_law a.d_law
  b_law:Binds K a.d_law ["_law_script"] []
  m_law:mg "law" = some (.ref a.f_law)
  z_all:mg "all" = none
  z_any:mg "any" = none
  z_bool:mg "bool" = none
  z_int:mg "int" = none
  z_isinstance:mg "isinstance" = none
  z_len:mg "len" = none
  z_list:mg "list" = none
  z_max:mg "max" = none
  z_min:mg "min" = none
  z_range:mg "range" = none
  z_zip:mg "zip" = none
  m_NoOrder:mg "NoOrder" = some (.ref a.c_NoOrder)
  m_Alike:mg "Alike" = some (.ref 596)
  m_Open:mg "Open" = some (.ref 655)
  m_Tails:mg "Tails" = some (.ref 714)
  m_Windows:mg "Windows" = some (.ref 771)
  m_Tree:mg "Tree" = some (.ref 891)
  m_Pairs:mg "Pairs" = some (.ref 955)
  q_NoOrder:PySem.W.excIn K a.c_NoOrder [.type "ValueError", .type "Exception", .type "BaseException", .type "object"] "ValueError.__new__" = true
  x_NoOrder_NoOrder:PySem.W.exmOne K (.ref a.c_NoOrder) (.ref a.c_NoOrder)=some true
  mk_Alike:MkP K 596
  mk_Open:MkP K 655
  mk_Tails:MkP K 714
  mk_Windows:MkP K 771
  mk_Tree:MkP K 891
  mk_Pairs:MkP K 955
  ki_Pairs:ClsI K 955
  ki_Tree:ClsI K 891
  ki_Windows:ClsI K 771
  ki_Tails:ClsI K 714
  ki_Open:ClsI K 655
  ki_Alike:ClsI K 596
noncomputable section
theorem st_tells_one (x0 x1 x2:D):stD 3 [false,false,false] [x0,x1,x2]=[.bo x0,.bo x1,.bo x2]:=rfl
noncomputable def zfv:DS:=(sRet (zfq (dEq false (dF1 lenD (dVar 0)) (dC (.int 1))) (ze1 (fun i j=>decide (i≤j)) (fun i j=>decide (i≤j)) (dVar 1) (dIx (dVar 0) (dC (.int 0))) (dVar 2))))
@[irreducible] noncomputable def F_tells_one:List D→Option D:=runD 3 [false,false,false] zfv
theorem F_tells_one_def:F_tells_one=runD 3 [false,false,false] zfv:=by unfold F_tells_one; rfl
theorem st_none_below (x0 x1:D):stD 2 [false,false] [x0,x1]=[.bo x0,.bo x1]:=rfl
noncomputable def ze4:DS:=(sRet (dF1 allD (dLst (zdb 1 [1] (asL (dVar 0)) (gN false 0) zdd (dGe (dVar 0) (dVar 1))))))
@[irreducible] noncomputable def F_none_below:List D→Option D:=runD 2 [false,false] ze4
theorem F_none_below_def:F_none_below=runD 2 [false,false] ze4:=by unfold F_none_below; rfl
theorem st_either (x0 x1:D):stD 2 [false,false] [x0,x1]=[.bo x0,.bo x1]:=rfl
noncomputable def zi0:DS:=(sRet (dLst (zdb 2 [] (zl9 (dVar 0) (dVar 1)) (gUn 2 (zfh (gN true 0) (zfh (gN true 1) zlf))) zdd (dOrV (dVar 0) (zat 1)))))
@[irreducible] noncomputable def F_either:List D→Option D:=runD 2 [false,false] zi0
theorem F_either_def:F_either=runD 2 [false,false] zi0:=by unfold F_either; rfl
def zel:DS:=(sSeq (zk8 2 (zih 1 [0] (dRg1 (dVar 0)) (gN true 0) zdd (dRep (zag (dC (.bl false)) dNil) (dVar 1))))
 (sSeq (sFor (asL (zjq 1)) (gUn 2 (zfh (gN false 3) (zfh (gN false 4) zlf)))
 (sSeq (sIf (dNot (dAnd (dT (ze1 (fun i j=>decide (i≤j)) (fun i j=>decide (i<j)) (dC (.int 0)) (dVar 3) (dVar 0))) (dT (ze1 (fun i j=>decide (i≤j)) (fun i j=>decide (i<j)) (dC (.int 0)) (dVar 4) (dVar 0)))))
      (zg8 [(dVar 3),(dVar 4)])
      zb7)
 (zl6 2 (dVar 3) (dVar 4) (dC (.bl true)))))
    sNo))
@[irreducible] def zea:List D→Option D:=runF 5 [false,false] zel
theorem X_told_order_def:zea=runF 5 [false,false] zel:=by unfold zea; rfl
theorem st_told_order (x0 x1:D):stD 5 [false,false] [x0,x1]=[.bo x0,.bo x1,.un,.un,.un]:=rfl
noncomputable def ze3:DS:=(sSeq (zk8 2 (zih 1 [0] (dRg1 (dVar 0)) (gN true 0) zdd (dRep (zag (dC (.bl false)) dNil) (dVar 1))))
 (sSeq (sFor (asL (zjq 1)) (gUn 2 (zfh (gN false 3) (zfh (gN false 4) zlf)))
 (sSeq (sIf (dNot (dAnd (dT (ze1 (fun i j=>decide (i≤j)) (fun i j=>decide (i<j)) (dC (.int 0)) (dVar 3) (dVar 0))) (dT (ze1 (fun i j=>decide (i≤j)) (fun i j=>decide (i<j)) (dC (.int 0)) (dVar 4) (dVar 0)))))
      sNo
      zb7)
 (zl6 2 (dVar 3) (dVar 4) (dC (.bl true)))))
    (zml 2 (zmk 2))))
@[irreducible] noncomputable def F_told_order:List D→Option D:=runF 5 [false,false] ze3
theorem F_told_order_def:F_told_order=runF 5 [false,false] ze3:=by unfold F_told_order; rfl
def zf0:DS:=(sSeq (sXor (za8 zea (zag (dVar 0) (zag (dVar 1) dNil))) (zfc 2 (zj0 F_told_order (zag (dVar 0) (zag (dVar 1) dNil)))))
 (sSeq (sFor (dRg1 (dVar 0)) (gN true 3)
 (sFor (dRg1 (dVar 0)) (gN true 4)
 (sIf (dTru (dIx (dIx (dVar 2) (dVar 4)) (dVar 3)))
 (sPut 2 (dVar 4) (za8 F_either (zag (dIx (dVar 2) (dVar 4)) (zag (dIx (dVar 2) (dVar 3)) dNil))))
      zb7)))
 (sSeq (sIf (dTru (dF1 anyD (dLst (zdb 1 [2] (dRg1 (dVar 0)) (gN true 0) zdd (zjf (dIx (dIx (dVar 1) (dVar 0)) (dVar 0)))))))
      (zg8 [])
      zb7)
    sNo)))
@[irreducible] def zfk:List D→Option D:=runF 5 [false,false] zf0
theorem X_ahead_of_def:zfk=runF 5 [false,false] zf0:=by unfold zfk; rfl
theorem st_ahead_of (x0 x1:D):stD 5 [false,false] [x0,x1]=[.bo x0,.bo x1,.un,.un,.un]:=rfl
noncomputable def zg0:DS:=(sSeq (zfc 2 (zj0 F_told_order (zag (dVar 0) (zag (dVar 1) dNil))))
 (sSeq (sFor (dRg1 (dVar 0)) (gN true 3)
 (sFor (dRg1 (dVar 0)) (gN true 4)
 (sIf (dTru (dIx (dIx (dVar 2) (dVar 4)) (dVar 3)))
 (sPut 2 (dVar 4) (za8 F_either (zag (dIx (dVar 2) (dVar 4)) (zag (dIx (dVar 2) (dVar 3)) dNil))))
      zb7)))
 (sSeq (sIf (dTru (dF1 anyD (dLst (zdb 1 [2] (dRg1 (dVar 0)) (gN true 0) zdd (zjf (dIx (dIx (dVar 1) (dVar 0)) (dVar 0)))))))
      sNo
      zb7)
 (sRet (dLst (zdb 1 [0] (asL (dVar 2)) (gN false 0) zdd (dLst (zdb 1 [0] (dRg1 (dVar 1)) (gN true 0) (dTru (dIx (dVar 1) (dVar 0))) (zat 0)))))))))
@[irreducible] noncomputable def F_ahead_of:List D→Option D:=runD 5 [false,false] zg0
theorem F_ahead_of_def:F_ahead_of=runD 5 [false,false] zg0:=by unfold F_ahead_of; rfl
def zfz:DS:=(sSeq (sSet 2 (dC (.int 1)))
 (sSeq (sSet 3 (zjf (dIx (dVar 0) (dVar 1))))
 (sSeq (zia (dT (dEq true (dVar 3) (dNeg (dC (.int 1)))))
 (sSeq (sAug (fun x y=>x+y) 2 (dC (.int 1)))
 (sSeq (sIf (dT (dGt (dVar 2) (dF1 lenD (dVar 0))))
      (zg8 [(dVar 1)])
      zb7)
 (sSet 3 (zjf (dIx (dVar 0) (dVar 3)))))))
    sNo)))
@[irreducible] def zfj:List D→Option D:=runF 4 [false,false] zfz
theorem X_level_of_def:zfj=runF 4 [false,false] zfz:=by unfold zfj; rfl
theorem st_level_of (x0 x1:D):stD 4 [false,false] [x0,x1]=[.bo x0,.bo x1,.un,.un]:=rfl
noncomputable def zgz:DS:=(sSeq (sSet 2 (dC (.int 1)))
 (sSeq (sSet 3 (zjf (dIx (dVar 0) (dVar 1))))
 (sSeq (zia (dT (dEq true (dVar 3) (dNeg (dC (.int 1)))))
 (sSeq (sAug (fun x y=>x+y) 2 (dC (.int 1)))
 (sSeq (sIf (dT (dGt (dVar 2) (dF1 lenD (dVar 0))))
      sNo
      zb7)
 (sSet 3 (zjf (dIx (dVar 0) (dVar 3)))))))
 (sRet (zat 2)))))
@[irreducible] noncomputable def F_level_of:List D→Option D:=runD 4 [false,false] zgz
theorem F_level_of_def:F_level_of=runD 4 [false,false] zgz:=by unfold F_level_of; rfl
def zhv:DS:=(sSeq (sFor (asL (zjq 0)) (gN false 1)
 (sIf (dNot (dT (ze1 (fun i j=>decide (i≤j)) (fun i j=>decide (i<j)) (dNeg (dC (.int 1))) (dVar 1) (dF1 lenD (dVar 0)))))
      (zg8 [(dVar 1)])
      zb7))
    (sXC 1 [0] (dRg1 (dF1 lenD (dVar 0))) (gN true 0) (za8 F_level_of (zag (dVar 1) (zag (dVar 0) dNil))) (za8 zfj (zag (dVar 1) (zag (dVar 0) dNil)))))
@[irreducible] def zht:List D→Option D:=runF 2 [false] zhv
theorem X_levels_def:zht=runF 2 [false] zhv:=by unfold zht; rfl
theorem st_levels (x0:D):stD 2 [false] [x0]=[.bo x0,.un]:=rfl
noncomputable def ziv:DS:=(sSeq (sFor (asL (zjq 0)) (gN false 1)
 (sIf (dNot (dT (ze1 (fun i j=>decide (i≤j)) (fun i j=>decide (i<j)) (dNeg (dC (.int 1))) (dVar 1) (dF1 lenD (dVar 0)))))
      sNo
      zb7))
 (sRet (dLst (zdb 1 [0] (dRg1 (dF1 lenD (dVar 0))) (gN true 0) zdd (za8 F_level_of (zag (dVar 1) (zag (dVar 0) dNil)))))))
@[irreducible] noncomputable def F_levels:List D→Option D:=runD 2 [false] ziv
theorem F_levels_def:F_levels=runD 2 [false] ziv:=by unfold F_levels; rfl
theorem st_Alike_fits (x0 x1:D):stD 2 [false,true] [x0,x1]=[.bo x0,.pu x1]:=rfl
noncomputable def ze8:DS:=(sSeq (sIf (dOr (dT (dEq true (dF1 lenD (dVar 1)) (dC (.int 2)))) (dNot (dTru (za8 F_tells_one (zag (dIx (dVar 1) (dC (.int 0))) (zag (dC (.int 1)) (zag (dC (.int 20)) dNil)))))))
 (sRet (dC (.bl false)))
      zb7)
 (sRet (zfq (dLe (dF1 lenD (dIx (dVar 1) (dC (.int 1)))) (dC (.int 20))) (za8 F_none_below (zag (dIx (dVar 1) (dC (.int 1))) (zag (dC (.int 0)) dNil))))))
@[irreducible] noncomputable def F_Alike_fits:List D→Option D:=runD 2 [false,true] ze8
theorem F_Alike_fits_def:F_Alike_fits=runD 2 [false,true] ze8:=by unfold F_Alike_fits; rfl
theorem st_Open_fits (x0 x1:D):stD 2 [false,true] [x0,x1]=[.bo x0,.pu x1]:=rfl
noncomputable def zfy:DS:=(sSeq (sIf (dT (dGt (dF1 lenD (dVar 1)) (dC (.int 6))))
 (sRet (dC (.bl false)))
      zb7)
 (sRet (dF1 allD (dLst (zdb 1 [1] (asL (zat 1)) (gN true 0) zdd (zfq (dEq false (dF1 lenD (dVar 0)) (dF1 lenD (dIx (dVar 1) (dC (.int 0))))) (zfq (dLe (dF1 lenD (dVar 0)) (dC (.int 6))) (za8 F_none_below (zag (dVar 0) (zag (dC (.int 0)) dNil))))))))))
@[irreducible] noncomputable def F_Open_fits:List D→Option D:=runD 2 [false,true] zfy
theorem F_Open_fits_def:F_Open_fits=runD 2 [false,true] zfy:=by unfold F_Open_fits; rfl
theorem st_Tails_fits (x0 x1:D):stD 2 [false,true] [x0,x1]=[.bo x0,.pu x1]:=rfl
noncomputable def ze6:DS:=(sRet (zfq (dLe (dF1 lenD (dVar 1)) (dC (.int 12))) (dF1 allD (dLst (zdb 1 [] (asL (zat 1)) (gN true 0) zdd (zfq (dEq false (dF1 lenD (dVar 0)) (dC (.int 3))) (zfq (za8 F_none_below (zag (dVar 0) (zag (dC (.int 0)) dNil))) (dGe (dIx (dVar 0) (dC (.int 1))) (dC (.int 1))))))))))
@[irreducible] noncomputable def F_Tails_fits:List D→Option D:=runD 2 [false,true] ze6
theorem F_Tails_fits_def:F_Tails_fits=runD 2 [false,true] ze6:=by unfold F_Tails_fits; rfl
theorem st_Windows_fits (x0 x1:D):stD 2 [false,true] [x0,x1]=[.bo x0,.pu x1]:=rfl
noncomputable def zd7:DS:=(sSeq (sIf (dOr (dNot (dT (ze1 (fun i j=>decide (i≤j)) (fun i j=>decide (i≤j)) (dC (.int 1)) (dF1 lenD (dVar 1)) (dC (.int 9))))) (dNot (dTru (za8 F_tells_one (zag (dIx (dVar 1) (dC (.int 0))) (zag (dC (.int 1)) (zag (dC (.int 8)) dNil)))))))
 (sRet (dC (.bl false)))
      zb7)
 (sRet (dF1 allD (dLst (zdb 1 [] (asL (dLst (dSl (zat 1) (zdt (dC (.int 1))) zd1))) (gN true 0) zdd (zfq (dEq false (dF1 lenD (dVar 0)) (dC (.int 3))) (zfq (za8 F_none_below (zag (dVar 0) (zag (dC (.int 0)) dNil))) (dLe (dIx (dVar 0) (dC (.int 0))) (dIx (dVar 0) (dC (.int 1)))))))))))
@[irreducible] noncomputable def F_Windows_fits:List D→Option D:=runD 2 [false,true] zd7
theorem F_Windows_fits_def:F_Windows_fits=runD 2 [false,true] zd7:=by unfold F_Windows_fits; rfl
theorem st_Tree_fits (x0 x1:D):stD 2 [false,true] [x0,x1]=[.bo x0,.pu x1]:=rfl
local macro_rules | `(tactic| walk_at "sd")=>`(tactic| first | assumption | omega | decide | (simp only [List.length_map,List.length_cons,List.length_nil]; omega) | ((with_reducible apply And.intro) <;> walk_at "sd"))
local macro_rules | `(tactic| walk_at "fn")=>`(tactic| assumption)
local macro_rules | `(tactic| walk_at "ix")=>`(tactic| first | exact ixS (by omega) (by omega) | exact ixI (by omega) (by omega) | exact ix2I _ _ _ | exact ix3I _ _ _ _ | exact ix4I _ _ _ _ _ | rfl)
local macro_rules | `(tactic| walk_at "ev")=>`(tactic| first
  | ((with_reducible first | apply zcg | apply zgg | apply ev_lt | apply ev_le | apply ev_gt | apply ev_ge | apply ev_max2 | apply ev_min2 | apply ev_cons | apply ev_eqF | apply zjg); (· walk_at "ev"); (· walk_at "ev"))
  | ((with_reducible first | apply zfi | apply ev_t | apply ev_not | apply zlg | apply ev_lst | apply zms | apply zds); (· walk_at "ev"))
  | ((with_reducible first | apply ev_tru | apply zfp | apply ev_f1 | apply ev_asL | apply zmu); (· walk_at "ev"); (· rfl))
  | ((with_reducible first | apply ev_and | apply ev_or | apply ev_andV | apply zmt); (· walk_at "ev"); (· intro _; walk_at "ev"))
  | ((with_reducible first | show dVar _ _=_ | show zat _ _=_ | show zjq _ _=_ | show dC _ _=_ | show dNil _=_ | show zd1 _=_ | show zdd _=_); rfl)
  | ((with_reducible apply ev_ix); (· walk_at "ev"); (· walk_at "ev"); (· walk_at "ix"))
  | ((with_reducible apply ev_call); (· walk_at "ev"); (· walk_at "fn"))
  | ((with_reducible first | apply ev_chain | apply zku); (· walk_at "ev"); (· walk_at "ev"); (· walk_at "ev"))
  | ((with_reducible apply zif); (· walk_at "ev"); (· walk_at "ev"); (· first | assumption | (apply imul; omega)))
  | ((with_reducible apply zli); (· walk_at "ev"); (· walk_at "ev"); (· first | exact fdok (by omega) (by omega) | walk_at "sd"))
  | ((with_reducible first | apply zcw | apply ev_rg2); (· walk_at "ev"); (· walk_at "ev"); (· walk_at "sd"))
  | ((with_reducible apply zkv); (· walk_at "ev"); (· walk_at "sd"))
  | ((with_reducible apply ev_rep); (· walk_at "ev"); (· walk_at "ev"); (· simp only [List.length_cons,List.length_nil]; walk_at "sd")))
local macro_rules | `(tactic| walk_at "st")=>`(tactic| dsimp only [List.set_cons_succ,List.set_cons_zero])
local macro_rules | `(tactic| walk_at "go")=>`(tactic| ((try dsimp only); walk_at "go1"))
local macro_rules | `(tactic| walk_at "go1")=>`(tactic| first
  | ((with_reducible apply wp_seq); walk_at "go")
  | ((with_reducible apply zg6); dsimp only [frz,List.getD_cons_succ,List.getD_cons_zero,List.set_cons_succ,List.set_cons_zero]; walk_at "go")
  | ((with_reducible apply zbr); (· walk_at "ev"); walk_at "st"; walk_at "go")
  | ((with_reducible apply zdu); (· walk_at "ev"); (· simp only [List.length_cons,List.length_nil]; omega); walk_at "st"; walk_at "go")
  | ((with_reducible apply wp_aug); (· rfl); (· walk_at "ev"); walk_at "st"; walk_at "go")
  | ((with_reducible apply wp_pass); (try dsimp only); walk_at "go")
  | skip)
theorem mem_getD {p:List Int} {k:Nat} (hk:k<p.length):p.getD k 0∈p:=by rw [List.getD_eq_getElem?_getD,List.getElem?_eq_getElem hk]; exact List.getElem_mem hk
namespace Tr
theorem log_small {x:Int} (h:x.natAbs<10 ^ 70):x.natAbs.log2<1920:=by
  by_cases h0:x.natAbs=0
  · rw [h0]; decide
  · exact (Nat.log2_lt h0).mpr (Nat.lt_trans h (by decide))
abbrev intsD (cs:List Int):D:=.lst (cs.map D.int)
theorem lenI (r:List Int):lenD (intsD r)=some (.int r.length):=by show some (D.int ((r.map D.int).length:Nat))=_; rw [List.length_map]
def up (cs:List Int):Nat→Int→Int
  | 0,w=>w
  | k+1,w=>if up cs k w=-1 then -1 else cs.getD (up cs k w).toNat 0
theorem up_succ {cs:List Int} {k:Nat} {w:Int} (h:up cs k w≠-1):up cs (k+1) w=cs.getD (up cs k w).toNat 0:=by
  show (if up cs k w=-1 then -1 else cs.getD (up cs k w).toNat 0)=_
  rw [if_neg h]
theorem zme {cs:List Int} {w:Int} {k:Nat} (h:up cs k w=-1):∀ {j:Nat},k≤j→up cs j w=-1:=by
  intro j hj
  induction j with
  | zero => have:k=0:=by omega
            rw [this] at h; exact h
  | succ j ih =>
    by_cases e:k=j+1
    · rw [← e]; exact h
    · show (if up cs j w=-1 then -1 else cs.getD (up cs j w).toNat 0)=-1
      rw [if_pos (ih (by omega))]
def In (cs:List Int):Prop:=∀ v∈cs,-1≤v∧v<(cs.length:Int)
theorem up_in {cs:List Int} (h:In cs) {w:Int} (hw:0≤w∧w<(cs.length:Int)):∀ k,-1≤up cs k w∧up cs k w<(cs.length:Int)
  | 0=>by show -1≤w∧w < _; omega
  | k+1=>by
    have ih:=up_in h hw k
    by_cases e:up cs k w=-1
    · rw [zme e (by omega)]; omega
    · rw [up_succ e]
      exact h _ (mem_getD (by omega))
theorem level_ofF {cs:List Int} (h:In cs) {w:Int} (hw:0≤w∧w<(cs.length:Int)) {e:Nat} (he:e<cs.length) (hn:up cs (e+1) w=-1):∃ d,F_level_of [intsD cs,.int w]=some d:=by
  obtain ⟨d,e1,_⟩:=zeq F_level_of_def (ds:=[intsD cs,.int w]) (P:=fun _=>True) (by
    rw [st_level_of]
    unfold zgz
    refine wp_seq (zbr rfl ?_)
    walk_at "st"
    refine wp_seq (zbr (zfp (ev_ix rfl rfl (ixI (by omega) (by omega))) rfl) ?_)
    walk_at "st"
    have u0:up cs 0 w=w:=rfl
    refine wp_seq (zj2 (fun m ρ=>∃ i:Nat,m=cs.length-i∧i<cs.length∧up cs i w≠-1∧ρ=[.bo (intsD cs),.bo (.int w),.pu (.int (1+i)),.pu (.int (up cs (i+1) w))]) cs.length ⟨0,rfl,by omega,by rw [u0]; omega,by rw [up_succ (by rw [u0]; omega),u0]; rfl⟩ ?_)
    rintro m ρ ⟨i,rfl,hi,hu,rfl⟩
    refine ⟨_,ev_t (zjg rfl (zfi rfl)),fun c=>?_,fun c=>?_⟩
    · have c:=of_decide_eq_true c
      have hie:i<e:=by
        refine Decidable.byContradiction fun z=>c (zme hn (by omega))
      refine wp_seq (wp_aug rfl rfl ?_)
      walk_at "st"
      refine wp_seq (zjr (ev_t (ev_gt rfl (ev_f1 rfl (lenI cs)))) (fun c2=>?_) fun _=>wp_pass ?_)
      · have c2:(cs.length:Int)<1+i+1:=c2
        omega
      · have hr:=up_in h hw (i+1)
        refine zbr (zfp (ev_ix rfl rfl (ixI (by omega) (by omega))) rfl) ?_
        walk_at "st"
        refine ⟨cs.length-(i+1),by omega,i+1,rfl,by omega,c,?_⟩
        rw [up_succ c]
        have e2:(1:Int)+((i+1:Nat):Int)=1+i+1:=by omega
        rw [e2]
    · exact wp_ret rfl trivial)
  exact ⟨d,e1⟩
theorem level_ofX {cs:List Int} (h:In cs) (hl:cs.length≤1000) {w:Int} (hw:0≤w∧w<(cs.length:Int)) (hn:∀ k,k≤cs.length→up cs k w≠-1):∃ d,zfj [intsD cs,.int w]=some d:=by
  obtain ⟨d,e1,_⟩:=zka X_level_of_def (ds:=[intsD cs,.int w]) (P:=fun _=>True) (by
    rw [st_level_of]
    unfold zfz
    refine wp_seq (zbr rfl ?_)
    walk_at "st"
    refine wp_seq (zbr (zfp (ev_ix rfl rfl (ixI (by omega) (by omega))) rfl) ?_)
    walk_at "st"
    have u0:up cs 0 w=w:=rfl
    refine wp_seq (zj2 (fun m ρ=>∃ i:Nat,m=cs.length-i∧i<cs.length∧ρ=[.bo (intsD cs),.bo (.int w),.pu (.int (1+i)),.pu (.int (up cs (i+1) w))]) cs.length ⟨0,rfl,by omega,by rw [up_succ (by rw [u0]; omega),u0]; rfl⟩ ?_)
    rintro m ρ ⟨i,rfl,hi,rfl⟩
    have hne:=hn (i+1) (by omega)
    refine ⟨true,?_,fun c=>?_,fun c=>by cases c⟩
    · rw [ev_t (zjg rfl (zfi rfl)),decide_eq_true hne]
    · refine wp_seq (wp_aug rfl rfl ?_)
      walk_at "st"
      refine wp_seq (zjr (ev_t (ev_gt rfl (ev_f1 rfl (lenI cs)))) (fun c2=>?_) fun c2=>wp_pass ?_)
      · exact wp_raise (fmt_cons rfl (log_small (by have:w.natAbs<1000:=by omega
                                                    exact Nat.lt_trans this (by decide))) fmt_nil) trivial
      · have c2:¬ (cs.length:Int)<1+i+1:=c2
        have hr:=up_in h hw (i+1)
        refine zbr (zfp (ev_ix rfl rfl (ixI (by omega) (by omega))) rfl) ?_
        walk_at "st"
        refine ⟨cs.length-(i+1),by omega,i+1,rfl,by omega,?_⟩
        rw [up_succ hne]
        have e2:(1:Int)+((i+1:Nat):Int)=1+i+1:=by omega
        rw [e2])
  exact ⟨d,e1⟩
structure Ref (cs:List Int):Prop where
  big:cs.length≤40
  wr:∀ v∈cs,v.natAbs<10 ^ 70
  why:¬ In cs∨(In cs∧∃ w:Int,(0≤w∧w<(cs.length:Int))∧∀ k,k≤cs.length→up cs k w≠-1)
theorem x_levels {cs:List Int} (h:Ref cs):∃ d,zht [intsD cs]=some d:=by
  have hline:sizeLine=16777216:=sizeLine_eq
  have hb:=h.big
  obtain ⟨d,e,_⟩:=zka X_levels_def (ds:=[intsD cs]) (P:=fun _=>True) (by
    rw [st_levels]
    unfold zhv
    refine wp_seq (zdn (ev_asL (d:=intsD cs) rfl rfl) (fun j ρ=>(∀ v∈cs.take j,-1≤v∧v<(cs.length:Int))∧∃ v1,ρ=[.bo (intsD cs),v1]) ⟨(fun _ z=>by cases z),_,rfl⟩ ?_ ?_)
    · rintro j d ρ hd ⟨hj,v1,rfl⟩
      rw [List.getElem?_map] at hd
      cases er:cs[j]? with
      | none=>rw [er] at hd; cases hd
      | some v =>
        rw [er] at hd
        cases hd
        refine ⟨_,rfl,?_⟩
        dsimp only [gN,slm,List.set_cons_succ,List.set_cons_zero]
        have key:dT (ze1 (fun i j=>decide (i≤j)) (fun i j=>decide (i<j)) (dNeg (dC (.int 1))) (dVar 1) (dF1 lenD (dVar 0))) [.bo (intsD cs),.bo (.int v)]=some (decide (-1≤v∧v<(cs.length:Int))):=by
          refine ev_t ?_
          rw [ev_chain (i:=-1) (j:=v) (k:=(cs.length:Int)) (zfi rfl) rfl (ev_f1 rfl (lenI cs))]
          congr 2
          rw [Bool.eq_iff_iff]
          simp
        refine zfl (ev_not key) (fun c=>?_) fun c=>wp_pass ⟨fun x hx=>?_,_,rfl⟩
        · exact wp_raise (fmt_cons rfl (log_small (h.wr v (List.mem_of_getElem? er))) fmt_nil) trivial
        · rw [List.take_succ,er] at hx
          rcases List.mem_append.mp hx with hx | hx
          · exact hj x hx
          · cases List.mem_singleton.mp hx
            rw [Bool.not_eq_false'] at c
            exact of_decide_eq_true c
    · rintro ρ ⟨hj,v1,rfl⟩
      rw [List.length_map,List.take_length] at hj
      have hin:In cs:=hj
      rcases h.why with hx | ⟨_,w,hw,hx⟩
      · exact absurd hin hx
      · have er:dRg1 (dF1 lenD (dVar 0)) [.bo (intsD cs),v1]=some ((List.range cs.length).map fun (k:Nat)=>D.int (k:Int)):=by
          rw [zkv (ev_f1 rfl (lenI cs)) (by omega)]
          unfold upL
          rw [Int.toNat_natCast]
          refine congrArg some (List.map_congr_left fun k _=>?_)
          rw [Int.zero_add]
        refine wp_xcomp er (raises_of (fun (k:Nat)=>D.int (k:Int)) (fun k hk=>⟨_,rfl,?_⟩) ⟨w.toNat,List.mem_range.mpr (by omega),fun ρ1 e1=>?_⟩) trivial
        · have hk:=List.mem_range.mp hk
          have hw':(0:Int)≤(k:Int)∧(k:Int)<(cs.length:Int):=by omega
          by_cases he:∃ e,e<cs.length∧up cs (e+1) (k:Int)=-1
          · obtain ⟨e,he,hu⟩:=he
            obtain ⟨d,e2⟩:=level_ofF hin hw' he hu
            exact .inr ⟨d,ev_call (ev_cons rfl (ev_cons rfl rfl)) e2⟩
          · obtain ⟨d,e2⟩:=level_ofX hin (by omega) hw' fun j hj z=>by
              cases j with
              | zero => have z:(k:Int)=-1:=z
                        omega
              | succ j=>exact he ⟨j,by omega,z⟩
            exact .inl ⟨d,ev_call (ev_cons rfl (ev_cons rfl rfl)) e2⟩
        · cases e1
          have ew:((w.toNat:Nat):Int)=w:=by omega
          obtain ⟨d,e2⟩:=level_ofX hin (by omega) hw fun j hj=>hx j hj
          refine ⟨d,ev_call (ev_cons rfl (ev_cons rfl rfl)) ?_⟩
          rw [ew]
          exact e2)
  exact ⟨d,e⟩
structure Ok (cs:List Int):Prop where
  big:cs.length≤40
  inn:In cs
  up:∀ w:Int,0≤w∧w<(cs.length:Int)→up cs cs.length w=-1
theorem levelsF {cs:List Int} (h:Ok cs):∃ d,F_levels [intsD cs]=some d:=by
  have hb:=h.big
  have hline:sizeLine=16777216:=sizeLine_eq
  obtain ⟨d,e,_⟩:=zeq F_levels_def (ds:=[intsD cs]) (P:=fun _=>True) (by
    rw [st_levels]
    unfold ziv
    refine wp_seq (zdn (ev_asL (d:=intsD cs) rfl rfl) (fun j ρ=>∃ v1,ρ=[.bo (intsD cs),v1]) ⟨_,rfl⟩ ?_ ?_)
    · rintro j d ρ hd ⟨v1,rfl⟩
      rw [List.getElem?_map] at hd
      obtain ⟨v,er,rfl⟩:=Option.map_eq_some_iff.mp hd
      refine ⟨_,rfl,?_⟩
      dsimp only [gN,slm,List.set_cons_succ,List.set_cons_zero]
      have hv:=h.inn v (List.mem_of_getElem? er)
      refine wp_ifF (ev_not (x:=true) (ev_t ?_)) (wp_pass ⟨_,rfl⟩)
      rw [ev_chain (i:=-1) (j:=v) (k:=(cs.length:Int)) (zfi rfl) rfl (ev_f1 rfl (lenI cs))]
      congr 2
      simp [hv.1,hv.2]
    · rintro ρ ⟨v1,rfl⟩
      have er:dRg1 (dF1 lenD (dVar 0)) [.bo (intsD cs),v1]=some ((List.range cs.length).map fun (k:Nat)=>D.int (k:Int)):=by
        rw [zkv (ev_f1 rfl (lenI cs)) (by omega)]
        unfold upL
        rw [Int.toNat_natCast]
        refine congrArg some (List.map_congr_left fun k _=>?_)
        rw [Int.zero_add]
      have all:∀ k:Nat,k<cs.length→∃ d,F_level_of [intsD cs,.int (k:Int)]=some d:=fun k hk=>by
        have hu:=h.up (k:Int) (by omega)
        exact level_ofF h.inn (by omega) (e:=cs.length-1) (by omega) (by rw [show cs.length-1+1=cs.length by omega]; exact hu)
      obtain ⟨f,hf⟩:∃ f:Nat→D,∀ k:Nat,k<cs.length→F_level_of [intsD cs,.int (k:Int)]=some (f k):=by
        refine ⟨fun k=>if h:k<cs.length then (all k h).choose else .non,fun k h=>?_⟩
        dsimp only
        rw [dif_pos h]
        exact (all k h).choose_spec
      exact wp_ret (ev_lst (ev_compA0 (fun k:Nat=>D.int (k:Int)) er f fun k hk=>⟨_,rfl,ev_call (ev_cons rfl (ev_cons rfl rfl)) (hf k (List.mem_range.mp hk))⟩)) trivial)
  exact ⟨d,e⟩
theorem ok_or {cs:List Int} (hb:cs.length≤40) (hw:∀ v∈cs,v.natAbs<10 ^ 70):Ok cs∨Ref cs:=by
  by_cases h:In cs
  · by_cases hu:∀ w:Int,0≤w∧w<(cs.length:Int)→up cs cs.length w=-1
    · exact .inl ⟨hb,h,hu⟩
    · obtain ⟨w,hu⟩:=Classical.not_forall.mp hu
      obtain ⟨hr,hu⟩:=Classical.not_imp.mp hu
      exact .inr ⟨hb,hw,.inr ⟨h,w,hr,fun k hk z=>hu (zme z hk)⟩⟩
  · exact .inr ⟨hb,hw,.inl h⟩
theorem ints_inj {a b:List Int} (h:[intsD a]=[intsD b]):a=b:=by
  have h:a.map D.int=b.map D.int:=by injection h with h _; injection h
  exact (List.map_inj_right (fun x y e=>by injection e)).mp h
end Tr
open Classical in
noncomputable def gLv (ds:List D):Option Bool:=if ∃ cs,ds=[Tr.intsD cs]∧Tr.Ok cs then some true else if ∃ cs,ds=[Tr.intsD cs]∧Tr.Ref cs then some false else none
theorem gLvN (ds:List D) (h:gLv ds=some true):∃ d,F_levels ds=some d:=by
  unfold gLv at h
  split at h
  · rename_i c
    obtain ⟨cs,rfl,k⟩:=c
    exact Tr.levelsF k
  · split at h <;> cases h
theorem gLvX (ds:List D) (h:gLv ds=some false):∃ d,zht ds=some d:=by
  unfold gLv at h
  split at h
  · cases h
  · split at h
    · rename_i c
      obtain ⟨cs,rfl,k⟩:=c
      exact Tr.x_levels k
    · cases h
open Classical in
theorem gLv_ok {cs:List Int} (hb:cs.length≤40) (hw:∀ v∈cs,v.natAbs<10 ^ 70):gLv [Tr.intsD cs]=some (decide (Tr.Ok cs)):=by
  unfold gLv
  by_cases h:Tr.Ok cs
  · rw [if_pos ⟨cs,rfl,h⟩,decide_eq_true h]
  · rw [if_neg (fun ⟨c,e,k⟩=>h (Tr.ints_inj e ▸ k)),if_pos ⟨cs,rfl,(Tr.ok_or hb hw).resolve_left h⟩,decide_eq_false h]
noncomputable def zfx:DS:=(sSeq (sIf (dOr (dT (dEq true (dF1 lenD (dVar 1)) (dC (.int 2)))) (dOr (dNot (dTru (za8 F_tells_one (zag (dIx (dVar 1) (dC (.int 0))) (zag (dC (.int 1)) (zag (dC (.int 20)) dNil)))))) (dT (dGt (dF1 lenD (dIx (dVar 1) (dC (.int 1)))) (dC (.int 40))))))
 (sRet (dC (.bl false)))
      zb7)
 (sSeq (zko gLv (zag (dIx (dVar 1) (dC (.int 1))) dNil))
 (sRet (dC (.bl true)))))
@[irreducible] noncomputable def F_Tree_fits:List D→Option D:=runD 2 [false,true] zfx
theorem F_Tree_fits_def:F_Tree_fits=runD 2 [false,true] zfx:=by unfold F_Tree_fits; rfl
theorem st_Pairs_fits (x0 x1:D):stD 2 [false,true] [x0,x1]=[.bo x0,.pu x1]:=rfl
abbrev Mat:=List (List Bool)
def rowB (r:List Bool):List D:=r.map D.bl
def rowsB (M:Mat):List (List D):=M.map rowB
def rowsV (M:Mat):List D:=(rowsB M).map D.lst
def at2 (M:Mat) (a b:Nat):Bool:=(M.getD a []).getD b false
structure Sq (M:Mat) (n:Nat):Prop where
  len:M.length=n
  row:∀ r∈M,r.length=n
def putT (M:Mat) (a b:Nat):Mat:=M.set a ((M.getD a []).set b true)
def zld (x y:List Bool):List Bool:=List.zipWith (fun p q=>p || q) x y
def stepW (c:Nat) (M:Mat) (a:Nat):Mat:=if at2 M a c=true then M.set a (zld (M.getD a []) (M.getD c [])) else M
def zet (n:Nat) (M:Mat) (c:Nat):Mat:=(List.range n).foldl (stepW c) M
def closeW (n:Nat) (M:Mat):Mat:=(List.range n).foldl (zet n) M
def zl7 (n:Nat):Mat:=List.replicate n (List.replicate n false)
def needW (n:Nat) (ps:List (Nat×Nat)):Mat:=ps.foldl (fun M p=>putT M p.1 p.2) (zl7 n)
theorem Sq.mem {M:Mat} {n a:Nat} (h:Sq M n) (ha:a<n):M.getD a []∈M:=by
  rw [List.getD_eq_getElem?_getD,List.getElem?_eq_getElem (by rw [h.len]; exact ha)]
  exact List.getElem_mem _
theorem Sq.rl {M:Mat} {n a:Nat} (h:Sq M n) (ha:a<n):(M.getD a []).length=n:=h.row _ (h.mem ha)
theorem Sq.set {M:Mat} {n a:Nat} {r:List Bool} (h:Sq M n) (hr:r.length=n):Sq (M.set a r) n:=by
  refine ⟨by rw [List.length_set]; exact h.len,fun x hx=>?_⟩
  rcases List.mem_or_eq_of_mem_set hx with hx | rfl
  · exact h.row x hx
  · exact hr
theorem Sq.get {M:Mat} {n a:Nat} (h:Sq M n) (ha:a<n):M[a]?=some (M.getD a []):=by
  have:=h.len
  rw [List.getD_eq_getElem?_getD,List.getElem?_eq_getElem (by omega)]
  rfl
theorem or_len {x y:List Bool} {n:Nat} (hx:x.length=n) (hy:y.length=n):(zld x y).length=n:=by
  unfold zld; rw [List.length_zipWith,hx,hy,Nat.min_self]
theorem or_get {x y:List Bool} {n b:Nat} (hx:x.length=n) (hy:y.length=n):(zld x y).getD b false=(x.getD b false || y.getD b false):=by
  unfold zld
  rw [List.getD_eq_getElem?_getD,List.getElem?_zipWith,List.getD_eq_getElem?_getD,List.getD_eq_getElem?_getD]
  by_cases hb:b<n
  · rw [List.getElem?_eq_getElem (by omega),List.getElem?_eq_getElem (by omega)]
    rfl
  · rw [List.getElem?_eq_none (by omega),List.getElem?_eq_none (by omega)]
    rfl
theorem Sq.stepW {M:Mat} {n c a:Nat} (h:Sq M n) (hc:c<n) (ha:a<n):Sq (stepW c M a) n:=by
  unfold My.stepW
  split
  · exact h.set (or_len (h.rl ha) (h.rl hc))
  · exact h
theorem Sq.foldl {f:Mat→Nat→Mat} {n:Nat} (hf:∀ M a,a<n→Sq M n→Sq (f M a) n) {M:Mat} (h:Sq M n):∀ j,j≤n→Sq ((List.range j).foldl f M) n
  | 0,_=>h
  | j+1,hj=>by
    rw [List.range_succ,List.foldl_append]
    exact hf _ j (by omega) (Sq.foldl hf h j (by omega))
theorem Sq.inner {M:Mat} {n c:Nat} (h:Sq M n) (hc:c<n) {j:Nat} (hj:j≤n):Sq ((List.range j).foldl (My.stepW c) M) n:=Sq.foldl (fun M a ha h=>h.stepW hc ha) h j hj
theorem Sq.close {M:Mat} {n:Nat} (h:Sq M n) {j:Nat} (hj:j≤n):Sq ((List.range j).foldl (zet n) M) n:=Sq.foldl (fun M a ha h=>h.inner ha (Nat.le_refl _)) h j hj
theorem zdq {α:Type} (f:α→Nat→α) (x:α) (j:Nat):(List.range (j+1)).foldl f x=f ((List.range j).foldl f x) j:=by rw [List.range_succ,List.foldl_append]; rfl
theorem Sq.none (n:Nat):Sq (zl7 n) n:=⟨List.length_replicate ..,fun r hr=>by rw [List.eq_of_mem_replicate hr,List.length_replicate]⟩
theorem Sq.putT {M:Mat} {n a b:Nat} (h:Sq M n) (ha:a<n):Sq (My.putT M a b) n:=h.set (by rw [List.length_set]; exact h.rl ha)
theorem Sq.need {n:Nat} {ps:List (Nat×Nat)} (h:∀ p∈ps,p.1<n):Sq (needW n ps) n:=by
  unfold needW
  have key:∀ (ps:List (Nat×Nat)) (M:Mat),(∀ p∈ps,p.1<n)→Sq M n→Sq (ps.foldl (fun M p=>My.putT M p.1 p.2) M) n:=by
    intro ps
    induction ps with
    | nil=>exact fun M _ h=>h
    | cons p r ih=>exact fun M hp h=>ih _ (fun q hq=>hp q (List.mem_cons_of_mem _ hq)) (h.putT (hp p List.mem_cons_self))
  exact key ps _ h (Sq.none n)
theorem at_set {M:Mat} {n a:Nat} {r:List Bool} (h:Sq M n) (ha:a<n) (x y:Nat):at2 (M.set a r) x y=if x=a then r.getD y false else at2 M x y:=by
  unfold at2
  have:=h.len
  rw [List.getD_eq_getElem?_getD (l:=M.set a r),List.getElem?_set]
  by_cases c:a=x
  · subst c
    rw [if_pos rfl,if_pos (by omega),if_pos rfl]
    rfl
  · rw [if_neg c,if_neg (Ne.symm c),List.getD_eq_getElem?_getD (l:=M)]
theorem at_step {M:Mat} {n c a:Nat} (h:Sq M n) (hc:c<n) (ha:a<n) (x y:Nat):at2 (stepW c M a) x y=(at2 M x y || (decide (x=a)&&at2 M a c&&at2 M c y)):=by
  unfold My.stepW
  split
  · rename_i e
    rw [at_set h ha,e]
    split
    · rename_i q
      subst q
      rw [or_get (h.rl ha) (h.rl hc),decide_eq_true rfl]
      rfl
    · rename_i q
      rw [decide_eq_false q]; simp
  · rename_i e
    rw [Bool.not_eq_true] at e
    rw [e]; simp
theorem at_put {M:Mat} {n a b:Nat} (h:Sq M n) (ha:a<n) (hb:b<n) (x y:Nat):at2 (putT M a b) x y=(at2 M x y || (decide (x=a)&&decide (y=b))):=by
  unfold My.putT
  rw [at_set h ha]
  split
  · rename_i q
    subst q
    rw [List.getD_eq_getElem?_getD,List.getElem?_set,decide_eq_true rfl]
    by_cases c:b=y
    · subst c
      rw [if_pos rfl,if_pos (by rw [h.rl ha]; exact hb)]
      simp
    · rw [if_neg c,decide_eq_false (Ne.symm c),← List.getD_eq_getElem?_getD]
      simp
      rfl
  · rename_i q
    rw [decide_eq_false q]; simp
theorem at_none (n x y:Nat):at2 (zl7 n) x y=false:=by
  unfold at2 zl7
  rw [List.getD_eq_getElem?_getD (l:=List.replicate n (List.replicate n false)),List.getElem?_replicate]
  split
  · show (List.replicate n false).getD y false=false
    rw [List.getD_eq_getElem?_getD,List.getElem?_replicate]
    split <;> rfl
  · rfl
def Up (rk:Nat→Nat) (M:Mat):Prop:=∀ a b,at2 M a b=true→rk a<rk b
theorem Up.step {rk:Nat→Nat} {M:Mat} {n c a:Nat} (h:Sq M n) (hc:c<n) (ha:a<n) (u:Up rk M):Up rk (stepW c M a):=fun x y e=>by
  rw [at_step h hc ha,Bool.or_eq_true] at e
  rcases e with e | e
  · exact u x y e
  · rw [Bool.and_eq_true,Bool.and_eq_true] at e
    have:=of_decide_eq_true e.1.1
    subst this
    exact Nat.lt_trans (u _ _ e.1.2) (u _ _ e.2)
theorem Up.inner {rk:Nat→Nat} {M:Mat} {n c:Nat} (h:Sq M n) (hc:c<n) (u:Up rk M):∀ j,j≤n→Up rk ((List.range j).foldl (stepW c) M)
  | 0,_=>u
  | j+1,hj=>by rw [zdq]; exact (Up.inner h hc u j (by omega)).step (h.inner hc (by omega)) hc (by omega)
theorem Up.close {rk:Nat→Nat} {M:Mat} {n:Nat} (h:Sq M n) (u:Up rk M):∀ j,j≤n→Up rk ((List.range j).foldl (zet n) M)
  | 0,_=>u
  | j+1,hj=>by rw [zdq]; exact Up.inner (h.close (by omega)) (by omega) (Up.close h u j (by omega)) n (Nat.le_refl _)
theorem Up.need {rk:Nat→Nat} {n:Nat} {ps:List (Nat×Nat)} (hp:∀ p∈ps,p.1<n∧p.2<n∧rk p.1<rk p.2):Up rk (needW n ps):=by
  unfold needW
  have key:∀ (ps:List (Nat×Nat)) (M:Mat),(∀ p∈ps,p.1<n∧p.2<n∧rk p.1<rk p.2)→Sq M n→Up rk M→Up rk (ps.foldl (fun M p=>putT M p.1 p.2) M):=by
    intro ps
    induction ps with
    | nil=>exact fun M _ _ h=>h
    | cons p r ih =>
      intro M hp h u
      have q:=hp p List.mem_cons_self
      refine ih _ (fun q hq=>hp q (List.mem_cons_of_mem _ hq)) (h.putT q.1) fun x y e=>?_
      rw [at_put h q.1 q.2.1,Bool.or_eq_true] at e
      rcases e with e | e
      · exact u x y e
      · rw [Bool.and_eq_true] at e
        rw [of_decide_eq_true e.1,of_decide_eq_true e.2]
        exact q.2.2
  exact key ps _ hp (Sq.none n) fun a b e=>by rw [at_none] at e; cases e
theorem ixL {xs:List D} {a:Nat} {d:D} (h:xs[a]?=some d):ixD (.lst xs) (a:Int)=some d:=by
  have hl:=(List.getElem?_eq_some_iff.mp h).1
  show atI xs (a:Int)=some d
  unfold atI
  rw [zjz (by omega) (by omega)]
  simpa using h
theorem ixNn {n a:Nat} (h:a<n):ixN n (a:Int)=some a:=by rw [zjz (by omega) (by omega)]; simp
theorem rowsV_get {M:Mat} {n a:Nat} (h:Sq M n) (ha:a<n):(rowsV M)[a]?=some (.lst (rowB (M.getD a []))):=by
  unfold rowsV rowsB
  rw [List.getElem?_map,List.getElem?_map,h.get ha]
  rfl
theorem rowB_get {r:List Bool} {b:Nat} (hb:b<r.length):(rowB r)[b]?=some (.bl (r.getD b false)):=by
  unfold rowB
  rw [List.getElem?_map,List.getD_eq_getElem?_getD,List.getElem?_eq_getElem hb]
  rfl
theorem rowsB_set (M:Mat) (a:Nat) (r:List Bool):(rowsB M).set a (rowB r)=rowsB (M.set a r):=by unfold rowsB; rw [List.map_set]
theorem rowsV_set (M:Mat) (a:Nat) (r:List Bool):(rowsV M).set a (.lst (rowB r))=rowsV (M.set a r):=by unfold rowsV; rw [← rowsB_set,List.map_set]
theorem rowB_set (r:List Bool) (b:Nat):(rowB r).set b (.bl true)=rowB (r.set b true):=by unfold rowB; rw [List.map_set]
theorem upL0 (n:Nat):upL 0 n=(List.range n).map fun (i:Nat)=>.int (i:Int):=by
  unfold upL
  exact List.map_congr_left fun i _=>by rw [Int.zero_add]
theorem zkg {ρ:Rho} {a b c:DE} {M:Mat} {n x y:Nat} (h:Sq M n) (hx:x<n) (hy:y<n) (ha:a ρ=some (.lst (rowsV M))) (hb:b ρ=some (.int (x:Int))) (hc:c ρ=some (.int (y:Int))):dIx (dIx a b) c ρ=some (.bl (at2 M x y)) :=
  ev_ix (ev_ix ha hb (ixL (rowsV_get h hx))) hc (ixL (rowB_get (by rw [h.rl hx]; exact hy)))
theorem flat_bl (r:List Bool):zf9 (rowB r)=true:=by
  unfold zf9 rowB
  rw [List.all_map]
  exact List.all_eq_true.mpr fun _ _=>rfl
def natD (x:Nat):D:=.int (x:Int)
def natsD (xs:List Nat):D:=.lst (xs.map natD)
def posR (n:Nat) (r:List Bool):List Nat:=(List.range n).filter fun b=>r.getD b false
theorem zf7 {ρ:Rho} {a:DE} {n:Nat} (hn:n≤1000) (h:a ρ=some (.int (n:Int))):dRg1 a ρ=some ((List.range n).map natD):=by
  have hline:sizeLine=16777216:=sizeLine_eq
  rw [zkv h ⟨by omega,by omega⟩,Int.toNat_natCast,upL0]
  rfl
def zge (ps:List (Nat×Nat)):D:=.lst (ps.map fun p=>.lst [.int (p.1:Int),.int (p.2:Int)])
structure Ord (n:Nat) (ps:List (Nat×Nat)):Prop where
  big:n≤14
  len:ps.length≤1000
  up:∃ rk:Nat→Nat,∀ p∈ps,p.1<n∧p.2<n∧rk p.1<rk p.2
theorem Ord.lt {n:Nat} {ps:List (Nat×Nat)} (h:Ord n ps):∀ p∈ps,p.1<n∧p.2<n:=fun p hp=>let ⟨rk,h⟩:=h.up; ⟨(h p hp).1,(h p hp).2.1⟩
theorem zi7:∀ n:Nat,(List.replicate n [D.bl false]).flatten=rowB (List.replicate n false)
  | 0=>rfl
  | n+1=>by rw [List.replicate_succ,List.flatten_cons,zi7 n,List.replicate_succ]; rfl
theorem false_rows {ρ:Rho} {k:Nat} {cs:List Nat} {a b:DE} {n:Nat} (hn:n≤1000) (ha:a ρ=some (.int (n:Int))) (hb:∀ x:Nat,b ((r0 k cs ρ).set 0 (.pu (natD x)))=some (.int (n:Int))):zih k cs (dRg1 a) (gN true 0) zdd (dRep (zag (dC (.bl false)) dNil) b) ρ=some (rowsB (zl7 n)):=by
  have hline:sizeLine=16777216:=sizeLine_eq
  rw [ev_compM0 natD (zf7 hn ha) (fun _=>rowB (List.replicate n false)) fun x _=>⟨(r0 k cs ρ).set 0 (.pu (natD x)),rfl,by
    rw [ev_rep (ds:=[.bl false]) (i:=(n:Int)) rfl (hb x) ⟨by omega,by omega,by simp only [List.length_cons,List.length_nil]; omega⟩,Int.toNat_natCast,zi7]⟩]
  unfold rowsB zl7
  rw [List.map_const',List.map_replicate,List.length_range]
theorem either (x y:List Bool):F_either [.lst (rowB x),.lst (rowB y)]=some (.lst (rowB (zld x y))):=by
  refine run_eqF F_either_def ?_
  rw [st_either]
  unfold zi0
  have e1:zpL (rowB x) (rowB y)=(x.zip y).map fun p=>.tup [.bl p.1,.bl p.2]:=by
    unfold zpL rowB
    rw [List.zipWith_map,List.map_zip_eq_zipWith]
    rfl
  refine wp_ret (ev_lst (ev_compA0 (fun p:Bool×Bool=>D.tup [.bl p.1,.bl p.2]) (by rw [ev_zipB (xs:=rowB x) (ys:=rowB y) rfl rfl (flat_bl x) (flat_bl y),e1]) (fun p=>D.bl (p.1 || p.2)) fun p _=>⟨_,rfl,zmt rfl fun _=>rfl⟩)) ?_
  show D.lst _=D.lst _
  congr 1
  unfold zld rowB
  rw [List.map_zip_eq_zipWith,List.map_zipWith]
  rfl
theorem toldG {n:Nat} {ps:List (Nat×Nat)} (hb:n≤14) (lt:∀ p∈ps,p.1<n∧p.2<n):F_told_order [.int (n:Int),zge ps]=some (.lst (rowsV (needW n ps))):=by
  refine run_eqG F_told_order_def ?_
  rw [st_told_order]
  unfold ze3
  refine wp_seq (wp_setM (false_rows (by omega) rfl fun _=>rfl) (by simp only [List.length_cons,List.length_nil]; omega) ?_)
  walk_at "st"
  refine wp_seq (zdn (ds:=ps.map fun p=>.lst [.int (p.1:Int),.int (p.2:Int)]) rfl (fun j ρ=>∃ v3 v4,ρ=[.bo (.int (n:Int)),.bo (zge ps),.om (rowsB (needW n (ps.take j))),v3,v4]) ⟨_,_,rfl⟩ ?_ ?_)
  · rintro j d ρ hd ⟨v3,v4,rfl⟩
    rw [List.getElem?_map] at hd
    have hj:j<ps.length:=by
      by_cases c:j<ps.length
      · exact c
      · rw [List.getElem?_eq_none (by omega)] at hd; cases hd
    rw [List.getElem?_eq_getElem hj] at hd
    cases hd
    have hp:=lt ps[j] (List.getElem_mem hj)
    have sq:Sq (needW n (ps.take j)) n:=Sq.need fun p hp=>(lt p (List.mem_of_mem_take hp)).1
    refine ⟨_,rfl,?_⟩
    dsimp only [gN,slm,List.set_cons_succ,List.set_cons_zero]
    refine wp_seq (wp_ifF (ev_not (x:=true) (ev_and (x:=true) (y:=true) (ev_t ?_) fun _=>ev_t ?_)) (wp_pass ?_))
    · rw [ev_chain (i:=0) (j:=(ps[j].1:Int)) (k:=(n:Int)) rfl rfl rfl]
      congr 2
      simp
      omega
    · rw [ev_chain (i:=0) (j:=(ps[j].2:Int)) (k:=(n:Int)) rfl rfl rfl]
      congr 2
      simp
      omega
    · have hlen:(rowsB (needW n (ps.take j))).length=n:=by unfold rowsB; rw [List.length_map]; exact sq.len
      refine wp_put2 (r:=ps[j].1) (j:=ps[j].2) (ds:=rowB ((needW n (ps.take j)).getD ps[j].1 [])) (n:=(ps[j].1:Int)) (m:=(ps[j].2:Int)) rfl rfl rfl (by rw [hlen]; exact ixNn hp.1) ?_ rfl ?_ ?_
      · unfold rowsB; rw [List.getElem?_map,sq.get hp.1]; rfl
      · unfold rowB; rw [List.length_map,sq.rl hp.1]; exact ixNn hp.2
      · refine ⟨.bo (.int (ps[j].1:Int)),.bo (.int (ps[j].2:Int)),?_⟩
        rw [rowB_set,rowsB_set]
        have:needW n (ps.take (j+1))=putT (needW n (ps.take j)) ps[j].1 ps[j].2:=by
          unfold needW
          rw [List.take_succ_eq_append_getElem hj,List.foldl_append]
          rfl
        rw [this]
        rfl
  · rintro ρ ⟨v3,v4,rfl⟩
    refine wp_frzR (wp_retX rfl ?_)
    rw [List.length_map,List.take_length]
    rfl
theorem told {n:Nat} {ps:List (Nat×Nat)} (h:Ord n ps):F_told_order [.int (n:Int),zge ps]=some (.lst (rowsV (needW n ps))):=toldG h.big h.lt
def cloD (n:Nat) (ps:List (Nat×Nat)):Mat:=closeW n (needW n ps)
theorem Ord.sq {n:Nat} {ps:List (Nat×Nat)} (h:Ord n ps):Sq (needW n ps) n:=Sq.need fun p hp=>(h.lt p hp).1
theorem Ord.sqc {n:Nat} {ps:List (Nat×Nat)} (h:Ord n ps):Sq (cloD n ps) n:=h.sq.close (Nat.le_refl _)
theorem Ord.diag {n:Nat} {ps:List (Nat×Nat)} (h:Ord n ps) (x:Nat):at2 (cloD n ps) x x=false:=by
  obtain ⟨rk,hr⟩:=h.up
  have u:Up rk (cloD n ps):=Up.close h.sq (Up.need hr) n (Nat.le_refl _)
  cases e:at2 (cloD n ps) x x with
  | false=>rfl
  | true=>exact absurd (u x x e) (Nat.lt_irrefl _)
def aheadL (n:Nat) (ps:List (Nat×Nat)):List (List Nat):=(cloD n ps).map (posR n)
def listsD (xs:List (List Nat)):D:=.lst (xs.map natsD)
theorem row_ev {ρ:Rho} {k:Nat} {cs:List Nat} {a:DE} {b:DE} {n:Nat} {r:List Bool} (hn:n≤1000) (hr:r.length=n) (ha:a ρ=some (.int (n:Int))) (hb:∀ x:Nat,x<n→dIx b (dVar 0) ((r0 k cs ρ).set 0 (.pu (natD x)))=some (.bl (r.getD x false))) (hv:∀ x:Nat,zat 0 ((r0 k cs ρ).set 0 (.pu (natD x)))=some (natD x)) :
    dLst (zdb k cs (dRg1 a) (gN true 0) (dTru (dIx b (dVar 0))) (zat 0)) ρ=some (natsD (posR n r)):=by
  refine ev_lst ?_
  rw [ev_compA natD (zf7 hn ha) (fun x=>r.getD x false) natD fun x hx=>⟨_,rfl,ev_tru (hb x (List.mem_range.mp hx)) rfl,fun _=>hv x⟩]
  rfl
theorem ahead {n:Nat} {ps:List (Nat×Nat)} (h:Ord n ps):F_ahead_of [.int (n:Int),zge ps]=some (listsD (aheadL n ps)):=by
  have hb:=h.big
  refine run_eqF F_ahead_of_def ?_
  rw [st_ahead_of]
  unfold zg0
  refine wp_seq (zdu (ev_callF (ev_cons rfl (ev_cons rfl rfl)) (told h)) (by simp only [List.length_cons,List.length_nil]; omega) ?_)
  walk_at "st"
  refine wp_seq (zdn (zf7 (by omega) rfl) (fun j ρ=>∃ v3 v4,ρ=[.bo (.int (n:Int)),.bo (zge ps),.ol (rowsV ((List.range j).foldl (zet n) (needW n ps))),v3,v4]) ⟨_,_,rfl⟩ ?_ ?_)
  · rintro c d ρ hd ⟨v3,v4,rfl⟩
    rw [List.getElem?_map] at hd
    have hc:c<n:=by
      by_cases q:c<n
      · exact q
      · rw [List.getElem?_eq_none (by simp; omega)] at hd; cases hd
    rw [List.getElem?_range hc] at hd
    cases hd
    have sq:=h.sq.close (j:=c) (by omega)
    rw [zdq]
    generalize (List.range c).foldl (zet n) (needW n ps)=M at sq ⊢
    refine ⟨_,rfl,?_⟩
    dsimp only [gN,slm,List.set_cons_succ,List.set_cons_zero]
    refine zdn (zf7 (by omega) rfl) (fun j ρ=>∃ v4,ρ=[.bo (.int (n:Int)),.bo (zge ps),.ol (rowsV ((List.range j).foldl (stepW c) M)),.pu (natD c),v4]) ⟨_,rfl⟩ ?_ ?_
    · rintro a d ρ hd ⟨v4,rfl⟩
      rw [List.getElem?_map] at hd
      have ha:a<n:=by
        by_cases q:a<n
        · exact q
        · rw [List.getElem?_eq_none (by simp; omega)] at hd; cases hd
      rw [List.getElem?_range ha] at hd
      cases hd
      have sq':=sq.inner hc (j:=a) (by omega)
      rw [zdq]
      generalize (List.range a).foldl (stepW c) M=M' at sq' ⊢
      refine ⟨_,rfl,?_⟩
      dsimp only [gN,slm,List.set_cons_succ,List.set_cons_zero]
      refine zfl (ev_tru (zkg sq' ha hc rfl rfl rfl) rfl) (fun e=>?_) fun e=>wp_pass ?_
      · refine wp_put (n:=(a:Int)) (j:=a) rfl (ev_call (ev_cons (ev_ix (e:=.lst (rowB (M'.getD a []))) rfl rfl (ixL (rowsV_get sq' ha))) (ev_cons (ev_ix (e:=.lst (rowB (M'.getD c []))) rfl rfl (ixL (rowsV_get sq' hc))) rfl)) (either _ _)) rfl ?_ ?_
        · have:(rowsV M').length=n:=by unfold rowsV rowsB; rw [List.length_map,List.length_map]; exact sq'.len
          rw [this]; exact ixNn ha
        · refine ⟨.pu (natD a),?_⟩
          rw [rowsV_set]
          unfold stepW
          rw [if_pos e]
          rfl
      · refine ⟨.pu (natD a),?_⟩
        unfold stepW
        rw [if_neg (by rw [e]; exact Bool.false_ne_true)]
    · rintro ρ ⟨v4,rfl⟩
      rw [List.length_map,List.length_range]
      exact ⟨_,_,rfl⟩
  · rintro ρ ⟨v3,v4,rfl⟩
    rw [List.length_map,List.length_range]
    have sq:=h.sqc
    have dg:=h.diag
    have ec:(List.range n).foldl (zet n) (needW n ps)=cloD n ps:=rfl
    rw [ec]
    unfold aheadL
    generalize cloD n ps=M at sq dg ⊢
    refine wp_seq (wp_ifF (ev_tru (x:=false) (ev_f1 (e:=.bl false) (ev_lst (ev_compA0 natD (zf7 (n:=n) (by omega) rfl) (fun _=>.bl false) fun x hx=>⟨_,rfl,?_⟩)) ?_) rfl) (wp_pass ?_))
    · have hx:=List.mem_range.mp hx
      refine zfp ?_ rfl
      rw [zkg sq hx hx rfl rfl rfl,dg]
    · have:((List.range n).map fun _=>D.bl false)=((List.range n).map fun _=>false).map D.bl:=by rw [List.map_map]; rfl
      rw [this]
      show (trus _).map _=_
      rw [zj6]
      show some (D.bl (((List.range n).map fun _=>false).any id))=_
      rw [List.any_map]
      congr 2
      rw [List.any_eq_false]
      intro x _
      exact Bool.false_ne_true
    · refine wp_ret (ev_lst (ev_compA0 (fun r=>D.lst (rowB r)) (ev_asL (d:=.lst (rowsV M)) rfl (by unfold rowsV rowsB; rw [List.map_map]; rfl)) (fun r=>natsD (posR n r)) fun r hr=>⟨_,rfl,?_⟩)) ?_
      · exact row_ev (r:=r) (by omega) (sq.row r hr) rfl (fun x hx=>ev_ix rfl rfl (ixL (rowB_get (by rw [sq.row r hr]; exact hx)))) fun x=>rfl
      · show D.lst _=D.lst _
        rw [List.map_map]
        rfl
def Rl (R:Nat→Nat→Prop) (M:Mat):Prop:=∀ a b,at2 M a b=true→R a b
theorem need_at {n:Nat} {ps:List (Nat×Nat)} (hp:∀ p∈ps,p.1<n∧p.2<n) (x y:Nat):at2 (needW n ps) x y=true↔(x,y)∈ps:=by
  have key:∀ (ps:List (Nat×Nat)) (M:Mat),(∀ p∈ps,p.1<n∧p.2<n)→Sq M n→(at2 (ps.foldl (fun M p=>putT M p.1 p.2) M) x y=true↔at2 M x y=true∨(x,y)∈ps):=by
    intro ps
    induction ps with
    | nil=>exact fun M _ _=>by simp
    | cons p r ih =>
      intro M hp h
      have q:=hp p List.mem_cons_self
      rw [List.foldl_cons,ih _ (fun q hq=>hp q (List.mem_cons_of_mem _ hq)) (h.putT q.1),at_put h q.1 q.2,Bool.or_eq_true,Bool.and_eq_true,decide_eq_true_iff,decide_eq_true_iff,List.mem_cons]
      have:(x,y)=p↔x=p.1∧y=p.2:=by cases p; simp
      rw [this,or_assoc]
  unfold needW
  rw [key ps _ hp (Sq.none n),at_none]
  simp
theorem zhq {M:Mat} {n c:Nat} (h:Sq M n) (hc:c<n) (x y:Nat):∀ j,j≤n→at2 ((List.range j).foldl (stepW c) M) x y=(at2 M x y || (decide (x<j)&&at2 M x c&&at2 M c y))
  | 0,_=>by simp
  | j+1,hj=>by
    have sq:=h.inner hc (j:=j) (by omega)
    rw [zdq,at_step sq hc (by omega),zhq h hc x y j (by omega),zhq h hc j c j (by omega),zhq h hc c y j (by omega)]
    by_cases e:x=j
    · subst e
      have e1:decide (x<x+1)=true:=decide_eq_true (Nat.lt_succ_self x)
      have e2:decide (x<x)=false:=decide_eq_false (Nat.lt_irrefl x)
      rw [e1,e2]
      cases at2 M x y <;> cases at2 M x c <;> cases at2 M c y <;> cases at2 M c c <;> cases decide (c<x) <;> simp
    · have e1:decide (x<j+1)=decide (x<j):=by
        by_cases q:x<j
        · rw [decide_eq_true q,decide_eq_true (by omega)]
        · rw [decide_eq_false q,decide_eq_false (by omega)]
      rw [e1,decide_eq_false e]
      simp
def Tr (M:Mat) (k:Nat):Prop:=∀ c,c<k→∀ x y,at2 M x c=true→at2 M c y=true→at2 M x y=true
theorem at_lt {M:Mat} {n x y:Nat} (h:Sq M n) (e:at2 M x y=true):x<n:=by
  by_cases q:x<n
  · exact q
  · have e0:M.getD x []=[]:=by rw [List.getD_eq_getElem?_getD,List.getElem?_eq_none (by have:=h.len; omega)]; rfl
    unfold at2 at e
    rw [e0] at e
    simp at e
theorem Tr.close {M:Mat} {n:Nat} (h:Sq M n):∀ j,j≤n→Tr ((List.range j).foldl (zet n) M) j
  | 0,_=>fun c hc=>absurd hc (Nat.not_lt_zero c)
  | j+1,hj=>by
    have ih:=Tr.close h j (by omega)
    have sq:=h.close (j:=j) (by omega)
    rw [zdq]
    generalize (List.range j).foldl (zet n) M=N at ih sq
    have e:∀ x y,at2 (zet n N j) x y=true↔at2 N x y=true∨(at2 N x j=true∧at2 N j y=true):=fun x y=>by
      unfold zet
      rw [zhq sq (by omega) x y n (Nat.le_refl _),Bool.or_eq_true,Bool.and_eq_true,Bool.and_eq_true]
      constructor
      · rintro (q | ⟨⟨_,q1⟩,q2⟩)
        · exact .inl q
        · exact .inr ⟨q1,q2⟩
      · rintro (q | ⟨q1,q2⟩)
        · exact .inl q
        · exact .inr ⟨⟨decide_eq_true (at_lt sq q1),q1⟩,q2⟩
    intro c hc x y h1 h2
    rw [e] at h1 h2 ⊢
    by_cases q:c=j
    · subst q
      have a1:at2 N x c=true:=h1.elim id And.left
      have a2:at2 N c y=true:=h2.elim id And.right
      exact .inr ⟨a1,a2⟩
    · have hc':c<j:=by omega
      rcases h1 with h1 | ⟨h1,h1'⟩
      · rcases h2 with h2 | ⟨h2,h2'⟩
        · exact .inl (ih c hc' x y h1 h2)
        · exact .inr ⟨ih c hc' x j h1 h2,h2'⟩
      · rcases h2 with h2 | ⟨h2,h2'⟩
        · exact .inr ⟨h1,ih c hc' j y h1' h2⟩
        · exact .inr ⟨h1,h2'⟩
theorem keep_close {M:Mat} {n:Nat} (h:Sq M n) (x y:Nat) (e:at2 M x y=true):∀ j,j≤n→at2 ((List.range j).foldl (zet n) M) x y=true
  | 0,_=>e
  | j+1,hj=>by
    rw [zdq]
    show at2 ((List.range n).foldl (stepW j) ((List.range j).foldl (zet n) M)) x y=true
    rw [zhq (h.close (by omega)) (by omega) x y n (Nat.le_refl _),keep_close h x y e j (by omega)]
    rfl
inductive Way (ps:List (Nat×Nat)):Nat→Nat→Prop
  | one {x y} (h:(x,y)∈ps):Way ps x y
  | go {x y z} (h:Way ps x y) (r:Way ps y z):Way ps x z
theorem way_clo {n:Nat} {ps:List (Nat×Nat)} (hp:∀ p∈ps,p.1<n∧p.2<n) {x y:Nat} (w:Way ps x y):at2 (cloD n ps) x y=true:=by
  have sq:Sq (needW n ps) n:=Sq.need fun p h=>(hp p h).1
  have hl:∀ {x y:Nat},Way ps x y→y<n:=fun {x y} w=>by
    induction w with
    | one e=>exact (hp _ e).2
    | go _ _ _ i=>exact i
  induction w with
  | one e=>exact keep_close sq _ _ ((need_at hp _ _).mpr e) n (Nat.le_refl _)
  | @go x y z a b i1 i2=>exact Tr.close sq n (Nat.le_refl _) y (hl a) x z i1 i2
namespace Pr
def pairZ (q:Int×Int):D:=.lst [.int q.1,.int q.2]
def needsZ (qs:List (Int×Int)):D:=.lst (qs.map pairZ)
def zOf (p:Nat×Nat):Int×Int:=((p.1:Int),(p.2:Int))
theorem needsD_Z (ps:List (Nat×Nat)):zge ps=needsZ (ps.map zOf):=by
  unfold zge needsZ
  rw [List.map_map]
  rfl
def InR (n:Nat) (q:Int×Int):Prop:=(0≤q.1∧q.1<n)∧(0≤q.2∧q.2<n)
def nOf (q:Int×Int):Nat×Nat:=(q.1.toNat,q.2.toNat)
def Wr (q:Int×Int):Prop:=q.1.natAbs.log2<1920∧q.2.natAbs.log2<1920
theorem log_small {x:Int} (h:x.natAbs<10 ^ 70):x.natAbs.log2<1920:=by
  by_cases h0:x.natAbs=0
  · rw [h0]; decide
  · exact (Nat.log2_lt h0).mpr (Nat.lt_trans h (by decide))
structure Ref (n:Nat) (qs:List (Int×Int)):Prop where
  big:n≤14
  wr:∀ q∈qs,Wr q
  why:(∃ q∈qs,¬ InR n q)∨((∀ q∈qs,InR n q)∧∃ x,x<n∧Way (qs.map nOf) x x)
theorem x_told {n:Nat} {qs:List (Int×Int)} (hb:n≤14) (wr:∀ q∈qs,Wr q) (hx:∃ q∈qs,¬ InR n q):∃ d,zea [.int (n:Int),needsZ qs]=some d:=by
  obtain ⟨d,e,_⟩:=zka X_told_order_def (ds:=[.int (n:Int),needsZ qs]) (P:=fun _=>True) (by
    rw [st_told_order]
    unfold zel
    refine wp_seq (wp_setM (false_rows (by omega) rfl fun _=>rfl) (by simp only [List.length_cons,List.length_nil]; omega) ?_)
    walk_at "st"
    refine wp_seq (zdn (ds:=qs.map pairZ) rfl (fun j ρ=>(∀ q∈qs.take j,InR n q)∧∃ M v3 v4,Sq M n∧ρ=[.bo (.int (n:Int)),.bo (needsZ qs),.om (rowsB M),v3,v4]) ⟨by simp,_,_,_,Sq.none n,rfl⟩ ?_ ?_)
    · rintro j d ρ hd ⟨hin,M,v3,v4,sq,rfl⟩
      rw [List.getElem?_map] at hd
      obtain ⟨⟨q1,q2⟩,hq,rfl⟩:=Option.map_eq_some_iff.mp hd
      have hm:=List.mem_of_getElem? hq
      obtain ⟨w1,w2⟩:=wr _ hm
      refine ⟨_,rfl,?_⟩
      dsimp only [gN,slm,List.set_cons_succ,List.set_cons_zero,pairZ]
      by_cases hr:InR n (q1,q2)
      · obtain ⟨⟨a1,a2⟩,b1,b2⟩:=id hr
        dsimp only at a1 a2 b1 b2
        refine wp_seq (wp_ifF (ev_not (x:=true) (ev_and (x:=true) (y:=true) (ev_t ?_) fun _=>ev_t ?_)) (wp_pass ?_))
        · rw [ev_chain (i:=0) (j:=q1) (k:=(n:Int)) rfl rfl rfl]
          simp [a1,a2]
        · rw [ev_chain (i:=0) (j:=q2) (k:=(n:Int)) rfl rfl rfl]
          simp [b1,b2]
        · obtain ⟨x,rfl⟩:=Int.eq_ofNat_of_zero_le a1
          obtain ⟨y,rfl⟩:=Int.eq_ofNat_of_zero_le b1
          have hx':x<n:=by omega
          have hy':y<n:=by omega
          have hlen:(rowsB M).length=n:=by unfold rowsB; rw [List.length_map]; exact sq.len
          refine wp_put2 (r:=x) (j:=y) (ds:=rowB (M.getD x [])) (n:=(x:Int)) (m:=(y:Int)) rfl rfl rfl (by rw [hlen]; exact ixNn hx') ?_ rfl ?_ ?_
          · unfold rowsB; rw [List.getElem?_map,sq.get hx']; rfl
          · unfold rowB; rw [List.length_map,sq.rl hx']; exact ixNn hy'
          · refine ⟨?_,putT M x y,.bo (.int (x:Int)),.bo (.int (y:Int)),sq.putT hx',?_⟩
            · intro q hq'
              rw [List.take_succ,hq] at hq'
              rcases List.mem_append.mp hq' with z | z
              · exact hin q z
              · rw [List.mem_singleton.mp (show q∈[((x:Int),(y:Int))] from z)]; exact hr
            · rw [rowB_set,rowsB_set]
              rfl
      · refine wp_seq (wp_ifT (ev_not (x:=false) ?_) (wp_raise (fmt_cons rfl w1 (fmt_cons rfl w2 rfl)) trivial))
        by_cases h1:0≤q1∧q1<n
        · have h2:¬ (0≤q2∧q2<n):=fun z=>hr ⟨h1,z⟩
          refine ev_and (x:=true) (y:=false) (ev_t ?_) fun _=>ev_t ?_
          · rw [ev_chain (i:=0) (j:=q1) (k:=(n:Int)) rfl rfl rfl]
            simp [h1.1,h1.2]
          · rw [ev_chain (i:=0) (j:=q2) (k:=(n:Int)) rfl rfl rfl]
            congr 2
            by_cases c:0≤q2
            · have:¬ q2<n:=fun z=>h2 ⟨c,z⟩
              simp [this]
            · simp [c]
        · refine ev_and (x:=false) (y:=false) (ev_t ?_) fun z=>by cases z
          rw [ev_chain (i:=0) (j:=q1) (k:=(n:Int)) rfl rfl rfl]
          congr 2
          by_cases c:0≤q1
          · have:¬ q1<n:=fun z=>h1 ⟨c,z⟩
            simp [this]
          · simp [c]
    · rintro ρ ⟨hin,M,v3,v4,sq,rfl⟩
      rw [List.length_map,List.take_length] at hin
      obtain ⟨q,hq,hn⟩:=hx
      exact absurd (hin q hq) hn)
  exact ⟨d,e⟩
theorem inR_nat {n:Nat} {qs:List (Int×Int)} (h:∀ q∈qs,InR n q):needsZ qs=zge (qs.map nOf):=by
  rw [needsD_Z,List.map_map]
  unfold needsZ
  congr 1
  rw [List.map_map]
  refine List.map_congr_left fun q hq=>?_
  obtain ⟨⟨a,_⟩,b,_⟩:=h q hq
  unfold pairZ Function.comp zOf nOf
  dsimp only
  rw [Int.toNat_of_nonneg a,Int.toNat_of_nonneg b]
theorem wp_xor_any {x:DE} {s:DS} {ρ:Rho} {W:Wk} (k:∀ d,W.rt d) (h:Wp s ρ W):Wp (sXor x s) ρ W:=by
  cases e:x ρ with
  | some d=>exact wp_xor e (k d)
  | none=>exact wp_xorN e h
theorem x_ahead {n:Nat} {qs:List (Int×Int)} (h:Ref n qs):∃ d,zfk [.int (n:Int),needsZ qs]=some d:=by
  have hb:=h.big
  obtain ⟨d,e,_⟩:=zka X_ahead_of_def (ds:=[.int (n:Int),needsZ qs]) (P:=fun _=>True) (by
    rw [st_ahead_of]
    unfold zf0
    rcases h.why with hx | ⟨hin,x,hxn,way⟩
    · obtain ⟨d,e⟩:=x_told hb h.wr hx
      exact wp_seq (wp_xor (ev_call (ev_cons rfl (ev_cons rfl rfl)) e) trivial)
    · have lt:∀ p∈qs.map nOf,p.1<n∧p.2<n:=fun p hp=>by
        obtain ⟨q,hq,rfl⟩:=List.mem_map.mp hp
        obtain ⟨⟨a,a'⟩,b,b'⟩:=hin q hq
        unfold nOf
        dsimp only
        omega
      have sqn:Sq (needW n (qs.map nOf)) n:=Sq.need fun p hp=>(lt p hp).1
      have dg:=way_clo lt way
      rw [inR_nat hin]
      generalize qs.map nOf=ps at lt sqn dg ⊢
      refine wp_seq (wp_xor_any (fun _=>trivial) (zdu (ev_callF (ev_cons rfl (ev_cons rfl rfl)) (toldG hb lt)) (by simp only [List.length_cons,List.length_nil]; omega) ?_))
      walk_at "st"
      refine wp_seq (zdn (zf7 (by omega) rfl) (fun j ρ=>∃ v3 v4,ρ=[.bo (.int (n:Int)),.bo (zge ps),.ol (rowsV ((List.range j).foldl (zet n) (needW n ps))),v3,v4]) ⟨_,_,rfl⟩ ?_ ?_)
      · rintro c d ρ hd ⟨v3,v4,rfl⟩
        rw [List.getElem?_map] at hd
        have hc:c<n:=by
          by_cases q:c<n
          · exact q
          · rw [List.getElem?_eq_none (by simp; omega)] at hd; cases hd
        rw [List.getElem?_range hc] at hd
        cases hd
        have sq:=sqn.close (j:=c) (by omega)
        rw [zdq]
        generalize (List.range c).foldl (zet n) (needW n ps)=M at sq ⊢
        refine ⟨_,rfl,?_⟩
        dsimp only [gN,slm,List.set_cons_succ,List.set_cons_zero]
        refine zdn (zf7 (by omega) rfl) (fun j ρ=>∃ v4,ρ=[.bo (.int (n:Int)),.bo (zge ps),.ol (rowsV ((List.range j).foldl (stepW c) M)),.pu (natD c),v4]) ⟨_,rfl⟩ ?_ ?_
        · rintro a d ρ hd ⟨v4,rfl⟩
          rw [List.getElem?_map] at hd
          have ha:a<n:=by
            by_cases q:a<n
            · exact q
            · rw [List.getElem?_eq_none (by simp; omega)] at hd; cases hd
          rw [List.getElem?_range ha] at hd
          cases hd
          have sq':=sq.inner hc (j:=a) (by omega)
          rw [zdq]
          generalize (List.range a).foldl (stepW c) M=M' at sq' ⊢
          refine ⟨_,rfl,?_⟩
          dsimp only [gN,slm,List.set_cons_succ,List.set_cons_zero]
          refine zfl (ev_tru (zkg sq' ha hc rfl rfl rfl) rfl) (fun e=>?_) fun e=>wp_pass ?_
          · refine wp_put (n:=(a:Int)) (j:=a) rfl (ev_call (ev_cons (ev_ix (e:=.lst (rowB (M'.getD a []))) rfl rfl (ixL (rowsV_get sq' ha))) (ev_cons (ev_ix (e:=.lst (rowB (M'.getD c []))) rfl rfl (ixL (rowsV_get sq' hc))) rfl)) (either _ _)) rfl ?_ ?_
            · have:(rowsV M').length=n:=by unfold rowsV rowsB; rw [List.length_map,List.length_map]; exact sq'.len
              rw [this]; exact ixNn ha
            · refine ⟨.pu (natD a),?_⟩
              rw [rowsV_set]
              unfold stepW
              rw [if_pos e]
              rfl
          · refine ⟨.pu (natD a),?_⟩
            unfold stepW
            rw [if_neg (by rw [e]; exact Bool.false_ne_true)]
        · rintro ρ ⟨v4,rfl⟩
          rw [List.length_map,List.length_range]
          exact ⟨_,_,rfl⟩
      · rintro ρ ⟨v3,v4,rfl⟩
        rw [List.length_map,List.length_range]
        have sq:Sq (cloD n ps) n:=sqn.close (Nat.le_refl _)
        have ec:(List.range n).foldl (zet n) (needW n ps)=cloD n ps:=rfl
        rw [ec]
        generalize cloD n ps=M at sq dg ⊢
        refine wp_seq (wp_ifT (ev_tru (x:=true) (ev_f1 (e:=.bl true) (ev_lst (ev_compA0 natD (zf7 (n:=n) (by omega) rfl) (fun x=>.bl (at2 M x x)) fun x hx=>⟨_,rfl,?_⟩)) ?_) rfl) (wp_raise rfl trivial))
        · have hx:=List.mem_range.mp hx
          refine zfp ?_ rfl
          rw [zkg sq hx hx rfl rfl rfl]
        · have:((List.range n).map fun x=>D.bl (at2 M x x))=((List.range n).map fun x=>at2 M x x).map D.bl:=by rw [List.map_map]; rfl
          rw [this]
          show (trus _).map _=_
          rw [zj6]
          show some (D.bl (((List.range n).map fun x=>at2 M x x).any id))=_
          rw [List.any_map]
          congr 2
          rw [List.any_eq_true]
          exact ⟨x,List.mem_range.mpr hxn,dg⟩)
  exact ⟨d,e⟩
def WalkN (ps:List (Nat×Nat)):Nat→Nat→Prop
  | 0,_=>True
  | k+1,v=>∃ u,(u,v)∈ps∧WalkN ps k u
theorem WalkN.down {ps:List (Nat×Nat)}:∀ {k:Nat} {v:Nat},WalkN ps (k+1) v→WalkN ps k v
  | 0,_,_=>trivial
  | k+1,v,⟨u,hu,w⟩=>⟨u,hu,WalkN.down w⟩
theorem WalkN.le {ps:List (Nat×Nat)} {j k v:Nat} (h:j≤k) (w:WalkN ps k v):WalkN ps j v:=by
  induction k with
  | zero => have:j=0:=by omega
            rw [this]; trivial
  | succ k ih =>
    by_cases e:j=k+1
    · rw [e]; exact w
    · exact ih (by omega) w.down
structure Ok (n:Nat) (qs:List (Int×Int)):Prop where
  big:n≤14
  len:qs.length≤1000
  inn:∀ q∈qs,InR n q
  no:∀ v,v<n→¬ WalkN (qs.map nOf) n v
open Classical in
def rkW (ps:List (Nat×Nat)) (n v:Nat):Nat:=((List.range n).filter fun k=>WalkN ps k v).length
open Classical in
theorem rk_of {ps:List (Nat×Nat)} {v:Nat}:∀ {n m:Nat},m≤n→(∀ k,k<m→WalkN ps k v)→(∀ k,m≤k→¬ WalkN ps k v)→rkW ps n v=m:=by
  intro n m hm h1 h2
  unfold rkW
  have e:(List.range n).filter (fun k=>decide (WalkN ps k v))=List.range m:=by
    obtain ⟨d,rfl⟩:=Nat.le.dest hm
    rw [List.range_add,List.filter_append,List.filter_eq_self.mpr fun k hk=>decide_eq_true (h1 k (List.mem_range.mp hk)),List.filter_eq_nil_iff.mpr,List.append_nil]
    intro k hk
    obtain ⟨j,_,rfl⟩:=List.mem_map.mp hk
    simp only [decide_eq_true_eq]
    exact h2 _ (by omega)
  rw [e,List.length_range]
theorem lvl {ps:List (Nat×Nat)} {n v:Nat} (h:¬ WalkN ps n v):∃ m,m≤n∧0<m∧(∀ k,k<m→WalkN ps k v)∧∀ k,m≤k→¬ WalkN ps k v:=by
  induction n with
  | zero=>exact absurd trivial h
  | succ n ih =>
    by_cases c:WalkN ps n v
    · exact ⟨n+1,Nat.le_refl _,by omega,fun k hk=>c.le (by omega),fun k hk w=>h (w.le hk)⟩
    · obtain ⟨m,a,b,p,q⟩:=ih c
      exact ⟨m,by omega,b,p,q⟩
theorem Ok.ord {n:Nat} {qs:List (Int×Int)} (h:Ok n qs):Ord n (qs.map nOf):=by
  refine ⟨h.big,by rw [List.length_map]; exact h.len,rkW (qs.map nOf) n,fun p hp=>?_⟩
  obtain ⟨q,hq,rfl⟩:=List.mem_map.mp hp
  obtain ⟨⟨a,a'⟩,b,b'⟩:=h.inn q hq
  have h1:(nOf q).1<n:=by unfold nOf; dsimp only; omega
  have h2:(nOf q).2<n:=by unfold nOf; dsimp only; omega
  refine ⟨h1,h2,?_⟩
  obtain ⟨m,m1,m2,m3,m4⟩:=lvl (h.no _ h1)
  obtain ⟨m',n1,n2,n3,n4⟩:=lvl (h.no _ h2)
  rw [rk_of m1 m3 m4,rk_of n1 n3 n4]
  refine Decidable.byContradiction fun z=>n4 m' (Nat.le_refl _) ?_
  have:WalkN (qs.map nOf) (m'-1+1) (nOf q).2:=⟨(nOf q).1,hp,m3 _ (by omega)⟩
  rw [show m'-1+1=m' by omega] at this
  exact this
theorem aheadF {n:Nat} {qs:List (Int×Int)} (h:Ok n qs):∃ d,F_ahead_of [.int (n:Int),needsZ qs]=some d:=by
  rw [inR_nat h.inn]
  exact ⟨_,ahead h.ord⟩
theorem ze9 {ps:List (Nat×Nat)}:∀ {k v:Nat},WalkN ps k v→∃ f:Nat→Nat,f 0=v∧∀ i,i<k→(f (i+1),f i)∈ps
  | 0,v,_=>⟨fun _=>v,rfl,fun i h=>by omega⟩
  | k+1,v,⟨u,hu,w⟩=>by
    obtain ⟨f,f0,hf⟩:=ze9 w
    refine ⟨fun i=>if i=0 then v else f (i-1),if_pos rfl,fun i hi=>?_⟩
    by_cases c:i=0
    · subst c
      dsimp only
      rw [if_neg (by omega),if_pos rfl,f0]
      exact hu
    · dsimp only
      rw [if_neg (by omega),if_neg c]
      have:=hf (i-1) (by omega)
      rw [show i-1+1=i by omega] at this
      exact this
theorem way_of {ps:List (Nat×Nat)} {f:Nat→Nat} {k:Nat} (hf:∀ i,i<k→(f (i+1),f i)∈ps):∀ {d i:Nat},i+d+1≤k→Way ps (f (i+d+1)) (f i)
  | 0,i,h=>.one (hf i (by omega))
  | d+1,i,h=>.go (.one (hf (i+d+1) (by omega))) (way_of hf (d:=d) (i:=i) (by omega))
theorem nd_lenN:∀ {l m:List Nat},l.Nodup→(∀ x∈l,x∈m)→l.length≤m.length
  | [],_,_,_=>Nat.zero_le _
  | x::l,m,nd,h=>by
    have hx:=h x List.mem_cons_self
    have e:=List.length_erase_of_mem hx
    have:=nd_lenN (l:=l) (m:=m.erase x) (List.nodup_cons.mp nd).2 fun y hy=>(List.mem_erase_of_ne (fun z=>by subst z; exact (List.nodup_cons.mp nd).1 hy)).mpr (h y (List.mem_cons_of_mem _ hy))
    have p:0<m.length:=List.length_pos_of_mem hx
    rw [List.length_cons]
    omega
theorem cyc {ps:List (Nat×Nat)} {n v:Nat} (lt:∀ p∈ps,p.1<n∧p.2<n) (hv:v<n) (w:WalkN ps n v):∃ x,x<n∧Way ps x x:=by
  obtain ⟨f,f0,hf⟩:=ze9 w
  have hl:∀ i,i≤n→f i<n:=fun i hi=>by
    cases i with
    | zero=>rw [f0]; exact hv
    | succ i=>exact (lt _ (hf i (by omega))).1
  have nn:¬ ((List.range (n+1)).map f).Nodup:=fun nd=>by
    have:=nd_lenN (m:=List.range n) nd fun x hx=>by
      obtain ⟨i,hi,rfl⟩:=List.mem_map.mp hx
      exact List.mem_range.mpr (hl i (by have:=List.mem_range.mp hi; omega))
    rw [List.length_map,List.length_range,List.length_range] at this
    omega
  have:∃ i j,i<j∧j<n+1∧f i=f j:=by
    refine Classical.byContradiction fun z=>nn ?_
    rw [List.Nodup,List.pairwise_map]
    refine List.Pairwise.imp_of_mem (R:=(· < ·)) (fun {a b} ha hb hab e=>z ⟨a,b,hab,List.mem_range.mp hb,e⟩) List.pairwise_lt_range
  obtain ⟨i,j,hij,hj,e⟩:=this
  refine ⟨f i,hl i (by omega),?_⟩
  have:=way_of hf (d:=j-i-1) (i:=i) (by omega)
  rw [show i+(j-i-1)+1=j by omega,← e] at this
  exact this
theorem ok_or {n:Nat} {qs:List (Int×Int)} (hb:n≤14) (hl:qs.length≤1000) (hw:∀ q∈qs,Wr q):Ok n qs∨Ref n qs:=by
  by_cases h:∀ q∈qs,InR n q
  · by_cases hu:∀ v,v<n→¬ WalkN (qs.map nOf) n v
    · exact .inl ⟨hb,hl,h,hu⟩
    · obtain ⟨v,hu⟩:=Classical.not_forall.mp hu
      obtain ⟨hv,hu⟩:=Classical.not_imp.mp hu
      refine .inr ⟨hb,hw,.inr ⟨h,cyc (fun p hp=>?_) hv (Classical.not_not.mp hu)⟩⟩
      obtain ⟨q,hq,rfl⟩:=List.mem_map.mp hp
      obtain ⟨⟨a,a'⟩,b,b'⟩:=h q hq
      unfold nOf
      dsimp only
      omega
  · obtain ⟨q,h⟩:=Classical.not_forall.mp h
    obtain ⟨hq,h⟩:=Classical.not_imp.mp h
    exact .inr ⟨hb,hw,.inl ⟨q,hq,h⟩⟩
theorem needs_inj {n m:Nat} {a b:List (Int×Int)} (h:[D.int (n:Int),needsZ a]=[D.int (m:Int),needsZ b]):n=m∧a=b:=by
  injection h with h1 h2
  injection h1 with h1
  injection h2 with h2 _
  injection h2 with h2
  refine ⟨by omega,(List.map_inj_right (fun x y e=>?_)).mp h2⟩
  obtain ⟨x1,x2⟩:=x
  obtain ⟨y1,y2⟩:=y
  unfold pairZ at e
  injection e with e
  injection e with e1 e2
  injection e1 with e1
  injection e2 with e2 _
  injection e2 with e2
  dsimp only at e1 e2
  rw [e1,e2]
end Pr
open Classical in
noncomputable def gAh (ds:List D):Option Bool:=if ∃ (n:Nat) (qs:List (Int×Int)),ds=[.int (n:Int),Pr.needsZ qs]∧Pr.Ok n qs then some true else if ∃ (n:Nat) (qs:List (Int×Int)),ds=[.int (n:Int),Pr.needsZ qs]∧Pr.Ref n qs then some false else none
theorem gAhN (ds:List D) (h:gAh ds=some true):∃ d,F_ahead_of ds=some d:=by
  unfold gAh at h
  split at h
  · rename_i c
    obtain ⟨n,qs,rfl,k⟩:=c
    exact Pr.aheadF k
  · split at h <;> cases h
theorem gAhX (ds:List D) (h:gAh ds=some false):∃ d,zfk ds=some d:=by
  unfold gAh at h
  split at h
  · cases h
  · split at h
    · rename_i c
      obtain ⟨n,qs,rfl,k⟩:=c
      exact Pr.x_ahead k
    · cases h
open Classical in
theorem gAh_ok {n:Nat} {qs:List (Int×Int)} (hb:n≤14) (hl:qs.length≤1000) (hw:∀ q∈qs,Pr.Wr q):gAh [.int (n:Int),Pr.needsZ qs]=some (decide (Pr.Ok n qs)):=by
  unfold gAh
  by_cases h:Pr.Ok n qs
  · rw [if_pos ⟨n,qs,rfl,h⟩,decide_eq_true h]
  · rw [if_neg (fun ⟨m,c,e,k⟩=>h (by obtain ⟨rfl,rfl⟩:=Pr.needs_inj e; exact k)),if_pos ⟨n,qs,rfl,(Pr.ok_or hb hl hw).resolve_left h⟩,decide_eq_false h]
noncomputable def ze7:DS:=(sSeq (sIf (dOr (dNot (dTru (dVar 1))) (dOr (dNot (dTru (za8 F_tells_one (zag (dIx (dVar 1) (dC (.int 0))) (zag (dC (.int 0)) (zag (dC (.int 14)) dNil)))))) (dNot (dTru (dF1 allD (dLst (zdb 1 [] (asL (dLst (dSl (zat 1) (zdt (dC (.int 1))) zd1))) (gN true 0) zdd (dEq false (dF1 lenD (dVar 0)) (dC (.int 2))))))))))
 (sRet (dC (.bl false)))
      zb7)
 (sSeq (zko gAh (zag (dIx (dIx (dVar 1) (dC (.int 0))) (dC (.int 0))) (zag (dLst (dSl (zat 1) (zdt (dC (.int 1))) zd1)) dNil)))
 (sRet (dC (.bl true)))))
@[irreducible] noncomputable def F_Pairs_fits:List D→Option D:=runD 2 [false,true] ze7
theorem F_Pairs_fits_def:F_Pairs_fits=runD 2 [false,true] ze7:=by unfold F_Pairs_fits; rfl
theorem st_kinds:stD 0 [] []=[]:=rfl
noncomputable def zkl:DS:=(sRet (dLst (zag (zjj 596) (zag (zjj 655) (zag (zjj 714) (zag (zjj 771) (zag (zjj 891) (zag (zjj 955) dNil))))))))
@[irreducible] noncomputable def F_kinds:List D→Option D:=runF 0 [] zkl
theorem F_kinds_def:F_kinds=runF 0 [] zkl:=by unfold F_kinds; rfl
theorem st_l_mix (x0 x1:D):stD 2 [false,false] [x0,x1]=[.bo x0,.bo x1]:=rfl
noncomputable def zkk:DS:=(sRet (dMod (dMul (dAdd (dAdd (dMul (dVar 0) (dVar 0)) (dMul (dVar 1) (dVar 0))) (dMul (dMul (dC (.int 7)) (dVar 1)) (dVar 1))) (dC (.int 1103515245))) (dC (.int 2147483629))))
@[irreducible] noncomputable def F_l_mix:List D→Option D:=runD 2 [false,false] zkk
theorem F_l_mix_def:F_l_mix=runD 2 [false,false] zkk:=by unfold F_l_mix; rfl
theorem st_l_many (x0 x1:D):stD 2 [false,false] [x0,x1]=[.bo x0,.bo x1]:=rfl
noncomputable def ziw:DS:=(sRet (dIx (dLst (zag (dMod (za8 F_l_mix (zag (dVar 0) (zag (dC (.int 1)) dNil))) (dAdd (dVar 1) (dC (.int 1)))) (zag (zjf (dVar 1)) (zag (dAdd (dC (.int 2)) (dMod (za8 F_l_mix (zag (dVar 0) (zag (dC (.int 1)) dNil))) (dSub (dVar 1) (dC (.int 1))))) dNil)))) (dMod (za8 F_l_mix (zag (dVar 0) (zag (dC (.int 2)) dNil))) (dC (.int 3)))))
@[irreducible] noncomputable def F_l_many:List D→Option D:=runD 2 [false,false] ziw
theorem F_l_many_def:F_l_many=runD 2 [false,false] ziw:=by unfold F_l_many; rfl
theorem st_l_hour (x0 x1:D):stD 2 [false,false] [x0,x1]=[.bo x0,.bo x1]:=rfl
noncomputable def zix:DS:=(sRet (dIx (dLst (zag (dMod (za8 F_l_mix (zag (dAdd (dVar 0) (dMul (dVar 1) (dVar 1))) (zag (dC (.int 3)) dNil))) (dC (.int 9))) (zag (dMod (dAdd (zm2 (dVar 0) (dC (.int 6))) (dVar 1)) (dPow (dC (.int 10)) (dC (.int 49)))) dNil))) (dMod (za8 F_l_mix (zag (dVar 0) (zag (dC (.int 4)) dNil))) (dC (.int 2)))))
@[irreducible] noncomputable def F_l_hour:List D→Option D:=runD 2 [false,false] zix
theorem F_l_hour_def:F_l_hour=runD 2 [false,false] zix:=by unfold F_l_hour; rfl
theorem zfa (x0 x1:D):stD 9 [false,false] [x0,x1]=[.bo x0,.bo x1,.un,.un,.un,.un,.un,.un,.un]:=rfl
noncomputable def zej:DS:=(sSeq (sIf (dT (dEq false (dVar 0) (dC (.int 0))))
 (sRet (dLst (zag (dLst (zag (dAdd (dC (.int 1)) (dMod (za8 F_l_mix (zag (dVar 1) (zag (dC (.int 5)) dNil))) (dC (.int 20)))) dNil)) (zag (dLst (zdb 1 [1] (dRg1 (za8 F_l_many (zag (dVar 1) (zag (dC (.int 20)) dNil)))) (gN true 0) zdd (za8 F_l_hour (zag (dVar 1) (zag (dVar 0) dNil))))) dNil))))
      zb7)
 (sSeq (sIf (dT (dEq false (dVar 0) (dC (.int 1))))
 (sSeq (sSet 2 (dMod (za8 F_l_mix (zag (dVar 1) (zag (dC (.int 5)) dNil))) (dC (.int 7))))
 (sRet (dLst (zdb 1 [2,1] (dRg1 (za8 F_l_many (zag (dVar 1) (zag (dC (.int 6)) dNil)))) (gN true 0) zdd (dLst (zdb 1 [2,0] (dRg1 (dVar 1)) (gN true 0) zdd (za8 F_l_hour (zag (dAdd (dVar 1) (dVar 2)) (zag (dVar 0) dNil)))))))))
      zb7)
 (sSeq (sIf (dT (dEq false (dVar 0) (dC (.int 2))))
 (sSeq (sSet 3 (za8 F_l_many (zag (dVar 1) (zag (dC (.int 12)) dNil))))
 (sRet (dLst (zdb 1 [1] (dRg1 (dVar 3)) (gN true 0) zdd (dLst (zag (za8 F_l_hour (zag (dVar 1) (zag (dVar 0) dNil))) (zag (dAdd (dC (.int 1)) (za8 F_l_hour (zag (dVar 1) (zag (dAdd (dVar 0) (dC (.int 20))) dNil)))) (zag (za8 F_l_hour (zag (dVar 1) (zag (dAdd (dVar 0) (dC (.int 40))) dNil))) dNil))))))))
      zb7)
 (sSeq (sIf (dT (dEq false (dVar 0) (dC (.int 3))))
 (sSeq (zfc 4 (zag (dLst (zag (dAdd (dC (.int 1)) (dMod (za8 F_l_mix (zag (dVar 1) (zag (dC (.int 5)) dNil))) (dC (.int 8)))) dNil)) dNil))
 (sSeq (sFor (dRg1 (za8 F_l_many (zag (dVar 1) (zag (dC (.int 8)) dNil)))) (gN true 5)
 (sSeq (sSet 6 (za8 F_l_hour (zag (dVar 1) (zag (dVar 5) dNil))))
 (sApp 4 (dLst (zag (zat 6) (zag (dAdd (dVar 6) (za8 F_l_hour (zag (dVar 1) (zag (dAdd (dVar 5) (dC (.int 20))) dNil)))) (zag (za8 F_l_hour (zag (dVar 1) (zag (dAdd (dVar 5) (dC (.int 40))) dNil))) dNil)))))))
    (sFrz 4 (sRet (zat 4)))))
      zb7)
 (sSeq (sIf (dT (dEq false (dVar 0) (dC (.int 4))))
 (sSeq (zfc 7 dNil)
 (sSeq (sFor (dRg1 (za8 F_l_many (zag (dVar 1) (zag (dC (.int 40)) dNil)))) (gN true 5)
 (sSeq (sIns 7 (dC (.int 0)) (dNeg (dC (.int 1))))
 (sSeq (zfc 7 (zdb 1 [] (asL (dVar 7)) (gN false 0) zdd (dAdd (dVar 0) (dF1 intD (dGe (dVar 0) (dC (.int 0)))))))
 (sIf (dAnd (dT (dGt (dVar 5) (dC (.int 0)))) (dT (dGt (dMod (za8 F_l_mix (zag (dAdd (dVar 1) (dVar 5)) (zag (dC (.int 6)) dNil))) (dC (.int 5))) (dC (.int 0)))))
 (sPut 7 (dC (.int 0)) (dAdd (dC (.int 1)) (dMod (za8 F_l_mix (zag (dAdd (dVar 1) (dVar 5)) (zag (dC (.int 7)) dNil))) (dVar 5))))
      zb7))))
    (sFrz 7 (sRet (dLst (zag (dLst (zag (dAdd (dC (.int 1)) (dMod (za8 F_l_mix (zag (dVar 1) (zag (dC (.int 5)) dNil))) (dC (.int 20)))) dNil)) (zag (zat 7) dNil)))))))
      zb7)
 (sSeq (sSet 3 (za8 F_l_many (zag (dVar 1) (zag (dC (.int 14)) dNil))))
 (sSeq (zfc 4 (zag (dLst (zag (zat 3) dNil)) dNil))
 (sSeq (sFor (dRg1 (dMod (za8 F_l_mix (zag (dVar 1) (zag (dC (.int 5)) dNil))) (dC (.int 20)))) (gN true 5)
 (sIf (dT (dGt (dVar 3) (dC (.int 1))))
 (sSeq (sSet 8 (dMod (za8 F_l_mix (zag (dAdd (dVar 1) (dVar 5)) (zag (dC (.int 6)) dNil))) (dSub (dVar 3) (dC (.int 1)))))
 (sApp 4 (dLst (zag (zat 8) (zag (dAdd (dAdd (dVar 8) (dC (.int 1))) (dMod (za8 F_l_mix (zag (dAdd (dVar 1) (dVar 5)) (zag (dC (.int 7)) dNil))) (dSub (dSub (dVar 3) (dC (.int 1))) (dVar 8)))) dNil)))))
      zb7))
    (sFrz 4 (sRet (zat 4)))))))))))
@[irreducible] noncomputable def F_l_good:List D→Option D:=runD 9 [false,false] zej
theorem F_l_good_def:F_l_good=runD 9 [false,false] zej:=by unfold F_l_good; rfl
theorem st_l_put (x0 x1 x2:D):stD 3 [true,false,true] [x0,x1,x2]=[.pu x0,.bo x1,.pu x2]:=rfl
noncomputable def zkj:DS:=(sRet (dLst (dCat (dLst (dCat (dLst (dSl (zat 0) zd1 (zdt (dVar 1)))) (zat 2))) (dLst (dSl (zat 0) (zdt (dAdd (dVar 1) (dC (.int 1)))) zd1)))))
@[irreducible] noncomputable def F_l_put:List D→Option D:=runD 3 [true,false,true] zkj
theorem F_l_put_def:F_l_put=runD 3 [true,false,true] zkj:=by unfold F_l_put; rfl
theorem st_l_bent_list (x0 x1 x2:D):stD 9 [false,true,false] [x0,x1,x2]=[.bo x0,.pu x1,.bo x2,.un,.un,.un,.un,.un,.un]:=rfl
noncomputable def zek:DS:=(sSeq (sSet 3 (dLst (dSl (zat 1) zd1 (zdt (dC (.int 1))))))
 (sSeq (sSet 4 (dIx (zat 1) (dC (.int 1))))
 (sSeq (sSet 5 (dMod (za8 F_l_mix (zag (dVar 2) (zag (dC (.int 8)) dNil))) (zkx (dC (.int 1)) (dF1 lenD (dVar 4)))))
 (sSeq (sSet 6 (dSub (dNeg (dC (.int 1))) (dF1 intD (dEq false (dVar 0) (dC (.int 4))))))
 (sSeq (zfc 7 (zag (dLst (zag (dLst (zag (dC (.int 0)) dNil)) (zag (zat 4) dNil))) (zag (dLst (zag (dLst (zag (dC (.int 21)) dNil)) (zag (zat 4) dNil))) (zag (dLst (zag (dLst dNil) (zag (zat 4) dNil))) (zag (dLst (zag (dLst (zag (dC (.int 1)) (zag (dC (.int 1)) dNil))) (zag (zat 4) dNil))) (zag (zat 3) (zag (dLst (dCat (zat 1) (dLst (zag (dLst dNil) dNil)))) (zag (dLst dNil) dNil))))))))
 (sSeq (sApp 7 (dLst (dCat (zat 3) (dLst (zag (za8 F_l_put (zag (zat 4) (zag (dVar 5) (zag (dLst (zag (zat 6) dNil)) dNil)))) dNil)))))
 (sSeq (sApp 7 (dLst (dCat (zat 3) (dLst (zag (dLst (dCat (zat 4) (dLst (dRep (zag (dSub (dC (.int 0)) (dF1 intD (dEq false (dVar 0) (dC (.int 4))))) dNil) (dSub (dC (.int 41)) (dF1 lenD (dVar 4))))))) dNil)))))
 (sSeq (sApp 7 (dLst (dCat (zat 3) (dLst (zag (za8 F_l_put (zag (zat 4) (zag (dVar 5) (zag (dLst (zag (dF1 lenD (dVar 4)) dNil)) dNil)))) dNil)))))
 (sSeq (sApp 7 (dLst (dCat (zat 3) (dLst (zag (za8 F_l_put (zag (zat 4) (zag (dVar 5) (zag (dLst (zag (zat 5) dNil)) dNil)))) dNil)))))
 (sSeq (sIf (dAnd (dT (dEq false (dVar 0) (dC (.int 4)))) (dT (dGt (dF1 lenD (dVar 4)) (dC (.int 0)))))
 (sSeq (sSet 8 (zat 5))
 (sSeq (zia (dT (dGe (dIx (dVar 4) (dVar 8)) (dC (.int 0))))
 (sSet 8 (dIx (zat 4) (dVar 8))))
 (sApp 7 (dLst (dCat (zat 3) (dLst (zag (za8 F_l_put (zag (zat 4) (zag (dVar 8) (zag (dLst (zag (zat 5) dNil)) dNil)))) dNil)))))))
      zb7)
    (sFrz 7 (sRet (zat 7)))))))))))))
@[irreducible] noncomputable def F_l_bent_list:List D→Option D:=runD 9 [false,true,false] zek
theorem F_l_bent_list_def:F_l_bent_list=runD 9 [false,true,false] zek:=by unfold F_l_bent_list; rfl
theorem st_l_bent_pairs (x0 x1:D):stD 8 [true,false] [x0,x1]=[.pu x0,.bo x1,.un,.un,.un,.un,.un,.un]:=rfl
noncomputable def zd6:DS:=(sSeq (sSet 2 (dIx (dIx (zat 0) (dC (.int 0))) (dC (.int 0))))
 (sSeq (sSet 3 (dMod (za8 F_l_mix (zag (dVar 1) (zag (dC (.int 8)) dNil))) (zkx (dC (.int 1)) (dVar 2))))
 (sSeq (sSet 4 (dMod (dAdd (dVar 3) (dC (.int 1))) (zkx (dC (.int 1)) (dVar 2))))
 (sSeq (sSet 5 (dLst (dSl (zat 0) (zdt (dC (.int 1))) zd1)))
 (sSeq (sSet 6 (dLst (zag (dLst (dCat (dLst (zag (dLst (zag (dNeg (dC (.int 1))) dNil)) dNil)) (zat 5))) (zag (dLst (dCat (dLst (zag (dLst (zag (dC (.int 15)) dNil)) dNil)) (zat 5))) (zag (dLst (dCat (dLst (zag (dLst dNil) dNil)) (zat 5))) (zag (dLst (zag (dLst (zag (dC (.int 1)) (zag (dC (.int 1)) dNil))) dNil)) (zag (dLst dNil) (zag (dLst (dCat (zat 0) (dLst (zag (dLst (zag (zat 3) dNil)) dNil)))) (zag (dLst (dCat (zat 0) (dLst (zag (dLst (zag (zat 3) (zag (zat 4) (zag (zat 4) dNil)))) dNil)))) (zag (dLst (dCat (zat 0) (zat 5))) dNil))))))))))
 (sSeq (sSet 6 (dLst (dCat (zat 6) (dLst (zag (dLst (dCat (zat 0) (dLst (zag (dLst (zag (zat 3) (zag (zat 3) dNil))) dNil)))) (zag (dLst (dCat (zat 0) (dLst (zag (dLst (zag (zat 3) (zag (zat 4) dNil))) (zag (dLst (zag (zat 4) (zag (zat 3) dNil))) dNil))))) (zag (dLst (dCat (zat 0) (dLst (zag (dLst (zag (zat 3) (zag (zat 2) dNil))) dNil)))) (zag (dLst (dCat (zat 0) (dLst (zag (dLst (zag (dNeg (dC (.int 1))) (zag (zat 3) dNil))) dNil)))) dNil))))))))
 (sSeq (sSet 7 (dMod (dAdd (dVar 3) (dC (.int 2))) (zkx (dC (.int 1)) (dVar 2))))
 (sRet (dLst (dCat (zat 6) (dLst (zag (dLst (dCat (zat 0) (dLst (zag (dLst (zag (zat 2) (zag (zat 3) dNil))) dNil)))) (zag (dLst (dCat (zat 0) (dLst (zag (dLst (zag (zat 3) (zag (dNeg (dC (.int 1))) dNil))) dNil)))) (zag (dLst (dCat (zat 0) (dLst (zag (dLst (zag (zat 3) (zag (zat 4) dNil))) (zag (dLst (zag (zat 4) (zag (zat 7) dNil))) (zag (dLst (zag (zat 7) (zag (zat 3) dNil))) dNil)))))) dNil))))))))))))))
@[irreducible] noncomputable def F_l_bent_pairs:List D→Option D:=runD 8 [true,false] zd6
theorem F_l_bent_pairs_def:F_l_bent_pairs=runD 8 [true,false] zd6:=by unfold F_l_bent_pairs; rfl
theorem st_l_bent_place (x0 x1 x2:D):stD 8 [true,true,false] [x0,x1,x2]=[.pu x0,.pu x1,.bo x2,.un,.un,.un,.un,.un]:=rfl
noncomputable def zd5:DS:=(sSeq (zfc 3 dNil)
 (sSeq (sSet 4 (dMod (za8 F_l_mix (zag (dVar 2) (zag (dC (.int 8)) dNil))) (dF1 lenD (dVar 1))))
 (sSeq (sSet 5 (dIx (zat 1) (dVar 4)))
 (sSeq (sFor (dRg1 (dF1 lenD (dVar 5))) (gN true 6)
 (sFor (asL (dLst (zag (dNeg (dC (.int 1))) (zag (dC (.int 0)) dNil)))) (gN true 7)
 (sApp 3 (dLst (dCat (zat 0) (za8 F_l_put (zag (zat 1) (zag (dVar 4) (zag (dLst (zag (za8 F_l_put (zag (zat 5) (zag (dVar 6) (zag (dLst (zag (zat 7) dNil)) dNil)))) dNil)) dNil)))))))))
 (sSeq (sApp 3 (dLst (dCat (zat 0) (za8 F_l_put (zag (zat 1) (zag (dVar 4) (zag (dLst (zag (dLst (dSl (zat 5) zd1 (zdt (dNeg (dC (.int 1)))))) dNil)) dNil)))))))
 (sSeq (sApp 3 (dLst (dCat (zat 0) (za8 F_l_put (zag (zat 1) (zag (dVar 4) (zag (dLst (zag (dLst (dCat (zat 5) (dLst (zag (dC (.int 0)) dNil)))) dNil)) dNil)))))))
 (sSeq (sApp 3 (dLst (dCat (zat 0) (za8 F_l_put (zag (zat 1) (zag (dVar 4) (zag (dLst (zag (dLst (dCat (dLst (zag (dC (.int 5)) (zag (dC (.int 4)) dNil))) (dLst (dSl (zat 5) (zdt (dC (.int 2))) zd1)))) dNil)) dNil)))))))
    (sFrz 3 (sRet (zat 3))))))))))
@[irreducible] noncomputable def F_l_bent_place:List D→Option D:=runD 8 [true,true,false] zd5
theorem F_l_bent_place_def:F_l_bent_place=runD 8 [true,true,false] zd5:=by unfold F_l_bent_place; rfl
theorem st_l_bent (x0 x1 x2:D):stD 6 [false,true,false] [x0,x1,x2]=[.bo x0,.pu x1,.bo x2,.un,.un,.un]:=rfl
noncomputable def ziz:DS:=(sSeq (sIf (dT (dIn false (dVar 0) (dTup (zag (dC (.int 0)) (zag (dC (.int 4)) dNil)))))
 (sRet (za8 F_l_bent_list (zag (dVar 0) (zag (zat 1) (zag (dVar 2) dNil)))))
      zb7)
 (sSeq (sIf (dT (dEq false (dVar 0) (dC (.int 5))))
 (sRet (za8 F_l_bent_pairs (zag (zat 1) (zag (dVar 2) dNil))))
      zb7)
 (sSeq (zfc 3 (zag (dLst (dCat (zat 1) (dLst (zag (dLst dNil) dNil)))) (zag (dLst (dCat (dLst (zag (dLst dNil) dNil)) (zat 1))) (zag (dLst (dCat (zat 1) (dLst (zag (dLst (zag (dC (.int 1)) (zag (dC (.int 2)) (zag (dC (.int 3)) (zag (dC (.int 4)) dNil))))) dNil)))) (zag (dLst (dCat (zat 1) (dLst (zag (dLst (zag (dC (.int 0)) (zag (dC (.int 0)) dNil))) dNil)))) dNil)))))
 (sSeq (sSet 4 (dLst dNil))
 (sSeq (sIf (dT (dEq false (dVar 0) (dC (.int 1))))
 (sSeq (sFor (asL (dLst (dSl (zat 1) zd1 (zdt (dC (.int 1)))))) (gN true 5)
 (sApp 3 (dLst (dCat (zat 1) (dLst (dRep (zag (dLst (dRep (zag (dC (.int 0)) dNil) (dF1 lenD (dVar 5)))) dNil) (dSub (dC (.int 7)) (dF1 lenD (dVar 1)))))))))
 (sApp 3 (dLst (zdb 1 [] (asL (zat 1)) (gN true 0) zdd (dLst (dCat (zat 0) (dLst (dRep (zag (dC (.int 0)) dNil) (dSub (dC (.int 7)) (dF1 lenD (dVar 0)))))))))))
      zb7)
 (sSeq (sIf (dT (dEq false (dVar 0) (dC (.int 2))))
 (sApp 3 (dLst (dRep (zag (dLst (zag (dC (.int 0)) (zag (dC (.int 1)) (zag (dC (.int 0)) dNil)))) dNil) (dC (.int 13)))))
      zb7)
 (sSeq (sIf (dT (dEq false (dVar 0) (dC (.int 3))))
 (sSeq (sFrz 3 (zfc 3 (dCat (zat 3) (dLst (zag (dLst dNil) (zag (dLst (dCat (dLst (zag (dLst (zag (dC (.int 0)) dNil)) dNil)) (dLst (dSl (zat 1) (zdt (dC (.int 1))) zd1)))) (zag (dLst (dCat (dLst (zag (dLst (zag (dC (.int 9)) dNil)) dNil)) (dLst (dSl (zat 1) (zdt (dC (.int 1))) zd1)))) (zag (dLst (dCat (dLst (zag (dLst dNil) dNil)) (dLst (dSl (zat 1) (zdt (dC (.int 1))) zd1)))) (zag (dLst (dCat (dLst (zag (dLst (zag (dC (.int 1)) (zag (dC (.int 1)) dNil))) dNil)) (dLst (dSl (zat 1) (zdt (dC (.int 1))) zd1)))) dNil)))))))))
 (sSeq (sSet 4 (dLst (dSl (zat 1) zd1 (zdt (dC (.int 1))))))
 (sSeq (sSet 1 (dLst (dSl (zat 1) (zdt (dC (.int 1))) zd1)))
 (sApp 3 (dLst (dCat (zat 4) (dLst (dRep (zag (dLst (zag (dC (.int 0)) (zag (dC (.int 1)) (zag (dC (.int 1)) dNil)))) dNil) (dC (.int 9))))))))))
      zb7)
 (sSeq (sIf (dAnd (dT (dGt (dF1 lenD (dVar 1)) (dC (.int 0)))) (dT (dGt (dF1 lenD (dIx (dVar 1) (dC (.int 0)))) (dC (.int 0)))))
      (sFrz 3 (zfc 3 (dCat (zat 3) (za8 F_l_bent_place (zag (zat 4) (zag (zat 1) (zag (dVar 2) dNil)))))))
      zb7)
    (sFrz 3 (sRet (zat 3)))))))))))
@[irreducible] noncomputable def F_l_bent:List D→Option D:=runD 6 [false,true,false] ziz
theorem F_l_bent_def:F_l_bent=runD 6 [false,true,false] ziz:=by unfold F_l_bent; rfl
theorem st_l_in_order (x0 x1:D):stD 7 [false,false] [x0,x1]=[.bo x0,.bo x1,.un,.un,.un,.un,.un]:=rfl
noncomputable def ze5:DS:=(sSeq (sFor (asL (zjq 1)) (gUn 2 (zfh (gN false 2) (zfh (gN false 3) zlf)))
 (sIf (dOr (dT (dLt (zm1 (dVar 2) (dVar 3)) (dC (.int 0)))) (dT (dGe (zkx (dVar 2) (dVar 3)) (dVar 0))))
 (sRet (dC (.bl false)))
      zb7))
 (sSeq (sSet 4 (dLst (dRep (zag (dC (.bl false)) dNil) (dVar 0))))
 (sSeq (sFor (dRg1 (dVar 0)) (gN true 5)
 (sSeq (zfc 6 (dRep (zag (dC (.bl false)) dNil) (dVar 0)))
 (sSeq (sFor (asL (zjq 1)) (gUn 2 (zfh (gN false 2) (zfh (gN false 3) zlf)))
 (sIf (dNot (dTru (dIx (dVar 4) (dVar 2))))
 (sPut 6 (dVar 3) (dC (.bl true)))
      zb7))
 (sSet 4 (dLst (zdb 1 [] (asL (dVar 6)) (gN false 0) zdd (zmv (dVar 0))))))))
 (sRet (dInB true (dC (.bl false)) (dVar 4))))))
@[irreducible] noncomputable def F_l_in_order:List D→Option D:=runD 7 [false,false] ze5
theorem F_l_in_order_def:F_l_in_order=runD 7 [false,false] ze5:=by unfold F_l_in_order; rfl
theorem st_l_head (x0 x1 x2:D):stD 3 [false,false,false] [x0,x1,x2]=[.bo x0,.bo x1,.bo x2]:=rfl
noncomputable def ziy:DS:=(sRet (zfq (dGt (dF1 lenD (dVar 0)) (dC (.int 0))) (zfq (dEq false (dF1 lenD (dIx (dVar 0) (dC (.int 0)))) (dC (.int 1))) (zfq (dGe (dIx (dIx (dVar 0) (dC (.int 0))) (dC (.int 0))) (dVar 1)) (dLe (dIx (dIx (dVar 0) (dC (.int 0))) (dC (.int 0))) (dVar 2))))))
@[irreducible] noncomputable def F_l_head:List D→Option D:=runD 3 [false,false,false] ziy
theorem F_l_head_def:F_l_head=runD 3 [false,false,false] ziy:=by unfold F_l_head; rfl
theorem zgk (x0 x1:D):stD 5 [false,true] [x0,x1]=[.bo x0,.pu x1,.un,.un,.un]:=rfl
noncomputable def zfw:DS:=(sSeq (sIf (dT (dEq false (dVar 0) (dC (.int 0))))
 (sRet (zfq (za8 F_l_head (zag (dVar 1) (zag (dC (.int 1)) (zag (dC (.int 20)) dNil)))) (zfq (dEq false (dF1 lenD (dVar 1)) (dC (.int 2))) (zfq (dLt (dF1 lenD (dIx (dVar 1) (dC (.int 1)))) (dC (.int 21))) (dGe (dF1 minD (dLst (dCat (dIx (zat 1) (dC (.int 1))) (dLst (zag (dC (.int 0)) dNil))))) (dC (.int 0)))))))
      zb7)
 (sSeq (sIf (dT (dEq false (dVar 0) (dC (.int 4))))
 (sSeq (sIf (dOr (dNot (dTru (za8 F_l_head (zag (dVar 1) (zag (dC (.int 1)) (zag (dC (.int 20)) dNil)))))) (dOr (dT (dEq true (dF1 lenD (dVar 1)) (dC (.int 2)))) (dOr (dT (dGt (dF1 lenD (dIx (dVar 1) (dC (.int 1)))) (dC (.int 40)))) (dT (dLt (dF1 minD (dLst (dCat (dIx (zat 1) (dC (.int 1))) (dLst (zag (dC (.int 0)) dNil))))) (dNeg (dC (.int 1))))))))
 (sRet (dC (.bl false)))
      zb7)
 (sSeq (sSet 2 (dLst (zdb 1 [1] (dRg1 (dF1 lenD (dIx (dVar 1) (dC (.int 1))))) (gN true 0) (dT (dGe (dIx (dIx (dVar 1) (dC (.int 1))) (dVar 0)) (dC (.int 0)))) (dTup (zag (zat 0) (zag (dIx (dIx (zat 1) (dC (.int 1))) (dVar 0)) dNil))))))
 (sRet (za8 F_l_in_order (zag (dF1 lenD (dIx (dVar 1) (dC (.int 1)))) (zag (dVar 2) dNil))))))
      zb7)
 (sSeq (sIf (dT (dEq false (dVar 0) (dC (.int 5))))
 (sSeq (sIf (dOr (dNot (dTru (za8 F_l_head (zag (dVar 1) (zag (dC (.int 0)) (zag (dC (.int 14)) dNil)))))) (dT (dGt (dF1 lenD (dLst (zdb 1 [] (asL (dLst (dSl (zat 1) (zdt (dC (.int 1))) zd1))) (gN true 0) (dT (dEq true (dF1 lenD (dVar 0)) (dC (.int 2)))) (zat 0)))) (dC (.int 0)))))
 (sRet (dC (.bl false)))
      zb7)
 (sRet (za8 F_l_in_order (zag (dIx (dIx (dVar 1) (dC (.int 0))) (dC (.int 0))) (zag (dLst (dSl (zat 1) (zdt (dC (.int 1))) zd1)) dNil)))))
      zb7)
 (sSeq (sIf (dT (dEq false (dVar 0) (dC (.int 1))))
 (sSeq (sIf (dOr (dT (dGt (dF1 lenD (dVar 1)) (dC (.int 6)))) (dAnd (dT (dGt (dF1 lenD (dVar 1)) (dC (.int 0)))) (dT (dGt (dF1 lenD (dIx (dVar 1) (dC (.int 0)))) (dC (.int 6))))))
 (sRet (dC (.bl false)))
      zb7)
 (sRet (dEq false (dF1 lenD (dLst (zdb 1 [1] (asL (zat 1)) (gN true 0) (dOr (dT (dEq true (dF1 lenD (dVar 0)) (dF1 lenD (dIx (dVar 1) (dC (.int 0)))))) (dT (dLt (dF1 minD (dLst (dCat (zat 0) (dLst (zag (dC (.int 0)) dNil))))) (dC (.int 0))))) (zat 0)))) (dC (.int 0)))))
      zb7)
 (sSeq (sSet 3 (zat 1))
 (sSeq (sIf (dT (dEq false (dVar 0) (dC (.int 3))))
 (sSeq (sIf (dNot (dTru (za8 F_l_head (zag (dVar 1) (zag (dC (.int 1)) (zag (dC (.int 8)) dNil))))))
 (sRet (dC (.bl false)))
      zb7)
 (sSet 3 (dLst (dSl (zat 1) (zdt (dC (.int 1))) zd1))))
      zb7)
 (sSeq (sFor (asL (zat 3)) (gN true 4)
 (sIf (dOr (dT (dEq true (dF1 lenD (dVar 4)) (dC (.int 3)))) (dOr (dT (dLt (dF1 minD (dVar 4)) (dC (.int 0)))) (dOr (dAnd (dT (dEq false (dVar 0) (dC (.int 2)))) (dT (dEq false (dIx (dVar 4) (dC (.int 1))) (dC (.int 0))))) (dAnd (dT (dEq false (dVar 0) (dC (.int 3)))) (dT (dLt (dIx (dVar 4) (dC (.int 1))) (dIx (dVar 4) (dC (.int 0)))))))))
 (sRet (dC (.bl false)))
      zb7))
 (sRet (dLe (dF1 lenD (dVar 3)) (dIx (dLst (zag (dC (.int 12)) (zag (dC (.int 8)) dNil))) (dF1 intD (dEq false (dVar 0) (dC (.int 3))))))))))))))
@[irreducible] noncomputable def F_l_due:List D→Option D:=runD 5 [false,true] zfw
theorem zdf:F_l_due=runD 5 [false,true] zfw:=by unfold F_l_due; rfl
theorem st_law (x0:D):stD 8 [false] [x0]=[.bo x0,.un,.un,.un,.un,.un,.un,.un]:=rfl
noncomputable def zm4:DS:=(sSeq (sSet 1 (za8 F_kinds dNil))
 (sSeq (sFor (asL (dLst (dCat (dLst (zag (dC (.int 4)) dNil)) (dLst (zl8 (dSl (dVar 0) zd1 (zdt (dC (.int 63))))))))) (gN true 2)
 (sSeq (sSet 3 (dMod (dVar 2) (dC (.int 6))))
 (sSeq (sSet 4 (za8 F_l_good (zag (dVar 3) (zag (dVar 2) dNil))))
 (sSeq (sSet 5 (za8 F_l_bent (zag (dVar 3) (zag (dLst (zdb 1 [] (asL (zat 4)) (gN true 0) zdd (dLst (dLof (zat 0))))) (zag (dVar 2) dNil)))))
 (sSeq (sIf (dT (dEq false (dMod (za8 F_l_mix (zag (dVar 2) (zag (dC (.int 9)) dNil))) (dC (.int 2))) (dC (.int 0))))
 (sSet 4 (dIx (zat 5) (dMod (za8 F_l_mix (zag (dVar 2) (zag (dC (.int 10)) dNil))) (dF1 lenD (dVar 5)))))
      zb7)
 (sSeq (sSet 6 (dLst (zdb 1 [] (asL (zat 4)) (gN true 0) zdd (dLst (dLof (zat 0))))))
 (sSeq (sSet 7 (zll [(596,F_Alike_fits),(655,F_Open_fits),(714,F_Tails_fits),(771,F_Windows_fits),(891,F_Tree_fits),(955,F_Pairs_fits)] (dIx (dVar 1) (dVar 3)) (zag (zat 6) dNil)))
 (sIf (dOr (dNot (dTru (dIsi "bool" (dVar 7)))) (dOr (dT (dEq true (dVar 7) (za8 F_l_due (zag (dVar 3) (zag (zat 4) dNil))))) (dT (dEq true (dVar 6) (dVar 4)))))
 (sRet (dC (.bl false)))
      zb7))))))))
 (sRet (dC (.bl true)))))
@[irreducible] noncomputable def F_law:List D→Option D:=runD 8 [false] zm4
theorem F_law_def:F_law=runD 8 [false] zm4:=by unfold F_law; rfl
end
section
variable [Tabs] {P:Program} {w:World} {K:PySem.W.Frag} {mg:Str→Option Value} {base:Heap} {ad:Adr}
theorem zez (T:Txt K mg ad):FnOk P w K mg base CX0 1 ad.f_tells_one ad.d_tells_one ["numbers", "least", "most"] (spD .v K [false,false,false] F_tells_one):=by
  rw [F_tells_one_def]
  exact Fun.okD (N:=["numbers", "least", "most"]) T.F_tells_one sc_tells_one [false,false,false] rfl zfv fun cdv A outer s H E hr=>⟨_,
 (zan (zbd (zer (zb6 (zce (K:=K) hr.units) (zar (zau (K:=K) rfl) rfl T.z_len zbg (zaa (pv 0) zac)) zaf (za3 _)) (zhm (pe_chain zg4 zg4 (pv 1) (zbj (zax (K:=K) rfl) (pv 0) zaf (fun _ _=>rfl)) (pv 2)))))),
 (zbi (zde (SemI.b (zcu (neg:=false) (SemI.b (zbe (zab 0))) (SemI.b zae))) (zev (p:=fun i j=>decide (i≤j)) (q:=fun i j=>decide (i≤j)) (zab 1) (zbw (zab 0) (SemI.b zae)) (zab 2))))⟩
theorem zeh (T:Txt K mg ad):FnOk P w K mg base CX0 1 ad.f_none_below ad.d_none_below ["numbers", "least"] (spD .v K [false,false] F_none_below):=by
  rw [F_none_below_def]
  exact Fun.okD (N:=["numbers", "least"]) T.F_none_below sc_none_below [false,false] rfl ze4 fun cdv A outer s H E hr=>⟨_,
 (zan (zbd (zar (zgi (K:=K) rfl rfl) rfl T.z_all zk0 (zaa (zey rfl (zbv (K:=K) rfl (pv 0)) (ts:=["number"]) (zs:=["least"]) (k:=1) (is:=[1]) rfl (.cons rfl .nil) (.cons rfl (Or.inl rfl) rfl (by first | exact Or.inl rfl | exact Or.inr rfl) .nil) rfl (zbm (by decide)) (fun _ _ _ _ _=>(pgb (by decide +kernel) rfl rfl)) (fun _ _ _ _ _=>(zb6 zkq (pv 0) (pv 1) (za3 _))) rfl (by decide +kernel) rfl (by decide +kernel)) zac)))),
 (zbi (zkn (SemI.b (SemF.l (zcc (m:=false) (k:=1) (cs:=[1]) (zhk (zab 0)) (za5 0) zch (zkm (zab 0) (zab 1)))))))⟩
theorem ok_either (T:Txt K mg ad):FnOk P w K mg base CX0 1 ad.f_either ad.d_either ["truths", "others"] (spD .v K [false,false] F_either):=by
  rw [F_either_def]
  exact Fun.okD (N:=["truths", "others"]) T.F_either sc_either [false,false] rfl zi0 fun cdv A outer s H E hr=>⟨_,
 (zan (zbd (zey rfl (pi_zip (K:=K) rfl rfl T.z_zip (zaa (pv 0) (zaa (pv 1) zac))) (ts:=["one", "other"]) (zs:=[]) (k:=2) (is:=[]) rfl .nil .nil rfl (low_seq (lows_cons (zbm (by decide)) (lows_cons (zbm (by decide)) lows_nil))) (fun _ _ _ _ _=>(zja (K:=K) rfl rfl (zd4 (pgb (by decide +kernel) rfl rfl) (zd4 (pgb (by decide +kernel) rfl rfl) zi9)))) (fun _ _ _ _ _=>(pe_or (pv 0) (zhm (pv 1)))) rfl (by decide +kernel) rfl (by decide +kernel)))),
 (zbi (SemF.l (zcc (m:=true) (k:=2) (cs:=[]) (swc_zipB (zab 0) (zab 1)) (zmj (zd3 (za5 0) (zd3 (za5 1) zi4))) zch (si_orV (zab 0) (zam 1)))))⟩
theorem okX_told_order (T:Txt K mg ad):FnOk P w K mg base (CXE P w) 1 ad.f_told_order ad.d_told_order ["many", "needs"] (spX K [false,false] ad.c_NoOrder zea):=by
  rw [X_told_order_def]
  exact Fun.okX (N:=["many", "needs", "before", "first", "later"]) T.F_told_order sc_told_order [false,false] rfl zel fun cdv A outer s H E hr=>⟨_,
 (zaj (zkp (i:=2) sc_told_order.nd rfl rfl rfl (zbq rfl T.z_range (zaa (pv 0) zac)) (ts:=["work"]) (zs:=["many"]) (k:=1) (is:=[0]) rfl (.cons rfl .nil) (.cons rfl (Or.inl rfl) rfl (by first | exact Or.inl rfl | exact Or.inr rfl) .nil) rfl (zbm (by decide)) (fun _ _ _ _ _=>(pgb (by decide +kernel) rfl rfl)) (fun _ _ _ _ _=>(za1 zg9 (zaq (zaa zec zac)) (pv 1))) rfl (by decide +kernel) rfl (by decide +kernel))
 (zaj (zdp PassesOwn.leaving rfl (zbv (K:=K) rfl (pv 1)) (zja (K:=K) rfl rfl (zd4 (zb5 (i:=3) sc_told_order.nd rfl (Or.inl rfl)) (zd4 (zb5 (i:=4) sc_told_order.nd rfl (Or.inl rfl)) zi9)))
 (zaj (zcl (zeg (PW.pt (zic (zfn zg4 zil zaf (pv 3) (pv 0)) (zgd (zfn zg4 zil zaf (pv 4) (pv 0))))))
 (zan (ziq (E:=E) (C:=ad.c_NoOrder) (fun _ _ h=>h) ⟨rfl,rfl,rfl⟩ rfl PySem.F.excBase_ValueError rfl T.m_NoOrder T.q_NoOrder (zaa (zlc (PParts.val (pv 3) (PParts.text (by decide) (PParts.val (pv 4) (PParts.text (by decide) PParts.nil))))) zac)))
 zbc)
 (zan (zjv zec (zjw (zbj (zax (K:=K) rfl) (pv 2) (pv 3) (fun _ _=>rfl)) (pv 4) zgm)))))
 (zan zfo))),
 (zas (ss_setMC (sm_comp (m:=true) (k:=1) (cs:=[0]) (SemW.c (zbp (zab 0))) (za5 0) zch (zg7 (zap (n:=1) (zah zep zai) (by decide)) (zab 1))))
 (zas (zdo (m:=false) (zgj (zjs 1)) (zmj (zd3 (za5 3) (zd3 (za5 4) zi4)))
 (zas (zci (zef (zh8 (za2 (SemI.b (zev (p:=fun i j=>decide (i≤j)) (q:=fun i j=>decide (i<j)) (SemI.b zae) (zab 3) (zab 0)))) (za2 (SemI.b (zev (p:=fun i j=>decide (i≤j)) (q:=fun i j=>decide (i<j)) (SemI.b zae) (zab 4) (zab 0))))))
 (zi2 (SemJ.cons (zab 3) (SemJ.cons (zab 4) SemJ.nil)))
 zbb)
 (ss_put2 zep (zab 3) (zab 4))))
 zfm))⟩
theorem ok_told_order (T:Txt K mg ad):FnOk P w K mg base CX0 1 ad.f_told_order ad.d_told_order ["many", "needs"] (spD .l K [false,false] F_told_order):=by
  rw [F_told_order_def]
  exact Fun.okF (N:=["many", "needs", "before", "first", "later"]) T.F_told_order sc_told_order [false,false] rfl ze3 fun cdv A outer s H E hr=>⟨_,
 (zaj (zkp (i:=2) sc_told_order.nd rfl rfl rfl (zbq rfl T.z_range (zaa (pv 0) zac)) (ts:=["work"]) (zs:=["many"]) (k:=1) (is:=[0]) rfl (.cons rfl .nil) (.cons rfl (Or.inl rfl) rfl (by first | exact Or.inl rfl | exact Or.inr rfl) .nil) rfl (zbm (by decide)) (fun _ _ _ _ _=>(pgb (by decide +kernel) rfl rfl)) (fun _ _ _ _ _=>(za1 zg9 (zaq (zaa zec zac)) (pv 1))) rfl (by decide +kernel) rfl (by decide +kernel))
 (zaj (zdp PassesOwn.never rfl (zbv (K:=K) rfl (pv 1)) (zja (K:=K) rfl rfl (zd4 (zb5 (i:=3) sc_told_order.nd rfl (Or.inl rfl)) (zd4 (zb5 (i:=4) sc_told_order.nd rfl (Or.inl rfl)) zi9)))
 (zaj (zcl (zeg (PW.pt (zic (zfn zg4 zil zaf (pv 3) (pv 0)) (zgd (zfn zg4 zil zaf (pv 4) (pv 0))))))
 (zan zfo)
 zbc)
 (zan (zjv zec (zjw (zbj (zax (K:=K) rfl) (pv 2) (pv 3) (fun _ _=>rfl)) (pv 4) zgm)))))
 (zan (zbd (pv 2))))),
 (zas (ss_setMC (sm_comp (m:=true) (k:=1) (cs:=[0]) (SemW.c (zbp (zab 0))) (za5 0) zch (zg7 (zap (n:=1) (zah zep zai) (by decide)) (zab 1))))
 (zas (zdo (m:=false) (zgj (zjs 1)) (zmj (zd3 (za5 3) (zd3 (za5 4) zi4)))
 (zas (zci (zef (zh8 (za2 (SemI.b (zev (p:=fun i j=>decide (i≤j)) (q:=fun i j=>decide (i<j)) (SemI.b zae) (zab 3) (zab 0)))) (za2 (SemI.b (zev (p:=fun i j=>decide (i≤j)) (q:=fun i j=>decide (i<j)) (SemI.b zae) (zab 4) (zab 0))))))
 zfm
 zbb)
 (ss_put2 zep (zab 3) (zab 4))))
 (ss_frzR 2 ss_retX)))⟩
theorem okX_ahead_of (T:Txt K mg ad):FnOk P w K mg base (CXE P w) 2 ad.f_ahead_of ad.d_ahead_of ["many", "needs"] (spX K [false,false] ad.c_NoOrder zfk):=by
  rw [X_ahead_of_def]
  exact Fun.okX (N:=["many", "needs", "before", "between", "first"]) T.F_ahead_of sc_ahead_of [false,false] rfl zf0 fun cdv A outer s H E hr=>⟨_,
 (zaj (zm7 (zbf (i:=2) sc_ahead_of.nd rfl (Or.inr rfl) (zaw (okX_told_order T) (hr.mono (by decide)) rfl T.m_told_order T.F_told_order.kp T.b_told_order .nil (XLink.passes (E:=E) (fun _ _ h=>h) ⟨rfl,rfl,rfl⟩) (zaa (pv 0) (zaa (pv 1) zac)))) (zbf (i:=2) sc_ahead_of.nd rfl (Or.inr rfl) (zaw (ok_told_order T) (hr.mono (by decide)) rfl T.m_told_order T.F_told_order.kp T.b_told_order .nil zbk (zaa (pv 0) (zaa (pv 1) zac)))))
 (zaj (zdp PassesOwn.leaving rfl (zbq rfl T.z_range (zaa (pv 0) zac)) (zb5 (i:=3) sc_ahead_of.nd rfl (Or.inl rfl))
 (zan (zdp PassesOwn.leaving rfl (zbq rfl T.z_range (zaa (pv 0) zac)) (zb5 (i:=4) sc_ahead_of.nd rfl (Or.inl rfl))
 (zan (zcl (zb8 (K:=K) rfl (zbj (zax (K:=K) rfl) (zbj (zax (K:=K) rfl) (pv 2) (pv 4) (fun _ _=>rfl)) (pv 3) (fun _ _=>rfl)) (fun _=>rfl))
 (zan (zjv (zaw (ok_either T) (hr.mono (by decide)) rfl T.m_either T.F_either.kp T.b_either .nil zbk (zaa (zbj (zax (K:=K) rfl) (pv 2) (pv 4) (fun _ _=>rfl)) (zaa (zbj (zax (K:=K) rfl) (pv 2) (pv 3) (fun _ _=>rfl)) zac))) (zjw (pv 2) (pv 4) zgm)))
 zbc)))))
 (zaj (zcl (zb8 (K:=K) rfl (zar (call_anyK (K:=K) rfl rfl) rfl T.z_any bt_any (zaa (zey rfl (zbq rfl T.z_range (zaa (pv 0) zac)) (ts:=["work"]) (zs:=["before"]) (k:=1) (is:=[2]) rfl (.cons rfl .nil) (.cons rfl (Or.inl rfl) rfl (by first | exact Or.inl rfl | exact Or.inr rfl) .nil) rfl (zbm (by decide)) (fun _ _ _ _ _=>(pgb (by decide +kernel) rfl rfl)) (fun _ _ _ _ _=>(zbj (zax (K:=K) rfl) (zbj (zax (K:=K) rfl) (pv 1) (pv 0) (fun _ _=>rfl)) (pv 0) (fun _ _=>rfl))) rfl (by decide +kernel) rfl (by decide +kernel)) zac)) (fun _=>rfl))
 (zan (ziq (E:=E) (C:=ad.c_NoOrder) (fun _ _ h=>h) ⟨rfl,rfl,rfl⟩ rfl PySem.F.excBase_ValueError rfl T.m_NoOrder T.q_NoOrder (zaa pe_str zac)))
 zbc)
 (zan zfo)))),
 (zas (ss_or (ss_xset (zal (zab 0) (zal (zab 1) zai))) (zeb (sf_call (zal (zab 0) (zal (zab 1) zai)))))
 (zas (zdo (m:=true) (zbp (zab 0)) (za5 3)
 (zdo (m:=true) (zbp (zab 0)) (za5 4)
 (zci (zee (K:=K) (zbw (zbw (zab 2) (zab 4)) (zab 3)))
 (zlt (zaz (zal (zbw (zab 2) (zab 4)) (zal (zbw (zab 2) (zab 3)) zai))) (zab 4))
 zbb)))
 (zas (zci (zee (K:=K) (SemI.b (si_any (SemI.b (SemF.l (zcc (m:=true) (k:=1) (cs:=[2]) (SemW.c (zbp (zab 0))) (za5 0) zch (SemB.i (zbw (zbw (zab 1) (zab 0)) (zab 0)))))))))
 ss_raiseC
 zbb)
 zfm)))⟩
theorem ok_ahead_of (T:Txt K mg ad):FnOk P w K mg base CX0 2 ad.f_ahead_of ad.d_ahead_of ["many", "needs"] (spD .v K [false,false] F_ahead_of):=by
  rw [F_ahead_of_def]
  exact Fun.okD (N:=["many", "needs", "before", "between", "first"]) T.F_ahead_of sc_ahead_of [false,false] rfl zg0 fun cdv A outer s H E hr=>⟨_,
 (zaj (zbf (i:=2) sc_ahead_of.nd rfl (Or.inr rfl) (zaw (ok_told_order T) (hr.mono (by decide)) rfl T.m_told_order T.F_told_order.kp T.b_told_order .nil zbk (zaa (pv 0) (zaa (pv 1) zac))))
 (zaj (zdp PassesOwn.never rfl (zbq rfl T.z_range (zaa (pv 0) zac)) (zb5 (i:=3) sc_ahead_of.nd rfl (Or.inl rfl))
 (zan (zdp PassesOwn.never rfl (zbq rfl T.z_range (zaa (pv 0) zac)) (zb5 (i:=4) sc_ahead_of.nd rfl (Or.inl rfl))
 (zan (zcl (zb8 (K:=K) rfl (zbj (zax (K:=K) rfl) (zbj (zax (K:=K) rfl) (pv 2) (pv 4) (fun _ _=>rfl)) (pv 3) (fun _ _=>rfl)) (fun _=>rfl))
 (zan (zjv (zaw (ok_either T) (hr.mono (by decide)) rfl T.m_either T.F_either.kp T.b_either .nil zbk (zaa (zbj (zax (K:=K) rfl) (pv 2) (pv 4) (fun _ _=>rfl)) (zaa (zbj (zax (K:=K) rfl) (pv 2) (pv 3) (fun _ _=>rfl)) zac))) (zjw (pv 2) (pv 4) zgm)))
 zbc)))))
 (zaj (zcl (zb8 (K:=K) rfl (zar (call_anyK (K:=K) rfl rfl) rfl T.z_any bt_any (zaa (zey rfl (zbq rfl T.z_range (zaa (pv 0) zac)) (ts:=["work"]) (zs:=["before"]) (k:=1) (is:=[2]) rfl (.cons rfl .nil) (.cons rfl (Or.inl rfl) rfl (by first | exact Or.inl rfl | exact Or.inr rfl) .nil) rfl (zbm (by decide)) (fun _ _ _ _ _=>(pgb (by decide +kernel) rfl rfl)) (fun _ _ _ _ _=>(zbj (zax (K:=K) rfl) (zbj (zax (K:=K) rfl) (pv 1) (pv 0) (fun _ _=>rfl)) (pv 0) (fun _ _=>rfl))) rfl (by decide +kernel) rfl (by decide +kernel)) zac)) (fun _=>rfl))
 (zan zfo)
 zbc)
 (zan (zbd (pe_cM0 rfl (zbv (K:=K) rfl (pv 2)) (ts:=["row"]) (zs:=["many"]) (k:=1) (is:=[0]) rfl (.cons rfl .nil) (.cons rfl (Or.inl rfl) rfl (by first | exact Or.inl rfl | exact Or.inr rfl) .nil) rfl rfl rfl (zbm (by decide)) (fun _ _ _ _ _=>(pgbC (i:=0) (by decide +kernel) rfl (Or.inr rfl) (Or.inl rfl))) (fun _ _ _ _ _=>(zmo rfl (zbq rfl T.z_range (zaa (pv 1) zac)) (ts:=["later"]) (zs:=["row"]) (k:=1) (is:=[0]) rfl (.cons rfl .nil) (.cons rfl (by first | exact Or.inl rfl | exact Or.inr rfl) rfl (by first | exact Or.inl rfl | exact Or.inr rfl) .nil) rfl (zbm (by decide)) (fun _ _ _ _ _=>(pgb (by decide +kernel) rfl rfl)) (fun _ _ _ _ _=>(zb8 (K:=K) rfl (zbj (zax (K:=K) rfl) (pv 1) (pv 0) (fun _ _=>rfl)) (fun _=>rfl))) (fun _ _ _ _ _=>(pv 0)) rfl (by decide +kernel) rfl (by decide +kernel))) rfl rfl (by decide +kernel))))))),
 (zas (zeb (sf_call (zal (zab 0) (zal (zab 1) zai))))
 (zas (zdo (m:=true) (zbp (zab 0)) (za5 3)
 (zdo (m:=true) (zbp (zab 0)) (za5 4)
 (zci (zee (K:=K) (zbw (zbw (zab 2) (zab 4)) (zab 3)))
 (zlt (zaz (zal (zbw (zab 2) (zab 4)) (zal (zbw (zab 2) (zab 3)) zai))) (zab 4))
 zbb)))
 (zas (zci (zee (K:=K) (SemI.b (si_any (SemI.b (SemF.l (zcc (m:=true) (k:=1) (cs:=[2]) (SemW.c (zbp (zab 0))) (za5 0) zch (SemB.i (zbw (zbw (zab 1) (zab 0)) (zab 0)))))))))
 zfm
 zbb)
 (zbi (SemF.l (zcc (m:=false) (k:=1) (cs:=[0]) (zhk (zab 2)) (za5 0) zch (SemF.l (zcc (m:=true) (k:=1) (cs:=[0]) (SemW.c (zbp (zab 1))) (za5 0) (zee (K:=K) (zbw (zab 1) (zab 0))) (zam 0)))))))))⟩
theorem okX_level_of (T:Txt K mg ad):FnOk P w K mg base (CXE P w) 1 ad.f_level_of ad.d_level_of ["behind", "work"] (spX K [false,false] ad.c_NoOrder zfj):=by
  rw [X_level_of_def]
  exact Fun.okX (N:=["behind", "work", "level", "later"]) T.F_level_of sc_level_of [false,false] rfl zfz fun cdv A outer s H E hr=>⟨_,
 (zaj (zbf (i:=2) sc_level_of.nd rfl (Or.inl rfl) zaf)
 (zaj (zbf (i:=3) sc_level_of.nd rfl (Or.inl rfl) (zbj (zax (K:=K) rfl) (pv 0) (pv 1) (fun _ _=>rfl)))
 (zaj (zkc PassesOwn.leaving (za4 (zha (K:=K) hr.units) (pv 3) (zik zf1 zaf) (za3 _))
 (zaj (ps_aug (i:=2) sc_level_of.nd rfl (Or.inl rfl) zaf ip_add)
 (zaj (zcl (za4 zg5 (pv 2) (zar (zau (K:=K) rfl) rfl T.z_len zbg (zaa (pv 0) zac)) (za3 _))
 (zan (ziq (E:=E) (C:=ad.c_NoOrder) (fun _ _ h=>h) ⟨rfl,rfl,rfl⟩ rfl PySem.F.excBase_ValueError rfl T.m_NoOrder T.q_NoOrder (zaa (zlc (PParts.text (by decide) (PParts.val (pv 1) (PParts.text (by decide) PParts.nil)))) zac)))
 zbc)
 (zan (zbf (i:=3) sc_level_of.nd rfl (Or.inl rfl) (zbj (zax (K:=K) rfl) (pv 0) (pv 3) (fun _ _=>rfl)))))))
 (zan zfo)))),
 (zas (zbu zae)
 (zas (zbu (SemB.i (zbw (zab 0) (zab 1))))
 (zas (zj8 (za2 (SemI.b (zcu (neg:=true) (zab 3) (SemI.b (zf2 (SemI.b zae))))))
 (zas (ss_aug (SemI.b zae))
 (zas (zci (za2 (SemI.b (zg2 (zab 2) (SemI.b (zbe (zab 0))))))
 (zi2 (SemJ.cons (zab 1) SemJ.nil))
 zbb)
 (zbu (SemB.i (zbw (zab 0) (zab 3)))))))
 zfm)))⟩
theorem ok_level_of (T:Txt K mg ad):FnOk P w K mg base CX0 1 ad.f_level_of ad.d_level_of ["behind", "work"] (spD .v K [false,false] F_level_of):=by
  rw [F_level_of_def]
  exact Fun.okD (N:=["behind", "work", "level", "later"]) T.F_level_of sc_level_of [false,false] rfl zgz fun cdv A outer s H E hr=>⟨_,
 (zaj (zbf (i:=2) sc_level_of.nd rfl (Or.inl rfl) zaf)
 (zaj (zbf (i:=3) sc_level_of.nd rfl (Or.inl rfl) (zbj (zax (K:=K) rfl) (pv 0) (pv 1) (fun _ _=>rfl)))
 (zaj (zkc PassesOwn.never (za4 (zha (K:=K) hr.units) (pv 3) (zik zf1 zaf) (za3 _))
 (zaj (ps_aug (i:=2) sc_level_of.nd rfl (Or.inl rfl) zaf ip_add)
 (zaj (zcl (za4 zg5 (pv 2) (zar (zau (K:=K) rfl) rfl T.z_len zbg (zaa (pv 0) zac)) (za3 _))
 (zan zfo)
 zbc)
 (zan (zbf (i:=3) sc_level_of.nd rfl (Or.inl rfl) (zbj (zax (K:=K) rfl) (pv 0) (pv 3) (fun _ _=>rfl)))))))
 (zan (zbd (pv 2)))))),
 (zas (zbu zae)
 (zas (zbu (SemB.i (zbw (zab 0) (zab 1))))
 (zas (zj8 (za2 (SemI.b (zcu (neg:=true) (zab 3) (SemI.b (zf2 (SemI.b zae))))))
 (zas (ss_aug (SemI.b zae))
 (zas (zci (za2 (SemI.b (zg2 (zab 2) (SemI.b (zbe (zab 0))))))
 zfm
 zbb)
 (zbu (SemB.i (zbw (zab 0) (zab 3)))))))
 (zbi (zam 2)))))⟩
theorem okX_levels (T:Txt K mg ad):FnOk P w K mg base (CXE P w) 2 ad.f_levels ad.d_levels ["behind"] (spX K [false] ad.c_NoOrder zht):=by
  rw [X_levels_def]
  exact Fun.okX (N:=["behind", "later"]) T.F_levels sc_levels [false] rfl zhv fun cdv A outer s H E hr=>⟨_,
 (zaj (zdp PassesOwn.leaving rfl (zbv (K:=K) rfl (pv 0)) (zb5 (i:=1) sc_levels.nd rfl (Or.inl rfl))
 (zan (zcl (zeg (zfn zg4 zil (zik zf1 zaf) (pv 1) (zar (zau (K:=K) rfl) rfl T.z_len zbg (zaa (pv 0) zac))))
 (zan (ziq (E:=E) (C:=ad.c_NoOrder) (fun _ _ h=>h) ⟨rfl,rfl,rfl⟩ rfl PySem.F.excBase_ValueError rfl T.m_NoOrder T.q_NoOrder (zaa (zlc (PParts.text (by decide) (PParts.val (pv 1) PParts.nil))) zac)))
 zbc)))
 (zan (zbd (pe_cX (E:=E) (fun _ _ h=>h) ⟨rfl,rfl,rfl⟩ rfl (zbq rfl T.z_range (zaa (zar (zau (K:=K) rfl) rfl T.z_len zbg (zaa (pv 0) zac)) zac)) (ts:=["work"]) (zs:=["behind"]) (k:=1) (is:=[0]) rfl (.cons rfl .nil) (.cons rfl (Or.inl rfl) rfl (by first | exact Or.inl rfl | exact Or.inr rfl) .nil) rfl (zbm (by decide)) (fun _ _ _ _ _ _=>(pgbX (by decide +kernel) rfl rfl)) (fun _ _ _ _ _ _ px=>(pe_or2 (zaw (ok_level_of T) (hr.mono (by decide)) rfl T.m_level_of T.F_level_of.kp T.b_level_of .nil zbk (zaa (pv 1) (zaa (pv 0) zac))) (zaw (okX_level_of T) (hr.mono (by decide)) rfl T.m_level_of T.F_level_of.kp T.b_level_of .nil px (zaa (pv 1) (zaa (pv 0) zac))))) rfl (by decide +kernel) rfl (by decide +kernel))))),
 (zas (zdo (m:=false) (zgj (zjs 0)) (za5 1)
 (zci (zef (za2 (SemI.b (zev (p:=fun i j=>decide (i≤j)) (q:=fun i j=>decide (i<j)) (SemI.b (zf2 (SemI.b zae))) (zab 1) (SemI.b (zbe (zab 0)))))))
 (zi2 (SemJ.cons (zab 1) SemJ.nil))
 zbb))
 (ss_xcomp (m:=true) (k:=1) (cs:=[0]) (SemW.c (zbp (SemI.b (zbe (zab 0))))) (za5 0) (zaz (zal (zab 1) (zal (zab 0) zai))) (zal (zab 1) (zal (zab 0) zai))))⟩
theorem ok_levels (T:Txt K mg ad):FnOk P w K mg base CX0 2 ad.f_levels ad.d_levels ["behind"] (spD .v K [false] F_levels):=by
  rw [F_levels_def]
  exact Fun.okD (N:=["behind", "later"]) T.F_levels sc_levels [false] rfl ziv fun cdv A outer s H E hr=>⟨_,
 (zaj (zdp PassesOwn.never rfl (zbv (K:=K) rfl (pv 0)) (zb5 (i:=1) sc_levels.nd rfl (Or.inl rfl))
 (zan (zcl (zeg (zfn zg4 zil (zik zf1 zaf) (pv 1) (zar (zau (K:=K) rfl) rfl T.z_len zbg (zaa (pv 0) zac))))
 (zan zfo)
 zbc)))
 (zan (zbd (zey rfl (zbq rfl T.z_range (zaa (zar (zau (K:=K) rfl) rfl T.z_len zbg (zaa (pv 0) zac)) zac)) (ts:=["work"]) (zs:=["behind"]) (k:=1) (is:=[0]) rfl (.cons rfl .nil) (.cons rfl (Or.inl rfl) rfl (by first | exact Or.inl rfl | exact Or.inr rfl) .nil) rfl (zbm (by decide)) (fun _ _ _ _ _=>(pgb (by decide +kernel) rfl rfl)) (fun _ _ _ _ _=>(zaw (ok_level_of T) (hr.mono (by decide)) rfl T.m_level_of T.F_level_of.kp T.b_level_of .nil zbk (zaa (pv 1) (zaa (pv 0) zac)))) rfl (by decide +kernel) rfl (by decide +kernel))))),
 (zas (zdo (m:=false) (zgj (zjs 0)) (za5 1)
 (zci (zef (za2 (SemI.b (zev (p:=fun i j=>decide (i≤j)) (q:=fun i j=>decide (i<j)) (SemI.b (zf2 (SemI.b zae))) (zab 1) (SemI.b (zbe (zab 0)))))))
 zfm
 zbb))
 (zbi (SemF.l (zcc (m:=true) (k:=1) (cs:=[0]) (SemW.c (zbp (SemI.b (zbe (zab 0))))) (za5 0) zch (zaz (zal (zab 1) (zal (zab 0) zai)))))))⟩
theorem ok_Alike_fits (T:Txt K mg ad):FnOk P w K mg base CX0 2 ad.f_Alike_fits ad.d_Alike_fits ["self", "rows"] (spD .v K [false,true] F_Alike_fits):=by
  rw [F_Alike_fits_def]
  exact Fun.okD (N:=["self", "rows"]) T.F_Alike_fits sc_Alike_fits [false,true] rfl ze8 fun cdv A outer s H E hr=>⟨_,
 (zaj (zcl (PW.pt (zf8 (za4 (zha (K:=K) hr.units) (zar (zau (K:=K) rfl) rfl T.z_len zbg (zaa (pv 1) zac)) zaf (za3 _)) (zgc (zeg (zb8 (K:=K) rfl (zaw (zez T) (hr.mono (by decide)) rfl T.m_tells_one T.F_tells_one.kp T.b_tells_one .nil zbk (zaa (zbj (zax (K:=K) rfl) (pv 1) zaf (fun _ _=>rfl)) (zaa zaf (zaa zaf zac)))) (fun _=>rfl))))))
 (zan (zbd zec))
 zbc)
 (zan (zbd (zer (zb6 zg4 (zar (zau (K:=K) rfl) rfl T.z_len zbg (zaa (zbj (zax (K:=K) rfl) (pv 1) zaf (fun _ _=>rfl)) zac)) zaf (za3 _)) (zhm (zaw (zeh T) (hr.mono (by decide)) rfl T.m_none_below T.F_none_below.kp T.b_none_below .nil zbk (zaa (zbj (zax (K:=K) rfl) (pv 1) zaf (fun _ _=>rfl)) (zaa zaf zac)))))))),
 (zas (zci (zf4 (za2 (SemI.b (zcu (neg:=true) (SemI.b (zbe (zab 1))) (SemI.b zae)))) (zef (zee (K:=K) (SemI.b (zaz (zal (zbw (zab 1) (SemI.b zae)) (zal (SemI.b zae) (zal (SemI.b zae) zai))))))))
 (zbi zep)
 zbb)
 (zbi (zde (SemI.b (zl4 (SemI.b (zbe (zbw (zab 1) (SemI.b zae)))) (SemI.b zae))) (zaz (zal (zbw (zab 1) (SemI.b zae)) (zal (SemI.b zae) zai))))))⟩
theorem ok_Open_fits (T:Txt K mg ad):FnOk P w K mg base CX0 2 ad.f_Open_fits ad.d_Open_fits ["self", "rows"] (spD .v K [false,true] F_Open_fits):=by
  rw [F_Open_fits_def]
  exact Fun.okD (N:=["self", "rows"]) T.F_Open_fits sc_Open_fits [false,true] rfl zfy fun cdv A outer s H E hr=>⟨_,
 (zaj (zcl (za4 zg5 (zar (zau (K:=K) rfl) rfl T.z_len zbg (zaa (pv 1) zac)) zaf (za3 _))
 (zan (zbd zec))
 zbc)
 (zan (zbd (zar (zgi (K:=K) rfl rfl) rfl T.z_all zk0 (zaa (zey rfl (zbv (K:=K) rfl (pv 1)) (ts:=["row"]) (zs:=["rows"]) (k:=1) (is:=[1]) rfl (.cons rfl .nil) (.cons rfl (Or.inl rfl) rfl (by first | exact Or.inl rfl | exact Or.inr rfl) .nil) rfl (zbm (by decide)) (fun _ _ _ _ _=>(pgb (by decide +kernel) rfl rfl)) (fun _ _ _ _ _=>(zer (zb6 (zce (K:=K) hr.units) (zar (zau (K:=K) rfl) rfl T.z_len zbg (zaa (pv 0) zac)) (zar (zau (K:=K) rfl) rfl T.z_len zbg (zaa (zbj (zax (K:=K) rfl) (pv 1) zaf (fun _ _=>rfl)) zac)) (za3 _)) (zer (zb6 zg4 (zar (zau (K:=K) rfl) rfl T.z_len zbg (zaa (pv 0) zac)) zaf (za3 _)) (zhm (zaw (zeh T) (hr.mono (by decide)) rfl T.m_none_below T.F_none_below.kp T.b_none_below .nil zbk (zaa (pv 0) (zaa zaf zac))))))) rfl (by decide +kernel) rfl (by decide +kernel)) zac))))),
 (zas (zci (za2 (SemI.b (zg2 (SemI.b (zbe (zab 1))) (SemI.b zae))))
 (zbi zep)
 zbb)
 (zbi (zkn (SemI.b (SemF.l (zcc (m:=true) (k:=1) (cs:=[1]) (SemW.c (zdx (zam 1))) (za5 0) zch (zde (SemI.b (zcu (neg:=false) (SemI.b (zbe (zab 0))) (SemI.b (zbe (zbw (zab 1) (SemI.b zae)))))) (zde (SemI.b (zl4 (SemI.b (zbe (zab 0))) (SemI.b zae))) (zaz (zal (zab 0) (zal (SemI.b zae) zai)))))))))))⟩
theorem ok_Tails_fits (T:Txt K mg ad):FnOk P w K mg base CX0 2 ad.f_Tails_fits ad.d_Tails_fits ["self", "rows"] (spD .v K [false,true] F_Tails_fits):=by
  rw [F_Tails_fits_def]
  exact Fun.okD (N:=["self", "rows"]) T.F_Tails_fits sc_Tails_fits [false,true] rfl ze6 fun cdv A outer s H E hr=>⟨_,
 (zan (zbd (zer (zb6 zg4 (zar (zau (K:=K) rfl) rfl T.z_len zbg (zaa (pv 1) zac)) zaf (za3 _)) (zhm (zar (zgi (K:=K) rfl rfl) rfl T.z_all zk0 (zaa (zey rfl (zbv (K:=K) rfl (pv 1)) (ts:=["row"]) (zs:=[]) (k:=1) (is:=[]) rfl .nil .nil rfl (zbm (by decide)) (fun _ _ _ _ _=>(pgb (by decide +kernel) rfl rfl)) (fun _ _ _ _ _=>(zer (zb6 (zce (K:=K) hr.units) (zar (zau (K:=K) rfl) rfl T.z_len zbg (zaa (pv 0) zac)) zaf (za3 _)) (zer (zaw (zeh T) (hr.mono (by decide)) rfl T.m_none_below T.F_none_below.kp T.b_none_below .nil zbk (zaa (pv 0) (zaa zaf zac))) (zhm (zb6 zkq (zbj (zax (K:=K) rfl) (pv 0) zaf (fun _ _=>rfl)) zaf (za3 _)))))) rfl (by decide +kernel) rfl (by decide +kernel)) zac)))))),
 (zbi (zde (SemI.b (zl4 (SemI.b (zbe (zab 1))) (SemI.b zae))) (zkn (SemI.b (SemF.l (zcc (m:=true) (k:=1) (cs:=[]) (SemW.c (zdx (zam 1))) (za5 0) zch (zde (SemI.b (zcu (neg:=false) (SemI.b (zbe (zab 0))) (SemI.b zae))) (zde (SemI.b (zaz (zal (zab 0) (zal (SemI.b zae) zai)))) (zkm (zbw (zab 0) (SemI.b zae)) (SemI.b zae))))))))))⟩
theorem ok_Windows_fits (T:Txt K mg ad):FnOk P w K mg base CX0 2 ad.f_Windows_fits ad.d_Windows_fits ["self", "rows"] (spD .v K [false,true] F_Windows_fits):=by
  rw [F_Windows_fits_def]
  exact Fun.okD (N:=["self", "rows"]) T.F_Windows_fits sc_Windows_fits [false,true] rfl zd7 fun cdv A outer s H E hr=>⟨_,
 (zaj (zcl (PW.pt (zf8 (zeg (zfn zg4 zg4 zaf (zar (zau (K:=K) rfl) rfl T.z_len zbg (zaa (pv 1) zac)) zaf)) (zgc (zeg (zb8 (K:=K) rfl (zaw (zez T) (hr.mono (by decide)) rfl T.m_tells_one T.F_tells_one.kp T.b_tells_one .nil zbk (zaa (zbj (zax (K:=K) rfl) (pv 1) zaf (fun _ _=>rfl)) (zaa zaf (zaa zaf zac)))) (fun _=>rfl))))))
 (zan (zbd zec))
 zbc)
 (zan (zbd (zar (zgi (K:=K) rfl rfl) rfl T.z_all zk0 (zaa (zey rfl (zbv (K:=K) rfl (zb4 (zb3 (K:=K) rfl) (pv 1) (zcm zaf) zcn)) (ts:=["row"]) (zs:=[]) (k:=1) (is:=[]) rfl .nil .nil rfl (zbm (by decide)) (fun _ _ _ _ _=>(pgb (by decide +kernel) rfl rfl)) (fun _ _ _ _ _=>(zer (zb6 (zce (K:=K) hr.units) (zar (zau (K:=K) rfl) rfl T.z_len zbg (zaa (pv 0) zac)) zaf (za3 _)) (zer (zaw (zeh T) (hr.mono (by decide)) rfl T.m_none_below T.F_none_below.kp T.b_none_below .nil zbk (zaa (pv 0) (zaa zaf zac))) (zhm (zb6 zg4 (zbj (zax (K:=K) rfl) (pv 0) zaf (fun _ _=>rfl)) (zbj (zax (K:=K) rfl) (pv 0) zaf (fun _ _=>rfl)) (za3 _)))))) rfl (by decide +kernel) rfl (by decide +kernel)) zac))))),
 (zas (zci (zf4 (zef (za2 (SemI.b (zev (p:=fun i j=>decide (i≤j)) (q:=fun i j=>decide (i≤j)) (SemI.b zae) (SemI.b (zbe (zab 1))) (SemI.b zae))))) (zef (zee (K:=K) (SemI.b (zaz (zal (zbw (zab 1) (SemI.b zae)) (zal (SemI.b zae) (zal (SemI.b zae) zai))))))))
 (zbi zep)
 zbb)
 (zbi (zkn (SemI.b (SemF.l (zcc (m:=true) (k:=1) (cs:=[]) (SemW.c (zdx (SemF.l (zfb (zam 1) (zcj (SemI.b zae)) zck)))) (za5 0) zch (zde (SemI.b (zcu (neg:=false) (SemI.b (zbe (zab 0))) (SemI.b zae))) (zde (SemI.b (zaz (zal (zab 0) (zal (SemI.b zae) zai)))) (zl4 (zbw (zab 0) (SemI.b zae)) (zbw (zab 0) (SemI.b zae)))))))))))⟩
theorem ok_Tree_fits (T:Txt K mg ad):FnOk P w K mg base CX0 3 ad.f_Tree_fits ad.d_Tree_fits ["self", "rows"] (spD .v K [false,true] F_Tree_fits):=by
  rw [F_Tree_fits_def]
  exact Fun.okD (N:=["self", "rows"]) T.F_Tree_fits sc_Tree_fits [false,true] rfl zfx fun cdv A outer s H E hr=>⟨_,
 (zaj (zcl (PW.pt (zf8 (za4 (zha (K:=K) hr.units) (zar (zau (K:=K) rfl) rfl T.z_len zbg (zaa (pv 1) zac)) zaf (za3 _)) (zf8 (zeg (zb8 (K:=K) rfl (zaw (zez T) (hr.mono (by decide)) rfl T.m_tells_one T.F_tells_one.kp T.b_tells_one .nil zbk (zaa (zbj (zax (K:=K) rfl) (pv 1) zaf (fun _ _=>rfl)) (zaa zaf (zaa zaf zac)))) (fun _=>rfl))) (zgc (za4 zg5 (zar (zau (K:=K) rfl) rfl T.z_len zbg (zaa (zbj (zax (K:=K) rfl) (pv 1) zaf (fun _ _=>rfl)) zac)) zaf (za3 _))))))
 (zan (zbd zec))
 zbc)
 (zaj (zm7 (ps_tryX ⟨rfl,rfl,rfl⟩ (okX_levels T) (hr.mono (by decide)) rfl T.m_levels T.F_levels.kp T.b_levels (fun _=>(zaa (zbj (zax (K:=K) rfl) (pv 1) zaf (fun _ _=>rfl)) zac)) rfl T.m_NoOrder (fun _ _=>(zan (zbd zec)))) (ps_tryN (fun _=>(zaw (ok_levels T) (hr.mono (by decide)) rfl T.m_levels T.F_levels.kp T.b_levels .nil zbk (zaa (zbj (zax (K:=K) rfl) (pv 1) zaf (fun _ _=>rfl)) zac)))))
 (zan (zbd zec)))),
 (zas (zci (zf4 (za2 (SemI.b (zcu (neg:=true) (SemI.b (zbe (zab 1))) (SemI.b zae)))) (zf4 (zef (zee (K:=K) (SemI.b (zaz (zal (zbw (zab 1) (SemI.b zae)) (zal (SemI.b zae) (zal (SemI.b zae) zai))))))) (za2 (SemI.b (zg2 (SemI.b (zbe (zbw (zab 1) (SemI.b zae)))) (SemI.b zae))))))
 (zbi zep)
 zbb)
 (zas (ss_tryD (zal (zbw (zab 1) (SemI.b zae)) zai) T.x_NoOrder_NoOrder (SemI.b (zaz (zal (zbw (zab 1) (SemI.b zae)) zai))) gLvN gLvX)
 (zbi zep)))⟩
theorem ok_Pairs_fits (T:Txt K mg ad):FnOk P w K mg base CX0 3 ad.f_Pairs_fits ad.d_Pairs_fits ["self", "rows"] (spD .v K [false,true] F_Pairs_fits):=by
  rw [F_Pairs_fits_def]
  exact Fun.okD (N:=["self", "rows"]) T.F_Pairs_fits sc_Pairs_fits [false,true] rfl ze7 fun cdv A outer s H E hr=>⟨_,
 (zaj (zcl (PW.pt (zf8 (zeg (zb8 (K:=K) rfl (pv 1) (fun _=>rfl))) (zf8 (zeg (zb8 (K:=K) rfl (zaw (zez T) (hr.mono (by decide)) rfl T.m_tells_one T.F_tells_one.kp T.b_tells_one .nil zbk (zaa (zbj (zax (K:=K) rfl) (pv 1) zaf (fun _ _=>rfl)) (zaa zaf (zaa zaf zac)))) (fun _=>rfl))) (zgc (zeg (zb8 (K:=K) rfl (zar (zgi (K:=K) rfl rfl) rfl T.z_all zk0 (zaa (zey rfl (zbv (K:=K) rfl (zb4 (zb3 (K:=K) rfl) (pv 1) (zcm zaf) zcn)) (ts:=["row"]) (zs:=[]) (k:=1) (is:=[]) rfl .nil .nil rfl (zbm (by decide)) (fun _ _ _ _ _=>(pgb (by decide +kernel) rfl rfl)) (fun _ _ _ _ _=>(zb6 (zce (K:=K) hr.units) (zar (zau (K:=K) rfl) rfl T.z_len zbg (zaa (pv 0) zac)) zaf (za3 _))) rfl (by decide +kernel) rfl (by decide +kernel)) zac)) (fun _=>rfl)))))))
 (zan (zbd zec))
 zbc)
 (zaj (zm7 (ps_tryX ⟨rfl,rfl,rfl⟩ (okX_ahead_of T) (hr.mono (by decide)) rfl T.m_ahead_of T.F_ahead_of.kp T.b_ahead_of (fun _=>(zaa (zbj (zax (K:=K) rfl) (zbj (zax (K:=K) rfl) (pv 1) zaf (fun _ _=>rfl)) zaf (fun _ _=>rfl)) (zaa (zb4 (zb3 (K:=K) rfl) (pv 1) (zcm zaf) zcn) zac))) rfl T.m_NoOrder (fun _ _=>(zan (zbd zec)))) (ps_tryN (fun _=>(zaw (ok_ahead_of T) (hr.mono (by decide)) rfl T.m_ahead_of T.F_ahead_of.kp T.b_ahead_of .nil zbk (zaa (zbj (zax (K:=K) rfl) (zbj (zax (K:=K) rfl) (pv 1) zaf (fun _ _=>rfl)) zaf (fun _ _=>rfl)) (zaa (zb4 (zb3 (K:=K) rfl) (pv 1) (zcm zaf) zcn) zac))))))
 (zan (zbd zec)))),
 (zas (zci (zf4 (zef (zee (K:=K) (zab 1))) (zf4 (zef (zee (K:=K) (SemI.b (zaz (zal (zbw (zab 1) (SemI.b zae)) (zal (SemI.b zae) (zal (SemI.b zae) zai))))))) (zef (zee (K:=K) (SemI.b (zkn (SemI.b (SemF.l (zcc (m:=true) (k:=1) (cs:=[]) (SemW.c (zdx (SemF.l (zfb (zam 1) (zcj (SemI.b zae)) zck)))) (za5 0) zch (zcu (neg:=false) (SemI.b (zbe (zab 0))) (SemI.b zae)))))))))))
 (zbi zep)
 zbb)
 (zas (ss_tryD (zal (zbw (zbw (zab 1) (SemI.b zae)) (SemI.b zae)) (zal (SemI.b (SemF.l (zfb (zam 1) (zcj (SemI.b zae)) zck))) zai)) T.x_NoOrder_NoOrder (SemI.b (zaz (zal (zbw (zbw (zab 1) (SemI.b zae)) (SemI.b zae)) (zal (SemI.b (SemF.l (zfb (zam 1) (zcj (SemI.b zae)) zck))) zai)))) gAhN gAhX)
 (zbi zep)))⟩
theorem ok_kinds (T:Txt K mg ad):FnOk P w K mg base CX0 1 ad.f_kinds ad.d_kinds [] (spD .l K [] F_kinds):=by
  rw [F_kinds_def]
  exact Fun.okF (N:=[]) T.F_kinds sc_kinds [] rfl zkl fun cdv A outer s H E hr=>⟨_,
 (zan (zbd (zaq (zaa (zgu T.mk_Alike rfl T.m_Alike) (zaa (zgu T.mk_Open rfl T.m_Open) (zaa (zgu T.mk_Tails rfl T.m_Tails) (zaa (zgu T.mk_Windows rfl T.m_Windows) (zaa (zgu T.mk_Tree rfl T.m_Tree) (zaa (zgu T.mk_Pairs rfl T.m_Pairs) zac))))))))),
 (ss_retF (zap (n:=6) (zah zhw (zah zhw (zah zhw (zah zhw (zah zhw (zah zhw zai)))))) (by decide)))⟩
theorem zca (T:Txt K mg ad):FnOk P w K mg base CX0 1 ad.f_l_mix ad.d_l_mix ["_law_number", "_law_k"] (spD .v K [false,false] F_l_mix):=by
  rw [F_l_mix_def]
  exact Fun.okD (N:=["_law_number", "_law_k"]) T.F_l_mix sc_l_mix [false,false] rfl zkk fun cdv A outer s H E hr=>⟨_,
 (zan (zbd (za1 zc4 (za1 zh1 (za1 zcr (za1 zcr (za1 zh1 (pv 0) (pv 0)) (za1 zh1 (pv 1) (pv 0))) (za1 zh1 (za1 zh1 zaf (pv 1)) (pv 1))) zaf) zaf))),
 (zbi (zc3 (SemI.b (zju (SemI.b (zcp (SemI.b (zcp (SemI.b (zju (zab 0) (zab 0))) (SemI.b (zju (zab 1) (zab 0))))) (SemI.b (zju (SemI.b (zju (SemI.b zae) (zab 1))) (zab 1))))) (SemI.b zae))) (SemI.b zae)))⟩
theorem zfe (T:Txt K mg ad):FnOk P w K mg base CX0 2 ad.f_l_many ad.d_l_many ["_law_cell", "_law_most"] (spD .v K [false,false] F_l_many):=by
  rw [F_l_many_def]
  exact Fun.okD (N:=["_law_cell", "_law_most"]) T.F_l_many sc_l_many [false,false] rfl ziw fun cdv A outer s H E hr=>⟨_,
 (zan (zbd (zbj (zax (K:=K) rfl) (zaq (zaa (za1 zc4 (zaw (zca T) (hr.mono (by decide)) rfl T.m_l_mix T.F_l_mix.kp T.b_l_mix .nil zbk (zaa (pv 0) (zaa zaf zac))) (za1 zcr (pv 1) zaf)) (zaa (pv 1) (zaa (za1 zcr zaf (za1 zc4 (zaw (zca T) (hr.mono (by decide)) rfl T.m_l_mix T.F_l_mix.kp T.b_l_mix .nil zbk (zaa (pv 0) (zaa zaf zac))) (za1 zhn (pv 1) zaf))) zac)))) (za1 zc4 (zaw (zca T) (hr.mono (by decide)) rfl T.m_l_mix T.F_l_mix.kp T.b_l_mix .nil zbk (zaa (pv 0) (zaa zaf zac))) zaf) (fun _ _=>rfl)))),
 (zbi (zij (SemF.l (zap (n:=3) (zah (zc3 (SemI.b (zaz (zal (zab 0) (zal (SemI.b zae) zai)))) (SemI.b (zcp (zab 1) (SemI.b zae)))) (zah (SemB.i (zab 1)) (zah (zcp (SemI.b zae) (SemI.b (zc3 (SemI.b (zaz (zal (zab 0) (zal (SemI.b zae) zai)))) (SemI.b (zhl (zab 1) (SemI.b zae)))))) zai))) (by decide))) (SemI.b (zc3 (SemI.b (zaz (zal (zab 0) (zal (SemI.b zae) zai)))) (SemI.b zae)))))⟩
theorem zd9 (T:Txt K mg ad):FnOk P w K mg base CX0 2 ad.f_l_hour ad.d_l_hour ["_law_cell", "_law_k"] (spD .v K [false,false] F_l_hour):=by
  rw [F_l_hour_def]
  exact Fun.okD (N:=["_law_cell", "_law_k"]) T.F_l_hour sc_l_hour [false,false] rfl zix fun cdv A outer s H E hr=>⟨_,
 (zan (zbd (zbj (zax (K:=K) rfl) (zaq (zaa (za1 zc4 (zaw (zca T) (hr.mono (by decide)) rfl T.m_l_mix T.F_l_mix.kp T.b_l_mix .nil zbk (zaa (za1 zcr (pv 0) (za1 zh1 (pv 1) (pv 1))) (zaa zaf zac))) zaf) (zaa (za1 zc4 (za1 zcr (za1 op_fdivB (pv 0) zaf) (pv 1)) (za1 op_pow zaf zaf)) zac))) (za1 zc4 (zaw (zca T) (hr.mono (by decide)) rfl T.m_l_mix T.F_l_mix.kp T.b_l_mix .nil zbk (zaa (pv 0) (zaa zaf zac))) zaf) (fun _ _=>rfl)))),
 (zbi (zij (SemF.l (zap (n:=2) (zah (zc3 (SemI.b (zaz (zal (SemI.b (zcp (zab 0) (SemI.b (zju (zab 1) (zab 1))))) (zal (SemI.b zae) zai)))) (SemI.b zae)) (zah (zc3 (SemI.b (zcp (SemI.b (si_fdiv (zab 0) (SemI.b zae))) (zab 1))) (SemI.b (si_pow (SemI.b zae) (SemI.b zae)))) zai)) (by decide))) (SemI.b (zc3 (SemI.b (zaz (zal (zab 0) (zal (SemI.b zae) zai)))) (SemI.b zae)))))⟩
theorem ok_l_good (T:Txt K mg ad):FnOk P w K mg base CX0 3 ad.f_l_good ad.d_l_good ["_law_at", "_law_cell"] (spD .v K [false,false] F_l_good):=by
  rw [F_l_good_def]
  exact Fun.okD (N:=["_law_at", "_law_cell", "_law_wide", "_law_many_here", "_law_rows", "_law_k", "_law_come", "_law_behind", "_law_one"]) T.F_l_good sc_l_good [false,false] rfl zej fun cdv A outer s H E hr=>⟨_,
 (zaj (zcl (za4 (zce (K:=K) hr.units) (pv 0) zaf (za3 _))
 (zan (zbd (zaq (zaa (zaq (zaa (za1 zcr zaf (za1 zc4 (zaw (zca T) (hr.mono (by decide)) rfl T.m_l_mix T.F_l_mix.kp T.b_l_mix .nil zbk (zaa (pv 1) (zaa zaf zac))) zaf)) zac)) (zaa (zey rfl (zbq rfl T.z_range (zaa (zaw (zfe T) (hr.mono (by decide)) rfl T.m_l_many T.F_l_many.kp T.b_l_many .nil zbk (zaa (pv 1) (zaa zaf zac))) zac)) (ts:=["_law_k"]) (zs:=["_law_cell"]) (k:=1) (is:=[1]) rfl (.cons rfl .nil) (.cons rfl (Or.inl rfl) rfl (by first | exact Or.inl rfl | exact Or.inr rfl) .nil) rfl (zbm (by decide)) (fun _ _ _ _ _=>(pgb (by decide +kernel) rfl rfl)) (fun _ _ _ _ _=>(zaw (zd9 T) (hr.mono (by decide)) rfl T.m_l_hour T.F_l_hour.kp T.b_l_hour .nil zbk (zaa (pv 1) (zaa (pv 0) zac)))) rfl (by decide +kernel) rfl (by decide +kernel)) zac)))))
 zbc)
 (zaj (zcl (za4 (zce (K:=K) hr.units) (pv 0) zaf (za3 _))
 (zaj (zbf (i:=2) sc_l_good.nd rfl (Or.inr rfl) (za1 zc4 (zaw (zca T) (hr.mono (by decide)) rfl T.m_l_mix T.F_l_mix.kp T.b_l_mix .nil zbk (zaa (pv 1) (zaa zaf zac))) zaf))
 (zan (zbd (pe_cM0 rfl (zbq rfl T.z_range (zaa (zaw (zfe T) (hr.mono (by decide)) rfl T.m_l_many T.F_l_many.kp T.b_l_many .nil zbk (zaa (pv 1) (zaa zaf zac))) zac)) (ts:=["_law_j"]) (zs:=["_law_wide", "_law_cell"]) (k:=1) (is:=[2,1]) rfl (.cons rfl (.cons rfl .nil)) (.cons rfl (Or.inl rfl) rfl (by first | exact Or.inl rfl | exact Or.inr rfl) (.cons rfl (Or.inl rfl) rfl (by first | exact Or.inl rfl | exact Or.inr rfl) .nil)) rfl rfl rfl (zbm (by decide)) (fun _ _ _ _ _=>(pgbC (i:=0) (by decide +kernel) rfl (Or.inr rfl) (Or.inl rfl))) (fun _ _ _ _ _=>(zey rfl (zbq rfl T.z_range (zaa (pv 1) zac)) (ts:=["_law_k"]) (zs:=["_law_cell", "_law_j"]) (k:=1) (is:=[2,0]) rfl (.cons rfl (.cons rfl .nil)) (.cons rfl (by first | exact Or.inl rfl | exact Or.inr rfl) rfl (by first | exact Or.inl rfl | exact Or.inr rfl) (.cons rfl (by first | exact Or.inl rfl | exact Or.inr rfl) rfl (by first | exact Or.inl rfl | exact Or.inr rfl) .nil)) rfl (zbm (by decide)) (fun _ _ _ _ _=>(pgb (by decide +kernel) rfl rfl)) (fun _ _ _ _ _=>(zaw (zd9 T) (hr.mono (by decide)) rfl T.m_l_hour T.F_l_hour.kp T.b_l_hour .nil zbk (zaa (za1 zcr (pv 1) (pv 2)) (zaa (pv 0) zac)))) rfl (by decide +kernel) rfl (by decide +kernel))) rfl rfl (by decide +kernel)))))
 zbc)
 (zaj (zcl (za4 (zce (K:=K) hr.units) (pv 0) zaf (za3 _))
 (zaj (zbf (i:=3) sc_l_good.nd rfl (Or.inl rfl) (zaw (zfe T) (hr.mono (by decide)) rfl T.m_l_many T.F_l_many.kp T.b_l_many .nil zbk (zaa (pv 1) (zaa zaf zac))))
 (zan (zbd (zey rfl (zbq rfl T.z_range (zaa (pv 3) zac)) (ts:=["_law_k"]) (zs:=["_law_cell"]) (k:=1) (is:=[1]) rfl (.cons rfl .nil) (.cons rfl (Or.inl rfl) rfl (by first | exact Or.inl rfl | exact Or.inr rfl) .nil) rfl (zbm (by decide)) (fun _ _ _ _ _=>(pgb (by decide +kernel) rfl rfl)) (fun _ _ _ _ _=>(zaq (zaa (zaw (zd9 T) (hr.mono (by decide)) rfl T.m_l_hour T.F_l_hour.kp T.b_l_hour .nil zbk (zaa (pv 1) (zaa (pv 0) zac))) (zaa (za1 zcr zaf (zaw (zd9 T) (hr.mono (by decide)) rfl T.m_l_hour T.F_l_hour.kp T.b_l_hour .nil zbk (zaa (pv 1) (zaa (za1 zcr (pv 0) zaf) zac)))) (zaa (zaw (zd9 T) (hr.mono (by decide)) rfl T.m_l_hour T.F_l_hour.kp T.b_l_hour .nil zbk (zaa (pv 1) (zaa (za1 zcr (pv 0) zaf) zac))) zac))))) rfl (by decide +kernel) rfl (by decide +kernel)))))
 zbc)
 (zaj (zcl (za4 (zce (K:=K) hr.units) (pv 0) zaf (za3 _))
 (zaj (zbf (i:=4) sc_l_good.nd rfl (Or.inl rfl) (zaq (zaa (zaq (zaa (za1 zcr zaf (za1 zc4 (zaw (zca T) (hr.mono (by decide)) rfl T.m_l_mix T.F_l_mix.kp T.b_l_mix .nil zbk (zaa (pv 1) (zaa zaf zac))) zaf)) zac)) zac)))
 (zaj (zdp PassesOwn.never rfl (zbq rfl T.z_range (zaa (zaw (zfe T) (hr.mono (by decide)) rfl T.m_l_many T.F_l_many.kp T.b_l_many .nil zbk (zaa (pv 1) (zaa zaf zac))) zac)) (zb5 (i:=5) sc_l_good.nd rfl (Or.inl rfl))
 (zaj (zbf (i:=6) sc_l_good.nd rfl (Or.inl rfl) (zaw (zd9 T) (hr.mono (by decide)) rfl T.m_l_hour T.F_l_hour.kp T.b_l_hour .nil zbk (zaa (pv 1) (zaa (pv 5) zac))))
 (zan (zdc (zg3 PySem.F.plainAttrs_list PySem.F.slot_list_append PySem.F.type_list_append zbz (pv 4) (zaa (zaq (zaa (pv 6) (zaa (za1 zcr (pv 6) (zaw (zd9 T) (hr.mono (by decide)) rfl T.m_l_hour T.F_l_hour.kp T.b_l_hour .nil zbk (zaa (pv 1) (zaa (za1 zcr (pv 5) zaf) zac)))) (zaa (zaw (zd9 T) (hr.mono (by decide)) rfl T.m_l_hour T.F_l_hour.kp T.b_l_hour .nil zbk (zaa (pv 1) (zaa (za1 zcr (pv 5) zaf) zac))) zac)))) zac))))))
 (zan (zbd (pv 4)))))
 zbc)
 (zaj (zcl (za4 (zce (K:=K) hr.units) (pv 0) zaf (za3 _))
 (zaj (zbf (i:=7) sc_l_good.nd rfl (Or.inl rfl) (zaq zac))
 (zaj (zdp PassesOwn.never rfl (zbq rfl T.z_range (zaa (zaw (zfe T) (hr.mono (by decide)) rfl T.m_l_many T.F_l_many.kp T.b_l_many .nil zbk (zaa (pv 1) (zaa zaf zac))) zac)) (zb5 (i:=5) sc_l_good.nd rfl (Or.inl rfl))
 (zaj (zdc (zg3 PySem.F.plainAttrs_list PySem.F.slot_list_insert PySem.F.type_list_insert mt_insert (pv 7) (zaa zaf (zaa (zik zf1 zaf) zac))))
 (zaj (zkp (i:=7) sc_l_good.nd rfl rfl rfl (zbv (K:=K) rfl (pv 7)) (ts:=["_law_one"]) (zs:=[]) (k:=1) (is:=[]) rfl .nil .nil rfl (zbm (by decide)) (fun _ _ _ _ _=>(pgb (by decide +kernel) rfl rfl)) (fun _ _ _ _ _=>(za1 zcr (pv 0) (zfd zhs rfl T.z_int zl0 (zaa (zb6 zkq (pv 0) zaf (za3 _)) zac)))) rfl (by decide +kernel) rfl (by decide +kernel))
 (zan (zcl (PW.pt (zic (za4 zg5 (pv 5) zaf (za3 _)) (zgd (za4 zg5 (za1 zc4 (zaw (zca T) (hr.mono (by decide)) rfl T.m_l_mix T.F_l_mix.kp T.b_l_mix .nil zbk (zaa (za1 zcr (pv 1) (pv 5)) (zaa zaf zac))) zaf) zaf (za3 _)))))
 (zan (zjv (za1 zcr zaf (za1 zc4 (zaw (zca T) (hr.mono (by decide)) rfl T.m_l_mix T.F_l_mix.kp T.b_l_mix .nil zbk (zaa (za1 zcr (pv 1) (pv 5)) (zaa zaf zac))) (pv 5))) (zjw (pv 7) zaf zgm)))
 zbc)))))
 (zan (zbd (zaq (zaa (zaq (zaa (za1 zcr zaf (za1 zc4 (zaw (zca T) (hr.mono (by decide)) rfl T.m_l_mix T.F_l_mix.kp T.b_l_mix .nil zbk (zaa (pv 1) (zaa zaf zac))) zaf)) zac)) (zaa (pv 7) zac)))))))
 zbc)
 (zaj (zbf (i:=3) sc_l_good.nd rfl (Or.inl rfl) (zaw (zfe T) (hr.mono (by decide)) rfl T.m_l_many T.F_l_many.kp T.b_l_many .nil zbk (zaa (pv 1) (zaa zaf zac))))
 (zaj (zbf (i:=4) sc_l_good.nd rfl (Or.inl rfl) (zaq (zaa (zaq (zaa (pv 3) zac)) zac)))
 (zaj (zdp PassesOwn.never rfl (zbq rfl T.z_range (zaa (za1 zc4 (zaw (zca T) (hr.mono (by decide)) rfl T.m_l_mix T.F_l_mix.kp T.b_l_mix .nil zbk (zaa (pv 1) (zaa zaf zac))) zaf) zac)) (zb5 (i:=5) sc_l_good.nd rfl (Or.inl rfl))
 (zan (zcl (za4 zg5 (pv 3) zaf (za3 _))
 (zaj (zbf (i:=8) sc_l_good.nd rfl (Or.inl rfl) (za1 zc4 (zaw (zca T) (hr.mono (by decide)) rfl T.m_l_mix T.F_l_mix.kp T.b_l_mix .nil zbk (zaa (za1 zcr (pv 1) (pv 5)) (zaa zaf zac))) (za1 zhn (pv 3) zaf)))
 (zan (zdc (zg3 PySem.F.plainAttrs_list PySem.F.slot_list_append PySem.F.type_list_append zbz (pv 4) (zaa (zaq (zaa (pv 8) (zaa (za1 zcr (za1 zcr (pv 8) zaf) (za1 zc4 (zaw (zca T) (hr.mono (by decide)) rfl T.m_l_mix T.F_l_mix.kp T.b_l_mix .nil zbk (zaa (za1 zcr (pv 1) (pv 5)) (zaa zaf zac))) (za1 zhn (za1 zhn (pv 3) zaf) (pv 8)))) zac))) zac)))))
 zbc)))
 (zan (zbd (pv 4))))))))))),
 (zas (zci (za2 (SemI.b (zcu (neg:=false) (zab 0) (SemI.b zae))))
 (zbi (SemF.l (zap (n:=2) (zah (SemF.l (zap (n:=1) (zah (zcp (SemI.b zae) (SemI.b (zc3 (SemI.b (zaz (zal (zab 1) (zal (SemI.b zae) zai)))) (SemI.b zae)))) zai) (by decide))) (zah (SemF.l (zcc (m:=true) (k:=1) (cs:=[1]) (SemW.c (zbp (SemI.b (zaz (zal (zab 1) (zal (SemI.b zae) zai)))))) (za5 0) zch (zaz (zal (zab 1) (zal (zab 0) zai))))) zai)) (by decide))))
 zbb)
 (zas (zci (za2 (SemI.b (zcu (neg:=false) (zab 0) (SemI.b zae))))
 (zas (zbu (zc3 (SemI.b (zaz (zal (zab 1) (zal (SemI.b zae) zai)))) (SemI.b zae)))
 (zbi (SemF.l (zcc (m:=true) (k:=1) (cs:=[2,1]) (SemW.c (zbp (SemI.b (zaz (zal (zab 1) (zal (SemI.b zae) zai)))))) (za5 0) zch (SemF.l (zcc (m:=true) (k:=1) (cs:=[2,0]) (SemW.c (zbp (zab 1))) (za5 0) zch (zaz (zal (SemI.b (zcp (zab 1) (zab 2))) (zal (zab 0) zai)))))))))
 zbb)
 (zas (zci (za2 (SemI.b (zcu (neg:=false) (zab 0) (SemI.b zae))))
 (zas (zbu (zaz (zal (zab 1) (zal (SemI.b zae) zai))))
 (zbi (SemF.l (zcc (m:=true) (k:=1) (cs:=[1]) (SemW.c (zbp (zab 3))) (za5 0) zch (SemF.l (zap (n:=3) (zah (zaz (zal (zab 1) (zal (zab 0) zai))) (zah (zcp (SemI.b zae) (SemI.b (zaz (zal (zab 1) (zal (SemI.b (zcp (zab 0) (SemI.b zae))) zai))))) (zah (zaz (zal (zab 1) (zal (SemI.b (zcp (zab 0) (SemI.b zae))) zai))) zai))) (by decide)))))))
 zbb)
 (zas (zci (za2 (SemI.b (zcu (neg:=false) (zab 0) (SemI.b zae))))
 (zas (zeb (zap (n:=1) (zah (SemF.l (zap (n:=1) (zah (zcp (SemI.b zae) (SemI.b (zc3 (SemI.b (zaz (zal (zab 1) (zal (SemI.b zae) zai)))) (SemI.b zae)))) zai) (by decide))) zai) (by decide)))
 (zas (zdo (m:=true) (zbp (SemI.b (zaz (zal (zab 1) (zal (SemI.b zae) zai))))) (za5 5)
 (zas (zbu (zaz (zal (zab 1) (zal (zab 5) zai))))
 (zeo (SemF.l (zap (n:=3) (zah (zam 6) (zah (zcp (zab 6) (SemI.b (zaz (zal (zab 1) (zal (SemI.b (zcp (zab 5) (SemI.b zae))) zai))))) (zah (zaz (zal (zab 1) (zal (SemI.b (zcp (zab 5) (SemI.b zae))) zai))) zai))) (by decide))))))
 (zh9 4 (zbi (zam 4)))))
 zbb)
 (zas (zci (za2 (SemI.b (zcu (neg:=false) (zab 0) (SemI.b zae))))
 (zas (zeb (zap (n:=0) zai (by decide)))
 (zas (zdo (m:=true) (zbp (SemI.b (zaz (zal (zab 1) (zal (SemI.b zae) zai))))) (za5 5)
 (zas (ss_ins (SemI.b zae) (zf2 (SemI.b zae)))
 (zas (ss_setOC (zcc (m:=false) (k:=1) (cs:=[]) (zhk (zab 7)) (za5 0) zch (zcp (zab 0) (SemI.b (zj9 (SemI.b (zkm (zab 0) (SemI.b zae))))))))
 (zci (zh8 (za2 (SemI.b (zg2 (zab 5) (SemI.b zae)))) (za2 (SemI.b (zg2 (SemI.b (zc3 (SemI.b (zaz (zal (SemI.b (zcp (zab 1) (zab 5))) (zal (SemI.b zae) zai)))) (SemI.b zae))) (SemI.b zae)))))
 (zlt (zcp (SemI.b zae) (SemI.b (zc3 (SemI.b (zaz (zal (SemI.b (zcp (zab 1) (zab 5))) (zal (SemI.b zae) zai)))) (zab 5)))) (SemI.b zae))
 zbb))))
 (zh9 7 (zbi (SemF.l (zap (n:=2) (zah (SemF.l (zap (n:=1) (zah (zcp (SemI.b zae) (SemI.b (zc3 (SemI.b (zaz (zal (zab 1) (zal (SemI.b zae) zai)))) (SemI.b zae)))) zai) (by decide))) (zah (zam 7) zai)) (by decide)))))))
 zbb)
 (zas (zbu (zaz (zal (zab 1) (zal (SemI.b zae) zai))))
 (zas (zeb (zap (n:=1) (zah (SemF.l (zap (n:=1) (zah (zam 3) zai) (by decide))) zai) (by decide)))
 (zas (zdo (m:=true) (zbp (SemI.b (zc3 (SemI.b (zaz (zal (zab 1) (zal (SemI.b zae) zai)))) (SemI.b zae)))) (za5 5)
 (zci (za2 (SemI.b (zg2 (zab 3) (SemI.b zae))))
 (zas (zbu (zc3 (SemI.b (zaz (zal (SemI.b (zcp (zab 1) (zab 5))) (zal (SemI.b zae) zai)))) (SemI.b (zhl (zab 3) (SemI.b zae)))))
 (zeo (SemF.l (zap (n:=2) (zah (zam 8) (zah (zcp (SemI.b (zcp (zab 8) (SemI.b zae))) (SemI.b (zc3 (SemI.b (zaz (zal (SemI.b (zcp (zab 1) (zab 5))) (zal (SemI.b zae) zai)))) (SemI.b (zhl (SemI.b (zhl (zab 3) (SemI.b zae))) (zab 8)))))) zai)) (by decide)))))
 zbb))
 (zh9 4 (zbi (zam 4)))))))))))⟩
theorem zei (T:Txt K mg ad):FnOk P w K mg base CX0 1 ad.f_l_put ad.d_l_put ["_law_rows", "_law_at", "_law_some"] (spD .v K [true,false,true] F_l_put):=by
  rw [F_l_put_def]
  exact Fun.okD (N:=["_law_rows", "_law_at", "_law_some"]) T.F_l_put sc_l_put [true,false,true] rfl zkj fun cdv A outer s H E hr=>⟨_,
 (zan (zbd (za1 za7 (za1 za7 (zb4 (zb3 (K:=K) rfl) (pv 0) zcn (zcm (pv 1))) (pv 2)) (zb4 (zb3 (K:=K) rfl) (pv 0) (zcm (za1 zcr (pv 1) zaf)) zcn)))),
 (zbi (SemF.l (zbl (SemF.l (zbl (SemF.l (zfb (zam 0) zck (zcj (zab 1)))) (zam 2))) (SemF.l (zfb (zam 0) (zcj (SemI.b (zcp (zab 1) (SemI.b zae)))) zck)))))⟩
theorem ok_l_bent_list (T:Txt K mg ad):FnOk P w K mg base CX0 2 ad.f_l_bent_list ad.d_l_bent_list ["_law_at", "_law_rows", "_law_cell"] (spD .v K [false,true,false] F_l_bent_list):=by
  rw [F_l_bent_list_def]
  exact Fun.okD (N:=["_law_at", "_law_rows", "_law_cell", "_law_head_here", "_law_listed", "_law_place", "_law_least", "_law_some", "_law_root"]) T.F_l_bent_list sc_l_bent_list [false,true,false] rfl zek fun cdv A outer s H E hr=>⟨_,
 (zaj (zbf (i:=3) sc_l_bent_list.nd rfl (Or.inl rfl) (zb4 (zb3 (K:=K) rfl) (pv 1) zcn (zcm zaf)))
 (zaj (zbf (i:=4) sc_l_bent_list.nd rfl (Or.inl rfl) (zbj (zax (K:=K) rfl) (pv 1) zaf (fun _ _=>rfl)))
 (zaj (zbf (i:=5) sc_l_bent_list.nd rfl (Or.inl rfl) (za1 zc4 (zaw (zca T) (hr.mono (by decide)) rfl T.m_l_mix T.F_l_mix.kp T.b_l_mix .nil zbk (zaa (pv 2) (zaa zaf zac))) (zar (zgh rfl) rfl T.z_max zkz (zaa zaf (zaa (zar (zau (K:=K) rfl) rfl T.z_len zbg (zaa (pv 4) zac)) zac)))))
 (zaj (zbf (i:=6) sc_l_bent_list.nd rfl (Or.inl rfl) (za1 zhn (zik zf1 zaf) (zfd zhs rfl T.z_int zl0 (zaa (zb6 (zce (K:=K) hr.units) (pv 0) zaf (za3 _)) zac))))
 (zaj (zbf (i:=7) sc_l_bent_list.nd rfl (Or.inl rfl) (zaq (zaa (zaq (zaa (zaq (zaa zaf zac)) (zaa (pv 4) zac))) (zaa (zaq (zaa (zaq (zaa zaf zac)) (zaa (pv 4) zac))) (zaa (zaq (zaa (zaq zac) (zaa (pv 4) zac))) (zaa (zaq (zaa (zaq (zaa zaf (zaa zaf zac))) (zaa (pv 4) zac))) (zaa (pv 3) (zaa (za1 za7 (pv 1) (zaq (zaa (zaq zac) zac))) (zaa (zaq zac) zac)))))))))
 (zaj (zdc (zg3 PySem.F.plainAttrs_list PySem.F.slot_list_append PySem.F.type_list_append zbz (pv 7) (zaa (za1 za7 (pv 3) (zaq (zaa (zaw (zei T) (hr.mono (by decide)) rfl T.m_l_put T.F_l_put.kp T.b_l_put .nil zbk (zaa (pv 4) (zaa (pv 5) (zaa (zaq (zaa (pv 6) zac)) zac)))) zac))) zac)))
 (zaj (zdc (zg3 PySem.F.plainAttrs_list PySem.F.slot_list_append PySem.F.type_list_append zbz (pv 7) (zaa (za1 za7 (pv 3) (zaq (zaa (za1 za7 (pv 4) (za1 zg9 (zaq (zaa (za1 zhn zaf (zfd zhs rfl T.z_int zl0 (zaa (zb6 (zce (K:=K) hr.units) (pv 0) zaf (za3 _)) zac))) zac)) (za1 zhn zaf (zar (zau (K:=K) rfl) rfl T.z_len zbg (zaa (pv 4) zac))))) zac))) zac)))
 (zaj (zdc (zg3 PySem.F.plainAttrs_list PySem.F.slot_list_append PySem.F.type_list_append zbz (pv 7) (zaa (za1 za7 (pv 3) (zaq (zaa (zaw (zei T) (hr.mono (by decide)) rfl T.m_l_put T.F_l_put.kp T.b_l_put .nil zbk (zaa (pv 4) (zaa (pv 5) (zaa (zaq (zaa (zar (zau (K:=K) rfl) rfl T.z_len zbg (zaa (pv 4) zac)) zac)) zac)))) zac))) zac)))
 (zaj (zdc (zg3 PySem.F.plainAttrs_list PySem.F.slot_list_append PySem.F.type_list_append zbz (pv 7) (zaa (za1 za7 (pv 3) (zaq (zaa (zaw (zei T) (hr.mono (by decide)) rfl T.m_l_put T.F_l_put.kp T.b_l_put .nil zbk (zaa (pv 4) (zaa (pv 5) (zaa (zaq (zaa (pv 5) zac)) zac)))) zac))) zac)))
 (zaj (zcl (PW.pt (zic (za4 (zce (K:=K) hr.units) (pv 0) zaf (za3 _)) (zgd (za4 zg5 (zar (zau (K:=K) rfl) rfl T.z_len zbg (zaa (pv 4) zac)) zaf (za3 _)))))
 (zaj (zbf (i:=8) sc_l_bent_list.nd rfl (Or.inl rfl) (pv 5))
 (zaj (zkc PassesOwn.never (za4 zkq (zbj (zax (K:=K) rfl) (pv 4) (pv 8) (fun _ _=>rfl)) zaf (za3 _))
 (zan (zbf (i:=8) sc_l_bent_list.nd rfl (Or.inl rfl) (zbj (zax (K:=K) rfl) (pv 4) (pv 8) (fun _ _=>rfl)))))
 (zan (zdc (zg3 PySem.F.plainAttrs_list PySem.F.slot_list_append PySem.F.type_list_append zbz (pv 7) (zaa (za1 za7 (pv 3) (zaq (zaa (zaw (zei T) (hr.mono (by decide)) rfl T.m_l_put T.F_l_put.kp T.b_l_put .nil zbk (zaa (pv 4) (zaa (pv 8) (zaa (zaq (zaa (pv 5) zac)) zac)))) zac))) zac))))))
 zbc)
 (zan (zbd (pv 7))))))))))))),
 (zas (zbu (SemF.l (zfb (zam 1) zck (zcj (SemI.b zae)))))
 (zas (zbu (zij (zam 1) (SemI.b zae)))
 (zas (zbu (zc3 (SemI.b (zaz (zal (zab 2) (zal (SemI.b zae) zai)))) (SemI.b (zi3 (SemI.b zae) (SemI.b (zbe (zab 4)))))))
 (zas (zbu (zhl (SemI.b (zf2 (SemI.b zae))) (SemI.b (zj9 (SemI.b (zcu (neg:=false) (zab 0) (SemI.b zae)))))))
 (zas (zeb (zap (n:=7) (zah (SemF.l (zap (n:=2) (zah (SemF.l (zap (n:=1) (zah zae zai) (by decide))) (zah (zam 4) zai)) (by decide))) (zah (SemF.l (zap (n:=2) (zah (SemF.l (zap (n:=1) (zah zae zai) (by decide))) (zah (zam 4) zai)) (by decide))) (zah (SemF.l (zap (n:=2) (zah (SemF.l (zap (n:=0) zai (by decide))) (zah (zam 4) zai)) (by decide))) (zah (SemF.l (zap (n:=2) (zah (SemF.l (zap (n:=2) (zah zae (zah zae zai)) (by decide))) (zah (zam 4) zai)) (by decide))) (zah (zam 3) (zah (SemF.l (zbl (zam 1) (SemF.l (zap (n:=1) (zah (SemF.l (zap (n:=0) zai (by decide))) zai) (by decide))))) (zah (SemF.l (zap (n:=0) zai (by decide))) zai))))))) (by decide)))
 (zas (zeo (SemF.l (zbl (zam 3) (SemF.l (zap (n:=1) (zah (zaz (zah (zam 4) (zal (zab 5) (zah (SemF.l (zap (n:=1) (zah (zam 6) zai) (by decide))) zai)))) zai) (by decide))))))
 (zas (zeo (SemF.l (zbl (zam 3) (SemF.l (zap (n:=1) (zah (SemF.l (zbl (zam 4) (SemF.l (zg7 (zap (n:=1) (zah (zhl (SemI.b zae) (SemI.b (zj9 (SemI.b (zcu (neg:=false) (zab 0) (SemI.b zae)))))) zai) (by decide)) (SemI.b (zhl (SemI.b zae) (SemI.b (zbe (zab 4))))))))) zai) (by decide))))))
 (zas (zeo (SemF.l (zbl (zam 3) (SemF.l (zap (n:=1) (zah (zaz (zah (zam 4) (zal (zab 5) (zah (SemF.l (zap (n:=1) (zah (zbe (zab 4)) zai) (by decide))) zai)))) zai) (by decide))))))
 (zas (zeo (SemF.l (zbl (zam 3) (SemF.l (zap (n:=1) (zah (zaz (zah (zam 4) (zal (zab 5) (zah (SemF.l (zap (n:=1) (zah (zam 5) zai) (by decide))) zai)))) zai) (by decide))))))
 (zas (zci (zh8 (za2 (SemI.b (zcu (neg:=false) (zab 0) (SemI.b zae)))) (za2 (SemI.b (zg2 (SemI.b (zbe (zab 4))) (SemI.b zae)))))
 (zas (zbu (zam 5))
 (zas (zj8 (za2 (SemI.b (zkm (zbw (zab 4) (zab 8)) (SemI.b zae))))
 (zbu (zij (zam 4) (zab 8))))
 (zeo (SemF.l (zbl (zam 3) (SemF.l (zap (n:=1) (zah (zaz (zah (zam 4) (zal (zab 8) (zah (SemF.l (zap (n:=1) (zah (zam 5) zai) (by decide))) zai)))) zai) (by decide))))))))
 zbb)
 (zh9 7 (zbi (zam 7)))))))))))))⟩
theorem ok_l_bent_pairs (T:Txt K mg ad):FnOk P w K mg base CX0 2 ad.f_l_bent_pairs ad.d_l_bent_pairs ["_law_rows", "_law_cell"] (spD .v K [true,false] F_l_bent_pairs):=by
  rw [F_l_bent_pairs_def]
  exact Fun.okD (N:=["_law_rows", "_law_cell", "_law_many_here", "_law_a", "_law_b", "_law_more", "_law_some", "_law_c"]) T.F_l_bent_pairs sc_l_bent_pairs [true,false] rfl zd6 fun cdv A outer s H E hr=>⟨_,
 (zaj (zbf (i:=2) sc_l_bent_pairs.nd rfl (Or.inl rfl) (zbj (zax (K:=K) rfl) (zbj (zax (K:=K) rfl) (pv 0) zaf (fun _ _=>rfl)) zaf (fun _ _=>rfl)))
 (zaj (zbf (i:=3) sc_l_bent_pairs.nd rfl (Or.inl rfl) (za1 zc4 (zaw (zca T) (hr.mono (by decide)) rfl T.m_l_mix T.F_l_mix.kp T.b_l_mix .nil zbk (zaa (pv 1) (zaa zaf zac))) (zar (zgh rfl) rfl T.z_max zkz (zaa zaf (zaa (pv 2) zac)))))
 (zaj (zbf (i:=4) sc_l_bent_pairs.nd rfl (Or.inl rfl) (za1 zc4 (za1 zcr (pv 3) zaf) (zar (zgh rfl) rfl T.z_max zkz (zaa zaf (zaa (pv 2) zac)))))
 (zaj (zbf (i:=5) sc_l_bent_pairs.nd rfl (Or.inl rfl) (zb4 (zb3 (K:=K) rfl) (pv 0) (zcm zaf) zcn))
 (zaj (zbf (i:=6) sc_l_bent_pairs.nd rfl (Or.inl rfl) (zaq (zaa (za1 za7 (zaq (zaa (zaq (zaa (zik zf1 zaf) zac)) zac)) (pv 5)) (zaa (za1 za7 (zaq (zaa (zaq (zaa zaf zac)) zac)) (pv 5)) (zaa (za1 za7 (zaq (zaa (zaq zac) zac)) (pv 5)) (zaa (zaq (zaa (zaq (zaa zaf (zaa zaf zac))) zac)) (zaa (zaq zac) (zaa (za1 za7 (pv 0) (zaq (zaa (zaq (zaa (pv 3) zac)) zac))) (zaa (za1 za7 (pv 0) (zaq (zaa (zaq (zaa (pv 3) (zaa (pv 4) (zaa (pv 4) zac)))) zac))) (zaa (za1 za7 (pv 0) (pv 5)) zac))))))))))
 (zaj (zbf (i:=6) sc_l_bent_pairs.nd rfl (Or.inl rfl) (za1 za7 (pv 6) (zaq (zaa (za1 za7 (pv 0) (zaq (zaa (zaq (zaa (pv 3) (zaa (pv 3) zac))) zac))) (zaa (za1 za7 (pv 0) (zaq (zaa (zaq (zaa (pv 3) (zaa (pv 4) zac))) (zaa (zaq (zaa (pv 4) (zaa (pv 3) zac))) zac)))) (zaa (za1 za7 (pv 0) (zaq (zaa (zaq (zaa (pv 3) (zaa (pv 2) zac))) zac))) (zaa (za1 za7 (pv 0) (zaq (zaa (zaq (zaa (zik zf1 zaf) (zaa (pv 3) zac))) zac))) zac)))))))
 (zaj (zbf (i:=7) sc_l_bent_pairs.nd rfl (Or.inl rfl) (za1 zc4 (za1 zcr (pv 3) zaf) (zar (zgh rfl) rfl T.z_max zkz (zaa zaf (zaa (pv 2) zac)))))
 (zan (zbd (za1 za7 (pv 6) (zaq (zaa (za1 za7 (pv 0) (zaq (zaa (zaq (zaa (pv 2) (zaa (pv 3) zac))) zac))) (zaa (za1 za7 (pv 0) (zaq (zaa (zaq (zaa (pv 3) (zaa (zik zf1 zaf) zac))) zac))) (zaa (za1 za7 (pv 0) (zaq (zaa (zaq (zaa (pv 3) (zaa (pv 4) zac))) (zaa (zaq (zaa (pv 4) (zaa (pv 7) zac))) (zaa (zaq (zaa (pv 7) (zaa (pv 3) zac))) zac))))) zac)))))))))))))),
 (zas (zbu (zij (zij (zam 0) (SemI.b zae)) (SemI.b zae)))
 (zas (zbu (zc3 (SemI.b (zaz (zal (zab 1) (zal (SemI.b zae) zai)))) (SemI.b (zi3 (SemI.b zae) (zab 2)))))
 (zas (zbu (zc3 (SemI.b (zcp (zab 3) (SemI.b zae))) (SemI.b (zi3 (SemI.b zae) (zab 2)))))
 (zas (zbu (SemF.l (zfb (zam 0) (zcj (SemI.b zae)) zck)))
 (zas (zbu (SemF.l (zap (n:=8) (zah (SemF.l (zbl (SemF.l (zap (n:=1) (zah (SemF.l (zap (n:=1) (zah (zf2 (SemI.b zae)) zai) (by decide))) zai) (by decide))) (zam 5))) (zah (SemF.l (zbl (SemF.l (zap (n:=1) (zah (SemF.l (zap (n:=1) (zah zae zai) (by decide))) zai) (by decide))) (zam 5))) (zah (SemF.l (zbl (SemF.l (zap (n:=1) (zah (SemF.l (zap (n:=0) zai (by decide))) zai) (by decide))) (zam 5))) (zah (SemF.l (zap (n:=1) (zah (SemF.l (zap (n:=2) (zah zae (zah zae zai)) (by decide))) zai) (by decide))) (zah (SemF.l (zap (n:=0) zai (by decide))) (zah (SemF.l (zbl (zam 0) (SemF.l (zap (n:=1) (zah (SemF.l (zap (n:=1) (zah (zam 3) zai) (by decide))) zai) (by decide))))) (zah (SemF.l (zbl (zam 0) (SemF.l (zap (n:=1) (zah (SemF.l (zap (n:=3) (zah (zam 3) (zah (zam 4) (zah (zam 4) zai))) (by decide))) zai) (by decide))))) (zah (SemF.l (zbl (zam 0) (zam 5))) zai)))))))) (by decide))))
 (zas (zbu (SemF.l (zbl (zam 6) (SemF.l (zap (n:=4) (zah (SemF.l (zbl (zam 0) (SemF.l (zap (n:=1) (zah (SemF.l (zap (n:=2) (zah (zam 3) (zah (zam 3) zai)) (by decide))) zai) (by decide))))) (zah (SemF.l (zbl (zam 0) (SemF.l (zap (n:=2) (zah (SemF.l (zap (n:=2) (zah (zam 3) (zah (zam 4) zai)) (by decide))) (zah (SemF.l (zap (n:=2) (zah (zam 4) (zah (zam 3) zai)) (by decide))) zai)) (by decide))))) (zah (SemF.l (zbl (zam 0) (SemF.l (zap (n:=1) (zah (SemF.l (zap (n:=2) (zah (zam 3) (zah (zam 2) zai)) (by decide))) zai) (by decide))))) (zah (SemF.l (zbl (zam 0) (SemF.l (zap (n:=1) (zah (SemF.l (zap (n:=2) (zah (zf2 (SemI.b zae)) (zah (zam 3) zai)) (by decide))) zai) (by decide))))) zai)))) (by decide))))))
 (zas (zbu (zc3 (SemI.b (zcp (zab 3) (SemI.b zae))) (SemI.b (zi3 (SemI.b zae) (zab 2)))))
 (zbi (SemF.l (zbl (zam 6) (SemF.l (zap (n:=3) (zah (SemF.l (zbl (zam 0) (SemF.l (zap (n:=1) (zah (SemF.l (zap (n:=2) (zah (zam 2) (zah (zam 3) zai)) (by decide))) zai) (by decide))))) (zah (SemF.l (zbl (zam 0) (SemF.l (zap (n:=1) (zah (SemF.l (zap (n:=2) (zah (zam 3) (zah (zf2 (SemI.b zae)) zai)) (by decide))) zai) (by decide))))) (zah (SemF.l (zbl (zam 0) (SemF.l (zap (n:=3) (zah (SemF.l (zap (n:=2) (zah (zam 3) (zah (zam 4) zai)) (by decide))) (zah (SemF.l (zap (n:=2) (zah (zam 4) (zah (zam 7) zai)) (by decide))) (zah (SemF.l (zap (n:=2) (zah (zam 7) (zah (zam 3) zai)) (by decide))) zai))) (by decide))))) zai))) (by decide)))))))))))))⟩
theorem ok_l_bent_place (T:Txt K mg ad):FnOk P w K mg base CX0 2 ad.f_l_bent_place ad.d_l_bent_place ["_law_head_here", "_law_rows", "_law_cell"] (spD .v K [true,true,false] F_l_bent_place):=by
  rw [F_l_bent_place_def]
  exact Fun.okD (N:=["_law_head_here", "_law_rows", "_law_cell", "_law_some", "_law_place", "_law_row", "_law_k", "_law_number"]) T.F_l_bent_place sc_l_bent_place [true,true,false] rfl zd5 fun cdv A outer s H E hr=>⟨_,
 (zaj (zbf (i:=3) sc_l_bent_place.nd rfl (Or.inl rfl) (zaq zac))
 (zaj (zbf (i:=4) sc_l_bent_place.nd rfl (Or.inl rfl) (za1 zc4 (zaw (zca T) (hr.mono (by decide)) rfl T.m_l_mix T.F_l_mix.kp T.b_l_mix .nil zbk (zaa (pv 2) (zaa zaf zac))) (zar (zau (K:=K) rfl) rfl T.z_len zbg (zaa (pv 1) zac))))
 (zaj (zbf (i:=5) sc_l_bent_place.nd rfl (Or.inl rfl) (zbj (zax (K:=K) rfl) (pv 1) (pv 4) (fun _ _=>rfl)))
 (zaj (zdp PassesOwn.never rfl (zbq rfl T.z_range (zaa (zar (zau (K:=K) rfl) rfl T.z_len zbg (zaa (pv 5) zac)) zac)) (zb5 (i:=6) sc_l_bent_place.nd rfl (Or.inl rfl))
 (zan (zdp PassesOwn.never rfl (zbv (K:=K) rfl (zaq (zaa (zik zf1 zaf) (zaa zaf zac)))) (zb5 (i:=7) sc_l_bent_place.nd rfl (Or.inl rfl))
 (zan (zdc (zg3 PySem.F.plainAttrs_list PySem.F.slot_list_append PySem.F.type_list_append zbz (pv 3) (zaa (za1 za7 (pv 0) (zaw (zei T) (hr.mono (by decide)) rfl T.m_l_put T.F_l_put.kp T.b_l_put .nil zbk (zaa (pv 1) (zaa (pv 4) (zaa (zaq (zaa (zaw (zei T) (hr.mono (by decide)) rfl T.m_l_put T.F_l_put.kp T.b_l_put .nil zbk (zaa (pv 5) (zaa (pv 6) (zaa (zaq (zaa (pv 7) zac)) zac)))) zac)) zac))))) zac)))))))
 (zaj (zdc (zg3 PySem.F.plainAttrs_list PySem.F.slot_list_append PySem.F.type_list_append zbz (pv 3) (zaa (za1 za7 (pv 0) (zaw (zei T) (hr.mono (by decide)) rfl T.m_l_put T.F_l_put.kp T.b_l_put .nil zbk (zaa (pv 1) (zaa (pv 4) (zaa (zaq (zaa (zb4 (zb3 (K:=K) rfl) (pv 5) zcn (zcm (zik zf1 zaf))) zac)) zac))))) zac)))
 (zaj (zdc (zg3 PySem.F.plainAttrs_list PySem.F.slot_list_append PySem.F.type_list_append zbz (pv 3) (zaa (za1 za7 (pv 0) (zaw (zei T) (hr.mono (by decide)) rfl T.m_l_put T.F_l_put.kp T.b_l_put .nil zbk (zaa (pv 1) (zaa (pv 4) (zaa (zaq (zaa (za1 za7 (pv 5) (zaq (zaa zaf zac))) zac)) zac))))) zac)))
 (zaj (zdc (zg3 PySem.F.plainAttrs_list PySem.F.slot_list_append PySem.F.type_list_append zbz (pv 3) (zaa (za1 za7 (pv 0) (zaw (zei T) (hr.mono (by decide)) rfl T.m_l_put T.F_l_put.kp T.b_l_put .nil zbk (zaa (pv 1) (zaa (pv 4) (zaa (zaq (zaa (za1 za7 (zaq (zaa zaf (zaa zaf zac))) (zb4 (zb3 (K:=K) rfl) (pv 5) (zcm zaf) zcn)) zac)) zac))))) zac)))
 (zan (zbd (pv 3)))))))))),
 (zas (zeb (zap (n:=0) zai (by decide)))
 (zas (zbu (zc3 (SemI.b (zaz (zal (zab 2) (zal (SemI.b zae) zai)))) (SemI.b (zbe (zab 1)))))
 (zas (zbu (zij (zam 1) (zab 4)))
 (zas (zdo (m:=true) (zbp (SemI.b (zbe (zab 5)))) (za5 6)
 (zdo (m:=true) (zdx (SemF.l (zap (n:=2) (zah (zf2 (SemI.b zae)) (zah zae zai)) (by decide)))) (za5 7)
 (zeo (SemF.l (zbl (zam 0) (zaz (zah (zam 1) (zal (zab 4) (zah (SemF.l (zap (n:=1) (zah (zaz (zah (zam 5) (zal (zab 6) (zah (SemF.l (zap (n:=1) (zah (zam 7) zai) (by decide))) zai)))) zai) (by decide))) zai)))))))))
 (zas (zeo (SemF.l (zbl (zam 0) (zaz (zah (zam 1) (zal (zab 4) (zah (SemF.l (zap (n:=1) (zah (SemF.l (zfb (zam 5) zck (zcj (SemI.b (zf2 (SemI.b zae)))))) zai) (by decide))) zai)))))))
 (zas (zeo (SemF.l (zbl (zam 0) (zaz (zah (zam 1) (zal (zab 4) (zah (SemF.l (zap (n:=1) (zah (SemF.l (zbl (zam 5) (SemF.l (zap (n:=1) (zah zae zai) (by decide))))) zai) (by decide))) zai)))))))
 (zas (zeo (SemF.l (zbl (zam 0) (zaz (zah (zam 1) (zal (zab 4) (zah (SemF.l (zap (n:=1) (zah (SemF.l (zbl (SemF.l (zap (n:=2) (zah zae (zah zae zai)) (by decide))) (SemF.l (zfb (zam 5) (zcj (SemI.b zae)) zck)))) zai) (by decide))) zai)))))))
 (zh9 3 (zbi (zam 3))))))))))⟩
theorem ok_l_bent (T:Txt K mg ad):FnOk P w K mg base CX0 3 ad.f_l_bent ad.d_l_bent ["_law_at", "_law_rows", "_law_cell"] (spD .v K [false,true,false] F_l_bent):=by
  rw [F_l_bent_def]
  exact Fun.okD (N:=["_law_at", "_law_rows", "_law_cell", "_law_some", "_law_head_here", "_law_row"]) T.F_l_bent sc_l_bent [false,true,false] rfl ziz fun cdv A outer s H E hr=>⟨_,
 (zaj (zcl (za4 (op_in_seqK (K:=K) rfl) (pv 0) (pe_tup (zaa zaf (zaa zaf zac))) (by with_unfolding_all rfl))
 (zan (zbd (zaw (ok_l_bent_list T) (hr.mono (by decide)) rfl T.m_l_bent_list T.F_l_bent_list.kp T.b_l_bent_list .nil zbk (zaa (pv 0) (zaa (pv 1) (zaa (pv 2) zac))))))
 zbc)
 (zaj (zcl (za4 (zce (K:=K) hr.units) (pv 0) zaf (za3 _))
 (zan (zbd (zaw (ok_l_bent_pairs T) (hr.mono (by decide)) rfl T.m_l_bent_pairs T.F_l_bent_pairs.kp T.b_l_bent_pairs .nil zbk (zaa (pv 1) (zaa (pv 2) zac)))))
 zbc)
 (zaj (zbf (i:=3) sc_l_bent.nd rfl (Or.inl rfl) (zaq (zaa (za1 za7 (pv 1) (zaq (zaa (zaq zac) zac))) (zaa (za1 za7 (zaq (zaa (zaq zac) zac)) (pv 1)) (zaa (za1 za7 (pv 1) (zaq (zaa (zaq (zaa zaf (zaa zaf (zaa zaf (zaa zaf zac))))) zac))) (zaa (za1 za7 (pv 1) (zaq (zaa (zaq (zaa zaf (zaa zaf zac))) zac))) zac))))))
 (zaj (zbf (i:=4) sc_l_bent.nd rfl (Or.inl rfl) (zaq zac))
 (zaj (zcl (za4 (zce (K:=K) hr.units) (pv 0) zaf (za3 _))
 (zaj (zdp PassesOwn.never rfl (zbv (K:=K) rfl (zb4 (zb3 (K:=K) rfl) (pv 1) zcn (zcm zaf))) (zb5 (i:=5) sc_l_bent.nd rfl (Or.inl rfl))
 (zan (zdc (zg3 PySem.F.plainAttrs_list PySem.F.slot_list_append PySem.F.type_list_append zbz (pv 3) (zaa (za1 za7 (pv 1) (za1 zg9 (zaq (zaa (za1 zg9 (zaq (zaa zaf zac)) (zar (zau (K:=K) rfl) rfl T.z_len zbg (zaa (pv 5) zac))) zac)) (za1 zhn zaf (zar (zau (K:=K) rfl) rfl T.z_len zbg (zaa (pv 1) zac))))) zac)))))
 (zan (zdc (zg3 PySem.F.plainAttrs_list PySem.F.slot_list_append PySem.F.type_list_append zbz (pv 3) (zaa (zey rfl (zbv (K:=K) rfl (pv 1)) (ts:=["_law_row"]) (zs:=[]) (k:=1) (is:=[]) rfl .nil .nil rfl (zbm (by decide)) (fun _ _ _ _ _=>(pgb (by decide +kernel) rfl rfl)) (fun _ _ _ _ _=>(za1 za7 (pv 0) (za1 zg9 (zaq (zaa zaf zac)) (za1 zhn zaf (zar (zau (K:=K) rfl) rfl T.z_len zbg (zaa (pv 0) zac)))))) rfl (by decide +kernel) rfl (by decide +kernel)) zac)))))
 zbc)
 (zaj (zcl (za4 (zce (K:=K) hr.units) (pv 0) zaf (za3 _))
 (zan (zdc (zg3 PySem.F.plainAttrs_list PySem.F.slot_list_append PySem.F.type_list_append zbz (pv 3) (zaa (za1 zg9 (zaq (zaa (zaq (zaa zaf (zaa zaf (zaa zaf zac)))) zac)) zaf) zac))))
 zbc)
 (zaj (zcl (za4 (zce (K:=K) hr.units) (pv 0) zaf (za3 _))
 (zaj (zbf (i:=3) sc_l_bent.nd rfl (Or.inl rfl) (za1 za7 (pv 3) (zaq (zaa (zaq zac) (zaa (za1 za7 (zaq (zaa (zaq (zaa zaf zac)) zac)) (zb4 (zb3 (K:=K) rfl) (pv 1) (zcm zaf) zcn)) (zaa (za1 za7 (zaq (zaa (zaq (zaa zaf zac)) zac)) (zb4 (zb3 (K:=K) rfl) (pv 1) (zcm zaf) zcn)) (zaa (za1 za7 (zaq (zaa (zaq zac) zac)) (zb4 (zb3 (K:=K) rfl) (pv 1) (zcm zaf) zcn)) (zaa (za1 za7 (zaq (zaa (zaq (zaa zaf (zaa zaf zac))) zac)) (zb4 (zb3 (K:=K) rfl) (pv 1) (zcm zaf) zcn)) zac))))))))
 (zaj (zbf (i:=4) sc_l_bent.nd rfl (Or.inl rfl) (zb4 (zb3 (K:=K) rfl) (pv 1) zcn (zcm zaf)))
 (zaj (zbf (i:=1) sc_l_bent.nd rfl (Or.inl rfl) (zb4 (zb3 (K:=K) rfl) (pv 1) (zcm zaf) zcn))
 (zan (zdc (zg3 PySem.F.plainAttrs_list PySem.F.slot_list_append PySem.F.type_list_append zbz (pv 3) (zaa (za1 za7 (pv 4) (za1 zg9 (zaq (zaa (zaq (zaa zaf (zaa zaf (zaa zaf zac)))) zac)) zaf)) zac)))))))
 zbc)
 (zaj (zcl (PW.pt (zic (za4 zg5 (zar (zau (K:=K) rfl) rfl T.z_len zbg (zaa (pv 1) zac)) zaf (za3 _)) (zgd (za4 zg5 (zar (zau (K:=K) rfl) rfl T.z_len zbg (zaa (zbj (zax (K:=K) rfl) (pv 1) zaf (fun _ _=>rfl)) zac)) zaf (za3 _)))))
 (zan (zbf (i:=3) sc_l_bent.nd rfl (Or.inl rfl) (za1 za7 (pv 3) (zaw (ok_l_bent_place T) (hr.mono (by decide)) rfl T.m_l_bent_place T.F_l_bent_place.kp T.b_l_bent_place .nil zbk (zaa (pv 4) (zaa (pv 1) (zaa (pv 2) zac)))))))
 zbc)
 (zan (zbd (pv 3))))))))))),
 (zas (zci (za2 (SemI.b (si_in (neg:=false) (zab 0) (SemI.b (si_tup (n:=2) (zah zae (zah zae zai)) (by decide))))))
 (zbi (zaz (zal (zab 0) (zah (zam 1) (zal (zab 2) zai)))))
 zbb)
 (zas (zci (za2 (SemI.b (zcu (neg:=false) (zab 0) (SemI.b zae))))
 (zbi (zaz (zah (zam 1) (zal (zab 2) zai))))
 zbb)
 (zas (zeb (zap (n:=4) (zah (SemF.l (zbl (zam 1) (SemF.l (zap (n:=1) (zah (SemF.l (zap (n:=0) zai (by decide))) zai) (by decide))))) (zah (SemF.l (zbl (SemF.l (zap (n:=1) (zah (SemF.l (zap (n:=0) zai (by decide))) zai) (by decide))) (zam 1))) (zah (SemF.l (zbl (zam 1) (SemF.l (zap (n:=1) (zah (SemF.l (zap (n:=4) (zah zae (zah zae (zah zae (zah zae zai)))) (by decide))) zai) (by decide))))) (zah (SemF.l (zbl (zam 1) (SemF.l (zap (n:=1) (zah (SemF.l (zap (n:=2) (zah zae (zah zae zai)) (by decide))) zai) (by decide))))) zai)))) (by decide)))
 (zas (zbu (SemF.l (zap (n:=0) zai (by decide))))
 (zas (zci (za2 (SemI.b (zcu (neg:=false) (zab 0) (SemI.b zae))))
 (zas (zdo (m:=true) (zdx (SemF.l (zfb (zam 1) zck (zcj (SemI.b zae))))) (za5 5)
 (zeo (SemF.l (zbl (zam 1) (SemF.l (zg7 (zap (n:=1) (zah (SemF.l (zg7 (zap (n:=1) (zah zae zai) (by decide)) (SemI.b (zbe (zab 5))))) zai) (by decide)) (SemI.b (zhl (SemI.b zae) (SemI.b (zbe (zab 1)))))))))))
 (zeo (SemF.l (zcc (m:=true) (k:=1) (cs:=[]) (SemW.c (zdx (zam 1))) (za5 0) zch (SemF.l (zbl (zam 0) (SemF.l (zg7 (zap (n:=1) (zah zae zai) (by decide)) (SemI.b (zhl (SemI.b zae) (SemI.b (zbe (zab 0)))))))))))))
 zbb)
 (zas (zci (za2 (SemI.b (zcu (neg:=false) (zab 0) (SemI.b zae))))
 (zeo (SemF.l (zg7 (zap (n:=1) (zah (SemF.l (zap (n:=3) (zah zae (zah zae (zah zae zai))) (by decide))) zai) (by decide)) (SemI.b zae))))
 zbb)
 (zas (zci (za2 (SemI.b (zcu (neg:=false) (zab 0) (SemI.b zae))))
 (zas (zh9 3 (zeb (zbl (zam 3) (SemF.l (zap (n:=5) (zah (SemF.l (zap (n:=0) zai (by decide))) (zah (SemF.l (zbl (SemF.l (zap (n:=1) (zah (SemF.l (zap (n:=1) (zah zae zai) (by decide))) zai) (by decide))) (SemF.l (zfb (zam 1) (zcj (SemI.b zae)) zck)))) (zah (SemF.l (zbl (SemF.l (zap (n:=1) (zah (SemF.l (zap (n:=1) (zah zae zai) (by decide))) zai) (by decide))) (SemF.l (zfb (zam 1) (zcj (SemI.b zae)) zck)))) (zah (SemF.l (zbl (SemF.l (zap (n:=1) (zah (SemF.l (zap (n:=0) zai (by decide))) zai) (by decide))) (SemF.l (zfb (zam 1) (zcj (SemI.b zae)) zck)))) (zah (SemF.l (zbl (SemF.l (zap (n:=1) (zah (SemF.l (zap (n:=2) (zah zae (zah zae zai)) (by decide))) zai) (by decide))) (SemF.l (zfb (zam 1) (zcj (SemI.b zae)) zck)))) zai))))) (by decide))))))
 (zas (zbu (SemF.l (zfb (zam 1) zck (zcj (SemI.b zae)))))
 (zas (zbu (SemF.l (zfb (zam 1) (zcj (SemI.b zae)) zck)))
 (zeo (SemF.l (zbl (zam 4) (SemF.l (zg7 (zap (n:=1) (zah (SemF.l (zap (n:=3) (zah zae (zah zae (zah zae zai))) (by decide))) zai) (by decide)) (SemI.b zae)))))))))
 zbb)
 (zas (zci (zh8 (za2 (SemI.b (zg2 (SemI.b (zbe (zab 1))) (SemI.b zae)))) (za2 (SemI.b (zg2 (SemI.b (zbe (zbw (zab 1) (SemI.b zae)))) (SemI.b zae)))))
 (zh9 3 (zeb (zbl (zam 3) (zaz (zah (zam 4) (zah (zam 1) (zal (zab 2) zai)))))))
 zbb)
 (zh9 3 (zbi (zam 3)))))))))))⟩
theorem ok_l_in_order (T:Txt K mg ad):FnOk P w K mg base CX0 1 ad.f_l_in_order ad.d_l_in_order ["_law_many_here", "_law_pairs"] (spD .v K [false,false] F_l_in_order):=by
  rw [F_l_in_order_def]
  exact Fun.okD (N:=["_law_many_here", "_law_pairs", "_law_one", "_law_other", "_law_gone", "_law_k", "_law_held"]) T.F_l_in_order sc_l_in_order [false,false] rfl ze5 fun cdv A outer s H E hr=>⟨_,
 (zaj (zdp PassesOwn.never rfl (zbv (K:=K) rfl (pv 1)) (zja (K:=K) rfl rfl (zd4 (zb5 (i:=2) sc_l_in_order.nd rfl (Or.inl rfl)) (zd4 (zb5 (i:=3) sc_l_in_order.nd rfl (Or.inl rfl)) zi9)))
 (zan (zcl (PW.pt (zf8 (za4 zil (zar (call_min2 rfl) rfl T.z_min zky (zaa (pv 2) (zaa (pv 3) zac))) zaf (za3 _)) (zgc (za4 zkq (zar (zgh rfl) rfl T.z_max zkz (zaa (pv 2) (zaa (pv 3) zac))) (pv 0) (za3 _)))))
 (zan (zbd zec))
 zbc)))
 (zaj (zbf (i:=4) sc_l_in_order.nd rfl (Or.inl rfl) (za1 zg9 (zaq (zaa zec zac)) (pv 0)))
 (zaj (zdp PassesOwn.never rfl (zbq rfl T.z_range (zaa (pv 0) zac)) (zb5 (i:=5) sc_l_in_order.nd rfl (Or.inl rfl))
 (zaj (zbf (i:=6) sc_l_in_order.nd rfl (Or.inl rfl) (za1 zg9 (zaq (zaa zec zac)) (pv 0)))
 (zaj (zdp PassesOwn.never rfl (zbv (K:=K) rfl (pv 1)) (zja (K:=K) rfl rfl (zd4 (zb5 (i:=2) sc_l_in_order.nd rfl (Or.inl rfl)) (zd4 (zb5 (i:=3) sc_l_in_order.nd rfl (Or.inl rfl)) zi9)))
 (zan (zcl (zeg (zb8 (K:=K) rfl (zbj (zax (K:=K) rfl) (pv 4) (pv 2) (fun _ _=>rfl)) (fun _=>rfl)))
 (zan (zjv zec (zjw (pv 6) (pv 3) zgm)))
 zbc)))
 (zan (zkp (i:=4) sc_l_in_order.nd rfl rfl rfl (zbv (K:=K) rfl (pv 6)) (ts:=["_law_work"]) (zs:=[]) (k:=1) (is:=[]) rfl .nil .nil rfl (zbm (by decide)) (fun _ _ _ _ _=>(pgb (by decide +kernel) rfl rfl)) (fun _ _ _ _ _=>(pe_not (pv 0))) rfl (by decide +kernel) rfl (by decide +kernel))))))
 (zan (zbd (zb6 (op_notIn_seqK (K:=K) rfl) zec (pv 4) (by with_unfolding_all rfl))))))),
 (zas (zdo (m:=false) (zgj (zjs 1)) (zmj (zd3 (za5 2) (zd3 (za5 3) zi4)))
 (zci (zf4 (za2 (SemI.b (zl3 (SemI.b (si_min2 (zab 2) (zab 3))) (SemI.b zae)))) (za2 (SemI.b (zkm (SemI.b (zi3 (zab 2) (zab 3))) (zab 0)))))
 (zbi zep)
 zbb))
 (zas (zbu (SemF.l (zg7 (zap (n:=1) (zah zep zai) (by decide)) (zab 0))))
 (zas (zdo (m:=true) (zbp (zab 0)) (za5 5)
 (zas (zeb (zg7 (zap (n:=1) (zah zep zai) (by decide)) (zab 0)))
 (zas (zdo (m:=false) (zgj (zjs 1)) (zmj (zd3 (za5 2) (zd3 (za5 3) zi4)))
 (zci (zef (zee (K:=K) (zbw (zab 4) (zab 2))))
 (zlt zep (zab 3))
 zbb))
 (zk7 (SemF.l (zcc (m:=false) (k:=1) (cs:=[]) (zhk (zab 6)) (za5 0) zch (si_notV (zab 0))))))))
 (zbi (si_inB (neg:=true) (SemI.b zep) (zab 4))))))⟩
theorem zho (T:Txt K mg ad):FnOk P w K mg base CX0 1 ad.f_l_head ad.d_l_head ["_law_rows", "_law_least", "_law_most"] (spD .v K [false,false,false] F_l_head):=by
  rw [F_l_head_def]
  exact Fun.okD (N:=["_law_rows", "_law_least", "_law_most"]) T.F_l_head sc_l_head [false,false,false] rfl ziy fun cdv A outer s H E hr=>⟨_,
 (zan (zbd (zer (zb6 zg5 (zar (zau (K:=K) rfl) rfl T.z_len zbg (zaa (pv 0) zac)) zaf (za3 _)) (zer (zb6 (zce (K:=K) hr.units) (zar (zau (K:=K) rfl) rfl T.z_len zbg (zaa (zbj (zax (K:=K) rfl) (pv 0) zaf (fun _ _=>rfl)) zac)) zaf (za3 _)) (zer (zb6 zkq (zbj (zax (K:=K) rfl) (zbj (zax (K:=K) rfl) (pv 0) zaf (fun _ _=>rfl)) zaf (fun _ _=>rfl)) (pv 1) (za3 _)) (zhm (zb6 zg4 (zbj (zax (K:=K) rfl) (zbj (zax (K:=K) rfl) (pv 0) zaf (fun _ _=>rfl)) zaf (fun _ _=>rfl)) (pv 2) (za3 _)))))))),
 (zbi (zde (SemI.b (zg2 (SemI.b (zbe (zab 0))) (SemI.b zae))) (zde (SemI.b (zcu (neg:=false) (SemI.b (zbe (zbw (zab 0) (SemI.b zae)))) (SemI.b zae))) (zde (SemI.b (zkm (zbw (zbw (zab 0) (SemI.b zae)) (SemI.b zae)) (zab 1))) (zl4 (zbw (zbw (zab 0) (SemI.b zae)) (SemI.b zae)) (zab 2))))))⟩
theorem ok_l_due (T:Txt K mg ad):FnOk P w K mg base CX0 2 ad.f_l_due ad.d_l_due ["_law_at", "_law_rows"] (spD .v K [false,true] F_l_due):=by
  rw [zdf]
  exact Fun.okD (N:=["_law_at", "_law_rows", "_law_pairs", "_law_some", "_law_row"]) T.F_l_due sc_l_due [false,true] rfl zfw fun cdv A outer s H E hr=>⟨_,
 (zaj (zcl (za4 (zce (K:=K) hr.units) (pv 0) zaf (za3 _))
 (zan (zbd (zer (zaw (zho T) (hr.mono (by decide)) rfl T.m_l_head T.F_l_head.kp T.b_l_head .nil zbk (zaa (pv 1) (zaa zaf (zaa zaf zac)))) (zer (zb6 (zce (K:=K) hr.units) (zar (zau (K:=K) rfl) rfl T.z_len zbg (zaa (pv 1) zac)) zaf (za3 _)) (zer (zb6 zil (zar (zau (K:=K) rfl) rfl T.z_len zbg (zaa (zbj (zax (K:=K) rfl) (pv 1) zaf (fun _ _=>rfl)) zac)) zaf (za3 _)) (zhm (zb6 zkq (zar (zgx (K:=K) rfl rfl) rfl T.z_min zky (zaa (za1 za7 (zbj (zax (K:=K) rfl) (pv 1) zaf (fun _ _=>rfl)) (zaq (zaa zaf zac))) zac)) zaf (za3 _))))))))
 zbc)
 (zaj (zcl (za4 (zce (K:=K) hr.units) (pv 0) zaf (za3 _))
 (zaj (zcl (PW.pt (zf8 (zeg (zb8 (K:=K) rfl (zaw (zho T) (hr.mono (by decide)) rfl T.m_l_head T.F_l_head.kp T.b_l_head .nil zbk (zaa (pv 1) (zaa zaf (zaa zaf zac)))) (fun _=>rfl))) (zf8 (za4 (zha (K:=K) hr.units) (zar (zau (K:=K) rfl) rfl T.z_len zbg (zaa (pv 1) zac)) zaf (za3 _)) (zf8 (za4 zg5 (zar (zau (K:=K) rfl) rfl T.z_len zbg (zaa (zbj (zax (K:=K) rfl) (pv 1) zaf (fun _ _=>rfl)) zac)) zaf (za3 _)) (zgc (za4 zil (zar (zgx (K:=K) rfl rfl) rfl T.z_min zky (zaa (za1 za7 (zbj (zax (K:=K) rfl) (pv 1) zaf (fun _ _=>rfl)) (zaq (zaa zaf zac))) zac)) (zik zf1 zaf) (za3 _)))))))
 (zan (zbd zec))
 zbc)
 (zaj (ps_cN1 (i:=2) sc_l_due.nd rfl rfl rfl (zbq rfl T.z_range (zaa (zar (zau (K:=K) rfl) rfl T.z_len zbg (zaa (zbj (zax (K:=K) rfl) (pv 1) zaf (fun _ _=>rfl)) zac)) zac)) (ts:=["_law_k"]) (zs:=["_law_rows"]) (k:=1) (is:=[1]) rfl (.cons rfl .nil) (.cons rfl (Or.inl rfl) rfl (by first | exact Or.inl rfl | exact Or.inr rfl) .nil) rfl (zbm (by decide)) (fun _ _ _ _ _=>(pgb (by decide +kernel) rfl rfl)) (fun _ _ _ _ _=>(za4 zkq (zbj (zax (K:=K) rfl) (zbj (zax (K:=K) rfl) (pv 1) zaf (fun _ _=>rfl)) (pv 0) (fun _ _=>rfl)) zaf (za3 _))) (fun _ _ _ _ _=>(pe_tup (zaa (pv 0) (zaa (zbj (zax (K:=K) rfl) (zbj (zax (K:=K) rfl) (pv 1) zaf (fun _ _=>rfl)) (pv 0) (fun _ _=>rfl)) zac)))) rfl (by decide +kernel) rfl (by decide +kernel))
 (zan (zbd (zaw (ok_l_in_order T) (hr.mono (by decide)) rfl T.m_l_in_order T.F_l_in_order.kp T.b_l_in_order .nil zbk (zaa (zar (zau (K:=K) rfl) rfl T.z_len zbg (zaa (zbj (zax (K:=K) rfl) (pv 1) zaf (fun _ _=>rfl)) zac)) (zaa (pv 2) zac)))))))
 zbc)
 (zaj (zcl (za4 (zce (K:=K) hr.units) (pv 0) zaf (za3 _))
 (zaj (zcl (PW.pt (zf8 (zeg (zb8 (K:=K) rfl (zaw (zho T) (hr.mono (by decide)) rfl T.m_l_head T.F_l_head.kp T.b_l_head .nil zbk (zaa (pv 1) (zaa zaf (zaa zaf zac)))) (fun _=>rfl))) (zgc (za4 zg5 (zar (zau (K:=K) rfl) rfl T.z_len zbg (zaa (zmo rfl (zbv (K:=K) rfl (zb4 (zb3 (K:=K) rfl) (pv 1) (zcm zaf) zcn)) (ts:=["_law_row"]) (zs:=[]) (k:=1) (is:=[]) rfl .nil .nil rfl (zbm (by decide)) (fun _ _ _ _ _=>(pgb (by decide +kernel) rfl rfl)) (fun _ _ _ _ _=>(za4 (zha (K:=K) hr.units) (zar (zau (K:=K) rfl) rfl T.z_len zbg (zaa (pv 0) zac)) zaf (za3 _))) (fun _ _ _ _ _=>(pv 0)) rfl (by decide +kernel) rfl (by decide +kernel)) zac)) zaf (za3 _)))))
 (zan (zbd zec))
 zbc)
 (zan (zbd (zaw (ok_l_in_order T) (hr.mono (by decide)) rfl T.m_l_in_order T.F_l_in_order.kp T.b_l_in_order .nil zbk (zaa (zbj (zax (K:=K) rfl) (zbj (zax (K:=K) rfl) (pv 1) zaf (fun _ _=>rfl)) zaf (fun _ _=>rfl)) (zaa (zb4 (zb3 (K:=K) rfl) (pv 1) (zcm zaf) zcn) zac))))))
 zbc)
 (zaj (zcl (za4 (zce (K:=K) hr.units) (pv 0) zaf (za3 _))
 (zaj (zcl (PW.pt (zf8 (za4 zg5 (zar (zau (K:=K) rfl) rfl T.z_len zbg (zaa (pv 1) zac)) zaf (za3 _)) (zgc (PW.pt (zic (za4 zg5 (zar (zau (K:=K) rfl) rfl T.z_len zbg (zaa (pv 1) zac)) zaf (za3 _)) (zgd (za4 zg5 (zar (zau (K:=K) rfl) rfl T.z_len zbg (zaa (zbj (zax (K:=K) rfl) (pv 1) zaf (fun _ _=>rfl)) zac)) zaf (za3 _))))))))
 (zan (zbd zec))
 zbc)
 (zan (zbd (zb6 (zce (K:=K) hr.units) (zar (zau (K:=K) rfl) rfl T.z_len zbg (zaa (zmo rfl (zbv (K:=K) rfl (pv 1)) (ts:=["_law_row"]) (zs:=["_law_rows"]) (k:=1) (is:=[1]) rfl (.cons rfl .nil) (.cons rfl (Or.inl rfl) rfl (by first | exact Or.inl rfl | exact Or.inr rfl) .nil) rfl (zbm (by decide)) (fun _ _ _ _ _=>(pgb (by decide +kernel) rfl rfl)) (fun _ _ _ _ _=>(PW.pt (zf8 (za4 (zha (K:=K) hr.units) (zar (zau (K:=K) rfl) rfl T.z_len zbg (zaa (pv 0) zac)) (zar (zau (K:=K) rfl) rfl T.z_len zbg (zaa (zbj (zax (K:=K) rfl) (pv 1) zaf (fun _ _=>rfl)) zac)) (za3 _)) (zgc (za4 zil (zar (zgx (K:=K) rfl rfl) rfl T.z_min zky (zaa (za1 za7 (pv 0) (zaq (zaa zaf zac))) zac)) zaf (za3 _)))))) (fun _ _ _ _ _=>(pv 0)) rfl (by decide +kernel) rfl (by decide +kernel)) zac)) zaf (za3 _)))))
 zbc)
 (zaj (zbf (i:=3) sc_l_due.nd rfl (Or.inl rfl) (pv 1))
 (zaj (zcl (za4 (zce (K:=K) hr.units) (pv 0) zaf (za3 _))
 (zaj (zcl (zeg (zb8 (K:=K) rfl (zaw (zho T) (hr.mono (by decide)) rfl T.m_l_head T.F_l_head.kp T.b_l_head .nil zbk (zaa (pv 1) (zaa zaf (zaa zaf zac)))) (fun _=>rfl)))
 (zan (zbd zec))
 zbc)
 (zan (zbf (i:=3) sc_l_due.nd rfl (Or.inl rfl) (zb4 (zb3 (K:=K) rfl) (pv 1) (zcm zaf) zcn))))
 zbc)
 (zaj (zdp PassesOwn.never rfl (zbv (K:=K) rfl (pv 3)) (zb5 (i:=4) sc_l_due.nd rfl (Or.inl rfl))
 (zan (zcl (PW.pt (zf8 (za4 (zha (K:=K) hr.units) (zar (zau (K:=K) rfl) rfl T.z_len zbg (zaa (pv 4) zac)) zaf (za3 _)) (zf8 (za4 zil (zar (zgx (K:=K) rfl rfl) rfl T.z_min zky (zaa (pv 4) zac)) zaf (za3 _)) (zf8 (PW.pt (zic (za4 (zce (K:=K) hr.units) (pv 0) zaf (za3 _)) (zgd (za4 (zce (K:=K) hr.units) (zbj (zax (K:=K) rfl) (pv 4) zaf (fun _ _=>rfl)) zaf (za3 _))))) (zgc (PW.pt (zic (za4 (zce (K:=K) hr.units) (pv 0) zaf (za3 _)) (zgd (za4 zil (zbj (zax (K:=K) rfl) (pv 4) zaf (fun _ _=>rfl)) (zbj (zax (K:=K) rfl) (pv 4) zaf (fun _ _=>rfl)) (za3 _))))))))))
 (zan (zbd zec))
 zbc)))
 (zan (zbd (zb6 zg4 (zar (zau (K:=K) rfl) rfl T.z_len zbg (zaa (pv 3) zac)) (zbj (zax (K:=K) rfl) (zaq (zaa zaf (zaa zaf zac))) (zfd zhs rfl T.z_int zl0 (zaa (zb6 (zce (K:=K) hr.units) (pv 0) zaf (za3 _)) zac)) (fun _ _=>rfl)) (za3 _))))))))))),
 (zas (zci (za2 (SemI.b (zcu (neg:=false) (zab 0) (SemI.b zae))))
 (zbi (zde (SemI.b (zaz (zal (zab 1) (zal (SemI.b zae) (zal (SemI.b zae) zai))))) (zde (SemI.b (zcu (neg:=false) (SemI.b (zbe (zab 1))) (SemI.b zae))) (zde (SemI.b (zl3 (SemI.b (zbe (zbw (zab 1) (SemI.b zae)))) (SemI.b zae))) (zkm (SemI.b (zlw (SemI.b (SemF.l (zbl (zij (zam 1) (SemI.b zae)) (SemF.l (zap (n:=1) (zah zae zai) (by decide)))))))) (SemI.b zae))))))
 zbb)
 (zas (zci (za2 (SemI.b (zcu (neg:=false) (zab 0) (SemI.b zae))))
 (zas (zci (zf4 (zef (zee (K:=K) (SemI.b (zaz (zal (zab 1) (zal (SemI.b zae) (zal (SemI.b zae) zai))))))) (zf4 (za2 (SemI.b (zcu (neg:=true) (SemI.b (zbe (zab 1))) (SemI.b zae)))) (zf4 (za2 (SemI.b (zg2 (SemI.b (zbe (zbw (zab 1) (SemI.b zae)))) (SemI.b zae)))) (za2 (SemI.b (zl3 (SemI.b (zlw (SemI.b (SemF.l (zbl (zij (zam 1) (SemI.b zae)) (SemF.l (zap (n:=1) (zah zae zai) (by decide)))))))) (SemI.b (zf2 (SemI.b zae)))))))))
 (zbi zep)
 zbb)
 (zas (zk7 (SemF.l (zcc (m:=true) (k:=1) (cs:=[1]) (SemW.c (zbp (SemI.b (zbe (zbw (zab 1) (SemI.b zae)))))) (za5 0) (za2 (SemI.b (zkm (zbw (zbw (zab 1) (SemI.b zae)) (zab 0)) (SemI.b zae)))) (si_tup (n:=2) (zah (zam 0) (zah (zij (zij (zam 1) (SemI.b zae)) (zab 0)) zai)) (by decide)))))
 (zbi (zaz (zal (SemI.b (zbe (zbw (zab 1) (SemI.b zae)))) (zal (zab 2) zai))))))
 zbb)
 (zas (zci (za2 (SemI.b (zcu (neg:=false) (zab 0) (SemI.b zae))))
 (zas (zci (zf4 (zef (zee (K:=K) (SemI.b (zaz (zal (zab 1) (zal (SemI.b zae) (zal (SemI.b zae) zai))))))) (za2 (SemI.b (zg2 (SemI.b (zbe (SemI.b (SemF.l (zcc (m:=true) (k:=1) (cs:=[]) (SemW.c (zdx (SemF.l (zfb (zam 1) (zcj (SemI.b zae)) zck)))) (za5 0) (za2 (SemI.b (zcu (neg:=true) (SemI.b (zbe (zab 0))) (SemI.b zae)))) (zam 0)))))) (SemI.b zae)))))
 (zbi zep)
 zbb)
 (zbi (zaz (zal (zbw (zbw (zab 1) (SemI.b zae)) (SemI.b zae)) (zal (SemI.b (SemF.l (zfb (zam 1) (zcj (SemI.b zae)) zck))) zai)))))
 zbb)
 (zas (zci (za2 (SemI.b (zcu (neg:=false) (zab 0) (SemI.b zae))))
 (zas (zci (zf4 (za2 (SemI.b (zg2 (SemI.b (zbe (zab 1))) (SemI.b zae)))) (zh8 (za2 (SemI.b (zg2 (SemI.b (zbe (zab 1))) (SemI.b zae)))) (za2 (SemI.b (zg2 (SemI.b (zbe (zbw (zab 1) (SemI.b zae)))) (SemI.b zae))))))
 (zbi zep)
 zbb)
 (zbi (zcu (neg:=false) (SemI.b (zbe (SemI.b (SemF.l (zcc (m:=true) (k:=1) (cs:=[1]) (SemW.c (zdx (zam 1))) (za5 0) (zf4 (za2 (SemI.b (zcu (neg:=true) (SemI.b (zbe (zab 0))) (SemI.b (zbe (zbw (zab 1) (SemI.b zae))))))) (za2 (SemI.b (zl3 (SemI.b (zlw (SemI.b (SemF.l (zbl (zam 0) (SemF.l (zap (n:=1) (zah zae zai) (by decide)))))))) (SemI.b zae))))) (zam 0)))))) (SemI.b zae))))
 zbb)
 (zas (zbu (zam 1))
 (zas (zci (za2 (SemI.b (zcu (neg:=false) (zab 0) (SemI.b zae))))
 (zas (zci (zef (zee (K:=K) (SemI.b (zaz (zal (zab 1) (zal (SemI.b zae) (zal (SemI.b zae) zai)))))))
 (zbi zep)
 zbb)
 (zbu (SemF.l (zfb (zam 1) (zcj (SemI.b zae)) zck))))
 zbb)
 (zas (zdo (m:=true) (zdx (zam 3)) (za5 4)
 (zci (zf4 (za2 (SemI.b (zcu (neg:=true) (SemI.b (zbe (zab 4))) (SemI.b zae)))) (zf4 (za2 (SemI.b (zl3 (SemI.b (zlw (zab 4))) (SemI.b zae)))) (zf4 (zh8 (za2 (SemI.b (zcu (neg:=false) (zab 0) (SemI.b zae)))) (za2 (SemI.b (zcu (neg:=false) (zbw (zab 4) (SemI.b zae)) (SemI.b zae))))) (zh8 (za2 (SemI.b (zcu (neg:=false) (zab 0) (SemI.b zae)))) (za2 (SemI.b (zl3 (zbw (zab 4) (SemI.b zae)) (zbw (zab 4) (SemI.b zae)))))))))
 (zbi zep)
 zbb))
 (zbi (zl4 (SemI.b (zbe (zab 3))) (zbw (SemI.b (SemF.l (zap (n:=2) (zah zae (zah zae zai)) (by decide)))) (SemI.b (zj9 (SemI.b (zcu (neg:=false) (zab 0) (SemI.b zae)))))))))))))))⟩
theorem ok_law (T:Txt K mg ad):FnOk P w K mg base CX0 4 ad.f_law ad.d_law ["_law_script"] (spD .v K [false] F_law):=by
  rw [F_law_def]
  exact Fun.okD (N:=["_law_script", "_law_found", "_law_cell", "_law_at", "_law_rows", "_law_bent_here", "_law_handed", "_law_right"]) T.F_law sc_law [false] rfl zm4 fun cdv A outer s H E hr=>⟨_,
 (zaj (zbf (i:=1) sc_law.nd rfl (Or.inl rfl) (pe_call0 (ok_kinds T) (hr.mono (by decide)) rfl T.m_kinds T.F_kinds.kp T.b_kinds .nil zbk))
 (zaj (zdp PassesOwn.never rfl (zbv (K:=K) rfl (za1 za7 (zaq (zaa zaf zac)) (zb4 (zb3 (K:=K) rfl) (pv 0) zcn (zcm zaf)))) (zb5 (i:=2) sc_law.nd rfl (Or.inl rfl))
 (zaj (zbf (i:=3) sc_law.nd rfl (Or.inl rfl) (za1 zc4 (pv 2) zaf))
 (zaj (zbf (i:=4) sc_law.nd rfl (Or.inl rfl) (zaw (ok_l_good T) (hr.mono (by decide)) rfl T.m_l_good T.F_l_good.kp T.b_l_good .nil zbk (zaa (pv 3) (zaa (pv 2) zac))))
 (zaj (zbf (i:=5) sc_law.nd rfl (Or.inl rfl) (zaw (ok_l_bent T) (hr.mono (by decide)) rfl T.m_l_bent T.F_l_bent.kp T.b_l_bent .nil zbk (zaa (pv 3) (zaa (zey rfl (zbv (K:=K) rfl (pv 4)) (ts:=["_law_row"]) (zs:=[]) (k:=1) (is:=[]) rfl .nil .nil rfl (zbm (by decide)) (fun _ _ _ _ _=>(pgb (by decide +kernel) rfl rfl)) (fun _ _ _ _ _=>(zfd (call_list_ofK (K:=K) rfl) rfl T.z_list bt_list (zaa (pv 0) zac))) rfl (by decide +kernel) rfl (by decide +kernel)) (zaa (pv 2) zac)))))
 (zaj (zcl (za4 (zce (K:=K) hr.units) (za1 zc4 (zaw (zca T) (hr.mono (by decide)) rfl T.m_l_mix T.F_l_mix.kp T.b_l_mix .nil zbk (zaa (pv 2) (zaa zaf zac))) zaf) zaf (za3 _))
 (zan (zbf (i:=4) sc_law.nd rfl (Or.inl rfl) (zbj (zax (K:=K) rfl) (pv 5) (za1 zc4 (zaw (zca T) (hr.mono (by decide)) rfl T.m_l_mix T.F_l_mix.kp T.b_l_mix .nil zbk (zaa (pv 2) (zaa zaf zac))) (zar (zau (K:=K) rfl) rfl T.z_len zbg (zaa (pv 5) zac))) (fun _ _=>rfl))))
 zbc)
 (zaj (zkp (i:=6) sc_law.nd rfl rfl rfl (zbv (K:=K) rfl (pv 4)) (ts:=["_law_row"]) (zs:=[]) (k:=1) (is:=[]) rfl .nil .nil rfl (zbm (by decide)) (fun _ _ _ _ _=>(pgb (by decide +kernel) rfl rfl)) (fun _ _ _ _ _=>(zfd (call_list_ofK (K:=K) rfl) rfl T.z_list bt_list (zaa (pv 0) zac))) rfl (by decide +kernel) rfl (by decide +kernel))
 (zaj (zbf (i:=7) sc_law.nd rfl (Or.inl rfl) (pe_methD (tbl:=spT K [true] [(596,F_Alike_fits),(655,F_Open_fits),(714,F_Tails_fits),(771,F_Windows_fits),(891,F_Tree_fits),(955,F_Pairs_fits)]) (zbj (zax (K:=K) rfl) (pv 1) (pv 3) (fun _ _=>rfl)) (.cons T.ki_Alike.cl T.t_Alike_fits (ok_Alike_fits T) (hr.mono (by decide)) T.b_Alike_fits (.cons T.ki_Open.cl T.t_Open_fits (ok_Open_fits T) (hr.mono (by decide)) T.b_Open_fits (.cons T.ki_Tails.cl T.t_Tails_fits (ok_Tails_fits T) (hr.mono (by decide)) T.b_Tails_fits (.cons T.ki_Windows.cl T.t_Windows_fits (ok_Windows_fits T) (hr.mono (by decide)) T.b_Windows_fits (.cons T.ki_Tree.cl T.t_Tree_fits (ok_Tree_fits T) (hr.mono (by decide)) T.b_Tree_fits (.cons T.ki_Pairs.cl T.t_Pairs_fits (ok_Pairs_fits T) (hr.mono (by decide)) T.b_Pairs_fits .nil)))))) (zaa (pv 6) zac)))
 (zan (zcl (PW.pt (zf8 (zeg (zb8 (K:=K) rfl (zar (call_isiK (K:=K) rfl) rfl T.z_isinstance bt_isinstance (zaa (pv 7) (zaa (pe_bltn (v:=.ty "bool") rfl T.z_bool bt_bool rfl) zac))) (fun _=>rfl))) (zf8 (za4 (zha (K:=K) hr.units) (pv 7) (zaw (ok_l_due T) (hr.mono (by decide)) rfl T.m_l_due T.F_l_due.kp T.b_l_due .nil zbk (zaa (pv 3) (zaa (pv 4) zac))) (za3 _)) (zgc (za4 (zha (K:=K) hr.units) (pv 6) (pv 4) (za3 _))))))
 (zan (zbd zec))
 zbc)))))))))
 (zan (zbd zec)))),
 (zas (zbu (zaz zai))
 (zas (zdo (m:=true) (zdx (SemF.l (zbl (SemF.l (zap (n:=1) (zah zae zai) (by decide))) (SemF.l (sf_slB (zab 0) zck (zcj (SemI.b zae))))))) (za5 2)
 (zas (zbu (zc3 (zab 2) (SemI.b zae)))
 (zas (zbu (zaz (zal (zab 3) (zal (zab 2) zai))))
 (zas (zbu (zaz (zal (zab 3) (zah (SemF.l (zcc (m:=true) (k:=1) (cs:=[]) (SemW.c (zdx (zam 4))) (za5 0) zch (SemF.l (sf_list (zam 0))))) (zal (zab 2) zai)))))
 (zas (zci (za2 (SemI.b (zcu (neg:=false) (SemI.b (zc3 (SemI.b (zaz (zal (zab 2) (zal (SemI.b zae) zai)))) (SemI.b zae))) (SemI.b zae))))
 (zbu (zij (zam 5) (SemI.b (zc3 (SemI.b (zaz (zal (zab 2) (zal (SemI.b zae) zai)))) (SemI.b (zbe (zab 5)))))))
 zbb)
 (zas (zk7 (SemF.l (zcc (m:=true) (k:=1) (cs:=[]) (SemW.c (zdx (zam 4))) (za5 0) zch (SemF.l (sf_list (zam 0))))))
 (zas (zbu (si_meth (ms:=[true]) (tbl:=[(596,F_Alike_fits),(655,F_Open_fits),(714,F_Tails_fits),(771,F_Windows_fits),(891,F_Tree_fits),(955,F_Pairs_fits)]) (zbw (zab 1) (zab 3)) (zah (zam 6) zai)))
 (zci (zf4 (zef (zee (K:=K) (SemI.b (si_isi (n := "bool") (zab 7))))) (zf4 (za2 (SemI.b (zcu (neg:=true) (zab 7) (SemI.b (zaz (zal (zab 3) (zah (zam 4) zai))))))) (za2 (SemI.b (zcu (neg:=true) (zab 6) (zab 4))))))
 (zbi zep)
 zbb))))))))
 (zbi zep)))⟩
end
local macro_rules | `(tactic| walk_at "sd")=>`(tactic| first | assumption | omega | decide | (simp only [List.length_map,List.length_cons,List.length_nil]; omega) | ((with_reducible apply And.intro) <;> walk_at "sd"))
local macro_rules | `(tactic| walk_at "fn")=>`(tactic| assumption)
local macro_rules | `(tactic| walk_at "ix")=>`(tactic| first | exact ixS (by omega) (by omega) | exact ixI (by omega) (by omega) | exact ix2I _ _ _ | exact ix3I _ _ _ _ | exact ix4I _ _ _ _ _ | rfl)
local macro_rules | `(tactic| walk_at "ev")=>`(tactic| first
  | ((with_reducible first | apply zcg | apply zgg | apply ev_lt | apply ev_le | apply ev_gt | apply ev_ge | apply ev_max2 | apply ev_min2 | apply ev_cons | apply ev_eqF | apply zjg); (· walk_at "ev"); (· walk_at "ev"))
  | ((with_reducible first | apply zfi | apply ev_t | apply ev_not | apply zlg | apply ev_lst | apply zms | apply zds); (· walk_at "ev"))
  | ((with_reducible first | apply ev_tru | apply zfp | apply ev_f1 | apply ev_asL | apply zmu); (· walk_at "ev"); (· rfl))
  | ((with_reducible first | apply ev_and | apply ev_or | apply ev_andV | apply zmt); (· walk_at "ev"); (· intro _; walk_at "ev"))
  | ((with_reducible first | show dVar _ _=_ | show zat _ _=_ | show zjq _ _=_ | show dC _ _=_ | show dNil _=_ | show zd1 _=_ | show zdd _=_); rfl)
  | ((with_reducible apply ev_ix); (· walk_at "ev"); (· walk_at "ev"); (· walk_at "ix"))
  | ((with_reducible apply ev_call); (· walk_at "ev"); (· walk_at "fn"))
  | ((with_reducible first | apply ev_chain | apply zku); (· walk_at "ev"); (· walk_at "ev"); (· walk_at "ev"))
  | ((with_reducible apply zif); (· walk_at "ev"); (· walk_at "ev"); (· first | assumption | (apply imul; omega)))
  | ((with_reducible apply zli); (· walk_at "ev"); (· walk_at "ev"); (· first | exact fdok (by omega) (by omega) | walk_at "sd"))
  | ((with_reducible first | apply zcw | apply ev_rg2); (· walk_at "ev"); (· walk_at "ev"); (· walk_at "sd"))
  | ((with_reducible apply zkv); (· walk_at "ev"); (· walk_at "sd"))
  | ((with_reducible apply ev_rep); (· walk_at "ev"); (· walk_at "ev"); (· simp only [List.length_cons,List.length_nil]; walk_at "sd")))
local macro_rules | `(tactic| walk_at "st")=>`(tactic| dsimp only [List.set_cons_succ,List.set_cons_zero])
local macro_rules | `(tactic| walk_at "go")=>`(tactic| ((try dsimp only); walk_at "go1"))
local macro_rules | `(tactic| walk_at "go1")=>`(tactic| first
  | ((with_reducible apply wp_seq); walk_at "go")
  | ((with_reducible apply zg6); dsimp only [frz,List.getD_cons_succ,List.getD_cons_zero,List.set_cons_succ,List.set_cons_zero]; walk_at "go")
  | ((with_reducible apply zbr); (· walk_at "ev"); walk_at "st"; walk_at "go")
  | ((with_reducible apply zdu); (· walk_at "ev"); (· simp only [List.length_cons,List.length_nil]; omega); walk_at "st"; walk_at "go")
  | ((with_reducible apply wp_aug); (· rfl); (· walk_at "ev"); walk_at "st"; walk_at "go")
  | ((with_reducible apply wp_pass); (try dsimp only); walk_at "go")
  | skip)
def lsD (l:List Int):D:=.lst (l.map D.int)
def rowsD (rs:List (List Int)):D:=.lst (rs.map lsD)
theorem lenLs (r:List Int):lenD (lsD r)=some (.int r.length):=by show some (D.int ((r.map D.int).length:Nat))=_; rw [List.length_map]
theorem lenRs (rs:List (List Int)):lenD (rowsD rs)=some (.int rs.length):=by show some (D.int ((rs.map lsD).length:Nat))=_; rw [List.length_map]
theorem all_ev {bs:List Bool}:allD (.lst (bs.map D.bl))=some (.bl (bs.all id)):=by
  show (trus _).map _=_
  rw [zj6]; rfl
theorem ev_neSame {a b:DE} {ρ:Rho} {d:D} (ha:a ρ=some d) (hb:b ρ=some d) (h:cmpb 20 d d=true):dEq true a b ρ=some (.bl false):=by
  rw [ev_eq ha hb h,if_pos rfl]; simp
def t1 (h:List Int) (lo hi:Int):Bool:=decide (h.length=1)&&(decide (lo≤h.getD 0 0)&&decide (h.getD 0 0≤hi))
def nb (r:List Int):Bool:=r.all fun v=>decide (0≤v)
theorem dec_len (n k:Nat):decide ((n:Int)=(k:Int))=decide (n=k):=by rw [Bool.eq_iff_iff]; simp; omega
theorem tells_one (h:List Int) (lo hi:Int):F_tells_one [lsD h,.int lo,.int hi]=some (.bl (t1 h lo hi)):=by
  refine run_eqF F_tells_one_def ?_
  rw [st_tells_one]
  unfold zfv t1
  refine wp_ret (ev_andV (x:=decide (h.length=1)) (y:=decide (lo≤h.getD 0 0)&&decide (h.getD 0 0≤hi)) ?_ fun c=>?_) rfl
  · rw [ev_eqF (ev_f1 rfl (lenLs h)) rfl,show (1:Int)=((1:Nat):Int) from rfl,dec_len]
  · have c:=of_decide_eq_true c
    exact ev_chain (i:=lo) (j:=h.getD 0 0) (k:=hi) rfl (ev_ix rfl rfl (ixI (by omega) (by omega))) rfl
theorem none_below (r:List Int):F_none_below [lsD r,.int 0]=some (.bl (nb r)):=by
  refine run_eqF F_none_below_def ?_
  rw [st_none_below]
  unfold ze4
  refine wp_ret (ev_f1 (ev_lst (ds:=(r.map fun v=>decide (0≤v)).map D.bl) ?_) all_ev) ?_
  · rw [List.map_map]
    exact ev_compA0 D.int (ev_asL rfl rfl) _ fun v _=>⟨_,rfl,ev_ge rfl rfl⟩
  · unfold nb
    rw [List.all_map]
    rfl
theorem zd8 {rs:List (List Int)} {k:Nat} {r:List Int} (h:rs[k]?=some r):ixD (rowsD rs) (k:Int)=some (lsD r):=by
  have hk:=(List.getElem?_eq_some_iff.mp h).1
  show atI (rs.map lsD) (k:Int)=_
  unfold atI
  rw [List.length_map,zjz (by omega) (by omega)]
  show (rs.map lsD)[(k:Int).toNat]?=_
  rw [List.getElem?_map,Int.toNat_natCast,h]
  rfl
def hd (rs:List (List Int)) (lo hi:Int):Bool:=match rs with
  | []=>false
  | h::_=>t1 h lo hi
theorem l_head (rs:List (List Int)) (lo hi:Int):F_l_head [rowsD rs,.int lo,.int hi]=some (.bl (hd rs lo hi)):=by
  refine run_eqF F_l_head_def ?_
  rw [st_l_head]
  unfold ziy
  cases rs with
  | nil=>exact wp_ret (ev_andV (x:=false) (y:=false) ((ev_gt (ev_f1 rfl (lenRs [])) rfl).trans rfl) fun c=>by cases c) rfl
  | cons h t =>
    have e:∀ ρ:Rho,dVar 0 ρ=some (rowsD (h::t))→dIx (dVar 0) (dC (.int 0)) ρ=some (lsD h):=fun ρ q=>ev_ix q rfl (zd8 (rs:=h::t) (k:=0) rfl)
    refine wp_ret (ev_andV (x:=true) (y:=t1 h lo hi) ?_ fun _=>?_) rfl
    · rw [ev_gt (ev_f1 rfl (lenRs (h::t))) rfl]
      simp
    · unfold t1
      refine ev_andV (x:=decide (h.length=1)) ?_ fun c=>?_
      · rw [ev_eqF (ev_f1 (e _ rfl) (lenLs h)) rfl,show (1:Int)=((1:Nat):Int) from rfl,dec_len]
      · have c:=of_decide_eq_true c
        have e0:∀ ρ:Rho,dVar 0 ρ=some (rowsD (h::t))→dIx (dIx (dVar 0) (dC (.int 0))) (dC (.int 0)) ρ=some (.int (h.getD 0 0)):=fun ρ q=>ev_ix (e ρ q) rfl (ixI (by omega) (by omega))
        exact ev_andV (ev_ge (e0 _ rfl) rfl) fun _=>ev_le (e0 _ rfl) rfl
def mn (r:List Int):Int:=match r++[0] with
  | []=>0
  | x::t=>minL x t
theorem mn_lt {r:List Int} {c:Int} (hc:c≤0):mn r<c↔∃ v∈r,v<c:=by
  unfold mn
  cases e:r++[0] with
  | nil=>simp at e
  | cons x t =>
    dsimp only
    obtain ⟨h1,h2⟩:=minL_spec t x
    rw [← e] at h1 h2
    constructor
    · intro h
      rcases List.mem_append.mp h1 with q | q
      · exact ⟨_,q,h⟩
      · rw [List.mem_singleton.mp q] at h; omega
    · rintro ⟨v,hv,h⟩
      have:=h2 v (List.mem_append_left _ hv)
      omega
theorem mn_nb (r:List Int):decide (0≤mn r)=nb r:=by
  unfold nb
  rw [Bool.eq_iff_iff,decide_eq_true_iff,List.all_eq_true]
  have:=mn_lt (r:=r) (c:=0) (by omega)
  constructor
  · intro h v hv
    refine decide_eq_true (Decidable.byContradiction fun z=>?_)
    have:=this.mpr ⟨v,hv,by omega⟩
    omega
  · intro h
    refine Decidable.byContradiction fun z=>?_
    obtain ⟨v,hv,q⟩:=this.mp (by omega)
    have:=of_decide_eq_true (h v hv)
    omega
theorem zmq {r:List Int} {ρ:Rho} {a:DE} (hr:r.length≤1000) (ha:a ρ=some (lsD r)):dF1 minD (dLst (dCat a (dLst (zag (dC (.int 0)) dNil)))) ρ=some (.int (mn r)):=by
  have hline:sizeLine=16777216:=sizeLine_eq
  refine ev_f1 (ev_lst (zig (xs:=r.map D.int) (ys:=[.int 0]) ha rfl (by rw [List.length_map]; simp; omega))) ?_
  rw [show r.map D.int++[D.int 0]=(r++[0]).map D.int by rw [List.map_append]; rfl]
  show (ze2 ((r++[0]).map D.int)).bind _=_
  rw [zgy]
  unfold mn
  cases e:r++[0] with
  | nil=>simp at e
  | cons x t=>rfl
def fit0 (rs:List (List Int)):Bool:=match rs with
  | [h,r]=>t1 h 1 20&&(decide (r.length≤20)&&nb r)
  | _=>false
theorem fit0_no {rs:List (List Int)} (h:rs.length≠2):fit0 rs=false:=by
  match rs,h with
  | [],_=>rfl
  | [_],_=>rfl
  | [_,_],h=>exact absurd rfl h
  | _::_::_::_,_=>rfl
theorem two_of {rs:List (List Int)} (h:rs.length=2):∃ a b,rs=[a,b]:=by
  match rs,h with
  | [a,b],_=>exact ⟨a,b,rfl⟩
theorem len_ne {rs:List (List Int)} {ρ:Rho} {a:DE} (ha:a ρ=some (rowsD rs)) (k:Nat):dT (dEq true (dF1 lenD a) (dC (.int (k:Int)))) ρ=some (decide (rs.length≠k)):=by
  refine ev_t ?_
  rw [zjg (ev_f1 ha (lenRs rs)) rfl]
  congr 2
  rw [Bool.eq_iff_iff]
  simp
  omega
theorem alike_fits (s:D) (rs:List (List Int)):F_Alike_fits [s,rowsD rs]=some (.bl (fit0 rs)):=by
  refine run_eqF F_Alike_fits_def ?_
  rw [st_Alike_fits]
  unfold ze8
  by_cases h2:rs.length=2
  · obtain ⟨h,r,rfl⟩:=two_of h2
    have e1:=tells_one h 1 20
    cases c:t1 h 1 20 with
    | false =>
      rw [c] at e1
      refine wp_seq (wp_ifT (ev_or (x:=false) (y:=true) ((len_ne rfl 2).trans rfl) fun _=>ev_not (x:=false) (ev_tru (ev_call (ev_cons (ev_ix rfl rfl (zd8 (rs:=[h,r]) (k:=0) rfl)) (ev_cons rfl (ev_cons rfl rfl))) e1) rfl)) (wp_ret rfl ?_))
      show D.bl false=D.bl (t1 h 1 20&&_)
      rw [c]; rfl
    | true =>
      rw [c] at e1
      refine wp_seq (wp_ifF (ev_or (x:=false) (y:=false) ((len_ne rfl 2).trans rfl) fun _=>ev_not (x:=true) (ev_tru (ev_call (ev_cons (ev_ix rfl rfl (zd8 (rs:=[h,r]) (k:=0) rfl)) (ev_cons rfl (ev_cons rfl rfl))) e1) rfl)) (wp_pass ?_))
      have er:∀ ρ:Rho,dVar 1 ρ=some (rowsD [h,r])→dIx (dVar 1) (dC (.int 1)) ρ=some (lsD r):=fun ρ q=>ev_ix q rfl (zd8 (rs:=[h,r]) (k:=1) rfl)
      refine wp_ret (ev_andV (x:=decide (r.length≤20)) (y:=nb r) ?_ fun _=>ev_call (ev_cons (er _ rfl) (ev_cons rfl rfl)) (none_below r)) ?_
      · rw [ev_le (ev_f1 (er _ rfl) (lenLs r)) rfl]
        congr 2
        rw [Bool.eq_iff_iff]
        simp
        omega
      · show D.bl _=D.bl (t1 h 1 20&&_)
        rw [c]; rfl
  · refine wp_seq (wp_ifT (ev_or (x:=true) (y:=false) ((len_ne rfl 2).trans (by rw [decide_eq_true h2])) fun c=>by cases c) (wp_ret rfl ?_))
    rw [fit0_no h2]
theorem due0 (rs:List (List Int)) (hb:∀ r∈rs,r.length≤1000):F_l_due [.int 0,rowsD rs]=some (.bl (fit0 rs)):=by
  refine run_eqF zdf ?_
  rw [zgk]
  unfold zfw
  refine wp_seq (wp_ifT (ev_t ((ev_eqF rfl rfl).trans rfl)) ?_)
  by_cases h2:rs.length=2
  · obtain ⟨h,r,rfl⟩:=two_of h2
    have er:∀ ρ:Rho,dVar 1 ρ=some (rowsD [h,r])→dIx (dVar 1) (dC (.int 1)) ρ=some (lsD r):=fun ρ q=>ev_ix q rfl (zd8 (rs:=[h,r]) (k:=1) rfl)
    refine wp_ret (ev_andV (x:=t1 h 1 20) (y:=decide (r.length≤20)&&nb r) (ev_call (ev_cons rfl (ev_cons rfl (ev_cons rfl rfl))) (l_head [h,r] 1 20)) fun _=>ev_andV (x:=true) ((ev_eqF (ev_f1 rfl (lenRs [h,r])) rfl).trans rfl) fun _=>ev_andV (x:=decide (r.length≤20)) ?_ fun _=>?_) rfl
    · rw [ev_lt (ev_f1 (er _ rfl) (lenLs r)) rfl]
      congr 2
      rw [Bool.eq_iff_iff]
      simp
      omega
    · rw [← mn_nb]
      exact ev_ge (zmq (hb r (by simp)) (ev_ix rfl rfl (zd8 (rs:=[h,r]) (k:=1) rfl))) rfl
  · refine wp_ret (ev_andV (x:=hd rs 1 20) (y:=false) (ev_call (ev_cons rfl (ev_cons rfl (ev_cons rfl rfl))) (l_head rs 1 20)) fun _=>ev_andV (x:=false) (y:=false) ?_ fun c=>by cases c) ?_
    · rw [ev_eqF (ev_f1 rfl (lenRs rs)) rfl,show (2:Int)=((2:Nat):Int) from rfl,dec_len,decide_eq_false h2]
    · rw [fit0_no h2,Bool.and_false]
def g1 (n:Nat) (r:List Int):Bool:=decide (r.length=n)&&(decide (r.length≤6)&&nb r)
def fit1 (rs:List (List Int)):Bool:=decide (rs.length≤6)&&rs.all (g1 (rs.headD []).length)
theorem zkr {rs:List (List Int)} {ρ:Rho} {a:DE} (ha:a ρ=some (rowsD rs)) (k:Nat):dT (dGt (dF1 lenD a) (dC (.int (k:Int)))) ρ=some (decide (k<rs.length)):=by
  refine ev_t ?_
  rw [ev_gt (ev_f1 ha (lenRs rs)) rfl]
  congr 2
  rw [Bool.eq_iff_iff]
  simp
theorem zi6 {r:List Int} {ρ:Rho} {a:DE} (ha:a ρ=some (lsD r)) (k:Nat):dT (dGt (dF1 lenD a) (dC (.int (k:Int)))) ρ=some (decide (k<r.length)):=by
  refine ev_t ?_
  rw [ev_gt (ev_f1 ha (lenLs r)) rfl]
  congr 2
  rw [Bool.eq_iff_iff]
  simp
theorem rlen_le {r:List Int} {ρ:Rho} {a:DE} (ha:a ρ=some (lsD r)) (k:Nat):dLe (dF1 lenD a) (dC (.int (k:Int))) ρ=some (.bl (decide (r.length≤k))):=by
  rw [ev_le (ev_f1 ha (lenLs r)) rfl]
  congr 2
  rw [Bool.eq_iff_iff]
  simp
theorem zla {r:List Int} {ρ:Rho} {a:DE} (ha:a ρ=some (lsD r)) (k:Nat):dEq false (dF1 lenD a) (dC (.int (k:Int))) ρ=some (.bl (decide (r.length=k))):=by
  rw [ev_eqF (ev_f1 ha (lenLs r)) rfl,dec_len]
theorem zk9 {r:List Int} {ρ:Rho} {a:DE} (ha:a ρ=some (lsD r)) (k:Nat):dT (dEq true (dF1 lenD a) (dC (.int (k:Int)))) ρ=some (decide (r.length≠k)):=by
  refine ev_t ?_
  rw [zjg (ev_f1 ha (lenLs r)) rfl]
  congr 2
  rw [Bool.eq_iff_iff]
  simp
  omega
theorem ze0 {rs:List (List Int)} (h:rs≠[]) {ρ:Rho} {a:DE} (ha:a ρ=some (rowsD rs)):dIx a (dC (.int 0)) ρ=some (lsD (rs.headD [])):=by
  cases rs with
  | nil=>exact absurd rfl h
  | cons x t=>exact ev_ix ha rfl (zd8 (rs:=x::t) (k:=0) rfl)
theorem open_fits (s:D) (rs:List (List Int)):F_Open_fits [s,rowsD rs]=some (.bl (fit1 rs)):=by
  refine run_eqF F_Open_fits_def ?_
  rw [st_Open_fits]
  unfold zfy fit1
  refine wp_seq (zjr (zkr rfl 6) (fun c=>?_) fun c=>wp_pass ?_)
  · refine wp_ret rfl ?_
    rw [decide_eq_false (by omega)]
    rfl
  · rw [decide_eq_true (by omega),Bool.true_and]
    refine wp_ret (ev_f1 (ev_lst (ds:=(rs.map (g1 (rs.headD []).length)).map D.bl) ?_) all_ev) ?_
    · rw [List.map_map]
      refine ev_compA0 lsD (ev_asL rfl rfl) _ fun r hr=>⟨_,rfl,?_⟩
      have hne:rs≠[]:=fun z=>by rw [z] at hr; cases hr
      refine ev_andV (x:=decide (r.length=(rs.headD []).length)) ?_ fun _=>ev_andV (rlen_le rfl 6) fun _=>ev_call (ev_cons rfl (ev_cons rfl rfl)) (none_below r)
      rw [ev_eqF (ev_f1 rfl (lenLs r)) (ev_f1 (ze0 hne rfl) (lenLs _)),dec_len]
    · rw [List.all_map]
      rfl
theorem min_neg {r:List Int} {ρ:Rho} {a:DE} (hr:r.length≤1000) (ha:a ρ=some (lsD r)):dT (dLt (dF1 minD (dLst (dCat a (dLst (zag (dC (.int 0)) dNil))))) (dC (.int 0))) ρ=some (!nb r):=by
  refine ev_t ?_
  rw [ev_lt (zmq hr ha) rfl,← mn_nb]
  congr 2
  rw [Bool.eq_iff_iff]
  simp
theorem due1 (rs:List (List Int)) (hl:rs.length≤1000) (hb:∀ r∈rs,r.length≤1000):F_l_due [.int 1,rowsD rs]=some (.bl (fit1 rs)):=by
  refine run_eqF zdf ?_
  rw [zgk]
  unfold zfw
  refine wp_seq (wp_ifF (ev_t ((ev_eqF rfl rfl).trans rfl)) (wp_pass ?_))
  refine wp_seq (wp_ifF (ev_t ((ev_eqF rfl rfl).trans rfl)) (wp_pass ?_))
  refine wp_seq (wp_ifF (ev_t ((ev_eqF rfl rfl).trans rfl)) (wp_pass ?_))
  refine wp_seq (wp_ifT (ev_t ((ev_eqF rfl rfl).trans rfl)) ?_)
  refine wp_seq (zfl (ev_or (zkr rfl 6) fun _=>ev_and (x:=decide (0<rs.length)) (y:=decide (6<(rs.headD []).length)) (zkr rfl 0) fun c=>zi6 (ze0 (fun z=>by rw [z] at c; cases c) rfl) 6) (fun c=>wp_ret rfl ?_) fun c=>wp_pass ?_)
  · unfold fit1
    show D.bl false=_
    congr 1
    symm
    rw [Bool.and_eq_false_iff]
    rw [Bool.or_eq_true,Bool.and_eq_true,decide_eq_true_iff,decide_eq_true_iff,decide_eq_true_iff] at c
    rcases c with c | ⟨c1,c2⟩
    · exact .inl (decide_eq_false (by omega))
    · refine .inr ?_
      cases rs with
      | nil=>cases c1
      | cons x t =>
        rw [List.all_cons]
        unfold g1
        rw [show decide (x.length≤6)=false from decide_eq_false (by show ¬ _; have:6<x.length:=c2; omega)]
        simp
  · rw [Bool.or_eq_false_iff,Bool.and_eq_false_iff,decide_eq_false_iff_not,decide_eq_false_iff_not,decide_eq_false_iff_not] at c
    refine wp_ret (d:=.bl (decide ((rs.filter fun r=>!(g1 (rs.headD []).length r)).length=0))) ?_ ?_
    · rw [← dec_len]
      refine ev_eqF (ev_f1 (ev_lst (ds:=(rs.filter fun r=>!(g1 (rs.headD []).length r)).map lsD) ?_) ?_) rfl
      · refine ev_compA lsD (ev_asL rfl rfl) (fun r=>!(g1 (rs.headD []).length r)) lsD fun r hr=>⟨_,rfl,?_,fun _=>rfl⟩
        have hne:rs≠[]:=fun z=>by rw [z] at hr; cases hr
        have h6:(rs.headD []).length≤6:=by
          rcases c.2 with z | z
          · exact absurd (List.length_pos_iff.mpr hne) z
          · omega
        rw [ev_or (x:=decide (r.length≠(rs.headD []).length)) (y:=!nb r) ?_ fun _=>min_neg (hb r hr) rfl]
        · unfold g1
          congr 1
          by_cases e:r.length=(rs.headD []).length
          · rw [decide_eq_true e,decide_eq_true (show r.length≤6 by omega),decide_eq_false (by simpa using e)]
            simp
          · rw [decide_eq_false e,decide_eq_true e]
            simp
        · refine ev_t ?_
          rw [zjg (ev_f1 rfl (lenLs r)) (ev_f1 (ze0 hne rfl) (lenLs _))]
          congr 2
          rw [Bool.eq_iff_iff]
          simp
          omega
      · show some (D.int ((List.map lsD _).length:Nat))=_
        rw [List.length_map]
    · unfold fit1
      rw [decide_eq_true (by omega),Bool.true_and]
      congr 1
      rw [Bool.eq_iff_iff,decide_eq_true_iff,List.length_eq_zero_iff,List.filter_eq_nil_iff,List.all_eq_true]
      constructor
      · intro h r hr
        have:=h r hr
        simpa using this
      · intro h r hr
        rw [h r hr]
        exact Bool.false_ne_true
def g2 (r:List Int):Bool:=decide (r.length=3)&&(nb r&&decide (1≤r.getD 1 0))
def fit2 (rs:List (List Int)):Bool:=decide (rs.length≤12)&&rs.all g2
theorem zid {r:List Int} {ρ:Rho} {a:DE} (ha:a ρ=some (lsD r)) {k:Nat} (hk:k<r.length):dIx a (dC (.int (k:Int))) ρ=some (.int (r.getD k 0)):=ev_ix ha rfl (ixI (by omega) (by omega))
theorem tails_fits (s:D) (rs:List (List Int)):F_Tails_fits [s,rowsD rs]=some (.bl (fit2 rs)):=by
  refine run_eqF F_Tails_fits_def ?_
  rw [st_Tails_fits]
  unfold ze6 fit2
  refine wp_ret (ev_andV (x:=decide (rs.length≤12)) (y:=rs.all g2) ?_ fun _=>?_) rfl
  · rw [ev_le (ev_f1 rfl (lenRs rs)) rfl]
    congr 2
    rw [Bool.eq_iff_iff]
    simp
    omega
  · refine (ev_f1 (ev_lst (ds:=(rs.map g2).map D.bl) ?_) all_ev).trans ?_
    · rw [List.map_map]
      refine ev_compA0 lsD (ev_asL rfl rfl) _ fun r hr=>⟨_,rfl,?_⟩
      refine ev_andV (zla rfl 3) fun c=>ev_andV (ev_call (ev_cons rfl (ev_cons rfl rfl)) (none_below r)) fun _=>?_
      have c:=of_decide_eq_true c
      exact ev_ge (zid (k:=1) rfl (by omega)) rfl
    · rw [List.all_map]
      rfl
def g3 (r:List Int):Bool:=decide (r.length=3)&&(nb r&&decide (r.getD 0 0≤r.getD 1 0))
def fit3 (rs:List (List Int)):Bool:=match rs with
  | []=>false
  | h::t=>decide (t.length≤8)&&(t1 h 1 8&&t.all g3)
theorem zga {h:List Int} {t:List (List Int)} {ρ:Rho} {a:DE} (ha:a ρ=some (rowsD (h::t))):dLst (dSl a (zdt (dC (.int 1))) zd1) ρ=some (rowsD t):=by
  refine ev_lst ?_
  rw [zku (ev_asL ha rfl) rfl rfl]
  congr 1
  unfold cutL
  have e0:HT.sIx ((h::t).map lsD).length 0 (some 1)=1:=by
    unfold HT.sIx
    simp
  have e1:HT.sIx ((h::t).map lsD).length ((h::t).map lsD).length none=t.length+1:=by
    unfold HT.sIx
    simp
  rw [e0,e1,List.map_cons,List.drop_succ_cons,List.drop_zero,Nat.add_sub_cancel,List.take_of_length_le (by rw [List.length_map]; exact Nat.le_refl _)]
theorem windows_fits (s:D) (rs:List (List Int)):F_Windows_fits [s,rowsD rs]=some (.bl (fit3 rs)):=by
  refine run_eqF F_Windows_fits_def ?_
  rw [st_Windows_fits]
  unfold zd7
  cases rs with
  | nil=>exact wp_seq (wp_ifT (ev_or (x:=true) (y:=false) (ev_not (x:=false) (ev_t ((ev_chain (i:=1) (j:=0) (k:=9) rfl (ev_f1 rfl (lenRs [])) rfl).trans rfl))) fun c=>by cases c) (wp_ret rfl rfl))
  | cons h t =>
    have e1:=tells_one h 1 8
    have key:∀ ρ:Rho,dVar 1 ρ=some (rowsD (h::t))→dOr (dNot (dT (ze1 (fun i j=>decide (i≤j)) (fun i j=>decide (i≤j)) (dC (.int 1)) (dF1 lenD (dVar 1)) (dC (.int 9))))) (dNot (dTru (za8 F_tells_one (zag (dIx (dVar 1) (dC (.int 0))) (zag (dC (.int 1)) (zag (dC (.int 8)) dNil)))))) ρ=some (!decide (t.length≤8) || !t1 h 1 8):=fun ρ q=>by
      refine ev_or (ev_not (ev_t ?_)) fun _=>ev_not (ev_tru (ev_call (ev_cons (ze0 (rs:=h::t) (by simp) q) (ev_cons rfl (ev_cons rfl rfl))) e1) rfl)
      rw [ev_chain (i:=1) (j:=((h::t).length:Int)) (k:=9) rfl (ev_f1 q (lenRs (h::t))) rfl]
      congr 2
      rw [Bool.eq_iff_iff]
      simp
      omega
    refine wp_seq (zfl (key _ rfl) (fun c=>wp_ret rfl ?_) fun c=>wp_pass ?_)
    · show D.bl false=D.bl (decide (t.length≤8)&&(t1 h 1 8&&t.all g3))
      congr 1
      cases a:decide (t.length≤8) with
      | false=>rfl
      | true =>
        rw [a] at c
        cases b:t1 h 1 8 with
        | false=>rfl
        | true=>rw [b] at c; cases c
    · rw [Bool.or_eq_false_iff,Bool.not_eq_false',Bool.not_eq_false'] at c
      refine wp_ret ((ev_f1 (ev_lst (ds:=(t.map g3).map D.bl) ?_) all_ev)) ?_
      · rw [List.map_map]
        refine ev_compA0 lsD (ev_asL (zga rfl) rfl) _ fun r hr=>⟨_,rfl,?_⟩
        refine ev_andV (zla rfl 3) fun c=>ev_andV (ev_call (ev_cons rfl (ev_cons rfl rfl)) (none_below r)) fun _=>?_
        have c:=of_decide_eq_true c
        exact ev_le (zid (k:=0) rfl (by omega)) (zid (k:=1) rfl (by omega))
      · show D.bl _=D.bl (decide (t.length≤8)&&(t1 h 1 8&&t.all g3))
        rw [c.1,c.2,List.all_map]
        rfl
theorem min_cons (x:Int) (t:List Int):minD (lsD (x::t))=some (.int (minL x t)):=by
  unfold lsD
  generalize e:(x::t).map D.int=ds
  show (ze2 ds).bind _=_
  rw [← e,zgy]
  rfl
theorem min_row {r:List Int} (h:r.length=3):∃ m,minD (lsD r)=some (.int m)∧decide (m<0)=!nb r:=by
  match r,h with
  | [a,b,c],_ =>
    refine ⟨minL a [b,c],?_,?_⟩
    · exact min_cons a [b,c]
    · obtain ⟨h1,h2⟩:=minL_spec [b,c] a
      unfold nb
      rw [Bool.eq_iff_iff,decide_eq_true_iff,Bool.not_eq_true',← Bool.not_eq_true,List.all_eq_true]
      constructor
      · intro q z
        have:=of_decide_eq_true (z _ h1)
        omega
      · intro q
        refine Decidable.byContradiction fun z=>q fun v hv=>decide_eq_true ?_
        have:=h2 v hv
        omega
theorem loop_due {at_:Int} {g:List Int→Bool} (hat:at_=2∧g=g2∨at_=3∧g=g3) {ts:List (List Int)} {r0 v2 v4:Sl} {W:Wk} (hf:ts.all g=false→W.rt (.bl false)) (ht:ts.all g=true→∀ v4,W.nx [.bo (.int at_),r0,v2,.pu (rowsD ts),v4]) :
    Wp (sFor (asL (zat 3)) (gN true 4)
 (sIf (dOr (dT (dEq true (dF1 lenD (dVar 4)) (dC (.int 3)))) (dOr (dT (dLt (dF1 minD (dVar 4)) (dC (.int 0)))) (dOr (dAnd (dT (dEq false (dVar 0) (dC (.int 2)))) (dT (dEq false (dIx (dVar 4) (dC (.int 1))) (dC (.int 0))))) (dAnd (dT (dEq false (dVar 0) (dC (.int 3)))) (dT (dLt (dIx (dVar 4) (dC (.int 1))) (dIx (dVar 4) (dC (.int 0)))))))))
 (sRet (dC (.bl false)))
      zb7)) [.bo (.int at_),r0,v2,.pu (rowsD ts),v4] W:=by
  refine zdn (ds:=ts.map lsD) (ev_asL rfl rfl) (fun j ρ=>(∀ r∈ts.take j,g r=true)∧∃ v4,ρ=[.bo (.int at_),r0,v2,.pu (rowsD ts),v4]) ⟨(fun _ z=>by cases z),_,rfl⟩ ?_ ?_
  · rintro j d ρ hd ⟨hj,v4,rfl⟩
    rw [List.getElem?_map] at hd
    obtain ⟨r,hr,rfl⟩:=Option.map_eq_some_iff.mp hd
    refine ⟨_,rfl,?_⟩
    dsimp only [gN,slm,List.set_cons_succ,List.set_cons_zero]
    have bad:g r=false→ts.all g=false:=fun e=>by
      rw [List.all_eq_false]
      exact ⟨r,List.mem_of_getElem? hr,by rw [e]; exact Bool.false_ne_true⟩
    have good:g r=true→∀ x∈ts.take (j+1),g x=true:=fun e x hx=>by
      rw [List.take_succ,hr] at hx
      rcases List.mem_append.mp hx with hx | hx
      · exact hj x hx
      · rw [List.mem_singleton.mp hx]; exact e
    refine zfl (x:=!g r) ?_ (fun c=>wp_ret rfl (hf (bad (by simpa using c)))) fun c=>wp_pass ⟨good (by simpa using c),_,rfl⟩
    by_cases h3:r.length=3
    · obtain ⟨m,em,hm⟩:=min_row h3
      have x2:∀ {ρ:Rho},ρ=[.bo (.int at_),r0,v2,.pu (rowsD ts),.pu (lsD r)]→dOr (dAnd (dT (dEq false (dVar 0) (dC (.int 2)))) (dT (dEq false (dIx (dVar 4) (dC (.int 1))) (dC (.int 0))))) (dAnd (dT (dEq false (dVar 0) (dC (.int 3)))) (dT (dLt (dIx (dVar 4) (dC (.int 1))) (dIx (dVar 4) (dC (.int 0)))))) ρ=some ((decide (at_=2)&&decide (r.getD 1 0=0)) || (decide (at_=3)&&decide (r.getD 1 0<r.getD 0 0))):=fun {ρ} e=>by
        subst e
        exact ev_or (ev_and (ev_t (ev_eqF rfl rfl)) fun _=>ev_t (ev_eqF (zid (k:=1) rfl (by omega)) rfl)) fun _=>ev_and (ev_t (ev_eqF rfl rfl)) fun _=>ev_t (ev_lt (zid (k:=1) rfl (by omega)) (zid (k:=0) rfl (by omega)))
      refine (ev_or (zk9 rfl 3) fun _=>ev_or (ev_t (ev_lt (ev_f1 rfl em) rfl)) fun _=>x2 rfl).trans ?_
      rw [hm,decide_eq_false (show ¬ r.length≠3 by omega),Bool.false_or]
      congr 1
      rcases hat with ⟨rfl,rfl⟩ | ⟨rfl,rfl⟩
      · unfold g2
        rw [decide_eq_true h3,Bool.true_and,Bool.not_and]
        cases q:nb r with
        | false=>rfl
        | true =>
          have q1:0≤r.getD 1 0:=of_decide_eq_true (List.all_eq_true.mp q _ (mem_getD (by omega)))
          by_cases z:r.getD 1 0=0
          · rw [decide_eq_true z,z]; simp
          · rw [decide_eq_false z,decide_eq_true (show 1≤r.getD 1 0 by omega)]; simp
      · unfold g3
        rw [decide_eq_true h3,Bool.true_and,Bool.not_and]
        cases q:nb r with
        | false=>rfl
        | true =>
          by_cases z:r.getD 1 0<r.getD 0 0
          · rw [decide_eq_true z,decide_eq_false (show ¬ r.getD 0 0≤r.getD 1 0 by omega)]; simp
          · rw [decide_eq_false z,decide_eq_true (show r.getD 0 0≤r.getD 1 0 by omega)]; simp
    · have eg:g r=false:=by
        rcases hat with ⟨_,rfl⟩ | ⟨_,rfl⟩
        · unfold g2; rw [decide_eq_false h3]; rfl
        · unfold g3; rw [decide_eq_false h3]; rfl
      refine (ev_or (x:=true) (y:=false) ((zk9 rfl 3).trans (by rw [decide_eq_true h3])) fun c=>by cases c).trans ?_
      rw [eg]
      rfl
  · rintro ρ ⟨hj,v4,rfl⟩
    rw [List.length_map,List.take_length] at hj
    exact ht (List.all_eq_true.mpr hj) v4
theorem due2 (rs:List (List Int)):F_l_due [.int 2,rowsD rs]=some (.bl (fit2 rs)):=by
  refine run_eqF zdf ?_
  rw [zgk]
  unfold zfw
  refine wp_seq (wp_ifF (ev_t ((ev_eqF rfl rfl).trans rfl)) (wp_pass ?_))
  refine wp_seq (wp_ifF (ev_t ((ev_eqF rfl rfl).trans rfl)) (wp_pass ?_))
  refine wp_seq (wp_ifF (ev_t ((ev_eqF rfl rfl).trans rfl)) (wp_pass ?_))
  refine wp_seq (wp_ifF (ev_t ((ev_eqF rfl rfl).trans rfl)) (wp_pass ?_))
  refine wp_seq (zbr rfl ?_)
  walk_at "st"
  refine wp_seq (wp_ifF (ev_t ((ev_eqF rfl rfl).trans rfl)) (wp_pass ?_))
  refine wp_seq (loop_due (.inl ⟨rfl,rfl⟩) (fun c=>?_) fun c v4=>?_)
  · show D.bl false=_
    unfold fit2
    rw [c,Bool.and_false]
  · refine wp_ret (ev_le (ev_f1 rfl (lenRs rs)) (ev_ix rfl (ev_f1 ((ev_eqF rfl rfl).trans rfl) rfl) rfl)) ?_
    unfold fit2
    rw [c,Bool.and_true]
    congr 1
    rw [Bool.eq_iff_iff]
    simp
    omega
theorem due3 (rs:List (List Int)):F_l_due [.int 3,rowsD rs]=some (.bl (fit3 rs)):=by
  refine run_eqF zdf ?_
  rw [zgk]
  unfold zfw
  refine wp_seq (wp_ifF (ev_t ((ev_eqF rfl rfl).trans rfl)) (wp_pass ?_))
  refine wp_seq (wp_ifF (ev_t ((ev_eqF rfl rfl).trans rfl)) (wp_pass ?_))
  refine wp_seq (wp_ifF (ev_t ((ev_eqF rfl rfl).trans rfl)) (wp_pass ?_))
  refine wp_seq (wp_ifF (ev_t ((ev_eqF rfl rfl).trans rfl)) (wp_pass ?_))
  refine wp_seq (zbr rfl ?_)
  walk_at "st"
  have eh:=l_head rs 1 8
  refine wp_seq (wp_ifT (ev_t ((ev_eqF rfl rfl).trans rfl)) ?_)
  cases rs with
  | nil=>exact wp_seq (wp_ifT (ev_not (x:=false) (ev_tru (ev_call (ev_cons rfl (ev_cons rfl (ev_cons rfl rfl))) eh) rfl)) (wp_ret rfl rfl))
  | cons h t =>
    have eh:F_l_head [rowsD (h::t),.int 1,.int 8]=some (.bl (t1 h 1 8)):=eh
    cases c:t1 h 1 8 with
    | false =>
      rw [c] at eh
      refine wp_seq (wp_ifT (ev_not (x:=false) (ev_tru (ev_call (ev_cons rfl (ev_cons rfl (ev_cons rfl rfl))) eh) rfl)) (wp_ret rfl ?_))
      show D.bl false=D.bl (decide (t.length≤8)&&(t1 h 1 8&&t.all g3))
      rw [c,Bool.false_and,Bool.and_false]
    | true =>
      rw [c] at eh
      refine wp_seq (wp_ifF (ev_not (x:=true) (ev_tru (ev_call (ev_cons rfl (ev_cons rfl (ev_cons rfl rfl))) eh) rfl)) (wp_pass ?_))
      refine zbr (zga rfl) ?_
      walk_at "st"
      refine wp_seq (loop_due (.inr ⟨rfl,rfl⟩) (fun q=>?_) fun q v4=>?_)
      · show D.bl false=D.bl (decide (t.length≤8)&&(t1 h 1 8&&t.all g3))
        rw [q,Bool.and_false,Bool.and_false]
      · refine wp_ret (ev_le (ev_f1 rfl (lenRs t)) (ev_ix rfl (ev_f1 ((ev_eqF rfl rfl).trans rfl) rfl) rfl)) ?_
        show _=D.bl (decide (t.length≤8)&&(t1 h 1 8&&t.all g3))
        rw [c,q,Bool.true_and,Bool.and_true]
        congr 1
        rw [Bool.eq_iff_iff]
        simp
        omega
def blsD (n:Nat) (g:Nat→Bool):List D:=((List.range n).map g).map D.bl
theorem bls_at {n k:Nat} {g:Nat→Bool} (h:k<n):ixD (.lst (blsD n g)) (k:Int)=some (.bl (g k)):=by
  show atI (blsD n g) (k:Int)=_
  unfold atI blsD
  rw [List.length_map,List.length_map,List.length_range,zjz (by omega) (by omega)]
  show (((List.range n).map g).map D.bl)[(k:Int).toNat]?=_
  rw [Int.toNat_natCast,List.getElem?_map,List.getElem?_map,List.getElem?_range h]
  rfl
theorem bls_set {n k:Nat} {g:Nat→Bool} (h:k<n):(blsD n g).set k (.bl true)=blsD n (fun v=>if v=k then true else g v):=by
  unfold blsD
  rw [← List.map_set]
  congr 1
  refine List.ext_getElem? fun i=>?_
  rw [List.getElem?_set]
  by_cases hi:i<n
  · rw [List.getElem?_map,List.getElem?_map,List.getElem?_range hi]
    by_cases e:k=i
    · subst e
      simp [hi]
    · rw [if_neg e]
      simp [Ne.symm e]
  · have h1:((List.range n).map g)[i]?=none:=List.getElem?_eq_none (by simp; omega)
    have h2:((List.range n).map fun v=>if v=k then true else g v)[i]?=none:=List.getElem?_eq_none (by simp; omega)
    rw [h1,h2]
    split
    · omega
    · rfl
open Classical in
noncomputable def gone (ps:List (Nat×Nat)) (j v:Nat):Bool:=!decide (Pr.WalkN ps j v)
theorem rep_bl (n:Nat):(List.replicate n [D.bl false]).flatten=blsD n (fun _=>false):=by
  rw [zi7]
  unfold blsD rowB
  rw [List.map_const',List.length_range]
noncomputable abbrev gU:DG:=gUn 2 (zfh (gN false 2) (zfh (gN false 3) zlf))
open Classical in
theorem in_order {n:Nat} {qs:List (Int×Int)} {emb:Int×Int→D} (hn:n≤1000) (hg:∀ q v0 v1 v2 v3 v4 v5 v6,gU (emb q) [v0,v1,v2,v3,v4,v5,v6]=some [v0,v1,.bo (.int q.1),.bo (.int q.2),v4,v5,v6]) :
    F_l_in_order [.int (n:Int),.lst (qs.map emb)]=some (.bl (decide ((∀ q∈qs,Pr.InR n q)∧∀ v,v<n→¬ Pr.WalkN (qs.map Pr.nOf) n v))):=by
  have hline:sizeLine=16777216:=sizeLine_eq
  refine run_eqF F_l_in_order_def ?_
  rw [st_l_in_order]
  unfold ze5
  refine wp_seq (zdn (ds:=qs.map emb) (ev_asL rfl rfl) (fun j ρ=>(∀ q∈qs.take j,Pr.InR n q)∧∃ v2 v3,ρ=[.bo (.int (n:Int)),.bo (.lst (qs.map emb)),v2,v3,.un,.un,.un]) ⟨(fun _ z=>by cases z),_,_,rfl⟩ ?_ ?_)
  · rintro j d ρ hd ⟨hj,v2,v3,rfl⟩
    rw [List.getElem?_map] at hd
    obtain ⟨q,hq,rfl⟩:=Option.map_eq_some_iff.mp hd
    refine ⟨_,hg q _ _ _ _ _ _ _,?_⟩
    refine zfl (x:=!decide (Pr.InR n q)) ?_ (fun c=>wp_ret rfl ?_) fun c=>wp_pass ⟨?_,_,_,rfl⟩
    · refine (ev_or (ev_t (ev_lt (ev_min2 (i:=q.1) (j:=q.2) rfl rfl) rfl)) fun _=>ev_t (ev_ge (ev_max2 (i:=q.1) (j:=q.2) rfl rfl) rfl)).trans ?_
      congr 1
      rw [Bool.eq_iff_iff,Bool.or_eq_true,decide_eq_true_iff,decide_eq_true_iff,Bool.not_eq_true',decide_eq_false_iff_not]
      unfold Pr.InR
      omega
    · show D.bl false=_
      rw [decide_eq_false]
      rintro ⟨h,_⟩
      have c:¬ Pr.InR n q:=by simpa using c
      exact c (h q (List.mem_of_getElem? hq))
    · intro x hx
      rw [List.take_succ,hq] at hx
      rcases List.mem_append.mp hx with hx | hx
      · exact hj x hx
      · rw [List.mem_singleton.mp hx]
        simpa using c
  · rintro ρ ⟨hj,v2,v3,rfl⟩
    rw [List.length_map,List.take_length] at hj
    have lt:∀ q∈qs,(Pr.nOf q).1<n∧(Pr.nOf q).2<n∧q.1=((Pr.nOf q).1:Int)∧q.2=((Pr.nOf q).2:Int):=fun q hq=>by
      obtain ⟨⟨a,a'⟩,b,b'⟩:=hj q hq
      unfold Pr.nOf
      dsimp only
      omega
    generalize eps:qs.map Pr.nOf=ps
    refine wp_seq (zbr (d:=.lst (blsD n (gone ps 0))) ?_ ?_)
    · refine ev_lst ((ev_rep (ds:=[.bl false]) (i:=(n:Int)) rfl rfl ⟨by omega,by omega,by simp only [List.length_cons,List.length_nil]; omega⟩).trans ?_)
      rw [Int.toNat_natCast,rep_bl]
      congr 2
      funext v
      unfold gone
      rw [decide_eq_true (show Pr.WalkN ps 0 v from trivial)]
      rfl
    walk_at "st"
    refine wp_seq (zdn (zf7 hn rfl) (fun j ρ=>∃ v2 v3 v5 v6,ρ=[.bo (.int (n:Int)),.bo (.lst (qs.map emb)),v2,v3,.pu (.lst (blsD n (gone ps j))),v5,v6]) ⟨_,_,_,_,rfl⟩ ?_ ?_)
    · rintro j d ρ hd ⟨v2,v3,v5,v6,rfl⟩
      rw [List.getElem?_map] at hd
      obtain ⟨k,hk,rfl⟩:=Option.map_eq_some_iff.mp hd
      refine ⟨_,rfl,?_⟩
      dsimp only [gN,slm,List.set_cons_succ,List.set_cons_zero]
      refine wp_seq (zdu (ds:=blsD n (fun _=>false)) ?_ (by simp only [List.length_cons,List.length_nil]; omega) ?_)
      · refine (ev_rep (ds:=[.bl false]) (i:=(n:Int)) rfl rfl ⟨by omega,by omega,by simp only [List.length_cons,List.length_nil]; omega⟩).trans ?_
        rw [Int.toNat_natCast,rep_bl]
      walk_at "st"
      refine wp_seq (zdn (ds:=qs.map emb) (ev_asL rfl rfl) (fun i ρ=>∃ v2 v3,ρ=[.bo (.int (n:Int)),.bo (.lst (qs.map emb)),v2,v3,.pu (.lst (blsD n (gone ps j))),.pu (natD k),.ol (blsD n (fun v=>decide (∃ u,(u,v)∈(qs.take i).map Pr.nOf∧gone ps j u=false)))]) ⟨v2,v3,?_⟩ ?_ ?_)
      · rw [show (fun v=>decide (∃ u,(u,v)∈(qs.take 0).map Pr.nOf∧gone ps j u=false))=fun _=>false from funext fun v=>decide_eq_false (by rintro ⟨u,h,_⟩; cases h)]
      · rintro i d ρ hd ⟨w2,w3,rfl⟩
        rw [List.getElem?_map] at hd
        obtain ⟨q,hq,rfl⟩:=Option.map_eq_some_iff.mp hd
        refine ⟨_,hg q _ _ _ _ _ _ _,?_⟩
        obtain ⟨l1,l2,e1,e2⟩:=lt q (List.mem_of_getElem? hq)
        have tk:(qs.take (i+1)).map Pr.nOf=(qs.take i).map Pr.nOf++[Pr.nOf q]:=by
          rw [List.take_succ,hq,List.map_append]
          rfl
        rw [tk,e1,e2]
        refine zfl (ev_not (ev_tru (ev_ix rfl rfl (bls_at l1)) rfl)) (fun c=>?_) fun c=>wp_pass ⟨.bo (.int ((Pr.nOf q).1:Int)),.bo (.int ((Pr.nOf q).2:Int)),?_⟩
        · refine wp_put (n:=((Pr.nOf q).2:Int)) (j:=(Pr.nOf q).2) rfl rfl rfl ?_ ⟨.bo (.int ((Pr.nOf q).1:Int)),.bo (.int ((Pr.nOf q).2:Int)),?_⟩
          · unfold blsD
            rw [List.length_map,List.length_map,List.length_range]
            exact ixNn l2
          · rw [bls_set l2]
            dsimp only [List.set_cons_succ,List.set_cons_zero]
            congr 7
            refine congrArg (fun f=>Sl.ol (blsD n f)) (funext fun v=>?_)
            by_cases e:v=(Pr.nOf q).2
            · rw [if_pos e,eq_comm,decide_eq_true]
              exact ⟨(Pr.nOf q).1,List.mem_append_right _ (by rw [e]; exact List.mem_singleton.mpr rfl),by simpa using c⟩
            · rw [if_neg e,Bool.eq_iff_iff,decide_eq_true_iff,decide_eq_true_iff]
              constructor
              · rintro ⟨u,h,g⟩; exact ⟨u,List.mem_append_left _ h,g⟩
              · rintro ⟨u,h,g⟩
                rcases List.mem_append.mp h with h | h
                · exact ⟨u,h,g⟩
                · exact absurd (congrArg Prod.snd (List.mem_singleton.mp h)) e
        · congr 7
          refine congrArg (fun f=>Sl.ol (blsD n f)) (funext fun v=>?_)
          rw [Bool.eq_iff_iff,decide_eq_true_iff,decide_eq_true_iff]
          constructor
          · rintro ⟨u,h,g⟩; exact ⟨u,List.mem_append_left _ h,g⟩
          · rintro ⟨u,h,g⟩
            rcases List.mem_append.mp h with h | h
            · exact ⟨u,h,g⟩
            · have:=congrArg Prod.fst (List.mem_singleton.mp h)
              dsimp only at this
              rw [this] at g
              rw [g] at c
              cases c
      · rintro ρ ⟨w2,w3,rfl⟩
        rw [List.length_map,List.take_length,eps]
        refine zbr (d:=.lst (blsD n (gone ps (j+1)))) (ev_lst ?_) ⟨_,_,_,_,rfl⟩
        refine (ev_compA0 D.bl (xs:=(List.range n).map fun v=>decide (∃ u,(u,v)∈ps∧gone ps j u=false)) (ev_asL rfl rfl) (fun b=>D.bl (!b)) fun b _=>⟨_,rfl,zlg rfl⟩).trans ?_
        unfold blsD
        rw [List.map_map,List.map_map]
        refine congrArg some (List.map_congr_left fun v _=>?_)
        show D.bl (!decide _)=D.bl (gone ps (j+1) v)
        congr 1
        unfold gone
        congr 1
        rw [Bool.eq_iff_iff,decide_eq_true_iff,decide_eq_true_iff]
        show _↔∃ u,(u,v)∈ps∧Pr.WalkN ps j u
        simp
    · rintro ρ ⟨v2,v3,v5,v6,rfl⟩
      rw [List.length_map,List.length_range]
      refine wp_ret (ev_inB (xs:=(List.range n).map (gone ps n)) rfl rfl) ?_
      rw [if_pos rfl]
      congr 1
      rw [Bool.eq_iff_iff,Bool.not_eq_true',← Bool.not_eq_true,List.contains_iff_mem,decide_eq_true_iff]
      constructor
      · intro h
        refine ⟨hj,fun v hv w=>h (List.mem_map.mpr ⟨v,List.mem_range.mpr hv,?_⟩)⟩
        unfold gone
        rw [decide_eq_true w]
        rfl
      · rintro ⟨_,h⟩ q
        obtain ⟨v,hv,e⟩:=List.mem_map.mp q
        refine h v (List.mem_range.mp hv) ?_
        unfold gone at e
        simpa using e
open Classical in
noncomputable def fit4 (rs:List (List Int)):Bool:=match rs with
  | [h,r]=>t1 h 1 20&&(decide (r.length≤40)&&decide (Tr.Ok r))
  | _=>false
theorem fit4_no {rs:List (List Int)} (h:rs.length≠2):fit4 rs=false:=by
  match rs,h with
  | [],_=>rfl
  | [_],_=>rfl
  | [_,_],h=>exact absurd rfl h
  | _::_::_::_,_=>rfl
open Classical in
theorem tree_fits (s:D) (rs:List (List Int)) (hw:∀ r∈rs,∀ v∈r,v.natAbs<10 ^ 70):F_Tree_fits [s,rowsD rs]=some (.bl (fit4 rs)):=by
  refine run_eqF F_Tree_fits_def ?_
  rw [st_Tree_fits]
  unfold zfx
  by_cases h2:rs.length=2
  · obtain ⟨h,r,rfl⟩:=two_of h2
    have e1:=tells_one h 1 20
    have er:∀ ρ:Rho,dVar 1 ρ=some (rowsD [h,r])→dIx (dVar 1) (dC (.int 1)) ρ=some (lsD r):=fun ρ q=>ev_ix q rfl (zd8 (rs:=[h,r]) (k:=1) rfl)
    refine wp_seq (zfl (ev_or (x:=false) ((len_ne rfl 2).trans rfl) fun _=>ev_or (ev_not (ev_tru (ev_call (ev_cons (ev_ix rfl rfl (zd8 (rs:=[h,r]) (k:=0) rfl)) (ev_cons rfl (ev_cons rfl rfl))) e1) rfl)) fun _=>zi6 (er _ rfl) 40) (fun c=>wp_ret rfl ?_) fun c=>wp_pass ?_)
    · show D.bl false=D.bl (t1 h 1 20&&(decide (r.length≤40)&&_))
      rw [Bool.false_or,Bool.or_eq_true] at c
      rcases c with c | c
      · rw [show t1 h 1 20=false by simpa using c]; rfl
      · rw [decide_eq_false (show ¬ r.length≤40 by have:=of_decide_eq_true c; omega),Bool.false_and,Bool.and_false]
    · rw [Bool.false_or,Bool.or_eq_false_iff] at c
      have c1:t1 h 1 20=true:=by simpa using c.1
      have c2:r.length≤40:=by have:=of_decide_eq_false c.2; omega
      have g:=gLv_ok c2 (hw r (by simp))
      by_cases o:Tr.Ok r
      · rw [decide_eq_true o] at g
        refine wp_seq (wp_tryT (ev_cons (er _ rfl) rfl) g (wp_ret rfl ?_))
        show D.bl true=D.bl (t1 h 1 20&&(decide (r.length≤40)&&decide (Tr.Ok r)))
        rw [c1,decide_eq_true c2,decide_eq_true o]; rfl
      · rw [decide_eq_false o] at g
        refine wp_seq (wp_tryF (ev_cons (er _ rfl) rfl) g ?_)
        show D.bl false=D.bl (t1 h 1 20&&(decide (r.length≤40)&&decide (Tr.Ok r)))
        rw [decide_eq_false o,Bool.and_false,Bool.and_false]
  · refine wp_seq (wp_ifT (ev_or (x:=true) (y:=false) ((len_ne rfl 2).trans (by rw [decide_eq_true h2])) fun c=>by cases c) (wp_ret rfl ?_))
    rw [fit4_no h2]
def prs (r:List Int):List (Int×Int):=((List.range r.length).filter fun k=>decide (0≤r.getD k 0)).map fun (k:Nat)=>((k:Int),r.getD k 0)
def tupZ (q:Int×Int):D:=.tup [.int q.1,.int q.2]
theorem up_step (r:List Int) (k:Nat) (w:Int):Tr.up r (k+1) w=if Tr.up r k w=-1 then -1 else r.getD (Tr.up r k w).toNat 0:=rfl
theorem walk_up {r:List Int} (hin:Tr.In r):∀ {k v:Nat},v<r.length→(Pr.WalkN ((prs r).map Pr.nOf) k v↔∃ w:Nat,w<r.length∧Tr.up r k w=(v:Int))
  | 0,v,hv=>⟨fun _=>⟨v,hv,rfl⟩,fun _=>trivial⟩
  | k+1,v,hv=>by
    have mem:∀ u v:Nat,(u,v)∈(prs r).map Pr.nOf↔u<r.length∧r.getD u 0=(v:Int):=fun u v=>by
      unfold prs
      rw [List.map_map,List.mem_map]
      constructor
      · rintro ⟨a,ha,e⟩
        obtain ⟨h1,h2⟩:=List.mem_filter.mp ha
        have h1:=List.mem_range.mp h1
        have h2:=of_decide_eq_true h2
        have e1:=congrArg Prod.fst e
        have e2:=congrArg Prod.snd e
        unfold Pr.nOf at e1 e2
        dsimp only [Function.comp] at e1 e2
        have:a=u:=by omega
        subst this
        exact ⟨h1,by omega⟩
      · rintro ⟨h1,h2⟩
        refine ⟨u,List.mem_filter.mpr ⟨List.mem_range.mpr h1,decide_eq_true (by omega)⟩,?_⟩
        unfold Pr.nOf
        dsimp only [Function.comp]
        rw [h2]
        rfl
    constructor
    · rintro ⟨u,hu,w⟩
      obtain ⟨h1,h2⟩:=(mem u v).mp hu
      obtain ⟨w,hw,e⟩:=(walk_up hin h1).mp w
      refine ⟨w,hw,?_⟩
      rw [up_step,if_neg (by rw [e]; omega),e,Int.toNat_natCast,h2]
    · rintro ⟨w,hw,e⟩
      have hr:=Tr.up_in hin (w:=(w:Int)) (by omega) k
      rw [up_step] at e
      by_cases z:Tr.up r k (w:Int)=-1
      · rw [if_pos z] at e; omega
      · rw [if_neg z] at e
        have hu:(Tr.up r k (w:Int)).toNat<r.length:=by omega
        exact ⟨(Tr.up r k (w:Int)).toNat,(mem _ _).mpr ⟨hu,e⟩,(walk_up hin hu).mpr ⟨w,hw,by omega⟩⟩
theorem ok_iff {r:List Int} (hl:r.length≤40) (hm:∀ v∈r,-1≤v):((∀ q∈prs r,Pr.InR r.length q)∧∀ v,v<r.length→¬ Pr.WalkN ((prs r).map Pr.nOf) r.length v)↔Tr.Ok r:=by
  constructor
  · rintro ⟨h1,h2⟩
    have hin:Tr.In r:=fun v hv=>by
      refine ⟨hm v hv,?_⟩
      by_cases c:0≤v
      · obtain ⟨k,hk,e⟩:=List.getElem_of_mem hv
        have eg:r.getD k 0=v:=by rw [List.getD_eq_getElem?_getD,List.getElem?_eq_getElem hk,e]; rfl
        have:=(h1 ((k:Int),r.getD k 0) (List.mem_map.mpr ⟨k,List.mem_filter.mpr ⟨List.mem_range.mpr hk,decide_eq_true (by rw [eg]; exact c)⟩,rfl⟩)).2
        rw [eg] at this
        exact this.2
      · have:=hm v hv
        omega
    refine ⟨hl,hin,fun w hw=>?_⟩
    have hr:=Tr.up_in hin hw r.length
    refine Decidable.byContradiction fun z=>?_
    have hv:(Tr.up r r.length w).toNat<r.length:=by omega
    refine h2 _ hv ((walk_up hin hv).mpr ⟨w.toNat,by omega,?_⟩)
    rw [show ((w.toNat:Nat):Int)=w by omega]
    omega
  · intro h
    refine ⟨fun q hq=>?_,fun v hv w=>?_⟩
    · obtain ⟨k,hk,rfl⟩:=List.mem_map.mp hq
      obtain ⟨h1,h2⟩:=List.mem_filter.mp hk
      have h1:=List.mem_range.mp h1
      have h2:=of_decide_eq_true h2
      have:=h.inn _ (mem_getD h1)
      unfold Pr.InR
      dsimp only
      omega
    · obtain ⟨a,ha,e⟩:=(walk_up h.inn hv).mp w
      have:=h.up (a:Int) (by omega)
      omega
open Classical in
theorem due4 (rs:List (List Int)) (hb:∀ r∈rs,r.length≤1000):F_l_due [.int 4,rowsD rs]=some (.bl (fit4 rs)):=by
  have hline:sizeLine=16777216:=sizeLine_eq
  refine run_eqF zdf ?_
  rw [zgk]
  unfold zfw
  refine wp_seq (wp_ifF (ev_t ((ev_eqF rfl rfl).trans rfl)) (wp_pass ?_))
  refine wp_seq (wp_ifT (ev_t ((ev_eqF rfl rfl).trans rfl)) ?_)
  have eh:=l_head rs 1 20
  by_cases h2:rs.length=2
  · obtain ⟨h,r,rfl⟩:=two_of h2
    have hr:=hb r (by simp)
    have er:∀ ρ:Rho,dVar 1 ρ=some (rowsD [h,r])→dIx (dVar 1) (dC (.int 1)) ρ=some (lsD r):=fun ρ q=>ev_ix q rfl (zd8 (rs:=[h,r]) (k:=1) rfl)
    refine wp_seq (zfl (ev_or (ev_not (ev_tru (ev_call (ev_cons rfl (ev_cons rfl (ev_cons rfl rfl))) eh) rfl)) fun _=>ev_or (x:=false) ((len_ne rfl 2).trans rfl) fun _=>ev_or (zi6 (er _ rfl) 40) fun _=>ev_t (ev_lt (zmq hr (ev_ix rfl rfl (zd8 (rs:=[h,r]) (k:=1) rfl))) (zfi rfl))) (fun c=>wp_ret rfl ?_) fun c=>wp_pass ?_)
    · show D.bl false=D.bl (t1 h 1 20&&(decide (r.length≤40)&&_))
      rw [Bool.false_or,Bool.or_eq_true,Bool.or_eq_true] at c
      rcases c with c | c | c
      · rw [show t1 h 1 20=false by simpa [hd] using c]; rfl
      · rw [decide_eq_false (show ¬ r.length≤40 by have:=of_decide_eq_true c; omega),Bool.false_and,Bool.and_false]
      · obtain ⟨v,hv,q⟩:=(mn_lt (by omega)).mp (of_decide_eq_true c)
        rw [decide_eq_false (show ¬ Tr.Ok r from fun o=>by have:=(o.inn v hv).1; omega),Bool.and_false,Bool.and_false]
    · rw [Bool.false_or,Bool.or_eq_false_iff,Bool.or_eq_false_iff] at c
      have c1:t1 h 1 20=true:=by simpa [hd] using c.1
      have c2:r.length≤40:=by have:=of_decide_eq_false c.2.1; omega
      have c3:∀ v∈r,-1≤v:=fun v hv=>Decidable.byContradiction fun z=>of_decide_eq_false c.2.2 ((mn_lt (by omega)).mpr ⟨v,hv,by omega⟩)
      have er2:∀ ρ:Rho,dVar 1 ρ=some (rowsD [h,r])→dRg1 (dF1 lenD (dIx (dVar 1) (dC (.int 1)))) ρ=some ((List.range r.length).map natD):=fun ρ q=>zf7 (by omega) (ev_f1 (er ρ q) (lenLs r))
      refine wp_seq (zbr (d:=.lst ((prs r).map tupZ)) (ev_lst ?_) ?_)
      · refine (ev_compA natD (er2 _ rfl) (fun k=>decide (0≤r.getD k 0)) (fun k=>tupZ ((k:Int),r.getD k 0)) fun k hk=>?_).trans ?_
        · have hk:=List.mem_range.mp hk
          have e3:∀ ρ:Rho,dVar 1 ρ=some (rowsD [h,r])→dVar 0 ρ=some (.int (k:Int))→dIx (dIx (dVar 1) (dC (.int 1))) (dVar 0) ρ=some (.int (r.getD k 0)):=fun ρ q q2=>by
            have:=ixI (ns:=r) (i:=(k:Int)) (by omega) (by omega)
            rw [Int.toNat_natCast] at this
            exact ev_ix (er ρ q) q2 this
          refine ⟨_,rfl,ev_t (ev_ge (e3 _ rfl rfl) rfl),fun _=>zms (ev_cons rfl (ev_cons ?_ rfl))⟩
          have:=ixI (ns:=r) (i:=(k:Int)) (by omega) (by omega)
          rw [Int.toNat_natCast] at this
          exact ev_ix (ev_ix rfl rfl (zd8 (rs:=[h,r]) (k:=1) rfl)) rfl this
        · unfold prs
          rw [List.map_map]
          rfl
      walk_at "st"
      refine wp_ret (ev_call (ev_cons (ev_f1 (er _ rfl) (lenLs r)) (ev_cons rfl rfl)) (in_order (emb:=tupZ) (by omega) fun q v0 v1 v2 v3 v4 v5 v6=>rfl)) ?_
      show D.bl _=D.bl (t1 h 1 20&&(decide (r.length≤40)&&_))
      rw [c1,decide_eq_true c2,Bool.true_and,Bool.true_and]
      congr 1
      rw [Bool.eq_iff_iff,decide_eq_true_iff,decide_eq_true_iff]
      exact ok_iff c2 c3
  · refine wp_seq (wp_ifT ((ev_or (x:=!hd rs 1 20) (ev_not (ev_tru (ev_call (ev_cons rfl (ev_cons rfl (ev_cons rfl rfl))) eh) rfl)) fun _=>ev_or (x:=true) (y:=false) ((len_ne rfl 2).trans (by rw [decide_eq_true h2])) fun c=>by cases c).trans (by simp)) (wp_ret rfl ?_))
    rw [fit4_no h2]
def prOf (r:List Int):Int×Int:=(r.getD 0 0,r.getD 1 0)
open Classical in
noncomputable def fit5 (rs:List (List Int)):Bool:=match rs with
  | []=>false
  | h::t=>t1 h 0 14&&(t.all (fun r=>decide (r.length=2))&&decide (Pr.Ok (h.getD 0 0).toNat (t.map prOf)))
theorem pair_row {r:List Int} (h:r.length=2):lsD r=Pr.pairZ (prOf r):=by
  match r,h with
  | [a,b],_=>rfl
theorem pair_rows {t:List (List Int)} (h:∀ r∈t,r.length=2):rowsD t=Pr.needsZ (t.map prOf):=by
  unfold rowsD Pr.needsZ
  rw [List.map_map]
  congr 1
  exact List.map_congr_left fun r hr=>pair_row (h r hr)
theorem t1_of {h:List Int} {lo hi:Int} (c:t1 h lo hi=true):h.length=1∧lo≤h.getD 0 0∧h.getD 0 0≤hi:=by
  unfold t1 at c
  rw [Bool.and_eq_true,Bool.and_eq_true] at c
  exact ⟨of_decide_eq_true c.1,of_decide_eq_true c.2.1,of_decide_eq_true c.2.2⟩
open Classical in
theorem pairs_fits (s:D) (rs:List (List Int)) (hl:rs.length≤1000) (hw:∀ r∈rs,∀ v∈r,v.natAbs<10 ^ 70):F_Pairs_fits [s,rowsD rs]=some (.bl (fit5 rs)):=by
  refine run_eqF F_Pairs_fits_def ?_
  rw [st_Pairs_fits]
  unfold ze7
  cases rs with
  | nil=>exact wp_seq (wp_ifT (ev_or (x:=true) (y:=false) (ev_not (x:=false) (ev_tru rfl rfl)) fun c=>by cases c) (wp_ret rfl rfl))
  | cons h t =>
    have e1:=tells_one h 0 14
    have ea:∀ ρ:Rho,zat 1 ρ=some (rowsD (h::t))→dTru (dF1 allD (dLst (zdb 1 [] (asL (dLst (dSl (zat 1) (zdt (dC (.int 1))) zd1))) (gN true 0) zdd (dEq false (dF1 lenD (dVar 0)) (dC (.int 2)))))) ρ=some (t.all fun r=>decide (r.length=2)):=fun ρ q=>by
      refine ev_tru (d:=.bl (t.all fun r=>decide (r.length=2))) ((ev_f1 (ev_lst (ds:=(t.map fun r=>decide (r.length=2)).map D.bl) ?_) all_ev).trans ?_) rfl
      · rw [List.map_map]
        exact ev_compA0 lsD (ev_asL (zga q) rfl) _ fun r hr=>⟨_,rfl,zla rfl 2⟩
      · rw [List.all_map]
        rfl
    refine wp_seq (zfl (ev_or (x:=false) (ev_not (x:=true) (ev_tru rfl rfl)) fun _=>ev_or (ev_not (ev_tru (ev_call (ev_cons (ze0 (rs:=h::t) (by simp) rfl) (ev_cons rfl (ev_cons rfl rfl))) e1) rfl)) fun _=>ev_not (ea _ rfl)) (fun c=>wp_ret rfl ?_) fun c=>wp_pass ?_)
    · show D.bl false=D.bl (t1 h 0 14&&(t.all (fun r=>decide (r.length=2))&&_))
      rw [Bool.false_or,Bool.or_eq_true] at c
      rcases c with c | c
      · rw [show t1 h 0 14=false by simpa using c]; rfl
      · rw [Bool.not_eq_true'] at c
        rw [c,Bool.false_and,Bool.and_false]
    · rw [Bool.false_or,Bool.or_eq_false_iff] at c
      have c1:t1 h 0 14=true:=by simpa using c.1
      have c2:(t.all fun r=>decide (r.length=2))=true:=by
        have:=c.2
        rwa [Bool.not_eq_false'] at this
      have c3:∀ r∈t,r.length=2:=fun r hr=>of_decide_eq_true (List.all_eq_true.mp c2 r hr)
      obtain ⟨k1,k2,k3⟩:=t1_of c1
      have hl':t.length≤1000:=by rw [List.length_cons] at hl; omega
      have g:=gAh_ok (n:=(h.getD 0 0).toNat) (qs:=t.map prOf) (by omega) (by rw [List.length_map]; exact hl') fun q hq=>by
        obtain ⟨r,hr,rfl⟩:=List.mem_map.mp hq
        have:=hw r (List.mem_cons_of_mem _ hr)
        have l2:=c3 r hr
        exact ⟨Pr.log_small (this _ (mem_getD (by omega))),Pr.log_small (this _ (mem_getD (by omega)))⟩
      rw [← pair_rows c3,Int.toNat_of_nonneg k2] at g
      have en:∀ ρ:Rho,dVar 1 ρ=some (rowsD (h::t))→dIx (dIx (dVar 1) (dC (.int 0))) (dC (.int 0)) ρ=some (.int (h.getD 0 0)):=fun ρ q=>zid (k:=0) (ze0 (rs:=h::t) (by simp) q) (by show 0<h.length; omega)
      by_cases o:Pr.Ok (h.getD 0 0).toNat (t.map prOf)
      · rw [decide_eq_true o] at g
        refine wp_seq (wp_tryT (ev_cons (en _ rfl) (ev_cons (zga rfl) rfl)) g (wp_ret rfl ?_))
        show D.bl true=D.bl (t1 h 0 14&&(t.all (fun r=>decide (r.length=2))&&decide (Pr.Ok (h.getD 0 0).toNat (t.map prOf))))
        rw [c1,c2,decide_eq_true o]; rfl
      · rw [decide_eq_false o] at g
        refine wp_seq (wp_tryF (ev_cons (en _ rfl) (ev_cons (zga rfl) rfl)) g ?_)
        show D.bl false=D.bl (t1 h 0 14&&(t.all (fun r=>decide (r.length=2))&&decide (Pr.Ok (h.getD 0 0).toNat (t.map prOf))))
        rw [decide_eq_false o,Bool.and_false,Bool.and_false]
open Classical in
theorem due5 (rs:List (List Int)) (hl:rs.length≤1000):F_l_due [.int 5,rowsD rs]=some (.bl (fit5 rs)):=by
  refine run_eqF zdf ?_
  rw [zgk]
  unfold zfw
  refine wp_seq (wp_ifF (ev_t ((ev_eqF rfl rfl).trans rfl)) (wp_pass ?_))
  refine wp_seq (wp_ifF (ev_t ((ev_eqF rfl rfl).trans rfl)) (wp_pass ?_))
  refine wp_seq (wp_ifT (ev_t ((ev_eqF rfl rfl).trans rfl)) ?_)
  have eh:=l_head rs 0 14
  cases rs with
  | nil=>exact wp_seq (wp_ifT (ev_or (x:=true) (y:=false) (ev_not (x:=false) (ev_tru (ev_call (ev_cons rfl (ev_cons rfl (ev_cons rfl rfl))) eh) rfl)) fun c=>by cases c) (wp_ret rfl rfl))
  | cons h t =>
    have eh:F_l_head [rowsD (h::t),.int 0,.int 14]=some (.bl (t1 h 0 14)):=eh
    have ea:∀ ρ:Rho,zat 1 ρ=some (rowsD (h::t))→dT (dGt (dF1 lenD (dLst (zdb 1 [] (asL (dLst (dSl (zat 1) (zdt (dC (.int 1))) zd1))) (gN true 0) (dT (dEq true (dF1 lenD (dVar 0)) (dC (.int 2)))) (zat 0)))) (dC (.int 0))) ρ=some (!t.all fun r=>decide (r.length=2)):=fun ρ q=>by
      refine (zkr (rs:=t.filter fun r=>decide (r.length≠2)) (ev_lst (ev_compA lsD (ev_asL (zga q) rfl) (fun r=>decide (r.length≠2)) lsD fun r hr=>⟨_,rfl,zk9 rfl 2,fun _=>rfl⟩)) 0).trans ?_
      congr 1
      rw [Bool.eq_iff_iff,decide_eq_true_iff,Bool.not_eq_true',← Bool.not_eq_true,List.all_eq_true]
      constructor
      · intro hp hq
        obtain ⟨r,hr⟩:=List.exists_mem_of_length_pos hp
        obtain ⟨h1,h2⟩:=List.mem_filter.mp hr
        exact of_decide_eq_true h2 (of_decide_eq_true (hq r h1))
      · intro hq
        refine List.length_pos_iff.mpr fun z=>hq fun r hr=>decide_eq_true ?_
        have:=List.filter_eq_nil_iff.mp z r hr
        simpa using this
    refine wp_seq (zfl (ev_or (ev_not (ev_tru (ev_call (ev_cons rfl (ev_cons rfl (ev_cons rfl rfl))) eh) rfl)) fun _=>ea _ rfl) (fun c=>wp_ret rfl ?_) fun c=>wp_pass ?_)
    · show D.bl false=D.bl (t1 h 0 14&&(t.all (fun r=>decide (r.length=2))&&_))
      rw [Bool.or_eq_true] at c
      rcases c with c | c
      · rw [show t1 h 0 14=false by simpa using c]; rfl
      · rw [Bool.not_eq_true'] at c
        rw [c,Bool.false_and,Bool.and_false]
    · rw [Bool.or_eq_false_iff] at c
      have c1:t1 h 0 14=true:=by simpa using c.1
      have c2:(t.all fun r=>decide (r.length=2))=true:=by
        have:=c.2
        rwa [Bool.not_eq_false'] at this
      have c3:∀ r∈t,r.length=2:=fun r hr=>of_decide_eq_true (List.all_eq_true.mp c2 r hr)
      obtain ⟨k1,k2,k3⟩:=t1_of c1
      have hl':t.length≤1000:=by rw [List.length_cons] at hl; omega
      have en:∀ ρ:Rho,dVar 1 ρ=some (rowsD (h::t))→dIx (dIx (dVar 1) (dC (.int 0))) (dC (.int 0)) ρ=some (.int (((h.getD 0 0).toNat:Nat):Int)):=fun ρ q=>by
        rw [Int.toNat_of_nonneg k2]
        exact zid (k:=0) (ze0 (rs:=h::t) (by simp) q) (by show 0<h.length; omega)
      refine wp_ret (ev_call (ev_cons (en _ rfl) (ev_cons ((zga rfl).trans (congrArg some (pair_rows c3))) rfl)) (in_order (emb:=Pr.pairZ) (by omega) fun q v0 v1 v2 v3 v4 v5 v6=>rfl)) ?_
      show D.bl _=D.bl (t1 h 0 14&&(t.all (fun r=>decide (r.length=2))&&_))
      rw [c1,c2,Bool.true_and,Bool.true_and]
      congr 1
      rw [Bool.eq_iff_iff,decide_eq_true_iff,decide_eq_true_iff]
      constructor
      · rintro ⟨a,b⟩
        exact ⟨by omega,by rw [List.length_map]; exact hl',a,b⟩
      · intro o
        exact ⟨o.inn,o.no⟩
theorem ziu {x c:Int} {k:Nat} (hk:20≤k) (hb:Builtin.Int.intBits x≤k) (h0:0≤c) (h1:c<1000000):Builtin.Int.intBits (x+c)≤k+1:=by
  have p:1000000≤2 ^ k:=Nat.le_trans (show 1000000≤2 ^ 20 by decide) (Nat.pow_le_pow_right (by decide) hk)
  have hx:x.natAbs<2 ^ k:=by
    by_cases c:x=0
    · rw [c]; show 0<2 ^ k; omega
    · unfold Builtin.Int.intBits at hb
      rw [if_neg (by simpa using c)] at hb
      exact (Nat.log2_lt (by omega)).mp (by omega)
  have hy:(x+c).natAbs<2 ^ (k+1):=by
    rw [Nat.pow_succ]
    generalize 2 ^ k=P at p hx
    omega
  unfold Builtin.Int.intBits
  split
  · omega
  · rename_i z
    have z:¬ x+c=0:=by simpa using z
    have:=(Nat.log2_lt (show (x+c).natAbs≠0 by omega)).mpr hy
    omega
def mixZ (x k:Int):Int:=(x*x+k*x+7*k*k)*1103515245 % 2147483629
theorem mix (x k:Int) (hb:Builtin.Int.intBits x≤1048580) (h0:0≤k) (h1:k<1000):F_l_mix [.int x,.int k]=some (.int (mixZ x k)):=by
  refine run_eqF F_l_mix_def ?_
  rw [st_l_mix]
  unfold zkk
  refine wp_ret (zcw (zif (zcg (zcg (zif rfl rfl (IntMulOk.of_le hb hb (by decide))) (zif rfl rfl (imul (by omega)))) (zif (zif rfl rfl (imul (by omega))) rfl (imul (by omega)))) rfl (imul (by omega))) rfl (by decide)) rfl
theorem ix3 (a b c:Int) {i:Int} (h0:0≤i) (h1:i<3):∃ z,ixD (.lst [.int a,.int b,.int c]) i=some (.int z)∧(z=a∨z=b∨z=c):=by
  have:i=0∨i=1∨i=2:=by omega
  rcases this with rfl | rfl | rfl
  · exact ⟨a,rfl,.inl rfl⟩
  · exact ⟨b,rfl,.inr (.inl rfl)⟩
  · exact ⟨c,rfl,.inr (.inr rfl)⟩
theorem ix2 (a b:Int) {i:Int} (h0:0≤i) (h1:i<2):∃ z,ixD (.lst [.int a,.int b]) i=some (.int z)∧(z=a∨z=b):=by
  have:i=0∨i=1:=by omega
  rcases this with rfl | rfl
  · exact ⟨a,rfl,.inl rfl⟩
  · exact ⟨b,rfl,.inr rfl⟩
theorem zjy {c:Int} (hb:Builtin.Int.intBits c≤1048576) {m:Int} (h0:2≤m) (h1:m≤40):∃ n:Nat,F_l_many [.int c,.int m]=some (.int (n:Int))∧(n:Int)≤m:=by
  obtain ⟨d,e,n,rfl,hn⟩:=zeq F_l_many_def (ds:=[.int c,.int m]) (P:=fun d=>∃ n:Nat,d=.int (n:Int)∧(n:Int)≤m) (by
    rw [st_l_many]
    unfold ziw
    obtain ⟨z,ez,hz⟩:=ix3 (mixZ c 1 % (m+1)) m (2+mixZ c 1 % (m-1)) (i:=mixZ c 2 % 3) (Int.emod_nonneg _ (by decide)) (Int.emod_lt_of_pos _ (by decide))
    have e1:=mix c 1 (by omega) (by decide) (by decide)
    have a1:=Int.emod_nonneg (mixZ c 1) (show m+1≠0 by omega)
    have a2:=Int.emod_lt_of_pos (mixZ c 1) (show 0<m+1 by omega)
    have b1:=Int.emod_nonneg (mixZ c 1) (show m-1≠0 by omega)
    have b2:=Int.emod_lt_of_pos (mixZ c 1) (show 0<m-1 by omega)
    refine wp_ret (ev_ix (ev_lst (ev_cons (zcw (ev_call (ev_cons rfl (ev_cons rfl rfl)) e1) (zcg rfl rfl) (by omega)) (ev_cons (zfp rfl rfl) (ev_cons (zcg rfl (zcw (ev_call (ev_cons rfl (ev_cons rfl rfl)) e1) (zgg rfl rfl) (by omega))) rfl)))) (zcw (ev_call (ev_cons rfl (ev_cons rfl rfl)) (mix c 2 (by omega) (by decide) (by decide))) rfl (by decide)) ez) ?_
    exact ⟨z.toNat,by rw [Int.toNat_of_nonneg (by omega)],by omega⟩)
  exact ⟨n,e,hn⟩
theorem p49 {ρ:Rho}:dPow (dC (.int 10)) (dC (.int 49)) ρ=some (.int (10 ^ 49)):=ev_pow (i:=10) (j:=49) rfl rfl (by unfold CPow; decide)
theorem l_hour {c:Int} (hb:Builtin.Int.intBits c≤1048578) {k:Int} (h0:0≤k) (h1:k<100):∃ v:Int,F_l_hour [.int c,.int k]=some (.int v)∧0≤v∧v<10 ^ 49:=by
  obtain ⟨d,e,v,rfl,hv⟩:=zeq F_l_hour_def (ds:=[.int c,.int k]) (P:=fun d=>∃ v:Int,d=.int v∧0≤v∧v<10 ^ 49) (by
    rw [st_l_hour]
    unfold zix
    have hk:k*k<1000000:=Int.lt_of_le_of_lt (Int.mul_le_mul (show k≤99 by omega) (show k≤99 by omega) (by omega) (by omega)) (by decide)
    have hk0:0≤k*k:=Int.mul_nonneg h0 h0
    obtain ⟨z,ez,hz⟩:=ix2 (mixZ (c+k*k) 3 % 9) ((c / 6+k) % 10 ^ 49) (i:=mixZ c 4 % 2) (Int.emod_nonneg _ (by decide)) (Int.emod_lt_of_pos _ (by decide))
    refine wp_ret (ev_ix (ev_lst (ev_cons (zcw (ev_call (ev_cons (zcg rfl (zif rfl rfl (imul (by omega)))) (ev_cons rfl rfl)) (mix _ 3 (Nat.le_trans (ziu (k:=1048578) (by decide) hb hk0 hk) (by decide)) (by decide) (by decide))) rfl (by decide)) (ev_cons (zcw (zcg (zli rfl rfl (fdok (by omega) (by omega))) rfl) p49 (by decide)) rfl))) (zcw (ev_call (ev_cons rfl (ev_cons rfl rfl)) (mix c 4 (by omega) (by decide) (by decide))) rfl (by decide)) ez) ⟨z,rfl,?_⟩
    have a1:=Int.emod_nonneg (mixZ (c+k*k) 3) (show (9:Int)≠0 by decide)
    have a2:=Int.emod_lt_of_pos (mixZ (c+k*k) 3) (show (0:Int)<9 by decide)
    have b1:=Int.emod_nonneg (c / 6+k) (show (10 ^ 49:Int)≠0 by decide)
    have b2:=Int.emod_lt_of_pos (c / 6+k) (show (0:Int)<10 ^ 49 by decide)
    have t:(9:Int)<10 ^ 49:=by decide
    rcases hz with rfl | rfl
    · exact ⟨a1,Int.lt_trans a2 t⟩
    · exact ⟨b1,b2⟩)
  exact ⟨v,e,hv⟩
theorem cut_to {α:Type} (xs:List α) (k:Nat):cutL xs none (some (k:Int))=xs.take k:=by
  unfold cutL
  have e0:HT.sIx xs.length 0 none=0:=rfl
  have e1:HT.sIx xs.length xs.length (some (k:Int))=min k xs.length:=by
    unfold HT.sIx
    simp
    omega
  rw [e0,e1,List.drop_zero,Nat.sub_zero,List.take_eq_take_iff]
  omega
theorem cut_from {α:Type} (xs:List α) (k:Nat):cutL xs (some (k:Int)) none=xs.drop k:=by
  unfold cutL
  have e0:HT.sIx xs.length 0 (some (k:Int))=min k xs.length:=by
    unfold HT.sIx
    simp
    omega
  have e1:HT.sIx xs.length xs.length none=xs.length:=rfl
  rw [e0,e1]
  by_cases c:k≤xs.length
  · rw [Nat.min_eq_left c,List.take_of_length_le (by rw [List.length_drop]; exact Nat.le_refl _)]
  · rw [Nat.min_eq_right (by omega),List.drop_of_length_le (Nat.le_refl _),List.drop_of_length_le (by omega),List.take_nil]
theorem put_ev {xs ys:List D} {k:Nat} (hx:xs.length≤1000) (hy:ys.length≤1000):F_l_put [.lst xs,.int (k:Int),.lst ys]=some (.lst (xs.take k++ys++xs.drop (k+1))):=by
  have hline:sizeLine=16777216:=sizeLine_eq
  refine run_eqF F_l_put_def ?_
  rw [st_l_put]
  unfold zkj
  have e1:=cut_to xs k
  have e2:=cut_from xs (k+1)
  rw [show ((k+1:Nat):Int)=(k:Int)+1 by omega] at e2
  refine wp_ret (ev_lst (zig (xs:=xs.take k++ys) (ys:=xs.drop (k+1)) (ev_lst (zig (xs:=xs.take k) (ys:=ys) (ev_lst (by rw [← e1]; exact zku (ev_asL rfl rfl) rfl (zds rfl))) rfl ?_)) (ev_lst (by rw [← e2]; exact zku (ev_asL rfl rfl) (zds (zcg rfl rfl)) rfl)) ?_)) rfl
  · rw [List.length_take]; omega
  · rw [List.length_append,List.length_take,List.length_drop]; omega
structure Bd (n:Nat) (rs:List (List Int)):Prop where
  len:rs.length≤n
  row:∀ r∈rs,r.length≤n
  num:∀ r∈rs,∀ v∈r,v.natAbs<10 ^ 60
theorem zg1 {v:Int} (h0:-1000≤v) (h1:v<3*10 ^ 49):v.natAbs<10 ^ 60:=by
  have e:(10 ^ 60:Nat)=((10 ^ 60:Nat):Int).toNat:=rfl
  have t:(3*10 ^ 49:Int)<((10 ^ 60:Nat):Int):=by decide
  have t2:(1000:Int)<((10 ^ 60:Nat):Int):=by decide
  generalize (10 ^ 60:Nat)=P at *
  generalize (3*10 ^ 49:Int)=Q at *
  omega
def Ris (r:List Int):Prop:=∀ i:Nat,i<r.length→r.getD i 0=-1∨((i:Int)<r.getD i 0∧r.getD i 0<(r.length:Int))
theorem zm0 {c:Int} (hb:Builtin.Int.intBits c≤1048578):∃ f:Int→Int,∀ k:Int,0≤k→k<100→F_l_hour [.int c,.int k]=some (.int (f k))∧0≤f k∧f k<10 ^ 49:=by
  refine ⟨fun k=>if h:0≤k∧k<100 then (l_hour hb h.1 h.2).choose else 0,fun k h0 h1=>?_⟩
  dsimp only
  rw [dif_pos ⟨h0,h1⟩]
  exact (l_hour hb h0 h1).choose_spec
def zk2 (a:Int) (rs:List (List Int)):Prop:=(a=0∨a=4→∃ h r,rs=[h,r]∧(a=4→Ris r))∧(a=5→∃ (n:Nat) (t:List (List Int)),rs=[(n:Int)]::t∧n≤14)
theorem lt49:(1000:Int)<10 ^ 49:=by decide
theorem zes (x:Int) {m:Int} (h:0<m):0≤x % m∧x % m<m:=⟨Int.emod_nonneg _ (by omega),Int.emod_lt_of_pos _ h⟩
theorem good0 {c:Int} (hb:Builtin.Int.intBits c≤1048576):∃ rs,F_l_good [.int 0,.int c]=some (rowsD rs)∧Bd 60 rs∧zk2 0 rs:=by
  obtain ⟨f,hf⟩:=zm0 (c:=c) (by omega)
  obtain ⟨n,en,hn⟩:=zjy hb (m:=20) (by decide) (by decide)
  have lt:=lt49
  have m1:=zes (mixZ c 5) (m:=20) (by decide)
  refine ⟨[[1+mixZ c 5 % 20],(List.range n).map fun (k:Nat)=>f k],?_,⟨by simp,?_,?_⟩,fun _=>⟨_,_,rfl,fun z=>by cases z⟩,fun z=>by cases z⟩
  · refine run_eqF F_l_good_def ?_
    rw [zfa]
    unfold zej
    refine wp_seq (wp_ifT (ev_t ((ev_eqF rfl rfl).trans rfl)) ?_)
    refine wp_ret (ev_lst (ev_cons (ev_lst (ev_cons (zcg rfl (zcw (ev_call (ev_cons rfl (ev_cons rfl rfl)) (mix c 5 (by omega) (by decide) (by decide))) rfl (by decide))) rfl)) (ev_cons (ev_lst (ev_compA0 natD (zf7 (n:=n) (by omega) (ev_call (ev_cons rfl (ev_cons rfl rfl)) en)) (fun k=>D.int (f k)) fun k hk=>⟨_,rfl,ev_call (ev_cons rfl (ev_cons rfl rfl)) (hf k (by omega) (by have:=List.mem_range.mp hk; omega)).1⟩)) rfl))) ?_
    unfold rowsD lsD
    simp only [List.map_cons,List.map_nil,List.map_map]
    rfl
  · intro r hr
    rcases List.mem_cons.mp hr with rfl | hr
    · simp
    · rw [List.mem_singleton.mp hr,List.length_map,List.length_range]; omega
  · intro r hr v hv
    rcases List.mem_cons.mp hr with rfl | hr
    · rw [List.mem_singleton.mp hv]
      exact zg1 (by omega) (by omega)
    · rw [List.mem_singleton.mp hr] at hv
      obtain ⟨k,hk,rfl⟩:=List.mem_map.mp hv
      have:=(hf k (by omega) (by have:=List.mem_range.mp hk; omega)).2
      exact zg1 (by omega) (by omega)
theorem good1 {c:Int} (hb:Builtin.Int.intBits c≤1048576):∃ rs,F_l_good [.int 1,.int c]=some (rowsD rs)∧Bd 60 rs∧zk2 1 rs:=by
  obtain ⟨n,en,hn⟩:=zjy hb (m:=6) (by decide) (by decide)
  have lt:=lt49
  have m1:=zes (mixZ c 5) (m:=7) (by decide)
  obtain ⟨w,hw,hw7⟩:∃ w:Nat,mixZ c 5 % 7=w∧w<7:=⟨(mixZ c 5 % 7).toNat,by omega,by omega⟩
  obtain ⟨f,hf⟩:∃ f:Nat→Int→Int,∀ j:Nat,j<100→∀ k:Int,0≤k→k<100→F_l_hour [.int (c+j),.int k]=some (.int (f j k))∧0≤f j k∧f j k<10 ^ 49:=by
    have all:∀ j:Nat,j<100→∃ f:Int→Int,∀ k:Int,0≤k→k<100→F_l_hour [.int (c+j),.int k]=some (.int (f k))∧0≤f k∧f k<10 ^ 49:=fun j hj=>zm0 (Nat.le_trans (ziu (k:=1048576) (by decide) hb (c:=(j:Int)) (by omega) (by omega)) (by decide))
    refine ⟨fun j=>if h:j<100 then (all j h).choose else fun _=>0,fun j hj=>?_⟩
    dsimp only
    rw [dif_pos hj]
    exact (all j hj).choose_spec
  refine ⟨(List.range n).map fun j=>(List.range w).map fun (k:Nat)=>f j k,?_,⟨by simp; omega,?_,?_⟩,fun z=>by omega,fun z=>by cases z⟩
  · refine run_eqF F_l_good_def ?_
    rw [zfa]
    unfold zej
    refine wp_seq (wp_ifF (ev_t ((ev_eqF rfl rfl).trans rfl)) (wp_pass ?_))
    refine wp_seq (wp_ifT (ev_t ((ev_eqF rfl rfl).trans rfl)) ?_)
    refine wp_seq (zbr (zcw (ev_call (ev_cons rfl (ev_cons rfl rfl)) (mix c 5 (by omega) (by decide) (by decide))) rfl (by decide)) ?_)
    walk_at "st"
    rw [hw]
    refine wp_ret (ev_lst (ev_compA0 natD (zf7 (n:=n) (by omega) (ev_call (ev_cons rfl (ev_cons rfl rfl)) en)) (fun j=>lsD ((List.range w).map fun (k:Nat)=>f j k)) fun j hj=>⟨_,rfl,ev_lst ?_⟩)) ?_
    · rw [List.map_map]
      have hj:=List.mem_range.mp hj
      exact ev_compA0 natD (zf7 (n:=w) (by omega) rfl) _ fun k hk=>⟨_,rfl,ev_call (ev_cons (zcg rfl rfl) (ev_cons rfl rfl)) (hf j (by omega) k (by omega) (by have:=List.mem_range.mp hk; omega)).1⟩
    · unfold rowsD
      rw [List.map_map]
      rfl
  · intro r hr
    obtain ⟨j,_,rfl⟩:=List.mem_map.mp hr
    rw [List.length_map,List.length_range]; omega
  · intro r hr v hv
    obtain ⟨j,hj,rfl⟩:=List.mem_map.mp hr
    obtain ⟨k,hk,rfl⟩:=List.mem_map.mp hv
    have hj:=List.mem_range.mp hj
    have:=(hf j (by omega) k (by omega) (by have:=List.mem_range.mp hk; omega)).2
    exact zg1 (by omega) (by omega)
theorem good2 {c:Int} (hb:Builtin.Int.intBits c≤1048576):∃ rs,F_l_good [.int 2,.int c]=some (rowsD rs)∧Bd 60 rs∧zk2 2 rs:=by
  obtain ⟨f,hf⟩:=zm0 (c:=c) (by omega)
  obtain ⟨n,en,hn⟩:=zjy hb (m:=12) (by decide) (by decide)
  have lt:=lt49
  refine ⟨(List.range n).map fun (k:Nat)=>[f k,1+f (k+20),f (k+40)],?_,⟨by simp; omega,?_,?_⟩,fun z=>by omega,fun z=>by cases z⟩
  · refine run_eqF F_l_good_def ?_
    rw [zfa]
    unfold zej
    refine wp_seq (wp_ifF (ev_t ((ev_eqF rfl rfl).trans rfl)) (wp_pass ?_))
    refine wp_seq (wp_ifF (ev_t ((ev_eqF rfl rfl).trans rfl)) (wp_pass ?_))
    refine wp_seq (wp_ifT (ev_t ((ev_eqF rfl rfl).trans rfl)) ?_)
    refine wp_seq (zbr (ev_call (ev_cons rfl (ev_cons rfl rfl)) en) ?_)
    walk_at "st"
    refine wp_ret (ev_lst (ev_compA0 natD (zf7 (n:=n) (by omega) rfl) (fun k=>lsD [f k,1+f (k+20),f (k+40)]) fun k hk=>⟨_,rfl,?_⟩)) ?_
    · have hk:=List.mem_range.mp hk
      exact ev_lst (ev_cons (ev_call (ev_cons rfl (ev_cons rfl rfl)) (hf k (by omega) (by omega)).1) (ev_cons (zcg rfl (ev_call (ev_cons rfl (ev_cons (zcg rfl rfl) rfl)) (hf (k+20) (by omega) (by omega)).1)) (ev_cons (ev_call (ev_cons rfl (ev_cons (zcg rfl rfl) rfl)) (hf (k+40) (by omega) (by omega)).1) rfl)))
    · unfold rowsD
      rw [List.map_map]
      rfl
  · intro r hr
    obtain ⟨j,_,rfl⟩:=List.mem_map.mp hr
    simp
  · intro r hr v hv
    obtain ⟨k,hk,rfl⟩:=List.mem_map.mp hr
    have hk:=List.mem_range.mp hk
    have h1:=(hf k (by omega) (by omega)).2
    have h2:=(hf (k+20) (by omega) (by omega)).2
    have h3:=(hf (k+40) (by omega) (by omega)).2
    rcases List.mem_cons.mp hv with rfl | hv
    · exact zg1 (by omega) (by omega)
    rcases List.mem_cons.mp hv with rfl | hv
    · exact zg1 (by omega) (by omega)
    · rw [List.mem_singleton.mp hv]
      exact zg1 (by omega) (by omega)
theorem good3 {c:Int} (hb:Builtin.Int.intBits c≤1048576):∃ rs,F_l_good [.int 3,.int c]=some (rowsD rs)∧Bd 60 rs∧zk2 3 rs:=by
  have hline:sizeLine=16777216:=sizeLine_eq
  obtain ⟨f,hf⟩:=zm0 (c:=c) (by omega)
  obtain ⟨n,en,hn⟩:=zjy hb (m:=8) (by decide) (by decide)
  have lt:=lt49
  have m1:=zes (mixZ c 5) (m:=8) (by decide)
  obtain ⟨d,e,rs,rfl,hrs⟩:=zeq F_l_good_def (ds:=[.int 3,.int c]) (P:=fun d=>∃ rs,d=rowsD rs∧Bd 60 rs) (by
    rw [zfa]
    unfold zej
    refine wp_seq (wp_ifF (ev_t ((ev_eqF rfl rfl).trans rfl)) (wp_pass ?_))
    refine wp_seq (wp_ifF (ev_t ((ev_eqF rfl rfl).trans rfl)) (wp_pass ?_))
    refine wp_seq (wp_ifF (ev_t ((ev_eqF rfl rfl).trans rfl)) (wp_pass ?_))
    refine wp_seq (wp_ifT (ev_t ((ev_eqF rfl rfl).trans rfl)) ?_)
    refine wp_seq (zdu (ds:=[[1+mixZ c 5 % 8]].map lsD) (ev_cons (ev_lst (ev_cons (zcg rfl (zcw (ev_call (ev_cons rfl (ev_cons rfl rfl)) (mix c 5 (by omega) (by decide) (by decide))) rfl (by decide))) rfl)) rfl) (by simp only [List.length_cons,List.length_nil]; omega) ?_)
    walk_at "st"
    refine wp_seq (zdn (zf7 (n:=n) (by omega) (ev_call (ev_cons rfl (ev_cons rfl rfl)) en)) (fun j ρ=>∃ (rs:List (List Int)) (v2 v3 v5 v6 v7 v8:Sl),rs.length=j+1∧(∀ r∈rs,r.length≤3∧∀ v∈r,v.natAbs<10 ^ 60)∧ρ=[.bo (.int 3),.bo (.int c),v2,v3,.ol (rs.map lsD),v5,v6,v7,v8]) ⟨[[1+mixZ c 5 % 8]],_,_,_,_,_,_,rfl,fun r hr=>?_,rfl⟩ ?_ ?_)
    · rw [List.mem_singleton.mp hr]
      exact ⟨by simp,fun v hv=>by rw [List.mem_singleton.mp hv]; exact zg1 (by omega) (by omega)⟩
    · rintro j d ρ hd ⟨rs,v2,v3,v5,v6,v7,v8,hl,hg,rfl⟩
      rw [List.getElem?_map] at hd
      obtain ⟨k,hk,rfl⟩:=Option.map_eq_some_iff.mp hd
      obtain ⟨hj,ek⟩:=List.getElem?_eq_some_iff.mp hk
      rw [List.length_range] at hj
      rw [List.getElem_range] at ek
      subst ek
      refine ⟨_,rfl,?_⟩
      dsimp only [gN,slm,List.set_cons_succ,List.set_cons_zero]
      have h1:=hf j (by omega) (by omega)
      have h2:=hf (j+20) (by omega) (by omega)
      have h3:=hf (j+40) (by omega) (by omega)
      refine wp_seq (zbr (ev_call (ev_cons rfl (ev_cons rfl rfl)) h1.1) ?_)
      walk_at "st"
      refine zmc (d:=lsD [f j,f j+f (j+20),f (j+40)]) rfl (ev_lst (ev_cons rfl (ev_cons (zcg rfl (ev_call (ev_cons rfl (ev_cons (zcg rfl rfl) rfl)) h2.1)) (ev_cons (ev_call (ev_cons rfl (ev_cons (zcg rfl rfl) rfl)) h3.1) rfl)))) (by rw [List.length_map]; omega) ?_
      refine ⟨rs++[[f j,f j+f (j+20),f (j+40)]],v2,v3,.pu (natD j),.pu (.int (f j)),v7,v8,by rw [List.length_append,hl]; rfl,fun r hr=>?_,by rw [List.map_append]; rfl⟩
      rcases List.mem_append.mp hr with hr | hr
      · exact hg r hr
      · rw [List.mem_singleton.mp hr]
        refine ⟨by simp,fun v hv=>?_⟩
        rcases List.mem_cons.mp hv with rfl | hv
        · exact zg1 (by omega) (by omega)
        rcases List.mem_cons.mp hv with rfl | hv
        · exact zg1 (by omega) (by omega)
        · rw [List.mem_singleton.mp hv]
          exact zg1 (by omega) (by omega)
    · rintro ρ ⟨rs,v2,v3,v5,v6,v7,v8,hl,hg,rfl⟩
      rw [List.length_map,List.length_range] at hl
      refine zg6 ?_
      dsimp only [frz,List.getD_cons_succ,List.getD_cons_zero,List.set_cons_succ,List.set_cons_zero]
      exact wp_ret rfl ⟨rs,rfl,⟨by omega,fun r hr=>Nat.le_trans (hg r hr).1 (by omega),fun r hr=>(hg r hr).2⟩⟩)
  exact ⟨rs,e,hrs,fun z=>by omega,fun z=>by cases z⟩
theorem good4 {c:Int} (hb:Builtin.Int.intBits c≤1048576):∃ rs,F_l_good [.int 4,.int c]=some (rowsD rs)∧Bd 60 rs∧zk2 4 rs:=by
  have hline:sizeLine=16777216:=sizeLine_eq
  obtain ⟨n,en,hn⟩:=zjy hb (m:=40) (by decide) (by decide)
  have lt:=lt49
  have m1:=zes (mixZ c 5) (m:=20) (by decide)
  have bits:∀ k:Nat,k<1000→Builtin.Int.intBits (c+k)≤1048580:=fun k h=>Nat.le_trans (ziu (k:=1048576) (by decide) hb (c:=(k:Int)) (by omega) (by omega)) (by decide)
  obtain ⟨d,e,r,rfl,hr,hl⟩:=zeq F_l_good_def (ds:=[.int 4,.int c]) (P:=fun d=>∃ r,d=rowsD [[1+mixZ c 5 % 20],r]∧Ris r∧r.length≤40) (by
    rw [zfa]
    unfold zej
    refine wp_seq (wp_ifF (ev_t ((ev_eqF rfl rfl).trans rfl)) (wp_pass ?_))
    refine wp_seq (wp_ifF (ev_t ((ev_eqF rfl rfl).trans rfl)) (wp_pass ?_))
    refine wp_seq (wp_ifF (ev_t ((ev_eqF rfl rfl).trans rfl)) (wp_pass ?_))
    refine wp_seq (wp_ifF (ev_t ((ev_eqF rfl rfl).trans rfl)) (wp_pass ?_))
    refine wp_seq (wp_ifT (ev_t ((ev_eqF rfl rfl).trans rfl)) ?_)
    refine wp_seq (zdu (ds:=([]:List Int).map D.int) rfl (by simp only [List.length_cons,List.length_nil]; omega) ?_)
    walk_at "st"
    refine wp_seq (zdn (zf7 (n:=n) (by omega) (ev_call (ev_cons rfl (ev_cons rfl rfl)) en)) (fun j ρ=>∃ (r:List Int) (v2 v3 v4 v5 v6 v8:Sl),r.length=j∧Ris r∧ρ=[.bo (.int 4),.bo (.int c),v2,v3,v4,v5,v6,.ol (r.map D.int),v8]) ⟨[],_,_,_,_,_,_,rfl,(fun i h=>by cases h),rfl⟩ ?_ ?_)
    · rintro j d ρ hd ⟨r,v2,v3,v4,v5,v6,v8,hl,hg,rfl⟩
      rw [List.getElem?_map] at hd
      obtain ⟨k,hk,rfl⟩:=Option.map_eq_some_iff.mp hd
      obtain ⟨hj,ek⟩:=List.getElem?_eq_some_iff.mp hk
      rw [List.length_range] at hj
      rw [List.getElem_range] at ek
      subst ek
      refine ⟨_,rfl,?_⟩
      dsimp only [gN,slm,List.set_cons_succ,List.set_cons_zero]
      refine wp_seq (wp_ins (n:=0) (d:=.int (-1)) rfl rfl (zfi rfl) ⟨by decide,by omega,by rw [List.length_map]; omega⟩ ?_)
      walk_at "st"
      let sh:Int→Int:=fun v=>v+if 0≤v then 1 else 0
      have e0:List.take (0:Int).toNat (r.map D.int)++D.int (-1)::List.drop (0:Int).toNat (r.map D.int)=(-1::r).map D.int:=rfl
      rw [e0]
      refine wp_seq (zdu (ds:=((-1::r).map sh).map D.int) ?_ (by simp only [List.length_cons,List.length_nil]; omega) ?_)
      · rw [List.map_map]
        refine ev_compA0 D.int (ev_asL rfl rfl) _ fun v _=>⟨_,rfl,?_⟩
        refine (zcg rfl (ev_f1 (ev_ge rfl rfl) rfl)).trans ?_
        show some (D.int (v+if decide (0≤v)=true then 1 else 0))=some (D.int (v+if 0≤v then 1 else 0))
        by_cases q:0≤v
        · rw [if_pos (decide_eq_true q),if_pos q]
        · rw [if_neg (by rw [decide_eq_false q]; exact Bool.false_ne_true),if_neg q]
      walk_at "st"
      have hs:Ris ((-1::r).map sh):=by
        intro i hi
        rw [List.length_map,List.length_cons] at hi ⊢
        cases i with
        | zero=>exact .inl rfl
        | succ i =>
          have q:=hg i (by omega)
          have eg:((-1::r).map sh).getD (i+1) 0=sh (r.getD i 0):=by
            rw [List.map_cons,List.getD_cons_succ,List.getD_eq_getElem?_getD,List.getElem?_map,List.getElem?_eq_getElem (show i<r.length by omega),List.getD_eq_getElem?_getD,List.getElem?_eq_getElem (show i<r.length by omega)]
            rfl
          rw [eg]
          show r.getD i 0+(if 0≤r.getD i 0 then (1:Int) else 0)=-1∨_<r.getD i 0+(if 0≤r.getD i 0 then (1:Int) else 0)∧r.getD i 0+(if 0≤r.getD i 0 then (1:Int) else 0) < _
          rcases q with q | ⟨q1,q2⟩
          · rw [if_neg (by omega)]; left; omega
          · rw [if_pos (by omega)]; right; omega
      have hsl:((-1::r).map sh).length=j+1:=by rw [List.length_map,List.length_cons,hl]
      generalize (-1::r).map sh=r' at hs hsl ⊢
      have e6:=mix (c+j) 6 (bits j (by omega)) (by decide) (by decide)
      have e7:=mix (c+j) 7 (bits j (by omega)) (by decide) (by decide)
      refine zfl (ev_and (ev_t (ev_gt rfl rfl)) fun _=>ev_t (ev_gt (zcw (ev_call (ev_cons (zcg rfl rfl) (ev_cons rfl rfl)) e6) rfl (by decide)) rfl)) (fun q=>?_) fun q=>wp_pass ⟨r',_,_,_,_,_,_,hsl,hs,rfl⟩
      rw [Bool.and_eq_true] at q
      have q:=of_decide_eq_true q.1
      have q:(0:Int)<(j:Int):=q
      have m2:=zes (mixZ (c+j) 7) (m:=(j:Int)) q
      refine wp_put (n:=0) (j:=0) (d:=.int (1+mixZ (c+j) 7 % j)) rfl (zcg rfl (zcw (ev_call (ev_cons (zcg rfl rfl) (ev_cons rfl rfl)) e7) rfl q)) rfl (by rw [List.length_map,hsl]; exact zjz (by decide) (by omega)) ?_
      refine ⟨r'.set 0 (1+mixZ (c+j) 7 % j),v2,v3,v4,.pu (natD j),v6,v8,by rw [List.length_set]; exact hsl,fun i hi=>?_,by rw [List.map_set]; rfl⟩
      rw [List.length_set] at hi ⊢
      cases i with
      | zero =>
        right
        have eg:(r'.set 0 (1+mixZ (c+j) 7 % j)).getD 0 0=1+mixZ (c+j) 7 % j:=by
          rw [List.getD_eq_getElem?_getD,List.getElem?_set_self (by omega)]
          rfl
        rw [eg,hsl]
        omega
      | succ i =>
        have eg:(r'.set 0 (1+mixZ (c+j) 7 % j)).getD (i+1) 0=r'.getD (i+1) 0:=by
          rw [List.getD_eq_getElem?_getD,List.getElem?_set_ne (by omega),List.getD_eq_getElem?_getD]
        rw [eg]
        exact hs (i+1) hi
    · rintro ρ ⟨r,v2,v3,v4,v5,v6,v8,hl,hg,rfl⟩
      rw [List.length_map,List.length_range] at hl
      refine zg6 ?_
      dsimp only [frz,List.getD_cons_succ,List.getD_cons_zero,List.set_cons_succ,List.set_cons_zero]
      exact wp_ret (ev_lst (ev_cons (ev_lst (ev_cons (zcg rfl (zcw (ev_call (ev_cons rfl (ev_cons rfl rfl)) (mix c 5 (by omega) (by decide) (by decide))) rfl (by decide))) rfl)) (ev_cons rfl rfl))) ⟨r,rfl,hg,by omega⟩)
  refine ⟨_,e,⟨by simp,?_,?_⟩,fun _=>⟨_,_,rfl,fun _=>hr⟩,fun z=>by cases z⟩
  · intro x hx
    rcases List.mem_cons.mp hx with rfl | hx
    · simp
    · rw [List.mem_singleton.mp hx]; omega
  · intro x hx v hv
    rcases List.mem_cons.mp hx with rfl | hx
    · rw [List.mem_singleton.mp hv]; exact zg1 (by omega) (by omega)
    · rw [List.mem_singleton.mp hx] at hv
      obtain ⟨i,hi,e⟩:=List.getElem_of_mem hv
      have:=hr i hi
      have eg:r.getD i 0=v:=by rw [List.getD_eq_getElem?_getD,List.getElem?_eq_getElem hi,e]; rfl
      rw [eg] at this
      exact zg1 (by omega) (by omega)
theorem good5 {c:Int} (hb:Builtin.Int.intBits c≤1048576):∃ rs,F_l_good [.int 5,.int c]=some (rowsD rs)∧Bd 60 rs∧zk2 5 rs:=by
  have hline:sizeLine=16777216:=sizeLine_eq
  obtain ⟨n,en,hn⟩:=zjy hb (m:=14) (by decide) (by decide)
  have lt:=lt49
  have m1:=zes (mixZ c 5) (m:=20) (by decide)
  have bits:∀ k:Nat,k<1000→Builtin.Int.intBits (c+k)≤1048580:=fun k h=>Nat.le_trans (ziu (k:=1048576) (by decide) hb (c:=(k:Int)) (by omega) (by omega)) (by decide)
  obtain ⟨m,hm,hm20⟩:∃ m:Nat,mixZ c 5 % 20=m∧m<20:=⟨(mixZ c 5 % 20).toNat,by omega,by omega⟩
  obtain ⟨d,e,t,rfl,hr,hl⟩:=zeq F_l_good_def (ds:=[.int 5,.int c]) (P:=fun d=>∃ t,d=rowsD ([(n:Int)]::t)∧(∀ r∈t,r.length=2∧∀ v∈r,v.natAbs<10 ^ 60)∧t.length≤20) (by
    rw [zfa]
    unfold zej
    refine wp_seq (wp_ifF (ev_t ((ev_eqF rfl rfl).trans rfl)) (wp_pass ?_))
    refine wp_seq (wp_ifF (ev_t ((ev_eqF rfl rfl).trans rfl)) (wp_pass ?_))
    refine wp_seq (wp_ifF (ev_t ((ev_eqF rfl rfl).trans rfl)) (wp_pass ?_))
    refine wp_seq (wp_ifF (ev_t ((ev_eqF rfl rfl).trans rfl)) (wp_pass ?_))
    refine wp_seq (wp_ifF (ev_t ((ev_eqF rfl rfl).trans rfl)) (wp_pass ?_))
    refine wp_seq (zbr (ev_call (ev_cons rfl (ev_cons rfl rfl)) en) ?_)
    walk_at "st"
    refine wp_seq (zdu (ds:=[[(n:Int)]].map lsD) (ev_cons (ev_lst (ev_cons rfl rfl)) rfl) (by simp only [List.length_cons,List.length_nil]; omega) ?_)
    walk_at "st"
    have er:dRg1 (dMod (za8 F_l_mix (zag (dVar 1) (zag (dC (.int 5)) dNil))) (dC (.int 20))) [.bo (.int 5),.bo (.int c),.un,.pu (.int (n:Int)),.ol ([[(n:Int)]].map lsD),.un,.un,.un,.un]=some ((List.range m).map natD):=by
      refine zf7 (n:=m) (by omega) ?_
      rw [← hm]
      exact zcw (ev_call (ev_cons rfl (ev_cons rfl rfl)) (mix c 5 (by omega) (by decide) (by decide))) rfl (by decide)
    refine wp_seq (zdn er (fun j ρ=>∃ (t:List (List Int)) (v2 v5 v6 v7 v8:Sl),t.length≤j∧(∀ r∈t,r.length=2∧∀ v∈r,v.natAbs<10 ^ 60)∧ρ=[.bo (.int 5),.bo (.int c),v2,.pu (.int (n:Int)),.ol (([(n:Int)]::t).map lsD),v5,v6,v7,v8]) ⟨[],_,_,_,_,_,Nat.le_refl _,(fun i h=>by cases h),rfl⟩ ?_ ?_)
    · rintro j d ρ hd ⟨t,v2,v5,v6,v7,v8,hl,hg,rfl⟩
      rw [List.getElem?_map] at hd
      obtain ⟨k,hk,rfl⟩:=Option.map_eq_some_iff.mp hd
      obtain ⟨hj,ek⟩:=List.getElem?_eq_some_iff.mp hk
      rw [List.length_range] at hj
      rw [List.getElem_range] at ek
      subst ek
      refine ⟨_,rfl,?_⟩
      dsimp only [gN,slm,List.set_cons_succ,List.set_cons_zero]
      refine zjr (ev_t (ev_gt rfl rfl)) (fun q=>?_) fun q=>wp_pass ⟨t,_,_,_,_,_,by omega,hg,rfl⟩
      have q:(1:Int)<(n:Int):=q
      have e6:=mix (c+j) 6 (bits j (by omega)) (by decide) (by decide)
      have e7:=mix (c+j) 7 (bits j (by omega)) (by decide) (by decide)
      have m2:=zes (mixZ (c+j) 6) (m:=(n:Int)-1) (by omega)
      refine wp_seq (zbr (zcw (ev_call (ev_cons (zcg rfl rfl) (ev_cons rfl rfl)) e6) (zgg rfl rfl) (by omega)) ?_)
      walk_at "st"
      generalize mixZ (c+j) 6 % ((n:Int)-1)=one at m2 ⊢
      have m3:=zes (mixZ (c+j) 7) (m:=(n:Int)-1-one) (by omega)
      refine zmc (d:=lsD [one,one+1+mixZ (c+j) 7 % ((n:Int)-1-one)]) rfl (ev_lst (ev_cons rfl (ev_cons (zcg (zcg rfl rfl) (zcw (ev_call (ev_cons (zcg rfl rfl) (ev_cons rfl rfl)) e7) (zgg (zgg rfl rfl) rfl) (by omega))) rfl))) (by rw [List.length_map,List.length_cons]; omega) ?_
      refine ⟨t++[[one,one+1+mixZ (c+j) 7 % ((n:Int)-1-one)]],v2,.pu (natD j),v6,v7,.pu (.int one),by rw [List.length_append]; simp; omega,fun r hr=>?_,by rw [← List.cons_append,List.map_append]; rfl⟩
      rcases List.mem_append.mp hr with hr | hr
      · exact hg r hr
      · rw [List.mem_singleton.mp hr]
        refine ⟨rfl,fun v hv=>?_⟩
        rcases List.mem_cons.mp hv with rfl | hv
        · exact zg1 (by omega) (by omega)
        · rw [List.mem_singleton.mp hv]
          exact zg1 (by omega) (by omega)
    · rintro ρ ⟨t,v2,v5,v6,v7,v8,hl,hg,rfl⟩
      rw [List.length_map,List.length_range] at hl
      refine zg6 ?_
      dsimp only [frz,List.getD_cons_succ,List.getD_cons_zero,List.set_cons_succ,List.set_cons_zero]
      exact wp_ret rfl ⟨t,rfl,hg,by omega⟩)
  refine ⟨_,e,⟨by simp; omega,?_,?_⟩,fun z=>by omega,fun _=>⟨n,t,rfl,by omega⟩⟩
  · intro x hx
    rcases List.mem_cons.mp hx with rfl | hx
    · simp
    · rw [(hr x hx).1]; omega
  · intro x hx v hv
    rcases List.mem_cons.mp hx with rfl | hx
    · rw [List.mem_singleton.mp hv]; exact zg1 (by omega) (by omega)
    · exact (hr x hx).2 v hv
theorem l_good {c a:Int} (hb:Builtin.Int.intBits c≤1048576) (h0:0≤a) (h1:a<6):∃ rs,F_l_good [.int a,.int c]=some (rowsD rs)∧Bd 60 rs∧zk2 a rs:=by
  have:a=0∨a=1∨a=2∨a=3∨a=4∨a=5:=by omega
  rcases this with rfl | rfl | rfl | rfl | rfl | rfl
  · exact good0 hb
  · exact good1 hb
  · exact good2 hb
  · exact good3 hb
  · exact good4 hb
  · exact good5 hb
abbrev sml (v:Int):Prop:=v.natAbs<10 ^ 60
theorem Bd.mono {n m:Nat} {rs:List (List Int)} (h:Bd n rs) (k:n≤m):Bd m rs:=⟨Nat.le_trans h.len k,fun r hr=>Nat.le_trans (h.row r hr) k,h.num⟩
theorem Bd.app {n m:Nat} {a b:List (List Int)} (h:Bd n a) (k:Bd m b):Bd (n+m) (a++b):=by
  refine ⟨by rw [List.length_append]; have:=h.len; have:=k.len; omega,fun r hr=>?_,fun r hr=>(List.mem_append.mp hr).elim (h.num r) (k.num r)⟩
  rcases List.mem_append.mp hr with z | z
  · have:=h.row r z; omega
  · have:=k.row r z; omega
theorem Bd.sub {n:Nat} {a b:List (List Int)} (h:Bd n a) (s:b.Sublist a):Bd n b:=⟨Nat.le_trans s.length_le h.len,fun r hr=>h.row r (s.subset hr),fun r hr=>h.num r (s.subset hr)⟩
theorem zlm {α:Type} (xs:List α) (lo hi:Option Int):(cutL xs lo hi).Sublist xs:=(List.take_sublist _ _).trans (List.drop_sublist _ _)
theorem cut_map {α β:Type} (f:α→β) (xs:List α) (lo hi:Option Int):cutL (xs.map f) lo hi=(cutL xs lo hi).map f:=by
  unfold cutL
  rw [List.length_map,List.map_take,List.map_drop]
def Nm (a:DE) (ρ:Rho):Prop:=∃ v:Int,a ρ=some (.int v)∧sml v
def NL (n:Nat) (es:Rho→Option (List D)) (ρ:Rho):Prop:=∃ vs:List Int,es ρ=some (vs.map D.int)∧vs.length≤n∧∀ v∈vs,sml v
def Ln (n:Nat) (a:DE) (ρ:Rho):Prop:=∃ r:List Int,a ρ=some (lsD r)∧r.length≤n∧∀ v∈r,sml v
def RL (n:Nat) (es:Rho→Option (List D)) (ρ:Rho):Prop:=∃ rs:List (List Int),es ρ=some (rs.map lsD)∧Bd n rs
def Rw (n:Nat) (a:DE) (ρ:Rho):Prop:=∃ rs:List (List Int),a ρ=some (rowsD rs)∧Bd n rs
def SL (n m:Nat) (es:Rho→Option (List D)) (ρ:Rho):Prop:=∃ ss:List (List (List Int)),es ρ=some (ss.map rowsD)∧ss.length=m∧∀ rs∈ss,Bd n rs
section
variable {ρ:Rho} {a b k:DE} {es:Rho→Option (List D)} {n m p:Nat}
theorem zmp:NL 0 dNil ρ:=⟨[],rfl,Nat.le_refl _,fun v h=>by cases h⟩
theorem zhc (h:Nm a ρ) (r:NL n es ρ):NL (n+1) (zag a es) ρ:=by
  obtain ⟨v,e,s⟩:=h
  obtain ⟨vs,e2,l,s2⟩:=r
  refine ⟨v::vs,ev_cons e e2,by rw [List.length_cons]; omega,fun x hx=>?_⟩
  rcases List.mem_cons.mp hx with rfl | hx
  · exact s
  · exact s2 x hx
theorem zjx (h:NL n es ρ):Ln n (dLst es) ρ:=by
  obtain ⟨vs,e,l,s⟩:=h
  exact ⟨vs,ev_lst e,l,s⟩
theorem nl_cat (h:Ln n a ρ) (r:Ln m b ρ) (hs:n+m≤100000):NL (n+m) (dCat a b) ρ:=by
  have hline:sizeLine=16777216:=sizeLine_eq
  obtain ⟨x,e,l,s⟩:=h
  obtain ⟨y,e2,l2,s2⟩:=r
  refine ⟨x++y,?_,by rw [List.length_append]; omega,fun v hv=>(List.mem_append.mp hv).elim (s v) (s2 v)⟩
  rw [List.map_append]
  exact zig e e2 (by rw [List.length_map,List.length_map]; omega)
theorem zlb {α:Type} (f:α→D) (x:α) (k:Nat):(List.replicate k [f x]).flatten=(List.replicate k x).map f:=by
  induction k with
  | zero=>rfl
  | succ k ih=>rw [List.replicate_succ,List.flatten_cons,ih,List.replicate_succ]; rfl
theorem nl_rep {i:Int} (h:Nm a ρ) (hk:k ρ=some (.int i)) (h0:-1000≤i) (h1:i≤100):NL 100 (dRep (zag a dNil) k) ρ:=by
  have hline:sizeLine=16777216:=sizeLine_eq
  obtain ⟨v,e,s⟩:=h
  refine ⟨List.replicate i.toNat v,(ev_rep (ds:=[.int v]) (i:=i) (ev_cons e rfl) hk ⟨by omega,by omega,by simp only [List.length_cons,List.length_nil]; omega⟩).trans (congrArg some (zlb D.int v _)),by rw [List.length_replicate]; omega,fun x hx=>by rw [List.eq_of_mem_replicate hx]; exact s⟩
theorem zmn {i:Int} (h:Ln n a ρ) (hk:k ρ=some (.int i)) (h0:-1000≤i) (h1:i≤100):RL (n+100) (dRep (zag a dNil) k) ρ:=by
  have hline:sizeLine=16777216:=sizeLine_eq
  obtain ⟨r,e,l,s⟩:=h
  refine ⟨List.replicate i.toNat r,(ev_rep (ds:=[lsD r]) (i:=i) (ev_cons e rfl) hk ⟨by omega,by omega,by simp only [List.length_cons,List.length_nil]; omega⟩).trans (congrArg some (zlb lsD r _)),⟨by rw [List.length_replicate]; omega,fun x hx=>by rw [List.eq_of_mem_replicate hx]; omega,fun x hx=>by rw [List.eq_of_mem_replicate hx]; exact s⟩⟩
theorem rl_nil:RL 0 dNil ρ:=⟨[],rfl,⟨Nat.le_refl _,(fun r h=>by cases h),fun r h=>by cases h⟩⟩
theorem rl_cons (h:Ln n a ρ) (r:RL m es ρ):RL (n+m+1) (zag a es) ρ:=by
  obtain ⟨v,e,l,s⟩:=h
  obtain ⟨rs,e2,bd⟩:=r
  refine ⟨v::rs,ev_cons e e2,⟨by rw [List.length_cons]; have:=bd.len; omega,fun x hx=>?_,fun x hx=>?_⟩⟩
  · rcases List.mem_cons.mp hx with rfl | hx
    · omega
    · have:=bd.row x hx; omega
  · rcases List.mem_cons.mp hx with rfl | hx
    · exact s
    · exact bd.num x hx
theorem zib (h:RL n es ρ):Rw n (dLst es) ρ:=by
  obtain ⟨rs,e,bd⟩:=h
  exact ⟨rs,ev_lst e,bd⟩
theorem zlx (h:Rw n a ρ) (r:Rw m b ρ) (hs:n+m≤100000):RL (n+m) (dCat a b) ρ:=by
  have hline:sizeLine=16777216:=sizeLine_eq
  obtain ⟨x,e,bx⟩:=h
  obtain ⟨y,e2,by_⟩:=r
  refine ⟨x++y,?_,bx.app by_⟩
  rw [List.map_append]
  have:=bx.len
  have:=by_.len
  exact zig e e2 (by rw [List.length_map,List.length_map]; omega)
theorem rl_sl {lo hi:Rho→Option (Option Int)} {l u:Option Int} (h:Rw n a ρ) (h1:lo ρ=some l) (h2:hi ρ=some u):RL n (dSl a lo hi) ρ:=by
  obtain ⟨x,e,bx⟩:=h
  exact ⟨cutL x l u,by rw [← cut_map]; exact zku (ev_asL e rfl) h1 h2,bx.sub (zlm _ _ _)⟩
theorem nl_sl {lo hi:Rho→Option (Option Int)} {l u:Option Int} (h:Ln n a ρ) (h1:lo ρ=some l) (h2:hi ρ=some u):NL n (dSl a lo hi) ρ:=by
  obtain ⟨x,e,lx,s⟩:=h
  exact ⟨cutL x l u,by rw [← cut_map]; exact zku (ev_asL e rfl) h1 h2,Nat.le_trans (zlm x l u).length_le lx,fun v hv=>s v ((zlm x l u).subset hv)⟩
theorem rw_put {q:Nat} (h:Rw n a ρ) (hk:k ρ=some (.int (q:Int))) (r:RL m es ρ) (hn:n≤1000) (hm:m≤1000):Rw (n+m) (za8 F_l_put (zag a (zag k (zag (dLst es) dNil)))) ρ:=by
  obtain ⟨x,e,bx⟩:=h
  obtain ⟨y,e2,by_⟩:=r
  have l1:=bx.len
  have l2:=by_.len
  have l3:=List.length_take_le q x
  have l4:=List.length_drop (i:=q+1) (l:=x)
  refine ⟨x.take q++y++x.drop (q+1),?_,⟨?_,?_,?_⟩⟩
  · refine (ev_call (ev_cons e (ev_cons hk (ev_cons (ev_lst e2) rfl))) (put_ev (by rw [List.length_map]; omega) (by rw [List.length_map]; omega))).trans ?_
    unfold rowsD
    rw [List.map_append,List.map_append,List.map_take,List.map_drop]
  · by_cases c:q<x.length
    · rw [List.length_append,List.length_append,List.length_take]; omega
    · rw [List.length_append,List.length_append,List.length_take]; omega
  · intro r hr
    rcases List.mem_append.mp hr with hr | hr
    · rcases List.mem_append.mp hr with hr | hr
      · have:=bx.row r (List.mem_of_mem_take hr); omega
      · have:=by_.row r hr; omega
    · have:=bx.row r (List.mem_of_mem_drop hr); omega
  · intro r hr
    rcases List.mem_append.mp hr with hr | hr
    · rcases List.mem_append.mp hr with hr | hr
      · exact bx.num r (List.mem_of_mem_take hr)
      · exact by_.num r hr
    · exact bx.num r (List.mem_of_mem_drop hr)
theorem ln_put {q:Nat} (h:Ln n a ρ) (hk:k ρ=some (.int (q:Int))) (r:NL m es ρ) (hn:n≤1000) (hm:m≤1000):Ln (n+m) (za8 F_l_put (zag a (zag k (zag (dLst es) dNil)))) ρ:=by
  obtain ⟨x,e,lx,sx⟩:=h
  obtain ⟨y,e2,ly,sy⟩:=r
  have l4:=List.length_drop (i:=q+1) (l:=x)
  refine ⟨x.take q++y++x.drop (q+1),?_,?_,?_⟩
  · refine (ev_call (ev_cons e (ev_cons hk (ev_cons (ev_lst e2) rfl))) (put_ev (by rw [List.length_map]; omega) (by rw [List.length_map]; omega))).trans ?_
    unfold lsD
    rw [List.map_append,List.map_append,List.map_take,List.map_drop]
  · rw [List.length_append,List.length_append,List.length_take]; omega
  · intro v hv
    rcases List.mem_append.mp hv with hv | hv
    · rcases List.mem_append.mp hv with hv | hv
      · exact sx v (List.mem_of_mem_take hv)
      · exact sy v hv
    · exact sx v (List.mem_of_mem_drop hv)
theorem sl_nil:SL 0 0 dNil ρ:=⟨[],rfl,rfl,fun r h=>by cases h⟩
theorem sl_cons (h:Rw n a ρ) (r:SL m p es ρ):SL (max n m) (p+1) (zag a es) ρ:=by
  obtain ⟨x,e,bx⟩:=h
  obtain ⟨ss,e2,l,bs⟩:=r
  refine ⟨x::ss,ev_cons e e2,by rw [List.length_cons]; omega,fun y hy=>?_⟩
  rcases List.mem_cons.mp hy with rfl | hy
  · exact bx.mono (Nat.le_max_left _ _)
  · exact (bs y hy).mono (Nat.le_max_right _ _)
theorem Rw.mono (h:Rw n a ρ) (k:n≤m):Rw m a ρ:=by
  obtain ⟨x,e,bx⟩:=h
  exact ⟨x,e,bx.mono k⟩
end
local macro_rules | `(tactic| walk_at "nm")=>`(tactic| first | exact ⟨_,rfl,by first | assumption | decide⟩ | exact ⟨_,zfi rfl,by decide⟩ | exact ⟨_,ev_f1 rfl (lenLs _),by assumption⟩)
local macro_rules | `(tactic| walk_at "nl")=>`(tactic| first
  | exact zmp
  | (apply zhc; (· walk_at "nm"); (· walk_at "nl"))
  | (apply nl_cat; (· walk_at "ln"); (· walk_at "ln"); (· decide))
  | (apply nl_sl; (· walk_at "ln"); (· first | rfl | exact zds rfl | exact zds (zfi rfl)); (· first | rfl | exact zds rfl | exact zds (zfi rfl))))
local macro_rules | `(tactic| walk_at "ln")=>`(tactic| first
  | exact ⟨_,rfl,by assumption,by assumption⟩
  | (apply zjx; walk_at "nl")
  | (apply ln_put; (· walk_at "ln"); (· rfl); (· walk_at "nl"); (· decide); (· decide)))
local macro_rules | `(tactic| walk_at "rl")=>`(tactic| first
  | exact rl_nil
  | (apply rl_cons; (· walk_at "ln"); (· walk_at "rl"))
  | (apply zlx; (· walk_at "rw"); (· walk_at "rw"); (· decide))
  | (apply rl_sl; (· walk_at "rw"); (· first | rfl | exact zds rfl); (· first | rfl | exact zds rfl)))
local macro_rules | `(tactic| walk_at "rw")=>`(tactic| first
  | exact ⟨_,rfl,by assumption⟩
  | (apply zib; walk_at "rl")
  | (apply rw_put; (· walk_at "rw"); (· rfl); (· walk_at "rl"); (· decide); (· decide)))
local macro_rules | `(tactic| walk_at "sl")=>`(tactic| first
  | exact sl_nil
  | (apply sl_cons; (· walk_at "rw"); (· walk_at "sl")))
theorem zeu {v:Int} (h0:-1000≤v) (h1:v<1000):sml v:=zg1 h0 (Int.lt_trans h1 (by decide))
theorem zlu {ρ:Rho} {a b:DE} {xs ys:List (List (List Int))} (ha:a ρ=some (.lst (xs.map rowsD))) (hb:b ρ=some (.lst (ys.map rowsD))) (hl:xs.length+ys.length≤10000):dCat a b ρ=some ((xs++ys).map rowsD):=by
  have hline:sizeLine=16777216:=sizeLine_eq
  rw [List.map_append]
  exact zig ha hb (by rw [List.length_map,List.length_map]; omega)
theorem wp_setSL {ρ:Rho} {W:Wk} {n m i:Nat} {es:Rho→Option (List D)} (h:SL n m es ρ) (k:∀ ss:List (List (List Int)),ss.length=m→(∀ rs∈ss,Bd n rs)→W.nx (ρ.set i (.pu (.lst (ss.map rowsD))))):Wp (sSet i (dLst es)) ρ W:=by
  obtain ⟨ss,e,l,b⟩:=h
  exact zbr (ev_lst e) (k ss l b)
theorem wp_setOSL {ρ:Rho} {W:Wk} {n m i:Nat} {es:Rho→Option (List D)} (h:SL n m es ρ) (hi:i < ρ.length) (k:∀ ss:List (List (List Int)),ss.length=m→(∀ rs∈ss,Bd n rs)→W.nx (ρ.set i (.ol (ss.map rowsD)))):Wp (zfc i es) ρ W:=by
  obtain ⟨ss,e,l,b⟩:=h
  exact zdu e hi (k ss l b)
theorem wp_appRw {ρ:Rho} {W:Wk} {n i:Nat} {a:DE} {ss:List (List (List Int))} (h0:ρ.getD i .un=.ol (ss.map rowsD)) (h:Rw n a ρ) (hl:ss.length<10000) (k:∀ rs,Bd n rs→W.nx (ρ.set i (.ol ((ss++[rs]).map rowsD)))):Wp (sApp i a) ρ W:=by
  have hline:sizeLine=16777216:=sizeLine_eq
  obtain ⟨rs,e,b⟩:=h
  refine zmc h0 e (by rw [List.length_map]; omega) ?_
  have:=k rs b
  rw [List.map_append] at this
  exact this
theorem wp_setCat {ρ:Rho} {W:Wk} {n m i:Nat} {a:DE} {es:Rho→Option (List D)} {xs:List (List (List Int))} (ha:a ρ=some (.lst (xs.map rowsD))) (h:SL n m es ρ) (hl:xs.length+m≤10000) (k:∀ ss:List (List (List Int)),ss.length=m→(∀ rs∈ss,Bd n rs)→W.nx (ρ.set i (.pu (.lst ((xs++ss).map rowsD))))):Wp (sSet i (dLst (dCat a (dLst es)))) ρ W:=by
  obtain ⟨ss,e,l,b⟩:=h
  exact zbr (ev_lst (zlu ha (ev_lst e) (by omega))) (k ss l b)
theorem wp_retCat {ρ:Rho} {W:Wk} {n m:Nat} {a:DE} {es:Rho→Option (List D)} {xs:List (List (List Int))} (ha:a ρ=some (.lst (xs.map rowsD))) (h:SL n m es ρ) (hl:xs.length+m≤10000) (k:∀ ss:List (List (List Int)),ss.length=m→(∀ rs∈ss,Bd n rs)→W.rt (.lst ((xs++ss).map rowsD))):Wp (sRet (dLst (dCat a (dLst es)))) ρ W:=by
  obtain ⟨ss,e,l,b⟩:=h
  exact wp_ret (ev_lst (zlu ha (ev_lst e) (by omega))) (k ss l b)
theorem wp_setOCat {ρ:Rho} {W:Wk} {n m i:Nat} {a:DE} {es:Rho→Option (List D)} {xs:List (List (List Int))} (ha:a ρ=some (.lst (xs.map rowsD))) (h:SL n m es ρ) (hl:xs.length+m≤10000) (hi:i < ρ.length) (k:∀ ss:List (List (List Int)),ss.length=m→(∀ rs∈ss,Bd n rs)→W.nx (ρ.set i (.ol ((xs++ss).map rowsD)))):Wp (zfc i (dCat a (dLst es))) ρ W:=by
  obtain ⟨ss,e,l,b⟩:=h
  exact zdu (zlu ha (ev_lst e) (by omega)) hi (k ss l b)
theorem Bd.up {n m:Nat} {ss:List (List (List Int))} (h:∀ rs∈ss,Bd n rs) (k:n≤m):∀ rs∈ss,Bd m rs:=fun rs hr=>(h rs hr).mono k
theorem zdv {m:Nat} {ss:List (List (List Int))} {r:List (List Int)} (h:∀ rs∈ss,Bd m rs) (k:Bd m r):∀ rs∈ss++[r],Bd m rs:=fun rs hr=>by
  rcases List.mem_append.mp hr with z | z
  · exact h rs z
  · rw [List.mem_singleton.mp z]; exact k
theorem zlr {m:Nat} {ss ts:List (List (List Int))} (h:∀ rs∈ss,Bd m rs) (k:∀ rs∈ts,Bd m rs):∀ rs∈ss++ts,Bd m rs:=fun rs hr=>(List.mem_append.mp hr).elim (h rs) (k rs)
theorem bent_pairs {c:Int} (hb:Builtin.Int.intBits c≤1048576) {n:Nat} {t:List (List Int)} (hn:n≤14) (bd:Bd 60 ([(n:Int)]::t)):∃ ss:List (List (List Int)),F_l_bent_pairs [rowsD ([(n:Int)]::t),.int c]=some (.lst (ss.map rowsD))∧ss≠[]∧ss.length≤500∧∀ rs∈ss,Bd 900 rs:=by
  obtain ⟨d,e,ss,rfl,h1,h2,h3⟩:=zeq F_l_bent_pairs_def (ds:=[rowsD ([(n:Int)]::t),.int c]) (P:=fun d=>∃ ss:List (List (List Int)),d=.lst (ss.map rowsD)∧ss≠[]∧ss.length≤500∧∀ rs∈ss,Bd 900 rs) (by
    rw [st_l_bent_pairs]
    unfold zd6
    refine wp_seq (zbr (ev_ix (ev_ix rfl rfl (zd8 (rs:=[(n:Int)]::t) (k:=0) rfl)) rfl (ixI (by decide) (by simp))) ?_)
    walk_at "st"
    have en:([(n:Int)]:List Int).getD (0:Int).toNat 0=(n:Int):=rfl
    rw [en]
    have mx:0<max 1 (n:Int):=by omega
    have mx2:max 1 (n:Int)≤14:=by omega
    have a1:=zes (mixZ c 8) mx
    refine wp_seq (zbr (zcw (ev_call (ev_cons rfl (ev_cons rfl rfl)) (mix c 8 (by omega) (by decide) (by decide))) (ev_max2 rfl rfl) mx) ?_)
    walk_at "st"
    generalize mixZ c 8 % max 1 (n:Int)=x at a1 ⊢
    have b1:=zes (x+1) mx
    refine wp_seq (zbr (zcw (zcg rfl rfl) (ev_max2 rfl rfl) mx) ?_)
    walk_at "st"
    generalize (x+1) % max 1 (n:Int)=y at b1 ⊢
    have c1:=zes (x+2) mx
    have sn:sml (n:Int):=zeu (by omega) (by omega)
    have sx:sml x:=zeu (by omega) (by omega)
    have sy:sml y:=zeu (by omega) (by omega)
    refine wp_seq (zbr (zga rfl) ?_)
    walk_at "st"
    have bt:Bd 60 t:=bd.sub (List.sublist_cons_self _ _)
    refine wp_seq (wp_setSL (by walk_at "sl") fun s1 l1 k1=>?_)
    walk_at "st"
    refine wp_seq (wp_setCat rfl (by walk_at "sl") (by omega) fun s2 l2 k2=>?_)
    walk_at "st"
    refine wp_seq (zbr (zcw (zcg rfl rfl) (ev_max2 rfl rfl) mx) ?_)
    walk_at "st"
    generalize (x+2) % max 1 (n:Int)=z at c1 ⊢
    have sz:sml z:=zeu (by omega) (by omega)
    refine wp_retCat rfl (by walk_at "sl") (by rw [List.length_append]; omega) fun s3 l3 k3=>⟨s1++s2++s3,rfl,fun q=>?_,by rw [List.length_append,List.length_append]; omega,zlr (zlr (Bd.up k1 (by decide)) (Bd.up k2 (by decide))) (Bd.up k3 (by decide))⟩
    have:=congrArg List.length q
    rw [List.length_append,List.length_append,List.length_nil] at this
    omega)
  exact ⟨ss,e,h1,h2,h3⟩
theorem bent_place {c:Int} (hb:Builtin.Int.intBits c≤1048576) {hs rs:List (List Int)} (bh:Bd 60 hs) (bd:Bd 60 rs) (hne:rs≠[]):∃ ss:List (List (List Int)),F_l_bent_place [rowsD hs,rowsD rs,.int c]=some (.lst (ss.map rowsD))∧ss.length≤500∧∀ x∈ss,Bd 900 x:=by
  have hline:sizeLine=16777216:=sizeLine_eq
  obtain ⟨d,e,ss,rfl,h2,h3⟩:=zeq F_l_bent_place_def (ds:=[rowsD hs,rowsD rs,.int c]) (P:=fun d=>∃ ss:List (List (List Int)),d=.lst (ss.map rowsD)∧ss.length≤500∧∀ x∈ss,Bd 900 x) (by
    rw [st_l_bent_place]
    unfold zd5
    refine wp_seq (zdu (ds:=([]:List (List (List Int))).map rowsD) rfl (by simp only [List.length_cons,List.length_nil]; omega) ?_)
    walk_at "st"
    have hp:0<(rs.length:Int):=by have:=List.length_pos_iff.mpr hne; omega
    have m1:=zes (mixZ c 8) hp
    obtain ⟨q,hq⟩:∃ q:Nat,mixZ c 8 % (rs.length:Int)=q:=⟨(mixZ c 8 % (rs.length:Int)).toNat,by omega⟩
    refine wp_seq (zbr (zcw (ev_call (ev_cons rfl (ev_cons rfl rfl)) (mix c 8 (by omega) (by decide) (by decide))) (ev_f1 rfl (lenRs rs)) hp) ?_)
    walk_at "st"
    rw [hq] at m1 ⊢
    have hq':q<rs.length:=by omega
    refine wp_seq (zbr (ev_ix rfl rfl (zd8 (List.getElem?_eq_getElem hq'))) ?_)
    walk_at "st"
    have hm:=List.getElem_mem hq'
    have lr:rs[q].length≤60:=bd.row _ hm
    have sr:∀ v∈rs[q],sml v:=bd.num _ hm
    generalize rs[q]=r at lr sr ⊢
    refine wp_seq (zdn (zf7 (n:=r.length) (by omega) (ev_f1 rfl (lenLs r))) (fun j ρ=>∃ (ss:List (List (List Int))) (v6 v7:Sl),ss.length=2*j∧(∀ x∈ss,Bd 900 x)∧ρ=[.pu (rowsD hs),.pu (rowsD rs),.bo (.int c),.ol (ss.map rowsD),.pu (.int (q:Int)),.pu (lsD r),v6,v7]) ⟨[],_,_,rfl,(fun x h=>by cases h),rfl⟩ ?_ ?_)
    · rintro j d ρ hd ⟨ss,v6,v7,hl,hg,rfl⟩
      rw [List.getElem?_map] at hd
      obtain ⟨k,hk,rfl⟩:=Option.map_eq_some_iff.mp hd
      obtain ⟨hj,ek⟩:=List.getElem?_eq_some_iff.mp hk
      rw [List.length_range] at hj
      refine ⟨_,rfl,?_⟩
      dsimp only [gN,slm,List.set_cons_succ,List.set_cons_zero]
      refine zdn (ds:=([-1,0]:List Int).map D.int) (ev_asL (ev_lst (ev_cons (zfi rfl) (ev_cons rfl rfl))) rfl) (fun i ρ=>∃ (ts:List (List (List Int))) (v7:Sl),ts.length=2*j+i∧(∀ x∈ts,Bd 900 x)∧ρ=[.pu (rowsD hs),.pu (rowsD rs),.bo (.int c),.ol (ts.map rowsD),.pu (.int (q:Int)),.pu (lsD r),.pu (natD k),v7]) ⟨ss,_,hl,hg,rfl⟩ ?_ ?_
      · rintro i d ρ hd ⟨ts,v7,hl,hg,rfl⟩
        rw [List.getElem?_map] at hd
        obtain ⟨v,hv,rfl⟩:=Option.map_eq_some_iff.mp hd
        have hi:i<2:=(List.getElem?_eq_some_iff.mp hv).1
        have hv:sml v:=by
          rcases List.mem_cons.mp (List.mem_of_getElem? hv) with rfl | h
          · decide
          · rw [List.mem_singleton.mp h]; decide
        refine ⟨_,rfl,?_⟩
        dsimp only [gN,slm,List.set_cons_succ,List.set_cons_zero]
        exact wp_appRw rfl (by walk_at "rw") (by omega) fun x bx=>⟨ts++[x],_,by rw [List.length_append,hl]; rfl,zdv hg (bx.mono (by decide)),rfl⟩
      · rintro ρ ⟨ts,v7,hl,hg,rfl⟩
        exact ⟨ts,_,_,by rw [hl]; show 2*j+2=_; omega,hg,rfl⟩
    · rintro ρ ⟨ss,v6,v7,hl,hg,rfl⟩
      rw [List.length_map,List.length_range] at hl
      refine wp_seq (wp_appRw rfl (by walk_at "rw") (by omega) fun x bx=>?_)
      have hg:=zdv hg (bx.mono (m:=900) (by decide))
      have hl:(ss++[x]).length≤121:=by rw [List.length_append]; simp; omega
      generalize ss++[x]=ss at hg hl ⊢
      walk_at "st"
      refine wp_seq (wp_appRw rfl (by walk_at "rw") (by omega) fun x bx=>?_)
      have hg:=zdv hg (bx.mono (m:=900) (by decide))
      have hl:(ss++[x]).length≤122:=by rw [List.length_append]; simp; omega
      generalize ss++[x]=ss at hg hl ⊢
      walk_at "st"
      refine wp_seq (wp_appRw rfl (by walk_at "rw") (by omega) fun x bx=>?_)
      have hg:=zdv hg (bx.mono (m:=900) (by decide))
      have hl:(ss++[x]).length≤123:=by rw [List.length_append]; simp; omega
      generalize ss++[x]=ss at hg hl ⊢
      walk_at "st"
      refine zg6 ?_
      dsimp only [frz,List.getD_cons_succ,List.getD_cons_zero,List.set_cons_succ,List.set_cons_zero]
      exact wp_ret rfl ⟨ss,rfl,by omega,hg⟩)
  exact ⟨ss,e,h2,h3⟩
theorem zj3 {ρ:Rho} {W:Wk} {n i:Nat} {a:DE} (h:Rw n a ρ) (k:∀ rs,Bd n rs→W.nx (ρ.set i (.pu (rowsD rs)))):Wp (sSet i a) ρ W:=by
  obtain ⟨rs,e,b⟩:=h
  exact zbr e (k rs b)
theorem wp_setNm {ρ:Rho} {W:Wk} {i:Nat} {a:DE} (h:Nm a ρ) (k:∀ v,sml v→W.nx (ρ.set i (.pu (.int v)))):Wp (sSet i a) ρ W:=by
  obtain ⟨v,e,b⟩:=h
  exact zbr e (k v b)
theorem one_of (b:Bool):(0:Int)≤(if b=true then 1 else 0)∧(if b=true then 1 else 0:Int)≤1:=by cases b <;> decide
theorem is4 {ρ:Rho} {a:Int} (h:dVar 0 ρ=some (.int a)):∃ v:Int,dF1 intD (dEq false (dVar 0) (dC (.int 4))) ρ=some (.int v)∧0≤v∧v≤1:=⟨_,ev_f1 (ev_eqF h rfl) rfl,one_of _⟩
theorem bent_list {c a:Int} (hb:Builtin.Int.intBits c≤1048576) {h r:List Int} (bd:Bd 60 [h,r]) (hr:a=4→Ris r):∃ ss:List (List (List Int)),F_l_bent_list [.int a,rowsD [h,r],.int c]=some (.lst (ss.map rowsD))∧ss≠[]∧ss.length≤500∧∀ x∈ss,Bd 900 x:=by
  have hline:sizeLine=16777216:=sizeLine_eq
  have lr:r.length≤60:=bd.row r (by simp)
  have sr:∀ v∈r,sml v:=bd.num r (by simp)
  have sl:sml (r.length:Int):=zeu (by omega) (by omega)
  obtain ⟨d,e,ss,rfl,h1,h2,h3⟩:=zeq F_l_bent_list_def (ds:=[.int a,rowsD [h,r],.int c]) (P:=fun d=>∃ ss:List (List (List Int)),d=.lst (ss.map rowsD)∧ss≠[]∧ss.length≤500∧∀ x∈ss,Bd 900 x) (by
    rw [st_l_bent_list]
    unfold zek
    refine wp_seq (zj3 (n:=60) (by walk_at "rw") fun hs bh=>?_)
    walk_at "st"
    refine wp_seq (zbr (ev_ix rfl rfl (zd8 (rs:=[h,r]) (k:=1) rfl)) ?_)
    walk_at "st"
    have mx:0<max 1 (r.length:Int):=by omega
    have m1:=zes (mixZ c 8) mx
    obtain ⟨q,hq⟩:∃ q:Nat,mixZ c 8 % max 1 (r.length:Int)=q:=⟨(mixZ c 8 % max 1 (r.length:Int)).toNat,by omega⟩
    refine wp_seq (zbr (zcw (ev_call (ev_cons rfl (ev_cons rfl rfl)) (mix c 8 (by omega) (by decide) (by decide))) (ev_max2 rfl (ev_f1 rfl (lenLs r))) mx) ?_)
    walk_at "st"
    rw [hq] at m1 ⊢
    have sq:sml (q:Int):=zeu (by omega) (by omega)
    refine wp_seq (wp_setNm ?_ fun v6 s6=>?_)
    · obtain ⟨v,ev,v0,v1⟩:=is4 (a:=a) (ρ:=[.bo (.int a),.pu (rowsD [h,r]),.bo (.int c),.pu (rowsD hs),.pu (lsD r),.pu (.int (q:Int)),.un,.un,.un]) rfl
      exact ⟨_,zgg (zfi rfl) ev,zeu (by omega) (by omega)⟩
    walk_at "st"
    refine wp_seq (wp_setOSL (by walk_at "sl") (by simp only [List.length_cons,List.length_nil]; omega) fun ss l0 hg=>?_)
    have hg:=Bd.up (m:=900) hg (by decide)
    have hl:0<ss.length∧ss.length≤10:=by omega
    clear l0
    walk_at "st"
    refine wp_seq (wp_appRw rfl (by walk_at "rw") (by omega) fun x bx=>?_)
    have hg:=zdv hg (bx.mono (m:=900) (by decide))
    have hl:0<(ss++[x]).length∧(ss++[x]).length≤11:=by rw [List.length_append]; simp; omega
    generalize ss++[x]=ss at hg hl ⊢
    walk_at "st"
    refine wp_seq (wp_appRw (n:=500) rfl ?_ (by omega) fun x bx=>?_)
    · obtain ⟨v,ev,v0,v1⟩:=is4 (a:=a) (ρ:=[.bo (.int a),.pu (rowsD [h,r]),.bo (.int c),.pu (rowsD hs),.pu (lsD r),.pu (.int (q:Int)),.pu (.int v6),.ol (ss.map rowsD),.un]) rfl
      refine Rw.mono (zib (zlx ⟨_,rfl,bh⟩ (zib (rl_cons (zjx (nl_cat ⟨_,rfl,lr,sr⟩ (zjx (nl_rep (i:=41-(r.length:Int)) (⟨0-v,zgg rfl ev,?_⟩:Nm _ _) (zgg rfl (ev_f1 rfl (lenLs r))) (by omega) (by omega))) (by decide))) rl_nil)) (by decide))) (by decide)
      exact zeu (by omega) (by omega)
    have hg:=zdv hg (bx.mono (m:=900) (by decide))
    have hl:0<(ss++[x]).length∧(ss++[x]).length≤12:=by rw [List.length_append]; simp; omega
    generalize ss++[x]=ss at hg hl ⊢
    walk_at "st"
    refine wp_seq (wp_appRw rfl (by walk_at "rw") (by omega) fun x bx=>?_)
    have hg:=zdv hg (bx.mono (m:=900) (by decide))
    have hl:0<(ss++[x]).length∧(ss++[x]).length≤13:=by rw [List.length_append]; simp; omega
    generalize ss++[x]=ss at hg hl ⊢
    walk_at "st"
    refine wp_seq (wp_appRw rfl (by walk_at "rw") (by omega) fun x bx=>?_)
    have hg:=zdv hg (bx.mono (m:=900) (by decide))
    have hl:0<(ss++[x]).length∧(ss++[x]).length≤14:=by rw [List.length_append]; simp; omega
    generalize ss++[x]=ss at hg hl ⊢
    walk_at "st"
    have fin:∀ (ss:List (List (List Int))) (v8:Sl),(∀ x∈ss,Bd 900 x)→0<ss.length∧ss.length≤15→Wp (sFrz 7 (sRet (zat 7))) [.bo (.int a),.pu (rowsD [h,r]),.bo (.int c),.pu (rowsD hs),.pu (lsD r),.pu (.int (q:Int)),.pu (.int v6),.ol (ss.map rowsD),v8] { nx:=fun _=>∃ ss:List (List (List Int)),D.non=.lst (ss.map rowsD)∧ss≠[]∧ss.length≤500∧∀ x∈ss,Bd 900 x,rt:=fun d=>∃ ss:List (List (List Int)),d=.lst (ss.map rowsD)∧ss≠[]∧ss.length≤500∧∀ x∈ss,Bd 900 x }:=fun ss v8 hg hl=>by
      refine zg6 ?_
      dsimp only [frz,List.getD_cons_succ,List.getD_cons_zero,List.set_cons_succ,List.set_cons_zero]
      exact wp_ret rfl ⟨ss,rfl,fun z=>by rw [z] at hl; exact absurd hl.1 (by decide),by omega,hg⟩
    refine wp_seq (zfl (ev_and (ev_t (ev_eqF rfl rfl)) fun _=>zi6 (r:=r) rfl 0) (fun cc=>?_) fun _=>wp_pass (fin ss _ hg (by omega)))
    rw [Bool.and_eq_true] at cc
    have c1:a=4:=of_decide_eq_true cc.1
    have c2:0<r.length:=of_decide_eq_true cc.2
    have ris:=hr c1
    refine wp_seq (zbr rfl ?_)
    walk_at "st"
    refine wp_seq (zj2 (fun m ρ=>∃ root:Nat,m=r.length-root∧root<r.length∧ρ=[.bo (.int a),.pu (rowsD [h,r]),.bo (.int c),.pu (rowsD hs),.pu (lsD r),.pu (.int (q:Int)),.pu (.int v6),.ol (ss.map rowsD),.pu (.int (root:Int))]) (r.length-q) ⟨q,rfl,by omega,rfl⟩ ?_)
    rintro m ρ ⟨root,rfl,hroot,rfl⟩
    have ix:ixD (lsD r) (root:Int)=some (.int (r.getD root 0)):=by
      have:=ixI (ns:=r) (i:=(root:Int)) (by omega) (by omega)
      rw [Int.toNat_natCast] at this
      exact this
    refine ⟨_,ev_t (ev_ge (ev_ix rfl rfl ix) rfl),fun cc=>?_,fun cc=>?_⟩
    · have cc:(0:Int)≤r.getD root 0:=of_decide_eq_true cc
      refine zbr (ev_ix rfl rfl ix) ?_
      walk_at "st"
      have:=ris root hroot
      refine ⟨r.length-(r.getD root 0).toNat,by omega,(r.getD root 0).toNat,rfl,by omega,?_⟩
      rw [Int.toNat_of_nonneg cc]
    · refine wp_appRw rfl (by walk_at "rw") (by omega) fun x bx=>?_
      walk_at "st"
      exact fin _ _ (zdv hg (bx.mono (by decide))) (by rw [List.length_append]; simp; omega))
  exact ⟨ss,e,h1,h2,h3⟩
abbrev Pb (d:D):Prop:=∃ ss:List (List (List Int)),d=.lst (ss.map rowsD)∧ss≠[]∧ss.length≤1000∧∀ x∈ss,Bd 900 x
theorem zki {c a:Int} (hb:Builtin.Int.intBits c≤1048576) {rs hs:List (List Int)} (bd:Bd 60 rs) (bh:Bd 60 hs) {ss:List (List (List Int))} (hg:∀ x∈ss,Bd 900 x) (hl:0<ss.length∧ss.length≤400) {v5:Sl} :
    Wp (sSeq (sIf (dAnd (dT (dGt (dF1 lenD (dVar 1)) (dC (.int 0)))) (dT (dGt (dF1 lenD (dIx (dVar 1) (dC (.int 0)))) (dC (.int 0)))))
      (sFrz 3 (zfc 3 (dCat (zat 3) (za8 F_l_bent_place (zag (zat 4) (zag (zat 1) (zag (dVar 2) dNil)))))))
      zb7)
    (sFrz 3 (sRet (zat 3)))) [.bo (.int a),.pu (rowsD rs),.bo (.int c),.ol (ss.map rowsD),.pu (rowsD hs),v5] { nx:=fun _=>Pb .non,rt:=Pb }:=by
  have hline:sizeLine=16777216:=sizeLine_eq
  have fin:∀ (ss:List (List (List Int))),(∀ x∈ss,Bd 900 x)→0<ss.length∧ss.length≤1000→Wp (sFrz 3 (sRet (zat 3))) [.bo (.int a),.pu (rowsD rs),.bo (.int c),.ol (ss.map rowsD),.pu (rowsD hs),v5] { nx:=fun _=>Pb .non,rt:=Pb }:=fun ss hg hl=>by
    refine zg6 ?_
    dsimp only [frz,List.getD_cons_succ,List.getD_cons_zero,List.set_cons_succ,List.set_cons_zero]
    exact wp_ret rfl ⟨ss,rfl,(fun z=>by rw [z] at hl; exact absurd hl.1 (by decide)),by omega,hg⟩
  refine wp_seq (zfl (ev_and (x:=decide (0<rs.length)) (y:=decide (0<(rs.headD []).length)) (zkr rfl 0) fun cc=>zi6 (ze0 (fun z=>by rw [z] at cc; cases cc) rfl) 0) (fun cc=>?_) fun _=>wp_pass (fin ss hg (by omega)))
  rw [Bool.and_eq_true] at cc
  have c1:0<rs.length:=of_decide_eq_true cc.1
  obtain ⟨ts,e,l2,k2⟩:=bent_place hb bh bd (List.length_pos_iff.mp c1)
  refine zg6 ?_
  show Wp _ [.bo (.int a),.pu (rowsD rs),.bo (.int c),.pu (.lst (ss.map rowsD)),.pu (rowsD hs),v5] _
  refine zdu (zlu (xs:=ss) (ys:=ts) rfl (ev_call (ev_cons rfl (ev_cons rfl (ev_cons rfl rfl))) e) (by omega)) (by first | (simp only [List.length_cons,List.length_nil]; omega) | decide | exact Nat.lt_of_sub_pos (by decide)) ?_
  walk_at "st"
  exact fin _ (zlr hg k2) (by rw [List.length_append]; omega)
theorem in04 {ρ:Rho} {a:Int} (h:dVar 0 ρ=some (.int a)):dT (dIn false (dVar 0) (dTup (zag (dC (.int 0)) (zag (dC (.int 4)) dNil)))) ρ=some (decide (a=0∨a=4)):=by
  refine ev_t ?_
  have e:dTup (zag (dC (.int 0)) (zag (dC (.int 4)) dNil)) ρ=some (.tup (([0,4]:List Int).map D.int)):=rfl
  unfold dIn
  rw [h,e]
  dsimp only [inS]
  rw [zgy]
  show some (D.bl _)=_
  congr 2
  rw [Bool.eq_iff_iff]
  simp
theorem pad_rows {rs:List (List Int)} (bd:Bd 60 rs) {ρ:Rho} {a:DE} (ha:a ρ=some (rowsD rs)):Rw 200 (dLst (zdb 1 [] (asL a) (gN true 0) zdd (dLst (dCat (zat 0) (dLst (dRep (zag (dC (.int 0)) dNil) (dSub (dC (.int 7)) (dF1 lenD (dVar 0))))))))) ρ:=by
  have hline:sizeLine=16777216:=sizeLine_eq
  refine ⟨rs.map fun r=>r++List.replicate (7-(r.length:Int)).toNat 0,ev_lst ((ev_compA0 lsD (ev_asL ha rfl) (fun r=>lsD (r++List.replicate (7-(r.length:Int)).toNat 0)) fun r hr=>⟨_,rfl,?_⟩).trans ?_),?_,?_,?_⟩
  · have lr:=bd.row r hr
    refine (ev_lst (zig (xs:=r.map D.int) (ys:=(List.replicate (7-(r.length:Int)).toNat 0).map D.int) rfl (ev_lst ((ev_rep (ds:=[.int 0]) (i:=7-(r.length:Int)) rfl (zgg rfl (ev_f1 rfl (lenLs r))) ⟨by omega,by omega,by simp only [List.length_cons,List.length_nil]; omega⟩).trans (congrArg some (zlb D.int 0 _)))) (by rw [List.length_map,List.length_map,List.length_replicate]; omega))).trans ?_
    unfold lsD
    rw [List.map_append]
  · rw [List.map_map]
    rfl
  · rw [List.length_map]; have:=bd.len; omega
  · intro x hx
    obtain ⟨r,hr,rfl⟩:=List.mem_map.mp hx
    have:=bd.row r hr
    rw [List.length_append,List.length_replicate]; omega
  · intro x hx v hv
    obtain ⟨r,hr,rfl⟩:=List.mem_map.mp hx
    rcases List.mem_append.mp hv with hv | hv
    · exact bd.num r hr v hv
    · rw [List.eq_of_mem_replicate hv]; decide
theorem l_bent {c a:Int} (hb:Builtin.Int.intBits c≤1048576) (h0:0≤a) (h1:a<6) {rs:List (List Int)} (bd:Bd 60 rs) (sh:zk2 a rs):∃ ss:List (List (List Int)),F_l_bent [.int a,rowsD rs,.int c]=some (.lst (ss.map rowsD))∧ss≠[]∧ss.length≤1000∧∀ x∈ss,Bd 900 x:=by
  have hline:sizeLine=16777216:=sizeLine_eq
  obtain ⟨d,e,ss,rfl,k1,k2,k3⟩:=zeq F_l_bent_def (ds:=[.int a,rowsD rs,.int c]) (P:=Pb) (by
    rw [st_l_bent]
    unfold ziz
    refine wp_seq (zjr (in04 rfl) (fun ha=>?_) fun ha=>wp_pass ?_)
    · obtain ⟨h,r,rfl,hr⟩:=sh.1 ha
      obtain ⟨ss,e,q1,q2,q3⟩:=bent_list (a:=a) hb bd hr
      exact wp_ret (ev_call (ev_cons rfl (ev_cons rfl (ev_cons rfl rfl))) e) ⟨ss,rfl,q1,by omega,q3⟩
    refine wp_seq (zjr (ev_t (ev_eqF rfl rfl)) (fun h5=>?_) fun h5=>wp_pass ?_)
    · obtain ⟨n,t,rfl,hn⟩:=sh.2 h5
      obtain ⟨ss,e,q1,q2,q3⟩:=bent_pairs hb hn bd
      exact wp_ret (ev_call (ev_cons rfl (ev_cons rfl rfl)) e) ⟨ss,rfl,q1,by omega,q3⟩
    refine wp_seq (wp_setOSL (by walk_at "sl") (by simp only [List.length_cons,List.length_nil]; omega) fun ss l0 hg=>?_)
    have hg:=Bd.up (m:=900) hg (by decide)
    have hl:0<ss.length∧ss.length≤10:=by omega
    clear l0
    walk_at "st"
    refine wp_seq (zbr (d:=rowsD []) rfl ?_)
    walk_at "st"
    have b0:Bd 60 ([]:List (List Int)):=⟨by decide,(fun r h=>by cases h),fun r h=>by cases h⟩
    have:a=1∨a=2∨a=3:=by omega
    rcases this with rfl | rfl | rfl
    · refine wp_seq (wp_ifT (ev_t ((ev_eqF rfl rfl).trans rfl)) ?_)
      obtain ⟨xs,ex,bx⟩:RL 60 (dSl (zat 1) zd1 (zdt (dC (.int 1)))) [.bo (.int 1),.pu (rowsD rs),.bo (.int c),.ol (ss.map rowsD),.pu (rowsD []),.un]:=rl_sl ⟨_,rfl,bd⟩ rfl (zds rfl)
      have lx:=bx.len
      have lrs:=bd.len
      refine wp_seq (zdn (ds:=xs.map lsD) (ev_asL (ev_lst ex) rfl) (fun j ρ=>∃ (ts:List (List (List Int))) (v5:Sl),0<ts.length∧ts.length≤10+j∧(∀ x∈ts,Bd 900 x)∧ρ=[.bo (.int 1),.pu (rowsD rs),.bo (.int c),.ol (ts.map rowsD),.pu (rowsD []),v5]) ⟨ss,_,hl.1,hl.2,hg,rfl⟩ ?_ ?_)
      · rintro j d ρ hd ⟨ts,v5,p0,p1,p2,rfl⟩
        rw [List.getElem?_map] at hd
        obtain ⟨r,hr,rfl⟩:=Option.map_eq_some_iff.mp hd
        have hj:j<xs.length:=(List.getElem?_eq_some_iff.mp hr).1
        have lr:=bx.row r (List.mem_of_getElem? hr)
        refine ⟨_,rfl,?_⟩
        dsimp only [gN,slm,List.set_cons_succ,List.set_cons_zero]
        refine wp_appRw (n:=800) rfl ?_ (by omega) fun x bx2=>⟨ts++[x],_,by rw [List.length_append]; omega,by rw [List.length_append]; simp; omega,zdv p2 (bx2.mono (by decide)),rfl⟩
        refine Rw.mono (zib (zlx ⟨_,rfl,bd⟩ (zib (zmn (i:=7-(rs.length:Int)) (zjx (nl_rep (i:=(r.length:Int)) (⟨0,rfl,by decide⟩:Nm _ _) (ev_f1 rfl (lenLs r)) (by omega) (by omega))) (zgg rfl (ev_f1 rfl (lenRs rs))) (by omega) (by omega))) (by decide))) (by decide)
      · rintro ρ ⟨ts,v5,p0,p1,p2,rfl⟩
        rw [List.length_map] at p1
        refine wp_appRw rfl (pad_rows bd rfl) (by omega) fun x bx2=>?_
        walk_at "st"
        have p2:=zdv p2 (bx2.mono (m:=900) (by decide))
        have p3:0<(ts++[x]).length∧(ts++[x]).length≤100:=by rw [List.length_append]; simp; omega
        generalize ts++[x]=us at p2 p3 ⊢
        refine wp_seq (wp_ifF (ev_t ((ev_eqF rfl rfl).trans rfl)) (wp_pass ?_))
        refine wp_seq (wp_ifF (ev_t ((ev_eqF rfl rfl).trans rfl)) (wp_pass ?_))
        exact zki hb bd b0 p2 (by omega)
    · refine wp_seq (wp_ifF (ev_t ((ev_eqF rfl rfl).trans rfl)) (wp_pass ?_))
      refine wp_seq (wp_ifT (ev_t ((ev_eqF rfl rfl).trans rfl)) ?_)
      refine wp_appRw (n:=800) rfl (Rw.mono (zib (zmn (i:=13) (zjx (zhc ⟨0,rfl,by decide⟩ (zhc ⟨1,rfl,by decide⟩ (zhc ⟨0,rfl,by decide⟩ zmp)))) rfl (by decide) (by decide))) (by decide)) (by omega) fun x bx2=>?_
      walk_at "st"
      have p2:=zdv hg (bx2.mono (m:=900) (by decide))
      have p3:0<(ss++[x]).length∧(ss++[x]).length≤100:=by rw [List.length_append]; simp; omega
      generalize ss++[x]=us at p2 p3 ⊢
      refine wp_seq (wp_ifF (ev_t ((ev_eqF rfl rfl).trans rfl)) (wp_pass ?_))
      exact zki hb bd b0 p2 (by omega)
    · refine wp_seq (wp_ifF (ev_t ((ev_eqF rfl rfl).trans rfl)) (wp_pass ?_))
      refine wp_seq (wp_ifF (ev_t ((ev_eqF rfl rfl).trans rfl)) (wp_pass ?_))
      refine wp_seq (wp_ifT (ev_t ((ev_eqF rfl rfl).trans rfl)) ?_)
      refine wp_seq (zg6 ?_)
      show Wp _ [.bo (.int 3),.pu (rowsD rs),.bo (.int c),.pu (.lst (ss.map rowsD)),.pu (rowsD []),.un] _
      refine wp_setOCat (xs:=ss) rfl (by walk_at "sl") (by omega) (by first | (simp only [List.length_cons,List.length_nil]; omega) | decide | exact Nat.lt_of_sub_pos (by decide)) fun ts lt kt=>?_
      walk_at "st"
      have p2:=zlr hg (Bd.up (m:=900) kt (by decide))
      have p3:0<(ss++ts).length∧(ss++ts).length≤100:=by rw [List.length_append]; omega
      generalize ss++ts=us at p2 p3 ⊢
      refine wp_seq (zj3 (n:=60) (by walk_at "rw") fun hs bh=>?_)
      walk_at "st"
      refine wp_seq (zj3 (n:=60) (by walk_at "rw") fun rs' br=>?_)
      walk_at "st"
      refine wp_appRw (n:=800) rfl (Rw.mono (zib (zlx ⟨_,rfl,bh⟩ (zib (zmn (i:=9) (zjx (zhc ⟨0,rfl,by decide⟩ (zhc ⟨1,rfl,by decide⟩ (zhc ⟨1,rfl,by decide⟩ zmp)))) rfl (by decide) (by decide))) (by decide))) (by decide)) (by omega) fun x bx2=>?_
      walk_at "st"
      have p2:=zdv p2 (bx2.mono (m:=900) (by decide))
      have p3:0<(us++[x]).length∧(us++[x]).length≤200:=by rw [List.length_append]; simp; omega
      exact zki hb br bh p2 (by omega))
  exact ⟨ss,e,k1,k2,k3⟩
theorem KAx:F_kinds []=some (.lst [.ins zft,.ins zhi,.ins zfr,.ins zd2,.ins zhh,.ins zfs]):=by
  refine run_eqG F_kinds_def ?_
  rw [st_kinds]
  unfold zkl
  exact wp_ret (ev_lst (ev_cons rfl (ev_cons rfl (ev_cons rfl (ev_cons rfl (ev_cons rfl (ev_cons rfl rfl))))))) rfl
noncomputable abbrev MT:List (Addr×(List D→Option D)):=[(zft,F_Alike_fits),(zhi,F_Open_fits),(zfr,F_Tails_fits),(zd2,F_Windows_fits),(zhh,F_Tree_fits),(zfs,F_Pairs_fits)]
theorem both {a:Int} (h0:0≤a) (h1:a<6) {rs:List (List Int)} (bd:Bd 900 rs) {ρ:Rho} {o k x:DE} (ho:o ρ=some (.lst [.ins zft,.ins zhi,.ins zfr,.ins zd2,.ins zhh,.ins zfs])) (hk:k ρ=some (.int a)) (hx:x ρ=some (rowsD rs)) :
    ∃ b,zll MT (dIx o k) (zag x dNil) ρ=some (.bl b)∧F_l_due [.int a,rowsD rs]=some (.bl b):=by
  have w70:∀ r∈rs,∀ v∈r,v.natAbs<10 ^ 70:=fun r hr v hv=>Nat.lt_trans (bd.num r hr v hv) (by decide)
  have l1:rs.length≤1000:=Nat.le_trans bd.len (by decide)
  have l2:∀ r∈rs,r.length≤1000:=fun r hr=>Nat.le_trans (bd.row r hr) (by decide)
  have:a=0∨a=1∨a=2∨a=3∨a=4∨a=5:=by omega
  rcases this with rfl | rfl | rfl | rfl | rfl | rfl
  · exact ⟨_,zh5 (ev_ix ho hk rfl) rfl (ev_cons hx rfl) (alike_fits _ rs),due0 rs l2⟩
  · exact ⟨_,zh5 (ev_ix ho hk rfl) rfl (ev_cons hx rfl) (open_fits _ rs),due1 rs l1 l2⟩
  · exact ⟨_,zh5 (ev_ix ho hk rfl) rfl (ev_cons hx rfl) (tails_fits _ rs),due2 rs⟩
  · exact ⟨_,zh5 (ev_ix ho hk rfl) rfl (ev_cons hx rfl) (windows_fits _ rs),due3 rs⟩
  · exact ⟨_,zh5 (ev_ix ho hk rfl) rfl (ev_cons hx rfl) (tree_fits _ rs w70),due4 rs l2⟩
  · exact ⟨_,zh5 (ev_ix ho hk rfl) rfl (ev_cons hx rfl) (pairs_fits _ rs l1 w70),due5 rs l1⟩
theorem copy_ev {rs:List (List Int)} {ρ:Rho} {a:DE} (ha:a ρ=some (rowsD rs)):dLst (zdb 1 [] (asL a) (gN true 0) zdd (dLst (dLof (zat 0)))) ρ=some (rowsD rs) :=
  ev_lst (ev_compA0 lsD (ev_asL ha rfl) lsD fun r _=>⟨_,rfl,ev_lst (zmu rfl rfl)⟩)
theorem cmp_rs (rs:List (List Int)):cmpb 20 (rowsD rs) (rowsD rs)=true:=by
  show (decide _ || (List.zip (rs.map lsD) (rs.map lsD)).all fun p=>cmpb 19 p.1 p.2)=true
  rw [Bool.or_eq_true]
  refine .inr (List.all_eq_true.mpr fun q hq=>?_)
  obtain ⟨a,b⟩:=q
  obtain ⟨h1,h2⟩:=List.of_mem_zip hq
  obtain ⟨x,_,rfl⟩:=List.mem_map.mp h1
  obtain ⟨y,_,rfl⟩:=List.mem_map.mp h2
  exact cmp_ints x y
theorem law_true (ns:List Int) (hl:ns.length≤63) (hb:∀ m∈ns,Builtin.Int.intBits m≤1048576):F_law [.scr ns]=some (.bl true):=by
  have hline:sizeLine=16777216:=sizeLine_eq
  refine run_eqF F_law_def ?_
  rw [st_law]
  unfold zm4
  obtain ⟨ks,ek,hk,hkl⟩:∃ ks:List Int,cutL (ns.map D.int) none (some 63)=ks.map D.int∧(∀ m∈ks,m∈ns)∧ks.length≤ns.length:=by
    unfold cutL
    rw [← List.map_drop,← List.map_take]
    refine ⟨_,rfl,fun m hm=>List.mem_of_mem_drop (List.mem_of_mem_take hm),?_⟩
    rw [List.length_take,List.length_drop]
    omega
  have hf:zf9 (ks.map D.int)=true:=by
    unfold zf9
    rw [List.all_eq_true]
    intro d hd
    obtain ⟨m,_,rfl⟩:=List.mem_map.mp hd
    rfl
  refine wp_seq (zbr (ev_call rfl KAx) ?_)
  walk_at "st"
  refine wp_seq (zdn (ds:=(4::ks).map D.int) (ev_asL (ev_lst (zig (xs:=[.int 4]) (ys:=ks.map D.int) rfl (ev_lst (ev_flat (by rw [← ek]; exact zku (ev_asL rfl rfl) rfl rfl) hf)) (by rw [List.length_map]; simp; omega))) rfl) (fun _ ρ=>∃ v2 v3 v4 v5 v6 v7:Sl,ρ=[.bo (.scr ns),.pu (.lst [.ins zft,.ins zhi,.ins zfr,.ins zd2,.ins zhh,.ins zfs]),v2,v3,v4,v5,v6,v7]) ⟨_,_,_,_,_,_,rfl⟩ ?_ ?_)
  · rintro j d ρ hd ⟨v2,v3,v4,v5,v6,v7,rfl⟩
    rw [List.getElem?_map] at hd
    obtain ⟨c,hc,rfl⟩:=Option.map_eq_some_iff.mp hd
    refine ⟨_,rfl,?_⟩
    dsimp only [gN,slm,List.set_cons_succ,List.set_cons_zero]
    have hcb:Builtin.Int.intBits c≤1048576:=by
      rcases List.mem_cons.mp (List.mem_of_getElem? hc) with rfl | h
      · decide
      · exact hb c (hk c h)
    have m6:=zes c (m:=6) (by decide)
    refine wp_seq (zbr (zcw rfl rfl (by decide)) ?_)
    walk_at "st"
    generalize c % 6=a at m6 ⊢
    obtain ⟨rs,er,bd,sh⟩:=l_good hcb m6.1 m6.2
    refine wp_seq (zbr (ev_call (ev_cons rfl (ev_cons rfl rfl)) er) ?_)
    walk_at "st"
    obtain ⟨ss,es,hne,hsl,hss⟩:=l_bent hcb m6.1 m6.2 bd sh
    refine wp_seq (zbr (ev_call (ev_cons rfl (ev_cons (copy_ev rfl) (ev_cons rfl rfl))) es) ?_)
    walk_at "st"
    have rest:∀ qs:List (List Int),Bd 900 qs→∀ W:Wk,(∀ v6 v7:Sl,W.nx [.bo (.scr ns),.pu (.lst [.ins zft,.ins zhi,.ins zfr,.ins zd2,.ins zhh,.ins zfs]),.pu (.int c),.pu (.int a),.pu (rowsD qs),.pu (.lst (ss.map rowsD)),v6,v7])→Wp (sSeq (sSet 6 (dLst (zdb 1 [] (asL (zat 4)) (gN true 0) zdd (dLst (dLof (zat 0))))))
 (sSeq (sSet 7 (zll MT (dIx (dVar 1) (dVar 3)) (zag (zat 6) dNil)))
 (sIf (dOr (dNot (dTru (dIsi "bool" (dVar 7)))) (dOr (dT (dEq true (dVar 7) (za8 F_l_due (zag (dVar 3) (zag (zat 4) dNil))))) (dT (dEq true (dVar 6) (dVar 4)))))
 (sRet (dC (.bl false)))
      zb7))) [.bo (.scr ns),.pu (.lst [.ins zft,.ins zhi,.ins zfr,.ins zd2,.ins zhh,.ins zfs]),.pu (.int c),.pu (.int a),.pu (rowsD qs),.pu (.lst (ss.map rowsD)),v6,v7]
        W:=fun qs bq W hW=>by
      refine wp_seq (zbr (copy_ev rfl) ?_)
      walk_at "st"
      obtain ⟨b,e1,e2⟩:=both m6.1 m6.2 bq (ρ:=[.bo (.scr ns),.pu (.lst [.ins zft,.ins zhi,.ins zfr,.ins zd2,.ins zhh,.ins zfs]),.pu (.int c),.pu (.int a),.pu (rowsD qs),.pu (.lst (ss.map rowsD)),.pu (rowsD qs),v7]) (o:=dVar 1) (k:=dVar 3) (x:=zat 6) rfl rfl rfl
      refine wp_seq (zbr e1 ?_)
      walk_at "st"
      exact wp_ifF (ev_or (x:=false) (y:=false) (ev_not (x:=true) (ev_tru (d:=.bl true) rfl rfl)) fun _=>ev_or (x:=false) (y:=false) (ev_t (ev_neSame rfl (ev_call (ev_cons rfl (ev_cons rfl rfl)) e2) rfl)) fun _=>ev_t (ev_neSame rfl rfl (cmp_rs qs))) (wp_pass (hW _ _))
    refine wp_seq (zfl (ev_t (ev_eqF (zcw (ev_call (ev_cons rfl (ev_cons rfl rfl)) (mix c 9 (by omega) (by decide) (by decide))) rfl (by decide)) rfl)) (fun _=>?_) fun _=>wp_pass ?_)
    · have hp:0<(ss.length:Int):=by have:=List.length_pos_iff.mpr hne; omega
      have m7:=zes (mixZ c 10) hp
      have hq:(mixZ c 10 % (ss.length:Int)).toNat<ss.length:=by omega
      have ix:ixD (.lst (ss.map rowsD)) (mixZ c 10 % (ss.length:Int))=some (rowsD ss[(mixZ c 10 % (ss.length:Int)).toNat]):=by
        show atI (ss.map rowsD) _=_
        unfold atI
        rw [List.length_map,zjz m7.1 m7.2]
        show (ss.map rowsD)[_]?=_
        rw [List.getElem?_map,List.getElem?_eq_getElem hq]
        rfl
      refine zbr (ev_ix rfl (zcw (ev_call (ev_cons rfl (ev_cons rfl rfl)) (mix c 10 (by omega) (by decide) (by decide))) (ev_f1 rfl (show lenD (.lst (ss.map rowsD))=some (.int ss.length) by show some (D.int ((ss.map rowsD).length:Nat))=_; rw [List.length_map])) hp) ix) ?_
      walk_at "st"
      exact rest _ (hss _ (List.getElem_mem hq)) _ fun _ _=>⟨_,_,_,_,_,_,rfl⟩
    · exact rest rs (bd.mono (by decide)) _ fun _ _=>⟨_,_,_,_,_,_,rfl⟩
  · rintro ρ ⟨v2,v3,v4,v5,v6,v7,rfl⟩
    exact wp_ret rfl rfl
theorem all_mk {K:PySem.W.Frag} {h:Heap} {mg:Str→Option Value} {fa:Addr} (X:K.In h) (G:h.Ns mainGlobals mg) (hfa:mg "law" = some (.ref fa))
    {f0:Addr} {od0 an0:Option Addr} {sl0:Array (Option Value)} {oc0 kV0 dc0 pm0 cd0 ct0:Value}
    {f1:Addr} {od1 an1:Option Addr} {sl1:Array (Option Value)} {oc1 kV1 dc1 pm1 cd1 ct1:Value}
    {f2:Addr} {od2 an2:Option Addr} {sl2:Array (Option Value)} {oc2 kV2 dc2 pm2 cd2 ct2:Value}
    {f3:Addr} {od3 an3:Option Addr} {sl3:Array (Option Value)} {oc3 kV3 dc3 pm3 cd3 ct3:Value}
    {f4:Addr} {od4 an4:Option Addr} {sl4:Array (Option Value)} {oc4 kV4 dc4 pm4 cd4 ct4:Value}
    {f5:Addr} {od5 an5:Option Addr} {sl5:Array (Option Value)} {oc5 kV5 dc5 pm5 cd5 ct5:Value}
    {f6:Addr} {od6 an6:Option Addr} {sl6:Array (Option Value)} {oc6 kV6 dc6 pm6 cd6 ct6:Value}
    {f7:Addr} {od7 an7:Option Addr} {sl7:Array (Option Value)} {oc7 kV7 dc7 pm7 cd7 ct7:Value}
    {f8:Addr} {od8 an8:Option Addr} {sl8:Array (Option Value)} {oc8 kV8 dc8 pm8 cd8 ct8:Value}
    {f9:Addr} {od9 an9:Option Addr} {sl9:Array (Option Value)} {oc9 kV9 dc9 pm9 cd9 ct9:Value}
    {f10:Addr} {od10 an10:Option Addr} {sl10:Array (Option Value)} {oc10 kV10 dc10 pm10 cd10 ct10:Value}
    {f11:Addr} {od11 an11:Option Addr} {sl11:Array (Option Value)} {oc11 kV11 dc11 pm11 cd11 ct11:Value}
    {f12:Addr} {od12 an12:Option Addr} {sl12:Array (Option Value)} {oc12 kV12 dc12 pm12 cd12 ct12:Value}
    {f13:Addr} {od13 an13:Option Addr} {sl13:Array (Option Value)} {oc13 kV13 dc13 pm13 cd13 ct13:Value}
    {f14:Addr} {od14 an14:Option Addr} {sl14:Array (Option Value)} {oc14 kV14 dc14 pm14 cd14 ct14:Value}
    {f15:Addr} {od15 an15:Option Addr} {sl15:Array (Option Value)} {oc15 kV15 dc15 pm15 cd15 ct15:Value}
    {f16:Addr} {od16 an16:Option Addr} {sl16:Array (Option Value)} {oc16 kV16 dc16 pm16 cd16 ct16:Value}
    {f17:Addr} {od17 an17:Option Addr} {sl17:Array (Option Value)} {oc17 kV17 dc17 pm17 cd17 ct17:Value}
    {f18:Addr} {od18 an18:Option Addr} {sl18:Array (Option Value)} {oc18 kV18 dc18 pm18 cd18 ct18:Value}
    {f19:Addr} {od19 an19:Option Addr} {sl19:Array (Option Value)} {oc19 kV19 dc19 pm19 cd19 ct19:Value}
    {f20:Addr} {od20 an20:Option Addr} {sl20:Array (Option Value)} {oc20 kV20 dc20 pm20 cd20 ct20:Value}
    {f21:Addr} {od21 an21:Option Addr} {sl21:Array (Option Value)} {oc21 kV21 dc21 pm21 cd21 ct21:Value}
    {f22:Addr} {od22 an22:Option Addr} {sl22:Array (Option Value)} {oc22 kV22 dc22 pm22 cd22 ct22:Value}
    {f23:Addr} {od23 an23:Option Addr} {sl23:Array (Option Value)} {oc23 kV23 dc23 pm23 cd23 ct23:Value}
    {f24:Addr} {od24 an24:Option Addr} {sl24:Array (Option Value)} {oc24 kV24 dc24 pm24 cd24 ct24:Value}
    {f25:Addr} {od25 an25:Option Addr} {sl25:Array (Option Value)} {oc25 kV25 dc25 pm25 cd25 ct25:Value}
    {f26:Addr} {od26 an26:Option Addr} {sl26:Array (Option Value)} {oc26 kV26 dc26 pm26 cd26 ct26:Value}
    {c_NoOrder:Addr}
    (a0:PySem.W.nsIn K mainGlobals "tells_one" = some (some (.ref f0))) (l0:K.lookup f0=some ⟨oc0,od0,.func (PySem.W.fnOf "tells_one" "tells_one" (zbs zdy) (zbh zdy) (zao zdy) .none kV0 dc0 pm0 an0 cd0 ct0),sl0⟩) (c0:PySem.W.codeIn K cd0 "tells_one" = true) (k0:PySem.W.keepIn K (.ref f0)=true)
    (a1:PySem.W.nsIn K mainGlobals "none_below" = some (some (.ref f1))) (l1:K.lookup f1=some ⟨oc1,od1,.func (PySem.W.fnOf "none_below" "none_below" (zbs zdh) (zbh zdh) (zao zdh) .none kV1 dc1 pm1 an1 cd1 ct1),sl1⟩) (c1:PySem.W.codeIn K cd1 "none_below" = true) (k1:PySem.W.keepIn K (.ref f1)=true)
    (a2:PySem.W.nsIn K mainGlobals "ahead_of" = some (some (.ref f2))) (l2:K.lookup f2=some ⟨oc2,od2,.func (PySem.W.fnOf "ahead_of" "ahead_of" (zbs zen) (zbh zen) (zao zen) .none kV2 dc2 pm2 an2 cd2 ct2),sl2⟩) (c2:PySem.W.codeIn K cd2 "ahead_of" = true) (k2:PySem.W.keepIn K (.ref f2)=true)
    (a3:PySem.W.nsIn K mainGlobals "told_order" = some (some (.ref f3))) (l3:K.lookup f3=some ⟨oc3,od3,.func (PySem.W.fnOf "told_order" "told_order" (zbs zdg) (zbh zdg) (zao zdg) .none kV3 dc3 pm3 an3 cd3 ct3),sl3⟩) (c3:PySem.W.codeIn K cd3 "told_order" = true) (k3:PySem.W.keepIn K (.ref f3)=true)
    (a4:PySem.W.nsIn K mainGlobals "either" = some (some (.ref f4))) (l4:K.lookup f4=some ⟨oc4,od4,.func (PySem.W.fnOf "either" "either" (zbs zgt) (zbh zgt) (zao zgt) .none kV4 dc4 pm4 an4 cd4 ct4),sl4⟩) (c4:PySem.W.codeIn K cd4 "either" = true) (k4:PySem.W.keepIn K (.ref f4)=true)
    (a5:PySem.W.nsIn K mainGlobals "levels" = some (some (.ref f5))) (l5:K.lookup f5=some ⟨oc5,od5,.func (PySem.W.fnOf "levels" "levels" (zbs zgn) (zbh zgn) (zao zgn) .none kV5 dc5 pm5 an5 cd5 ct5),sl5⟩) (c5:PySem.W.codeIn K cd5 "levels" = true) (k5:PySem.W.keepIn K (.ref f5)=true)
    (a6:PySem.W.nsIn K mainGlobals "level_of" = some (some (.ref f6))) (l6:K.lookup f6=some ⟨oc6,od6,.func (PySem.W.fnOf "level_of" "level_of" (zbs zem) (zbh zem) (zao zem) .none kV6 dc6 pm6 an6 cd6 ct6),sl6⟩) (c6:PySem.W.codeIn K cd6 "level_of" = true) (k6:PySem.W.keepIn K (.ref f6)=true)
    (a7:PySem.W.findIn K (.ref 596) "fits" = some (some (.ref f7))) (l7:K.lookup f7=some ⟨oc7,od7,.func (PySem.W.fnOf "fits" "Alike.fits" (zbs zdl) (zbh zdl) (zao zdl) .none kV7 dc7 pm7 an7 cd7 ct7),sl7⟩) (c7:PySem.W.codeIn K cd7 "Alike.fits" = true) (k7:PySem.W.keepIn K (.ref f7)=true)
    (n7:PySem.W.isFn K (.ref f7)=true)
    (a8:PySem.W.findIn K (.ref 655) "fits" = some (some (.ref f8))) (l8:K.lookup f8=some ⟨oc8,od8,.func (PySem.W.fnOf "fits" "Open.fits" (zbs zd0) (zbh zd0) (zao zd0) .none kV8 dc8 pm8 an8 cd8 ct8),sl8⟩) (c8:PySem.W.codeIn K cd8 "Open.fits" = true) (k8:PySem.W.keepIn K (.ref f8)=true)
    (n8:PySem.W.isFn K (.ref f8)=true)
    (a9:PySem.W.findIn K (.ref 714) "fits" = some (some (.ref f9))) (l9:K.lookup f9=some ⟨oc9,od9,.func (PySem.W.fnOf "fits" "Tails.fits" (zbs zdj) (zbh zdj) (zao zdj) .none kV9 dc9 pm9 an9 cd9 ct9),sl9⟩) (c9:PySem.W.codeIn K cd9 "Tails.fits" = true) (k9:PySem.W.keepIn K (.ref f9)=true)
    (n9:PySem.W.isFn K (.ref f9)=true)
    (a10:PySem.W.findIn K (.ref 771) "fits" = some (some (.ref f10))) (l10:K.lookup f10=some ⟨oc10,od10,.func (PySem.W.fnOf "fits" "Windows.fits" (zbs zc0) (zbh zc0) (zao zc0) .none kV10 dc10 pm10 an10 cd10 ct10),sl10⟩) (c10:PySem.W.codeIn K cd10 "Windows.fits" = true) (k10:PySem.W.keepIn K (.ref f10)=true)
    (n10:PySem.W.isFn K (.ref f10)=true)
    (a11:PySem.W.findIn K (.ref 891) "fits" = some (some (.ref f11))) (l11:K.lookup f11=some ⟨oc11,od11,.func (PySem.W.fnOf "fits" "Tree.fits" (zbs zdz) (zbh zdz) (zao zdz) .none kV11 dc11 pm11 an11 cd11 ct11),sl11⟩) (c11:PySem.W.codeIn K cd11 "Tree.fits" = true) (k11:PySem.W.keepIn K (.ref f11)=true)
    (n11:PySem.W.isFn K (.ref f11)=true)
    (a12:PySem.W.findIn K (.ref 955) "fits" = some (some (.ref f12))) (l12:K.lookup f12=some ⟨oc12,od12,.func (PySem.W.fnOf "fits" "Pairs.fits" (zbs zdk) (zbh zdk) (zao zdk) .none kV12 dc12 pm12 an12 cd12 ct12),sl12⟩) (c12:PySem.W.codeIn K cd12 "Pairs.fits" = true) (k12:PySem.W.keepIn K (.ref f12)=true)
    (n12:PySem.W.isFn K (.ref f12)=true)
    (a13:PySem.W.nsIn K mainGlobals "kinds" = some (some (.ref f13))) (l13:K.lookup f13=some ⟨oc13,od13,.func (PySem.W.fnOf "kinds" "kinds" (zbs zh0) (zbh zh0) (zao zh0) .none kV13 dc13 pm13 an13 cd13 ct13),sl13⟩) (c13:PySem.W.codeIn K cd13 "kinds" = true) (k13:PySem.W.keepIn K (.ref f13)=true)
    (a14:PySem.W.nsIn K mainGlobals "_law_mix" = some (some (.ref f14))) (l14:K.lookup f14=some ⟨oc14,od14,.func (PySem.W.fnOf "_law_mix" "_law_mix" (zbs zhy) (zbh zhy) (zao zhy) .none kV14 dc14 pm14 an14 cd14 ct14),sl14⟩) (c14:PySem.W.codeIn K cd14 "_law_mix" = true) (k14:PySem.W.keepIn K (.ref f14)=true)
    (a15:PySem.W.nsIn K mainGlobals "_law_many" = some (some (.ref f15))) (l15:K.lookup f15=some ⟨oc15,od15,.func (PySem.W.fnOf "_law_many" "_law_many" (zbs zgo) (zbh zgo) (zao zgo) .none kV15 dc15 pm15 an15 cd15 ct15),sl15⟩) (c15:PySem.W.codeIn K cd15 "_law_many" = true) (k15:PySem.W.keepIn K (.ref f15)=true)
    (a16:PySem.W.nsIn K mainGlobals "_law_hour" = some (some (.ref f16))) (l16:K.lookup f16=some ⟨oc16,od16,.func (PySem.W.fnOf "_law_hour" "_law_hour" (zbs zgp) (zbh zgp) (zao zgp) .none kV16 dc16 pm16 an16 cd16 ct16),sl16⟩) (c16:PySem.W.codeIn K cd16 "_law_hour" = true) (k16:PySem.W.keepIn K (.ref f16)=true)
    (a17:PySem.W.nsIn K mainGlobals "_law_good" = some (some (.ref f17))) (l17:K.lookup f17=some ⟨oc17,od17,.func (PySem.W.fnOf "_law_good" "_law_good" (zbs zgr) (zbh zgr) (zao zgr) .none kV17 dc17 pm17 an17 cd17 ct17),sl17⟩) (c17:PySem.W.codeIn K cd17 "_law_good" = true) (k17:PySem.W.keepIn K (.ref f17)=true)
    (a18:PySem.W.nsIn K mainGlobals "_law_put" = some (some (.ref f18))) (l18:K.lookup f18=some ⟨oc18,od18,.func (PySem.W.fnOf "_law_put" "_law_put" (zbs zhx) (zbh zhx) (zao zhx) .none kV18 dc18 pm18 an18 cd18 ct18),sl18⟩) (c18:PySem.W.codeIn K cd18 "_law_put" = true) (k18:PySem.W.keepIn K (.ref f18)=true)
    (a19:PySem.W.nsIn K mainGlobals "_law_bent_list" = some (some (.ref f19))) (l19:K.lookup f19=some ⟨oc19,od19,.func (PySem.W.fnOf "_law_bent_list" "_law_bent_list" (zbs zda) (zbh zda) (zao zda) .none kV19 dc19 pm19 an19 cd19 ct19),sl19⟩) (c19:PySem.W.codeIn K cd19 "_law_bent_list" = true) (k19:PySem.W.keepIn K (.ref f19)=true)
    (a20:PySem.W.nsIn K mainGlobals "_law_bent_pairs" = some (some (.ref f20))) (l20:K.lookup f20=some ⟨oc20,od20,.func (PySem.W.fnOf "_law_bent_pairs" "_law_bent_pairs" (zbs zcz) (zbh zcz) (zao zcz) .none kV20 dc20 pm20 an20 cd20 ct20),sl20⟩) (c20:PySem.W.codeIn K cd20 "_law_bent_pairs" = true) (k20:PySem.W.keepIn K (.ref f20)=true)
    (a21:PySem.W.nsIn K mainGlobals "_law_bent_place" = some (some (.ref f21))) (l21:K.lookup f21=some ⟨oc21,od21,.func (PySem.W.fnOf "_law_bent_place" "_law_bent_place" (zbs zcy) (zbh zcy) (zao zcy) .none kV21 dc21 pm21 an21 cd21 ct21),sl21⟩) (c21:PySem.W.codeIn K cd21 "_law_bent_place" = true) (k21:PySem.W.keepIn K (.ref f21)=true)
    (a22:PySem.W.nsIn K mainGlobals "_law_bent" = some (some (.ref f22))) (l22:K.lookup f22=some ⟨oc22,od22,.func (PySem.W.fnOf "_law_bent" "_law_bent" (zbs zgs) (zbh zgs) (zao zgs) .none kV22 dc22 pm22 an22 cd22 ct22),sl22⟩) (c22:PySem.W.codeIn K cd22 "_law_bent" = true) (k22:PySem.W.keepIn K (.ref f22)=true)
    (a23:PySem.W.nsIn K mainGlobals "_law_in_order" = some (some (.ref f23))) (l23:K.lookup f23=some ⟨oc23,od23,.func (PySem.W.fnOf "_law_in_order" "_law_in_order" (zbs zdi) (zbh zdi) (zao zdi) .none kV23 dc23 pm23 an23 cd23 ct23),sl23⟩) (c23:PySem.W.codeIn K cd23 "_law_in_order" = true) (k23:PySem.W.keepIn K (.ref f23)=true)
    (a24:PySem.W.nsIn K mainGlobals "_law_head" = some (some (.ref f24))) (l24:K.lookup f24=some ⟨oc24,od24,.func (PySem.W.fnOf "_law_head" "_law_head" (zbs zgq) (zbh zgq) (zao zgq) .none kV24 dc24 pm24 an24 cd24 ct24),sl24⟩) (c24:PySem.W.codeIn K cd24 "_law_head" = true) (k24:PySem.W.keepIn K (.ref f24)=true)
    (a25:PySem.W.nsIn K mainGlobals "_law_due" = some (some (.ref f25))) (l25:K.lookup f25=some ⟨oc25,od25,.func (PySem.W.fnOf "_law_due" "_law_due" (zbs zhz) (zbh zhz) (zao zhz) .none kV25 dc25 pm25 an25 cd25 ct25),sl25⟩) (c25:PySem.W.codeIn K cd25 "_law_due" = true) (k25:PySem.W.keepIn K (.ref f25)=true)
    (a26:PySem.W.nsIn K mainGlobals "law" = some (some (.ref f26))) (l26:K.lookup f26=some ⟨oc26,od26,.func (PySem.W.fnOf "law" "law" (zbs zl5) (zbh zl5) (zao zl5) .none kV26 dc26 pm26 an26 cd26 ct26),sl26⟩) (c26:PySem.W.codeIn K cd26 "law" = true) (k26:PySem.W.keepIn K (.ref f26)=true)
    (z_all:PySem.W.nsIn K mainGlobals "all" = some none)
    (z_any:PySem.W.nsIn K mainGlobals "any" = some none)
    (z_bool:PySem.W.nsIn K mainGlobals "bool" = some none)
    (z_int:PySem.W.nsIn K mainGlobals "int" = some none)
    (z_isinstance:PySem.W.nsIn K mainGlobals "isinstance" = some none)
    (z_len:PySem.W.nsIn K mainGlobals "len" = some none)
    (z_list:PySem.W.nsIn K mainGlobals "list" = some none)
    (z_max:PySem.W.nsIn K mainGlobals "max" = some none)
    (z_min:PySem.W.nsIn K mainGlobals "min" = some none)
    (z_range:PySem.W.nsIn K mainGlobals "range" = some none)
    (z_zip:PySem.W.nsIn K mainGlobals "zip" = some none)
    (m_NoOrder:PySem.W.nsIn K mainGlobals "NoOrder" = some (some (.ref c_NoOrder)))
    (m_Alike:PySem.W.nsIn K mainGlobals "Alike" = some (some (.ref 596)))
    (m_Open:PySem.W.nsIn K mainGlobals "Open" = some (some (.ref 655)))
    (m_Tails:PySem.W.nsIn K mainGlobals "Tails" = some (some (.ref 714)))
    (m_Windows:PySem.W.nsIn K mainGlobals "Windows" = some (some (.ref 771)))
    (m_Tree:PySem.W.nsIn K mainGlobals "Tree" = some (some (.ref 891)))
    (m_Pairs:PySem.W.nsIn K mainGlobals "Pairs" = some (some (.ref 955)))
    (q_NoOrder:PySem.W.excIn K c_NoOrder [.type "ValueError", .type "Exception", .type "BaseException", .type "object"] "ValueError.__new__" = true)
    (x_NoOrder_NoOrder:PySem.W.exmOne K (.ref c_NoOrder) (.ref c_NoOrder)=some true)
    (mk_Alike_mk:PySem.W.makesIn K 596=true)
    (mk_Alike_in:PySem.W.findIn K (.ref 596) "__init__" = some (some (.builtin "object.__init__")))
    (mk_Alike_kp:PySem.W.keepIn K (.ref 596)=true)
    (mk_Open_mk:PySem.W.makesIn K 655=true)
    (mk_Open_in:PySem.W.findIn K (.ref 655) "__init__" = some (some (.builtin "object.__init__")))
    (mk_Open_kp:PySem.W.keepIn K (.ref 655)=true)
    (mk_Tails_mk:PySem.W.makesIn K 714=true)
    (mk_Tails_in:PySem.W.findIn K (.ref 714) "__init__" = some (some (.builtin "object.__init__")))
    (mk_Tails_kp:PySem.W.keepIn K (.ref 714)=true)
    (mk_Windows_mk:PySem.W.makesIn K 771=true)
    (mk_Windows_in:PySem.W.findIn K (.ref 771) "__init__" = some (some (.builtin "object.__init__")))
    (mk_Windows_kp:PySem.W.keepIn K (.ref 771)=true)
    (mk_Tree_mk:PySem.W.makesIn K 891=true)
    (mk_Tree_in:PySem.W.findIn K (.ref 891) "__init__" = some (some (.builtin "object.__init__")))
    (mk_Tree_kp:PySem.W.keepIn K (.ref 891)=true)
    (mk_Pairs_mk:PySem.W.makesIn K 955=true)
    (mk_Pairs_in:PySem.W.findIn K (.ref 955) "__init__" = some (some (.builtin "object.__init__")))
    (mk_Pairs_kp:PySem.W.keepIn K (.ref 955)=true)
    (ki_Pairs_pg:PySem.W.plainGet K 955 Str.empty=true)
    (ki_Pairs_hd:PySem.W.hasDictIn K 955=true)
    (ki_Pairs_po:PySem.W.plainOver K 955=true)
    (ki_Pairs_sa:PySem.W.findIn K (.ref 955) "__setattr__" = some (some (.builtin "object.__setattr__")))
    (ki_Pairs_ca:PySem.W.findIn K (.ref 955) "__class__" = some (some (.builtin "object.__class__")))
    (ki_Pairs_sp:PySem.W.specialIn K (.builtin "object.__class__") "__get__" = some (some (.builtin "getset_descriptor.__get__")))
    (ki_Pairs_tk:PySem.W.takesIn K (.builtin "object.__class__")=some true)
    (ki_Pairs_mro:PySem.W.mroIn K 955 (.type "object")=some true)
    (ki_Tree_pg:PySem.W.plainGet K 891 Str.empty=true)
    (ki_Tree_hd:PySem.W.hasDictIn K 891=true)
    (ki_Tree_po:PySem.W.plainOver K 891=true)
    (ki_Tree_sa:PySem.W.findIn K (.ref 891) "__setattr__" = some (some (.builtin "object.__setattr__")))
    (ki_Tree_ca:PySem.W.findIn K (.ref 891) "__class__" = some (some (.builtin "object.__class__")))
    (ki_Tree_sp:PySem.W.specialIn K (.builtin "object.__class__") "__get__" = some (some (.builtin "getset_descriptor.__get__")))
    (ki_Tree_tk:PySem.W.takesIn K (.builtin "object.__class__")=some true)
    (ki_Tree_mro:PySem.W.mroIn K 891 (.type "object")=some true)
    (ki_Windows_pg:PySem.W.plainGet K 771 Str.empty=true)
    (ki_Windows_hd:PySem.W.hasDictIn K 771=true)
    (ki_Windows_po:PySem.W.plainOver K 771=true)
    (ki_Windows_sa:PySem.W.findIn K (.ref 771) "__setattr__" = some (some (.builtin "object.__setattr__")))
    (ki_Windows_ca:PySem.W.findIn K (.ref 771) "__class__" = some (some (.builtin "object.__class__")))
    (ki_Windows_sp:PySem.W.specialIn K (.builtin "object.__class__") "__get__" = some (some (.builtin "getset_descriptor.__get__")))
    (ki_Windows_tk:PySem.W.takesIn K (.builtin "object.__class__")=some true)
    (ki_Windows_mro:PySem.W.mroIn K 771 (.type "object")=some true)
    (ki_Tails_pg:PySem.W.plainGet K 714 Str.empty=true)
    (ki_Tails_hd:PySem.W.hasDictIn K 714=true)
    (ki_Tails_po:PySem.W.plainOver K 714=true)
    (ki_Tails_sa:PySem.W.findIn K (.ref 714) "__setattr__" = some (some (.builtin "object.__setattr__")))
    (ki_Tails_ca:PySem.W.findIn K (.ref 714) "__class__" = some (some (.builtin "object.__class__")))
    (ki_Tails_sp:PySem.W.specialIn K (.builtin "object.__class__") "__get__" = some (some (.builtin "getset_descriptor.__get__")))
    (ki_Tails_tk:PySem.W.takesIn K (.builtin "object.__class__")=some true)
    (ki_Tails_mro:PySem.W.mroIn K 714 (.type "object")=some true)
    (ki_Open_pg:PySem.W.plainGet K 655 Str.empty=true)
    (ki_Open_hd:PySem.W.hasDictIn K 655=true)
    (ki_Open_po:PySem.W.plainOver K 655=true)
    (ki_Open_sa:PySem.W.findIn K (.ref 655) "__setattr__" = some (some (.builtin "object.__setattr__")))
    (ki_Open_ca:PySem.W.findIn K (.ref 655) "__class__" = some (some (.builtin "object.__class__")))
    (ki_Open_sp:PySem.W.specialIn K (.builtin "object.__class__") "__get__" = some (some (.builtin "getset_descriptor.__get__")))
    (ki_Open_tk:PySem.W.takesIn K (.builtin "object.__class__")=some true)
    (ki_Open_mro:PySem.W.mroIn K 655 (.type "object")=some true)
    (ki_Alike_pg:PySem.W.plainGet K 596 Str.empty=true)
    (ki_Alike_hd:PySem.W.hasDictIn K 596=true)
    (ki_Alike_po:PySem.W.plainOver K 596=true)
    (ki_Alike_sa:PySem.W.findIn K (.ref 596) "__setattr__" = some (some (.builtin "object.__setattr__")))
    (ki_Alike_ca:PySem.W.findIn K (.ref 596) "__class__" = some (some (.builtin "object.__class__")))
    (ki_Alike_sp:PySem.W.specialIn K (.builtin "object.__class__") "__get__" = some (some (.builtin "getset_descriptor.__get__")))
    (ki_Alike_tk:PySem.W.takesIn K (.builtin "object.__class__")=some true)
    (ki_Alike_mro:PySem.W.mroIn K 596 (.type "object")=some true) :
    ∃ a:Adr,Txt K mg a∧a.f_law=fa∧∀ (s:Shared) (v:Value),BindsTo s a.d_law ⟨[v],[]⟩ [("_law_script", v)]:=by
  have e:=hfa.symm.trans (PySem.W.mg_of X G a26)
  cases e
  have F0:=zcs (st:=zdy) l0 c0 k0
  have F1:=zcs (st:=zdh) l1 c1 k1
  have F2:=zcs (st:=zen) l2 c2 k2
  have F3:=zcs (st:=zdg) l3 c3 k3
  have F4:=zcs (st:=zgt) l4 c4 k4
  have F5:=zcs (st:=zgn) l5 c5 k5
  have F6:=zcs (st:=zem) l6 c6 k6
  have F7:=zcs (st:=zdl) l7 c7 k7
  have F8:=zcs (st:=zd0) l8 c8 k8
  have F9:=zcs (st:=zdj) l9 c9 k9
  have F10:=zcs (st:=zc0) l10 c10 k10
  have F11:=zcs (st:=zdz) l11 c11 k11
  have F12:=zcs (st:=zdk) l12 c12 k12
  have F13:=zcs (st:=zh0) l13 c13 k13
  have F14:=zcs (st:=zhy) l14 c14 k14
  have F15:=zcs (st:=zgo) l15 c15 k15
  have F16:=zcs (st:=zgp) l16 c16 k16
  have F17:=zcs (st:=zgr) l17 c17 k17
  have F18:=zcs (st:=zhx) l18 c18 k18
  have F19:=zcs (st:=zda) l19 c19 k19
  have F20:=zcs (st:=zcz) l20 c20 k20
  have F21:=zcs (st:=zcy) l21 c21 k21
  have F22:=zcs (st:=zgs) l22 c22 k22
  have F23:=zcs (st:=zdi) l23 c23 k23
  have F24:=zcs (st:=zgq) l24 c24 k24
  have F25:=zcs (st:=zhz) l25 c25 k25
  have F26:=zcs (st:=zl5) l26 c26 k26
  have b0:=F0.binds (ps:=["numbers", "least", "most"]) fun _ _ _ _ _ _ us hl=>match us,hl with | [_,_,_],_=>rfl
  have b1:=F1.binds (ps:=["numbers", "least"]) fun _ _ _ _ _ _ us hl=>match us,hl with | [_,_],_=>rfl
  have b2:=F2.binds (ps:=["many", "needs"]) fun _ _ _ _ _ _ us hl=>match us,hl with | [_,_],_=>rfl
  have b3:=F3.binds (ps:=["many", "needs"]) fun _ _ _ _ _ _ us hl=>match us,hl with | [_,_],_=>rfl
  have b4:=F4.binds (ps:=["truths", "others"]) fun _ _ _ _ _ _ us hl=>match us,hl with | [_,_],_=>rfl
  have b5:=F5.binds (ps:=["behind"]) fun _ _ _ _ _ _ us hl=>match us,hl with | [_],_=>rfl
  have b6:=F6.binds (ps:=["behind", "work"]) fun _ _ _ _ _ _ us hl=>match us,hl with | [_,_],_=>rfl
  have b7:=F7.binds (ps:=["self", "rows"]) fun _ _ _ _ _ _ us hl=>match us,hl with | [_,_],_=>rfl
  have b8:=F8.binds (ps:=["self", "rows"]) fun _ _ _ _ _ _ us hl=>match us,hl with | [_,_],_=>rfl
  have b9:=F9.binds (ps:=["self", "rows"]) fun _ _ _ _ _ _ us hl=>match us,hl with | [_,_],_=>rfl
  have b10:=F10.binds (ps:=["self", "rows"]) fun _ _ _ _ _ _ us hl=>match us,hl with | [_,_],_=>rfl
  have b11:=F11.binds (ps:=["self", "rows"]) fun _ _ _ _ _ _ us hl=>match us,hl with | [_,_],_=>rfl
  have b12:=F12.binds (ps:=["self", "rows"]) fun _ _ _ _ _ _ us hl=>match us,hl with | [_,_],_=>rfl
  have b13:=F13.binds (ps:=[]) fun _ _ _ _ _ _ us hl=>match us,hl with | [],_=>rfl
  have b14:=F14.binds (ps:=["_law_number", "_law_k"]) fun _ _ _ _ _ _ us hl=>match us,hl with | [_,_],_=>rfl
  have b15:=F15.binds (ps:=["_law_cell", "_law_most"]) fun _ _ _ _ _ _ us hl=>match us,hl with | [_,_],_=>rfl
  have b16:=F16.binds (ps:=["_law_cell", "_law_k"]) fun _ _ _ _ _ _ us hl=>match us,hl with | [_,_],_=>rfl
  have b17:=F17.binds (ps:=["_law_at", "_law_cell"]) fun _ _ _ _ _ _ us hl=>match us,hl with | [_,_],_=>rfl
  have b18:=F18.binds (ps:=["_law_rows", "_law_at", "_law_some"]) fun _ _ _ _ _ _ us hl=>match us,hl with | [_,_,_],_=>rfl
  have b19:=F19.binds (ps:=["_law_at", "_law_rows", "_law_cell"]) fun _ _ _ _ _ _ us hl=>match us,hl with | [_,_,_],_=>rfl
  have b20:=F20.binds (ps:=["_law_rows", "_law_cell"]) fun _ _ _ _ _ _ us hl=>match us,hl with | [_,_],_=>rfl
  have b21:=F21.binds (ps:=["_law_head_here", "_law_rows", "_law_cell"]) fun _ _ _ _ _ _ us hl=>match us,hl with | [_,_,_],_=>rfl
  have b22:=F22.binds (ps:=["_law_at", "_law_rows", "_law_cell"]) fun _ _ _ _ _ _ us hl=>match us,hl with | [_,_,_],_=>rfl
  have b23:=F23.binds (ps:=["_law_many_here", "_law_pairs"]) fun _ _ _ _ _ _ us hl=>match us,hl with | [_,_],_=>rfl
  have b24:=F24.binds (ps:=["_law_rows", "_law_least", "_law_most"]) fun _ _ _ _ _ _ us hl=>match us,hl with | [_,_,_],_=>rfl
  have b25:=F25.binds (ps:=["_law_at", "_law_rows"]) fun _ _ _ _ _ _ us hl=>match us,hl with | [_,_],_=>rfl
  have b26:=F26.binds (ps:=["_law_script"]) fun _ _ _ _ _ _ us hl=>match us,hl with | [_],_=>rfl
  exact ⟨⟨f0,_,f1,_,f2,_,f3,_,f4,_,f5,_,f6,_,f7,_,f8,_,f9,_,f10,_,f11,_,f12,_,f13,_,f14,_,f15,_,f16,_,f17,_,f18,_,f19,_,f20,_,f21,_,f22,_,f23,_,f24,_,f25,_,fa,_,c_NoOrder⟩,⟨F0,b0,PySem.W.mg_of X G a0,F1,b1,PySem.W.mg_of X G a1,F2,b2,PySem.W.mg_of X G a2,F3,b3,PySem.W.mg_of X G a3,F4,b4,PySem.W.mg_of X G a4,F5,b5,PySem.W.mg_of X G a5,F6,b6,PySem.W.mg_of X G a6,F7,b7,⟨a7,n7,k7⟩,F8,b8,⟨a8,n8,k8⟩,F9,b9,⟨a9,n9,k9⟩,F10,b10,⟨a10,n10,k10⟩,F11,b11,⟨a11,n11,k11⟩,F12,b12,⟨a12,n12,k12⟩,F13,b13,PySem.W.mg_of X G a13,F14,b14,PySem.W.mg_of X G a14,F15,b15,PySem.W.mg_of X G a15,F16,b16,PySem.W.mg_of X G a16,F17,b17,PySem.W.mg_of X G a17,F18,b18,PySem.W.mg_of X G a18,F19,b19,PySem.W.mg_of X G a19,F20,b20,PySem.W.mg_of X G a20,F21,b21,PySem.W.mg_of X G a21,F22,b22,PySem.W.mg_of X G a22,F23,b23,PySem.W.mg_of X G a23,F24,b24,PySem.W.mg_of X G a24,F25,b25,PySem.W.mg_of X G a25,F26,b26,PySem.W.mg_of X G a26,PySem.W.mg_none_of X G z_all,PySem.W.mg_none_of X G z_any,PySem.W.mg_none_of X G z_bool,PySem.W.mg_none_of X G z_int,PySem.W.mg_none_of X G z_isinstance,PySem.W.mg_none_of X G z_len,PySem.W.mg_none_of X G z_list,PySem.W.mg_none_of X G z_max,PySem.W.mg_none_of X G z_min,PySem.W.mg_none_of X G z_range,PySem.W.mg_none_of X G z_zip,PySem.W.mg_of X G m_NoOrder,PySem.W.mg_of X G m_Alike,PySem.W.mg_of X G m_Open,PySem.W.mg_of X G m_Tails,PySem.W.mg_of X G m_Windows,PySem.W.mg_of X G m_Tree,PySem.W.mg_of X G m_Pairs,q_NoOrder,x_NoOrder_NoOrder,⟨mk_Alike_mk,mk_Alike_in,mk_Alike_kp⟩,⟨mk_Open_mk,mk_Open_in,mk_Open_kp⟩,⟨mk_Tails_mk,mk_Tails_in,mk_Tails_kp⟩,⟨mk_Windows_mk,mk_Windows_in,mk_Windows_kp⟩,⟨mk_Tree_mk,mk_Tree_in,mk_Tree_kp⟩,⟨mk_Pairs_mk,mk_Pairs_in,mk_Pairs_kp⟩,⟨⟨ki_Pairs_pg,ki_Pairs_hd,ki_Pairs_po,ki_Pairs_sa⟩,ki_Pairs_ca,ki_Pairs_sp,ki_Pairs_tk,ki_Pairs_mro⟩,⟨⟨ki_Tree_pg,ki_Tree_hd,ki_Tree_po,ki_Tree_sa⟩,ki_Tree_ca,ki_Tree_sp,ki_Tree_tk,ki_Tree_mro⟩,⟨⟨ki_Windows_pg,ki_Windows_hd,ki_Windows_po,ki_Windows_sa⟩,ki_Windows_ca,ki_Windows_sp,ki_Windows_tk,ki_Windows_mro⟩,⟨⟨ki_Tails_pg,ki_Tails_hd,ki_Tails_po,ki_Tails_sa⟩,ki_Tails_ca,ki_Tails_sp,ki_Tails_tk,ki_Tails_mro⟩,⟨⟨ki_Open_pg,ki_Open_hd,ki_Open_po,ki_Open_sa⟩,ki_Open_ca,ki_Open_sp,ki_Open_tk,ki_Open_mro⟩,⟨⟨ki_Alike_pg,ki_Alike_hd,ki_Alike_po,ki_Alike_sa⟩,ki_Alike_ca,ki_Alike_sp,ki_Alike_tk,ki_Alike_mro⟩⟩,rfl,fun s v=>.of_eq rfl⟩
theorem walk {l:PySem.W.OpenLaw} {q:Program} {loose:List Str} {XP:(Str→Option Value)→Heap→Prop} {YP:World→Heap→Prop} {d:DefRec} {K:Params→PySem.W.Frag} (hn:l.most=some 63) (hdf:d.params.defaults=[])
    (hY:∀ (w:World) (h:Heap),YP w h→(K w.params).In h)
    (F:∀ (w:World) (mg:Str→Option Value) (fa:Addr) (h:Heap),(K w.params).In h→h.Ns mainGlobals mg→mg d.name=some (.ref fa)→∃ a:Adr,Txt (K w.params) mg a∧a.f_law=fa∧∀ (s:Shared) (v:Value),BindsTo s a.d_law ⟨[v],[]⟩ [("_law_script", v)]) :
    PySem.W.WalkO q loose XP YP l.row.toRowW d [] (fun f vs=>PySem.call f vs) :=
  L2.walk_ofB (n:=63) (k:=4) (x := "_law_script") (CX:=fun _=>CX0) (sp:=fun w=>sp_law (K w.params)) hn (by decide) hdf ⟨rfl,by decide,by decide⟩ hY
    (fun w mg fa h KX G e=>by
      obtain ⟨a,T,rfl,hb⟩:=F w mg fa h KX G e
      exact ⟨a.d_law,hb,fun base kb nb=>(ok_law T).imp fun vs H Q E h=>sp_law_of law_true h⟩)
    (fun _ _ a ns hl hbits _ hS=>⟨a,ns,rfl,hS,hl,hbits,(fun _ h=>by cases h),fun _=>rfl⟩) fun _ _ _ _ _ z=>z
end My
namespace PySem.W.Fast
theorem tw4004949890603080667:True:=⟨⟩
theorem tw2645955910531576709:True:=⟨⟩
theorem tw6751641415127942144:True:=⟨⟩
theorem tw14567241229470751744:True:=⟨⟩
theorem tw6214088017188348960:True:=⟨⟩
theorem tw9342588463680802880:True:=⟨⟩
theorem tw14686599244814061664:True:=⟨⟩
theorem tw15947907784031546464:True:=⟨⟩
theorem tw4648152261621241952:True:=⟨⟩
theorem tw15782281223530798176:True:=⟨⟩
theorem tw6969767377762845824:True:=⟨⟩
theorem tw6030424632783804544:True:=⟨⟩
theorem tw2689342783117086848:True:=⟨⟩
theorem tw5682276738145079424:True:=⟨⟩
theorem tw1532256298853973152:True:=⟨⟩
theorem tw15663604479142523072:True:=⟨⟩
theorem tw607959242711271648:True:=⟨⟩
theorem tw7122857950261787872:True:=⟨⟩
theorem tw6800352234831222080:True:=⟨⟩
theorem tw2852876817564521792:True:=⟨⟩
theorem tw2228697159943766368:True:=⟨⟩
theorem tw17398820822274436448:True:=⟨⟩
theorem tw3035046927490594176:True:=⟨⟩
theorem tw9919170477820037504:True:=⟨⟩
theorem tw13393394950072852864:True:=⟨⟩
theorem tw16693542448716100032:True:=⟨⟩
theorem tw16441803890239558080:True:=⟨⟩
theorem tw7757517882682933728:True:=⟨⟩
theorem tw10967536882997500384:True:=⟨⟩
theorem tw15565398151198691936:True:=⟨⟩
theorem tw2008874137292002944:True:=⟨⟩
theorem tw17066153165903358592:True:=⟨⟩
theorem tw5190644350276351680:True:=⟨⟩
theorem tw4957519351413098176:True:=⟨⟩
theorem tw7456775259223326400:True:=⟨⟩
theorem tw10572268792760960736:True:=⟨⟩
theorem tw11516165281759068928:True:=⟨⟩
theorem tw15493641229845164800:True:=⟨⟩
theorem tw6910342689195839264:True:=⟨⟩
theorem tw15794780353603690272:True:=⟨⟩
theorem tw10470632745112150848:True:=⟨⟩
theorem tw15435090438159673152:True:=⟨⟩
theorem tw6279972344268958560:True:=⟨⟩
theorem tw13014540219067450208:True:=⟨⟩
theorem tw12181573024390008672:True:=⟨⟩
theorem tw15000072299824381792:True:=⟨⟩
theorem tw15913533132079523712:True:=⟨⟩
theorem tw13853304692207689632:True:=⟨⟩
theorem tw254742168950877088:True:=⟨⟩
theorem tw3756323180682915744:True:=⟨⟩
theorem tw15577827692402560928:True:=⟨⟩
theorem tw9967932815458427808:True:=⟨⟩
theorem tw4232059455298878400:True:=⟨⟩
theorem tw12239905233699911648:True:=⟨⟩
theorem tw1189718148808521696:True:=⟨⟩
theorem tw16386895839333141472:True:=⟨⟩
theorem tw6859759316220373984:True:=⟨⟩
theorem tw14356889434103170177:True:=⟨⟩
theorem tw5235880168159850657:True:=⟨⟩
theorem tw8392346144062593185:True:=⟨⟩
theorem tw4317856188744394913:True:=⟨⟩
theorem tw3174869197118425281:True:=⟨⟩
theorem tw14715460445766505665:True:=⟨⟩
theorem tw7568375473223128289:True:=⟨⟩
theorem tw7671347066423848225:True:=⟨⟩
theorem tw5806883814235858209:True:=⟨⟩
theorem tw9117684960408196417:True:=⟨⟩
theorem tw3993044144074356097:True:=⟨⟩
theorem tw16114007291317003681:True:=⟨⟩
theorem tw3041938237561942529:True:=⟨⟩
theorem tw7959053214648616449:True:=⟨⟩
theorem tw14132454773581368833:True:=⟨⟩
theorem tw4535575357534236193:True:=⟨⟩
theorem tw6977499840624302657:True:=⟨⟩
theorem tw5613433770183217761:True:=⟨⟩
theorem tw17221051836103319169:True:=⟨⟩
theorem tw13120837572685696673:True:=⟨⟩
theorem tw13836462334885595841:True:=⟨⟩
theorem tw12292835138676701889:True:=⟨⟩
theorem tw3148319575886551745:True:=⟨⟩
theorem tw15763308313191209697:True:=⟨⟩
theorem tw97301643488463649:True:=⟨⟩
theorem tw2455752273095607073:True:=⟨⟩
theorem tw12123467308593803041:True:=⟨⟩
theorem tw2245586805462177633:True:=⟨⟩
theorem tw4560799097868444513:True:=⟨⟩
theorem tw10263418577106036609:True:=⟨⟩
theorem tw10818685084172948385:True:=⟨⟩
theorem tw4510686917233655713:True:=⟨⟩
theorem tw10231021226594796481:True:=⟨⟩
theorem tw3868918988518256577:True:=⟨⟩
theorem tw12716499856813369346:True:=⟨⟩
theorem tw6087543521051247650:True:=⟨⟩
theorem tw17934965444351687714:True:=⟨⟩
theorem tw15836926557554167874:True:=⟨⟩
theorem tw2085798454230765634:True:=⟨⟩
theorem tw11019064781229022274:True:=⟨⟩
theorem tw16643346970043585666:True:=⟨⟩
theorem tw7164750576363530402:True:=⟨⟩
theorem tw12963371743551665346:True:=⟨⟩
theorem tw5079010432299965666:True:=⟨⟩
theorem tw8808864683707195650:True:=⟨⟩
theorem tw842779904279453986:True:=⟨⟩
theorem tw535969299956392290:True:=⟨⟩
theorem tw6851566394505848162:True:=⟨⟩
theorem tw14191917158331542946:True:=⟨⟩
theorem tw13526784651880749506:True:=⟨⟩
theorem tw1351124637893305858:True:=⟨⟩
theorem tw14184459520293637666:True:=⟨⟩
theorem tw6867927619216316962:True:=⟨⟩
theorem tw8492384910170024482:True:=⟨⟩
theorem tw12263980427510124098:True:=⟨⟩
theorem tw166571582059877986:True:=⟨⟩
theorem tw17609446416218309218:True:=⟨⟩
theorem tw3967220378793985666:True:=⟨⟩
theorem tw1887903093496601218:True:=⟨⟩
theorem tw6924340318661527202:True:=⟨⟩
theorem tw5745190567300491938:True:=⟨⟩
theorem tw1868995239326588610:True:=⟨⟩
theorem tw9653407056860577474:True:=⟨⟩
theorem tw17827215029364919010:True:=⟨⟩
theorem tw6038672905729173250:True:=⟨⟩
theorem tw17362845935597954882:True:=⟨⟩
theorem tw6504406672595081026:True:=⟨⟩
theorem tw15542710612357284738:True:=⟨⟩
theorem tw3911878619411422114:True:=⟨⟩
theorem tw14464306938599428002:True:=⟨⟩
theorem tw18181448596354574274:True:=⟨⟩
theorem tw6059708472343776194:True:=⟨⟩
theorem tw1432136515730019298:True:=⟨⟩
theorem tw10066591907966555139:True:=⟨⟩
theorem tw13734261519732483075:True:=⟨⟩
theorem tw5305027666084438115:True:=⟨⟩
theorem tw10813593205150693507:True:=⟨⟩
theorem tw15348300778340894851:True:=⟨⟩
theorem tw8395505895333684387:True:=⟨⟩
theorem tw9197198838996755619:True:=⟨⟩
theorem tw14705799390503202979:True:=⟨⟩
theorem tw17025509140240792739:True:=⟨⟩
theorem tw7780019698723293443:True:=⟨⟩
theorem tw11219486609676143875:True:=⟨⟩
theorem tw11683862109111014691:True:=⟨⟩
theorem tw16873462908021712195:True:=⟨⟩
theorem tw10707191567448857955:True:=⟨⟩
theorem tw17673489515094572387:True:=⟨⟩
theorem tw17851053056859946371:True:=⟨⟩
theorem tw14831386608596797827:True:=⟨⟩
theorem tw7084848743314783747:True:=⟨⟩
theorem tw17808796891801688611:True:=⟨⟩
theorem tw12219296092535967299:True:=⟨⟩
theorem tw13456833532212119139:True:=⟨⟩
theorem tw16071804045884231267:True:=⟨⟩
theorem tw357840554799904355:True:=⟨⟩
theorem tw1733398037979581027:True:=⟨⟩
theorem tw12541638643498720899:True:=⟨⟩
theorem tw17744945448340132515:True:=⟨⟩
theorem tw14626832947324393187:True:=⟨⟩
theorem tw13735076870565011171:True:=⟨⟩
theorem tw15797988232735112995:True:=⟨⟩
theorem tw11531112248832896835:True:=⟨⟩
theorem tw15995698487105669955:True:=⟨⟩
theorem tw10454230191026052963:True:=⟨⟩
theorem tw12690548260384982883:True:=⟨⟩
theorem tw13481760016829567843:True:=⟨⟩
theorem tw217586929672414051:True:=⟨⟩
theorem tw9304679156003013507:True:=⟨⟩
theorem tw7181928795711747971:True:=⟨⟩
theorem tw3284308345620658083:True:=⟨⟩
theorem tw2999840799757774787:True:=⟨⟩
theorem tw6259990006279809028:True:=⟨⟩
theorem tw11755380338747060228:True:=⟨⟩
theorem tw1234676611588242468:True:=⟨⟩
theorem tw8920872662163800100:True:=⟨⟩
theorem tw5668336883022909540:True:=⟨⟩
theorem tw12600934452268643492:True:=⟨⟩
theorem tw17705807041937651972:True:=⟨⟩
theorem tw12162268238212250884:True:=⟨⟩
theorem tw1362950669106306404:True:=⟨⟩
theorem tw1406575020639943044:True:=⟨⟩
theorem tw14610399421792847364:True:=⟨⟩
theorem tw13711354188432214532:True:=⟨⟩
theorem tw13023013767617757764:True:=⟨⟩
theorem tw4293296252260963908:True:=⟨⟩
theorem tw103545790380807780:True:=⟨⟩
theorem tw2406101464727043908:True:=⟨⟩
theorem tw7753426287380185924:True:=⟨⟩
theorem tw5825295747868755844:True:=⟨⟩
theorem tw7995242155983260548:True:=⟨⟩
theorem tw18209055358077778852:True:=⟨⟩
theorem tw3001457211619535812:True:=⟨⟩
theorem tw15741267286406141924:True:=⟨⟩
theorem tw14193554068754367525:True:=⟨⟩
theorem tw12711997338048727077:True:=⟨⟩
theorem tw11236654669676723237:True:=⟨⟩
theorem tw11017432082491364389:True:=⟨⟩
theorem tw13358536506033365029:True:=⟨⟩
theorem tw16912162867832710213:True:=⟨⟩
theorem tw11438020841055171717:True:=⟨⟩
theorem tw18262014606009605285:True:=⟨⟩
theorem tw4549389507080888517:True:=⟨⟩
theorem tw5876773116535131365:True:=⟨⟩
theorem tw2280603211119635717:True:=⟨⟩
theorem tw330000930980862245:True:=⟨⟩
theorem tw8780259162353281317:True:=⟨⟩
theorem tw11712406673300598053:True:=⟨⟩
theorem tw8421030626041290181:True:=⟨⟩
theorem tw11788143948294912453:True:=⟨⟩
theorem tw17795796426037897733:True:=⟨⟩
theorem tw16844349023445052933:True:=⟨⟩
theorem tw6899808046728061477:True:=⟨⟩
theorem tw1542887106011248165:True:=⟨⟩
theorem tw6086702517299242565:True:=⟨⟩
theorem tw6344105642244035173:True:=⟨⟩
theorem tw2486829978381603429:True:=⟨⟩
theorem tw5496471160591515237:True:=⟨⟩
theorem tw9343871374822010501:True:=⟨⟩
theorem tw2986082895836114597:True:=⟨⟩
theorem tw5967082807620290245:True:=⟨⟩
theorem tw15813346873967637189:True:=⟨⟩
theorem tw4792828692436580101:True:=⟨⟩
theorem tw2024442730449146693:True:=⟨⟩
theorem tw12416162220484171685:True:=⟨⟩
theorem tw9145698581006929829:True:=⟨⟩
theorem tw4341239981374704581:True:=⟨⟩
theorem tw13637535297976342469:True:=⟨⟩
theorem tw4693195240082627525:True:=⟨⟩
theorem tw3858705305599410117:True:=⟨⟩
theorem tw16176501049058563045:True:=⟨⟩
theorem tw3477866978912349157:True:=⟨⟩
theorem tw8125406223898851334:True:=⟨⟩
theorem tw17071079731184595974:True:=⟨⟩
theorem tw3372793068191481894:True:=⟨⟩
theorem tw8059560734146569254:True:=⟨⟩
theorem tw5875603806394330150:True:=⟨⟩
theorem tw17919487849162327078:True:=⟨⟩
theorem tw2774928015587257446:True:=⟨⟩
theorem tw7784845799878051942:True:=⟨⟩
theorem tw1280229500171407462:True:=⟨⟩
theorem tw3751852379217500294:True:=⟨⟩
theorem tw5858246924378456198:True:=⟨⟩
theorem tw1839070172732899462:True:=⟨⟩
theorem tw2423804153748418694:True:=⟨⟩
theorem tw14494066230805947590:True:=⟨⟩
theorem tw9698695498961321254:True:=⟨⟩
theorem tw5335281266159224134:True:=⟨⟩
theorem tw15456902415188891974:True:=⟨⟩
theorem tw5269763898430006598:True:=⟨⟩
theorem tw17645831752615179622:True:=⟨⟩
theorem tw10223735426401322342:True:=⟨⟩
theorem tw173699233432418694:True:=⟨⟩
theorem tw12575447699141896614:True:=⟨⟩
theorem tw16203770199280567814:True:=⟨⟩
theorem tw8795778010576840230:True:=⟨⟩
theorem tw12762595772304685638:True:=⟨⟩
theorem tw15297682392653787750:True:=⟨⟩
theorem tw18334878855317455494:True:=⟨⟩
theorem tw518190957426913926:True:=⟨⟩
theorem tw7595789544906617574:True:=⟨⟩
theorem tw10584794618242657094:True:=⟨⟩
theorem tw14087029276640814022:True:=⟨⟩
theorem tw12964464554100123590:True:=⟨⟩
theorem tw10086664995539539975:True:=⟨⟩
theorem tw13914712493024780327:True:=⟨⟩
theorem tw7992480281491378279:True:=⟨⟩
theorem tw13800201716708780135:True:=⟨⟩
theorem tw6894092219413137543:True:=⟨⟩
theorem tw11963225359367286919:True:=⟨⟩
theorem tw13073148670612206759:True:=⟨⟩
theorem tw15783552292750611655:True:=⟨⟩
theorem tw10429245934126212327:True:=⟨⟩
theorem tw1529088662645813479:True:=⟨⟩
theorem tw4252966664208798951:True:=⟨⟩
theorem tw18272942096524713223:True:=⟨⟩
theorem tw3884354811105159431:True:=⟨⟩
theorem tw14760237146270723335:True:=⟨⟩
theorem tw5799558090590647623:True:=⟨⟩
theorem tw13205122958086252903:True:=⟨⟩
theorem tw5940056261903788391:True:=⟨⟩
theorem tw10267088454317587847:True:=⟨⟩
theorem tw11501054457787931015:True:=⟨⟩
theorem tw4912366600198316423:True:=⟨⟩
theorem tw13027024618304200103:True:=⟨⟩
theorem tw11940412681029433799:True:=⟨⟩
theorem tw13376276830678568391:True:=⟨⟩
theorem tw2203843966438414823:True:=⟨⟩
theorem tw6911384493467116135:True:=⟨⟩
theorem tw4330911609667831399:True:=⟨⟩
theorem tw12398432084608011879:True:=⟨⟩
theorem tw10611999685294357095:True:=⟨⟩
theorem tw10410729155052159655:True:=⟨⟩
theorem tw16828511700753706663:True:=⟨⟩
theorem tw1578242867924990631:True:=⟨⟩
theorem tw12606322888049101703:True:=⟨⟩
theorem tw7971951398552016775:True:=⟨⟩
theorem tw11336212485783407495:True:=⟨⟩
theorem tw14830395611180584839:True:=⟨⟩
theorem tw5891884136893579143:True:=⟨⟩
theorem tw18127004562876236743:True:=⟨⟩
theorem tw10591162248757883847:True:=⟨⟩
theorem tw9904441842960755655:True:=⟨⟩
theorem tw67875749759060967:True:=⟨⟩
theorem tw10810001105768860647:True:=⟨⟩
theorem tw15361178115443812327:True:=⟨⟩
theorem tw1667250879151584264:True:=⟨⟩
theorem tw5335804617365447688:True:=⟨⟩
theorem tw420720327411634216:True:=⟨⟩
theorem tw13050704330016568360:True:=⟨⟩
theorem tw10785863361604536392:True:=⟨⟩
theorem tw13744507061169131624:True:=⟨⟩
theorem tw4492591808636853352:True:=⟨⟩
theorem tw16012515899037254792:True:=⟨⟩
theorem tw1250852074013149320:True:=⟨⟩
theorem tw10939731971230087336:True:=⟨⟩
theorem tw912121398546016456:True:=⟨⟩
theorem tw7947677314274382056:True:=⟨⟩
theorem tw14000914760494931176:True:=⟨⟩
theorem tw5137845442842367240:True:=⟨⟩
theorem tw1883742289883196744:True:=⟨⟩
theorem tw17203022839336408424:True:=⟨⟩
theorem tw5327090725111208296:True:=⟨⟩
theorem tw15261715781039432072:True:=⟨⟩
theorem tw77463026159508872:True:=⟨⟩
theorem tw4060985526308385192:True:=⟨⟩
theorem tw9370936327715600840:True:=⟨⟩
theorem tw8546014890589391368:True:=⟨⟩
theorem tw5660225283018957352:True:=⟨⟩
theorem tw5771173187008598600:True:=⟨⟩
theorem tw13334812971729502792:True:=⟨⟩
theorem tw8299941009286892168:True:=⟨⟩
theorem tw4950376888649606792:True:=⟨⟩
theorem tw10886046835263899304:True:=⟨⟩
theorem tw10603871752384549576:True:=⟨⟩
theorem tw2994534896788979400:True:=⟨⟩
theorem tw3799143932669319880:True:=⟨⟩
theorem tw1540018588203154152:True:=⟨⟩
theorem tw1712498939494057768:True:=⟨⟩
theorem tw15701567892662967080:True:=⟨⟩
theorem tw16107728207891071816:True:=⟨⟩
theorem tw241286003856484232:True:=⟨⟩
theorem tw1192518829040354216:True:=⟨⟩
theorem tw4326908729187120137:True:=⟨⟩
theorem tw3086877249776640041:True:=⟨⟩
theorem tw17379344120217632841:True:=⟨⟩
theorem tw9987829681893137481:True:=⟨⟩
theorem tw8355337893099263081:True:=⟨⟩
theorem tw16789413825334251657:True:=⟨⟩
theorem tw6720061108180019369:True:=⟨⟩
theorem tw18195570007935976649:True:=⟨⟩
theorem tw4315343682202192073:True:=⟨⟩
theorem tw11813379142356819145:True:=⟨⟩
theorem tw5750254667609005289:True:=⟨⟩
theorem tw15411949501148163305:True:=⟨⟩
theorem tw5184509904065370409:True:=⟨⟩
theorem tw1833410424585495849:True:=⟨⟩
theorem tw13481186093657829673:True:=⟨⟩
theorem tw6201063440001144169:True:=⟨⟩
theorem tw6786328648863656297:True:=⟨⟩
theorem tw4024609093847950729:True:=⟨⟩
theorem tw14306871677768332681:True:=⟨⟩
theorem tw2614851133394810281:True:=⟨⟩
theorem tw14057112600131645897:True:=⟨⟩
theorem tw10207025782724387273:True:=⟨⟩
theorem tw8850222273264726505:True:=⟨⟩
theorem tw18202844468456405481:True:=⟨⟩
theorem tw3930362068369050121:True:=⟨⟩
theorem tw2497553479067103753:True:=⟨⟩
theorem tw6291097912678903369:True:=⟨⟩
theorem tw17208507596493064841:True:=⟨⟩
theorem tw238865451627948681:True:=⟨⟩
theorem tw5086428301139565257:True:=⟨⟩
theorem tw5615975689187121897:True:=⟨⟩
theorem tw3929073095941452553:True:=⟨⟩
theorem tw9107774808495345449:True:=⟨⟩
theorem tw10914976248450980713:True:=⟨⟩
theorem tw6357243758891902921:True:=⟨⟩
theorem tw13226995614931370953:True:=⟨⟩
theorem tw6060233460909541353:True:=⟨⟩
theorem tw7224185917295626217:True:=⟨⟩
theorem tw11896455283574705129:True:=⟨⟩
theorem tw712751890466452457:True:=⟨⟩
theorem tw843962511957843945:True:=⟨⟩
theorem tw18018614250265864169:True:=⟨⟩
theorem tw12886844620950315018:True:=⟨⟩
theorem tw14219905054248496138:True:=⟨⟩
theorem tw15901118992251462730:True:=⟨⟩
theorem tw13153377654042719306:True:=⟨⟩
theorem tw11360728553872174218:True:=⟨⟩
theorem tw2787063670423484618:True:=⟨⟩
theorem tw15100637095611531498:True:=⟨⟩
theorem tw3893862108404013290:True:=⟨⟩
theorem tw16394875697832138026:True:=⟨⟩
theorem tw5134715219404495178:True:=⟨⟩
theorem tw5630789880974679402:True:=⟨⟩
theorem tw16569435372387177866:True:=⟨⟩
theorem tw5670337907519882:True:=⟨⟩
theorem tw6252047149513794986:True:=⟨⟩
theorem tw4012996157593236970:True:=⟨⟩
theorem tw3859731439455592938:True:=⟨⟩
theorem tw2578315432132340202:True:=⟨⟩
theorem tw273427427473997354:True:=⟨⟩
theorem tw5873348174832288298:True:=⟨⟩
theorem tw15222388316814105130:True:=⟨⟩
theorem tw10120266809070479914:True:=⟨⟩
theorem tw16112762621704761930:True:=⟨⟩
theorem tw2503089589202229866:True:=⟨⟩
theorem tw5472944664064401002:True:=⟨⟩
theorem tw14905358354623261290:True:=⟨⟩
theorem tw18422683600295603850:True:=⟨⟩
theorem tw4831980252266620554:True:=⟨⟩
theorem tw1295234337251821226:True:=⟨⟩
theorem tw15662186987384703658:True:=⟨⟩
theorem tw15566062090823943850:True:=⟨⟩
theorem tw17007742258123620074:True:=⟨⟩
theorem tw306116189194900202:True:=⟨⟩
theorem tw8582357168039264042:True:=⟨⟩
theorem tw1647303703400988490:True:=⟨⟩
theorem tw3737359920099507050:True:=⟨⟩
theorem tw10372442059719801706:True:=⟨⟩
theorem tw7512470129668329418:True:=⟨⟩
theorem tw9410096951494561738:True:=⟨⟩
theorem tw5693731378629153803:True:=⟨⟩
theorem tw2376941930242990091:True:=⟨⟩
theorem tw16908455679811125291:True:=⟨⟩
theorem tw5875666033840426059:True:=⟨⟩
theorem tw12158382111169713259:True:=⟨⟩
theorem tw15548422183916005483:True:=⟨⟩
theorem tw17827700044166786155:True:=⟨⟩
theorem tw7472303435713291467:True:=⟨⟩
theorem tw3651304419634621643:True:=⟨⟩
theorem tw13908477786157873419:True:=⟨⟩
theorem tw12403996502827838763:True:=⟨⟩
theorem tw545713704419488171:True:=⟨⟩
theorem tw4447787437336305099:True:=⟨⟩
theorem tw11873513834257300939:True:=⟨⟩
theorem tw5770796230296085995:True:=⟨⟩
theorem tw15108081207985779211:True:=⟨⟩
theorem tw10835880098570132043:True:=⟨⟩
theorem tw17534353723551159915:True:=⟨⟩
theorem tw17910281414409168523:True:=⟨⟩
theorem tw5608425936028092075:True:=⟨⟩
theorem tw10180869201936980683:True:=⟨⟩
theorem tw6377385349479638731:True:=⟨⟩
theorem tw16955931379143870187:True:=⟨⟩
theorem tw14406874242643123947:True:=⟨⟩
theorem tw16230937627325580043:True:=⟨⟩
theorem tw7910173297266472747:True:=⟨⟩
theorem tw4141735340123899691:True:=⟨⟩
theorem tw15875695580548136747:True:=⟨⟩
theorem tw18175762485736628043:True:=⟨⟩
theorem tw9324166284518329195:True:=⟨⟩
theorem tw1822740503002330987:True:=⟨⟩
theorem tw4662183492909981547:True:=⟨⟩
theorem tw6385409519463129963:True:=⟨⟩
theorem tw10187239932144946059:True:=⟨⟩
theorem tw12391649876163892171:True:=⟨⟩
theorem tw9663703547723099115:True:=⟨⟩
theorem tw6487314137249148907:True:=⟨⟩
theorem tw10778472370543419404:True:=⟨⟩
theorem tw2695811423230492716:True:=⟨⟩
theorem tw5003808812557665324:True:=⟨⟩
theorem tw9824516014248822828:True:=⟨⟩
theorem tw3192774046306510892:True:=⟨⟩
theorem tw9378945391752505388:True:=⟨⟩
theorem tw1994817980762636396:True:=⟨⟩
theorem tw9289335929451329676:True:=⟨⟩
theorem tw6705327339256689932:True:=⟨⟩
theorem tw8334983912848570636:True:=⟨⟩
theorem tw12101672807439835436:True:=⟨⟩
theorem tw10588961680102249804:True:=⟨⟩
theorem tw14237630898425713996:True:=⟨⟩
theorem tw11909128943341608332:True:=⟨⟩
theorem tw15535293103176300940:True:=⟨⟩
theorem tw3057308423235028364:True:=⟨⟩
theorem tw8214991383641214380:True:=⟨⟩
theorem tw13188160317211292108:True:=⟨⟩
theorem tw1847308953026180684:True:=⟨⟩
theorem tw1094139764233722444:True:=⟨⟩
theorem tw5106842195177842284:True:=⟨⟩
theorem tw6968470018245983884:True:=⟨⟩
theorem tw4723152284949230252:True:=⟨⟩
theorem tw9257890924175090348:True:=⟨⟩
theorem tw1977974837619582636:True:=⟨⟩
theorem tw6664226010402812588:True:=⟨⟩
theorem tw8249300168537852620:True:=⟨⟩
theorem tw17289055800885116620:True:=⟨⟩
theorem tw12194585190341067500:True:=⟨⟩
theorem tw8884584536278127340:True:=⟨⟩
theorem tw5197876742991608556:True:=⟨⟩
theorem tw15289559228587774732:True:=⟨⟩
theorem tw14934390823419653900:True:=⟨⟩
theorem tw6449946436020260652:True:=⟨⟩
theorem tw2943484914946387820:True:=⟨⟩
theorem tw15474839887957878636:True:=⟨⟩
theorem tw3267195809340367885:True:=⟨⟩
theorem tw6814027208058437677:True:=⟨⟩
theorem tw5844447378204524589:True:=⟨⟩
theorem tw17810713258436639789:True:=⟨⟩
theorem tw9008479118687373389:True:=⟨⟩
theorem tw7505888248759387245:True:=⟨⟩
theorem tw10604206000374108269:True:=⟨⟩
theorem tw7865799590836625645:True:=⟨⟩
theorem tw11319388520788492557:True:=⟨⟩
theorem tw15466796142853983533:True:=⟨⟩
theorem tw14686048104862857581:True:=⟨⟩
theorem tw2443814445215411565:True:=⟨⟩
theorem tw14078827724913849741:True:=⟨⟩
theorem tw16214887950768996813:True:=⟨⟩
theorem tw11877107347928250829:True:=⟨⟩
theorem tw4449034443029728781:True:=⟨⟩
theorem tw9153229566446652973:True:=⟨⟩
theorem tw5130634234628124269:True:=⟨⟩
theorem tw10864987127973098093:True:=⟨⟩
theorem tw7214413195728067245:True:=⟨⟩
theorem tw12824835147526015693:True:=⟨⟩
theorem tw5413100900508968653:True:=⟨⟩
theorem tw14002104364919071501:True:=⟨⟩
theorem tw1208526736560766765:True:=⟨⟩
theorem tw12720432725285384045:True:=⟨⟩
theorem tw3712573406312687630:True:=⟨⟩
theorem tw946603902614616110:True:=⟨⟩
theorem tw337472429142146094:True:=⟨⟩
theorem tw9455368969127329870:True:=⟨⟩
theorem tw9391187175697943662:True:=⟨⟩
theorem tw3407231494219862126:True:=⟨⟩
theorem tw8142480269962794094:True:=⟨⟩
theorem tw17995541107380382894:True:=⟨⟩
theorem tw18365427626721779918:True:=⟨⟩
theorem tw10138816475027256526:True:=⟨⟩
theorem tw12216069400707424494:True:=⟨⟩
theorem tw11384343162574935310:True:=⟨⟩
theorem tw7095081068885845262:True:=⟨⟩
theorem tw4186144143480866062:True:=⟨⟩
theorem tw15640010608383399214:True:=⟨⟩
theorem tw8369068597591579950:True:=⟨⟩
theorem tw4640312351904768302:True:=⟨⟩
theorem tw14534678650253779246:True:=⟨⟩
theorem tw7502554968035171662:True:=⟨⟩
theorem tw10310808834003316078:True:=⟨⟩
theorem tw7508054361167311214:True:=⟨⟩
theorem tw16873015821324500398:True:=⟨⟩
theorem tw1287302991825838542:True:=⟨⟩
theorem tw9904264276258734542:True:=⟨⟩
theorem tw13143265978467370446:True:=⟨⟩
theorem tw14439712985489770990:True:=⟨⟩
theorem tw7431014405475080686:True:=⟨⟩
theorem tw15865347693706940942:True:=⟨⟩
theorem tw6840180256820530734:True:=⟨⟩
theorem tw13425838275113015854:True:=⟨⟩
theorem tw5574732963428457070:True:=⟨⟩
theorem tw13861797110970836654:True:=⟨⟩
theorem tw9095081643974958862:True:=⟨⟩
theorem tw6582454615125913422:True:=⟨⟩
theorem tw13191410078249474926:True:=⟨⟩
theorem tw11396027114825401326:True:=⟨⟩
theorem tw4534596855525368814:True:=⟨⟩
theorem tw5071829433467082767:True:=⟨⟩
theorem tw9380403669133770767:True:=⟨⟩
theorem tw13431900783603541071:True:=⟨⟩
theorem tw2512133129422570607:True:=⟨⟩
theorem tw238290925479677039:True:=⟨⟩
theorem tw7592076555167973583:True:=⟨⟩
theorem tw7298219231956164815:True:=⟨⟩
theorem tw9685508032444541231:True:=⟨⟩
theorem tw3383684708819479855:True:=⟨⟩
theorem tw12867063625656722767:True:=⟨⟩
theorem tw2564638702752640431:True:=⟨⟩
theorem tw12785482232044967439:True:=⟨⟩
theorem tw18440534487605083663:True:=⟨⟩
theorem tw12393528785480957487:True:=⟨⟩
theorem tw4474322945779910191:True:=⟨⟩
theorem tw5203642471380513327:True:=⟨⟩
theorem tw17725656147383221807:True:=⟨⟩
theorem tw16456185002094659151:True:=⟨⟩
theorem tw8892922367657842255:True:=⟨⟩
theorem tw4972115221248617039:True:=⟨⟩
theorem tw15930621002356719183:True:=⟨⟩
theorem tw490229959007980143:True:=⟨⟩
theorem tw13475352002686910063:True:=⟨⟩
theorem tw14045313651578636943:True:=⟨⟩
theorem tw8382876755768452751:True:=⟨⟩
theorem tw11195366232079052463:True:=⟨⟩
theorem tw5438131229321659119:True:=⟨⟩
theorem tw65815326015334127:True:=⟨⟩
theorem tw489092190345833199:True:=⟨⟩
theorem tw16162932958255314671:True:=⟨⟩
theorem tw4576640422006748943:True:=⟨⟩
theorem tw11504175253583158063:True:=⟨⟩
theorem tw1951730277198755695:True:=⟨⟩
theorem tw9305172897426120591:True:=⟨⟩
theorem tw6768634920520877007:True:=⟨⟩
theorem tw15614307838413363151:True:=⟨⟩
theorem tw17087796645875404783:True:=⟨⟩
theorem tw14016340749178900496:True:=⟨⟩
theorem tw9708257545287405584:True:=⟨⟩
theorem tw2773188983228445712:True:=⟨⟩
theorem tw11198843341855403120:True:=⟨⟩
theorem tw13566533183957522544:True:=⟨⟩
theorem tw4151381153203826864:True:=⟨⟩
theorem tw12253426108081336560:True:=⟨⟩
theorem tw18126454150860720432:True:=⟨⟩
theorem tw2645286320262632752:True:=⟨⟩
theorem tw9502084843783846224:True:=⟨⟩
theorem tw3560978910483554704:True:=⟨⟩
theorem tw14144933625721233808:True:=⟨⟩
theorem tw17063230759994992016:True:=⟨⟩
theorem tw8591973445178118576:True:=⟨⟩
theorem tw15497249089982389744:True:=⟨⟩
theorem tw2106329754869935632:True:=⟨⟩
theorem tw14911311348943696400:True:=⟨⟩
theorem tw2583579051037167152:True:=⟨⟩
theorem tw9447256168607275600:True:=⟨⟩
theorem tw3044854311878124112:True:=⟨⟩
theorem tw12919257240434030256:True:=⟨⟩
theorem tw11628098752390554352:True:=⟨⟩
theorem tw11005702543178953456:True:=⟨⟩
theorem tw2668467410781021968:True:=⟨⟩
theorem tw6845788628425955088:True:=⟨⟩
theorem tw12383992579517236016:True:=⟨⟩
theorem tw5021874606238686128:True:=⟨⟩
theorem tw15853153042866561968:True:=⟨⟩
theorem tw10818386099843620816:True:=⟨⟩
theorem tw355646814818244592:True:=⟨⟩
theorem tw2839543207595091952:True:=⟨⟩
theorem tw18130375599697743889:True:=⟨⟩
theorem tw5180992971316830257:True:=⟨⟩
theorem tw14029403090309212209:True:=⟨⟩
theorem tw747394351738325073:True:=⟨⟩
theorem tw9109859166204546129:True:=⟨⟩
theorem tw3878677485693043825:True:=⟨⟩
theorem tw9548908476468813937:True:=⟨⟩
theorem tw7629332511140082833:True:=⟨⟩
theorem tw12298749320189788369:True:=⟨⟩
theorem tw13629472895796818161:True:=⟨⟩
theorem tw8082142466645421297:True:=⟨⟩
theorem tw2777608715956504881:True:=⟨⟩
theorem tw2788478263048078737:True:=⟨⟩
theorem tw9328703821560248753:True:=⟨⟩
theorem tw9819576935211055569:True:=⟨⟩
theorem tw12237002574835282385:True:=⟨⟩
theorem tw12000911049759954417:True:=⟨⟩
theorem tw13350400568475494961:True:=⟨⟩
theorem tw17590573666330789425:True:=⟨⟩
theorem tw58841473366224465:True:=⟨⟩
theorem tw9211996975266429521:True:=⟨⟩
theorem tw5439406258253613681:True:=⟨⟩
theorem tw6750826071783565937:True:=⟨⟩
theorem tw10686996037869937329:True:=⟨⟩
theorem tw12503774128440066769:True:=⟨⟩
theorem tw12390114795371381457:True:=⟨⟩
theorem tw7335328171319948049:True:=⟨⟩
theorem tw1864321191864215345:True:=⟨⟩
theorem tw16994019167736970033:True:=⟨⟩
theorem tw1142228909781421905:True:=⟨⟩
theorem tw1740744442954039153:True:=⟨⟩
theorem tw10813096086041300977:True:=⟨⟩
theorem tw15965652487088688146:True:=⟨⟩
theorem tw16190719343004916818:True:=⟨⟩
theorem tw15761685573825064082:True:=⟨⟩
theorem tw9625630538518930610:True:=⟨⟩
theorem tw17792159136855754962:True:=⟨⟩
theorem tw7991443009260950738:True:=⟨⟩
theorem tw3554065359517921490:True:=⟨⟩
theorem tw16884887124372293970:True:=⟨⟩
theorem tw3356056269417419122:True:=⟨⟩
theorem tw8559457568031586706:True:=⟨⟩
theorem tw11620944818349940146:True:=⟨⟩
theorem tw656093919517381074:True:=⟨⟩
theorem tw8357009446496511442:True:=⟨⟩
theorem tw13731810465055451602:True:=⟨⟩
theorem tw14574990500667982322:True:=⟨⟩
theorem tw3014748384564978226:True:=⟨⟩
theorem tw15378344542917150258:True:=⟨⟩
theorem tw4103114211799321170:True:=⟨⟩
theorem tw16103888697854337682:True:=⟨⟩
theorem tw9868576773526812402:True:=⟨⟩
theorem tw18190281766297455410:True:=⟨⟩
theorem tw5019609957087861554:True:=⟨⟩
theorem tw2127357452467726130:True:=⟨⟩
theorem tw1658319194572301138:True:=⟨⟩
theorem tw876676288212192082:True:=⟨⟩
theorem tw10732237911951210322:True:=⟨⟩
theorem tw13896530851900131250:True:=⟨⟩
theorem tw6841487761513836530:True:=⟨⟩
theorem tw15843405713208965106:True:=⟨⟩
theorem tw13024928553923487763:True:=⟨⟩
theorem tw3682141147641173043:True:=⟨⟩
theorem tw839001479458349107:True:=⟨⟩
theorem tw11909942272049606707:True:=⟨⟩
theorem tw16129403920583346323:True:=⟨⟩
theorem tw11928502923123702003:True:=⟨⟩
theorem tw18191241971109913875:True:=⟨⟩
theorem tw574134873389886739:True:=⟨⟩
theorem tw14226863380580494611:True:=⟨⟩
theorem tw3853371520843454771:True:=⟨⟩
theorem tw317259462878947635:True:=⟨⟩
theorem tw4605166962939483475:True:=⟨⟩
theorem tw4308693514793095539:True:=⟨⟩
theorem tw12383331295466100147:True:=⟨⟩
theorem tw7033047593215449555:True:=⟨⟩
theorem tw13235161073257740787:True:=⟨⟩
theorem tw7479635358458984979:True:=⟨⟩
theorem tw12622389798131371571:True:=⟨⟩
theorem tw17261696376422011443:True:=⟨⟩
theorem tw15567748800828428883:True:=⟨⟩
theorem tw7385099746780060307:True:=⟨⟩
theorem tw6951437378429576851:True:=⟨⟩
theorem tw16389062943164397267:True:=⟨⟩
theorem tw17005680007032307443:True:=⟨⟩
theorem tw8331980280589365011:True:=⟨⟩
theorem tw371184184713633555:True:=⟨⟩
theorem tw13706097180182505235:True:=⟨⟩
theorem tw15492384814641635187:True:=⟨⟩
theorem tw11577802953076210547:True:=⟨⟩
theorem tw9145324967530004371:True:=⟨⟩
theorem tw13936012895385883571:True:=⟨⟩
theorem tw12675594221313317811:True:=⟨⟩
theorem tw16438594938251858931:True:=⟨⟩
theorem tw16925376854932123635:True:=⟨⟩
theorem tw17094809910035426324:True:=⟨⟩
theorem tw4438704953458649140:True:=⟨⟩
theorem tw5286155605907902548:True:=⟨⟩
theorem tw2393133728091055188:True:=⟨⟩
theorem tw1372690718363264084:True:=⟨⟩
theorem tw10232384940197620820:True:=⟨⟩
theorem tw392006359503044724:True:=⟨⟩
theorem tw1968272720458342516:True:=⟨⟩
theorem tw10101147725408247956:True:=⟨⟩
theorem tw9190108194406855828:True:=⟨⟩
theorem tw9437082316447650004:True:=⟨⟩
theorem tw9883942453015658708:True:=⟨⟩
theorem tw9445252753797434580:True:=⟨⟩
theorem tw18303944120110738676:True:=⟨⟩
theorem tw942394699047640340:True:=⟨⟩
theorem tw11770938630617344276:True:=⟨⟩
theorem tw18287923513640894740:True:=⟨⟩
theorem tw9226712674206146900:True:=⟨⟩
theorem tw11051002775174318516:True:=⟨⟩
theorem tw5013741540774822324:True:=⟨⟩
theorem tw17153537963290648020:True:=⟨⟩
theorem tw4429289721310285364:True:=⟨⟩
theorem tw11993435635328645684:True:=⟨⟩
theorem tw11295650388843667060:True:=⟨⟩
theorem tw10643772347752621684:True:=⟨⟩
theorem tw11712737593374650996:True:=⟨⟩
theorem tw9675809671529182836:True:=⟨⟩
theorem tw2680256163885901428:True:=⟨⟩
theorem tw5843790143784449716:True:=⟨⟩
theorem tw3033766868560529108:True:=⟨⟩
theorem tw14911038664438061812:True:=⟨⟩
theorem tw12009645097099801364:True:=⟨⟩
theorem tw4713601735025352468:True:=⟨⟩
theorem tw7667963263253257044:True:=⟨⟩
theorem tw7099197802959444820:True:=⟨⟩
theorem tw6149643435364383604:True:=⟨⟩
theorem tw3786291684149235700:True:=⟨⟩
theorem tw9915410972864166900:True:=⟨⟩
theorem tw15565238030922137588:True:=⟨⟩
theorem tw16892229553514635252:True:=⟨⟩
theorem tw14005678413682303988:True:=⟨⟩
theorem tw6321885852773395477:True:=⟨⟩
theorem tw17312658134438785045:True:=⟨⟩
theorem tw14377938585076757:True:=⟨⟩
theorem tw3013640048404646933:True:=⟨⟩
theorem tw11455980148589417525:True:=⟨⟩
theorem tw5977940373046391861:True:=⟨⟩
theorem tw11951723143687333973:True:=⟨⟩
theorem tw5312789667515657301:True:=⟨⟩
theorem tw3322844555247228021:True:=⟨⟩
theorem tw15680363627467360373:True:=⟨⟩
theorem tw15698726570636481685:True:=⟨⟩
theorem tw12825646885643269301:True:=⟨⟩
theorem tw3426716565160523957:True:=⟨⟩
theorem tw8729767295549346005:True:=⟨⟩
theorem tw3054946222737489109:True:=⟨⟩
theorem tw8585091087687920949:True:=⟨⟩
theorem tw631822075848667445:True:=⟨⟩
theorem tw14270655224196873525:True:=⟨⟩
theorem tw1165407903845356885:True:=⟨⟩
theorem tw11563393957030240629:True:=⟨⟩
theorem tw18212326569578185077:True:=⟨⟩
theorem tw17600731075453501813:True:=⟨⟩
theorem tw16194759129866554741:True:=⟨⟩
theorem tw18431640317014462837:True:=⟨⟩
theorem tw4418370295620205973:True:=⟨⟩
theorem tw1148368235298649525:True:=⟨⟩
theorem tw7547156713728009717:True:=⟨⟩
theorem tw13386163248692918773:True:=⟨⟩
theorem tw14426106039878056437:True:=⟨⟩
theorem tw14996878153585891861:True:=⟨⟩
theorem tw5055269655626312213:True:=⟨⟩
theorem tw14629790062442953269:True:=⟨⟩
theorem tw3916702550298953301:True:=⟨⟩
theorem tw10892784213001062997:True:=⟨⟩
theorem tw6505431673139016309:True:=⟨⟩
theorem tw8844790456728978069:True:=⟨⟩
theorem tw6669913607206496917:True:=⟨⟩
theorem tw8493370805175684821:True:=⟨⟩
theorem tw7266021498545513173:True:=⟨⟩
theorem tw4675548885683068629:True:=⟨⟩
theorem tw5874224584337981141:True:=⟨⟩
theorem tw2220981300933052245:True:=⟨⟩
theorem tw12462909481313104725:True:=⟨⟩
theorem tw2408768213740163957:True:=⟨⟩
theorem tw16234970908398865301:True:=⟨⟩
theorem tw961121447051190197:True:=⟨⟩
theorem tw18289277296756327413:True:=⟨⟩
theorem tw14937152911443960821:True:=⟨⟩
theorem tw884240946116227061:True:=⟨⟩
theorem tw13913445176188417046:True:=⟨⟩
theorem tw7088896492772944918:True:=⟨⟩
theorem tw2055226597702556726:True:=⟨⟩
theorem tw16428421916331960470:True:=⟨⟩
theorem tw15361965846729686166:True:=⟨⟩
theorem tw8928354843914118326:True:=⟨⟩
theorem tw14206447457251709110:True:=⟨⟩
theorem tw11918230622479920374:True:=⟨⟩
theorem tw7835403804592473366:True:=⟨⟩
theorem tw10225751382279688470:True:=⟨⟩
theorem tw17138566198472883510:True:=⟨⟩
theorem tw14624544348883945814:True:=⟨⟩
theorem tw17575212304902132054:True:=⟨⟩
theorem tw7051748727711690102:True:=⟨⟩
theorem tw13598545002635529622:True:=⟨⟩
theorem tw18260343598473205142:True:=⟨⟩
theorem tw6792223340362248630:True:=⟨⟩
theorem tw1022265830158312918:True:=⟨⟩
theorem tw18267522649817282006:True:=⟨⟩
theorem tw11630454779751136758:True:=⟨⟩
theorem tw2950967267947665014:True:=⟨⟩
theorem tw1822375966554935958:True:=⟨⟩
theorem tw5958539219443478166:True:=⟨⟩
theorem tw15154917203660976822:True:=⟨⟩
theorem tw16567639687457694390:True:=⟨⟩
theorem tw8684927374952875798:True:=⟨⟩
theorem tw11825539462483453782:True:=⟨⟩
theorem tw10255154211369996118:True:=⟨⟩
theorem tw9237373778268979030:True:=⟨⟩
theorem tw5164742320457782198:True:=⟨⟩
theorem tw7003807617127945174:True:=⟨⟩
theorem tw4256234565813561302:True:=⟨⟩
theorem tw4540596923519649782:True:=⟨⟩
theorem tw6740900717722527734:True:=⟨⟩
theorem tw13311486905579333687:True:=⟨⟩
theorem tw17291035356169011319:True:=⟨⟩
theorem tw11858947388369719415:True:=⟨⟩
theorem tw9613717994085890199:True:=⟨⟩
theorem tw15702973320805630103:True:=⟨⟩
theorem tw7640949947316018359:True:=⟨⟩
theorem tw5584713062686498999:True:=⟨⟩
theorem tw6368613011078921399:True:=⟨⟩
theorem tw16341782477982307543:True:=⟨⟩
theorem tw6635518772885725399:True:=⟨⟩
theorem tw8587496698254871767:True:=⟨⟩
theorem tw12958902207022821591:True:=⟨⟩
theorem tw4163898015022366967:True:=⟨⟩
theorem tw8731431284723193175:True:=⟨⟩
theorem tw10971702306451034487:True:=⟨⟩
theorem tw9201763098305518967:True:=⟨⟩
theorem tw2491116249762580887:True:=⟨⟩
theorem tw4836331891017512343:True:=⟨⟩
theorem tw16036822927551963575:True:=⟨⟩
theorem tw7355125108998425015:True:=⟨⟩
theorem tw12426242009017816535:True:=⟨⟩
theorem tw3769187466087651799:True:=⟨⟩
theorem tw10190349222077590039:True:=⟨⟩
theorem tw18098374749172990551:True:=⟨⟩
theorem tw13557450237165777559:True:=⟨⟩
theorem tw12504042240345134775:True:=⟨⟩
theorem tw15531830999292142263:True:=⟨⟩
theorem tw17148803274797564631:True:=⟨⟩
theorem tw8709670347471693559:True:=⟨⟩
theorem tw17373036973388956439:True:=⟨⟩
theorem tw9189369208861195063:True:=⟨⟩
theorem tw5111304443794345815:True:=⟨⟩
theorem tw13835589585366440791:True:=⟨⟩
theorem tw12233903370760855415:True:=⟨⟩
theorem tw13764841708107933559:True:=⟨⟩
theorem tw7264187916524534647:True:=⟨⟩
theorem tw3332779472944430999:True:=⟨⟩
theorem tw387798442362550199:True:=⟨⟩
theorem tw297253310110482423:True:=⟨⟩
theorem tw17658023483358198808:True:=⟨⟩
theorem tw7344041139559742488:True:=⟨⟩
theorem tw14418062463240493112:True:=⟨⟩
theorem tw14849782637560781912:True:=⟨⟩
theorem tw17910138987044542616:True:=⟨⟩
theorem tw15735055396205424792:True:=⟨⟩
theorem tw7422726448438181080:True:=⟨⟩
theorem tw8200897008683351256:True:=⟨⟩
theorem tw9486608604803545336:True:=⟨⟩
theorem tw3576748680201245976:True:=⟨⟩
theorem tw15136688199176924440:True:=⟨⟩
theorem tw13599656809028703512:True:=⟨⟩
theorem tw3734564449767284056:True:=⟨⟩
theorem tw10075344842113295736:True:=⟨⟩
theorem tw932572309474407800:True:=⟨⟩
theorem tw14356664058241395096:True:=⟨⟩
theorem tw14634457335988848056:True:=⟨⟩
theorem tw15264483924962084312:True:=⟨⟩
theorem tw11250329541258331608:True:=⟨⟩
theorem tw8390794599649788472:True:=⟨⟩
theorem tw7906580229383584312:True:=⟨⟩
theorem tw16926901790507995736:True:=⟨⟩
theorem tw12814965281383735896:True:=⟨⟩
theorem tw14581574685646958328:True:=⟨⟩
theorem tw16163901174244071160:True:=⟨⟩
theorem tw11299715794073775864:True:=⟨⟩
theorem tw12158293383864261464:True:=⟨⟩
theorem tw15721239985855128408:True:=⟨⟩
theorem tw17939627808737208184:True:=⟨⟩
theorem tw14146959455949175736:True:=⟨⟩
theorem tw1010361049256172504:True:=⟨⟩
theorem tw5441118184031825945:True:=⟨⟩
theorem tw9094651716731539513:True:=⟨⟩
theorem tw16417394666337130553:True:=⟨⟩
theorem tw10476347821640667257:True:=⟨⟩
theorem tw12278812278272566425:True:=⟨⟩
theorem tw3543778622189746329:True:=⟨⟩
theorem tw954776287652911321:True:=⟨⟩
theorem tw14796259119773530329:True:=⟨⟩
theorem tw15723775196199581913:True:=⟨⟩
theorem tw6943787946010395929:True:=⟨⟩
theorem tw5279659889110812985:True:=⟨⟩
theorem tw17316919627245858105:True:=⟨⟩
theorem tw9396800615280902489:True:=⟨⟩
theorem tw1354710504263632249:True:=⟨⟩
theorem tw11675686971232591257:True:=⟨⟩
theorem tw11082244514497545625:True:=⟨⟩
theorem tw17455573649381215641:True:=⟨⟩
theorem tw4229094429406876185:True:=⟨⟩
theorem tw461832742679768633:True:=⟨⟩
theorem tw9681114341013121625:True:=⟨⟩
theorem tw2915168682238888569:True:=⟨⟩
theorem tw10036717127241324153:True:=⟨⟩
theorem tw1627979337796011673:True:=⟨⟩
theorem tw8519403598333795993:True:=⟨⟩
theorem tw12230906975310282393:True:=⟨⟩
theorem tw11079894268422194873:True:=⟨⟩
theorem tw8074039821124687577:True:=⟨⟩
theorem tw14062648031002842873:True:=⟨⟩
theorem tw14573227298521564953:True:=⟨⟩
theorem tw1578206499593343769:True:=⟨⟩
theorem tw11774662084311591737:True:=⟨⟩
theorem tw8700886382218175289:True:=⟨⟩
theorem tw14480854061774638937:True:=⟨⟩
theorem tw706844160829903801:True:=⟨⟩
theorem tw11692119077322341337:True:=⟨⟩
theorem tw2909360446730859481:True:=⟨⟩
theorem tw6913456088688003098:True:=⟨⟩
theorem tw17620913127225563162:True:=⟨⟩
theorem tw5282424471071582266:True:=⟨⟩
theorem tw2198863951072042106:True:=⟨⟩
theorem tw9777440326815399066:True:=⟨⟩
theorem tw7616971040463697274:True:=⟨⟩
theorem tw6373936679801176506:True:=⟨⟩
theorem tw2457114175311073722:True:=⟨⟩
theorem tw1971851383308716506:True:=⟨⟩
theorem tw3119375519324278266:True:=⟨⟩
theorem tw17834303569415110170:True:=⟨⟩
theorem tw1091281341274793530:True:=⟨⟩
theorem tw2686961099540409978:True:=⟨⟩
theorem tw17090737768500704890:True:=⟨⟩
theorem tw10561447117624320666:True:=⟨⟩
theorem tw14153762966403771034:True:=⟨⟩
theorem tw8675094826399940282:True:=⟨⟩
theorem tw9392307703164682938:True:=⟨⟩
theorem tw5035103372935037658:True:=⟨⟩
theorem tw4888765762581428986:True:=⟨⟩
theorem tw12377752869283749722:True:=⟨⟩
theorem tw656414687901205370:True:=⟨⟩
theorem tw6391892823751203770:True:=⟨⟩
theorem tw16875001930570900442:True:=⟨⟩
theorem tw7253856203007422458:True:=⟨⟩
theorem tw6022850581552064539:True:=⟨⟩
theorem tw14882879549055374523:True:=⟨⟩
theorem tw1884329138161244411:True:=⟨⟩
theorem tw6727177675088294139:True:=⟨⟩
theorem tw12531331226378009851:True:=⟨⟩
theorem tw2448953079920166171:True:=⟨⟩
theorem tw8504854081701455131:True:=⟨⟩
theorem tw8038554963995655451:True:=⟨⟩
theorem tw2639905740816901435:True:=⟨⟩
theorem tw951928916252642651:True:=⟨⟩
theorem tw13877533508956314011:True:=⟨⟩
theorem tw10348399189648835035:True:=⟨⟩
theorem tw13711448676211020251:True:=⟨⟩
theorem tw3279605326362786331:True:=⟨⟩
theorem tw18001301709048927771:True:=⟨⟩
theorem tw3024339314869628475:True:=⟨⟩
theorem tw9433565164169770619:True:=⟨⟩
theorem tw8773212016886608507:True:=⟨⟩
theorem tw17917271866300399323:True:=⟨⟩
theorem tw84825629440314139:True:=⟨⟩
theorem tw557142241580018459:True:=⟨⟩
theorem tw6207236305116945307:True:=⟨⟩
theorem tw12367506675811628027:True:=⟨⟩
theorem tw16760348639663635516:True:=⟨⟩
theorem tw17976279765614477372:True:=⟨⟩
theorem tw2269202426634237020:True:=⟨⟩
theorem tw8856678536230721660:True:=⟨⟩
theorem tw870004796814846140:True:=⟨⟩
theorem tw8657486184451707164:True:=⟨⟩
theorem tw1831875704152208796:True:=⟨⟩
theorem tw11655991831997511100:True:=⟨⟩
theorem tw12719148093559652860:True:=⟨⟩
theorem tw4323558688987542044:True:=⟨⟩
theorem tw14629547182242596412:True:=⟨⟩
theorem tw17701912824764471868:True:=⟨⟩
theorem tw10811515913066572380:True:=⟨⟩
theorem tw4254949881133499068:True:=⟨⟩
theorem tw15488818094646434492:True:=⟨⟩
theorem tw8684698385288596188:True:=⟨⟩
theorem tw17152704460624645852:True:=⟨⟩
theorem tw15707496391159840476:True:=⟨⟩
theorem tw13262225722076734236:True:=⟨⟩
theorem tw14247808142061791004:True:=⟨⟩
theorem tw3004719916229926748:True:=⟨⟩
theorem tw4345361064228072284:True:=⟨⟩
theorem tw6747270759152050012:True:=⟨⟩
theorem tw5839007639866268:True:=⟨⟩
theorem tw14787823928509944732:True:=⟨⟩
theorem tw14294254624809563100:True:=⟨⟩
theorem tw5636348168357476316:True:=⟨⟩
theorem tw1351287306970036317:True:=⟨⟩
theorem tw2747631945962290269:True:=⟨⟩
theorem tw83381054959534205:True:=⟨⟩
theorem tw9724504691548509309:True:=⟨⟩
theorem tw2252462546816016637:True:=⟨⟩
theorem tw6976712260301419773:True:=⟨⟩
theorem tw276718060717904157:True:=⟨⟩
theorem tw12932121497368641917:True:=⟨⟩
theorem tw4853319412949606845:True:=⟨⟩
theorem tw15810442526073842141:True:=⟨⟩
theorem tw5214118644491415005:True:=⟨⟩
theorem tw2409927514854580733:True:=⟨⟩
theorem tw4106213892065421821:True:=⟨⟩
theorem tw2440946626329458237:True:=⟨⟩
theorem tw10081763245680279101:True:=⟨⟩
theorem tw314595955377568349:True:=⟨⟩
theorem tw15211349233080177277:True:=⟨⟩
theorem tw18182222533516828285:True:=⟨⟩
theorem tw9285176361389917853:True:=⟨⟩
theorem tw310658415160524445:True:=⟨⟩
theorem tw17102173972590471901:True:=⟨⟩
theorem tw17510273006213552861:True:=⟨⟩
theorem tw8734264250193600285:True:=⟨⟩
theorem tw14143368618894367549:True:=⟨⟩
theorem tw1405597277282525053:True:=⟨⟩
theorem tw11551517921226461085:True:=⟨⟩
theorem tw5260731118873215933:True:=⟨⟩
theorem tw2072038497937228765:True:=⟨⟩
theorem tw7269898366603384829:True:=⟨⟩
theorem tw12224993021259479037:True:=⟨⟩
theorem tw14319145567032313918:True:=⟨⟩
theorem tw4740288291405253694:True:=⟨⟩
theorem tw1532727290087489630:True:=⟨⟩
theorem tw13981930529318192222:True:=⟨⟩
theorem tw9999846638699991134:True:=⟨⟩
theorem tw11804125631078664414:True:=⟨⟩
theorem tw14686941441374138590:True:=⟨⟩
theorem tw12195835787415371998:True:=⟨⟩
theorem tw9321536576870630622:True:=⟨⟩
theorem tw8620762403978808606:True:=⟨⟩
theorem tw5640331250795375902:True:=⟨⟩
theorem tw2559847114672643390:True:=⟨⟩
theorem tw18424212298247401790:True:=⟨⟩
theorem tw11888413010814842206:True:=⟨⟩
theorem tw11074153675363562846:True:=⟨⟩
theorem tw11138346664658000254:True:=⟨⟩
theorem tw1949137208723751326:True:=⟨⟩
theorem tw17068514703186668990:True:=⟨⟩
theorem tw9635252649675106814:True:=⟨⟩
theorem tw1004747333196654110:True:=⟨⟩
theorem tw4942810831296907806:True:=⟨⟩
theorem tw13626728240450882078:True:=⟨⟩
theorem tw12028710270571666974:True:=⟨⟩
theorem tw2038347714190135870:True:=⟨⟩
theorem tw291360975919390302:True:=⟨⟩
theorem tw14659836297801672286:True:=⟨⟩
theorem tw14689628159854704222:True:=⟨⟩
theorem tw8938933850534378078:True:=⟨⟩
theorem tw7726952248183029342:True:=⟨⟩
theorem tw8133451305826555550:True:=⟨⟩
theorem tw4806868014561686174:True:=⟨⟩
theorem tw16242875717171270334:True:=⟨⟩
theorem tw2285168125817919230:True:=⟨⟩
theorem tw8631830525499461374:True:=⟨⟩
theorem tw8789550092366248702:True:=⟨⟩
theorem tw14868751107003844414:True:=⟨⟩
theorem tw14308510312030619454:True:=⟨⟩
theorem tw15251561718401189694:True:=⟨⟩
theorem tw3335728730903043902:True:=⟨⟩
theorem tw4415958432138730366:True:=⟨⟩
theorem tw5938542011728506750:True:=⟨⟩
theorem tw14825081362475102110:True:=⟨⟩
theorem tw1901282881888223134:True:=⟨⟩
theorem tw6150790504086223806:True:=⟨⟩
theorem tw12063476935089100766:True:=⟨⟩
theorem tw8995848990140145662:True:=⟨⟩
theorem tw949270429867978750:True:=⟨⟩
theorem tw7210062016499757087:True:=⟨⟩
theorem tw12520359957816371263:True:=⟨⟩
theorem tw11475330193221082207:True:=⟨⟩
theorem tw4477887604226973791:True:=⟨⟩
theorem tw11310093461302741183:True:=⟨⟩
theorem tw17030154362377656511:True:=⟨⟩
theorem tw17793065719888178367:True:=⟨⟩
theorem tw12346527219245202783:True:=⟨⟩
theorem tw763676794127015295:True:=⟨⟩
theorem tw11035278352775026111:True:=⟨⟩
theorem tw15764686029527261631:True:=⟨⟩
theorem tw9767809254143922655:True:=⟨⟩
theorem tw14494532819880543743:True:=⟨⟩
theorem tw3365283779433347583:True:=⟨⟩
theorem tw14616345304369914367:True:=⟨⟩
theorem tw269489653037571679:True:=⟨⟩
theorem tw16126508843216993983:True:=⟨⟩
theorem tw6324526673798016735:True:=⟨⟩
theorem tw8876500010586654463:True:=⟨⟩
theorem tw16614828398120913663:True:=⟨⟩
theorem tw13039005224058534687:True:=⟨⟩
theorem tw8435392066569290527:True:=⟨⟩
theorem tw8736339712564447199:True:=⟨⟩
theorem tw586689801442351071:True:=⟨⟩
theorem tw18287322865870259199:True:=⟨⟩
theorem tw7192216756155436031:True:=⟨⟩
theorem tw7310217480192516095:True:=⟨⟩
theorem tw13017277852067266559:True:=⟨⟩
end PySem.W.Fast
open PySem PySem.W PyProof.Rows
set_option maxRecDepth 100000 in
set_option maxHeartbeats 0 in
theorem PySem.Challenge.cw_leastfloor_k72_what_is_a_floor_holds : PySem.Challenge.rw_leastfloor_k72_what_is_a_floor.Holds := by
  w_on; o_law; k_head; (case hw => w_witness2)
  k_fill
  refine My.walk (l := PySem.Challenge.rw_leastfloor_k72_what_is_a_floor) rfl rfl (fun w h Y => by first | exact PySem.W.kIn_of Y | exact PySem.W.km_in_of Y) ?F
  case F =>
    intro w mg fa h KX G hmg
    refine' My.all_mk KX G hmg ?a0 ?l0 ?c0 ?k0 ?a1 ?l1 ?c1 ?k1 ?a2 ?l2 ?c2 ?k2 ?a3 ?l3 ?c3 ?k3 ?a4 ?l4 ?c4 ?k4 ?a5 ?l5 ?c5 ?k5 ?a6 ?l6 ?c6 ?k6 ?n7 ?a7 ?l7 ?c7 ?k7 ?n8 ?a8 ?l8 ?c8 ?k8 ?n9 ?a9 ?l9 ?c9 ?k9 ?n10 ?a10 ?l10 ?c10 ?k10 ?n11 ?a11 ?l11 ?c11 ?k11 ?n12 ?a12 ?l12 ?c12 ?k12 ?a13 ?l13 ?c13 ?k13 ?a14 ?l14 ?c14 ?k14 ?a15 ?l15 ?c15 ?k15 ?a16 ?l16 ?c16 ?k16 ?a17 ?l17 ?c17 ?k17 ?a18 ?l18 ?c18 ?k18 ?a19 ?l19 ?c19 ?k19 ?a20 ?l20 ?c20 ?k20 ?a21 ?l21 ?c21 ?k21 ?a22 ?l22 ?c22 ?k22 ?a23 ?l23 ?c23 ?k23 ?a24 ?l24 ?c24 ?k24 ?a25 ?l25 ?c25 ?k25 ?a26 ?l26 ?c26 ?k26 ?z_all ?z_any ?z_bool ?z_int ?z_isinstance ?z_len ?z_list ?z_max ?z_min ?z_range ?z_zip ?m_NoOrder ?m_Alike ?m_Open ?m_Tails ?m_Windows ?m_Tree ?m_Pairs ?q_NoOrder ?x_NoOrder_NoOrder ?mk_Alike_mk ?mk_Alike_in ?mk_Alike_kp ?mk_Open_mk ?mk_Open_in ?mk_Open_kp ?mk_Tails_mk ?mk_Tails_in ?mk_Tails_kp ?mk_Windows_mk ?mk_Windows_in ?mk_Windows_kp ?mk_Tree_mk ?mk_Tree_in ?mk_Tree_kp ?mk_Pairs_mk ?mk_Pairs_in ?mk_Pairs_kp ?ki_Pairs_pg ?ki_Pairs_hd ?ki_Pairs_po ?ki_Pairs_sa ?ki_Pairs_ca ?ki_Pairs_sp ?ki_Pairs_tk ?ki_Pairs_mro ?ki_Tree_pg ?ki_Tree_hd ?ki_Tree_po ?ki_Tree_sa ?ki_Tree_ca ?ki_Tree_sp ?ki_Tree_tk ?ki_Tree_mro ?ki_Windows_pg ?ki_Windows_hd ?ki_Windows_po ?ki_Windows_sa ?ki_Windows_ca ?ki_Windows_sp ?ki_Windows_tk ?ki_Windows_mro ?ki_Tails_pg ?ki_Tails_hd ?ki_Tails_po ?ki_Tails_sa ?ki_Tails_ca ?ki_Tails_sp ?ki_Tails_tk ?ki_Tails_mro ?ki_Open_pg ?ki_Open_hd ?ki_Open_po ?ki_Open_sa ?ki_Open_ca ?ki_Open_sp ?ki_Open_tk ?ki_Open_mro ?ki_Alike_pg ?ki_Alike_hd ?ki_Alike_po ?ki_Alike_sa ?ki_Alike_ca ?ki_Alike_sp ?ki_Alike_tk ?ki_Alike_mro
    (case a0 => k_is); (case l0 => k_is); (case c0 => k_is); (case k0 => k_is)
    (case a1 => k_is); (case l1 => k_is); (case c1 => k_is); (case k1 => k_is)
    (case a2 => k_is); (case l2 => k_is); (case c2 => k_is); (case k2 => k_is)
    (case a3 => k_is); (case l3 => k_is); (case c3 => k_is); (case k3 => k_is)
    (case a4 => k_is); (case l4 => k_is); (case c4 => k_is); (case k4 => k_is)
    (case a5 => k_is); (case l5 => k_is); (case c5 => k_is); (case k5 => k_is)
    (case a6 => k_is); (case l6 => k_is); (case c6 => k_is); (case k6 => k_is)
    (case n7 => k_is); (case a7 => k_is); (case l7 => k_is); (case c7 => k_is)
    (case k7 => k_is); (case n8 => k_is); (case a8 => k_is); (case l8 => k_is)
    (case c8 => k_is); (case k8 => k_is); (case n9 => k_is); (case a9 => k_is)
    (case l9 => k_is); (case c9 => k_is); (case k9 => k_is); (case n10 => k_is)
    (case a10 => k_is); (case l10 => k_is); (case c10 => k_is); (case k10 => k_is)
    (case n11 => k_is); (case a11 => k_is); (case l11 => k_is); (case c11 => k_is)
    (case k11 => k_is); (case n12 => k_is); (case a12 => k_is); (case l12 => k_is)
    (case c12 => k_is); (case k12 => k_is); (case a13 => k_is); (case l13 => k_is)
    (case c13 => k_is); (case k13 => k_is); (case a14 => k_is); (case l14 => k_is)
    (case c14 => k_is); (case k14 => k_is); (case a15 => k_is); (case l15 => k_is)
    (case c15 => k_is); (case k15 => k_is); (case a16 => k_is); (case l16 => k_is)
    (case c16 => k_is); (case k16 => k_is); (case a17 => k_is); (case l17 => k_is)
    (case c17 => k_is); (case k17 => k_is); (case a18 => k_is); (case l18 => k_is)
    (case c18 => k_is); (case k18 => k_is); (case a19 => k_is); (case l19 => k_is)
    (case c19 => k_is); (case k19 => k_is); (case a20 => k_is); (case l20 => k_is)
    (case c20 => k_is); (case k20 => k_is); (case a21 => k_is); (case l21 => k_is)
    (case c21 => k_is); (case k21 => k_is); (case a22 => k_is); (case l22 => k_is)
    (case c22 => k_is); (case k22 => k_is); (case a23 => k_is); (case l23 => k_is)
    (case c23 => k_is); (case k23 => k_is); (case a24 => k_is); (case l24 => k_is)
    (case c24 => k_is); (case k24 => k_is); (case a25 => k_is); (case l25 => k_is)
    (case c25 => k_is); (case k25 => k_is); (case a26 => k_is); (case l26 => k_is)
    (case c26 => k_is); (case k26 => k_is); (case z_all => k_is); (case z_any => k_is)
    (case z_bool => k_is); (case z_int => k_is); (case z_isinstance => k_is); (case z_len => k_is)
    (case z_list => k_is); (case z_max => k_is); (case z_min => k_is); (case z_range => k_is)
    (case z_zip => k_is); (case m_NoOrder => k_is); (case m_Alike => k_is); (case m_Open => k_is)
    (case m_Tails => k_is); (case m_Windows => k_is); (case m_Tree => k_is); (case m_Pairs => k_is)
    (case q_NoOrder => k_exc); (case x_NoOrder_NoOrder => kts_exm); (case mk_Alike_mk => k_is); (case mk_Alike_in => k_is)
    (case mk_Alike_kp => k_is); (case mk_Open_mk => k_is); (case mk_Open_in => k_is); (case mk_Open_kp => k_is)
    (case mk_Tails_mk => k_is); (case mk_Tails_in => k_is); (case mk_Tails_kp => k_is); (case mk_Windows_mk => k_is)
    (case mk_Windows_in => k_is); (case mk_Windows_kp => k_is); (case mk_Tree_mk => k_is); (case mk_Tree_in => k_is)
    (case mk_Tree_kp => k_is); (case mk_Pairs_mk => k_is); (case mk_Pairs_in => k_is); (case mk_Pairs_kp => k_is)
    (case ki_Pairs_pg => k_is); (case ki_Pairs_hd => k_is); (case ki_Pairs_po => k_is); (case ki_Pairs_sa => k_is)
    (case ki_Pairs_ca => k_is); (case ki_Pairs_sp => k_is); (case ki_Pairs_tk => k_is); (case ki_Pairs_mro => k_is)
    (case ki_Tree_pg => k_is); (case ki_Tree_hd => k_is); (case ki_Tree_po => k_is); (case ki_Tree_sa => k_is)
    (case ki_Tree_ca => k_is); (case ki_Tree_sp => k_is); (case ki_Tree_tk => k_is); (case ki_Tree_mro => k_is)
    (case ki_Windows_pg => k_is); (case ki_Windows_hd => k_is); (case ki_Windows_po => k_is); (case ki_Windows_sa => k_is)
    (case ki_Windows_ca => k_is); (case ki_Windows_sp => k_is); (case ki_Windows_tk => k_is); (case ki_Windows_mro => k_is)
    (case ki_Tails_pg => k_is); (case ki_Tails_hd => k_is); (case ki_Tails_po => k_is); (case ki_Tails_sa => k_is)
    (case ki_Tails_ca => k_is); (case ki_Tails_sp => k_is); (case ki_Tails_tk => k_is); (case ki_Tails_mro => k_is)
    (case ki_Open_pg => k_is); (case ki_Open_hd => k_is); (case ki_Open_po => k_is); (case ki_Open_sa => k_is)
    (case ki_Open_ca => k_is); (case ki_Open_sp => k_is); (case ki_Open_tk => k_is); (case ki_Open_mro => k_is)
    (case ki_Alike_pg => k_is); (case ki_Alike_hd => k_is); (case ki_Alike_po => k_is); (case ki_Alike_sa => k_is)
    (case ki_Alike_ca => k_is); (case ki_Alike_sp => k_is); (case ki_Alike_tk => k_is); (case ki_Alike_mro => k_is)
#print axioms PySem.Challenge.cw_leastfloor_k72_what_is_a_floor_holds
