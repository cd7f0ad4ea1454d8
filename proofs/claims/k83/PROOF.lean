import PyProof.Rows.All
import Wide.All
import OpenK.AllK
import Wide.FinOn
import Lean
import PyProof.EqAt
import PyProof.EqKinds
import PyProof.TupleCall
import PySem.Challenge.RW_leastfloor_k83_floors_as_texts
set_option compiler.extract_closed false
set_option Elab.async false
set_option linter.all false
set_option maxRecDepth 100000
set_option hygiene false
local macro_rules|`(‹0›)=>`((.cons T.ki_Alike.cl T.t_Alike_fits (zdr T) (hr.mono (by decide)) T.b_Alike_fits (.cons T.ki_Open.cl T.t_Open_fits (zd7 T) (hr.mono (by decide)) T.b_Open_fits (.cons T.ki_Tails.cl T.t_Tails_fits (zdp T) (hr.mono (by decide)) T.b_Tails_fits (.cons T.ki_Windows.cl T.t_Windows_fits (zda T) (hr.mono (by decide)) T.b_Windows_fits (.cons T.ki_Tree.cl T.t_Tree_fits (zd6 T) (hr.mono (by decide)) T.b_Tree_fits (.cons T.ki_Pairs.cl T.t_Pairs_fits (zdq T) (hr.mono (by decide)) T.b_Pairs_fits .nil)))))))
local macro_rules|`(‹1›)=>`((hr.mono (by decide)))
local macro_rules|`(‹2›)=>`((fun _ _ _ _ _=>(pgbC (i:=0) (by decide +kernel) rfl (Or.inl rfl) (Or.inr rfl))))
local macro_rules|`(‹3›)=>`((by decide))
local macro_rules|`(‹4›)=>`((ev_cons rfl (ev_cons rfl rfl)))
local macro_rules|`(‹5›)=>`((ev_cons rfl rfl))
local macro_rules|`(‹6›)=>`((model X.prog X.w))
local macro_rules|`(‹7›)=>`((zbn (zas (K:=K) rfl) (pv 1) zaf (fun _ _=>rfl)))
local macro_rules|`(‹8›)=>`((zar (za3 (K:=K) rfl) rfl T.z_len zcg (zaa (pv 0) zad)))
local macro_rules|`(‹9›)=>`((.cons rfl (Or.inl rfl) rfl (by first | exact Or.inl rfl | exact Or.inr rfl) .nil))
local macro_rules|`(‹10›)=>`((by decide +kernel))
local macro_rules|`(‹11›)=>`((SemI.b zae))
local macro_rules|`(‹12›)=>`((compCxC X N' scope cl C s3 H3 fp pins))
local macro_rules|`(‹13›)=>`((by first | exact Or.inl rfl | exact Or.inr rfl))
local macro_rules|`(‹14›)=>`((zbe (i:=1) sc_read_floor.nd rfl (Or.inl rfl) (bmK (K:=K) rfl (zjq PySem.F.plainAttrs_str PySem.F.slot_str_partition PySem.F.type_str_partition zpb (pv 0) (zaa zbk zad)))))
local macro_rules|`(‹15›)=>`((zde (ev_t (ev_eqF rfl rfl)) (fun _=>?_) fun _=>zat ?_))
local macro_rules|`(‹16›)=>`((zas (K:=K) rfl))
local macro_rules|`(‹17›)=>`((compEnvC scope (cellsFrom (C+1) scope.names cl) C X.env))
local macro_rules|`(‹18›)=>`((zc7 (zc4 (K:=K) (SemI.b (zkj (ms:=[true]) (tbl:=[(656,F_Alike_fits),(715,F_Open_fits),(774,F_Tails_fits),(831,F_Windows_fits),(951,F_Tree_fits),(1015,F_Pairs_fits)]) (SemI.b (zav (zan (zac 2) zak))) (zaq (zbj 3) zak))))))
local macro_rules|`(‹19›)=>`((zcb (K:=K) hr.units))
local macro_rules|`(‹20›)=>`((Or.inl rfl))
local macro_rules|`(‹21›)=>`((zb4 (K:=K) rfl (bmK (K:=K) rfl (zjq PySem.F.plainAttrs_str PySem.F.slot_str_split PySem.F.type_str_split zlu (pv 0) (zaa zbk zad)))))
local macro_rules|`(‹22›)=>`((dNot (dTru (zig [(656,F_Alike_fits),(715,F_Open_fits),(774,F_Tails_fits),(831,F_Windows_fits),(951,F_Tree_fits),(1015,F_Pairs_fits)] (za4 F_kind_of (zai (dVar 2) dNil)) (zai (zbw 3) dNil)))))
local macro_rules|`(‹23›)=>`(((relabel scope X.env).names.lookup x=some .cell∨(relabel scope X.env).names.lookup x=some .free))
local macro_rules|`(‹24›)=>`((compCxX X N' scope cl s3.heap.objs.size s3 H3 fp pins xe))
local macro_rules|`(‹25›)=>`((fun _ _=>rfl))
local macro_rules|`(‹26›)=>`((zaa (pv 0) zad))
local macro_rules|`(‹27›)=>`((compCxC X N' scope cl s3.heap.objs.size s3 H3 fp pins))
local macro_rules|`(‹28›)=>`((dC (.int 1)))
local macro_rules|`(‹29›)=>`((fun i j=>decide (i≤j)))
local macro_rules|`(‹30›)=>`((relabel scope X.env))
local macro_rules|`(‹31›)=>`((dF1 lenD (dVar 0)))
local macro_rules|`(‹32›)=>`((List.mem_append_right _ (List.mem_append_right _ (zeo hb e))))
local macro_rules|`(‹33›)=>`((List.mem_cons_of_mem _ hz))
local macro_rules|`(‹34›)=>`((Nat.le_refl _))
local macro_rules|`(‹35›)=>`((za3 (K:=K) rfl))
local macro_rules|`(‹36›)=>`((s1.trans s2))
local macro_rules|`(‹37›)=>`((dC (.int 0)))
local macro_rules|`(‹38›)=>`((SemI.b (zce (zac 0))))
local macro_rules|`(‹39›)=>`((zcc I q (by simp)))
local macro_rules|`(‹40›)=>`((compCxC X (ts++zs) scope cl C s3 H3 fp pins))
local macro_rules|`(‹41›)=>`((zba (ev_call (ev_cons (h.rs rfl) rfl) (read_rows h.gr hs)) ?_))
local macro_rules|`(‹42›)=>`((X.env.scope.names.lookup z=some .cell∨X.env.scope.names.lookup z=some .free))
local macro_rules|`(‹43›)=>`((s.heap.push PySem.W.emptyDict))
local macro_rules|`(‹44›)=>`((ns.getD j default=ms.getD j default))
local macro_rules|`(‹45›)=>`((Nat.lt_of_lt_of_le (Heap.lt_size e) I.ok.above))
local macro_rules|`(‹46›)=>`((zai (dVar 0) dNil))
local macro_rules|`(‹47›)=>`((PySem.W.instObj C s.heap.objs.size))
local macro_rules|`(‹48›)=>`((.ListComp elt [⟨tg,iter,ifs,0⟩] scope pos))
local macro_rules|`(‹49›)=>`((za0 (SemI.b (zcz (neg:=false) (SemI.b (zkj (ms:=[]) (tbl:=[(656,F_Alike_word),(715,F_Open_word),(774,F_Tails_word),(831,F_Windows_word),(951,F_Tree_word),(1015,F_Pairs_word)]) (zac 1) zak)) (zac 0)))))
local macro_rules|`(‹50›)=>`((notedBy (model prog w) A env fun e s'=>R (.error e) s'))
local macro_rules|`(‹51›)=>`((.ListComp elt [⟨tg,iter,[],0⟩] scope pos))
local macro_rules|`(‹52›)=>`((by rw [List.length_map]; exact hl))
local macro_rules|`(‹53›)=>`((ev_call (ev_cons (ev_ix (e:=.lst (rowB (M'.getD a []))) rfl rfl (ixL (rowsV_get sq' ha))) (ev_cons (ev_ix (e:=.lst (rowB (M'.getD c []))) rfl rfl (ixL (rowsV_get sq' hc))) rfl)) (either _ _)))
local macro_rules|`(‹54›)=>`((zmu _ s9 σ7 H9 (.ref s2.heap.objs.size) [y] (.ref s2.heap.objs.size) [v] (fun _ H'=>H'=upd H9 s2.heap.objs.size (.lst (ys++[y]))) I9 rfl (.cons r9 .nil) ⟨_,ys,y,rfl,rfl,e9,z9,rfl⟩))
local macro_rules|`(‹55›)=>`((by simp; omega))
local macro_rules|`(‹56›)=>`((thn (hi pins s σ H _ I h) fun v s1 h1=>thn h1 fun itv s2 h2=>?_))
local macro_rules|`(‹57›)=>`((sSet 3 (za4 F_read_rows (zai (dIx (dVar 1) (dC (.int 2))) dNil))))
local macro_rules|`(‹58›)=>`((model prog w))
local macro_rules|`(‹59›)=>`((fun _ s''=>CXE X.prog X.w X.outer X.H₀ X.s₀ E (.ref a) s''))
local macro_rules|`(‹60›)=>`((sRet (dC (.bl false))))
local macro_rules|`(‹61›)=>`((dMod (zj3 (dVar 1) (dC (.int 6))) (dC (.int 3))))
local macro_rules|`(‹62›)=>`((zdk 1 [] (asL (zbw 4)) (gN true 0) zdc (dLst (dLof (zbw 0)))))
local macro_rules|`(‹63›)=>`((wp_for (zqv (by omega) rfl) (fun j ρ=>∃ v3 v4,ρ=[.bo (.int (n:Int)),.bo (zhj ps),.ol (rowsV ((List.range j).foldl (zer n) (needW n ps))),v3,v4]) ⟨_,_,rfl⟩ ?_ ?_))
local macro_rules|`(‹64›)=>`((fun a=>a=Dl∨tot Z os a))
local macro_rules|`(‹65›)=>`((SemI.b (zcz (neg:=false) (zac 0) (SemI.b zbf))))
local macro_rules|`(‹66›)=>`((ha pins s σ H _ I h))
local macro_rules|`(‹67›)=>`((dT (dEq false (zig [(656,F_Alike_word),(715,F_Open_word),(774,F_Tails_word),(831,F_Windows_word),(951,F_Tree_word),(1015,F_Pairs_word)] (dVar 1) dNil) (dVar 0))))
local macro_rules|`(‹68›)=>`((by simpa using hj))
local macro_rules|`(‹69›)=>`((t.all (fun r=>decide (r.length=2))&&decide (Pr.Ok (h.getD 0 0).toNat (t.map prOf))))
local macro_rules|`(‹70›)=>`((zc4 (K:=K) (SemI.b (z1h (SemI.b (SemF.l (zc1 (m:=true) (k:=1) (cs:=[2]) (SemW.c (zcn (zac 0))) (zbd 0) zco (SemB.i (zch (zch (zac 1) (zac 0)) (zac 0))))))))))
local macro_rules|`(‹71›)=>`((hs.2 b (Nat.ne_of_lt (Nat.lt_of_lt_of_le (Heap.lt_size e) (I.ok.cab x c hfn hc)))))
local macro_rules|`(‹72›)=>`((f.grow s1))
local macro_rules|`(‹73›)=>`((zaa (pv 1) (zaa zaf zad)))
local macro_rules|`(‹74›)=>`((s.heap.objs.size+1))
local macro_rules|`(‹75›)=>`((by simp only [List.length_cons,List.length_nil]; omega))
local macro_rules|`(‹76›)=>`((SemI.b (zav (zan (zac 2) zak))))
local macro_rules|`(‹77›)=>`((.ref s2.heap.objs.size))
local macro_rules|`(‹78›)=>`((zah (zaz (zb5 (zck (K:=K) rfl) (zbu (zaa (pv 2) (zaa (zbu (zaa zaf (zaa zaf (zaa zaf zad)))) zad))) zct (zcs (zbh zdm (zbh zga (pv 1) zaf) zaf))))))
local macro_rules|`(‹79›)=>`((zaa zaf zad))
local macro_rules|`(‹80›)=>`((ev_ix rfl rfl (ixI (by omega) (by omega))))
local macro_rules|`(‹81›)=>`((Kp.less fun a z=>z.elim id fun ⟨_,w⟩=>by cases w))
local macro_rules|`(‹82›)=>`((EP X pins σ Q))
local macro_rules|`(‹83›)=>`((Addr×(List D→Option D)))
local macro_rules|`(‹84›)=>`((envOfC qual scope s.heap.objs.size f cd))
local macro_rules|`(‹85›)=>`((PySem.W.fnOf x qual (zm4 st) (zfp st) (zao st) .none kV doc pm an cdv ct))
local macro_rules|`(‹86›)=>`((zbh zdm (zbh zga (pv 1) zaf) zaf))
local macro_rules|`(‹87›)=>`((Array.getElem?_eq_some_iff.mp b4))
local macro_rules|`(‹88›)=>`((zan (zac 0) zak))
local macro_rules|`(‹89›)=>`((SemW.c (zec (SemF.l (zlm (zac 0) (SemI.b zbf))))))
local macro_rules|`(‹90›)=>`((zba (zi6 rfl rfl (zng h.gx)) ?_))
local macro_rules|`(‹91›)=>`((dC (.int 3)))
local macro_rules|`(‹92›)=>`((dC (.int 2)))
local macro_rules|`(‹93›)=>`((dNot (dTru (za4 F_is_name (zai (dVar 2) dNil)))))
local macro_rules|`(‹94›)=>`((A.deeper (PyProof.Rows.envOfC qual (zao st) s.heap.objs.size f cdv)))
local macro_rules|`(‹95›)=>`((zck (K:=K) rfl))
local macro_rules|`(‹96›)=>`((fun z=>nomatch z))
local macro_rules|`(‹97›)=>`((fun w hw=>zjw rx fx r fs w (by simpa using hw)))
local macro_rules|`(‹98›)=>`((b∈X.ex∨X.s₀.heap.objs.size≤b))
local macro_rules|`(‹99›)=>`((.ref c_NoFloor))
local macro_rules|`(‹100›)=>`((.ref a.c_NoFloor))
local macro_rules|`(‹101›)=>`((Same.refl _))
local macro_rules|`(‹102›)=>`((wp_ifT (ev_or (x:=true) (y:=false) ((len_ne rfl 2).trans (by rw [decide_eq_true h2])) fun c=>by cases c) (wp_ret rfl ?_)))
local macro_rules|`(‹103›)=>`((by rw [eo]; exact List.mem_singleton.mpr rfl))
local macro_rules|`(‹104›)=>`((zaa (pv 1) zad))
local macro_rules|`(‹105›)=>`((by rw [decide_eq_false (by omega)]))
local macro_rules|`(‹106›)=>`((by rw [z]; exact List.mem_singleton.mpr rfl))
local macro_rules|`(‹107›)=>`((fun _=>rfl))
local macro_rules|`(‹108›)=>`((List.range n))
local macro_rules|`(‹109›)=>`((.ref a.c_NoText))
local macro_rules|`(‹110›)=>`((.ref a.c_NoKind))
local macro_rules|`(‹111›)=>`((zah (zaz zev)))
local macro_rules|`(‹112›)=>`((dTru (dF1 anyD (dLst (zdk 1 [2] (dRg1 (dVar 0)) (gN true 0) zdc (zlf (dIx (dIx (dVar 1) (dVar 0)) (dVar 0))))))))
local macro_rules|`(‹113›)=>`((.ref c_NoText))
local macro_rules|`(‹114›)=>`((.ref c_NoKind))
local macro_rules|`(‹115›)=>`((cxOf CX0 P w K mg base N qual (zao st) f cdv A outer s H E))
local macro_rules|`(‹116›)=>`((assignEach es X.env))
local macro_rules|`(‹117›)=>`((.cons rfl .nil))
local macro_rules|`(‹118›)=>`((compCxX X N' scope cl C s3 H3 fp pins xe))
local macro_rules|`(‹119›)=>`((starEach es X.env))
local macro_rules|`(‹120›)=>`((occurrences a b 0 a.length (a.length+1)))
local macro_rules|`(‹121›)=>`((by simp only [List.size_toArray]; omega))
local macro_rules|`(‹122›)=>`((Nat.lt_irrefl _))
local macro_rules|`(‹123›)=>`((zfr (vs:=vs) (by omega) (fun H2 T2 kp sb=>(hr H2 No (Kp.same sb)).1) hn fun H2 T2 i v d kp sb e1 e2=>?_))
local macro_rules|`(‹124›)=>`((cxOf CX P w K mg base N qual scope f cdv A outer s H E))
local macro_rules|`(‹125›)=>`((.bl (if neg=true then !decide (d=e) else decide (d=e))))
local macro_rules|`(‹126›)=>`(((List.range j).foldl (zer n) M))
local macro_rules|`(‹127›)=>`((thn (h pos pins s σ H _ I hq) fun us s1 ⟨xs,H1,I1,r,z,q⟩=>⟨by rw [← r.length]; exact z,?_⟩))
local macro_rules|`(‹128›)=>`((by with_unfolding_all rfl))
local macro_rules|`(‹129›)=>`((XLink.passes (E:=E) (fun _ _ h=>h) ⟨rfl,rfl,rfl⟩))
local macro_rules|`(‹130›)=>`((zkx (K:=K) hr.units))
local macro_rules|`(‹131›)=>`((by intro z; cases z))
local macro_rules|`(‹132›)=>`((thn (ha pos pins s σ H _ I h) fun us s1 ⟨vs,H1,I1,r1,q1⟩=>hc pins s1 σ H1 vs us Q I1 r1 q1))
local macro_rules|`(‹133›)=>`((fun i j=>decide (i<j)))
local macro_rules|`(‹134›)=>`((codeAny_mono (FO.run X.A X.stack s1 H1 ⟨us,[]⟩ us vs _ _ hr I1.env0 hb1 r q) fun r s' hq=>?_))
local macro_rules|`(‹135›)=>`((HT.sIx xs.length xs.length hi-HT.sIx xs.length 0 lo))
local macro_rules|`(‹136›)=>`((sPut 2 (dVar 4) (za4 F_either (zai (dIx (dVar 2) (dVar 4)) (zai (dIx (dVar 2) (dVar 3)) dNil)))))
local macro_rules|`(‹137›)=>`((rows.map D.lst))
local macro_rules|`(‹138›)=>`((fun r s'=>r=.ok (.ret (.bool true))∧OldK s₁.heap s'.heap∧s'.os=s₁.os∧AllBare s'.gens))
local macro_rules|`(‹139›)=>`((fun _ _=>False))
local macro_rules|`(‹140›)=>`((Txt.partition a b))
local macro_rules|`(‹141›)=>`((zsi 2 (zk2 1 [0] (dRg1 (dVar 0)) (gN true 0) zdc (dRep (zai (dC (.bl false)) dNil) (dVar 1)))))
local macro_rules|`(‹142›)=>`((wp_for (ev_asL (ev_call rfl zpe) rfl) (fun j ρ=>∃ v,ρ=[.bo (.str x),v]) ⟨_,rfl⟩ ?_ ?_))
local macro_rules|`(‹143›)=>`((by rw [is_name h.gq,hq]))
local macro_rules|`(‹144›)=>`((scope.names.lookup y.1==some .cell))
local macro_rules|`(‹145›)=>`((zc5 (PW.pt (z1n (ze7 zg6 zq8 zaf (pv 3) (pv 0)) (zxm (ze7 zg6 zq8 zaf (pv 4) (pv 0)))))))
local macro_rules|`(‹146›)=>`((compCxX X (ts++zs) scope cl C s3 H3 fp pins xe))
local macro_rules|`(‹147›)=>`((Heap.get?_push_of_some _ e))
local macro_rules|`(‹148›)=>`((zcd (ev_not (x:=true) (ev_and (x:=true) (y:=true) (ev_t ?_) fun _=>ev_t ?_)) (zat ?_)))
local macro_rules|`(‹149›)=>`((strSliceIndices lo hi 1 x.length))
local macro_rules|`(‹150›)=>`((ev_ix rfl rfl (row_at (rs:=[h,r]) (k:=0) rfl)))
local macro_rules|`(‹151›)=>`((by rw [z]; exact Nat.lt_irrefl _))
local macro_rules|`(‹152›)=>`((.Call (.Name x p1) (e::es) [] p2))
local macro_rules|`(‹153›)=>`(((List.range j).foldl (stepW c) M))
local macro_rules|`(‹154›)=>`((binT ha hb I h fun v u s2 x y H2 I2 rx ry q=>ho pins s2 σ H2 x y v u Q I2 rx ry q))
local macro_rules|`(‹155›)=>`((land (env:=X.env) (outer:=X.outer) (s:={ s' with heap:=h2 }) r2 fun h3 r3 g3=>?_))
set_option hygiene true
namespace L2
open PySem PySem.Spec PyProof.Rows
abbrev Key:=Sum Int Str
def z5r:Key→Value→Bool
  | .inl k,v=>Value.isInt k v
  | .inr x,v=>Value.isStrOf x v
def keyH (w:World):Key→Int
  | .inl k=>hashInt k
  | .inr x=>hashStr w x
theorem keyIs_shape:∀ {k:Key} {v:Value},z5r k v=true→(∃ i t,k=Sum.inl i∧v=Value.int i t)∨(∃ x t,k=Sum.inr x∧v=Value.str x t)
  | .inl i,v,h=>by
    obtain ⟨t,e⟩:=Value.isInt_shape (k:=i) (v:=v) h
    exact .inl ⟨i,t,rfl,e⟩
  | .inr x,v,h=>by
    obtain ⟨t,e⟩:=Value.isStrOf_shape (x:=x) (v:=v) h
    exact .inr ⟨x,t,rfl,e⟩
theorem z5q (a b:Int):decide ((Sum.inl a:Key)=Sum.inl b)=(a==b):=by
  by_cases e:a=b
  · subst e; simp
  · have h:¬ (Sum.inl a:Key)=Sum.inl b:=fun q=>e (Sum.inl.inj q)
    rw [decide_eq_false h]
    exact (beq_eq_false_iff_ne.mpr e).symm
theorem z5n (a b:Str):decide ((Sum.inr a:Key)=Sum.inr b)=decide (a=b):=by
  by_cases e:a=b
  · subst e; simp
  · have h:¬ (Sum.inr a:Key)=Sum.inr b:=fun q=>e (Sum.inr.inj q)
    rw [decide_eq_false h,decide_eq_false e]
theorem z5p (a:Int) (b:Str):decide ((Sum.inl a:Key)=Sum.inr b)=false:=decide_eq_false (fun q=>nomatch q)
theorem z5o (a:Str) (b:Int):decide ((Sum.inr a:Key)=Sum.inl b)=false:=decide_eq_false (fun q=>nomatch q)
def zsu (prog:Program) (w:World):PySem.KeyKind prog w Key where
  is:=z5r
  hash:=keyH w
  inj:=fun v a b ha hb=>by
    rcases keyIs_shape ha with ⟨i,t,rfl,rfl⟩ | ⟨x,t,rfl,rfl⟩
    · rcases keyIs_shape hb with ⟨j,u,rfl,e⟩ | ⟨y,u,rfl,e⟩
      · injection e with e1 _; rw [e1]
      · exact nomatch e
    · rcases keyIs_shape hb with ⟨j,u,rfl,e⟩ | ⟨y,u,rfl,e⟩
      · exact nomatch e
      · injection e with e1 _; rw [e1]
  byValue:=fun k v h=>by
    rcases keyIs_shape h with ⟨i,t,rfl,rfl⟩ | ⟨x,t,rfl,rfl⟩ <;> rfl
  pyHash:=fun hv h=>by
    rcases keyIs_shape hv with ⟨i,t,rfl,rfl⟩ | ⟨x,t,rfl,rfl⟩
    · exact wpAny_pyHash_int h
    · exact wpAny_pyHash_str h
  eqBool:=fun hu hv h=>by
    rcases keyIs_shape hu with ⟨i,t,rfl,rfl⟩ | ⟨x,t,rfl,rfl⟩
    · rcases keyIs_shape hv with ⟨j,u,rfl,rfl⟩ | ⟨y,u,rfl,rfl⟩
      · rw [z5q] at h; exact wpAny_eqBool_int h
      · rw [z5p] at h; exact SeqAt.EqAt.int_str i t y u _ _ _ _ h
    · rcases keyIs_shape hv with ⟨j,u,rfl,rfl⟩ | ⟨y,u,rfl,rfl⟩
      · rw [z5o] at h; exact SeqAt.EqAt.str_int x t j u _ _ _ _ h
      · rw [z5n] at h; exact wpAny_eqBool_str h
  «strs»:=fun k x t v h=>by
    rcases keyIs_shape h with ⟨i,u,rfl,e⟩ | ⟨y,u,rfl,e⟩
    · exact nomatch e
    · injection e with e1 _
      subst e1
      cases v <;> rfl
end L2
namespace L2
open PySem PySem.Spec PyProof.Rows
inductive V where
  | non | bl (b:Bool) | int (i:Int) | str (x:Str) | byt (b:Array UInt8) | flt (b:UInt64) | ref (a:Addr) | ty (n:String)
  deriving DecidableEq
def RelV:V→Value→Prop
  | .non,u=>u=Value.none
  | .bl b,u=>u=Value.bool b
  | .int i,u=>∃ t,u=Value.int i t
  | .str x,u=>∃ t,u=Value.str x t
  | .byt b,u=>∃ t,u=Value.bytes b t
  | .flt b,u=>∃ t,u=Value.float b t
  | .ref a,u=>u=Value.ref a
  | .ty n,u=>u=Value.type n
abbrev Vals:List V→List Value→Prop:=Paired RelV
theorem Vals.length {xs:List V} {us:List Value} (r:Vals xs us):xs.length=us.length:=Paired.length r
theorem Vals.get:∀ {xs:List V} {us:List Value} {i:Nat} {x:V},Vals xs us→xs[i]?=some x→∃ u,us[i]?=some u∧RelV x u
  | _,_,_,_,.nil,e=>by simp at e
  | _,_,0,_,.cons r _,e=>by simp at e; subst e; exact ⟨_,rfl,r⟩
  | _,_,i+1,x,.cons _ t,e=>by
    obtain ⟨u,h1,h2⟩:=Vals.get (i:=i) (x:=x) t (by simpa using e)
    exact ⟨u,by simpa using h1,h2⟩
theorem Vals.set {x:V} {u:Value} (r:RelV x u):∀ {xs:List V} {us:List Value} (i:Nat),Vals xs us→Vals (xs.set i x) (us.set i u)
  | _,_,_,.nil=>.nil
  | _,_,0,.cons _ t=>.cons r t
  | _,_,i+1,.cons q t=>.cons q (Vals.set r i t)
theorem Vals.append:∀ {xs ys:List V} {us ws:List Value},Vals xs us→Vals ys ws→Vals (xs++ys) (us++ws)
  | _,_,_,_,.nil,s=>s
  | _,_,_,_,.cons r t,s=>.cons r (Vals.append t s)
theorem Vals.take:∀ {xs:List V} {us:List Value} (n:Nat),Vals xs us→Vals (xs.take n) (us.take n)
  | _,_,0,_=>.nil
  | _,_,_+1,.nil=>.nil
  | _,_,n+1,.cons r t=>.cons r (Vals.take n t)
theorem Vals.drop:∀ {xs:List V} {us:List Value} (n:Nat),Vals xs us→Vals (xs.drop n) (us.drop n)
  | _,_,0,r=>r
  | _,_,_+1,.nil=>.nil
  | _,_,n+1,.cons _ t=>Vals.drop n t
def RelO:Option V→Option Value→Prop
  | some v,some u=>RelV v u
  | none,none=>True
  | _,_=>False
def KV {κ:Type}:List (κ×V)→List (κ×Value)→Prop:=Paired fun (p:κ×V) (q:κ×Value)=>p.1=q.1∧RelV p.2 q.2
def kV:Key→V
  | .inl i=>.int i
  | .inr x=>.str x
inductive HO where
  | lst (xs:List V)
  | tup (xs:List V)
  | dK (kvs:List (Key×V)) | dT (kvs:List (List Key×V))
  | set (S:Int→Bool) (n:Nat)
  | ins (C dx:Addr) (fs:List (Str×V))
  | own (x:Addr)
  | xd (fs:List (Str×V))
  | met (f x:Addr)
  | rng (lo hi:Int)
  | frz (o:Obj) (u:HO)
  | tbl (ps:Array Value)
  | ext (φ:Heap→Prop)
abbrev Hp:=Addr→Option HO
def upd (H:Hp) (a:Addr) (o:HO):Hp:=fun b=>if b=a then some o else H b
theorem zbb {H:Hp} {a:Addr} {o:HO}:upd H a o a=some o:=by unfold upd; rw [if_pos rfl]
theorem upd_ne {H:Hp} {a b:Addr} {o:HO} (h:b≠a):upd H a o b=H b:=by unfold upd; rw [if_neg h]
theorem zbo {H:Hp} {a b:Addr} {o:HO} (h:H a=some o) (h':H b=none):a≠b:=by
  intro e; subst e; rw [h] at h'; cases h'
section
variable (P:Program) (w:World)
def ObjOk (H:Hp) (h:Heap) (a:Addr):HO→Prop
  | .lst xs=>xs.length≤sizeLine∧∃ (its:List Value) (n:Nat),Vals xs its∧h.get? a=some { cls:=.type "list", data:=.seq its.toArray n }
  | .tup xs=>xs.length≤sizeLine∧∃ its:List Value,Vals xs its∧IsTup h a its.toArray
  | .dK kvs=>kvs.length≤sizeLine∧(a==sysModules)=false∧∃ vs,KV kvs vs∧h.DictOf (zsu P w) a vs
  | .dT kvs=>kvs.length≤sizeLine∧(a==sysModules)=false∧∃ xs:List (List Key×Addr×Value),
      Paired (fun (p:List Key×V) (q:List Key×Addr×Value)=>p.1=q.1∧H q.2.1=some (.tup (p.1.map kV))∧RelV p.2 q.2.2) kvs xs ∧
      ∃ o es ep,h.get? a=some o∧o.ExactDict∧o.data=.dict es ep∧es.toList=xs.map (entryOfKey (tupleKind (zsu P w)))∧(xs.map (·.1)).Nodup
  | .set S n=>h.SetOf (intKind P w) a S n
  | .ins C dx fs=>H dx=some (.own a)∧fs.length≤1000∧dx≠a∧h.get? a=some (PySem.W.instObj C dx) ∧
      ∃ mA,h.Ns1 dx mA∧(∀ f,RelO (fs.lookup f) (mA f))∧PySem.Within mA (fs.map (·.1))
  | .own _=>∃ o,h.get? a=some o
  | .xd fs=>∃ mA,h.Ns1 a mA∧∀ f,RelO (fs.lookup f) (mA f)
  | .rng lo hi=>∃ t u v,h.get? a=some { cls:=.type "range", data:=.fields #[.int lo t,.int hi u,.int 1 v] }
  | .frz o u=>h.get? a=some o∧ObjOk H h a u
  | .tbl ps=>∃ (q:Str) (t:Tok) (qs:Array Value),ps[0]?=some (.str q t)∧h.get? a=some { cls:=.none,data:=.fields qs }∧TriplesOk qs.toList ∧
      ∀ pos v,codeAmong pos qs.toList=some v→∃ c o u vs t,v=.ref c∧H c=some (.frz o u)∧o.data=.fields vs∧vs[1]?=some (.str q t)
  | .met f x=>h.get? a=some (PySem.W.methodObj (.ref f) (.ref x))
  | .ext φ=>φ h∧(∃ o,h.get? a=some o)∧∀ h1 h2:Heap,φ h1→(∀ o,h1.get? a=some o→h2.get? a=some o)→φ h2
def HOk (H:Hp) (h:Heap):Prop:=∀ a o,H a=some o→ObjOk P w H h a o
end
section
variable {P:Program} {w:World} {H H':Hp} {h h':Heap} {a:Addr} {o:HO}
theorem ObjOk.lt (x:ObjOk P w H h a o):a<h.objs.size:=by
  cases o with
  | lst xs=>obtain ⟨_,_,_,_,e⟩:=x; exact Heap.lt_size e
  | tup xs=>obtain ⟨_,_,_,p⟩:=x; exact p.lt
  | dK kvs=>obtain ⟨_,_,_,_,o,_,_,e,_⟩:=x; exact Heap.lt_size e
  | dT kvs=>obtain ⟨_,_,_,_,o,_,_,e,_⟩:=x; exact Heap.lt_size e
  | set S n=>obtain ⟨o,_,_,_,e,_⟩:=x; exact Heap.lt_size e
  | ins C dx fs=>obtain ⟨_,_,_,e,_⟩:=x; exact Heap.lt_size e
  | own y=>obtain ⟨_,e⟩:=x; exact Heap.lt_size e
  | xd fs=>obtain ⟨_,⟨_,_,_,e,_⟩,_⟩:=x; exact Heap.lt_size e
  | rng lo hi=>obtain ⟨_,_,_,e⟩:=x; exact Heap.lt_size e
  | frz ob u=>obtain ⟨e,_⟩:=x; exact Heap.lt_size e
  | tbl ps=>obtain ⟨_,_,_,_,e,_⟩:=x; exact Heap.lt_size e
  | met f y=>exact Heap.lt_size (show h.get? a=some _ from x)
  | ext φ=>obtain ⟨_,⟨_,e⟩,_⟩:=x; exact Heap.lt_size e
theorem Paired.mapP {α β:Type} {F G:α→β→Prop}:∀ {l₁:List α} {l₂:List β},Paired F l₁ l₂→(∀ a b,F a b→G a b)→Paired G l₁ l₂
  | _,_,.nil,_=>.nil
  | _,_,.cons r t,f=>.cons (f _ _ r) (Paired.mapP t f)
theorem ObjOk.stay (x:ObjOk P w H h a o) (k:∀ b u,(b=a∨H b=some (.own a))→h.get? b=some u→h'.get? b=some u)
    (ho:∀ b,H b=some (.own a)→H' b=some (.own a)) (ht:∀ b xs,H b=some (.tup xs)→H' b=some (.tup xs)) (hz:∀ b o u,H b=some (.frz o u)→H' b=some (.frz o u):=by first | exact fun _ _ _ q=>q | (intro b o u q; rw [upd_ne (zbo q (by assumption))]; exact q)):ObjOk P w H' h' a o:=by
  induction o with
  | lst xs=>obtain ⟨z,its,n,r,e⟩:=x; exact ⟨z,its,n,r,k _ _ (.inl rfl) e⟩
  | tup xs=>obtain ⟨z,its,r,ob,e,c⟩:=x; exact ⟨z,its,r,ob,k _ _ (.inl rfl) e,c⟩
  | dK kvs=>obtain ⟨z,y,vs,r,ob,es,ep,e,c⟩:=x; exact ⟨z,y,vs,r,ob,es,ep,k _ _ (.inl rfl) e,c⟩
  | dT kvs =>
    obtain ⟨z,y,xs,r,ob,es,ep,e,c⟩:=x
    exact ⟨z,y,xs,Paired.mapP r fun p q z=>⟨z.1,ht _ _ z.2.1,z.2.2⟩,ob,es,ep,k _ _ (.inl rfl) e,c⟩
  | set S n=>obtain ⟨ob,es,ep,t,e,c⟩:=x; exact ⟨ob,es,ep,t,k _ _ (.inl rfl) e,c⟩
  | ins C dx fs =>
    obtain ⟨d,z,ne,e,mA,⟨od,es,ep,e2,c⟩,r⟩:=x
    exact ⟨ho _ d,z,ne,k _ _ (.inl rfl) e,mA,⟨od,es,ep,k _ _ (.inr d) e2,c⟩,r⟩
  | own y=>obtain ⟨ob,e⟩:=x; exact ⟨ob,k _ _ (.inl rfl) e⟩
  | xd fs=>obtain ⟨mA,⟨od,es,ep,e,c⟩,r⟩:=x; exact ⟨mA,⟨od,es,ep,k _ _ (.inl rfl) e,c⟩,r⟩
  | rng lo hi=>obtain ⟨t,u,v,e⟩:=x; exact ⟨t,u,v,k _ _ (.inl rfl) e⟩
  | frz ob u ih=>obtain ⟨e,q⟩:=x; exact ⟨k _ _ (.inl rfl) e,ih q⟩
  | tbl ps =>
    obtain ⟨q,t,qs,h0,h1,h2,h3⟩:=x
    refine ⟨q,t,qs,h0,k _ _ (.inl rfl) h1,h2,fun pos v e=>?_⟩
    obtain ⟨c,o,u,vs,t2,e1,e2,e3⟩:=h3 pos v e
    exact ⟨c,o,u,vs,t2,e1,hz _ _ _ e2,e3⟩
  | met f y =>
    have e:h.get? a=some (PySem.W.methodObj (.ref f) (.ref y)):=x
    show h'.get? a=some (PySem.W.methodObj (.ref f) (.ref y))
    exact k a _ (.inl rfl) e
  | ext φ=>obtain ⟨p,⟨o,e⟩,st⟩:=x; exact ⟨st _ _ p fun o q=>k _ _ (.inl rfl) q,⟨o,k _ _ (.inl rfl) e⟩,st⟩
theorem HOk.lt (x:HOk P w H h) (e:H a=some o):a<h.objs.size:=(x a o e).lt
theorem HOk.fresh (x:HOk P w H h) (e:h.objs.size≤a):H a=none:=by
  cases q:H a with
  | none=>rfl
  | some u=>exact absurd (Nat.lt_of_lt_of_le (x.lt q) e) ‹122›
theorem HOk.kept (x:HOk P w H h) (k:∀ b u,h.get? b=some u→h'.get? b=some u):HOk P w H h':=fun a o e =>
  (x a o e).stay (fun b u _ q=>k b u q) (fun _ q=>q) fun _ _ q=>q
theorem HOk.laid (x:HOk P w H h) (k:∀ b u,h.get? b=some u→h'.get? b=some u) (hp:h.objs.size≤a) (new:ObjOk P w (upd H a o) h' a o):HOk P w (upd H a o) h':=fun b u e=>by
  have hn:=x.fresh hp
  by_cases hb:b=a
  · subst hb; rw [zbb] at e; cases e; exact new
  · rw [upd_ne hb] at e
    exact (x b u e).stay (fun c v _ q=>k c v q) (fun c q=>by rw [upd_ne (zbo q hn)]; exact q) fun c xs q=>by rw [upd_ne (zbo q hn)]; exact q
end
def Rd (H:Hp) (a:Addr) (u:HO):Prop:=H a=some u∨∃ o,H a=some (.frz o u)
theorem Rd.ok {P:Program} {w:World} {H:Hp} {h:Heap} {a:Addr} {u:HO} (r:Rd H a u) (x:HOk P w H h):ObjOk P w H h a u:=by
  rcases r with r | ⟨o,r⟩
  · exact x a u r
  · obtain ⟨_,q⟩:=x a _ r
    exact q
def Mut:Option HO→Prop
  | some (.lst _)=>True
  | some (.dK _)=>True
  | some (.dT _)=>True
  | some (.set _ _)=>True
  | some (.ins _ _ _)=>True
  | some (.ext _)=>True
  | _=>False
section
variable {P:Program} {w:World} {H:Hp} {h h':Heap} {x e:Addr} {o':HO}
theorem HOk.write (ok:HOk P w H h) (mu:Mut (H x)) (he:e=x∨H e=some (.own x)) (k:∀ b u,b≠e→h.get? b=some u→h'.get? b=some u) (heo:∃ u,h'.get? e=some u)
    (new:ObjOk P w (upd H x o') h' x o'):HOk P w (upd H x o') h':=fun b u q=>by
  have nown:∀ c y,H c=some (.own y)→c≠x:=fun c y r z=>by subst z; rw [r] at mu; exact mu
  have ntup:∀ c xs,H c=some (.tup xs)→c≠x:=fun c xs r z=>by subst z; rw [r] at mu; exact mu
  have nfrz:∀ c o u,H c=some (.frz o u)→c≠x:=fun c o u r z=>by subst z; rw [r] at mu; exact mu
  by_cases hb:b=x
  · subst hb; rw [zbb] at q; cases q; exact new
  · rw [upd_ne hb] at q
    by_cases hbe:b=e
    · have q':H b=some (.own x):=by
        rcases he with z | z
        · exact absurd (hbe.trans z) hb
        · rw [hbe]; exact z
      rw [q] at q'; cases q'
      obtain ⟨v,hv⟩:=heo
      exact ⟨v,by rw [hbe]; exact hv⟩
    · refine (ok b u q).stay (fun c v hc r=>k c v ?_ r) (fun c r=>by rw [upd_ne (nown c b r)]; exact r) (fun c xs r=>by rw [upd_ne (ntup c xs r)]; exact r) fun c o u r=>by rw [upd_ne (nfrz c o u r)]; exact r
      rcases hc with rfl | hc
      · exact hbe
      · rintro rfl
        rcases he with z | z
        · exact nown c b hc z
        · rw [hc] at z; cases z; exact hb rfl
end
structure Un (fs ex:List Addr) (H H':Hp) (h h':Heap):Prop where
  keep:∀ b o,h.get? b=some o→H b=none→b∉fs→b∉ex→h'.get? b=some o
  slot:∀ b o,h.get? b=some o→H b=none→b∈fs→b∉ex→∃ sl,h'.get? b=some { o with slots:=sl }
  free:∀ b o,h.get? b=some o→H b=none→b∉ex→H' b=none
  there:∀ b o,h.get? b=some o→b∉ex→∃ o',h'.get? b=some o'
  tups:∀ b xs,H b=some (.tup xs)→H' b=some (.tup xs)
  frzs:∀ b o u,H b=some (.frz o u)→H' b=some (.frz o u)
  tbls:∀ b ps,H b=some (.tbl ps)→∃ more,H' b=some (.tbl (ps++more))
section
variable {fs fs' ex ex':List Addr} {H H1 H2:Hp} {h h1 h2 h':Heap} {a x e:Addr} {o:HO}
theorem Un.any (u:Un fs ex H H1 h h1) {b:Addr} {ob:Obj} (q:h.get? b=some ob) (n:H b=none) (hx:b∉ex):∃ sl,h1.get? b=some { ob with slots:=sl }:=by
  by_cases hb:b∈fs
  · exact u.slot b ob q n hb hx
  · exact ⟨ob.slots,u.keep b ob q n hb hx⟩
theorem Un.kept (k:∀ b u,h.get? b=some u→h'.get? b=some u):Un fs ex H H h h' :=
  ⟨fun b ob q _ _ _=>k b ob q,fun b ob q _ _ _=>⟨ob.slots,k b ob q⟩,fun _ _ _ n _=>n,fun b ob q _=>⟨ob,k b ob q⟩,fun _ _ q=>q,fun _ _ _ q=>q,fun _ ps q=>⟨#[],by rw [q]; simp⟩⟩
theorem Un.refl:Un fs ex H H h h:=Un.kept fun _ _ q=>q
theorem Un.laid (k:∀ b u,h.get? b=some u→h'.get? b=some u) (hp:h.objs.size≤a) (hn:H a=none):Un fs ex H (upd H a o) h h' where
  keep:=fun b u q _ _ _=>k b u q
  slot:=fun b u q _ _ _=>⟨u.slots,k b u q⟩
  free:=fun b u q n _=>by rw [upd_ne (Nat.ne_of_lt (Nat.lt_of_lt_of_le (Heap.lt_size q) hp))]; exact n
  there:=fun b u q _=>⟨u,k b u q⟩
  tups:=fun b xs q=>by rw [upd_ne (zbo q hn)]; exact q
  frzs:=fun b u xs q=>by rw [upd_ne (zbo q hn)]; exact q
  tbls:=fun b ps q=>⟨#[],by rw [upd_ne (zbo q hn),q]; simp⟩
theorem Un.write (mu:Mut (H x)) (he:e=x∨H e=some (.own x)) (k:∀ b u,b≠e→h.get? b=some u→h'.get? b=some u) (heo:∃ u,h'.get? e=some u):Un fs ex H (upd H x o) h h':=by
  have hx:∀ b,H b=none→b≠x:=fun b n z=>by subst z; rw [n] at mu; exact mu
  have hb:∀ b,H b=none→b≠e:=fun b n z=>by
    subst z
    rcases he with r | r
    · exact hx b n r
    · rw [n] at r; cases r
  have hm:∀ b u,H b=some u→¬ Mut (some u)→b≠x:=fun b u q nm z=>by subst z; rw [q] at mu; exact nm mu
  refine ⟨fun b u q n _ _=>k b u (hb b n) q,fun b u q n _ _=>⟨u.slots,k b u (hb b n) q⟩,fun b u q n _=>by rw [upd_ne (hx b n)]; exact n,fun b u q _=>?_,
    fun b xs q=>by rw [upd_ne (hm b _ q fun z=>z)]; exact q,fun b u xs q=>by rw [upd_ne (hm b _ q fun z=>z)]; exact q,fun b ps q=>⟨#[],by rw [upd_ne (hm b _ q fun z=>z),q]; simp⟩⟩
  by_cases hbe:b=e
  · subst hbe; exact heo
  · exact ⟨u,k b u hbe q⟩
end
def trk (h:Heap) (H:Hp):List Addr:=(List.range h.objs.size).filter fun a=>(H a).isSome
def hidT (h:Heap) (H:Hp):Heap:=PySem.W.hideAll h (trk h H)
theorem zys (h:Heap) (H:Hp):(hidT h H).objs.size=h.objs.size:=PySem.W.hideAll_size _ _
theorem z0i {h:Heap} {H:Hp} {b:Addr} {o:Obj} (e:h.get? b=some o) (n:H b=none):(hidT h H).get? b=some o :=
  PySem.W.hideAll_get _ e fun hm=>by
    have q:(H b).isSome=true:=(List.mem_filter.mp hm).2
    rw [n] at q; simp at q
theorem z3a {h:Heap} {H:Hp} {b:Addr} {o:Obj} (e:(hidT h H).get? b=some o):h.get? b=some o∧H b=none:=by
  have e':h.get? b=some o:=PySem.W.of_hideAll (trk h H) e
  refine ⟨e',?_⟩
  cases q:H b with
  | none=>rfl
  | some x =>
    have hm:b∈trk h H:=List.mem_filter.mpr ⟨List.mem_range.mpr (Heap.lt_size e'),by simp [q]⟩
    have z:(hidT h H).get? b=none:=PySem.W.hideAll_none (trk h H) hm
    rw [z] at e; cases e
def z30 (g h:Heap) (L:Addr):List (Addr×Obj):=(List.range h.objs.size).filterMap fun a=>if a=L∨(g.get? a).isSome=true then none else (h.get? a).map fun o=>(a,o)
def rest (g h:Heap) (L d:Addr):List (Addr×Obj):=(z30 g h L).filter fun p=>decide (p.1≠d)
end L2
namespace L2
open PySem PySem.Spec PyProof.Rows
structure Mod (K:PySem.W.Frag) (mg:Str→Option Value) (base:Heap):Prop where
  kin:K.In base
  glob:base.Ns mainGlobals mg
  blt:∃ mb,base.Ns builtinsNs mb∧∀ x:Str,x ≠ "__name__" → mb x=bootBuiltins x
  nolimit:base.NoLimit
structure Cx where
  prog:Program
  w:World
  K:PySem.W.Frag
  mg:Str→Option Value
  base:Heap
  A:Around
  N:List Str
  s₀:Shared
  H₀:Hp
  env:Env
  outer:List Env
  stack:List Env
  ex:List Addr
  fn:Str→Bool
  calm:Bool
  pn:List (Addr×Obj)
  xe:Value→Shared→Prop
def frs (l:List Env):List Addr:=l.filterMap (·.frame)
abbrev Cx.fs (X:Cx):List Addr:=frs X.outer
def Vis (sc:Scope) (x:Str):Prop:=sc.names.lookup x=some .local∨sc.names.lookup x=some .cell∨sc.names.lookup x=some .free
def Loc (sc:Scope) (x:Str):Prop:=sc.names.lookup x=some .local∨sc.names.lookup x=some .cell
def Look (env:Env) (h:Heap) (m:Str→Option Value) (x:Str) (u:Value):Prop :=
  (env.kindOf x=some .local∧m x=some u)∨((env.kindOf x=some .cell∨env.kindOf x=some .free)∧∃ c,env.cells.lookup x=some c∧h.IsCell c (some u))
structure Cx.Ok (X:Cx):Prop where
  mod:Mod X.K X.mg X.base
  kind:X.env.scope.kind=.function
  glob:X.env.globals=mainGlobals
  blt:X.env.builtins=builtinsNs
  above:X.s₀.heap.objs.size≤X.env.locals
  inj:∀ x y c,X.env.cells.lookup x=some c→X.env.cells.lookup y=some c→x=y
  has:∀ x,(X.env.kindOf x=some .cell∨X.env.kindOf x=some .free)→∃ c,X.env.cells.lookup x=some c
  cab:∀ x c,X.fn x=true→X.env.cells.lookup x=some c→X.s₀.heap.objs.size≤c
  hd:X.calm=true→X.A.handled=none
  frames:X.A.frames=some X.stack
  stk:X.stack=X.outer∨(X.stack=X.env::X.outer∧X.env.frame=some X.env.locals)
  exf:∀ b∈X.ex,b≠X.env.locals∧∀ x c,X.env.cells.lookup x=some c→c≠b
  bs:∀ b o,X.base.get? b=some o→X.s₀.heap.get? b=some o∧X.H₀ b=none
  bsz:X.base.objs.size≤X.s₀.heap.objs.size
  noex:∀ b o,X.base.get? b=some o→b∉X.ex
  exfs:∀ b∈X.ex,b∉X.fs
  funs:X.s₀.heap.FunFrames X.base X.outer
  frf:∀ b∈X.fs,X.H₀ b=none
structure Inv (X:Cx) (pins:List (Addr×Obj)) (σ:List (Option V)) (H:Hp) (s:Shared):Prop where
  ok:X.Ok
  os:s.os=X.s₀.os
  bare:AllBare s.gens
  base:Un X.fs X.ex X.H₀ H X.s₀.heap s.heap
  loc:∃ m,s.heap.Ns X.env.locals m∧∀ (i:Nat) (x:Str) (v:V),X.N[i]?=some x→σ[i]?=some (some v)→Vis X.env.scope x→∃ u,RelV v u∧Look X.env s.heap m x u
  cell:∀ x c,X.env.cells.lookup x=some c→∃ v,s.heap.IsCell c v
  free:H X.env.locals=none
  freeC:∀ x c,X.env.cells.lookup x=some c→H c=none
  pin:∀ p∈X.pn++pins,s.heap.get? p.1=some p.2∧H p.1=none∧p.1≠X.env.locals∧p.1∉X.fs∧∀ v,p.2.data≠.cell v
  hok:HOk X.prog X.w H s.heap
  len:σ.length=X.N.length
section
variable {X:Cx} {pins:List (Addr×Obj)} {σ:List (Option V)} {H H':Hp} {s:Shared} {h':Heap}
theorem Cx.Ok.nofr (ok:X.Ok) {b:Addr} {o:Obj} (e:X.base.get? b=some o):b∉X.fs:=fun hb=>by
  have:=(ok.funs.mem hb).1
  rw [e] at this; cases this
theorem Inv.bs (I:Inv X pins σ H s):∀ b o,X.base.get? b=some o→s.heap.get? b=some o∧H b=none:=fun b o e =>
  ⟨I.base.keep b o (I.ok.bs b o e).1 (I.ok.bs b o e).2 (I.ok.nofr e) (I.ok.noex b o e),I.base.free b o (I.ok.bs b o e).1 (I.ok.bs b o e).2 (I.ok.noex b o e)⟩
theorem Inv.bk (I:Inv X pins σ H s):∀ b o,X.base.get? b=some o→s.heap.get? b=some o:=fun b o e=>(I.bs b o e).1
theorem Inv.mod (I:Inv X pins σ H s):Mod X.K X.mg X.base:=I.ok.mod
theorem Inv.kIn (I:Inv X pins σ H s):X.K.In s.heap:=I.ok.mod.kin.keeps I.bk
theorem Inv.lt (I:Inv X pins σ H s):X.env.locals<s.heap.objs.size:=let ⟨_,hn,_⟩:=I.loc; hn.lt
theorem Inv.sz (I:Inv X pins σ H s):X.s₀.heap.objs.size≤s.heap.objs.size:=Nat.le_trans I.ok.above (Nat.le_of_lt I.lt)
theorem Inv.nofs (I:Inv X pins σ H s) {a:Addr} (h:s.heap.objs.size≤a):a∉X.fs:=fun hb=>by
  obtain ⟨_,o,ho,_⟩:=I.ok.funs.mem hb
  exact absurd (Nat.lt_of_lt_of_le (Heap.lt_size ho) (Nat.le_trans I.sz h)) ‹122›
theorem Inv.cne (I:Inv X pins σ H s):∀ x c,X.env.cells.lookup x=some c→c≠X.env.locals:=fun x c e z=>by
  obtain ⟨v,o,ho,hd⟩:=I.cell x c e
  obtain ⟨m,⟨o',es,ep,ho',hd',_⟩,_⟩:=I.loc
  rw [z,ho'] at ho; cases ho; rw [hd'] at hd; cases hd
theorem Inv.funs (I:Inv X pins σ H s):s.heap.FunFrames X.base X.outer:=by
  have all:∀ (l:List Env),(∀ b∈frs l,b∈X.fs)→X.s₀.heap.FunFrames X.base l→s.heap.FunFrames X.base l:=by
    intro l
    induction l with
    | nil=>intro _ _; trivial
    | cons env r ih =>
      intro hs hl
      obtain ⟨hk,⟨L,o,hf,hn,ho,hd⟩,hr⟩:=hl
      have hL:L∈X.fs:=hs L (by unfold frs; rw [List.filterMap_cons,hf]; exact List.mem_cons_self)
      obtain ⟨sl,e⟩:=I.base.slot L o ho (I.ok.frf L hL) hL fun z=>I.ok.exfs L z hL
      exact ⟨hk,⟨L,_,hf,hn,e,hd⟩,ih (fun b hb=>hs b (by unfold frs; rw [List.filterMap_cons,hf]; exact List.mem_cons_of_mem _ hb)) hr⟩
  exact all X.outer (fun _ hb=>hb) I.ok.funs
theorem Inv.stack (I:Inv X pins σ H s):s.heap.FunFrames X.base X.stack:=by
  rcases I.ok.stk with e | ⟨e,hf⟩
  · rw [e]; exact I.funs
  · rw [e]
    obtain ⟨m,hn,_⟩:=I.loc
    refine .cons (by rw [I.ok.kind]; decide) hf hn ?_ I.funs
    exact Heap.get?_none_of_le (Nat.le_trans I.ok.bsz I.ok.above)
theorem Inv.stkSub (I:Inv X pins σ H s):∀ b∈frs X.stack,b∈X.env.locals::X.fs:=fun b hb=>by
  rcases I.ok.stk with e | ⟨e,hf⟩
  · rw [e] at hb; exact List.mem_cons_of_mem _ hb
  · rw [e] at hb
    unfold frs at hb
    rw [List.filterMap_cons,hf] at hb
    exact hb
theorem Inv.stkFree (I:Inv X pins σ H s):∀ b∈frs X.stack,H b=none:=fun b hb=>by
  rcases List.mem_cons.mp (I.stkSub b hb) with e | hb
  · rw [e]; exact I.free
  · obtain ⟨_,o,ho,_⟩:=I.ok.funs.mem hb
    exact I.base.free b o ho (I.ok.frf b hb) fun z=>I.ok.exfs b z hb
theorem Inv.step {g':Array GenState} {t':Nat} {d':Drawn} {ch:List Addr} (I:Inv X pins σ H s)
    (hch:∀ b∈ch,‹98›∧b≠X.env.locals∧(∀ x c,X.env.cells.lookup x=some c→c≠b)∧∀ p∈X.pn++pins,p.1≠b)
    (keep:∀ b o,b≠X.env.locals→b∉X.fs→b∉ch→s.heap.get? b=some o→H b=none→h'.get? b=some o)
    (slot:∀ b o,b≠X.env.locals→b∈X.fs→b∉ch→s.heap.get? b=some o→H b=none→∃ sl,h'.get? b=some { o with slots:=sl }) (free:∀ b o,b∉ch→s.heap.get? b=some o→H b=none→H' b=none)
    (there:∀ b o,b∉ch→s.heap.get? b=some o→∃ o',h'.get? b=some o')
    (tups:∀ b xs,H b=some (.tup xs)→H' b=some (.tup xs)) (frzs:∀ b o u,H b=some (.frz o u)→H' b=some (.frz o u)) (tbls:∀ b ps,H b=some (.tbl ps)→∃ more,H' b=some (.tbl (ps++more)))
    (ns:∀ m,s.heap.Ns X.env.locals m→h'.Ns X.env.locals m) (hok:HOk X.prog X.w H' h') (hg:AllBare g') :
    Inv X pins σ H' { s with heap:=h',gens:=g',drawn:=d',toks:=t' }:=by
  have neL:∀ b o,X.s₀.heap.get? b=some o→b≠X.env.locals:=fun b o e=>Nat.ne_of_lt ‹45›
  have neC:∀ b o,X.s₀.heap.get? b=some o→b∉X.ex→b∉ch:=fun b o e hx hb=>by
    rcases (hch b hb).1 with z | z
    · exact hx z
    · exact absurd (Nat.lt_of_lt_of_le (Heap.lt_size e) z) ‹122›
  have cellK:∀ x c,X.env.cells.lookup x=some c→∀ v,s.heap.IsCell c v→h'.IsCell c v:=fun x c e v ⟨o,ho,hd⟩=>by
    have nch:c∉ch:=fun z=>(hch c z).2.2.1 x c e rfl
    by_cases hc:c∈X.fs
    · obtain ⟨sl,q⟩:=slot c o (I.cne x c e) hc nch ho (I.freeC x c e)
      exact ⟨_,q,hd⟩
    · exact ⟨o,keep c o (I.cne x c e) hc nch ho (I.freeC x c e),hd⟩
  refine ⟨I.ok,I.os,hg,⟨fun b o e n hb hx=>?_,fun b o e n hb hx=>?_,fun b o e n hx=>?_,fun b o e hx=>?_,fun b xs e=>tups b xs (I.base.tups b xs e),fun b o xs e=>frzs b o xs (I.base.frzs b o xs e),fun b ps e=>?_⟩,?_,fun x c e=>?_,?_,fun x c e=>?_,fun p hp=>?_,hok,I.len⟩
  · exact keep b o (neL b o e) hb (neC b o e hx) (I.base.keep b o e n hb hx) (I.base.free b o e n hx)
  · obtain ⟨sl,e1⟩:=I.base.slot b o e n hb hx
    obtain ⟨sl',e2⟩:=slot b _ (neL b o e) hb (neC b o e hx) e1 (I.base.free b o e n hx)
    exact ⟨sl',e2⟩
  · obtain ⟨o',e1⟩:=I.base.there b o e hx
    exact free b o' (neC b o e hx) e1 (I.base.free b o e n hx)
  · obtain ⟨o',e1⟩:=I.base.there b o e hx
    exact there b o' (neC b o e hx) e1
  · obtain ⟨m1,e1⟩:=I.base.tbls b ps e
    obtain ⟨m2,e2⟩:=tbls b _ e1
    exact ⟨m1++m2,by rw [e2,Array.append_assoc]⟩
  · obtain ⟨m,hn,hl⟩:=I.loc
    refine ⟨m,ns m hn,fun i x v e1 e2 e3=>?_⟩
    obtain ⟨u,r,l⟩:=hl i x v e1 e2 e3
    refine ⟨u,r,?_⟩
    rcases l with l | ⟨k,c,e,z⟩
    · exact .inl l
    · exact .inr ⟨k,c,e,cellK x c e _ z⟩
  · obtain ⟨v,z⟩:=I.cell x c e
    exact ⟨v,cellK x c e v z⟩
  · obtain ⟨m,⟨o,_,_,ho,_⟩,_⟩:=I.loc
    exact free _ o (fun z=>(hch _ z).2.1 rfl) ho I.free
  · obtain ⟨v,o,ho,hd⟩:=I.cell x c e
    exact free c o (fun z=>(hch c z).2.2.1 x c e rfl) ho (I.freeC x c e)
  · obtain ⟨e,n,ne,nf,d⟩:=I.pin p hp
    have nch:p.1∉ch:=fun z=>(hch p.1 z).2.2.2 p hp rfl
    exact ⟨keep p.1 p.2 ne nf nch e n,free p.1 p.2 nch e n,ne,nf,d⟩
theorem Inv.un {t':Nat} (I:Inv X pins σ H s) (u:Un X.fs [] H H' s.heap h') (hok:HOk X.prog X.w H' h'):Inv X pins σ H' { s with heap:=h',toks:=t' }:=by
  obtain ⟨m,⟨o,es,ep,ho,r⟩,_⟩:=id I.loc
  obtain ⟨sl,hL⟩:=u.any ho I.free (by simp)
  exact I.step (g':=s.gens) (d':=s.drawn) (ch:=[]) (fun _ z=>nomatch z) (fun b o _ hb _ e n=>u.keep b o e n hb (by simp)) (fun b o _ hb _ e n=>u.slot b o e n hb (by simp)) (fun b o _ e n=>u.free b o e n (by simp)) (fun b o _ e=>u.there b o e (by simp)) u.tups u.frzs u.tbls (fun m' hm=>by
    obtain ⟨o',es',ep',ho',r'⟩:=hm
    rw [ho] at ho'; cases ho'
    exact ⟨_,es',ep',hL,r'⟩) hok I.bare
theorem Inv.call {g':Array GenState} {t':Nat} {d':Drawn} {ch:List Addr} (I:Inv X pins σ H s) (u:Un (frs X.stack) ch H H' s.heap h') (hok:HOk X.prog X.w H' h') (hg:AllBare g')
    (hch:∀ b∈ch,‹98›∧b≠X.env.locals∧(∀ x c,X.env.cells.lookup x=some c→c≠b)∧∀ p∈X.pn++pins,p.1≠b) :
    Inv X pins σ H' { s with heap:=h',gens:=g',drawn:=d',toks:=t' }:=by
  obtain ⟨m,⟨o,es,ep,ho,r⟩,_⟩:=id I.loc
  obtain ⟨sl,hL⟩:=u.any ho I.free fun z=>(hch _ z).2.1 rfl
  exact I.step (ch:=ch) hch (fun b o hL hb hc e n=>u.keep b o e n (fun z=>(List.mem_cons.mp (I.stkSub b z)).elim hL hb) hc) (fun b o _ _ hc e n=>u.any e n hc) (fun b o hc e n=>u.free b o e n hc) (fun b o hc e=>u.there b o e hc) u.tups u.frzs u.tbls (fun m' hm=>by
    obtain ⟨o',es',ep',ho',r'⟩:=hm
    rw [ho] at ho'; cases ho'
    exact ⟨_,es',ep',hL,r'⟩) hok hg
theorem Inv.turned {t':Nat} {it:Addr} (I:Inv X pins σ H s) (k:∀ b o,b≠it→s.heap.get? b=some o→h'.get? b=some o) (hn:H it=none) (hL:it≠X.env.locals)
    (h1:it∈X.ex∨X.s₀.heap.objs.size≤it) (h2:∀ x c,X.env.cells.lookup x=some c→c≠it) (h3:∀ p∈X.pn++pins,p.1≠it):Inv X pins σ H { s with heap:=h',toks:=t' }:=by
  have nit:∀ b u,H b=some u→b≠it:=fun b u e z=>by rw [z,hn] at e; cases e
  refine I.step (g':=s.gens) (d':=s.drawn) (ch:=[it]) (fun b hb=>?_) (fun b o _ _ hc e _=>k b o (fun z=>hc (by simp [z])) e) (fun b o _ _ hc e _=>⟨o.slots,k b o (fun z=>hc (by simp [z])) e⟩) (fun _ _ _ _ n=>n)
    (fun b o hc e=>⟨o,k b o (fun z=>hc (by simp [z])) e⟩) (fun _ _ e=>e) (fun _ _ _ e=>e) (fun b ps e=>⟨#[],by rw [e]; simp⟩) (fun m hm=>?_) (fun b u e=>?_) I.bare
  · have e:b=it:=by simpa using hb
    subst e
    exact ⟨h1,hL,h2,h3⟩
  · obtain ⟨o,es,ep,ho,r⟩:=hm
    exact ⟨o,es,ep,k _ o (Ne.symm hL) ho,r⟩
  · refine (I.hok b u e).stay (fun c v hc q=>k c v ?_ q) (fun _ q=>q) fun _ _ q=>q
    rcases hc with z | z
    · rw [z]; exact nit b u e
    · exact nit c _ z
theorem Inv.tok (I:Inv X pins σ H s) (t:Nat):Inv X pins σ H { s with toks:=t }:=I.un (h':=s.heap) (t':=t) Un.refl I.hok
theorem Inv.kept {t':Nat} (I:Inv X pins σ H s) (k:∀ b u,s.heap.get? b=some u→h'.get? b=some u):Inv X pins σ H { s with heap:=h',toks:=t' }:=I.un (Un.kept k) (I.hok.kept k)
theorem Inv.laid {a:Addr} {o:HO} {t':Nat} (I:Inv X pins σ H s) (k:∀ b u,s.heap.get? b=some u→h'.get? b=some u) (hp:s.heap.objs.size≤a) (new:ObjOk X.prog X.w (upd H a o) h' a o) :
    Inv X pins σ (upd H a o) { s with heap:=h',toks:=t' }:=I.un (Un.laid k hp (I.hok.fresh hp)) (I.hok.laid k hp new)
theorem Inv.write {x e:Addr} {o:HO} {t':Nat} (I:Inv X pins σ H s) (mu:Mut (H x)) (he:e=x∨H e=some (.own x)) (k:∀ b u,b≠e→s.heap.get? b=some u→h'.get? b=some u) (heo:∃ u,h'.get? e=some u)
    (new:ObjOk X.prog X.w (upd H x o) h' x o):Inv X pins σ (upd H x o) { s with heap:=h',toks:=t' }:=I.un (Un.write mu he k heo) (I.hok.write mu he k heo new)
theorem Inv.weak {σ':List (Option V)} (I:Inv X pins σ H s) (hl:σ'.length=σ.length) (w:∀ (i:Nat) v,σ'[i]?=some (some v)→σ[i]?=some (some v)):Inv X pins σ' H s :=
  ⟨I.ok,I.os,I.bare,I.base,let ⟨m,hn,hl'⟩:=I.loc; ⟨m,hn,fun i x v e1 e2 e3=>hl' i x v e1 (w i v e2) e3⟩,I.cell,I.free,I.freeC,I.pin,I.hok,hl.trans I.len⟩
theorem Inv.pins_of {pins':List (Addr×Obj)} (I:Inv X pins σ H s) (h:∀ p∈pins',s.heap.get? p.1=some p.2∧H p.1=none∧p.1≠X.env.locals∧p.1∉X.fs∧∀ v,p.2.data≠.cell v):Inv X pins' σ H s :=
  ⟨I.ok,I.os,I.bare,I.base,I.loc,I.cell,I.free,I.freeC,fun p hp=>(List.mem_append.mp hp).elim (fun z=>I.pin p (List.mem_append_left _ z)) (h p),I.hok,I.len⟩
theorem zo9 {N:List Str} (hN:N.Nodup) {i j:Nat} {x:Str} (a:N[i]?=some x) (b:N[j]?=some x):i=j:=by
  obtain ⟨h1,e1⟩:=List.getElem?_eq_some_iff.mp a
  obtain ⟨h2,e2⟩:=List.getElem?_eq_some_iff.mp b
  exact (List.getElem_inj hN).mp (e1.trans e2.symm)
theorem zp5 {M:Model} {A:Around} {E:Value→Shared→Prop} {i:Nat} {x:Str} {v:V} {u:Value} {Q:Unit→Shared→Prop} (I:Inv X pins σ H s) (hN:X.N.Nodup) (hi:X.N[i]?=some x) (hx:Loc X.env.scope x) (r:RelV v u)
    (h:∀ s',Inv X pins (σ.set i (some v)) H s'→(∃ a,Heap.SameBut a s.heap s'.heap∧(a=X.env.locals∨X.env.cells.lookup x=some a))→Q () s') (hf:X.fn x=true∨X.env.scope.names.lookup x=some .local:=by first | exact .inl rfl | exact .inr rfl | assumption):wpAny M A (storeName X.env x u) Q E s:=by
  obtain ⟨m,hn,hl⟩:=id I.loc
  have hcls:(X.env.scope.kind==.class || (X.env.scope.kind==.module&&X.env.locals != X.env.globals))=false:=by rw [I.ok.kind]; rfl
  have hiσ:i < σ.length:=by rw [I.len]; exact (List.getElem?_eq_some_iff.mp hi).1
  have cne:=I.cne
  have tracked:∀ {a:Addr} {h':Heap},(∃ o,s.heap.get? a=some o∧H a=none)→Heap.SameBut a s.heap h'→HOk X.prog X.w H h':=fun {a h'} ha hs b ob e=>by
    obtain ⟨_,_,hfree⟩:=ha
    refine (I.hok b ob e).stay (fun c w' hc q=>(hs.2 c ?_).trans q) (fun _ q=>q) fun _ _ q=>q
    rintro rfl
    rcases hc with rfl | hc
    · rw [hfree] at e; cases e
    · rw [hfree] at hc; cases hc
  rcases hx with hk | hk
  · refine wpAny_storeName_local hk hn (fun h' hn' hs=>?_) hcls
    obtain ⟨oL,_,_,hoL,_⟩:=id hn
    refine h _ ⟨I.ok,I.os,I.bare,⟨fun b o e n hb hx=>?_,fun b o e n hb hx=>?_,I.base.free,fun b o e hx=>?_,I.base.tups,I.base.frzs,I.base.tbls⟩,⟨_,hn',fun j y v' e1 e2 e3=>?_⟩,fun y c e=>?_,I.free,I.freeC,fun p hp=>?_,tracked ⟨oL,hoL,I.free⟩ hs,by simpa using I.len⟩ ⟨_,hs,.inl rfl⟩
    · exact (hs.2 b (Nat.ne_of_lt ‹45›)).trans (I.base.keep b o e n hb hx)
    · obtain ⟨sl,e1⟩:=I.base.slot b o e n hb hx
      exact ⟨sl,(hs.2 b (Nat.ne_of_lt ‹45›)).trans e1⟩
    · obtain ⟨o',e1⟩:=I.base.there b o e hx
      exact ⟨o',(hs.2 b (Nat.ne_of_lt ‹45›)).trans e1⟩
    · by_cases hj:j=i
      · subst hj
        rw [hi] at e1; cases e1
        rw [List.getElem?_set_self hiσ] at e2
        cases e2
        exact ⟨u,r,.inl ⟨hk,by simp⟩⟩
      · rw [List.getElem?_set_ne (Ne.symm hj)] at e2
        obtain ⟨u',r',q⟩:=hl j y v' e1 e2 e3
        refine ⟨u',r',?_⟩
        rcases q with ⟨k,e⟩ | ⟨k,c,e,z⟩
        · refine .inl ⟨k,?_⟩
          have:y≠x:=fun e=>hj (zo9 hN e1 (e ▸ hi))
          simp [this,e]
        · exact .inr ⟨k,c,e,z.sameBut hs (cne y c e)⟩
    · obtain ⟨w',z⟩:=I.cell y c e
      exact ⟨w',z.sameBut hs (cne y c e)⟩
    · obtain ⟨e,n,ne,nf,d⟩:=I.pin p hp
      exact ⟨(hs.2 p.1 ne).trans e,n,ne,nf,d⟩
  · have hfn:X.fn x=true:=by
      rcases hf with z | z
      · exact z
      · rw [z] at hk; cases hk
    obtain ⟨c,hc⟩:=I.ok.has x (.inl hk)
    obtain ⟨w',z⟩:=I.cell x c hc
    refine wpAny_storeName_cell I.ok.kind hk hc z (fun h' hc' hs=>?_)
    obtain ⟨oc,hoc,hocd⟩:=id z
    refine h { s with heap:=h' } ⟨I.ok,I.os,I.bare,⟨fun b o e n hb hx=>?_,fun b o e n hb hx=>?_,I.base.free,fun b o e hx=>?_,I.base.tups,I.base.frzs,I.base.tbls⟩,⟨m,hn.sameBut hs (Ne.symm (cne x c hc)),fun j y v' e1 e2 e3=>?_⟩,fun y c' e=>?_,I.free,I.freeC,fun p hp=>?_,tracked ⟨oc,hoc,I.freeC x c hc⟩ hs,by simpa using I.len⟩ ⟨c,hs,.inr hc⟩
    · exact ‹71›.trans (I.base.keep b o e n hb hx)
    · obtain ⟨sl,e1⟩:=I.base.slot b o e n hb hx
      exact ⟨sl,‹71›.trans e1⟩
    · obtain ⟨o',e1⟩:=I.base.there b o e hx
      exact ⟨o',‹71›.trans e1⟩
    · by_cases hj:j=i
      · subst hj
        rw [hi] at e1; cases e1
        rw [List.getElem?_set_self hiσ] at e2
        cases e2
        exact ⟨u,r,.inr ⟨.inl hk,c,hc,hc'⟩⟩
      · rw [List.getElem?_set_ne (Ne.symm hj)] at e2
        obtain ⟨u',r',q⟩:=hl j y v' e1 e2 e3
        refine ⟨u',r',?_⟩
        rcases q with q | ⟨k,c',e,z'⟩
        · exact .inl q
        · refine .inr ⟨k,c',e,z'.sameBut hs ?_⟩
          rintro rfl
          exact hj (zo9 hN e1 (I.ok.inj _ _ _ e hc ▸ hi))
    · by_cases hcc:c'=c
      · subst hcc; exact ⟨_,hc'⟩
      · obtain ⟨w2,z2⟩:=I.cell y c' e
        exact ⟨w2,z2.sameBut hs hcc⟩
    · obtain ⟨e,n,ne,nf,d⟩:=I.pin p hp
      refine ⟨(hs.2 p.1 ?_).trans e,n,ne,nf,d⟩
      intro q
      rw [q,hoc] at e
      have q':oc=p.2:=Option.some.inj e
      exact d w' (by rw [← q']; exact hocd)
theorem zlk {M:Model} {A:Around} {E:Value→Shared→Prop} {i:Nat} {x:Str} {v:V} {u:Value} {Q:Unit→Shared→Prop} (I:Inv X pins σ H s) (hN:X.N.Nodup) (hi:X.N[i]?=some x) (hx:Loc X.env.scope x) (r:RelV v u)
    (h:∀ s',Inv X pins (σ.set i (some v)) H s'→Q () s') (hf:X.fn x=true∨X.env.scope.names.lookup x=some .local:=by first | exact .inl rfl | exact .inr rfl | assumption):wpAny M A (storeName X.env x u) Q E s :=
  zp5 I hN hi hx r (fun s' I' _=>h s' I') hf
theorem Inv.call' {s':Shared} {ch:List Addr} (I:Inv X pins σ H s) (ho:s'.os=s.os) (u:Un (frs X.stack) ch H H' s.heap s'.heap) (hok:HOk X.prog X.w H' s'.heap) (hg:AllBare s'.gens)
    (hch:∀ b∈ch,‹98›∧b≠X.env.locals∧(∀ x c,X.env.cells.lookup x=some c→c≠b)∧∀ p∈X.pn++pins,p.1≠b):Inv X pins σ H' s':=by
  obtain ⟨h',g',d',t',o'⟩:=s'
  have e:o'=s.os:=ho
  subst e
  exact I.call (g':=g') (t':=t') (d':=d') u hok hg hch
end
abbrev XK:=Value→Option Addr→Hp→Prop
abbrev St:=List (Option V)
abbrev VK:=V→Hp→Prop
abbrev TE:=St→Hp→VK→Prop
abbrev TT:=St→Hp→(Bool→Hp→Prop)→Prop
abbrev TA:=St→Hp→(List V→Hp→Prop)→Prop
structure Ends where
  nx:St→Hp→Prop
  rt:VK
  bk:St→Hp→Prop:=fun _ _=>False
  ct:St→Hp→Prop:=fun _ _=>False
abbrev TS:=Ends→St→Hp→Prop
def EP (X:Cx) (pins:List (Addr×Obj)) (σ:St) (Q:VK) (u:Value) (s':Shared):Prop:=∃ v H',Inv X pins σ H' s'∧RelV v u∧Q v H'
def TP (X:Cx) (pins:List (Addr×Obj)) (σ:St) (Q:Bool→Hp→Prop) (b:Bool) (s':Shared):Prop:=∃ H',Inv X pins σ H' s'∧Q b H'
def AP (X:Cx) (pins:List (Addr×Obj)) (σ:St) (Q:List V→Hp→Prop) (us:List Value) (s':Shared):Prop:=∃ vs H',Inv X pins σ H' s'∧Vals vs us∧Q vs H'
def SP (X:Cx) (pins:List (Addr×Obj)) (D:Ends) (f:Flow) (s':Shared):Prop :=
  match f with
  | .next=>∃ σ' H',Inv X pins σ' H' s'∧D.nx σ' H'
  | .brk=>∃ σ' H',Inv X pins σ' H' s'∧D.bk σ' H'
  | .cont=>∃ σ' H',Inv X pins σ' H' s'∧D.ct σ' H'
  | .ret u=>∃ v σ' H',Inv X pins σ' H' s'∧RelV v u∧D.rt v H'
def PE (X:Cx) (e:Expr) (t:TE):Prop :=
  ∀ (pins:List (Addr×Obj)) (s:Shared) (σ:St) (H:Hp) (Q:VK),Inv X pins σ H s→t σ H Q→wpAny ‹6› X.A (eval e X.env) ‹82› X.xe s
def PT (X:Cx) (e:Expr) (t:TT):Prop :=
  ∀ (pins:List (Addr×Obj)) (s:Shared) (σ:St) (H:Hp) (Q:Bool→Hp→Prop),Inv X pins σ H s→t σ H Q→wpAny ‹6› X.A (isTrue e X.env (eval e X.env)) (TP X pins σ Q) X.xe s
def PW (X:Cx) (e:Expr) (t:TT):Prop :=
  ∀ (whole:Sem Value) (pins:List (Addr×Obj)) (s:Shared) (σ:St) (H:Hp) (Q:Bool→Hp→Prop),Inv X pins σ H s→t σ H Q→wpAny ‹6› X.A (isTrue e X.env whole) (TP X pins σ Q) X.xe s
theorem PW.pt {X:Cx} {e:Expr} {t:TT} (h:PW X e t):PT X e t:=h _
def PA (X:Cx) (es:List Expr) (t:TA):Prop :=
  ∀ (pos:Pos) (pins:List (Addr×Obj)) (s:Shared) (σ:St) (H:Hp) (Q:List V→Hp→Prop),Inv X pins σ H s→t σ H Q→wpAny ‹6› X.A (spliced (backTo pos ‹119›)) (AP X pins σ Q) X.xe s
def PS (X:Cx) (st:Stmt) (t:TS):Prop :=
  ∀ (pins:List (Addr×Obj)) (s:Shared) (σ:St) (H:Hp) (D:Ends),Inv X pins σ H s→t D σ H→wpAny ‹6› X.A (exec st X.env) (SP X pins D) X.xe s
def PSs (X:Cx) (st:List Stmt) (t:TS):Prop :=
  ∀ (pins:List (Addr×Obj)) (s:Shared) (σ:St) (H:Hp) (D:Ends),Inv X pins σ H s→t D σ H→wpAny ‹6› X.A (execs st X.env) (SP X pins D) X.xe s
theorem thn {α:Type} {t:Sem α} {Q Q':α→Shared→Prop} {M:Model} {A:Around} {E:Value→Shared→Prop} {s:Shared} (h:wpAny M A t Q E s) (hQ:∀ a s,Q a s→Q' a s):wpAny M A t Q' E s:=wpAny_mono h hQ fun _ _ x=>x
end L2
namespace L2
open PySem PySem.Spec PyProof.Rows
section
variable {X:Cx}
def tVar (i:Nat):TE:=fun σ H Q=>∃ v,σ[i]?=some (some v)∧Q v H
def tC (v:V):TE:=fun _ H Q=>Q v H
theorem z1p {i:Nat} {x:Str} {pos:Pos} (hN:X.N[i]?=some x) (hv:Vis X.env.scope x) (hd:(x==("__debug__" : Str))=false:=by decide) (hcd:(x==("__classdict__" : Str))=false:=by decide):PE X (.Name x pos) (tVar i):=by
  intro pins s σ H Q I h
  obtain ⟨v,e,h⟩:=h
  obtain ⟨m,hn,hl⟩:=I.loc
  obtain ⟨u,r,l⟩:=hl i x v hN e hv
  have fin:EP X pins σ Q u s:=⟨v,H,I,r,h⟩
  rcases l with ⟨hk,hm⟩ | ⟨hk,c,hc,hcell⟩
  · exact wpAny_Name (wpAny_loadName_local I.ok.kind hk hn hm fin) hd
  · rcases hk with hk | hk
    · exact wpAny_Name (wpAny_loadName_cell I.ok.kind hk hc hcell fin) hd
    · exact wpAny_Name (wpAny_loadName_free I.ok.kind hk hc hcell fin hcd) hd
theorem zaf {i j pos}:PE X (.Constant (.int i) j pos) (tC (.int i)):=fun _ _ _ H _ I h=>wpAny_Constant_int ⟨.int i,H,I.tok _,⟨_,rfl⟩,h⟩
theorem zev {b j pos}:PE X (.Constant (.bool b) j pos) (tC (.bl b)):=fun _ _ _ H _ I h=>Constant_bool ⟨.bl b,H,I,rfl,h⟩
theorem z46 {j pos}:PE X (.Constant .none j pos) (tC .non):=fun _ _ _ H _ I h=>Constant_none ⟨.non,H,I,rfl,h⟩
theorem zbk {x j pos}:PE X (.Constant (.str x) j pos) (tC (.str x)):=fun _ _ _ H _ I h=>Calls.Constant_str ⟨.str x,H,I.tok _,⟨_,rfl⟩,h⟩
def Gl (X:Cx) (x:Str):Prop:=X.env.kindOf x=some .globalImplicit
theorem zgc {E:Value→Shared→Prop} {pins:List (Addr×Obj)} {s:Shared} {σ:St} {H:Hp} {x:Str} {u:Value} {pos:Pos} {Q:Value→Shared→Prop} (I:Inv X pins σ H s) (hg:Gl X x) (hm:X.mg x=some u) (h:Q u s)
    (hd:(x==("__debug__" : Str))=false:=by decide):wpAny ‹6› X.A (eval (.Name x pos) X.env) Q E s :=
  Calls.Name_function_global I.ok.kind hg (Calls.loadGlobal_global (by rw [I.ok.glob]; exact I.mod.glob.keeps I.bk) hm h) hd
theorem zrl {E:Value→Shared→Prop} {pins:List (Addr×Obj)} {s:Shared} {σ:St} {H:Hp} {x:Str} {u:Value} {pos:Pos} {Q:Value→Shared→Prop} (I:Inv X pins σ H s) (hg:Gl X x) (hm:X.mg x=none) (hv:bootBuiltins x=some u) (h:Q u s)
    (hn:x ≠ "__name__" := by decide) (hd:(x==("__debug__" : Str))=false:=by decide):wpAny ‹6› X.A (eval (.Name x pos) X.env) Q E s:=by
  obtain ⟨mb,h1,h2⟩:=I.mod.blt
  exact Calls.Name_function_global I.ok.kind hg (Calls.loadGlobal_builtin (by rw [I.ok.glob]; exact I.mod.glob.keeps I.bk) hm (by rw [I.ok.blt]; exact h1.keeps I.bk) ((h2 x hn).trans hv) h) hd
theorem zf9 {x:Str} {v:V} {u:Value} {pos:Pos} (hg:Gl X x) (hm:X.mg x=some u) (r:RelV v u) (hd:(x==("__debug__" : Str))=false:=by decide):PE X (.Name x pos) (tC v) :=
  fun _ _ _ H _ I h=>zgc I hg hm ⟨v,H,I,r,h⟩ hd
theorem zxu {x:Str} {v:V} {u:Value} {pos:Pos} (hg:Gl X x) (hm:X.mg x=none) (hv:bootBuiltins x=some u) (r:RelV v u) (hn:x ≠ "__name__" := by decide) (hd:(x==("__debug__" : Str))=false:=by decide):PE X (.Name x pos) (tC v) :=
  fun _ _ _ H _ I h=>zrl I hg hm hv ⟨v,H,I,r,h⟩ hn hd
variable {a b:Expr} {ta tb:TE} {pos:Pos}
variable {tA tB':TT} {rest:List Expr}
def tAnd (t u:TT):TT:=fun σ H Q=>t σ H fun c H1=>if c=true then u σ H1 Q else Q false H1
def tOr (t u:TT):TT:=fun σ H Q=>t σ H fun c H1=>if c=true then Q true H1 else u σ H1 Q
def tNot (t:TT):TT:=fun σ H Q=>t σ H fun c H1=>Q (!c) H1
theorem zxm (ha:PT X a tA):PW X (.BoolOp .And [a] pos) tA:=by
  intro wh pins s σ H Q I h
  refine isTrue_and (thn (ha pins s σ H Q I h) fun c s1 e=>?_)
  cases c with
  | true=>exact isTrue_and_nil e
  | false=>exact e
theorem zhd (ha:PT X a tA):PW X (.BoolOp .Or [a] pos) tA:=by
  intro wh pins s σ H Q I h
  refine isTrue_or (thn (ha pins s σ H Q I h) fun c s1 e=>?_)
  cases c with
  | false=>exact isTrue_or_nil e
  | true=>exact e
theorem z1n (ha:PT X a tA) (hb:PW X (.BoolOp .And (b::rest) pos) tB'):PW X (.BoolOp .And (a::b::rest) pos) (tAnd tA tB'):=by
  intro wh pins s σ H Q I h
  refine isTrue_and (thn ‹66› fun c s1 ⟨H1,I1,q1⟩=>?_)
  cases c with
  | true=>exact hb wh pins s1 σ H1 Q I1 q1
  | false=>exact ⟨H1,I1,q1⟩
theorem zi3 (ha:PT X a tA) (hb:PW X (.BoolOp .Or (b::rest) pos) tB'):PW X (.BoolOp .Or (a::b::rest) pos) (tOr tA tB'):=by
  intro wh pins s σ H Q I h
  refine isTrue_or (thn ‹66› fun c s1 ⟨H1,I1,q1⟩=>?_)
  cases c with
  | true=>exact ⟨H1,I1,q1⟩
  | false=>exact hb wh pins s1 σ H1 Q I1 q1
theorem zc5 (ha:PT X a tA):PT X (.UnaryOp .Not a pos) (tNot tA):=by
  intro pins s σ H Q I h
  exact isTrue_not (ha pins s σ H (fun c H1=>Q (!c) H1) I h)
def z4e (ta tb:TE):TE:=fun σ H Q=>ta σ H fun x H1=>∃ c,x=.bl c∧if c=true then tb σ H1 Q else Q (.bl false) H1
def tOrV (ta tb:TE):TE:=fun σ H Q=>ta σ H fun x H1=>∃ c,x=.bl c∧if c=true then Q (.bl true) H1 else tb σ H1 Q
def z4c (ta:TE):TE:=fun σ H Q=>ta σ H fun x H1=>∃ c,x=.bl c∧Q (.bl (!c)) H1
theorem zjo {op} {t:TE} (h:PE X a t):PE X (.BoolOp op [a] pos) t:=fun pins s σ H Q I hw=>BoolOp_one (h pins s σ H Q I hw)
theorem zim (ha:PE X a ta) (hb:PE X (.BoolOp .And (b::rest) pos) tb):PE X (.BoolOp .And (a::b::rest) pos) (z4e ta tb):=by
  intro pins s σ H Q I h
  refine BoolOp_and (thn ‹66› fun v s1 ⟨x,H1,I1,r1,q1⟩=>?_)
  obtain ⟨c,rfl,q1⟩:=q1
  cases r1
  refine wpAny_truthy_bool ?_
  cases c with
  | true=>exact hb pins s1 σ H1 Q I1 q1
  | false=>exact ⟨.bl false,H1,I1,rfl,q1⟩
theorem z45 (ha:PE X a ta) (hb:PE X (.BoolOp .Or (b::rest) pos) tb):PE X (.BoolOp .Or (a::b::rest) pos) (tOrV ta tb):=by
  intro pins s σ H Q I h
  refine BoolOp_or (thn ‹66› fun v s1 ⟨x,H1,I1,r1,q1⟩=>?_)
  obtain ⟨c,rfl,q1⟩:=q1
  cases r1
  refine wpAny_truthy_bool ?_
  cases c with
  | false=>exact hb pins s1 σ H1 Q I1 q1
  | true=>exact ⟨.bl true,H1,I1,rfl,q1⟩
theorem z1q (ha:PE X a ta):PE X (.UnaryOp .Not a pos) (z4c ta):=by
  intro pins s σ H Q I h
  refine UnaryOp_ (thn ‹66› fun v s1 ⟨x,H1,I1,r1,q1⟩=>?_)
  obtain ⟨c,rfl,q1⟩:=q1
  cases r1
  exact not_of (wpAny_truthy_bool ⟨.bl (!c),H1,I1,rfl,q1⟩)
def tIf (t:TT) (ta tb:TE):TE:=fun σ H Q=>t σ H fun c H1=>if c=true then ta σ H1 Q else tb σ H1 Q
theorem zzy {c:Expr} (hc:PT X c tA) (ha:PE X a ta) (hb:PE X b tb):PE X (.IfExp c a b pos) (tIf tA ta tb):=by
  intro pins s σ H Q I h
  refine wpAny_IfExp (thn (hc pins s σ H _ I h) fun d s1 ⟨H1,I1,q1⟩=>?_)
  cases d with
  | true=>exact ha pins s1 σ H1 Q I1 q1
  | false=>exact hb pins s1 σ H1 Q I1 q1
end
end L2
namespace L2
open PySem PySem.Spec PyProof.Rows
def SqL (K:PySem.W.Frag) (H:Hp) (a:Addr) (xs:List V):Prop :=
  Rd H a (.lst xs) ∨
    ∃ (o:Obj) (its:Array Value) (n:Nat),K.lookup a=some o∧o.cls=.type "list" ∧ o.dict=none∧o.data=.seq its n∧its.size≤sizeLine∧Vals xs its.toList
def SqT (K:PySem.W.Frag) (H:Hp) (a:Addr) (xs:List V):Prop :=
  Rd H a (.tup xs) ∨
    ∃ (o:Obj) (its:Array Value) (n:Nat),K.lookup a=some o∧o.cls=.type "tuple" ∧ o.data=.seq its n∧its.size≤sizeLine∧Vals xs its.toList
def absV:Value→Option V
  | .none=>some .non
  | .bool b=>some (.bl b)
  | .int i _=>some (.int i)
  | .str x _=>some (.str x)
  | .bytes b _=>some (.byt b)
  | .float b _=>some (.flt b)
  | .ref a=>some (.ref a)
  | .type n=>some (.ty n)
  | _=>none
theorem RelV.abs {x:V} {u:Value} (r:RelV x u):absV u=some x:=by
  cases x with
  | non=>cases r; rfl
  | bl _=>cases r; rfl
  | int _=>obtain ⟨t,rfl⟩:=r; rfl
  | str _=>obtain ⟨t,rfl⟩:=r; rfl
  | byt _=>obtain ⟨t,rfl⟩:=r; rfl
  | flt _=>obtain ⟨t,rfl⟩:=r; rfl
  | ref _=>cases r; rfl
  | ty _=>cases r; rfl
theorem RelV.inj {x y:V} {u:Value} (r:RelV x u) (q:RelV y u):x=y:=Option.some.inj (r.abs.symm.trans q.abs)
theorem Vals.inj:∀ {xs ys:List V} {us:List Value},Vals xs us→Vals ys us→xs=ys
  | _,_,_,.nil,.nil=>rfl
  | _,_,_,.cons r t,.cons r' t'=>by rw [r.inj r',Vals.inj t t']
section
variable {X:Cx} {pins:List (Addr×Obj)} {σ:St} {H:Hp} {s:Shared} {a:Addr} {xs ys:List V}
theorem SqL.of {K:PySem.W.Frag} (h:H a=some (.lst xs)):SqL K H a xs:=.inl (.inl h)
theorem Inv.list (I:Inv X pins σ H s) (h:SqL X.K H a xs):∃ its:List Value,Vals xs its∧PlainL s.heap a its.toArray∧xs.length≤sizeLine:=by
  rcases h with h | ⟨o,its,n,hk,hc,hd,hs,hz,r⟩
  · obtain ⟨z,its,n,r,e⟩:=h.ok I.hok
    exact ⟨its,r,⟨_,n,e,rfl,rfl,rfl⟩,z⟩
  · refine ⟨its.toList,r,⟨o,n,I.kIn a o hk,hc,hd,by simpa using hs⟩,?_⟩
    have e:=r.length
    simp only [Array.length_toList] at e
    omega
theorem Inv.tuple (I:Inv X pins σ H s) (h:SqT X.K H a xs):∃ its:List Value,Vals xs its∧IsTup s.heap a its.toArray∧xs.length≤sizeLine:=by
  rcases h with h | ⟨o,its,n,hk,hc,hs,hz,r⟩
  · obtain ⟨z,its,r,p⟩:=h.ok I.hok
    exact ⟨its,r,p,z⟩
  · refine ⟨its.toList,r,⟨o,I.kIn a o hk,hc,n,by simpa using hs⟩,?_⟩
    have e:=r.length
    simp only [Array.length_toList] at e
    omega
theorem Inv.list_inj (I:Inv X pins σ H s) (h:SqL X.K H a xs) (h':SqL X.K H a ys):xs=ys:=by
  obtain ⟨its,r,⟨o,n,e,_,_,d⟩,_⟩:=I.list h
  obtain ⟨its',r',⟨o',n',e',_,_,d'⟩,_⟩:=I.list h'
  rw [e] at e'; cases e'
  rw [d] at d'
  injection d' with d1 _
  have:its=its':=by simpa using congrArg Array.toList d1
  subst this
  exact r.inj r'
end
abbrev Cx.wish (X:Cx) (E:Value→Shared→Prop):Cx:={ X with xe:=E }
abbrev Cx.nox (X:Cx):Cx:=X.wish fun _ _=>False
theorem Cx.Ok.wish {X:Cx} (ok:X.Ok) (E:Value→Shared→Prop):(X.wish E).Ok :=
  ⟨ok.mod,ok.kind,ok.glob,ok.blt,ok.above,ok.inj,ok.has,ok.cab,ok.hd,ok.frames,ok.stk,ok.exf,ok.bs,ok.bsz,ok.noex,ok.exfs,ok.funs,ok.frf⟩
theorem Cx.Ok.unwish {X:Cx} {E:Value→Shared→Prop} (ok:(X.wish E).Ok):X.Ok :=
  ⟨ok.mod,ok.kind,ok.glob,ok.blt,ok.above,ok.inj,ok.has,ok.cab,ok.hd,ok.frames,ok.stk,ok.exf,ok.bs,ok.bsz,ok.noex,ok.exfs,ok.funs,ok.frf⟩
section
variable {X:Cx} {pins:List (Addr×Obj)} {σ:St} {H:Hp} {s:Shared} {E:Value→Shared→Prop}
theorem Inv.wish (I:Inv X pins σ H s) (E:Value→Shared→Prop):Inv (X.wish E) pins σ H s:=⟨I.ok.wish E,I.os,I.bare,I.base,I.loc,I.cell,I.free,I.freeC,I.pin,I.hok,I.len⟩
theorem Inv.unwish (I:Inv (X.wish E) pins σ H s):Inv X pins σ H s:=⟨I.ok.unwish,I.os,I.bare,I.base,I.loc,I.cell,I.free,I.freeC,I.pin,I.hok,I.len⟩
theorem SP.unwish {D:Ends} {f:Flow} {s':Shared} (h:SP (X.wish E) pins D f s'):SP X pins D f s':=by
  cases f with
  | next=>obtain ⟨σ',H',I,q⟩:=h; exact ⟨σ',H',I.unwish,q⟩
  | brk=>obtain ⟨σ',H',I,q⟩:=h; exact ⟨σ',H',I.unwish,q⟩
  | cont=>obtain ⟨σ',H',I,q⟩:=h; exact ⟨σ',H',I.unwish,q⟩
  | ret u=>obtain ⟨v,σ',H',I,r,q⟩:=h; exact ⟨v,σ',H',I.unwish,r,q⟩
theorem PSs.nox {st:List Stmt} {t:TS} (h:PSs X.nox st t):PSs X st t:=fun pins s σ H D I hw =>
  wpAny_mono (h pins s σ H D (I.wish _) hw) (fun _ _ q=>q.unwish) fun _ _ z=>False.elim z
end
section
variable {X:Cx} {st:Stmt} {rest:List Stmt} {t u:TS} {e:Expr} {te:TE} {pos:Pos}
def z2n:TS:=fun D σ H=>D.nx σ H
def tSeq (t u:TS):TS:=fun D σ H=>t { D with nx:=u D } σ H
theorem zaw:PSs X [] z2n:=fun _ _ σ H _ I h=>wpAny_execs_nil ⟨σ,H,I,h⟩
theorem zag (h1:PS X st t) (h2:PSs X rest u):PSs X (st::rest) (tSeq t u):=by
  intro pins s σ H D I h
  refine wpAny_execs_cons (thn (h1 pins s σ H { D with nx:=u D } I h) fun f s1 q=>?_)
  cases f with
  | next =>
    obtain ⟨σ',H',I',q⟩:=q
    exact h2 pins s1 σ' H' D I' q
  | ret v=>exact q
  | brk=>exact q
  | cont=>exact q
theorem zah (h1:PS X st t):PSs X [st] t:=by
  intro pins s σ H D I h
  refine wpAny_execs_cons (thn (h1 pins s σ H D I h) fun f s1 q=>?_)
  cases f with
  | next=>exact wpAny_execs_nil q
  | ret v=>exact q
  | brk=>exact q
  | cont=>exact q
theorem Inv.quiet {pins:List (Addr×Obj)} {σ:St} {H:Hp} {s:Shared} (I:Inv X pins σ H s):interactive X.env=false:=by simp [interactive,I.ok.kind]
def zzm (te:TE):TS:=fun D σ H=>te σ H fun _ H1=>D.nx σ H1
theorem z27 (he:PE X e te) (hs:swapsWith e none pos.line X.env=pure false:=by rfl):PS X (.Expr e pos) (zzm te):=by
  intro pins s σ H D I h
  exact wpAny_Expr_any (thn (he pins s σ H _ I h) fun v s1 ⟨x,H1,I1,r1,q1⟩=>⟨σ,H1,I1,q1⟩) I.quiet hs
def tRet (te:TE):TS:=fun D σ H=>te σ H D.rt
theorem zaz (he:PE X e te):PS X (.Return (some e) pos) (tRet te):=by
  intro pins s σ H D I h
  exact wpAny_Return_some (thn (he pins s σ H _ I h) fun v s1 ⟨x,H1,I1,r1,q1⟩=>⟨x,σ,H1,I1,r1,q1⟩)
def tIfS (c:TT) (t u:TS):TS:=fun D σ H=>c σ H fun b H1=>if b=true then t D σ H1 else u D σ H1
theorem zbt {c:Expr} {a b:List Stmt} {tc:TT} (hc:PT X c tc) (ha:PSs X a t) (hb:PSs X b u):PS X (.If c a b pos) (tIfS tc t u):=by
  intro pins s σ H D I h
  refine wpAny_If (thn (hc pins s σ H _ I h) fun d s1 ⟨H1,I1,q1⟩=>?_)
  cases d with
  | true=>exact ha pins s1 σ H1 D I1 q1
  | false=>exact hb pins s1 σ H1 D I1 q1
def zwe:TS:=fun _ _ _=>False
theorem zci:PS X st zwe:=fun _ _ _ _ _ _ h=>h.elim
theorem zhe {sts:List Stmt}:PSs X sts zwe:=fun _ _ _ _ _ _ h=>h.elim
end
abbrev TG:=V→St→Hp→(St→Hp→Prop)→Prop
abbrev TGs:=List V→St→Hp→(St→Hp→Prop)→Prop
def PG (X:Cx) (target:Expr) (t:TG):Prop :=
  ∀ (pins:List (Addr×Obj)) (s:Shared) (σ:St) (H:Hp) (v:V) (u:Value) (Q:St→Hp→Prop),Inv X pins σ H s→RelV v u→t v σ H Q →
    wpAny ‹6› X.A (assign target X.env u) (fun _ s'=>∃ σ' H',Inv X pins σ' H' s'∧Q σ' H') X.xe s
def PGs (X:Cx) (ts:List Expr) (t:TGs):Prop :=
  ∀ (pins:List (Addr×Obj)) (s:Shared) (σ:St) (H:Hp) (vs:List V) (us:List Value) (Q:St→Hp→Prop),Inv X pins σ H s→Vals vs us→t vs σ H Q →
    wpAny ‹6› X.A (assignInOrder ((assignEach ts X.env).map (·.2)) us) (fun _ s'=>∃ σ' H',Inv X pins σ' H' s'∧Q σ' H') X.xe s
abbrev TSet:=V→V→V→Hp→(Hp→Prop)→Prop
def PSet (X:Cx) (t:TSet):Prop :=
  ∀ (pins:List (Addr×Obj)) (s:Shared) (σ:St) (H:Hp) (o i v:V) (ov iv u:Value) (Q:Hp→Prop),Inv X pins σ H s→RelV o ov→RelV i iv→RelV v u→t o i v H Q →
    wpAny ‹6› X.A (setItem ov iv u) (fun _ s'=>∃ H',Inv X pins σ H' s'∧Q H') X.xe s
abbrev TIp:=V→V→Hp→VK→Prop
def PIp (X:Cx) (op:Operator) (t:TIp):Prop :=
  ∀ (pins:List (Addr×Obj)) (s:Shared) (σ:St) (H:Hp) (x y:V) (v u:Value) (Q:VK),Inv X pins σ H s→RelV x v→RelV y u→t x y H Q →
    wpAny ‹6› X.A (inplaceOp op v u) ‹82› X.xe s
section
variable {X:Cx} {pos:Pos}
def zmz (i:Nat):TG:=fun v σ H Q=>Q (σ.set i (some v)) H
theorem zc9 {i:Nat} {x:Str} (hN:X.N.Nodup) (hi:X.N[i]?=some x) (hx:Loc X.env.scope x) (hf:X.fn x=true∨X.env.scope.names.lookup x=some .local:=by first | exact .inl rfl | exact .inr rfl | assumption):PG X (.Name x pos) (zmz i):=by
  intro pins s σ H v u Q I r h
  exact wpAny_assign_Name (zlk I hN hi hx r (fun s' I'=>⟨_,H,I',h⟩) hf)
def gNil:TGs:=fun vs σ H Q=>vs=[]∧Q σ H
def z3q (t:TG) (u:TGs):TGs:=fun vs σ H Q=>∃ v r,vs=v::r∧t v σ H fun σ' H'=>u r σ' H' Q
theorem zsl:PGs X [] gNil:=by
  intro pins s σ H vs us Q I r h
  obtain ⟨e,h⟩:=h
  subst e
  cases r
  exact assignInOrder_nil ⟨σ,H,I,h⟩
theorem zh3 {e:Expr} {es:List Expr} {t:TG} {u:TGs} (h1:PG X e t) (h2:PGs X es u)
    (hs:(assignEach (e::es) X.env).map (·.2)=assign e X.env::‹116›.map (·.2):=by rfl):PGs X (e::es) (z3q t u):=by
  intro pins s σ H vs us Q I r h
  obtain ⟨v,vr,e1,h⟩:=h
  subst e1
  cases r with
  | cons r rr =>
    rw [hs]
    refine assignInOrder_cons (thn (h1 pins s σ H _ _ _ I r h) fun _ s1 ⟨σ1,H1,I1,q1⟩=>?_)
    exact h2 pins s1 σ1 H1 _ _ Q I1 rr q1
def gTup (K:PySem.W.Frag) (n:Nat) (t:TGs):TG:=fun v σ H Q=>∃ a xs,v=.ref a∧SqT K H a xs∧xs.length=n∧t xs σ H Q
theorem z42 {es:List Expr} {k:Nat} {t:TGs} {n:Nat} (hc:X.calm=true) (h:PGs X es t)
    (hn:‹116›.length=n:=by rfl) (hst:‹116›.findIdx? (·.1)=none:=by rfl):PG X (.Tuple es k pos) (gTup X.K n t):=by
  intro pins s σ H v u Q I r hw
  obtain ⟨a,xs,e1,hq,hl,hw⟩:=hw
  subst e1
  cases r
  obtain ⟨its,rv,ht,hz⟩:=I.tuple hq
  refine assign_Tuple_tuple (I.ok.hd hc) ht (by simp [hn,← hl,rv.length]) hst fun h' hx=>?_
  have I1:Inv X pins σ H { s with heap:=h' }:=I.kept (t':=s.toks) fun b o e=>hx b o (Nat.ne_of_lt (Heap.lt_size e)) e
  exact h pins _ σ H xs _ Q I1 (by simpa using rv) hw
def gSub (to ti:TE) (t:TSet):TG:=fun v σ H Q=>to σ H fun o H1=>ti σ H1 fun i H2=>t o i v H2 fun H3=>Q σ H3
theorem zq1 {o i:Expr} {to ti:TE} {t:TSet} (ho:PE X o to) (hi:PE X i ti) (hs:PSet X t)
    (ha:∀ v,assign (.Subscript o i pos) X.env v=(do
      let ov ← holding [v] (eval o X.env)
      let iv ← holding [v,ov] (eval i X.env)
      standAt pos
      holding [v,ov,iv] (setItem ov iv v)
      release [v,ov,iv] []):=by intro _; rfl):PG X (.Subscript o i pos) (gSub to ti t):=by
  intro pins s σ H v u Q I r h
  rw [ha]
  refine wpAny_bind (wpAny_holding (thn (ho pins s σ H _ I h) fun ov s1 ⟨x,H1,I1,r1,q1⟩=>?_))
  refine wpAny_bind (wpAny_holding (thn (hi pins s1 σ H1 _ I1 q1) fun iv s2 ⟨y,H2,I2,r2,q2⟩=>?_))
  refine wpAny_bind (wpAny_standAt (wpAny_bind (wpAny_holding (thn (hs pins s2 σ H2 x y v ov iv u _ I2 r1 r2 r q2) fun _ s3 ⟨H3,I3,q3⟩=>?_))))
  exact wpAny_release ⟨σ,H3,I3,q3⟩
def tAsg (te:TE) (g:TG):TS:=fun D σ H=>te σ H fun x H1=>g x σ H1 D.nx
theorem zq0 {tg e:Expr} {te:TE} {g:TG} (he:PE X e te) (hg:PG X tg g) (hs:swapsWithSole [tg] e pos.line X.env=pure false:=by rfl) (hw:swappedStores [tg] e X.env=pure none:=by rfl)
    (h1:(assignEach [tg] X.env).map (·.2)=[assign tg X.env]:=by rfl):PS X (.Assign [tg] e pos) (tAsg te g):=by
  intro pins s σ H D I h
  refine wpAny_Assign_stores (thn (he pins s σ H _ I h) fun v s1 ⟨x,H1,I1,r1,q1⟩=>?_) hs hw
  rw [h1]
  exact thn (hg pins s1 σ H1 x v _ I1 r1 q1) fun _ s2 q=>q
theorem zbe {i:Nat} {x:Str} {e:Expr} {te:TE} {pos':Pos} (hN:X.N.Nodup) (hi:X.N[i]?=some x) (hx:Loc X.env.scope x) (he:PE X e te) (hs:swapsWith e (some (.Name x pos')) pos.line X.env=pure false:=by rfl) (hf:X.fn x=true∨X.env.scope.names.lookup x=some .local:=by first | exact .inl rfl | exact .inr rfl | assumption) :
    PS X (.Assign [.Name x pos'] e pos) (tAsg te (zmz i)):=by
  intro pins s σ H D I h
  refine wpAny_Assign_Name (thn (he pins s σ H _ I h) fun v s1 ⟨y,H1,I1,r1,q1⟩=>?_) hs
  exact zlk I1 hN hi hx r1 (fun s2 I2=>⟨_,H1,I2,q1⟩) hf
def tAug (i:Nat) (te:TE) (ti:TIp):TS:=fun D σ H=>∃ x,σ[i]?=some (some x)∧te σ H fun y H1=>ti x y H1 fun z H2=>D.nx (σ.set i (some z)) H2
theorem z1o {i:Nat} {x:Str} {e:Expr} {te:TE} {op:Operator} {ti:TIp} {pos':Pos} (hN:X.N.Nodup) (hi:X.N[i]?=some x) (hx:Loc X.env.scope x) (he:PE X e te) (ho:PIp X op ti) (hf:X.fn x=true∨X.env.scope.names.lookup x=some .local:=by first | exact .inl rfl | exact .inr rfl | assumption) :
    PS X (.AugAssign (.Name x pos') op e pos) (tAug i te ti):=by
  intro pins s σ H D I h
  obtain ⟨v,e1,h⟩:=h
  obtain ⟨m,hn,hl⟩:=I.loc
  have vis:Vis X.env.scope x:=by rcases hx with k | k; exact .inl k; exact .inr (.inl k)
  obtain ⟨u,r,l⟩:=hl i x v hi e1 vis
  refine wpAny_AugAssign_Name ?_
  have go:wpAny ‹6› X.A (eval e X.env) (fun w s₂=>wpAny ‹6› X.A (inplaceOp op u w) (fun r s₃=>wpAny ‹6› X.A (storeName X.env x r) (fun _=>SP X pins D .next) X.xe s₃) X.xe s₂) X.xe s:=by
    refine thn (he pins s σ H _ I h) fun w s1 ⟨y,H1,I1,r1,q1⟩=>?_
    refine thn (ho pins s1 σ H1 v y u w _ I1 r r1 q1) fun z s2 ⟨zv,H2,I2,r2,q2⟩=>?_
    exact zlk I2 hN hi hx r2 (fun s3 I3=>⟨_,H2,I3,q2⟩) hf
  rcases l with ⟨hk,hm⟩ | ⟨hk,c,hc,hcell⟩
  · exact wpAny_loadName_local I.ok.kind hk hn hm go
  · rcases hk with hk | hk
    · exact wpAny_loadName_cell I.ok.kind hk hc hcell go
    · rcases hx with k | k
      · have:X.env.scope.names.lookup x=some .free:=hk
        rw [k] at this; cases this
      · have:X.env.scope.names.lookup x=some .free:=hk
        rw [k] at this; cases this
def ipI (f:Int→Int→Int):TIp:=fun x y H Q=>∃ i j,x=.int i∧y=.int j∧Q (.int (f i j)) H
theorem z1v:PIp X .Add (ipI fun i j=>i+j):=by
  intro pins s σ H x y v u Q I r1 r2 h
  obtain ⟨i,j,e1,e2,q⟩:=h
  subst e1; subst e2
  obtain ⟨t,rfl⟩:=r1
  obtain ⟨t',rfl⟩:=r2
  exact iadd_int ⟨.int _,H,I.tok _,⟨_,rfl⟩,q⟩
end
section
variable {X:Cx} {pos:Pos}
def z06 (c:TT) (tb:TS):TS:=fun D σ H=>∃ W:Nat→St→Hp→Prop,(∃ m,W m σ H)∧∀ m σ H,W m σ H →
  c σ H fun b H1=>if b=true then ∃ N:St→Hp→Prop,(∀ σ' H',N σ' H'→∃ m',m'<m∧W m' σ' H')∧tb { D with nx:=N,ct:=N,bk:=D.nx } σ H1 else D.nx σ H1
theorem ztw {c:Expr} {body:List Stmt} {tc:TT} {tb:TS} (hp:PassesOwn ‹6› X.A X.env X.xe) (hc:PT X c tc) (hb:PSs X body tb):PS X (.While c body [] pos) (z06 tc tb):=by
  intro pins s σ H D I h
  obtain ⟨W,⟨m0,w0⟩,turn⟩:=h
  refine wpAny_While (codeAny_whileLoop (fun n s'=>∃ σ' H',Inv X pins σ' H' s'∧W n σ' H') ?_ m0 ⟨σ,H,I,w0⟩)
  rintro n s1 ⟨σ1,H1,I1,w1⟩
  refine wpAny_passesOwn hp (thn (hc pins s1 σ1 H1 _ I1 (turn n σ1 H1 w1)) fun b s2 ⟨H2,I2,q2⟩=>?_)
  cases b with
  | true =>
    obtain ⟨N,hN,q2⟩:=q2
    rw [if_pos rfl]
    refine wpAny_passesOwn hp (thn (hb pins s2 σ1 H2 _ I2 q2) fun f s3 q3=>?_)
    cases f with
    | next =>
      obtain ⟨σ3,H3,I3,n3⟩:=q3
      obtain ⟨m',hm,w3⟩:=hN σ3 H3 n3
      exact ⟨m',hm,σ3,H3,I3,w3⟩
    | cont =>
      obtain ⟨σ3,H3,I3,n3⟩:=q3
      obtain ⟨m',hm,w3⟩:=hN σ3 H3 n3
      exact ⟨m',hm,σ3,H3,I3,w3⟩
    | brk=>exact q3
    | ret v=>exact q3
  | false =>
    rw [if_neg Bool.false_ne_true]
    exact wpAny_execs_nil ⟨σ1,H2,I2,q2⟩
end
structure It where
  go:Nat→Hp→Prop
  yld:Nat→Hp→V→Hp→Prop
  stop:Nat→Hp→Prop
def FpOk (X:Cx) (pins:List (Addr×Obj)) (H:Hp) (b:Addr):Prop :=
  H b=none∧b≠X.env.locals∧b∉X.fs∧‹98›∧(∀ x c,X.env.cells.lookup x=some c→c≠b)∧∀ p∈X.pn++pins,p.1≠b
theorem Inv.fpOk {X:Cx} {pins:List (Addr×Obj)} {σ:St} {H H':Hp} {s:Shared} {b:Addr} (I:Inv X pins σ H s) (hb:s.heap.objs.size≤b) (hn:H' b=none):FpOk X pins H' b:=by
  refine ⟨hn,Nat.ne_of_gt (Nat.lt_of_lt_of_le I.lt hb),I.nofs hb,.inr (Nat.le_trans I.sz hb),fun x c e z=>?_,fun p hp z=>?_⟩
  · obtain ⟨v,q⟩:=I.cell x c e
    exact absurd (Nat.lt_of_lt_of_le q.lt (by rw [z]; exact hb)) ‹122›
  · exact absurd (Nat.lt_of_lt_of_le (Heap.lt_size (I.pin p hp).1) (by rw [z]; exact hb)) ‹122›
structure Turn (P:Program) (w:World) (K:PySem.W.Frag) (tg:Expr) (J:It) (fp:List Addr) (it:Addr) (tn:Nat→Heap→Prop):Prop where
  mem:it∈fp
  obj:∀ i h,tn i h→∀ b∈fp,∃ o,h.get? b=some o∧∀ v,o.data≠.cell v
  keep:∀ i h h',tn i h→(∀ b∈fp,∀ o,h.get? b=some o→h'.get? b=some o)→tn i h'
  item:∀ (X:Cx),X.prog=P→X.w=w→X.K=K→X.calm=true→∀ (i:Nat) (pins:List (Addr×Obj)) (s:Shared) (σ:St) (H:Hp) (E:Value→Shared→Prop),Inv X pins σ H s→(∀ b∈fp,FpOk X pins H b)→tn i s.heap→J.go i H →
    wpAny (model P w) X.A (pyNext (.ref it)) (fun r s1=>∃ u,r=some u ∧
      wpAny (model P w) X.A (letOwnedTupleGo tg (.ref it) u) (fun _ s2=>∃ x H',Inv X pins σ H' s2∧RelV x u∧J.yld i H x H'∧tn (i+1) s2.heap∧∀ b∈fp,H' b=none) E s1) E s
  done:∀ (X:Cx),X.prog=P→X.w=w→X.K=K→X.calm=true→∀ (i:Nat) (pins:List (Addr×Obj)) (s:Shared) (σ:St) (H:Hp) (E:Value→Shared→Prop),Inv X pins σ H s→(∀ b∈fp,FpOk X pins H b)→tn i s.heap→J.stop i H →
    wpAny (model P w) X.A (pyNext (.ref it)) (fun r s1=>r=none∧Inv X pins σ H s1) E s
  self:∀ (A:Around) (i:Nat) (s:Shared) (Q:Value→Shared→Prop) (E:Value→Shared→Prop),tn i s.heap→Q (.ref it) s→wpAny (model P w) A (pyIter (.ref it)) Q E s
abbrev TI:=St→Hp→(It→Hp→Prop)→Prop
def PIE (X:Cx) (pins:List (Addr×Obj)) (σ:St) (tg:Expr) (R:It→Hp→Prop) (itv:Value) (s2:Shared):Prop :=
  ∃ (it:Addr) (fp:List Addr) (tn:Nat→Heap→Prop) (J:It) (H':Hp),itv=.ref it∧Inv X pins σ H' s2∧Turn X.prog X.w X.K tg J fp it tn∧tn 0 s2.heap∧(∀ b∈fp,FpOk X pins H' b)∧R J H'
def PI (X:Cx) (tg iter:Expr) (wi:TI):Prop :=
  ∀ (pins:List (Addr×Obj)) (s:Shared) (σ:St) (H:Hp) (R:It→Hp→Prop),Inv X pins σ H s→wi σ H R →
    wpAny ‹6› X.A (eval iter X.env) (fun v s1=>wpAny ‹6› X.A (pyIter v) (PIE X pins σ tg R) X.xe s1) X.xe s
theorem z3p {M:Model} {A:Around} {E:Value→Shared→Prop} {s:Shared} {tg:Expr} {it:Addr} {u:Value} {o:Obj} {n:String} {vs:Array Value} {Q:Unit→Shared→Prop} (ho:s.heap.get? it=some o) (hc:o.cls=.type n) (hd:o.data=.fields vs)
    (hn:["enumerate", "zip", "dict_itemiterator", "dict_reverseitemiterator", "odict_iterator", "itertools.zip_longest", "itertools.pairwise"].contains n=false) (hQ:Q () s):wpAny M A (letOwnedTupleGo tg (.ref it) u) Q E s:=by
  unfold letOwnedTupleGo
  cases tg <;> first
    | exact wpAny_pure hQ
    | (cases u <;> first
        | exact wpAny_pure hQ
        | (refine wpAny_bind (wpAny_load ho ?_)
           rw [hc,hd]
           show wpAny M A (if (["enumerate", "zip", "dict_itemiterator", "dict_reverseitemiterator", "odict_iterator", "itertools.zip_longest", "itertools.pairwise"].contains n&&vs[0]?==some (rawInt _))=true then _ else _) Q E s
           rw [if_neg (by intro h; rw [hn,Bool.false_and] at h; cases h)]
           exact wpAny_pure hQ))
def Itl (K:PySem.W.Frag) (a:Addr):It :=
  ⟨fun i H=>∃ xs x,SqL K H a xs∧xs[i]?=some x,fun i H x H'=>H'=H∧∀ xs,SqL K H a xs→xs[i]?=some x,fun i H=>∃ xs,SqL K H a xs∧xs.length≤i⟩
def Itr (lo:Int) (n:Nat):It:=⟨fun i _=>i<n,fun i H x H'=>H'=H∧x=.int (lo+i),fun i _=>n≤i⟩
theorem zv8 {P:Program} {w:World} {K:PySem.W.Frag} {tg:Expr} (a it:Addr):Turn P w K tg (Itl K a) [it] it (fun i h=>h.IsListIter it a i) where
  mem:=by simp
  obj:=fun i h st b hb=>by
    have e:b=it:=by simpa using hb
    subst e
    obtain ⟨o,e,c,d⟩:=st
    exact ⟨o,e,fun v z=>by rw [d] at z; cases z⟩
  keep:=fun i h h' st k=>st.at fun o e=>k it (by simp) o e
  item:=by
    intro X hP hw hK hc i pins s σ H E I hf st hg
    subst hP hw hK
    obtain ⟨xs,x,hq,hx⟩:=hg
    obtain ⟨its,rv,p,hz⟩:=I.list hq
    obtain ⟨u,hu,ru⟩:=rv.get hx
    obtain ⟨f0,f1,f2,f3,f4,f5⟩:=hf it (by simp)
    refine wpAny_pyNext_list_item st p.isList (x:=u) (by simpa using hu) fun h' st' sb=>?_
    have I1:Inv X pins σ H { s with heap:=h' }:=I.turned (t':=s.toks) (fun b o hb e=>(sb.2 b hb).trans e) f0 f1 f3 f4 f5
    obtain ⟨o,e,c,d⟩:=id st'
    exact ⟨u,rfl,z3p (s:={ s with heap:=h' }) e c d ‹3› ⟨x,H,I1,ru,⟨rfl,fun ys hy=>by rw [I.list_inj hy hq]; exact hx⟩,st',fun b hb=>(hf b hb).1⟩⟩
  done:=by
    intro X hP hw hK hc i pins s σ H E I hf st hg
    subst hP hw hK
    obtain ⟨xs,hq,hx⟩:=hg
    obtain ⟨its,rv,p,hz⟩:=I.list hq
    obtain ⟨f0,f1,f2,f3,f4,f5⟩:=hf it (by simp)
    have hl:=rv.length
    exact wpAny_pyNext_list_end (I.ok.hd hc) st p.isList ‹55› fun h' eb=>⟨rfl,I.turned (t':=s.toks) (fun b o hb e=>eb b o hb e) f0 f1 f3 f4 f5⟩
  self:=fun _ _ _ _ _ st h=>wpAny_pyIter_listiter st h
theorem zus {P:Program} {w:World} {K:PySem.W.Frag} {tg:Expr} (it:Addr) (lo:Int) (n:Nat):Turn P w K tg (Itr lo n) [it] it (fun i h=>IsRangeIter h it (lo+(i:Nat)*1) ((n:Int)-(i:Nat)) 1) where
  mem:=by simp
  obj:=fun i h st b hb=>by
    have e:b=it:=by simpa using hb
    subst e
    exact ⟨_,st,fun v z=>by
      have z':Data.fields _=Data.cell v:=z
      cases z'⟩
  keep:=fun i h h' st k=>k it (by simp) _ st
  item:=by
    intro X hP hw hK hc i pins s σ H E I hf st hg
    subst hP hw hK
    obtain ⟨f0,f1,f2,f3,f4,f5⟩:=hf it (by simp)
    have W:=Walks.range (prog:=X.prog) (w:=X.w) (I.ok.hd hc) it lo 1 n
    refine W.item i s _ _ hg st fun v h' tk hv st' kk=>?_
    obtain ⟨t,rfl⟩:=hv
    have I1:Inv X pins σ H { s with heap:=h',toks:=tk }:=I.turned (fun b o hb e=>kk b o (by simpa using hb) e) f0 f1 f3 f4 f5
    refine ⟨_,rfl,z3p (s:={ s with heap:=h',toks:=tk }) (n := "range_iterator") st' rfl rfl ‹3› ⟨.int (lo+i),H,I1,⟨t,?_⟩,⟨rfl,rfl⟩,st',fun b hb=>(hf b hb).1⟩⟩
    rw [Int.mul_one]
  done:=by
    intro X hP hw hK hc i pins s σ H E I hf st hg
    subst hP hw hK
    obtain ⟨f0,f1,f2,f3,f4,f5⟩:=hf it (by simp)
    exact wpAny_pyNext_range_end (I.ok.hd hc) st (by have:n≤i:=hg; omega) fun h' eb=>⟨rfl,I.turned (t':=s.toks) (fun b o hb e=>eb b o hb e) f0 f1 f3 f4 f5⟩
  self:=fun _ _ _ _ _ st h=>wpAny_pyIter_rangeiter st h
end L2
namespace L2
open PySem PySem.Spec PyProof.Rows
section
variable {X:Cx} {tg:Expr}
def zyr (K:PySem.W.Frag) (tl:TE):TI:=fun σ H R=>tl σ H fun x H1=>∃ a,x=.ref a∧(∃ xs,SqL K H1 a xs)∧R (Itl K a) H1
theorem z28 {l:Expr} {tl:TE} (hl:PE X l tl):PI X tg l (zyr X.K tl):=by
  intro pins s σ H R I h
  refine thn (hl pins s σ H _ I h) fun v s1 ⟨x,H1,I1,r1,q1⟩=>?_
  obtain ⟨a,e,⟨xs,hq⟩,q⟩:=q1
  subst e
  cases r1
  obtain ⟨its,rv,p,hz⟩:=I1.list hq
  refine wpAny_pyIter_list p.isList ?_
  refine ⟨s1.heap.objs.size,[s1.heap.objs.size],_,_,H1,rfl,I1.kept (t':=s1.toks) fun b o e=>Heap.get?_push_of_some _ e,zv8 a _,⟨_,Heap.get?_push_size _ rfl,rfl,rfl⟩,fun b hb=>?_,q⟩
  have e:b=s1.heap.objs.size:=by simpa using hb
  subst e
  exact I1.fpOk ‹34› (I1.hok.fresh ‹34›)
theorem zzv {pins:List (Addr×Obj)} {σ:St} {H:Hp} {s:Shared} {R:It→Hp→Prop} {E:Value→Shared→Prop} {lo hi:Int} {t u v:Tok} {tk:Nat} (I:Inv X pins σ H s) (h1:-(2 ^ 62)≤lo) (h2:lo<2 ^ 62) (h3:-(2 ^ 62)≤hi) (h4:hi<2 ^ 62)
    (q:R (Itr lo (hi-lo).toNat) H):wpAny ‹6› X.A (pyIter (.ref s.heap.objs.size)) (PIE X pins σ tg R) E { s with heap:=s.heap.push { cls:=.type "range", data:=.fields #[.int lo t,.int hi u,.int 1 v] },toks:=tk }:=by
  refine wpAny_pyIter_range (IsRange.new ..) (small_one h1 h2 h3 h4) ?_
  have I1:Inv X pins σ H { s with heap:=s.heap.push { cls:=.type "range", data:=.fields #[.int lo t,.int hi u,.int 1 v] },toks:=tk }:=I.kept fun b o e=>Heap.get?_push_of_some _ e
  refine ⟨(s.heap.push { cls:=.type "range", data:=.fields #[.int lo t,.int hi u,.int 1 v] }).objs.size,[(s.heap.push { cls:=.type "range", data:=.fields #[.int lo t,.int hi u,.int 1 v] }).objs.size],_,_,H,rfl,
    I1.kept (t':=tk) fun b o e=>Heap.get?_push_of_some _ e,zus _ lo (hi-lo).toNat,?_,fun b hb=>?_,q⟩
  · have e1:lo+((0:Nat):Int)*1=lo:=by simp
    have e2:(((hi-lo).toNat:Nat):Int)-((0:Nat):Int)=Builtin.Range.rangeSize lo hi 1:=by rw [rangeSize_one]; split <;> omega
    show IsRangeIter _ _ (lo+((0:Nat):Int)*1) ((((hi-lo).toNat:Nat):Int)-((0:Nat):Int)) 1
    rw [e1,e2]
    exact Heap.get?_push_size _ rfl
  · have e:b=(s.heap.push { cls:=.type "range", data:=.fields #[.int lo t,.int hi u,.int 1 v] }).objs.size:=by simpa using hb
    subst e
    exact I1.fpOk ‹34› (I1.hok.fresh ‹34›)
def z5w (ta:TA):TI:=fun σ H R=>ta σ H fun vs H1=>∃ j:Int,vs=[.int j]∧-(2 ^ 62)≤j∧j<2 ^ 62∧R (Itr 0 j.toNat) H1
theorem zcu {a:Expr} {ta:TA} {p pos:Pos} (hg:Gl X "range") (hm:X.mg "range" = none) (ha:PA X [a] ta) (hs:starEach [a] X.env=[(false,eval a X.env)]:=by rfl):PI X tg (.Call (.Name "range" p) [a] [] pos) (z5w ta):=by
  intro pins s σ H R I h
  refine Call_ (zrl I hg hm boot_range (PyProof.Rows.callWith_type1 (thn (ha pos pins s σ H _ I h) fun us s1 ⟨vs,H1,I1,r1,q1⟩=>?_) hs rfl))
  obtain ⟨j,e,q1,q2,q⟩:=q1
  subst e
  cases r1 with
  | cons r rr =>
    cases rr
    obtain ⟨t,rfl⟩:=r
    exact call_range_1 (zzv I1 (by omega) (by omega) q1 q2 (by simpa using q))
def tFor (wi:TI) (g:TG) (tb:TS):TS:=fun D σ H=>wi σ H fun J H1=>∃ W:Nat→Nat→St→Hp→Prop,(∃ m,W 0 m σ H1)∧∀ i m σ H,W i m σ H →
  (J.stop i H∧D.nx σ H)∨(J.go i H∧∃ N:St→Hp→Prop,(∀ σ' H',N σ' H'→∃ m',m'<m∧W (i+1) m' σ' H')∧∀ x H',J.yld i H x H'→g x σ H' fun σ2 H2=>tb { D with nx:=N,ct:=N,bk:=D.nx } σ2 H2)
def znr (fp:List Addr) (h:Heap):List (Addr×Obj):=fp.filterMap fun b=>(h.get? b).map fun o=>(b,o)
theorem zeo {fp:List Addr} {h:Heap} {b:Addr} {o:Obj} (hb:b∈fp) (e:h.get? b=some o):(b,o)∈znr fp h:=List.mem_filterMap.mpr ⟨b,hb,by rw [e]; rfl⟩
theorem zx4 {fp:List Addr} {h:Heap} {p:Addr×Obj} (hp:p∈znr fp h):p.1∈fp∧h.get? p.1=some p.2:=by
  obtain ⟨b,hb,e⟩:=List.mem_filterMap.mp hp
  cases q:h.get? b with
  | none=>rw [q] at e; cases e
  | some o =>
    rw [q] at e
    have e':(b,o)=p:=Option.some.inj e
    subst e'
    exact ⟨hb,q⟩
theorem Inv.pinned {pins:List (Addr×Obj)} {σ:St} {H:Hp} {s:Shared} {fp:List Addr} (I:Inv X pins σ H s) (hf:∀ b∈fp,FpOk X pins H b) (ho:∀ b∈fp,∃ o,s.heap.get? b=some o∧∀ v,o.data≠.cell v):Inv X (pins++znr fp s.heap) σ H s :=
  I.pins_of fun p hp=>(List.mem_append.mp hp).elim (fun z=>I.pin p (List.mem_append_right _ z)) fun z=>by
    obtain ⟨hb,e⟩:=zx4 z
    obtain ⟨f0,f1,f2,_⟩:=hf p.1 hb
    obtain ⟨o,e',d⟩:=ho p.1 hb
    rw [e] at e'; cases e'
    exact ⟨e,f0,f1,f2,d⟩
theorem Inv.unpinned {pins pl:List (Addr×Obj)} {σ:St} {H:Hp} {s:Shared} (I:Inv X (pins++pl) σ H s):Inv X pins σ H s:=I.pins_of fun p hp=>I.pin p (List.mem_append_right _ (List.mem_append_left _ hp))
theorem zfu {iter:Expr} {body:List Stmt} {wi:TI} {g:TG} {tb:TS} {pos:Pos} (hp:PassesOwn ‹6› X.A X.env X.xe) (hc:X.calm=true) (hi:PI X tg iter wi) (hg:PG X tg g) (hb:PSs X body tb)
    (hs:∀ x,foldedSetIterable iter X.env x=pure x:=by intro _; rfl):PS X (.For tg iter body [] pos) (tFor wi g tb):=by
  intro pins s σ H D I h
  refine wpAny_For ‹56› hs
  obtain ⟨it,fp,tn,J,H2,e,I2,T,st2,f2,W,⟨m0,w0⟩,turn⟩:=h2
  subst e
  have stat:∀ {H':Hp},(∀ b∈fp,H' b=none)→∀ b∈fp,FpOk X pins H' b:=fun hn b hb=>⟨hn b hb,(f2 b hb).2⟩
  refine codeAny_forLoop_any (fun n s'=>∃ i σ' H',Inv X pins σ' H' s'∧tn i s'.heap∧(∀ b∈fp,H' b=none)∧W i n σ' H') ?_ m0 ⟨0,σ,H2,I2,st2,fun b hb=>(f2 b hb).1,w0⟩
  rintro n s3 ⟨i,σ3,H3,I3,st3,fr3,w3⟩
  rcases turn i n σ3 H3 w3 with ⟨stop,qn⟩ | ⟨go,N,hN,step⟩
  · refine wpAny_passesOwn hp (thn (T.done X rfl rfl rfl hc i pins s3 σ3 H3 X.xe I3 (stat fr3) st3 stop) fun r s4 ⟨hr,I4⟩=>?_)
    subst hr
    exact wpAny_execs_nil ⟨σ3,H3,I4,qn⟩
  · refine wpAny_passesOwn hp (thn (T.item X rfl rfl rfl hc i pins s3 σ3 H3 X.xe I3 (stat fr3) st3 go) fun r s4 ⟨u,hr,h4⟩=>?_)
    subst hr
    refine wpAny_passesOwn hp (thn h4 fun _ s5 ⟨x,H5,I5,r5,y5,st5,fr5⟩=>?_)
    have I5':=I5.pinned (stat fr5) (T.obj _ _ st5)
    refine wpAny_passesOwn hp (thn (hg _ s5 σ3 H5 x u _ I5' r5 (step x H5 y5)) fun _ s6 ⟨σ6,H6,I6,q6⟩=>?_)
    refine wpAny_passesOwn hp (thn (hb _ s6 σ6 H6 _ I6 q6) fun f s7 q7=>?_)
    have again:∀ {σ7:St} {H7:Hp},Inv X (pins++znr fp s5.heap) σ7 H7 s7→N σ7 H7→∃ m,m<n∧∃ i σ' H',Inv X pins σ' H' s7∧tn i s7.heap∧(∀ b∈fp,H' b=none)∧W i m σ' H':=fun {σ7 H7} I7 n7=>by
      obtain ⟨m',hm,w7⟩:=hN σ7 H7 n7
      refine ⟨m',hm,i+1,σ7,H7,I7.unpinned,T.keep _ _ _ st5 fun b hb o e=>(I7.pin (b,o) ‹32›).1,fun b hb=>?_,w7⟩
      obtain ⟨o,e,d⟩:=T.obj _ _ st5 b hb
      exact (I7.pin (b,o) ‹32›).2.1
    cases f with
    | next=>obtain ⟨σ7,H7,I7,n7⟩:=q7; exact again I7 n7
    | cont=>obtain ⟨σ7,H7,I7,n7⟩:=q7; exact again I7 n7
    | brk=>obtain ⟨σ7,H7,I7,q7⟩:=q7; exact ⟨σ7,H7,I7.unpinned,q7⟩
    | ret v=>obtain ⟨x7,σ7,H7,I7,r7,q7⟩:=q7; exact ⟨x7,σ7,H7,I7.unpinned,r7,q7⟩
end
end L2
namespace L2
open PySem PySem.Spec PyProof.Rows
abbrev R2:=V→V→Hp→VK→Prop
def OpR (X:Cx) (f:Value→Value→Sem Value) (r:R2):Prop :=
  ∀ (pins:List (Addr×Obj)) (s:Shared) (σ:St) (H:Hp) (x y:V) (v u:Value) (Q:VK),Inv X pins σ H s→RelV x v→RelV y u→r x y H Q →
    wpAny ‹6› X.A (f v u) ‹82› X.xe s
def UnR (X:Cx) (f:Value→Sem Value) (r:V→Hp→VK→Prop):Prop :=
  ∀ (pins:List (Addr×Obj)) (s:Shared) (σ:St) (H:Hp) (x:V) (v:Value) (Q:VK),Inv X pins σ H s→RelV x v→r x H Q →
    wpAny ‹6› X.A (f v) ‹82› X.xe s
def zhu (X:Cx) (f:Value) (r:List V→Hp→VK→Prop):Prop :=
  ∀ (pins:List (Addr×Obj)) (s:Shared) (σ:St) (H:Hp) (xs:List V) (us:List Value) (Q:VK),Inv X pins σ H s→Vals xs us→r xs H Q →
    wpAny ‹6› X.A (call f us) ‹82› X.xe s
def TruR (X:Cx) (r:V→Hp→(Bool→Hp→Prop)→Prop):Prop :=
  ∀ (pins:List (Addr×Obj)) (s:Shared) (σ:St) (H:Hp) (x:V) (v:Value) (Q:Bool→Hp→Prop),Inv X pins σ H s→RelV x v→r x H Q →
    wpAny ‹6› X.A (truthy v) (TP X pins σ Q) X.xe s
def tOp (r:R2) (ta tb:TE):TE:=fun σ H Q=>ta σ H fun x H1=>tb σ H1 fun y H2=>r x y H2 Q
def tUn (r:V→Hp→VK→Prop) (ta:TE):TE:=fun σ H Q=>ta σ H fun x H1=>r x H1 Q
def rI (C:Int→Int→Prop) (g:Int→Int→V):R2:=fun x y H Q=>∃ i j,x=.int i∧y=.int j∧C i j∧Q (g i j) H
def rI0 (g:Int→Int→V):R2:=fun x y H Q=>∃ i j,x=.int i∧y=.int j∧Q (g i j) H
def rU (g:Int→V):V→Hp→VK→Prop:=fun x H Q=>∃ i,x=.int i∧Q (g i) H
section
variable {X:Cx} {a b c:Expr} {ta tb tc:TE} {pos:Pos}
theorem binT (ha:PE X a ta) (hb:PE X b tb) {pins:List (Addr×Obj)} {s:Shared} {σ:St} {H:Hp} {R:V→V→Hp→Prop} (I:Inv X pins σ H s)
    (h:ta σ H fun x H1=>tb σ H1 fun y H2=>R x y H2) {Q:Value→Shared→Prop} {f:Value→Value→Sem Value}
    (hf:∀ v u s2 x y H2,Inv X pins σ H2 s2→RelV x v→RelV y u→R x y H2→wpAny ‹6› X.A (f v u) Q X.xe s2) :
    wpAny ‹6› X.A (eval a X.env) (fun v s₁=>wpAny ‹6› X.A (eval b X.env) (fun u s₂=>wpAny ‹6› X.A (f v u) Q X.xe s₂) X.xe s₁) X.xe s:=by
  refine thn ‹66› fun v s1 ⟨x,H1,I1,r1,q1⟩=>?_
  refine thn (hb pins s1 σ H1 _ I1 q1) fun u s2 ⟨y,H2,I2,r2,q2⟩=>?_
  exact hf v u s2 x y H2 I2 r1 r2 q2
theorem zbh {op:Operator} {r:R2} (ho:OpR X (binaryOp op) r) (ha:PE X a ta) (hb:PE X b tb):PE X (.BinOp a op b pos) (tOp r ta tb):=by
  intro pins s σ H Q I h
  exact wpAny_BinOp ‹154›
theorem zsn {op:UnaryOp} {r:V→Hp→VK→Prop} (ho:UnR X (unaryOp op) r) (ha:PE X a ta):PE X (.UnaryOp op a pos) (tUn r ta):=by
  intro pins s σ H Q I h
  exact UnaryOp_ (thn ‹66› fun v s1 ⟨x,H1,I1,r1,q1⟩=>ho pins s1 σ H1 x v Q I1 r1 q1)
theorem opI {f:Value→Value→Sem Value} {C:Int→Int→Prop} {g:Int→Int→Int}
    (rule:∀ (i j:Int) (t u:Tok) (s:Shared) (Q:Value→Shared→Prop) (E:Value→Shared→Prop),C i j→Q (.int (g i j) s.toks) { s with toks:=s.toks+1 }→wpAny ‹6› X.A (f (.int i t) (.int j u)) Q E s) :
    OpR X f (rI C fun i j=>.int (g i j)):=by
  intro pins s σ H x y v u Q I rx ry h
  obtain ⟨i,j,rfl,rfl,hc,q⟩:=h
  obtain ⟨t,rfl⟩:=rx
  obtain ⟨t',rfl⟩:=ry
  exact rule i j t t' s _ _ hc ⟨.int (g i j),H,I.tok _,⟨_,rfl⟩,q⟩
theorem opI0 {f:Value→Value→Sem Value} {g:Int→Int→Int}
    (rule:∀ (i j:Int) (t u:Tok) (s:Shared) (Q:Value→Shared→Prop) (E:Value→Shared→Prop),Q (.int (g i j) s.toks) { s with toks:=s.toks+1 }→wpAny ‹6› X.A (f (.int i t) (.int j u)) Q E s) :
    OpR X f (rI0 fun i j=>.int (g i j)):=by
  intro pins s σ H x y v u Q I rx ry h
  obtain ⟨i,j,rfl,rfl,q⟩:=h
  obtain ⟨t,rfl⟩:=rx
  obtain ⟨t',rfl⟩:=ry
  exact rule i j t t' s _ _ ⟨.int (g i j),H,I.tok _,⟨_,rfl⟩,q⟩
theorem opB0 {f:Value→Value→Sem Value} {g:Int→Int→Bool}
    (rule:∀ (i j:Int) (t u:Tok) (s:Shared) (Q:Value→Shared→Prop) (E:Value→Shared→Prop),Q (.bool (g i j)) s→wpAny ‹6› X.A (f (.int i t) (.int j u)) Q E s) :
    OpR X f (rI0 fun i j=>.bl (g i j)):=by
  intro pins s σ H x y v u Q I rx ry h
  obtain ⟨i,j,rfl,rfl,q⟩:=h
  obtain ⟨t,rfl⟩:=rx
  obtain ⟨t',rfl⟩:=ry
  exact rule i j t t' s _ _ ⟨.bl (g i j),H,I,rfl,q⟩
def CPow (i j:Int):Prop:=0≤j∧j≤1000000∧i.natAbs<2 ^ 64
def CMul (i j:Int):Prop:=(-(2 ^ 64)<i∧i<2 ^ 64)∨(-(2 ^ 64)<j∧j<2 ^ 64)
theorem CMul.ok {i j:Int} (h:CMul i j):IntMulOk i j:=by
  rcases h with ⟨h1,h2⟩ | ⟨h1,h2⟩
  · exact .of_left (intBits_le_64 h1 h2)
  · exact .of_right (intBits_le_64 h1 h2)
theorem zio:OpR X (binaryOp .Add) (rI0 fun i j=>.int (i+j)):=opI0 fun _ _ _ _ _ _ _ q=>add_int q
theorem zdm:OpR X (binaryOp .Mod) (rI (fun _ j=>0<j) fun i j=>.int (i % j)):=opI fun i j _ _ _ _ _ hc q=>by
  have h1:(0:Int)<j:=hc
  exact mod_int' (by omega) (by rw [Int.fmod_eq_emod_of_nonneg i (by omega)]; exact q)
theorem z5b:OpR X (binaryOp .Pow) (rI CPow fun i j=>.int (i ^ j.toNat)):=opI fun _ _ _ _ _ _ _ hc q=>pow_int_small hc.1 hc.2.1 hc.2.2 q
theorem unI {f:Value→Sem Value} {g:Int→Int}
    (rule:∀ (i:Int) (t:Tok) (s:Shared) (Q:Value→Shared→Prop) (E:Value→Shared→Prop),Q (.int (g i) s.toks) { s with toks:=s.toks+1 }→wpAny ‹6› X.A (f (.int i t)) Q E s) :
    UnR X f (rU fun i=>.int (g i)):=by
  intro pins s σ H x v Q I rx h
  obtain ⟨i,rfl,q⟩:=h
  obtain ⟨t,rfl⟩:=rx
  exact rule i t s _ _ ⟨.int (g i),H,I.tok _,⟨_,rfl⟩,q⟩
theorem zl8:UnR X (unaryOp .USub) (rU fun i=>.int (-i)):=unI fun _ _ _ _ _ q=>neg_int q
end
def scal:V→V→Bool
  | .non,.non=>true | .non,.int _=>true | .int _,.non=>true | .non,.bl _=>true | .bl _,.non=>true | .non,.str _=>true | .str _,.non=>true
  | .int _,.int _=>true | .bl _,.bl _=>true | .str _,.str _=>true | .byt _,.byt _=>true
  | .int _,.str _=>true | .str _,.int _=>true | .bl _,.str _=>true | .str _,.bl _=>true
  | _,_=>false
def rEq:R2:=fun x y H Q=>scal x y=true∧Q (.bl (decide (x=y))) H
def rNe:R2:=fun x y H Q=>scal x y=true∧Q (.bl (!decide (x=y))) H
theorem zm5 {i j:Int}:decide (V.int i=V.int j)=(i==j):=by
  rw [Bool.eq_iff_iff]
  simp
theorem zui {i j:Bool}:decide (V.bl i=V.bl j)=(i==j):=by
  rw [Bool.eq_iff_iff]
  simp
theorem zpl {i j:Str}:decide (V.str i=V.str j)=(i==j):=by
  rw [Bool.eq_iff_iff]
  simp
theorem zy4 {i j:Array UInt8}:decide (V.byt i=V.byt j)=(i.toList==j.toList):=by
  rw [Bool.eq_iff_iff]
  cases i
  cases j
  simp
section
variable {X:Cx} {a b c:Expr} {ta tb tc:TE} {pos:Pos}
theorem zcc {pins:List (Addr×Obj)} {σ:St} {H:Hp} {s:Shared} {Q:VK} {k k':Bool} (I:Inv X pins σ H s) (q:Q (.bl k) H) (e:k=k'):EP X pins σ Q (.bool k') s:=by
  subst e
  exact ⟨.bl k,H,I,rfl,q⟩
theorem zz3:OpR X (compareOp .Eq) rEq:=by
  intro pins s σ H x y v u Q I rx ry h
  obtain ⟨hs,q⟩:=h
  cases x with
  | non =>
    cases rx
    cases y with
    | non=>cases ry; exact PySem.EqNone.eq_none_none ‹39›
    | bl j=>cases ry; exact PySem.EqNone.eq_none_bool ‹39›
    | int j=>obtain ⟨t',rfl⟩:=ry; exact PySem.EqNone.eq_none_int ‹39›
    | str j=>obtain ⟨t',rfl⟩:=ry; exact PySem.EqNone.eq_none_str ‹39›
    | _=>exact absurd (show false=true from hs) Bool.false_ne_true
  | bl i =>
    cases rx
    cases y with
    | non=>cases ry; exact PySem.EqNone.eq_bool_none ‹39›
    | bl j=>cases ry; exact eq_bool (zcc I q zui)
    | str j=>obtain ⟨t',rfl⟩:=ry; exact PySem.EqMixed.eq_bool_str ‹39›
    | _=>exact absurd (show false=true from hs) Bool.false_ne_true
  | int i =>
    obtain ⟨t,rfl⟩:=rx
    cases y with
    | non=>cases ry; exact PySem.EqNone.eq_int_none ‹39›
    | int j=>obtain ⟨t',rfl⟩:=ry; exact eq_int (zcc I q zm5)
    | str j=>obtain ⟨t',rfl⟩:=ry; exact PySem.EqMixed.eq_int_str ‹39›
    | _=>exact absurd (show false=true from hs) Bool.false_ne_true
  | str i =>
    obtain ⟨t,rfl⟩:=rx
    cases y with
    | non=>cases ry; exact PySem.EqNone.eq_str_none ‹39›
    | bl j=>cases ry; exact PySem.EqMixed.eq_str_bool ‹39›
    | int j=>obtain ⟨t',rfl⟩:=ry; exact PySem.EqMixed.eq_str_int ‹39›
    | str j=>obtain ⟨t',rfl⟩:=ry; exact eq_str (zcc I q zpl)
    | _=>exact absurd (show false=true from hs) Bool.false_ne_true
  | byt i =>
    obtain ⟨t,rfl⟩:=rx
    cases y with
    | byt j=>obtain ⟨t',rfl⟩:=ry; exact PySem.W.eq_bytes (zcc I q zy4)
    | _=>exact absurd (show false=true from hs) Bool.false_ne_true
  | _=>cases y <;> exact absurd (show false=true from hs) Bool.false_ne_true
theorem zz2:OpR X (compareOp .NotEq) rNe:=by
  intro pins s σ H x y v u Q I rx ry h
  obtain ⟨hs,q⟩:=h
  cases x with
  | non =>
    cases rx
    cases y with
    | non=>cases ry; exact PySem.EqNone.ne_none_none ‹39›
    | bl j=>cases ry; exact PySem.EqNone.ne_none_bool ‹39›
    | int j=>obtain ⟨t',rfl⟩:=ry; exact PySem.EqNone.ne_none_int ‹39›
    | str j=>obtain ⟨t',rfl⟩:=ry; exact PySem.EqNone.ne_none_str ‹39›
    | _=>exact absurd (show false=true from hs) Bool.false_ne_true
  | bl i =>
    cases rx
    cases y with
    | non=>cases ry; exact PySem.EqNone.ne_bool_none ‹39›
    | bl j=>cases ry; exact ne_bool (zcc I q (congrArg not zui))
    | str j=>obtain ⟨t',rfl⟩:=ry; exact PySem.EqMixed.ne_bool_str ‹39›
    | _=>exact absurd (show false=true from hs) Bool.false_ne_true
  | int i =>
    obtain ⟨t,rfl⟩:=rx
    cases y with
    | non=>cases ry; exact PySem.EqNone.ne_int_none ‹39›
    | int j=>obtain ⟨t',rfl⟩:=ry; exact ne_int (zcc I q (congrArg not zm5))
    | str j=>obtain ⟨t',rfl⟩:=ry; exact PySem.EqMixed.ne_int_str ‹39›
    | _=>exact absurd (show false=true from hs) Bool.false_ne_true
  | str i =>
    obtain ⟨t,rfl⟩:=rx
    cases y with
    | non=>cases ry; exact PySem.EqNone.ne_str_none ‹39›
    | bl j=>cases ry; exact PySem.EqMixed.ne_str_bool ‹39›
    | int j=>obtain ⟨t',rfl⟩:=ry; exact PySem.EqMixed.ne_str_int ‹39›
    | str j=>obtain ⟨t',rfl⟩:=ry; exact ne_str (zcc I q (congrArg not zpl))
    | _=>exact absurd (show false=true from hs) Bool.false_ne_true
  | byt i =>
    obtain ⟨t,rfl⟩:=rx
    cases y with
    | byt j=>obtain ⟨t',rfl⟩:=ry; exact PySem.W.ne_bytes (zcc I q (congrArg not zy4))
    | _=>exact absurd (show false=true from hs) Bool.false_ne_true
  | _=>cases y <;> exact absurd (show false=true from hs) Bool.false_ne_true
theorem zq8:OpR X (compareOp .Lt) (rI0 fun i j=>.bl (decide (i<j))):=opB0 fun _ _ _ _ _ _ _ q=>lt_int q
theorem zg6:OpR X (compareOp .LtE) (rI0 fun i j=>.bl (decide (i≤j))):=opB0 fun _ _ _ _ _ _ _ q=>le_int q
theorem zra:OpR X (compareOp .Gt) (rI0 fun i j=>.bl (decide (j<i))):=opB0 fun _ _ _ _ _ _ _ q=>gt_int q
theorem z5c:OpR X (compareOp .GtE) (rI0 fun i j=>.bl (decide (j≤i))):=opB0 fun _ _ _ _ _ _ _ q=>ge_int q
theorem zq9:OpR X (compareOp .In) (fun x y H Q=>∃ i j,x=.str i∧y=.str j∧Q (.bl (!(Builtin.Str.occurrences j i 0 j.length 1).isEmpty)) H):=by
  intro pins s σ H x y v u Q I rx ry h
  obtain ⟨i,j,rfl,rfl,q⟩:=h
  obtain ⟨t,rfl⟩:=rx
  obtain ⟨t',rfl⟩:=ry
  exact in_str (zcc I q rfl)
theorem zq6:OpR X (compareOp .NotIn) (fun x y H Q=>∃ i j,x=.str i∧y=.str j∧Q (.bl (!(!(Builtin.Str.occurrences j i 0 j.length 1).isEmpty))) H):=by
  intro pins s σ H x y v u Q I rx ry h
  obtain ⟨i,j,rfl,rfl,q⟩:=h
  obtain ⟨t,rfl⟩:=rx
  obtain ⟨t',rfl⟩:=ry
  exact notIn_str (zcc I q rfl)
theorem za8 (b:Expr) {op:CmpOp} (h:op≠.In:=by decide) (h2:op≠.NotIn:=by decide):behindInMarks op b=false:=by
  have e1:(op==CmpOp.In)=false:=by cases op <;> first | rfl | exact absurd rfl h
  have e2:(op==CmpOp.NotIn)=false:=by cases op <;> first | rfl | exact absurd rfl h2
  cases b <;> simp [behindInMarks,e1,e2]
theorem zcv {op:CmpOp} {r:R2} (ho:OpR X (compareOp op) r) (ha:PE X a ta) (hb:PE X b tb) (hm:behindInMarks op b=false):PE X (.Compare a [op] [b] pos) (tOp r ta tb):=by
  intro pins s σ H Q I h
  exact wpAny_Compare1 ‹154› hm
def z2m (t:TE):TT:=fun σ H Q=>t σ H fun x H'=>∃ k,x=.bl k∧Q k H'
theorem za9 {op:CmpOp} {r:R2} (ho:OpR X (compareOp op) r) (ha:PE X a ta) (hb:PE X b tb) (hm:behindInMarks op b=false):PT X (.Compare a [op] [b] pos) (z2m (tOp r ta tb)):=by
  intro pins s σ H Q I h
  refine wpAny_isTrue_Compare1 (thn ‹66› fun v s1 ⟨x,H1,I1,r1,q1⟩=>thn (hb pins s1 σ H1 _ I1 q1) fun u s2 ⟨y,H2,I2,r2,q2⟩ =>
    thn (ho pins s2 σ H2 x y v u _ I2 r1 r2 q2) fun c s3 ⟨z,H3,I3,r3,k,e,q3⟩=>?_) hm
  subst e
  cases r3
  exact wpAny_truthy_bool ⟨H3,I3,q3⟩
def zwg (r r':R2) (ta tb tc:TE):TE:=fun σ H Q=>ta σ H fun x H1=>tb σ H1 fun y H2=>r x y H2 fun z H3=>∃ k,z=.bl k ∧
  (if k=true then tc σ H3 fun w' H4=>r' y w' H4 Q else Q (.bl false) H3)
theorem zt1 {op op':CmpOp} {r r':R2} (ho:OpR X (compareOp op) r) (ho':OpR X (compareOp op') r') (ha:PE X a ta) (hb:PE X b tb) (hc:PE X c tc)
    (hm:lastMarks [op,op'] [b,c]=false:=by with_unfolding_all rfl):PE X (.Compare a [op,op'] [b,c] pos) (zwg r r' ta tb tc):=by
  intro pins s σ H Q I h
  refine Compare_chain (thn ‹66› fun v s1 ⟨x,H1,I1,r1,q1⟩=>chain_link (thn (hb pins s1 σ H1 _ I1 q1) fun u s2 ⟨y,H2,I2,r2,q2⟩ =>
    thn (ho pins s2 σ H2 x y v u _ I2 r1 r2 q2) fun d s3 ⟨z,H3,I3,r3,k,e,q3⟩=>?_)) hm
  subst e
  cases r3
  refine wpAny_truthy_bool ?_
  cases k with
  | false=>exact ite_ff ⟨.bl false,H3,I3,rfl,q3⟩
  | true=>exact ite_tt (chain_last (thn (hc pins s3 σ H3 _ I3 q3) fun w' s4 ⟨z',H4,I4,r4,q4⟩=>ho' pins s4 σ H4 y z' u w' Q I4 r2 r4 q4))
theorem ze7 {op op':CmpOp} {r r':R2} (ho:OpR X (compareOp op) r) (ho':OpR X (compareOp op') r') (ha:PE X a ta) (hb:PE X b tb) (hc:PE X c tc)
    (hm:lastMarks [op,op'] [b,c]=false:=by with_unfolding_all rfl):PT X (.Compare a [op,op'] [b,c] pos) (z2m (zwg r r' ta tb tc)):=by
  intro pins s σ H Q I h
  refine isTrue_chain (thn ‹66› fun v s1 ⟨x,H1,I1,r1,q1⟩=>test_link (thn (hb pins s1 σ H1 _ I1 q1) fun u s2 ⟨y,H2,I2,r2,q2⟩ =>
    thn (ho pins s2 σ H2 x y v u _ I2 r1 r2 q2) fun d s3 ⟨z,H3,I3,r3,k,e,q3⟩=>?_)) hm
  subst e
  cases r3
  refine wpAny_truthy_bool ?_
  cases k with
  | false =>
    obtain ⟨k',e',q'⟩:=q3
    cases e'
    exact ite_ff ⟨H3,I3,q'⟩
  | true =>
    refine ite_tt (test_last (thn (hc pins s3 σ H3 _ I3 q3) fun w' s4 ⟨z',H4,I4,r4,q4⟩=>thn (ho' pins s4 σ H4 y z' u w' _ I4 r2 r4 q4) fun d' s5 ⟨z2,H5,I5,r5,k2,e2,q5⟩=>?_))
    subst e2
    cases r5
    exact wpAny_truthy_bool ⟨H5,I5,q5⟩
def TruV (K:PySem.W.Frag) (x:V) (H:Hp) (k:Bool):Prop :=
  match x with
  | .non=>k=false
  | .bl b=>k=b
  | .int i=>k=(i != 0)
  | .str y=>y.length≤sizeLine∧k=((y.length:Int) != 0)
  | .byt y=>y.size≤sizeLine∧k=((y.size:Int) != 0)
  | .ref p=>(∃ xs,SqL K H p xs∧k=!xs.isEmpty)∨(∃ xs,SqT K H p xs∧k=!xs.isEmpty)∨∃ kvs,H p=some (.dK kvs)∧k=!kvs.isEmpty
  | _=>False
theorem zvh {κ:Type} {kvs:List (κ×V)} {vs:List (κ×Value)} (r:KV kvs vs):(!vs.isEmpty)=!kvs.isEmpty:=by
  cases r <;> rfl
theorem znv {xs:List V} {its:List Value} (r:Vals xs its):(!its.toArray.isEmpty)=!xs.isEmpty:=by
  cases r <;> simp
theorem znt:(sizeLine:Nat)<2 ^ 63:=by rw [sizeLine_eq]; decide
theorem z36:TruR X (fun x H Q=>∃ k,TruV X.K x H k∧Q k H):=by
  intro pins s σ H x v Q I rx h
  obtain ⟨k,e,q⟩:=h
  have hl:=znt
  have hs:sizeLine=16777216:=sizeLine_eq
  cases x with
  | non =>
    cases rx
    have e':k=false:=e
    subst e'
    exact truthy_none ⟨H,I,q⟩
  | bl b =>
    cases rx
    have e':k=b:=e
    subst e'
    exact wpAny_truthy_bool ⟨H,I,q⟩
  | int i =>
    obtain ⟨t,rfl⟩:=rx
    have e':k=(i != 0):=e
    subst e'
    exact PySem.P.truthy_int ⟨H,I,q⟩
  | str y =>
    obtain ⟨t,rfl⟩:=rx
    obtain ⟨hy,e'⟩:y.length≤sizeLine∧k=((y.length:Int) != 0):=e
    subst e'
    exact PySem.P.truthy_str (by omega) ⟨H,I.tok _,q⟩
  | byt y =>
    obtain ⟨t,rfl⟩:=rx
    obtain ⟨hy,e'⟩:y.size≤sizeLine∧k=((y.size:Int) != 0):=e
    subst e'
    exact PySem.W.truthy_bytes (by omega) ⟨H,I.tok _,q⟩
  | ref p =>
    cases rx
    have e':(∃ xs,SqL X.K H p xs∧k=!xs.isEmpty)∨(∃ xs,SqT X.K H p xs∧k=!xs.isEmpty)∨∃ kvs,H p=some (.dK kvs)∧k=!kvs.isEmpty:=e
    rcases e' with ⟨xs,hx,e'⟩ | ⟨xs,hx,e'⟩ | ⟨kvs,hx,e'⟩
    · subst e'
      obtain ⟨its,r,pl,hz⟩:=I.list hx
      have hlen:=r.length
      exact wpAny_truthy_list pl.isList ‹121› ⟨H,I.tok _,by rw [znv r]; exact q⟩
    · subst e'
      obtain ⟨its,r,pl,hz⟩:=I.tuple hx
      have hlen:=r.length
      exact truthy_tuple pl ‹121› ⟨H,I.tok _,by rw [znv r]; exact q⟩
    · subst e'
      obtain ⟨hz,hS,vs,r,m⟩:kvs.length≤sizeLine∧(p==sysModules)=false∧∃ vs,KV kvs vs∧s.heap.DictOf (zsu X.prog X.w) p vs:=I.hok p _ hx
      have hlen:kvs.length=vs.length:=Paired.length r
      exact wpAny_truthy_dict hS m (by omega) ⟨H,I.tok _,by rw [zvh r]; exact q⟩
  | _=>exact (show False from e).elim
theorem zzw (ha:PE X a ta) (he:∀ whole,isTrue a X.env whole=(do let v ← whole; standAt a.pos; holding [v] (truthy v))) :
    PT X a (fun σ H Q=>ta σ H fun x H'=>∃ k,TruV X.K x H' k∧Q k H'):=by
  intro pins s σ H Q I h
  exact isTrue_plain (thn ‹66› fun v s1 ⟨x,H1,I1,r1,q1⟩=>z36 pins s1 σ H1 x v Q I1 r1 q1) (he _)
theorem zen:OpR X (binaryOp .Add) (fun x y H Q=>∃ i j,x=.str i∧y=.str j∧i.length+j.length≤sizeLine∧Q (.str (i++j)) H):=by
  intro pins s σ H x y v u Q I rx ry h
  obtain ⟨i,j,rfl,rfl,hz,q⟩:=h
  obtain ⟨t,rfl⟩:=rx
  obtain ⟨t',rfl⟩:=ry
  exact add_str (fun t' tk=>⟨.str (i++j),H,I.tok _,⟨_,rfl⟩,q⟩) hz
theorem vals1 {x:V} {us:List Value} (r:Vals [x] us):∃ u,us=[u]∧RelV x u:=by
  cases r with
  | cons r1 r2=>cases r2; exact ⟨_,rfl,r1⟩
theorem z2g {x y:V} {us:List Value} (r:Vals [x,y] us):∃ u w',us=[u,w']∧RelV x u∧RelV y w':=by
  cases r with
  | cons r1 r2 =>
    cases r2 with
    | cons r3 r4=>cases r4; exact ⟨_,_,rfl,r1,r3⟩
theorem zy9 (hc:X.calm=true):zhu X (.builtin "max") (fun xs H Q=>∃ i j,xs=[.int i,.int j]∧Q (.int (if j > i then j else i)) H):=by
  intro pins s σ H xs us Q I r h
  obtain ⟨i,j,rfl,q⟩:=h
  obtain ⟨u,w',rfl,⟨t,rfl⟩,⟨t',rfl⟩⟩:=z2g r
  refine max_two_ints (I.ok.hd hc) fun h' tk k=>⟨_,H,I.kept k,?_,q⟩
  by_cases hj:j > i
  · rw [if_pos hj,if_pos hj]; exact ⟨_,rfl⟩
  · rw [if_neg hj,if_neg hj]; exact ⟨_,rfl⟩
theorem zy8 (hc:X.calm=true):zhu X (.builtin "min") (fun xs H Q=>∃ i j,xs=[.int i,.int j]∧Q (.int (if j<i then j else i)) H):=by
  intro pins s σ H xs us Q I r h
  obtain ⟨i,j,rfl,q⟩:=h
  obtain ⟨u,w',rfl,⟨t,rfl⟩,⟨t',rfl⟩⟩:=z2g r
  refine min_two_ints (I.ok.hd hc) fun h' tk k=>⟨_,H,I.kept k,?_,q⟩
  by_cases hj:j<i
  · rw [if_pos hj,if_pos hj]; exact ⟨_,rfl⟩
  · rw [if_neg hj,if_neg hj]; exact ⟨_,rfl⟩
theorem znb:zhu X (.type "int") (fun xs H Q=>(∃ i,xs=[.int i]∧Q (.int i) H)∨∃ k,xs=[.bl k]∧Q (.int (if k then 1 else 0)) H):=by
  intro pins s σ H xs us Q I r h
  rcases h with ⟨i,rfl,q⟩ | ⟨k,rfl,q⟩
  · obtain ⟨u,rfl,t,rfl⟩:=vals1 r
    exact call_int_int ⟨.int i,H,I,⟨_,rfl⟩,q⟩
  · obtain ⟨u,rfl,r1⟩:=vals1 r
    cases r1
    exact call_int_bool ⟨.int (if k then 1 else 0),H,I.tok _,⟨_,rfl⟩,q⟩
theorem zrw:zhu X (.type "str") (fun xs H Q=>∃ i,xs=[.int i]∧i.natAbs.log2<1920∧Q (.str (toString i)) H):=by
  intro pins s σ H xs us Q I r h
  obtain ⟨i,rfl,hz,q⟩:=h
  obtain ⟨u,rfl,t,rfl⟩:=vals1 r
  exact PySem.P.str_of_int hz ⟨.str _,H,I.tok _,⟨_,rfl⟩,q⟩
def LenV (K:PySem.W.Frag) (x:V) (H:Hp) (n:Nat):Prop :=
  match x with
  | .str y=>y.length≤sizeLine∧n=y.length
  | .byt y=>y.size≤sizeLine∧n=y.size
  | .ref p=>(∃ xs,SqL K H p xs∧n=xs.length)∨∃ xs,SqT K H p xs∧n=xs.length
  | _=>False
theorem z0u:zhu X (.builtin "len") (fun xs H Q=>∃ x n,xs=[x]∧LenV X.K x H n∧Q (.int n) H):=by
  intro pins s σ H xs us Q I r h
  obtain ⟨x,n,rfl,e,q⟩:=h
  obtain ⟨u,rfl,rx⟩:=vals1 r
  have hl:=znt
  have hs:sizeLine=16777216:=sizeLine_eq
  cases x with
  | str y =>
    obtain ⟨t,rfl⟩:=rx
    obtain ⟨hy,e'⟩:y.length≤sizeLine∧n=y.length:=e
    subst e'
    exact len_str (by omega) ⟨.int _,H,I.tok _,⟨_,rfl⟩,q⟩
  | byt y =>
    obtain ⟨t,rfl⟩:=rx
    obtain ⟨hy,e'⟩:y.size≤sizeLine∧n=y.size:=e
    subst e'
    exact PySem.W.len_bytes (by omega) ⟨.int _,H,I.tok _,⟨_,rfl⟩,q⟩
  | ref p =>
    cases rx
    have e':(∃ xs,SqL X.K H p xs∧n=xs.length)∨∃ xs,SqT X.K H p xs∧n=xs.length:=e
    rcases e' with ⟨xs,hx,e'⟩ | ⟨xs,hx,e'⟩
    · subst e'
      obtain ⟨its,r',pl,hz⟩:=I.list hx
      have hlen:=r'.length
      exact Calls.call_len_list pl.isList ‹121› ⟨.int xs.length,H,I.tok _,⟨_,by simp only [List.size_toArray]; rw [hlen]⟩,q⟩
    · subst e'
      obtain ⟨its,r',pl,hz⟩:=I.tuple hx
      have hlen:=r'.length
      exact len_tuple pl ‹121› ⟨.int xs.length,H,I.tok _,⟨_,by simp only [List.size_toArray]; rw [hlen]⟩,q⟩
  | _=>exact (show False from e).elim
end
end L2
namespace L2
open PySem PySem.Spec PyProof.Rows
structure ObjM (h:Heap) (x dx C:Addr) (mA:Str→Option Value):Prop where
  obj:h.get? x=some (PySem.W.instObj C dx)
  ns:h.Ns1 dx mA
  ne:dx≠x
theorem zyd {h:Heap} {dx:Addr} {mA:Str→Option Value} (n:h.Ns1 dx mA):∃ od,h.get? dx=some od∧∀ name,PySem.W.lookIn name od=some (mA name):=by
  obtain ⟨o,es,ep,ho,hd,hk,_,hm⟩:=n
  refine ⟨o,ho,fun name=>?_⟩
  have e:=hm name
  unfold nsFind findBy at e
  rw [← Array.find?_toList] at e
  unfold PySem.W.lookIn
  rw [hd]
  dsimp only
  split
  · rename_i y q
    rw [q] at e
    exact congrArg some e
  · rename_i q
    rw [q] at e
    have a:es.toList.any (·.refKey)=false:=by
      rw [List.any_eq_false]
      intro y hy
      obtain ⟨z,t,hkey⟩:=hk y (Array.mem_toList_iff.mp hy)
      simp [DictEntry.refKey,hkey]
    have a':¬ es.toList.any (·.refKey)=true:=by rw [a]; exact Bool.false_ne_true
    rw [if_neg a']
    exact congrArg some e
theorem ObjM.look {h:Heap} {x dx C:Addr} {mA:Str→Option Value} (I:ObjM h x dx C mA):∃ od,PySem.W.InstAt h x (PySem.W.instObj C dx) C (some od)∧∀ name,PySem.W.lookIn name od=some (mA name) :=
  let ⟨od,ho,hl⟩:=zyd I.ns
  ⟨od,⟨I.obj,rfl,rfl,ho⟩,hl⟩
section
variable {prog:Program} {w:World} {A:Around} {E:Value→Shared→Prop} {s:Shared} {K:PySem.W.Frag} {x dx C f:Addr} {mA:Str→Option Value} {name:Str} {v:Value}
theorem z0l {pl:Sem Bool} {Q:Value×List Value→Shared→Prop} (X:K.In s.heap) (I:ObjM s.heap x dx C mA) (hg:PySem.W.plainGet K C name=true)
    (hf:PySem.W.findIn K (.ref C) name=some (some (.ref f))) (ht:PySem.W.isFn K (.ref f)=true) (hv:mA name=none) (h:Q (.ref f,[.ref x]) s) :
    wpAny ‹58› A (getMethod (.ref x) name pl) Q E s:=by
  obtain ⟨od,J,hl⟩:=I.look
  exact PySem.W.method_fn X J (PySem.W.plainGet_of hg).1 (PySem.W.plainGet_of hg).2 hf (beq_iff_eq.mp ht) (by show (PySem.W.lookIn name od).map (·.isSome)=some false; rw [hl,hv]; rfl) h
theorem zyc {R:Result→Shared→Prop} (X:K.In s.heap) (hm:PySem.W.makesIn K C=true)
    (hi:PySem.W.findIn K (.ref C) "__init__" = some (some (.builtin "object.__init__")))
    (hb:∀ self,PySem.W.Looks ‹58› s.heap (bindSpecial (.builtin "object.__init__") self) (.builtin "object.__init__", [self]))
    (h:codeAny ‹58› (A.under (.builtin "type.__call__" ⟨[.ref C],[]⟩)) (.call (.builtin "object.__init__") ⟨[.ref ‹74›],[]⟩) (PySem.W.InitBack ‹74› R)
      { s with heap:=‹43›.push ‹47› }) :
    codeAny ‹58› A (.call (.ref C) ⟨[],[]⟩) R s:=by
  obtain ⟨hh,g,d,t,os⟩:=s
  exact PySem.W.make_core (PySem.W.makes_of X hm) (PySem.W.looks_findIn X hi) hb (.inr ⟨rfl,rfl⟩) h
end
theorem RelO.none_of {o:Option Value} (r:RelO none o):o=none:=by
  cases o with
  | none=>rfl
  | some u=>exact (show False from r).elim
section
variable {P:Program} {w:World} {H H':Hp} {h h':Heap} {a C dx:Addr} {fs fs':List (Str×V)}
theorem zyn (hok:HOk P w H h) (e:H a=some (.ins C dx fs)):∃ mA,ObjM h a dx C mA∧(∀ f,RelO (fs.lookup f) (mA f))∧PySem.Within mA (fs.map (·.1))∧fs.length≤1000∧H dx=some (.own a):=by
  obtain ⟨d,z,ne,ob,mA,n,r,q⟩:=(show ObjOk P w H h a (.ins C dx fs) from hok a _ e)
  exact ⟨mA,⟨ob,n,ne⟩,r,q,z,d⟩
end
structure Cls (K:PySem.W.Frag) (C:Addr):Prop where
  pg:PySem.W.plainGet K C Str.empty=true
  hd:PySem.W.hasDictIn K C=true
  po:PySem.W.plainOver K C=true
  sa:PySem.W.findIn K (.ref C) "__setattr__" = some (some (.builtin "object.__setattr__"))
theorem Cls.get {K:PySem.W.Frag} {C:Addr} (c:Cls K C) (f:Str):PySem.W.plainGet K C f=true:=c.pg
structure Con (K:PySem.W.Frag) (C:Addr) (f:Str) (v:V) (u:Value):Prop where
  at_:PySem.W.findIn K (.ref C) f=some (some u)
  rel:RelV v u
  get:PySem.W.specialIn K u "__get__" = some none
  cp:PySem.W.copiedNames.contains f=false
structure Meth (K:PySem.W.Frag) (C:Addr) (m:Str) (f:Addr):Prop where
  at_:PySem.W.findIn K (.ref C) m=some (some (.ref f))
  fn:PySem.W.isFn K (.ref f)=true
  kp:PySem.W.keepIn K (.ref f)=true
section
variable {X:Cx} {pins:List (Addr×Obj)} {σ:St} {H:Hp} {s:Shared} {a C dx:Addr} {fs:List (Str×V)} {f:Str} {v:V} {A:Around} {E:Value→Shared→Prop}
theorem znx {m:Str} {g:Addr} {pl:Sem Bool} {Q:Value×List Value→Shared→Prop} (I:Inv X pins σ H s) (e:H a=some (.ins C dx fs)) (c:Cls X.K C) (k:Meth X.K C m g) (l:fs.lookup m=none)
    (h:Q (.ref g,[.ref a]) s):wpAny ‹6› A (getMethod (.ref a) m pl) Q E s:=by
  obtain ⟨mA,O,r,_,_,_⟩:=zyn I.hok e
  have hn:mA m=none:=RelO.none_of (by rw [← l]; exact r m)
  exact z0l I.kIn O (c.get m) k.at_ k.fn hn h
theorem Inv.made (I:Inv X pins σ H s):Inv X pins σ (upd (upd H s.heap.objs.size (.own ‹74›)) ‹74› (.ins C s.heap.objs.size []))
    { s with heap:=‹43›.push ‹47› }:=by
  have e1:‹43›.get? s.heap.objs.size=some PySem.W.emptyDict:=Heap.get?_push_size s.heap rfl
  have e2:(‹43›.push ‹47›).get? ‹74›=some ‹47›:=by
    have:=Heap.get?_push_size ‹43› (o:=PySem.W.instObj C s.heap.objs.size) rfl
    rwa [Heap.size_push] at this
  have e3:‹43›.Ns s.heap.objs.size (fun _=>none):=⟨PySem.W.emptyDict,#[],_,e1,rfl,(fun e he=>absurd he (by simp)),fun _=>rfl⟩
  have I1:=I.laid (a:=s.heap.objs.size) (o:=.own ‹74›) (h':=s.heap.push PySem.W.emptyDict) (t':=s.toks) (fun b u q=>Heap.get?_push_of_some _ q) ‹34› ⟨_,e1⟩
  refine I1.laid (a:=s.heap.objs.size+1) (o:=.ins C s.heap.objs.size []) (t':=s.toks) (fun b u q=>Heap.get?_push_of_some _ q) (Nat.le_of_eq (Heap.size_push _ _)) ?_
  have ne:s.heap.objs.size≠s.heap.objs.size+1:=Nat.ne_of_lt (Nat.lt_succ_self _)
  refine ⟨by rw [upd_ne ne,zbb],Nat.zero_le _,ne,e2,fun _=>none,(Heap.Ns1.of_empty e3).at fun o q=>Heap.get?_push_of_some _ q,fun _=>True.intro,fun y hy=>absurd rfl hy⟩
end
section
variable {X:Cx} {pins:List (Addr×Obj)} {σ:St} {H:Hp} {s:Shared} {A:Around} {E:Value→Shared→Prop} {Q:Value→Shared→Prop} {c:Value} {b:Bool}
inductive TyOf (K:PySem.W.Frag) (H:Hp):V→Value→Prop where
  | non:TyOf K H .non (.type "NoneType")
  | bl (x:Bool):TyOf K H (.bl x) (.type "bool")
  | int (i:Int):TyOf K H (.int i) (.type "int")
  | str (x:Str):TyOf K H (.str x) (.type "str")
  | flt (x:UInt64):TyOf K H (.flt x) (.type "float")
  | lst {a:Addr} {xs:List V} (e:H a=some (.lst xs)):TyOf K H (.ref a) (.type "list")
  | frz {a:Addr} {o:Obj} {xs:List V} (e:H a=some (.frz o (.lst xs))):TyOf K H (.ref a) (.type "list")
  | tup {a:Addr} {xs:List V} (e:H a=some (.tup xs)):TyOf K H (.ref a) (.type "tuple")
  | dK {a:Addr} {kvs:List (Key×V)} (e:H a=some (.dK kvs)):TyOf K H (.ref a) (.type "dict")
  | dT {a:Addr} {kvs:List (List Key×V)} (e:H a=some (.dT kvs)):TyOf K H (.ref a) (.type "dict")
  | ins {a C dx:Addr} {fs:List (Str×V)} (e:H a=some (.ins C dx fs)) (cl:Cls K C) (ha:PySem.W.findIn K (.ref C) "__class__" = some (some (.builtin "object.__class__")))
      (hn:PySem.W.specialIn K (.builtin "object.__class__") "__get__" = some (some (.builtin "getset_descriptor.__get__"))) (htk:PySem.W.takesIn K (.builtin "object.__class__")=some true)
      (hm:PySem.W.mroIn K C (.type "object")=some true):TyOf K H (.ref a) (.ref C)
theorem zyj {x:V} {u t:Value} (I:Inv X pins σ H s) (rx:RelV x u) (ty:TyOf X.K H x t) (e:PySem.W.kitOne X.K t c=some b) (h:∀ tk,Q (.bool b) { s with toks:=tk }) :
    wpAny ‹6› A (call (.builtin "isinstance") [u,c]) Q E s:=by
  cases ty with
  | non=>cases (show u=Value.none from rx); exact PySem.W.kia_one PySem.W.kitx_none I.kIn True.intro e ‹96› h
  | bl y=>cases (show u=Value.bool y from rx); exact PySem.W.kia_one PySem.W.kitx_bool I.kIn True.intro e ‹96› h
  | int i=>obtain ⟨t,q⟩:=(show ∃ t,u=Value.int i t from rx); cases q; exact PySem.W.kia_one PySem.W.kitx_int I.kIn True.intro e ‹96› h
  | str y=>obtain ⟨t,q⟩:=(show ∃ t,u=Value.str y t from rx); cases q; exact PySem.W.kia_one PySem.W.kitx_str I.kIn True.intro e ‹96› h
  | flt y=>obtain ⟨t,q⟩:=(show ∃ t,u=Value.float y t from rx); cases q; exact PySem.W.kia_one PySem.W.kitx_float I.kIn True.intro e ‹96› h
  | @lst a xs ea =>
    cases (show u=Value.ref a from rx)
    obtain ⟨_,_,n,_,h1⟩:=(show ObjOk X.prog X.w H s.heap a (.lst xs) from I.hok a _ ea)
    exact PySem.W.kia_one PySem.W.kitx_list I.kIn ⟨_,h1,rfl⟩ e ‹96› h
  | @frz a ob xs ea =>
    cases (show u=Value.ref a from rx)
    obtain ⟨_,_,_,n,_,h1⟩:=(show ObjOk X.prog X.w H s.heap a (.frz ob (.lst xs)) from I.hok a _ ea)
    exact PySem.W.kia_one PySem.W.kitx_list I.kIn ⟨_,h1,rfl⟩ e ‹96› h
  | @tup a xs ea =>
    cases (show u=Value.ref a from rx)
    obtain ⟨_,_,_,p⟩:=(show ObjOk X.prog X.w H s.heap a (.tup xs) from I.hok a _ ea)
    obtain ⟨o,h1,h2,_⟩:=p
    exact PySem.W.kia_one PySem.W.kitx_tuple I.kIn ⟨o,h1,h2⟩ e ‹96› h
  | @dK a kvs ea =>
    cases (show u=Value.ref a from rx)
    obtain ⟨_,_,vs,_,p⟩:=(show ObjOk X.prog X.w H s.heap a (.dK kvs) from I.hok a _ ea)
    obtain ⟨o,es,ep,h1,h2,_⟩:=p
    exact PySem.W.kia_one PySem.W.kitx_dict I.kIn ⟨o,h1,h2.1⟩ e ‹96› h
  | @dT a kvs ea =>
    cases (show u=Value.ref a from rx)
    obtain ⟨_,_,xs,_,o,es,ep,h1,h2,_⟩:=(show ObjOk X.prog X.w H s.heap a (.dT kvs) from I.hok a _ ea)
    exact PySem.W.kia_one PySem.W.kitx_dict I.kIn ⟨o,h1,h2.1⟩ e ‹96› h
  | @ins a C dx fs ea cl ha hn htk hm =>
    cases (show u=Value.ref a from rx)
    obtain ⟨mA,O,_⟩:=zyn I.hok ea
    obtain ⟨od,J,_⟩:=O.look
    exact PySem.W.kia_one (PySem.W.kitx_own (cl.get _) cl.hd ha hn htk hm) I.kIn J e ‹96› h
end
end L2
namespace L2
open PySem PySem.Spec PyProof.Rows
structure Room (k:Nat) (A:Around):Prop where
  hd:A.handled=none
  dp:A.depth+3*k+5<recursionLimit
  un:A.units+16*k+200<cLine
theorem Room.mono {j k:Nat} {A:Around} (r:Room k A) (h:j≤k):Room j A:=⟨r.hd,by have:=r.dp; omega,by have:=r.un; omega⟩
theorem Room.deeper {k:Nat} {A:Around} (r:Room (k+1) A) (env:Env):Room k (A.deeper env) :=
  ⟨r.hd,by have:=r.dp; show A.depth+1+3*k+5 < _; omega,by have:=r.un; show A.units+3+16*k+200 < _; omega⟩
theorem Room.depth {k:Nat} {A:Around} (r:Room k A):A.depth<recursionLimit:=by have:=r.dp; omega
theorem Room.units {k:Nat} {A:Around} (r:Room k A):A.units+64<cLine:=by have:=r.un; omega
def tNil:TA:=fun _ H Q=>Q [] H
def zcy (ta:TE) (tr:TA):TA:=fun σ H Q=>ta σ H fun x H1=>tr σ H1 fun xs H2=>Q (x::xs) H2
section
variable {X:Cx} {e:Expr} {es:List Expr} {te:TE} {t:TA} {pos:Pos}
theorem zad:PA X [] tNil:=fun _ _ _ _ H Q I h=>Calls.spliced_nil ⟨[],H,I,.nil,h⟩
theorem zaa (ha:PE X e te) (hr:PA X es t) (hs:starEach (e::es) X.env=(false,eval e X.env)::starEach es X.env:=by rfl):PA X (e::es) (zcy te t):=by
  intro pos pins s σ H Q I h
  rw [hs]
  show wpAny _ _ (spliced ((false,eval e X.env)::backTo pos ‹119›)) _ _ s
  refine Calls.spliced_cons (thn ‹66› fun u s1 ⟨x,H1,I1,r1,q1⟩=>?_)
  exact thn (hr pos pins s1 σ H1 _ I1 q1) fun us s2 ⟨xs,H2,I2,r2,q2⟩=>⟨x::xs,H2,I2,.cons r1 r2,q2⟩
def tTup (t:TA):TE:=fun σ H Q=>t σ H fun xs H1=>xs.length≤sizeLine∧∀ p,H1 p=none→Q (.ref p) (upd H1 p (.tup xs))
def tLst (t:TA):TE:=fun σ H Q=>t σ H fun xs H1=>xs.length≤sizeLine∧∀ p,H1 p=none→Q (.ref p) (upd H1 p (.lst xs))
theorem zty {x1} (h:PA X es t):PE X (.Tuple es x1 pos) (tTup t):=by
  intro pins s σ H Q I hq
  refine wpAny_Tuple_spliced ‹127›
  have hf:H1 s1.heap.objs.size=none:=I1.hok.fresh ‹34›
  refine ⟨.ref s1.heap.objs.size,upd H1 s1.heap.objs.size (.tup xs),I1.laid (t':=s1.toks) (fun b u e=>Heap.get?_push_of_some _ e) ‹34› ?_,rfl,q _ hf⟩
  exact ⟨z,us,r,⟨_,Heap.get?_push_size _ rfl,rfl,_,rfl⟩⟩
theorem zbu (h:PA X es t):PE X (.List es pos) (tLst t):=by
  intro pins s σ H Q I hq
  refine wpAny_List_spliced ‹127›
  have hf:H1 s1.heap.objs.size=none:=I1.hok.fresh ‹34›
  refine ⟨.ref s1.heap.objs.size,upd H1 s1.heap.objs.size (.lst xs),I1.laid (t':=s1.toks) (fun b u e=>Heap.get?_push_of_some _ e) ‹34› ?_,rfl,q _ hf⟩
  exact ⟨z,us,0,r,Heap.get?_push_size _ rfl⟩
end
abbrev Sp:=List V→Hp→VK→XK→Prop
abbrev CXT:=List Env→Hp→Shared→XK→Value→Shared→Prop
structure Env0 (P:Program) (w:World) (K:PySem.W.Frag) (mg:Str→Option Value) (base:Heap) (A:Around) (outer:List Env) (s:Shared) (H:Hp):Prop where
  frames:A.frames=some outer
  mod:Mod K mg base
  bs:∀ b o,base.get? b=some o→s.heap.get? b=some o∧H b=none
  bsz:base.objs.size≤s.heap.objs.size
  funs:s.heap.FunFrames base outer
  frf:∀ b∈frs outer,H b=none
  hok:HOk P w H s.heap
  bare:AllBare s.gens
def CE (outer:List Env) (P:Program) (w:World) (H:Hp) (s:Shared) (Q:VK) (u:Value) (s':Shared):Prop :=
  ∃ v H',s'.os=s.os∧AllBare s'.gens∧Un (frs outer) [] H H' s.heap s'.heap∧HOk P w H' s'.heap∧RelV v u∧Q v H'
def CR (CX:CXT) (outer:List Env) (P:Program) (w:World) (H:Hp) (s:Shared) (Q:VK) (E:XK) (r:Result) (s':Shared):Prop :=
  match r with
  | .ok (.ret u)=>CE outer P w H s Q u s'
  | .ok _=>False
  | .error e=>CX outer H s E e s'
structure FnOk (P:Program) (w:World) (K:PySem.W.Frag) (mg:Str→Option Value) (base:Heap) (CX:CXT) (k:Nat) (f:Addr) (fd:FuncData) (ps:List Str) (sp:Sp):Prop where
  len:∀ vs H Q E,sp vs H Q E→vs.length=ps.length
  run:∀ (A:Around) (outer:List Env) (s:Shared) (H:Hp) (args:Args) (us:List Value) (vs:List V) (Q:VK) (E:XK),Room k A→Env0 P w K mg base A outer s H→BindsTo s fd args (ps.zip us)→Vals vs us→sp vs H Q E →
    codeAny (model P w) A (.call (.ref f) args) (CR CX outer P w H s Q E) s
theorem FnOk.imp {P:Program} {w:World} {K:PySem.W.Frag} {mg:Str→Option Value} {base:Heap} {CX:CXT} {k:Nat} {f:Addr} {fd:FuncData} {ps:List Str} {sp sp':Sp} (F:FnOk P w K mg base CX k f fd ps sp)
    (h:∀ vs H Q E,sp' vs H Q E→sp vs H Q E):FnOk P w K mg base CX k f fd ps sp' :=
  ⟨fun vs H Q E q=>F.len vs H Q E (h _ _ _ _ q),fun A outer s H args us vs Q E hr he hb hv hs=>F.run A outer s H args us vs Q E hr he hb hv (h _ _ _ _ hs)⟩
section
variable {X:Cx} {pins:List (Addr×Obj)} {σ:St} {H:Hp} {s s':Shared}
theorem Inv.env0 (I:Inv X pins σ H s):Env0 X.prog X.w X.K X.mg X.base X.A X.stack s H :=
  ⟨I.ok.frames,I.ok.mod,I.bs,Nat.le_trans I.ok.bsz I.sz,I.stack,I.stkFree,I.hok,I.bare⟩
theorem Inv.after {Q:VK} {u:Value} (I:Inv X pins σ H s) (h:CE X.stack X.prog X.w H s Q u s'):EP X pins σ Q u s':=by
  obtain ⟨v,H',os,bare,un,hok,r,q⟩:=h
  obtain ⟨hh,g,d,t,os'⟩:=s'
  obtain rfl:os'=s.os:=os
  exact ⟨v,H',I.call (h':=hh) (g':=g) (d':=d) (t':=t) (ch:=[]) un hok bare (fun b z=>absurd z (by simp)),r,q⟩
end
def zp4 (sp:Sp) (dvs:List V) (E:XK) (t:TA):TE:=fun σ H Q=>t σ H fun vs H1=>sp (vs++dvs) H1 Q E
def Binds (K:PySem.W.Frag) (fd:FuncData) (ps:List Str) (ds:List Value):Prop :=
  ∀ (s:Shared) (us:List Value),K.In s.heap→(us++ds).length=ps.length→BindsTo s fd ⟨us,[]⟩ (ps.zip (us++ds))
theorem Binds.all {K:PySem.W.Frag} {fd:FuncData} {ps:List Str} (h:∀ us:List Value,us.length=ps.length→bindArgs fd ⟨us,[]⟩=pure (ps.zip us)):Binds K fd ps []:=fun s us _ hl=>by
  rw [List.append_nil] at hl ⊢
  exact .of_eq (h us hl)
def zk5 (CX:CXT) (X:Cx) (E:XK):Prop:=∀ (pins:List (Addr×Obj)) (σ:St) (H:Hp) (s:Shared) (e:Value) (s':Shared),Inv X pins σ H s→CX X.stack H s E e s'→X.xe e s'
section
variable {X:Cx} {CX:CXT} {k:Nat} {f C:Addr} {fd:FuncData} {ps:List Str} {sp:Sp} {dvs:List V} {ds:List Value} {E:XK} {x m:Str} {p pos apos:Pos} {e o:Expr} {es:List Expr} {ta:TE} {t:TA}
theorem ztq {pins:List (Addr×Obj)} {σ:St} {H:Hp} {s:Shared} {Q:VK} {us:List Value} {vs:List V} (F:FnOk X.prog X.w X.K X.mg X.base CX k f fd ps sp) (hr:Room k X.A) (hb:Binds X.K fd ps ds) (hd:Vals dvs ds) (hx:zk5 CX X E)
    (I:Inv X pins σ H s) (r:Vals vs us) (h:sp (vs++dvs) H Q E):wpAny ‹6› X.A (call (.ref f) us) ‹82› X.xe s:=by
  have r2:Vals (vs++dvs) (us++ds):=r.append hd
  have hl:(us++ds).length=ps.length:=by rw [← r2.length]; exact F.len _ _ _ _ h
  refine wpAny_call (codeAny_mono (F.run X.A X.stack s H ⟨us,[]⟩ (us++ds) (vs++dvs) Q E hr I.env0 (hb s us I.kIn hl) r2 h) fun r s' hq=>?_)
  cases r with
  | error e=>exact hx pins σ H s e s' I hq
  | ok fl =>
    cases fl with
    | ret u=>exact I.after hq
    | next=>exact False.elim hq
    | brk=>exact False.elim hq
    | cont=>exact False.elim hq
theorem zau (F:FnOk X.prog X.w X.K X.mg X.base CX k f fd ps sp) (hr:Room k X.A) (hg:Gl X x) (hm:X.mg x=some (.ref f)) (hk:PySem.W.keepIn X.K (.ref f)=true) (hb:Binds X.K fd ps ds) (hd:Vals dvs ds) (hx:zk5 CX X E)
    (ha:PA X (e::es) t) (hdb:(x==("__debug__" : Str))=false:=by decide) (he:starEach (e::es) X.env=(false,eval e X.env)::starEach es X.env:=by rfl) (hpl:(backTo pos ‹119›).any (·.1)=false:=by rfl) :
    PE X (.Call (.Name x p) (e::es) [] pos) (zp4 sp dvs E t):=by
  intro pins s σ H Q I h
  refine wpAny_Call_Name_kw (zgc I hg hm ?_ hdb)
  refine PySem.W.callWith_K (h₀:=X.base) I.ok.mod.kin hk (thn (ha pos pins s σ H _ I h) fun us s1 ⟨vs,H1,I1,r,q⟩=>⟨I1.kIn,?_⟩) he hpl
  exact ztq F hr hb hd hx I1 r q
theorem zlt (F:FnOk X.prog X.w X.K X.mg X.base CX k f fd ps sp) (hr:Room k X.A) (hg:Gl X x) (hm:X.mg x=some (.ref f)) (hk:PySem.W.keepIn X.K (.ref f)=true) (hb:Binds X.K fd ps ds) (hd:Vals dvs ds) (hx:zk5 CX X E)
    (hdb:(x==("__debug__" : Str))=false:=by decide):PE X (.Call (.Name x p) [] [] pos) (zp4 sp dvs E tNil):=by
  intro pins s σ H Q I h
  refine wpAny_Call_Name_kw (zgc I hg hm ?_ hdb)
  exact PySem.W.callWith_K0 I.kIn hk (ztq (us:=[]) F hr hb hd hx I .nil h)
structure Mk (K:PySem.W.Frag) (C f:Addr):Prop where
  makes:PySem.W.makesIn K C=true
  init:PySem.W.findIn K (.ref C) "__init__" = some (some (.ref f))
  fn:PySem.W.isFn K (.ref f)=true
  kp:PySem.W.keepIn K (.ref C)=true
end
section
variable {X:Cx} {CX:CXT} {k:Nat} {f C:Addr} {fd:FuncData} {ps ks:List Str} {sp:Sp} {E:XK} {x m:Str} {p pos apos kpos:Pos} {e o:Expr} {es:List Expr} {kws:List Keyword} {te ta:TE} {t tk:TA} {nm:Option Str}
structure KBinds (K:PySem.W.Frag) (fd:FuncData) (ps ks:List Str) (g:List Value→List Value→List Value) (gV:List V→List V→List V):Prop where
  to:∀ (s:Shared) (us ws:List Value),K.In s.heap→(g us ws).length=ps.length→BindsTo s fd ⟨us,ks.zip ws⟩ (ps.zip (g us ws))
  rel:∀ {vs:List V} {us:List Value} {zs:List V} {ws:List Value},Vals vs us→Vals zs ws→Vals (gV vs zs) (g us ws)
variable {g:List Value→List Value→List Value} {gV:List V→List V→List V}
end
structure FnScope (N P:List Str) (sc:Scope):Prop where
  kind:sc.kind=.function
  co:sc.isCoroutine=false
  gen:sc.isGenerator=false
  nd:N.Nodup
  pre:N.take P.length=P
  par:∀ x∈P,sc.names.lookup x=some .local∨sc.names.lookup x=some .cell
  nofree:∀ y∈sc.names,y.2≠.free
theorem zr0 {kindOf:Str→Option NameKind} {x:Str}:∀ {binds:List (Str×Value)} {m:Str→Option Value},(∀ v,(x,v)∉binds)→bindL kindOf binds m x=m x
  | [],_,_=>rfl
  | (n,v)::r,m,h=>by
    unfold bindL
    rw [zr0 fun w hw=>h w (List.mem_cons_of_mem _ hw)]
    split
    · have:x≠n:=by rintro rfl; exact h v List.mem_cons_self
      simp [this]
    · rfl
theorem zr2 {kindOf:Str→Option NameKind} {x:Str}:∀ {binds:List (Str×Value)} {m:Str→Option Value},(∀ v,(x,v)∉binds)→bindC kindOf binds m x=m x
  | [],_,_=>rfl
  | (n,v)::r,m,h=>by
    unfold bindC
    rw [zr2 fun w hw=>h w (List.mem_cons_of_mem _ hw)]
    split
    · rfl
    · have:x≠n:=by rintro rfl; exact h v List.mem_cons_self
      simp [this]
theorem zr1 {kindOf:Str→Option NameKind} {x:Str} {v:Value}:∀ {P:List Str} {vs:List Value} {i:Nat} {m:Str→Option Value},P.Nodup→P[i]?=some x→vs[i]?=some v→kindOf x=some .local →
    bindL kindOf (P.zip vs) m x=some v
  | [],_,_,_,_,h,_,_=>by simp at h
  | _::_,[],_,_,_,_,h,_=>by simp at h
  | p::P,w::vs,0,m,nd,h1,h2,hk=>by
    simp at h1 h2; subst h1; subst h2
    show bindL kindOf ((p,w)::P.zip vs) m p=_
    unfold bindL
    rw [zr0 fun v hv=>(List.nodup_cons.mp nd).1 (List.of_mem_zip hv).1,if_pos hk]
    simp
  | p::P,w::vs,i+1,m,nd,h1,h2,hk=>by
    show bindL kindOf ((p,w)::P.zip vs) m x=_
    unfold bindL
    exact zr1 (i:=i) (List.nodup_cons.mp nd).2 (by simpa using h1) (by simpa using h2) hk
theorem zr3 {kindOf:Str→Option NameKind} {x:Str} {v:Value}:∀ {P:List Str} {vs:List Value} {i:Nat} {m:Str→Option Value},P.Nodup→P[i]?=some x→vs[i]?=some v→kindOf x≠some .local →
    bindC kindOf (P.zip vs) m x=some v
  | [],_,_,_,_,h,_,_=>by simp at h
  | _::_,[],_,_,_,_,h,_=>by simp at h
  | p::P,w::vs,0,m,nd,h1,h2,hk=>by
    simp at h1 h2; subst h1; subst h2
    show bindC kindOf ((p,w)::P.zip vs) m p=_
    unfold bindC
    rw [zr2 fun v hv=>(List.nodup_cons.mp nd).1 (List.of_mem_zip hv).1,if_neg hk]
    simp
  | p::P,w::vs,i+1,m,nd,h1,h2,hk=>by
    show bindC kindOf ((p,w)::P.zip vs) m x=_
    unfold bindC
    exact zr3 (i:=i) (List.nodup_cons.mp nd).2 (by simpa using h1) (by simpa using h2) hk
def start (N:List Str) (vs:List V):St:=vs.map some++List.replicate (N.length-vs.length) none
def cxOf (CX:CXT) (P:Program) (w:World) (K:PySem.W.Frag) (mg:Str→Option Value) (base:Heap) (N:List Str) (qual:Str) (scope:Scope) (f:Addr) (cd:Value) (A:Around) (outer:List Env) (s:Shared) (H:Hp) (E:XK):Cx where
  prog:=P
  w:=w
  K:=K
  mg:=mg
  base:=base
  A:=A.deeper ‹84›
  N:=N
  s₀:=s
  H₀:=H
  env:=envOfC qual scope s.heap.objs.size f cd
  outer:=outer
  stack:=envOfC qual scope s.heap.objs.size f cd::outer
  ex:=[]
  calm:=true
  fn:=fun _=>true
  pn:=[]
  xe:=fun e s'=>wpAny (model P w) (A.deeper ‹84›) (leaving ‹84› e) (fun _ s''=>CX outer H s E e s'') (fun e' s''=>CX outer H s E e' s'') s'
theorem cell_has {sc:Scope} {n:Nat} {x:Str} (h:sc.names.lookup x=some .cell):∃ c,(cellsFrom n sc.names []).lookup x=some c:=by
  have q:=PySem.W.cellsFrom_some sc.names n [] (.inl h)
  exact Option.isSome_iff_exists.mp q
theorem zyl {CX:CXT} {P:Program} {w:World} {K:PySem.W.Frag} {mg:Str→Option Value} {base:Heap} {N ps:List Str} {qual:Str} {scope:Scope} {f:Addr} {cd:Value} {A:Around} {outer:List Env} {s s1:Shared} {H:Hp} {E:XK} {us:List Value} {vs:List V}
    (S:FnScope N ps scope) (hd:A.handled=none) (e0:Env0 P w K mg base A outer s H) (hl:vs.length=ps.length) (r:Vals vs us)
    (x:InCallC s s.heap.objs.size (bindL ‹84›.kindOf (ps.zip us) fun _=>none) (cellsFrom ‹74› scope.names []) (bindC ‹84›.kindOf (ps.zip us) fun _=>none) s1) :
    Inv (cxOf CX P w K mg base N qual scope f cd A outer s H E) [] (start N vs) H s1:=by
  have hpl:ps.length≤N.length:=by have:=congrArg List.length S.pre; rw [List.length_take] at this; omega
  obtain ⟨h1,tk,rfl,hk⟩:=x.done
  have noA:∀ b:Addr,b∉(cxOf CX P w K mg base N qual scope f cd A outer s H E).ex:=fun b z=>absurd (show b∈([]:List Addr) from z) (by simp)
  refine ⟨⟨e0.mod,S.kind,rfl,rfl,Nat.le_refl _,fun y z c h1 h2=>?_,fun y hy=>?_,fun y c _ h=>?_,fun _=>hd,Around.frames_deeper e0.frames,.inr ⟨rfl,rfl⟩,fun b z=>absurd z (noA b),e0.bs,e0.bsz,fun b _ _=>noA b,fun b z=>absurd z (noA b),e0.funs,e0.frf⟩,
    rfl,e0.bare,Un.kept hk,⟨_,x.toInCall.ns,fun i y v h1 h2 h3=>?_⟩,fun y c h=>⟨_,x.cell y c h⟩,e0.hok.fresh ‹34›,fun y c h=>?_,fun p hp=>absurd (show p∈([]:List (Addr×Obj)) from hp) (by simp),e0.hok.kept hk,?_⟩
  · exact name_of_addr x.apart (PySem.mem_of_lookup h1) (PySem.mem_of_lookup h2)
  · have hy:scope.names.lookup y=some .cell∨scope.names.lookup y=some .free:=hy
    rcases hy with hy | hy
    · exact cell_has hy
    · exact absurd rfl (S.nofree _ (PySem.mem_of_lookup hy))
  · exact Nat.le_of_lt (x.above y c (PySem.mem_of_lookup h))
  · have hi:i<vs.length:=by
      unfold start at h2
      by_cases hi:i<vs.length
      · exact hi
      · rw [List.getElem?_append_right (by simpa using hi)] at h2
        rw [List.getElem?_replicate] at h2
        split at h2 <;> cases h2
    have ha:vs[i]?=some v:=by
      unfold start at h2
      rw [List.getElem?_append_left (by simpa using hi),List.getElem?_map] at h2
      cases e:vs[i]? with
      | none=>rw [e] at h2; cases h2
      | some a=>rw [e] at h2; cases h2; rfl
    obtain ⟨u,hu,rv⟩:=r.get ha
    have hp:ps[i]?=some y:=by
      rw [← S.pre,List.getElem?_take_of_lt (by omega)]; exact h1
    have ndP:ps.Nodup:=by rw [← S.pre]; exact S.nd.sublist (List.take_sublist _ _)
    refine ⟨u,rv,?_⟩
    rcases S.par y (List.mem_of_getElem? hp) with k | k
    · exact .inl ⟨k,zr1 ndP hp hu k⟩
    · obtain ⟨c,e⟩:=cell_has (n:=s.heap.objs.size+1) k
      refine .inr ⟨.inl k,c,e,?_⟩
      have q:=x.cell y c e
      rw [zr3 ndP hp hu (by show scope.names.lookup y≠_; rw [k]; decide)] at q
      exact q
  · exact e0.hok.fresh (Nat.le_of_lt (x.above y c (PySem.mem_of_lookup h)))
  · unfold start
    show _=N.length
    rw [List.length_append,List.length_map,List.length_replicate]
    omega
theorem z5z {CX:CXT} {P:Program} {w:World} {K:PySem.W.Frag} {mg:Str→Option Value} {base:Heap} {k:Nat} {f:Addr} {name qual:Str} {params:Arguments} {body:List Stmt} {scope:Scope} {dV kV doc pm cdv ct oc:Value} {an od:Option Addr}
    {osl:Array (Option Value)} {N ps:List Str} {sp:Sp} (lk:K.lookup f=some ⟨oc,od,.func (PySem.W.fnOf name qual params body scope dV kV doc pm an cdv ct),osl⟩) (hcd:PySem.W.codeIn K cdv qual=true) (S:FnScope N ps scope)
    (len:∀ vs H Q E,sp vs H Q E→vs.length=ps.length)
    (hbody:∀ (A:Around) (outer:List Env) (s:Shared) (H:Hp) (vs:List V) (Q:VK) (E:XK),Room k (A.deeper (envOfC qual scope s.heap.objs.size f cdv))→sp vs H Q E →
      ∃ t,PSs ‹124› body t∧t { nx:=fun _ H'=>Q .non H',rt:=Q } (start N vs) H) :
    FnOk P w K mg base CX (k+1) f (PySem.W.fnOf name qual params body scope dV kV doc pm an cdv ct) ps sp:=by
  refine ⟨len,fun A outer s H args us vs Q E hr e0 hb r hsp=>?_⟩
  have hl:=len _ _ _ _ hsp
  have KX:K.In s.heap:=e0.mod.kin.keeps fun b o e=>(e0.bs b o e).1
  have lim:s.heap.NoLimit:=e0.mod.nolimit.keeps fun b o e=>(e0.bs b o e).1
  have hkind:∀ y∈ps.zip us,scope.names.lookup y.1=some .local∨(scope.names.lookup y.1=some .cell∧((cellsFrom ‹74› scope.names []).lookup y.1).isSome=true):=fun ⟨n,v⟩ hy=>by
    rcases S.par n (List.of_mem_zip hy).1 with q | q
    · exact .inl q
    · exact .inr ⟨q,PySem.W.cellsFrom_some _ _ _ (.inl q)⟩
  refine codeAny_call_function hr.depth (KX _ _ lk) rfl S.co S.gen rfl (PySem.W.codeRec_of KX hcd) (hb _ _ _ _ ?_)
  refine wpAny_newFunctionEnv_cells S.kind hkind fun env he s1 x=>?_
  subst he
  refine ⟨lim.keeps x.toInCall.keep,codeAny_func ?_⟩
  obtain ⟨t,ht,hq⟩:=hbody A outer s H vs Q E (hr.deeper _) hsp
  have I:Inv ‹124› [] (start N vs) H s1:=zyl S hr.hd e0 hl r x
  refine wpAny_mono (ht [] s1 (start N vs) H _ I hq) (fun fl s' hs=>?_) fun e s' hs=>hs
  have fin:∀ {σ':St} {H':Hp} {v:V} {u:Value},Inv ‹124› [] σ' H' s'→RelV v u→Q v H'→CE outer P w H s Q u s' :=
    fun {σ' H' v u} J rv q=>⟨v,H',J.os,J.bare,J.base,J.hok,rv,q⟩
  cases fl with
  | ret u =>
    obtain ⟨v,σ',H',J,rv,q⟩:=hs
    exact fin J rv q
  | next =>
    obtain ⟨σ',H',J,q⟩:=hs
    exact fin (v:=V.non) (u:=Value.none) J rfl q
  | brk =>
    obtain ⟨_,_,_,q⟩:=hs
    exact False.elim q
  | cont =>
    obtain ⟨_,_,_,q⟩:=hs
    exact False.elim q
end L2
namespace L2
open PySem PySem.Spec PyProof.Rows
section
variable {X:Cx} {x:Str} {p pos:Pos} {e:Expr} {es:List Expr} {t:TA} {id T:String} {r:List V→Hp→VK→Prop}
def tCB (r:List V→Hp→VK→Prop) (t:TA):TE:=fun σ H Q=>t σ H fun vs H1=>r vs H1 Q
theorem zar (hc:zhu X (.builtin id) r) (hg:Gl X x) (hm:X.mg x=none) (hv:bootBuiltins x=some (.builtin id)) (ha:PA X (e::es) t) (hn:x ≠ "__name__" := by decide) (hdb:(x==("__debug__" : Str))=false:=by decide)
    (he:starEach (e::es) X.env=(false,eval e X.env)::starEach es X.env:=by rfl) (hpl:(backTo pos ‹119›).any (·.1)=false:=by rfl):PE X (.Call (.Name x p) (e::es) [] pos) (tCB r t):=by
  intro pins s σ H Q I h
  refine wpAny_Call_Name_kw (zrl I hg hm hv ?_ hn hdb)
  exact PyProof.Rows.callWith_builtin1 ‹132› he hpl
theorem zd5 (hc:zhu X (.type T) r) (hg:Gl X x) (hm:X.mg x=none) (hv:bootBuiltins x=some (.type T)) (ha:PA X (e::es) t) (hn:x ≠ "__name__" := by decide) (hdb:(x==("__debug__" : Str))=false:=by decide)
    (he:starEach (e::es) X.env=(false,eval e X.env)::starEach es X.env:=by rfl) (hpl:(backTo pos ‹119›).any (·.1)=false:=by rfl):PE X (.Call (.Name x p) (e::es) [] pos) (tCB r t):=by
  intro pins s σ H Q I h
  refine wpAny_Call_Name_kw (zrl I hg hm hv ?_ hn hdb)
  exact PyProof.Rows.callWith_type1 ‹132› he hpl
end
end L2
namespace HT
open PySem PyProof.Rows
section
variable {prog:Program} {w:World} {A:Around} {E:Value→Shared→Prop} {s:Shared}
def sIx (n d:Nat):Option Int→Nat
  | none=>d
  | some v=>if v<0 then (v+(n:Int)).toNat else min v.toNat n
end
end HT
namespace L2
open PySem PySem.Spec PyProof.Rows
abbrev TO:=St→Hp→(Option Int→Hp→Prop)→Prop
def PO (X:Cx) (e:Option Expr) (t:TO):Prop :=
  ∀ (pins:List (Addr×Obj)) (s:Shared) (σ:St) (H:Hp) (Q:Option Int→Hp→Prop),Inv X pins σ H s→t σ H Q →
    wpAny ‹6› X.A (evalPart e X.env) (fun u s'=>∃ o H',Inv X pins σ H' s'∧IsPart u o∧Q o H') X.xe s
def zwd:TO:=fun _ H Q=>Q none H
def z4b (t:TE):TO:=fun σ H Q=>t σ H fun x H1=>∃ i,x=.int i∧Q (some i) H1
section
variable {X:Cx} {e:Expr} {te:TE} {lo hi:Option Expr} {tl th:TO} {pos p2:Pos}
theorem zct:PO X none zwd:=by
  intro pins s σ H Q I h
  rw [evalPart_none]
  exact wpAny_pure ⟨none,H,I,.none,h⟩
theorem zcs (h:PE X e te):PO X (some e) (z4b te):=by
  intro pins s σ H Q I hw
  rw [evalPart_some]
  refine thn (h pins s σ H _ I hw) fun u s1 ⟨x,H1,I1,r1,q1⟩=>?_
  obtain ⟨i,rfl,q⟩:=q1
  obtain ⟨t,rfl⟩:=r1
  exact ⟨some i,H1,I1,.int i t,q⟩
def SlR (X:Cx) (r:V→Option Int→Option Int→Hp→VK→Prop):Prop :=
  ∀ (pins:List (Addr×Obj)) (s:Shared) (σ:St) (H:Hp) (x:V) (v vl vu:Value) (lo hi:Option Int) (sl:Addr) (Q:VK),Inv X pins σ H s→RelV x v→s.heap.IsSliceOf sl vl vu .none→IsPart vl lo→IsPart vu hi→r x lo hi H Q →
    ∃ T id,typeLookup (.type T) "__getitem__" = pure (some (.builtin id))∧s.TypeIs v T∧wpAny ‹6› X.A (getItem v (.ref sl)) ‹82› X.xe s
def tSl (r:V→Option Int→Option Int→Hp→VK→Prop) (te:TE) (tl th:TO):TE:=fun σ H Q=>te σ H fun x H1=>tl σ H1 fun l H2=>th σ H2 fun u H3=>r x l u H3 Q
theorem zb5 {r:V→Option Int→Option Int→Hp→VK→Prop} (hr:SlR X r) (he:PE X e te) (hl:PO X lo tl) (hu:PO X hi th):PE X (.Subscript e (.Slice lo hi none p2) pos) (tSl r te tl th):=by
  intro pins s σ H Q I h
  refine Subscript_ (thn (he pins s σ H _ I h) fun v s1 ⟨x,H1,I1,r1,q1⟩=>?_)
  refine wpAny_Slice (thn (hl pins s1 σ H1 _ I1 q1) fun vl s2 ⟨l,H2,I2,pl,q2⟩=>thn (hu pins s2 σ H2 _ I2 q2) fun vu s3 ⟨u,H3,I3,pu,q3⟩=>?_)
  rw [evalPart_none]
  refine wpAny_pure ?_
  have I4:Inv X pins σ H3 { s3 with heap:=s3.heap.push { cls:=.type "slice", data:=.fields #[vl,vu,.none] } }:=I3.kept (t':=s3.toks) fun b ob q=>Heap.get?_push_of_some _ q
  obtain ⟨T,id,hT,ht,hg⟩:=hr pins { s3 with heap:=s3.heap.push { cls:=.type "slice", data:=.fields #[vl,vu,.none] } } σ H3 x v vl vu l u s3.heap.objs.size Q I4 r1 (Heap.IsSliceOf.new ..) pl pu q3
  show wpAny ‹6› X.A (subscriptTail e (.Slice lo hi none p2) v (.ref s3.heap.objs.size)) ‹82› X.xe { s3 with heap:=s3.heap.push { cls:=.type "slice", data:=.fields #[vl,vu,.none] } }
  exact tail_any (ops:=[.ref s3.heap.objs.size,v]) ht hT hg ‹128›
def cutV (xs:List V) (lo hi:Option Int):List V:=(xs.drop (HT.sIx xs.length 0 lo)).take ‹135›
theorem zjb (xs:List V) (lo hi:Option Int):(cutV xs lo hi).length≤xs.length:=by
  unfold cutV
  rw [List.length_take,List.length_drop]
  omega
end
end L2
namespace L2
open PySem PySem.Spec PyProof.Rows
def ixN (n:Nat) (i:Int):Option Nat:=if 0≤i then (if i<n then some i.toNat else none) else if -(n:Int)≤i then some (i+n).toNat else none
def atI {α:Type} (xs:List α) (i:Int):Option α:=(ixN xs.length i).bind fun j=>xs[j]?
theorem zyi {n:Nat} {i:Int} {j:Nat} (h:ixN n i=some j):seqIndex? i n=some j∧j<n∧-(n:Int)≤i∧i<n:=by
  unfold ixN at h
  by_cases h0:0≤i
  · rw [if_pos h0] at h
    by_cases h1:i<n
    · rw [if_pos h1] at h
      have e:i.toNat=j:=Option.some.inj h
      exact ⟨by rw [seqIndex_of h0 h1,e],by omega,by omega,h1⟩
    · rw [if_neg h1] at h; cases h
  · rw [if_neg h0] at h
    by_cases h1:-(n:Int)≤i
    · rw [if_pos h1] at h
      have e:(i+n).toNat=j:=Option.some.inj h
      exact ⟨by rw [seqIndex_neg (by omega) h1,e],by omega,h1,by omega⟩
    · rw [if_neg h1] at h; cases h
theorem zte {α:Type} {xs:List α} {i:Int} {v:α} (h:atI xs i=some v):∃ j,seqIndex? i xs.length=some j∧xs[j]?=some v∧j<xs.length∧-(xs.length:Int)≤i∧i<xs.length:=by
  unfold atI at h
  cases e:ixN xs.length i with
  | none=>rw [e] at h; cases h
  | some j =>
    rw [e] at h
    obtain ⟨h1,h2,h3,h4⟩:=zyi e
    exact ⟨j,h1,h,h2,h3,h4⟩
def z31 (b:Expr):Prop:=∀ o i,subscripted b false o i=operate [o,i] (getItem o i)
def IxR (X:Cx) (r:R2):Prop :=
  ∀ (value slice:Expr) (pins:List (Addr×Obj)) (s:Shared) (σ:St) (H:Hp) (x y:V) (v u:Value) (Q:VK),Inv X pins σ H s→RelV x v→RelV y u→r x y H Q →
    subscripted slice false v u=operate [v,u] (getItem v u)→wpAny ‹6› X.A (subscriptTail value slice v u) ‹82› X.xe s
def MtR (X:Cx) (id:String) (r:V→List V→Hp→VK→Prop):Prop :=
  ∀ (pins:List (Addr×Obj)) (s:Shared) (σ:St) (H:Hp) (x:V) (xs:List V) (v:Value) (us:List Value) (Q:VK),Inv X pins σ H s→RelV x v→Vals xs us→r x xs H Q →
    wpAny ‹6› X.A (call (.builtin id) (v::us)) ‹82› X.xe s
section
variable {X:Cx} {a b:Expr} {ta tb:TE} {pos:Pos}
theorem IxR.or {r r':R2} (h:IxR X r) (h':IxR X r'):IxR X (fun x y H Q=>r x y H Q∨r' x y H Q):=by
  intro value slice pins s σ H x y v u Q I rx ry q hs
  rcases q with q | q
  · exact h value slice pins s σ H x y v u Q I rx ry q hs
  · exact h' value slice pins s σ H x y v u Q I rx ry q hs
theorem zbn {r:R2} (hr:IxR X r) (ha:PE X a ta) (hb:PE X b tb) (hs:z31 b):PE X (.Subscript a b pos) (tOp r ta tb):=by
  intro pins s σ H Q I h
  exact Subscript_ (binT ha hb I h fun v u s2 x y H2 I2 rx ry q=>hr a b pins s2 σ H2 x y v u Q I2 rx ry q (hs _ _))
def rIxL (K:PySem.W.Frag):R2:=fun x y H Q=>∃ p xs i v,x=.ref p∧y=.int i∧SqL K H p xs∧atI xs i=some v∧Q v H
def rIxT (K:PySem.W.Frag):R2:=fun x y H Q=>∃ p xs i v,x=.ref p∧y=.int i∧SqT K H p xs∧atI xs i=some v∧Q v H
def rIxS:R2:=fun x y H Q=>∃ z i c,x=.str z∧y=.int i∧z.length≤sizeLine∧atI z.cps.toList i=some c∧Q (.str ⟨#[c]⟩) H
theorem ix_list:IxR X (rIxL X.K):=by
  intro value slice pins s σ H x y v u Q I rx ry h hs
  obtain ⟨p,xs,i,z,rfl,rfl,hq,he,q⟩:=h
  cases rx
  obtain ⟨t,rfl⟩:=ry
  obtain ⟨its,r,pl,hz⟩:=I.list hq
  obtain ⟨j,h1,h2,h3,h4,h5⟩:=zte he
  obtain ⟨w,ew,rw'⟩:=r.get h2
  have hl:=r.length
  have hn:=znt
  have fin:EP X pins σ Q w s:=⟨z,H,I,rw',q⟩
  by_cases h0:0≤i
  · have hj:i.toNat=j:=by
      rw [seqIndex_of h0 h5] at h1
      exact Option.some.inj h1
    exact item_listR pl.isList h0 (by omega) (by rw [hj]; simpa using ew) fin hs
  · have hj:(i+(its.toArray.size:Int)).toNat=j:=by
      rw [seqIndex_neg (by omega) h4] at h1
      rw [List.size_toArray,← hl]
      exact Option.some.inj h1
    exact subscriptTail_builtinR (x:=w) pl.isList.typeIs slot_list_getitem.lookup
      (wpAny_getItem_list_neg (Q:=fun r s'=>r=w∧EP X pins σ Q r s') pl.isList (by omega) (by rw [List.size_toArray] <;> omega) (by omega) (by rw [hj]; simpa using ew) ⟨rfl,fin⟩) hs
theorem ix_tup:IxR X (rIxT X.K):=by
  intro value slice pins s σ H x y v u Q I rx ry h hs
  obtain ⟨p,xs,i,z,rfl,rfl,hq,he,q⟩:=h
  cases rx
  obtain ⟨t,rfl⟩:=ry
  obtain ⟨its,r,pl,hz⟩:=I.tuple hq
  obtain ⟨j,h1,h2,h3,h4,h5⟩:=zte he
  obtain ⟨w,ew,rw'⟩:=r.get h2
  have hl:=r.length
  have hn:=znt
  have fin:EP X pins σ Q w s:=⟨z,H,I,rw',q⟩
  exact subscriptTail_builtinR (x:=w) pl.typeIs slot_tuple_getitem.lookup
    (getItem_tuple (j:=j) (Q:=fun r s'=>r=w∧EP X pins σ Q r s') pl (by omega) (by omega) (by rw [List.size_toArray,← hl]; exact h1) (by simpa using ew) ⟨rfl,fin⟩) hs
theorem z5s:IxR X rIxS:=by
  intro value slice pins s σ H x y v u Q I rx ry h hs
  obtain ⟨z,i,c,rfl,rfl,hz,he,q⟩:=h
  obtain ⟨t,rfl⟩:=rx
  obtain ⟨t',rfl⟩:=ry
  obtain ⟨j,h1,h2,h3,h4,h5⟩:=zte he
  have hl:z.cps.toList.length=z.length:=by simp [Str.length]
  rw [hl] at h1 h4 h5
  have hn:=znt
  exact tail_any (typeIs_str s z t) slot_str_getitem.lookup (getItem_str (c:=c) (by
    have e1:decide (i < -(2 ^ 63:Int))=false:=decide_eq_false (by omega)
    have e2:decide (i ≥ 2 ^ 63)=false:=decide_eq_false (by omega)
    rw [e1,e2,Bool.or_false]) (by rw [h1]; simpa using h2) ⟨.str ⟨#[c]⟩,H,I.tok _,⟨_,rfl⟩,q⟩) hs
def rIx (K:PySem.W.Frag):R2:=fun x y H Q=>rIxL K x y H Q∨rIxT K x y H Q∨rIxS x y H Q
theorem z5t:IxR X (rIx X.K):=ix_list.or (ix_tup.or z5s)
theorem zvf (its:List Value) (n j:Nat) (u:Value):Obj.mapSeq (·.setIfInBounds j u) { cls:=.type "list", data:=.seq its.toArray n }={ cls:=.type "list", data:=.seq (its.set j u).toArray n }:=by
  simp [Obj.mapSeq]
theorem Inv.lst {pins:List (Addr×Obj)} {σ:St} {H:Hp} {s:Shared} {p:Addr} {xs:List V} (I:Inv X pins σ H s) (h:H p=some (.lst xs)) :
    ∃ (its:List Value) (n:Nat),Vals xs its∧s.heap.get? p=some { cls:=.type "list", data:=.seq its.toArray n }∧xs.length≤sizeLine:=by
  obtain ⟨z,its,n,r,e⟩:=I.hok p _ h
  exact ⟨its,n,r,e,z⟩
theorem Inv.lstUpd {pins:List (Addr×Obj)} {σ:St} {H:Hp} {s:Shared} {p:Addr} {xs ys:List V} {its its':List Value} {n n':Nat} {f:Obj→Obj} (I:Inv X pins σ H s) (h:H p=some (.lst xs))
    (ho:s.heap.get? p=some { cls:=.type "list", data:=.seq its.toArray n }) (hf:f { cls:=.type "list", data:=.seq its.toArray n }={ cls:=.type "list", data:=.seq its'.toArray n' }) (r:Vals ys its') (hz:ys.length≤sizeLine) (t:Nat) :
    Inv X pins σ (upd H p (.lst ys)) { s with heap:=s.heap.update p f,toks:=t }:=by
  have e:(s.heap.update p f).get? p=some { cls:=.type "list", data:=.seq its'.toArray n' }:=by
    rw [Heap.get?_update_self f ho (by rw [hf] <;> rfl),hf]
  refine I.write (x:=p) (e:=p) (by rw [h]; trivial) (.inl rfl) (fun b u hb q=>(Heap.get?_update_other _ _ (Ne.symm hb)).trans q) ⟨_,e⟩ ?_
  exact ⟨hz,its',n',r,e⟩
def z25:V→V→V→Hp→(Hp→Prop)→Prop:=fun o i v H Q=>∃ p xs k j,o=.ref p∧i=.int k∧H p=some (.lst xs)∧ixN xs.length k=some j∧Q (upd H p (.lst (xs.set j v)))
theorem zjh:PSet X z25:=by
  intro pins s σ H o i v ov iv u Q I ro ri rv h
  obtain ⟨p,xs,k,j,rfl,rfl,hp,hj,q⟩:=h
  cases ro
  obtain ⟨t,rfl⟩:=ri
  obtain ⟨its,n,r,ho,hz⟩:=I.lst hp
  obtain ⟨h1,h2,h3,h4⟩:=zyi hj
  have hl:=r.length
  have hn:=znt
  have I':Inv X pins σ (upd H p (.lst (xs.set j v))) { s with heap:=s.heap.update p (Obj.mapSeq (·.setIfInBounds j u)) } :=
    I.lstUpd hp ho (zvf its n j u) (r.set rv j) (by rw [List.length_set]; exact hz) s.toks
  by_cases h0:0≤k
  · have hk:k.toNat=j:=by
      rw [seqIndex_of h0 h4] at h1
      exact Option.some.inj h1
    exact PySem.W.ki_setAt ho h0 (by omega) (by rw [List.size_toArray,← hl]; exact h4) (by rw [hk]; exact ⟨_,I',q⟩)
  · have hk:(k+(its.toArray.size:Int)).toNat=j:=by
      rw [seqIndex_neg (by omega) h3] at h1
      rw [List.size_toArray,← hl]
      exact Option.some.inj h1
    exact PySem.W.ki_setBack ho (by omega) (by rw [List.size_toArray,← hl]; exact h3) (by omega) (by rw [hk]; exact ⟨_,I',q⟩)
theorem zqg (lo hi:Option Int) (n:Nat):(sliceBounds lo hi none n).1=((HT.sIx n 0 lo:Nat):Int)∧(sliceBounds lo hi none n).2.1=((HT.sIx n n hi:Nat):Int)∧(sliceBounds lo hi none n).2.2=1:=by
  refine ⟨?_,?_,rfl⟩
  · cases lo with
    | none=>simp [sliceBounds,HT.sIx]
    | some i =>
      simp only [sliceBounds,HT.sIx,Option.getD_none,show (1:Int) > 0 by decide,if_true]
      by_cases h:i<0
      · simp only [h,if_true] <;> omega
      · simp only [h,if_false] <;> omega
  · cases hi with
    | none=>simp [sliceBounds,HT.sIx]
    | some i =>
      simp only [sliceBounds,HT.sIx,Option.getD_none,show (1:Int) > 0 by decide,if_true]
      by_cases h:i<0
      · simp only [h,if_true] <;> omega
      · simp only [h,if_false] <;> omega
theorem zoo (its:List Value) (lo hi:Option Int):slicePick its.toArray lo hi none=((its.drop (HT.sIx its.length 0 lo)).take (HT.sIx its.length its.length hi-HT.sIx its.length 0 lo)).toArray:=by
  obtain ⟨h1,h2,h3⟩:=zqg lo hi its.toArray.size
  unfold slicePick
  rw [h1,h2,h3]
  simp only [sliceRange_one,pick_run,List.size_toArray] <;> rfl
def rSlL (K:PySem.W.Frag):V→Option Int→Option Int→Hp→VK→Prop:=fun x lo hi H Q=>∃ a xs,x=.ref a∧SqL K H a xs∧∀ p,H p=none→Q (.ref p) (upd H p (.lst (cutV xs lo hi)))
theorem z2t:SlR X (rSlL X.K):=by
  intro pins s σ H x v vl vu lo hi sl Q I rx hs pl pu h
  obtain ⟨a,xs,rfl,hx,q⟩:=h
  cases rx
  obtain ⟨its,r,ht,hz⟩:=I.list hx
  have hlen:=r.length
  refine ⟨"list", _,slot_list_getitem.lookup,ht.isList.typeIs,?_⟩
  refine wpAny_getItem_list_slice ht.isList hs pl pu .none (by simp) ?_ (by rw [List.size_toArray] <;> omega)
  rw [zoo,← hlen]
  refine ⟨.ref s.heap.objs.size,_,I.laid (t':=s.toks) (o:=.lst (cutV xs lo hi)) (fun b ob q=>Heap.get?_push_of_some _ q) ‹34› ?_,rfl,q _ (I.hok.fresh ‹34›)⟩
  exact ⟨Nat.le_trans (zjb xs lo hi) hz,_,0,(r.drop (HT.sIx xs.length 0 lo)).take ‹135›,Heap.get?_push_size _ rfl⟩
def zlg:V→Bool
  | .non=>true
  | .bl _=>true
  | .int _=>true
  | .str _=>true
  | _=>false
def eqV:V→V→Bool
  | .non,.non=>true
  | .bl a,.bl b=>a==b
  | .bl a,.int b=>(if a then 1 else 0)==b
  | .int a,.bl b=>a==(if b then 1 else 0)
  | .int a,.int b=>a==b
  | .str a,.str b=>a==b
  | _,_=>false
theorem z53 {A:Around} {s:Shared} {y x:V} {u v:Value} (ry:RelV y u) (rx:RelV x v) (fy:zlg y=true) (fx:zlg x=true):SeqAt.EqAt A s u v (eqV y x):=by
  cases y with
  | non =>
    cases ry
    cases x with
    | non=>cases rx; exact SeqAt.EqAt.same _
    | bl b=>cases rx; exact SeqAt.EqAt.none_bool b
    | int b=>obtain ⟨t,rfl⟩:=rx; exact SeqAt.EqAt.none_int b t
    | str b=>obtain ⟨t,rfl⟩:=rx; exact SeqAt.EqAt.none_str b t
    | _=>exact absurd (show false=true from fx) Bool.false_ne_true
  | bl a =>
    cases ry
    cases x with
    | non=>cases rx; exact SeqAt.EqAt.bool_none a
    | bl b=>cases rx; exact SeqAt.EqAt.bool_bool a b
    | int b=>obtain ⟨t,rfl⟩:=rx; exact SeqAt.EqAt.bool_int a b t
    | str b=>obtain ⟨t,rfl⟩:=rx; exact SeqAt.EqAt.bool_str a b t
    | _=>exact absurd (show false=true from fx) Bool.false_ne_true
  | int a =>
    obtain ⟨t',rfl⟩:=ry
    cases x with
    | non=>cases rx; exact SeqAt.EqAt.int_none a t'
    | bl b=>cases rx; exact SeqAt.EqAt.int_bool a t' b
    | int b=>obtain ⟨t,rfl⟩:=rx; exact SeqAt.EqAt.int_int a t' b t
    | str b=>obtain ⟨t,rfl⟩:=rx; exact SeqAt.EqAt.int_str a t' b t
    | _=>exact absurd (show false=true from fx) Bool.false_ne_true
  | str a =>
    obtain ⟨t',rfl⟩:=ry
    cases x with
    | non=>cases rx; exact SeqAt.EqAt.str_none a t'
    | bl b=>cases rx; exact SeqAt.EqAt.str_bool a t' b
    | int b=>obtain ⟨t,rfl⟩:=rx; exact SeqAt.EqAt.str_int a t' b t
    | str b=>obtain ⟨t,rfl⟩:=rx; exact SeqAt.EqAt.str_str a t' b t
    | _=>exact absurd (show false=true from fx) Bool.false_ne_true
  | _=>exact absurd (show false=true from fy) Bool.false_ne_true
def eqU (x:V) (u:Value):Bool:=match u with
  | .none=>eqV .non x
  | .bool b=>eqV (.bl b) x
  | .int i _=>eqV (.int i) x
  | .str z _=>eqV (.str z) x
  | _=>false
theorem z10 {x y:V} {u:Value} (r:RelV y u) (f:zlg y=true):eqU x u=eqV y x:=by
  cases y with
  | non=>cases r; rfl
  | bl b=>cases r; rfl
  | int i=>obtain ⟨t,rfl⟩:=r; rfl
  | str z=>obtain ⟨t,rfl⟩:=r; rfl
  | _=>exact absurd (show false=true from f) Bool.false_ne_true
theorem zne {x:V}:∀ {xs:List V} {us:List Value},Vals xs us→xs.all zlg=true→us.any (eqU x)=xs.any fun y=>eqV y x
  | _,_,.nil,_=>rfl
  | y::xs,u::us,.cons r t,f=>by
    rw [List.all_cons,Bool.and_eq_true] at f
    rw [List.any_cons,List.any_cons,z10 r f.1,zne t f.2]
theorem zjw {A:Around} {s:Shared} {x:V} {v:Value} (rx:RelV x v) (fx:zlg x=true):∀ {xs:List V} {us:List Value},Vals xs us→xs.all zlg=true→∀ u∈us,SeqAt.EqAt A s u v (eqU x u)
  | _,_,.nil,_=>fun u hu=>by cases hu
  | y::xs,u::us,.cons r t,f=>fun u' hu=>by
    rw [List.all_cons,Bool.and_eq_true] at f
    rcases List.mem_cons.mp hu with rfl | hu
    · rw [z10 r f.1]; exact z53 r rx f.1 fx
    · exact zjw rx fx t f.2 u' hu
def inV (x:V) (xs:List V):Bool:=xs.any fun y=>eqV y x
def rIn (K:PySem.W.Frag) (neg:Bool):R2:=fun x y H Q=>∃ p xs,y=.ref p∧(SqL K H p xs∨SqT K H p xs)∧zlg x=true∧xs.all zlg=true∧Q (.bl (if neg then !inV x xs else inV x xs)) H
theorem zxz:OpR X (compareOp .In) (rIn X.K false):=by
  intro pins s σ H x y v u Q I rx ry h
  obtain ⟨p,xs,rfl,hq,fx,fs,q⟩:=h
  cases ry
  rcases hq with hq | hq
  · obtain ⟨its,r,pl,hz⟩:=I.list hq
    refine SeqAt.in_listAt (eqU x) pl.isList ‹97› ⟨.bl _,H,I,rfl,?_⟩
    rw [show its.toArray.any (eqU x)=its.any (eqU x) by simp,zne r fs]
    exact q
  · obtain ⟨its,r,pl,hz⟩:=I.tuple hq
    refine SeqAt.in_tupleAt (eqU x) pl ‹97› ⟨.bl _,H,I,rfl,?_⟩
    rw [show its.toArray.any (eqU x)=its.any (eqU x) by simp,zne r fs]
    exact q
theorem zq7:OpR X (compareOp .NotIn) (rIn X.K true):=by
  intro pins s σ H x y v u Q I rx ry h
  obtain ⟨p,xs,rfl,hq,fx,fs,q⟩:=h
  cases ry
  rcases hq with hq | hq
  · obtain ⟨its,r,pl,hz⟩:=I.list hq
    refine SeqAt.notIn_listAt (eqU x) pl.isList ‹97› ⟨.bl _,H,I,rfl,?_⟩
    rw [show its.toArray.any (eqU x)=its.any (eqU x) by simp,zne r fs]
    exact q
  · obtain ⟨its,r,pl,hz⟩:=I.tuple hq
    refine SeqAt.notIn_tupleAt (eqU x) pl ‹97› ⟨.bl _,H,I,rfl,?_⟩
    rw [show its.toArray.any (eqU x)=its.any (eqU x) by simp,zne r fs]
    exact q
theorem zrx:zhu X (.type "list") (fun xs H Q=>∃ p ys,xs=[.ref p]∧(SqL X.K H p ys∨SqT X.K H p ys)∧∀ l,H l=none→Q (.ref l) (upd H l (.lst ys))):=by
  intro pins s σ H xs us Q I r h
  obtain ⟨p,ys,rfl,hq,q⟩:=h
  obtain ⟨u,rfl,rx⟩:=vals1 r
  cases rx
  have fin:∀ (its:List Value),Vals ys its→ys.length≤sizeLine→∀ (h':Heap) (c':Nat),(∀ b o',s.heap.get? b=some o'→h'.get? b=some o') →
      h'.get? s.heap.objs.size=some { cls:=.type "list", dict:=none,data:=.seq its.toArray c',slots:=#[] }→EP X pins σ Q (.ref s.heap.objs.size) { s with heap:=h' }:=fun its r' hz h' c' kp e =>
    ⟨.ref s.heap.objs.size,_,I.laid (t':=s.toks) kp ‹34› (show ObjOk X.prog X.w _ h' _ (.lst ys) from ⟨hz,its,c',r',e⟩),rfl,q _ (I.hok.fresh ‹34›)⟩
  rcases hq with hq | hq
  · obtain ⟨its,r',pl,hz⟩:=I.list hq
    have hlen:=r'.length
    obtain ⟨o,ho,hc,n,hd⟩:=pl.isList
    exact call_list_seq p (.inl rfl) ho hc hd (fun h' c' kp e=>fin its r' hz h' c' kp e) (by simp only [List.size_toArray] <;> omega)
  · obtain ⟨its,r',pl,hz⟩:=I.tuple hq
    have hlen:=r'.length
    obtain ⟨o,ho,hc,n,hd⟩:=pl
    exact call_list_seq p (.inr rfl) ho hc hd (fun h' c' kp e=>fin its r' hz h' c' kp e) (by simp only [List.size_toArray] <;> omega)
def tyV (K:PySem.W.Frag) (T:String) (x:V) (H:Hp):Prop:=match x with
  | .str _=>T = "str"
  | .int _=>T = "int"
  | .ref p=>(T = "list" ∧ ∃ xs,SqL K H p xs)∨(T = "tuple" ∧ ∃ o,K.lookup p=some o∧o.cls=.type "tuple" ∧ o.dict=none) ∨
      (T = "dict" ∧ ((∃ kvs,H p=some (.dK kvs))∨∃ kvs,H p=some (.dT kvs)))∨(T = "set" ∧ ∃ S n,H p=some (.set S n))
  | _=>False
theorem z03 {pins:List (Addr×Obj)} {σ:St} {H:Hp} {s:Shared} {T:String} {x:V} {v:Value} (I:Inv X pins σ H s) (r:RelV x v) (ty:tyV X.K T x H) :
    s.TypeIs v T∧∀ a,v=.ref a→∃ ob,s.heap.get? a=some ob∧ob.dict=none:=by
  cases x with
  | str z =>
    obtain ⟨t,rfl⟩:=r
    cases (show T = "str" from ty)
    exact ⟨typeIs_str s z t,fun _ e=>nomatch e⟩
  | int i =>
    obtain ⟨t,rfl⟩:=r
    cases (show T = "int" from ty)
    exact ⟨typeIs_int s i t,fun _ e=>nomatch e⟩
  | ref p =>
    cases r
    rcases ty with ⟨rfl,xs,hq⟩ | ⟨rfl,o,hk,hc,hd⟩ | ⟨rfl,hk⟩ | ⟨rfl,S,n,hk⟩
    · obtain ⟨its,_,pl,_⟩:=I.list hq
      refine ⟨pl.isList.typeIs,fun a e=>?_⟩
      cases e
      obtain ⟨o,n,e,c,hd,_⟩:=pl
      exact ⟨o,e,hd⟩
    · refine ⟨⟨o,I.kIn p o hk,hc⟩,fun a e=>?_⟩
      cases e
      exact ⟨o,I.kIn _ o hk,hd⟩
    · have z:∃ o,s.heap.get? p=some o∧o.ExactDict:=by
        rcases hk with ⟨kvs,hk⟩ | ⟨kvs,hk⟩
        · obtain ⟨_,_,_,_,o,_,_,e,ex,_⟩:=I.hok p _ hk
          exact ⟨o,e,ex⟩
        · obtain ⟨_,_,_,_,o,_,_,e,ex,_⟩:=I.hok p _ hk
          exact ⟨o,e,ex⟩
      obtain ⟨o,e,ex⟩:=z
      refine ⟨⟨o,e,ex.1⟩,fun a e2=>?_⟩
      cases e2
      exact ⟨o,e,ex.2.1⟩
    · obtain ⟨o,_,_,_,e,ex,_⟩:=I.hok p _ hk
      refine ⟨⟨o,e,ex.1⟩,fun a e2=>?_⟩
      cases e2
      exact ⟨o,e,ex.2.1⟩
  | _=>exact False.elim ty
def tBM0 (K:PySem.W.Frag) (T:String) (r:V→List V→Hp→VK→Prop) (to:TE):TE:=fun σ H Q=>to σ H fun x H1=>tyV K T x H1∧r x [] H1 Q
def tBM (K:PySem.W.Frag) (T:String) (r:V→List V→Hp→VK→Prop) (to:TE) (t:TA):TE:=fun σ H Q=>to σ H fun x H1=>tyV K T x H1∧t σ H1 fun xs H2=>r x xs H2 Q
variable {o e:Expr} {es:List Expr} {to:TE} {t:TA} {name:Str} {apos cpos:Pos} {T id:String} {r:V→List V→Hp→VK→Prop}
theorem z48 (pa:PlainAttrs T) (slot:Slot T name id) (hty:typeOf (.builtin id)=pure (.type "method_descriptor")) (hm:MtR X id r) (ho:PE X o to)
    (hbase:attributeBase o name X.env (eval o X.env)=eval o X.env:=by rfl) (hline:(apos.endLine==cpos.line)=true:=by rfl):PE X (.Call (.Attribute o name apos) [] [] cpos) (tBM0 X.K T r to):=by
  intro pins s σ H Q I h
  refine wpAny_Call_method0_late hbase hline (thn (ho pins s σ H _ I h) fun v s1 ⟨x,H1,I1,r1,ty,q1⟩=>?_)
  obtain ⟨h1,h2⟩:=z03 I1 r1 ty
  exact ⟨T,id,pa,slot,hty,h1,h2,Calls.callWith_builtin rfl (PySem.evalArgs_none (hm pins s1 σ H1 x [] v [] Q I1 r1 .nil q1))⟩
theorem zjq (pa:PlainAttrs T) (slot:Slot T name id) (hty:typeOf (.builtin id)=pure (.type "method_descriptor")) (hm:MtR X id r) (ho:PE X o to) (ha:PA X (e::es) t)
    (hbase:attributeBase o name X.env (eval o X.env)=eval o X.env:=by rfl)
    (hfew:((backTo cpos (starEach (e::es) X.env)).all (fun x=>!x.1)&&(backToKw cpos (keywordEach [] X.env)).all (fun x=>x.1.isSome)
      && decide ((e::es).length+([]:List Keyword).length+(if ([]:List Keyword).isEmpty then 0 else 1)<30))=true:=by rfl)
    (hline:(apos.endLine==cpos.line)=true:=by rfl) (hs:starEach (e::es) X.env=(false,eval e X.env)::starEach es X.env:=by rfl) (hplain:(backTo cpos ‹119›).any (·.1)=false:=by rfl) :
    PE X (.Call (.Attribute o name apos) (e::es) [] cpos) (tBM X.K T r to t):=by
  intro pins s σ H Q I h
  refine wpAny_Call_method_late hbase hfew hline rfl (thn (ho pins s σ H _ I h) fun v s1 ⟨x,H1,I1,r1,ty,q1⟩=>?_)
  obtain ⟨h1,h2⟩:=z03 I1 r1 ty
  refine ⟨T,id,pa,slot,hty,h1,h2,?_⟩
  have hA:=ha cpos pins s1 σ H1 _ I1 q1
  rw [hs] at hA ⊢
  refine Calls.callWith_builtin (by show (false || (backTo cpos ‹119›).any (·.1))=false; rw [hplain] <;> rfl) (Calls.evalArgs_plain ?_)
  exact thn hA fun us s2 ⟨vs,H2,I2,r2,q2⟩=>hm pins s2 σ H2 x vs v us Q I2 r1 r2 q2
end
end L2
namespace L2
open PySem PySem.Spec PyProof.Rows
def MtM (X:Cx) (id:String) (r:V→List V→Hp→VK→Prop):Prop :=
  ∀ (pins:List (Addr×Obj)) (s:Shared) (σ:St) (H:Hp) (x:V) (xs:List V) (v:Value) (us:List Value) (Q:VK),Inv X pins σ H s→RelV x v→Vals xs us→r x xs H Q →
    wpAny ‹6› X.A (call (.builtin id) (v::us)) ‹82› X.xe s
theorem Vals.one:∀ {x:V} {us:List Value},Vals [x] us→∃ u,us=[u]∧RelV x u
  | _,_,.cons r .nil=>⟨_,rfl,r⟩
theorem Vals.rep {xs:List V} {us:List Value} (h:Vals xs us):∀ k:Nat,Vals (List.replicate k xs).flatten (List.replicate k us).flatten
  | 0=>.nil
  | k+1=>by
    rw [List.replicate_succ,List.replicate_succ,List.flatten_cons,List.flatten_cons]
    exact Vals.append h (Vals.rep h k)
theorem zrq (its:List Value):∀ (k:Nat) (acc:List Value),
    List.foldl (fun x1 x2=>x1++x2) acc.toArray (List.replicate k its.toArray)=(acc++(List.replicate k its).flatten).toArray
  | 0,acc=>by simp
  | k+1,acc=>by
    have e:acc.toArray++its.toArray=(acc++its).toArray:=by simp
    have e2:(acc++its)++(List.replicate k its).flatten=acc++(List.replicate (k+1) its).flatten:=by
      rw [List.replicate_succ,List.flatten_cons,List.append_assoc]
    rw [← e2,← zrq its k (acc++its),← e,List.replicate_succ,List.foldl_cons]
section
variable {X:Cx} {pins:List (Addr×Obj)} {σ:St} {H:Hp} {s:Shared} {l b:Addr} {xs ys zs:List V}
theorem Inv.lset {its its':List Value} {n:Nat} {f:Array Value→Array Value} {t':Nat} (I:Inv X pins σ H s) (hH:H l=some (.lst xs))
    (e:s.heap.get? l=some { cls:=.type "list", data:=.seq its.toArray n }) (hf:f its.toArray=its'.toArray) (hv:Vals ys its') (hz:ys.length≤sizeLine) :
    Inv X pins σ (upd H l (.lst ys)) { s with heap:=s.heap.update l (Obj.mapSeq f),toks:=t' }:=by
  have q:=PySem.IsL.update e f
  rw [hf] at q
  refine I.write (x:=l) (e:=l) (by rw [hH]; exact trivial) (.inl rfl) (fun b' u hb hu=>(Heap.get?_update_other s.heap (Obj.mapSeq f) (Ne.symm hb)).trans hu) ⟨_,q⟩ ?_
  exact ⟨hz,its',_,hv,q⟩
theorem Inv.lnew {its:List Value} {t':Nat} (I:Inv X pins σ H s) (hv:Vals ys its) (hz:ys.length≤sizeLine) :
    Inv X pins σ (upd H s.heap.objs.size (.lst ys)) { s with heap:=s.heap.push { cls:=.type "list", data:=.seq its.toArray },toks:=t' } :=
  I.laid (fun _ _ q=>Heap.get?_push_of_some _ q) ‹34› ⟨hz,its,0,hv,Heap.get?_push_size _ rfl⟩
theorem Inv.fresh (I:Inv X pins σ H s):H s.heap.objs.size=none:=I.hok.fresh ‹34›
theorem Inv.lstM (I:Inv X pins σ H s) (hH:H l=some (.lst xs)):xs.length≤sizeLine∧∃ (its:List Value) (n:Nat),Vals xs its∧xs.length=its.length∧s.heap.get? l=some { cls:=.type "list", data:=.seq its.toArray n }:=by
  obtain ⟨z,its,n,r,e⟩:=I.hok l _ hH
  exact ⟨z,its,n,r,r.length,e⟩
theorem zz6 {n:Nat} (h:n≤sizeLine):Builtin.List.listTooLong n=false:=by
  unfold Builtin.List.listTooLong
  exact decide_eq_false (by omega)
end
section
variable {X:Cx}
def zxl:V→List V→Hp→VK→Prop:=fun x vs H Q=>∃ l xs y,x=.ref l∧vs=[y]∧H l=some (.lst xs)∧xs.length<sizeLine∧Q .non (upd H l (.lst (xs++[y])))
theorem zmu:MtM X "list.append" zxl:=by
  intro pins s σ H x vs v us Q I rx rv h
  obtain ⟨l,xs,y,rfl,rfl,hH,hz,q⟩:=h
  cases rx
  obtain ⟨u,rfl,ru⟩:=rv.one
  obtain ⟨z,its,n,r,hl,e⟩:=I.lstM hH
  refine call_meets F.slot_list_append ⟨_,e,rfl⟩ F.entry_list_append (F.args_list_append_2 _ _) (PySem.list_append l its.toArray n u (by rw [List.size_toArray]; omega)) ⟨e,?_⟩
  refine ⟨.non,_,I.lset (its':=its++[u]) hH e (by simp) (r.append (.cons ru .nil)) ?_,rfl,q⟩
  rw [List.length_append,List.length_singleton]
  omega
def rRep:R2:=fun x y H Q=>∃ l k xs,x=.ref l∧y=.int k∧H l=some (.lst xs)∧-(2 ^ 63)≤k∧k<2 ^ 63∧xs.length*k.toNat≤sizeLine ∧
  ∀ p,H p=none→Q (.ref p) (upd H p (.lst (List.replicate k.toNat xs).flatten))
theorem zye {α:Type} (xs:List α) (k:Nat):(List.replicate k xs).flatten.length=k*xs.length:=by
  induction k with
  | zero=>simp
  | succ k ih=>rw [List.replicate_succ,List.flatten_cons,List.length_append,ih,Nat.succ_mul,Nat.add_comm]
theorem z1r:OpR X (binaryOp .Mult) rRep:=by
  intro pins s σ H x y v u Q I rx ry h
  obtain ⟨l,k,xs,rfl,rfl,hH,h1,h2,hz,q⟩:=h
  cases rx
  obtain ⟨t,rfl⟩:=ry
  obtain ⟨z,its,n,r,hl,e⟩:=I.lstM hH
  have hlen:its.toArray.size*k.toNat≤sizeLine:=by rw [List.size_toArray,← hl]; exact hz
  have hcap:¬ its.toArray.size*k.toNat > (2 ^ 63-1) / 8:=by
    have:(sizeLine:Nat)≤(2 ^ 63-1) / 8:=by decide
    omega
  have hfit:¬ (!Builtin.List.listFitsIndex k)=true:=by
    rw [fitsIndex_both h1 h2]
    exact Bool.false_ne_true
  have hlong:¬ Builtin.List.listTooLong (its.toArray.size*k.toNat)=true:=by
    rw [zz6 hlen]
    exact Bool.false_ne_true
  have hnew:List.foldl (fun x1 x2=>x1++x2) #[] (List.replicate (if its.toArray.isEmpty=true then 0 else k.toNat) its.toArray)=(List.replicate k.toNat its).flatten.toArray:=by
    have f0:∀ m:Nat,List.foldl (fun x1 x2=>x1++x2) #[] (List.replicate m its.toArray)=(List.replicate m its).flatten.toArray:=fun m=>by
      have:=zrq its m []
      rw [List.nil_append] at this
      exact this
    rw [f0]
    cases its with
    | nil=>simp
    | cons a r'=>rw [if_neg (by simp)]
  refine wpAny_binaryOp_repeat_ref (T := "list") (U := "int") ‹3› ⟨_,e,rfl⟩ (fun s'=>typeIs_int s' k t) noFill_list_mul F.fills_int_mul F.slot_int_rmul repeat_list F.slot_int_index.lookup
    (call_meets F.slot_int_rmul (typeIs_int s k t) F.entry_int_rmul (F.args_int_rmul_2 _ _) (int___rmul___int_list k t l its.toArray n)
      ⟨e,rfl,⟨_,e,rfl⟩,call_meets F.slot_list_mul ⟨_,e,rfl⟩ F.entry_list_mul (F.args_list_mul_2 _ _) (AutoListH.list___mul___list_int_3 l its.toArray n k t hfit hcap hlong) ⟨e,?_⟩⟩)
  rw [hnew]
  exact ⟨.ref _,_,I.lnew (t':=s.toks) (r.rep k.toNat) (by rw [zye,Nat.mul_comm]; exact hz),rfl,q _ I.fresh⟩
end
end L2
namespace Att
open PySem PySem.W PySem.Calls PyProof.Rows
theorem zmw {P:Params} {h:Heap}:∀ (ns:List Int) (vs:List Value),WellAll P h vs (ns.map WData.int)→IntsAre vs ns:=by
  intro ns
  induction ns with
  | nil =>
    intro vs w
    rw [List.map_nil] at w
    cases w
    exact .nil
  | cons n ns ih =>
    intro vs w
    rw [List.map_cons] at w
    cases w with
    | cons a b =>
      cases a
      exact .cons _ _ (ih _ b)
theorem script_of {l:OpenLaw} {n:Nat} (hn:l.most=some n) {P:Params} {h:Heap} {args:List WData} {vals:List Value}
    (hpre:l.row.toRowW.claim.pre args=true) (hwl:WellAll P h vals args) :
    ∃ a vs ns,vals=[Value.ref a]∧args=[WData.list (ns.map WData.int)]∧h.get? a=some { cls:=.type "list", data:=.seq vs.toArray }∧IntsAre vs ns∧ns.length≤n:=by
  have hsh:WShape.hasAll [] args [.list .int]=true:=(pre_splitW hpre).1
  have hc:l.pre.holds [] { args:=args }=true:=(pre_splitW hpre).2
  obtain ⟨d,r,rfl,h1,h2⟩:=hasAllW_cons hsh
  obtain rfl:=hasAllW_nil h2
  obtain ⟨xs,rfl,h3⟩:=hasW_list h1
  obtain ⟨ns,rfl⟩:=items_int h3
  have hlen:ns.length≤n:=by
    unfold OpenLaw.pre at hc
    have h4:(WTm.not (.lt (.lit (.int (n:Int))) (.len (.arg 0)))).holds [] { args:=[.list (ns.map .int)] }=true:=by
      have h4:=(holds_andW hc).1
      rw [hn] at h4
      exact h4
    have h5:=condW_of h4 (w_not (w_lt w_lit (w_len_list (w_arg rfl))))
    rw [List.length_map] at h5
    refine Nat.le_of_not_lt fun q=>?_
    have q':(n:Int)<((ns.length:Nat):Int):=by omega
    first
      | (rw [decide_eq_true q'] at h5; exact absurd h5 ‹3›)
      | (simp at h5; omega)
  cases hwl with
  | cons w1 w2 =>
    cases w2
    cases w1 with
    | list ho hall=>exact ⟨_,_,ns,rfl,rfl,ho,zmw ns _ hall,hlen⟩
theorem post_true (l:OpenLaw) (args:List WData):l.row.toRowW.claim.post args (.bool true) args=true :=
  postW_of (r:=l.row.toRowW) (X:=(true==true))
    (show WShape.has [] (.bool true) .bool=true by first | rfl | decide | simp [WShape.has,WShape.arms,WShape.armsAll])
    (show (WTm.eq .res (.lit (.bool true))).value [] { args:=args,res:=some (.bool true),after:=args }=some (.bool (true==true)) from w_eq_bool (w_res rfl) w_lit) rfl
section
variable {prog:Program} {w:World} {A:Around} {E:Value→Shared→Prop} {s:Shared} {K:Frag}
def ledger (h:Heap) (L d:Addr):List (Addr×Obj):=(List.range h.objs.size).filterMap fun a=>if a=L∨a=d then none else (h.get? a).map fun o=>(a,o)
end
end Att
namespace L2
open PySem PySem.Spec PyProof.Rows
theorem zp2:∀ {vs:List Value} {ns:List Int},IntsAre vs ns→Vals (ns.map V.int) vs
  | _,_,.nil=>.nil
  | _,_,.cons n t h=>.cons ⟨t,rfl⟩ (zp2 h)
def Only (H:Hp):Prop:=∀ b,H b=none∨∃ o xs,H b=some (.frz o (.lst xs))
theorem z0c {P:Program} {w:World} {K:PySem.W.Frag} {mg mb:Str→Option Value} {CX:CXT} {k:Nat} {fa a:Addr} {fd:FuncData} {x:Str} {sp:Sp} {s₁:Shared} {vs:List Value} {ns:List Int}
    (KX:K.In s₁.heap) (hns:s₁.heap.Ns mainGlobals mg) (hb:s₁.heap.Ns builtinsNs mb) (hbb:∀ x:Str,x ≠ "__name__" → mb x=bootBuiltins x) (hlim:s₁.heap.NoLimit) (hg:s₁.gens=#[])
    (ha:s₁.heap.get? a=some { cls:=.type "list", data:=.seq vs.toArray }) (hi:IntsAre vs ns) (hl:ns.length≤sizeLine) (hr:Room k callerA)
    (F:∀ base:Heap,K.In base→base.Ns mainGlobals mg→FnOk P w K mg base CX k fa fd [x] sp) (hbind:∀ (s:Shared) (u:Value),BindsTo s fd ⟨[u],[]⟩ [(x,u)])
    (hsp:∀ H:Hp,Only H→SqL K H a (ns.map V.int)→sp [.ref a] H (fun v _=>v=.bl true) fun _ _ _=>False)
    (hCX:∀ H e s',CX [] H s₁ (fun _ _ _=>False) e s'→False) :
    codeAny (model P w) callerA (.call (.ref fa) ⟨[.ref a],[]⟩) ‹138› s₁:=by
  have rv:=zp2 hi
  have lenV:=hi.length
  have core:∀ H:Hp,Only H→SqL K H a (ns.map V.int)→HOk P w H s₁.heap→(∀ b,H b≠none→b=a)→(H a≠none→K.lookup a=none) →
      codeAny (model P w) callerA (.call (.ref fa) ⟨[.ref a],[]⟩) ‹138› s₁:=by
    intro H hO hS hok hA hK
    have base_of:∀ {b:Addr} {o:Obj},s₁.heap.get? b=some o→H b=none→(hidT s₁.heap H).get? b=some o:=fun e n=>z0i e n
    have noA:∀ {b:Addr} {o:Obj} {es:Array DictEntry} {ep:Nat},s₁.heap.get? b=some o→o.data=.dict es ep→H b=none:=fun {b o es ep} e d=>by
      cases q:H b with
      | none=>rfl
      | some u =>
        have e':b=a:=hA b (by rw [q]; simp)
        subst e'
        rw [ha] at e; cases e
        have d':Data.seq vs.toArray _=Data.dict es ep:=d
        cases d'
    have nsK:∀ {b:Addr} {m:Str→Option Value},s₁.heap.Ns b m→(hidT s₁.heap H).Ns b m:=fun {b m} ⟨o,es,ep,e,d,r⟩=>⟨o,es,ep,base_of e (noA e d),d,r⟩
    have hKb:K.In (hidT s₁.heap H):=fun b o e=>base_of (KX b o e) (by
      cases q:H b with
      | none=>rfl
      | some u =>
        have e':b=a:=hA b (by rw [q]; simp)
        subst e'
        rw [hK (by rw [q]; simp)] at e; cases e)
    have hM:Mod K mg (hidT s₁.heap H):=⟨hKb,nsK hns,⟨mb,nsK hb,hbb⟩,let ⟨mc,h1,h2⟩:=hlim; ⟨mc,nsK h1,h2⟩⟩
    have e0:Env0 P w K mg (hidT s₁.heap H) callerA [] s₁ H:=⟨rfl,hM,fun b o e=>z3a e,Nat.le_of_eq (zys _ _),trivial,fun b hb=>absurd (show b∈([]:List Addr) from hb) (by simp),hok,.of_eq hg⟩
    refine codeAny_mono ((F _ hKb (nsK hns)).run callerA [] s₁ H ⟨[.ref a],[]⟩ [.ref a] [.ref a] _ _ hr e0 (hbind s₁ (.ref a)) ‹117› (hsp H hO hS)) fun r s' h=>?_
    cases r with
    | error e=>exact (hCX H e s' h).elim
    | ok fl =>
      cases fl with
      | next=>exact False.elim h
      | brk=>exact False.elim h
      | cont=>exact False.elim h
      | ret u =>
        obtain ⟨v,H',os,bare,un,hok',r',q⟩:=h
        have q':v=.bl true:=q
        subst q'
        obtain rfl:u=Value.bool true:=r'
        refine ⟨rfl,OldK.of_keep fun b o e=>?_,os,bare⟩
        cases q:H b with
        | none=>exact un.keep b o e q (by intro z; exact absurd (show b∈([]:List Addr) from z) (by simp)) (by simp)
        | some u =>
          rcases hO b with z | ⟨ob,xs,z⟩
          · rw [q] at z; cases z
          · have z2:=un.frzs b ob _ z
            obtain ⟨e1,_⟩:=hok b _ z
            obtain ⟨e2,_⟩:=hok' b _ z2
            rw [e] at e1; cases e1
            exact e2
  cases hk:K.lookup a with
  | some o =>
    have e:=KX a o hk
    rw [ha] at e
    cases e
    refine core (fun _=>none) (fun _=>.inl rfl) (.inr ⟨_,vs.toArray,_,hk,rfl,rfl,rfl,by rw [List.size_toArray,lenV]; exact hl,by simpa using rv⟩) (fun b u z=>by have z':(none:Option HO)=some u:=z; cases z') (fun b z=>absurd rfl z) fun z=>absurd rfl z
  | none =>
    refine core (fun b=>if b=a then some (.frz { cls:=.type "list", data:=.seq vs.toArray } (.lst (ns.map V.int))) else none) (fun b=>?_) (.inl (.inr ⟨{ cls:=.type "list", data:=.seq vs.toArray },if_pos rfl⟩)) (fun b u z=>?_) (fun b z=>?_) fun _=>hk
    · by_cases hb:b=a
      · exact .inr ⟨_,_,if_pos hb⟩
      · exact .inl (if_neg hb)
    · by_cases hb:b=a
      · have z':=(if_pos hb).symm.trans z
        cases z'
        subst hb
        exact ⟨ha,by rw [List.length_map]; exact hl,vs,_,rv,ha⟩
      · have z':=(if_neg hb).symm.trans z
        cases z'
    · by_cases hb:b=a
      · exact hb
      · exact absurd (if_neg hb) z
end L2
namespace L2
open PySem PySem.Spec PyProof.Rows
abbrev KOf {K:PySem.W.Frag} {h:Heap} (_:K.In h):PySem.W.Frag:=K
end L2
namespace L2
open PySem PySem.Spec PyProof.Rows
def zm4 (s:Stmt):Arguments:=match s with
  | .FunctionDef _ a _ _ _ _ _ _ _ _=>a
  | _=>{ posonlyargs:=[],args:=[],vararg:=none,kwonlyargs:=[],kw_defaults:=[],kwarg:=none,defaults:=[] }
def zfp (s:Stmt):List Stmt:=match s with
  | .FunctionDef _ _ b _ _ _ _ _ _ _=>b
  | _=>[]
def zao (s:Stmt):Scope:=match s with
  | .FunctionDef _ _ _ _ _ _ sc _ _ _=>sc
  | _=>{ kind:=.function,names:=[],isGenerator:=false,isCoroutine:=false }
abbrev CX0:CXT:=fun _ _ _ _ _ _=>False
abbrev E0:XK:=fun _ _ _=>False
theorem zbr {X:Cx}:zk5 CX0 X E0:=fun _ _ _ _ _ _ _ h=>h.elim
structure Fun (K:PySem.W.Frag) (x qual:Str) (st:Stmt) (f:Addr) (fd:FuncData):Prop where
  ex:∃ (oc:Value) (od:Option Addr) (kV doc pm:Value) (an:Option Addr) (cdv ct:Value) (osl:Array (Option Value)),
    fd=PySem.W.fnOf x qual (zm4 st) (zfp st) (zao st) .none kV doc pm an cdv ct∧K.lookup f=some ⟨oc,od,.func fd,osl⟩∧PySem.W.codeIn K cdv qual=true
  kp:PySem.W.keepIn K (.ref f)=true
section
variable {P:Program} {w:World} {K:PySem.W.Frag} {mg:Str→Option Value} {base:Heap}
theorem Fun.ok {x qual:Str} {st:Stmt} {f:Addr} {fd:FuncData} {N ps:List Str} {k:Nat} {sp:Sp} (F:Fun K x qual st f fd) (S:FnScope N ps (zao st)) (len:∀ vs H Q E,sp vs H Q E→vs.length=ps.length)
    (hbody:∀ (cdv:Value) (A:Around) (outer:List Env) (s:Shared) (H:Hp) (vs:List V) (Q:VK) (E:XK),Room k (A.deeper (envOfC qual (zao st) s.heap.objs.size f cdv))→sp vs H Q E →
      ∃ t,PSs ‹115›.nox (zfp st) t∧t { nx:=fun _ H'=>Q .non H',rt:=Q } (start N vs) H):FnOk P w K mg base CX0 (k+1) f fd ps sp:=by
  obtain ⟨oc,od,kV,doc,pm,an,cdv,ct,osl,rfl,lk,hcd⟩:=F.ex
  refine z5z lk hcd S len fun A outer s H vs Q E hr hsp=>?_
  obtain ⟨t,h,q⟩:=hbody cdv A outer s H vs Q E hr hsp
  exact ⟨t,h.nox,q⟩
theorem Fun.binds {x qual:Str} {st:Stmt} {f:Addr} {fd:FuncData} {ps:List Str} (F:Fun K x qual st f fd)
    (h:∀ (kV doc pm:Value) (an:Option Addr) (cdv ct:Value) (us:List Value),us.length=ps.length→bindArgs ‹85› ⟨us,[]⟩=pure (ps.zip us)):Binds K fd ps []:=by
  obtain ⟨oc,od,kV,doc,pm,an,cdv,ct,osl,rfl,lk,hcd⟩:=F.ex
  exact .all (h kV doc pm an cdv ct)
theorem zby {x qual:Str} {st:Stmt} {f:Addr} {oc:Value} {od an:Option Addr} {osl:Array (Option Value)} {kV doc pm cdv ct:Value} (l:K.lookup f=some ⟨oc,od,.func ‹85›,osl⟩)
    (c:PySem.W.codeIn K cdv qual=true) (k:PySem.W.keepIn K (.ref f)=true):Fun K x qual st f ‹85›:=⟨⟨oc,od,kV,doc,pm,an,cdv,ct,osl,rfl,l,c⟩,k⟩
end
section
variable {X:Cx}
theorem pv (i:Nat) {x:Str} {pos:Pos} (hN:X.N[i]?=some x:=by rfl) (hv:Vis X.env.scope x:=by first | exact Or.inl rfl | exact Or.inr ‹20› | exact Or.inr (Or.inr rfl)) (hd:(x==("__debug__" : Str))=false:=by decide)
    (hcd:(x==("__classdict__" : Str))=false:=by decide):PE X (.Name x pos) (tVar i):=z1p hN hv hd hcd
end
theorem iteF {A B:Prop} (h:B):if false=true then A else B:=by
  rw [if_neg Bool.false_ne_true]
  exact h
theorem iteT {A B:Prop} (h:A):if true=true then A else B:=by
  rw [if_pos rfl]
  exact h
def Same (H H':Hp):Prop:=∀ b o,H b=some o→H' b=some o
theorem Same.refl (H:Hp):Same H H:=fun _ _ h=>h
theorem Same.trans {H H1 H2:Hp} (a:Same H H1) (b:Same H1 H2):Same H H2:=fun c o h=>b c o (a c o h)
theorem Same.free {H H':Hp} (e:Same H H') {l:Addr} (h:H' l=Option.none):H l=Option.none:=by
  cases q:H l with
  | none=>rfl
  | some o =>
    rw [e l o q] at h
    cases h
end L2
namespace L2
open PySem PySem.Spec PyProof.Rows
section
variable {X:Cx}
theorem zi4:OpR X (binaryOp .Mult) (rI IntMulOk fun i j=>.int (i*j)):=opI fun _ _ _ _ _ _ _ hc q=>mul_int q hc
theorem zga:OpR X (binaryOp .FloorDiv) (rI (fun _ j=>0<j∧j.natAbs.log2<9000) fun i j=>.int (i / j)):=opI fun i j _ _ _ _ _ hc q=>by
  have h1:(0:Int)<j:=hc.1
  exact floordiv_int (by omega) (by rw [Int.fdiv_eq_ediv_of_nonneg i (by omega)]; exact q) (.inl (PyProof.noPylong_of_log2 hc.2))
theorem z0v:zhu X (.builtin "isinstance") (fun xs H Q=>∃ x n t b,xs=[x,.ty n]∧TyOf X.K H x t∧PySem.W.kitOne X.K t (.type n)=some b∧Q (.bl b) H):=by
  intro pins s σ H xs us Q I r h
  obtain ⟨x,n,t,b,rfl,ty,e,q⟩:=h
  obtain ⟨u,w',rfl,rx,ry⟩:=z2g r
  cases ry
  exact zyj I rx ty e fun tk=>⟨.bl b,H,I.tok _,rfl,q⟩
theorem ze6 {α:Type} [DecidableEq α] {ns ms:List α} (d:α) (h:ns.length=ms.length):((List.range ns.length).all fun j=>decide (ns.getD j d=ms.getD j d))=decide (ns=ms):=by
  rw [Bool.eq_iff_iff,List.all_eq_true,decide_eq_true_iff]
  constructor
  · intro H
    refine List.ext_getElem h fun i h1 h2=>?_
    have:=of_decide_eq_true (H i (List.mem_range.mpr h1))
    rw [List.getD_eq_getElem?_getD,List.getD_eq_getElem?_getD,List.getElem?_eq_getElem h1,List.getElem?_eq_getElem h2] at this
    exact this
  · rintro rfl i _
    simp
theorem eqAt_items {α:Type} [DecidableEq α] {A:Around} {s:Shared} {us ws:List Value} {ns ms:List α} {d:α} (hl:us.length=ns.length) (hl2:ws.length=ms.length)
    (h:∀ (j:Nat) (u v:Value) (a b:α),us[j]?=some u→ws[j]?=some v→ns[j]?=some a→ms[j]?=some b→SeqAt.EqAt A s u v (decide (a=b))) :
    ∀ j (h1:j<us.toArray.size) (h2:j<ws.toArray.size),SeqAt.EqAt A s us.toArray[j] ws.toArray[j] (decide (ns.getD j d=ms.getD j d)):=by
  intro j h1 h2
  have h1':j<us.length:=by simpa using h1
  have h2':j<ws.length:=by simpa using h2
  have q:=h j us[j] ws[j] ns[j] ms[j] (List.getElem?_eq_getElem h1') (List.getElem?_eq_getElem h2') (List.getElem?_eq_getElem (by omega)) (List.getElem?_eq_getElem (by omega))
  have e1:ns.getD j d=ns[j]:=by rw [List.getD_eq_getElem?_getD,List.getElem?_eq_getElem (by omega)]; rfl
  have e2:ms.getD j d=ms[j]:=by rw [List.getD_eq_getElem?_getD,List.getElem?_eq_getElem (by omega)]; rfl
  rw [e1,e2]
  simpa using q
theorem znq {α:Type} [DecidableEq α] [Inhabited α] {A:Around} {s:Shared} {l b:Addr} {us ws:List Value} {ns ms:List α} (p1:s.heap.IsList l us.toArray) (p2:s.heap.IsList b ws.toArray) (hl:us.length=ns.length) (hl2:ws.length=ms.length) (hu:A.units<cLine)
    (h:∀ (j:Nat) (u v:Value) (a b:α),us[j]?=some u→ws[j]?=some v→ns[j]?=some a→ms[j]?=some b→SeqAt.EqAt A.in1 s u v (decide (a=b))) :
    SeqAt.RcAt A s (.ref l) (.ref b) (decide (ns=ms)):=by
  by_cases hs:ns.length=ms.length
  · have q:=SeqAt.RcAt.lists (e:=fun j=>decide ‹44›) p1 p2 ‹55› hu (eqAt_items hl hl2 h)
    have e:((List.range us.toArray.size).all fun j=>decide ‹44›)=decide (ns=ms):=by
      rw [List.size_toArray,hl]; exact ze6 default hs
    rw [e] at q
    exact q
  · have q:=SeqAt.RcAt.lists_lengths p1 p2 ‹55› hu
    have e:decide (ns=ms)=false:=decide_eq_false fun z=>hs (by rw [z])
    rw [e]
    exact q
theorem zqz {α:Type} [DecidableEq α] [Inhabited α] {A:Around} {s:Shared} {l b:Addr} {us ws:List Value} {ns ms:List α} (p1:s.heap.IsList l us.toArray) (p2:s.heap.IsList b ws.toArray) (hl:us.length=ns.length) (hl2:ws.length=ms.length) (hu:A.units<cLine)
    (h:∀ (j:Nat) (u v:Value) (a b:α),us[j]?=some u→ws[j]?=some v→ns[j]?=some a→ms[j]?=some b→SeqAt.EqAt A.in1 s u v (decide (a=b))) :
    SeqAt.RcNeAt A s (.ref l) (.ref b) (!decide (ns=ms)):=by
  by_cases hs:ns.length=ms.length
  · have q:=SeqAt.RcNeAt.lists (e:=fun j=>decide ‹44›) p1 p2 ‹55› hu (eqAt_items hl hl2 h)
    have e:((List.range us.toArray.size).all fun j=>decide ‹44›)=decide (ns=ms):=by
      rw [List.size_toArray,hl]; exact ze6 default hs
    rw [e] at q
    exact q
  · have q:=SeqAt.RcNeAt.lists_lengths p1 p2 ‹55› hu
    have e:decide (ns=ms)=false:=decide_eq_false fun z=>hs (by rw [z])
    rw [e]
    exact q
end
open PySem.W in
theorem ztd {ns:List Int} (h:WData.layableAll [WData.list (ns.map WData.int)]=true):∀ n∈ns,Builtin.Int.intBits n≤1048576:=by
  have w:WData.weight (.list (ns.map WData.int))≤2 ^ 20:=by
    unfold WData.layableAll WData.layable at h
    simp only [List.all_cons,List.all_nil,Bool.and_true,Bool.and_eq_true,decide_eq_true_eq] at h
    exact h.2
  have key:∀ (ms:List Int),∀ n∈ms,Builtin.Int.intBits n≤WData.weightAll (ms.map WData.int):=by
    intro ms
    induction ms with
    | nil=>intro n hn; cases hn
    | cons m ms ih =>
      intro n hn
      rw [List.map_cons,WData.weightAll]
      rcases List.mem_cons.mp hn with rfl | hn
      · have e:WData.weight (.int n)=Builtin.Int.intBits n:=by simp [WData.weight,Builtin.Int.intBits]
        omega
      · have:=ih n hn
        omega
  intro n hn
  have q:=key ns n hn
  have e:WData.weight (.list (ns.map WData.int))=WData.weightAll (ns.map WData.int):=by simp [WData.weight]
  rw [e] at w
  exact Nat.le_trans q w
theorem walk_ofB {l:PySem.W.OpenLaw} {n k:Nat} {q:Program} {loose:List Str} {XP:(Str→Option Value)→Heap→Prop} {YP:World→Heap→Prop} {d:DefRec} {K:Params→PySem.W.Frag} {CX:World→CXT} {sp:World→Sp} {x:Str}
    (hn:l.most=some n) (hn2:n≤sizeLine) (hdf:d.params.defaults=[]) (hr:Room k callerA)
    (hY:∀ (w:World) (h:Heap),YP w h→(K w.params).In h)
    (F:∀ (w:World) (mg:Str→Option Value) (fa:Addr) (h:Heap),(K w.params).In h→h.Ns mainGlobals mg→mg d.name=some (.ref fa) →
      ∃ fd:FuncData,(∀ (s:Shared) (u:Value),BindsTo s fd ⟨[u],[]⟩ [(x,u)]) ∧
        ∀ base:Heap,(K w.params).In base→base.Ns mainGlobals mg→FnOk l.prog w (K w.params) mg base (CX w) k fa fd [x] (sp w))
    (hsp:∀ (w:World) (H:Hp) (a:Addr) (ns:List Int),ns.length≤n→(∀ m∈ns,Builtin.Int.intBits m≤1048576)→Only H→SqL (K w.params) H a (ns.map V.int)→sp w [.ref a] H (fun v _=>v=.bl true) fun _ _ _=>False)
    (hCX:∀ (w:World) (H:Hp) (s:Shared) (e:Value) (s':Shared),CX w [] H s (fun _ _ _=>False) e s'→False) :
    PySem.W.WalkO q loose XP YP l.row.toRowW d [] (fun f vs=>PySem.call f vs):=by
  intro w s₀ s₁ mg mb G Y fa o pm cd doc dV kV ho hd hcd hD hmg hg args vals as hpre hlay hrd hwl hlo
  obtain rfl:dV=.none:=PySem.W.Dflts.none hD hdf
  obtain rfl:kV=.none:=PySem.W.Dflts.noKw hD
  obtain ⟨a,vs,ns,rfl,rfl,hobj,hints,hlen⟩:=Att.script_of hn hpre hwl
  have KX:=hY w _ Y
  obtain ⟨fd,hb,hF⟩:=F w mg fa _ KX G.T.g hmg
  refine PySem.W.enter_call (codeAny_mono (z0c KX G.T.g G.T.b G.T.builtins G.T.nolimit hg hobj hints (Nat.le_trans hlen hn2) hr hF hb (fun H hO hS=>hsp w H a ns hlen (ztd hlay) hO hS) fun H e s'=>hCX w H s₁ e s') fun r s' hq=>?_)
  obtain ⟨rfl,h2,h3,h4⟩:=hq
  exact ⟨.inl ⟨.bool true,.bool true,[],rfl,fun _=>rfl,.bool true,Att.post_true l _,fun _=>⟨List.Pairwise.nil,fun _ hm=>(nomatch hm)⟩⟩,h2,h3,h4⟩
end L2
namespace L2
open PySem PySem.Spec PyProof.Rows
structure Frees (X:Cx) (N':List Str) (scope:Scope) (cl:List (Str×Addr)) (σ σ0:St):Prop where
  sub:∀ x c,cl.lookup x=some c→X.env.cells.lookup x=some c
  vals:∀ (j:Nat) (x:Str) (v:V),N'[j]?=some x→σ0[j]?=some (some v)→∃ (i:Nat) (c:Addr),X.N[i]?=some x∧σ[i]?=some (some v)∧Vis X.env.scope x∧X.env.kindOf x≠some .local∧cl.lookup x=some c ∧
    ‹23›
  has:∀ x,‹23›→∃ c,cl.lookup x=some c
  len:σ0.length=N'.length
section
variable {prog:Program} {w:World} {A:Around} {R:Result→Shared→Prop} {s:Shared}
theorem zrv {elt target iter:Expr} {ifs:List Expr} {scope:Scope} {pos:Pos} {it acc:Value} {env:Env} (I:Nat→Shared→Prop)
    (turn:∀ n s,I n s→wpAny ‹58› A (pyNext it) (fun r s₁=>match r with
      | none=>R (.ok .next) s₁
      | some v=>wpAny ‹58› A (letOwnedTupleGo target it v) (fun _ s₀=>wpAny ‹58› A (assign target env v) (fun _ s₂ =>
          wpAny ‹58› A (forIn ifs true fun c r=>if r=true then do let ok ← isTrue c env (eval c env); pure (ForInStep.yield ok) else pure (ForInStep.yield r)) (fun ok s₃ =>
            if ok=true then wpAny ‹58› A (eval elt env) (fun x s₄ =>
              wpAny ‹58› A (call (.builtin "list.append") [acc,x]) (fun _ s₅=>∃ m,m<n∧I m s₅) ‹139› s₄) ‹139› s₃
            else ∃ m,m<n∧I m s₃) ‹139› s₂) ‹139› s₀) ‹139› s₁) ‹139› s)
    (n:Nat) (h:I n s) :
    codeAny ‹58› A (.compLoop (.ListComp elt [⟨target,iter,ifs,0⟩] scope pos) 0 it acc env) R s:=by
  refine codeAny_loop rfl I (fun n s hI=>?_) n h
  show wpAny _ A ((compTurn (.ListComp elt [⟨target,iter,ifs,0⟩] scope pos) 0 it acc env).onRaise (fun x=>do noteFrame x env; theTreesLotGoes x)) _ _ s
  refine wpAny_noted ?_
  rw [compTurn_list]
  refine wpAny_bind (wpAny_standAt (wpAny_bind (wpAny_mono (turn n s hI) (fun r s₁ h₁=>?_) fun _ _ h'=>h'.elim)))
  cases r with
  | none=>exact wpAny_pure h₁
  | some v =>
    refine wpAny_bind (wpAny_mono h₁ (fun _ s₀ h₀=>?_) fun _ _ h'=>h'.elim)
    refine wpAny_bind (wpAny_mono h₀ (fun _ s₂ h₂=>wpAny_bind (wpAny_mono h₂ (fun ok s₃ h₃=>?_) fun _ _ h'=>h'.elim)) fun _ _ h'=>h'.elim)
    cases ok with
    | false=>exact wpAny_pure ⟨rfl,h₃⟩
    | true =>
      exact wpAny_bind (wpAny_bind (wpAny_mono h₃ (fun x s₄ h₄=>wpAny_bind (wpAny_mono h₄ (fun _ s₅ h₅=>wpAny_pure (wpAny_pure ⟨rfl,h₅⟩)) fun _ _ h'=>h'.elim)) fun _ _ h'=>h'.elim))
end
def z58 (J:It) (g:TG) (tt:TT) (te:TE) (σ0:St) (H1:Hp) (Q:VK):Prop:=∀ D,H1 D=none→∃ W:Nat→Nat→List V→Hp→Prop,(∃ m,W 0 m [] (upd H1 D (.lst []))) ∧
  ∀ i m ys H,W i m ys H→(J.stop i H∧H D=some (.lst ys)∧Q (.ref D) H) ∨
    (J.go i H∧∀ x H',J.yld i H x H'→g x σ0 H' fun σ2 H2=>tt σ2 H2 fun c H3 =>
      if c=true then te σ2 H3 fun v H4=>H4 D=some (.lst ys)∧ys.length<sizeLine∧∃ m',m'<m∧W (i+1) m' (ys++[v]) (upd H4 D (.lst (ys++[v])))
      else ∃ m',m'<m∧W (i+1) m' ys H3)
def zzf (g:TG) (σ0:St):Prop:=∀ x H (Q:St→Hp→Prop),g x σ0 H Q→g x σ0 H fun σ2 H2=>Q σ2 H2∧σ2.length=σ0.length∧∀ (j:Nat) v,σ0[j]?=some (some v)→σ2[j]?=some (some v)
section
variable {X:Cx} {tg elt iter:Expr} {ifs:List Expr} {scope:Scope} {cl:List (Str×Addr)} {N':List Str} {σ0:St→St} {g:TG} {tt:TT} {te:TE}
def zsa (wi:TI) (g:TG) (tt:TT) (te:TE) (σ0:St→St):TE:=fun σ H Q=>wi σ H fun J H1=>z58 J g tt te (σ0 σ) H1 Q
def zzk:TT:=fun _ H Q=>Q true H
variable {pos:Pos} {wi:TI}
def zzl (t:TE) (i:Nat):TS:=fun D σ H=>t σ H fun x H1=>D.nx (σ.set i (some x)) H1
end
end L2
namespace L2
open PySem PySem.Spec PyProof.Rows
section
variable {X:Cx}
theorem zt0 {x:Str} {i:Int} {pos:Pos} (hg:Gl X x) (hm:∃ t,X.mg x=some (.int i t)) (hd:(x==("__debug__" : Str))=false:=by decide):PE X (.Name x pos) (tC (.int i)):=by
  obtain ⟨t,e⟩:=hm
  exact zf9 hg e ⟨t,rfl⟩ hd
end
theorem zcg:bootBuiltins "len" = some (.builtin "len"):=by decide +kernel
theorem z6e:bootBuiltins "max" = some (.builtin "max"):=by decide +kernel
theorem z6d:bootBuiltins "min" = some (.builtin "min"):=by decide +kernel
theorem zc3:bootBuiltins "isinstance" = some (.builtin "isinstance"):=by decide +kernel
theorem znc:bootBuiltins "all" = some (.builtin "all"):=by decide +kernel
theorem zum:bootBuiltins "int" = some (.type "int"):=by decide +kernel
theorem ztc:bootBuiltins "list" = some (.type "list"):=by decide +kernel
theorem z0w:bootBuiltins "tuple" = some (.type "tuple"):=by decide +kernel
theorem same_new {H:Hp} {a:Addr} {o:HO} (h:H a=none):Same H (upd H a o):=fun b u e=>by
  rw [upd_ne (zbo e h)]
  exact e
theorem Paired.mono {α β:Type} {F G:α→β→Prop}:∀ {as:List α} {bs:List β},Paired F as bs→(∀ a b,a∈as→F a b→G a b)→Paired G as bs
  | _,_,.nil,_=>.nil
  | _,_,.cons r t,h=>.cons (h _ _ List.mem_cons_self r) (Paired.mono t fun a b m=>h a b (List.mem_cons_of_mem _ m))
theorem Paired.append {α β:Type} {F:α→β→Prop}:∀ {as cs:List α} {bs ds:List β},Paired F as bs→Paired F cs ds→Paired F (as++cs) (bs++ds)
  | _,_,_,_,.nil,s=>s
  | _,_,_,_,.cons r t,s=>.cons r (Paired.append t s)
theorem Paired.take {α β:Type} {F:α→β→Prop}:∀ (n:Nat) {as:List α} {bs:List β},Paired F as bs→Paired F (as.take n) (bs.take n)
  | 0,_,_,_=>.nil
  | _+1,_,_,.nil=>.nil
  | n+1,_,_,.cons r t=>.cons r (Paired.take n t)
theorem Paired.drop {α β:Type} {F:α→β→Prop}:∀ (n:Nat) {as:List α} {bs:List β},Paired F as bs→Paired F (as.drop n) (bs.drop n)
  | 0,_,_,h=>h
  | _+1,_,_,.nil=>.nil
  | n+1,_,_,.cons _ t=>Paired.drop n t
section
variable {X:Cx} {K:PySem.W.Frag}
theorem zck (h:X.K=K):SlR X (rSlL K):=by subst h; exact z2t
theorem zu8 (h:X.K=K):OpR X (compareOp .In) (rIn K false):=by subst h; exact zxz
theorem zo5 (h:X.K=K):OpR X (compareOp .NotIn) (rIn K true):=by subst h; exact zq7
theorem zgh (h:X.K=K):zhu X (.type "list") (fun xs H Q=>∃ p ys,xs=[.ref p]∧(SqL K H p ys∨SqT K H p ys)∧∀ l,H l=none→Q (.ref l) (upd H l (.lst ys))):=by subst h; exact zrx
theorem zza (h:X.K=K):zhu X (.builtin "isinstance") (fun xs H Q=>∃ x n t b,xs=[x,.ty n]∧TyOf K H x t∧PySem.W.kitOne K t (.type n)=some b∧Q (.bl b) H):=by subst h; exact z0v
theorem za7 {a:Expr} {ta:TE} (h:X.K=K) (ha:PE X a ta) (he:∀ whole,isTrue a X.env whole=(do let v ← whole; standAt a.pos; holding [v] (truthy v))) :
    PT X a (fun σ H Q=>ta σ H fun x H'=>∃ k,TruV K x H' k∧Q k H'):=by subst h; exact zzw ha he
end
end L2
namespace L2
open PySem PySem.Spec PyProof.Rows
section
variable {prog:Program} {w:World} {A:Around} {E:Value→Shared→Prop}
theorem zrt {it t:Addr} {items:Array Value} (hne:t≠it):∀ (n i:Nat) (s:Shared) (Q:List Value→Shared→Prop),s.heap.IsListIter it t i→s.heap.IsList t items→i+n≤items.size →
    (∀ h',h'.IsListIter it t (i+n)→Heap.SameBut it s.heap h'→Q ((items.toList.drop i).take n) { s with heap:=h' })→wpAny ‹58› A (draw (.ref it) n) Q E s
  | 0,i,s,Q,hit,_,_,hQ=>by
    show wpAny _ _ (pure []) Q E s
    exact wpAny_pure (by simpa using hQ s.heap hit (Heap.SameBut.refl ..))
  | n+1,i,s,Q,hit,ht,hle,hQ=>by
    have hlt:i<items.size:=by omega
    show wpAny _ _ (pyNext (.ref it) >>= _) Q E s
    refine wpAny_bind (wpAny_pyNext_list_item hit ht (x:=items[i]) (by simp [hlt]) fun h₁ hit₁ hs₁=>?_)
    refine wpAny_bind (wpAny_holding (zrt hne n (i+1) _ _ hit₁ (ht.extBut hs₁.extBut hne) (by omega) fun h₂ hit₂ hs₂=>wpAny_pure ?_))
    have hd:items.toList.drop i=items[i]::items.toList.drop (i+1):=by simp [List.drop_eq_getElem_cons,hlt]
    have:=hQ h₂ (by rw [show i+(n+1)=i+1+n by omega]; exact hit₂) (hs₁.trans hs₂)
    rw [hd,List.take_succ_cons] at this
    exact this
theorem zld {s:Shared} {t:Addr} {items:Array Value} {Q:List Value→Shared→Prop} (hh:A.handled=none) (ht:s.heap.IsList t items)
    (hQ:∀ h',Heap.ExtBut s.heap.objs.size s.heap h'→Q items.toList { s with heap:=h' }):wpAny ‹58› A (unpackItems (.ref t) items.size none) Q E s:=by
  have hlt:t≠s.heap.objs.size:=by obtain ⟨o,ho,_⟩:=ht; exact Nat.ne_of_lt (Heap.lt_size ho)
  unfold unpackItems
  refine wpAny_bind ?_
  · unfold notIterableAtAll
    refine wpAny_bind (wpAny_specialOf ht.typeIs F.slot_list_iter.lookup ?_)
    refine wpAny_pure ?_
    simp only [Bool.false_eq_true,if_false]
    refine wpAny_bind (wpAny_holding (wpAny_pyIter_list ht ?_))
    refine wpAny_bind (wpAny_holding (zrt hlt items.size 0 _ _ ⟨_,Heap.get?_push_size _ rfl,rfl,rfl⟩ (ht.push _) (by omega) fun h₁ hit₁ hs₁=>?_))
    have hall:List.take items.size (List.drop 0 items.toList)=items.toList:=by
      rw [List.drop_zero]; exact List.take_of_length_le (by simp)
    rw [hall]
    rw [if_neg (by simp)]
    have ht₁:h₁.IsList t items:=(ht.push _).extBut hs₁.extBut hlt
    refine wpAny_bind (wpAny_holding (wpAny_pyNext_list_end hh hit₁ ht₁ (by simp) fun h₂ he₂=>?_))
    simp only [Option.isSome_none,Bool.false_eq_true,if_false]
    refine wpAny_pure (hQ h₂ fun b o hb e=>he₂ b o hb (hs₁.extBut b o hb ‹147›))
theorem zks {s:Shared} {env:Env} {elts:List Expr} {x1} {pos:Pos} {t:Addr} {items:Array Value} {Q:Unit→Shared→Prop} (hh:A.handled=none) (ht:s.heap.IsList t items)
    (hn:(assignEach elts env).length=items.size) (hstar:(assignEach elts env).findIdx? (·.1)=none)
    (h:∀ h',Heap.ExtBut s.heap.objs.size s.heap h'→wpAny ‹58› A (assignInOrder ((assignEach elts env).map (·.2)) items.toList) Q E { s with heap:=h' }) :
    wpAny ‹58› A (assign (.Tuple elts x1 pos) env (.ref t)) Q E s:=by
  rw [arm_assign_Tuple]
  refine wpAny_bind (wpAny_standAt ?_)
  unfold unpack
  rw [hn,hstar]
  exact wpAny_bind (wpAny_holding (zld hh ht h))
end
section
variable {X:Cx} {pos:Pos}
def gLst (K:PySem.W.Frag) (n:Nat) (t:TGs):TG:=fun v σ H Q=>∃ a xs,v=.ref a∧SqL K H a xs∧xs.length=n∧t xs σ H Q
theorem z44 {es:List Expr} {k:Nat} {t:TGs} {n:Nat} (hc:X.calm=true) (h:PGs X es t)
    (hn:‹116›.length=n:=by rfl) (hst:‹116›.findIdx? (·.1)=none:=by rfl):PG X (.Tuple es k pos) (gLst X.K n t):=by
  intro pins s σ H v u Q I r hw
  obtain ⟨a,xs,e1,hq,hl,hw⟩:=hw
  subst e1
  cases r
  obtain ⟨its,rv,ht,hz⟩:=I.list hq
  refine zks (I.ok.hd hc) ht.isList (by simp [hn,← hl,rv.length]) hst fun h' hx=>?_
  have I1:Inv X pins σ H { s with heap:=h' }:=I.kept (t':=s.toks) fun b o e=>hx b o (Nat.ne_of_lt (Heap.lt_size e)) e
  exact h pins _ σ H xs _ Q I1 (by simpa using rv) hw
end
end L2
namespace L2
open PySem PySem.Spec PyProof.Rows
structure M1 (X:Cx) (o:Expr) (m:Str) (apos:Pos) (e:Expr) (cpos:Pos):Prop where
  base:attributeBase o m X.env (eval o X.env)=eval o X.env
  few:((backTo cpos (starEach [e] X.env)).all (fun x=>!x.1)&&(backToKw cpos (keywordEach [] X.env)).all (fun x=>x.1.isSome)
    && decide (([e]:List Expr).length+([]:List Keyword).length+(if ([]:List Keyword).isEmpty then 0 else 1)<30))=true
  line:(apos.endLine==cpos.line)=true
  trees:backTo cpos (starEach [e] X.env)=[(false,eval e X.env)]
structure M2 (X:Cx) (o:Expr) (m:Str) (apos:Pos) (e f:Expr) (cpos:Pos):Prop where
  base:attributeBase o m X.env (eval o X.env)=eval o X.env
  few:((backTo cpos (starEach [e,f] X.env)).all (fun x=>!x.1)&&(backToKw cpos (keywordEach [] X.env)).all (fun x=>x.1.isSome)
    && decide (([e,f]:List Expr).length+([]:List Keyword).length+(if ([]:List Keyword).isEmpty then 0 else 1)<30))=true
  line:(apos.endLine==cpos.line)=true
  trees:backTo cpos (starEach [e,f] X.env)=[(false,eval e X.env),(false,eval f X.env)]
end L2
namespace Tm
open PySem PyProof.Rows
section
variable {M:Model} {A:Around} {E:Value→Shared→Prop} {s:Shared} {κ:SortKind} {G:Keyed→Prop} {C:Keyed→Keyed→Bool}
structure OrdC (C:Keyed→Keyed→Bool):Prop where
  as:∀ x y,C x y=true→C y x=false
  tr:∀ x y z,C y x=false→C z y=false→C z x=false
end
end Tm
namespace Tm
open PySem PyProof.Rows
section pure
variable {α:Type} {C:α→α→Bool}
structure OrdG (C:α→α→Bool):Prop where
  as:∀ x y,C x y=true→C y x=false
  tr:∀ x y z,C y x=false→C z y=false→C z x=false
def Le (C:α→α→Bool) (x y:α):Prop:=C y x=false
abbrev Srt (C:α→α→Bool) (l:List α):Prop:=l.Pairwise (Le C)
structure ML (C:α→α→Bool) (L out A B:List α):Prop where
  so:Srt C out
  oa:∀ x∈out,∀ y∈A,Le C x y
  ob:∀ x∈out,∀ y∈B,Le C x y
  pm:(out++(A++B)).Perm L
  sa:Srt C A
  sb:Srt C B
end pure
end Tm
namespace Tm
open PySem PyProof.Rows
section
variable {C:Keyed→Keyed→Bool}
variable {M:Model} {A:Around} {E:Value→Shared→Prop} {s:Shared} {κ:SortKind} {G:Keyed→Prop}
structure MA (C:Keyed→Keyed→Bool) (a b out:Array Keyed) (ia ib:Nat):Prop where
  ml:ML C (a.toList++b.toList) out.toList (a.toList.drop ia) (b.toList.drop ib)
  la:ia≤a.size
  lb:ib≤b.size
end
end Tm
set_option pp.maxSteps 1000000
set_option pp.deepTerms true
namespace Tm
open PySem PyProof.Rows
section
variable {M:Model} {A:Around} {E:Value→Shared→Prop} {s:Shared} {κ:SortKind} {G:Keyed→Prop} {C:Keyed→Keyed→Bool}
structure Two (G:Keyed→Prop) (C:Keyed→Keyed→Bool) (a b:Array Keyed):Prop where
  ga:∀ x∈a.toList,G x
  gb:∀ x∈b.toList,G x
  sa:Srt C a.toList
  sb:Srt C b.toList
  fst:∀ (h:0<b.size),∀ x∈a.toList,Le C b[0] x
  lst:∀ y∈b.toList,∀ x∈a.toList.drop (a.size-1),Le C y x
end
end Tm
namespace Tm
open PySem PyProof.Rows
section pure
variable {α:Type} {C:α→α→Bool}
structure MH (C:α→α→Bool) (L S A B:List α):Prop where
  so:Srt C S
  oa:∀ x∈A,∀ z∈S,Le C x z
  ob:∀ x∈B,∀ z∈S,Le C x z
  pm:((A++B)++S).Perm L
  sa:Srt C A
  sb:Srt C B
end pure
section
variable {C:Keyed→Keyed→Bool}
structure MB (C:Keyed→Keyed→Bool) (a b out:Array Keyed) (na nb:Nat):Prop where
  mh:MH C (a.toList++b.toList) out.toList.reverse (a.toList.take na) (b.toList.take nb)
  la:na≤a.size
  lb:nb≤b.size
end
end Tm
namespace Tm
open PySem PyProof.Rows
def gk (xs:Array Keyed) (i:Nat):Keyed:=xs[i]?.getD (.none,.none)
def Up (C:Keyed→Keyed→Bool) (xs:Array Keyed) (lo hi:Nat):Prop:=∀ i j,lo≤i→i≤j→j<hi→Le C (gk xs i) (gk xs j)
structure SB (κ:SortKind) (a₀:Array Keyed) (st:SortSt):Prop where
  perm:(arrOf st).Perm a₀
  kind:kindOf st=κ
  failed:failedOf st=none
def Good (G:Keyed→Prop) (a₀:Array Keyed):Prop:=∀ x∈a₀.toList,G x
end Tm
namespace Tm
open PySem PyProof.Rows
section
variable {M:Model} {A:Around} {E:Value→Shared→Prop} {s:Shared} {κ:SortKind} {G:Keyed→Prop} {C:Keyed→Keyed→Bool} {a₀:Array Keyed}
structure Run (κ:SortKind) (a₀:Array Keyed) (st:SortSt) (lo nrem:Nat) (xs:Array Keyed):Prop where
  sb:SB κ a₀ (setArr st xs)
  out:∀ k,k<lo∨lo+nrem≤k→gk xs k=gk (arrOf st) k
end
end Tm
namespace VL
open PySem L2
open Classical
inductive D where
  | non | bl (b:Bool) | int (i:Int) | str (x:Str) | ty (n:String)
  | lst (xs:List D) | tup (xs:List D) | ins (C:Addr) | scr (ns:List Int) | dct (kvs:List (Int×Int))
def dkv (p:Int×Int):Key×V:=(.inl p.1,.int p.2)
abbrev No:Addr→Prop:=fun _=>False
def KL (K:PySem.W.Frag) (a:Addr) (xs:List V):Prop :=
  ∃ (o:Obj) (its:Array Value) (n:Nat),K.lookup a=some o∧o.cls=.type "list" ∧ o.dict=none∧o.data=.seq its n∧its.size≤sizeLine∧Vals xs its.toList
mutual
inductive Is (K:PySem.W.Frag) (H:Hp) (Z:Addr→Prop):V→D→Prop
  | non:Is K H Z .non .non
  | bl (b:Bool):Is K H Z (.bl b) (.bl b)
  | int (i:Int):Is K H Z (.int i) (.int i)
  | str (x:Str):Is K H Z (.str x) (.str x)
  | ty (n:String):Is K H Z (.ty n) (.ty n)
  | lst {a:Addr} {vs:List V} {ds:List D} (hz:¬ Z a) (h:Rd H a (.lst vs)) (hl:vs.length≤sizeLine) (r:IsL K H Z vs ds):Is K H Z (.ref a) (.lst ds)
  | tup {a:Addr} {vs:List V} {ds:List D} (hz:¬ Z a) (h:H a=some (.tup vs)) (hl:vs.length≤sizeLine) (r:IsL K H Z vs ds):Is K H Z (.ref a) (.tup ds)
  | ins {a C dx:Addr} (hz:¬ Z a) (h:H a=some (.ins C dx [])):Is K H Z (.ref a) (.ins C)
  | dct {a:Addr} {kvs:List (Int×Int)} (hz:¬ Z a) (h:Rd H a (.dK (kvs.map dkv))) (hl:kvs.length≤sizeLine):Is K H Z (.ref a) (.dct kvs)
  | scr {a:Addr} {ns:List Int} (hz:¬ Z a) (h:Rd H a (.lst (ns.map V.int))) (hl:ns.length≤sizeLine):Is K H Z (.ref a) (.scr ns)
  | scrK {a:Addr} {ns:List Int} (h:KL K a (ns.map V.int)) (hl:ns.length≤sizeLine):Is K H Z (.ref a) (.scr ns)
inductive IsL (K:PySem.W.Frag) (H:Hp) (Z:Addr→Prop):List V→List D→Prop
  | nil:IsL K H Z [] []
  | cons {v:V} {d:D} {vs:List V} {ds:List D} (h:Is K H Z v d) (r:IsL K H Z vs ds):IsL K H Z (v::vs) (d::ds)
end
def Kp (Z:Addr→Prop) (H:Hp) (Z':Addr→Prop) (H':Hp):Prop:=∀ a o,H a=some o→¬ Z a→H' a=some o∧¬ Z' a
theorem Kp.refl {Z:Addr→Prop} {H:Hp}:Kp Z H Z H:=fun _ _ h z=>⟨h,z⟩
theorem Kp.trans {Z Z1 Z2:Addr→Prop} {H H1 H2:Hp} (a:Kp Z H Z1 H1) (b:Kp Z1 H1 Z2 H2):Kp Z H Z2 H2:=fun c o h z=>b c o (a c o h z).1 (a c o h z).2
theorem Kp.same {Z:Addr→Prop} {H H':Hp} (s:Same H H'):Kp Z H Z H':=fun _ _ h z=>⟨s _ _ h,z⟩
theorem Kp.less {Z Z':Addr→Prop} {H:Hp} (h:∀ a,Z' a→Z a):Kp Z H Z' H:=fun a _ e z=>⟨e,fun q=>z (h a q)⟩
theorem Rd.kp {Z Z':Addr→Prop} {H H':Hp} {a:Addr} {u:HO} (k:Kp Z H Z' H') (hz:¬ Z a) (h:Rd H a u):Rd H' a u∧¬ Z' a:=by
  rcases h with h | ⟨o,h⟩
  · exact ⟨.inl (k _ _ h hz).1,(k _ _ h hz).2⟩
  · exact ⟨.inr ⟨o,(k _ _ h hz).1⟩,(k _ _ h hz).2⟩
mutual
theorem Is.kp {Z Z':Addr→Prop} {H H':Hp} (k:Kp Z H Z' H'):∀ {v:V} {d:D},Is K H Z v d→Is K H' Z' v d
  | _,_,.non=>.non
  | _,_,.bl b=>.bl b
  | _,_,.int b=>.int b
  | _,_,.str b=>.str b
  | _,_,.ty b=>.ty b
  | _,_,.lst hz h hl r=>.lst (Rd.kp k hz h).2 (Rd.kp k hz h).1 hl (IsL.kp k r)
  | _,_,.tup hz h hl r=>.tup (k _ _ h hz).2 (k _ _ h hz).1 hl (IsL.kp k r)
  | _,_,.ins hz h=>.ins (k _ _ h hz).2 (k _ _ h hz).1
  | _,_,.dct hz h hl=>.dct (Rd.kp k hz h).2 (Rd.kp k hz h).1 hl
  | _,_,.scr hz h hl=>.scr (Rd.kp k hz h).2 (Rd.kp k hz h).1 hl
  | _,_,.scrK h hl=>.scrK h hl
theorem IsL.kp {Z Z':Addr→Prop} {H H':Hp} (k:Kp Z H Z' H'):∀ {v:List V} {d:List D},IsL K H Z v d→IsL K H' Z' v d
  | _,_,.nil=>.nil
  | _,_,.cons h r=>.cons (Is.kp k h) (IsL.kp k r)
end
theorem Is.same {Z:Addr→Prop} {H H':Hp} {v:V} {d:D} (h:Is K H Z v d) (s:Same H H'):Is K H' Z v d:=h.kp (Kp.same s)
theorem IsL.same {Z:Addr→Prop} {H H':Hp} {v:List V} {d:List D} (h:IsL K H Z v d) (s:Same H H'):IsL K H' Z v d:=h.kp (Kp.same s)
theorem Is.all {Z:Addr→Prop} {H:Hp} {v:V} {d:D} (h:Is K H Z v d):Is K H No v d:=h.kp (Kp.less fun _ z=>z.elim)
theorem IsL.all {Z:Addr→Prop} {H:Hp} {v:List V} {d:List D} (h:IsL K H Z v d):IsL K H No v d:=h.kp (Kp.less fun _ z=>z.elim)
def D.scal:D→Bool
  | .lst _=>false
  | .tup _=>false
  | .ins _=>false
  | .scr _=>false
  | .dct _=>false
  | _=>true
theorem Is.scal {Z Z':Addr→Prop} {H H':Hp} {v:V} {d:D} (h:Is K H Z v d) (e:d.scal=true):Is K H' Z' v d:=by
  cases h with
  | non=>exact .non
  | bl b=>exact .bl b
  | int b=>exact .int b
  | str b=>exact .str b
  | ty b=>exact .ty b
  | lst _ _ _ _=>cases e
  | tup _ _ _ _=>cases e
  | ins _ _=>cases e
  | dct _ _ _=>cases e
  | scr _ _ _=>cases e
  | scrK _ _=>cases e
section
variable {H:Hp} {Z:Addr→Prop}
theorem IsL.paired:∀ {vs:List V} {ds:List D},IsL K H Z vs ds→Paired (Is K H Z) vs ds
  | _,_,.nil=>.nil
  | _,_,.cons h r=>.cons h (IsL.paired r)
theorem IsL.of:∀ {vs:List V} {ds:List D},Paired (Is K H Z) vs ds→IsL K H Z vs ds
  | _,_,.nil=>.nil
  | _,_,.cons h r=>.cons h (IsL.of r)
theorem IsL.length {vs:List V} {ds:List D} (h:IsL K H Z vs ds):vs.length=ds.length:=Paired.length h.paired
theorem IsL.get:∀ {vs:List V} {ds:List D} {i:Nat} {d:D},IsL K H Z vs ds→ds[i]?=some d→∃ v,vs[i]?=some v∧Is K H Z v d
  | _,_,0,_,.cons h _,e=>by cases e; exact ⟨_,rfl,h⟩
  | _,_,i+1,_,.cons _ r,e=>by
    obtain ⟨v,e1,h1⟩:=IsL.get (i:=i) r (by simpa using e)
    exact ⟨v,by simpa using e1,h1⟩
theorem IsL.append {vs us:List V} {ds es:List D} (a:IsL K H Z vs ds) (b:IsL K H Z us es):IsL K H Z (vs++us) (ds++es):=.of (Paired.append a.paired b.paired)
theorem IsL.take (n:Nat) {vs:List V} {ds:List D} (a:IsL K H Z vs ds):IsL K H Z (vs.take n) (ds.take n):=.of (Paired.take n a.paired)
theorem IsL.drop (n:Nat) {vs:List V} {ds:List D} (a:IsL K H Z vs ds):IsL K H Z (vs.drop n) (ds.drop n):=.of (Paired.drop n a.paired)
theorem IsL.set {v:V} {d:D} (q:Is K H Z v d):∀ {vs:List V} {ds:List D} (n:Nat),IsL K H Z vs ds→IsL K H Z (vs.set n v) (ds.set n d)
  | _,_,_,.nil=>.nil
  | _,_,0,.cons _ r=>.cons q r
  | _,_,n+1,.cons h r=>.cons h (IsL.set q n r)
theorem IsL.one {v:V} {d:D} (q:Is K H Z v d):IsL K H Z [v] [d]:=.cons q .nil
theorem IsL.ints:∀ {vs:List V} {ns:List Int},IsL K H Z vs (ns.map D.int)→vs=ns.map V.int
  | _,[],.nil=>rfl
  | _,n::ns,.cons (.int _) r=>by rw [IsL.ints (ns:=ns) r]; rfl
theorem IsL.ofInts:∀ (ns:List Int),IsL K H Z (ns.map V.int) (ns.map D.int)
  | []=>.nil
  | n::ns=>.cons (.int n) (IsL.ofInts ns)
end
inductive Sl where
  | un | pu (d:D) | bo (d:D) | ol (ds:List D) | om (rows:List (List D)) | od (kvs:List (Int×Int))
  | pm (a:Addr) (ps:List Addr) (rows:List (List D)) | pd (a:Addr) (kvs:List (Int×Int))
abbrev Rho:=List Sl
abbrev Own:=Nat→List Addr
def tot (Z:Addr→Prop) (os:Own):Addr→Prop:=fun a=>Z a∨∃ i,a∈os i
def SlOk (K:PySem.W.Frag) (B H:Hp) (T:Addr→Prop) (o:List Addr):Sl→Option V→Prop
  | .un,_=>o=[]
  | .pu d,v=>o=[]∧∃ u,v=some u∧Is K H T u d
  | .bo d,v=>o=[]∧∃ u,v=some u∧Is K B No u d
  | .ol ds,v=>∃ a vs,o=[a]∧v=some (.ref a)∧H a=some (.lst vs)∧vs.length≤sizeLine∧IsL K H T vs ds
  | .om rows,v=>∃ a ps,o=a::ps∧v=some (.ref a)∧H a=some (.lst (ps.map V.ref))∧ps.length≤sizeLine∧Paired (fun p ds=>∃ vs,H p=some (.lst vs)∧vs.length≤sizeLine∧IsL K H T vs ds) ps rows
  | .od kvs,v=>∃ a,o=[a]∧v=some (.ref a)∧H a=some (.dK (kvs.map dkv))∧kvs.length≤sizeLine
  | .pm a ps rows,v=>o=a::ps∧v=some (.ref a)∧H a=some (.lst (ps.map V.ref))∧ps.length≤sizeLine∧Paired (fun p ds=>∃ vs,H p=some (.lst vs)∧vs.length≤sizeLine∧IsL K H T vs ds) ps rows
  | .pd a kvs,v=>o=[a]∧v=some (.ref a)∧H a=some (.dK (kvs.map dkv))∧kvs.length≤sizeLine
class Tabs where
  ts:List (Addr×Str)
def TabIn [Tabs] (H:Hp):Prop:=∀ p∈Tabs.ts,∃ t,H p.1=some (.tbl #[.str p.2 t])
theorem TabIn.same [Tabs] {H H':Hp} (h:TabIn H) (s:Same H H'):TabIn H':=fun p hp=>let ⟨t,e⟩:=h p hp; ⟨t,s _ _ e⟩
def ZT [Tabs] (Z:Addr→Prop) (H:Hp):Prop:=(∀ a,Z a→∃ o,H a=some o)∧TabIn H
structure Fr [Tabs] (K:PySem.W.Frag) (B:Hp) (Z:Addr→Prop) (os:Own) (ρ:Rho) (σ:St) (H:Hp):Prop where
  keep:Same B H
  zin:∀ a,Z a→∃ o,H a=some o
  len:σ.length=ρ.length
  nd:∀ i,(os i).Nodup
  dj:∀ i j a,a∈os i→a∈os j→i=j
  new:∀ i a,a∈os i→B a=none∧¬ Z a
  sl:∀ i,SlOk K B H (tot Z os) (os i) (ρ.getD i .un) ((σ[i]?).join)
  tab:TabIn B
variable [Tabs]
theorem Fr.tabH {B H:Hp} {Z:Addr→Prop} {os:Own} {ρ:Rho} {σ:St} (f:Fr K B Z os ρ σ H):TabIn H:=f.tab.same f.keep
theorem Paired.any {α β:Type} {F:α→β→Prop}:∀ {as:List α} {bs:List β} {a:α},Paired F as bs→a∈as→∃ b,F a b
  | _,_,_,.cons r t,h=>by
    rcases List.mem_cons.mp h with rfl | h
    · exact ⟨_,r⟩
    · exact Paired.any t h
theorem SlOk.dom {B H:Hp} {T:Addr→Prop} {o:List Addr} {s:Sl} {v:Option V} (h:SlOk K B H T o s v) {a:Addr} (ha:a∈o):∃ u,H a=some u:=by
  cases s with
  | un=>cases h; cases ha
  | pu d=>obtain ⟨rfl,_⟩:=h; cases ha
  | bo d=>obtain ⟨rfl,_⟩:=h; cases ha
  | ol ds =>
    obtain ⟨b,vs,rfl,_,e,_⟩:=h
    cases List.mem_singleton.mp ha
    exact ⟨_,e⟩
  | om rows =>
    obtain ⟨b,ps,rfl,_,e,_,r⟩:=h
    rcases List.mem_cons.mp ha with rfl | ha
    · exact ⟨_,e⟩
    · obtain ⟨_,vs,q,_⟩:=Paired.any r ha
      exact ⟨_,q⟩
  | od kvs =>
    obtain ⟨b,rfl,_,e,_⟩:=h
    cases List.mem_singleton.mp ha
    exact ⟨_,e⟩
  | pm b ps rows =>
    obtain ⟨rfl,_,e,_,r⟩:=h
    rcases List.mem_cons.mp ha with rfl | ha
    · exact ⟨_,e⟩
    · obtain ⟨_,vs,q,_⟩:=Paired.any r ha
      exact ⟨_,q⟩
  | pd b kvs =>
    obtain ⟨rfl,_,e,_⟩:=h
    cases List.mem_singleton.mp ha
    exact ⟨_,e⟩
theorem SlOk.kp {B B' H H':Hp} {T T':Addr→Prop} {o:List Addr} {s:Sl} {v:Option V} (h:SlOk K B H T o s v) (k:Kp T H T' H') (hb:Same B B') (ho:∀ a∈o,∀ u,H a=some u→H' a=some u):SlOk K B' H' T' o s v:=by
  cases s with
  | un=>exact h
  | pu d=>obtain ⟨e,u,e2,i⟩:=h; exact ⟨e,u,e2,i.kp k⟩
  | bo d=>obtain ⟨e,u,e2,i⟩:=h; exact ⟨e,u,e2,i.same hb⟩
  | ol ds=>obtain ⟨a,vs,rfl,e2,e3,hl,i⟩:=h; exact ⟨a,vs,rfl,e2,ho _ (List.mem_singleton.mpr rfl) _ e3,hl,i.kp k⟩
  | om rows =>
    obtain ⟨a,ps,rfl,e2,e3,hl,i⟩:=h
    exact ⟨a,ps,rfl,e2,ho _ List.mem_cons_self _ e3,hl,Paired.mono i fun p ds hp ⟨vs,q,hv,j⟩=>⟨vs,ho _ (List.mem_cons_of_mem _ hp) _ q,hv,j.kp k⟩⟩
  | od kvs=>obtain ⟨a,rfl,e2,e3,hl⟩:=h; exact ⟨a,rfl,e2,ho _ (List.mem_singleton.mpr rfl) _ e3,hl⟩
  | pm a ps rows =>
    obtain ⟨rfl,e2,e3,hl,i⟩:=h
    exact ⟨rfl,e2,ho _ List.mem_cons_self _ e3,hl,Paired.mono i fun p ds hp ⟨vs,q,hv,j⟩=>⟨vs,ho _ (List.mem_cons_of_mem _ hp) _ q,hv,j.kp k⟩⟩
  | pd a kvs=>obtain ⟨rfl,e2,e3,hl⟩:=h; exact ⟨rfl,e2,ho _ (List.mem_singleton.mpr rfl) _ e3,hl⟩
section
variable {B H H':Hp} {Z:Addr→Prop} {os:Own} {ρ:Rho} {σ:St}
theorem Fr.grow (f:Fr K B Z os ρ σ H) (s:Same H H'):Fr K B Z os ρ σ H' where
  keep:=f.keep.trans s
  zin:=fun a z=>let ⟨o,e⟩:=f.zin a z; ⟨o,s _ _ e⟩
  len:=f.len
  nd:=f.nd
  dj:=f.dj
  new:=f.new
  sl:=fun i=>(f.sl i).kp (Kp.same s) ‹101› fun a _ u e=>s _ _ e
  tab:=f.tab
theorem Fr.out (f:Fr K B Z os ρ σ H) {p:Addr} (hp:H p=none):¬ tot Z os p:=by
  rintro (z | ⟨i,z⟩)
  · obtain ⟨o,e⟩:=f.zin p z
    rw [hp] at e; cases e
  · obtain ⟨xs,e⟩:=(f.sl i).dom z
    rw [hp] at e; cases e
def putO (os:Own) (i:Nat) (o:List Addr):Own:=fun j=>if j=i then o else os j
theorem zbs {os:Own} {i:Nat} {o:List Addr}:putO os i o i=o:=if_pos rfl
theorem putO_ne {os:Own} {i j:Nat} {o:List Addr} (h:j≠i):putO os i o j=os j:=if_neg h
theorem zph {α:Type} {l:List α} {i:Nat} {x d:α} (h:i<l.length):(l.set i x).getD i d=x:=by
  rw [List.getD_eq_getElem?_getD,List.getElem?_set_self h]; rfl
theorem getD_set_ne {α:Type} {l:List α} {i j:Nat} {x d:α} (h:j≠i):(l.set i x).getD j d=l.getD j d:=by
  rw [List.getD_eq_getElem?_getD,List.getElem?_set_ne (Ne.symm h),← List.getD_eq_getElem?_getD]
theorem Fr.step (f:Fr K B Z os ρ σ H) {i:Nat} (hi:i < ρ.length) {o:List Addr} {s:Sl} {v:Option V}
    (hk:∀ a u,H a=some u→a∉os i→H' a=some u) (hs:∀ a,a∈os i→∃ u,H' a=some u) (hn:o.Nodup) (ho:∀ a∈o,a∈os i∨H a=none) (ok:SlOk K B H' (tot Z (putO os i o)) o s v) :
    Fr K B Z (putO os i o) (ρ.set i s) (σ.set i v) H'∧Kp (tot Z os) H (tot Z (putO os i o)) H':=by
  have no:∀ a u,H a=some u→a∉os i→a∉o:=fun a u e n q=>by
    rcases ho a q with z | z
    · exact n z
    · rw [z] at e; cases e
  have kp:Kp (tot Z os) H (tot Z (putO os i o)) H':=fun a u e t=>by
    have ni:a∉os i:=fun q=>t (.inr ⟨i,q⟩)
    refine ⟨hk a u e ni,?_⟩
    rintro (z | ⟨j,z⟩)
    · exact t (.inl z)
    · by_cases hj:j=i
      · subst hj; rw [zbs] at z; exact no a u e ni z
      · rw [putO_ne hj] at z; exact t (.inr ⟨j,z⟩)
  refine ⟨⟨fun a u e=>hk a u (f.keep a u e) fun q=>?_,fun a z=>?_,?_,fun j=>?_,fun j k a h1 h2=>?_,fun j a h=>?_,fun j=>?_,f.tab⟩,kp⟩
  · have:=(f.new i a q).1; rw [e] at this; cases this
  · obtain ⟨u,e⟩:=f.zin a z
    exact ⟨u,hk a u e fun q=>(f.new i a q).2 z⟩
  · rw [List.length_set,List.length_set]; exact f.len
  · by_cases hj:j=i
    · subst hj; rw [zbs]; exact hn
    · rw [putO_ne hj]; exact f.nd j
  · have dom:∀ k,a∈os k→∃ u,H a=some u:=fun k z=>let ⟨xs,e⟩:=(f.sl k).dom z; ⟨_,e⟩
    by_cases hj:j=i
    · by_cases hk':k=i
      · rw [hj,hk']
      · subst hj
        rw [zbs] at h1; rw [putO_ne hk'] at h2
        rcases ho a h1 with z | z
        · exact f.dj _ _ a z h2
        · obtain ⟨u,e⟩:=dom k h2; rw [z] at e; cases e
    · by_cases hk':k=i
      · subst hk'
        rw [putO_ne hj] at h1; rw [zbs] at h2
        rcases ho a h2 with z | z
        · exact f.dj _ _ a h1 z
        · obtain ⟨u,e⟩:=dom j h1; rw [z] at e; cases e
      · rw [putO_ne hj] at h1; rw [putO_ne hk'] at h2
        exact f.dj _ _ a h1 h2
  · by_cases hj:j=i
    · subst hj
      rw [zbs] at h
      rcases ho a h with z | z
      · exact f.new _ a z
      · exact ⟨Same.free f.keep z,fun q=>f.out z (.inl q)⟩
    · rw [putO_ne hj] at h; exact f.new j a h
  · by_cases hj:j=i
    · subst hj
      have hσ:j < σ.length:=by rw [f.len]; exact hi
      rw [zbs,zph hi,List.getElem?_set_self hσ]
      exact ok
    · rw [putO_ne hj,getD_set_ne hj,List.getElem?_set_ne (Ne.symm hj)]
      exact (f.sl j).kp kp ‹101› fun a ha u e=>hk a u e fun q=>hj (f.dj _ _ a ha q)
theorem Fr.put (f:Fr K B Z os ρ σ H) {i:Nat} (hi:i < ρ.length) {v:V} {d:D} (h:Is K H (tot Z os) v d) :
    Fr K B Z (putO os i []) (ρ.set i (.pu d)) (σ.set i (some v)) H∧Kp (tot Z os) H (tot Z (putO os i [])) H:=by
  refine f.step hi (fun a u e _=>e) (fun a ha=>let ⟨xs,e⟩:=(f.sl i).dom ha; ⟨_,e⟩) List.nodup_nil (fun a h=>by cases h) ⟨rfl,v,rfl,h.kp (Kp.less ?_)⟩
  rintro a (z | ⟨j,z⟩)
  · exact .inl z
  · by_cases hj:j=i
    · subst hj; rw [zbs] at z; cases z
    · rw [putO_ne hj] at z; exact .inr ⟨j,z⟩
end
end VL
namespace VL
open PySem L2
open Classical
noncomputable section
abbrev DE:=Rho→Option D
section
variable [Tabs] {K:PySem.W.Frag}
def SemB (K:PySem.W.Frag) (t:TE) (e:DE):Prop:=∀ {B:Hp} {Z:Addr→Prop} {os:Own} {ρ:Rho} {σ:L2.St} {H:Hp} {Q:VK} {d:D},Fr K B Z os ρ σ H→e ρ=some d→(∀ v H',Same H H'→Is K H' No v d→Q v H')→t σ H Q
def SemI (K:PySem.W.Frag) (t:TE) (e:DE):Prop:=∀ {B:Hp} {Z:Addr→Prop} {os:Own} {ρ:Rho} {σ:L2.St} {H:Hp} {Q:VK} {d:D},Fr K B Z os ρ σ H→e ρ=some d→(∀ v H',Same H H'→Is K H' (tot Z os) v d→Q v H')→t σ H Q
def SemF (K:PySem.W.Frag) (t:TE) (e:Rho→Option (List D)):Prop:=∀ {B:Hp} {Z:Addr→Prop} {os:Own} {ρ:Rho} {σ:L2.St} {H:Hp} {Q:VK} {ds:List D},Fr K B Z os ρ σ H→e ρ=some ds →
  (∀ p vs H',Same H H'→H p=none→H' p=some (.lst vs)→vs.length≤sizeLine→IsL K H' (fun a=>a=p∨tot Z os a) vs ds→Q (.ref p) H')→t σ H Q
def SemT (K:PySem.W.Frag) (t:TT) (e:Rho→Option Bool):Prop:=∀ {B:Hp} {Z:Addr→Prop} {os:Own} {ρ:Rho} {σ:L2.St} {H:Hp} {Q:Bool→Hp→Prop} {b:Bool},Fr K B Z os ρ σ H→e ρ=some b→(∀ H',Same H H'→Q b H')→t σ H Q
inductive Args (K:PySem.W.Frag) (H:Hp) (T:Addr→Prop):List Bool→List V→List D→Prop
  | nil:Args K H T [] [] []
  | own {ms:List Bool} {v:V} {d:D} {vs:List V} {ds:List D}:Is K H T v d→Args K H T ms vs ds→Args K H T (true::ms) (v::vs) (d::ds)
  | any {ms:List Bool} {v:V} {d:D} {vs:List V} {ds:List D}:Is K H No v d→Args K H T ms vs ds→Args K H T (false::ms) (v::vs) (d::ds)
def SemA (K:PySem.W.Frag) (ms:List Bool) (t:TA) (e:Rho→Option (List D)):Prop:=∀ {B:Hp} {Z:Addr→Prop} {os:Own} {ρ:Rho} {σ:L2.St} {H:Hp} {Q:List V→Hp→Prop} {ds:List D},Fr K B Z os ρ σ H→e ρ=some ds→(∀ vs H',Same H H'→Args K H' (tot Z os) ms vs ds→Q vs H')→t σ H Q
theorem Args.len {H:Hp} {T:Addr→Prop} {ms:List Bool} {vs:List V} {ds:List D} (a:Args K H T ms vs ds):vs.length=ms.length∧ds.length=ms.length:=by
  induction a with
  | nil=>exact ⟨rfl,rfl⟩
  | own h _ ih=>simp [ih.1,ih.2]
  | any h _ ih=>simp [ih.1,ih.2]
theorem Args.lown {H:Hp} {T:Addr→Prop}:∀ {n:Nat} {vs:List V} {ds:List D},Args K H T (List.replicate n true) vs ds→IsL K H T vs ds
  | 0,_,_,.nil=>.nil
  | _+1,_,_,.own h r=>.cons h r.lown
theorem SemI.b {t:TE} {e:DE} (h:SemI K t e):SemB K t e:=fun f q k=>h f q fun v H' s i=>k v H' s i.all
theorem SemF.i {t:TE} {e:Rho→Option (List D)} (h:SemF K t e):SemI K t (fun ρ=>(e ρ).map D.lst):=fun {B Z os ρ σ H Q d} f q k=>by
  dsimp only at q
  cases q1:e ρ with
  | none=>rw [q1] at q; cases q
  | some ds =>
    rw [q1] at q
    cases q
    refine h f q1 fun p vs H' s hp hp' hl i=>k _ _ s (.lst (f.out hp) (.inl hp') hl (i.kp (Kp.less fun a z=>.inr z)))
def lof:D→Option (List D)
  | .lst ds=>some ds
  | .scr ns=>some (ns.map D.int)
  | _=>none
theorem Is.seq {H:Hp} {Z:Addr→Prop} {v:V} {d:D} {ds:List D} (h:Is K H Z v d) (e:lof d=some ds):∃ p vs,v=.ref p∧vs.length≤sizeLine∧vs.length=ds.length∧∀ H' Z',Kp Z H Z' H'→SqL K H' p vs∧IsL K H' Z' vs ds:=by
  cases h with
  | lst hz h hl r=>cases e; exact ⟨_,_,rfl,hl,r.length,fun H' Z' k=>⟨.inl (Rd.kp k hz h).1,r.kp k⟩⟩
  | scr hz h hl=>cases e; exact ⟨_,_,rfl,by rw [List.length_map]; exact hl,by simp,fun H' Z' k=>⟨.inl (Rd.kp k hz h).1,.ofInts _⟩⟩
  | scrK h hl=>cases e; exact ⟨_,_,rfl,by rw [List.length_map]; exact hl,by simp,fun H' Z' k=>⟨.inr h,.ofInts _⟩⟩
  | _=>cases e
noncomputable def zlf (e:DE):DE:=fun ρ=>match e ρ with
  | some d=>if d.scal=true then some d else none
  | none=>none
theorem SemB.i {t:TE} {e:DE} (h:SemB K t e):SemI K t (zlf e):=fun {B Z os ρ σ H Q d} f q k=>by
  unfold zlf at q
  cases q1:e ρ with
  | none=>rw [q1] at q; cases q
  | some d' =>
    rw [q1] at q
    have q':(if d'.scal=true then some d' else none)=some d:=q
    by_cases c:d'.scal=true
    · rw [if_pos c] at q'
      cases q'
      exact h f q1 fun v H' s i=>k v H' s (i.scal c)
    · rw [if_neg c] at q'; cases q'
noncomputable def dVar (i:Nat):DE:=fun ρ=>match ρ.getD i .un with
  | .pu d=>some d
  | .bo d=>some d
  | .ol ds=>some (.lst ds)
  | .om rows=>some (.lst ‹137›)
  | .od kvs=>some (.dct kvs)
  | .pm _ _ rows=>some (.lst ‹137›)
  | .pd _ kvs=>some (.dct kvs)
  | .un=>none
noncomputable def zbw (i:Nat):DE:=fun ρ=>match ρ.getD i .un with
  | .pu d=>some d
  | _=>none
omit [Tabs] in
theorem join_some {α:Type} {o:Option (Option α)} {u:α} (h:o.join=some u):o=some (some u):=by
  cases o with
  | none=>cases h
  | some x=>rw [show x=some u from h]
theorem zi2 {H:Hp} {T:Addr→Prop}:∀ {ps:List Addr} {rows:List (List D)},Paired (fun p ds=>∃ vs,H p=some (.lst vs)∧vs.length≤sizeLine∧IsL K H T vs ds) ps rows→IsL K H No (ps.map V.ref) ‹137›
  | _,_,.nil=>.nil
  | _,_,.cons ⟨vs,e,hl,i⟩ r=>.cons (.lst (fun z=>z) (.inl e) hl i.all) (zi2 r)
theorem zac (i:Nat):SemB K (tVar i) (dVar i):=fun {B Z os ρ σ H Q d} f q k=>by
  have s:=f.sl i
  unfold dVar at q
  cases e:ρ.getD i .un with
  | un=>rw [e] at q; cases q
  | pu d' =>
    rw [e] at q s
    cases q
    obtain ⟨_,u,hu,i⟩:=s
    exact ⟨u,join_some hu,k u H ‹101› i.all⟩
  | bo d' =>
    rw [e] at q s
    cases q
    obtain ⟨_,u,hu,i⟩:=s
    exact ⟨u,join_some hu,k u H ‹101› (i.same f.keep)⟩
  | ol ds =>
    rw [e] at q s
    cases q
    obtain ⟨a,vs,_,hu,hH,hl,i⟩:=s
    exact ⟨_,join_some hu,k _ H ‹101› (.lst (fun z=>z) (.inl hH) hl i.all)⟩
  | om rows =>
    rw [e] at q s
    cases q
    obtain ⟨a,ps,_,hu,hH,hl,i⟩:=s
    exact ⟨_,join_some hu,k _ H ‹101› (.lst (fun z=>z) (.inl hH) ‹52› (zi2 i))⟩
  | od kvs =>
    rw [e] at q s
    cases q
    obtain ⟨a,_,hu,hH,hl⟩:=s
    exact ⟨_,join_some hu,k _ H ‹101› (.dct (fun z=>z) (.inl hH) hl)⟩
  | pm a ps rows =>
    rw [e] at q s
    cases q
    obtain ⟨_,hu,hH,hl,i⟩:=s
    exact ⟨_,join_some hu,k _ H ‹101› (.lst (fun z=>z) (.inl hH) ‹52› (zi2 i))⟩
  | pd a kvs =>
    rw [e] at q s
    cases q
    obtain ⟨_,hu,hH,hl⟩:=s
    exact ⟨_,join_some hu,k _ H ‹101› (.dct (fun z=>z) (.inl hH) hl)⟩
theorem zbj (i:Nat):SemI K (tVar i) (zbw i):=fun {B Z os ρ σ H Q d} f q k=>by
  have s:=f.sl i
  unfold zbw at q
  cases e:ρ.getD i .un with
  | pu d' =>
    rw [e] at q s
    cases q
    obtain ⟨_,u,hu,i⟩:=s
    exact ⟨u,join_some hu,k u H ‹101› i⟩
  | _=>rw [e] at q; cases q
noncomputable def dC (d:D):DE:=fun _=>some d
theorem zae {i:Int}:SemI K (tC (.int i)) (dC (.int i)):=fun f q k=>by cases q; exact k _ _ ‹101› (.int i)
theorem zft {i:Bool}:SemI K (tC (.bl i)) (dC (.bl i)):=fun f q k=>by cases q; exact k _ _ ‹101› (.bl i)
theorem z4k:SemI K (tC .non) (dC .non):=fun f q k=>by cases q; exact k _ _ ‹101› .non
theorem zbf {x:Str}:SemI K (tC (.str x)) (dC (.str x)):=fun f q k=>by cases q; exact k _ _ ‹101› (.str x)
noncomputable def dII (f:Int→Int→Option D) (a b:DE):DE:=fun ρ=>match a ρ with
  | some (.int i)=>(match b ρ with
    | some (.int j)=>f i j
    | _=>none)
  | _=>none
theorem zly {f:Int→Int→Option D} {a b:DE} {ρ:Rho} {d:D} (h:dII f a b ρ=some d):∃ i j,a ρ=some (.int i)∧b ρ=some (.int j)∧f i j=some d:=by
  unfold dII at h
  split at h
  · rename_i i e1
    split at h
    · rename_i j e2
      exact ⟨i,j,e1,e2,h⟩
    · cases h
  · cases h
theorem Is.isInt {H:Hp} {Z:Addr→Prop} {v:V} {i:Int} (h:Is K H Z v (.int i)):v=.int i:=by cases h; rfl
theorem Is.isBl {H:Hp} {Z:Addr→Prop} {v:V} {i:Bool} (h:Is K H Z v (.bl i)):v=.bl i:=by cases h; rfl
theorem Is.isStr {H:Hp} {Z:Addr→Prop} {v:V} {i:Str} (h:Is K H Z v (.str i)):v=.str i:=by cases h; rfl
variable {ta tb tc:TE} {a b c:DE}
theorem zqi {g:Int→Int→V} (gd:Int→Int→D) (hg:∀ i j H Z,Is K H Z (g i j) (gd i j)) (ha:SemB K ta a) (hb:SemB K tb b):SemI K (tOp (rI0 g) ta tb) (dII (fun i j=>some (gd i j)) a b):=fun {B Z os ρ σ H Q d} f q k=>by
  obtain ⟨i,j,e1,e2,e3⟩:=zly q
  cases e3
  refine ha f e1 fun v H1 s1 i1=>hb ‹72› e2 fun u H2 s2 i2=>?_
  exact ⟨i,j,i1.isInt,i2.isInt,k _ _ ‹36› (hg i j _ _)⟩
noncomputable def gC (C:Int→Int→Prop) (g:Int→Int→D):Int→Int→Option D:=fun i j=>if C i j then some (g i j) else none
theorem zt9 {C:Int→Int→Prop} {g:Int→Int→D} {i j:Int} (h:C i j):gC C g i j=some (g i j):=if_pos h
theorem ztn {C:Int→Int→Prop} {g:Int→Int→V} (gd:Int→Int→D) (hg:∀ i j H Z,Is K H Z (g i j) (gd i j)) (ha:SemB K ta a) (hb:SemB K tb b):SemI K (tOp (rI C g) ta tb) (dII (gC C gd) a b):=fun {B Z os ρ σ H Q d} f q k=>by
  obtain ⟨i,j,e1,e2,e3⟩:=zly q
  unfold gC at e3
  by_cases c:C i j
  · rw [if_pos c] at e3
    cases e3
    refine ha f e1 fun v H1 s1 i1=>hb ‹72› e2 fun u H2 s2 i2=>?_
    exact ⟨i,j,i1.isInt,i2.isInt,c,k _ _ ‹36› (hg i j _ _)⟩
  · rw [if_neg c] at e3; cases e3
noncomputable def dAdd:DE→DE→DE:=dII fun i j=>some (.int (i+j))
noncomputable def dMul:DE→DE→DE:=dII (gC IntMulOk fun i j=>.int (i*j))
noncomputable def zj3:DE→DE→DE:=dII (gC (fun _ j=>0<j∧j.natAbs.log2<9000) fun i j=>.int (i / j))
noncomputable def dMod:DE→DE→DE:=dII (gC (fun _ j=>0<j) fun i j=>.int (i % j))
noncomputable def dPow:DE→DE→DE:=dII (gC CPow fun i j=>.int (i ^ j.toNat))
noncomputable def dLt:DE→DE→DE:=dII fun i j=>some (.bl (decide (i<j)))
noncomputable def dLe:DE→DE→DE:=dII fun i j=>some (.bl (decide (i≤j)))
noncomputable def dGt:DE→DE→DE:=dII fun i j=>some (.bl (decide (j<i)))
noncomputable def dGe:DE→DE→DE:=dII fun i j=>some (.bl (decide (j≤i)))
theorem zii (ha:SemB K ta a) (hb:SemB K tb b):SemI K (tOp (rI0 fun i j=>.int (i+j)) ta tb) (dAdd a b):=zqi (fun i j=>.int (i+j)) (fun _ _ _ _=>.int _) ha hb
theorem zmh (ha:SemB K ta a) (hb:SemB K tb b):SemI K (tOp (rI IntMulOk fun i j=>.int (i*j)) ta tb) (dMul a b):=ztn (fun i j=>.int (i*j)) (fun _ _ _ _=>.int _) ha hb
theorem ziz (ha:SemB K ta a) (hb:SemB K tb b):SemI K (tOp (rI (fun _ j=>0<j∧j.natAbs.log2<9000) fun i j=>.int (i / j)) ta tb) (zj3 a b):=ztn (fun i j=>.int (i / j)) (fun _ _ _ _=>.int _) ha hb
theorem zdl (ha:SemB K ta a) (hb:SemB K tb b):SemI K (tOp (rI (fun _ j=>0<j) fun i j=>.int (i % j)) ta tb) (dMod a b):=ztn (fun i j=>.int (i % j)) (fun _ _ _ _=>.int _) ha hb
theorem z4j (ha:SemB K ta a) (hb:SemB K tb b):SemI K (tOp (rI CPow fun i j=>.int (i ^ j.toNat)) ta tb) (dPow a b):=ztn (fun i j=>.int (i ^ j.toNat)) (fun _ _ _ _=>.int _) ha hb
theorem z4l (ha:SemB K ta a) (hb:SemB K tb b):SemI K (tOp (rI0 fun i j=>.bl (decide (i<j))) ta tb) (dLt a b):=zqi (fun i j=>.bl (decide (i<j))) (fun _ _ _ _=>.bl _) ha hb
theorem zzq (ha:SemB K ta a) (hb:SemB K tb b):SemI K (tOp (rI0 fun i j=>.bl (decide (i≤j))) ta tb) (dLe a b):=zqi (fun i j=>.bl (decide (i≤j))) (fun _ _ _ _=>.bl _) ha hb
theorem zqj (ha:SemB K ta a) (hb:SemB K tb b):SemI K (tOp (rI0 fun i j=>.bl (decide (j<i))) ta tb) (dGt a b):=zqi (fun i j=>.bl (decide (j<i))) (fun _ _ _ _=>.bl _) ha hb
theorem z4o (ha:SemB K ta a) (hb:SemB K tb b):SemI K (tOp (rI0 fun i j=>.bl (decide (j≤i))) ta tb) (dGe a b):=zqi (fun i j=>.bl (decide (j≤i))) (fun _ _ _ _=>.bl _) ha hb
noncomputable def dNeg (a:DE):DE:=fun ρ=>match a ρ with
  | some (.int i)=>some (.int (-i))
  | _=>none
theorem zmg (ha:SemB K ta a):SemI K (tUn (rU fun i=>.int (-i)) ta) (dNeg a):=fun {B Z os ρ σ H Q d} f q k=>by
  unfold dNeg at q
  split at q
  · rename_i i e1
    cases q
    exact ha f e1 fun v H1 s1 i1=>⟨i,i1.isInt,k _ _ s1 (.int _)⟩
  · cases q
noncomputable def zd9 (p q:Int→Int→Bool) (a b c:DE):DE:=fun ρ=>match a ρ with
  | some (.int i)=>(match b ρ with
    | some (.int j)=>if p i j=true then (match c ρ with
      | some (.int k)=>some (.bl (q j k))
      | _=>none) else some (.bl false)
    | _=>none)
  | _=>none
theorem zd0 {p q:Int→Int→Bool} (ha:SemB K ta a) (hb:SemB K tb b) (hc:SemB K tc c):SemI K (zwg (rI0 fun i j=>.bl (p i j)) (rI0 fun i j=>.bl (q i j)) ta tb tc) (zd9 p q a b c):=fun {B Z os ρ σ H Q d} f e k=>by
  unfold zd9 at e
  split at e
  · rename_i i e1
    split at e
    · rename_i j e2
      refine ha f e1 fun v H1 s1 i1=>hb ‹72› e2 fun u H2 s2 i2=>⟨i,j,i1.isInt,i2.isInt,p i j,rfl,?_⟩
      by_cases hp:p i j=true
      · rw [if_pos hp] at e ⊢
        split at e
        · rename_i l e3
          cases e
          exact hc (f.grow ‹36›) e3 fun w H3 s3 i3=>⟨j,l,i2.isInt,i3.isInt,k _ _ (‹36›.trans s3) (.bl _)⟩
        · cases e
      · rw [if_neg hp] at e ⊢
        cases e
        exact k _ _ ‹36› (.bl _)
    · cases e
  · cases e
noncomputable def dT (a:DE):Rho→Option Bool:=fun ρ=>match a ρ with
  | some (.bl b)=>some b
  | _=>none
theorem za0 (ha:SemB K ta a):SemT K (z2m ta) (dT a):=fun {B Z os ρ σ H Q d} f q k=>by
  unfold dT at q
  split at q
  · rename_i b e
    cases q
    exact ha f e fun v H1 s1 i1=>⟨_,i1.isBl,k _ s1⟩
  · cases q
def truD:D→Option Bool
  | .non=>some false
  | .bl b=>some b
  | .int i=>some (i != 0)
  | .str y=>if y.length≤sizeLine then some ((y.length:Int) != 0) else none
  | .lst ds=>some (!ds.isEmpty)
  | .tup ds=>some (!ds.isEmpty)
  | .scr ns=>some (!ns.isEmpty)
  | _=>none
theorem znw {H:Hp} {Z:Addr→Prop} {vs:List V} {ds:List D} (h:IsL K H Z vs ds):vs.isEmpty=ds.isEmpty:=by cases h <;> rfl
theorem z37 {H:Hp} {Z:Addr→Prop} {v:V} {d:D} {b:Bool} (h:Is K H Z v d) (e:truD d=some b):TruV K v H b:=by
  cases h with
  | non=>cases e; rfl
  | bl b=>cases e; rfl
  | int i=>cases e; rfl
  | str x =>
    have e:(if x.length≤sizeLine then some ((x.length:Int) != 0) else none)=some b:=e
    by_cases c:x.length≤sizeLine
    · rw [if_pos c] at e; cases e; exact ⟨c,rfl⟩
    · rw [if_neg c] at e; cases e
  | ty n=>cases e
  | lst hz h hl r=>cases e; exact .inl ⟨_,.inl h,by rw [znw r]⟩
  | tup hz h hl r=>cases e; exact .inr (.inl ⟨_,.inl (.inl h),by rw [znw r]⟩)
  | ins _ _=>cases e
  | dct _ _ _=>cases e
  | scr hz h hl=>cases e; exact .inl ⟨_,.inl h,by cases ‹List Int› <;> rfl⟩
  | scrK h hl=>cases e; exact .inl ⟨_,.inr h,by cases ‹List Int› <;> rfl⟩
noncomputable def dTru (a:DE):Rho→Option Bool:=fun ρ=>match a ρ with
  | some d=>truD d
  | none=>none
theorem zc4 (ha:SemB K ta a):SemT K (fun σ H Q=>ta σ H fun x H'=>∃ k,TruV K x H' k∧Q k H') (dTru a):=fun {B Z os ρ σ H Q b} f q k=>by
  unfold dTru at q
  split at q
  · rename_i d e
    exact ha f e fun v H1 s1 i1=>⟨b,z37 i1 q,k _ s1⟩
  · cases q
variable {tA tB':TT} {x y:Rho→Option Bool}
noncomputable def dAnd (x y:Rho→Option Bool):Rho→Option Bool:=fun ρ=>match x ρ with
  | some true=>y ρ
  | some false=>some false
  | none=>none
noncomputable def dOr (x y:Rho→Option Bool):Rho→Option Bool:=fun ρ=>match x ρ with
  | some true=>some true
  | some false=>y ρ
  | none=>none
noncomputable def dNot (x:Rho→Option Bool):Rho→Option Bool:=fun ρ=>match x ρ with
  | some b=>some (!b)
  | none=>none
theorem z08 (ha:SemT K tA x) (hb:SemT K tB' y):SemT K (tAnd tA tB') (dAnd x y):=fun {B Z os ρ σ H Q b} f q k=>by
  unfold dAnd at q
  split at q
  · rename_i e
    exact ha f e fun H1 s1=>iteT (hb ‹72› q fun H2 s2=>k _ ‹36›)
  · rename_i e
    cases q
    exact ha f e fun H1 s1=>iteF (k _ s1)
  · cases q
theorem zjg (ha:SemT K tA x) (hb:SemT K tB' y):SemT K (tOr tA tB') (dOr x y):=fun {B Z os ρ σ H Q b} f q k=>by
  unfold dOr at q
  split at q
  · rename_i e
    cases q
    exact ha f e fun H1 s1=>iteT (k _ s1)
  · rename_i e
    exact ha f e fun H1 s1=>iteF (hb ‹72› q fun H2 s2=>k _ ‹36›)
  · cases q
theorem zc7 (ha:SemT K tA x):SemT K (tNot tA) (dNot x):=fun {B Z os ρ σ H Q b} f q k=>by
  unfold dNot at q
  split at q
  · rename_i c e
    cases q
    exact ha f e fun H1 s1=>k _ s1
  · cases q
noncomputable def zdc:Rho→Option Bool:=fun _=>some true
theorem zco:SemT K zzk zdc:=fun f q k=>by cases q; exact k _ ‹101›
noncomputable def zj4 (a b:DE):DE:=fun ρ=>match a ρ with
  | some (.bl true)=>b ρ
  | some (.bl false)=>some (.bl false)
  | _=>none
noncomputable def dOrV (a b:DE):DE:=fun ρ=>match a ρ with
  | some (.bl true)=>some (.bl true)
  | some (.bl false)=>b ρ
  | _=>none
noncomputable def zpn (a:DE):DE:=fun ρ=>match a ρ with
  | some (.bl c)=>some (.bl (!c))
  | _=>none
theorem zfn (ha:SemB K ta a) (hb:SemI K tb b):SemI K (z4e ta tb) (zj4 a b):=fun {B Z os ρ σ H Q d} f q k=>by
  unfold zj4 at q
  split at q
  · rename_i e
    exact ha f e fun v H1 s1 i1=>⟨true,i1.isBl,iteT (hb ‹72› q fun v H2 s2=>k _ _ ‹36›)⟩
  · rename_i e
    cases q
    exact ha f e fun v H1 s1 i1=>⟨false,i1.isBl,iteF (k _ _ s1 (.bl _))⟩
  · cases q
theorem z1f (ha:SemB K ta a) (hb:SemI K tb b):SemI K (tOrV ta tb) (dOrV a b):=fun {B Z os ρ σ H Q d} f q k=>by
  unfold dOrV at q
  split at q
  · rename_i e
    cases q
    exact ha f e fun v H1 s1 i1=>⟨true,i1.isBl,iteT (k _ _ s1 (.bl _))⟩
  · rename_i e
    exact ha f e fun v H1 s1 i1=>⟨false,i1.isBl,iteF (hb ‹72› q fun v H2 s2=>k _ _ ‹36›)⟩
  · cases q
theorem zw2 (ha:SemB K ta a):SemI K (z4c ta) (zpn a):=fun {B Z os ρ σ H Q d} f q k=>by
  unfold zpn at q
  split at q
  · rename_i c e
    cases q
    exact ha f e fun v H1 s1 i1=>⟨c,i1.isBl,k _ _ s1 (.bl _)⟩
  · cases q
noncomputable def dIf (x:Rho→Option Bool) (a b:DE):DE:=fun ρ=>match x ρ with
  | some true=>a ρ
  | some false=>b ρ
  | none=>none
theorem z6l (h:SemT K tA x) (ha:SemI K ta a) (hb:SemI K tb b):SemI K (tIf tA ta tb) (dIf x a b):=fun {B Z os ρ σ H Q d} f q k=>by
  unfold dIf at q
  split at q
  · rename_i e
    exact h f e fun H1 s1=>iteT (ha ‹72› q fun v H2 s2=>k _ _ ‹36›)
  · rename_i e
    exact h f e fun H1 s1=>iteF (hb ‹72› q fun v H2 s2=>k _ _ ‹36›)
  · cases q
end
end
end VL
namespace L2
open PySem PySem.Spec PyProof.Rows
section
variable {X:Cx} {pins:List (Addr×Obj)} {σ:St} {H:Hp} {s:Shared} {l:Addr} {xs:List V}
theorem Inv.lstR (I:Inv X pins σ H s) (hH:Rd H l (.lst xs)):xs.length≤sizeLine∧∃ (its:List Value) (n:Nat),Vals xs its∧xs.length=its.length∧s.heap.get? l=some { cls:=.type "list", data:=.seq its.toArray n }:=by
  obtain ⟨z,its,n,r,e⟩:=hH.ok I.hok
  exact ⟨z,its,n,r,r.length,e⟩
def z26:R2:=fun x y H Q=>∃ l b xs zs,x=.ref l∧y=.ref b∧Rd H l (.lst xs)∧Rd H b (.lst zs)∧xs.length+zs.length≤sizeLine∧∀ p,H p=none→Q (.ref p) (upd H p (.lst (xs++zs)))
theorem zgb:OpR X (binaryOp .Add) z26:=by
  intro pins s σ H x y v u Q I rx ry h
  obtain ⟨l,b,xs,zs,rfl,rfl,hH,hB,hz,q⟩:=h
  cases rx
  cases ry
  obtain ⟨z,its,n,r,hl,e⟩:=I.lstR hH
  obtain ⟨z2,its2,n2,r2,hl2,e2⟩:=I.lstR hB
  refine PySem.P.add_list e e2 ?_ (by rw [List.size_toArray,List.size_toArray]; omega)
  have ea:its.toArray++its2.toArray=(its++its2).toArray:=by simp
  rw [ea]
  exact ⟨.ref _,_,I.lnew (t':=s.toks) (r.append r2) (by rw [List.length_append]; omega),rfl,q _ I.fresh⟩
theorem zas {K:PySem.W.Frag} (h:X.K=K):IxR X (rIx K):=by subst h; exact z5t
theorem za3 {K:PySem.W.Frag} (h:X.K=K):zhu X (.builtin "len") (fun xs H Q=>∃ x n,xs=[x]∧LenV K x H n∧Q (.int n) H):=by subst h; exact z0u
end
end L2
namespace VL
open PySem L2
open Classical
noncomputable section
section
variable [Tabs] {K:PySem.W.Frag} {ta tb tc:TE} {a b c:DE}
noncomputable def zai (a:DE) (es:Rho→Option (List D)):Rho→Option (List D):=fun ρ=>match a ρ with
  | some d=>(match es ρ with
    | some ds=>some (d::ds)
    | none=>none)
  | none=>none
noncomputable def dNil:Rho→Option (List D):=fun _=>some []
theorem zn1 {a:DE} {es:Rho→Option (List D)} {ρ:Rho} {ds:List D} (h:zai a es ρ=some ds):∃ d r,a ρ=some d∧es ρ=some r∧ds=d::r:=by
  unfold zai at h
  split at h
  · rename_i d e1
    split at h
    · rename_i r e2
      exact ⟨d,r,e1,e2,(Option.some.inj h).symm⟩
    · cases h
  · cases h
theorem zak:SemA K [] tNil dNil:=fun f q k=>by cases q; exact k _ _ ‹101› .nil
theorem zaq {ms:List Bool} {tr:TA} {es:Rho→Option (List D)} (ha:SemI K ta a) (hr:SemA K ms tr es):SemA K (true::ms) (zcy ta tr) (zai a es):=fun {B Z os ρ σ H Q ds} f q k=>by
  obtain ⟨d,r,e1,e2,rfl⟩:=zn1 q
  exact ha f e1 fun v H1 s1 i1=>hr ‹72› e2 fun vs H2 s2 i2=>k _ _ ‹36› (.own (i1.same s2) i2)
theorem zan {ms:List Bool} {tr:TA} {es:Rho→Option (List D)} (ha:SemB K ta a) (hr:SemA K ms tr es):SemA K (false::ms) (zcy ta tr) (zai a es):=fun {B Z os ρ σ H Q ds} f q k=>by
  obtain ⟨d,r,e1,e2,rfl⟩:=zn1 q
  exact ha f e1 fun v H1 s1 i1=>hr ‹72› e2 fun vs H2 s2 i2=>k _ _ ‹36› (.any (i1.same s2) i2)
theorem zmv {T:Addr→Prop} {H:Hp} {p:Addr} {o:HO} (hp:H p=none):Kp T H (fun a=>a=p∨T a) (upd H p o):=fun a u e z=>by
  have hne:a≠p:=zbo e hp
  exact ⟨by rw [upd_ne hne]; exact e,fun q=>q.elim hne z⟩
theorem zb3 {n:Nat} {t:TA} {es:Rho→Option (List D)} (h:SemA K (List.replicate n true) t es) (hn:n≤sizeLine):SemF K (tLst t) es:=fun {B Z os ρ σ H Q ds} f q k=>by
  refine h f q fun vs H1 s1 a=>?_
  have hl:vs.length≤sizeLine:=by have:=a.len.1; rw [List.length_replicate] at this; omega
  exact ⟨hl,fun p hp=>k p vs _ (s1.trans (same_new hp)) (Same.free s1 hp) zbb hl (a.lown.kp (zmv hp))⟩
noncomputable def dTup (es:Rho→Option (List D)):DE:=fun ρ=>(es ρ).map D.tup
theorem z1d {n:Nat} {t:TA} {es:Rho→Option (List D)} (h:SemA K (List.replicate n true) t es) (hn:n≤sizeLine):SemI K (tTup t) (dTup es):=fun {B Z os ρ σ H Q d} f q k=>by
  unfold dTup at q
  cases q1:es ρ with
  | none=>rw [q1] at q; cases q
  | some ds =>
    rw [q1] at q
    cases q
    refine h f q1 fun vs H1 s1 a=>?_
    have hl:vs.length≤sizeLine:=by have:=a.len.1; rw [List.length_replicate] at this; omega
    exact ⟨hl,fun p hp=>k _ _ (s1.trans (same_new hp)) (.tup (‹72›.out hp) zbb hl ((a.lown.kp (zmv hp)).kp (Kp.less fun a z=>.inr z)))⟩
noncomputable def dLst (es:Rho→Option (List D)):DE:=fun ρ=>(es ρ).map D.lst
theorem SemF.l {t:TE} {e:Rho→Option (List D)} (h:SemF K t e):SemI K t (dLst e):=h.i
def ixD:D→Int→Option D
  | .lst ds,i=>atI ds i
  | .tup ds,i=>atI ds i
  | .scr ns,i=>(atI ns i).map D.int
  | .str z,i=>if z.length≤sizeLine then (atI z.cps.toList i).map fun c=>.str ⟨#[c]⟩ else none
  | _,_=>none
theorem z16 {H:Hp} {Z:Addr→Prop} {vs:List V} {ds:List D} {i:Int} {d:D} (r:IsL K H Z vs ds) (h:atI ds i=some d):∃ v,atI vs i=some v∧Is K H Z v d:=by
  unfold atI at h ⊢
  rw [r.length]
  cases e:ixN ds.length i with
  | none=>rw [e] at h; cases h
  | some j =>
    rw [e] at h
    obtain ⟨v,e1,i1⟩:=r.get (i:=j) (show ds[j]?=some d from h)
    exact ⟨v,e1,i1⟩
theorem zuo {ns:List Int} {i:Int} {n:Int} (h:atI ns i=some n):atI (ns.map V.int) i=some (.int n):=by
  unfold atI at h ⊢
  rw [List.length_map]
  cases e:ixN ns.length i with
  | none=>rw [e] at h; cases h
  | some j =>
    rw [e] at h
    have h':ns[j]?=some n:=h
    show (ns.map V.int)[j]?=some (.int n)
    rw [List.getElem?_map,h']
    rfl
theorem z5u {H:Hp} {Z:Addr→Prop} {v:V} {d e:D} {i:Int} {Q:VK} (h:Is K H Z v d) (q:ixD d i=some e) (k:∀ u,Is K H Z u e→Q u H):rIx K v (.int i) H Q:=by
  cases h with
  | lst hz h hl r =>
    obtain ⟨u,e1,i1⟩:=z16 r (show atI _ i=some e from q)
    exact .inl ⟨_,_,i,u,rfl,rfl,.inl h,e1,k u i1⟩
  | tup hz h hl r =>
    obtain ⟨u,e1,i1⟩:=z16 r (show atI _ i=some e from q)
    exact .inr (.inl ⟨_,_,i,u,rfl,rfl,.inl (.inl h),e1,k u i1⟩)
  | str z =>
    have q:(if z.length≤sizeLine then (atI z.cps.toList i).map fun c=>D.str ⟨#[c]⟩ else none)=some e:=q
    by_cases c:z.length≤sizeLine
    · rw [if_pos c] at q
      cases e2:atI z.cps.toList i with
      | none=>rw [e2] at q; cases q
      | some cp =>
        rw [e2] at q
        cases q
        exact .inr (.inr ⟨z,i,cp,rfl,rfl,c,e2,k _ (.str _)⟩)
    · rw [if_neg c] at q; cases q
  | @scr p ns hz h hl =>
    have q:(atI ns i).map D.int=some e:=q
    cases e2:atI ns i with
    | none=>rw [e2] at q; cases q
    | some n=>rw [e2] at q; cases q; exact .inl ⟨_,_,i,_,rfl,rfl,.inl h,zuo e2,k _ (.int n)⟩
  | @scrK p ns h hl =>
    have q:(atI ns i).map D.int=some e:=q
    cases e2:atI ns i with
    | none=>rw [e2] at q; cases q
    | some n=>rw [e2] at q; cases q; exact .inl ⟨_,_,i,_,rfl,rfl,.inr h,zuo e2,k _ (.int n)⟩
  | _=>cases q
noncomputable def dIx (a b:DE):DE:=fun ρ=>match a ρ with
  | some d=>(match b ρ with
    | some (.int i)=>ixD d i
    | _=>none)
  | none=>none
theorem zuk {ρ:Rho} {d:D} (h:dIx a b ρ=some d):∃ e i,a ρ=some e∧b ρ=some (.int i)∧ixD e i=some d:=by
  unfold dIx at h
  split at h
  · rename_i e e1
    split at h
    · rename_i i e2
      exact ⟨e,i,e1,e2,h⟩
    · cases h
  · cases h
theorem zch (ha:SemB K ta a) (hb:SemB K tb b):SemB K (tOp (rIx K) ta tb) (dIx a b):=fun {B Z os ρ σ H Q d} f q k=>by
  obtain ⟨e,i,e1,e2,e3⟩:=zuk q
  refine ha f e1 fun v H1 s1 i1=>hb ‹72› e2 fun u H2 s2 i2=>?_
  rw [i2.isInt]
  exact z5u (i1.same s2) e3 fun w i3=>k _ _ ‹36› i3
theorem zle (ha:SemI K ta a) (hb:SemB K tb b):SemI K (tOp (rIx K) ta tb) (dIx a b):=fun {B Z os ρ σ H Q d} f q k=>by
  obtain ⟨e,i,e1,e2,e3⟩:=zuk q
  refine ha f e1 fun v H1 s1 i1=>hb ‹72› e2 fun u H2 s2 i2=>?_
  rw [i2.isInt]
  exact z5u (i1.same s2) e3 fun w i3=>k _ _ ‹36› i3
def D.v:D→V
  | .bl b=>.bl b
  | .int i=>.int i
  | .str x=>.str x
  | .ty n=>.ty n
  | _=>.non
theorem D.v_is {H:Hp} {Z:Addr→Prop} {d:D} (h:d.scal=true):Is K H Z d.v d:=by
  cases d with
  | non=>exact .non
  | bl b=>exact .bl b
  | int b=>exact .int b
  | str b=>exact .str b
  | ty b=>exact .ty b
  | _=>cases h
noncomputable def dF1 (g:D→Option D) (a:DE):DE:=fun ρ=>match a ρ with
  | some d=>g d
  | none=>none
theorem zw4 {r:List V→Hp→VK→Prop} {g:D→Option D} (hg:∀ {H v d e} {Q:VK},Is K H No v d→g d=some e→e.scal=true∧(Q e.v H→r [v] H Q)) (ha:SemB K ta a):SemI K (tCB r (zcy ta tNil)) (dF1 g a):=fun {B Z os ρ σ H Q d} f q k=>by
  unfold dF1 at q
  split at q
  · rename_i e e1
    refine ha f e1 fun v H1 s1 i1=>?_
    obtain ⟨hs,hr⟩:=hg (Q:=Q) i1 q
    exact hr (k _ _ s1 (D.v_is hs))
  · cases q
def lenD:D→Option D
  | .lst ds=>some (.int ds.length)
  | .tup ds=>some (.int ds.length)
  | .scr ns=>some (.int ns.length)
  | .str y=>if y.length≤sizeLine then some (.int y.length) else none
  | _=>none
theorem z5i {H:Hp} {v:V} {d e:D} {Q:VK} (h:Is K H No v d) (q:lenD d=some e):e.scal=true∧(Q e.v H→∃ x n,[v]=[x]∧LenV K x H n∧Q (.int n) H):=by
  cases h with
  | lst hz h hl r=>cases q; exact ⟨rfl,fun k=>⟨_,_,rfl,.inl ⟨_,.inl h,rfl⟩,by rw [r.length]; exact k⟩⟩
  | tup hz h hl r=>cases q; exact ⟨rfl,fun k=>⟨_,_,rfl,.inr ⟨_,.inl (.inl h),rfl⟩,by rw [r.length]; exact k⟩⟩
  | str z =>
    have q:(if z.length≤sizeLine then some (D.int z.length) else none)=some e:=q
    by_cases c:z.length≤sizeLine
    · rw [if_pos c] at q; cases q; exact ⟨rfl,fun k=>⟨_,_,rfl,⟨c,rfl⟩,k⟩⟩
    · rw [if_neg c] at q; cases q
  | scr hz h hl=>cases q; exact ⟨rfl,fun k=>⟨_,_,rfl,.inl ⟨_,.inl h,rfl⟩,by rw [List.length_map]; exact k⟩⟩
  | scrK h hl=>cases q; exact ⟨rfl,fun k=>⟨_,_,rfl,.inl ⟨_,.inr h,rfl⟩,by rw [List.length_map]; exact k⟩⟩
  | _=>cases q
theorem zce (ha:SemB K ta a):SemI K (tCB (fun xs H Q=>∃ x n,xs=[x]∧LenV K x H n∧Q (.int n) H) (zcy ta tNil)) (dF1 lenD a):=zw4 (fun h q=>z5i h q) ha
def zk3:List D→Option (List Int)
  | []=>some []
  | .int i::r=>(zk3 r).map (i::·)
  | _=>none
theorem znd:∀ {ds:List D} {ns:List Int},zk3 ds=some ns→ds=ns.map D.int
  | [],ns,h=>by cases h; rfl
  | .int i::r,ns,h=>by
    have h:(zk3 r).map (i::·)=some ns:=h
    cases e:zk3 r with
    | none=>rw [e] at h; cases h
    | some ms=>rw [e] at h; cases h; rw [znd e]; rfl
  | .non::_,_,h=>by cases h
  | .bl _::_,_,h=>by cases h
  | .str _::_,_,h=>by cases h
  | .ty _::_,_,h=>by cases h
  | .lst _::_,_,h=>by cases h
  | .tup _::_,_,h=>by cases h
  | .ins _::_,_,h=>by cases h
  | .dct _::_,_,h=>by cases h
  | .scr _::_,_,h=>by cases h
def ofInts (g:List Int→Option D):D→Option D
  | .lst ds=>(zk3 ds).bind g
  | _=>none
noncomputable def z0t:DE→DE→DE:=dII fun i j=>some (.int (if j > i then j else i))
noncomputable def zvp:DE→DE→DE:=dII fun i j=>some (.int (if j<i then j else i))
theorem z2x (ha:SemB K ta a) (hb:SemB K tb b):SemI K (tCB (fun xs H Q=>∃ i j,xs=[.int i,.int j]∧Q (.int (if j > i then j else i)) H) (zcy ta (zcy tb tNil))) (z0t a b):=fun {B Z os ρ σ H Q d} f q k=>by
  obtain ⟨i,j,e1,e2,e3⟩:=zly q
  cases e3
  refine ha f e1 fun v H1 s1 i1=>hb ‹72› e2 fun u H2 s2 i2=>⟨i,j,by rw [i1.isInt,i2.isInt],k _ _ ‹36› (.int _)⟩
theorem z2w (ha:SemB K ta a) (hb:SemB K tb b):SemI K (tCB (fun xs H Q=>∃ i j,xs=[.int i,.int j]∧Q (.int (if j<i then j else i)) H) (zcy ta (zcy tb tNil))) (zvp a b):=fun {B Z os ρ σ H Q d} f q k=>by
  obtain ⟨i,j,e1,e2,e3⟩:=zly q
  cases e3
  refine ha f e1 fun v H1 s1 i1=>hb ‹72› e2 fun u H2 s2 i2=>⟨i,j,by rw [i1.isInt,i2.isInt],k _ _ ‹36› (.int _)⟩
def intD:D→Option D
  | .int i=>some (.int i)
  | .bl b=>some (.int (if b=true then 1 else 0))
  | _=>none
theorem zsf (ha:SemB K ta a):SemI K (tCB (fun xs H Q=>(∃ i,xs=[.int i]∧Q (.int i) H)∨∃ k,xs=[.bl k]∧Q (.int (if k then 1 else 0)) H) (zcy ta tNil)) (dF1 intD a):=by
  refine zw4 (fun h q=>?_) ha
  cases h with
  | int i=>cases q; exact ⟨rfl,fun k=>.inl ⟨i,rfl,k⟩⟩
  | bl b=>cases q; exact ⟨rfl,fun k=>.inr ⟨b,rfl,k⟩⟩
  | _=>cases q
def D.tyn:D→String
  | .non => "NoneType"
  | .bl _ => "bool"
  | .int _ => "int"
  | .str _ => "str"
  | .lst _ => "list"
  | .tup _ => "tuple"
  | .ty _ => "type"
  | .ins _ => "object"
  | .dct _ => "object"
  | .scr _ => "script"
def isiT:String→String→Option Bool
  | "int", "int" => some true
  | "int", "bool" => some false
  | "int", "list" => some false
  | "int", "tuple" => some false
  | "int", "str" => some false
  | "bool", "int" => some true
  | "bool", "bool" => some true
  | "bool", "list" => some false
  | "bool", "tuple" => some false
  | "list", "list" => some true
  | "list", "tuple" => some false
  | "list", "int" => some false
  | "list", "str" => some false
  | "tuple", "tuple" => some true
  | "tuple", "list" => some false
  | "tuple", "int" => some false
  | "str", "str" => some true
  | "str", "list" => some false
  | "str", "int" => some false
  | "NoneType", "int" => some false
  | "NoneType", "list" => some false
  | "NoneType", "tuple" => some false
  | _,_=>none
noncomputable def dIsi (n:String) (a:DE):DE:=fun ρ=>match a ρ with
  | some d=>(isiT d.tyn n).map D.bl
  | none=>none
theorem z0g {x n:String} {b:Bool} (h:isiT x n=some b):PySem.W.kitOne K (.type x) (.type n)=some b:=by
  unfold isiT at h
  split at h <;> first | (cases h; rfl) | (cases h; with_unfolding_all rfl) | cases h
theorem z2j {H:Hp} {v:V} {d:D} {n:String} {b:Bool} (h:Is K H No v d) (e:isiT d.tyn n=some b):TyOf K H v (.type d.tyn):=by
  cases h with
  | non=>exact .non
  | bl b=>exact .bl b
  | int b=>exact .int b
  | str b=>exact .str b
  | ty n=>unfold isiT at e; simp [D.tyn] at e
  | lst hz h hl r=>rcases h with h | ⟨o,h⟩; exact .lst h; exact .frz h
  | tup hz h hl r=>exact .tup h
  | ins _ _=>unfold isiT at e; simp [D.tyn] at e
  | dct _ _ _=>unfold isiT at e; simp [D.tyn] at e
  | scr _ _ _=>unfold isiT at e; simp [D.tyn] at e
  | scrK _ _=>unfold isiT at e; simp [D.tyn] at e
theorem z4m {n:String} (ha:SemB K ta a):SemI K (tCB (fun xs H Q=>∃ x n t b,xs=[x,.ty n]∧TyOf K H x t∧PySem.W.kitOne K t (.type n)=some b∧Q (.bl b) H) (zcy ta (zcy (tC (.ty n)) tNil))) (dIsi n a):=fun {B Z os ρ σ H Q d} f q k=>by
  unfold dIsi at q
  split at q
  · rename_i e e1
    cases q1:isiT e.tyn n with
    | none=>rw [q1] at q; cases q
    | some b =>
      rw [q1] at q
      cases q
      exact ha f e1 fun v H1 s1 i1=>⟨v,n,_,b,rfl,z2j i1 q1,z0g q1,k _ _ s1 (.bl b)⟩
  · cases q
def cutL {α:Type} (xs:List α) (lo hi:Option Int):List α:=(xs.drop (HT.sIx xs.length 0 lo)).take ‹135›
theorem z11 {H:Hp} {Z:Addr→Prop} {vs:List V} {ds:List D} {lo hi:Option Int} (r:IsL K H Z vs ds):IsL K H Z (cutV vs lo hi) (cutL ds lo hi):=by
  unfold cutV cutL
  rw [r.length]
  exact (r.drop _).take _
def SemO (K:PySem.W.Frag) (t:TO) (e:Rho→Option (Option Int)):Prop:=∀ {B:Hp} {Z:Addr→Prop} {os:Own} {ρ:Rho} {σ:L2.St} {H:Hp} {Q:Option Int→Hp→Prop} {o:Option Int},Fr K B Z os ρ σ H→e ρ=some o→(∀ H',Same H H'→Q o H')→t σ H Q
noncomputable def zd8:Rho→Option (Option Int):=fun _=>some none
noncomputable def zdw (a:DE):Rho→Option (Option Int):=fun ρ=>match a ρ with
  | some (.int i)=>some (some i)
  | _=>none
theorem zcq:SemO K zwd zd8:=fun f q k=>by cases q; exact k _ ‹101›
theorem zcp (ha:SemB K ta a):SemO K (z4b ta) (zdw a):=fun {B Z os ρ σ H Q o} f q k=>by
  unfold zdw at q
  split at q
  · rename_i i e
    cases q
    exact ha f e fun v H1 s1 i1=>⟨i,i1.isInt,k _ s1⟩
  · cases q
def asL (a:DE):Rho→Option (List D):=fun ρ=>match a ρ with
  | some d=>lof d
  | none=>none
theorem zgi {a:DE} {ρ:Rho} {ds:List D} (h:asL a ρ=some ds):∃ d,a ρ=some d∧lof d=some ds:=by
  unfold asL at h
  split at h
  · exact ⟨_,by assumption,h⟩
  · cases h
noncomputable def dSl (a:DE) (lo hi:Rho→Option (Option Int)):Rho→Option (List D):=fun ρ=>match asL a ρ with
  | some ds=>(match lo ρ with
    | some l=>(match hi ρ with
      | some h=>some (cutL ds l h)
      | none=>none)
    | none=>none)
  | _=>none
theorem zuj {lo hi:Rho→Option (Option Int)} {ρ:Rho} {ds:List D} (h:dSl a lo hi ρ=some ds):∃ es l u,asL a ρ=some es∧lo ρ=some l∧hi ρ=some u∧ds=cutL es l u:=by
  unfold dSl at h
  split at h
  · rename_i es e1
    split at h
    · rename_i l e2
      split at h
      · rename_i u e3
        exact ⟨es,l,u,e1,e2,e3,(Option.some.inj h).symm⟩
      · cases h
    · cases h
  · cases h
theorem Is.isLst {H:Hp} {Z:Addr→Prop} {v:V} {ds:List D} (h:Is K H Z v (.lst ds)):∃ p vs,v=.ref p∧¬ Z p∧Rd H p (.lst vs)∧vs.length≤sizeLine∧IsL K H Z vs ds:=by
  cases h with
  | lst hz h hl r=>exact ⟨_,_,rfl,hz,h,hl,r⟩
theorem Is.isTup {H:Hp} {Z:Addr→Prop} {v:V} {ds:List D} (h:Is K H Z v (.tup ds)):∃ p vs,v=.ref p∧¬ Z p∧H p=some (.tup vs)∧vs.length≤sizeLine∧IsL K H Z vs ds:=by
  cases h with
  | tup hz h hl r=>exact ⟨_,_,rfl,hz,h,hl,r⟩
theorem zi0 {tl th:TO} {lo hi:Rho→Option (Option Int)} (ha:SemI K ta a) (hl:SemO K tl lo) (hh:SemO K th hi):SemF K (tSl (rSlL K) ta tl th) (dSl a lo hi):=fun {B Z os ρ σ H Q ds} f q k=>by
  obtain ⟨es,l,u,e1,e2,e3,rfl⟩:=zuj q
  obtain ⟨d,e1,ed⟩:=zgi e1
  refine ha f e1 fun v H1 s1 i1=>hl ‹72› e2 fun H2 s2=>hh (f.grow ‹36›) e3 fun H3 s3=>?_
  obtain ⟨p,vs,rfl,hn,_,hr⟩:=i1.seq ed
  obtain ⟨hr,r⟩:=hr H3 _ (Kp.same (s2.trans s3))
  have s13:=‹36›.trans s3
  exact ⟨p,vs,rfl,hr,fun n hn'=>k n _ _ (s13.trans (same_new hn')) (Same.free s13 hn') zbb (Nat.le_trans (zjb _ _ _) hn) ((z11 r).kp (zmv hn'))⟩
def zg8 (ds:List D):Bool:=ds.all D.scal
theorem IsL.flat {H H':Hp} {Z Z':Addr→Prop}:∀ {vs:List V} {ds:List D},IsL K H Z vs ds→zg8 ds=true→IsL K H' Z' vs ds
  | _,_,.nil,_=>.nil
  | _,_,.cons h r,e=>by
    have e:=(Bool.and_eq_true _ _).mp (show (D.scal _&&zg8 _)=true from e)
    exact .cons (h.scal e.1) (r.flat e.2)
noncomputable def zvj (e:Rho→Option (List D)):Rho→Option (List D):=fun ρ=>match e ρ with
  | some ds=>if zg8 ds=true then some ds else none
  | none=>none
theorem zvi {e:Rho→Option (List D)} {ρ:Rho} {ds:List D} (h:zvj e ρ=some ds):e ρ=some ds∧zg8 ds=true:=by
  unfold zvj at h
  split at h
  · rename_i es e1
    by_cases c:zg8 es=true
    · rw [if_pos c] at h; cases h; exact ⟨e1,c⟩
    · rw [if_neg c] at h; cases h
  · cases h
theorem z4q {tl th:TO} {lo hi:Rho→Option (Option Int)} (ha:SemB K ta a) (hl:SemO K tl lo) (hh:SemO K th hi):SemF K (tSl (rSlL K) ta tl th) (zvj (dSl a lo hi)):=fun {B Z os ρ σ H Q ds} f q k=>by
  obtain ⟨q,hf⟩:=zvi q
  obtain ⟨es,l,u,e1,e2,e3,rfl⟩:=zuj q
  obtain ⟨d,e1,ed⟩:=zgi e1
  refine ha f e1 fun v H1 s1 i1=>hl ‹72› e2 fun H2 s2=>hh (f.grow ‹36›) e3 fun H3 s3=>?_
  obtain ⟨p,vs,rfl,hn,_,hr⟩:=i1.seq ed
  obtain ⟨hr,r⟩:=hr H3 _ (Kp.same (s2.trans s3))
  have s13:=‹36›.trans s3
  exact ⟨p,vs,rfl,hr,fun n hn'=>k n _ _ (s13.trans (same_new hn')) (Same.free s13 hn') zbb (Nat.le_trans (zjb _ _ _) hn) ((z11 r).flat hf)⟩
noncomputable def dLof (a:DE):Rho→Option (List D):=fun ρ=>match a ρ with
  | some (.tup ds)=>some ds
  | some d=>lof d
  | _=>none
theorem zy5 {ρ:Rho} {ds:List D} (h:dLof a ρ=some ds):a ρ=some (.tup ds)∨∃ d,a ρ=some d∧lof d=some ds:=by
  unfold dLof at h
  split at h
  · rename_i es e; cases h; exact .inl e
  · rename_i d _ e; exact .inr ⟨d,e,h⟩
  · cases h
theorem zsh (ha:SemI K ta a):SemF K (tCB (fun xs H Q=>∃ p ys,xs=[.ref p]∧(SqL K H p ys∨SqT K H p ys)∧∀ l,H l=none→Q (.ref l) (upd H l (.lst ys))) (zcy ta tNil)) (dLof a):=fun {B Z os ρ σ H Q ds} f q k=>by
  rcases zy5 q with e1 | ⟨d,e1,ed⟩
  · refine ha f e1 fun v H1 s1 i1=>?_
    obtain ⟨p,vs,rfl,hz,hr,hn,r⟩:=i1.isTup
    exact ⟨p,vs,rfl,.inr (.inl (.inl hr)),fun n hn'=>k n _ _ (s1.trans (same_new hn')) (Same.free s1 hn') zbb hn (r.kp (zmv hn'))⟩
  · refine ha f e1 fun v H1 s1 i1=>?_
    obtain ⟨p,vs,rfl,hn,_,hr⟩:=i1.seq ed
    obtain ⟨hr,r⟩:=hr H1 _ Kp.refl
    exact ⟨p,vs,rfl,.inl hr,fun n hn'=>k n _ _ (s1.trans (same_new hn')) (Same.free s1 hn') zbb hn (r.kp (zmv hn'))⟩
noncomputable def dCat (a b:DE):Rho→Option (List D):=fun ρ=>match a ρ with
  | some (.lst ds)=>(match b ρ with
    | some (.lst es)=>if ds.length+es.length≤sizeLine then some (ds++es) else none
    | _=>none)
  | _=>none
theorem zy6 {ρ:Rho} {ds:List D} (h:dCat a b ρ=some ds):∃ xs ys,a ρ=some (.lst xs)∧b ρ=some (.lst ys)∧xs.length+ys.length≤sizeLine∧ds=xs++ys:=by
  unfold dCat at h
  split at h
  · rename_i xs e1
    split at h
    · rename_i ys e2
      by_cases c:xs.length+ys.length≤sizeLine
      · rw [if_pos c] at h; exact ⟨xs,ys,e1,e2,c,(Option.some.inj h).symm⟩
      · rw [if_neg c] at h; cases h
    · cases h
  · cases h
theorem zku (ha:SemI K ta a) (hb:SemI K tb b):SemF K (tOp z26 ta tb) (dCat a b):=fun {B Z os ρ σ H Q ds} f q k=>by
  obtain ⟨xs,ys,e1,e2,hc,rfl⟩:=zy6 q
  refine ha f e1 fun v H1 s1 i1=>hb ‹72› e2 fun u H2 s2 i2=>?_
  obtain ⟨p,vs,rfl,hz,hr,hn,r⟩:=(i1.same s2).isLst
  obtain ⟨p2,us,rfl,hz2,hr2,hn2,r2⟩:=i2.isLst
  have hl:vs.length+us.length≤sizeLine:=by rw [r.length,r2.length]; exact hc
  have s12:=s1.trans s2
  exact ⟨p,p2,vs,us,rfl,rfl,hr,hr2,hl,fun n hn'=>k n _ _ (s12.trans (same_new hn')) (Same.free s12 hn') zbb (by rw [List.length_append]; exact hl) ((r.append r2).kp (zmv hn'))⟩
noncomputable def dRep (a:Rho→Option (List D)) (b:DE):Rho→Option (List D):=fun ρ=>match a ρ with
  | some ds=>(match b ρ with
    | some (.int n)=>if -(2 ^ 63)≤n∧n<2 ^ 63∧ds.length*n.toNat≤sizeLine then some (List.replicate n.toNat ds).flatten else none
    | _=>none)
  | none=>none
theorem IsL.rep {H:Hp} {Z:Addr→Prop} {vs:List V} {ds:List D} (r:IsL K H Z vs ds):∀ n,IsL K H Z (List.replicate n vs).flatten (List.replicate n ds).flatten
  | 0=>.nil
  | n+1=>by rw [List.replicate_succ,List.flatten_cons,List.replicate_succ,List.flatten_cons]; exact r.append (r.rep n)
theorem z1i {a:Rho→Option (List D)} (ha:SemF K ta a) (hb:SemB K tb b):SemF K (tOp rRep ta tb) (dRep a b):=fun {B Z os ρ σ H Q ds} f q k=>by
  unfold dRep at q
  split at q
  · rename_i es e1
    split at q
    · rename_i n e2
      by_cases c:-(2 ^ 63)≤n∧n<2 ^ 63∧es.length*n.toNat≤sizeLine
      · rw [if_pos c] at q
        cases q
        refine ha f e1 fun p vs H1 s1 hp hp' hl i1=>hb ‹72› e2 fun u H2 s2 i2=>?_
        rw [i2.isInt]
        have i1':=(i1.same s2).kp (Kp.less (Z':=tot Z os) fun a z=>.inr z)
        have hlen:vs.length*n.toNat≤sizeLine:=by rw [i1.length]; exact c.2.2
        have s12:=s1.trans s2
        refine ⟨p,n,vs,rfl,rfl,s2 _ _ hp',c.1,c.2.1,hlen,fun x hx=>k x _ _ (s12.trans (same_new hx)) (Same.free s12 hx) zbb ?_ ((i1'.rep _).kp (zmv hx))⟩
        rw [zye,Nat.mul_comm]; exact hlen
      · rw [if_neg c] at q; cases q
    · cases q
  · cases q
def inS:D→List D→Option Bool
  | .int i,ds=>(zk3 ds).map fun ns=>decide (i∈ns)
  | _,_=>none
theorem zyp (k:Int) (hs:List Int):inV (.int k) (hs.map V.int)=decide (k∈hs):=by
  unfold inV
  rw [List.any_map,Bool.eq_iff_iff,List.any_eq_true,decide_eq_true_iff]
  constructor
  · rintro ⟨x,hx,e⟩
    have e':(x==k)=true:=e
    rw [← beq_iff_eq.mp e']
    exact hx
  · intro h
    exact ⟨k,h,show (k==k)=true from beq_self_eq_true k⟩
theorem zvk (hs:List Int):(hs.map V.int).all zlg=true:=by
  rw [List.all_map,List.all_eq_true]
  intro x _
  rfl
noncomputable def dIn (neg:Bool) (a b:DE):DE:=fun ρ=>match a ρ with
  | some d=>(match b ρ with
    | some (.lst ds)=>(inS d ds).map fun c=>.bl (if neg then !c else c)
    | some (.tup ds)=>(inS d ds).map fun c=>.bl (if neg then !c else c)
    | _=>none)
  | none=>none
theorem z1w {H:Hp} {Z:Addr→Prop} {v:V} {d:D} {vs:List V} {ds:List D} {c:Bool} (i:Is K H Z v d) (r:IsL K H Z vs ds) (h:inS d ds=some c):zlg v=true∧vs.all zlg=true∧inV v vs=c:=by
  cases i with
  | int i =>
    have h:(zk3 ds).map (fun ns=>decide (i∈ns))=some c:=h
    cases e:zk3 ds with
    | none=>rw [e] at h; cases h
    | some ns =>
      rw [e] at h
      cases h
      have e2:=znd e
      subst e2
      rw [r.ints]
      exact ⟨rfl,zvk ns,zyp i ns⟩
  | _=>cases h
theorem z6k {neg:Bool} (ha:SemB K ta a) (hb:SemB K tb b):SemI K (tOp (rIn K neg) ta tb) (dIn neg a b):=fun {B Z os ρ σ H Q d} f q k=>by
  unfold dIn at q
  split at q
  · rename_i e e1
    split at q
    · rename_i ds e2
      cases q1:inS e ds with
      | none=>rw [q1] at q; cases q
      | some c =>
        rw [q1] at q
        cases q
        refine ha f e1 fun v H1 s1 i1=>hb ‹72› e2 fun u H2 s2 i2=>?_
        obtain ⟨p,vs,rfl,hz,hr,hn,r⟩:=i2.isLst
        obtain ⟨h1,h2,h3⟩:=z1w (i1.same s2) r q1
        exact ⟨p,vs,rfl,.inl (.inl hr),h1,h2,by rw [h3]; exact k _ _ ‹36› (.bl _)⟩
    · rename_i ds e2
      cases q1:inS e ds with
      | none=>rw [q1] at q; cases q
      | some c =>
        rw [q1] at q
        cases q
        refine ha f e1 fun v H1 s1 i1=>hb ‹72› e2 fun u H2 s2 i2=>?_
        obtain ⟨p,vs,rfl,hz,hr,hn,r⟩:=i2.isTup
        obtain ⟨h1,h2,h3⟩:=z1w (i1.same s2) r q1
        exact ⟨p,vs,rfl,.inr (.inl (.inl hr)),h1,h2,by rw [h3]; exact k _ _ ‹36› (.bl _)⟩
    · cases q
  · cases q
end
end
end VL
namespace VL
open PySem L2
open Classical
noncomputable section
instance:Inhabited D:=⟨.non⟩
theorem z4v {H:Hp} {a:Addr} {xs ys:List V} (h:Rd H a (.lst xs)) (h':Rd H a (.lst ys)):xs=ys:=by
  rcases h with h | ⟨o,h⟩ <;> rcases h' with h' | ⟨o',h'⟩ <;> rw [h] at h' <;> cases h' <;> rfl
def cmpb:Nat→D→D→Bool
  | _,.int _,.int _=>true
  | _,.bl _,.bl _=>true
  | _,.str _,.str _=>true
  | _,.non,.non=>true
  | n+1,.lst xs,.lst ys=>decide (xs.length≠ys.length) || (List.zip xs ys).all fun p=>cmpb n p.1 p.2
  | n+1,.tup xs,.tup ys=>decide (xs.length=ys.length)&&(List.zip xs ys).all fun p=>cmpb n p.1 p.2
  | _,_,_=>false
theorem z00 {xs ys:List D} {j:Nat} {a b:D} {p:D×D→Bool} (h:(List.zip xs ys).all p=true) (e1:xs[j]?=some a) (e2:ys[j]?=some b):p (a,b)=true :=
  List.all_eq_true.mp h _ (List.mem_of_getElem? (i:=j) (List.getElem?_zip_eq_some.mpr ⟨e1,e2⟩))
inductive Cm:Nat→D→D→Prop
  | int {n:Nat} (a b:Int):Cm n (.int a) (.int b)
  | bl {n:Nat} (a b:Bool):Cm n (.bl a) (.bl b)
  | str {n:Nat} (a b:Str):Cm n (.str a) (.str b)
  | non {n:Nat}:Cm n .non .non
  | lst {n:Nat} {xs ys:List D} (h:xs.length=ys.length→(List.zip xs ys).all (fun p=>cmpb n p.1 p.2)=true):Cm (n+1) (.lst xs) (.lst ys)
  | tup {n:Nat} {xs ys:List D} (hl:xs.length=ys.length) (h:(List.zip xs ys).all (fun p=>cmpb n p.1 p.2)=true):Cm (n+1) (.tup xs) (.tup ys)
theorem zlz {n:Nat} {d e:D} (hc:cmpb n d e=true):Cm n d e:=by
  unfold cmpb at hc
  split at hc
  · exact .int _ _
  · exact .bl _ _
  · exact .str _ _
  · exact .non
  · exact .lst fun hl=>by simpa [hl] using hc
  · rw [Bool.and_eq_true] at hc; exact .tup (of_decide_eq_true hc.1) hc.2
  · cases hc
theorem Is.v_int {H:Hp} {Z:Addr→Prop} {v:V} {a:Int} (i:Is K H Z v (.int a)):v=.int a:=by cases i; rfl
theorem Is.v_bl {H:Hp} {Z:Addr→Prop} {v:V} {a:Bool} (i:Is K H Z v (.bl a)):v=.bl a:=by cases i; rfl
theorem Is.v_str {H:Hp} {Z:Addr→Prop} {v:V} {a:Str} (i:Is K H Z v (.str a)):v=.str a:=by cases i; rfl
theorem Is.v_non {H:Hp} {Z:Addr→Prop} {v:V} (i:Is K H Z v .non):v=.non:=by cases i; rfl
theorem Is.v_lst {H:Hp} {Z:Addr→Prop} {v:V} {ds:List D} (i:Is K H Z v (.lst ds)):∃ a vs,v=.ref a∧¬ Z a∧Rd H a (.lst vs)∧vs.length≤sizeLine∧IsL K H Z vs ds:=by
  cases i with | lst hz h hl r=>exact ⟨_,_,rfl,hz,h,hl,r⟩
theorem Is.v_tup {H:Hp} {Z:Addr→Prop} {v:V} {ds:List D} (i:Is K H Z v (.tup ds)):∃ a vs,v=.ref a∧¬ Z a∧H a=some (.tup vs)∧vs.length≤sizeLine∧IsL K H Z vs ds:=by
  cases i with | tup hz h hl r=>exact ⟨_,_,rfl,hz,h,hl,r⟩
theorem Is.inj {H:Hp} {Z Z':Addr→Prop}:∀ (n:Nat) {v:V} {d e:D},cmpb n d e=true→Is K H Z v d→Is K H Z' v e→d=e:=by
  intro n
  induction n using Nat.strongRecOn with | ind n ih=>?_
  have lists:∀ {m:Nat},m<n→∀ {vs:List V} {ds es:List D},(List.zip ds es).all (fun p=>cmpb m p.1 p.2)=true→IsL K H Z vs ds→IsL K H Z' vs es→ds=es:=by
    intro m hm vs ds es hc r r'
    have l1:=r.length
    have l2:=r'.length
    refine List.ext_getElem (by omega) fun k h1 h2=>?_
    obtain ⟨v,e1,i1⟩:=r.get (List.getElem?_eq_getElem h1)
    obtain ⟨v',e2,i2⟩:=r'.get (List.getElem?_eq_getElem h2)
    rw [e1] at e2
    cases e2
    exact ih m hm (z00 hc (List.getElem?_eq_getElem h1) (List.getElem?_eq_getElem h2)) i1 i2
  intro v d e hc i j
  cases zlz hc with
  | int=>have h:=i.v_int; rw [j.v_int] at h; cases h; rfl
  | bl=>have h:=i.v_bl; rw [j.v_bl] at h; cases h; rfl
  | str=>have h:=i.v_str; rw [j.v_str] at h; cases h; rfl
  | non=>rfl
  | lst h =>
    obtain ⟨p,xs,rfl,z1,h1,l1,g1⟩:=i.v_lst
    obtain ⟨q,ys,e,z2,h2,l2,g2⟩:=j.v_lst
    cases e
    have e:=z4v h1 h2
    subst e
    rw [lists (Nat.lt_succ_self _) (h (by have:=g1.length; have:=g2.length; omega)) g1 g2]
  | tup hl h =>
    obtain ⟨p,xs,rfl,z1,h1,l1,g1⟩:=i.v_tup
    obtain ⟨q,ys,e,z2,h2,l2,g2⟩:=j.v_tup
    cases e
    rw [h1] at h2
    cases h2
    rw [lists (Nat.lt_succ_self _) h g1 g2]
section
variable {X:Cx} {pins:List (Addr×Obj)} {σ:L2.St} {H:Hp} {s:Shared}
theorem zs3 (xs ys:List D):decide (D.lst xs=D.lst ys)=decide (xs=ys):=by
  rw [Bool.eq_iff_iff,decide_eq_true_iff,decide_eq_true_iff]
  exact ⟨fun h=>D.lst.inj h,fun h=>by rw [h]⟩
theorem zs2 (xs ys:List D):decide (D.tup xs=D.tup ys)=decide (xs=ys):=by
  rw [Bool.eq_iff_iff,decide_eq_true_iff,decide_eq_true_iff]
  exact ⟨fun h=>D.tup.inj h,fun h=>by rw [h]⟩
theorem zm5 (a b:Int):decide (D.int a=D.int b)=(a==b):=by
  rw [Bool.eq_iff_iff,decide_eq_true_iff,beq_iff_eq]
  exact ⟨fun h=>D.int.inj h,fun h=>by rw [h]⟩
theorem zui (a b:Bool):decide (D.bl a=D.bl b)=(a==b):=by
  rw [Bool.eq_iff_iff,decide_eq_true_iff,beq_iff_eq]
  exact ⟨fun h=>D.bl.inj h,fun h=>by rw [h]⟩
theorem zpl (a b:Str):decide (D.str a=D.str b)=(a==b):=by
  rw [Bool.eq_iff_iff,decide_eq_true_iff,beq_iff_eq]
  exact ⟨fun h=>D.str.inj h,fun h=>by rw [h]⟩
theorem zxi {A:Around} {l b:Addr} {us ws:List Value} {ns ms:List D} (p1:s.heap.IsTuple l us.toArray) (p2:s.heap.IsTuple b ws.toArray) (hl:us.length=ns.length) (hl2:ws.length=ms.length) (hs:ns.length=ms.length) (hu:A.units<cLine)
    (h:∀ (j:Nat) (u v:Value) (a b:D),us[j]?=some u→ws[j]?=some v→ns[j]?=some a→ms[j]?=some b→SeqAt.EqAt A.in1 s u v (decide (a=b))) :
    SeqAt.RcAt A s (.ref l) (.ref b) (decide (ns=ms)):=by
  have q:=SeqAt.RcAt.tuples (e:=fun j=>decide ‹44›) p1 p2 hu (eqAt_items hl hl2 h)
  have e:((List.range (min us.toArray.size ws.toArray.size)).all fun j=>decide ‹44›)=decide (ns=ms):=by
    rw [List.size_toArray,List.size_toArray,hl,hl2,← hs,Nat.min_self]; exact ze6 default hs
  have e2:(us.toArray.size==ws.toArray.size)=true:=by simp; omega
  rw [e,e2,Bool.and_true] at q
  exact q
theorem zxj {A:Around} {l b:Addr} {us ws:List Value} {ns ms:List D} (p1:s.heap.IsTuple l us.toArray) (p2:s.heap.IsTuple b ws.toArray) (hl:us.length=ns.length) (hl2:ws.length=ms.length) (hs:ns.length=ms.length) (hu:A.units<cLine)
    (h:∀ (j:Nat) (u v:Value) (a b:D),us[j]?=some u→ws[j]?=some v→ns[j]?=some a→ms[j]?=some b→SeqAt.EqAt A.in1 s u v (decide (a=b))) :
    SeqAt.RcNeAt A s (.ref l) (.ref b) (!decide (ns=ms)):=by
  have q:=SeqAt.RcNeAt.tuples (e:=fun j=>decide ‹44›) p1 p2 hu (eqAt_items hl hl2 h)
  have e:((List.range (min us.toArray.size ws.toArray.size)).all fun j=>decide ‹44›)=decide (ns=ms):=by
    rw [List.size_toArray,List.size_toArray,hl,hl2,← hs,Nat.min_self]; exact ze6 default hs
  have e2:(us.toArray.size==ws.toArray.size)=true:=by simp; omega
  rw [e,e2,Bool.and_true] at q
  exact q
theorem zfw {A:Around}:A.in1.units=A.units+1:=rfl
theorem zia {n:Nat} {A:Around} {xs ys:List V} {us ws:List Value} {ds es:List D} (hc:(List.zip ds es).all (fun p=>cmpb n p.1 p.2)=true) (r1:Vals xs us) (r2:Vals ys ws) (g1:IsL K H No xs ds) (g2:IsL K H No ys es)
    (ih:∀ {v w:V} {d e:D} {u x:Value},RelV v u→RelV w x→Is K H No v d→Is K H No w e→cmpb n d e=true→SeqAt.EqAt A s u x (decide (d=e))) :
    ∀ (j:Nat) (u v:Value) (a b:D),us[j]?=some u→ws[j]?=some v→ds[j]?=some a→es[j]?=some b→SeqAt.EqAt A s u v (decide (a=b)):=by
  intro j u v a b e1 e2 e3 e4
  obtain ⟨x,f1,i1⟩:=g1.get e3
  obtain ⟨y,f2,i2⟩:=g2.get e4
  obtain ⟨u',q1,k1⟩:=r1.get f1
  obtain ⟨v',q2,k2⟩:=r2.get f2
  rw [e1] at q1; cases q1
  rw [e2] at q2; cases q2
  exact ih k1 k2 i1 i2 (z00 hc e3 e4)
theorem zpj (I:Inv X pins σ H s):∀ (n:Nat) {A:Around},A.units+n<cLine→∀ {v w:V} {d e:D} {u x:Value},RelV v u→RelV w x→Is K H No v d→Is K H No w e→cmpb n d e=true→SeqAt.EqAt A s u x (decide (d=e)):=by
  intro n
  induction n using Nat.strongRecOn with | ind n ih=>?_
  intro A hu v w d e u x r1 r2 i1 i2 hc
  have hc0:=hc
  cases zlz hc with
  | int a b=>rw [i1.v_int] at r1; rw [i2.v_int] at r2; obtain ⟨t,rfl⟩:=r1; obtain ⟨t',rfl⟩:=r2; rw [zm5]; exact SeqAt.EqAt.int_int a t b t'
  | bl a b=>rw [i1.v_bl] at r1; rw [i2.v_bl] at r2; cases r1; cases r2; rw [zui]; exact SeqAt.EqAt.bool_bool a b
  | str a b=>rw [i1.v_str] at r1; rw [i2.v_str] at r2; obtain ⟨t,rfl⟩:=r1; obtain ⟨t',rfl⟩:=r2; rw [zpl]; exact SeqAt.EqAt.str_str a t b t'
  | non=>rw [i1.v_non] at r1; rw [i2.v_non] at r2; cases r1; cases r2; rw [decide_eq_true rfl]; exact SeqAt.EqAt.same _
  | @lst n ds es h =>
    have j1:=i1
    have j2:=i2
    obtain ⟨p,xs,rfl,z1,h1,l1,g1⟩:=i1.v_lst
    obtain ⟨q,ys,rfl,z2,h2,l2,g2⟩:=i2.v_lst
    cases r1
    cases r2
    by_cases hpq:p=q
    · subst hpq
      rw [decide_eq_true (Is.inj _ hc0 j1 j2)]
      exact SeqAt.EqAt.same _
    · obtain ⟨_,us,m1,k1,n1,o1⟩:=I.lstR h1
      obtain ⟨_,ws,m2,k2,n2,o2⟩:=I.lstR h2
      rw [zs3]
      have e1:=g1.length
      have e2:=g2.length
      refine SeqAt.EqAt.of_refs hpq ?_
      by_cases hl:ds.length=es.length
      · exact znq ⟨_,o1,rfl,_,rfl⟩ ⟨_,o2,rfl,_,rfl⟩ (by omega) (by omega) (by omega) (zia (h hl) k1 k2 g1 g2 (ih n (Nat.lt_succ_self _) (by rw [zfw]; omega)))
      · have q:=SeqAt.RcAt.lists_lengths (A:=A) (s:=s) (items:=us.toArray) (items2:=ws.toArray) ⟨_,o1,rfl,_,rfl⟩ ⟨_,o2,rfl,_,rfl⟩ ‹55› (by omega)
        have e:decide (ds=es)=false:=decide_eq_false fun z=>hl (by rw [z])
        rw [e]
        exact q
  | @tup n ds es hl h =>
    have j1:=i1
    have j2:=i2
    obtain ⟨p,xs,rfl,z1,h1,l1,g1⟩:=i1.v_tup
    obtain ⟨q,ys,rfl,z2,h2,l2,g2⟩:=i2.v_tup
    cases r1
    cases r2
    by_cases hpq:p=q
    · subst hpq
      rw [decide_eq_true (Is.inj _ hc0 j1 j2)]
      exact SeqAt.EqAt.same _
    · obtain ⟨us,k1,o1,_⟩:=I.tuple (xs:=xs) (.inl (.inl h1))
      obtain ⟨ws,k2,o2,_⟩:=I.tuple (xs:=ys) (.inl (.inl h2))
      rw [zs2]
      have e1:=g1.length
      have e2:=g2.length
      have n1:=k1.length
      have n2:=k2.length
      exact SeqAt.EqAt.of_refs hpq (zxi o1 o2 (by omega) (by omega) hl (by omega) (zia h k1 k2 g1 g2 (ih n (Nat.lt_succ_self _) (by rw [zfw]; omega))))
def rEqD (K:PySem.W.Frag) (neg:Bool):R2:=fun x y H Q=>∃ d e,Is K H No x d∧Is K H No y e∧cmpb 20 d e=true∧Q ‹125› H
theorem zcb (hu:X.A.units+64<cLine):OpR X (compareOp .Eq) (rEqD K false):=by
  intro pins s σ H x y v u Q I rx ry h
  obtain ⟨d,e,i1,i2,hc,h⟩:=h
  rw [if_neg Bool.false_ne_true] at h
  cases zlz hc with
  | int a b=>obtain rfl:=i1.v_int; obtain rfl:=i2.v_int; exact zz3 pins s σ H _ _ v u Q I rx ry ⟨rfl,by rw [show decide (V.int a=V.int b)=decide (D.int a=D.int b) from decide_eq_decide.mpr ⟨fun q=>by cases q; rfl,fun q=>by cases q; rfl⟩]; exact h⟩
  | bl a b=>obtain rfl:=i1.v_bl; obtain rfl:=i2.v_bl; exact zz3 pins s σ H _ _ v u Q I rx ry ⟨rfl,by rw [show decide (V.bl a=V.bl b)=decide (D.bl a=D.bl b) from decide_eq_decide.mpr ⟨fun q=>by cases q; rfl,fun q=>by cases q; rfl⟩]; exact h⟩
  | str a b=>obtain rfl:=i1.v_str; obtain rfl:=i2.v_str; exact zz3 pins s σ H _ _ v u Q I rx ry ⟨rfl,by rw [show decide (V.str a=V.str b)=decide (D.str a=D.str b) from decide_eq_decide.mpr ⟨fun q=>by cases q; rfl,fun q=>by cases q; rfl⟩]; exact h⟩
  | non=>obtain rfl:=i1.v_non; obtain rfl:=i2.v_non; exact zz3 pins s σ H _ _ v u Q I rx ry ⟨rfl,by rw [show decide (V.non=V.non)=decide (D.non=D.non) from decide_eq_decide.mpr ⟨fun q=>rfl,fun q=>rfl⟩]; exact h⟩
  | @lst n ds es hh =>
    obtain ⟨p,xs,rfl,z1,h1,l1,g1⟩:=i1.v_lst
    obtain ⟨q,ys,rfl,z2,h2,l2,g2⟩:=i2.v_lst
    cases rx
    cases ry
    obtain ⟨_,us,m1,k1,n1,o1⟩:=I.lstR h1
    obtain ⟨_,ws,m2,k2,n2,o2⟩:=I.lstR h2
    rw [zs3] at h
    have e1:=g1.length
    have e2:=g2.length
    by_cases hl:ds.length=es.length
    · exact znq ⟨_,o1,rfl,_,rfl⟩ ⟨_,o2,rfl,_,rfl⟩ (by omega) (by omega) (by omega) (zia (hh hl) k1 k2 g1 g2 (zpj I 19 (by rw [zfw]; omega))) X.prog X.w X.xe _ ⟨.bl _,H,I,rfl,h⟩
    · have q:=SeqAt.RcAt.lists_lengths (A:=X.A) (s:=s) (items:=us.toArray) (items2:=ws.toArray) ⟨_,o1,rfl,_,rfl⟩ ⟨_,o2,rfl,_,rfl⟩ ‹55› (by omega)
      have e:decide (ds=es)=false:=decide_eq_false fun z=>hl (by rw [z])
      rw [e] at h
      exact q X.prog X.w X.xe _ ⟨.bl _,H,I,rfl,h⟩
  | @tup n ds es hl hh =>
    obtain ⟨p,xs,rfl,z1,h1,l1,g1⟩:=i1.v_tup
    obtain ⟨q,ys,rfl,z2,h2,l2,g2⟩:=i2.v_tup
    cases rx
    cases ry
    obtain ⟨us,k1,o1,_⟩:=I.tuple (xs:=xs) (.inl (.inl h1))
    obtain ⟨ws,k2,o2,_⟩:=I.tuple (xs:=ys) (.inl (.inl h2))
    rw [zs2] at h
    have e1:=g1.length
    have e2:=g2.length
    have n1:=k1.length
    have n2:=k2.length
    exact zxi o1 o2 (by omega) (by omega) hl (by omega) (zia hh k1 k2 g1 g2 (zpj I 19 (by rw [zfw]; omega))) X.prog X.w X.xe _ ⟨.bl _,H,I,rfl,h⟩
theorem zkx (hu:X.A.units+64<cLine):OpR X (compareOp .NotEq) (rEqD K true):=by
  intro pins s σ H x y v u Q I rx ry h
  obtain ⟨d,e,i1,i2,hc,h⟩:=h
  rw [if_pos rfl] at h
  cases zlz hc with
  | int a b=>obtain rfl:=i1.v_int; obtain rfl:=i2.v_int; exact zz2 pins s σ H _ _ v u Q I rx ry ⟨rfl,by rw [show decide (V.int a=V.int b)=decide (D.int a=D.int b) from decide_eq_decide.mpr ⟨fun q=>by cases q; rfl,fun q=>by cases q; rfl⟩]; exact h⟩
  | bl a b=>obtain rfl:=i1.v_bl; obtain rfl:=i2.v_bl; exact zz2 pins s σ H _ _ v u Q I rx ry ⟨rfl,by rw [show decide (V.bl a=V.bl b)=decide (D.bl a=D.bl b) from decide_eq_decide.mpr ⟨fun q=>by cases q; rfl,fun q=>by cases q; rfl⟩]; exact h⟩
  | str a b=>obtain rfl:=i1.v_str; obtain rfl:=i2.v_str; exact zz2 pins s σ H _ _ v u Q I rx ry ⟨rfl,by rw [show decide (V.str a=V.str b)=decide (D.str a=D.str b) from decide_eq_decide.mpr ⟨fun q=>by cases q; rfl,fun q=>by cases q; rfl⟩]; exact h⟩
  | non=>obtain rfl:=i1.v_non; obtain rfl:=i2.v_non; exact zz2 pins s σ H _ _ v u Q I rx ry ⟨rfl,by rw [show decide (V.non=V.non)=decide (D.non=D.non) from decide_eq_decide.mpr ⟨fun q=>rfl,fun q=>rfl⟩]; exact h⟩
  | @lst n ds es hh =>
    obtain ⟨p,xs,rfl,z1,h1,l1,g1⟩:=i1.v_lst
    obtain ⟨q,ys,rfl,z2,h2,l2,g2⟩:=i2.v_lst
    cases rx
    cases ry
    obtain ⟨_,us,m1,k1,n1,o1⟩:=I.lstR h1
    obtain ⟨_,ws,m2,k2,n2,o2⟩:=I.lstR h2
    rw [zs3] at h
    have e1:=g1.length
    have e2:=g2.length
    by_cases hl:ds.length=es.length
    · exact zqz ⟨_,o1,rfl,_,rfl⟩ ⟨_,o2,rfl,_,rfl⟩ (by omega) (by omega) (by omega) (zia (hh hl) k1 k2 g1 g2 (zpj I 19 (by rw [zfw]; omega))) X.prog X.w X.xe _ ⟨.bl _,H,I,rfl,h⟩
    · have q:=SeqAt.RcNeAt.lists_lengths (A:=X.A) (s:=s) (items:=us.toArray) (items2:=ws.toArray) ⟨_,o1,rfl,_,rfl⟩ ⟨_,o2,rfl,_,rfl⟩ ‹55› (by omega)
      have e:decide (ds=es)=false:=decide_eq_false fun z=>hl (by rw [z])
      rw [e] at h
      exact q X.prog X.w X.xe _ ⟨.bl _,H,I,rfl,h⟩
  | @tup n ds es hl hh =>
    obtain ⟨p,xs,rfl,z1,h1,l1,g1⟩:=i1.v_tup
    obtain ⟨q,ys,rfl,z2,h2,l2,g2⟩:=i2.v_tup
    cases rx
    cases ry
    obtain ⟨us,k1,o1,_⟩:=I.tuple (xs:=xs) (.inl (.inl h1))
    obtain ⟨ws,k2,o2,_⟩:=I.tuple (xs:=ys) (.inl (.inl h2))
    rw [zs2] at h
    have e1:=g1.length
    have e2:=g2.length
    have n1:=k1.length
    have n2:=k2.length
    exact zxj o1 o2 (by omega) (by omega) hl (by omega) (zia hh k1 k2 g1 g2 (zpj I 19 (by rw [zfw]; omega))) X.prog X.w X.xe _ ⟨.bl _,H,I,rfl,h⟩
end
section
variable {ta tb:TE} {a b:DE}
noncomputable def dEq (neg:Bool) (a b:DE):DE:=fun ρ=>match a ρ with
  | some d=>(match b ρ with
    | some e=>if cmpb 20 d e=true then some ‹125› else none
    | none=>none)
  | none=>none
theorem zcz [Tabs] {neg:Bool} (ha:SemB K ta a) (hb:SemB K tb b):SemI K (tOp (rEqD K neg) ta tb) (dEq neg a b):=fun {B Z os ρ σ H Q d} f q k=>by
  unfold dEq at q
  split at q
  · rename_i x e1
    split at q
    · rename_i y e2
      by_cases c:cmpb 20 x y=true
      · rw [if_pos c] at q
        cases q
        exact ha f e1 fun v H1 s1 i1=>hb ‹72› e2 fun u H2 s2 i2=>⟨x,y,i1.same s2,i2,c,k _ _ ‹36› (.bl _)⟩
      · rw [if_neg c] at q; cases q
    · cases q
  · cases q
end
end
end VL
namespace L2
open PySem PySem.Spec PyProof.Rows
section
variable {X:Cx}
noncomputable def gSeq (K:PySem.W.Frag) (n:Nat) (t:TGs):TG:=fun v σ H Q=>gTup K n t v σ H Q∨gLst K n t v σ H Q
theorem z43 {es:List Expr} {k:Nat} {t:TGs} {n:Nat} {pos:Pos} (hc:X.calm=true) (h:PGs X es t)
    (hn:‹116›.length=n:=by rfl) (hst:‹116›.findIdx? (·.1)=none:=by rfl):PG X (.Tuple es k pos) (gSeq X.K n t):=by
  intro pins s σ H v u Q I r hw
  rcases hw with hw | hw
  · exact z42 hc h hn hst pins s σ H v u Q I r hw
  · exact z44 hc h hn hst pins s σ H v u Q I r hw
theorem zsm {K:PySem.W.Frag} {es:List Expr} {k:Nat} {t:TGs} {n:Nat} {pos:Pos} (hK:X.K=K) (hc:X.calm=true) (h:PGs X es t)
    (hn:‹116›.length=n:=by rfl) (hst:‹116›.findIdx? (·.1)=none:=by rfl):PG X (.Tuple es k pos) (gSeq K n t):=by
  subst hK
  exact z43 hc h hn hst
end
end L2
namespace VL
open PySem L2
open Classical
noncomputable section
variable [Tabs] {K:PySem.W.Frag}
def z6f (K:PySem.W.Frag) (t:TE) (e:DE):Prop:=∀ {B:Hp} {Z:Addr→Prop} {os:Own} {ρ:Rho} {σ:L2.St} {H:Hp} {Q:VK} {d:D},Fr K B Z os ρ σ H→e ρ=some d→(∀ v H',Same H H'→Is K B No v d→Q v H')→t σ H Q
noncomputable def zpm (i:Nat):DE:=fun ρ=>match ρ.getD i .un with
  | .bo d=>some d
  | _=>none
theorem zqe (i:Nat):z6f K (tVar i) (zpm i):=fun {B Z os ρ σ H Q d} f q k=>by
  have s:=f.sl i
  unfold zpm at q
  cases e:ρ.getD i .un with
  | bo d' =>
    rw [e] at q s
    cases q
    obtain ⟨_,u,hu,i⟩:=s
    exact ⟨u,join_some hu,k u H ‹101› i⟩
  | _=>rw [e] at q; cases q
def ER (K:PySem.W.Frag) (m:Bool) (Bx H:Hp) (T:Addr→Prop) (x:V) (d:D):Prop:=match m with
  | true=>Is K H T x d
  | false=>Is K Bx No x d
structure Walk (K:PySem.W.Frag) (m:Bool) (Bx:Hp) (J:It) (H1:Hp) (T:Addr→Prop) (ds:List D):Prop where
  len:ds.length≤sizeLine
  go:∀ (i:Nat) (d:D) (H2:Hp) (T2:Addr→Prop),Kp T H1 T2 H2→Same Bx H2→(∀ a,T2 a→∃ o,H2 a=some o)→ds[i]?=some d→J.go i H2∧∀ x H3,J.yld i H2 x H3→Same H2 H3∧ER K m Bx H3 T2 x d
  stop:∀ (i:Nat) (H2:Hp) (T2:Addr→Prop),Kp T H1 T2 H2→Same Bx H2→ds.length=i→J.stop i H2
def SemW (K:PySem.W.Frag) (m:Bool) (wi:TI) (e:Rho→Option (List D)):Prop:=∀ {B:Hp} {Z:Addr→Prop} {os:Own} {ρ:Rho} {σ:L2.St} {H:Hp} {R:It→Hp→Prop} {ds:List D},Fr K B Z os ρ σ H→e ρ=some ds→(∀ J H1,Same H H1→Walk K m B J H1 (tot Z os) ds→R J H1)→wi σ H R
def zvr (K:PySem.W.Frag) (m:Bool) (wi:TI) (e:Rho→Option (List D)):Prop:=∀ {B:Hp} {Z:Addr→Prop} {os:Own} {ρ:Rho} {σ:L2.St} {H:Hp} {R:It→Hp→Prop} {ds:List D},Fr K B Z os ρ σ H→e ρ=some ds→(∀ J H1,Same H H1→Walk K m H1 J H1 (tot Z os) ds→R J H1)→wi σ H R
theorem SemW.c {wi:TI} {e:Rho→Option (List D)} (h:SemW K true wi e):zvr K true wi e:=fun f q k=>h f q fun J H1 s w=>k J H1 s ⟨w.len,fun i d H2 T2 kp sm hd e=>w.go i d H2 T2 kp ((f.keep.trans s).trans sm) hd e,fun i H2 T2 kp sm hl=>w.stop i H2 T2 kp ((f.keep.trans s).trans sm) hl⟩
theorem Rd.same {H H':Hp} {a:Addr} {u:HO} (h:Rd H a u) (s:Same H H'):Rd H' a u:=by
  rcases h with h | ⟨o,h⟩
  · exact .inl (s _ _ h)
  · exact .inr ⟨o,s _ _ h⟩
theorem zfr {m:Bool} {Bx H1:Hp} {T:Addr→Prop} {p:Addr} {vs:List V} {ds:List D} (hl:ds.length≤sizeLine) (hd0:∀ H2 T2,Kp T H1 T2 H2→Same Bx H2→SqL K H2 p vs) (hn:vs.length=ds.length)
    (hi:∀ H2 T2 (i:Nat) v d,Kp T H1 T2 H2→Same Bx H2→vs[i]?=some v→ds[i]?=some d→ER K m Bx H2 T2 v d):Walk K m Bx (Itl K p) H1 T ds:=by
  refine ⟨hl,fun i d H2 T2 kp sb hd e=>?_,fun i H2 T2 kp sb hi=>⟨vs,hd0 H2 T2 kp sb,by omega⟩⟩
  have hr2:=hd0 H2 T2 kp sb
  have hi':i<vs.length:=by rw [hn]; exact (List.getElem?_eq_some_iff.mp e).1
  have e1:vs[i]?=some vs[i]:=List.getElem?_eq_getElem hi'
  refine ⟨⟨vs,_,hr2,e1⟩,fun x H3 ⟨e3,hx⟩=>?_⟩
  subst e3
  have:=hx vs hr2
  rw [e1] at this
  cases this
  exact ⟨Same.refl _,hi _ T2 i _ d kp sb e1 e⟩
theorem zec {tl:TE} {a:DE} (ha:SemI K tl a):SemW K true (zyr K tl) (asL a):=fun {B Z os ρ σ H R ds} f q k=>by
  obtain ⟨d,q,ed⟩:=zgi q
  refine ha f q fun v H1 s1 i1=>?_
  obtain ⟨p,vs,rfl,hl,hn,hr⟩:=i1.seq ed
  refine ⟨p,rfl,⟨vs,(hr H1 _ Kp.refl).1⟩,k _ _ s1 (zfr (vs:=vs) (by omega) (fun H2 T2 kp _=>(hr H2 T2 kp).1) hn fun H2 T2 i v d kp _ e1 e2=>?_)⟩
  obtain ⟨v',f1,i2⟩:=(hr H2 T2 kp).2.get e2
  rw [e1] at f1
  cases f1
  exact i2
theorem zje {tl:TE} {a:DE} (ha:z6f K tl a):SemW K false (zyr K tl) (asL a):=fun {B Z os ρ σ H R ds} f q k=>by
  obtain ⟨d,q,ed⟩:=zgi q
  refine ha f q fun v H1 s1 i1=>?_
  obtain ⟨p,vs,rfl,hl,hn,hr⟩:=i1.seq ed
  refine ⟨p,rfl,⟨vs,(hr H1 No (Kp.same (f.keep.trans s1))).1⟩,k _ _ s1 ‹123›⟩
  obtain ⟨v',f1,i2⟩:=(hr B No Kp.refl).2.get e2
  rw [e1] at f1
  cases f1
  exact i2
theorem zl9 {tl:TE} {a:DE} (ha:SemB K tl a):zvr K false (zyr K tl) (asL a):=fun {B Z os ρ σ H R ds} f q k=>by
  obtain ⟨d,q,ed⟩:=zgi q
  refine ha f q fun v H1 s1 i1=>?_
  obtain ⟨p,vs,rfl,hl,hn,hr⟩:=i1.seq ed
  refine ⟨p,rfl,⟨vs,(hr H1 _ Kp.refl).1⟩,k _ _ s1 ‹123›⟩
  obtain ⟨v',f1,i2⟩:=(hr H1 No Kp.refl).2.get e2
  rw [e1] at f1
  cases f1
  exact i2
def upL (lo:Int) (n:Nat):List D:=‹108›.map fun (i:Nat)=>.int (lo+(i:Int))
theorem zv7 {lo:Int} {n:Nat}:(upL lo n).length=n:=by unfold upL; rw [List.length_map,List.length_range]
theorem z2i {lo:Int} {n i:Nat} {d:D} (h:(upL lo n)[i]?=some d):i<n∧d=.int (lo+i):=by
  unfold upL at h
  rw [List.getElem?_map] at h
  by_cases hi:i<n
  · rw [List.getElem?_range hi] at h; cases h; exact ⟨hi,rfl⟩
  · rw [List.getElem?_eq_none (by rw [List.length_range]; omega)] at h; cases h
theorem zur {m:Bool} {Bx H1:Hp} {T:Addr→Prop} {lo:Int} {n:Nat} (hn:n≤sizeLine):Walk K m Bx (Itr lo n) H1 T (upL lo n):=by
  refine ⟨by rw [zv7]; exact hn,fun i d H2 T2 kp _ hd e=>?_,fun i H2 T2 kp _ hi=>by rw [zv7] at hi; exact Nat.le_of_eq hi⟩
  obtain ⟨hi,rfl⟩:=z2i e
  refine ⟨hi,fun x H3 ⟨e3,ex⟩=>?_⟩
  subst e3 ex
  cases m
  · exact ⟨Same.refl _,.int _⟩
  · exact ⟨Same.refl _,.int _⟩
noncomputable def dRg1 (a:DE):Rho→Option (List D):=fun ρ=>match a ρ with
  | some (.int j)=>if -(2 ^ 62)≤j∧j.toNat≤sizeLine then some (upL 0 j.toNat) else none
  | _=>none
theorem zcn {ta:TE} {a:DE} (ha:SemB K ta a):SemW K true (z5w (zcy ta tNil)) (dRg1 a):=fun {B Z os ρ σ H R ds} f q k=>by
  unfold dRg1 at q
  split at q
  · rename_i j e
    by_cases c:-(2 ^ 62)≤j∧j.toNat≤sizeLine
    · rw [if_pos c] at q
      cases q
      have hs:sizeLine=16777216:=sizeLine_eq
      exact ha f e fun v H1 s1 i1=>⟨j,by rw [i1.isInt],c.1,by omega,k _ _ s1 (zur c.2)⟩
    · rw [if_neg c] at q; cases q
  · cases q
abbrev DG:=D→Rho→Option Rho
abbrev DGs:=List D→Rho→Option Rho
def SemG (K:PySem.W.Frag) (m:Bool) (g:TG) (e:DG):Prop:=∀ {B:Hp} {Z:Addr→Prop} {os:Own} {ρ:Rho} {σ:L2.St} {H:Hp} {Q:L2.St→Hp→Prop} {v:V} {d:D} {ρ':Rho},Fr K B Z os ρ σ H→ER K m B H (tot Z os) v d→e d ρ=some ρ' →
  (∀ os' σ',Fr K B Z os' ρ' σ' H→Kp (tot Z os) H (tot Z os') H→Q σ' H)→g v σ H Q
def ERL (K:PySem.W.Frag) (m:Bool) (Bx H:Hp) (T:Addr→Prop) (vs:List V) (ds:List D):Prop:=match m with
  | true=>IsL K H T vs ds
  | false=>IsL K Bx No vs ds
def z0y (K:PySem.W.Frag) (m:Bool) (g:TGs) (e:DGs):Prop:=∀ {B:Hp} {Z:Addr→Prop} {os:Own} {ρ:Rho} {σ:L2.St} {H:Hp} {Q:L2.St→Hp→Prop} {vs:List V} {ds:List D} {ρ':Rho},Fr K B Z os ρ σ H→ERL K m B H (tot Z os) vs ds→e ds ρ=some ρ' →
  (∀ os' σ',Fr K B Z os' ρ' σ' H→Kp (tot Z os) H (tot Z os') H→Q σ' H)→g vs σ H Q
def slm (m:Bool) (d:D):Sl:=match m with
  | true=>.pu d
  | false=>.bo d
noncomputable def gN (m:Bool) (i:Nat):DG:=fun d ρ=>some (ρ.set i (slm m d))
theorem Fr.putm {B H:Hp} {Z:Addr→Prop} {os:Own} {ρ:Rho} {σ:L2.St} (f:Fr K B Z os ρ σ H) {m:Bool} (i:Nat) {v:V} {d:D} (h:ER K m B H (tot Z os) v d) :
    ∃ os',Fr K B Z os' (ρ.set i (slm m d)) (σ.set i (some v)) H∧Kp (tot Z os) H (tot Z os') H:=by
  by_cases hi:i < ρ.length
  · cases m with
    | true=>exact ⟨_,f.put hi h⟩
    | false=>exact ⟨_,f.step (s:=.bo d) (v:=some v) hi (fun a u e _=>e) (fun a ha=>let ⟨xs,e⟩:=(f.sl i).dom ha; ⟨_,e⟩) List.nodup_nil (fun a h=>by cases h) ⟨rfl,v,rfl,h⟩⟩
  · have e1:ρ.set i (slm m d)=ρ:=List.set_eq_of_length_le (by omega)
    have e2:σ.set i (some v)=σ:=List.set_eq_of_length_le (by rw [f.len]; omega)
    rw [e1,e2]
    exact ⟨os,f,Kp.refl⟩
theorem zbd {m:Bool} (i:Nat):SemG K m (zmz i) (gN m i):=fun {B Z os ρ σ H Q v d ρ'} f h q k=>by
  cases q
  obtain ⟨os',f',kp⟩:=f.putm i h
  exact k os' _ f' kp
def z0j:DGs:=fun ds ρ=>match ds with
  | []=>some ρ
  | _=>none
def zmx (e:DG) (r:DGs):DGs:=fun ds ρ=>match ds with
  | d::t=>(match e d ρ with
    | some ρ'=>r t ρ'
    | none=>none)
  | []=>none
theorem zsg {m:Bool}:z0y K m gNil z0j:=fun {B Z os ρ σ H Q vs ds ρ'} f h q k=>by
  cases ds with
  | nil =>
    cases q
    have e:vs=[]:=by cases m <;> cases h <;> rfl
    exact ⟨e,k os σ f Kp.refl⟩
  | cons d t=>cases q
theorem zhy {m:Bool} {g:TG} {u:TGs} {e:DG} {r:DGs} (hg:SemG K m g e) (hr:z0y K m u r):z0y K m (z3q g u) (zmx e r):=fun {B Z os ρ σ H Q vs ds ρ'} f h q k=>by
  cases ds with
  | nil=>cases q
  | cons d t =>
    have q:(match e d ρ with | some ρ'=>r t ρ' | none=>none)=some ρ':=q
    split at q
    · rename_i ρ1 e1
      obtain ⟨v,vt,rfl,h1,h2⟩:∃ v vt,vs=v::vt∧ER K m B H (tot Z os) v d∧ERL K m B H (tot Z os) vt t:=by
        cases m with
        | true=>cases h with | cons a b=>exact ⟨_,_,rfl,a,b⟩
        | false=>cases h with | cons a b=>exact ⟨_,_,rfl,a,b⟩
      refine ⟨v,vt,rfl,hg f h1 e1 fun os1 σ1 f1 k1=>hr f1 ?_ q fun os2 σ2 f2 k2=>k os2 σ2 f2 (k1.trans k2)⟩
      cases m with
      | true=>exact IsL.kp k1 h2
      | false=>exact h2
    · cases q
noncomputable def gUn (n:Nat) (r:DGs):DG:=fun d ρ=>match d with
  | .tup ds=>if ds.length=n then r ds ρ else none
  | .lst ds=>if ds.length=n then r ds ρ else none
  | _=>none
theorem z2z {m:Bool} {n:Nat} {u:TGs} {r:DGs} (hr:z0y K m u r):SemG K m (gSeq K n u) (gUn n r):=fun {B Z os ρ σ H Q v d ρ'} f h q k=>by
  cases d with
  | tup ds =>
    have q:(if ds.length=n then r ds ρ else none)=some ρ':=q
    by_cases c:ds.length=n
    · rw [if_pos c] at q
      cases m with
      | true =>
        obtain ⟨p,vs,rfl,hz,hr',hl,g⟩:=Is.isTup h
        exact .inl ⟨p,vs,rfl,.inl (.inl hr'),by rw [g.length]; exact c,hr f g q k⟩
      | false =>
        obtain ⟨p,vs,rfl,hz,hr',hl,g⟩:=Is.isTup h
        exact .inl ⟨p,vs,rfl,.inl (.inl (f.keep _ _ hr')),by rw [g.length]; exact c,hr f g q k⟩
    · rw [if_neg c] at q; cases q
  | lst ds =>
    have q:(if ds.length=n then r ds ρ else none)=some ρ':=q
    by_cases c:ds.length=n
    · rw [if_pos c] at q
      cases m with
      | true =>
        obtain ⟨p,vs,rfl,hz,hr',hl,g⟩:=Is.isLst h
        exact .inr ⟨p,vs,rfl,.inl hr',by rw [g.length]; exact c,hr f g q k⟩
      | false =>
        obtain ⟨p,vs,rfl,hz,hr',hl,g⟩:=Is.isLst h
        exact .inr ⟨p,vs,rfl,.inl (Rd.same hr' f.keep),by rw [g.length]; exact c,hr f g q k⟩
    · rw [if_neg c] at q; cases q
  | _=>cases q
theorem Fr.tin {B H:Hp} {Z:Addr→Prop} {os:Own} {ρ:Rho} {σ:L2.St} (f:Fr K B Z os ρ σ H):∀ a,tot Z os a→∃ o,H a=some o:=by
  rintro a (z | ⟨i,z⟩)
  · exact f.zin a z
  · obtain ⟨xs,e⟩:=(f.sl i).dom z
    exact ⟨_,e⟩
theorem Fr.zt {B H:Hp} {Z:Addr→Prop} {os:Own} {ρ:Rho} {σ:L2.St} (f:Fr K B Z os ρ σ H):ZT (tot Z os) H:=⟨f.tin,f.tabH⟩
def view:Sl→Sl
  | .pu d=>.pu d
  | .bo d=>.bo d
  | .ol ds=>.bo (.lst ds)
  | .om rows=>.bo (.lst ‹137›)
  | .od kvs=>.bo (.dct kvs)
  | .pm _ _ rows=>.bo (.lst ‹137›)
  | .pd _ kvs=>.bo (.dct kvs)
  | .un=>.un
def r0 (k:Nat) (cs:List Nat) (ρ:Rho):Rho:=List.replicate k .un++cs.map fun i=>view (ρ.getD i .un)
def s0 (k:Nat) (cs:List Nat) (σ:L2.St):L2.St:=List.replicate k none++cs.map fun i=>(σ[i]?).join
theorem zpw {B H1 H:Hp} {Z:Addr→Prop} {os:Own} {ρ:Rho} {σ:L2.St} {Dl:Addr} {o:HO} (f:Fr K B Z os ρ σ H1) (hD:H1 Dl=none) (s:Same H1 H) (hd:H Dl=some o) (k:Nat) (cs:List Nat) :
    Fr K H1 ‹64› (fun _=>[]) (r0 k cs ρ) (s0 k cs σ) H where
  keep:=s
  zin:=fun a z=>by
    rcases z with rfl | z
    · exact ⟨o,hd⟩
    · obtain ⟨u,e⟩:=f.tin a z
      exact ⟨u,s _ _ e⟩
  len:=by unfold r0 s0; simp
  nd:=fun _=>List.nodup_nil
  dj:=fun _ _ _ h=>by cases h
  tab:=f.tabH
  new:=fun _ _ h=>by cases h
  sl:=fun j=>by
    have kp:Kp (tot Z os) H1 (tot ‹64› fun _=>[]) H:=fun a u e z=>by
      refine ⟨s _ _ e,?_⟩
      rintro ((rfl | q) | ⟨_,q⟩)
      · rw [hD] at e; cases e
      · exact z q
      · cases q
    unfold r0 s0
    rw [List.getD_eq_getElem?_getD]
    by_cases hj:j<k
    · rw [List.getElem?_append_left ‹68›,List.getElem?_append_left ‹68›,List.getElem?_replicate,if_pos hj]
      exact rfl
    · rw [List.getElem?_append_right ‹68›,List.getElem?_append_right ‹68›,List.length_replicate,List.length_replicate,List.getElem?_map,List.getElem?_map]
      cases e:cs[j-k]? with
      | none=>exact rfl
      | some i =>
        have h:=f.sl i
        show SlOk K _ _ _ _ (view (ρ.getD i .un)) ((σ[i]?).join)
        cases e2:ρ.getD i .un with
        | un=>exact rfl
        | pu d =>
          rw [e2] at h
          obtain ⟨_,u,hu,i1⟩:=h
          exact ⟨rfl,u,hu,i1.kp kp⟩
        | bo d =>
          rw [e2] at h
          obtain ⟨_,u,hu,i1⟩:=h
          exact ⟨rfl,u,hu,i1.same f.keep⟩
        | ol ds =>
          rw [e2] at h
          obtain ⟨a,vs,_,hu,hH,hl,i1⟩:=h
          exact ⟨rfl,_,hu,.lst (fun z=>z) (.inl hH) hl i1.all⟩
        | om rows =>
          rw [e2] at h
          obtain ⟨a,ps,_,hu,hH,hl,i1⟩:=h
          exact ⟨rfl,_,hu,.lst (fun z=>z) (.inl hH) ‹52› (zi2 i1)⟩
        | od kvs =>
          rw [e2] at h
          obtain ⟨a,_,hu,hH,hl⟩:=h
          exact ⟨rfl,_,hu,.dct (fun z=>z) (.inl hH) hl⟩
        | pm a ps rows =>
          rw [e2] at h
          obtain ⟨_,hu,hH,hl,i1⟩:=h
          exact ⟨rfl,_,hu,.lst (fun z=>z) (.inl hH) ‹52› (zi2 i1)⟩
        | pd a kvs =>
          rw [e2] at h
          obtain ⟨_,hu,hH,hl⟩:=h
          exact ⟨rfl,_,hu,.dct (fun z=>z) (.inl hH) hl⟩
def zn3 (g:DG) (t:Rho→Option Bool) (e:DE) (ρ0:Rho):List D→Option (List D)
  | []=>some []
  | d::ds=>match g d ρ0 with
    | none=>none
    | some ρ1=>match t ρ1 with
      | none=>none
      | some false=>zn3 g t e ρ0 ds
      | some true=>match e ρ1 with
        | none=>none
        | some y=>match zn3 g t e ρ0 ds with
          | none=>none
          | some ys=>some (y::ys)
noncomputable def zdk (k:Nat) (cs:List Nat) (it:Rho→Option (List D)) (g:DG) (t:Rho→Option Bool) (e:DE):Rho→Option (List D):=fun ρ=>match it ρ with
  | some ds=>zn3 g t e (r0 k cs ρ) ds
  | none=>none
theorem zc1 {m:Bool} {k:Nat} {cs:List Nat} {wi:TI} {g:TG} {tt:TT} {te:TE} {it:Rho→Option (List D)} {gd:DG} {td:Rho→Option Bool} {ed:DE} (hw:zvr K m wi it) (hg:SemG K m g gd) (ht:SemT K tt td) (he:SemI K te ed) :
    SemF K (zsa wi g tt te (s0 k cs)) (zdk k cs it gd td ed):=fun {B Z os ρ σ H Q ds} f q kk=>by
  unfold zdk at q
  split at q
  · rename_i xs e0
    refine hw f e0 fun J H1 s1 W Dl hD=>?_
    have f1:=f.grow s1
    have sD:∀ {H2:Hp} {ys:List V},Same H1 H2→Same H1 (upd H2 Dl (.lst ys)):=fun {H2 ys} s a o e=>by
      rw [upd_ne (zbo e hD)]; exact s _ _ e
    refine ⟨fun i m ys H2=>m=xs.length-i∧i≤xs.length∧Same H1 H2∧H2 Dl=some (.lst ys)∧ys.length≤i∧∃ done rest,IsL K H2 ‹64› ys done∧zn3 gd td ed (r0 k cs ρ) (xs.drop i)=some rest∧done++rest=ds,
      ⟨_,rfl,Nat.zero_le _,sD ‹101›,zbb,Nat.le_refl _,[],ds,.nil,q,rfl⟩,?_⟩
    rintro i mm ys H2 ⟨rfl,hi,s2,eD,hly,done,rest,il,q2,ed2⟩
    have kp12:Kp (tot Z os) H1 ‹64› H2:=fun a u e z=>⟨s2 _ _ e,fun w=>w.elim (zbo e hD) z⟩
    by_cases hlt:i<xs.length
    · have ex:xs[i]?=some xs[i]:=List.getElem?_eq_getElem hlt
      have ef:=zpw f1 hD s2 eD k cs
      obtain ⟨go,yl⟩:=W.go i xs[i] H2 _ kp12 s2 (fun a z=>ef.zin a z) ex
      refine .inr ⟨go,fun x H3 hy=>?_⟩
      obtain ⟨s3,er⟩:=yl x H3 hy
      have eD3:=s3 _ _ eD
      have s13:=s2.trans s3
      have ef3:=zpw f1 hD s13 eD3 k cs
      rw [List.drop_eq_getElem_cons hlt] at q2
      unfold zn3 at q2
      have er':ER K m H1 H3 (tot ‹64› fun _=>[]) x xs[i]:=by
        cases m with
        | false=>exact er
        | true=>exact Is.kp ‹81› er
      split at q2
      · cases q2
      · rename_i ρ1 e1
        refine hg ef3 er' e1 fun os1 σ1 fr1 k1=>?_
        split at q2
        · cases q2
        · rename_i e2
          refine ht fr1 e2 fun H4 s4=>iteF ⟨_,by omega,rfl,hlt,s13.trans s4,s4 _ _ eD3,by omega,done,rest,(il.same s3).same s4,q2,ed2⟩
        · rename_i e2
          refine ht fr1 e2 fun H4 s4=>iteT ?_
          split at q2
          · cases q2
          · rename_i y e3
            split at q2
            · cases q2
            · rename_i rs e4
              cases q2
              refine he (fr1.grow s4) e3 fun v H5 s5 i5=>?_
              have s35:=s4.trans s5
              have eD5:=s35 _ _ eD3
              have hl:=W.len
              have kp5:∀ (zs:List V),Kp ‹64› H5 ‹64› (upd H5 Dl (.lst zs)):=fun zs a u e z=>⟨by rw [upd_ne (fun w=>z (.inl w))]; exact e,z⟩
              have i5':Is K H5 ‹64› v y:=i5.kp (Kp.less fun a z=>.inl z)
              refine ⟨eD5,by omega,_,by omega,rfl,hlt,sD (s13.trans s35),zbb,by rw [List.length_append,List.length_singleton]; omega,done++[y],rs,?_,e4,by rw [List.append_assoc]; exact ed2⟩
              exact ((il.same s3).same s35 |>.kp (kp5 _)).append (.one (i5'.kp (kp5 _)))
    · have e:i=xs.length:=by omega
      subst e
      rw [List.drop_length] at q2
      cases q2
      rw [List.append_nil] at ed2
      subst ed2
      have hl:=W.len
      exact .inl ⟨W.stop _ H2 _ kp12 s2 rfl,eD,kk Dl ys H2 ‹36› (Same.free s1 hD) eD (by omega) il⟩
  · cases q
inductive Fm where
  | v | l | m | x (E:XK) (C:Addr)
def RtOk (fr:Fm) (K:PySem.W.Frag) (B H:Hp) (Z:Addr→Prop) (v:V) (d:D):Prop:=match fr with
  | .v=>Is K H Z v d
  | .l=>(∃ p vs ds,v=.ref p∧d=.lst ds∧B p=none∧H p=some (.lst vs)∧vs.length≤sizeLine∧IsL K H (fun a=>a=p∨Z a) vs ds)∨∃ p kvs,v=.ref p∧d=.dct kvs∧B p=none∧H p=some (.dK (kvs.map dkv))∧kvs.length≤sizeLine
  | .m=>∃ p ps rows,v=.ref p∧d=.lst ‹137›∧B p=none∧(∀ a∈ps,B a=none)∧(p::ps).Nodup∧H p=some (.lst (ps.map V.ref))∧ps.length≤sizeLine∧Paired (fun q ds=>∃ vs,H q=some (.lst vs)∧vs.length≤sizeLine∧IsL K H (fun a=>(a=p∨a∈ps)∨Z a) vs ds) ps rows
  | .x _ _=>Is K H Z v d
theorem zo4 {H:Hp} {Z T:Addr→Prop} (hT:∀ a,Z a→T a):∀ {ps:List Addr} {rows:List (List D)},(∀ p∈ps,¬ Z p)→Paired (fun p ds=>∃ vs,H p=some (.lst vs)∧vs.length≤sizeLine∧IsL K H T vs ds) ps rows→IsL K H Z (ps.map V.ref) ‹137›
  | _,_,_,.nil=>.nil
  | _,_,hz,.cons ⟨vs,h,hl,r⟩ t=>.cons (.lst (hz _ List.mem_cons_self) (.inl h) hl (r.kp (Kp.less hT))) (zo4 hT (fun p hp=>hz p (List.mem_cons_of_mem _ hp)) t)
theorem RtOk.is {fr:Fm} {B H:Hp} {Z:Addr→Prop} {v:V} {d:D} (hz:∀ a,Z a→∃ o,B a=some o) (h:RtOk fr K B H Z v d):Is K H Z v d:=by
  have nz:∀ {p:Addr},B p=none→¬ Z p:=fun {p} e z=>by obtain ⟨o,q⟩:=hz p z; rw [e] at q; cases q
  cases fr with
  | v=>exact h
  | x E C=>exact h
  | l =>
    rcases h with ⟨p,vs,ds,rfl,rfl,hb,hh,hl,r⟩ | ⟨p,kvs,rfl,rfl,hb,hh,hl⟩
    · exact .lst (nz hb) (.inl hh) hl (r.kp (Kp.less fun a z=>.inr z))
    · exact .dct (nz hb) (.inl hh) hl
  | m =>
    obtain ⟨p,ps,rows,rfl,rfl,hb,hbs,_,hh,hl,r⟩:=h
    exact .lst (nz hb) (.inl hh) ‹52› (zo4 (fun a z=>.inr z) (fun q hq=>nz (hbs q hq)) r)
def spD (fr:Fm) (K:PySem.W.Frag) (ms:List Bool) (F:List D→Option D):Sp:=fun vs H Q _=>∃ (Z:Addr→Prop) (ds:List D) (d:D),ZT Z H∧Args K H Z ms vs ds∧F ds=some d∧∀ v H',Same H H'→RtOk fr K H H' Z v d→Q v H'
noncomputable def za4 (F:List D→Option D) (es:Rho→Option (List D)):DE:=fun ρ=>match es ρ with
  | some ds=>F ds
  | none=>none
theorem zav {fr:Fm} {ms:List Bool} {F:List D→Option D} {t:TA} {es:Rho→Option (List D)} {E:XK} (ha:SemA K ms t es):SemI K (zp4 (spD fr K ms F) [] E t) (za4 F es):=fun {B Z os ρ σ H Q d} f q k=>by
  unfold za4 at q
  split at q
  · rename_i ds e
    refine ha f e fun vs H1 s1 a=>?_
    show spD fr K ms F (vs++[]) H1 Q E
    rw [List.append_nil]
    exact ⟨tot Z os,ds,d,‹72›.zt,a,q,fun v H2 s2 i=>k v H2 ‹36› (i.is ‹72›.tin)⟩
  · cases q
end
end VL
namespace VL
open PySem L2
open Classical
noncomputable section
variable [Tabs] {K:PySem.W.Frag}
inductive Res where
  | nx (ρ:Rho) | rt (d:D) | bk (ρ:Rho) | ct (ρ:Rho) | no
variable {fr:Fm}
abbrev DS:=Rho→Res
def Post (fr:Fm) (K:PySem.W.Frag) (B:Hp) (Z:Addr→Prop) (os:Own) (H:Hp) (E:Ends):Res→Prop
  | .nx ρ'=>∀ os' σ' H',Fr K B Z os' ρ' σ' H'→Kp (tot Z os) H (tot Z os') H'→E.nx σ' H'
  | .bk ρ'=>∀ os' σ' H',Fr K B Z os' ρ' σ' H'→Kp (tot Z os) H (tot Z os') H'→E.bk σ' H'
  | .ct ρ'=>∀ os' σ' H',Fr K B Z os' ρ' σ' H'→Kp (tot Z os) H (tot Z os') H'→E.ct σ' H'
  | .rt d=>match fr with
    | .x E0 C=>∀ H',Same B H'→E0 (.ref C) none H'
    | fr=>∀ v H',Same B H'→RtOk fr K B H' Z v d→E.rt v H'
  | .no=>False
def SemS (fr:Fm) (K:PySem.W.Frag) (t:TS) (s:DS):Prop:=∀ {B:Hp} {Z:Addr→Prop} {os:Own} {ρ:Rho} {σ:L2.St} {H:Hp} {E:Ends},Fr K B Z os ρ σ H→Post fr K B Z os H E (s ρ)→t E σ H
theorem Post.kp {B:Hp} {Z:Addr→Prop} {os os1:Own} {H H1:Hp} {E:Ends} {r:Res} (k:Kp (tot Z os) H (tot Z os1) H1) (p:Post fr K B Z os H E r):Post fr K B Z os1 H1 E r:=by
  cases r with
  | nx ρ'=>exact fun os' σ' H' f k'=>p os' σ' H' f (k.trans k')
  | bk ρ'=>exact fun os' σ' H' f k'=>p os' σ' H' f (k.trans k')
  | ct ρ'=>exact fun os' σ' H' f k'=>p os' σ' H' f (k.trans k')
  | rt d=>exact p
  | no=>exact p
@[irreducible] noncomputable def zbq:DS:=fun ρ=>.nx ρ
theorem zay:SemS fr K z2n zbq:=fun f p=>by unfold zbq at p; exact p _ _ _ f Kp.refl
@[irreducible] noncomputable def sNo:DS:=fun _=>.no
theorem zbz:SemS fr K zwe sNo:=fun f p=>by unfold sNo at p; exact p.elim
@[irreducible] noncomputable def sSeq (s u:DS):DS:=fun ρ=>match s ρ with
  | .nx ρ'=>u ρ'
  | r=>r
theorem zam {t u:TS} {s w:DS} (h1:SemS fr K t s) (h2:SemS fr K u w):SemS fr K (tSeq t u) (sSeq s w):=fun {B Z os ρ σ H E} f p=>by
  refine h1 f ?_
  unfold sSeq at p
  cases e:s ρ with
  | nx ρ'=>rw [e] at p; exact fun os' σ' H' f' k=>h2 f' (p.kp k)
  | bk ρ'=>rw [e] at p; exact p
  | ct ρ'=>rw [e] at p; exact p
  | rt d=>rw [e] at p; exact p
  | no=>rw [e] at p; exact p
@[irreducible] noncomputable def sRet (a:DE):DS:=fun ρ=>match a ρ with
  | some d=>.rt d
  | none=>.no
theorem za6 {ta:TE} {a:DE} (h:SemI K ta a):SemS .v K (tRet ta) (sRet a):=fun {B Z os ρ σ H E} f p=>by
  unfold sRet at p
  cases e:a ρ with
  | none=>rw [e] at p; exact p.elim
  | some d=>rw [e] at p; exact h f e fun v H1 s1 i1=>p v H1 (f.keep.trans s1) (i1.kp (Kp.less fun a z=>.inl z))
@[irreducible] noncomputable def sIf (c:Rho→Option Bool) (s u:DS):DS:=fun ρ=>match c ρ with
  | some true=>s ρ
  | some false=>u ρ
  | none=>.no
theorem zb0 {tc:TT} {t u:TS} {c:Rho→Option Bool} {s w:DS} (hc:SemT K tc c) (h1:SemS fr K t s) (h2:SemS fr K u w):SemS fr K (tIfS tc t u) (sIf c s w):=fun {B Z os ρ σ H E} f p=>by
  unfold sIf at p
  split at p
  · rename_i e
    exact hc f e fun H1 s1=>iteT (h1 ‹72› (p.kp (Kp.same s1)))
  · rename_i e
    exact hc f e fun H1 s1=>iteF (h2 ‹72› (p.kp (Kp.same s1)))
  · exact p.elim
@[irreducible] noncomputable def sSet (i:Nat) (a:DE):DS:=fun ρ=>match a ρ with
  | some d=>.nx (ρ.set i (.pu d))
  | none=>.no
theorem zbl {i:Nat} {ta:TE} {a:DE} (h:SemI K ta a):SemS fr K (tAsg ta (zmz i)) (sSet i a):=fun {B Z os ρ σ H E} f p=>by
  unfold sSet at p
  cases e:a ρ with
  | none=>rw [e] at p; exact p.elim
  | some d =>
    rw [e] at p
    refine h f e fun v H1 s1 i1=>?_
    obtain ⟨os',f',k⟩:=‹72›.putm (m:=true) i i1
    exact p os' _ _ f' ((Kp.same s1).trans k)
theorem zwp {i:Nat} {ta:TE} {a:DE} (h:SemI K ta a):SemS fr K (zzl ta i) (sSet i a):=zbl (i:=i) h
@[irreducible] noncomputable def zqs (i:Nat) (a:Rho→Option (List D)):DS:=fun ρ=>match a ρ with
  | some ds=>if i < ρ.length then .nx (ρ.set i (.ol ds)) else .no
  | none=>.no
theorem zom {i:Nat} {ta:TE} {a:Rho→Option (List D)} (h:SemF K ta a):SemS fr K (tAsg ta (zmz i)) (zqs i a):=fun {B Z os ρ σ H E} f p=>by
  unfold zqs at p
  split at p
  · rename_i ds e
    by_cases hi:i < ρ.length
    · rw [if_pos hi] at p
      refine h f e fun x vs H1 s1 hx hx1 hl i1=>?_
      have st:=f.step (H':=H1) (i:=i) hi (o:=[x]) (s:=.ol ds) (v:=some (.ref x)) (fun a u e _=>s1 _ _ e) (fun a ha=>let ⟨xs,e⟩:=(f.sl i).dom ha; ⟨_,s1 _ _ e⟩) (by simp) (fun a ha=>by rw [List.mem_singleton.mp ha]; exact .inr hx)
        ⟨x,vs,rfl,rfl,hx1,hl,i1.kp (Kp.less fun a z=>?_)⟩
      · exact p _ _ _ st.1 st.2
      · rcases z with z | ⟨j,z⟩
        · exact .inr (.inl z)
        · by_cases hj:j=i
          · subst hj; rw [zbs] at z; exact .inl (List.mem_singleton.mp z)
          · rw [putO_ne hj] at z; exact .inr (.inr ⟨j,z⟩)
    · rw [if_neg hi] at p; exact p.elim
  · exact p.elim
def frz (i:Nat) (ρ:Rho):Rho:=match ρ.getD i .un with
  | .ol ds=>ρ.set i (.pu (.lst ds))
  | .om rows=>ρ.set i (.pu (.lst ‹137›))
  | .od kvs=>ρ.set i (.pu (.dct kvs))
  | _=>ρ
theorem set_self {σ:L2.St} {i:Nat} {v:V} (h:(σ[i]?).join=some v):σ.set i (some v)=σ:=by
  have e:=join_some h
  refine List.ext_getElem? fun j=>?_
  by_cases hj:i=j
  · subst hj
    rw [List.getElem?_set_self (List.getElem?_eq_some_iff.mp e).1,e]
  · rw [List.getElem?_set_ne hj]
theorem zkn {ρ:Rho} {i:Nat} {s:Sl} (h:ρ.getD i .un=s) (hs:s≠.un):i < ρ.length:=by
  by_cases hi:i < ρ.length
  · exact hi
  · rw [List.getD_eq_getElem?_getD,List.getElem?_eq_none (by omega)] at h
    exact absurd h.symm hs
theorem Fr.freeze {B H:Hp} {Z:Addr→Prop} {os:Own} {ρ:Rho} {σ:L2.St} (f:Fr K B Z os ρ σ H) (i:Nat):∃ os',Fr K B Z os' (frz i ρ) σ H∧Kp (tot Z os) H (tot Z os') H:=by
  unfold frz
  have less:∀ a,tot Z (putO os i []) a→tot Z os a:=by
    rintro a (z | ⟨j,z⟩)
    · exact .inl z
    · by_cases hj:j=i
      · subst hj; rw [zbs] at z; cases z
      · rw [putO_ne hj] at z; exact .inr ⟨j,z⟩
  cases e:ρ.getD i .un with
  | ol ds =>
    have s:=f.sl i
    rw [e] at s
    obtain ⟨a,vs,eo,hu,hH,hl,i1⟩:=s
    have hi:=zkn e ‹131›
    have st:=f.step (H':=H) (i:=i) hi (o:=[]) (s:=.pu (.lst ds)) (v:=some (.ref a)) (fun a u e _=>e) (fun a ha=>let ⟨xs,e⟩:=(f.sl i).dom ha; ⟨_,e⟩) List.nodup_nil (fun a h=>by cases h)
      ⟨rfl,_,rfl,.lst (fun z=>?_) (.inl hH) hl (i1.kp (Kp.less less))⟩
    · rw [set_self hu] at st
      exact ⟨_,st⟩
    · rcases z with z | ⟨j,z⟩
      · exact (f.new i a ‹103›).2 z
      · by_cases hj:j=i
        · subst hj; rw [zbs] at z; cases z
        · rw [putO_ne hj] at z; exact hj (f.dj j i a z ‹103›)
  | od kvs =>
    have s:=f.sl i
    rw [e] at s
    obtain ⟨a,eo,hu,hH,hl⟩:=s
    have hi:=zkn e ‹131›
    have st:=f.step (H':=H) (i:=i) hi (o:=[]) (s:=.pu (.dct kvs)) (v:=some (.ref a)) (fun a u e _=>e) (fun a ha=>let ⟨xs,e⟩:=(f.sl i).dom ha; ⟨_,e⟩) List.nodup_nil (fun a h=>by cases h)
      ⟨rfl,_,rfl,.dct (fun z=>?_) (.inl hH) hl⟩
    · rw [set_self hu] at st
      exact ⟨_,st⟩
    · rcases z with z | ⟨j,z⟩
      · exact (f.new i a ‹103›).2 z
      · by_cases hj:j=i
        · subst hj; rw [zbs] at z; cases z
        · rw [putO_ne hj] at z; exact hj (f.dj j i a z ‹103›)
  | om rows =>
    have s:=f.sl i
    rw [e] at s
    obtain ⟨a,ps,eo,hu,hH,hl,i1⟩:=s
    have hi:=zkn e ‹131›
    have out:∀ b,b∈os i→¬ tot Z (putO os i []) b:=by
      rintro b hb (z | ⟨j,z⟩)
      · exact (f.new i b hb).2 z
      · by_cases hj:j=i
        · subst hj; rw [zbs] at z; cases z
        · rw [putO_ne hj] at z; exact hj (f.dj j i b z hb)
    have rowsI:∀ {ps:List Addr} {rows:List (List D)},(∀ p∈ps,p∈os i)→Paired (fun p ds=>∃ vs,H p=some (.lst vs)∧vs.length≤sizeLine∧IsL K H (tot Z os) vs ds) ps rows→IsL K H (tot Z (putO os i [])) (ps.map V.ref) ‹137›:=by
      intro ps rows hp r
      induction r with
      | nil=>exact .nil
      | cons h _ ih =>
        obtain ⟨vs,q,hv,j⟩:=h
        exact .cons (.lst (out _ (hp _ List.mem_cons_self)) (.inl q) hv (j.kp (Kp.less less))) (ih fun p h=>hp p (List.mem_cons_of_mem _ h))
    have st:=f.step (H':=H) (i:=i) hi (o:=[]) (s:=.pu (.lst ‹137›)) (v:=some (.ref a)) (fun a u e _=>e) (fun a ha=>let ⟨xs,e⟩:=(f.sl i).dom ha; ⟨_,e⟩) List.nodup_nil (fun a h=>by cases h)
      ⟨rfl,_,rfl,.lst (out a (by rw [eo]; exact List.mem_cons_self)) (.inl hH) ‹52› (rowsI (fun p hp=>by rw [eo]; exact List.mem_cons_of_mem _ hp) i1)⟩
    rw [set_self hu] at st
    exact ⟨_,st⟩
  | un=>exact ⟨os,f,Kp.refl⟩
  | pu d=>exact ⟨os,f,Kp.refl⟩
  | bo d=>exact ⟨os,f,Kp.refl⟩
  | pm _ _ _=>exact ⟨os,f,Kp.refl⟩
  | pd _ _=>exact ⟨os,f,Kp.refl⟩
@[irreducible] noncomputable def sFrz (i:Nat) (s:DS):DS:=fun ρ=>s (frz i ρ)
theorem z1a {t:TS} {s:DS} (i:Nat) (h:SemS fr K t s):SemS fr K t (sFrz i s):=fun {B Z os ρ σ H E} f p=>by
  obtain ⟨os',f',k⟩:=f.freeze i
  unfold sFrz at p
  exact h f' (Post.kp k p)
theorem Fr.mutO {B H:Hp} {Z:Addr→Prop} {os:Own} {ρ:Rho} {σ:L2.St} (f:Fr K B Z os ρ σ H) {i:Nat} {a:Addr} {ds ds':List D} {vs':List V} (e:ρ.getD i .un=.ol ds) (hu:(σ[i]?).join=some (.ref a)) (hl:vs'.length≤sizeLine) (h:IsL K H (tot Z os) vs' ds') :
    ∃ os',Fr K B Z os' (ρ.set i (.ol ds')) σ (upd H a (.lst vs'))∧Kp (tot Z os) H (tot Z os') (upd H a (.lst vs')):=by
  have s:=f.sl i
  rw [e] at s
  obtain ⟨b,vs,eo,hu',hH,_,_⟩:=s
  rw [hu] at hu'
  cases hu'
  have hi:=zkn e ‹131›
  have ha:a∈os i:=by rw [eo]; exact List.mem_singleton.mpr rfl
  have st:=f.step (H':=upd H a (.lst vs')) (i:=i) hi (o:=[a]) (s:=.ol ds') (v:=some (.ref a)) (fun b u e n=>by rw [upd_ne (fun z=>n (by rw [z]; exact ha))]; exact e) (fun b hb=>?_) (by simp) (fun b hb=>by rw [List.mem_singleton.mp hb]; exact .inl ha)
    ⟨a,vs',rfl,rfl,zbb,hl,h.kp fun b u e z=>⟨?_,fun q=>z ?_⟩⟩
  · rw [set_self hu] at st
    exact ⟨_,st⟩
  · rw [eo] at hb; rw [List.mem_singleton.mp hb]; exact ⟨_,zbb⟩
  · rw [upd_ne (fun w=>z (.inr ⟨i,by rw [w]; exact ha⟩))]; exact e
  · rcases q with q | ⟨j,q⟩
    · exact .inl q
    · by_cases hj:j=i
      · subst hj; rw [zbs] at q; exact .inr ⟨j,by rw [List.mem_singleton.mp q]; exact ha⟩
      · rw [putO_ne hj] at q; exact .inr ⟨j,q⟩
theorem z5d {B H:Hp} {Z:Addr→Prop} {os:Own} {ρ:Rho} {σ:L2.St} (f:Fr K B Z os ρ σ H) {i:Nat} {ds:List D} (e:ρ.getD i .un=.ol ds):∃ a vs,(σ[i]?).join=some (.ref a)∧H a=some (.lst vs)∧vs.length≤sizeLine∧IsL K H (tot Z os) vs ds:=by
  have s:=f.sl i
  rw [e] at s
  obtain ⟨b,vs,eo,hu',hH,hl,r⟩:=s
  exact ⟨b,vs,hu',hH,hl,r⟩
@[irreducible] noncomputable def sApp (i:Nat) (a:DE):DS:=fun ρ=>match ρ.getD i .un with
  | .ol ds=>(match a ρ with
    | some d=>if ds.length<sizeLine then .nx (ρ.set i (.ol (ds++[d]))) else .no
    | none=>.no)
  | _=>.no
theorem z4h {i:Nat} {ta:TE} {a:DE} (h:SemI K ta a):SemS fr K (zzm (tBM K "list" zxl (tVar i) (zcy ta tNil))) (sApp i a):=fun {B Z os ρ σ H E} f p=>by
  unfold sApp at p
  split at p
  · rename_i ds e
    split at p
    · rename_i d e2
      by_cases hz:ds.length<sizeLine
      · rw [if_pos hz] at p
        obtain ⟨x,vs,hu,hH,hl,r⟩:=z5d f e
        refine ⟨_,join_some hu,.inl ⟨rfl,_,SqL.of hH⟩,h f e2 fun v H1 s1 i1=>?_⟩
        have f1:=f.grow s1
        have r1:=r.same s1
        have hlen:vs.length<sizeLine:=by rw [r.length]; exact hz
        obtain ⟨os',f',k⟩:=f1.mutO (vs':=vs++[v]) (ds':=ds++[d]) e hu (by rw [List.length_append,List.length_singleton]; omega) (r1.append (.one i1))
        exact ⟨x,vs,v,rfl,rfl,s1 _ _ hH,hlen,p os' _ _ f' ((Kp.same s1).trans k)⟩
      · rw [if_neg hz] at p; exact p.elim
    · exact p.elim
  · exact p.elim
@[irreducible] noncomputable def sPut (i:Nat) (b a:DE):DS:=fun ρ=>match ρ.getD i .un with
  | .ol ds=>(match a ρ with
    | some d=>(match b ρ with
      | some (.int n)=>(match ixN ds.length n with
        | some j=>.nx (ρ.set i (.ol (ds.set j d)))
        | none=>.no)
      | _=>.no)
    | none=>.no)
  | _=>.no
theorem zwt {i:Nat} {ta tb:TE} {a b:DE} (ha:SemI K ta a) (hb:SemB K tb b):SemS fr K (tAsg ta (gSub (tVar i) tb z25)) (sPut i b a):=fun {B Z os ρ σ H E} f p=>by
  unfold sPut at p
  split at p
  · rename_i ds e
    split at p
    · rename_i d e2
      split at p
      · rename_i n e3
        split at p
        · rename_i j e4
          obtain ⟨x,vs,hu,hH,hl,r⟩:=z5d f e
          refine ha f e2 fun v H1 s1 i1=>⟨_,join_some hu,hb ‹72› e3 fun w H2 s2 i2=>?_⟩
          have s12:=s1.trans s2
          have f1:=f.grow s12
          have r1:=r.same s12
          obtain ⟨os',f',k⟩:=f1.mutO (vs':=vs.set j v) (ds':=ds.set j d) e hu (by rw [List.length_set]; exact hl) (r1.set (i1.same s2) j)
          exact ⟨x,vs,n,j,rfl,i2.isInt,s12 _ _ hH,by rw [r.length]; exact e4,p os' _ _ f' ((Kp.same s12).trans k)⟩
        · exact p.elim
      · exact p.elim
    · exact p.elim
  · exact p.elim
@[irreducible] noncomputable def sAug (g:Int→Int→Int) (i:Nat) (a:DE):DS:=fun ρ=>match dVar i ρ with
  | some (.int x)=>(match a ρ with
    | some (.int y)=>.nx (ρ.set i (.pu (.int (g x y))))
    | _=>.no)
  | _=>.no
theorem z1b {i:Nat} {g:Int→Int→Int} {ta:TE} {a:DE} (ha:SemB K ta a):SemS fr K (tAug i ta (ipI g)) (sAug g i a):=fun {B Z os ρ σ H E} f p=>by
  unfold sAug at p
  split at p
  · rename_i x e
    split at p
    · rename_i y e2
      have q:=zac i f (Q:=fun v H'=>v=.int x∧H'=H) e
      obtain ⟨u,hu,ix⟩:∃ u,σ[i]?=some (some u)∧u=.int x:=by
        have s:=f.sl i
        unfold dVar at e
        cases e0:ρ.getD i .un with
        | un=>rw [e0] at e; cases e
        | pu d=>rw [e0] at e s; cases e; obtain ⟨_,u,hu,i1⟩:=s; exact ⟨u,join_some hu,i1.isInt⟩
        | bo d=>rw [e0] at e s; cases e; obtain ⟨_,u,hu,i1⟩:=s; exact ⟨u,join_some hu,i1.isInt⟩
        | ol d=>rw [e0] at e; cases e
        | om d=>rw [e0] at e; cases e
        | od d=>rw [e0] at e; cases e
        | pm _ _ d=>rw [e0] at e; cases e
        | pd _ d=>rw [e0] at e; cases e
      refine ⟨u,hu,ha f e2 fun v H1 s1 i1=>⟨x,y,ix,i1.isInt,?_⟩⟩
      obtain ⟨os',f',k⟩:=‹72›.putm (m:=true) i (v:=.int (g x y)) (d:=.int (g x y)) (.int _)
      exact p os' _ _ f' ((Kp.same s1).trans k)
    · exact p.elim
  · exact p.elim
def forD (g:DG) (b:DS):List D→DS
  | [],ρ=>.nx ρ
  | d::ds,ρ=>match g d ρ with
    | none=>.no
    | some ρ1=>match b ρ1 with
      | .nx ρ2=>forD g b ds ρ2
      | .ct ρ2=>forD g b ds ρ2
      | .bk ρ2=>.nx ρ2
      | .rt d=>.rt d
      | .no=>.no
@[irreducible] noncomputable def sFor (it:Rho→Option (List D)) (g:DG) (b:DS):DS:=fun ρ=>match it ρ with
  | some ds=>forD g b ds ρ
  | none=>.no
theorem zfs {m:Bool} {wi:TI} {t:TG} {tb:TS} {it:Rho→Option (List D)} {g:DG} {b:DS} (hw:SemW K m wi it) (hg:SemG K m t g) (hb:SemS fr K tb b):SemS fr K (tFor wi t tb) (sFor it g b):=fun {B Z os ρ σ H E} f p=>by
  unfold sFor at p
  split at p
  · rename_i ds e0
    refine hw f e0 fun J H1 s1 W=>?_
    refine ⟨fun i m σ' H'=>∃ os' ρ',m=ds.length-i∧i≤ds.length∧Fr K B Z os' ρ' σ' H'∧Kp (tot Z os) H1 (tot Z os') H'∧Post fr K B Z os H1 E (forD g b (ds.drop i) ρ'),⟨_,os,ρ,rfl,Nat.zero_le _,f.grow s1,Kp.refl,Post.kp (Kp.same s1) p⟩,?_⟩
    rintro i mm σ2 H2 ⟨os2,ρ2,rfl,hi,f2,k2,p2⟩
    by_cases hlt:i<ds.length
    · have ex:ds[i]?=some ds[i]:=List.getElem?_eq_getElem hlt
      obtain ⟨go,yl⟩:=W.go i ds[i] H2 _ k2 f2.keep f2.tin ex
      rw [List.drop_eq_getElem_cons hlt] at p2
      refine .inr ⟨go,fun σ' H'=>∃ os' ρ',Fr K B Z os' ρ' σ' H'∧Kp (tot Z os) H1 (tot Z os') H'∧Post fr K B Z os H1 E (forD g b (ds.drop (i+1)) ρ'),fun σ' H' ⟨os',ρ',h1,h2,h3⟩=>⟨_,by omega,os',ρ',rfl,hlt,h1,h2,h3⟩,fun x H3 hy=>?_⟩
      obtain ⟨s3,er⟩:=yl x H3 hy
      unfold forD at p2
      split at p2
      · exact p2.elim
      · rename_i ρ1 e1
        have er':ER K m B H3 (tot Z os2) x ds[i]:=er
        refine hg (f2.grow s3) er' e1 fun os3 σ3 f3 k3=>hb f3 ?_
        have k13:Kp (tot Z os) H1 (tot Z os3) H3:=(k2.trans (Kp.same s3)).trans k3
        split at p2
        · rename_i ρ4 e4
          rw [e4]
          exact fun os' σ' H' f' k'=>⟨os',_,f',k13.trans k',p2⟩
        · rename_i ρ4 e4
          rw [e4]
          exact fun os' σ' H' f' k'=>⟨os',_,f',k13.trans k',p2⟩
        · rename_i ρ4 e4
          rw [e4]
          exact fun os' σ' H' f' k'=>p2 os' σ' H' f' (k13.trans k')
        · rename_i d e4
          rw [e4]
          exact p2
        · exact p2.elim
    · have e:i=ds.length:=by omega
      subst e
      rw [List.drop_length] at p2
      exact .inl ⟨W.stop _ H2 _ k2 f2.keep rfl,p2 os2 σ2 H2 f2 k2⟩
  · exact p.elim
def whN (c:Rho→Option Bool) (b:DS):Nat→DS
  | 0,ρ=>match c ρ with
    | some false=>.nx ρ
    | _=>.no
  | n+1,ρ=>match c ρ with
    | some false=>.nx ρ
    | some true=>(match b ρ with
      | .nx ρ'=>whN c b n ρ'
      | .ct ρ'=>whN c b n ρ'
      | .bk ρ'=>.nx ρ'
      | .rt d=>.rt d
      | .no=>.no)
    | none=>.no
@[irreducible] noncomputable def zmm (c:Rho→Option Bool) (b:DS):DS:=fun ρ=>if h:∃ n,whN c b n ρ≠.no then whN c b h.choose ρ else .no
theorem zn7 {c:Rho→Option Bool} {b:DS}:∀ {n:Nat} {ρ:Rho},whN c b n ρ≠.no→whN c b (n+1) ρ=whN c b n ρ
  | 0,ρ,h=>by
    unfold whN at h ⊢
    split at h
    · rename_i e; rw [e]
    · exact absurd rfl h
  | n+1,ρ,h=>by
    have e1:whN c b (n+1+1) ρ=(match c ρ with | some false=>.nx ρ | some true=>(match b ρ with | .nx ρ'=>whN c b (n+1) ρ' | .ct ρ'=>whN c b (n+1) ρ' | .bk ρ'=>.nx ρ' | .rt d=>.rt d | .no=>.no) | none=>.no):=rfl
    have e2:whN c b (n+1) ρ=(match c ρ with | some false=>.nx ρ | some true=>(match b ρ with | .nx ρ'=>whN c b n ρ' | .ct ρ'=>whN c b n ρ' | .bk ρ'=>.nx ρ' | .rt d=>.rt d | .no=>.no) | none=>.no):=rfl
    rw [e1]
    rw [e2] at h ⊢
    cases e3:c ρ with
    | none=>rfl
    | some x =>
      rw [e3] at h
      cases x with
      | false=>rfl
      | true =>
        cases e4:b ρ with
        | nx ρ'=>rw [e4] at h; exact zn7 h
        | ct ρ'=>rw [e4] at h; exact zn7 h
        | _=>rfl
theorem zv5 {c:Rho→Option Bool} {b:DS} {n k:Nat} {ρ:Rho} (h:whN c b n ρ≠.no):whN c b (n+k) ρ=whN c b n ρ:=by
  induction k with
  | zero=>rfl
  | succ k ih=>rw [← Nat.add_assoc,zn7 (by rw [ih]; exact h),ih]
theorem zw9 {c:Rho→Option Bool} {b:DS} {n:Nat} {ρ:Rho} {r:Res} (h:whN c b n ρ=r) (hr:r≠.no):zmm c b ρ=r:=by
  have ex:∃ n,whN c b n ρ≠.no:=⟨n,by rw [h]; exact hr⟩
  unfold zmm
  rw [dif_pos ex]
  have q:=ex.choose_spec
  generalize ex.choose=m at q
  have e1:=zv5 (k:=n) q
  have e2:=zv5 (k:=m) (show whN c b n ρ≠.no by rw [h]; exact hr)
  rw [Nat.add_comm] at e2
  rw [← e1,e2,h]
theorem ztk {tc:TT} {tb:TS} {c:Rho→Option Bool} {b:DS} (hc:SemT K tc c) (hb:SemS fr K tb b):SemS fr K (z06 tc tb) (zmm c b):=fun {B Z os ρ σ H E} f p=>by
  unfold zmm at p
  by_cases ex:∃ n,whN c b n ρ≠.no
  · rw [dif_pos ex] at p
    generalize ex.choose=n0 at p
    refine ⟨fun m σ' H'=>∃ os' ρ',Fr K B Z os' ρ' σ' H'∧Kp (tot Z os) H (tot Z os') H'∧Post fr K B Z os H E (whN c b m ρ'),⟨n0,os,ρ,f,Kp.refl,p⟩,?_⟩
    rintro m σ2 H2 ⟨os2,ρ2,f2,k2,p2⟩
    cases m with
    | zero =>
      unfold whN at p2
      split at p2
      · rename_i e
        exact hc f2 e fun H3 s3=>iteF (p2 os2 σ2 H3 (f2.grow s3) (k2.trans (Kp.same s3)))
      · exact p2.elim
    | succ m =>
      have p2:Post fr K B Z os H E (match c ρ2 with | some false=>.nx ρ2 | some true=>(match b ρ2 with | .nx ρ'=>whN c b m ρ' | .ct ρ'=>whN c b m ρ' | .bk ρ'=>.nx ρ' | .rt d=>.rt d | .no=>.no) | none=>.no):=p2
      cases e:c ρ2 with
      | none=>rw [e] at p2; exact p2.elim
      | some x =>
        rw [e] at p2
        cases x with
        | false=>exact hc f2 e fun H3 s3=>iteF (p2 os2 σ2 H3 (f2.grow s3) (k2.trans (Kp.same s3)))
        | true =>
          refine hc f2 e fun H3 s3=>iteT ⟨fun σ' H'=>∃ os' ρ',Fr K B Z os' ρ' σ' H'∧Kp (tot Z os) H (tot Z os') H'∧Post fr K B Z os H E (whN c b m ρ'),fun σ' H' h=>⟨m,Nat.lt_succ_self _,h⟩,hb (f2.grow s3) ?_⟩
          have k3:=k2.trans (Kp.same s3)
          cases e4:b ρ2 with
          | nx ρ'=>rw [e4] at p2; exact fun os' σ' H' f' k'=>⟨os',_,f',k3.trans k',p2⟩
          | ct ρ'=>rw [e4] at p2; exact fun os' σ' H' f' k'=>⟨os',_,f',k3.trans k',p2⟩
          | bk ρ'=>rw [e4] at p2; exact fun os' σ' H' f' k'=>p2 os' σ' H' f' (k3.trans k')
          | rt d=>rw [e4] at p2; exact p2
          | no=>rw [e4] at p2; exact p2.elim
  · rw [dif_neg ex] at p; exact p.elim
def stD (n:Nat) (ms:List Bool) (ds:List D):Rho:=List.zipWith slm ms ds++List.replicate (n-ds.length) .un
@[irreducible] def runD (n:Nat) (ms:List Bool) (b:DS) (ds:List D):Option D:=match b (stD n ms ds) with
  | .rt d=>some d
  | .nx _=>some .non
  | _=>none
@[irreducible] def runF (n:Nat) (ms:List Bool) (b:DS) (ds:List D):Option D:=match b (stD n ms ds) with
  | .rt d=>some d
  | _=>none
theorem zsc {H:Hp} {Z:Addr→Prop} {N:List Str} {ms:List Bool} {vs:List V} {ds:List D} (hz:ZT Z H) (h:Args K H Z ms vs ds):Fr K H Z (fun _=>[]) (stD N.length ms ds) (L2.start N vs) H where
  keep:=Same.refl _
  zin:=hz.1
  tab:=hz.2
  len:=by
    unfold stD L2.start
    have:=h.len
    simp only [List.length_append,List.length_map,List.length_replicate,List.length_zipWith]
    omega
  nd:=fun _=>List.nodup_nil
  dj:=fun _ _ _ h=>by cases h
  new:=fun _ _ h=>by cases h
  sl:=fun j=>by
    have hl:=h.len
    have key:∀ {ms:List Bool} {vs:List V} {ds:List D} (j:Nat),Args K H Z ms vs ds→j<ms.length→SlOk K H H (tot Z fun _=>[]) [] (((List.zipWith slm ms ds)[j]?).getD .un) ((vs.map some)[j]?.join):=by
      intro ms vs ds j h
      induction h generalizing j with
      | nil=>intro hj; simp at hj
      | own i _ ih =>
        intro hj
        cases j with
        | zero=>exact ⟨rfl,_,rfl,i.kp ‹81›⟩
        | succ j=>exact ih j ‹68›
      | any i _ ih =>
        intro hj
        cases j with
        | zero=>exact ⟨rfl,_,rfl,i⟩
        | succ j=>exact ih j ‹68›
    unfold stD L2.start
    rw [List.getD_eq_getElem?_getD]
    by_cases hj:j<ms.length
    · rw [List.getElem?_append_left (by rw [List.length_zipWith]; omega),List.getElem?_append_left (by rw [List.length_map]; omega)]
      exact key j h hj
    · rw [List.getElem?_append_right (by rw [List.length_zipWith]; omega),List.getElem?_replicate]
      split <;> exact rfl
theorem Fun.okD {P:Program} {w:World} {mg:Str→Option Value} {base:Heap} {x qual:Str} {st:Stmt} {f:Addr} {fd:FuncData} {N ps:List Str} {k:Nat} (F:Fun K x qual st f fd) (S:FnScope N ps (zao st)) (ms:List Bool) (hms:ms.length=ps.length) (b:DS)
    (hbody:∀ (cdv:Value) (A:Around) (outer:List Env) (s:Shared) (H:Hp) (E:XK),Room k ‹94› →
      ∃ t,PSs ‹115›.nox (zfp st) t∧SemS .v K t b):FnOk P w K mg base CX0 (k+1) f fd ps (spD .v K ms (runD N.length ms b)):=by
  refine F.ok S (fun vs H Q E h=>?_) (fun cdv A outer s H vs Q E hr h=>?_)
  · obtain ⟨Z,ds,d,hz,a,_⟩:=h
    rw [a.len.1,hms]
  · obtain ⟨Z,ds,d,hz,a,e,k⟩:=h
    obtain ⟨t,h1,h2⟩:=hbody cdv A outer s H E hr
    refine ⟨t,h1,h2 (zsc hz a) ?_⟩
    unfold runD at e
    split at e
    · rename_i d' e1
      cases e
      rw [e1]
      exact fun v H' s' i=>k v H' s' i
    · rename_i ρ e1
      cases e
      rw [e1]
      exact fun os' σ' H' f' _=>k _ H' f'.keep .non
    · cases e
theorem Fun.okF {P:Program} {w:World} {mg:Str→Option Value} {base:Heap} {x qual:Str} {st:Stmt} {f:Addr} {fd:FuncData} {N ps:List Str} {k:Nat} (F:Fun K x qual st f fd) (S:FnScope N ps (zao st)) (ms:List Bool) (hms:ms.length=ps.length) (b:DS)
    (hbody:∀ (cdv:Value) (A:Around) (outer:List Env) (s:Shared) (H:Hp) (E:XK),Room k ‹94› →
      ∃ t,PSs ‹115›.nox (zfp st) t∧SemS fr K t b) (hfr:∀ E C,fr≠.x E C:=by intro _ _ h; cases h):FnOk P w K mg base CX0 (k+1) f fd ps (spD fr K ms (runF N.length ms b)):=by
  refine F.ok S (fun vs H Q E h=>?_) (fun cdv A outer s H vs Q E hr h=>?_)
  · obtain ⟨Z,ds,d,hz,a,_⟩:=h
    rw [a.len.1,hms]
  · obtain ⟨Z,ds,d,hz,a,e,k⟩:=h
    obtain ⟨t,h1,h2⟩:=hbody cdv A outer s H E hr
    refine ⟨t,h1,h2 (zsc hz a) ?_⟩
    unfold runF at e
    split at e
    · rename_i d' e1
      cases e
      rw [e1]
      cases fr with
      | v=>exact fun v H' s' i=>k v H' s' i
      | l=>exact fun v H' s' i=>k v H' s' i
      | m=>exact fun v H' s' i=>k v H' s' i
      | x E0 C=>exact absurd rfl (hfr E0 C)
    · cases e
end
end VL
namespace L2
open PySem PySem.Spec PyProof.Rows
open VL (s0)
section
variable {X:Cx}
inductive SubL (X:Cx):List (Str×Addr)→Prop
  | nil:SubL X []
  | cons {z:Str} {c:Addr} {r:List (Str×Addr)}:X.env.cells.lookup z=some c→SubL X r→SubL X ((z,c)::r)
theorem SubL.sub {cl:List (Str×Addr)} (h:SubL X cl):∀ x c,cl.lookup x=some c→X.env.cells.lookup x=some c:=by
  induction h with
  | nil=>intro x c e; cases e
  | @cons z c r h _ ih =>
    intro x c' e
    rw [List.lookup_cons] at e
    cases q:x==z with
    | true=>rw [q] at e; cases e; rw [eq_of_beq q]; exact h
    | false=>rw [q] at e; exact ih x c' e
inductive CapL (X:Cx) (scope:Scope) (cl:List (Str×Addr)):List Nat→List Str→Prop
  | nil:CapL X scope cl [] []
  | cons {i:Nat} {z:Str} {c:Addr} {is:List Nat} {zs:List Str}:X.N[i]?=some z→‹42›→cl.lookup z=some c →
      (‹30›.names.lookup z=some .cell∨‹30›.names.lookup z=some .free)→CapL X scope cl is zs→CapL X scope cl (i::is) (z::zs)
theorem CapL.get {scope:Scope} {cl:List (Str×Addr)} {is:List Nat} {zs:List Str} (h:CapL X scope cl is zs):∀ (j:Nat) (z:Str),zs[j]?=some z→∃ i c,is[j]?=some i∧X.N[i]?=some z∧‹42›∧cl.lookup z=some c ∧
      (‹30›.names.lookup z=some .cell∨‹30›.names.lookup z=some .free):=by
  induction h with
  | nil=>intro j z e; simp at e
  | cons h1 h2 h3 h4 _ ih =>
    intro j z e
    cases j with
    | zero=>cases e; exact ⟨_,_,rfl,h1,h2,h3,h4⟩
    | succ j=>exact ih j z (by simpa using e)
theorem CapL.len {scope:Scope} {cl:List (Str×Addr)} {is:List Nat} {zs:List Str} (h:CapL X scope cl is zs):is.length=zs.length:=by
  induction h with
  | nil=>rfl
  | cons _ _ _ _ _ ih=>simp [ih]
theorem Frees.many {scope:Scope} {cl:List (Str×Addr)} {is:List Nat} {ts zs:List Str} {k:Nat} {σ:St} (hk:ts.length=k) (hs:SubL X cl) (hc:CapL X scope cl is zs)
    (ha:(‹30›.names.all fun y=>!(y.2==.cell || y.2==.free) || zs.contains y.1)=true):Frees X (ts++zs) scope cl σ (s0 k is σ) where
  sub:=hs.sub
  vals:=fun j x v e1 e2=>by
    unfold s0 at e2
    by_cases hj:j<k
    · rw [List.getElem?_append_left ‹68›,List.getElem?_replicate,if_pos hj] at e2; cases e2
    · rw [List.getElem?_append_right ‹68›,List.length_replicate,List.getElem?_map] at e2
      rw [List.getElem?_append_right (by omega),hk] at e1
      obtain ⟨i,c,f1,f2,f3,f4,f5⟩:=hc.get _ _ e1
      rw [f1] at e2
      have e3:(σ[i]?).join=some v:=Option.some.inj e2
      refine ⟨i,c,f2,VL.join_some e3,?_,?_,f4,f5⟩
      · rcases f3 with q | q
        · exact .inr (.inl q)
        · exact .inr (.inr q)
      · intro w
        have w:X.env.scope.names.lookup x=some .local:=w
        rcases f3 with q | q <;> rw [q] at w <;> cases w
  has:=fun x h=>by
    have key:∀ kd,‹30›.names.lookup x=some kd→(kd==NameKind.cell || kd==NameKind.free)=true→x∈zs:=fun kd e q=>by
      have m:=List.all_eq_true.mp ha _ (PySem.mem_of_lookup e)
      rw [q] at m
      have:zs.contains x=true:=by simpa using m
      exact List.contains_iff_mem.mp this
    have mem:x∈zs:=by
      rcases h with h | h
      · exact key _ h rfl
      · exact key _ h rfl
    obtain ⟨j,hj⟩:=List.getElem?_of_mem mem
    obtain ⟨i,c,_,_,_,f4,_⟩:=hc.get j x hj
    exact ⟨c,f4⟩
  len:=by unfold s0; rw [List.length_append,List.length_append,List.length_replicate,List.length_map,hk,hc.len]
def Low (k:Nat) (g:TG):Prop:=∀ x σ H (Q:St→Hp→Prop),g x σ H Q→∃ σ2 H2,Q σ2 H2∧σ2.length=σ.length∧(∀ j,k≤j→σ2[j]?=σ[j]?)∧∀ Q':St→Hp→Prop,Q' σ2 H2→g x σ H Q'
def Lows (k:Nat) (g:TGs):Prop:=∀ x σ H (Q:St→Hp→Prop),g x σ H Q→∃ σ2 H2,Q σ2 H2∧σ2.length=σ.length∧(∀ j,k≤j→σ2[j]?=σ[j]?)∧∀ Q':St→Hp→Prop,Q' σ2 H2→g x σ H Q'
theorem zbi {k i:Nat} (h:i<k):Low k (zmz i):=fun x σ H Q q=>⟨_,_,q,List.length_set,fun j hj=>by rw [List.getElem?_set_ne (by omega)],fun _ z=>z⟩
theorem z0a {k:Nat}:Lows k gNil:=fun x σ H Q q=>⟨_,_,q.2,rfl,fun _ _=>rfl,fun _ z=>⟨q.1,z⟩⟩
theorem zrh {t:TG} {u:TGs} {k:Nat} (h1:Low k t) (h2:Lows k u):Lows k (z3q t u):=fun x σ H Q q=>by
  obtain ⟨v,r,e,q⟩:=q
  obtain ⟨σ1,H1,q1,l1,k1,g1⟩:=h1 _ _ _ _ q
  obtain ⟨σ2,H2,q2,l2,k2,g2⟩:=h2 _ _ _ _ q1
  exact ⟨σ2,H2,q2,l2.trans l1,fun j hj=>(k2 j hj).trans (k1 j hj),fun Q' z=>⟨v,r,e,g1 _ (g2 Q' z)⟩⟩
theorem z3g {K:PySem.W.Frag} {u:TGs} {k n:Nat} (h:Lows k u):Low k (gSeq K n u):=fun x σ H Q q=>by
  rcases q with ⟨a,xs,e,hs,hl,q⟩ | ⟨a,xs,e,hs,hl,q⟩
  · obtain ⟨σ1,H1,q1,l1,k1,g1⟩:=h _ _ _ _ q
    exact ⟨σ1,H1,q1,l1,k1,fun Q' z=>.inl ⟨a,xs,e,hs,hl,g1 Q' z⟩⟩
  · obtain ⟨σ1,H1,q1,l1,k1,g1⟩:=h _ _ _ _ q
    exact ⟨σ1,H1,q1,l1,k1,fun Q' z=>.inr ⟨a,xs,e,hs,hl,g1 Q' z⟩⟩
theorem Low.keep {k:Nat} {g:TG} {cs:List Nat} (h:Low k g) (σ:St):zzf g (s0 k cs σ):=fun x H Q q=>by
  obtain ⟨σ1,H1,q1,l1,k1,g1⟩:=h _ _ _ _ q
  refine g1 _ ⟨q1,l1,fun j v e=>?_⟩
  by_cases hj:j<k
  · unfold s0 at e
    rw [List.getElem?_append_left ‹68›,List.getElem?_replicate,if_pos hj] at e; cases e
  · rw [k1 j (by omega)]; exact e
variable {tg elt iter c:Expr} {scope:Scope} {cl:List (Str×Addr)} {ts zs:List Str} {is:List Nat} {k:Nat} {g:TG} {tt:TT} {te:TE} {wi:TI} {pos:Pos}
theorem zb4 {K:PySem.W.Frag} {l:Expr} {tl:TE} (h:X.K=K) (hl:PE X l tl):PI X tg l (zyr K tl):=by subst h; exact z28 hl
end
end L2
namespace VL
open PySem L2
def z1c [Tabs] (K:PySem.W.Frag):Sp:=fun vs H Q _=>∃ (a:Addr) (ns:List Int),vs=[.ref a]∧SqL K H a (ns.map V.int)∧ns.length≤63∧(∀ m∈ns,Builtin.Int.intBits m≤1048576)∧TabIn H∧∀ H',Q (.bl true) H'
theorem zwv [Tabs] {K:PySem.W.Frag} {F:List D→Option D} (ht:∀ ns:List Int,ns.length≤63→(∀ m∈ns,Builtin.Int.intBits m≤1048576)→F [.scr ns]=some (.bl true)) {vs:List V} {H:Hp} {Q:VK} {E:XK} (h:z1c K vs H Q E):spD .v K [false] F vs H Q E:=by
  obtain ⟨a,ns,rfl,hS,hl,hb,htab,k⟩:=h
  have hz:ns.length≤sizeLine:=Nat.le_trans hl ‹3›
  refine ⟨No,[.scr ns],.bl true,⟨fun a z=>z.elim,htab⟩,.any ?_ .nil,ht ns hl hb,fun v H' s i=>by cases i; exact k H'⟩
  rcases hS with hS | hS
  · exact .scr (fun z=>z) hS hz
  · exact .scrK hS hz
end VL
namespace L2
open PySem PySem.Spec PyProof.Rows
section
variable {X:Cx} {K:PySem.W.Frag}
theorem z13:bootBuiltins "any" = some (.builtin "any"):=by decide +kernel
theorem z6b:bootBuiltins "zip" = some (.type "zip"):=by decide +kernel
theorem z6c:bootBuiltins "str" = some (.type "str"):=by decide +kernel
def truV:V→Option Bool
  | .bl b=>some b
  | .int i=>some (i != 0)
  | _=>none
theorem zyf {s:Shared} {h':Heap} {o:Obj} (hk:∀ b x,b∉[s.heap.objs.size]→(s.heap.push o).get? b=some x→h'.get? b=some x):∀ b x,s.heap.get? b=some x→h'.get? b=some x :=
  fun b x e=>hk b x (fun hm=>by rw [List.mem_singleton.mp hm] at e; exact Nat.lt_irrefl _ (Heap.lt_size e)) ‹147›
theorem rall (bs:List Bool):((List.range bs.length).all fun i=>(bs[i]?).getD true)=bs.all id:=by
  rw [Bool.eq_iff_iff,List.all_eq_true,List.all_eq_true]
  constructor
  · intro h x hx
    obtain ⟨i,hi⟩:=List.getElem?_of_mem hx
    have:=h i (List.mem_range.mpr (List.getElem?_eq_some_iff.mp hi).1)
    rw [hi] at this
    exact this
  · intro h i hi
    have:=List.mem_range.mp hi
    rw [List.getElem?_eq_getElem this]
    exact h _ (List.getElem_mem this)
theorem rany (bs:List Bool):((List.range bs.length).any fun i=>(bs[i]?).getD false)=bs.any id:=by
  rw [Bool.eq_iff_iff,List.any_eq_true,List.any_eq_true]
  constructor
  · rintro ⟨i,hi,h⟩
    have:=List.mem_range.mp hi
    rw [List.getElem?_eq_getElem this] at h
    exact ⟨_,List.getElem_mem this,h⟩
  · rintro ⟨x,hx,h⟩
    obtain ⟨i,hi⟩:=List.getElem?_of_mem hx
    exact ⟨i,List.mem_range.mpr (List.getElem?_eq_some_iff.mp hi).1,by rw [hi]; exact h⟩
def rAA (K:PySem.W.Frag) (f:List Bool→Bool):List V→Hp→VK→Prop:=fun xs H Q=>∃ (p:Addr) (vs:List V) (bs:List Bool),xs=[.ref p]∧SqL K H p vs∧vs.map truV=bs.map some∧Q (.bl (f bs)) H
theorem tru_at {vs:List V} {us:List Value} {bs:List Bool} (r:Vals vs us) (h:vs.map truV=bs.map some) {i:Nat} {u:Value} (e:us[i]?=some u):∃ b,bs[i]?=some b∧∀ {prog:Program} {w:World} {A:Around} {s':Shared} {Q:Bool→Shared→Prop} {E:Value→Shared→Prop},Q b s'→wpAny ‹58› A (truthy u) Q E s':=by
  have hi:i<vs.length:=by rw [r.length]; exact (List.getElem?_eq_some_iff.mp e).1
  have e1:vs[i]?=some vs[i]:=List.getElem?_eq_getElem hi
  obtain ⟨u',e2,ru⟩:=r.get e1
  rw [e] at e2
  cases e2
  have e3:(bs.map some)[i]?=some (truV vs[i]):=by rw [← h,List.getElem?_map,e1]; rfl
  rw [List.getElem?_map] at e3
  cases e4:bs[i]? with
  | none=>rw [e4] at e3; cases e3
  | some b =>
    rw [e4] at e3
    have e5:some b=truV vs[i]:=Option.some.inj e3
    refine ⟨b,rfl,fun {prog w A s' Q E} q=>?_⟩
    cases e6:vs[i] with
    | bl c =>
      rw [e6] at e5 ru
      cases e5
      cases ru
      exact wpAny_truthy_bool q
    | int n =>
      rw [e6] at e5 ru
      have e5:some b=some (n != 0):=e5
      cases e5
      obtain ⟨t,rfl⟩:=ru
      exact PySem.P.truthy_int q
    | _=>rw [e6] at e5; cases e5
theorem zes (hc:X.calm=true) (hK:X.K=K):zhu X (.builtin "all") (rAA K fun bs=>bs.all id):=by
  subst hK
  intro pins s σ H xs us Q I r h
  obtain ⟨p,vs,bs,rfl,hq,hb,q⟩:=h
  obtain ⟨u,rfl,rx⟩:=vals1 r
  cases rx
  obtain ⟨its,r',pl,hz⟩:=I.list hq
  have hl:=pl.isList
  have hlt:p<s.heap.objs.size:=by obtain ⟨_,e,_⟩:=hl; exact Heap.lt_size e
  refine call_all_walk (wpAny_pyIter_list hl ?_)
  refine ⟨s.heap.objs.size,[s.heap.objs.size,p],[s.heap.objs.size],its.toArray.size,_,_,fun i=>(bs[i]?).getD true,rfl,Walks.list (A:=X.A.in1) (I.ok.hd hc) _ p (Nat.ne_of_lt hlt) its.toArray,
    ⟨⟨_,Heap.get?_push_size _ rfl,rfl,rfl⟩,hl.push _⟩,fun i v s' Q' E' hP hQ=>?_,fun h' tk hk=>?_⟩
  · obtain ⟨b,e,k⟩:=tru_at r' hb (i:=i) (u:=v) (by simpa using hP)
    simp only [e,Option.getD_some] at hQ
    exact k hQ
  · have e:((List.range its.toArray.size).all fun i=>(bs[i]?).getD true)=bs.all id:=by
      have:its.length=bs.length:=by
        have:=congrArg List.length hb
        rw [List.length_map,List.length_map] at this
        rw [← r'.length]; exact this
      rw [List.size_toArray,this]; exact rall bs
    rw [e]
    exact ⟨.bl _,H,I.kept (t':=tk) (zyf hk),rfl,q⟩
theorem zrz (hc:X.calm=true) (hK:X.K=K):zhu X (.builtin "any") (rAA K fun bs=>bs.any id):=by
  subst hK
  intro pins s σ H xs us Q I r h
  obtain ⟨p,vs,bs,rfl,hq,hb,q⟩:=h
  obtain ⟨u,rfl,rx⟩:=vals1 r
  cases rx
  obtain ⟨its,r',pl,hz⟩:=I.list hq
  have hl:=pl.isList
  have hlt:p<s.heap.objs.size:=by obtain ⟨_,e,_⟩:=hl; exact Heap.lt_size e
  refine call_any_walk (wpAny_pyIter_list hl ?_)
  refine ⟨s.heap.objs.size,[s.heap.objs.size,p],[s.heap.objs.size],its.toArray.size,_,_,fun i=>(bs[i]?).getD false,rfl,Walks.list (A:=X.A.in1) (I.ok.hd hc) _ p (Nat.ne_of_lt hlt) its.toArray,
    ⟨⟨_,Heap.get?_push_size _ rfl,rfl,rfl⟩,hl.push _⟩,fun i v s' Q' E' hP hQ=>?_,fun h' tk hk=>?_⟩
  · obtain ⟨b,e,k⟩:=tru_at r' hb (i:=i) (u:=v) (by simpa using hP)
    simp only [e,Option.getD_some] at hQ
    exact k hQ
  · have e:((List.range its.toArray.size).any fun i=>(bs[i]?).getD false)=bs.any id:=by
      have:its.length=bs.length:=by
        have:=congrArg List.length hb
        rw [List.length_map,List.length_map] at this
        rw [← r'.length]; exact this
      rw [List.size_toArray,this]; exact rany bs
    rw [e]
    exact ⟨.bl _,H,I.kept (t':=tk) (zyf hk),rfl,q⟩
end
end L2
namespace VL
open PySem L2
open Classical
noncomputable section
section
variable [Tabs] {K:PySem.W.Frag} {ta tb tc:TE} {a b c:DE}
def trus:List D→Option (List Bool)
  | []=>some []
  | .bl b::r=>(trus r).map (b::·)
  | .int i::r=>(trus r).map ((i != 0)::·)
  | _=>none
theorem zr9 {H:Hp} {Z:Addr→Prop}:∀ {vs:List V} {ds:List D} {bs:List Bool},IsL K H Z vs ds→trus ds=some bs→vs.map truV=bs.map some
  | _,[],_,.nil,e=>by cases e; rfl
  | _,d::r,bs,.cons h t,e=>by
    unfold trus at e
    split at e
    · rename_i q; cases q
    · rename_i b r' q
      cases q
      cases q:trus r with
      | none=>rw [q] at e; cases e
      | some cs=>rw [q] at e; cases e; rw [List.map_cons,List.map_cons,zr9 t q,h.v_bl]; rfl
    · rename_i b r' q
      cases q
      cases q:trus r with
      | none=>rw [q] at e; cases e
      | some cs=>rw [q] at e; cases e; rw [List.map_cons,List.map_cons,zr9 t q,h.v_int]; rfl
    · cases e
theorem zn9:∀ (bs:List Bool),trus (bs.map D.bl)=some bs
  | []=>rfl
  | b::r=>by show (trus (r.map D.bl)).map (b::·)=_; rw [zn9 r]; rfl
def aaD (g:List Bool→Bool):D→Option D
  | .lst ds=>(trus ds).map fun bs=>.bl (g bs)
  | _=>none
theorem z4p {g:List Bool→Bool} (ha:SemB K ta a):SemI K (tCB (rAA K g) (zcy ta tNil)) (dF1 (aaD g) a):=by
  refine zw4 (fun {H v d e Q} h q=>?_) ha
  cases h with
  | lst hz h hl r =>
    rename_i p vs ds
    have q:(trus ds).map (fun bs=>D.bl (g bs))=some e:=q
    cases q1:trus ds with
    | none=>rw [q1] at q; cases q
    | some bs =>
      rw [q1] at q
      cases q
      exact ⟨rfl,fun k=>⟨p,vs,bs,rfl,.inl h,zr9 r q1,k⟩⟩
  | _=>cases q
def allD:D→Option D:=aaD fun bs=>bs.all id
def anyD:D→Option D:=aaD fun bs=>bs.any id
theorem zmi (ha:SemB K ta a):SemI K (tCB (rAA K fun bs=>bs.all id) (zcy ta tNil)) (dF1 allD a):=z4p ha
theorem z1h (ha:SemB K ta a):SemI K (tCB (rAA K fun bs=>bs.any id) (zcy ta tNil)) (dF1 anyD a):=z4p ha
end
end
end VL
namespace VL
open PySem L2
open Classical
noncomputable section
instance (priority:=low) noTabs:Tabs:=⟨[]⟩
structure Wk where
  nx:Rho→Prop
  rt:D→Prop
  bk:Rho→Prop:=fun _=>False
  ct:Rho→Prop:=fun _=>False
@[irreducible] def Wp (s:DS) (ρ:Rho) (W:Wk):Prop:=match s ρ with
  | .nx ρ'=>W.nx ρ'
  | .rt d=>W.rt d
  | .bk ρ'=>W.bk ρ'
  | .ct ρ'=>W.ct ρ'
  | .no=>False
section
variable {s u b:DS} {ρ:Rho} {W:Wk} {i:Nat} {a e k:DE} {d:D} {c:Rho→Option Bool} {es:Rho→Option (List D)} {ds:List D} {g:DG}
theorem wp_seq (h:Wp s ρ { W with nx:=fun ρ'=>Wp u ρ' W }):Wp (sSeq s u) ρ W:=by
  unfold Wp sSeq at *
  cases e:s ρ <;> rw [e] at h <;> exact h
theorem zat (h:W.nx ρ):Wp zbq ρ W:=by unfold Wp zbq; exact h
theorem wp_ret (h:a ρ=some d) (k:W.rt d):Wp (sRet a) ρ W:=by unfold Wp sRet; rw [h]; exact k
theorem zn6 {x:Bool} (h:c ρ=some x) (ht:x=true→Wp s ρ W) (hf:x=false→Wp u ρ W):Wp (sIf c s u) ρ W:=by
  unfold Wp sIf at *
  rw [h]
  cases x
  · exact hf rfl
  · exact ht rfl
theorem zde {p:Prop} {_:Decidable p} (h:c ρ=some (decide p)) (ht:p→Wp s ρ W) (hf:¬ p→Wp u ρ W):Wp (sIf c s u) ρ W:=by
  refine zn6 h (fun q=>ht (of_decide_eq_true q)) fun q=>hf (of_decide_eq_false q)
theorem wp_ifT (h:c ρ=some true) (ht:Wp s ρ W):Wp (sIf c s u) ρ W:=zn6 h (fun _=>ht) fun q=>by cases q
theorem zcd (h:c ρ=some false) (ht:Wp u ρ W):Wp (sIf c s u) ρ W:=zn6 h (fun q=>by cases q) fun _=>ht
theorem zba (h:a ρ=some d) (k:W.nx (ρ.set i (.pu d))):Wp (sSet i a) ρ W:=by unfold Wp sSet; rw [h]; exact k
theorem zkh (h:es ρ=some ds) (hi:i < ρ.length) (k:W.nx (ρ.set i (.ol ds))):Wp (zqs i es) ρ W:=by unfold Wp zqs; rw [h]; simp only [if_pos hi]; exact k
theorem wp_frz (h:Wp s (frz i ρ) W):Wp (sFrz i s) ρ W:=by unfold Wp sFrz at *; exact h
theorem z35 (h0:ρ.getD i .un=.ol ds) (h:a ρ=some d) (hl:ds.length<sizeLine) (k:W.nx (ρ.set i (.ol (ds++[d])))):Wp (sApp i a) ρ W:=by unfold Wp sApp; rw [h0]; simp only [h,if_pos hl]; exact k
theorem wp_put {n:Int} {j:Nat} (h0:ρ.getD i .un=.ol ds) (h1:a ρ=some d) (h:e ρ=some (.int n)) (hj:ixN ds.length n=some j) (k:W.nx (ρ.set i (.ol (ds.set j d)))):Wp (sPut i e a) ρ W:=by
  unfold Wp sPut; rw [h0]; simp only [h,h1,hj]; exact k
theorem wp_aug {f:Int→Int→Int} {x y:Int} (h0:dVar i ρ=some (.int x)) (h:a ρ=some (.int y)) (k:W.nx (ρ.set i (.pu (.int (f x y))))):Wp (sAug f i a) ρ W:=by
  unfold Wp sAug; rw [h0]; simp only [h]; exact k
theorem wp_for {it:Rho→Option (List D)} (h:it ρ=some ds) (I:Nat→Rho→Prop) (h0:I 0 ρ)
    (hs:∀ (j:Nat) (d:D) (ρ:Rho),ds[j]?=some d→I j ρ→∃ ρ1,g d ρ=some ρ1∧Wp b ρ1 { W with nx:=I (j+1),ct:=I (j+1),bk:=W.nx })
    (he:∀ ρ,I ds.length ρ→W.nx ρ):Wp (sFor it g b) ρ W:=by
  have key:∀ (n j:Nat) (ρ:Rho),n=ds.length-j→j≤ds.length→I j ρ→Wp (fun ρ=>forD g b (ds.drop j) ρ) ρ W:=by
    intro n
    induction n with
    | zero =>
      intro j ρ hn hj hI
      have e:j=ds.length:=by omega
      subst e
      unfold Wp
      simp only [List.drop_length,forD]
      exact he ρ hI
    | succ n ih =>
      intro j ρ hn hj hI
      have hlt:j<ds.length:=by omega
      obtain ⟨ρ1,e1,w1⟩:=hs j ds[j] ρ (List.getElem?_eq_getElem hlt) hI
      unfold Wp
      dsimp only
      rw [List.drop_eq_getElem_cons hlt]
      unfold forD
      rw [e1]
      unfold Wp at w1
      dsimp only
      cases e2:b ρ1 with
      | nx ρ2=>rw [e2] at w1; have q:=ih (j+1) ρ2 (by omega) hlt w1; unfold Wp at q; exact q
      | ct ρ2=>rw [e2] at w1; have q:=ih (j+1) ρ2 (by omega) hlt w1; unfold Wp at q; exact q
      | bk ρ2=>rw [e2] at w1; exact w1
      | rt d=>rw [e2] at w1; exact w1
      | no=>rw [e2] at w1; exact w1
  have:=key _ 0 ρ rfl (Nat.zero_le _) h0
  unfold Wp at this
  unfold Wp sFor
  rw [h]
  exact this
theorem ztg (I:Nat→Rho→Prop) (n:Nat) (h0:I n ρ) (hs:∀ n ρ,I n ρ→∃ x,c ρ=some x∧(x=true→Wp b ρ { W with nx:=fun ρ'=>∃ m,m<n∧I m ρ',ct:=fun ρ'=>∃ m,m<n∧I m ρ',bk:=W.nx })∧(x=false→W.nx ρ)):Wp (zmm c b) ρ W:=by
  have key:∀ n ρ,I n ρ→∃ r,whN c b (n+1) ρ=r∧r≠.no∧(match r with | .nx ρ'=>W.nx ρ' | .rt d=>W.rt d | .bk ρ'=>W.bk ρ' | .ct ρ'=>W.ct ρ' | .no=>False):=by
    intro n
    induction n using Nat.strongRecOn with
    | _ n ih =>
      intro ρ hI
      obtain ⟨x,ec,ht,hf⟩:=hs n ρ hI
      have un:whN c b (n+1) ρ=(match c ρ with | some false=>Res.nx ρ | some true=>(match b ρ with | .nx ρ'=>whN c b n ρ' | .ct ρ'=>whN c b n ρ' | .bk ρ'=>.nx ρ' | .rt d=>.rt d | .no=>.no) | none=>.no):=rfl
      rw [un,ec]
      cases x with
      | false=>exact ⟨.nx ρ,rfl,(fun z=>by cases z),hf rfl⟩
      | true =>
        have w:=ht rfl
        unfold Wp at w
        have step:∀ ρ',(∃ m,m<n∧I m ρ')→∃ r,whN c b n ρ'=r∧r≠.no∧(match r with | .nx ρ'=>W.nx ρ' | .rt d=>W.rt d | .bk ρ'=>W.bk ρ' | .ct ρ'=>W.ct ρ' | .no=>False):=by
          rintro ρ' ⟨m,hm,hI'⟩
          obtain ⟨r,e,hr,q⟩:=ih m hm ρ' hI'
          refine ⟨r,?_,hr,q⟩
          obtain ⟨k,rfl⟩:∃ k,n=m+1+k:=⟨n-m-1,by omega⟩
          rw [zv5 (by rw [e]; exact hr),e]
        cases eb:b ρ with
        | nx ρ'=>rw [eb] at w; exact step ρ' w
        | ct ρ'=>rw [eb] at w; exact step ρ' w
        | bk ρ'=>rw [eb] at w; exact ⟨.nx ρ',rfl,(fun z=>by cases z),w⟩
        | rt d=>rw [eb] at w; exact ⟨.rt d,rfl,(fun z=>by cases z),w⟩
        | no=>rw [eb] at w; exact w.elim
  obtain ⟨r,e,hr,q⟩:=key n ρ h0
  unfold Wp
  rw [zw9 e hr]
  exact q
end
section
variable {ρ:Rho} {a b c:DE} {i j k:Int} {d e:D} {es:Rho→Option (List D)} {ds:List D}
theorem zgt (ha:a ρ=some (.int i)) (hb:b ρ=some (.int j)):dAdd a b ρ=some (.int (i+j)):=by unfold dAdd dII; rw [ha,hb]
theorem zir (ha:a ρ=some (.int i)) (hb:b ρ=some (.int j)) (h:IntMulOk i j):dMul a b ρ=some (.int (i*j)):=by unfold dMul dII; rw [ha,hb]; exact zt9 h
theorem zm2 (ha:a ρ=some (.int i)) (hb:b ρ=some (.int j)) (h:0<j∧j.natAbs.log2<9000):zj3 a b ρ=some (.int (i / j)):=by unfold zj3 dII; rw [ha,hb]; exact zt9 (C:=fun _ j=>0<j∧j.natAbs.log2<9000) h
theorem ev_mod (ha:a ρ=some (.int i)) (hb:b ρ=some (.int j)) (h:0<j):dMod a b ρ=some (.int (i % j)):=by unfold dMod dII; rw [ha,hb]; exact zt9 (C:=fun _ j=>0<j) h
theorem z52 (ha:a ρ=some (.int i)) (hb:b ρ=some (.int j)) (h:CPow i j):dPow a b ρ=some (.int (i ^ j.toNat)):=by unfold dPow dII; rw [ha,hb]; exact zt9 h
theorem ev_lt (ha:a ρ=some (.int i)) (hb:b ρ=some (.int j)):dLt a b ρ=some (.bl (decide (i<j))):=by unfold dLt dII; rw [ha,hb]
theorem ev_le (ha:a ρ=some (.int i)) (hb:b ρ=some (.int j)):dLe a b ρ=some (.bl (decide (i≤j))):=by unfold dLe dII; rw [ha,hb]
theorem ev_gt (ha:a ρ=some (.int i)) (hb:b ρ=some (.int j)):dGt a b ρ=some (.bl (decide (j<i))):=by unfold dGt dII; rw [ha,hb]
theorem z0q (ha:a ρ=some (.int i)) (hb:b ρ=some (.int j)):dGe a b ρ=some (.bl (decide (j≤i))):=by unfold dGe dII; rw [ha,hb]
theorem zjz (ha:a ρ=some (.int i)):dNeg a ρ=some (.int (-i)):=by unfold dNeg; rw [ha]
theorem ev_chain {p q:Int→Int→Bool} (ha:a ρ=some (.int i)) (hb:b ρ=some (.int j)) (hc:c ρ=some (.int k)):zd9 p q a b c ρ=some (.bl (p i j&&q j k)):=by
  unfold zd9; rw [ha,hb]; dsimp only
  cases e:p i j
  · rfl
  · rw [if_pos rfl,hc]; rfl
theorem zs0 (ha:a ρ=some (.int i)) (hb:b ρ=some (.int j)):z0t a b ρ=some (.int (max i j)):=by
  have e:(if j > i then j else i)=max i j:=by split <;> omega
  unfold z0t dII; rw [ha,hb,← e]
theorem zi8 (ha:a ρ=some (.int i)) (hb:b ρ=some (.int j)):zvp a b ρ=some (.int (min i j)):=by
  have e:(if j<i then j else i)=min i j:=by split <;> omega
  unfold zvp dII; rw [ha,hb,← e]
theorem ev_t {x:Bool} (ha:a ρ=some (.bl x)):dT a ρ=some x:=by unfold dT; rw [ha]
theorem zb6 {x:Bool} (ha:a ρ=some d) (h:truD d=some x):dTru a ρ=some x:=by unfold dTru; rw [ha]; exact h
theorem ev_not {p:Rho→Option Bool} {x:Bool} (ha:p ρ=some x):dNot p ρ=some (!x):=by unfold dNot; rw [ha]
theorem ev_and {p q:Rho→Option Bool} {x y:Bool} (ha:p ρ=some x) (hb:x=true→q ρ=some y):dAnd p q ρ=some (x&&y):=by
  unfold dAnd; rw [ha]; cases x
  · rfl
  · rw [hb rfl]; rfl
theorem ev_or {p q:Rho→Option Bool} {x y:Bool} (ha:p ρ=some x) (hb:x=false→q ρ=some y):dOr p q ρ=some (x || y):=by
  unfold dOr; rw [ha]; cases x
  · rw [hb rfl]; rfl
  · rfl
theorem zeg {x y:Bool} (ha:a ρ=some (.bl x)) (hb:x=true→b ρ=some (.bl y)):zj4 a b ρ=some (.bl (x&&y)):=by
  unfold zj4; rw [ha]; cases x
  · rfl
  · rw [hb rfl]; rfl
theorem zud {x y:Bool} (ha:a ρ=some (.bl x)) (hb:x=false→b ρ=some (.bl y)):dOrV a b ρ=some (.bl (x || y)):=by
  unfold dOrV; rw [ha]; cases x
  · rw [hb rfl]; rfl
  · rfl
theorem zm1 {x:Bool} (ha:a ρ=some (.bl x)):zpn a ρ=some (.bl (!x)):=by unfold zpn; rw [ha]
theorem zgf (ha:a ρ=some d) (h:d.scal=true):zlf a ρ=some d:=by unfold zlf; rw [ha]; exact if_pos h
theorem ev_lst (h:es ρ=some ds):dLst es ρ=some (.lst ds):=by unfold dLst; rw [h]; rfl
theorem zyx (h:es ρ=some ds):dTup es ρ=some (.tup ds):=by unfold dTup; rw [h]; rfl
theorem ev_cons (h:a ρ=some d) (h2:es ρ=some ds):zai a es ρ=some (d::ds):=by unfold zai; rw [h,h2]
theorem ev_ix (ha:a ρ=some d) (hb:b ρ=some (.int i)) (h:ixD d i=some e):dIx a b ρ=some e:=by unfold dIx; rw [ha,hb]; exact h
theorem ev_f1 {g:D→Option D} (ha:a ρ=some d) (h:g d=some e):dF1 g a ρ=some e:=by unfold dF1; rw [ha]; exact h
theorem ev_call {F:List D→Option D} (h:es ρ=some ds) (h2:F ds=some d):za4 F es ρ=some d:=by unfold za4; rw [h]; exact h2
theorem z0r {neg:Bool} (ha:a ρ=some d) (hb:b ρ=some e) (h:cmpb 20 d e=true):dEq neg a b ρ=some ‹125›:=by unfold dEq; rw [ha,hb]; exact if_pos h
theorem z1z {neg:Bool} (ha:a ρ=some (.int i)) (hb:b ρ=some (.int j)):dEq neg a b ρ=some (.bl (if neg=true then !decide (i=j) else decide (i=j))):=by
  rw [z0r ha hb rfl]
  have e:decide (D.int i=D.int j)=decide (i=j):=by rw [zm5]; rw [Bool.eq_iff_iff]; simp
  rw [e]
theorem ev_eqF (ha:a ρ=some (.int i)) (hb:b ρ=some (.int j)):dEq false a b ρ=some (.bl (decide (i=j))):=z1z (neg:=false) ha hb
theorem znz (ha:a ρ=some (.int i)) (hb:b ρ=some (.int j)):dEq true a b ρ=some (.bl (decide (i≠j))):=by
  rw [z1z (neg:=true) ha hb,if_pos rfl]
  congr 2
  rw [Bool.eq_iff_iff]
  simp
theorem zy0 {d:D} (ha:a ρ=some d) (hb:b ρ=some d) (h:cmpb 20 d d=true):dEq false a b ρ=some (.bl true):=by
  rw [z0r ha hb h,if_neg Bool.false_ne_true,decide_eq_true rfl]
theorem ev_asL (ha:a ρ=some d) (h:lof d=some ds):asL a ρ=some ds:=by unfold asL; rw [ha]; exact h
theorem ev_rg1 (ha:a ρ=some (.int i)) (h:-(2 ^ 62)≤i∧i.toNat≤sizeLine):dRg1 a ρ=some (upL 0 i.toNat):=by unfold dRg1; rw [ha]; exact if_pos h
theorem zyy (h:es ρ=some ds) (hb:b ρ=some (.int i)) (hc:-(2 ^ 63)≤i∧i<2 ^ 63∧ds.length*i.toNat≤sizeLine):dRep es b ρ=some (List.replicate i.toNat ds).flatten:=by unfold dRep; rw [h,hb]; exact if_pos hc
theorem zsz {lo hi:Rho→Option (Option Int)} {l u:Option Int} (h:asL a ρ=some ds) (h1:lo ρ=some l) (h2:hi ρ=some u):dSl a lo hi ρ=some (cutL ds l u):=by unfold dSl; rw [h,h1,h2]
theorem z3w (h:es ρ=some ds) (hf:zg8 ds=true):zvj es ρ=some ds:=by unfold zvj; rw [h]; exact if_pos hf
theorem ev_lof (h:a ρ=some d) (hl:lof d=some ds):dLof a ρ=some ds:=by
  unfold dLof; rw [h]
  cases d with
  | lst xs=>exact hl
  | scr ns=>exact hl
  | _=>cases hl
theorem ev_cat {xs ys:List D} (ha:a ρ=some (.lst xs)) (hb:b ρ=some (.lst ys)) (h:xs.length+ys.length≤sizeLine):dCat a b ρ=some (xs++ys):=by unfold dCat; rw [ha,hb]; exact if_pos h
theorem ev_oSome (ha:a ρ=some (.int i)):zdw a ρ=some (some i):=by unfold zdw; rw [ha]
theorem z1k {n:Nat} {ms:List Bool} {b:DS} {ds:List D} {P:D→Prop} (h:Wp b (stD n ms ds) { nx:=fun _=>P .non,rt:=P }):∃ d,runD n ms b ds=some d∧P d:=by
  unfold Wp at h
  unfold runD
  cases e:b (stD n ms ds) with
  | nx ρ=>rw [e] at h; exact ⟨_,rfl,h⟩
  | rt d=>rw [e] at h; exact ⟨_,rfl,h⟩
  | bk ρ=>rw [e] at h; exact h.elim
  | ct ρ=>rw [e] at h; exact h.elim
  | no=>rw [e] at h; exact h.elim
theorem z4s {n:Nat} {ms:List Bool} {b:DS} {ds:List D} {d:D} (h:Wp b (stD n ms ds) { nx:=fun _=>D.non=d,rt:=fun x=>x=d }):runD n ms b ds=some d:=by
  obtain ⟨x,e,rfl⟩:=z1k (P:=fun x=>x=d) h
  exact e
theorem zkm {F:List D→Option D} {n:Nat} {ms:List Bool} {b:DS} (hF:F=runD n ms b) {ds:List D} {P:D→Prop} (h:Wp b (stD n ms ds) { nx:=fun _=>P .non,rt:=P }):∃ d,F ds=some d∧P d:=by rw [hF]; exact z1k h
theorem zbm {F:List D→Option D} {n:Nat} {ms:List Bool} {b:DS} (hF:F=runD n ms b) {ds:List D} {d:D} (h:Wp b (stD n ms ds) { nx:=fun _=>D.non=d,rt:=fun x=>x=d }):F ds=some d:=by rw [hF]; exact z4s h
theorem imul {i j:Int} (h:(-(2 ^ 64)<i∧i<2 ^ 64)∨(-(2 ^ 64)<j∧j<2 ^ 64)):IntMulOk i j:=CMul.ok h
theorem ixI {ns:List Int} {i:Int} (h0:0≤i) (h1:i<ns.length):ixD (.lst (ns.map D.int)) i=some (.int (ns.getD i.toNat 0)):=by
  show atI (ns.map D.int) i=_
  unfold atI ixN
  rw [if_pos h0,List.length_map,if_pos h1]
  show (ns.map D.int)[i.toNat]?=_
  have hi:i.toNat<ns.length:=by omega
  rw [List.getElem?_map,List.getElem?_eq_getElem hi,List.getD_eq_getElem?_getD,List.getElem?_eq_getElem hi]
  rfl
theorem zrm {n:Nat} {i:Int} (h0:0≤i) (h1:i<n):ixN n i=some i.toNat:=by unfold ixN; rw [if_pos h0,if_pos h1]
end
end
end VL
namespace VL
open PySem L2
open Classical
noncomputable section
section
variable [Tabs] {K:PySem.W.Frag} {ta tb tc:TE} {a b c:DE}
theorem fdok {j:Int} (h0:0<j) (h1:j<2 ^ 64):0<j∧j.natAbs.log2<9000:=by
  refine ⟨h0,(Nat.log2_lt (by omega)).mpr (Nat.lt_of_lt_of_le (m:=2 ^ 64) (by omega) (Nat.pow_le_pow_right ‹3› ‹3›))⟩
theorem zuf {α:Type} {ρ:Rho} {k:Nat} {cs:List Nat} {it:Rho→Option (List D)} {g:DG} {t:Rho→Option Bool} {el:DE} (emb:α→D) {xs:List α} (h:it ρ=some (xs.map emb)) (p:α→Bool) (f:α→D)
    (hs:∀ x∈xs,∃ ρ1,g (emb x) (r0 k cs ρ)=some ρ1∧t ρ1=some (p x)∧(p x=true→el ρ1=some (f x))):zdk k cs it g t el ρ=some ((xs.filter p).map f):=by
  unfold zdk
  rw [h]
  dsimp only
  clear h
  induction xs with
  | nil=>rfl
  | cons x r ih =>
    obtain ⟨ρ1,e1,e2,e3⟩:=hs x List.mem_cons_self
    have ih:=ih fun d hd=>hs d (List.mem_cons_of_mem _ hd)
    rw [List.map_cons]
    unfold zn3
    rw [e1]
    dsimp only
    rw [e2]
    cases hp:p x with
    | false =>
      dsimp only
      rw [ih,List.filter_cons_of_neg (by simp [hp])]
    | true =>
      dsimp only
      rw [e3 hp,ih,List.filter_cons_of_pos hp]
      rfl
theorem ev_compA0 {α:Type} {ρ:Rho} {k:Nat} {cs:List Nat} {it:Rho→Option (List D)} {g:DG} {el:DE} (emb:α→D) {xs:List α} (h:it ρ=some (xs.map emb)) (f:α→D)
    (hs:∀ x∈xs,∃ ρ1,g (emb x) (r0 k cs ρ)=some ρ1∧el ρ1=some (f x)):zdk k cs it g zdc el ρ=some (xs.map f):=by
  have:=zuf (ρ:=ρ) (k:=k) (cs:=cs) (it:=it) (g:=g) (t:=zdc) (el:=el) emb h (fun _=>true) f fun d hd=>let ⟨ρ1,e1,e2⟩:=hs d hd; ⟨ρ1,e1,rfl,fun _=>e2⟩
  rw [this,List.filter_eq_self.mpr fun _ _=>rfl]
theorem zy7 {n:Nat} {xs ys:List D} (h:∀ x∈xs,∀ y∈ys,cmpb n x y=true):cmpb (n+1) (.lst xs) (.lst ys)=true:=by
  show (decide _ || (List.zip xs ys).all fun p=>cmpb n p.1 p.2)=true
  rw [Bool.or_eq_true]
  refine .inr (List.all_eq_true.mpr fun q hq=>?_)
  obtain ⟨a,b⟩:=q
  obtain ⟨h1,h2⟩:=List.of_mem_zip hq
  exact h a h1 b h2
end
end
end VL
namespace L2
theorem bmK {X:Cx} {K:PySem.W.Frag} {e:PySem.Expr} {T:String} {r:V→List V→Hp→VK→Prop} {to:TE} {t:TA} (h:X.K=K) (p:PE X e (tBM X.K T r to t)):PE X e (tBM K T r to t):=h ▸ p
end L2
namespace L2
open PySem PySem.Spec PyProof.Rows
open VL (s0)
theorem zpa {M:Model} {A:Around} {E:Value→Shared→Prop} {s:Shared} {scope:Scope} {globals:Addr} {cl:List (Str×Addr)} {qual:Str} {outer:Env} {Q:Env→Shared→Prop}
    (hQ:Q { scope,locals:=s.heap.objs.size,globals,cells:=cellsFrom ‹74› scope.names cl,qual,func:=none,code:=outer.code,frame:=outer.frame,builtins:=outer.builtins } { s with heap:=pushCells (s.heap.push { cls:=.type "dict", data:=.dict #[] }) scope.names }) :
    wpAny M A (newFunctionEnv scope globals cl [] qual none .none (some outer)) Q E s:=by
  simp only [newFunctionEnv,Option.isSome_some,if_true]
  refine wpAny_bind (wpAny_alloc ?_)
  refine wpAny_bind (wpAny_layCells _ (fun name kind cells=>by cases hkc:kind==NameKind.cell <;> simp [hkc]) _ _ _ _ ?_)
  rw [show ({ s with heap:=s.heap.push { cls:=.type "dict", data:=.dict #[] } }:Shared).heap.objs.size=s.heap.objs.size+1 from Heap.size_push ..]
  rw [List.forIn_nil]
  exact wpAny_bind (wpAny_pure (wpAny_pure hQ))
theorem zjd:∀ (names:List (Str×NameKind)) (h:Heap) (acc:List (Str×Addr)) (x:Str) (c:Addr),(cellsFrom h.objs.size names acc).lookup x=some c→((pushCells h names).IsCell c none∧h.objs.size≤c)∨acc.lookup x=some c
  | [],_,_,_,_,e=>.inr e
  | (name,kind)::r,h,acc,x,c,e=>by
    unfold cellsFrom at e
    unfold pushCells
    split at e
    · rename_i hk
      rw [if_pos hk]
      rcases zjd r (h.push { cls:=.type "cell", data:=.cell none }) ((name,h.objs.size)::acc) x c (by rw [Heap.size_push]; exact e) with ⟨q1,q2⟩ | q
      · rw [Heap.size_push] at q2
        exact .inl ⟨q1,by omega⟩
      · rw [List.lookup_cons] at q
        cases hb:x==name with
        | true =>
          rw [hb] at q
          cases q
          exact .inl ⟨⟨_,pushCells_keeps _ _ _ _ (Heap.get?_push_size _ rfl),rfl⟩,Nat.le_refl _⟩
        | false=>rw [hb] at q; exact .inr q
    · rename_i hk
      rw [if_neg hk]
      exact zjd r h acc x c e
theorem cells_inj:∀ (names:List (Str×NameKind)) (n:Nat) (acc:List (Str×Addr)),(∀ x y c,acc.lookup x=some c→acc.lookup y=some c→x=y)→(∀ x c,acc.lookup x=some c→c<n)→∀ x y c,(cellsFrom n names acc).lookup x=some c→(cellsFrom n names acc).lookup y=some c→x=y
  | [],_,_,hi,_=>hi
  | (name,kind)::r,n,acc,hi,hb=>by
    unfold cellsFrom
    split
    · refine cells_inj r (n+1) ((name,n)::acc) (fun x y c h1 h2=>?_) fun x c h=>?_
      · rw [List.lookup_cons] at h1 h2
        cases e1:x==name with
        | true =>
          cases e2:y==name with
          | true=>rw [eq_of_beq e1,eq_of_beq e2]
          | false =>
            rw [e1] at h1; rw [e2] at h2
            cases h1
            exact absurd (hb _ _ h2) ‹122›
        | false =>
          cases e2:y==name with
          | true =>
            rw [e1] at h1; rw [e2] at h2
            cases h2
            exact absurd (hb _ _ h1) ‹122›
          | false=>rw [e1] at h1; rw [e2] at h2; exact hi x y c h1 h2
      · rw [List.lookup_cons] at h
        cases e1:x==name with
        | true=>rw [e1] at h; cases h; exact Nat.lt_succ_self _
        | false=>rw [e1] at h; exact Nat.lt_succ_of_lt (hb _ _ h)
    · exact cells_inj r n acc hi hb
theorem zm9:∀ (names:List (Str×NameKind)) (n:Nat) (acc:List (Str×Addr)) (x:Str),(names.all fun y=>!(y.2==.cell) || !(y.1==x))=true→(cellsFrom n names acc).lookup x=acc.lookup x
  | [],_,_,_,_=>rfl
  | (name,kind)::r,n,acc,x,h=>by
    have h:((!(kind==.cell) || !(name==x))&&r.all fun y=>!(y.2==.cell) || !(y.1==x))=true:=h
    obtain ⟨h1,h2⟩:=(Bool.and_eq_true _ _).mp h
    unfold cellsFrom
    split
    · rename_i hk
      rw [zm9 r _ _ x h2,List.lookup_cons]
      have:(x==name)=false:=by
        rw [hk] at h1
        have h1:(name==x)=false:=by simpa using h1
        rw [beq_eq_false_iff_ne] at h1 ⊢
        exact fun z=>h1 z.symm
      rw [this]
    · exact zm9 r _ _ x h2
def compCxC (X:Cx) (N':List Str) (scope:Scope) (cl:List (Str×Addr)) (C:Addr) (s3:Shared) (H3:Hp) (fp:List Addr) (pins:List (Addr×Obj)):Cx :=
  { X with N:=N',s₀:=s3,H₀:=H3,env:=compEnvC scope (cellsFrom (C+1) scope.names cl) C X.env,outer:=X.stack,stack:=X.stack,ex:=fp,fn:=fun x=>scope.names.lookup x==some .cell,pn:=X.pn++pins,xe:=fun _ _=>False }
structure FreesC (X:Cx) (N':List Str) (scope:Scope) (cl:List (Str×Addr)) (σ σ0:St):Prop where
  sub:∀ x c,cl.lookup x=some c→X.env.cells.lookup x=some c
  vals:∀ (j:Nat) (x:Str) (v:V),N'[j]?=some x→σ0[j]?=some (some v)→∃ (i:Nat) (c:Addr),X.N[i]?=some x∧σ[i]?=some (some v)∧Vis X.env.scope x∧X.env.kindOf x≠some .local∧cl.lookup x=some c ∧
    ‹23›
  vout:∀ (j:Nat) (x:Str) (v:V),N'[j]?=some x→σ0[j]?=some (some v)→(scope.names.all fun y=>!(y.2==.cell) || !(y.1==x))=true
  has:∀ x,‹23›→scope.names.lookup x=some .cell∨(cl.lookup x).isSome=true
  out:∀ x c,(scope.names.lookup x==some .cell)=true→¬ cl.lookup x=some c
  len:σ0.length=N'.length
section
variable {X:Cx} {tg elt iter:Expr} {ifs:List Expr} {scope:Scope} {cl:List (Str×Addr)} {N':List Str} {σ0:St→St} {g:TG} {tt:TT} {te:TE}
theorem zm8 {pos:Pos} {pins:List (Addr×Obj)} {σ:St} {H1:Hp} {s2:Shared} {it:Addr} {fp:List Addr} {tn:Nat→Heap→Prop} {J:It} {Q:VK} {RR:Value→Addr→Result→Shared→Prop}
    (hc:X.calm=true) (hkind:scope.kind=.function)
    (I:Inv X pins σ H1 s2) (T:Turn X.prog X.w X.K tg J fp it tn) (st:tn 0 s2.heap) (hfp:∀ b∈fp,FpOk X pins H1 b) (fr:FreesC X N' scope cl σ (σ0 σ)) (hk:zzf g (σ0 σ))
    (hg:∀ C s3 H3 fp pins,PG ‹12› tg g)
    (ht:∀ C s3 H3 fp pins (pl:List (Addr×Obj)) (s:Shared) (σ:St) (H:Hp) (Q:Bool→Hp→Prop),Inv ‹12› pl σ H s→tt σ H Q →
      wpAny ‹6› X.A (forIn ifs true fun c r=>if r=true then do let ok ← isTrue c ‹17› (eval c ‹17›); pure (ForInStep.yield ok) else pure (ForInStep.yield r)) (TP ‹12› pl σ Q) ‹139› s)
    (he:∀ C s3 H3 fp pins,PE ‹12› elt te) (hw:z58 J g tt te (σ0 σ) H1 Q)
    (hRR:∀ D C s' H' m,Inv X pins σ H' s'→s'.heap.Ns C m→H' C=none→C≠X.env.locals→X.s₀.heap.objs.size≤C→(∀ x c,X.env.cells.lookup x=some c→c≠C)→(∀ p∈X.pn++pins,p.1≠C)→Q (.ref D) H'→RR (.ref D) C (.ok .next) s') :
    wpAny ‹6› X.A (newList []) (fun acc s₃=>wpAny ‹6› X.A (newFunctionEnv scope X.env.globals cl [] X.env.qual none .none (some X.env)) (fun cenv s₄ =>
      codeAny ‹6› X.A (.compStart ‹48› 0 (.ref it) acc { cenv with scope:=relabel scope X.env }) (RR acc cenv.locals) s₄) X.xe s₃) X.xe s2:=by
  refine wpAny_newObj_type (hd:=by size_fits) (zpa ?_)
  dsimp only
  have I3:Inv X pins σ (upd H1 s2.heap.objs.size (.lst [])) { s2 with heap:=s2.heap.push { cls:=.type "list", dict:=none,data:=.seq ([]:List Value).toArray } }:=I.lnew (t':=s2.toks) (its:=[]) (ys:=[]) .nil (Nat.zero_le _)
  obtain ⟨W,⟨m0,w0⟩,turn⟩:=hw s2.heap.objs.size I.fresh
  have hfpo:=T.obj 0 _ st
  have fpl:∀ b∈fp,b<s2.heap.objs.size:=fun b hb=>by
    obtain ⟨o,e,_⟩:=hfpo b hb
    exact Heap.lt_size e
  have fD:∀ b∈fp,upd H1 s2.heap.objs.size (.lst []) b=none:=fun b hb=>by
    rw [upd_ne (Nat.ne_of_lt (fpl b hb))]
    exact (hfp b hb).1
  generalize hs3:({ s2 with heap:=s2.heap.push { cls:=.type "list", dict:=none,data:=.seq ([]:List Value).toArray } }:Shared)=s3 at I3
  have es3:s3.heap=s2.heap.push { cls:=.type "list", dict:=none,data:=.seq ([]:List Value).toArray }:=by rw [← hs3]
  have st3:tn 0 s3.heap:=T.keep _ _ _ st fun b hb o e=>by rw [es3]; exact Heap.get?_push_of_some _ e
  rw [← es3]
  have sz3:s2.heap.objs.size<s3.heap.objs.size:=by rw [es3,Heap.size_push]; exact Nat.lt_succ_self _
  generalize upd H1 s2.heap.objs.size (.lst [])=H3 at I3 fD w0
  have hns₁:(pushCells (s3.heap.push { cls:=.type "dict", data:=.dict #[] }) scope.names).Ns s3.heap.objs.size (fun _=>none):=(Heap.Ns.new s3.heap (.type "dict")).keeps (pushCells_keeps _ _)
  have old:∀ b o,s3.heap.get? b=some o→(pushCells (s3.heap.push { cls:=.type "dict", data:=.dict #[] }) scope.names).get? b=some o:=fun b o e=>pushCells_keeps _ _ b o ‹147›
  have cnew:=fun x c (e:(cellsFrom (s3.heap.objs.size+1) scope.names cl).lookup x=some c)=>zjd scope.names (s3.heap.push { cls:=.type "dict", data:=.dict #[] }) cl x c (by rw [Heap.size_push]; exact e)
  rw [Heap.size_push] at cnew
  have below:∀ x c,cl.lookup x=some c→c<s3.heap.objs.size:=fun x c e=>by
    obtain ⟨v,o,ho,_⟩:=I3.cell x c (fr.sub x c e)
    exact Heap.lt_size ho
  generalize pushCells (s3.heap.push { cls:=.type "dict", data:=.dict #[] }) scope.names=h₁ at hns₁ old cnew
  have fpl3:∀ b∈fp,b<s3.heap.objs.size:=fun b hb=>Nat.lt_trans (fpl b hb) sz3
  have stk:∀ b∈fp,b∉frs X.stack:=fun b hb z=>by
    rcases List.mem_cons.mp (I3.stkSub b z) with e | e
    · exact (hfp b hb).2.1 e
    · exact (hfp b hb).2.2.1 e
  have ok:‹27›.Ok:=by
    refine ⟨I3.ok.mod,hkind,I3.ok.glob,I3.ok.blt,Nat.le_refl _,cells_inj scope.names _ cl (fun x y c h1 h2=>I3.ok.inj x y c (fr.sub x c h1) (fr.sub y c h2)) (fun x c e=>Nat.lt_succ_of_lt (below x c e)),fun x h=>?has,fun x c h e=>?cab,I3.ok.hd,I3.ok.frames,.inl rfl,
      fun b hb=>⟨Nat.ne_of_lt (fpl3 b hb),fun x c e=>?exf⟩,I3.bs,Nat.le_trans I3.ok.bsz I3.sz,fun b o e hb=>?noex,fun b hb=>stk b hb,I3.stack,I3.stkFree⟩
    case has=>exact Option.isSome_iff_exists.mp (PySem.W.cellsFrom_some scope.names _ cl (fr.has x h))
    case cab =>
      rcases cnew x c e with ⟨_,q⟩ | q
      · exact Nat.le_trans (Nat.le_succ _) q
      · exact absurd q (fr.out x c h)
    case exf =>
      rcases cnew x c e with ⟨_,q⟩ | q
      · intro z
        have l1:=fpl3 b hb
        rw [← z] at l1
        exact absurd (Nat.lt_of_lt_of_le l1 (Nat.le_trans (Nat.le_succ _) q)) ‹122›
      · exact (hfp b hb).2.2.2.2.1 x c (fr.sub x c q)
    case noex =>
      rcases (hfp b hb).2.2.2.1 with z | z
      · exact I3.ok.noex b o e z
      · have l1:b<X.base.objs.size:=Heap.lt_size e
        have l2:X.base.objs.size≤X.s₀.heap.objs.size:=I3.ok.bsz
        have l3:X.s₀.heap.objs.size≤b:=z
        exact absurd (Nat.lt_of_lt_of_le l1 (Nat.le_trans l2 l3)) ‹122›
  have lt3:X.env.locals<s3.heap.objs.size:=I3.lt
  have start:Inv ‹27› [] (σ0 σ) H3 { s3 with heap:=h₁ }:=by
    refine ⟨ok,rfl,I3.bare,Un.kept old,⟨_,hns₁,fun j x v e1 e2 _=>?_⟩,fun x c e=>?_,I3.hok.fresh ‹34›,fun x c e=>?fc,fun p hp=>?_,I3.hok.kept old,fr.len⟩
    case fc =>
      rcases cnew x c e with ⟨_,q⟩ | q
      · exact I3.hok.fresh (by omega)
      · exact I3.freeC x c (fr.sub x c q)
    · obtain ⟨i,c,q1,q2,q3,q4,q5,q6⟩:=fr.vals j x v e1 e2
      obtain ⟨m,hn,hl⟩:=I3.loc
      obtain ⟨u,r,l⟩:=hl i x v q1 q2 q3
      refine ⟨u,r,.inr ⟨q6,c,(zm9 scope.names _ cl x (fr.vout j x v e1 e2)).trans q5,?_⟩⟩
      rcases l with ⟨k,_⟩ | ⟨_,c',e',z⟩
      · exact absurd k q4
      · rw [fr.sub x c q5] at e'
        cases e'
        obtain ⟨o,ho,hd⟩:=z
        exact ⟨o,old _ _ ho,hd⟩
    · rcases cnew x c e with ⟨q,_⟩ | q
      · exact ⟨_,q⟩
      · obtain ⟨v,o,ho,hd⟩:=I3.cell x c (fr.sub x c q)
        exact ⟨v,o,old _ _ ho,hd⟩
    · have hp':p∈X.pn++pins:=by simpa [compCxC] using hp
      obtain ⟨e,n,ne,nf,d⟩:=I3.pin p hp'
      refine ⟨old _ _ e,n,Nat.ne_of_lt (Heap.lt_size e),fun z=>?_,d⟩
      rcases List.mem_cons.mp (I3.stkSub p.1 z) with q | q
      · exact ne q
      · exact nf q
  have hst₁:tn 0 h₁:=T.keep _ _ _ st3 fun b _ o e=>old b o e
  have fpok:∀ {H':Hp},(∀ b∈fp,H' b=none)→∀ b∈fp,FpOk ‹27› [] H' b:=fun {H'} hn b hb =>
    ⟨hn b hb,Nat.ne_of_lt (fpl3 b hb),stk b hb,.inl hb,fun x c e=>by
      rcases cnew x c e with ⟨_,q⟩ | q
      · intro z
        have l1:=fpl3 b hb
        rw [← z] at l1
        exact absurd (Nat.lt_of_lt_of_le l1 (Nat.le_trans (Nat.le_succ _) q)) ‹122›
      · exact (hfp b hb).2.2.2.2.1 x c (fr.sub x c q),fun p hp=>(hfp b hb).2.2.2.2.2 p (by simpa [compCxC] using hp)⟩
  have loop:codeAny ‹6› X.A (.compLoop ‹48› 0 (.ref it) ‹77› (compEnvC scope (cellsFrom (s3.heap.objs.size+1) scope.names cl) s3.heap.objs.size X.env)) (RR ‹77› s3.heap.objs.size) { s3 with heap:=h₁ }:=by
    refine zrv (fun n s'=>∃ i ys H',Inv ‹27› [] (σ0 σ) H' s'∧tn i s'.heap∧(∀ b∈fp,H' b=none)∧W i n ys H') ?_ m0 ⟨0,[],H3,start,hst₁,fD,w0⟩
    rintro n s4 ⟨i,ys,H4,I4,st4,fr4,w4⟩
    rcases turn i n ys H4 w4 with ⟨stop,eD,q⟩ | ⟨go,step⟩
    · refine thn (T.done ‹27› rfl rfl rfl hc i [] s4 _ H4 _ I4 (fpok fr4) st4 stop) fun r s5 ⟨hr,I5⟩=>?_
      subst hr
      obtain ⟨m5,n5,_⟩:=I5.loc
      have J5:Inv X pins σ H4 s5:=I3.call' I5.os I5.base I5.hok I5.bare fun b hb=>⟨(hfp b hb).2.2.2.1,(hfp b hb).2.1,(hfp b hb).2.2.2.2.1,(hfp b hb).2.2.2.2.2⟩
      exact hRR _ _ s5 H4 m5 J5 n5 I5.free (Nat.ne_of_gt lt3) I3.sz (fun x c e z=>by
        obtain ⟨v,o,ho,_⟩:=I3.cell x c e
        exact absurd (Heap.lt_size ho) ‹151›) (fun p hp z=>by
        have e:=(I3.pin p hp).1
        exact absurd (Heap.lt_size e) ‹151›) q
    · refine thn (T.item ‹27› rfl rfl rfl hc i [] s4 _ H4 _ I4 (fpok fr4) st4 go) fun r s5 ⟨u,hr,h5⟩=>?_
      subst hr
      refine thn h5 fun _ s6 ⟨x,H6,I6,r6,y6,st6,fr6⟩=>?_
      have I6':=I6.pinned (fpok fr6) (T.obj _ _ st6)
      refine thn (hg _ _ _ _ _ _ s6 _ H6 x u _ I6' r6 (hk _ _ _ (step x H6 y6))) fun _ s7 ⟨σ7,H7,I7,q7,l7,k7⟩=>?_
      have again:∀ {s8:Shared} {H8:Hp} {m:Nat} {zs:List V},Inv ‹27› ([]++znr fp s6.heap) σ7 H8 s8→m<n→W (i+1) m zs H8 →
          ∃ m,m<n∧∃ i ys H',Inv ‹27› [] (σ0 σ) H' s8∧tn i s8.heap∧(∀ b∈fp,H' b=none)∧W i m ys H':=fun {s8 H8 m zs} I8 hm w8=>by
        refine ⟨m,hm,i+1,zs,H8,(Inv.unpinned I8).weak l7.symm k7,T.keep _ _ _ st6 fun b hb o e=>(I8.pin (b,o) ‹32›).1,fun b hb=>?_,w8⟩
        obtain ⟨o,e,d⟩:=T.obj _ _ st6 b hb
        exact (I8.pin (b,o) ‹32›).2.1
      refine thn (ht _ _ _ _ _ _ s7 σ7 H7 _ I7 q7) fun c s8 ⟨H8,I8,q8⟩=>?_
      cases c with
      | false =>
        rw [if_neg Bool.false_ne_true] at q8 ⊢
        obtain ⟨m',hm,w8⟩:=q8
        exact again I8 hm w8
      | true =>
        rw [if_pos rfl] at q8 ⊢
        refine thn (he _ _ _ _ _ _ s8 σ7 H8 _ I8 q8) fun v s9 ⟨y,H9,I9,r9,e9,z9,m',hm,w9⟩=>?_
        exact thn ‹54›
          fun _ s10 ⟨_,H10,I10,_,e10⟩=>by subst e10; exact again I10 hm w9
  subst hs3
  exact codeAny_compStart_list loop (T.self _ 0 _ _ _ hst₁ loop)
variable {pos:Pos} {wi:TI}
theorem zq3 (hc:X.calm=true) (hi:PI X tg iter wi) (fr:∀ σ:St,σ.length=X.N.length→FreesC X N' scope cl σ (σ0 σ)) (hk:∀ σ,zzf g (σ0 σ))
    (hg:∀ C s3 H3 fp pins,PG ‹12› tg g)
    (ht:∀ C s3 H3 fp pins (pl:List (Addr×Obj)) (s:Shared) (σ:St) (H:Hp) (Q:Bool→Hp→Prop),Inv ‹12› pl σ H s→tt σ H Q →
      wpAny ‹6› X.A (forIn ifs true fun c r=>if r=true then do let ok ← isTrue c ‹17› (eval c ‹17›); pure (ForInStep.yield ok) else pure (ForInStep.yield r)) (TP ‹12› pl σ Q) ‹139› s)
    (he:∀ C s3 H3 fp pins,PE ‹12› elt te)
    (hclos:closureFor scope X.env=pure cl) (hkind:scope.kind=.function) (hnames:∀ y∈scope.names,y.2=.local→scope.names.lookup y.1=some .local)
    (hs:∀ x,foldedSetIterable iter X.env x=pure x):PE X ‹48› (zsa wi g tt te σ0):=by
  intro pins s σ H Q I h
  rw [eval_ListComp]
  refine wpAny_comprehension_free (use:=none) rfl hs hclos hkind hnames ‹56›
  obtain ⟨it,fp,tn,J,H2,e,I2,T,st2,f2,q⟩:=h2
  subst e
  refine zm8 (RR:=fun acc C=>compPost ‹6› X.A X.xe none ‹82› acc C) hc hkind I2 T st2 f2 (fr σ I.len) (hk σ) hg ht he q ?_
  intro D C s' H' m I' hn hC h1 h2 h3 h4 q'
  refine ⟨m,hn,fun h'' hs''=>⟨.ref D,H',?_,rfl,q'⟩⟩
  exact I'.turned (t':=s'.toks) (fun b o hb e=>hs''.extBut b o hb e) hC h1 (.inr h2) h3 h4
theorem zxq {i:Nat} {x:Str} {pos' spos:Pos} (hN:X.N.Nodup) (hi':X.N[i]?=some x) (hx:Loc X.env.scope x) (hf:X.fn x=true∨X.env.scope.names.lookup x=some .local)
    (hc:X.calm=true) (hi:PI X tg iter wi) (fr:∀ σ:St,σ.length=X.N.length→FreesC X N' scope cl σ (σ0 σ)) (hk:∀ σ,zzf g (σ0 σ))
    (hg:∀ C s3 H3 fp pins,PG ‹12› tg g)
    (ht:∀ C s3 H3 fp pins (pl:List (Addr×Obj)) (s:Shared) (σ:St) (H:Hp) (Q:Bool→Hp→Prop),Inv ‹12› pl σ H s→tt σ H Q →
      wpAny ‹6› X.A (forIn ifs true fun c r=>if r=true then do let ok ← isTrue c ‹17› (eval c ‹17›); pure (ForInStep.yield ok) else pure (ForInStep.yield r)) (TP ‹12› pl σ Q) ‹139› s)
    (he:∀ C s3 H3 fp pins,PE ‹12› elt te)
    (hclos:closureFor scope X.env=pure cl) (hkind:scope.kind=.function) (hnames:∀ y∈scope.names,y.2=.local→scope.names.lookup y.1=some .local)
    (hs:∀ x,foldedSetIterable iter X.env x=pure x) (hsw:swapsWith ‹48› (some (.Name x pos')) spos.line X.env=pure true) :
    PS X (.Assign [.Name x pos'] ‹48› spos) (zzl (zsa wi g tt te σ0) i):=by
  intro pins s σ H D I h
  rw [exec_Assign_Name_used _ _ _ _ hsw]
  refine wpAny_bind (wpAny_standAt (wpAny_bind ?_))
  show wpAny _ X.A (do let _ ← comprehension ‹48› scope X.env _ (newList []) false (eval iter X.env) (some (assign (.Name x pos') X.env))) _ _ s
  refine wpAny_bind (wpAny_mono (wpAny_comprehension_free (Q:=fun _ s'=>SP X pins D .next s') (use:=some (assign (.Name x pos') X.env)) rfl hs hclos hkind hnames ‹56›)
    (fun _ s' hq=>wpAny_pure (wpAny_pure hq)) fun _ _ e=>e)
  obtain ⟨it,fp,tn,J,H2,e,I2,T,st2,f2,q⟩:=h2
  subst e
  refine zm8 (RR:=fun acc C=>compPost ‹6› X.A X.xe (some (assign (.Name x pos') X.env)) (fun _ s'=>SP X pins D .next s') acc C) hc hkind I2 T st2 f2 (fr σ I.len) (hk σ) hg ht he q ?_
  intro Dl C s' H' m I' hn hC h1 h2 h3 h4 q'
  show wpAny _ _ (assign (.Name x pos') X.env (.ref Dl)) _ _ s'
  refine wpAny_assign_Name (zp5 (v:=.ref Dl) I' hN hi' hx rfl (fun s'' I'' ⟨a,hsb,ha⟩=>?_) hf)
  have hne:C≠a:=by
    rcases ha with rfl | ha
    · exact h1
    · exact Ne.symm (h3 x a ha)
  refine ⟨m,hn.sameBut hsb hne,fun h'' hs''=>⟨_,H',?_,q'⟩⟩
  exact I''.turned (t':=s''.toks) (fun b o hb e=>hs''.extBut b o hb e) hC h1 (.inr h2) h3 h4
theorem FreesC.many {is:List Nat} {ts zs:List Str} {k:Nat} {σ:St} (hk:ts.length=k) (hs:SubL X cl) (hc:CapL X scope cl is zs)
    (ha:(‹30›.names.all fun y=>!(y.2==.cell || y.2==.free) || zs.contains y.1 || ‹144›)=true)
    (ho:(zs.all fun z=>scope.names.all fun y=>!(y.2==.cell) || !(y.1==z))=true) (hcl:(scope.names.all fun y=>!(y.2==.cell) || (cl.lookup y.1).isNone)=true):FreesC X (ts++zs) scope cl σ (s0 k is σ):=by
  have vals:∀ (j:Nat) (x:Str) (v:V),(ts++zs)[j]?=some x→(s0 k is σ)[j]?=some (some v)→x∈zs∧∃ (i:Nat) (c:Addr),X.N[i]?=some x∧σ[i]?=some (some v)∧Vis X.env.scope x∧X.env.kindOf x≠some .local∧cl.lookup x=some c ∧
    ‹23›:=fun j x v e1 e2=>by
    unfold s0 at e2
    by_cases hj:j<k
    · rw [List.getElem?_append_left ‹68›,List.getElem?_replicate,if_pos hj] at e2; cases e2
    · rw [List.getElem?_append_right ‹68›,List.length_replicate,List.getElem?_map] at e2
      rw [List.getElem?_append_right (by omega),hk] at e1
      obtain ⟨i,c,f1,f2,f3,f4,f5⟩:=hc.get _ _ e1
      rw [f1] at e2
      have e3:(σ[i]?).join=some v:=Option.some.inj e2
      refine ⟨List.mem_of_getElem? e1,i,c,f2,VL.join_some e3,?_,?_,f4,f5⟩
      · rcases f3 with q | q
        · exact .inr (.inl q)
        · exact .inr (.inr q)
      · intro w
        have w:X.env.scope.names.lookup x=some .local:=w
        rcases f3 with q | q <;> rw [q] at w <;> cases w
  refine ⟨hs.sub,fun j x v e1 e2=>(vals j x v e1 e2).2,fun j x v e1 e2=>List.all_eq_true.mp ho x (vals j x v e1 e2).1,fun x h=>?_,fun x c h e=>?_,by unfold s0; rw [List.length_append,List.length_append,List.length_replicate,List.length_map,hk,hc.len]⟩
  · have key:∀ kd,‹30›.names.lookup x=some kd→(kd==NameKind.cell || kd==NameKind.free)=true→x∈zs∨scope.names.lookup x=some .cell:=fun kd e q=>by
      have m:=List.all_eq_true.mp ha _ (PySem.mem_of_lookup e)
      rw [q] at m
      have m':zs.contains x=true∨(scope.names.lookup x==some .cell)=true:=by simpa using m
      rcases m' with m' | m'
      · exact .inl (List.contains_iff_mem.mp m')
      · exact .inr (eq_of_beq m')
    have mem:x∈zs∨scope.names.lookup x=some .cell:=by
      rcases h with h | h
      · exact key _ h rfl
      · exact key _ h rfl
    rcases mem with mem | mem
    · obtain ⟨j,hj⟩:=List.getElem?_of_mem mem
      obtain ⟨i,c,_,_,_,f4,_⟩:=hc.get j x hj
      exact .inr (by rw [f4]; rfl)
    · exact .inl mem
  · have m:=List.all_eq_true.mp hcl _ (PySem.mem_of_lookup (eq_of_beq h))
    rw [e] at m
    simp at m
variable {c:Expr} {ts zs:List Str} {is:List Nat} {k:Nat}
theorem zwa:∀ C s3 H3 fp pins (pl:List (Addr×Obj)) (s:Shared) (σ:St) (H:Hp) (Q:Bool→Hp→Prop),Inv ‹12› pl σ H s→zzk σ H Q →
    wpAny ‹6› X.A (forIn ([]:List Expr) true fun c r=>if r=true then do let ok ← isTrue c ‹17› (eval c ‹17›); pure (ForInStep.yield ok) else pure (ForInStep.yield r)) (TP ‹12› pl σ Q) ‹139› s :=
  fun _ _ _ _ _ _ _ _ H _ I h=>wpAny_tests_nil ⟨H,I,h⟩
theorem z2k (ht:∀ C s3 H3 fp pins,PT ‹12› c tt):∀ C s3 H3 fp pins (pl:List (Addr×Obj)) (s:Shared) (σ:St) (H:Hp) (Q:Bool→Hp→Prop),Inv ‹12› pl σ H s→tt σ H Q →
    wpAny ‹6› X.A (forIn [c] true fun c r=>if r=true then do let ok ← isTrue c ‹17› (eval c ‹17›); pure (ForInStep.yield ok) else pure (ForInStep.yield r)) (TP ‹12› pl σ Q) ‹139› s :=
  fun C s3 H3 fp pins pl s σ H Q I h=>wpAny_tests_one (ht C s3 H3 fp pins pl s σ H Q I h)
theorem zeh (hc:X.calm=true) (hi:PI X tg iter wi) (hk:ts.length=k) (hs:SubL X cl) (hcp:CapL X scope cl is zs) (ha:(‹30›.names.all fun y=>!(y.2==.cell || y.2==.free) || zs.contains y.1 || ‹144›)=true)
    (ho:(zs.all fun z=>scope.names.all fun y=>!(y.2==.cell) || !(y.1==z))=true) (hcl:(scope.names.all fun y=>!(y.2==.cell) || (cl.lookup y.1).isNone)=true) (hl:Low k g)
    (hg:∀ C s3 H3 fp pins,PG ‹40› tg g) (he:∀ C s3 H3 fp pins,PE ‹40› elt te)
    (hclos:closureFor scope X.env=pure cl) (hkind:scope.kind=.function) (hnames:∀ y∈scope.names,y.2=.local→scope.names.lookup y.1=some .local)
    (hf:∀ x,foldedSetIterable iter X.env x=pure x:=by intro _; rfl):PE X ‹51› (zsa wi g zzk te (s0 k is)) :=
  zq3 hc hi (fun _ _=>FreesC.many hk hs hcp ha ho hcl) (fun σ=>hl.keep σ) hg zwa he hclos hkind hnames hf
theorem z47 (hc:X.calm=true) (hi:PI X tg iter wi) (hk:ts.length=k) (hs:SubL X cl) (hcp:CapL X scope cl is zs) (ha:(‹30›.names.all fun y=>!(y.2==.cell || y.2==.free) || zs.contains y.1 || ‹144›)=true)
    (ho:(zs.all fun z=>scope.names.all fun y=>!(y.2==.cell) || !(y.1==z))=true) (hcl:(scope.names.all fun y=>!(y.2==.cell) || (cl.lookup y.1).isNone)=true) (hl:Low k g)
    (hg:∀ C s3 H3 fp pins,PG ‹40› tg g) (ht:∀ C s3 H3 fp pins,PT ‹40› c tt) (he:∀ C s3 H3 fp pins,PE ‹40› elt te)
    (hclos:closureFor scope X.env=pure cl) (hkind:scope.kind=.function) (hnames:∀ y∈scope.names,y.2=.local→scope.names.lookup y.1=some .local)
    (hf:∀ x,foldedSetIterable iter X.env x=pure x:=by intro _; rfl):PE X (.ListComp elt [⟨tg,iter,[c],0⟩] scope pos) (zsa wi g tt te (s0 k is)) :=
  zq3 hc hi (fun _ _=>FreesC.many hk hs hcp ha ho hcl) (fun σ=>hl.keep σ) hg (z2k ht) he hclos hkind hnames hf
theorem ztx {i:Nat} {x:Str} {pos' spos:Pos} (hN:X.N.Nodup) (hi':X.N[i]?=some x) (hxl:X.env.scope.names.lookup x=some .local) (hc:X.calm=true) (hi:PI X tg iter wi) (hk:ts.length=k) (hs:SubL X cl) (hcp:CapL X scope cl is zs) (ha:(‹30›.names.all fun y=>!(y.2==.cell || y.2==.free) || zs.contains y.1 || ‹144›)=true)
    (ho:(zs.all fun z=>scope.names.all fun y=>!(y.2==.cell) || !(y.1==z))=true) (hcl:(scope.names.all fun y=>!(y.2==.cell) || (cl.lookup y.1).isNone)=true) (hl:Low k g)
    (hg:∀ C s3 H3 fp pins,PG ‹40› tg g) (he:∀ C s3 H3 fp pins,PE ‹40› elt te)
    (hclos:closureFor scope X.env=pure cl) (hkind:scope.kind=.function) (hnames:∀ y∈scope.names,y.2=.local→scope.names.lookup y.1=some .local)
    (hf:∀ x,foldedSetIterable iter X.env x=pure x:=by intro _; rfl) (hsw:swapsWith ‹51› (some (.Name x pos')) spos.line X.env=pure true:=by rfl):PS X (.Assign [.Name x pos'] ‹51› spos) (zzl (zsa wi g zzk te (s0 k is)) i) :=
 zxq hN hi' (.inl hxl) (.inr hxl) hc hi (fun _ _=>FreesC.many hk hs hcp ha ho hcl) (fun σ=>hl.keep σ) hg zwa he hclos hkind hnames hf hsw
end
end L2
namespace L2
open PySem PySem.Spec PyProof.Rows
theorem pgbC {X:Cx} {N':List Str} {scope:Scope} {cl:List (Str×Addr)} {i:Nat} {y:Str} {py:Pos} {C:Addr} {s3:Shared} {H3:Hp} {fp:List Addr} {pins:List (Addr×Obj)} (nd:N'.Nodup) (hi:N'[i]?=some y)
    (hx:Loc ‹30› y) (hf:(scope.names.lookup y==some .cell)=true∨‹30›.names.lookup y=some .local):PG ‹12› (.Name y py) (zmz i):=zc9 nd hi hx hf
end L2
namespace L2
open PySem PySem.Spec PyProof.Rows
theorem zut {P:Program} {w:World} {K:PySem.W.Frag} {elts:List Expr} {x1} {pos:Pos} {J:It} {fp wr:List Addr} {it:Addr} {tn:Nat→Heap→Prop} (hm:it∈fp) (hwr:∀ b∈wr,b∈fp)
    (ho:∀ i h,tn i h→∀ b∈fp,∃ o,h.get? b=some o∧∀ v,o.data≠.cell v) (hk:∀ i h h',tn i h→(∀ b∈fp,∀ o,h.get? b=some o→h'.get? b=some o)→tn i h')
    (hs:∀ (A:Around) (i:Nat) (s:Shared) (Q:Value→Shared→Prop) (E:Value→Shared→Prop),tn i s.heap→Q (.ref it) s→wpAny (model P w) A (pyIter (.ref it)) Q E s)
    (hi:∀ (X:Cx),X.prog=P→X.w=w→X.K=K→X.calm=true→∀ (i:Nat) (pins:List (Addr×Obj)) (s:Shared) (σ:St) (H:Hp),Inv X pins σ H s→tn i s.heap→J.go i H →
      ∃ f2 n Pt S M,WalksT P w X.A it f2 wr n Pt S M∧i<n∧S i s.heap∧(∀ h,S (i+1) h→tn (i+1) h)∧∀ vals,Pt i vals→∃ ws,ws.length≤sizeLine∧Vals ws vals.toList∧∀ t,H t=none→J.yld i H (.ref t) (upd H t (.tup ws)))
    (hd:∀ (X:Cx),X.prog=P→X.w=w→X.K=K→X.calm=true→∀ (i:Nat) (pins:List (Addr×Obj)) (s:Shared) (σ:St) (H:Hp),Inv X pins σ H s→tn i s.heap→J.stop i H→∃ f2 Pt S M,WalksT P w X.A it f2 wr i Pt S M∧S i s.heap) :
    Turn P w K (.Tuple elts x1 pos) J fp it tn where
  mem:=hm
  obj:=ho
  keep:=hk
  item:=by
    intro X hP hw hK hc i pins s σ H E I hf st hg
    obtain ⟨f2,n,Pt,S,M,W,hin,hS,hback,hpt⟩:=hi X hP hw hK hc i pins s σ H I st hg
    subst hP hw hK
    refine W.item i s _ _ hin hS fun T vals h1 tk hv hT tup1 mid kk1=>⟨_,rfl,?_⟩
    refine W.go elts x1 pos i T _ _ _ mid fun h2 S2 kk2=>?_
    obtain ⟨ws,hz,rv,yl⟩:=hpt vals hv
    have k2:∀ b o,b∉wr→s.heap.get? b=some o→h2.get? b=some o:=fun b o nb e=>kk2 b o nb (kk1 b o nb e)
    have nwr:∀ b u,H b=some u→b∉wr:=fun b u e z=>by rw [(hf b (hwr b z)).1] at e; cases e
    have nH:H T=none:=I.hok.fresh hT
    obtain ⟨o,eo,oc,nn,od⟩:=tup1
    have tup2:h2.get? T=some o:=kk2 T o (W.apart _ _ _ mid) eo
    have loc:X.env.locals∉wr:=fun z=>(hf _ (hwr _ z)).2.1 rfl
    have all:∀ b∈wr,‹98›∧b≠X.env.locals∧(∀ x c,X.env.cells.lookup x=some c→c≠b)∧∀ p∈X.pn++pins,p.1≠b:=fun b z=>by
      obtain ⟨_,g1,_,g3,g4,g5⟩:=hf b (hwr b z)
      exact ⟨g3,g1,g4,g5⟩
    have nsk:∀ m,s.heap.Ns X.env.locals m→h2.Ns X.env.locals m:=fun m q=>by
      obtain ⟨oo,es,ep,q1,r⟩:=q
      exact ⟨oo,es,ep,k2 _ oo loc q1,r⟩
    have ok1:HOk X.prog X.w H h2:=fun b u q=>by
      refine (I.hok b u q).stay (fun c v hc' q'=>k2 c v ?_ q') (fun _ q'=>q') fun _ _ q'=>q'
      rcases hc' with z | z
      · rw [z]; exact nwr b u q
      · exact nwr c _ z
    have upk:∀ {b:Addr} {u:HO},H b=some u→upd H T (.tup ws) b=some u:=fun {b u} q=>by rw [upd_ne (zbo q nH)]; exact q
    have ok2:HOk X.prog X.w (upd H T (.tup ws)) h2:=fun b u q=>by
      by_cases hb:b=T
      · subst hb
        rw [zbb] at q
        cases q
        exact ⟨hz,vals.toList,rv,⟨o,tup2,oc,nn,by rw [od]⟩⟩
      · rw [upd_ne hb] at q
        exact (ok1 b u q).stay (fun c v _ q'=>q') (fun c q'=>upk q') (fun c xs' q'=>upk q') fun c o u q'=>upk q'
    have I2:Inv X pins σ (upd H T (.tup ws)) { s with heap:=h2,toks:=tk } :=
      I.step (g':=s.gens) (d':=s.drawn) (ch:=wr) all (fun b o _ _ hc' q _=>k2 b o hc' q) (fun b o _ _ hc' q _=>⟨o.slots,k2 b o hc' q⟩) (fun b o _ q n=>by rw [upd_ne (fun z=>Nat.lt_irrefl _ (Nat.lt_of_lt_of_le (Heap.lt_size q) (by rw [z]; exact hT)))]; exact n)
        (fun b o hc' q=>⟨o,k2 b o hc' q⟩) (fun b xs' q=>upk q) (fun b o u' q=>upk q) (fun b ps q=>⟨#[],by rw [upk q]; simp⟩) nsk ok2 I.bare
    refine ⟨.ref T,_,I2,rfl,yl T nH,hback _ S2,fun b hb=>?_⟩
    by_cases e:b=T
    · exfalso
      subst e
      obtain ⟨o',e',_⟩:=ho i s.heap st b hb
      exact Nat.lt_irrefl _ (Nat.lt_of_lt_of_le (Heap.lt_size e') hT)
    · rw [upd_ne e]; exact (hf b hb).1
  done:=by
    intro X hP hw hK hc i pins s σ H E I hf st hg
    obtain ⟨f2,Pt,S,M,W,hS⟩:=hd X hP hw hK hc i pins s σ H I st hg
    subst hP hw hK
    refine W.done s _ _ hS fun h' tk kk=>⟨rfl,?_⟩
    refine I.step (g':=s.gens) (d':=s.drawn) (t':=tk) (ch:=wr) (fun b z=>?_) (fun b o _ _ hc' q _=>kk b o hc' q) (fun b o _ _ hc' q _=>⟨o.slots,kk b o hc' q⟩) (fun _ _ _ _ n=>n) (fun b o hc' q=>⟨o,kk b o hc' q⟩) (fun _ _ q=>q) (fun _ _ _ q=>q) (fun b ps q=>⟨#[],by rw [q]; simp⟩) (fun m q=>?_) (fun b u q=>?_) I.bare
    · obtain ⟨_,g1,_,g3,g4,g5⟩:=hf b (hwr b z)
      exact ⟨g3,g1,g4,g5⟩
    · obtain ⟨oo,es,ep,q1,r⟩:=q
      exact ⟨oo,es,ep,kk _ oo (fun z=>(hf _ (hwr _ z)).2.1 rfl) q1,r⟩
    · refine (I.hok b u q).stay (fun c v hc' q'=>kk c v ?_ q') (fun _ q'=>q') fun _ _ q'=>q'
      rcases hc' with z | z
      · rw [z]; exact fun w=>by rw [(hf b (hwr b w)).1] at q; cases q
      · exact fun w=>by rw [(hf c (hwr c w)).1] at z; cases z
  self:=hs
def Itz (K:PySem.W.Frag) (a b:Addr):It :=
  ⟨fun i H=>∃ xs ys x y,SqL K H a xs∧SqL K H b ys∧xs[i]?=some x∧ys[i]?=some y,fun i H x H'=>∃ (t:Addr) (v u:V),x=.ref t∧H t=none∧(∀ xs,SqL K H a xs→xs[i]?=some v)∧(∀ ys,SqL K H b ys→ys[i]?=some u)∧H'=upd H t (.tup [v,u]),
    fun i H=>∃ xs ys,SqL K H a xs∧SqL K H b ys∧i=min xs.length ys.length⟩
theorem zzi {P:Program} {w:World} {K:PySem.W.Frag} {elts:List Expr} {x1} {pos:Pos} (a b z TI TO i1 i2:Addr) (D:ZipApart z TI TO i1 i2 a b) :
    Turn P w K (.Tuple elts x1 pos) (Itz K a b) [z,TI,TO,i1,i2] z (fun i h=>IsZip h z TI TO .none∧IsPair h TI (.ref i1) (.ref i2)∧(∃ u v,IsPair h TO u v)∧h.IsListIter i1 a i∧h.IsListIter i2 b i):=by
  refine zut (wr:=[z,TO,i1,i2]) (fp:=[z,TI,TO,i1,i2]) (by simp) (fun c hc=>by simp only [List.mem_cons,List.not_mem_nil,or_false] at hc ⊢; rcases hc with h | h | h | h <;> simp [h]) (fun i h st c hc=>?_) (fun i h h' st k=>?_) (fun A i s Q E st q=>wpAny_pyIter_zip st.1 q) (fun X hP hw hK hc i pins s σ H I st hg=>?_) (fun X hP hw hK hc i pins s σ H I st hg=>?_)
  · obtain ⟨hz,hTI,⟨u,v,hTO⟩,h1,h2⟩:=st
    have e1:∃ o:Obj,h.get? z=some o∧∀ v,o.data≠.cell v:=⟨_,hz,fun v q=>by have q':Data.fields _=Data.cell v:=q; cases q'⟩
    have e2:∃ o:Obj,h.get? TI=some o∧∀ v,o.data≠.cell v:=⟨_,hTI,fun v q=>by have q':Data.seq _ _=Data.cell v:=q; cases q'⟩
    have e3:∃ o:Obj,h.get? TO=some o∧∀ v,o.data≠.cell v:=⟨_,hTO,fun v q=>by have q':Data.seq _ _=Data.cell v:=q; cases q'⟩
    have e4:∃ o:Obj,h.get? i1=some o∧∀ v,o.data≠.cell v:=let ⟨o,e,_,d⟩:=h1; ⟨o,e,fun v q=>by rw [d] at q; cases q⟩
    have e5:∃ o:Obj,h.get? i2=some o∧∀ v,o.data≠.cell v:=let ⟨o,e,_,d⟩:=h2; ⟨o,e,fun v q=>by rw [d] at q; cases q⟩
    simp only [List.mem_cons,List.not_mem_nil,or_false] at hc
    rcases hc with rfl | rfl | rfl | rfl | rfl
    · exact e1
    · exact e2
    · exact e3
    · exact e4
    · exact e5
  · obtain ⟨hz,hTI,⟨u,v,hTO⟩,h1,h2⟩:=st
    exact ⟨k z (by simp) _ hz,k TI (by simp) _ hTI,⟨u,v,k TO (by simp) _ hTO⟩,h1.at fun o e=>k i1 (by simp) o e,h2.at fun o e=>k i2 (by simp) o e⟩
  · subst hP hw hK
    obtain ⟨xs,ys,x,y,qa,qb,ex,ey⟩:=hg
    obtain ⟨us,r1,p1,_⟩:=I.list qa
    obtain ⟨vs,r2,p2,_⟩:=I.list qb
    have lx:=(List.getElem?_eq_some_iff.mp ex).1
    have ly:=(List.getElem?_eq_some_iff.mp ey).1
    have l1:=r1.length
    have l2:=r2.length
    refine ⟨_,_,_,_,_,WalksT.zip2 (I.ok.hd hc) z TI TO i1 i2 a b D us.toArray vs.toArray,by simp; omega,⟨st.1,st.2.1,st.2.2.1,st.2.2.2.1,st.2.2.2.2,p1.isList,p2.isList⟩,fun h q=>⟨q.1,q.2.1,q.2.2.1,q.2.2.2.1,q.2.2.2.2.1⟩,?_⟩
    rintro vals ⟨u,v,eu,ev,rfl⟩
    obtain ⟨u',f1,g1⟩:=r1.get ex
    obtain ⟨v',f2,g2⟩:=r2.get ey
    have e1:us[i]?=some u:=by simpa using eu
    have e2:vs[i]?=some v:=by simpa using ev
    rw [e1] at f1; cases f1
    rw [e2] at f2; cases f2
    exact ⟨[x,y],by show 2≤sizeLine; decide,.cons g1 (.cons g2 .nil),fun t nt=>⟨t,x,y,rfl,nt,fun zs hz=>by rw [I.list_inj hz qa]; exact ex,fun zs hz=>by rw [I.list_inj hz qb]; exact ey,rfl⟩⟩
  · subst hP hw hK
    obtain ⟨xs,ys,qa,qb,e⟩:=hg
    obtain ⟨us,r1,p1,_⟩:=I.list qa
    obtain ⟨vs,r2,p2,_⟩:=I.list qb
    have l1:=r1.length
    have l2:=r2.length
    have W:=WalksT.zip2 (prog:=X.prog) (w:=X.w) (A:=X.A) (I.ok.hd hc) z TI TO i1 i2 a b D us.toArray vs.toArray
    have en:min us.toArray.size vs.toArray.size=i:=by simp; omega
    rw [en] at W
    exact ⟨_,_,_,_,W,⟨st.1,st.2.1,st.2.2.1,st.2.2.2.1,st.2.2.2.2,p1.isList,p2.isList⟩⟩
theorem z32 (n a b:Nat) (ha:a<n) (hb:b<n):ZipApart (n+4) (n+2) (n+3) n (n+1) a b:=by constructor <;> exact fun (e:@Eq Nat _ _)=>by omega
theorem le5 {n c:Nat} (h:c=n+4∨c=n+2∨c=n+3∨c=n∨c=n+1):n≤c:=by omega
section
variable {X:Cx}
def iZip (K:PySem.W.Frag) (ta tb:TE):TI:=fun σ H R=>zcy ta (zcy tb tNil) σ H fun vs H1=>∃ a b,vs=[.ref a,.ref b]∧(∃ xs,SqL K H1 a xs)∧(∃ ys,SqL K H1 b ys)∧R (Itz K a b) H1
theorem z41 {K:PySem.W.Frag} {l m:Expr} {tl tm:TE} {elts:List Expr} {x1} {tpos p pos:Pos} (hK:X.K=K) (hg:Gl X "zip") (hm:X.mg "zip" = none) (ha:PA X [l,m] (zcy tl (zcy tm tNil))) (hs:starEach [l,m] X.env=(false,eval l X.env)::starEach [m] X.env:=by rfl) (hp:(backTo pos (starEach [m] X.env)).any (·.1)=false:=by rfl):PI X (.Tuple elts x1 tpos) (.Call (.Name "zip" p) [l,m] [] pos) (iZip K tl tm):=by
  subst hK
  intro pins s σ H R I h
  refine Call_ (zrl I hg hm z6b (PyProof.Rows.callWith_type1 (thn (ha pos pins s σ H _ I h) fun us s1 ⟨vs,H1,I1,r1,q1⟩=>?_) hs hp))
  obtain ⟨a,b,rfl,⟨xs,qa⟩,⟨ys,qb⟩,q⟩:=q1
  cases r1 with
  | cons ra r1 =>
    cases r1 with
    | cons rb r1 =>
      cases r1
      cases ra
      cases rb
      obtain ⟨us,v1,p1,_⟩:=I1.list qa
      obtain ⟨ws,v2,p2,_⟩:=I1.list qb
      have la:a<s1.heap.objs.size:=by obtain ⟨_,e,_⟩:=p1.isList; exact Heap.lt_size e
      have lb:b<s1.heap.objs.size:=by obtain ⟨_,e,_⟩:=p2.isList; exact Heap.lt_size e
      refine call_zip_2 p1.isList p2.isList fun h' hz hTI hTO hi1 hi2 hsz hk=>wpAny_pyIter_zip hz ?_
      have I2:Inv X pins σ H1 { s1 with heap:=h' }:=I1.kept (t':=s1.toks) hk
      refine ⟨_,[s1.heap.objs.size+4,s1.heap.objs.size+2,s1.heap.objs.size+3,s1.heap.objs.size,s1.heap.objs.size+1],_,_,H1,rfl,I2,zzi a b _ _ _ _ _ (z32 _ _ _ la lb),⟨hz,hTI,⟨_,_,hTO⟩,hi1,hi2⟩,fun c hc=>?_,q⟩
      simp only [List.mem_cons,List.not_mem_nil,or_false] at hc
      have le:s1.heap.objs.size≤c:=le5 hc
      exact I1.fpOk le (I1.hok.fresh le)
end
end L2
namespace VL
open PySem L2
open Classical
noncomputable section
variable [Tabs] {K:PySem.W.Frag}
def zpL (xs ys:List D):List D:=List.zipWith (fun x y=>.tup [x,y]) xs ys
theorem z18 (xs ys:List D):(zpL xs ys).length=min xs.length ys.length:=List.length_zipWith ..
theorem zpL_get {xs ys:List D} {i:Nat} {d:D} (h:(zpL xs ys)[i]?=some d):∃ x y,xs[i]?=some x∧ys[i]?=some y∧d=.tup [x,y]:=by
  unfold zpL at h
  rw [List.getElem?_zipWith] at h
  split at h
  · rename_i x y e1 e2; exact ⟨x,y,e1,e2,(Option.some.inj h).symm⟩
  · cases h
theorem zzg {Bx H1:Hp} {T:Addr→Prop} {p q:Addr} {vs us:List V} {xs ys:List D} (hl:xs.length≤sizeLine) (h0:∀ H2 T2,Kp T H1 T2 H2→Same Bx H2→SqL K H2 p vs∧IsL K H2 T2 vs xs) (h1:∀ H2 T2,Kp T H1 T2 H2→Same Bx H2→SqL K H2 q us∧IsL K H2 T2 us ys)
    (hsl:vs.length=xs.length) (hsl2:us.length=ys.length):Walk K true Bx (Itz K p q) H1 T (zpL xs ys):=by
  have hlen:=z18 xs ys
  refine ⟨by rw [hlen]; omega,fun i d H2 T2 kp sb hd e=>?_,fun i H2 T2 kp sb hi=>?_⟩
  · obtain ⟨x,y,ex,ey,rfl⟩:=zpL_get e
    obtain ⟨s1,r1⟩:=h0 H2 T2 kp sb
    obtain ⟨s2,r2⟩:=h1 H2 T2 kp sb
    obtain ⟨v,e1,i1⟩:=r1.get ex
    obtain ⟨u,e2,i2⟩:=r2.get ey
    refine ⟨⟨vs,us,v,u,s1,s2,e1,e2⟩,fun z H3 hy=>?_⟩
    obtain ⟨t,v',u',ez,nt,hv,hu,e3⟩:=hy
    subst e3 ez
    have q1:=hv vs s1
    have q2:=hu us s2
    rw [e1] at q1; cases q1
    rw [e2] at q2; cases q2
    refine ⟨same_new nt,show Is K _ T2 (.ref t) (.tup [x,y]) from .tup (fun z=>?_) zbb (by show 2≤sizeLine; decide) ((IsL.cons i1 (.one i2)).same (same_new nt))⟩
    obtain ⟨o,qq⟩:=hd t z
    rw [nt] at qq; cases qq
  · obtain ⟨s1,_⟩:=h0 H2 T2 kp sb
    obtain ⟨s2,_⟩:=h1 H2 T2 kp sb
    exact ⟨vs,us,s1,s2,by rw [← hi,hlen,hsl,hsl2]⟩
noncomputable def zvn (a b:DE):Rho→Option (List D):=fun ρ=>match asL a ρ with
  | some xs=>(match asL b ρ with
    | some ys=>if zg8 xs=true∧zg8 ys=true then some (zpL xs ys) else none
    | none=>none)
  | none=>none
theorem zvm {a b:DE} {ρ:Rho} {ds:List D} (h:zvn a b ρ=some ds):∃ xs ys,asL a ρ=some xs∧asL b ρ=some ys∧zg8 xs=true∧zg8 ys=true∧ds=zpL xs ys:=by
  unfold zvn at h
  split at h
  · rename_i xs e
    split at h
    · rename_i ys e2
      by_cases c:zg8 xs=true∧zg8 ys=true
      · rw [if_pos c] at h; exact ⟨xs,ys,e,e2,c.1,c.2,(Option.some.inj h).symm⟩
      · rw [if_neg c] at h; cases h
    · cases h
  · cases h
theorem zzn {ta tb:TE} {a b:DE} (ha:SemB K ta a) (hb:SemB K tb b):zvr K true (iZip K ta tb) (zvn a b):=fun {B Z os ρ σ H R ds} f q k=>by
  obtain ⟨xs,ys,e1,e2,c1,c2,rfl⟩:=zvm q
  obtain ⟨d1,e1,l1⟩:=zgi e1
  obtain ⟨d2,e2,l2⟩:=zgi e2
  refine ha f e1 fun v H1 s1 i1=>hb ‹72› e2 fun u H2 s2 i2=>?_
  obtain ⟨p,vs,rfl,hl,hn,hr⟩:=(i1.same s2).seq l1
  obtain ⟨p2,us,rfl,hl2,hn2,hr2⟩:=i2.seq l2
  exact ⟨p,p2,rfl,⟨vs,(hr H2 _ Kp.refl).1⟩,⟨us,(hr2 H2 _ Kp.refl).1⟩,k _ _ ‹36› (zzg (by omega) (fun H3 T3 kp sb=>⟨(hr H3 No (Kp.same sb)).1,(hr H3 No (Kp.same sb)).2.flat c1⟩) (fun H3 T3 kp sb=>⟨(hr2 H3 No (Kp.same sb)).1,(hr2 H3 No (Kp.same sb)).2.flat c2⟩) hn hn2)⟩
theorem z3v {a b:DE} {ρ:Rho} {xs ys:List D} (ha:asL a ρ=some xs) (hb:asL b ρ=some ys) (h1:zg8 xs=true) (h2:zg8 ys=true):zvn a b ρ=some (zpL xs ys):=by unfold zvn; rw [ha,hb]; exact if_pos ⟨h1,h2⟩
end
end VL
namespace VL
open PySem L2
open Classical
noncomputable section
variable [Tabs] {K:PySem.W.Frag} {fr:Fm}
def SemM (K:PySem.W.Frag) (t:TE) (e:Rho→Option (List (List D))):Prop:=∀ {B:Hp} {Z:Addr→Prop} {os:Own} {ρ:Rho} {σ:L2.St} {H:Hp} {Q:VK} {rows:List (List D)},Fr K B Z os ρ σ H→e ρ=some rows →
  (∀ x ps H',Same H H'→H x=none→(∀ a∈ps,H a=none)→(x::ps).Nodup→H' x=some (.lst (ps.map V.ref))→ps.length≤sizeLine→Paired (fun q ds=>∃ vs,H' q=some (.lst vs)∧vs.length≤sizeLine∧IsL K H' (fun a=>(a=x∨a∈ps)∨tot Z os a) vs ds) ps rows→Q (.ref x) H')→t σ H Q
noncomputable def zn2 (F:List D→Option D) (es:Rho→Option (List D)):Rho→Option (List D):=fun ρ=>match za4 F es ρ with
  | some (.lst ds)=>some ds
  | _=>none
theorem zw5 {ms:List Bool} {F:List D→Option D} {t:TA} {es:Rho→Option (List D)} {E:XK} (ha:SemA K ms t es):SemF K (zp4 (spD .l K ms F) [] E t) (zn2 F es):=fun {B Z os ρ σ H Q ds} f q k=>by
  unfold zn2 at q
  split at q
  · rename_i xs e1
    cases q
    unfold za4 at e1
    split at e1
    · rename_i as e
      refine ha f e fun vs H1 s1 a=>?_
      show spD .l K ms F (vs++[]) H1 Q E
      rw [List.append_nil]
      refine ⟨tot Z os,as,.lst ds,‹72›.zt,a,e1,fun v H2 s2 i=>?_⟩
      rcases i with ⟨p,us,ds',rfl,ed,hb,hh,hl,r⟩ | ⟨p,kvs,rfl,ed,hb,hh,hl⟩
      · cases ed
        exact k p us H2 ‹36› (Same.free s1 hb) hh hl r
      · cases ed
    · cases e1
  · cases q
theorem z2r {ta:TE} {a:Rho→Option (List D)} (h:SemF K ta a):SemS .l K (tRet ta) (sRet (dLst a)):=fun {B Z os ρ σ H E} f p=>by
  unfold sRet dLst at p
  cases e:a ρ with
  | none=>rw [e] at p; exact p.elim
  | some ds =>
    rw [e] at p
    exact h f e fun x vs H1 s1 hx hH hl r=>p _ _ (f.keep.trans s1) (.inl ⟨x,vs,ds,rfl,rfl,Same.free f.keep hx,hH,hl,r.kp (Kp.less fun a z=>z.elim .inl fun z=>.inr (.inl z))⟩)
@[irreducible] noncomputable def zxa (i:Nat):DS:=fun ρ=>match ρ.getD i .un with
  | .ol ds=>.rt (.lst ds)
  | _=>.no
theorem z2q {i:Nat}:SemS .l K (tRet (tVar i)) (zxa i):=fun {B Z os ρ σ H E} f p=>by
  unfold zxa at p
  split at p
  · rename_i ds e
    have s:=f.sl i
    rw [e] at s
    obtain ⟨a,vs,eo,hu,hH,hl,r⟩:=s
    have ha:a∈os i:=by rw [eo]; exact List.mem_singleton.mpr rfl
    exact ⟨_,join_some hu,p _ _ f.keep (.inl ⟨a,vs,ds,rfl,rfl,(f.new i a ha).1,hH,hl,r.kp (Kp.less fun b z=>z.elim (fun z=>.inr ⟨i,by rw [z]; exact ha⟩) .inl)⟩)⟩
  · exact p.elim
@[irreducible] noncomputable def zsi (i:Nat) (a:Rho→Option (List (List D))):DS:=fun ρ=>match a ρ with
  | some rows=>if i < ρ.length then .nx (ρ.set i (.om rows)) else .no
  | none=>.no
theorem z2p {i:Nat} {ta:TE} {a:Rho→Option (List (List D))} (h:SemM K ta a):SemS fr K (tAsg ta (zmz i)) (zsi i a):=fun {B Z os ρ σ H E} f p=>by
  unfold zsi at p
  split at p
  · rename_i rows e
    by_cases hi:i < ρ.length
    · rw [if_pos hi] at p
      refine h f e fun x ps H1 s1 hx hps hn hH hl r=>?_
      have st:=f.step (H':=H1) (i:=i) hi (o:=x::ps) (s:=.om rows) (v:=some (.ref x)) (fun a u e _=>s1 _ _ e) (fun a ha=>let ⟨xs,e⟩:=(f.sl i).dom ha; ⟨_,s1 _ _ e⟩) hn (fun a ha=>?_)
        ⟨x,ps,rfl,rfl,hH,hl,Paired.mono r fun q ds _ ⟨vs,h1,h2,h3⟩=>⟨vs,h1,h2,h3.kp (Kp.less fun a z=>?_)⟩⟩
      · exact p _ _ _ st.1 st.2
      · rcases List.mem_cons.mp ha with rfl | ha
        · exact .inr hx
        · exact .inr (hps a ha)
      · rcases z with z | ⟨j,z⟩
        · exact .inr (.inl z)
        · by_cases hj:j=i
          · subst hj; rw [zbs] at z; exact .inl (List.mem_cons.mp z)
          · rw [putO_ne hj] at z; exact .inr (.inr ⟨j,z⟩)
    · rw [if_neg hi] at p; exact p.elim
  · exact p.elim
theorem ztl {i:Nat} {ta:TE} {a:Rho→Option (List (List D))} (h:SemM K ta a):SemS fr K (zzl ta i) (zsi i a):=z2p (i:=i) h
def frzR (i:Nat) (ρ:Rho):Rho:=match ρ.getD i .un with
  | .om rows=>ρ.set i (.ol ‹137›)
  | _=>ρ
theorem Fr.freezeR {B H:Hp} {Z:Addr→Prop} {os:Own} {ρ:Rho} {σ:L2.St} (f:Fr K B Z os ρ σ H) (i:Nat):∃ os',Fr K B Z os' (frzR i ρ) σ H∧Kp (tot Z os) H (tot Z os') H:=by
  unfold frzR
  cases e:ρ.getD i .un with
  | om rows =>
    have s:=f.sl i
    rw [e] at s
    obtain ⟨a,ps,eo,hu,hH,hl,i1⟩:=s
    have hi:=zkn e ‹131›
    have hn:=f.nd i
    rw [eo] at hn
    have less:∀ b,tot Z (putO os i [a]) b→tot Z os b:=by
      rintro b (z | ⟨j,z⟩)
      · exact .inl z
      · by_cases hj:j=i
        · subst hj; rw [zbs] at z; exact .inr ⟨j,by rw [eo,List.mem_singleton.mp z]; exact List.mem_cons_self⟩
        · rw [putO_ne hj] at z; exact .inr ⟨j,z⟩
    have out:∀ b,b∈ps→¬ tot Z (putO os i [a]) b:=by
      rintro b hb (z | ⟨j,z⟩)
      · exact (f.new i b (by rw [eo]; exact List.mem_cons_of_mem _ hb)).2 z
      · by_cases hj:j=i
        · subst hj; rw [zbs] at z; rw [List.mem_singleton.mp z] at hb; exact (List.nodup_cons.mp hn).1 hb
        · rw [putO_ne hj] at z; exact hj (f.dj j i b z (by rw [eo]; exact List.mem_cons_of_mem _ hb))
    have st:=f.step (H':=H) (i:=i) hi (o:=[a]) (s:=.ol ‹137›) (v:=some (.ref a)) (fun a u e _=>e) (fun a ha=>let ⟨xs,e⟩:=(f.sl i).dom ha; ⟨_,e⟩) (by simp) (fun b h=>by rw [List.mem_singleton.mp h,eo]; exact .inl List.mem_cons_self)
      ⟨a,ps.map V.ref,rfl,rfl,hH,by rw [List.length_map]; exact hl,zo4 less out i1⟩
    rw [set_self hu] at st
    exact ⟨_,st⟩
  | od d=>exact ⟨os,f,Kp.refl⟩
  | pm _ _ _=>exact ⟨os,f,Kp.refl⟩
  | pd _ _=>exact ⟨os,f,Kp.refl⟩
  | ol d=>exact ⟨os,f,Kp.refl⟩
  | un=>exact ⟨os,f,Kp.refl⟩
  | pu d=>exact ⟨os,f,Kp.refl⟩
  | bo d=>exact ⟨os,f,Kp.refl⟩
@[irreducible] noncomputable def zxb (i:Nat) (s:DS):DS:=fun ρ=>s (frzR i ρ)
theorem z2s {t:TS} {s:DS} (i:Nat) (h:SemS fr K t s):SemS fr K t (zxb i s):=fun {B Z os ρ σ H E} f p=>by
  obtain ⟨os',f',k⟩:=f.freezeR i
  unfold zxb at p
  exact h f' (Post.kp k p)
theorem Paired.setAt {α β:Type} {F G:α→β→Prop} {p:α} {y:β}:∀ {ps:List α} {rows:List β} {r:Nat},Paired F ps rows→ps.Nodup→(∀ q ds,q≠p→F q ds→G q ds)→ps[r]?=some p→G p y→Paired G ps (rows.set r y)
  | _,_,0,.cons h t,hn,hf,e,g=>by
    cases e
    exact .cons g (Paired.mono t fun q ds hq h=>hf q ds (fun z=>(List.nodup_cons.mp hn).1 (z ▸ hq)) h)
  | _,_,r+1,.cons h t,hn,hf,e,g=>by
    have e':=show _=some p by simpa using e
    exact .cons (hf _ _ (fun z=>(List.nodup_cons.mp hn).1 (z ▸ List.mem_of_getElem? e')) h) (Paired.setAt t (List.nodup_cons.mp hn).2 hf e' g)
theorem Paired.getF {α β:Type} {F:α→β→Prop}:∀ {ps:List α} {rows:List β} {r:Nat} {y:β},Paired F ps rows→rows[r]?=some y→∃ p,ps[r]?=some p∧F p y
  | _,_,0,_,.cons h _,e=>by cases e; exact ⟨_,rfl,h⟩
  | _,_,r+1,_,.cons _ t,e=>by
    obtain ⟨p,e1,h⟩:=Paired.getF (r:=r) t (by simpa using e)
    exact ⟨p,by simpa using e1,h⟩
theorem z6m {B H:Hp} {Z:Addr→Prop} {os:Own} {ρ:Rho} {σ:L2.St} (f:Fr K B Z os ρ σ H) {i:Nat} {rows:List (List D)} (e:ρ.getD i .un=.om rows) :
    ∃ a ps,os i=a::ps∧(σ[i]?).join=some (.ref a)∧H a=some (.lst (ps.map V.ref))∧ps.length≤sizeLine∧ps.length=rows.length∧Paired (fun p ds=>∃ vs,H p=some (.lst vs)∧vs.length≤sizeLine∧IsL K H (tot Z os) vs ds) ps rows:=by
  have s:=f.sl i
  rw [e] at s
  obtain ⟨a,ps,h1,h2,h3,h4,h5⟩:=s
  exact ⟨a,ps,h1,h2,h3,h4,Paired.length h5,h5⟩
theorem Fr.mutM1 {B H:Hp} {Z:Addr→Prop} {os:Own} {ρ:Rho} {σ:L2.St} (f:Fr K B Z os ρ σ H) {i r:Nat} {a p:Addr} {ps:List Addr} {rows:List (List D)} {ds':List D} {vs':List V} (e:ρ.getD i .un=.om rows) (eo:os i=a::ps) (hu:(σ[i]?).join=some (.ref a)) (hr:ps[r]?=some p) (hl:vs'.length≤sizeLine) (h:IsL K H (tot Z os) vs' ds') :
    Fr K B Z (putO os i (a::ps)) (ρ.set i (.om (rows.set r ds'))) σ (upd H p (.lst vs'))∧Kp (tot Z os) H (tot Z (putO os i (a::ps))) (upd H p (.lst vs')):=by
  have s:=f.sl i
  rw [e] at s
  obtain ⟨b,qs,eo',hu',hH,hlp,i1⟩:=s
  rw [eo] at eo'
  cases eo'
  have hi:=zkn e ‹131›
  have hn:=f.nd i
  rw [eo] at hn
  have hp:p∈ps:=List.mem_of_getElem? hr
  have hpo:p∈os i:=by rw [eo]; exact List.mem_cons_of_mem _ hp
  have hap:a≠p:=fun z=>(List.nodup_cons.mp hn).1 (z ▸ hp)
  have tt:tot Z (putO os i (a::ps))=tot Z os:=by
    funext c
    apply propext
    constructor
    · rintro (z | ⟨j,z⟩)
      · exact .inl z
      · by_cases hj:j=i
        · subst hj; rw [zbs] at z; exact .inr ⟨j,by rw [eo]; exact z⟩
        · rw [putO_ne hj] at z; exact .inr ⟨j,z⟩
    · rintro (z | ⟨j,z⟩)
      · exact .inl z
      · by_cases hj:j=i
        · subst hj; exact .inr ⟨j,by rw [zbs,← eo]; exact z⟩
        · exact .inr ⟨j,by rw [putO_ne hj]; exact z⟩
  have kp:Kp (tot Z os) H (tot Z os) (upd H p (.lst vs')):=fun b u e z=>⟨by rw [upd_ne (fun w=>z (.inr ⟨i,by rw [w]; exact hpo⟩))]; exact e,z⟩
  have st:=f.step (H':=upd H p (.lst vs')) (i:=i) hi (o:=a::ps) (s:=.om (rows.set r ds')) (v:=some (.ref a)) (fun b u e n=>by rw [upd_ne (fun z=>n (by rw [z]; exact hpo))]; exact e) (fun b hb=>?_) hn (fun b hb=>by rw [← eo] at hb; exact .inl hb)
    ⟨a,ps,rfl,rfl,by rw [upd_ne hap]; exact hH,hlp,?_⟩
  · rw [set_self hu'] at st
    exact st
  · by_cases hb':b=p
    · rw [hb']; exact ⟨_,zbb⟩
    · rw [upd_ne hb']; obtain ⟨xs,e⟩:=(f.sl i).dom hb; exact ⟨_,e⟩
  · rw [tt]
    exact Paired.setAt i1 (List.nodup_cons.mp hn).2 (fun q ds hq ⟨vs,h1,h2,h3⟩=>⟨vs,by rw [upd_ne hq]; exact h1,h2,h3.kp kp⟩) hr ⟨vs',zbb,hl,h.kp kp⟩
theorem Fr.mutM {B H:Hp} {Z:Addr→Prop} {os:Own} {ρ:Rho} {σ:L2.St} (f:Fr K B Z os ρ σ H) {i r:Nat} {a p:Addr} {ps:List Addr} {rows:List (List D)} {ds':List D} {vs':List V} (e:ρ.getD i .un=.om rows) (eo:os i=a::ps) (hu:(σ[i]?).join=some (.ref a)) (hr:ps[r]?=some p) (hl:vs'.length≤sizeLine) (h:IsL K H (tot Z os) vs' ds') :
    ∃ os',Fr K B Z os' (ρ.set i (.om (rows.set r ds'))) σ (upd H p (.lst vs'))∧Kp (tot Z os) H (tot Z os') (upd H p (.lst vs')):=⟨_,f.mutM1 e eo hu hr hl h⟩
theorem row_at {B H:Hp} {Z:Addr→Prop} {os:Own} {ρ:Rho} {σ:L2.St} (f:Fr K B Z os ρ σ H) {i:Nat} {rows:List (List D)} {n:Int} {r:Nat} {ds:List D} (e:ρ.getD i .un=.om rows) (hn:ixN rows.length n=some r) (hd:rows[r]?=some ds) :
    ∃ a ps p vs,os i=a::ps∧(σ[i]?).join=some (.ref a)∧H a=some (.lst (ps.map V.ref))∧atI (ps.map V.ref) n=some (V.ref p)∧ps[r]?=some p∧H p=some (.lst vs)∧vs.length≤sizeLine∧IsL K H (tot Z os) vs ds:=by
  obtain ⟨a,ps,h1,h2,h3,h4,h5,h6⟩:=z6m f e
  obtain ⟨p,e1,vs,g1,g2,g3⟩:=Paired.getF h6 hd
  refine ⟨a,ps,p,vs,h1,h2,h3,?_,e1,g1,g2,g3⟩
  unfold atI
  rw [List.length_map,h5,hn]
  show (ps.map V.ref)[r]?=_
  rw [List.getElem?_map,e1]
  rfl
@[irreducible] noncomputable def zu3 (i:Nat) (b c a:DE):DS:=fun ρ=>match ρ.getD i .un with
  | .om rows=>(match a ρ with
    | some d=>(match b ρ with
      | some (.int n)=>(match ixN rows.length n with
        | some r=>(match rows[r]? with
          | some ds=>(match c ρ with
            | some (.int m)=>(match ixN ds.length m with
              | some j=>.nx (ρ.set i (.om (rows.set r (ds.set j d))))
              | none=>.no)
            | _=>.no)
          | none=>.no)
        | none=>.no)
      | _=>.no)
    | none=>.no)
  | _=>.no
theorem zws {i:Nat} {ta tb tc:TE} {a b c:DE} (ha:SemI K ta a) (hb:SemB K tb b) (hc:SemB K tc c):SemS fr K (tAsg ta (gSub (tOp (rIx K) (tVar i) tb) tc z25)) (zu3 i b c a):=fun {B Z os ρ σ H E} f p=>by
  unfold zu3 at p
  split at p
  · rename_i rows e
    split at p
    · rename_i d e1
      split at p
      · rename_i n e2
        split at p
        · rename_i r e3
          split at p
          · rename_i ds e4
            split at p
            · rename_i m e5
              split at p
              · rename_i j e6
                obtain ⟨x,ps,q,vs,eo,hu,hH,hat,hr,hq,hl,il⟩:=row_at f e e3 e4
                refine ha f e1 fun v H1 s1 i1=>⟨_,join_some hu,hb ‹72› e2 fun w H2 s2 i2=>?_⟩
                have s12:=s1.trans s2
                refine .inl ⟨x,ps.map V.ref,n,.ref q,rfl,i2.isInt,SqL.of (s12 _ _ hH),hat,hc (f.grow s12) e5 fun u H3 s3 i3=>?_⟩
                have s13:=s12.trans s3
                have f3:=f.grow s13
                obtain ⟨os',f',k⟩:=f3.mutM (vs':=vs.set j v) (ds':=ds.set j d) e eo hu hr (by rw [List.length_set]; exact hl) ((il.same s13).set ((i1.same s2).same s3) j)
                exact ⟨q,vs,m,j,rfl,i3.isInt,s13 _ _ hq,by rw [il.length]; exact e6,p os' _ _ f' ((Kp.same s13).trans k)⟩
              · exact p.elim
            · exact p.elim
          · exact p.elim
        · exact p.elim
      · exact p.elim
    · exact p.elim
  · exact p.elim
end
end VL
namespace VL
open PySem L2
open Classical
noncomputable section
variable [Tabs] {K:PySem.W.Frag} {fr:Fm}
theorem z0x {B H1 H:Hp} {Z W:Addr→Prop} {os:Own} {ρ:Rho} {σ:L2.St} (f:Fr K B Z os ρ σ H1) (s:Same H1 H) (hw:∀ a,W a→∃ o,H a=some o) (hk:Kp (tot Z os) H1 W H) (k:Nat) (cs:List Nat) :
    Fr K H1 W (fun _=>[]) (r0 k cs ρ) (s0 k cs σ) H where
  keep:=s
  zin:=hw
  tab:=f.tabH
  len:=by unfold r0 s0; simp
  nd:=fun _=>List.nodup_nil
  dj:=fun _ _ _ h=>by cases h
  new:=fun _ _ h=>by cases h
  sl:=fun j=>by
    have kp:Kp (tot Z os) H1 (tot W fun _=>[]) H:=fun a u e z=>⟨(hk a u e z).1,fun q=>q.elim (hk a u e z).2 fun ⟨_,q⟩=>by cases q⟩
    unfold r0 s0
    rw [List.getD_eq_getElem?_getD]
    by_cases hj:j<k
    · rw [List.getElem?_append_left ‹68›,List.getElem?_append_left ‹68›,List.getElem?_replicate,if_pos hj]
      exact rfl
    · rw [List.getElem?_append_right ‹68›,List.getElem?_append_right ‹68›,List.length_replicate,List.length_replicate,List.getElem?_map,List.getElem?_map]
      cases e:cs[j-k]? with
      | none=>exact rfl
      | some i =>
        have h:=f.sl i
        show SlOk K _ _ _ _ (view (ρ.getD i .un)) ((σ[i]?).join)
        cases e2:ρ.getD i .un with
        | un=>exact rfl
        | pu d =>
          rw [e2] at h
          obtain ⟨_,u,hu,i1⟩:=h
          exact ⟨rfl,u,hu,i1.kp kp⟩
        | bo d =>
          rw [e2] at h
          obtain ⟨_,u,hu,i1⟩:=h
          exact ⟨rfl,u,hu,i1.same f.keep⟩
        | ol ds =>
          rw [e2] at h
          obtain ⟨a,vs,_,hu,hH,hl,i1⟩:=h
          exact ⟨rfl,_,hu,.lst (fun z=>z) (.inl hH) hl i1.all⟩
        | om rows =>
          rw [e2] at h
          obtain ⟨a,ps,_,hu,hH,hl,i1⟩:=h
          exact ⟨rfl,_,hu,.lst (fun z=>z) (.inl hH) ‹52› (zi2 i1)⟩
        | od kvs =>
          rw [e2] at h
          obtain ⟨a,_,hu,hH,hl⟩:=h
          exact ⟨rfl,_,hu,.dct (fun z=>z) (.inl hH) hl⟩
        | pm a ps rows =>
          rw [e2] at h
          obtain ⟨_,hu,hH,hl,i1⟩:=h
          exact ⟨rfl,_,hu,.lst (fun z=>z) (.inl hH) ‹52› (zi2 i1)⟩
        | pd a kvs =>
          rw [e2] at h
          obtain ⟨_,hu,hH,hl⟩:=h
          exact ⟨rfl,_,hu,.dct (fun z=>z) (.inl hH) hl⟩
def zjc (g:DG) (t:Rho→Option Bool) (e:Rho→Option (List D)) (ρ0:Rho):List D→Option (List (List D))
  | []=>some []
  | d::ds=>match g d ρ0 with
    | none=>none
    | some ρ1=>match t ρ1 with
      | none=>none
      | some false=>zjc g t e ρ0 ds
      | some true=>match e ρ1 with
        | none=>none
        | some y=>match zjc g t e ρ0 ds with
          | none=>none
          | some ys=>some (y::ys)
noncomputable def zk2 (k:Nat) (cs:List Nat) (it:Rho→Option (List D)) (g:DG) (t:Rho→Option Bool) (e:Rho→Option (List D)):Rho→Option (List (List D)):=fun ρ=>match it ρ with
  | some ds=>zjc g t e (r0 k cs ρ) ds
  | none=>none
theorem zwx {m:Bool} {k:Nat} {cs:List Nat} {wi:TI} {g:TG} {tt:TT} {te:TE} {it:Rho→Option (List D)} {gd:DG} {td:Rho→Option Bool} {ed:Rho→Option (List D)} (hw:zvr K m wi it) (hg:SemG K m g gd) (ht:SemT K tt td) (he:SemF K te ed) :
    SemM K (zsa wi g tt te (s0 k cs)) (zk2 k cs it gd td ed):=fun {B Z os ρ σ H Q ds} f q kk=>by
  unfold zk2 at q
  split at q
  · rename_i xs e0
    refine hw f e0 fun J H1 s1 W Dl hD=>?_
    have f1:=f.grow s1
    have sD:∀ {H2:Hp} {ys:List V},Same H1 H2→Same H1 (upd H2 Dl (.lst ys)):=fun {H2 ys} s a o e=>by
      rw [upd_ne (zbo e hD)]; exact s _ _ e
    let ZZ:List Addr→Addr→Prop:=fun ps a=>(a=Dl∨a∈ps)∨tot Z os a
    refine ⟨fun i m ys H2=>m=xs.length-i∧i≤xs.length∧Same H1 H2∧H2 Dl=some (.lst ys)∧ys.length≤i∧∃ ps done rest,ys=ps.map V.ref∧(∀ a∈ps,H1 a=none)∧(Dl::ps).Nodup∧Paired (fun q ds=>∃ vs,H2 q=some (.lst vs)∧vs.length≤sizeLine∧IsL K H2 (ZZ ps) vs ds) ps done∧zjc gd td ed (r0 k cs ρ) (xs.drop i)=some rest∧done++rest=ds,
      ⟨_,rfl,Nat.zero_le _,sD ‹101›,zbb,Nat.le_refl _,[],[],ds,rfl,(fun a h=>by cases h),(by simp),.nil,q,rfl⟩,?_⟩
    rintro i mm ys H2 ⟨rfl,hi,s2,eD,hly,ps,done,rest,rfl,hps,hnd,il,q2,ed2⟩
    have zin2:∀ a,ZZ ps a→∃ o,H2 a=some o:=by
      rintro a ((rfl | z) | z)
      · exact ⟨_,eD⟩
      · obtain ⟨_,vs,h,_⟩:=Paired.any il z
        exact ⟨_,h⟩
      · obtain ⟨u,e⟩:=f1.tin a z
        exact ⟨u,s2 _ _ e⟩
    have kp12:Kp (tot Z os) H1 (ZZ ps) H2:=fun a u e z=>⟨s2 _ _ e,fun w=>by
      rcases w with (rfl | w) | w
      · rw [hD] at e; cases e
      · rw [hps a w] at e; cases e
      · exact z w⟩
    by_cases hlt:i<xs.length
    · have ex:xs[i]?=some xs[i]:=List.getElem?_eq_getElem hlt
      obtain ⟨go,yl⟩:=W.go i xs[i] H2 _ kp12 s2 zin2 ex
      refine .inr ⟨go,fun x H3 hy=>?_⟩
      obtain ⟨s3,er⟩:=yl x H3 hy
      have eD3:=s3 _ _ eD
      have s13:=s2.trans s3
      have kp13:Kp (tot Z os) H1 (ZZ ps) H3:=kp12.trans (Kp.same s3)
      have ef3:=z0x f1 s13 (fun a z=>let ⟨o,e⟩:=zin2 a z; ⟨o,s3 _ _ e⟩) kp13 k cs
      rw [List.drop_eq_getElem_cons hlt] at q2
      unfold zjc at q2
      have er':ER K m H1 H3 (tot (ZZ ps) fun _=>[]) x xs[i]:=by
        cases m with
        | false=>exact er
        | true=>exact Is.kp ‹81› er
      have il3:∀ {H':Hp},Same H2 H'→Paired (fun q ds=>∃ vs,H' q=some (.lst vs)∧vs.length≤sizeLine∧IsL K H' (ZZ ps) vs ds) ps done:=fun {H'} s=>Paired.mono il fun q ds _ ⟨vs,h1,h2,h3⟩=>⟨vs,s _ _ h1,h2,h3.same s⟩
      split at q2
      · cases q2
      · rename_i ρ1 e1
        refine hg ef3 er' e1 fun os1 σ1 fr1 k1=>?_
        split at q2
        · cases q2
        · rename_i e2
          refine ht fr1 e2 fun H4 s4=>iteF ⟨_,by omega,rfl,hlt,s13.trans s4,s4 _ _ eD3,by omega,ps,done,rest,rfl,hps,hnd,il3 (s3.trans s4),q2,ed2⟩
        · rename_i e2
          refine ht fr1 e2 fun H4 s4=>iteT ?_
          split at q2
          · cases q2
          · rename_i y e3
            split at q2
            · cases q2
            · rename_i rs e4
              cases q2
              refine he (fr1.grow s4) e3 fun x2 vs2 H5 s5 hx2 hH5 hl5 i5=>?_
              have s35:=s4.trans s5
              have s25:=s3.trans s35
              have eD5:=s35 _ _ eD3
              have hl:=W.len
              have hx3:H3 x2=none:=Same.free s4 hx2
              have hxD:x2≠Dl:=fun z=>by rw [z,eD3] at hx3; cases hx3
              have hxps:x2∉ps:=fun z=>by
                obtain ⟨o,e⟩:=zin2 x2 (.inl (.inr z))
                rw [s3 _ _ e] at hx3; cases hx3
              have hxt:¬ tot Z os x2:=fun z=>by
                obtain ⟨o,e⟩:=zin2 x2 (.inr z)
                rw [s3 _ _ e] at hx3; cases hx3
              have sub:∀ a,ZZ (ps++[x2]) a→a=x2∨ZZ ps a:=by
                rintro a ((rfl | z) | z)
                · exact .inr (.inl (.inl rfl))
                · rcases List.mem_append.mp z with z | z
                  · exact .inr (.inl (.inr z))
                  · exact .inl (List.mem_singleton.mp z)
                · exact .inr (.inr z)
              have sup:∀ a,a=x2∨ZZ ps a→ZZ (ps++[x2]) a:=by
                rintro a (rfl | (rfl | z) | z)
                · exact .inl (.inr (by simp))
                · exact .inl (.inl rfl)
                · exact .inl (.inr (List.mem_append_left _ z))
                · exact .inr z
              have kp5:∀ (zs:List V),Kp (ZZ ps) H2 (ZZ (ps++[x2])) (upd H5 Dl (.lst zs)):=fun zs a u e z=>⟨by rw [upd_ne (fun w=>z (.inl (.inl w)))]; exact s25 _ _ e,fun w=>by
                rcases sub a w with rfl | w
                · rw [s3 _ _ e] at hx3; cases hx3
                · exact z w⟩
              have kp6:∀ (zs:List V),Kp (ZZ (ps++[x2])) H5 (ZZ (ps++[x2])) (upd H5 Dl (.lst zs)):=fun zs a u e z=>⟨by rw [upd_ne (fun w=>z (.inl (.inl w)))]; exact e,z⟩
              refine ⟨eD5,by rw [List.length_map] at hly ⊢; omega,_,by omega,rfl,hlt,sD (s13.trans s35),zbb,by rw [List.length_append,List.length_singleton]; omega,ps++[x2],done++[y],rs,by rw [List.map_append]; rfl,fun a ha=>?_,?_,?_,e4,by rw [List.append_assoc]; exact ed2⟩
              · rcases List.mem_append.mp ha with ha | ha
                · exact hps a ha
                · rw [List.mem_singleton.mp ha]; exact Same.free s13 hx3
              · rw [← List.cons_append,List.nodup_append]
                refine ⟨hnd,by simp,fun a h1 b h2=>?_⟩
                rw [List.mem_singleton.mp h2]
                rintro rfl
                rcases List.mem_cons.mp h1 with z | z
                · exact hxD z
                · exact hxps z
              · refine Paired.append (Paired.mono il fun q ds hq ⟨vs,h1,h2,h3⟩=>⟨vs,?_,h2,h3.kp (kp5 _)⟩) (.cons ⟨vs2,?_,hl5,?_⟩ .nil)
                · rw [upd_ne (fun z=>by rw [z] at hq; exact (List.nodup_cons.mp hnd).1 hq)]; exact s25 _ _ h1
                · rw [upd_ne hxD]; exact hH5
                · exact (i5.kp (Kp.less fun a z=>by
                    rcases sub a z with z | z
                    · exact .inl z
                    · exact .inr (.inl z)):IsL K H5 (ZZ (ps++[x2])) vs2 y).kp (kp6 _)
    · have e:i=xs.length:=by omega
      subst e
      rw [List.drop_length] at q2
      cases q2
      rw [List.append_nil] at ed2
      subst ed2
      have hl:=W.len
      rw [List.length_map] at hly
      exact .inl ⟨W.stop _ H2 _ kp12 s2 rfl,eD,kk Dl ps H2 ‹36› (Same.free s1 hD) (fun a ha=>Same.free s1 (hps a ha)) hnd eD (by omega) il⟩
  · cases q
section
variable {s u b:DS} {ρ:Rho} {W:Wk} {i:Nat} {a e k c:DE} {d:D} {rows:List (List D)} {ds:List D}
theorem zv0 {es:Rho→Option (List (List D))} (h:es ρ=some rows) (hi:i < ρ.length) (k:W.nx (ρ.set i (.om rows))):Wp (zsi i es) ρ W:=by unfold Wp zsi; rw [h]; simp only [if_pos hi]; exact k
theorem z2d (h:Wp s (frzR i ρ) W):Wp (zxb i s) ρ W:=by unfold Wp zxb at *; exact h
theorem z2c (h:ρ.getD i .un=.ol ds) (k:W.rt (.lst ds)):Wp (zxa i) ρ W:=by unfold Wp zxa; rw [h]; exact k
theorem zv2 {n m:Int} {r j:Nat} (h0:ρ.getD i .un=.om rows) (h1:a ρ=some d) (h2:e ρ=some (.int n)) (h3:ixN rows.length n=some r) (h4:rows[r]?=some ds) (h5:c ρ=some (.int m)) (h6:ixN ds.length m=some j) (k:W.nx (ρ.set i (.om (rows.set r (ds.set j d))))):Wp (zu3 i e c a) ρ W:=by
  unfold Wp zu3; rw [h0]; simp only [h1,h2,h3,h4,h5,h6]; exact k
theorem zug {F:List D→Option D} {es:Rho→Option (List D)} {xs:List D} (h:es ρ=some xs) (h2:F xs=some (.lst ds)):zn2 F es ρ=some ds:=by unfold zn2 za4; rw [h]; simp only [h2]
theorem z0s {α:Type} {k:Nat} {cs:List Nat} {it:Rho→Option (List D)} {g:DG} {t:Rho→Option Bool} {el:Rho→Option (List D)} (emb:α→D) {xs:List α} (h:it ρ=some (xs.map emb)) (p:α→Bool) (f:α→List D)
    (hs:∀ x∈xs,∃ ρ1,g (emb x) (r0 k cs ρ)=some ρ1∧t ρ1=some (p x)∧(p x=true→el ρ1=some (f x))):zk2 k cs it g t el ρ=some ((xs.filter p).map f):=by
  unfold zk2
  rw [h]
  show zjc g t el (r0 k cs ρ) (xs.map emb)=_
  clear h
  induction xs with
  | nil=>rfl
  | cons x r ih =>
    obtain ⟨ρ1,e1,e2,e3⟩:=hs x List.mem_cons_self
    rw [List.map_cons]
    unfold zjc
    rw [e1]
    dsimp only
    rw [e2]
    have q:=ih fun y hy=>hs y (List.mem_cons_of_mem _ hy)
    cases hp:p x with
    | false=>rw [List.filter_cons_of_neg (by rw [hp]; exact Bool.false_ne_true)]; exact q
    | true =>
      rw [List.filter_cons_of_pos hp,List.map_cons]
      dsimp only
      rw [e3 hp]
      dsimp only
      rw [q]
theorem zy1 {α:Type} {k:Nat} {cs:List Nat} {it:Rho→Option (List D)} {g:DG} {el:Rho→Option (List D)} (emb:α→D) {xs:List α} (h:it ρ=some (xs.map emb)) (f:α→List D)
    (hs:∀ x∈xs,∃ ρ1,g (emb x) (r0 k cs ρ)=some ρ1∧el ρ1=some (f x)):zk2 k cs it g zdc el ρ=some (xs.map f):=by
  have:=z0s (k:=k) (cs:=cs) (g:=g) (t:=zdc) (el:=el) emb h (fun _=>true) f fun x hx=>let ⟨ρ1,e1,e2⟩:=hs x hx; ⟨ρ1,e1,rfl,fun _=>e2⟩
  rw [this,List.filter_eq_self.mpr fun _ _=>rfl]
end
theorem zfo {F:List D→Option D} {n:Nat} {ms:List Bool} {b:DS} (hF:F=runF n ms b) {ds:List D} {d:D} (h:Wp b (stD n ms ds) { nx:=fun _=>False,rt:=fun x=>x=d }):F ds=some d:=by
  rw [hF]
  unfold runF
  unfold Wp at h
  cases e:b (stD n ms ds) with
  | rt x=>rw [e] at h; show some x=some d; rw [show x=d from h]
  | nx ρ=>rw [e] at h; exact h.elim
  | bk ρ=>rw [e] at h; exact h.elim
  | ct ρ=>rw [e] at h; exact h.elim
  | no=>rw [e] at h; exact h.elim
theorem zo2 {F:List D→Option D} {n:Nat} {ms:List Bool} {b:DS} (hF:F=runF n ms b) {ds:List D} {P:D→Prop} (h:Wp b (stD n ms ds) { nx:=fun _=>False,rt:=P }):∃ d,F ds=some d∧P d:=by
  rw [hF]
  unfold runF
  unfold Wp at h
  cases e:b (stD n ms ds) with
  | rt x=>rw [e] at h; exact ⟨x,rfl,h⟩
  | nx ρ=>rw [e] at h; exact h.elim
  | bk ρ=>rw [e] at h; exact h.elim
  | ct ρ=>rw [e] at h; exact h.elim
  | no=>rw [e] at h; exact h.elim
end
end VL
namespace VL
open PySem L2
open Classical
noncomputable section
variable [Tabs] {K:PySem.W.Frag} {fr:Fm}
inductive Puts (K:PySem.W.Frag):List (TE×TE)→List (DE×DE)→Prop
  | nil:Puts K [] []
  | cons {tc ta:TE} {c a:DE} {l:List (TE×TE)} {l':List (DE×DE)} (ha:SemI K ta a) (hc:SemB K tc c) (r:Puts K l l'):Puts K ((tc,ta)::l) ((c,a)::l')
end
end VL
namespace L2
open PySem PySem.Spec PyProof.Rows
theorem zyb (o:Obj) (f):(o.mapFields f).dict=o.dict:=by
  cases o with | mk c d dt sl=>cases dt <;> rfl
def Rec (h:Heap) (e T:Addr) (cls fl:Value):Prop :=
  ∃ oe vs oT ts,(h.get? e=some oe∧oe.cls=cls∧oe.dict=none∧oe.data=.fields vs)∧vs[1]?=some (.ref T)∧T≠e∧h.get? T=some oT∧oT.data=.fields ts∧ts[3]?=some fl
structure Hop (fr ch:List Addr) (h h':Heap):Prop where
  keep:∀ b o,b∉fr→b∉ch→h.get? b=some o→h'.get? b=some o
  slot:∀ b o,b∉ch→h.get? b=some o→∃ sl,h'.get? b=some { o with slots:=sl }
theorem Hop.trans {fr c1 c2:List Addr} {h h1 h2:Heap} (a:Hop fr c1 h h1) (b:Hop fr c2 h1 h2):Hop fr (c1++c2) h h2 where
  keep:=fun x o hf hc q=>b.keep x o hf (fun z=>hc (List.mem_append_right _ z)) (a.keep x o hf (fun z=>hc (List.mem_append_left _ z)) q)
  slot:=fun x o hc q=>by
    obtain ⟨s1,q1⟩:=a.slot x o (fun z=>hc (List.mem_append_left _ z)) q
    obtain ⟨s2,q2⟩:=b.slot x _ (fun z=>hc (List.mem_append_right _ z)) q1
    exact ⟨s2,q2⟩
theorem Hop.upd {fr:List Addr} {h:Heap} {a:Addr} (f:Obj→Obj):Hop fr [a] h (h.update a f) where
  keep:=fun b o _ hc q=>by rw [Heap.get?_update_other _ _ fun z=>hc ‹106›]; exact q
  slot:=fun b o hc q=>⟨o.slots,by rw [Heap.get?_update_other _ _ fun z=>hc ‹106›]; exact q⟩
section
variable {M:Model} {A:Around} {E:Value→Shared→Prop} {s:Shared} {base:Heap} {env:Env} {outer:List Env} {L e T:Addr} {cls fl:Value} {Q:Unit→Shared→Prop}
theorem zko {oe:Obj} {vs:Array Value} {head:Value} {more:Bool} (h1:A.frames=some (env::outer)) (h2:s.heap.FunFrames base (env::outer)) (h3:env.frame=some L)
    (h4:s.heap.get? e=some oe) (h5:oe.data=.fields vs) (h6:1<vs.size) (h7:oe.dict=none)
    (q:∀ h' T,s.heap.get? T=none→Rec h' e T oe.cls (rawInt L)→Hop (frs (env::outer)) [e] s.heap h'→Q () { s with heap:=h' }) :
    wpAny M A (do let f ← frameOf env; let p ← entryPlaceOf L more; let b ← EntryCells.newEntry head f .none (rawInt L) .none p; setField (.ref e) 1 b) Q E s:=by
  have nf:e∉frs (env::outer):=fun hm=>by
    obtain ⟨_,o,ho,hz⟩:=h2.mem hm
    rw [h4] at ho
    cases ho
    exact hz vs h5
  refine wpAny_bind (wpAny_frameOf_fun h1 h2 h3 fun g so=>wpAny_bind (wpAny_entryPlaceOf fun p hp=>?_))
  obtain ⟨z1,z2,z3⟩:=so
  unfold EntryCells.newEntry newFields
  refine wpAny_bind (wpAny_newObj_type ?_ (hp.sizeOk5 _ _ _ _ _))
  have e1:g.get? e=some oe:=by rw [z2 e nf]; exact h4
  have e2:=Heap.get?_push_of_some (h:=g) { cls:=.type "traceback", dict:=none,data:=.fields ([head,.ref L,.none,rawInt L,.none]++(if p.isEmpty then List.replicate 6 Value.none else p)).toArray } e1
  refine wpAny_setField e2 h5 h6 (q _ g.objs.size ?_ ?_ ?_)
  · exact Heap.get?_none_of_le (by rw [z1]; exact Nat.le_refl _)
  · have ne:g.objs.size≠e:=Nat.ne_of_gt (Heap.lt_size e1)
    have d:=Obj.data_mapFields h5 (·.setIfInBounds 1 (Value.ref g.objs.size))
    refine ⟨_,_,_,_,⟨Heap.get?_update_self _ e2 (Obj.isFreed_of_fields d),Obj.cls_mapFields _ _,by rw [zyb]; exact h7,d⟩,by simp [h6],ne,(Heap.get?_update_other _ _ (Ne.symm ne)).trans (Heap.get?_push_size g rfl),rfl,?_⟩
    first
      | (simp; done)
      | (rcases hp with rfl | ⟨_,_,_,_,_,_,_,rfl⟩ <;> simp)
  · refine ⟨fun b o hb hc y=>?_,fun b o hc y=>?_⟩
    · rw [Heap.get?_update_other _ _ fun z=>hc ‹106›]
      exact Heap.get?_push_of_some _ (by rw [z2 b hb]; exact y)
    · obtain ⟨sl,y1⟩:=z3 b o y
      refine ⟨sl,?_⟩
      rw [Heap.get?_update_other _ _ fun z=>hc ‹106›]
      exact Heap.get?_push_of_some _ y1
theorem zvc {oe:Obj} {vs:Array Value} (h1:A.frames=some (env::outer)) (h2:s.heap.FunFrames base (env::outer)) (h3:env.frame=some L)
    (h4:s.heap.get? e=some oe) (h5:oe.data=.fields vs) (h6:vs[1]?=some .none) (h7:oe.dict=none)
    (q:∀ h' T,s.heap.get? T=none→Rec h' e T oe.cls (rawInt L)→Hop (frs (env::outer)) [e] s.heap h'→Q () { s with heap:=h' }):wpAny M A (noteFrame (.ref e) env) Q E s:=by
  unfold noteFrame
  simp only [h3]
  refine wpAny_bind (wpAny_field h4 h5 h6 ?_)
  rw [if_neg ‹3›]
  exact zko h1 h2 h3 h4 h5 (Array.getElem?_eq_some_iff.mp h6).1 h7 q
theorem zjv (h1:A.frames=some (env::outer)) (h2:s.heap.FunFrames base (env::outer)) (h3:env.frame=some L) (r:Rec s.heap e T cls .none)
    (q:∀ h' T',s.heap.get? T'=none→Rec h' e T' cls (rawInt L)→Hop (frs (env::outer)) [T,e] s.heap h'→Q () { s with heap:=h' }):wpAny M A (noteFrame (.ref e) env) Q E s:=by
  obtain ⟨oe,vs,oT,ts,⟨a1,a2,a3,a4⟩,b1,ne,b2,b3,b4⟩:=r
  subst a2
  unfold noteFrame
  simp only [h3]
  refine wpAny_bind (wpAny_field a1 a4 b1 ?_)
  rw [if_pos (by simp)]
  refine wpAny_bind (wpAny_field b2 b3 b4 ?_)
  rw [if_neg (by simp [rawInt])]
  refine wpAny_bind (wpAny_setField b2 b3 ‹87›.1 ?_)
  have other:∀ b,b≠T→∀ x:Obj→Obj,(s.heap.update T x).get? b=s.heap.get? b:=fun b hb x=>Heap.get?_update_other _ _ (Ne.symm hb)
  refine zko h1 (h2.of_keeps fun b o hb hn=>⟨o,?_,rfl⟩) h3 ((other e (Ne.symm ne) _).trans a1) a4 (Array.getElem?_eq_some_iff.mp b1).1 a3 fun h' T' n1 r1 hp=>q h' T' ?_ r1 ?_
  · rw [other b (fun z=>by rw [z,b2] at hb; cases hb; exact hn ts b3)]; exact hb
  · by_cases z:T'=T
    · rw [z] at n1
      rw [Heap.get?_update_self _ b2 (Obj.isFreed_of_fields (Obj.data_mapFields b3 _))] at n1
      cases n1
    · rw [other T' z] at n1; exact n1
  · exact (Hop.upd (fr:=frs (env::outer)) _).trans hp
theorem land (r:Rec s.heap e T cls fl) (q:∀ h',Rec h' e T cls .none→Hop (frs (env::outer)) [T] s.heap h'→Q () { s with heap:=h' }):wpAny M A (setFlight (.ref e) none) Q E s:=by
  obtain ⟨oe,vs,oT,ts,⟨a1,a2,a3,a4⟩,b1,ne,b2,b3,b4⟩:=r
  refine wpAny_setFlight_none a1 a4 b1 b2 b3 ‹87›.1 (q _ ?_ (Hop.upd _))
  have d:=Obj.data_mapFields b3 (·.setIfInBounds 3 Value.none)
  exact ⟨oe,vs,_,_,⟨(Heap.get?_update_other _ _ ne).trans a1,a2,a3,a4⟩,b1,ne,Heap.get?_update_self _ b2 (Obj.isFreed_of_fields d),d,by simp [‹87›.1]⟩
end
structure Out (X:Cx) (pins:List (Addr×Obj)) (H:Hp) (b:Addr):Prop where
  h:H b=none
  s0:X.s₀.heap.get? b=none
  loc:b≠X.env.locals
  cell:∀ x c,X.env.cells.lookup x=some c→c≠b
  pin:∀ p∈X.pn++pins,p.1≠b
section
variable {P:Program} {w:World} {H:Hp} {h:Heap} {a:Addr} {o:HO}
theorem ObjOk.live (x:ObjOk P w H h a o):∃ u,h.get? a=some u:=by
  cases o with
  | lst xs=>obtain ⟨_,_,_,_,e⟩:=x; exact ⟨_,e⟩
  | tup xs=>obtain ⟨_,_,_,ob,e,_⟩:=x; exact ⟨_,e⟩
  | dK kvs=>obtain ⟨_,_,_,_,o,_,_,e,_⟩:=x; exact ⟨_,e⟩
  | dT kvs=>obtain ⟨_,_,_,_,o,_,_,e,_⟩:=x; exact ⟨_,e⟩
  | set S n=>obtain ⟨o,_,_,_,e,_⟩:=x; exact ⟨_,e⟩
  | ins C dx fs=>obtain ⟨_,_,_,e,_⟩:=x; exact ⟨_,e⟩
  | own y=>exact x
  | xd fs=>obtain ⟨_,⟨_,_,_,e,_⟩,_⟩:=x; exact ⟨_,e⟩
  | rng lo hi=>obtain ⟨_,_,_,e⟩:=x; exact ⟨_,e⟩
  | frz ob u=>obtain ⟨e,_⟩:=x; exact ⟨_,e⟩
  | tbl ps=>obtain ⟨_,_,_,_,e,_⟩:=x; exact ⟨_,e⟩
  | met f y=>exact ⟨_,show h.get? a=some _ from x⟩
  | ext φ=>obtain ⟨_,e,_⟩:=x; exact e
end
section
variable {X:Cx} {pins:List (Addr×Obj)} {σ:St} {H H':Hp} {s:Shared}
theorem Inv.out (I:Inv X pins σ H s) (hx:X.ex=[]) {b:Addr} (e:s.heap.get? b=none):Out X pins H b where
  h:=by
    cases q:H b with
    | none=>rfl
    | some o=>obtain ⟨u,hu⟩:=(I.hok b o q).live; rw [e] at hu; cases hu
  s0:=by
    cases q:X.s₀.heap.get? b with
    | none=>rfl
    | some o=>obtain ⟨u,hu⟩:=I.base.there b o q (by rw [hx]; simp); rw [e] at hu; cases hu
  loc:=fun z=>by
    obtain ⟨m,⟨o,_,_,ho,_⟩,_⟩:=I.loc
    rw [← z,e] at ho; cases ho
  cell:=fun x c q z=>by
    obtain ⟨v,o,ho,_⟩:=I.cell x c q
    rw [z,e] at ho; cases ho
  pin:=fun p hp z=>by
    have:=(I.pin p hp).1
    rw [z,e] at this; cases this
theorem Inv.hop {h':Heap} {ch:List Addr} {t':Nat} (I:Inv X pins σ H s) (hp:Hop (frs X.stack) ch s.heap h') (hc:∀ b∈ch,Out X pins H b):Inv X pins σ H { s with heap:=h',toks:=t' }:=by
  have nst:∀ b,b≠X.env.locals→b∉X.fs→b∉frs X.stack:=fun b h1 h2 h3=>by
    rcases List.mem_cons.mp (I.stkSub b h3) with z | z
    · exact h1 z
    · exact h2 z
  have neC:∀ b o,X.s₀.heap.get? b=some o→b∉ch:=fun b o e z=>by rw [(hc b z).s0] at e; cases e
  have neL:∀ b o,X.s₀.heap.get? b=some o→b≠X.env.locals:=fun b o e=>Nat.ne_of_lt ‹45›
  have cellK:∀ x c,X.env.cells.lookup x=some c→∀ v,s.heap.IsCell c v→h'.IsCell c v:=fun x c e v ⟨o,ho,hd⟩=>by
    obtain ⟨sl,q⟩:=hp.slot c o (fun z=>(hc c z).cell x c e rfl) ho
    exact ⟨_,q,hd⟩
  refine ⟨I.ok,I.os,I.bare,⟨fun b o e n hb hx=>?_,fun b o e n hb hx=>?_,I.base.free,fun b o e hx=>?_,I.base.tups,I.base.frzs,I.base.tbls⟩,?_,fun x c e=>?_,I.free,I.freeC,fun p hq=>?_,fun b u e=>?_,I.len⟩
  · exact hp.keep b o (nst b (neL b o e) hb) (neC b o e) (I.base.keep b o e n hb hx)
  · obtain ⟨sl,e1⟩:=I.base.slot b o e n hb hx
    obtain ⟨sl',e2⟩:=hp.slot b _ (neC b o e) e1
    exact ⟨sl',e2⟩
  · obtain ⟨o',e1⟩:=I.base.there b o e hx
    obtain ⟨sl,e2⟩:=hp.slot b o' (neC b o e) e1
    exact ⟨_,e2⟩
  · obtain ⟨m,⟨o,es,ep,ho,r⟩,hl⟩:=I.loc
    obtain ⟨sl,q⟩:=hp.slot _ o (fun z=>(hc _ z).loc rfl) ho
    refine ⟨m,⟨_,es,ep,q,r⟩,fun i x v e1 e2 e3=>?_⟩
    obtain ⟨u,ru,l⟩:=hl i x v e1 e2 e3
    refine ⟨u,ru,?_⟩
    rcases l with l | ⟨k,c,e,z⟩
    · exact .inl l
    · exact .inr ⟨k,c,e,cellK x c e _ z⟩
  · obtain ⟨v,z⟩:=I.cell x c e
    exact ⟨v,cellK x c e v z⟩
  · obtain ⟨e,n,ne,nf,d⟩:=I.pin p hq
    exact ⟨hp.keep p.1 p.2 (nst _ ne nf) (fun z=>(hc _ z).pin p hq rfl) e,n,ne,nf,d⟩
  · have k:∀ c v,(H c).isSome=true→s.heap.get? c=some v→h'.get? c=some v:=fun c v hs q =>
      hp.keep c v (fun z=>by rw [I.stkFree c z] at hs; cases hs) (fun z=>by rw [(hc c z).h] at hs; cases hs) q
    refine (I.hok b u e).stay (fun c v hb q=>k c v ?_ q) (fun _ q=>q) fun _ _ q=>q
    rcases hb with rfl | hb
    · rw [e]; rfl
    · rw [hb]; rfl
theorem Out.weak {b:Addr} (o:Out X pins H b) (h:H' b=none):Out X pins H' b:=⟨h,o.s0,o.loc,o.cell,o.pin⟩
end
def Fly (h₀ h:Heap) (H:Hp) (e:Addr) (cls:Value):Prop:=∃ T,Rec h e T cls .none∧(H e=none∧h₀.get? e=none)∧(H T=none∧h₀.get? T=none)
def CXE (P:Program) (w:World):CXT:=fun outer H s E e s'=>∃ a cls H',e=.ref a∧s'.os=s.os∧AllBare s'.gens∧Un (frs outer) [] H H' s.heap s'.heap∧HOk P w H' s'.heap∧Fly s.heap s'.heap H' a cls∧E cls none H'
structure OwnX (X:Cx):Prop where
  stk:X.stack=X.env::X.outer
  fr:X.env.frame=some X.env.locals
  ex:X.ex=[]
section
variable {X:Cx} {pins:List (Addr×Obj)} {σ:St} {H:Hp} {s s':Shared} {E:XK} {e:Value}
theorem Inv.raised (I:Inv X pins σ H s) (hx:X.ex=[]) (h:CXE X.prog X.w X.stack H s E e s'):∃ a T cls H',e=.ref a∧Inv X pins σ H' s'∧Rec s'.heap a T cls .none∧Out X pins H' a∧Out X pins H' T∧E cls none H':=by
  obtain ⟨a,cls,H',rfl,ho,hb,u,hok,⟨T,r,⟨a1,a2⟩,b1,b2⟩,q⟩:=h
  exact ⟨a,T,cls,H',rfl,I.call' ho u hok hb (fun b z=>absurd z (by simp)),r,(I.out hx a2).weak a1,(I.out hx b2).weak b1,q⟩
theorem Inv.leave {a T:Addr} {cls:Value} {Ex:Value→Shared→Prop} (I:Inv X pins σ H s) (ow:OwnX X) (r:Rec s.heap a T cls .none) (o1:Out X pins H a) (o2:Out X pins H T) (q:E cls none H) :
    wpAny ‹6› X.A (leaving X.env (.ref a)) ‹59› Ex s:=by
  unfold leaving
  refine wpAny_bind (zjv (base:=X.base) (outer:=X.outer) (by rw [← ow.stk]; exact I.ok.frames) (by rw [← ow.stk]; exact I.stack) ow.fr r fun h1 T' n1 r1 p1=>?_)
  have o3:=I.out ow.ex n1
  rw [← ow.stk] at p1
  have I1:Inv X pins σ H { s with heap:=h1,toks:=s.toks }:=I.hop p1 fun b hb=>by
    rcases List.mem_cons.mp hb with rfl | hb
    · exact o2
    · rw [List.mem_singleton.mp hb]; exact o1
  refine land (env:=X.env) (outer:=X.outer) (s:={ s with heap:=h1 }) r1 fun h2 r2 p2=>?_
  rw [← ow.stk] at p2
  have I2:Inv X pins σ H { s with heap:=h2,toks:=s.toks }:=I1.hop p2 fun b hb=>by rw [List.mem_singleton.mp hb]; exact o3
  have u:=I2.base
  rw [ow.ex] at u
  exact ⟨a,cls,H,rfl,I2.os,I2.bare,u,I2.hok,⟨T',r2,⟨o1.h,o1.s0⟩,o3.h,o3.s0⟩,q⟩
theorem Inv.leaveNew {a:Addr} {h':Heap} {cls:Value} {vs:List Value} {t':Nat} {Ex:Value→Shared→Prop} (I:Inv X pins σ H s) (ow:OwnX X) (m:Heap.MadeExcOf s.heap h' a cls vs) (q:E cls none H) :
    wpAny ‹6› X.A (leaving X.env (.ref a)) ‹59› Ex { s with heap:=h',toks:=t' }:=by
  have I0:Inv X pins σ H { s with heap:=h',toks:=t' }:=I.kept m.keeps
  have o1:=I.out ow.ex m.new
  obtain ⟨t,m1,_,_⟩:=m.there
  unfold leaving
  refine wpAny_bind (zvc (base:=X.base) (outer:=X.outer) (by rw [← ow.stk]; exact I.ok.frames) (by rw [← ow.stk]; exact I0.stack) ow.fr m1 rfl rfl rfl fun h1 T n1 r1 p1=>?_)
  have o3:=I0.out ow.ex n1
  rw [← ow.stk] at p1
  have I1:Inv X pins σ H { s with heap:=h1,toks:=t' }:=I0.hop p1 fun b hb=>by rw [List.mem_singleton.mp hb]; exact o1
  refine land (env:=X.env) (outer:=X.outer) (s:={ s with heap:=h1,toks:=t' }) r1 fun h2 r2 p2=>?_
  rw [← ow.stk] at p2
  have I2:Inv X pins σ H { s with heap:=h2,toks:=t' }:=I1.hop p2 fun b hb=>by rw [List.mem_singleton.mp hb]; exact o3
  have u:=I2.base
  rw [ow.ex] at u
  exact ⟨a,cls,H,rfl,I2.os,I2.bare,u,I2.hok,⟨T,r2,⟨o1.h,o1.s0⟩,o3.h,o3.s0⟩,q⟩
end
def XLink (X:Cx) (E:XK):Prop:=∀ (e:Value) (s':Shared),wpAny ‹6› X.A (leaving X.env e) (fun _ s''=>CXE X.prog X.w X.outer X.H₀ X.s₀ E e s'') (fun e' s''=>CXE X.prog X.w X.outer X.H₀ X.s₀ E e' s'') s'→X.xe e s'
theorem XLink.passes {X:Cx} {E:XK} (l:XLink X E) (ow:OwnX X):zk5 (CXE X.prog X.w) X E:=fun pins σ H s e s' I h=>by
  obtain ⟨a,T,cls,H',rfl,I',r,o1,o2,q⟩:=I.raised ow.ex h
  exact l _ _ (I'.leave ow r o1 o2 q)
theorem z3u {K:PySem.W.Frag} {h:Heap} {C:Addr} {bmB:List Value} {newId:String} (X:K.In h) (q:PySem.W.excIn K C bmB newId=true) :
    ∃ bm N nm qn bs hd sn sub ab col dd k0 k1 k2 k3 k5 mN,h.get? C=some (excClassObj nm qn C N bs bm hd sn sub ab col dd k0 k1 k2 k3 k5 newId)∧h.Ns N mN∧mN "__init__" = none∧OwnTail h bmB bm:=by
  unfold PySem.W.excIn at q
  split at q
  case h_2=>cases q
  case h_1 dd cd sl ho =>
    split at q
    case h_2=>cases q
    case h_1 C1 bm k0 k1 k2 k3 n k5 hm hs =>
      rw [Bool.and_eq_true,Bool.and_eq_true,Bool.and_eq_true,Bool.and_eq_true,Bool.and_eq_true] at q
      obtain ⟨⟨⟨⟨⟨q1,q2⟩,q3⟩,q4⟩,q5⟩,q6⟩:=q
      cases beq_iff_eq.mp q1
      cases beq_iff_eq.mp q2
      have q7:cd.hasDel=false:=by simpa using q3
      clear q3
      obtain ⟨f1,f2,f3,f4,f5,f6,f7,f8,f9,f10,f11⟩:=cd
      dsimp only at hm q7 q4 q5 q6
      subst hm q7
      obtain ⟨l⟩:=sl
      have hs:l=_:=hs
      subst hs
      exact ⟨bm,_,_,_,_,_,_,_,_,_,dd,k0,k1,k2,k3,k5,_,X _ _ ho,.of_isNs (PySem.W.isNs_of_in X q5),PySem.W.nsMap_none_of_in X q5 (beq_iff_eq.mp q6),PySem.W.tail_of_in X q4⟩
def zp3 (C:Addr) (E:XK) (ta:TA):TS:=fun _ σ H=>ta σ H fun vs H1=>vs.length≤sizeLine∧E (.ref C) none H1
theorem ze8 {X:Cx} {E:XK} {x:Str} {C:Addr} {B newId initId:String} {bmB:List Value} {np cpos pos:Pos} {a:Expr} {as:List Expr} {ta:TA} (l:XLink X E) (ow:OwnX X) (hc:X.calm=true) (FB:ExcBaseFacts B newId initId bmB) (hg:Gl X x) (hm:X.mg x=some (.ref C))
    (hq:PySem.W.excIn X.K C bmB newId=true) (ha:PA X (a::as) ta) (hdb:(x==("__debug__" : Str))=false:=by decide)
    (he:starEach (a::as) X.env=(false,eval a X.env)::starEach as X.env:=by rfl) (hpl:(backTo cpos (starEach as X.env)).any (·.1)=false:=by rfl) :
    PS X (.Raise (some (.Call (.Name x np) (a::as) [] cpos)) none pos) (zp3 C E ta):=by
  intro pins s σ H D I h
  obtain ⟨bm,N,nm,qn,bs,hd,sn,sub,ab,col,dd,k0,k1,k2,k3,k5,mN,c1,c2,c3,c4⟩:=z3u (h:=X.base) I.mod.kin hq
  refine wpAny_Raise_call_subT (C:=C) (nm:=nm) (q:=qn) (N:=N) (bs:=bs) (bm:=bm) (hdct:=hd) (sn:=sn) (sub:=sub) (ab:=ab) (col:=col) (dd:=dd) (k0:=k0) (k1:=k1) (k2:=k2) (k3:=k3) (k5:=k5) (mN:=mN) FB (c4.hasType FB.hasBase) (I.ok.hd hc) ?_ c3 (zgc I hg hm ⟨rfl,?_⟩ hdb)
  · rw [he]
    show (false || (backTo cpos (starEach as X.env)).any fun x=>x.1)=false
    rw [hpl]; rfl
  · have p:=ha cpos pins s σ H _ I h
    rw [he] at p ⊢
    refine Calls.evalArgs_plain (thn p fun us s1 ⟨vs,H1,I1,rv,hl,q⟩=>⟨rfl,by rw [← rv.length]; exact hl,I1.bk _ _ c1,c2.keeps I1.bk,c4.keeps I1.bk,fun h' e m=>?_⟩)
    exact l _ _ (I1.leaveNew (t':=s1.toks) ow m q)
theorem Fun.okE {P:Program} {w:World} {K:PySem.W.Frag} {mg:Str→Option Value} {base:Heap} {CX:CXT} {x qual:Str} {st:Stmt} {f:Addr} {fd:FuncData} {N ps:List Str} {k:Nat} {sp:Sp} (F:Fun K x qual st f fd) (S:FnScope N ps (zao st)) (len:∀ vs H Q E,sp vs H Q E→vs.length=ps.length)
    (hb:∀ (cdv:Value) (A:Around) (outer:List Env) (s:Shared) (H:Hp) (vs:List V) (Q:VK) (E:XK),Room k (A.deeper (envOfC qual (zao st) s.heap.objs.size f cdv))→sp vs H Q E →
      ∃ t,PSs (cxOf CX P w K mg base N qual (zao st) f cdv A outer s H E) (zfp st) t∧t { nx:=fun _ H'=>Q .non H',rt:=Q } (start N vs) H):FnOk P w K mg base CX (k+1) f fd ps sp:=by
  obtain ⟨oc,od,kV,doc,pm,an,cdv,ct,osl,rfl,lk,hcd⟩:=F.ex
  exact z5z lk hcd S len fun A outer s H vs Q E hr hsp=>hb cdv A outer s H vs Q E hr hsp
end L2
namespace L2
open PySem PySem.Spec PyProof.Rows
def excP (a C:Addr) (h:Heap):Prop:=∃ o,h.get? a=some o∧o.cls=.ref C∧o.dict=none∧PySem.W.notCls o=true
def excO (a C:Addr):HO:=.ext (excP a C)
theorem Rec.exc {h:Heap} {e T C:Addr} {fl:Value} (r:Rec h e T (.ref C) fl):excP e C h:=by
  obtain ⟨oe,vs,_,_,⟨a1,a2,a3,a4⟩,_⟩:=r
  exact ⟨oe,a1,a2,a3,by unfold PySem.W.notCls; rw [a4]⟩
theorem excP.ok {P:Program} {w:World} {H:Hp} {h:Heap} {a C:Addr} (x:excP a C h):ObjOk P w H h a (excO a C):=by
  obtain ⟨o,e,r⟩:=id x
  exact ⟨x,⟨o,e⟩,fun h1 h2 ⟨o,e,r⟩ k=>⟨o,k o e,r⟩⟩
section
variable {X:Cx} {pins:List (Addr×Obj)} {σ:St} {H:Hp} {s:Shared} {a:Addr} {u:HO}
theorem Inv.track (I:Inv X pins σ H s) (o:Out X pins H a) (ob:ObjOk X.prog X.w (upd H a u) s.heap a u):Inv X pins σ (upd H a u) s:=by
  have ne:∀ b v,H b=some v→b≠a:=fun b v q z=>by rw [z,o.h] at q; cases q
  refine ⟨I.ok,I.os,I.bare,⟨I.base.keep,I.base.slot,fun b v q n hx=>?_,I.base.there,fun b xs q=>?_,fun b v xs q=>?_,fun b ps q=>?_⟩,I.loc,I.cell,?_,fun x c e=>?_,fun p hp=>?_,fun b v q=>?_,I.len⟩
  · rw [upd_ne (fun z=>by rw [z,o.s0] at q; cases q)]; exact I.base.free b v q n hx
  · have r:=I.base.tups b xs q; rw [upd_ne (ne b _ r)]; exact r
  · have r:=I.base.frzs b v xs q; rw [upd_ne (ne b _ r)]; exact r
  · obtain ⟨m,r⟩:=I.base.tbls b ps q; exact ⟨m,by rw [upd_ne (ne b _ r)]; exact r⟩
  · rw [upd_ne (Ne.symm o.loc)]; exact I.free
  · rw [upd_ne (o.cell x c e)]; exact I.freeC x c e
  · obtain ⟨e,n,r⟩:=I.pin p hp
    exact ⟨e,by rw [upd_ne (o.pin p hp)]; exact n,r⟩
  · by_cases hb:b=a
    · subst hb; rw [zbb] at q; cases q; exact ob
    · rw [upd_ne hb] at q
      exact (I.hok b v q).stay (fun c y _ r=>r) (fun c r=>by rw [upd_ne (ne c _ r)]; exact r) (fun c xs r=>by rw [upd_ne (ne c _ r)]; exact r) fun c o u r=>by rw [upd_ne (ne c _ r)]; exact r
def Cx.marked (X:Cx) (e:Value):Cx:={ X with A:=X.A.mark (some e),calm:=false }
theorem Inv.marked (I:Inv X pins σ H s) (e:Value):Inv (X.marked e) pins σ H s :=
  ⟨⟨I.ok.mod,I.ok.kind,I.ok.glob,I.ok.blt,I.ok.above,I.ok.inj,I.ok.has,I.ok.cab,(fun z=>by cases z),I.ok.frames,I.ok.stk,I.ok.exf,I.ok.bs,I.ok.bsz,I.ok.noex,I.ok.exfs,I.ok.funs,I.ok.frf⟩,I.os,I.bare,I.base,I.loc,I.cell,I.free,I.freeC,I.pin,I.hok,I.len⟩
theorem Inv.unmarked {e:Value} {xe:Value→Shared→Prop} (ok:X.Ok) (I:Inv ((X.marked e).wish xe) pins σ H s):Inv X pins σ H s :=
  ⟨ok,I.os,I.bare,I.base,I.loc,I.cell,I.free,I.freeC,I.pin,I.hok,I.len⟩
theorem Inv.unset {h':Heap} {n:Str} {i:Nat} {t':Nat} {v:Option Value} {m:Str→Option Value} (I:Inv X pins σ H s) (hi:X.N[i]?=some n) (ln:X.env.kindOf n=some .local) (hN:X.N.Nodup)
    (hm:s.heap.Ns X.env.locals m) (hl:∀ (j:Nat) (x:Str) (v:V),X.N[j]?=some x→σ[j]?=some (some v)→Vis X.env.scope x→∃ u,RelV v u∧Look X.env s.heap m x u)
    (h1:h'.Ns X.env.locals (fun x=>if x=n then v else m x)) (h2:Heap.SameBut X.env.locals s.heap h'):Inv X pins (σ.set i none) H { s with heap:=h',toks:=t' }:=by
  have k:∀ b o,b≠X.env.locals→s.heap.get? b=some o→h'.get? b=some o:=fun b o hb q=>(h2.2 b hb).trans q
  have neL:∀ b o,X.s₀.heap.get? b=some o→b≠X.env.locals:=fun b o e=>Nat.ne_of_lt ‹45›
  have cellK:∀ x c,X.env.cells.lookup x=some c→∀ v,s.heap.IsCell c v→h'.IsCell c v:=fun x c e v ⟨o,ho,hd⟩=>⟨o,k c o (I.cne x c e) ho,hd⟩
  refine ⟨I.ok,I.os,I.bare,⟨fun b o e n hb hx=>k b o (neL b o e) (I.base.keep b o e n hb hx),fun b o e n hb hx=>?_,I.base.free,fun b o e hx=>?_,I.base.tups,I.base.frzs,I.base.tbls⟩,⟨_,h1,fun j x u e1 e2 e3=>?_⟩,fun x c e=>?_,I.free,I.freeC,fun p hq=>?_,fun b u e=>?_,by rw [List.length_set]; exact I.len⟩
  · obtain ⟨sl,e1⟩:=I.base.slot b o e n hb hx
    exact ⟨sl,k b _ (neL b o e) e1⟩
  · obtain ⟨o',e1⟩:=I.base.there b o e hx
    exact ⟨o',k b _ (neL b o e) e1⟩
  · by_cases hj:i=j
    · subst hj
      rw [List.getElem?_set] at e2
      simp at e2
    · rw [List.getElem?_set_ne hj] at e2
      obtain ⟨y,ry,l⟩:=hl j x u e1 e2 e3
      refine ⟨y,ry,?_⟩
      rcases l with ⟨l1,l2⟩ | ⟨q,c,e,z⟩
      · refine .inl ⟨l1,?_⟩
        show (if x=n then v else m x)=some y
        rw [if_neg fun z=>hj (by subst z; exact zo9 hN hi e1)]
        exact l2
      · exact .inr ⟨q,c,e,cellK x c e _ z⟩
  · obtain ⟨v,z⟩:=I.cell x c e
    exact ⟨v,cellK x c e v z⟩
  · obtain ⟨e,n,ne,r⟩:=I.pin p hq
    exact ⟨k _ _ ne e,n,ne,r⟩
  · refine (I.hok b u e).stay (fun c y hc q=>k c y (fun z=>?_) q) (fun _ q=>q) fun _ _ q=>q
    rcases hc with rfl | hc
    · rw [z,I.free] at e; cases e
    · rw [z,I.free] at hc; cases hc
end
def tTry (K:PySem.W.Frag) (F:Value) (iv ie:Nat) (sp:Sp) (t:TA):TS:=fun D σ H=>t σ H fun vs H1=>sp vs H1 (fun _ H'=>D.nx σ H') fun cls _ H' =>
  ∃ C,cls=.ref C∧PySem.W.exmOne K (.ref C) F=some true∧∀ a,H' a=none→D.nx (((σ.set ie (some (.ref a))).set iv (some (.ref a))).set ie none) (upd H' a (excO a C))
section
variable {X:Cx} {k:Nat} {f:Addr} {fd:FuncData} {ps:List Str} {sp:Sp} {x y n v:Str} {e:Expr} {es:List Expr} {t:TA} {F:Value} {iv ie:Nat} {p1 p2 p3 p4 p5 p6 p7 p8 pos:Pos}
theorem zxp (ow:OwnX X) (FO:FnOk X.prog X.w X.K X.mg X.base (CXE X.prog X.w) k f fd ps sp) (hr:Room k X.A) (hg:Gl X x) (hm:X.mg x=some (.ref f)) (hk:PySem.W.keepIn X.K (.ref f)=true) (hb:Binds X.K fd ps [])
    (ha:∀ xe,PA (X.wish xe) (e::es) t) (hN:X.N.Nodup) (hv:X.N[iv]?=some v) (hn:X.N[ie]?=some n) (lv:X.env.scope.names.lookup v=some .local) (ln:X.env.scope.names.lookup n=some .local) (hy:Gl X y) (my:X.mg y=some F)
    (hdb:(x==("__debug__" : Str))=false:=by decide) (hdy:(y==("__debug__" : Str))=false:=by decide) (hdn:(n==("__debug__" : Str))=false:=by decide)
    (he:starEach (e::es) X.env=(false,eval e X.env)::starEach es X.env:=by rfl) (hpl:(backTo p2 ‹119›).any (·.1)=false:=by rfl)
    (hs:swapsWith ‹152› none p3.line X.env=pure false:=by rfl) (hs2:swapsWith (.Name n p6) (some (.Name v p5)) p7.line X.env=pure false:=by rfl)
    (hcd:(n==("__classdict__" : Str))=false:=by decide) :
    PS X (.Try [.Expr ‹152› p3] [.ExceptHandler (some (.Name y p4)) (some n) [.Assign [.Name v p5] (.Name n p6) p7] p8] [] [] pos) (tTry X.K F iv ie sp t):=by
  intro pins s σ H D I h
  refine wpAny_Try_except (wpAny_execs_cons (wpAny_Expr_any ?_ I.quiet hs))
  refine wpAny_Call_Name_kw (zgc I hg hm ?_ hdb)
  refine PySem.W.callWith_K (h₀:=X.base) I.ok.mod.kin hk ?_ he hpl
  refine thn (ha (fun e s₁=>wpAny ‹6› X.A (noteFrame e X.env) (fun _ s₂=>wpAny ‹6› X.A (setFlight e none) (fun _ s₃=>wpAny ‹6› X.A (handleBy e X.env [.ExceptHandler (some (.Name y p4)) (some n) [.Assign [.Name v p5] (.Name n p6) p7] p8]) (SP X pins D) X.xe s₃) X.xe s₂) X.xe s₁) p2 pins s σ H _ (I.wish _) h) ?_
  rintro us s1 ⟨vs,H1,I1,r,q⟩
  refine ⟨I1.unwish.kIn,?_⟩
  have I1:=I1.unwish
  have hl:us.length=ps.length:=by rw [← r.length]; exact FO.len _ _ _ _ q
  have hb1:=hb s1 us I1.kIn (by rw [List.append_nil]; exact hl)
  rw [List.append_nil] at hb1
  refine wpAny_call ‹134›
  cases r with
  | ok fl =>
    cases fl with
    | ret u =>
      obtain ⟨v',H',I',_,q'⟩:=I1.after hq
      exact wpAny_execs_nil (wpAny_execs_nil ⟨σ,H',I',q'⟩)
    | next=>exact False.elim hq
    | brk=>exact False.elim hq
    | cont=>exact False.elim hq
  | error ev =>
    unfold CR at hq
    dsimp only at hq ⊢
    obtain ⟨a,T,cls,H',rfl,I',rc,o1,o2,C,rfl,hx,q'⟩:=I1.raised ow.ex hq
    refine zjv (base:=X.base) (outer:=X.outer) (by rw [← ow.stk]; exact I'.ok.frames) (by rw [← ow.stk]; exact I'.stack) ow.fr rc fun h1 T' n1 r1 g1=>?_
    have o3:=I'.out ow.ex n1
    rw [← ow.stk] at g1
    have I1:Inv X pins σ H' { s' with heap:=h1,toks:=s'.toks }:=I'.hop g1 fun b hb=>by
      rcases List.mem_cons.mp hb with rfl | hb
      · exact o2
      · rw [List.mem_singleton.mp hb]; exact o1
    refine land (env:=X.env) (outer:=X.outer) (s:={ s' with heap:=h1 }) r1 fun h2 r2 g2=>?_
    rw [← ow.stk] at g2
    have I2:Inv X pins σ H' { s' with heap:=h2,toks:=s'.toks }:=I1.hop g2 fun b hb=>by rw [List.mem_singleton.mp hb]; exact o3
    refine wpAny_handleBy_cons (codeAny_handlers_test (zgc (X:=X.marked (.ref a)) (I2.marked _) hy my ?_ hdy)) ‹131›
    have LT:PySem.W.Looks ‹6› h2 (typeOf (.ref a)) (.ref C):=by
      obtain ⟨o,e1,e2,_⟩:=r2.exc
      exact e2 ▸ (PySem.W.Looks.ld e1).andThen .now
    refine PySem.W.Looks.at (PySem.W.exm_one (M:=model X.prog X.w) I2.kIn LT hx) ?_
    refine codeAny_handlers_suite_as ‹155›
    rw [← ow.stk] at g3
    have I3:Inv X pins σ H' { s' with heap:=h3,toks:=s'.toks }:=I2.hop g3 fun b hb=>by rw [List.mem_singleton.mp hb]; exact o3
    have I4:=I3.track (u:=excO a C) o1 r3.exc.ok
    refine zlk (X:=X.marked (.ref a)) (v:=.ref a) (I4.marked (.ref a)) hN hn (.inl ln) rfl (fun s5 I5=>?_) (.inr ln)
    have body:PSs ((X.marked (.ref a)).wish fun _ _=>False) [.Assign [.Name v p5] (.Name n p6) p7] (tAsg (tVar ie) (zmz iv)):=zah (zbe hN hv (.inl lv) (z1p hn (.inl ln) hdn hcd) hs2 (.inr lv))
    have hlen:ie < σ.length:=by rw [I.len]; exact (List.getElem?_eq_some_iff.mp hn).1
    refine wpAny_mono (body pins s5 _ _ { nx:=fun σ' H2=>σ'=(σ.set ie (some (.ref a))).set iv (some (.ref a))∧H2=upd H' a (excO a C),rt:=fun _ _=>False } (I5.wish _) ⟨.ref a,by rw [List.getElem?_set_self hlen],rfl,rfl⟩) (fun fl s6 h6=>?_) fun _ _ z=>z.elim
    cases fl with
    | ret u=>obtain ⟨_,_,_,_,_,z⟩:=h6; exact z.elim
    | brk=>obtain ⟨_,_,_,z⟩:=h6; exact z.elim
    | cont=>obtain ⟨_,_,_,z⟩:=h6; exact z.elim
    | next =>
      obtain ⟨σ',H2,I6,rfl,rfl⟩:=h6
      have I6:=I6.unmarked I.ok
      obtain ⟨m,hm6,hl6⟩:=I6.loc
      refine wpAny_nameGoes_keeps (show X.env.kindOf n=some .local from ln) hm6 (by rw [I.ok.kind]; rfl) fun h7 w7 e7 b7=>?_
      exact ⟨_,_,I6.unset hn ln hN hm6 hl6 e7 b7,q' a o1.h⟩
end
structure ExcK (K:PySem.W.Frag) (C:Addr):Prop where
  ga:PySem.W.findIn K (.ref C) "__getattribute__" = some (some (.builtin "BaseException.__getattribute__"))
  gk:PySem.W.findIn K (.ref C) "__getattr__" = some none
  hd:PySem.W.hasDictIn K C=true
  ca:PySem.W.findIn K (.ref C) "__class__" = some (some (.builtin "object.__class__"))
  sp:PySem.W.specialIn K (.builtin "object.__class__") "__get__" = some (some (.builtin "getset_descriptor.__get__"))
  tk:PySem.W.takesIn K (.builtin "object.__class__")=some true
  mro:PySem.W.mroIn K C (.type "object")=some true
  mrb:PySem.W.mroIn K C (.type "BaseException")=some true
theorem zyw {K:PySem.W.Frag} {prog:Program} {w:World} {A:Around} {E:Value→Shared→Prop} {Q:Option Value→Shared→Prop} {s:Shared} {x C:Addr} {ox:Obj} (k:ExcK K C) (X:K.In s.heap) (I:PySem.W.InstAt s.heap x ox C none) (q:Q (some (.ref C)) { s with toks:=s.toks+1 }) :
    wpAny ‹58› A (getAttr? (.ref x) "__class__") Q E s:=by
  obtain ⟨hh,g,d,t,os⟩:=s
  have hf:PySem.W.findObj K C none "__class__" = some (.bind (.builtin "getset_descriptor.__get__") (.builtin "object.__class__")):=by
    obtain ⟨cd,hc,_⟩:=PySem.W.any_some k.hd
    unfold PySem.W.findObj
    rw [hc,Option.bind_some,k.ca,Option.bind_some]
    dsimp only
    rw [k.sp,Option.bind_some]
    dsimp only
    rw [k.tk,Option.bind_some]
  have L0:=I.type (M:=model prog w)
  have L1:=PySem.W.looks_findIn (M:=model prog w) X k.ga
  have L2:=PySem.W.looks_findIn (M:=model prog w) X k.gk
  have L3:=PySem.W.looks_find (M:=model prog w) X I hf
  have L4:PySem.W.Looks ‹58› hh (isInstance (.ref x) (.type "BaseException")) true:=L0.andThen (PySem.W.looks_mroIn (M:=model prog w) X k.mrb)
  unfold getAttr? getAttrBy? getAttrBy
  refine wpAny_bind (wpAny_mkText (wpAny_bind (wpAny_attempt (wpAny_holding (wpAny_bind (L0.at (wpAny_bind (L1.at ?_))))))))
  dsimp only
  have ne:(Value.builtin "BaseException.__getattribute__" == Value.builtin "object.__getattribute__")=false:=by decide +kernel
  rw [ne,Bool.and_false,if_neg Bool.false_ne_true]
  unfold getAttrByItsOwn hookBefore
  rw [if_pos (show onTheHeap (Value.ref C)=true from rfl)]
  refine wpAny_bind (L2.at (wpAny_bind (wpAny_attempt (wpAny_holding ?_))))
  show wpAny _ _ (boundAndCalled _ _ _) _ _ _
  unfold boundAndCalled
  rw [PySem.F.attr_ValueError.ga.bind (.ref x)]
  refine wpAny_bind (wpAny_pure (wpAny_call (codeAny_call_builtin PySem.F.attr_ValueError.ga.plain PySem.F.entry_bexc_ga ?_)))
  have hk:builtinKind "BaseException.__getattribute__" = some .slot:=by decide +kernel
  have hs:splitId "BaseException.__getattribute__" = some ("BaseException", "__getattribute__"):=by decide +kernel
  have ha:=PySem.F.args_bexc_ga (.ref x) (.str "__class__" t)
  simp only [checkBuiltinCall,hk,hs]
  refine wpAny_bind (L4.at ?_)
  repeat (any_goals (first | assumption | wp_step))
  refine wpAny_loadPart_at I.at_ (wpAny_pure ?_)
  rw [I.cls]
  refine wpAny_bind (L3.at ?_)
  dsimp only
  unfold Builtin.ObjectAttr.bindTo
  dsimp only
  refine wpAny_bind (wpAny_holding (wpAny_call (PySem.W.class_get (ox:=ox) (od:=none) X I k.mro (wpAny_pure ?_))))
  exact PySem.W.handed_on rfl (wpAny_pure q)
theorem excP.inst {a C:Addr} {h:Heap} (x:excP a C h):∃ ox,PySem.W.InstAt h a ox C none:=by
  obtain ⟨o,e,e1,e2,e3⟩:=x
  exact ⟨o,e,e1,e3,by rw [e2]; trivial⟩
theorem zt8 {K:PySem.W.Frag} {a C:Addr} (k:ExcK K C):PySem.W.KitX K (.ref a) (.ref C) (excP a C) where
  ty:=fun _ _ _ x=>let ⟨_,I⟩:=x.inst; I.type
  it:=fun M h X x=>by
    obtain ⟨cd,z,_⟩:=PySem.W.any_some k.hd
    unfold PySem.W.clsIn at z
    split at z
    case h_2=>cases z
    case h_1 ho =>
      intro A Q E s kk q
      unfold isType loadHead
      exact wpAny_bind (wpAny_loadPart (kk _ _ (X _ _ ho)) (wpAny_pure q))
  ne:=fun h tp dd its m sl X htp=>by
    refine Bool.eq_false_iff.mpr fun q=>?_
    cases Value.ref.inj (beq_iff_eq.mp q)
    obtain ⟨cd,z,_⟩:=PySem.W.any_some k.hd
    unfold PySem.W.clsIn at z
    split at z
    case h_2=>cases z
    case h_1 ho=>cases (X _ _ ho).symm.trans htp
  ca:=fun {prog w A E Q s} X x q=>by
    obtain ⟨ox,I⟩:=x.inst
    exact zyw k X I q
def rIsE (K:PySem.W.Frag):List V→Hp→VK→Prop:=fun xs H Q=>∃ a C c u b,xs=[.ref a,c]∧H a=some (excO a C)∧ExcK K C∧RelV c u∧PySem.W.kitOne K (.ref C) u=some b∧Q (.bl b) H
theorem zl0 {X:Cx} {K:PySem.W.Frag} (h:X.K=K):zhu X (.builtin "isinstance") (rIsE K):=by
  subst h
  intro pins s σ H xs us Q I r h
  obtain ⟨a,C,c,u,b,rfl,ea,k,rc,e,q⟩:=h
  cases r with
  | cons r1 r =>
    cases r with
    | cons r2 r =>
      cases r
      cases (show _=Value.ref a from r1)
      have hu:∀ {u':Value},RelV c u'→PySem.W.kitOne X.K (.ref C) u=some b→u'=u:=fun {u'} r' e=>by
        cases c with
        | ref d=>exact (show u'=Value.ref d from r').trans (show u=Value.ref d from rc).symm
        | ty d=>exact (show u'=Value.type d from r').trans (show u=Value.type d from rc).symm
        | non=>cases (show u=Value.none from rc); cases e
        | bl b=>cases (show u=Value.bool b from rc); cases e
        | int i=>obtain ⟨t,z⟩:=(show ∃ t,u=Value.int i t from rc); cases z; cases e
        | str i=>obtain ⟨t,z⟩:=(show ∃ t,u=Value.str i t from rc); cases z; cases e
        | byt i=>obtain ⟨t,z⟩:=(show ∃ t,u=Value.bytes i t from rc); cases z; cases e
        | flt i=>obtain ⟨t,z⟩:=(show ∃ t,u=Value.float i t from rc); cases z; cases e
      rw [hu r2 e]
      obtain ⟨x,_,_⟩:=(show ObjOk X.prog X.w H s.heap a (excO a C) from I.hok a _ ea)
      exact PySem.W.kia_one (zt8 k) I.kIn x e ‹96› fun tk=>⟨.bl b,H,I.tok _,rfl,q⟩
def z40 (K:PySem.W.Frag):List V→Hp→VK→Prop:=fun xs H Q=>∃ (a C tp:Addr) (cs:List Addr) (b:Bool),xs=[.ref a,.ref tp]∧H a=some (excO a C)∧ExcK K C∧H tp=some (.tup (cs.map V.ref))∧PySem.W.kitAny K (.ref C) (cs.map Value.ref)=some b∧Q (.bl b) H
theorem zry {X:Cx} {K:PySem.W.Frag} (h:X.K=K):zhu X (.builtin "isinstance") (z40 K):=by
  subst h
  intro pins s σ H xs us Q I r h
  obtain ⟨a,C,tp,cs,b,rfl,ea,k,et,e,q⟩:=h
  cases r with
  | cons r1 r =>
    cases r with
    | cons r2 r =>
      cases r
      cases (show _=Value.ref a from r1)
      cases (show _=Value.ref tp from r2)
      obtain ⟨x,_,_⟩:=(show ObjOk X.prog X.w H s.heap a (excO a C) from I.hok a _ ea)
      obtain ⟨_,its,rv,⟨oc,od,dt,sl⟩,h1,h2,m,h3⟩:=(show ObjOk X.prog X.w H s.heap tp (.tup (cs.map V.ref)) from I.hok tp _ et)
      have hi:∀ {cs:List Addr} {its:List Value},Vals (cs.map V.ref) its→its=cs.map Value.ref:=by
        intro cs
        induction cs with
        | nil=>intro its r; cases r; rfl
        | cons c cs ih=>intro its r; cases r with | cons r1 r=>cases (show _=Value.ref c from r1); rw [ih r]; rfl
      dsimp only at h2 h3
      subst h2 h3
      rw [hi rv] at h1
      exact PySem.W.kia_tup (zt8 k) I.kIn x h1 e ‹96› fun tk=>⟨.bl b,H,I.tok _,rfl,q⟩
end L2
namespace L2
open PySem PySem.Spec PyProof.Rows
def tFs:List TE→St→Hp→(Hp→Prop)→Prop
  | [],_,H,R=>R H
  | t::ts,σ,H,R=>t σ H fun x H1=>∃ i,x=.int i∧i.natAbs.log2<1920∧tFs ts σ H1 R
def z4d (ts:List TE):TE:=fun σ H Q=>tFs ts σ H fun H'=>∀ x,Q (.str x) H'
inductive PParts (X:Cx):List Expr→List TE→Prop
  | nil:PParts X [] []
  | text {x:Str} {j p es ts} (hx:x.length≤1000) (h:PParts X es ts):PParts X (.Constant (.str x) j p::es) ts
  | val {e:Expr} {p es ts} {t:TE} (he:PE X e t) (h:PParts X es ts):PParts X (.FormattedValue e (-1) none p::es) (t::ts)
theorem z6o {X:Cx} {es:List Expr} {ts:List TE} (h:PParts X es ts):∀ (out:Str) (pins:List (Addr×Obj)) (s:Shared) (σ:St) (H:Hp) (Q:VK),out.length+2000*es.length≤sizeLine→Inv X pins σ H s→tFs ts σ H (fun H'=>∀ x,Q (.str x) H') →
    wpAny ‹6› X.A (joinParts out (evalEach es X.env)) ‹82› X.xe s:=by
  induction h with
  | nil =>
    intro out pins s σ H Q hl I q
    exact joinParts_nil ⟨.str out,H,I.tok _,⟨_,rfl⟩,q out⟩ (by simpa using hl)
  | @text x j p es ts hx h ih =>
    intro out pins s σ H Q hl I q
    rw [List.length_cons] at hl
    refine joinParts_cons (Calls.Constant_str ⟨?_,ih _ _ _ σ H Q ?_ (I.tok _) q⟩)
    · rw [PySem.strLen_append]; omega
    · rw [PySem.strLen_append]; omega
  | @val e p es ts t he h ih =>
    intro out pins s σ H Q hl I q
    rw [List.length_cons] at hl
    refine joinParts_cons (FormattedValue_plain (thn (he pins s σ H _ I q) fun u s1 ⟨x,H1,I1,r1,i,hx,hi,q1⟩=>?_))
    subst hx
    obtain ⟨tk,rfl⟩:=r1
    have e:=int_text_length_le (k:=1920) ‹3› hi
    have e2:(Str.ofString (toString i)).length≤1921:=by rw [PySem.ofString_length]; exact e
    refine formatField_int_small hi ⟨?_,ih _ _ _ σ H1 Q ?_ (I1.tok _) q1⟩
    · show (out++Str.ofString (toString i)).length≤sizeLine
      rw [PySem.strLen_append]; omega
    · show (out++Str.ofString (toString i)).length+_≤sizeLine
      rw [PySem.strLen_append]; omega
theorem zso {X:Cx} {a b:Expr} {es:List Expr} {ts:List TE} {pos:Pos} (h:PParts X (a::b::es) ts) (hl:es.length≤1000:=by decide):PE X (.JoinedStr (a::b::es) pos) (z4d ts):=fun pins s σ H Q I q =>
  JoinedStr_many (z6o h Str.empty pins s σ H Q (by
    have hz:sizeLine=16777216:=sizeLine_eq
    have e:(Str.empty).length=0:=rfl
    rw [e,hz,List.length_cons,List.length_cons]; omega) I q)
theorem zpv:bootBuiltins "ValueError" = some (.type "ValueError"):=by decide +kernel
def tOrS (t u:TS):TS:=fun D σ H=>t D σ H∨u D σ H
theorem zu6 {X:Cx} {st:Stmt} {t u:TS} (h1:PS X st t) (h2:PS X st u):PS X st (tOrS t u):=fun pins s σ H D I h=>h.elim (h1 pins s σ H D I) (h2 pins s σ H D I)
end L2
namespace VL
open PySem L2
open Classical
noncomputable section
variable [Tabs] {K:PySem.W.Frag}
def spX (K:PySem.W.Frag) (ms:List Bool) (C:Addr) (F:List D→Option D):Sp:=fun vs H _ E=>∃ (Z:Addr→Prop) (ds:List D) (d:D),ZT Z H∧Args K H Z ms vs ds∧F ds=some d∧∀ H',Same H H'→E (.ref C) none H'
theorem Fun.okX {P:Program} {w:World} {mg:Str→Option Value} {base:Heap} {x qual:Str} {st:Stmt} {f C:Addr} {fd:FuncData} {N ps:List Str} {k:Nat} (F:Fun K x qual st f fd) (S:FnScope N ps (zao st)) (ms:List Bool) (hms:ms.length=ps.length) (b:DS)
    (hbody:∀ (cdv:Value) (A:Around) (outer:List Env) (s:Shared) (H:Hp) (E:XK),Room k ‹94› →
      ∃ t,PSs (cxOf (CXE P w) P w K mg base N qual (zao st) f cdv A outer s H E) (zfp st) t∧SemS (.x E C) K t b):FnOk P w K mg base (CXE P w) (k+1) f fd ps (spX K ms C (runF N.length ms b)):=by
  refine F.okE S (fun vs H Q E h=>?_) (fun cdv A outer s H vs Q E hr h=>?_)
  · obtain ⟨Z,ds,d,hz,a,_⟩:=h
    rw [a.len.1,hms]
  · obtain ⟨Z,ds,d,hz,a,e,k⟩:=h
    obtain ⟨t,h1,h2⟩:=hbody cdv A outer s H E hr
    refine ⟨t,h1,h2 (zsc hz a) ?_⟩
    unfold runF at e
    split at e
    · rename_i d' e1
      cases e
      rw [e1]
      exact k
    · cases e
variable {E:XK} {C:Addr}
@[irreducible] noncomputable def sX (x:DE):DS:=fun ρ=>match x ρ with
  | some d=>.rt d
  | none=>.no
@[irreducible] noncomputable def sXor (x:DE) (s:DS):DS:=fun ρ=>match x ρ with
  | some d=>.rt d
  | none=>s ρ
theorem z4g {t u:TS} {x:DE} {s:DS} (h1:SemS (.x E C) K t (sX x)) (h2:SemS (.x E C) K u s):SemS (.x E C) K (tOrS t u) (sXor x s):=fun {B Z os ρ σ H En} f p=>by
  unfold sXor at p
  cases e:x ρ with
  | none=>rw [e] at p; exact .inr (h2 f p)
  | some d =>
    rw [e] at p
    refine .inl (h1 f ?_)
    unfold sX
    rw [e]
    exact p
theorem zsb {ms:List Bool} {F:List D→Option D} {t:TA} {es:Rho→Option (List D)} (ha:SemA K ms t es) {B:Hp} {Z:Addr→Prop} {os:Own} {ρ:Rho} {σ:L2.St} {H:Hp} {d:D} (f:Fr K B Z os ρ σ H) (q:za4 F es ρ=some d) (p:∀ H',Same B H'→E (.ref C) none H') (Q:VK) :
    zp4 (spX K ms C F) [] E t σ H Q:=by
  unfold za4 at q
  split at q
  · rename_i ds e
    refine ha f e fun vs H1 s1 a=>?_
    show spX K ms C F (vs++[]) H1 Q E
    rw [List.append_nil]
    exact ⟨tot Z os,ds,d,‹72›.zt,a,q,fun H2 s2=>p H2 (f.keep.trans ‹36›)⟩
  · cases q
theorem zwn {ms:List Bool} {F:List D→Option D} {t:TA} {es:Rho→Option (List D)} {g:TG} (ha:SemA K ms t es):SemS (.x E C) K (tAsg (zp4 (spX K ms C F) [] E t) g) (sX (za4 F es)):=fun {B Z os ρ σ H En} f p=>by
  unfold sX at p
  split at p
  · rename_i d e; exact zsb ha f e p _
  · exact p.elim
def fmtD:List DE→Rho→Bool
  | [],_=>true
  | a::as,ρ=>match a ρ with
    | some (.int i)=>decide (i.natAbs.log2<1920)&&fmtD as ρ
    | _=>false
inductive SemJ (K:PySem.W.Frag):List TE→List DE→Prop
  | nil:SemJ K [] []
  | cons {t ts a as} (h:SemB K t a) (r:SemJ K ts as):SemJ K (t::ts) (a::as)
theorem semJ {ts:List TE} {as:List DE} (h:SemJ K ts as):∀ {B:Hp} {Z:Addr→Prop} {os:Own} {ρ:Rho} {σ:L2.St} {H:Hp} {R:Hp→Prop},Fr K B Z os ρ σ H→fmtD as ρ=true→(∀ H',Same H H'→R H')→tFs ts σ H R:=by
  induction h with
  | nil=>intro B Z os ρ σ H R f _ k; exact k H ‹101›
  | @cons t ts a as h r ih =>
    intro B Z os ρ σ H R f q k
    unfold fmtD at q
    split at q
    · rename_i i e
      rw [Bool.and_eq_true] at q
      exact h f e fun v H1 s1 i1=>⟨i,i1.isInt,of_decide_eq_true q.1,ih ‹72› q.2 fun H' s2=>k H' ‹36›⟩
    · cases q
@[irreducible] noncomputable def zik (as:List DE):DS:=fun ρ=>if fmtD as ρ=true then .rt .non else .no
theorem zmf {ts:List TE} {as:List DE} (h:SemJ K ts as):SemS (.x E C) K (zp3 C E (zcy (z4d ts) tNil)) (zik as):=fun {B Z os ρ σ H En} f p=>by
  unfold zik at p
  split at p
  · rename_i q
    exact semJ h f q fun H1 s1 x=>⟨by have:=sizeLine_eq; show 1≤sizeLine; omega,p H1 (f.keep.trans s1)⟩
  · exact p.elim
theorem zwr {x:Str}:SemS (.x E C) K (zp3 C E (zcy (tC (.str x)) tNil)) (zik []):=fun {B Z os ρ σ H En} f p=>by
  unfold zik at p
  rw [if_pos (show fmtD [] ρ=true from rfl)] at p
  exact ⟨by have:=sizeLine_eq; show 1≤sizeLine; omega,p H f.keep⟩
theorem wp_x {x:DE} {ρ:Rho} {d:D} {W:Wk} (h:x ρ=some d) (k:W.rt d):Wp (sX x) ρ W:=by unfold Wp sX; rw [h]; exact k
theorem zvx {x:DE} {s:DS} {ρ:Rho} {d:D} {W:Wk} (h:x ρ=some d) (k:W.rt d):Wp (sXor x s) ρ W:=by unfold Wp sXor; rw [h]; exact k
theorem zvw {x:DE} {s:DS} {ρ:Rho} {W:Wk} (h:x ρ=none) (k:Wp s ρ W):Wp (sXor x s) ρ W:=by
  unfold Wp at *
  unfold sXor
  rw [h]
  exact k
theorem wp_raise {as:List DE} {ρ:Rho} {W:Wk} (h:fmtD as ρ=true) (k:W.rt .non):Wp (zik as) ρ W:=by unfold Wp zik; rw [if_pos h]; exact k
theorem zyt {ρ:Rho}:fmtD [] ρ=true:=rfl
theorem fmt_cons {a:DE} {as:List DE} {ρ:Rho} {i:Int} (h:a ρ=some (.int i)) (hi:i.natAbs.log2<1920) (r:fmtD as ρ=true):fmtD (a::as) ρ=true:=by
  unfold fmtD
  rw [h]
  simp [hi,r]
theorem same_new {H:Hp} {a:Addr} {o:HO} (h:H a=none):Same H (upd H a o):=fun b u e=>by rw [upd_ne (zbo e h)]; exact e
def XE (iv:Nat) (C:Addr) (t:TE) (b:Bool):Prop:=∀ {σ:L2.St} {H:Hp} {a:Addr} {Q:VK},σ[iv]?=some (some (.ref a))→H a=some (excO a C)→(∀ H',Same H H'→Q (.bl b) H')→t σ H Q
def XT (iv:Nat) (C:Addr) (t:TT) (b:Bool):Prop:=∀ {σ:L2.St} {H:Hp} {a:Addr} {Q:Bool→Hp→Prop},σ[iv]?=some (some (.ref a))→H a=some (excO a C)→(∀ H',Same H H'→Q b H')→t σ H Q
variable {iv ie:Nat}
theorem zlb {c:V} {u:Value} {b:Bool} (k:ExcK K C) (r:RelV c u) (e:PySem.W.kitOne K (.ref C) u=some b):XE iv C (tCB (rIsE K) (zcy (tVar iv) (zcy (tC c) tNil))) b:=fun {σ H a Q} s h q =>
  ⟨.ref a,s,a,C,c,u,b,rfl,h,k,r,e,q H ‹101›⟩
theorem znm {t:TE} {b:Bool} (h:XE iv C t b):XT iv C (fun σ H Q=>t σ H fun x H'=>∃ k,TruV K x H' k∧Q k H') b:=fun s e q=>h s e fun H' s'=>⟨b,rfl,q H' s'⟩
theorem z2a {t u:TT} {b:Bool} (h1:XT iv C t false) (h2:XT iv C u b):XT iv C (tOr t u) b:=fun s e q=>h1 s e fun H1 s1=>iteF (h2 s (s1 _ _ e) fun H2 s2=>q H2 ‹36›)
end
end VL
namespace Srt
open PySem PySem.W PyProof.Rows
section
variable {lt:Nat→Nat→Bool} {N:Nat}
structure Ord (lt:Nat→Nat→Bool):Prop where
  tr:∀ a b c,lt b a=false→lt c b=false→lt c a=false
  as:∀ a b,lt a b=true→lt b a=false
abbrev g (p:Array Nat) (i:Nat):Nat:=p.getD i 0
def Up (lt:Nat→Nat→Bool) (p:Array Nat) (k:Nat):Prop:=∀ i j,i≤j→j<k→lt (g p j) (g p i)=false
end
end Srt
namespace L2
open PySem PySem.Spec PyProof.Rows
section
variable {M:Model} {A:Around} {E:Value→Shared→Prop} {s:Shared} {base:Heap} {env:Env} {outer:List Env} {L e T:Addr} {cls fl:Value} {Q:Unit→Shared→Prop}
theorem zz5 (h1:A.frames=some (env::outer)) (h2:s.heap.FunFrames base (env::outer)) (h3:env.frame=some L) (r:Rec s.heap e T cls fl) (hf:(fl==rawInt L)=false)
    (q:∀ h' T',s.heap.get? T'=none→Rec h' e T' cls (rawInt L)→Hop (frs (env::outer)) [T,e] s.heap h'→Q () { s with heap:=h' }):wpAny M A (noteFrame (.ref e) env) Q E s:=by
  obtain ⟨oe,vs,oT,ts,⟨a1,a2,a3,a4⟩,b1,ne,b2,b3,b4⟩:=r
  subst a2
  unfold noteFrame
  simp only [h3]
  refine wpAny_bind (wpAny_field a1 a4 b1 ?_)
  rw [if_pos (by simp)]
  refine wpAny_bind (wpAny_field b2 b3 b4 ?_)
  rw [hf,if_neg Bool.false_ne_true]
  refine wpAny_bind (wpAny_setField b2 b3 ‹87›.1 ?_)
  have other:∀ b,b≠T→∀ x:Obj→Obj,(s.heap.update T x).get? b=s.heap.get? b:=fun b hb x=>Heap.get?_update_other _ _ (Ne.symm hb)
  refine zko h1 (h2.of_keeps fun b o hb hn=>⟨o,?_,rfl⟩) h3 ((other e (Ne.symm ne) _).trans a1) a4 (Array.getElem?_eq_some_iff.mp b1).1 a3 fun h' T' n1 r1 hp=>q h' T' ?_ r1 ?_
  · rw [other b (fun z=>by rw [z,b2] at hb; cases hb; exact hn ts b3)]; exact hb
  · by_cases z:T'=T
    · rw [z] at n1
      rw [Heap.get?_update_self _ b2 (Obj.isFreed_of_fields (Obj.data_mapFields b3 _))] at n1
      cases n1
    · rw [other T' z] at n1; exact n1
  · exact (Hop.upd (fr:=frs (env::outer)) _).trans hp
theorem zx7 (h3:env.frame=some L) (r:Rec s.heap e T cls fl) (hf:(fl==rawInt L)=true) (q:Q () s):wpAny M A (noteFrame (.ref e) env) Q E s:=by
  obtain ⟨oe,vs,oT,ts,⟨a1,a2,a3,a4⟩,b1,ne,b2,b3,b4⟩:=r
  unfold noteFrame
  simp only [h3]
  refine wpAny_bind (wpAny_field a1 a4 b1 ?_)
  rw [if_pos (by simp)]
  refine wpAny_bind (wpAny_field b2 b3 b4 ?_)
  rw [hf,if_pos rfl]
  exact wpAny_pure q
theorem z50 {what:String} {cenv:Env} {α:Type} {P:α→Shared→Prop} (r:Rec s.heap e T cls fl) (q:∀ h' fl',Rec h' e T cls fl'→Hop (frs (env::outer)) [T] s.heap h'→E (.ref e) { s with heap:=h' }):wpAny M A (PySem.passOn what (.ref e) cenv:Sem α) P E s:=by
  obtain ⟨oe,vs,oT,ts,⟨a1,a2,a3,a4⟩,b1,ne,b2,b3,b4⟩:=r
  unfold PySem.passOn
  refine wpAny_bind (wpAny_field a1 a4 b1 ?_)
  rw [if_neg (by simp)]
  refine wpAny_bind ?_
  unfold setFlight
  refine wpAny_bind (wpAny_field a1 a4 b1 ?_)
  rw [if_pos (by simp)]
  refine wpAny_setField b2 b3 ‹87›.1 ?_
  refine wpAny_throw (q _ (cenv.frame.elim .none fun f=>rawInt f) ?_ (Hop.upd _))
  have d:=Obj.data_mapFields b3 (·.setIfInBounds 3 (cenv.frame.elim Value.none fun f=>rawInt f))
  exact ⟨oe,vs,_,_,⟨(Heap.get?_update_other _ _ ne).trans a1,a2,a3,a4⟩,b1,ne,Heap.get?_update_self _ b2 (Obj.isFreed_of_fields d),d,by simp [‹87›.1]⟩
end
section
variable {X:Cx} {pins:List (Addr×Obj)} {σ:St} {H:Hp} {s s':Shared} {E:XK} {e:Value}
theorem Inv.leaveAny {a T:Addr} {cls fl:Value} {Ex:Value→Shared→Prop} (I:Inv X pins σ H s) (ow:OwnX X) (r:Rec s.heap a T cls fl) (o1:Out X pins H a) (o2:Out X pins H T) (q:E cls none H) :
    wpAny ‹6› X.A (leaving X.env (.ref a)) ‹59› Ex s:=by
  have fin:∀ {h1:Heap} {T':Addr} {fl':Value},Inv X pins σ H { s with heap:=h1,toks:=s.toks }→Rec h1 a T' cls fl'→Out X pins H T'→wpAny ‹6› X.A (setFlight (.ref a) none) ‹59› Ex { s with heap:=h1 }:=fun {h1 T' fl'} I1 r1 o3=>by
    refine land (env:=X.env) (outer:=X.outer) (s:={ s with heap:=h1 }) r1 fun h2 r2 p2=>?_
    rw [← ow.stk] at p2
    have I2:Inv X pins σ H { s with heap:=h2,toks:=s.toks }:=I1.hop p2 fun b hb=>by rw [List.mem_singleton.mp hb]; exact o3
    have u:=I2.base
    rw [ow.ex] at u
    exact ⟨a,cls,H,rfl,I2.os,I2.bare,u,I2.hok,⟨T',r2,⟨o1.h,o1.s0⟩,o3.h,o3.s0⟩,q⟩
  unfold leaving
  cases hf:(fl==rawInt X.env.locals) with
  | true=>exact wpAny_bind (zx7 ow.fr r hf (fin I r o2))
  | false =>
    refine wpAny_bind (zz5 (base:=X.base) (outer:=X.outer) (by rw [← ow.stk]; exact I.ok.frames) (by rw [← ow.stk]; exact I.stack) ow.fr r hf fun h1 T' n1 r1 p1=>?_)
    have o3:=I.out ow.ex n1
    rw [← ow.stk] at p1
    refine fin (I.hop p1 fun b hb=>?_) r1 o3
    rcases List.mem_cons.mp hb with rfl | hb
    · exact o2
    · rw [List.mem_singleton.mp hb]; exact o1
end
section
variable {prog:Program} {w:World} {A:Around} {R:Result→Shared→Prop} {s:Shared}
theorem zpp {elt target iter:Expr} {scope:Scope} {pos:Pos} {it acc:Value} {env:Env} (I:Nat→Shared→Prop)
    (turn:∀ n s,I n s→wpAny ‹58› A (pyNext it) (fun r s₁=>match r with
      | none=>R (.ok .next) s₁
      | some v=>wpAny ‹58› A (letOwnedTupleGo target it v) (fun _ s₀=>wpAny ‹58› A (assign target env v) (fun _ s₂ =>
          wpAny ‹58› A (eval elt env) (fun x s₄ =>
              wpAny ‹58› A (call (.builtin "list.append") [acc,x]) (fun _ s₅=>∃ m,m<n∧I m s₅) ‹50› s₄) ‹50› s₂) ‹50› s₀) ‹50› s₁) ‹50› s)
    (n:Nat) (h:I n s) :
    codeAny ‹58› A (.compLoop (.ListComp elt [⟨target,iter,[],0⟩] scope pos) 0 it acc env) R s:=by
  refine codeAny_loop rfl I (fun n s hI=>?_) n h
  show wpAny _ A ((compTurn (.ListComp elt [⟨target,iter,[],0⟩] scope pos) 0 it acc env).onRaise (fun x=>do noteFrame x env; theTreesLotGoes x)) _ _ s
  refine wpAny_noted ?_
  rw [compTurn_list]
  refine wpAny_bind (wpAny_standAt (wpAny_bind (wpAny_mono (turn n s hI) (fun r s₁ h₁=>?_) fun _ _ h'=>h')))
  cases r with
  | none=>exact wpAny_pure h₁
  | some v =>
    refine wpAny_bind (wpAny_mono h₁ (fun _ s₀ h₀=>?_) fun _ _ h'=>h')
    refine wpAny_bind (wpAny_mono h₀ (fun _ s₂ h₂=>wpAny_bind (wpAny_tests_nil ?_)) fun _ _ h'=>h')
    exact wpAny_bind (wpAny_bind (wpAny_mono h₂ (fun x s₄ h₄=>wpAny_bind (wpAny_mono h₄ (fun _ s₅ h₅=>wpAny_pure (wpAny_pure ⟨rfl,h₅⟩)) fun _ _ h'=>h')) fun _ _ h'=>h'))
end
theorem Rec.keep {h h':Heap} {e T:Addr} {cls fl:Value} (r:Rec h e T cls fl) (k:∀ b o,(b=e∨b=T)→h.get? b=some o→h'.get? b=some o):Rec h' e T cls fl:=by
  obtain ⟨oe,vs,oT,ts,⟨a1,a2,a3,a4⟩,b1,ne,b2,b3,b4⟩:=r
  exact ⟨oe,vs,oT,ts,⟨k _ _ (.inl rfl) a1,a2,a3,a4⟩,b1,ne,k _ _ (.inr rfl) b2,b3,b4⟩
def compCxX (X:Cx) (N':List Str) (scope:Scope) (cl:List (Str×Addr)) (C:Addr) (s3:Shared) (H3:Hp) (fp:List Addr) (pins:List (Addr×Obj)) (xe:Value→Shared→Prop):Cx :=
  { X with N:=N',s₀:=s3,H₀:=H3,env:=compEnvC scope cl C X.env,outer:=X.stack,stack:=X.stack,ex:=fp,fn:=fun _=>false,pn:=X.pn++pins,xe:=xe }
def z12 (J:It) (g:TG) (te:TE) (σ0:St) (H1:Hp) (Q:VK):Prop:=∀ D,H1 D=none→∃ W:Nat→Nat→List V→Hp→Prop,(∃ m,W 0 m [] (upd H1 D (.lst []))) ∧
  ∀ i m ys H,W i m ys H→(J.stop i H∧H D=some (.lst ys)∧Q (.ref D) H) ∨
    (J.go i H∧∀ x H',J.yld i H x H'→g x σ0 H' fun σ2 H2=>te σ2 H2 fun v H4=>H4 D=some (.lst ys)∧ys.length<sizeLine∧∃ m',m'<m∧W (i+1) m' (ys++[v]) (upd H4 D (.lst (ys++[v]))))
section
variable {X:Cx} {tg elt iter:Expr} {scope:Scope} {cl:List (Str×Addr)} {N':List Str} {σ0:St→St} {g:TG} {te:TE} {E:XK}
theorem zs9 {pos:Pos} {pins:List (Addr×Obj)} {σ:St} {H1:Hp} {s2:Shared} {it:Addr} {fp:List Addr} {tn:Nat→Heap→Prop} {J:It} {Q:VK}
    (ow:OwnX X) (lk:XLink X E) (hc:X.calm=true) (hcell:∀ y∈scope.names,y.2≠.cell) (hkind:scope.kind=.function)
    (I:Inv X pins σ H1 s2) (T:Turn X.prog X.w X.K tg J fp it tn) (st:tn 0 s2.heap) (hfp:∀ b∈fp,FpOk X pins H1 b) (fr:Frees X N' scope cl σ (σ0 σ)) (hk:zzf g (σ0 σ))
    (hg:∀ C s3 H3 fp pins xe,PG ‹118› tg g)
    (he:∀ C s3 H3 fp pins xe,zk5 (CXE X.prog X.w) ‹118› E→PE ‹118› elt te) (hw:z12 J g te (σ0 σ) H1 Q) :
    wpAny ‹6› X.A (newList []) (fun acc s₃=>wpAny ‹6› X.A (newFunctionEnv scope X.env.globals cl [] X.env.qual none .none (some X.env)) (fun cenv s₄ =>
      codeAny ‹6› X.A (.compStart ‹51› 0 (.ref it) acc { cenv with scope:=relabel scope X.env }) (compPost ‹6› X.A X.xe none ‹82› acc cenv.locals) s₄) X.xe s₃) X.xe s2:=by
  refine wpAny_newObj_type (hd:=by size_fits) (wpAny_newFunctionEnv hcell (by intro y hy; simp at hy) (fun h₁ hns₁ hsb₁=>?_) hkind)
  dsimp only at hns₁ hsb₁ ⊢
  have I3:Inv X pins σ (upd H1 s2.heap.objs.size (.lst [])) { s2 with heap:=s2.heap.push { cls:=.type "list", dict:=none,data:=.seq ([]:List Value).toArray } }:=I.lnew (t':=s2.toks) (its:=[]) (ys:=[]) .nil (Nat.zero_le _)
  obtain ⟨W,⟨m0,w0⟩,turn⟩:=hw s2.heap.objs.size I.fresh
  have hfpo:=T.obj 0 _ st
  have fpl:∀ b∈fp,b<s2.heap.objs.size:=fun b hb=>by
    obtain ⟨o,e,_⟩:=hfpo b hb
    exact Heap.lt_size e
  have fD:∀ b∈fp,upd H1 s2.heap.objs.size (.lst []) b=none:=fun b hb=>by
    rw [upd_ne (Nat.ne_of_lt (fpl b hb))]
    exact (hfp b hb).1
  generalize hs3:({ s2 with heap:=s2.heap.push { cls:=.type "list", dict:=none,data:=.seq ([]:List Value).toArray } }:Shared)=s3 at I3
  have es3:s3.heap=s2.heap.push { cls:=.type "list", dict:=none,data:=.seq ([]:List Value).toArray }:=by rw [← hs3]
  have st3:tn 0 s3.heap:=T.keep _ _ _ st fun b hb o e=>by rw [es3]; exact Heap.get?_push_of_some _ e
  rw [← es3] at hns₁ hsb₁ ⊢
  have sz3:s2.heap.objs.size<s3.heap.objs.size:=by rw [es3,Heap.size_push]; exact Nat.lt_succ_self _
  generalize upd H1 s2.heap.objs.size (.lst [])=H3 at I3 fD w0
  have old:∀ b o,s3.heap.get? b=some o→h₁.get? b=some o:=fun b o e=>hsb₁.extBut b o (Nat.ne_of_lt (Heap.lt_size e)) ‹147›
  have fpl3:∀ b∈fp,b<s3.heap.objs.size:=fun b hb=>Nat.lt_trans (fpl b hb) sz3
  have stk:∀ b∈fp,b∉frs X.stack:=fun b hb z=>by
    rcases List.mem_cons.mp (I3.stkSub b z) with e | e
    · exact (hfp b hb).2.1 e
    · exact (hfp b hb).2.2.1 e
  have lt3:X.env.locals<s3.heap.objs.size:=I3.lt
  have cC:∀ x c,X.env.cells.lookup x=some c→c≠s3.heap.objs.size:=fun x c e z=>by
    obtain ⟨v,o,ho,_⟩:=I3.cell x c e
    exact absurd (Heap.lt_size ho) ‹151›
  have pC:∀ p∈X.pn++pins,p.1≠s3.heap.objs.size:=fun p hp z=>by
    have e:=(I3.pin p hp).1
    exact absurd (Heap.lt_size e) ‹151›
  have xeC:zk5 (CXE X.prog X.w) (compCxX X N' scope cl s3.heap.objs.size s3 H3 fp pins (notedBy ‹6› X.A (compEnvC scope cl s3.heap.objs.size X.env) fun e s'=>compPost ‹6› X.A X.xe none ‹82› ‹77› s3.heap.objs.size (.error e) s')) E:=by
    intro pl σ' H s e s' Ii h
    have J0:Inv X pins σ H s:=I3.call' Ii.os Ii.base Ii.hok Ii.bare fun b hb=>⟨(hfp b hb).2.2.2.1,(hfp b hb).2.1,(hfp b hb).2.2.2.2.1,(hfp b hb).2.2.2.2.2⟩
    have Cs:∃ o,s.heap.get? s3.heap.objs.size=some o:=by
      obtain ⟨m,⟨o,es,ep,ho,_⟩,_⟩:=Ii.loc
      exact ⟨o,ho⟩
    obtain ⟨a,cls,H',rfl,ho,hb,u,hok,⟨T',r,⟨a1,a2⟩,b1,b2⟩,q⟩:=h
    have Ij:=Ii.call' ho u hok hb (fun b z=>absurd z (by simp))
    have J1:Inv X pins σ H' s':=J0.call' ho u hok hb (fun b z=>absurd z (by simp))
    have o1:=(J0.out ow.ex a2).weak a1
    have o2:=(J0.out ow.ex b2).weak b1
    obtain ⟨m,⟨oC,es,ep,hoC,rC⟩,_⟩:=Ij.loc
    have hCH:H' s3.heap.objs.size=none:=Ij.free
    have neA:s3.heap.objs.size≠a:=fun z=>by obtain ⟨o,e⟩:=Cs; rw [z,a2] at e; cases e
    have neT:s3.heap.objs.size≠T':=fun z=>by obtain ⟨o,e⟩:=Cs; rw [z,b2] at e; cases e
    show wpAny _ _ (noteFrame (.ref a) X.env) _ _ s'
    refine zjv (base:=X.base) (outer:=X.outer) (by rw [← ow.stk]; exact J1.ok.frames) (by rw [← ow.stk]; exact J1.stack) ow.fr r fun h1 T2 n1 r1 p1=>?_
    rw [← ow.stk] at p1
    have o3:=J1.out ow.ex n1
    have neT2:s3.heap.objs.size≠T2:=fun z=>by rw [← z] at n1; have hoC:s'.heap.get? s3.heap.objs.size=some oC:=hoC; rw [hoC] at n1; cases n1
    have J2:Inv X pins σ H' { s' with heap:=h1,toks:=s'.toks }:=J1.hop p1 fun b hb=>by
      rcases List.mem_cons.mp hb with rfl | hb
      · exact o2
      · rw [List.mem_singleton.mp hb]; exact o1
    obtain ⟨sl,hoC1⟩:=p1.slot s3.heap.objs.size oC (fun z=>by
      rcases List.mem_cons.mp z with z | z
      · exact neT z
      · exact neA (List.mem_singleton.mp z)) hoC
    refine ⟨m,⟨_,es,ep,hoC1,rC⟩,fun h2 sb cenv _=>?_⟩
    have J3:Inv X pins σ H' { s' with heap:=h2,toks:=s'.toks }:=J2.turned (t':=s'.toks) (fun b o hb e=>sb.extBut b o hb e) hCH (Nat.ne_of_gt lt3) (.inr I3.sz) cC pC
    have r2:Rec h2 a T2 cls (rawInt X.env.locals):=r1.keep fun b o hb e=>sb.extBut b o (by
      rcases hb with rfl | rfl
      · exact Ne.symm neA
      · exact Ne.symm neT2) e
    refine z50 (env:=X.env) (outer:=X.outer) (s:={ s' with heap:=h2 }) r2 fun h3 fl' r3 p3=>?_
    rw [← ow.stk] at p3
    have J4:Inv X pins σ H' { s' with heap:=h3,toks:=s'.toks }:=J3.hop p3 fun b hb=>by rw [List.mem_singleton.mp hb]; exact o3
    exact lk _ _ (J4.leaveAny ow r3 o1 o3 q)
  generalize hxe:(notedBy ‹6› X.A (compEnvC scope cl s3.heap.objs.size X.env) fun e s'=>compPost ‹6› X.A X.xe none ‹82› ‹77› s3.heap.objs.size (.error e) s')=xe at xeC
  have ok:‹24›.Ok:=by
    refine ⟨I3.ok.mod,hkind,I3.ok.glob,I3.ok.blt,Nat.le_refl _,fun x y c h1 h2=>I3.ok.inj x y c (fr.sub x c h1) (fr.sub y c h2),fun x h=>fr.has x h,fun x c h _=>(by cases h),I3.ok.hd,I3.ok.frames,.inl rfl,
      fun b hb=>⟨Nat.ne_of_lt (fpl3 b hb),fun x c e=>(hfp b hb).2.2.2.2.1 x c (fr.sub x c e)⟩,I3.bs,Nat.le_trans I3.ok.bsz I3.sz,fun b o e hb=>?_,fun b hb=>stk b hb,I3.stack,I3.stkFree⟩
    rcases (hfp b hb).2.2.2.1 with z | z
    · exact I3.ok.noex b o e z
    · have l1:b<X.base.objs.size:=Heap.lt_size e
      have l2:X.base.objs.size≤X.s₀.heap.objs.size:=I3.ok.bsz
      have l3:X.s₀.heap.objs.size≤b:=z
      exact absurd (Nat.lt_of_lt_of_le l1 (Nat.le_trans l2 l3)) ‹122›
  have start:Inv ‹24› [] (σ0 σ) H3 { s3 with heap:=h₁ }:=by
    refine ⟨ok,rfl,I3.bare,Un.kept old,⟨_,hns₁,fun j x v e1 e2 _=>?_⟩,fun x c e=>?_,I3.hok.fresh ‹34›,fun x c e=>I3.freeC x c (fr.sub x c e),fun p hp=>?_,I3.hok.kept old,fr.len⟩
    · obtain ⟨i,c,q1,q2,q3,q4,q5,q6⟩:=fr.vals j x v e1 e2
      obtain ⟨m,hn,hl⟩:=I3.loc
      obtain ⟨u,r,l⟩:=hl i x v q1 q2 q3
      refine ⟨u,r,.inr ⟨q6,c,q5,?_⟩⟩
      rcases l with ⟨k,_⟩ | ⟨_,c',e',z⟩
      · exact absurd k q4
      · rw [fr.sub x c q5] at e'
        cases e'
        obtain ⟨o,ho,hd⟩:=z
        exact ⟨o,old _ _ ho,hd⟩
    · obtain ⟨v,o,ho,hd⟩:=I3.cell x c (fr.sub x c e)
      exact ⟨v,o,old _ _ ho,hd⟩
    · have hp':p∈X.pn++pins:=by simpa [compCxX] using hp
      obtain ⟨e,n,ne,nf,d⟩:=I3.pin p hp'
      refine ⟨old _ _ e,n,Nat.ne_of_lt (Heap.lt_size e),fun z=>?_,d⟩
      rcases List.mem_cons.mp (I3.stkSub p.1 z) with q | q
      · exact ne q
      · exact nf q
  have hst₁:tn 0 h₁:=T.keep _ _ _ st3 fun b _ o e=>old b o e
  have fpok:∀ {H':Hp},(∀ b∈fp,H' b=none)→∀ b∈fp,FpOk ‹24› [] H' b:=fun {H'} hn b hb =>
    ⟨hn b hb,Nat.ne_of_lt (fpl3 b hb),stk b hb,.inl hb,fun x c e=>(hfp b hb).2.2.2.2.1 x c (fr.sub x c e),fun p hp=>(hfp b hb).2.2.2.2.2 p (by simpa [compCxX] using hp)⟩
  have loop:codeAny ‹6› X.A (.compLoop ‹51› 0 (.ref it) ‹77› (compEnvC scope cl s3.heap.objs.size X.env)) (compPost ‹6› X.A X.xe none ‹82› ‹77› s3.heap.objs.size) { s3 with heap:=h₁ }:=by
    refine zpp (fun n s'=>∃ i ys H',Inv ‹24› [] (σ0 σ) H' s'∧tn i s'.heap∧(∀ b∈fp,H' b=none)∧W i n ys H') ?_ m0 ⟨0,[],H3,start,hst₁,fD,w0⟩
    rw [hxe]
    rintro n s4 ⟨i,ys,H4,I4,st4,fr4,w4⟩
    rcases turn i n ys H4 w4 with ⟨stop,eD,q⟩ | ⟨go,step⟩
    · refine thn (T.done ‹24› rfl rfl rfl hc i [] s4 _ H4 _ I4 (fpok fr4) st4 stop) fun r s5 ⟨hr,I5⟩=>?_
      subst hr
      obtain ⟨m5,n5,_⟩:=I5.loc
      have J5:Inv X pins σ H4 s5:=I3.call' I5.os I5.base I5.hok I5.bare fun b hb=>⟨(hfp b hb).2.2.2.1,(hfp b hb).2.1,(hfp b hb).2.2.2.2.1,(hfp b hb).2.2.2.2.2⟩
      refine ⟨m5,n5,fun h'' hs''=>⟨.ref s2.heap.objs.size,H4,?_,rfl,q⟩⟩
      exact J5.turned (t':=s5.toks) (fun b o hb e=>hs''.extBut b o hb e) I5.free (Nat.ne_of_gt lt3) (.inr I3.sz) cC pC
    · refine thn (T.item ‹24› rfl rfl rfl hc i [] s4 _ H4 _ I4 (fpok fr4) st4 go) fun r s5 ⟨u,hr,h5⟩=>?_
      subst hr
      refine thn h5 fun _ s6 ⟨x,H6,I6,r6,y6,st6,fr6⟩=>?_
      have I6':=I6.pinned (fpok fr6) (T.obj _ _ st6)
      refine thn (hg _ _ _ _ _ _ _ s6 _ H6 x u _ I6' r6 (hk _ _ _ (step x H6 y6))) fun _ s7 ⟨σ7,H7,I7,q7,l7,k7⟩=>?_
      have again:∀ {s8:Shared} {H8:Hp} {m:Nat} {zs:List V},Inv ‹24› ([]++znr fp s6.heap) σ7 H8 s8→m<n→W (i+1) m zs H8 →
          ∃ m,m<n∧∃ i ys H',Inv ‹24› [] (σ0 σ) H' s8∧tn i s8.heap∧(∀ b∈fp,H' b=none)∧W i m ys H':=fun {s8 H8 m zs} I8 hm w8=>by
        refine ⟨m,hm,i+1,zs,H8,(Inv.unpinned I8).weak l7.symm k7,T.keep _ _ _ st6 fun b hb o e=>(I8.pin (b,o) ‹32›).1,fun b hb=>?_,w8⟩
        obtain ⟨o,e,d⟩:=T.obj _ _ st6 b hb
        exact (I8.pin (b,o) ‹32›).2.1
      refine thn (he _ _ _ _ _ _ xeC _ s7 σ7 H7 _ I7 q7) fun v s9 ⟨y,H9,I9,r9,e9,z9,m',hm,w9⟩=>?_
      exact thn ‹54›
          fun _ s10 ⟨_,H10,I10,_,e10⟩=>by subst e10; exact again I10 hm w9
  subst hs3
  exact codeAny_compStart_list loop (T.self _ 0 _ _ _ hst₁ loop)
def z07 (wi:TI) (g:TG) (te:TE) (σ0:St→St):TE:=fun σ H Q=>wi σ H fun J H1=>z12 J g te (σ0 σ) H1 Q
variable {pos:Pos} {wi:TI} {ts zs:List Str} {is:List Nat} {k:Nat}
theorem z29 (lk:XLink X E) (ow:OwnX X) (hc:X.calm=true) (hi:PI X tg iter wi) (hk:ts.length=k) (hs:SubL X cl) (hcp:CapL X scope cl is zs) (ha:(‹30›.names.all fun y=>!(y.2==.cell || y.2==.free) || zs.contains y.1)=true) (hl:Low k g)
    (hg:∀ C s3 H3 fp pins xe,PG ‹146› tg g) (he:∀ C s3 H3 fp pins xe,zk5 (CXE X.prog X.w) ‹146› E→PE ‹146› elt te)
    (hclos:closureFor scope X.env=pure cl) (hcell:∀ y∈scope.names,y.2≠.cell) (hkind:scope.kind=.function) (hnames:∀ y∈scope.names,y.2=.local→scope.names.lookup y.1=some .local)
    (hf:∀ x,foldedSetIterable iter X.env x=pure x:=by intro _; rfl):PE X ‹51› (z07 wi g te (VL.s0 k is)):=by
  intro pins s σ H Q I h
  rw [eval_ListComp]
  refine wpAny_comprehension_free (use:=none) rfl hf hclos hkind hnames ‹56›
  obtain ⟨it,fp,tn,J,H2,e,I2,T,st2,f2,q⟩:=h2
  subst e
  exact zs9 ow lk hc hcell hkind I2 T st2 f2 (Frees.many hk hs hcp ha) (hl.keep σ) hg he q
theorem pgbX {i:Nat} {y:Str} {py:Pos} (nd:N'.Nodup) (hi:N'[i]?=some y) (hx:scope.names.lookup y=some .local) {C:Addr} {s3:Shared} {H3:Hp} {fp:List Addr} {pins:List (Addr×Obj)} {xe:Value→Shared→Prop} :
    PG ‹118› (.Name y py) (zmz i):=zc9 nd hi (.inl (lookup_relabel_local hx)) (.inr (lookup_relabel_local hx))
def tOrE (t u:TE):TE:=fun σ H Q=>t σ H Q∨u σ H Q
theorem zxt {e:Expr} {t u:TE} (h1:PE X e t) (h2:PE X e u):PE X e (tOrE t u):=fun pins s σ H Q I h=>h.elim (h1 pins s σ H Q I) (h2 pins s σ H Q I)
end
end L2
namespace VL
open PySem L2
open Classical
noncomputable section
variable [Tabs] {K:PySem.W.Frag} {E:XK} {C:Addr}
def zdn (g:DG) (e x:DE) (r:Rho):List D→Prop
  | []=>False
  | d::ds=>match g d r with
    | none=>False
    | some ρ1=>match x ρ1 with
      | some _=>True
      | none=>match e ρ1 with
        | some _=>zdn g e x r ds
        | none=>False
@[irreducible] noncomputable def sXC (k:Nat) (cs:List Nat) (it:Rho→Option (List D)) (g:DG) (e x:DE):DS:=fun ρ=>match it ρ with
  | some ds=>if zdn g e x (r0 k cs ρ) ds then .rt .non else .no
  | none=>.no
theorem zol {m:Bool} {k:Nat} {cs:List Nat} {wi:TI} {g:TG} {te:TE} {it:Rho→Option (List D)} {gd:DG} {ed:DE} {ms:List Bool} {F:List D→Option D} {t:TA} {es:Rho→Option (List D)} (hw:zvr K m wi it) (hg:SemG K m g gd) (he:SemI K te ed) (ha:SemA K ms t es) :
    SemS (.x E C) K (tRet (z07 wi g (tOrE te (zp4 (spX K ms C F) [] E t)) (s0 k cs))) (sXC k cs it gd ed (za4 F es)):=fun {B Z os ρ σ H En} f p=>by
  have hk:∃ xs,it ρ=some xs∧zdn gd ed (za4 F es) (r0 k cs ρ) xs∧∀ H',Same B H'→E (.ref C) none H':=by
    unfold sXC at p
    split at p
    · rename_i xs e0
      split at p
      · rename_i h; exact ⟨xs,e0,h,p⟩
      · exact p.elim
    · exact p.elim
  clear p
  obtain ⟨xs,e0,q,p⟩:=hk
  show wi σ H _
  refine hw f e0 fun J H1 s1 W Dl hD=>?_
  have f1:=f.grow s1
  have sD:∀ {H2:Hp} {ys:List V},Same H1 H2→Same H1 (upd H2 Dl (.lst ys)):=fun {H2 ys} s a o e=>by
    rw [upd_ne (zbo e hD)]; exact s _ _ e
  refine ⟨fun i m ys H2=>m=xs.length-i∧i≤xs.length∧Same H1 H2∧H2 Dl=some (.lst ys)∧ys.length≤i∧zdn gd ed (za4 F es) (r0 k cs ρ) (xs.drop i),
    ⟨_,rfl,Nat.zero_le _,sD ‹101›,zbb,Nat.le_refl _,q⟩,?_⟩
  rintro i mm ys H2 ⟨rfl,hi,s2,eD,hly,q2⟩
  have kp12:Kp (tot Z os) H1 ‹64› H2:=fun a u e z=>⟨s2 _ _ e,fun w=>w.elim (zbo e hD) z⟩
  by_cases hlt:i<xs.length
  · have ex:xs[i]?=some xs[i]:=List.getElem?_eq_getElem hlt
    have ef:=zpw f1 hD s2 eD k cs
    obtain ⟨go,yl⟩:=W.go i xs[i] H2 _ kp12 s2 (fun a z=>ef.zin a z) ex
    refine .inr ⟨go,fun x H3 hy=>?_⟩
    obtain ⟨s3,er⟩:=yl x H3 hy
    have eD3:=s3 _ _ eD
    have s13:=s2.trans s3
    have ef3:=zpw f1 hD s13 eD3 k cs
    rw [List.drop_eq_getElem_cons hlt] at q2
    unfold zdn at q2
    have er':ER K m H1 H3 (tot ‹64› fun _=>[]) x xs[i]:=by
      cases m with
      | false=>exact er
      | true=>exact Is.kp ‹81› er
    split at q2
    · exact q2.elim
    · rename_i ρ1 e1
      refine hg ef3 er' e1 fun os1 σ1 fr1 k1=>?_
      split at q2
      · rename_i d e2
        exact .inr (zsb ha fr1 e2 (fun H' s'=>p H' (f1.keep.trans s')) _)
      · split at q2
        · rename_i y e3
          refine .inl (he fr1 e3 fun v H5 s5 i5=>?_)
          have hl:=W.len
          exact ⟨s5 _ _ eD3,by omega,_,by omega,rfl,hlt,sD (s13.trans s5),zbb,by rw [List.length_append,List.length_singleton]; omega,q2⟩
        · exact q2.elim
  · have e:i=xs.length:=by omega
    subst e
    rw [List.drop_length] at q2
    exact q2.elim
theorem zn5 {k:Nat} {cs:List Nat} {it:Rho→Option (List D)} {g:DG} {e x:DE} {ρ:Rho} {ds:List D} {W:Wk} (h:it ρ=some ds) (hr:zdn g e x (r0 k cs ρ) ds) (kk:W.rt .non):Wp (sXC k cs it g e x) ρ W:=by
  unfold Wp sXC
  rw [h]
  simp only [if_pos hr]
  exact kk
theorem zjn {α:Type} {g:DG} {e x:DE} {r:Rho} (emb:α→D):∀ {xs:List α},(∀ a∈xs,∃ ρ1,g (emb a) r=some ρ1∧((∃ d,x ρ1=some d)∨∃ d,e ρ1=some d))→(∃ a∈xs,∀ ρ1,g (emb a) r=some ρ1→∃ d,x ρ1=some d)→zdn g e x r (xs.map emb)
  | [],_,⟨_,h,_⟩=>by cases h
  | a::xs,h,hx=>by
    obtain ⟨ρ1,e1,h1⟩:=h a List.mem_cons_self
    rw [List.map_cons]
    unfold zdn
    rw [e1]
    dsimp only
    cases ex:x ρ1 with
    | some d=>trivial
    | none =>
      rcases h1 with ⟨d,h1⟩ | ⟨d,h1⟩
      · rw [ex] at h1; cases h1
      · rw [h1]
        refine zjn emb (fun b hb=>h b (List.mem_cons_of_mem _ hb)) ?_
        obtain ⟨b,hb,h2⟩:=hx
        rcases List.mem_cons.mp hb with rfl | hb
        · obtain ⟨d',h3⟩:=h2 ρ1 e1
          rw [ex] at h3; cases h3
        · exact ⟨b,hb,h2⟩
def SemX (E:XK) (C:Addr) (K:PySem.W.Frag) (t:TE) (x:DE):Prop:=∀ {B:Hp} {Z:Addr→Prop} {os:Own} {ρ:Rho} {σ:L2.St} {H:Hp} {d:D},Fr K B Z os ρ σ H→x ρ=some d→(∀ H',Same B H'→E (.ref C) none H')→∀ Q,t σ H Q
theorem sx_c {ms:List Bool} {F:List D→Option D} {t:TA} {es:Rho→Option (List D)} (ha:SemA K ms t es):SemX E C K (zp4 (spX K ms C F) [] E t) (za4 F es):=fun f e p Q=>zsb ha f e p Q
end
end VL
namespace L2
open PySem PySem.Spec PyProof.Rows
def BmOk (mg:Str→Option Value) (base:Heap):Prop:=∃ bm ob,mg "__builtins__" = some (.ref bm)∧bm≠builtinsNs∧base.get? bm=some ob∧ob.cls=.type "module" ∧ ob.dict=some builtinsNs∧ob.data=.plain
structure LamOk (X:Cx) (c P:Addr):Prop where
  code:X.env.code=.ref c
  hd:PySem.W.codeHdIn X.K c P=true
  bm:BmOk X.mg X.base
structure LFrees (X:Cx) (x:Str) (zs:List Str) (is:List Nat) (scope:Scope) (cl:List (Str×Addr)):Prop where
  par:scope.names.lookup x=some .local
  sub:∀ y c,cl.lookup y=some c→X.env.cells.lookup y=some c
  cap:∀ (j:Nat) (z:Str),zs[j]?=some z→∃ i c,is[j]?=some i∧X.N[i]?=some z∧‹42›∧cl.lookup z=some c∧scope.names.lookup z=some .free
  has:∀ y,(scope.names.lookup y=some .cell∨scope.names.lookup y=some .free)→∃ c,cl.lookup y=some c
  len:is.length=zs.length
  nocell:∀ y∈scope.names,y.2≠.cell
  kind:scope.kind=.function
  co:scope.isCoroutine=false
  gen:scope.isGenerator=false
inductive LapL (X:Cx) (scope:Scope) (cl:List (Str×Addr)):List Nat→List Str→Prop
  | nil:LapL X scope cl [] []
  | cons {i:Nat} {z:Str} {c:Addr} {is:List Nat} {zs:List Str}:X.N[i]?=some z→‹42›→cl.lookup z=some c→scope.names.lookup z=some .free→LapL X scope cl is zs→LapL X scope cl (i::is) (z::zs)
end L2
namespace L2
open PySem PySem.Spec PyProof.Rows
section
variable {X:Cx} {pins:List (Addr×Obj)} {σ:St} {m:Str→Option Value} {kS f:Addr} {o:Obj} {q:Str} {params:Arguments} {body:Expr} {scope:Scope} {cl:List (Str×Addr)} {A:Around} {x:Str} {zs:List Str} {is:List Nat} {te:TE} {Fin:List V→Hp→Prop}
structure Nil (X:Cx) (pins:List (Addr×Obj)) (H:Hp) (b:Addr):Prop where
  h:H b=none
  cell:∀ x c,X.env.cells.lookup x=some c→c≠b
  pin:∀ p∈X.pn++pins,p.1≠b
  fs:b∉X.fs
end
end L2
namespace L2
open PySem PySem.Spec PyProof.Rows
def tabH (ts:List (Addr×Str)):Hp:=fun b=>(ts.lookup b).map fun q=>.tbl #[.str q 0]
end L2
namespace VL
open PySem L2
open Classical
noncomputable section
variable {K:PySem.W.Frag}
def ordb:Nat→D→D→Bool
  | _,.int _,.int _=>true
  | n+1,.lst xs,.lst ys=>(List.zip xs ys).all fun p=>cmpb n p.1 p.2&&ordb n p.1 p.2
  | n+1,.tup xs,.tup ys=>(List.zip xs ys).all fun p=>cmpb n p.1 p.2&&ordb n p.1 p.2
  | _,_,_=>false
section
variable {X:Cx} {pins:List (Addr×Obj)} {σ:L2.St} {H:Hp} {s:Shared}
inductive Om:Nat→D→D→Prop
  | int {n:Nat} (a b:Int):Om n (.int a) (.int b)
  | lst {n:Nat} {xs ys:List D} (h:(List.zip xs ys).all (fun p=>cmpb n p.1 p.2&&ordb n p.1 p.2)=true):Om (n+1) (.lst xs) (.lst ys)
  | tup {n:Nat} {xs ys:List D} (h:(List.zip xs ys).all (fun p=>cmpb n p.1 p.2&&ordb n p.1 p.2)=true):Om (n+1) (.tup xs) (.tup ys)
end
end
end VL
namespace L2
open PySem PySem.Spec PyProof.Rows VL
def Rs (xs:Array Nat):Prop:=xs.toList.Pairwise (· < ·)
structure TabG (led:Bool) (t:SetTable):Prop where
  led:t.led=led
  up:Rs t.place
end L2
namespace L2
open PySem PySem.Spec PyProof.Rows VL
structure Once (val:Nat→Int) (i:Nat) (ks:List Int):Prop where
  nd:ks.Nodup
  mem:∀ x,x∈ks↔∃ j,j<i∧val j=x
  len:ks.length≤i
end L2
namespace VL
open PySem L2
open Classical
noncomputable section
variable [Tabs] {K:PySem.W.Frag}
omit [Tabs] in
end
end VL
namespace VL
open PySem L2
open Classical
noncomputable section
variable [Tabs] {K:PySem.W.Frag}
def unI:List D→Option (List Int)
  | []=>some []
  | .int n::r=>(unI r).map (n::·)
  | _=>none
omit [Tabs] in
end
end VL
namespace L2
open PySem PySem.Spec PyProof.Rows VL
open Builtin.Str (occurrences subAt strSub partsBetween glued strKind tooLong)
def zod (a b:Str):Bool:=0+b.length≤a.length&&subAt a b 0
def splitL (a b:Str):List Str:=if ((decide (a.length<b.length) || decide (strKind a<strKind b)) || ‹120›.isEmpty)=true then [a] else partsBetween a ‹120› b.length
def tailT (a:Str):Str:=⟨(a.cps.toList.drop 1).toArray⟩
section
variable {X:Cx}
theorem zh5 {x:Str} {i:Str} {pos:Pos} (hg:Gl X x) (hm:∃ t,X.mg x=some (.str i t)) (hd:(x==("__debug__" : Str))=false:=by decide):PE X (.Name x pos) (tC (.str i)):=by
  obtain ⟨t,e⟩:=hm
  exact zf9 hg e ⟨t,rfl⟩ hd
def zxk:V→List V→Hp→VK→Prop:=fun x vs H Q=>∃ a b,x=.str a∧vs=[.str b]∧Q (.bl (zod a b)) H
theorem zrg:MtM X "str.startswith" zxk:=by
  intro pins s σ H x xs v us Q I rx rv h
  obtain ⟨a,b,rfl,rfl,q⟩:=h
  obtain ⟨t,rfl⟩:=rx
  obtain ⟨u,rfl,t2,rfl⟩:=vals1 rv
  exact call_gives PySem.F.slot_str_startswith (typeIs_str s a t) PySem.F.entry_str_startswith (PySem.F.args_str_startswith_2 _ _) (gives_str_startswith a b t t2) ⟨.bl _,H,I,rfl,q⟩
theorem zp1:∀ (tk:Nat) (xs:List Str),Vals (xs.map V.str) (strsFrom tk xs)
  | _,[]=>.nil
  | tk,x::r=>.cons ⟨tk,rfl⟩ (zp1 (tk+1) r)
def z1m:V→List V→Hp→VK→Prop:=fun x vs H Q=>∃ a b,x=.str a∧vs=[.str b]∧(b.length==0)=false∧a.length≤sizeLine∧(splitL a b).length≤sizeLine∧∀ p,H p=none→Q (.ref p) (upd H p (.lst ((splitL a b).map V.str)))
theorem zlu:MtM X "str.split" z1m:=by
  intro pins s σ H x xs v us Q I rx rv h
  obtain ⟨a,b,rfl,rfl,hb,ha,hl,q⟩:=h
  obtain ⟨t,rfl⟩:=rx
  obtain ⟨u,rfl,t2,rfl⟩:=vals1 rv
  have fin:∀ (ws:List Value) (tk:Nat),Vals ((splitL a b).map V.str) ws→EP X pins σ Q (.ref s.heap.objs.size) { s with toks:=tk,heap:=s.heap.push { cls:=.type "list", data:=.seq ws.toArray } }:=fun ws tk vw =>
    ⟨.ref _,_,I.laid (t':=tk) (o:=.lst ((splitL a b).map V.str)) (fun b ob q=>Heap.get?_push_of_some _ q) ‹34› ⟨by rw [List.length_map]; exact hl,ws,0,vw,Heap.get?_push_size _ rfl⟩,rfl,q _ (I.hok.fresh ‹34›)⟩
  by_cases c1:(decide (a.length<b.length) || decide (strKind a<strKind b))=true
  · refine call_meets PySem.F.slot_str_split (typeIs_str s a t) PySem.F.entry_str_split (PySem.F.args_str_split_2 _ _) (meets_str_split_cannot_occur a b t t2 c1) ?_
    refine fin [.str a t] s.toks ?_
    unfold splitL
    rw [c1,Bool.true_or,if_pos rfl]
    exact .cons ⟨t,rfl⟩ .nil
  · have c1:=Bool.eq_false_iff.mpr c1
    by_cases c2:‹120›.isEmpty=true
    · refine call_meets PySem.F.slot_str_split (typeIs_str s a t) PySem.F.entry_str_split (PySem.F.args_str_split_2 _ _) (meets_str_split_not_found a b t t2 c1 hb c2) ?_
      refine fin [.str a t] s.toks ?_
      unfold splitL
      rw [c2,Bool.or_true,if_pos rfl]
      exact .cons ⟨t,rfl⟩ .nil
    · have c2:=Bool.eq_false_iff.mpr c2
      have es:splitL a b=partsBetween a ‹120› b.length:=by
        unfold splitL
        rw [c1,c2,Bool.false_or,if_neg ‹3›]
      refine call_meets PySem.F.slot_str_split (typeIs_str s a t) PySem.F.entry_str_split (PySem.F.args_str_split_2 _ _) (meets_str_split_sep a b t t2 c1 hb c2 ha (by rw [← es]; exact hl)) ?_
      rw [← es]
      exact fin _ _ (zp1 _ _)
theorem zwh:∀ {xs:List Str} {us:List Value},Vals (xs.map V.str) us→∃ l:List (Str×Tok),us=strValues l∧l.map (·.1)=xs
  | [],_,.nil=>⟨[],rfl,rfl⟩
  | x::xs,_,.cons h r=>by
    obtain ⟨l,e1,e2⟩:=zwh (xs:=xs) r
    obtain ⟨t,rfl⟩:=h
    exact ⟨(x,t)::l,by rw [e1]; rfl,by rw [List.map_cons,e2]⟩
def z4z (K:PySem.W.Frag):V→List V→Hp→VK→Prop:=fun x vs H Q=>∃ a p xs,x=.str a∧vs=[.ref p]∧SqL K H p ((xs:List Str).map V.str)∧tooLong (xs.toArray.foldl (·+·.length+a.length) 0)=false∧(glued a xs).length≤sizeLine∧Q (.str (glued a xs)) H
theorem zst {K:PySem.W.Frag} (hK:X.K=K):MtM X "str.join" (z4z K):=by
  subst hK
  intro pins s σ H x xs v us Q I rx rv h
  obtain ⟨a,p,xs,rfl,rfl,hq,h1,h2,q⟩:=h
  obtain ⟨t,rfl⟩:=rx
  obtain ⟨u,rfl,ru⟩:=vals1 rv
  cases ru
  obtain ⟨its,r,pl,hz⟩:=I.list hq
  obtain ⟨l,rfl,rfl⟩:=zwh r
  refine call_meets PySem.F.slot_str_join (typeIs_str s a t) PySem.F.entry_str_join (PySem.F.args_str_join_2 _ _) (meets_str_join_list a t p l h1) ⟨pl.isList,?_⟩
  match l,q,h2 with
  | [y],q,_=>exact ⟨.str y.1,H,I,⟨_,rfl⟩,q⟩
  | [],q,h2=>exact ⟨h2,.str _,H,I.tok _,⟨_,rfl⟩,q⟩
  | y::z::r,q,h2=>exact ⟨h2,.str _,H,I.tok _,⟨_,rfl⟩,q⟩
def z4w:V→Option Int→Option Int→Hp→VK→Prop:=fun x lo hi H Q=>∃ a,x=.str a∧lo=some 1∧hi=none∧a.length≤sizeLine∧Q (.str (tailT a)) H
theorem zsx {α:Type}:∀ l:List α,(List.range l.length).filterMap (fun k=>l[k]?)=l
  | []=>rfl
  | x::l=>by
    rw [List.length_cons,List.range_succ_eq_map,List.filterMap_cons]
    show x::(List.filterMap (fun k=>(x::l)[k]?) ((List.range l.length).map Nat.succ))=_
    rw [List.filterMap_map]
    exact congrArg (x::·) (zsx l)
theorem zwb (a:Str) (t:Tok):(slicePicked a (some (1,t)) none none).filterMap (a.cps[·]?)=a.cps.toList.drop 1∧(slicePicked a (some (1,t)) none none).length=a.length-1:=by
  have hlen:a.cps.toList.length=a.length:=Array.length_toList
  have e:slicePicked a (some (1,t)) none none=(List.range (a.length-1)).map fun k=>1+k:=by
    show sliceRange (max 0 (min (if (1:Int)<0 then 1+(a.length:Int) else 1) (a.length:Int))) (a.length:Int) 1=_
    rw [if_neg ‹3›]
    unfold sliceRange
    rw [if_pos ‹3›]
    have e2:(if max 0 (min (1:Int) (a.length:Int))<(a.length:Int) then ((a.length:Int)-max 0 (min (1:Int) (a.length:Int))+1-1) / 1 else 0).toNat=a.length-1:=by
      split
      · rw [Int.ediv_one]; omega
      · omega
    dsimp only
    rw [e2]
    refine List.map_congr_left fun k hk=>?_
    have:=List.mem_range.mp hk
    omega
  rw [e]
  refine ⟨?_,by rw [List.length_map,List.length_range]⟩
  rw [List.filterMap_map,← zsx (a.cps.toList.drop 1),List.length_drop,hlen]
  congr 1
  funext k
  show a.cps[1+k]?=_
  rw [List.getElem?_drop,Array.getElem?_toList]
theorem zw0:SlR X z4w:=by
  intro pins s σ H x v vl vu lo hi sl Q I rx hs pl pu h
  obtain ⟨a,rfl,rfl,rfl,hz,q⟩:=h
  obtain ⟨t,rfl⟩:=rx
  cases pl with
  | int i tk =>
    cases pu with
    | none =>
      refine ⟨"str", _,slot_str_getitem.lookup,typeIs_str s a t,wpAny_getItem_str_slice (l:=some (1,tk)) (u:=none) (st:=none) hs rfl ?_⟩
      obtain ⟨e1,e2⟩:=zwb a tk
      unfold sliceMade
      rw [e1,e2]
      by_cases c:a.length=0
      · rw [if_pos (by simp [c])]
        have ea:tailT a=a:=by
          have:a.cps=#[]:=Array.eq_empty_of_size_eq_zero c
          cases a with
          | mk cps=>subst this; rfl
        rw [ea] at q
        exact ⟨.str a,H,I,⟨t,rfl⟩,q⟩
      · rw [if_neg ‹55›]
        exact ⟨by show (tailT a).length≤sizeLine; unfold tailT; show ((a.cps.toList.drop 1).toArray).size≤_; rw [List.size_toArray,List.length_drop]; have:a.cps.toList.length=a.length:=Array.length_toList; omega,.str _,H,I.tok _,⟨_,rfl⟩,q⟩
theorem zzb:zhu X (.type "int") (fun xs H Q=>∃ x n,xs=[.str x]∧PySem.intText? x=some n∧x.length≤640∧Q (.int n) H):=by
  intro pins s σ H xs us Q I r h
  obtain ⟨x,n,rfl,h1,h2,q⟩:=h
  obtain ⟨u,rfl,t,rfl⟩:=vals1 r
  exact PySem.W.KIN.call_text h1 h2 ⟨.int n,H,I.tok _,⟨_,rfl⟩,q⟩
def Its (x:Str):It:=⟨fun i H=>i<x.cps.size,fun i H v H'=>H'=H∧∃ c,x.cps[i]?=some c∧v=.str ⟨#[c]⟩,fun i H=>x.cps.size≤i⟩
theorem zzj {P:Program} {w:World} {K:PySem.W.Frag} {tg:Expr} (x:Str) (t:Tok) (it:Addr):Turn P w K tg (Its x) [it] it (fun i h=>h.IsStrIter it "str_ascii_iterator" x t i) where
  mem:=by simp
  obj:=fun i h st b hb=>by
    have e:b=it:=by simpa using hb
    subst e
    obtain ⟨o,e,c,d⟩:=st
    exact ⟨o,e,fun v z=>by rw [d] at z; cases z⟩
  keep:=fun i h h' st k=>let ⟨o,ho,r⟩:=st; ⟨o,k it (by simp) o ho,r⟩
  item:=by
    intro X hP hw hK hc i pins s σ H E I hf st hg
    subst hP hw hK
    obtain ⟨f0,f1,f2,f3,f4,f5⟩:=hf it (by simp)
    have hi:i<x.cps.size:=hg
    refine wpAny_pyNext_ascii_item st (c:=x.cps[i]) (by simp [hi]) fun h' st' sb=>?_
    have I1:Inv X pins σ H { s with heap:=h',toks:=s.toks+1 }:=I.turned (t':=s.toks+1) (fun b o hb e=>(sb.2 b hb).trans e) f0 f1 f3 f4 f5
    obtain ⟨o,e,c,d⟩:=id st'
    exact ⟨_,rfl,z3p (s:={ s with heap:=h',toks:=s.toks+1 }) e c d ‹3› ⟨.str ⟨#[x.cps[i]]⟩,H,I1,⟨_,rfl⟩,⟨rfl,x.cps[i],by simp [hi],rfl⟩,st',fun b hb=>(hf b hb).1⟩⟩
  done:=by
    intro X hP hw hK hc i pins s σ H E I hf st hg
    subst hP hw hK
    obtain ⟨f0,f1,f2,f3,f4,f5⟩:=hf it (by simp)
    have hi:x.cps.size≤i:=hg
    exact wpAny_pyNext_ascii_end (I.ok.hd hc) st (by simp [hi]) fun h' eb=>⟨rfl,I.turned (t':=s.toks) (fun b o hb e=>eb b o hb e) f0 f1 f3 f4 f5⟩
  self:=fun _ _ _ _ _ st h=>wpAny_pyIter_striter_ascii st h
def iStr (tl:TE):TI:=fun σ H R=>tl σ H fun v H1=>∃ x,v=.str x∧x.cps.all (·<128)=true∧R (Its x) H1
theorem zxr {tg l:Expr} {tl:TE} (hl:PE X l tl):PI X tg l (iStr tl):=by
  intro pins s σ H R I h
  refine thn (hl pins s σ H _ I h) fun v s1 ⟨x,H1,I1,r1,q1⟩=>?_
  obtain ⟨y,rfl,ha,q⟩:=q1
  obtain ⟨t,rfl⟩:=r1
  refine wpAny_pyIter_ascii ha ?_
  refine ⟨s1.heap.objs.size,[s1.heap.objs.size],_,_,H1,rfl,I1.kept (t':=s1.toks) fun b o e=>Heap.get?_push_of_some _ e,zzj y t _,⟨_,Heap.get?_push_size _ rfl,rfl,rfl⟩,fun b hb=>?_,q⟩
  have e:b=s1.heap.objs.size:=by simpa using hb
  subst e
  exact I1.fpOk ‹34› (I1.hok.fresh ‹34›)
end
end L2
namespace VL
open PySem L2
open Builtin.Str (occurrences subAt strSub partsBetween glued strKind tooLong)
open Classical
noncomputable section
variable [Tabs] {K:PySem.W.Frag} {ta tb:TE} {a b:DE}
noncomputable def dTT (f:Str→Str→Option D) (a b:DE):DE:=fun ρ=>match a ρ with
  | some (.str x)=>(match b ρ with
    | some (.str y)=>f x y
    | _=>none)
  | _=>none
omit [Tabs] in
theorem zj1 {f:Str→Str→Option D} {a b:DE} {ρ:Rho} {d:D} (h:dTT f a b ρ=some d):∃ x y,a ρ=some (.str x)∧b ρ=some (.str y)∧f x y=some d:=by
  unfold dTT at h
  split at h
  · rename_i x e1
    split at h
    · rename_i y e2
      exact ⟨x,y,e1,e2,h⟩
    · cases h
  · cases h
omit [Tabs] in
theorem zlh {f:Str→Str→Option D} {ρ:Rho} {x y:Str} {d:D} (ha:a ρ=some (.str x)) (hb:b ρ=some (.str y)) (h:f x y=some d):dTT f a b ρ=some d:=by unfold dTT; rw [ha,hb]; exact h
noncomputable def zja (a b:DE):DE:=dTT (fun x y=>some (.bl (zod x y))) a b
theorem zqh (ha:SemB K ta a) (hb:SemB K tb b):SemI K (tBM K "str" zxk ta (zcy tb tNil)) (zja a b):=fun {B Z os ρ σ H Q d} f q k=>by
  obtain ⟨x,y,e1,e2,e3⟩:=zj1 q
  cases e3
  refine ha f e1 fun v H1 s1 i1=>?_
  rw [i1.isStr]
  exact ⟨rfl,hb ‹72› e2 fun u H2 s2 i2=>⟨x,y,rfl,by rw [i2.isStr],k _ _ ‹36› (.bl _)⟩⟩
def inTZ (x y:Str):Bool:=!(occurrences y x 0 y.length 1).isEmpty
noncomputable def dInT (a b:DE):DE:=dTT (fun x y=>some (.bl (inTZ x y))) a b
theorem z1g (ha:SemB K ta a) (hb:SemB K tb b):SemI K (tOp (fun x y H Q=>∃ i j,x=.str i∧y=.str j∧Q (.bl (!(occurrences j i 0 j.length 1).isEmpty)) H) ta tb) (dInT a b):=fun {B Z os ρ σ H Q d} f q k=>by
  obtain ⟨x,y,e1,e2,e3⟩:=zj1 q
  cases e3
  exact ha f e1 fun v H1 s1 i1=>hb ‹72› e2 fun u H2 s2 i2=>⟨x,y,i1.isStr,i2.isStr,k _ _ ‹36› (.bl _)⟩
noncomputable def zs5 (a b:DE):DE:=dTT (fun x y=>if x.length+y.length≤sizeLine then some (.str (x++y)) else none) a b
theorem zkl (ha:SemB K ta a) (hb:SemB K tb b):SemI K (tOp (fun x y H Q=>∃ i j,x=.str i∧y=.str j∧i.length+j.length≤sizeLine∧Q (.str (i++j)) H) ta tb) (zs5 a b):=fun {B Z os ρ σ H Q d} f q k=>by
  obtain ⟨x,y,e1,e2,e3⟩:=zj1 q
  split at e3
  · rename_i c
    cases e3
    exact ha f e1 fun v H1 s1 i1=>hb ‹72› e2 fun u H2 s2 i2=>⟨x,y,i1.isStr,i2.isStr,c,k _ _ ‹36› (.str _)⟩
  · cases e3
def strD:D→Option D
  | .int i=>if i.natAbs.log2<1920 then some (.str (toString i)) else none
  | _=>none
theorem z2u (ha:SemB K ta a):SemI K (tCB (fun xs H Q=>∃ i,xs=[.int i]∧i.natAbs.log2<1920∧Q (.str (toString i)) H) (zcy ta tNil)) (dF1 strD a):=by
  refine zw4 (fun h q=>?_) ha
  cases h with
  | int i =>
    have q:(if i.natAbs.log2<1920 then some (D.str (toString i)) else none)=some _:=q
    split at q
    · rename_i c
      cases q
      exact ⟨rfl,fun k=>⟨i,rfl,c,k⟩⟩
    · cases q
  | _=>cases q
def z5v:D→Option D
  | .str x=>if x.length≤640 then (PySem.intText? x).map D.int else none
  | _=>none
theorem z2y (ha:SemB K ta a):SemI K (tCB (fun xs H Q=>∃ x n,xs=[.str x]∧PySem.intText? x=some n∧x.length≤640∧Q (.int n) H) (zcy ta tNil)) (dF1 z5v a):=by
  refine zw4 (fun h q=>?_) ha
  cases h with
  | str x =>
    have q:(if x.length≤640 then (PySem.intText? x).map D.int else none)=some _:=q
    split at q
    · rename_i c
      cases e:PySem.intText? x with
      | none=>rw [e] at q; cases q
      | some n=>rw [e] at q; cases q; exact ⟨rfl,fun k=>⟨x,n,rfl,e,c,k⟩⟩
    · cases q
  | _=>cases q
noncomputable def zm6 (a:DE) (lo hi:Rho→Option (Option Int)):DE:=fun ρ=>match a ρ with
  | some (.str x)=>(match lo ρ with
    | some (some 1)=>(match hi ρ with
      | some none=>if x.length≤sizeLine then some (.str (tailT x)) else none
      | _=>none)
    | _=>none)
  | _=>none
omit [Tabs] in
theorem zub {lo hi:Rho→Option (Option Int)} {ρ:Rho} {x:Str} (ha:a ρ=some (.str x)) (h1:lo ρ=some (some 1)) (h2:hi ρ=some none) (h:x.length≤sizeLine):zm6 a lo hi ρ=some (.str (tailT x)):=by unfold zm6; rw [ha,h1,h2]; exact if_pos h
theorem zw1 {tl th:TO} {lo hi:Rho→Option (Option Int)} (ha:SemB K ta a) (hl:SemO K tl lo) (hh:SemO K th hi):SemI K (tSl z4w ta tl th) (zm6 a lo hi):=fun {B Z os ρ σ H Q d} f q k=>by
  unfold zm6 at q
  split at q
  · rename_i x e1
    split at q
    · rename_i e2
      split at q
      · rename_i e3
        split at q
        · rename_i c
          cases q
          exact ha f e1 fun v H1 s1 i1=>hl ‹72› e2 fun H2 s2=>hh (f.grow ‹36›) e3 fun H3 s3=>⟨x,i1.isStr,rfl,rfl,c,k _ _ (‹36›.trans s3) (.str _)⟩
        · cases q
      · cases q
    · cases q
  · cases q
noncomputable def zj2 (a b:DE):Rho→Option (List D):=fun ρ=>match a ρ with
  | some (.str x)=>(match b ρ with
    | some (.str y)=>if (y.length==0)=false∧x.length≤sizeLine∧(splitL x y).length≤sizeLine then some ((splitL x y).map D.str) else none
    | _=>none)
  | _=>none
omit [Tabs] in
theorem z0p {ρ:Rho} {x y:Str} (ha:a ρ=some (.str x)) (hb:b ρ=some (.str y)) (h:(y.length==0)=false∧x.length≤sizeLine∧(splitL x y).length≤sizeLine):zj2 a b ρ=some ((splitL x y).map D.str):=by unfold zj2; rw [ha,hb]; exact if_pos h
theorem IsL.strs {H:Hp} {Z:Addr→Prop}:∀ (xs:List Str),IsL K H Z (xs.map V.str) (xs.map D.str)
  | []=>.nil
  | x::xs=>.cons (.str x) (IsL.strs xs)
theorem zlm (ha:SemB K ta a) (hb:SemB K tb b):SemF K (tBM K "str" z1m ta (zcy tb tNil)) (zj2 a b):=fun {B Z os ρ σ H Q ds} f q k=>by
  unfold zj2 at q
  split at q
  · rename_i x e1
    split at q
    · rename_i y e2
      split at q
      · rename_i c
        cases q
        refine ha f e1 fun v H1 s1 i1=>?_
        rw [i1.isStr]
        refine ⟨rfl,hb ‹72› e2 fun u H2 s2 i2=>⟨x,y,rfl,by rw [i2.isStr],c.1,c.2.1,c.2.2,fun p hp=>?_⟩⟩
        have s12:=s1.trans s2
        exact k p _ _ (s12.trans (same_new hp)) (Same.free s12 hp) zbb (by rw [List.length_map]; exact c.2.2) (IsL.strs _)
      · cases q
    · cases q
  · cases q
def unS:List D→Option (List Str)
  | []=>some []
  | .str x::r=>(unS r).map (x::·)
  | _=>none
omit [Tabs] in
theorem zr8:∀ xs:List Str,unS (xs.map D.str)=some xs
  | []=>rfl
  | x::r=>by show (unS (r.map D.str)).map (x::·)=_; rw [zr8 r]; rfl
omit [Tabs] in
theorem zn8:∀ {ds:List D} {xs:List Str},unS ds=some xs→ds=xs.map D.str
  | [],_,h=>by cases h; rfl
  | .str x::r,xs,h=>by
    have h:(unS r).map (x::·)=some xs:=h
    cases e:unS r with
    | none=>rw [e] at h; cases h
    | some ms=>rw [e] at h; cases h; rw [zn8 e]; rfl
theorem IsL.unstrs {H:Hp} {Z:Addr→Prop}:∀ {vs:List V} {xs:List Str},IsL K H Z vs (xs.map D.str)→vs=xs.map V.str
  | _,[],.nil=>rfl
  | _,x::xs,.cons (.str _) r=>by rw [IsL.unstrs (xs:=xs) r]; rfl
noncomputable def zpo (a b:DE):DE:=fun ρ=>match a ρ with
  | some (.str x)=>(match b ρ with
    | some (.lst ds)=>(match unS ds with
      | some xs=>if tooLong (xs.toArray.foldl (·+·.length+x.length) 0)=false∧(glued x xs).length≤sizeLine then some (.str (glued x xs)) else none
      | none=>none)
    | _=>none)
  | _=>none
omit [Tabs] in
theorem zs1 {ρ:Rho} {x:Str} {xs:List Str} (ha:a ρ=some (.str x)) (hb:b ρ=some (.lst (xs.map D.str))) (h:tooLong (xs.toArray.foldl (·+·.length+x.length) 0)=false∧(glued x xs).length≤sizeLine):zpo a b ρ=some (.str (glued x xs)):=by unfold zpo; rw [ha,hb]; dsimp only; rw [zr8]; exact if_pos h
theorem zse (ha:SemB K ta a) (hb:SemB K tb b):SemI K (tBM K "str" (z4z K) ta (zcy tb tNil)) (zpo a b):=fun {B Z os ρ σ H Q d} f q k=>by
  unfold zpo at q
  split at q
  · rename_i x e1
    split at q
    · rename_i ds e2
      split at q
      · rename_i xs e3
        split at q
        · rename_i c
          cases q
          have:=zn8 e3
          subst this
          refine ha f e1 fun v H1 s1 i1=>?_
          rw [i1.isStr]
          refine ⟨rfl,hb ‹72› e2 fun u H2 s2 i2=>?_⟩
          obtain ⟨p,vs,rfl,hz,hr,hl,r⟩:=i2.isLst
          have:=r.unstrs
          subst this
          exact ⟨x,p,xs,rfl,rfl,.inl hr,c.1,c.2,k _ _ ‹36› (.str _)⟩
        · cases q
      · cases q
    · cases q
  · cases q
def signs (x:Str):List D:=x.cps.toList.map fun c=>.str ⟨#[c]⟩
noncomputable def zis (a:DE):Rho→Option (List D):=fun ρ=>match a ρ with
  | some (.str x)=>if x.cps.all (·<128)=true∧x.length≤sizeLine then some (signs x) else none
  | _=>none
omit [Tabs] in
theorem ev_signs {ρ:Rho} {x:Str} (ha:a ρ=some (.str x)) (h:x.cps.all (·<128)=true∧x.length≤sizeLine):zis a ρ=some (signs x):=by unfold zis; rw [ha]; exact if_pos h
theorem zoc (ha:SemB K ta a):SemW K true (iStr ta) (zis a):=fun {B Z os ρ σ H R ds} f q k=>by
  unfold zis at q
  split at q
  · rename_i x e1
    split at q
    · rename_i c
      cases q
      have hl:(signs x).length=x.cps.size:=by unfold signs; rw [List.length_map,Array.length_toList]
      refine ha f e1 fun v H1 s1 i1=>⟨x,i1.isStr,c.1,k _ _ s1 ⟨by rw [hl]; exact c.2,fun i d H2 T2 kp _ hd e=>?_,fun i H2 T2 kp _ hi=>by rw [hl] at hi; exact Nat.le_of_eq hi⟩⟩
      have hi:i<x.cps.size:=by rw [← hl]; exact (List.getElem?_eq_some_iff.mp e).1
      refine ⟨hi,fun y H3 ⟨e3,c',e4,e5⟩=>?_⟩
      subst e3 e5
      unfold signs at e
      rw [List.getElem?_map,Array.getElem?_toList,e4] at e
      cases e
      exact ⟨Same.refl _,.str _⟩
    · cases q
  · cases q
end
end VL
namespace L2
open PySem PySem.Spec PyProof.Rows VL
open Builtin.Str (occurrences subAt strSub partsBetween glued strKind tooLong strSliceIndices)
def zkt (x:Str) (lo hi:Option Int):Str:=⟨(‹149›.filterMap (x.cps[·]?)).toArray⟩
def clipT (v:Option Int) (d:Int) (n:Nat):Int:=match v with
  | none=>d
  | some i=>max 0 (min (if i<0 then i+(n:Int) else i) n)
theorem zpq {v:Option Int} {d:Int} {n:Nat} (h1:0≤d) (h2:d≤n):0≤clipT v d n∧clipT v d n≤n:=by
  unfold clipT
  cases v with
  | none=>exact ⟨h1,h2⟩
  | some i=>dsimp only; split <;> omega
theorem zon (lo hi:Option Int) (n:Nat):strSliceIndices lo hi 1 n=(List.range (clipT hi n n-clipT lo 0 n).toNat).map fun (k:Nat)=>(clipT lo 0 n+(k:Int)).toNat:=by
  have e1:strSliceIndices lo hi 1 n=sliceRange (clipT lo 0 n) (clipT hi n n) 1:=by
    unfold strSliceIndices clipT
    cases lo <;> cases hi <;> rfl
  rw [e1]
  unfold sliceRange
  rw [if_pos ‹3›]
  have e2:(if clipT lo 0 n<clipT hi n n then (clipT hi n n-clipT lo 0 n+1-1) / 1 else 0).toNat=(clipT hi n n-clipT lo 0 n).toNat:=by
    split
    · rw [Int.ediv_one]; omega
    · omega
  dsimp only
  rw [e2]
  refine List.map_congr_left fun k hk=>?_
  rw [Int.one_mul]
theorem zwy {x:Str} {lo hi:Option Int} (h:‹149›.length=x.length):zkt x lo hi=x:=by
  have hlen:x.cps.toList.length=x.length:=Array.length_toList
  rw [zon,List.length_map,List.length_range] at h
  have a:=zpq (v:=lo) (d:=0) (n:=x.length) (by omega) (by omega)
  have b:=zpq (v:=hi) (d:=x.length) (n:=x.length) (by omega) (by omega)
  have e:‹149›.filterMap (x.cps[·]?)=x.cps.toList:=by
    rw [zon,h]
    by_cases c:x.length=0
    · have:x.cps.toList=[]:=List.eq_nil_of_length_eq_zero (by omega)
      rw [c,this]; rfl
    · have e0:clipT lo 0 x.length=0:=by omega
      rw [e0,List.filterMap_map]
      have:=zsx x.cps.toList
      rw [hlen] at this
      rw [← this]
      congr 1
      funext k
      show x.cps[((0:Int)+(k:Int)).toNat]?=_
      rw [Int.zero_add,Int.toNat_natCast,Array.getElem?_toList]
  unfold zkt
  rw [e]
theorem zqf (x:Str) (lo hi:Option Int):(zkt x lo hi).length≤x.length:=by
  show ((‹149›.filterMap (x.cps[·]?)).toArray).size≤_
  rw [List.size_toArray]
  refine Nat.le_trans (List.length_filterMap_le _ _) ?_
  rw [zon,List.length_map,List.length_range]
  have a:=zpq (v:=lo) (d:=0) (n:=x.length) (by omega) (by omega)
  have b:=zpq (v:=hi) (d:=x.length) (n:=x.length) (by omega) (by omega)
  omega
section
variable {X:Cx}
def rSlX:V→Option Int→Option Int→Hp→VK→Prop:=fun x lo hi H Q=>∃ a,x=.str a∧a.length≤sizeLine∧Q (.str (zkt a lo hi)) H
theorem zwz:SlR X rSlX:=by
  intro pins s σ H x v vl vu lo hi sl Q I rx hs pl pu h
  obtain ⟨a,rfl,hz,q⟩:=h
  obtain ⟨t,rfl⟩:=rx
  obtain ⟨l,el,hl⟩:∃ l:Option (Int×Tok),l.map (·.1)=lo∧vl=(match l with | none=>.none | some (i,t)=>.int i t):=by
    cases pl with
    | none=>exact ⟨none,rfl,rfl⟩
    | int i tk=>exact ⟨some (i,tk),rfl,rfl⟩
  obtain ⟨u,eu,hu⟩:∃ l:Option (Int×Tok),l.map (·.1)=hi∧vu=(match l with | none=>.none | some (i,t)=>.int i t):=by
    cases pu with
    | none=>exact ⟨none,rfl,rfl⟩
    | int i tk=>exact ⟨some (i,tk),rfl,rfl⟩
  have hs':s.heap.IsSlice sl l u none:=by
    subst hl hu
    cases l <;> cases u <;> exact hs
  refine ⟨"str", _,slot_str_getitem.lookup,typeIs_str s a t,wpAny_getItem_str_slice (l:=l) (u:=u) (st:=none) hs' rfl ?_⟩
  have ep:slicePicked a l u none=strSliceIndices lo hi 1 a.length:=by unfold slicePicked; rw [el,eu]; rfl
  unfold sliceMade
  rw [ep]
  by_cases c:(strSliceIndices lo hi 1 a.length).length=a.length
  · rw [if_pos (by rw [c]; simp)]
    rw [zwy c] at q
    exact ⟨.str a,H,I,⟨t,rfl⟩,q⟩
  · rw [if_neg (by simpa using c)]
    exact ⟨Nat.le_trans (zqf a lo hi) hz,.str _,H,I.tok _,⟨_,rfl⟩,q⟩
def zwc (t:TE):TE:=fun σ H Q=>t σ H fun x H1=>∃ z,x=.str z∧(reprText z).length≤1000000∧∀ y,Q (.str y) H1
theorem ztz {e:Expr} {t:TE} {c:Str} {j p p' pos} (he:PE X e t) (hc:c.length≤1000:=by decide):PE X (.JoinedStr [.FormattedValue e 114 none p,.Constant (.str c) j p'] pos) (zwc t):=fun pins s σ H Q I q=>by
  have hz:sizeLine=16777216:=sizeLine_eq
  refine JoinedStr_many (joinParts_cons (wpAny_FormattedValue_repr (thn (he pins s σ H _ I q) fun u s1 ⟨x,H1,I1,r1,z,hx,hl,q1⟩=>?_)))
  subst hx
  obtain ⟨tk,rfl⟩:=r1
  have e0:(Str.empty).length=0:=rfl
  refine pyReprObj_str (formatField_str (fun t' tk'=>⟨?_,joinParts_cons (Calls.Constant_str ⟨?_,joinParts_nil ⟨.str _,H1,I1.tok _,⟨_,rfl⟩,q1 _⟩ ?_⟩)⟩) (by omega)) (by omega)
  · rw [PySem.strLen_append]; omega
  · rw [PySem.strLen_append,PySem.strLen_append]; omega
  · rw [PySem.strLen_append,PySem.strLen_append]; omega
end
end L2
namespace VL
open PySem L2
open Builtin.Str (occurrences subAt strSub partsBetween glued strKind tooLong)
open Classical
noncomputable section
variable [Tabs] {K:PySem.W.Frag} {ta tb:TE} {a b:DE}
noncomputable def dSlT (a:DE) (lo hi:Rho→Option (Option Int)):DE:=fun ρ=>match a ρ with
  | some (.str x)=>(match lo ρ with
    | some l=>(match hi ρ with
      | some h=>if x.length≤sizeLine then some (.str (zkt x l h)) else none
      | _=>none)
    | _=>none)
  | _=>none
omit [Tabs] in
theorem z1x {lo hi:Rho→Option (Option Int)} {ρ:Rho} {x:Str} {l h:Option Int} (ha:a ρ=some (.str x)) (h1:lo ρ=some l) (h2:hi ρ=some h) (hx:x.length≤sizeLine):dSlT a lo hi ρ=some (.str (zkt x l h)):=by unfold dSlT; rw [ha,h1,h2]; exact if_pos hx
theorem z1e {tl th:TO} {lo hi:Rho→Option (Option Int)} (ha:SemB K ta a) (hl:SemO K tl lo) (hh:SemO K th hi):SemI K (tSl rSlX ta tl th) (dSlT a lo hi):=fun {B Z os ρ σ H Q d} f q k=>by
  unfold dSlT at q
  split at q
  · rename_i x e1
    split at q
    · rename_i l e2
      split at q
      · rename_i h e3
        split at q
        · rename_i c
          cases q
          exact ha f e1 fun v H1 s1 i1=>hl ‹72› e2 fun H2 s2=>hh (f.grow ‹36›) e3 fun H3 s3=>⟨x,i1.isStr,c,k _ _ (‹36›.trans s3) (.str _)⟩
        · cases q
      · cases q
    · cases q
  · cases q
noncomputable def z55 (a b:DE):DE:=dTT (fun x y=>some (.bl (!inTZ x y))) a b
theorem z2v (ha:SemB K ta a) (hb:SemB K tb b):SemI K (tOp (fun x y H Q=>∃ i j,x=.str i∧y=.str j∧Q (.bl (!(!(occurrences j i 0 j.length 1).isEmpty))) H) ta tb) (z55 a b):=fun {B Z os ρ σ H Q d} f q k=>by
  obtain ⟨x,y,e1,e2,e3⟩:=zj1 q
  cases e3
  exact ha f e1 fun v H1 s1 i1=>hb ‹72› e2 fun u H2 s2 i2=>⟨x,y,i1.isStr,i2.isStr,k _ _ ‹36› (.bl _)⟩
@[irreducible] noncomputable def zi1 (a:DE):DS:=fun ρ=>match a ρ with
  | some (.str z)=>if (reprText z).length≤1000000 then .rt .non else .no
  | _=>.no
theorem zme {C:Addr} {E:XK} (h:SemB K ta a):SemS (.x E C) K (zp3 C E (zcy (zwc ta) tNil)) (zi1 a):=fun {B Z os ρ σ H En} f p=>by
  unfold zi1 at p
  split at p
  · rename_i z e
    split at p
    · rename_i c
      exact h f e fun v H1 s1 i1=>⟨z,i1.isStr,c,fun y=>⟨by have:=sizeLine_eq; show 1≤sizeLine; omega,p H1 (f.keep.trans s1)⟩⟩
    · exact p.elim
  · exact p.elim
theorem zl6 {ρ:Rho} {W:Wk} {z:Str} (h:a ρ=some (.str z)) (hz:(reprText z).length≤1000000) (k:W.rt .non):Wp (zi1 a) ρ W:=by unfold Wp zi1; rw [h]; dsimp only; rw [if_pos hz]; exact k
end
end VL
namespace L2
open PySem PySem.Spec PyProof.Rows VL
def zwf (C:Addr):TE:=fun _ H Q=>∀ x dx,H x=none→H dx=none→dx≠x→Q (.ref x) (upd (upd H dx (.own x)) x (.ins C dx []))
structure MkP (K:PySem.W.Frag) (C:Addr):Prop where
  makes:PySem.W.makesIn K C=true
  init:PySem.W.findIn K (.ref C) "__init__" = some (some (.builtin "object.__init__"))
  kp:PySem.W.keepIn K (.ref C)=true
section
variable {X:Cx}
theorem z6n {P:Program} {w:World} {A:Around} {R:Result→Shared→Prop} {s:Shared} {v:Value} (h:PySem.W.Looks (model P w) s.heap (isInstance v (.type "object")) true) (q:R (.ok (.ret .none)) s):codeAny (model P w) A (.call (.builtin "object.__init__") ⟨[v],[]⟩) R s:=by
  have k:=PySem.W.oi_run v
  refine codeAny_call_builtin (b:=Builtin.«object.__init__») PySem.W.oi_plain PySem.W.entry_oi ?_
  refine PySem.W.check_slot (i := "object.__init__") (owner := "object") (n := "__init__") (self:=v) (rest:=[]) (kw:=[]) PySem.W.oi_kind PySem.W.oi_split h (PySem.W.oi_args v) ?_
  rw [k]
  exact wpAny_pure q
theorem zxc {C:Addr} {pins:List (Addr×Obj)} {σ:St} {H:Hp} {s:Shared} {Q:VK} (M:MkP X.K C) (I:Inv X pins σ H s) (h:zwf C σ H Q):wpAny ‹6› X.A (call (.ref C) []) ‹82› X.xe s:=by
  have I2:=Inv.made (C:=C) I
  have Y:=PySem.W.makes_of (M:=model X.prog X.w) I.kIn M.makes
  refine wpAny_call (zyc I.kIn M.makes M.init (fun self=>PySem.W.Looks.of_pure (PySem.W.oi_bind self)) ?_)
  have hg:(‹43›.push ‹47›).get? ‹74›=some ‹47›:=by
    have:=Heap.get?_push_size (o:=PySem.W.instObj C s.heap.objs.size) ‹43› rfl
    rw [Heap.size_push] at this
    exact this
  have t1:PySem.W.Looks ‹6› (‹43›.push ‹47›) (typeOf (.ref ‹74›)) (.ref C):=PySem.W.Looks.andThen (PySem.W.Looks.ld hg) PySem.W.Looks.now
  have t2:PySem.W.Looks ‹6› (‹43›.push ‹47›) (isInstance (.ref ‹74›) (.type "object")) true :=
    PySem.W.Looks.andThen t1 (PySem.W.Looks.keeps Y.top fun b o e=>Heap.get?_push_of_some _ ‹147›)
  exact z6n t2 ⟨rfl,⟨V.ref ‹74›,_,I2,rfl,h _ _ (I.hok.fresh (Nat.le_succ _)) (I.hok.fresh ‹34›) (Nat.ne_of_lt (Nat.lt_succ_self _))⟩⟩
theorem zh4 {C:Addr} {x:Str} {p pos:Pos} (M:MkP X.K C) (hg:Gl X x) (hm:X.mg x=some (.ref C)) (hdb:(x==("__debug__" : Str))=false:=by decide):PE X (.Call (.Name x p) [] [] pos) (zwf C):=by
  intro pins s σ H Q I h
  refine wpAny_Call_Name_kw (zgc I hg hm ?_ hdb)
  exact PySem.W.callWith_K0 I.kIn M.kp (zxc M I h)
inductive MTab (X:Cx) (m:Str):List (Addr×Sp)→Prop
  | nil:MTab X m []
  | cons {C f:Addr} {fd:FuncData} {ps:List Str} {sp:Sp} {k:Nat} {tbl:List (Addr×Sp)} (c:Cls X.K C) (hm:Meth X.K C m f) (F:FnOk X.prog X.w X.K X.mg X.base CX0 k f fd ps sp) (hr:Room k X.A) (hb:Binds X.K fd ps []) (r:MTab X m tbl):MTab X m ((C,sp)::tbl)
theorem MTab.get {m:Str} {tbl:List (Addr×Sp)} (h:MTab X m tbl) {C:Addr} {sp:Sp} (e:tbl.lookup C=some sp):∃ (f:Addr) (fd:FuncData) (ps:List Str) (k:Nat),Cls X.K C∧Meth X.K C m f∧FnOk X.prog X.w X.K X.mg X.base CX0 k f fd ps sp∧Room k X.A∧Binds X.K fd ps []:=by
  induction h with
  | nil=>cases e
  | @cons C' f fd ps sp' k tbl c hm F hr hb r ih =>
    rw [List.lookup_cons] at e
    cases q:C==C' with
    | true =>
      rw [q] at e
      cases e
      have:=beq_iff_eq.mp q
      subst this
      exact ⟨f,fd,ps,k,c,hm,F,hr,hb⟩
    | false =>
      rw [q] at e
      exact ih e
def ztj (tbl:List (Addr×Sp)) (E:XK) (ta:TE) (t:TA):TE:=fun σ H Q=>ta σ H fun x H1=>∃ a C dx sp,x=.ref a∧H1 a=some (.ins C dx [])∧tbl.lookup C=some sp∧t σ H1 fun vs H2=>sp (x::vs) H2 Q E
theorem zq2 {m:Str} {o:Expr} {apos pos:Pos} {ta:TE} {tbl:List (Addr×Sp)} {pl:Sem Bool} (he:PE X o ta) (h:MTab X m tbl)
    (ht:eval (.Call (.Attribute o m apos) [] [] pos) X.env=(do
      let ov ← eval o X.env
      standAt apos.atName
      let (f,first) ← holding [ov] (getMethod ov m pl)
      callWith pos f first (backTo pos (starEach [] X.env)) (backToKw pos (keywordEach [] X.env))):=by rfl) :
    PE X (.Call (.Attribute o m apos) [] [] pos) (ztj tbl E0 ta tNil):=by
  intro pins s σ H Q I q
  refine PySem.W.methodCall_KW (pl:=pl) (thn (he pins s σ H _ I q) fun u s1 ⟨x,H1,I1,rx,a,C,dx,sp,ex,ea,el,q⟩=>?_) ht
  subst ex
  obtain rfl:u=Value.ref a:=rx
  obtain ⟨f,fd,ps,k,c,hm,F,hr,hb⟩:=h.get el
  refine znx I1 ea c hm rfl ?_
  have q':sp ([V.ref a]++[]) H1 Q E0:=q
  exact PySem.W.callWith_K0 (first:=[.ref a]) I1.kIn hm.kp (ztq (us:=[.ref a]) (vs:=[.ref a]) F hr hb .nil zbr I1 ‹117› q')
theorem zjp {m:Str} {o e:Expr} {es:List Expr} {apos pos:Pos} {ta:TE} {t:TA} {tbl:List (Addr×Sp)} {pl:Sem Bool} (he:PE X o ta) (h:MTab X m tbl) (ha:PA X (e::es) t)
    (hst:starEach (e::es) X.env=(false,eval e X.env)::starEach es X.env:=by rfl) (hpl:(backTo pos ‹119›).any (·.1)=false:=by rfl)
    (ht:eval (.Call (.Attribute o m apos) (e::es) [] pos) X.env=(do
      let ov ← eval o X.env
      standAt apos.atName
      let (f,first) ← holding [ov] (getMethod ov m pl)
      callWith pos f first (backTo pos (starEach (e::es) X.env)) (backToKw pos (keywordEach [] X.env))):=by rfl) :
    PE X (.Call (.Attribute o m apos) (e::es) [] pos) (ztj tbl E0 ta t):=by
  intro pins s σ H Q I q
  refine PySem.W.methodCall_KW (pl:=pl) (thn (he pins s σ H _ I q) fun u s1 ⟨x,H1,I1,rx,a,C,dx,sp,ex,ea,el,q⟩=>?_) ht
  subst ex
  obtain rfl:u=Value.ref a:=rx
  obtain ⟨f,fd,ps,k,c,hm,F,hr,hb⟩:=h.get el
  refine znx I1 ea c hm rfl ?_
  refine PySem.W.callWith_K (first:=[.ref a]) (h₀:=X.base) I.ok.mod.kin hm.kp (thn (ha pos pins s1 σ H1 _ I1 q) fun us s2 ⟨vs,H2,I2,r,q2⟩=>⟨I2.kIn,?_⟩) hst hpl
  have q':sp ((V.ref a::vs)++[]) H2 Q E0:=by rw [List.append_nil]; exact q2
  exact ztq (us:=.ref a::us) (vs:=.ref a::vs) F hr hb .nil zbr I2 (.cons rfl r) q'
structure ClsI (K:PySem.W.Frag) (C:Addr):Prop where
  cl:Cls K C
  ha:PySem.W.findIn K (.ref C) "__class__" = some (some (.builtin "object.__class__"))
  hn:PySem.W.specialIn K (.builtin "object.__class__") "__get__" = some (some (.builtin "getset_descriptor.__get__"))
  htk:PySem.W.takesIn K (.builtin "object.__class__")=some true
  hm:PySem.W.mroIn K C (.type "object")=some true
theorem zxs {e:Expr} {t:TE} {c:Str} {j p p' pos} (he:PE X e t) (hc:c.length≤1000:=by decide):PE X (.JoinedStr [.Constant (.str c) j p',.FormattedValue e 114 none p] pos) (zwc t):=fun pins s σ H Q I q=>by
  have hz:sizeLine=16777216:=sizeLine_eq
  have e0:(Str.empty).length=0:=rfl
  refine JoinedStr_many (joinParts_cons (Calls.Constant_str ⟨?_,joinParts_cons (wpAny_FormattedValue_repr (thn (he pins _ σ H _ (I.tok _) q) fun u s1 ⟨x,H1,I1,r1,z,hx,hl,q1⟩=>?_))⟩))
  · rw [PySem.strLen_append]; omega
  subst hx
  obtain ⟨tk,rfl⟩:=r1
  refine pyReprObj_str (formatField_str (fun t' tk'=>⟨?_,joinParts_nil ⟨.str _,H1,I1.tok _,⟨_,rfl⟩,q1 _⟩ ?_⟩) (by omega)) (by omega)
  · rw [PySem.strLen_append,PySem.strLen_append]; omega
  · rw [PySem.strLen_append,PySem.strLen_append]; omega
end
end L2
namespace VL
open PySem L2
open Classical
noncomputable section
variable [Tabs] {K:PySem.W.Frag} {ta tb:TE} {a b:DE}
noncomputable def zm7 (C:Addr):DE:=fun _=>some (.ins C)
theorem zkk {C:Addr}:SemI K (zwf C) (zm7 C):=fun {B Z os ρ σ H Q d} f q k=>by
  cases q
  intro x dx hx hd ne
  have s1:Same H (upd H dx (.own x)):=same_new hd
  have hx2:upd H dx (.own x) x=none:=by rw [upd_ne (Ne.symm ne)]; exact hx
  exact k _ _ (s1.trans (same_new hx2)) (.ins (f.out hx) zbb)
noncomputable def zig (tbl:List ‹83›) (a:DE) (es:Rho→Option (List D)):DE:=fun ρ=>match a ρ with
  | some (.ins C)=>(match tbl.lookup C with
    | some F=>(match es ρ with
      | some ds=>F (.ins C::ds)
      | none=>none)
    | none=>none)
  | _=>none
omit [Tabs] in
theorem zef {tbl:List ‹83›} {es:Rho→Option (List D)} {ρ:Rho} {C:Addr} {F:List D→Option D} {ds:List D} {d:D} (ha:a ρ=some (.ins C)) (h1:tbl.lookup C=some F) (h2:es ρ=some ds) (h3:F (.ins C::ds)=some d):zig tbl a es ρ=some d:=by
  unfold zig; rw [ha]; dsimp only; rw [h1]; dsimp only; rw [h2]; exact h3
def spT (K:PySem.W.Frag) (ms:List Bool) (tbl:List ‹83›):List (Addr×Sp):=tbl.map fun p=>(p.1,spD .v K (false::ms) p.2)
theorem znp {ms:List Bool} {C:Addr} {F:List D→Option D}:∀ {tbl:List ‹83›},tbl.lookup C=some F→(spT K ms tbl).lookup C=some (spD .v K (false::ms) F)
  | [],h=>by cases h
  | (C',F')::r,h=>by
    rw [List.lookup_cons] at h
    show List.lookup C ((C',spD .v K (false::ms) F')::spT K ms r)=_
    rw [List.lookup_cons]
    cases q:C==C' with
    | true=>rw [q] at h; cases h; rfl
    | false=>rw [q] at h; exact znp h
theorem zkj {ms:List Bool} {tbl:List ‹83›} {t:TA} {es:Rho→Option (List D)} {E:XK} (ha:SemB K ta a) (hes:SemA K ms t es):SemI K (ztj (spT K ms tbl) E ta t) (zig tbl a es):=fun {B Z os ρ σ H Q d} f q k=>by
  unfold zig at q
  split at q
  · rename_i C e1
    split at q
    · rename_i F e2
      split at q
      · rename_i ds e3
        refine ha f e1 fun v H1 s1 i1=>?_
        cases i1 with
        | @ins x _ dx hz hH =>
          refine ⟨x,C,dx,_,rfl,hH,znp e2,hes ‹72› e3 fun vs H2 s2 ar=>?_⟩
          exact ⟨tot Z os,_,d,(f.grow ‹36›).zt,.any (.ins (fun h=>h.elim) (s2 _ _ hH)) ar,q,fun w H3 s3 i=>k w H3 (‹36›.trans s3) (i.is (f.grow ‹36›).tin)⟩
      · cases q
    · cases q
  · cases q
inductive KTab (K:PySem.W.Frag) (c:Addr):List (Addr×Bool)→Prop
  | nil:KTab K c []
  | cons {C:Addr} {b:Bool} {r:List (Addr×Bool)} (k:ClsI K C) (e:PySem.W.kitOne K (.ref C) (.ref c)=some b) (h:KTab K c r):KTab K c ((C,b)::r)
end
end VL
namespace L2
open PySem PySem.Spec PyProof.Rows VL
section
variable {X:Cx}
def z1l:V→List V→Hp→VK→Prop:=fun x vs H Q=>∃ a,x=.str a∧vs=[]∧a.length≤1000∧Q (.str (Txt.upper a)) H
theorem zz9:MtM X "str.upper" z1l:=by
  intro pins s σ H x xs v us Q I rx rv h
  obtain ⟨a,rfl,rfl,hl,q⟩:=h
  obtain ⟨t,rfl⟩:=rx
  cases rv
  exact SCL.upper (by omega) fun _=>⟨.str _,H,I.tok _,⟨_,rfl⟩,q⟩
theorem zyu (ns:List Str):(ns.map V.str).all zlg=true:=by
  rw [List.all_map,List.all_eq_true]
  intro x _
  rfl
end
end L2
namespace VL
open PySem L2
open Classical
noncomputable section
variable [Tabs] {K:PySem.W.Frag} {ta tb:TE} {a b:DE}
noncomputable def dUp (a:DE):DE:=fun ρ=>match a ρ with
  | some (.str x)=>if x.length≤1000 then some (.str (Txt.upper x)) else none
  | _=>none
omit [Tabs] in
theorem z6p {ρ:Rho} {x:Str} (ha:a ρ=some (.str x)) (h:x.length≤1000):dUp a ρ=some (.str (Txt.upper x)):=by unfold dUp; rw [ha]; exact if_pos h
theorem bm0K {X:Cx} {K:PySem.W.Frag} {e:PySem.Expr} {T:String} {r:V→List V→Hp→VK→Prop} {to:TE} (h:X.K=K) (p:PE X e (tBM0 X.K T r to)):PE X e (tBM0 K T r to):=h ▸ p
theorem z6j (ha:SemB K ta a):SemI K (tBM0 K "str" z1l ta) (dUp a):=fun {B Z os ρ σ H Q d} f q k=>by
  unfold dUp at q
  split at q
  · rename_i x e1
    split at q
    · rename_i c
      cases q
      refine ha f e1 fun v H1 s1 i1=>?_
      rw [i1.isStr]
      exact ⟨rfl,x,rfl,rfl,c,k _ _ s1 (.str _)⟩
    · cases q
  · cases q
noncomputable def dInX (neg:Bool) (a b:DE):DE:=fun ρ=>match a ρ with
  | some (.str x)=>(match b ρ with
    | some (.lst ds)=>(unS ds).map fun xs=>.bl (if neg then !decide (x∈xs) else decide (x∈xs))
    | _=>none)
  | _=>none
omit [Tabs] in
theorem z1y {neg:Bool} {ρ:Rho} {x:Str} {xs:List Str} (ha:a ρ=some (.str x)) (hb:b ρ=some (.lst (xs.map D.str))):dInX neg a b ρ=some (.bl (if neg then !decide (x∈xs) else decide (x∈xs))):=by unfold dInX; rw [ha,hb]; dsimp only; rw [zr8]; rfl
omit [Tabs] in
theorem z0h (k:Str) (hs:List Str):inV (.str k) (hs.map V.str)=decide (k∈hs):=by
  unfold inV
  rw [List.any_map,Bool.eq_iff_iff,List.any_eq_true,decide_eq_true_iff]
  constructor
  · rintro ⟨x,hx,e⟩
    have e':(x==k)=true:=e
    rw [← beq_iff_eq.mp e']
    exact hx
  · intro h
    exact ⟨k,h,show (k==k)=true from beq_self_eq_true k⟩
theorem z4n {neg:Bool} (ha:SemB K ta a) (hb:SemB K tb b):SemI K (tOp (rIn K neg) ta tb) (dInX neg a b):=fun {B Z os ρ σ H Q d} f q k=>by
  unfold dInX at q
  split at q
  · rename_i x e1
    split at q
    · rename_i ds e2
      cases e3:unS ds with
      | none=>rw [e3] at q; cases q
      | some xs =>
        rw [e3] at q
        cases q
        have:=zn8 e3
        subst this
        refine ha f e1 fun v H1 s1 i1=>hb ‹72› e2 fun u H2 s2 i2=>?_
        obtain ⟨p,vs,rfl,hz,hr,hn,r⟩:=i2.isLst
        have:=r.unstrs
        subst this
        rw [i1.isStr]
        exact ⟨p,_,rfl,.inl (.inl hr),rfl,zyu xs,by rw [z0h]; exact k _ _ ‹36› (.bl _)⟩
    · cases q
  · cases q
end
end VL
namespace L2
open PySem PySem.Spec PyProof.Rows VL
def z39 (K:PySem.W.Frag) (F:Value) (b:Bool) (sp:Sp) (t:TA):TS:=fun D σ H=>t σ H fun vs H1=>sp vs H1 (fun _ H'=>D.nx σ H') fun cls _ H' =>
  ∃ C,cls=.ref C∧PySem.W.exmOne K (.ref C) F=some true∧D.rt (.bl b) H'
section
variable {X:Cx} {k:Nat} {f:Addr} {fd:FuncData} {ps:List Str} {sp:Sp} {x y:Str} {e:Expr} {es:List Expr} {t:TA} {F:Value} {p1 p2 p3 p4 p6 p7 p8 pos:Pos} {b:Bool} {j6:Nat}
theorem zxn (ow:OwnX X) (FO:FnOk X.prog X.w X.K X.mg X.base (CXE X.prog X.w) k f fd ps sp) (hr:Room k X.A) (hg:Gl X x) (hm:X.mg x=some (.ref f)) (hk:PySem.W.keepIn X.K (.ref f)=true) (hb:Binds X.K fd ps [])
    (ha:∀ xe,PA (X.wish xe) (e::es) t) (hy:Gl X y) (my:X.mg y=some F)
    (hbody:∀ (a:Addr) xe,PSs ((X.marked (.ref a)).wish xe) [.Return (some (.Constant (.bool b) j6 p6)) p7] (tRet (tC (.bl b))))
    (hdb:(x==("__debug__" : Str))=false:=by decide) (hdy:(y==("__debug__" : Str))=false:=by decide)
    (he:starEach (e::es) X.env=(false,eval e X.env)::starEach es X.env:=by rfl) (hpl:(backTo p2 ‹119›).any (·.1)=false:=by rfl)
    (hs:swapsWith ‹152› none p3.line X.env=pure false:=by rfl) :
    PS X (.Try [.Expr ‹152› p3] [.ExceptHandler (some (.Name y p4)) none [.Return (some (.Constant (.bool b) j6 p6)) p7] p8] [] [] pos) (z39 X.K F b sp t):=by
  intro pins s σ H D I h
  refine wpAny_Try_except (wpAny_execs_cons (wpAny_Expr_any ?_ I.quiet hs))
  refine wpAny_Call_Name_kw (zgc I hg hm ?_ hdb)
  refine PySem.W.callWith_K (h₀:=X.base) I.ok.mod.kin hk ?_ he hpl
  refine thn (ha (fun e s₁=>wpAny ‹6› X.A (noteFrame e X.env) (fun _ s₂=>wpAny ‹6› X.A (setFlight e none) (fun _ s₃=>wpAny ‹6› X.A (handleBy e X.env [.ExceptHandler (some (.Name y p4)) none [.Return (some (.Constant (.bool b) j6 p6)) p7] p8]) (SP X pins D) X.xe s₃) X.xe s₂) X.xe s₁) p2 pins s σ H _ (I.wish _) h) ?_
  rintro us s1 ⟨vs,H1,I1,r,q⟩
  refine ⟨I1.unwish.kIn,?_⟩
  have I1:=I1.unwish
  have hl:us.length=ps.length:=by rw [← r.length]; exact FO.len _ _ _ _ q
  have hb1:=hb s1 us I1.kIn (by rw [List.append_nil]; exact hl)
  rw [List.append_nil] at hb1
  refine wpAny_call ‹134›
  cases r with
  | ok fl =>
    cases fl with
    | ret u =>
      obtain ⟨v',H',I',_,q'⟩:=I1.after hq
      exact wpAny_execs_nil (wpAny_execs_nil ⟨σ,H',I',q'⟩)
    | next=>exact False.elim hq
    | brk=>exact False.elim hq
    | cont=>exact False.elim hq
  | error ev =>
    unfold CR at hq
    dsimp only at hq ⊢
    obtain ⟨a,T,cls,H',rfl,I',rc,o1,o2,C,rfl,hx,q'⟩:=I1.raised ow.ex hq
    refine zjv (base:=X.base) (outer:=X.outer) (by rw [← ow.stk]; exact I'.ok.frames) (by rw [← ow.stk]; exact I'.stack) ow.fr rc fun h1 T' n1 r1 g1=>?_
    have o3:=I'.out ow.ex n1
    rw [← ow.stk] at g1
    have I1:Inv X pins σ H' { s' with heap:=h1,toks:=s'.toks }:=I'.hop g1 fun b hb=>by
      rcases List.mem_cons.mp hb with rfl | hb
      · exact o2
      · rw [List.mem_singleton.mp hb]; exact o1
    refine land (env:=X.env) (outer:=X.outer) (s:={ s' with heap:=h1 }) r1 fun h2 r2 g2=>?_
    rw [← ow.stk] at g2
    have I2:Inv X pins σ H' { s' with heap:=h2,toks:=s'.toks }:=I1.hop g2 fun b hb=>by rw [List.mem_singleton.mp hb]; exact o3
    refine wpAny_handleBy_cons (codeAny_handlers_test (zgc (X:=X.marked (.ref a)) (I2.marked _) hy my ?_ hdy)) ‹131›
    have LT:PySem.W.Looks ‹6› h2 (typeOf (.ref a)) (.ref C):=by
      obtain ⟨o,e1,e2,_⟩:=r2.exc
      exact e2 ▸ (PySem.W.Looks.ld e1).andThen .now
    refine PySem.W.Looks.at (PySem.W.exm_one (M:=model X.prog X.w) I2.kIn LT hx) ?_
    refine codeAny_handlers_suite ‹155›
    rw [← ow.stk] at g3
    have I3:Inv X pins σ H' { s' with heap:=h3,toks:=s'.toks }:=I2.hop g3 fun b hb=>by rw [List.mem_singleton.mp hb]; exact o3
    refine wpAny_mono (hbody a ‹139› pins _ _ _ { nx:=fun _ _=>False,rt:=fun v H2=>v=.bl b∧H2=H' } ((I3.marked (.ref a)).wish _) ⟨rfl,rfl⟩) (fun fl s6 h6=>?_) fun _ _ z=>z.elim
    cases fl with
    | next=>obtain ⟨_,_,_,z⟩:=h6; exact z.elim
    | brk=>obtain ⟨_,_,_,z⟩:=h6; exact z.elim
    | cont=>obtain ⟨_,_,_,z⟩:=h6; exact z.elim
    | ret u =>
      obtain ⟨v,σ',H2,I6,r6,rfl,rfl⟩:=h6
      exact ⟨.bl b,σ',H2,I6.unmarked I.ok,r6,q'⟩
theorem zxo {c:Expr} {t:TE} {hd:ExceptHandler} {hs:List ExceptHandler} (he:∀ xe,PE (X.wish xe) c t) (hsw:swapsWith c none p3.line X.env=pure false:=by rfl):PS X (.Try [.Expr c p3] (hd::hs) [] [] pos) (zzm t):=by
  intro pins s σ H D I h
  refine wpAny_Try_except (wpAny_execs_cons (wpAny_Expr_any ?_ I.quiet hsw))
  refine thn (he (fun e s₁=>wpAny ‹6› X.A (noteFrame e X.env) (fun _ s₂=>wpAny ‹6› X.A (setFlight e none) (fun _ s₃=>wpAny ‹6› X.A (handleBy e X.env (hd::hs)) (SP X pins D) X.xe s₃) X.xe s₂) X.xe s₁) pins s σ H _ (I.wish _) h) ?_
  rintro u s1 ⟨v,H1,I1,r,q⟩
  exact wpAny_execs_nil (wpAny_execs_nil ⟨σ,H1,I1.unwish,q⟩)
end
end L2
namespace VL
open PySem L2
open Classical
noncomputable section
variable [Tabs] {K:PySem.W.Frag}
@[irreducible] noncomputable def zqr (G:List D→Option Bool) (es:Rho→Option (List D)):DS:=fun ρ=>match es ρ with
  | some ds=>(match G ds with
    | some true=>.nx ρ
    | some false=>.rt (.bl false)
    | none=>.no)
  | none=>.no
theorem zwo {ms:List Bool} {G:List D→Option Bool} {F Xf:List D→Option D} {C:Addr} {t:TA} {es:Rho→Option (List D)} {Fl:Value} {u:TE} (ha:SemA K ms t es) (hF:PySem.W.exmOne K (.ref C) Fl=some true) (hu:SemB K u (za4 F es))
    (hN:∀ ds,G ds=some true→∃ d,F ds=some d) (hX:∀ ds,G ds=some false→∃ d,Xf ds=some d) :
    SemS .v K (tOrS (z39 K Fl false (spX K ms C Xf) t) (zzm u)) (zqr G es):=fun {B Z os ρ σ H En} f p=>by
  unfold zqr at p
  cases e1:es ρ with
  | none=>rw [e1] at p; exact p.elim
  | some ds =>
    rw [e1] at p
    dsimp only at p
    cases g:G ds with
    | none=>rw [g] at p; exact p.elim
    | some b =>
      rw [g] at p
      cases b with
      | true =>
        obtain ⟨d,e2⟩:=hN ds g
        exact .inr (hu f (show za4 F es ρ=some d by unfold za4; rw [e1]; exact e2) fun v H1 s1 i1=>p os _ _ ‹72› (.same s1))
      | false =>
        obtain ⟨d,e2⟩:=hX ds g
        exact .inl (ha f e1 fun vs H1 s1 a=>⟨tot Z os,ds,d,‹72›.zt,a,e2,fun H2 s2=>⟨C,rfl,hF,p (.bl false) H2 (f.keep.trans ‹36›) (.bl false)⟩⟩)
theorem zvy {G:List D→Option Bool} {es:Rho→Option (List D)} {ρ:Rho} {ds:List D} {W:Wk} (h0:es ρ=some ds) (h:G ds=some true) (k:W.nx ρ):Wp (zqr G es) ρ W:=by
  unfold Wp zqr
  rw [h0]
  dsimp only
  rw [h]
  exact k
theorem zvz {G:List D→Option Bool} {es:Rho→Option (List D)} {ρ:Rho} {ds:List D} {W:Wk} (h0:es ρ=some ds) (h:G ds=some false) (k:W.rt (.bl false)):Wp (zqr G es) ρ W:=by
  unfold Wp zqr
  rw [h0]
  dsimp only
  rw [h]
  exact k
end
end VL
namespace L2
open PySem PySem.Spec PyProof.Rows
open Builtin Builtin.Str
section
variable {X:Cx}
def z4x:V→List V→Hp→VK→Prop:=fun x vs H Q=>∃ a b,x=.str a∧vs=[.str b]∧(b.length==0)=false∧a.length≤sizeLine∧∀ p,H p=none→Q (.ref p) (upd H p (.tup [.str ‹140›.1,.str ‹140›.2.1,.str ‹140›.2.2]))
theorem zpb:MtM X "str.partition" z4x:=by
  intro pins s σ H x xs v us Q I rx rv h
  obtain ⟨a,b,rfl,rfl,hb,ha,q⟩:=h
  obtain ⟨t,rfl⟩:=rx
  obtain ⟨u,rfl,t2,rfl⟩:=vals1 rv
  have fin:∀ (ws:List Value) (tk:Nat),Vals [.str ‹140›.1,.str ‹140›.2.1,.str ‹140›.2.2] ws→EP X pins σ Q (.ref s.heap.objs.size) { s with toks:=tk,heap:=s.heap.push { cls:=.type "tuple", data:=.seq ws.toArray } }:=fun ws tk vw =>
    ⟨.ref _,_,I.laid (t':=tk) (o:=.tup [.str ‹140›.1,.str ‹140›.2.1,.str ‹140›.2.2]) (fun b ob q=>Heap.get?_push_of_some _ q) ‹34› ⟨by have:=sizeLine_eq; show 3≤sizeLine; omega,ws,vw,⟨_,Heap.get?_push_size _ rfl,rfl,_,rfl⟩⟩,rfl,q _ (I.hok.fresh ‹34›)⟩
  refine call_meets PySem.F.slot_str_partition (typeIs_str s a t) PySem.F.entry_str_partition (PySem.F.args_str_partition_2 _ _) (meets_str_partition a b t t2 hb ha) ?_
  unfold Txt.partition at fin
  cases e:occurrences a b 0 a.length 1 with
  | nil =>
    rw [e] at fin
    exact fin _ _ (.cons ⟨_,rfl⟩ (.cons ⟨_,rfl⟩ (.cons ⟨_,rfl⟩ .nil)))
  | cons i r =>
    rw [e] at fin
    exact fin _ _ (.cons ⟨_,rfl⟩ (.cons ⟨_,rfl⟩ (.cons ⟨_,rfl⟩ .nil)))
def z4y:R2:=fun x y H Q=>∃ a n,x=.str a∧y=.int n∧(n=0∨n=1)∧Q (.str (if n=0 then Str.empty else a)) H
theorem zxy:OpR X (binaryOp .Mult) z4y:=by
  intro pins s σ H x y v u Q I rx ry h
  obtain ⟨a,n,rfl,rfl,hn,q⟩:=h
  obtain ⟨t,rfl⟩:=rx
  obtain ⟨t',rfl⟩:=ry
  rcases hn with rfl | rfl
  · refine SB.mul ⟨by decide,fun h=>absurd ‹3› h,fun h=>absurd ‹3› h⟩ fun t' k=>⟨.str _,H,I.tok _,⟨_,rfl⟩,?_⟩
    rw [if_pos rfl] at q
    exact q
  · refine SB.mul ⟨by decide,fun _ h=>by simp at h,fun _ h=>by simp at h⟩ fun t' k=>⟨.str _,H,I.tok _,⟨_,rfl⟩,?_⟩
    rw [if_neg ‹3›] at q
    have e:Txt.mul a 1=a:=by unfold Txt.mul; rw [if_neg ‹3›,if_pos (by simp)]
    rw [e]
    exact q
def z4a (t:TE):TE:=fun σ H Q=>t σ H fun x H1=>∃ z,x=.str z∧z.length≤1000000∧∀ y,Q (.str y) H1
theorem zzx {e:Expr} {t:TE} {c:Str} {j p p' pos} (he:PE X e t) (hc:c.length≤1000:=by decide):PE X (.JoinedStr [.Constant (.str c) j p',.FormattedValue e (-1) none p] pos) (z4a t):=fun pins s σ H Q I q=>by
  have hz:sizeLine=16777216:=sizeLine_eq
  have e0:(Str.empty).length=0:=rfl
  refine JoinedStr_many (joinParts_cons (Calls.Constant_str ⟨?_,joinParts_cons (FormattedValue_plain (thn (he pins _ σ H _ (I.tok _) q) fun u s1 ⟨x,H1,I1,r1,z,hx,hl,q1⟩=>?_))⟩))
  · rw [PySem.strLen_append]; omega
  subst hx
  obtain ⟨tk,rfl⟩:=r1
  refine formatField_str (fun t' tk'=>⟨?_,joinParts_nil ⟨.str _,H1,I1.tok _,⟨_,rfl⟩,q1 _⟩ ?_⟩) (by omega)
  · rw [PySem.strLen_append,PySem.strLen_append]; omega
  · rw [PySem.strLen_append,PySem.strLen_append]; omega
end
theorem zh8 {K:PySem.W.Frag} {t c1 c2:Value} (h1:PySem.W.kitOne K t c1=some false) (h2:PySem.W.kitOne K t c2=some false):PySem.W.kitAny K t [c1,c2]=some false:=by
  simp only [PySem.W.kitAny,h1,h2]
end L2
namespace VL
open PySem L2
open Classical
noncomputable section
variable [Tabs] {K:PySem.W.Frag} {ta tb:TE} {a b:DE} {E:XK} {C:Addr} {iv ie:Nat}
def zz0 (x y:Str):D:=.tup [.str (Txt.partition x y).1,.str (Txt.partition x y).2.1,.str (Txt.partition x y).2.2]
noncomputable def zvo (a b:DE):DE:=dTT (fun x y=>if (y.length==0)=false∧x.length≤sizeLine then some (zz0 x y) else none) a b
theorem zoq (ha:SemB K ta a) (hb:SemB K tb b):SemI K (tBM K "str" z4x ta (zcy tb tNil)) (zvo a b):=fun {B Z os ρ σ H Q d} f q k=>by
  obtain ⟨x,y,e1,e2,e3⟩:=zj1 q
  split at e3
  · rename_i c
    cases e3
    exact ha f e1 fun v H1 s1 i1=>⟨i1.isStr ▸ rfl,hb ‹72› e2 fun u H2 s2 i2=>⟨x,y,i1.isStr,by rw [i2.isStr],c.1,c.2,fun p hp=>k _ _ (s1.trans (s2.trans (same_new hp))) (.tup ((‹72›.grow s2).out hp) zbb (by have:=sizeLine_eq; show 3≤sizeLine; omega) (.cons (.str _) (.cons (.str _) (.cons (.str _) .nil))))⟩⟩
  · cases e3
theorem zi6 {ρ:Rho} {x y:Str} (ha:a ρ=some (.str x)) (hb:b ρ=some (.str y)) (h:(y.length==0)=false∧x.length≤sizeLine):zvo a b ρ=some (zz0 x y):=zlh ha hb (if_pos h)
noncomputable def zru (a b:DE):DE:=fun ρ=>match a ρ with
  | some (.str x)=>match b ρ with
    | some (.int n)=>if n=0∨n=1 then some (.str (if n=0 then Str.empty else x)) else none
    | _=>none
  | _=>none
theorem ev_mulT {ρ:Rho} {x:Str} {n:Int} (ha:a ρ=some (.str x)) (hb:b ρ=some (.int n)) (h:n=0∨n=1):zru a b ρ=some (.str (if n=0 then Str.empty else x)):=by
  unfold zru; rw [ha,hb]; exact if_pos h
theorem zw3 (ha:SemB K ta a) (hb:SemB K tb b):SemI K (tOp z4y ta tb) (zru a b):=fun {B Z os ρ σ H Q d} f q k=>by
  unfold zru at q
  split at q
  · rename_i x e1
    split at q
    · rename_i n e2
      split at q
      · rename_i c
        cases q
        exact ha f e1 fun v H1 s1 i1=>hb ‹72› e2 fun u H2 s2 i2=>⟨x,n,i1.isStr,i2.isInt,c,k _ _ ‹36› (.str _)⟩
      · cases q
    · cases q
  · cases q
@[irreducible] noncomputable def zmn (a:DE):DS:=fun ρ=>match a ρ with
  | some (.str z)=>if z.length≤1000000 then .rt .non else .no
  | _=>.no
theorem zwq (h:SemB K ta a):SemS (.x E C) K (zp3 C E (zcy (z4a ta) tNil)) (zmn a):=fun {B Z os ρ σ H En} f p=>by
  unfold zmn at p
  split at p
  · rename_i z e
    split at p
    · rename_i c
      exact h f e fun v H1 s1 i1=>⟨z,i1.isStr,c,fun y=>⟨by have:=sizeLine_eq; show 1≤sizeLine; omega,p H1 (f.keep.trans s1)⟩⟩
    · exact p.elim
  · exact p.elim
theorem zv1 {ρ:Rho} {W:Wk} {z:Str} (h:a ρ=some (.str z)) (hz:z.length≤1000000) (k:W.rt .non):Wp (zmn a) ρ W:=by unfold Wp zmn; rw [h]; dsimp only; rw [if_pos hz]; exact k
theorem z2o {tbl:List (Addr×Sp)} {E':XK} {t:TA} {x:DE} {u v:TS} (h:SemX E C K ta x):SemS (.x E C) K (tIfS (tNot (fun σ H Q=>ztj tbl E' ta t σ H fun x H'=>∃ k,TruV K x H' k∧Q k H')) u v) (sX x):=fun {B Z os ρ σ H En} f p=>by
  unfold sX at p
  split at p
  · rename_i d e
    exact h f e p _
  · exact p.elim
theorem znn {c1 c2:Addr} {b:Bool} (k:ExcK K C) (e:PySem.W.kitAny K (.ref C) [.ref c1,.ref c2]=some b):XE iv C (tCB (z40 K) (zcy (tVar iv) (zcy (tTup (zcy (tC (.ref c1)) (zcy (tC (.ref c2)) tNil))) tNil))) b:=fun {σ H a Q} s h q =>
  ⟨.ref a,s,by have:=sizeLine_eq; show 2≤sizeLine; omega,fun p hp=>⟨a,C,p,[c1,c2],b,rfl,by rw [upd_ne (zbo h hp)]; exact h,k,zbb,e,q _ (same_new hp)⟩⟩
def XA (iv:Nat) (C:Addr) (t:TA) (bs:List Bool):Prop:=∀ {σ:L2.St} {H:Hp} {a:Addr} {Q:List V→Hp→Prop},σ[iv]?=some (some (.ref a))→H a=some (excO a C)→(∀ H',Same H H'→Q (bs.map V.bl) H')→t σ H Q
theorem zvt:XA iv C tNil []:=fun s h q=>q _ ‹101›
theorem zf0 {t:TE} {r:TA} {b:Bool} {bs:List Bool} (h1:XE iv C t b) (h2:XA iv C r bs):XA iv C (zcy t r) (b::bs):=fun s h q=>h1 s h fun H1 s1=>h2 s (s1 _ _ h) fun H2 s2=>q H2 ‹36›
def XL (n iv:Nat) (C:Addr) (t:TS) (bs:List Bool):Prop:=∀ {σ:L2.St} {H:Hp} {a:Addr} {En:Ends},σ.length=n→σ[iv]?=some (some (.ref a))→H a=some (excO a C)→(∀ p H',Same H H'→H p=none→H' p=some (.lst (bs.map V.bl))→En.rt (.ref p) H')→t En σ H
theorem z2b {n:Nat} {c:TT} {t r:TS} {bs:List Bool} (h1:XT iv C c false) (h2:XL n iv C r bs):XL n iv C (tSeq (tIfS c t z2n) r) bs:=fun l s e q=>h1 s e fun H1 s1=>iteF (h2 l s (s1 _ _ e) fun p H2 s2 hp e2=>q p H2 ‹36› (Same.free s1 hp) e2)
theorem zvs {n i:Nat} {u:TA} {v:TE} {bs:List Bool} {b:Bool} (hi:i≠iv) (hn:i<n) (h1:XA iv C u bs) (h2:XE iv C v b) (hl:bs.length≤1000:=by decide):XL n iv C (tSeq (tAsg (tLst u) (zmz i)) (tRet (tOp z26 (tVar i) (tLst (zcy v tNil))))) (bs++[b]):=fun {σ H a En} l s e q=>by
  have hz:=sizeLine_eq
  refine h1 s e fun H1 s1=>⟨by rw [List.length_map]; omega,fun p hp=>?_⟩
  have s2:Same H1 (upd H1 p (.lst (bs.map V.bl))):=same_new hp
  refine ⟨.ref p,List.getElem?_set_self (by omega),?_⟩
  refine h2 (a:=a) (by rw [List.getElem?_set_ne hi]; exact s) (s2 _ _ (s1 _ _ e)) fun H3 s3=>⟨by show 1≤sizeLine; omega,fun p2 hp2=>?_⟩
  have e3:H3 p=some (.lst (bs.map V.bl)):=s3 _ _ zbb
  have s4:Same H3 (upd H3 p2 (.lst [.bl b])):=same_new hp2
  refine ⟨p,p2,bs.map V.bl,[.bl b],rfl,rfl,.inl (s4 _ _ e3),.inl zbb,by rw [List.length_map]; show bs.length+1≤sizeLine; omega,fun p3 hp3=>?_⟩
  have s5:Same (upd H3 p2 (.lst [.bl b])) (upd (upd H3 p2 (.lst [.bl b])) p3 (.lst (bs.map V.bl++[.bl b]))):=same_new hp3
  have st:=s1.trans (s2.trans (s3.trans s4))
  refine q p3 _ (st.trans s5) (Same.free st hp3) ?_
  rw [zbb,List.map_append]
  rfl
@[irreducible] noncomputable def zsj (n iv:Nat) (x:DE) (bs:List Bool):DS:=fun ρ=>if ρ.length=n∧iv<n then (match x ρ with
  | some _=>.rt (.lst (bs.map D.bl))
  | none=>.no) else .no
@[irreducible] noncomputable def sOrC (x:DE) (s u:DS):DS:=fun ρ=>if (x ρ).isSome=true then s ρ else u ρ
theorem zsd {n:Nat} {ms:List Bool} {F:List D→Option D} {t:TA} {r:TS} {es:Rho→Option (List D)} {Fl:Value} {bs:List Bool} (ha:SemA K ms t es) (hF:PySem.W.exmOne K (.ref C) Fl=some true) (hne:ie≠iv) (hr:XL n iv C r bs) (hbs:bs.length≤1000:=by decide) :
    SemS .v K (tSeq (tTry K Fl iv ie (spX K ms C F) t) r) (zsj n iv (za4 F es) bs):=fun {B Z os ρ σ H En} f p=>by
  have hz:=sizeLine_eq
  unfold zsj at p
  split at p
  case isFalse=>exact p.elim
  case isTrue hi =>
    cases e:za4 F es ρ with
    | none=>rw [e] at p; exact p.elim
    | some d =>
      rw [e] at p
      unfold za4 at e
      split at e
      · rename_i ds e1
        have hl:σ.length=n:=by rw [f.len]; exact hi.1
        refine ha f e1 fun vs H1 s1 a=>⟨tot Z os,ds,d,‹72›.zt,a,e,fun H2 s2=>⟨C,rfl,hF,fun x hx=>hr (a:=x) (by rw [List.length_set,List.length_set,List.length_set]; exact hl) ?_ zbb fun q H3 s3 hq e3=>?_⟩⟩
        · rw [List.getElem?_set_ne hne,List.getElem?_set_self (by rw [List.length_set]; omega)]
        · have st:=s1.trans (s2.trans ((same_new hx).trans s3))
          have hq0:H q=none:=Same.free (s1.trans (s2.trans (same_new hx))) hq
          have nz:¬ Z q:=fun z=>f.out hq0 (.inl z)
          have il:∀ l:List Bool,IsL K H3 Z (l.map V.bl) (l.map D.bl):=fun l=>by
            induction l with
            | nil=>exact .nil
            | cons b l ih=>exact .cons (.bl b) ih
          exact p (.ref q) H3 (f.keep.trans st) (.lst nz (.inl e3) (by rw [List.length_map]; omega) (il bs))
      · cases e
theorem z09 {t u r:TS} {x:DE} {s v:DS} (h1:SemS .v K (tSeq t r) s) (h2:SemS .v K (tSeq u r) v):SemS .v K (tSeq (tOrS t u) r) (sOrC x s v):=fun {B Z os ρ σ H En} f p=>by
  unfold sOrC at p
  split at p
  · exact .inl (h1 f p)
  · exact .inr (h2 f p)
theorem zr7 {n:Nat} {x:DE} {ρ:Rho} {d:D} {bs:List Bool} {W:Wk} (hi:ρ.length=n∧iv<n) (h:x ρ=some d) (k:W.rt (.lst (bs.map D.bl))):Wp (zsj n iv x bs) ρ W:=by
  unfold Wp zsj
  rw [if_pos hi,h]
  exact k
theorem z01 {x:DE} {s u:DS} {ρ:Rho} {d:D} {W:Wk} (h:x ρ=some d) (k:Wp s ρ W):Wp (sOrC x s u) ρ W:=by
  unfold Wp sOrC at *
  rw [h,if_pos (show (some d).isSome=true from rfl)]
  exact k
theorem zv4 {x:DE} {s u:DS} {ρ:Rho} {W:Wk} (h:x ρ=none) (k:Wp u ρ W):Wp (sOrC x s u) ρ W:=by
  unfold Wp sOrC at *
  rw [h,if_neg (show ¬ (none:Option D).isSome=true from by simp)]
  exact k
theorem zqt {F:List D→Option D} {n:Nat} {ms:List Bool} {s:DS} {ds:List D} (h:F=runF n ms s) (k:s (stD n ms ds)=.no):F ds=none:=by
  rw [h]; unfold runF; rw [k]
theorem z22 {F:List D→Option D} {n:Nat} {ms:List Bool} {s:DS} {ds:List D} (h:F=runD n ms s) (k:s (stD n ms ds)=.no):F ds=none:=by
  rw [h]; unfold runD; rw [k]
theorem zfv {s u:DS} {ρ:Rho} (h:Wp s ρ { nx:=fun ρ'=>u ρ'=.no,rt:=fun _=>False }):sSeq s u ρ=.no:=by
  unfold Wp at h
  unfold sSeq
  cases e:s ρ with
  | nx ρ'=>rw [e] at h; exact h
  | rt d=>rw [e] at h; exact h.elim
  | bk ρ'=>rw [e] at h; exact h.elim
  | ct ρ'=>rw [e] at h; exact h.elim
  | no=>rfl
theorem zms {s u:DS} {ρ:Rho} (h:s ρ=.no):sSeq s u ρ=.no:=by unfold sSeq; rw [h]
theorem zve {ρ:Rho}:sNo ρ=.no:=by unfold sNo; rfl
theorem zx8 {c:Rho→Option Bool} {s u:DS} {ρ:Rho} (h:c ρ=some true) (k:s ρ=.no):sIf c s u ρ=.no:=by unfold sIf; rw [h]; exact k
theorem z1s {c:Rho→Option Bool} {s u:DS} {ρ:Rho} (h:c ρ=none):sIf c s u ρ=.no:=by unfold sIf; rw [h]
theorem zi5 {F:List D→Option D} {es:Rho→Option (List D)} {ρ:Rho} {ds:List D} (h:es ρ=some ds) (k:F ds=none):za4 F es ρ=none:=by unfold za4; rw [h]; exact k
theorem zt6 {k:Nat} {cs:List Nat} {it:Rho→Option (List D)} {g:DG} {e x:DE} {ρ:Rho} {ds:List D} (h:it ρ=some ds) (hr:¬ zdn g e x (r0 k cs ρ) ds):sXC k cs it g e x ρ=.no:=by
  unfold sXC; rw [h]; exact if_neg hr
end
end VL
set_option maxHeartbeats 4000000
namespace My
open PySem L2 VL
def top (i:Nat):Stmt:=PySem.Challenge.pw_leastfloor_k83_floors_as_texts.main.body.getD i (.Pass ⟨0,0,0,0⟩)
abbrev zpu:Addr:=656
abbrev ztb:Addr:=715
abbrev zps:Addr:=774
abbrev zkr:Addr:=831
abbrev zta:Addr:=951
abbrev zpt:Addr:=1015
def zli (s:Stmt) (j:Nat):Stmt:=match s with
  | .ClassDef _ _ _ b _ _ _ _ _ _ _=>b.getD j (.Pass ⟨0,0,0,0⟩)
  | _=>.Pass ⟨0,0,0,0⟩
noncomputable abbrev zf1:Stmt:=top 12
noncomputable abbrev zez:Stmt:=top 13
noncomputable abbrev zh2:Stmt:=top 43
noncomputable abbrev zex:Stmt:=top 44
noncomputable abbrev zls:Stmt:=top 45
noncomputable abbrev zlo:Stmt:=top 74
noncomputable abbrev zh1:Stmt:=top 75
noncomputable abbrev ze4:Stmt:=zli (top 104) 0
noncomputable abbrev ze5:Stmt:=zli (top 104) 1
noncomputable abbrev zf7:Stmt:=zli (top 105) 0
noncomputable abbrev zf8:Stmt:=zli (top 105) 1
noncomputable abbrev ze0:Stmt:=zli (top 106) 0
noncomputable abbrev ze1:Stmt:=zli (top 106) 1
noncomputable abbrev zd1:Stmt:=zli (top 107) 0
noncomputable abbrev zd2:Stmt:=zli (top 107) 1
noncomputable abbrev zf5:Stmt:=zli (top 109) 0
noncomputable abbrev zf6:Stmt:=zli (top 109) 1
noncomputable abbrev ze2:Stmt:=zli (top 110) 0
noncomputable abbrev ze3:Stmt:=zli (top 110) 1
noncomputable abbrev zo1:Stmt:=top 111
noncomputable abbrev zjl:Stmt:=top 112
noncomputable abbrev zjm:Stmt:=top 120
noncomputable abbrev zf4:Stmt:=top 121
noncomputable abbrev zei:Stmt:=top 122
noncomputable abbrev zf2:Stmt:=top 123
noncomputable abbrev zh0:Stmt:=top 124
noncomputable abbrev zey:Stmt:=top 125
noncomputable abbrev zo0:Stmt:=top 127
noncomputable abbrev zji:Stmt:=top 128
noncomputable abbrev zlq:Stmt:=top 129
noncomputable abbrev zlr:Stmt:=top 130
noncomputable abbrev zjk:Stmt:=top 131
noncomputable abbrev zlp:Stmt:=top 132
noncomputable abbrev zf3:Stmt:=top 133
noncomputable abbrev zjj:Stmt:=top 134
noncomputable abbrev zzt:Stmt:=top 135
theorem zql:FnScope ["numbers", "least", "most"] ["numbers", "least", "most"] (zao zf1):=⟨rfl,rfl,rfl,by decide +kernel,rfl,by decide +kernel,by decide +kernel⟩
theorem zos:FnScope ["numbers", "least"] ["numbers", "least"] (zao zez):=⟨rfl,rfl,rfl,by decide +kernel,rfl,by decide +kernel,by decide +kernel⟩
theorem sc_ahead_of:FnScope ["many", "needs", "before", "between", "first"] ["many", "needs"] (zao zh2):=⟨rfl,rfl,rfl,by decide +kernel,rfl,by decide +kernel,by decide +kernel⟩
theorem sc_told_order:FnScope ["many", "needs", "before", "first", "later"] ["many", "needs"] (zao zex):=⟨rfl,rfl,rfl,by decide +kernel,rfl,by decide +kernel,by decide +kernel⟩
theorem zw6:FnScope ["truths", "others"] ["truths", "others"] (zao zls):=⟨rfl,rfl,rfl,by decide +kernel,rfl,by decide +kernel,by decide +kernel⟩
theorem sc_levels:FnScope ["behind", "later"] ["behind"] (zao zlo):=⟨rfl,rfl,rfl,by decide +kernel,rfl,by decide +kernel,by decide +kernel⟩
theorem sc_level_of:FnScope ["behind", "work", "level", "later"] ["behind", "work"] (zao zh1):=⟨rfl,rfl,rfl,by decide +kernel,rfl,by decide +kernel,by decide +kernel⟩
theorem zox:FnScope ["self"] ["self"] (zao ze4):=⟨rfl,rfl,rfl,by decide +kernel,rfl,by decide +kernel,by decide +kernel⟩
theorem zoy:FnScope ["self", "rows"] ["self", "rows"] (zao ze5):=⟨rfl,rfl,rfl,by decide +kernel,rfl,by decide +kernel,by decide +kernel⟩
theorem zqo:FnScope ["self"] ["self"] (zao zf7):=⟨rfl,rfl,rfl,by decide +kernel,rfl,by decide +kernel,by decide +kernel⟩
theorem zqp:FnScope ["self", "rows"] ["self", "rows"] (zao zf8):=⟨rfl,rfl,rfl,by decide +kernel,rfl,by decide +kernel,by decide +kernel⟩
theorem zot:FnScope ["self"] ["self"] (zao ze0):=⟨rfl,rfl,rfl,by decide +kernel,rfl,by decide +kernel,by decide +kernel⟩
theorem zou:FnScope ["self", "rows"] ["self", "rows"] (zao ze1):=⟨rfl,rfl,rfl,by decide +kernel,rfl,by decide +kernel,by decide +kernel⟩
theorem zmk:FnScope ["self"] ["self"] (zao zd1):=⟨rfl,rfl,rfl,by decide +kernel,rfl,by decide +kernel,by decide +kernel⟩
theorem zml:FnScope ["self", "rows"] ["self", "rows"] (zao zd2):=⟨rfl,rfl,rfl,by decide +kernel,rfl,by decide +kernel,by decide +kernel⟩
theorem zqm:FnScope ["self"] ["self"] (zao zf5):=⟨rfl,rfl,rfl,by decide +kernel,rfl,by decide +kernel,by decide +kernel⟩
theorem zqn:FnScope ["self", "rows"] ["self", "rows"] (zao zf6):=⟨rfl,rfl,rfl,by decide +kernel,rfl,by decide +kernel,by decide +kernel⟩
theorem zov:FnScope ["self"] ["self"] (zao ze2):=⟨rfl,rfl,rfl,by decide +kernel,rfl,by decide +kernel,by decide +kernel⟩
theorem zow:FnScope ["self", "rows"] ["self", "rows"] (zao ze3):=⟨rfl,rfl,rfl,by decide +kernel,rfl,by decide +kernel,by decide +kernel⟩
theorem zzs:FnScope [] [] (zao zo1):=⟨rfl,rfl,rfl,by decide +kernel,rfl,by decide +kernel,by decide +kernel⟩
theorem sc_kind_of:FnScope ["word", "kind"] ["word"] (zao zjl):=⟨rfl,rfl,rfl,by decide +kernel,rfl,by decide +kernel,by decide +kernel⟩
theorem zu1:FnScope ["text"] ["text"] (zao zjm):=⟨rfl,rfl,rfl,by decide +kernel,rfl,by decide +kernel,by decide +kernel⟩
theorem sc_is_number:FnScope ["text", "figures"] ["text"] (zao zf4):=⟨rfl,rfl,rfl,by decide +kernel,rfl,by decide +kernel,by decide +kernel⟩
theorem zij:FnScope ["text"] ["text"] (zao zei):=⟨rfl,rfl,rfl,by decide +kernel,rfl,by decide +kernel,by decide +kernel⟩
theorem zkv:FnScope ["text"] ["text"] (zao zf2):=⟨rfl,rfl,rfl,by decide +kernel,rfl,by decide +kernel,by decide +kernel⟩
theorem zmj:FnScope ["text"] ["text"] (zao zh0):=⟨rfl,rfl,rfl,by decide +kernel,rfl,by decide +kernel,by decide +kernel⟩
theorem sc_read_floor:FnScope ["text", "parts", "word", "rows"] ["text"] (zao zey):=⟨rfl,rfl,rfl,by decide +kernel,rfl,by decide +kernel,by decide +kernel⟩
theorem zzr:FnScope ["_law_number", "_law_k"] ["_law_number", "_law_k"] (zao zo0):=⟨rfl,rfl,rfl,by decide +kernel,rfl,by decide +kernel,by decide +kernel⟩
theorem zu0:FnScope [] [] (zao zji):=⟨rfl,rfl,rfl,by decide +kernel,rfl,by decide +kernel,by decide +kernel⟩
theorem sc_l_rows:FnScope ["_law_at", "_law_cell", "_law_hours"] ["_law_at", "_law_cell"] (zao zlq):=⟨rfl,rfl,rfl,by decide +kernel,rfl,by decide +kernel,by decide +kernel⟩
theorem sc_l_bent:FnScope ["_law_rows_here", "_law_cell", "_law_choice", "_law_place", "_law_row", "_law_number"] ["_law_rows_here", "_law_cell"] (zao zlr):=⟨rfl,rfl,rfl,by decide +kernel,rfl,by decide +kernel,by decide +kernel⟩
theorem sc_l_shown:FnScope ["_law_rows_here", "_law_parts", "_law_row", "_law_words_here"] ["_law_rows_here"] (zao zjk):=⟨rfl,rfl,rfl,by decide +kernel,rfl,by decide +kernel,by decide +kernel⟩
theorem sc_l_word:FnScope ["_law_at", "_law_cell", "_law_word_here", "_law_choice", "_law_letters"] ["_law_at", "_law_cell"] (zao zlp):=⟨rfl,rfl,rfl,by decide +kernel,rfl,by decide +kernel,by decide +kernel⟩
theorem sc_l_refused:FnScope ["_law_text", "_law_caught", "e", "_law_found"] ["_law_text"] (zao zf3):=⟨rfl,rfl,rfl,by decide +kernel,rfl,by decide +kernel,by decide +kernel⟩
theorem sc_l_small:FnScope ["_law_word_here", "_law_sign"] ["_law_word_here"] (zao zjj):=⟨rfl,rfl,rfl,by decide +kernel,rfl,by decide +kernel,by decide +kernel⟩
theorem sc_law:FnScope ["_law_script", "_law_cell", "_law_at", "_law_word_here", "_law_rows_here", "_law_choice", "_law_text", "_law_spoiled", "_law_mark", "_law_found"] ["_law_script"] (zao zzt):=⟨rfl,rfl,rfl,by decide +kernel,rfl,by decide +kernel,by decide +kernel⟩
set_option genInjectivity false in
set_option genSizeOf false in
structure Adr where
  f_tells_one:Addr
  d_tells_one:FuncData
  f_none_below:Addr
  d_none_below:FuncData
  f_ahead_of:Addr
  d_ahead_of:FuncData
  f_told_order:Addr
  d_told_order:FuncData
  f_either:Addr
  d_either:FuncData
  f_levels:Addr
  d_levels:FuncData
  f_level_of:Addr
  d_level_of:FuncData
  f_Alike_word:Addr
  d_Alike_word:FuncData
  f_Alike_fits:Addr
  d_Alike_fits:FuncData
  f_Open_word:Addr
  d_Open_word:FuncData
  f_Open_fits:Addr
  d_Open_fits:FuncData
  f_Tails_word:Addr
  d_Tails_word:FuncData
  f_Tails_fits:Addr
  d_Tails_fits:FuncData
  f_Windows_word:Addr
  d_Windows_word:FuncData
  f_Windows_fits:Addr
  d_Windows_fits:FuncData
  f_Tree_word:Addr
  d_Tree_word:FuncData
  f_Tree_fits:Addr
  d_Tree_fits:FuncData
  f_Pairs_word:Addr
  d_Pairs_word:FuncData
  f_Pairs_fits:Addr
  d_Pairs_fits:FuncData
  f_kinds:Addr
  d_kinds:FuncData
  f_kind_of:Addr
  d_kind_of:FuncData
  f_is_name:Addr
  d_is_name:FuncData
  f_is_number:Addr
  d_is_number:FuncData
  f_read_number:Addr
  d_read_number:FuncData
  f_read_rows:Addr
  d_read_rows:FuncData
  f_read_row:Addr
  d_read_row:FuncData
  f_read_floor:Addr
  d_read_floor:FuncData
  f_l_mix:Addr
  d_l_mix:FuncData
  f_l_words:Addr
  d_l_words:FuncData
  f_l_rows:Addr
  d_l_rows:FuncData
  f_l_bent:Addr
  d_l_bent:FuncData
  f_l_shown:Addr
  d_l_shown:FuncData
  f_l_word:Addr
  d_l_word:FuncData
  f_l_refused:Addr
  d_l_refused:FuncData
  f_l_small:Addr
  d_l_small:FuncData
  f_law:Addr
  d_law:FuncData
  c_NoOrder:Addr
  c_NoKind:Addr
  c_NoText:Addr
  c_NoFloor:Addr
  c_FloorError:Addr
  c_NoRoom:Addr
  c_NoRow:Addr
  c_NoName:Addr
structure Txt [Tabs] (K:PySem.W.Frag) (mg:Str→Option Value) (a:Adr):Prop where
  F_tells_one:Fun K "tells_one" "tells_one" zf1 a.f_tells_one a.d_tells_one
  b_tells_one:Binds K a.d_tells_one ["numbers", "least", "most"] []
  m_tells_one:mg "tells_one" = some (.ref a.f_tells_one)
  F_none_below:Fun K "none_below" "none_below" zez a.f_none_below a.d_none_below
  b_none_below:Binds K a.d_none_below ["numbers", "least"] []
  m_none_below:mg "none_below" = some (.ref a.f_none_below)
  F_ahead_of:Fun K "ahead_of" "ahead_of" zh2 a.f_ahead_of a.d_ahead_of
  b_ahead_of:Binds K a.d_ahead_of ["many", "needs"] []
  m_ahead_of:mg "ahead_of" = some (.ref a.f_ahead_of)
  F_told_order:Fun K "told_order" "told_order" zex a.f_told_order a.d_told_order
  b_told_order:Binds K a.d_told_order ["many", "needs"] []
  m_told_order:mg "told_order" = some (.ref a.f_told_order)
  F_either:Fun K "either" "either" zls a.f_either a.d_either
  b_either:Binds K a.d_either ["truths", "others"] []
  m_either:mg "either" = some (.ref a.f_either)
  F_levels:Fun K "levels" "levels" zlo a.f_levels a.d_levels
  b_levels:Binds K a.d_levels ["behind"] []
  m_levels:mg "levels" = some (.ref a.f_levels)
  F_level_of:Fun K "level_of" "level_of" zh1 a.f_level_of a.d_level_of
  b_level_of:Binds K a.d_level_of ["behind", "work"] []
  m_level_of:mg "level_of" = some (.ref a.f_level_of)
  F_Alike_word:Fun K "word" "Alike.word" ze4 a.f_Alike_word a.d_Alike_word
  b_Alike_word:Binds K a.d_Alike_word ["self"] []
  t_Alike_word:Meth K 656 "word" a.f_Alike_word
  F_Alike_fits:Fun K "fits" "Alike.fits" ze5 a.f_Alike_fits a.d_Alike_fits
  b_Alike_fits:Binds K a.d_Alike_fits ["self", "rows"] []
  t_Alike_fits:Meth K 656 "fits" a.f_Alike_fits
  F_Open_word:Fun K "word" "Open.word" zf7 a.f_Open_word a.d_Open_word
  b_Open_word:Binds K a.d_Open_word ["self"] []
  t_Open_word:Meth K 715 "word" a.f_Open_word
  F_Open_fits:Fun K "fits" "Open.fits" zf8 a.f_Open_fits a.d_Open_fits
  b_Open_fits:Binds K a.d_Open_fits ["self", "rows"] []
  t_Open_fits:Meth K 715 "fits" a.f_Open_fits
  F_Tails_word:Fun K "word" "Tails.word" ze0 a.f_Tails_word a.d_Tails_word
  b_Tails_word:Binds K a.d_Tails_word ["self"] []
  t_Tails_word:Meth K 774 "word" a.f_Tails_word
  F_Tails_fits:Fun K "fits" "Tails.fits" ze1 a.f_Tails_fits a.d_Tails_fits
  b_Tails_fits:Binds K a.d_Tails_fits ["self", "rows"] []
  t_Tails_fits:Meth K 774 "fits" a.f_Tails_fits
  F_Windows_word:Fun K "word" "Windows.word" zd1 a.f_Windows_word a.d_Windows_word
  b_Windows_word:Binds K a.d_Windows_word ["self"] []
  t_Windows_word:Meth K 831 "word" a.f_Windows_word
  F_Windows_fits:Fun K "fits" "Windows.fits" zd2 a.f_Windows_fits a.d_Windows_fits
  b_Windows_fits:Binds K a.d_Windows_fits ["self", "rows"] []
  t_Windows_fits:Meth K 831 "fits" a.f_Windows_fits
  F_Tree_word:Fun K "word" "Tree.word" zf5 a.f_Tree_word a.d_Tree_word
  b_Tree_word:Binds K a.d_Tree_word ["self"] []
  t_Tree_word:Meth K 951 "word" a.f_Tree_word
  F_Tree_fits:Fun K "fits" "Tree.fits" zf6 a.f_Tree_fits a.d_Tree_fits
  b_Tree_fits:Binds K a.d_Tree_fits ["self", "rows"] []
  t_Tree_fits:Meth K 951 "fits" a.f_Tree_fits
  F_Pairs_word:Fun K "word" "Pairs.word" ze2 a.f_Pairs_word a.d_Pairs_word
  b_Pairs_word:Binds K a.d_Pairs_word ["self"] []
  t_Pairs_word:Meth K 1015 "word" a.f_Pairs_word
  F_Pairs_fits:Fun K "fits" "Pairs.fits" ze3 a.f_Pairs_fits a.d_Pairs_fits
  b_Pairs_fits:Binds K a.d_Pairs_fits ["self", "rows"] []
  t_Pairs_fits:Meth K 1015 "fits" a.f_Pairs_fits
  F_kinds:Fun K "kinds" "kinds" zo1 a.f_kinds a.d_kinds
  b_kinds:Binds K a.d_kinds [] []
  m_kinds:mg "kinds" = some (.ref a.f_kinds)
  F_kind_of:Fun K "kind_of" "kind_of" zjl a.f_kind_of a.d_kind_of
  b_kind_of:Binds K a.d_kind_of ["word"] []
  m_kind_of:mg "kind_of" = some (.ref a.f_kind_of)
  F_is_name:Fun K "is_name" "is_name" zjm a.f_is_name a.d_is_name
  b_is_name:Binds K a.d_is_name ["text"] []
  m_is_name:mg "is_name" = some (.ref a.f_is_name)
  F_is_number:Fun K "is_number" "is_number" zf4 a.f_is_number a.d_is_number
  b_is_number:Binds K a.d_is_number ["text"] []
  m_is_number:mg "is_number" = some (.ref a.f_is_number)
  F_read_number:Fun K "read_number" "read_number" zei a.f_read_number a.d_read_number
  b_read_number:Binds K a.d_read_number ["text"] []
  m_read_number:mg "read_number" = some (.ref a.f_read_number)
  F_read_rows:Fun K "read_rows" "read_rows" zf2 a.f_read_rows a.d_read_rows
  b_read_rows:Binds K a.d_read_rows ["text"] []
  m_read_rows:mg "read_rows" = some (.ref a.f_read_rows)
  F_read_row:Fun K "read_row" "read_row" zh0 a.f_read_row a.d_read_row
  b_read_row:Binds K a.d_read_row ["text"] []
  m_read_row:mg "read_row" = some (.ref a.f_read_row)
  F_read_floor:Fun K "read_floor" "read_floor" zey a.f_read_floor a.d_read_floor
  b_read_floor:Binds K a.d_read_floor ["text"] []
  m_read_floor:mg "read_floor" = some (.ref a.f_read_floor)
  F_l_mix:Fun K "_law_mix" "_law_mix" zo0 a.f_l_mix a.d_l_mix
  b_l_mix:Binds K a.d_l_mix ["_law_number", "_law_k"] []
  m_l_mix:mg "_law_mix" = some (.ref a.f_l_mix)
  F_l_words:Fun K "_law_words" "_law_words" zji a.f_l_words a.d_l_words
  b_l_words:Binds K a.d_l_words [] []
  m_l_words:mg "_law_words" = some (.ref a.f_l_words)
  F_l_rows:Fun K "_law_rows" "_law_rows" zlq a.f_l_rows a.d_l_rows
  b_l_rows:Binds K a.d_l_rows ["_law_at", "_law_cell"] []
  m_l_rows:mg "_law_rows" = some (.ref a.f_l_rows)
  F_l_bent:Fun K "_law_bent" "_law_bent" zlr a.f_l_bent a.d_l_bent
  b_l_bent:Binds K a.d_l_bent ["_law_rows_here", "_law_cell"] []
  m_l_bent:mg "_law_bent" = some (.ref a.f_l_bent)
  F_l_shown:Fun K "_law_shown" "_law_shown" zjk a.f_l_shown a.d_l_shown
  b_l_shown:Binds K a.d_l_shown ["_law_rows_here"] []
  m_l_shown:mg "_law_shown" = some (.ref a.f_l_shown)
  F_l_word:Fun K "_law_word" "_law_word" zlp a.f_l_word a.d_l_word
  b_l_word:Binds K a.d_l_word ["_law_at", "_law_cell"] []
  m_l_word:mg "_law_word" = some (.ref a.f_l_word)
  F_l_refused:Fun K "_law_refused" "_law_refused" zf3 a.f_l_refused a.d_l_refused
  b_l_refused:Binds K a.d_l_refused ["_law_text"] []
  m_l_refused:mg "_law_refused" = some (.ref a.f_l_refused)
  F_l_small:Fun K "_law_small" "_law_small" zjj a.f_l_small a.d_l_small
  b_l_small:Binds K a.d_l_small ["_law_word_here"] []
  m_l_small:mg "_law_small" = some (.ref a.f_l_small)
  F_law:Fun K "law" "law" zzt a.f_law a.d_law
  b_law:Binds K a.d_law ["_law_script"] []
  m_law:mg "law" = some (.ref a.f_law)
  z_ValueError:mg "ValueError" = none
  z_all:mg "all" = none
  z_any:mg "any" = none
  z_int:mg "int" = none
  z_isinstance:mg "isinstance" = none
  z_len:mg "len" = none
  z_list:mg "list" = none
  z_max:mg "max" = none
  z_min:mg "min" = none
  z_range:mg "range" = none
  z_str:mg "str" = none
  z_tuple:mg "tuple" = none
  z_zip:mg "zip" = none
  c_FIGURES:∃ t,mg "FIGURES" = some (.str "0123456789" t)
  c_LETTERS:∃ t,mg "LETTERS" = some (.str "abcdefghijklmnopqrstuvwxyz" t)
  c_MOST_FIGURES:∃ t,mg "MOST_FIGURES" = some (.int 60 t)
  c_MOST_LETTERS:∃ t,mg "MOST_LETTERS" = some (.int 8 t)
  c_NO_NUMBERS:∃ t,mg "NO_NUMBERS" = some (.str "." t)
  c_NO_ROWS:∃ t,mg "NO_ROWS" = some (.str "-" t)
  m_NoOrder:mg "NoOrder" = some (.ref a.c_NoOrder)
  m_Alike:mg "Alike" = some (.ref 656)
  m_Open:mg "Open" = some (.ref 715)
  m_Tails:mg "Tails" = some (.ref 774)
  m_Windows:mg "Windows" = some (.ref 831)
  m_Tree:mg "Tree" = some (.ref 951)
  m_Pairs:mg "Pairs" = some (.ref 1015)
  m_NoKind:mg "NoKind" = some ‹110›
  m_NoText:mg "NoText" = some ‹109›
  m_NoFloor:mg "NoFloor" = some ‹100›
  m_FloorError:mg "FloorError" = some (.ref a.c_FloorError)
  m_NoRoom:mg "NoRoom" = some (.ref a.c_NoRoom)
  m_NoRow:mg "NoRow" = some (.ref a.c_NoRow)
  m_NoName:mg "NoName" = some (.ref a.c_NoName)
  q_NoOrder:PySem.W.excIn K a.c_NoOrder [.type "ValueError", .type "Exception", .type "BaseException", .type "object"] "ValueError.__new__" = true
  x_NoOrder_NoOrder:PySem.W.exmOne K (.ref a.c_NoOrder) (.ref a.c_NoOrder)=some true
  mk_Alike:MkP K 656
  mk_Open:MkP K 715
  mk_Tails:MkP K 774
  mk_Windows:MkP K 831
  mk_Tree:MkP K 951
  mk_Pairs:MkP K 1015
  ki_Pairs:ClsI K 1015
  ki_Tree:ClsI K 951
  ki_Windows:ClsI K 831
  ki_Tails:ClsI K 774
  ki_Open:ClsI K 715
  ki_Alike:ClsI K 656
  q_NoKind:PySem.W.excIn K a.c_NoKind [.type "ValueError", .type "Exception", .type "BaseException", .type "object"] "ValueError.__new__" = true
  q_NoText:PySem.W.excIn K a.c_NoText [.type "ValueError", .type "Exception", .type "BaseException", .type "object"] "ValueError.__new__" = true
  q_NoFloor:PySem.W.excIn K a.c_NoFloor [.type "ValueError", .type "Exception", .type "BaseException", .type "object"] "ValueError.__new__" = true
  kx_NoKind:ExcK K a.c_NoKind
  x_NoKind_FloorError:PySem.W.exmOne K ‹110› (.ref a.c_FloorError)=some true
  i_NoKind_NoRow:PySem.W.kitOne K ‹110› (.ref a.c_NoRow)=some false
  i_NoKind_NoName:PySem.W.kitOne K ‹110› (.ref a.c_NoName)=some false
  i_NoKind_NoRoom:PySem.W.kitOne K ‹110› (.ref a.c_NoRoom)=some false
  i_NoKind_NoOrder:PySem.W.kitOne K ‹110› (.ref a.c_NoOrder)=some false
  i_NoKind_NoFloor:PySem.W.kitOne K ‹110› ‹100›=some false
  i_NoKind_NoKind:PySem.W.kitOne K ‹110› ‹110›=some true
  i_NoKind_NoText:PySem.W.kitOne K ‹110› ‹109›=some false
  i_NoKind_ValueError:PySem.W.kitOne K ‹110› (.type "ValueError")=some true
  kx_NoFloor:ExcK K a.c_NoFloor
  x_NoFloor_FloorError:PySem.W.exmOne K ‹100› (.ref a.c_FloorError)=some true
  i_NoFloor_NoRow:PySem.W.kitOne K ‹100› (.ref a.c_NoRow)=some false
  i_NoFloor_NoName:PySem.W.kitOne K ‹100› (.ref a.c_NoName)=some false
  i_NoFloor_NoRoom:PySem.W.kitOne K ‹100› (.ref a.c_NoRoom)=some false
  i_NoFloor_NoOrder:PySem.W.kitOne K ‹100› (.ref a.c_NoOrder)=some false
  i_NoFloor_NoFloor:PySem.W.kitOne K ‹100› ‹100›=some true
  i_NoFloor_NoKind:PySem.W.kitOne K ‹100› ‹110›=some false
  i_NoFloor_NoText:PySem.W.kitOne K ‹100› ‹109›=some false
  i_NoFloor_ValueError:PySem.W.kitOne K ‹100› (.type "ValueError")=some true
  kx_NoText:ExcK K a.c_NoText
  x_NoText_FloorError:PySem.W.exmOne K ‹109› (.ref a.c_FloorError)=some true
  i_NoText_NoRow:PySem.W.kitOne K ‹109› (.ref a.c_NoRow)=some false
  i_NoText_NoName:PySem.W.kitOne K ‹109› (.ref a.c_NoName)=some false
  i_NoText_NoRoom:PySem.W.kitOne K ‹109› (.ref a.c_NoRoom)=some false
  i_NoText_NoOrder:PySem.W.kitOne K ‹109› (.ref a.c_NoOrder)=some false
  i_NoText_NoFloor:PySem.W.kitOne K ‹109› ‹100›=some false
  i_NoText_NoKind:PySem.W.kitOne K ‹109› ‹110›=some false
  i_NoText_NoText:PySem.W.kitOne K ‹109› ‹109›=some true
  i_NoText_ValueError:PySem.W.kitOne K ‹109› (.type "ValueError")=some true
noncomputable section
theorem zp6 (x0 x1 x2:D):stD 3 [false,false,false] [x0,x1,x2]=[.bo x0,.bo x1,.bo x2]:=rfl
noncomputable def zgk:DS:=(sRet (zj4 (dEq false ‹31› ‹28›) (zd9 ‹29› ‹29› (dVar 1) (dIx (dVar 0) ‹37›) (dVar 2))))
@[irreducible] noncomputable def F_tells_one:List D→Option D:=runD 3 [false,false,false] zgk
theorem zhn:F_tells_one=runD 3 [false,false,false] zgk:=by unfold F_tells_one; rfl
theorem zoe (x0 x1:D):stD 2 [false,false] [x0,x1]=[.bo x0,.bo x1]:=rfl
noncomputable def zff:DS:=(sRet (dF1 allD (dLst (zdk 1 [1] (asL (dVar 0)) (gN false 0) zdc (dGe (dVar 0) (dVar 1))))))
@[irreducible] noncomputable def F_none_below:List D→Option D:=runD 2 [false,false] zff
theorem zgx:F_none_below=runD 2 [false,false] zff:=by unfold F_none_below; rfl
theorem zwm (x0 x1:D):stD 2 [false,false] [x0,x1]=[.bo x0,.bo x1]:=rfl
noncomputable def zl5:DS:=(sRet (dLst (zdk 2 [] (zvn (dVar 0) (dVar 1)) (gUn 2 (zmx (gN true 0) (zmx (gN true 1) z0j))) zdc (dOrV (dVar 0) (zbw 1)))))
@[irreducible] noncomputable def F_either:List D→Option D:=runD 2 [false,false] zl5
theorem zla:F_either=runD 2 [false,false] zl5:=by unfold F_either; rfl
def zem:DS:=(sSeq ‹141›
 (sSeq (sFor (asL (zpm 1)) (gUn 2 (zmx (gN false 3) (zmx (gN false 4) z0j)))
 (sSeq (sIf (dNot (dAnd (dT (zd9 ‹29› ‹133› ‹37› (dVar 3) (dVar 0))) (dT (zd9 ‹29› ‹133› ‹37› (dVar 4) (dVar 0)))))
      (zik [(dVar 3),(dVar 4)])
      zbq)
 (zu3 2 (dVar 3) (dVar 4) (dC (.bl true)))))
    sNo))
@[irreducible] def zea:List D→Option D:=runF 5 [false,false] zem
theorem zgu:zea=runF 5 [false,false] zem:=by unfold zea; rfl
theorem zjf (x0 x1:D):stD 5 [false,false] [x0,x1]=[.bo x0,.bo x1,.un,.un,.un]:=rfl
noncomputable def zfd:DS:=(sSeq ‹141›
 (sSeq (sFor (asL (zpm 1)) (gUn 2 (zmx (gN false 3) (zmx (gN false 4) z0j)))
 (sSeq (sIf (dNot (dAnd (dT (zd9 ‹29› ‹133› ‹37› (dVar 3) (dVar 0))) (dT (zd9 ‹29› ‹133› ‹37› (dVar 4) (dVar 0)))))
      sNo
      zbq)
 (zu3 2 (dVar 3) (dVar 4) (dC (.bl true)))))
    (zxb 2 (zxa 2))))
@[irreducible] noncomputable def F_told_order:List D→Option D:=runF 5 [false,false] zfd
theorem zgv:F_told_order=runF 5 [false,false] zfd:=by unfold F_told_order; rfl
def zgs:DS:=(sSeq (sXor (za4 zea (zai (dVar 0) (zai (dVar 1) dNil))) (zqs 2 (zn2 F_told_order (zai (dVar 0) (zai (dVar 1) dNil)))))
 (sSeq (sFor (dRg1 (dVar 0)) (gN true 3)
 (sFor (dRg1 (dVar 0)) (gN true 4)
 (sIf (dTru (dIx (dIx (dVar 2) (dVar 4)) (dVar 3)))
 ‹136›
      zbq)))
 (sSeq (sIf ‹112›
      (zik [])
      zbq)
    sNo)))
@[irreducible] def zfy:List D→Option D:=runF 5 [false,false] zgs
theorem ziu:zfy=runF 5 [false,false] zgs:=by unfold zfy; rfl
theorem zmb (x0 x1:D):stD 5 [false,false] [x0,x1]=[.bo x0,.bo x1,.un,.un,.un]:=rfl
noncomputable def zie:DS:=(sSeq (zqs 2 (zn2 F_told_order (zai (dVar 0) (zai (dVar 1) dNil))))
 (sSeq (sFor (dRg1 (dVar 0)) (gN true 3)
 (sFor (dRg1 (dVar 0)) (gN true 4)
 (sIf (dTru (dIx (dIx (dVar 2) (dVar 4)) (dVar 3)))
 ‹136›
      zbq)))
 (sSeq (sIf ‹112›
      sNo
      zbq)
 (sRet (dLst (zdk 1 [0] (asL (dVar 2)) (gN false 0) zdc (dLst (zdk 1 [0] (dRg1 (dVar 1)) (gN true 0) (dTru (dIx (dVar 1) (dVar 0))) (zbw 0)))))))))
@[irreducible] noncomputable def F_ahead_of:List D→Option D:=runD 5 [false,false] zie
theorem zix:F_ahead_of=runD 5 [false,false] zie:=by unfold F_ahead_of; rfl
def zgr:DS:=(sSeq (sSet 2 ‹28›)
 (sSeq (sSet 3 (zlf (dIx (dVar 0) (dVar 1))))
 (sSeq (zmm (dT (dEq true (dVar 3) (dNeg ‹28›)))
 (sSeq (sAug (fun x y=>x+y) 2 ‹28›)
 (sSeq (sIf (dT (dGt (dVar 2) ‹31›))
      (zik [(dVar 1)])
      zbq)
 (sSet 3 (zlf (dIx (dVar 0) (dVar 3)))))))
    sNo)))
@[irreducible] def zfx:List D→Option D:=runF 4 [false,false] zgr
theorem zit:zfx=runF 4 [false,false] zgr:=by unfold zfx; rfl
theorem zma (x0 x1:D):stD 4 [false,false] [x0,x1]=[.bo x0,.bo x1,.un,.un]:=rfl
noncomputable def zid:DS:=(sSeq (sSet 2 ‹28›)
 (sSeq (sSet 3 (zlf (dIx (dVar 0) (dVar 1))))
 (sSeq (zmm (dT (dEq true (dVar 3) (dNeg ‹28›)))
 (sSeq (sAug (fun x y=>x+y) 2 ‹28›)
 (sSeq (sIf (dT (dGt (dVar 2) ‹31›))
      sNo
      zbq)
 (sSet 3 (zlf (dIx (dVar 0) (dVar 3)))))))
 (sRet (zbw 2)))))
@[irreducible] noncomputable def F_level_of:List D→Option D:=runD 4 [false,false] zid
theorem ziw:F_level_of=runD 4 [false,false] zid:=by unfold F_level_of; rfl
def zkg:DS:=(sSeq (sFor (asL (zpm 0)) (gN false 1)
 (sIf (dNot (dT (zd9 ‹29› ‹133› (dNeg ‹28›) (dVar 1) ‹31›)))
      (zik [(dVar 1)])
      zbq))
    (sXC 1 [0] (dRg1 ‹31›) (gN true 0) (za4 F_level_of (zai (dVar 1) ‹46›)) (za4 zfx (zai (dVar 1) ‹46›))))
@[irreducible] def zj6:List D→Option D:=runF 2 [false] zkg
theorem zk4:zj6=runF 2 [false] zkg:=by unfold zj6; rfl
theorem zp7 (x0:D):stD 2 [false] [x0]=[.bo x0,.un]:=rfl
noncomputable def zl1:DS:=(sSeq (sFor (asL (zpm 0)) (gN false 1)
 (sIf (dNot (dT (zd9 ‹29› ‹133› (dNeg ‹28›) (dVar 1) ‹31›)))
      sNo
      zbq))
 (sRet (dLst (zdk 1 [0] (dRg1 ‹31›) (gN true 0) zdc (za4 F_level_of (zai (dVar 1) ‹46›))))))
@[irreducible] noncomputable def F_levels:List D→Option D:=runD 2 [false] zl1
theorem zk6:F_levels=runD 2 [false] zl1:=by unfold F_levels; rfl
theorem zoj (x0:D):stD 1 [false] [x0]=[.bo x0]:=rfl
noncomputable def zfk:DS:=(sRet (dC (.str "alike")))
@[irreducible] noncomputable def F_Alike_word:List D→Option D:=runD 1 [false] zfk
theorem zg2:F_Alike_word=runD 1 [false] zfk:=by unfold F_Alike_word; rfl
theorem zok (x0 x1:D):stD 2 [false,true] [x0,x1]=[.bo x0,.pu x1]:=rfl
noncomputable def zfl:DS:=(sSeq (sIf (dOr (dT (dEq true (dF1 lenD (dVar 1)) ‹92›)) (dNot (dTru (za4 F_tells_one (zai (dIx (dVar 1) ‹37›) (zai ‹28› (zai (dC (.int 20)) dNil)))))))
 ‹60›
      zbq)
 (sRet (zj4 (dLe (dF1 lenD (dIx (dVar 1) ‹28›)) (dC (.int 20))) (za4 F_none_below (zai (dIx (dVar 1) ‹28›) (zai ‹37› dNil))))))
@[irreducible] noncomputable def F_Alike_fits:List D→Option D:=runD 2 [false,true] zfl
theorem zg3:F_Alike_fits=runD 2 [false,true] zfl:=by unfold F_Alike_fits; rfl
theorem zqb (x0:D):stD 1 [false] [x0]=[.bo x0]:=rfl
noncomputable def zgp:DS:=(sRet (dC (.str "open")))
@[irreducible] noncomputable def F_Open_word:List D→Option D:=runD 1 [false] zgp
theorem zhs:F_Open_word=runD 1 [false] zgp:=by unfold F_Open_word; rfl
theorem zqc (x0 x1:D):stD 2 [false,true] [x0,x1]=[.bo x0,.pu x1]:=rfl
noncomputable def zgq:DS:=(sSeq (sIf (dT (dGt (dF1 lenD (dVar 1)) (dC (.int 6))))
 ‹60›
      zbq)
 (sRet (dF1 allD (dLst (zdk 1 [1] (asL (zbw 1)) (gN true 0) zdc (zj4 (dEq false ‹31› (dF1 lenD (dIx (dVar 1) ‹37›))) (zj4 (dLe ‹31› (dC (.int 6))) (za4 F_none_below (zai (dVar 0) (zai ‹37› dNil))))))))))
@[irreducible] noncomputable def F_Open_fits:List D→Option D:=runD 2 [false,true] zgq
theorem zht:F_Open_fits=runD 2 [false,true] zgq:=by unfold F_Open_fits; rfl
theorem zof (x0:D):stD 1 [false] [x0]=[.bo x0]:=rfl
noncomputable def zfg:DS:=(sRet (dC (.str "tails")))
@[irreducible] noncomputable def F_Tails_word:List D→Option D:=runD 1 [false] zfg
theorem zgy:F_Tails_word=runD 1 [false] zfg:=by unfold F_Tails_word; rfl
theorem zog (x0 x1:D):stD 2 [false,true] [x0,x1]=[.bo x0,.pu x1]:=rfl
noncomputable def zfh:DS:=(sRet (zj4 (dLe (dF1 lenD (dVar 1)) (dC (.int 12))) (dF1 allD (dLst (zdk 1 [] (asL (zbw 1)) (gN true 0) zdc (zj4 (dEq false ‹31› ‹91›) (zj4 (za4 F_none_below (zai (dVar 0) (zai ‹37› dNil))) (dGe (dIx (dVar 0) ‹28›) ‹28›))))))))
@[irreducible] noncomputable def F_Tails_fits:List D→Option D:=runD 2 [false,true] zfh
theorem zgz:F_Tails_fits=runD 2 [false,true] zfh:=by unfold F_Tails_fits; rfl
theorem zmc (x0:D):stD 1 [false] [x0]=[.bo x0]:=rfl
noncomputable def zd3:DS:=(sRet (dC (.str "windows")))
@[irreducible] noncomputable def F_Windows_word:List D→Option D:=runD 1 [false] zd3
theorem zfb:F_Windows_word=runD 1 [false] zd3:=by unfold F_Windows_word; rfl
theorem zmd (x0 x1:D):stD 2 [false,true] [x0,x1]=[.bo x0,.pu x1]:=rfl
noncomputable def zd4:DS:=(sSeq (sIf (dOr (dNot (dT (zd9 ‹29› ‹29› ‹28› (dF1 lenD (dVar 1)) (dC (.int 9))))) (dNot (dTru (za4 F_tells_one (zai (dIx (dVar 1) ‹37›) (zai ‹28› (zai (dC (.int 8)) dNil)))))))
 ‹60›
      zbq)
 (sRet (dF1 allD (dLst (zdk 1 [] (asL (dLst (dSl (zbw 1) (zdw ‹28›) zd8))) (gN true 0) zdc (zj4 (dEq false ‹31› ‹91›) (zj4 (za4 F_none_below (zai (dVar 0) (zai ‹37› dNil))) (dLe (dIx (dVar 0) ‹37›) (dIx (dVar 0) ‹28›)))))))))
@[irreducible] noncomputable def F_Windows_fits:List D→Option D:=runD 2 [false,true] zd4
theorem zfc:F_Windows_fits=runD 2 [false,true] zd4:=by unfold F_Windows_fits; rfl
theorem zp9 (x0:D):stD 1 [false] [x0]=[.bo x0]:=rfl
noncomputable def zgn:DS:=(sRet (dC (.str "tree")))
@[irreducible] noncomputable def F_Tree_word:List D→Option D:=runD 1 [false] zgn
theorem zhq:F_Tree_word=runD 1 [false] zgn:=by unfold F_Tree_word; rfl
theorem zqa (x0 x1:D):stD 2 [false,true] [x0,x1]=[.bo x0,.pu x1]:=rfl
local macro_rules | `(tactic| walk_at "sd")=>`(tactic| first | assumption | omega | decide | (simp only [List.length_map,List.length_cons,List.length_nil]; omega) | ((with_reducible apply And.intro) <;> walk_at "sd"))
local macro_rules | `(tactic| walk_at "fn")=>`(tactic| assumption)
local macro_rules | `(tactic| walk_at "ix")=>`(tactic| first | exact ixS (by omega) (by omega) | exact ixI (by omega) (by omega) | exact ix2I _ _ _ | exact ix3I _ _ _ _ | exact ix4I _ _ _ _ _ | rfl)
local macro_rules | `(tactic| walk_at "ev")=>`(tactic| first
  | ((with_reducible first | apply zgt | apply ev_sub | apply ev_lt | apply ev_le | apply ev_gt | apply z0q | apply zs0 | apply zi8 | apply ev_cons | apply ev_eqF | apply znz); (· walk_at "ev"); (· walk_at "ev"))
  | ((with_reducible first | apply zjz | apply ev_t | apply ev_not | apply zm1 | apply ev_lst | apply zyx | apply ev_oSome); (· walk_at "ev"))
  | ((with_reducible first | apply zb6 | apply zgf | apply ev_f1 | apply ev_asL | apply ev_lof); (· walk_at "ev"); (· rfl))
  | ((with_reducible first | apply ev_and | apply ev_or | apply zeg | apply zud); (· walk_at "ev"); (· intro _; walk_at "ev"))
  | ((with_reducible first | show dVar _ _=_ | show zbw _ _=_ | show zpm _ _=_ | show dC _ _=_ | show dNil _=_ | show zd8 _=_ | show zdc _=_); rfl)
  | ((with_reducible apply ev_ix); (· walk_at "ev"); (· walk_at "ev"); (· walk_at "ix"))
  | ((with_reducible apply ev_call); (· walk_at "ev"); (· walk_at "fn"))
  | ((with_reducible first | apply ev_chain | apply zsz); (· walk_at "ev"); (· walk_at "ev"); (· walk_at "ev"))
  | ((with_reducible apply zir); (· walk_at "ev"); (· walk_at "ev"); (· first | assumption | (apply imul; omega)))
  | ((with_reducible apply zm2); (· walk_at "ev"); (· walk_at "ev"); (· first | exact fdok (by omega) (by omega) | walk_at "sd"))
  | ((with_reducible first | apply ev_mod | apply ev_rg2); (· walk_at "ev"); (· walk_at "ev"); (· walk_at "sd"))
  | ((with_reducible apply ev_rg1); (· walk_at "ev"); (· walk_at "sd"))
  | ((with_reducible apply zyy); (· walk_at "ev"); (· walk_at "ev"); (· simp only [List.length_cons,List.length_nil]; walk_at "sd")))
local macro_rules | `(tactic| walk_at "st")=>`(tactic| dsimp only [List.set_cons_succ,List.set_cons_zero])
local macro_rules | `(tactic| walk_at "go")=>`(tactic| ((try dsimp only); walk_at "go1"))
local macro_rules | `(tactic| walk_at "go1")=>`(tactic| first
  | ((with_reducible apply wp_seq); walk_at "go")
  | ((with_reducible apply wp_frz); dsimp only [frz,List.getD_cons_succ,List.getD_cons_zero,List.set_cons_succ,List.set_cons_zero]; walk_at "go")
  | ((with_reducible apply zba); (· walk_at "ev"); walk_at "st"; walk_at "go")
  | ((with_reducible apply zkh); (· walk_at "ev"); (· simp only [List.length_cons,List.length_nil]; omega); walk_at "st"; walk_at "go")
  | ((with_reducible apply wp_aug); (· rfl); (· walk_at "ev"); walk_at "st"; walk_at "go")
  | ((with_reducible apply zat); (try dsimp only); walk_at "go")
  | skip)
theorem zpc {p:List Int} {k:Nat} (hk:k<p.length):p.getD k 0∈p:=by rw [List.getD_eq_getElem?_getD,List.getElem?_eq_getElem hk]; exact List.getElem_mem hk
namespace Tr
theorem log_small {x:Int} (h:x.natAbs<10 ^ 70):x.natAbs.log2<1920:=by
  by_cases h0:x.natAbs=0
  · rw [h0]; decide
  · exact (Nat.log2_lt h0).mpr (Nat.lt_trans h ‹3›)
abbrev intsD (cs:List Int):D:=.lst (cs.map D.int)
theorem lenI (r:List Int):lenD (intsD r)=some (.int r.length):=by show some (D.int ((r.map D.int).length:Nat))=_; rw [List.length_map]
def up (cs:List Int):Nat→Int→Int
  | 0,w=>w
  | k+1,w=>if up cs k w=-1 then -1 else cs.getD (up cs k w).toNat 0
theorem up_succ {cs:List Int} {k:Nat} {w:Int} (h:up cs k w≠-1):up cs (k+1) w=cs.getD (up cs k w).toNat 0:=by
  show (if up cs k w=-1 then -1 else cs.getD (up cs k w).toNat 0)=_
  rw [if_neg h]
theorem zv6 {cs:List Int} {w:Int} {k:Nat} (h:up cs k w=-1):∀ {j:Nat},k≤j→up cs j w=-1:=by
  intro j hj
  induction j with
  | zero => have:k=0:=by omega
            rw [this] at h; exact h
  | succ j ih =>
    by_cases e:k=j+1
    · rw [← e]; exact h
    · show (if up cs j w=-1 then -1 else cs.getD (up cs j w).toNat 0)=-1
      rw [if_pos (ih (by omega))]
def In (cs:List Int):Prop:=∀ v∈cs,-1≤v∧v<(cs.length:Int)
theorem up_in {cs:List Int} (h:In cs) {w:Int} (hw:0≤w∧w<(cs.length:Int)):∀ k,-1≤up cs k w∧up cs k w<(cs.length:Int)
  | 0=>by show -1≤w∧w < _; omega
  | k+1=>by
    have ih:=up_in h hw k
    by_cases e:up cs k w=-1
    · rw [zv6 e (by omega)]; omega
    · rw [up_succ e]
      exact h _ (zpc (by omega))
theorem zrj {cs:List Int} (h:In cs) {w:Int} (hw:0≤w∧w<(cs.length:Int)) {e:Nat} (he:e<cs.length) (hn:up cs (e+1) w=-1):∃ d,F_level_of [intsD cs,.int w]=some d:=by
  obtain ⟨d,e1,_⟩:=zkm ziw (ds:=[intsD cs,.int w]) (P:=fun _=>True) (by
    rw [zma]
    unfold zid
    refine wp_seq (zba rfl ?_)
    walk_at "st"
    refine wp_seq (zba (zgf ‹80› rfl) ?_)
    walk_at "st"
    have u0:up cs 0 w=w:=rfl
    refine wp_seq (ztg (fun m ρ=>∃ i:Nat,m=cs.length-i∧i<cs.length∧up cs i w≠-1∧ρ=[.bo (intsD cs),.bo (.int w),.pu (.int (1+i)),.pu (.int (up cs (i+1) w))]) cs.length ⟨0,rfl,by omega,by rw [u0]; omega,by rw [up_succ (by rw [u0]; omega),u0]; rfl⟩ ?_)
    rintro m ρ ⟨i,rfl,hi,hu,rfl⟩
    refine ⟨_,ev_t (znz rfl (zjz rfl)),fun c=>?_,fun c=>?_⟩
    · have c:=of_decide_eq_true c
      have hie:i<e:=by
        refine Decidable.byContradiction fun z=>c (zv6 hn (by omega))
      refine wp_seq (wp_aug rfl rfl ?_)
      walk_at "st"
      refine wp_seq (zde (ev_t (ev_gt rfl (ev_f1 rfl (lenI cs)))) (fun c2=>?_) fun _=>zat ?_)
      · have c2:(cs.length:Int)<1+i+1:=c2
        omega
      · have hr:=up_in h hw (i+1)
        refine zba (zgf ‹80› rfl) ?_
        walk_at "st"
        refine ⟨cs.length-(i+1),by omega,i+1,rfl,by omega,c,?_⟩
        rw [up_succ c]
        have e2:(1:Int)+((i+1:Nat):Int)=1+i+1:=by omega
        rw [e2]
    · exact wp_ret rfl trivial)
  exact ⟨d,e1⟩
theorem level_ofX {cs:List Int} (h:In cs) (hl:cs.length≤1000) {w:Int} (hw:0≤w∧w<(cs.length:Int)) (hn:∀ k,k≤cs.length→up cs k w≠-1):∃ d,zfx [intsD cs,.int w]=some d:=by
  obtain ⟨d,e1,_⟩:=zo2 zit (ds:=[intsD cs,.int w]) (P:=fun _=>True) (by
    rw [zma]
    unfold zgr
    refine wp_seq (zba rfl ?_)
    walk_at "st"
    refine wp_seq (zba (zgf ‹80› rfl) ?_)
    walk_at "st"
    have u0:up cs 0 w=w:=rfl
    refine wp_seq (ztg (fun m ρ=>∃ i:Nat,m=cs.length-i∧i<cs.length∧ρ=[.bo (intsD cs),.bo (.int w),.pu (.int (1+i)),.pu (.int (up cs (i+1) w))]) cs.length ⟨0,rfl,by omega,by rw [up_succ (by rw [u0]; omega),u0]; rfl⟩ ?_)
    rintro m ρ ⟨i,rfl,hi,rfl⟩
    have hne:=hn (i+1) (by omega)
    refine ⟨true,?_,fun c=>?_,fun c=>by cases c⟩
    · rw [ev_t (znz rfl (zjz rfl)),decide_eq_true hne]
    · refine wp_seq (wp_aug rfl rfl ?_)
      walk_at "st"
      refine wp_seq (zde (ev_t (ev_gt rfl (ev_f1 rfl (lenI cs)))) (fun c2=>?_) fun c2=>zat ?_)
      · exact wp_raise (fmt_cons rfl (log_small (by have:w.natAbs<1000:=by omega
                                                    exact Nat.lt_trans this ‹3›)) zyt) trivial
      · have c2:¬ (cs.length:Int)<1+i+1:=c2
        have hr:=up_in h hw (i+1)
        refine zba (zgf ‹80› rfl) ?_
        walk_at "st"
        refine ⟨cs.length-(i+1),by omega,i+1,rfl,by omega,?_⟩
        rw [up_succ hne]
        have e2:(1:Int)+((i+1:Nat):Int)=1+i+1:=by omega
        rw [e2])
  exact ⟨d,e1⟩
structure Ref (cs:List Int):Prop where
  big:cs.length≤40
  wr:∀ v∈cs,v.natAbs<10 ^ 70
  why:¬ In cs∨(In cs∧∃ w:Int,(0≤w∧w<(cs.length:Int))∧∀ k,k≤cs.length→up cs k w≠-1)
theorem x_levels {cs:List Int} (h:Ref cs):∃ d,zj6 [intsD cs]=some d:=by
  have hline:sizeLine=16777216:=sizeLine_eq
  have hb:=h.big
  obtain ⟨d,e,_⟩:=zo2 zk4 (ds:=[intsD cs]) (P:=fun _=>True) (by
    rw [zp7]
    unfold zkg
    refine wp_seq (wp_for (ev_asL (d:=intsD cs) rfl rfl) (fun j ρ=>(∀ v∈cs.take j,-1≤v∧v<(cs.length:Int))∧∃ v1,ρ=[.bo (intsD cs),v1]) ⟨(fun _ z=>by cases z),_,rfl⟩ ?_ ?_)
    · rintro j d ρ hd ⟨hj,v1,rfl⟩
      rw [List.getElem?_map] at hd
      cases er:cs[j]? with
      | none=>rw [er] at hd; cases hd
      | some v =>
        rw [er] at hd
        cases hd
        refine ⟨_,rfl,?_⟩
        dsimp only [gN,slm,List.set_cons_succ,List.set_cons_zero]
        have key:dT (zd9 ‹29› ‹133› (dNeg ‹28›) (dVar 1) ‹31›) [.bo (intsD cs),.bo (.int v)]=some (decide (-1≤v∧v<(cs.length:Int))):=by
          refine ev_t ?_
          rw [ev_chain (i:=-1) (j:=v) (k:=(cs.length:Int)) (zjz rfl) rfl (ev_f1 rfl (lenI cs))]
          congr 2
          rw [Bool.eq_iff_iff]
          simp
        refine zn6 (ev_not key) (fun c=>?_) fun c=>zat ⟨fun x hx=>?_,_,rfl⟩
        · exact wp_raise (fmt_cons rfl (log_small (h.wr v (List.mem_of_getElem? er))) zyt) trivial
        · rw [List.take_succ,er] at hx
          rcases List.mem_append.mp hx with hx | hx
          · exact hj x hx
          · cases List.mem_singleton.mp hx
            rw [Bool.not_eq_false'] at c
            exact of_decide_eq_true c
    · rintro ρ ⟨hj,v1,rfl⟩
      rw [List.length_map,List.take_length] at hj
      have hin:In cs:=hj
      rcases h.why with hx | ⟨_,w,hw,hx⟩
      · exact absurd hin hx
      · have er:dRg1 ‹31› [.bo (intsD cs),v1]=some ((List.range cs.length).map fun (k:Nat)=>D.int (k:Int)):=by
          rw [ev_rg1 (ev_f1 rfl (lenI cs)) (by omega)]
          unfold upL
          rw [Int.toNat_natCast]
          refine congrArg some (List.map_congr_left fun k _=>?_)
          rw [Int.zero_add]
        refine zn5 er (zjn (fun (k:Nat)=>D.int (k:Int)) (fun k hk=>⟨_,rfl,?_⟩) ⟨w.toNat,List.mem_range.mpr (by omega),fun ρ1 e1=>?_⟩) trivial
        · have hk:=List.mem_range.mp hk
          have hw':(0:Int)≤(k:Int)∧(k:Int)<(cs.length:Int):=by omega
          by_cases he:∃ e,e<cs.length∧up cs (e+1) (k:Int)=-1
          · obtain ⟨e,he,hu⟩:=he
            obtain ⟨d,e2⟩:=zrj hin hw' he hu
            exact .inr ⟨d,ev_call ‹4› e2⟩
          · obtain ⟨d,e2⟩:=level_ofX hin (by omega) hw' fun j hj z=>by
              cases j with
              | zero => have z:(k:Int)=-1:=z
                        omega
              | succ j=>exact he ⟨j,by omega,z⟩
            exact .inl ⟨d,ev_call ‹4› e2⟩
        · cases e1
          have ew:((w.toNat:Nat):Int)=w:=by omega
          obtain ⟨d,e2⟩:=level_ofX hin (by omega) hw fun j hj=>hx j hj
          refine ⟨d,ev_call ‹4› ?_⟩
          rw [ew]
          exact e2)
  exact ⟨d,e⟩
structure Ok (cs:List Int):Prop where
  big:cs.length≤40
  inn:In cs
  up:∀ w:Int,0≤w∧w<(cs.length:Int)→up cs cs.length w=-1
theorem levelsF {cs:List Int} (h:Ok cs):∃ d,F_levels [intsD cs]=some d:=by
  have hb:=h.big
  have hline:sizeLine=16777216:=sizeLine_eq
  obtain ⟨d,e,_⟩:=zkm zk6 (ds:=[intsD cs]) (P:=fun _=>True) (by
    rw [zp7]
    unfold zl1
    refine wp_seq (wp_for (ev_asL (d:=intsD cs) rfl rfl) (fun j ρ=>∃ v1,ρ=[.bo (intsD cs),v1]) ⟨_,rfl⟩ ?_ ?_)
    · rintro j d ρ hd ⟨v1,rfl⟩
      rw [List.getElem?_map] at hd
      obtain ⟨v,er,rfl⟩:=Option.map_eq_some_iff.mp hd
      refine ⟨_,rfl,?_⟩
      dsimp only [gN,slm,List.set_cons_succ,List.set_cons_zero]
      have hv:=h.inn v (List.mem_of_getElem? er)
      refine zcd (ev_not (x:=true) (ev_t ?_)) (zat ⟨_,rfl⟩)
      rw [ev_chain (i:=-1) (j:=v) (k:=(cs.length:Int)) (zjz rfl) rfl (ev_f1 rfl (lenI cs))]
      congr 2
      simp [hv.1,hv.2]
    · rintro ρ ⟨v1,rfl⟩
      have er:dRg1 ‹31› [.bo (intsD cs),v1]=some ((List.range cs.length).map fun (k:Nat)=>D.int (k:Int)):=by
        rw [ev_rg1 (ev_f1 rfl (lenI cs)) (by omega)]
        unfold upL
        rw [Int.toNat_natCast]
        refine congrArg some (List.map_congr_left fun k _=>?_)
        rw [Int.zero_add]
      have all:∀ k:Nat,k<cs.length→∃ d,F_level_of [intsD cs,.int (k:Int)]=some d:=fun k hk=>by
        have hu:=h.up (k:Int) (by omega)
        exact zrj h.inn (by omega) (e:=cs.length-1) (by omega) (by rw [show cs.length-1+1=cs.length by omega]; exact hu)
      obtain ⟨f,hf⟩:∃ f:Nat→D,∀ k:Nat,k<cs.length→F_level_of [intsD cs,.int (k:Int)]=some (f k):=by
        refine ⟨fun k=>if h:k<cs.length then (all k h).choose else .non,fun k h=>?_⟩
        dsimp only
        rw [dif_pos h]
        exact (all k h).choose_spec
      exact wp_ret (ev_lst (ev_compA0 (fun k:Nat=>D.int (k:Int)) er f fun k hk=>⟨_,rfl,ev_call ‹4› (hf k (List.mem_range.mp hk))⟩)) trivial)
  exact ⟨d,e⟩
theorem ok_or {cs:List Int} (hb:cs.length≤40) (hw:∀ v∈cs,v.natAbs<10 ^ 70):Ok cs∨Ref cs:=by
  by_cases h:In cs
  · by_cases hu:∀ w:Int,0≤w∧w<(cs.length:Int)→up cs cs.length w=-1
    · exact .inl ⟨hb,h,hu⟩
    · obtain ⟨w,hu⟩:=Classical.not_forall.mp hu
      obtain ⟨hr,hu⟩:=Classical.not_imp.mp hu
      exact .inr ⟨hb,hw,.inr ⟨h,w,hr,fun k hk z=>hu (zv6 z hk)⟩⟩
  · exact .inr ⟨hb,hw,.inl h⟩
theorem ints_inj {a b:List Int} (h:[intsD a]=[intsD b]):a=b:=by
  have h:a.map D.int=b.map D.int:=by injection h with h _; injection h
  exact (List.map_inj_right (fun x y e=>by injection e)).mp h
end Tr
open Classical in
noncomputable def gLv (ds:List D):Option Bool:=if ∃ cs,ds=[Tr.intsD cs]∧Tr.Ok cs then some true else if ∃ cs,ds=[Tr.intsD cs]∧Tr.Ref cs then some false else none
theorem gLvN (ds:List D) (h:gLv ds=some true):∃ d,F_levels ds=some d:=by
  unfold gLv at h
  split at h
  · rename_i c
    obtain ⟨cs,rfl,k⟩:=c
    exact Tr.levelsF k
  · split at h <;> cases h
theorem gLvX (ds:List D) (h:gLv ds=some false):∃ d,zj6 ds=some d:=by
  unfold gLv at h
  split at h
  · cases h
  · split at h
    · rename_i c
      obtain ⟨cs,rfl,k⟩:=c
      exact Tr.x_levels k
    · cases h
open Classical in
theorem z5x {cs:List Int} (hb:cs.length≤40) (hw:∀ v∈cs,v.natAbs<10 ^ 70):gLv [Tr.intsD cs]=some (decide (Tr.Ok cs)):=by
  unfold gLv
  by_cases h:Tr.Ok cs
  · rw [if_pos ⟨cs,rfl,h⟩,decide_eq_true h]
  · rw [if_neg (fun ⟨c,e,k⟩=>h (Tr.ints_inj e ▸ k)),if_pos ⟨cs,rfl,(Tr.ok_or hb hw).resolve_left h⟩,decide_eq_false h]
noncomputable def zgo:DS:=(sSeq (sIf (dOr (dT (dEq true (dF1 lenD (dVar 1)) ‹92›)) (dOr (dNot (dTru (za4 F_tells_one (zai (dIx (dVar 1) ‹37›) (zai ‹28› (zai (dC (.int 20)) dNil)))))) (dT (dGt (dF1 lenD (dIx (dVar 1) ‹28›)) (dC (.int 40))))))
 ‹60›
      zbq)
 (sSeq (zqr gLv (zai (dIx (dVar 1) ‹28›) dNil))
 (sRet (dC (.bl true)))))
@[irreducible] noncomputable def F_Tree_fits:List D→Option D:=runD 2 [false,true] zgo
theorem zhr:F_Tree_fits=runD 2 [false,true] zgo:=by unfold F_Tree_fits; rfl
theorem zoh (x0:D):stD 1 [false] [x0]=[.bo x0]:=rfl
noncomputable def zfi:DS:=(sRet (dC (.str "pairs")))
@[irreducible] noncomputable def F_Pairs_word:List D→Option D:=runD 1 [false] zfi
theorem zg0:F_Pairs_word=runD 1 [false] zfi:=by unfold F_Pairs_word; rfl
theorem zoi (x0 x1:D):stD 2 [false,true] [x0,x1]=[.bo x0,.pu x1]:=rfl
abbrev Mat:=List (List Bool)
def rowB (r:List Bool):List D:=r.map D.bl
def rowsB (M:Mat):List (List D):=M.map rowB
def rowsV (M:Mat):List D:=(rowsB M).map D.lst
def at2 (M:Mat) (a b:Nat):Bool:=(M.getD a []).getD b false
structure Sq (M:Mat) (n:Nat):Prop where
  len:M.length=n
  row:∀ r∈M,r.length=n
def putT (M:Mat) (a b:Nat):Mat:=M.set a ((M.getD a []).set b true)
def zsp (x y:List Bool):List Bool:=List.zipWith (fun p q=>p || q) x y
def stepW (c:Nat) (M:Mat) (a:Nat):Mat:=if at2 M a c=true then M.set a (zsp (M.getD a []) (M.getD c [])) else M
def zer (n:Nat) (M:Mat) (c:Nat):Mat:=‹108›.foldl (stepW c) M
def z6a (n:Nat) (M:Mat):Mat:=‹108›.foldl (zer n) M
def zvd (n:Nat):Mat:=List.replicate n (List.replicate n false)
def needW (n:Nat) (ps:List (Nat×Nat)):Mat:=ps.foldl (fun M p=>putT M p.1 p.2) (zvd n)
theorem Sq.mem {M:Mat} {n a:Nat} (h:Sq M n) (ha:a<n):M.getD a []∈M:=by
  rw [List.getD_eq_getElem?_getD,List.getElem?_eq_getElem (by rw [h.len]; exact ha)]
  exact List.getElem_mem _
theorem Sq.rl {M:Mat} {n a:Nat} (h:Sq M n) (ha:a<n):(M.getD a []).length=n:=h.row _ (h.mem ha)
theorem Sq.set {M:Mat} {n a:Nat} {r:List Bool} (h:Sq M n) (hr:r.length=n):Sq (M.set a r) n:=by
  refine ⟨by rw [List.length_set]; exact h.len,fun x hx=>?_⟩
  rcases List.mem_or_eq_of_mem_set hx with hx | rfl
  · exact h.row x hx
  · exact hr
theorem Sq.get {M:Mat} {n a:Nat} (h:Sq M n) (ha:a<n):M[a]?=some (M.getD a []):=by
  have:=h.len
  rw [List.getD_eq_getElem?_getD,List.getElem?_eq_getElem (by omega)]
  rfl
theorem z49 {x y:List Bool} {n:Nat} (hx:x.length=n) (hy:y.length=n):(zsp x y).length=n:=by
  unfold zsp; rw [List.length_zipWith,hx,hy,Nat.min_self]
theorem z5a {x y:List Bool} {n b:Nat} (hx:x.length=n) (hy:y.length=n):(zsp x y).getD b false=(x.getD b false || y.getD b false):=by
  unfold zsp
  rw [List.getD_eq_getElem?_getD,List.getElem?_zipWith,List.getD_eq_getElem?_getD,List.getD_eq_getElem?_getD]
  by_cases hb:b<n
  · rw [List.getElem?_eq_getElem (by omega),List.getElem?_eq_getElem (by omega)]
    rfl
  · rw [List.getElem?_eq_none (by omega),List.getElem?_eq_none (by omega)]
    rfl
theorem Sq.stepW {M:Mat} {n c a:Nat} (h:Sq M n) (hc:c<n) (ha:a<n):Sq (stepW c M a) n:=by
  unfold My.stepW
  split
  · exact h.set (z49 (h.rl ha) (h.rl hc))
  · exact h
theorem Sq.foldl {f:Mat→Nat→Mat} {n:Nat} (hf:∀ M a,a<n→Sq M n→Sq (f M a) n) {M:Mat} (h:Sq M n):∀ j,j≤n→Sq ((List.range j).foldl f M) n
  | 0,_=>h
  | j+1,hj=>by
    rw [List.range_succ,List.foldl_append]
    exact hf _ j (by omega) (Sq.foldl hf h j (by omega))
theorem Sq.inner {M:Mat} {n c:Nat} (h:Sq M n) (hc:c<n) {j:Nat} (hj:j≤n):Sq ((List.range j).foldl (My.stepW c) M) n:=Sq.foldl (fun M a ha h=>h.stepW hc ha) h j hj
theorem Sq.close {M:Mat} {n:Nat} (h:Sq M n) {j:Nat} (hj:j≤n):Sq ‹126› n:=Sq.foldl (fun M a ha h=>h.inner ha ‹34›) h j hj
theorem zds {α:Type} (f:α→Nat→α) (x:α) (j:Nat):(List.range (j+1)).foldl f x=f ((List.range j).foldl f x) j:=by rw [List.range_succ,List.foldl_append]; rfl
theorem Sq.none (n:Nat):Sq (zvd n) n:=⟨List.length_replicate ..,fun r hr=>by rw [List.eq_of_mem_replicate hr,List.length_replicate]⟩
theorem Sq.putT {M:Mat} {n a b:Nat} (h:Sq M n) (ha:a<n):Sq (My.putT M a b) n:=h.set (by rw [List.length_set]; exact h.rl ha)
theorem Sq.need {n:Nat} {ps:List (Nat×Nat)} (h:∀ p∈ps,p.1<n):Sq (needW n ps) n:=by
  unfold needW
  have key:∀ (ps:List (Nat×Nat)) (M:Mat),(∀ p∈ps,p.1<n)→Sq M n→Sq (ps.foldl (fun M p=>My.putT M p.1 p.2) M) n:=by
    intro ps
    induction ps with
    | nil=>exact fun M _ h=>h
    | cons p r ih=>exact fun M hp h=>ih _ (fun q hq=>hp q (List.mem_cons_of_mem _ hq)) (h.putT (hp p List.mem_cons_self))
  exact key ps _ h (Sq.none n)
theorem z14 {M:Mat} {n a:Nat} {r:List Bool} (h:Sq M n) (ha:a<n) (x y:Nat):at2 (M.set a r) x y=if x=a then r.getD y false else at2 M x y:=by
  unfold at2
  have:=h.len
  rw [List.getD_eq_getElem?_getD (l:=M.set a r),List.getElem?_set]
  by_cases c:a=x
  · subst c
    rw [if_pos rfl,if_pos (by omega),if_pos rfl]
    rfl
  · rw [if_neg c,if_neg (Ne.symm c),List.getD_eq_getElem?_getD (l:=M)]
theorem zzc {M:Mat} {n c a:Nat} (h:Sq M n) (hc:c<n) (ha:a<n) (x y:Nat):at2 (stepW c M a) x y=(at2 M x y || (decide (x=a)&&at2 M a c&&at2 M c y)):=by
  unfold My.stepW
  split
  · rename_i e
    rw [z14 h ha,e]
    split
    · rename_i q
      subst q
      rw [z5a (h.rl ha) (h.rl hc),decide_eq_true rfl]
      rfl
    · rename_i q
      rw [decide_eq_false q]; simp
  · rename_i e
    rw [Bool.not_eq_true] at e
    rw [e]; simp
theorem z15 {M:Mat} {n a b:Nat} (h:Sq M n) (ha:a<n) (hb:b<n) (x y:Nat):at2 (putT M a b) x y=(at2 M x y || (decide (x=a)&&decide (y=b))):=by
  unfold My.putT
  rw [z14 h ha]
  split
  · rename_i q
    subst q
    rw [List.getD_eq_getElem?_getD,List.getElem?_set,decide_eq_true rfl]
    by_cases c:b=y
    · subst c
      rw [if_pos rfl,if_pos (by rw [h.rl ha]; exact hb)]
      simp
    · rw [if_neg c,decide_eq_false (Ne.symm c),← List.getD_eq_getElem?_getD]
      simp
      rfl
  · rename_i q
    rw [decide_eq_false q]; simp
theorem zzd (n x y:Nat):at2 (zvd n) x y=false:=by
  unfold at2 zvd
  rw [List.getD_eq_getElem?_getD (l:=List.replicate n (List.replicate n false)),List.getElem?_replicate]
  split
  · show (List.replicate n false).getD y false=false
    rw [List.getD_eq_getElem?_getD,List.getElem?_replicate]
    split <;> rfl
  · rfl
def Up (rk:Nat→Nat) (M:Mat):Prop:=∀ a b,at2 M a b=true→rk a<rk b
theorem Up.step {rk:Nat→Nat} {M:Mat} {n c a:Nat} (h:Sq M n) (hc:c<n) (ha:a<n) (u:Up rk M):Up rk (stepW c M a):=fun x y e=>by
  rw [zzc h hc ha,Bool.or_eq_true] at e
  rcases e with e | e
  · exact u x y e
  · rw [Bool.and_eq_true,Bool.and_eq_true] at e
    have:=of_decide_eq_true e.1.1
    subst this
    exact Nat.lt_trans (u _ _ e.1.2) (u _ _ e.2)
theorem Up.inner {rk:Nat→Nat} {M:Mat} {n c:Nat} (h:Sq M n) (hc:c<n) (u:Up rk M):∀ j,j≤n→Up rk ‹153›
  | 0,_=>u
  | j+1,hj=>by rw [zds]; exact (Up.inner h hc u j (by omega)).step (h.inner hc (by omega)) hc (by omega)
theorem Up.close {rk:Nat→Nat} {M:Mat} {n:Nat} (h:Sq M n) (u:Up rk M):∀ j,j≤n→Up rk ‹126›
  | 0,_=>u
  | j+1,hj=>by rw [zds]; exact Up.inner (h.close (by omega)) (by omega) (Up.close h u j (by omega)) n ‹34›
theorem Up.need {rk:Nat→Nat} {n:Nat} {ps:List (Nat×Nat)} (hp:∀ p∈ps,p.1<n∧p.2<n∧rk p.1<rk p.2):Up rk (needW n ps):=by
  unfold needW
  have key:∀ (ps:List (Nat×Nat)) (M:Mat),(∀ p∈ps,p.1<n∧p.2<n∧rk p.1<rk p.2)→Sq M n→Up rk M→Up rk (ps.foldl (fun M p=>putT M p.1 p.2) M):=by
    intro ps
    induction ps with
    | nil=>exact fun M _ _ h=>h
    | cons p r ih =>
      intro M hp h u
      have q:=hp p List.mem_cons_self
      refine ih _ (fun q hq=>hp q (List.mem_cons_of_mem _ hq)) (h.putT q.1) fun x y e=>?_
      rw [z15 h q.1 q.2.1,Bool.or_eq_true] at e
      rcases e with e | e
      · exact u x y e
      · rw [Bool.and_eq_true] at e
        rw [of_decide_eq_true e.1,of_decide_eq_true e.2]
        exact q.2.2
  exact key ps _ hp (Sq.none n) fun a b e=>by rw [zzd] at e; cases e
theorem ixL {xs:List D} {a:Nat} {d:D} (h:xs[a]?=some d):ixD (.lst xs) (a:Int)=some d:=by
  have hl:=(List.getElem?_eq_some_iff.mp h).1
  show atI xs (a:Int)=some d
  unfold atI
  rw [zrm (by omega) (by omega)]
  simpa using h
theorem ixNn {n a:Nat} (h:a<n):ixN n (a:Int)=some a:=by rw [zrm (by omega) (by omega)]; simp
theorem rowsV_get {M:Mat} {n a:Nat} (h:Sq M n) (ha:a<n):(rowsV M)[a]?=some (.lst (rowB (M.getD a []))):=by
  unfold rowsV rowsB
  rw [List.getElem?_map,List.getElem?_map,h.get ha]
  rfl
theorem ztv {r:List Bool} {b:Nat} (hb:b<r.length):(rowB r)[b]?=some (.bl (r.getD b false)):=by
  unfold rowB
  rw [List.getElem?_map,List.getD_eq_getElem?_getD,List.getElem?_eq_getElem hb]
  rfl
theorem rowsB_set (M:Mat) (a:Nat) (r:List Bool):(rowsB M).set a (rowB r)=rowsB (M.set a r):=by unfold rowsB; rw [List.map_set]
theorem zqu (M:Mat) (a:Nat) (r:List Bool):(rowsV M).set a (.lst (rowB r))=rowsV (M.set a r):=by unfold rowsV; rw [← rowsB_set,List.map_set]
theorem rowB_set (r:List Bool) (b:Nat):(rowB r).set b (.bl true)=rowB (r.set b true):=by unfold rowB; rw [List.map_set]
theorem upL0 (n:Nat):upL 0 n=‹108›.map fun (i:Nat)=>.int (i:Int):=by
  unfold upL
  exact List.map_congr_left fun i _=>by rw [Int.zero_add]
theorem zpr {ρ:Rho} {a b c:DE} {M:Mat} {n x y:Nat} (h:Sq M n) (hx:x<n) (hy:y<n) (ha:a ρ=some (.lst (rowsV M))) (hb:b ρ=some (.int (x:Int))) (hc:c ρ=some (.int (y:Int))):dIx (dIx a b) c ρ=some (.bl (at2 M x y)) :=
  ev_ix (ev_ix ha hb (ixL (rowsV_get h hx))) hc (ixL (ztv (by rw [h.rl hx]; exact hy)))
theorem zyv (r:List Bool):zg8 (rowB r)=true:=by
  unfold zg8 rowB
  rw [List.all_map]
  exact List.all_eq_true.mpr fun _ _=>rfl
def natD (x:Nat):D:=.int (x:Int)
def natsD (xs:List Nat):D:=.lst (xs.map natD)
def posR (n:Nat) (r:List Bool):List Nat:=‹108›.filter fun b=>r.getD b false
theorem zqv {ρ:Rho} {a:DE} {n:Nat} (hn:n≤1000) (h:a ρ=some (.int (n:Int))):dRg1 a ρ=some (‹108›.map natD):=by
  have hline:sizeLine=16777216:=sizeLine_eq
  rw [ev_rg1 h ⟨by omega,by omega⟩,Int.toNat_natCast,upL0]
  rfl
def zhj (ps:List (Nat×Nat)):D:=.lst (ps.map fun p=>.lst [.int (p.1:Int),.int (p.2:Int)])
structure Ord (n:Nat) (ps:List (Nat×Nat)):Prop where
  big:n≤14
  len:ps.length≤1000
  up:∃ rk:Nat→Nat,∀ p∈ps,p.1<n∧p.2<n∧rk p.1<rk p.2
theorem Ord.lt {n:Nat} {ps:List (Nat×Nat)} (h:Ord n ps):∀ p∈ps,p.1<n∧p.2<n:=fun p hp=>let ⟨rk,h⟩:=h.up; ⟨(h p hp).1,(h p hp).2.1⟩
theorem zqw:∀ n:Nat,(List.replicate n [D.bl false]).flatten=rowB (List.replicate n false)
  | 0=>rfl
  | n+1=>by rw [List.replicate_succ,List.flatten_cons,zqw n,List.replicate_succ]; rfl
theorem zny {ρ:Rho} {k:Nat} {cs:List Nat} {a b:DE} {n:Nat} (hn:n≤1000) (ha:a ρ=some (.int (n:Int))) (hb:∀ x:Nat,b ((r0 k cs ρ).set 0 (.pu (natD x)))=some (.int (n:Int))):zk2 k cs (dRg1 a) (gN true 0) zdc (dRep (zai (dC (.bl false)) dNil) b) ρ=some (rowsB (zvd n)):=by
  have hline:sizeLine=16777216:=sizeLine_eq
  rw [zy1 natD (zqv hn ha) (fun _=>rowB (List.replicate n false)) fun x _=>⟨(r0 k cs ρ).set 0 (.pu (natD x)),rfl,by
    rw [zyy (ds:=[.bl false]) (i:=(n:Int)) rfl (hb x) ⟨by omega,by omega,by simp only [List.length_cons,List.length_nil]; omega⟩,Int.toNat_natCast,zqw]⟩]
  unfold rowsB zvd
  rw [List.map_const',List.map_replicate,List.length_range]
theorem either (x y:List Bool):F_either [.lst (rowB x),.lst (rowB y)]=some (.lst (rowB (zsp x y))):=by
  refine zbm zla ?_
  rw [zwm]
  unfold zl5
  have e1:zpL (rowB x) (rowB y)=(x.zip y).map fun p=>.tup [.bl p.1,.bl p.2]:=by
    unfold zpL rowB
    rw [List.zipWith_map,List.map_zip_eq_zipWith]
    rfl
  refine wp_ret (ev_lst (ev_compA0 (fun p:Bool×Bool=>D.tup [.bl p.1,.bl p.2]) (by rw [z3v (xs:=rowB x) (ys:=rowB y) rfl rfl (zyv x) (zyv y),e1]) (fun p=>D.bl (p.1 || p.2)) fun p _=>⟨_,rfl,zud rfl fun _=>rfl⟩)) ?_
  show D.lst _=D.lst _
  congr 1
  unfold zsp rowB
  rw [List.map_zip_eq_zipWith,List.map_zipWith]
  rfl
theorem z38 {n:Nat} {ps:List (Nat×Nat)} (hb:n≤14) (lt:∀ p∈ps,p.1<n∧p.2<n):F_told_order [.int (n:Int),zhj ps]=some (.lst (rowsV (needW n ps))):=by
  refine zfo zgv ?_
  rw [zjf]
  unfold zfd
  refine wp_seq (zv0 (zny (by omega) rfl fun _=>rfl) ‹75› ?_)
  walk_at "st"
  refine wp_seq (wp_for (ds:=ps.map fun p=>.lst [.int (p.1:Int),.int (p.2:Int)]) rfl (fun j ρ=>∃ v3 v4,ρ=[.bo (.int (n:Int)),.bo (zhj ps),.om (rowsB (needW n (ps.take j))),v3,v4]) ⟨_,_,rfl⟩ ?_ ?_)
  · rintro j d ρ hd ⟨v3,v4,rfl⟩
    rw [List.getElem?_map] at hd
    have hj:j<ps.length:=by
      by_cases c:j<ps.length
      · exact c
      · rw [List.getElem?_eq_none (by omega)] at hd; cases hd
    rw [List.getElem?_eq_getElem hj] at hd
    cases hd
    have hp:=lt ps[j] (List.getElem_mem hj)
    have sq:Sq (needW n (ps.take j)) n:=Sq.need fun p hp=>(lt p (List.mem_of_mem_take hp)).1
    refine ⟨_,rfl,?_⟩
    dsimp only [gN,slm,List.set_cons_succ,List.set_cons_zero]
    refine wp_seq ‹148›
    · rw [ev_chain (i:=0) (j:=(ps[j].1:Int)) (k:=(n:Int)) rfl rfl rfl]
      congr 2
      simp
      omega
    · rw [ev_chain (i:=0) (j:=(ps[j].2:Int)) (k:=(n:Int)) rfl rfl rfl]
      congr 2
      simp
      omega
    · have hlen:(rowsB (needW n (ps.take j))).length=n:=by unfold rowsB; rw [List.length_map]; exact sq.len
      refine zv2 (r:=ps[j].1) (j:=ps[j].2) (ds:=rowB ((needW n (ps.take j)).getD ps[j].1 [])) (n:=(ps[j].1:Int)) (m:=(ps[j].2:Int)) rfl rfl rfl (by rw [hlen]; exact ixNn hp.1) ?_ rfl ?_ ?_
      · unfold rowsB; rw [List.getElem?_map,sq.get hp.1]; rfl
      · unfold rowB; rw [List.length_map,sq.rl hp.1]; exact ixNn hp.2
      · refine ⟨.bo (.int (ps[j].1:Int)),.bo (.int (ps[j].2:Int)),?_⟩
        rw [rowB_set,rowsB_set]
        have:needW n (ps.take (j+1))=putT (needW n (ps.take j)) ps[j].1 ps[j].2:=by
          unfold needW
          rw [List.take_succ_eq_append_getElem hj,List.foldl_append]
          rfl
        rw [this]
        rfl
  · rintro ρ ⟨v3,v4,rfl⟩
    refine z2d (z2c rfl ?_)
    rw [List.length_map,List.take_length]
    rfl
theorem told {n:Nat} {ps:List (Nat×Nat)} (h:Ord n ps):F_told_order [.int (n:Int),zhj ps]=some (.lst (rowsV (needW n ps))):=z38 h.big h.lt
def cloD (n:Nat) (ps:List (Nat×Nat)):Mat:=z6a n (needW n ps)
theorem Ord.sq {n:Nat} {ps:List (Nat×Nat)} (h:Ord n ps):Sq (needW n ps) n:=Sq.need fun p hp=>(h.lt p hp).1
theorem Ord.sqc {n:Nat} {ps:List (Nat×Nat)} (h:Ord n ps):Sq (cloD n ps) n:=h.sq.close ‹34›
theorem Ord.diag {n:Nat} {ps:List (Nat×Nat)} (h:Ord n ps) (x:Nat):at2 (cloD n ps) x x=false:=by
  obtain ⟨rk,hr⟩:=h.up
  have u:Up rk (cloD n ps):=Up.close h.sq (Up.need hr) n ‹34›
  cases e:at2 (cloD n ps) x x with
  | false=>rfl
  | true=>exact absurd (u x x e) ‹122›
def z17 (n:Nat) (ps:List (Nat×Nat)):List (List Nat):=(cloD n ps).map (posR n)
def z5h (xs:List (List Nat)):D:=.lst (xs.map natsD)
theorem z4t {ρ:Rho} {k:Nat} {cs:List Nat} {a:DE} {b:DE} {n:Nat} {r:List Bool} (hn:n≤1000) (hr:r.length=n) (ha:a ρ=some (.int (n:Int))) (hb:∀ x:Nat,x<n→dIx b (dVar 0) ((r0 k cs ρ).set 0 (.pu (natD x)))=some (.bl (r.getD x false))) (hv:∀ x:Nat,zbw 0 ((r0 k cs ρ).set 0 (.pu (natD x)))=some (natD x)) :
    dLst (zdk k cs (dRg1 a) (gN true 0) (dTru (dIx b (dVar 0))) (zbw 0)) ρ=some (natsD (posR n r)):=by
  refine ev_lst ?_
  rw [zuf natD (zqv hn ha) (fun x=>r.getD x false) natD fun x hx=>⟨_,rfl,zb6 (hb x (List.mem_range.mp hx)) rfl,fun _=>hv x⟩]
  rfl
theorem z6s {n:Nat} {ps:List (Nat×Nat)} (h:Ord n ps):F_ahead_of [.int (n:Int),zhj ps]=some (z5h (z17 n ps)):=by
  have hb:=h.big
  refine zbm zix ?_
  rw [zmb]
  unfold zie
  refine wp_seq (zkh (zug ‹4› (told h)) ‹75› ?_)
  walk_at "st"
  refine wp_seq ‹63›
  · rintro c d ρ hd ⟨v3,v4,rfl⟩
    rw [List.getElem?_map] at hd
    have hc:c<n:=by
      by_cases q:c<n
      · exact q
      · rw [List.getElem?_eq_none ‹55›] at hd; cases hd
    rw [List.getElem?_range hc] at hd
    cases hd
    have sq:=h.sq.close (j:=c) (by omega)
    rw [zds]
    generalize (List.range c).foldl (zer n) (needW n ps)=M at sq ⊢
    refine ⟨_,rfl,?_⟩
    dsimp only [gN,slm,List.set_cons_succ,List.set_cons_zero]
    refine wp_for (zqv (by omega) rfl) (fun j ρ=>∃ v4,ρ=[.bo (.int (n:Int)),.bo (zhj ps),.ol (rowsV ‹153›),.pu (natD c),v4]) ⟨_,rfl⟩ ?_ ?_
    · rintro a d ρ hd ⟨v4,rfl⟩
      rw [List.getElem?_map] at hd
      have ha:a<n:=by
        by_cases q:a<n
        · exact q
        · rw [List.getElem?_eq_none ‹55›] at hd; cases hd
      rw [List.getElem?_range ha] at hd
      cases hd
      have sq':=sq.inner hc (j:=a) (by omega)
      rw [zds]
      generalize (List.range a).foldl (stepW c) M=M' at sq' ⊢
      refine ⟨_,rfl,?_⟩
      dsimp only [gN,slm,List.set_cons_succ,List.set_cons_zero]
      refine zn6 (zb6 (zpr sq' ha hc rfl rfl rfl) rfl) (fun e=>?_) fun e=>zat ?_
      · refine wp_put (n:=(a:Int)) (j:=a) rfl ‹53› rfl ?_ ?_
        · have:(rowsV M').length=n:=by unfold rowsV rowsB; rw [List.length_map,List.length_map]; exact sq'.len
          rw [this]; exact ixNn ha
        · refine ⟨.pu (natD a),?_⟩
          rw [zqu]
          unfold stepW
          rw [if_pos e]
          rfl
      · refine ⟨.pu (natD a),?_⟩
        unfold stepW
        rw [if_neg (by rw [e]; exact Bool.false_ne_true)]
    · rintro ρ ⟨v4,rfl⟩
      rw [List.length_map,List.length_range]
      exact ⟨_,_,rfl⟩
  · rintro ρ ⟨v3,v4,rfl⟩
    rw [List.length_map,List.length_range]
    have sq:=h.sqc
    have dg:=h.diag
    have ec:‹108›.foldl (zer n) (needW n ps)=cloD n ps:=rfl
    rw [ec]
    unfold z17
    generalize cloD n ps=M at sq dg ⊢
    refine wp_seq (zcd (zb6 (x:=false) (ev_f1 (e:=.bl false) (ev_lst (ev_compA0 natD (zqv (n:=n) (by omega) rfl) (fun _=>.bl false) fun x hx=>⟨_,rfl,?_⟩)) ?_) rfl) (zat ?_))
    · have hx:=List.mem_range.mp hx
      refine zgf ?_ rfl
      rw [zpr sq hx hx rfl rfl rfl,dg]
    · have:(‹108›.map fun _=>D.bl false)=(‹108›.map fun _=>false).map D.bl:=by rw [List.map_map]; rfl
      rw [this]
      show (trus _).map _=_
      rw [zn9]
      show some (D.bl ((‹108›.map fun _=>false).any id))=_
      rw [List.any_map]
      congr 2
      rw [List.any_eq_false]
      intro x _
      exact Bool.false_ne_true
    · refine wp_ret (ev_lst (ev_compA0 (fun r=>D.lst (rowB r)) (ev_asL (d:=.lst (rowsV M)) rfl (by unfold rowsV rowsB; rw [List.map_map]; rfl)) (fun r=>natsD (posR n r)) fun r hr=>⟨_,rfl,?_⟩)) ?_
      · exact z4t (r:=r) (by omega) (sq.row r hr) rfl (fun x hx=>ev_ix rfl rfl (ixL (ztv (by rw [sq.row r hr]; exact hx)))) fun x=>rfl
      · show D.lst _=D.lst _
        rw [List.map_map]
        rfl
def Rl (R:Nat→Nat→Prop) (M:Mat):Prop:=∀ a b,at2 M a b=true→R a b
theorem z3d {n:Nat} {ps:List (Nat×Nat)} (hp:∀ p∈ps,p.1<n∧p.2<n) (x y:Nat):at2 (needW n ps) x y=true↔(x,y)∈ps:=by
  have key:∀ (ps:List (Nat×Nat)) (M:Mat),(∀ p∈ps,p.1<n∧p.2<n)→Sq M n→(at2 (ps.foldl (fun M p=>putT M p.1 p.2) M) x y=true↔at2 M x y=true∨(x,y)∈ps):=by
    intro ps
    induction ps with
    | nil=>exact fun M _ _=>by simp
    | cons p r ih =>
      intro M hp h
      have q:=hp p List.mem_cons_self
      rw [List.foldl_cons,ih _ (fun q hq=>hp q (List.mem_cons_of_mem _ hq)) (h.putT q.1),z15 h q.1 q.2,Bool.or_eq_true,Bool.and_eq_true,decide_eq_true_iff,decide_eq_true_iff,List.mem_cons]
      have:(x,y)=p↔x=p.1∧y=p.2:=by cases p; simp
      rw [this,or_assoc]
  unfold needW
  rw [key ps _ hp (Sq.none n),zzd]
  simp
theorem zjx {M:Mat} {n c:Nat} (h:Sq M n) (hc:c<n) (x y:Nat):∀ j,j≤n→at2 ‹153› x y=(at2 M x y || (decide (x<j)&&at2 M x c&&at2 M c y))
  | 0,_=>by simp
  | j+1,hj=>by
    have sq:=h.inner hc (j:=j) (by omega)
    rw [zds,zzc sq hc (by omega),zjx h hc x y j (by omega),zjx h hc j c j (by omega),zjx h hc c y j (by omega)]
    by_cases e:x=j
    · subst e
      have e1:decide (x<x+1)=true:=decide_eq_true (Nat.lt_succ_self x)
      have e2:decide (x<x)=false:=decide_eq_false (Nat.lt_irrefl x)
      rw [e1,e2]
      cases at2 M x y <;> cases at2 M x c <;> cases at2 M c y <;> cases at2 M c c <;> cases decide (c<x) <;> simp
    · have e1:decide (x<j+1)=decide (x<j):=by
        by_cases q:x<j
        · rw [decide_eq_true q,decide_eq_true (by omega)]
        · rw [decide_eq_false q,decide_eq_false (by omega)]
      rw [e1,decide_eq_false e]
      simp
def Tr (M:Mat) (k:Nat):Prop:=∀ c,c<k→∀ x y,at2 M x c=true→at2 M c y=true→at2 M x y=true
theorem z6r {M:Mat} {n x y:Nat} (h:Sq M n) (e:at2 M x y=true):x<n:=by
  by_cases q:x<n
  · exact q
  · have e0:M.getD x []=[]:=by rw [List.getD_eq_getElem?_getD,List.getElem?_eq_none (by have:=h.len; omega)]; rfl
    unfold at2 at e
    rw [e0] at e
    simp at e
theorem Tr.close {M:Mat} {n:Nat} (h:Sq M n):∀ j,j≤n→Tr ‹126› j
  | 0,_=>fun c hc=>absurd hc (Nat.not_lt_zero c)
  | j+1,hj=>by
    have ih:=Tr.close h j (by omega)
    have sq:=h.close (j:=j) (by omega)
    rw [zds]
    generalize (List.range j).foldl (zer n) M=N at ih sq
    have e:∀ x y,at2 (zer n N j) x y=true↔at2 N x y=true∨(at2 N x j=true∧at2 N j y=true):=fun x y=>by
      unfold zer
      rw [zjx sq (by omega) x y n ‹34›,Bool.or_eq_true,Bool.and_eq_true,Bool.and_eq_true]
      constructor
      · rintro (q | ⟨⟨_,q1⟩,q2⟩)
        · exact .inl q
        · exact .inr ⟨q1,q2⟩
      · rintro (q | ⟨q1,q2⟩)
        · exact .inl q
        · exact .inr ⟨⟨decide_eq_true (z6r sq q1),q1⟩,q2⟩
    intro c hc x y h1 h2
    rw [e] at h1 h2 ⊢
    by_cases q:c=j
    · subst q
      have a1:at2 N x c=true:=h1.elim id And.left
      have a2:at2 N c y=true:=h2.elim id And.right
      exact .inr ⟨a1,a2⟩
    · have hc':c<j:=by omega
      rcases h1 with h1 | ⟨h1,h1'⟩
      · rcases h2 with h2 | ⟨h2,h2'⟩
        · exact .inl (ih c hc' x y h1 h2)
        · exact .inr ⟨ih c hc' x j h1 h2,h2'⟩
      · rcases h2 with h2 | ⟨h2,h2'⟩
        · exact .inr ⟨h1,ih c hc' j y h1' h2⟩
        · exact .inr ⟨h1,h2'⟩
theorem znu {M:Mat} {n:Nat} (h:Sq M n) (x y:Nat) (e:at2 M x y=true):∀ j,j≤n→at2 ‹126› x y=true
  | 0,_=>e
  | j+1,hj=>by
    rw [zds]
    show at2 (‹108›.foldl (stepW j) ‹126›) x y=true
    rw [zjx (h.close (by omega)) (by omega) x y n ‹34›,znu h x y e j (by omega)]
    rfl
inductive Way (ps:List (Nat×Nat)):Nat→Nat→Prop
  | one {x y} (h:(x,y)∈ps):Way ps x y
  | go {x y z} (h:Way ps x y) (r:Way ps y z):Way ps x z
theorem z2f {n:Nat} {ps:List (Nat×Nat)} (hp:∀ p∈ps,p.1<n∧p.2<n) {x y:Nat} (w:Way ps x y):at2 (cloD n ps) x y=true:=by
  have sq:Sq (needW n ps) n:=Sq.need fun p h=>(hp p h).1
  have hl:∀ {x y:Nat},Way ps x y→y<n:=fun {x y} w=>by
    induction w with
    | one e=>exact (hp _ e).2
    | go _ _ _ i=>exact i
  induction w with
  | one e=>exact znu sq _ _ ((z3d hp _ _).mpr e) n ‹34›
  | @go x y z a b i1 i2=>exact Tr.close sq n ‹34› y (hl a) x z i1 i2
namespace Pr
def pairZ (q:Int×Int):D:=.lst [.int q.1,.int q.2]
def needsZ (qs:List (Int×Int)):D:=.lst (qs.map pairZ)
def zOf (p:Nat×Nat):Int×Int:=((p.1:Int),(p.2:Int))
theorem zz8 (ps:List (Nat×Nat)):zhj ps=needsZ (ps.map zOf):=by
  unfold zhj needsZ
  rw [List.map_map]
  rfl
def InR (n:Nat) (q:Int×Int):Prop:=(0≤q.1∧q.1<n)∧(0≤q.2∧q.2<n)
def nOf (q:Int×Int):Nat×Nat:=(q.1.toNat,q.2.toNat)
def Wr (q:Int×Int):Prop:=q.1.natAbs.log2<1920∧q.2.natAbs.log2<1920
theorem log_small {x:Int} (h:x.natAbs<10 ^ 70):x.natAbs.log2<1920:=by
  by_cases h0:x.natAbs=0
  · rw [h0]; decide
  · exact (Nat.log2_lt h0).mpr (Nat.lt_trans h ‹3›)
structure Ref (n:Nat) (qs:List (Int×Int)):Prop where
  big:n≤14
  wr:∀ q∈qs,Wr q
  why:(∃ q∈qs,¬ InR n q)∨((∀ q∈qs,InR n q)∧∃ x,x<n∧Way (qs.map nOf) x x)
theorem x_told {n:Nat} {qs:List (Int×Int)} (hb:n≤14) (wr:∀ q∈qs,Wr q) (hx:∃ q∈qs,¬ InR n q):∃ d,zea [.int (n:Int),needsZ qs]=some d:=by
  obtain ⟨d,e,_⟩:=zo2 zgu (ds:=[.int (n:Int),needsZ qs]) (P:=fun _=>True) (by
    rw [zjf]
    unfold zem
    refine wp_seq (zv0 (zny (by omega) rfl fun _=>rfl) ‹75› ?_)
    walk_at "st"
    refine wp_seq (wp_for (ds:=qs.map pairZ) rfl (fun j ρ=>(∀ q∈qs.take j,InR n q)∧∃ M v3 v4,Sq M n∧ρ=[.bo (.int (n:Int)),.bo (needsZ qs),.om (rowsB M),v3,v4]) ⟨by simp,_,_,_,Sq.none n,rfl⟩ ?_ ?_)
    · rintro j d ρ hd ⟨hin,M,v3,v4,sq,rfl⟩
      rw [List.getElem?_map] at hd
      obtain ⟨⟨q1,q2⟩,hq,rfl⟩:=Option.map_eq_some_iff.mp hd
      have hm:=List.mem_of_getElem? hq
      obtain ⟨w1,w2⟩:=wr _ hm
      refine ⟨_,rfl,?_⟩
      dsimp only [gN,slm,List.set_cons_succ,List.set_cons_zero,pairZ]
      by_cases hr:InR n (q1,q2)
      · obtain ⟨⟨a1,a2⟩,b1,b2⟩:=id hr
        dsimp only at a1 a2 b1 b2
        refine wp_seq ‹148›
        · rw [ev_chain (i:=0) (j:=q1) (k:=(n:Int)) rfl rfl rfl]
          simp [a1,a2]
        · rw [ev_chain (i:=0) (j:=q2) (k:=(n:Int)) rfl rfl rfl]
          simp [b1,b2]
        · obtain ⟨x,rfl⟩:=Int.eq_ofNat_of_zero_le a1
          obtain ⟨y,rfl⟩:=Int.eq_ofNat_of_zero_le b1
          have hx':x<n:=by omega
          have hy':y<n:=by omega
          have hlen:(rowsB M).length=n:=by unfold rowsB; rw [List.length_map]; exact sq.len
          refine zv2 (r:=x) (j:=y) (ds:=rowB (M.getD x [])) (n:=(x:Int)) (m:=(y:Int)) rfl rfl rfl (by rw [hlen]; exact ixNn hx') ?_ rfl ?_ ?_
          · unfold rowsB; rw [List.getElem?_map,sq.get hx']; rfl
          · unfold rowB; rw [List.length_map,sq.rl hx']; exact ixNn hy'
          · refine ⟨?_,putT M x y,.bo (.int (x:Int)),.bo (.int (y:Int)),sq.putT hx',?_⟩
            · intro q hq'
              rw [List.take_succ,hq] at hq'
              rcases List.mem_append.mp hq' with z | z
              · exact hin q z
              · rw [List.mem_singleton.mp (show q∈[((x:Int),(y:Int))] from z)]; exact hr
            · rw [rowB_set,rowsB_set]
              rfl
      · refine wp_seq (wp_ifT (ev_not (x:=false) ?_) (wp_raise (fmt_cons rfl w1 (fmt_cons rfl w2 rfl)) trivial))
        by_cases h1:0≤q1∧q1<n
        · have h2:¬ (0≤q2∧q2<n):=fun z=>hr ⟨h1,z⟩
          refine ev_and (x:=true) (y:=false) (ev_t ?_) fun _=>ev_t ?_
          · rw [ev_chain (i:=0) (j:=q1) (k:=(n:Int)) rfl rfl rfl]
            simp [h1.1,h1.2]
          · rw [ev_chain (i:=0) (j:=q2) (k:=(n:Int)) rfl rfl rfl]
            congr 2
            by_cases c:0≤q2
            · have:¬ q2<n:=fun z=>h2 ⟨c,z⟩
              simp [this]
            · simp [c]
        · refine ev_and (x:=false) (y:=false) (ev_t ?_) fun z=>by cases z
          rw [ev_chain (i:=0) (j:=q1) (k:=(n:Int)) rfl rfl rfl]
          congr 2
          by_cases c:0≤q1
          · have:¬ q1<n:=fun z=>h1 ⟨c,z⟩
            simp [this]
          · simp [c]
    · rintro ρ ⟨hin,M,v3,v4,sq,rfl⟩
      rw [List.length_map,List.take_length] at hin
      obtain ⟨q,hq,hn⟩:=hx
      exact absurd (hin q hq) hn)
  exact ⟨d,e⟩
theorem zyq {n:Nat} {qs:List (Int×Int)} (h:∀ q∈qs,InR n q):needsZ qs=zhj (qs.map nOf):=by
  rw [zz8,List.map_map]
  unfold needsZ
  congr 1
  rw [List.map_map]
  refine List.map_congr_left fun q hq=>?_
  obtain ⟨⟨a,_⟩,b,_⟩:=h q hq
  unfold pairZ Function.comp zOf nOf
  dsimp only
  rw [Int.toNat_of_nonneg a,Int.toNat_of_nonneg b]
theorem zup {x:DE} {s:DS} {ρ:Rho} {W:Wk} (k:∀ d,W.rt d) (h:Wp s ρ W):Wp (sXor x s) ρ W:=by
  cases e:x ρ with
  | some d=>exact zvx e (k d)
  | none=>exact zvw e h
theorem x_ahead {n:Nat} {qs:List (Int×Int)} (h:Ref n qs):∃ d,zfy [.int (n:Int),needsZ qs]=some d:=by
  have hb:=h.big
  obtain ⟨d,e,_⟩:=zo2 ziu (ds:=[.int (n:Int),needsZ qs]) (P:=fun _=>True) (by
    rw [zmb]
    unfold zgs
    rcases h.why with hx | ⟨hin,x,hxn,way⟩
    · obtain ⟨d,e⟩:=x_told hb h.wr hx
      exact wp_seq (zvx (ev_call ‹4› e) trivial)
    · have lt:∀ p∈qs.map nOf,p.1<n∧p.2<n:=fun p hp=>by
        obtain ⟨q,hq,rfl⟩:=List.mem_map.mp hp
        obtain ⟨⟨a,a'⟩,b,b'⟩:=hin q hq
        unfold nOf
        dsimp only
        omega
      have sqn:Sq (needW n (qs.map nOf)) n:=Sq.need fun p hp=>(lt p hp).1
      have dg:=z2f lt way
      rw [zyq hin]
      generalize qs.map nOf=ps at lt sqn dg ⊢
      refine wp_seq (zup (fun _=>trivial) (zkh (zug ‹4› (z38 hb lt)) ‹75› ?_))
      walk_at "st"
      refine wp_seq ‹63›
      · rintro c d ρ hd ⟨v3,v4,rfl⟩
        rw [List.getElem?_map] at hd
        have hc:c<n:=by
          by_cases q:c<n
          · exact q
          · rw [List.getElem?_eq_none ‹55›] at hd; cases hd
        rw [List.getElem?_range hc] at hd
        cases hd
        have sq:=sqn.close (j:=c) (by omega)
        rw [zds]
        generalize (List.range c).foldl (zer n) (needW n ps)=M at sq ⊢
        refine ⟨_,rfl,?_⟩
        dsimp only [gN,slm,List.set_cons_succ,List.set_cons_zero]
        refine wp_for (zqv (by omega) rfl) (fun j ρ=>∃ v4,ρ=[.bo (.int (n:Int)),.bo (zhj ps),.ol (rowsV ‹153›),.pu (natD c),v4]) ⟨_,rfl⟩ ?_ ?_
        · rintro a d ρ hd ⟨v4,rfl⟩
          rw [List.getElem?_map] at hd
          have ha:a<n:=by
            by_cases q:a<n
            · exact q
            · rw [List.getElem?_eq_none ‹55›] at hd; cases hd
          rw [List.getElem?_range ha] at hd
          cases hd
          have sq':=sq.inner hc (j:=a) (by omega)
          rw [zds]
          generalize (List.range a).foldl (stepW c) M=M' at sq' ⊢
          refine ⟨_,rfl,?_⟩
          dsimp only [gN,slm,List.set_cons_succ,List.set_cons_zero]
          refine zn6 (zb6 (zpr sq' ha hc rfl rfl rfl) rfl) (fun e=>?_) fun e=>zat ?_
          · refine wp_put (n:=(a:Int)) (j:=a) rfl ‹53› rfl ?_ ?_
            · have:(rowsV M').length=n:=by unfold rowsV rowsB; rw [List.length_map,List.length_map]; exact sq'.len
              rw [this]; exact ixNn ha
            · refine ⟨.pu (natD a),?_⟩
              rw [zqu]
              unfold stepW
              rw [if_pos e]
              rfl
          · refine ⟨.pu (natD a),?_⟩
            unfold stepW
            rw [if_neg (by rw [e]; exact Bool.false_ne_true)]
        · rintro ρ ⟨v4,rfl⟩
          rw [List.length_map,List.length_range]
          exact ⟨_,_,rfl⟩
      · rintro ρ ⟨v3,v4,rfl⟩
        rw [List.length_map,List.length_range]
        have sq:Sq (cloD n ps) n:=sqn.close ‹34›
        have ec:‹108›.foldl (zer n) (needW n ps)=cloD n ps:=rfl
        rw [ec]
        generalize cloD n ps=M at sq dg ⊢
        refine wp_seq (wp_ifT (zb6 (x:=true) (ev_f1 (e:=.bl true) (ev_lst (ev_compA0 natD (zqv (n:=n) (by omega) rfl) (fun x=>.bl (at2 M x x)) fun x hx=>⟨_,rfl,?_⟩)) ?_) rfl) (wp_raise rfl trivial))
        · have hx:=List.mem_range.mp hx
          refine zgf ?_ rfl
          rw [zpr sq hx hx rfl rfl rfl]
        · have:(‹108›.map fun x=>D.bl (at2 M x x))=(‹108›.map fun x=>at2 M x x).map D.bl:=by rw [List.map_map]; rfl
          rw [this]
          show (trus _).map _=_
          rw [zn9]
          show some (D.bl ((‹108›.map fun x=>at2 M x x).any id))=_
          rw [List.any_map]
          congr 2
          rw [List.any_eq_true]
          exact ⟨x,List.mem_range.mpr hxn,dg⟩)
  exact ⟨d,e⟩
def WalkN (ps:List (Nat×Nat)):Nat→Nat→Prop
  | 0,_=>True
  | k+1,v=>∃ u,(u,v)∈ps∧WalkN ps k u
theorem WalkN.down {ps:List (Nat×Nat)}:∀ {k:Nat} {v:Nat},WalkN ps (k+1) v→WalkN ps k v
  | 0,_,_=>trivial
  | k+1,v,⟨u,hu,w⟩=>⟨u,hu,WalkN.down w⟩
theorem WalkN.le {ps:List (Nat×Nat)} {j k v:Nat} (h:j≤k) (w:WalkN ps k v):WalkN ps j v:=by
  induction k with
  | zero => have:j=0:=by omega
            rw [this]; trivial
  | succ k ih =>
    by_cases e:j=k+1
    · rw [e]; exact w
    · exact ih (by omega) w.down
structure Ok (n:Nat) (qs:List (Int×Int)):Prop where
  big:n≤14
  len:qs.length≤1000
  inn:∀ q∈qs,InR n q
  no:∀ v,v<n→¬ WalkN (qs.map nOf) n v
open Classical in
def rkW (ps:List (Nat×Nat)) (n v:Nat):Nat:=(‹108›.filter fun k=>WalkN ps k v).length
open Classical in
theorem z4u {ps:List (Nat×Nat)} {v:Nat}:∀ {n m:Nat},m≤n→(∀ k,k<m→WalkN ps k v)→(∀ k,m≤k→¬ WalkN ps k v)→rkW ps n v=m:=by
  intro n m hm h1 h2
  unfold rkW
  have e:‹108›.filter (fun k=>decide (WalkN ps k v))=List.range m:=by
    obtain ⟨d,rfl⟩:=Nat.le.dest hm
    rw [List.range_add,List.filter_append,List.filter_eq_self.mpr fun k hk=>decide_eq_true (h1 k (List.mem_range.mp hk)),List.filter_eq_nil_iff.mpr,List.append_nil]
    intro k hk
    obtain ⟨j,_,rfl⟩:=List.mem_map.mp hk
    simp only [decide_eq_true_eq]
    exact h2 _ (by omega)
  rw [e,List.length_range]
theorem lvl {ps:List (Nat×Nat)} {n v:Nat} (h:¬ WalkN ps n v):∃ m,m≤n∧0<m∧(∀ k,k<m→WalkN ps k v)∧∀ k,m≤k→¬ WalkN ps k v:=by
  induction n with
  | zero=>exact absurd trivial h
  | succ n ih =>
    by_cases c:WalkN ps n v
    · exact ⟨n+1,Nat.le_refl _,by omega,fun k hk=>c.le (by omega),fun k hk w=>h (w.le hk)⟩
    · obtain ⟨m,a,b,p,q⟩:=ih c
      exact ⟨m,by omega,b,p,q⟩
theorem Ok.ord {n:Nat} {qs:List (Int×Int)} (h:Ok n qs):Ord n (qs.map nOf):=by
  refine ⟨h.big,by rw [List.length_map]; exact h.len,rkW (qs.map nOf) n,fun p hp=>?_⟩
  obtain ⟨q,hq,rfl⟩:=List.mem_map.mp hp
  obtain ⟨⟨a,a'⟩,b,b'⟩:=h.inn q hq
  have h1:(nOf q).1<n:=by unfold nOf; dsimp only; omega
  have h2:(nOf q).2<n:=by unfold nOf; dsimp only; omega
  refine ⟨h1,h2,?_⟩
  obtain ⟨m,m1,m2,m3,m4⟩:=lvl (h.no _ h1)
  obtain ⟨m',n1,n2,n3,n4⟩:=lvl (h.no _ h2)
  rw [z4u m1 m3 m4,z4u n1 n3 n4]
  refine Decidable.byContradiction fun z=>n4 m' ‹34› ?_
  have:WalkN (qs.map nOf) (m'-1+1) (nOf q).2:=⟨(nOf q).1,hp,m3 _ (by omega)⟩
  rw [show m'-1+1=m' by omega] at this
  exact this
theorem aheadF {n:Nat} {qs:List (Int×Int)} (h:Ok n qs):∃ d,F_ahead_of [.int (n:Int),needsZ qs]=some d:=by
  rw [zyq h.inn]
  exact ⟨_,z6s h.ord⟩
theorem zfr {ps:List (Nat×Nat)}:∀ {k v:Nat},WalkN ps k v→∃ f:Nat→Nat,f 0=v∧∀ i,i<k→(f (i+1),f i)∈ps
  | 0,v,_=>⟨fun _=>v,rfl,fun i h=>by omega⟩
  | k+1,v,⟨u,hu,w⟩=>by
    obtain ⟨f,f0,hf⟩:=zfr w
    refine ⟨fun i=>if i=0 then v else f (i-1),if_pos rfl,fun i hi=>?_⟩
    by_cases c:i=0
    · subst c
      dsimp only
      rw [if_neg (by omega),if_pos rfl,f0]
      exact hu
    · dsimp only
      rw [if_neg (by omega),if_neg c]
      have:=hf (i-1) (by omega)
      rw [show i-1+1=i by omega] at this
      exact this
theorem z02 {ps:List (Nat×Nat)} {f:Nat→Nat} {k:Nat} (hf:∀ i,i<k→(f (i+1),f i)∈ps):∀ {d i:Nat},i+d+1≤k→Way ps (f (i+d+1)) (f i)
  | 0,i,h=>.one (hf i (by omega))
  | d+1,i,h=>.go (.one (hf (i+d+1) (by omega))) (z02 hf (d:=d) (i:=i) (by omega))
theorem zya:∀ {l m:List Nat},l.Nodup→(∀ x∈l,x∈m)→l.length≤m.length
  | [],_,_,_=>Nat.zero_le _
  | x::l,m,nd,h=>by
    have hx:=h x List.mem_cons_self
    have e:=List.length_erase_of_mem hx
    have:=zya (l:=l) (m:=m.erase x) (List.nodup_cons.mp nd).2 fun y hy=>(List.mem_erase_of_ne (fun z=>by subst z; exact (List.nodup_cons.mp nd).1 hy)).mpr (h y (List.mem_cons_of_mem _ hy))
    have p:0<m.length:=List.length_pos_of_mem hx
    rw [List.length_cons]
    omega
theorem cyc {ps:List (Nat×Nat)} {n v:Nat} (lt:∀ p∈ps,p.1<n∧p.2<n) (hv:v<n) (w:WalkN ps n v):∃ x,x<n∧Way ps x x:=by
  obtain ⟨f,f0,hf⟩:=zfr w
  have hl:∀ i,i≤n→f i<n:=fun i hi=>by
    cases i with
    | zero=>rw [f0]; exact hv
    | succ i=>exact (lt _ (hf i (by omega))).1
  have nn:¬ ((List.range (n+1)).map f).Nodup:=fun nd=>by
    have:=zya (m:=List.range n) nd fun x hx=>by
      obtain ⟨i,hi,rfl⟩:=List.mem_map.mp hx
      exact List.mem_range.mpr (hl i (by have:=List.mem_range.mp hi; omega))
    rw [List.length_map,List.length_range,List.length_range] at this
    omega
  have:∃ i j,i<j∧j<n+1∧f i=f j:=by
    refine Classical.byContradiction fun z=>nn ?_
    rw [List.Nodup,List.pairwise_map]
    refine List.Pairwise.imp_of_mem (R:=(· < ·)) (fun {a b} ha hb hab e=>z ⟨a,b,hab,List.mem_range.mp hb,e⟩) List.pairwise_lt_range
  obtain ⟨i,j,hij,hj,e⟩:=this
  refine ⟨f i,hl i (by omega),?_⟩
  have:=z02 hf (d:=j-i-1) (i:=i) (by omega)
  rw [show i+(j-i-1)+1=j by omega,← e] at this
  exact this
theorem ok_or {n:Nat} {qs:List (Int×Int)} (hb:n≤14) (hl:qs.length≤1000) (hw:∀ q∈qs,Wr q):Ok n qs∨Ref n qs:=by
  by_cases h:∀ q∈qs,InR n q
  · by_cases hu:∀ v,v<n→¬ WalkN (qs.map nOf) n v
    · exact .inl ⟨hb,hl,h,hu⟩
    · obtain ⟨v,hu⟩:=Classical.not_forall.mp hu
      obtain ⟨hv,hu⟩:=Classical.not_imp.mp hu
      refine .inr ⟨hb,hw,.inr ⟨h,cyc (fun p hp=>?_) hv (Classical.not_not.mp hu)⟩⟩
      obtain ⟨q,hq,rfl⟩:=List.mem_map.mp hp
      obtain ⟨⟨a,a'⟩,b,b'⟩:=h q hq
      unfold nOf
      dsimp only
      omega
  · obtain ⟨q,h⟩:=Classical.not_forall.mp h
    obtain ⟨hq,h⟩:=Classical.not_imp.mp h
    exact .inr ⟨hb,hw,.inl ⟨q,hq,h⟩⟩
theorem needs_inj {n m:Nat} {a b:List (Int×Int)} (h:[D.int (n:Int),needsZ a]=[D.int (m:Int),needsZ b]):n=m∧a=b:=by
  injection h with h1 h2
  injection h1 with h1
  injection h2 with h2 _
  injection h2 with h2
  refine ⟨by omega,(List.map_inj_right (fun x y e=>?_)).mp h2⟩
  obtain ⟨x1,x2⟩:=x
  obtain ⟨y1,y2⟩:=y
  unfold pairZ at e
  injection e with e
  injection e with e1 e2
  injection e1 with e1
  injection e2 with e2 _
  injection e2 with e2
  dsimp only at e1 e2
  rw [e1,e2]
end Pr
open Classical in
noncomputable def gAh (ds:List D):Option Bool:=if ∃ (n:Nat) (qs:List (Int×Int)),ds=[.int (n:Int),Pr.needsZ qs]∧Pr.Ok n qs then some true else if ∃ (n:Nat) (qs:List (Int×Int)),ds=[.int (n:Int),Pr.needsZ qs]∧Pr.Ref n qs then some false else none
theorem gAhN (ds:List D) (h:gAh ds=some true):∃ d,F_ahead_of ds=some d:=by
  unfold gAh at h
  split at h
  · rename_i c
    obtain ⟨n,qs,rfl,k⟩:=c
    exact Pr.aheadF k
  · split at h <;> cases h
theorem gAhX (ds:List D) (h:gAh ds=some false):∃ d,zfy ds=some d:=by
  unfold gAh at h
  split at h
  · cases h
  · split at h
    · rename_i c
      obtain ⟨n,qs,rfl,k⟩:=c
      exact Pr.x_ahead k
    · cases h
open Classical in
theorem z5y {n:Nat} {qs:List (Int×Int)} (hb:n≤14) (hl:qs.length≤1000) (hw:∀ q∈qs,Pr.Wr q):gAh [.int (n:Int),Pr.needsZ qs]=some (decide (Pr.Ok n qs)):=by
  unfold gAh
  by_cases h:Pr.Ok n qs
  · rw [if_pos ⟨n,qs,rfl,h⟩,decide_eq_true h]
  · rw [if_neg (fun ⟨m,c,e,k⟩=>h (by obtain ⟨rfl,rfl⟩:=Pr.needs_inj e; exact k)),if_pos ⟨n,qs,rfl,(Pr.ok_or hb hl hw).resolve_left h⟩,decide_eq_false h]
noncomputable def zfj:DS:=(sSeq (sIf (dOr (dNot (dTru (dVar 1))) (dOr (dNot (dTru (za4 F_tells_one (zai (dIx (dVar 1) ‹37›) (zai ‹37› (zai (dC (.int 14)) dNil)))))) (dNot (dTru (dF1 allD (dLst (zdk 1 [] (asL (dLst (dSl (zbw 1) (zdw ‹28›) zd8))) (gN true 0) zdc (dEq false ‹31› ‹92›))))))))
 ‹60›
      zbq)
 (sSeq (zqr gAh (zai (dIx (dIx (dVar 1) ‹37›) ‹37›) (zai (dLst (dSl (zbw 1) (zdw ‹28›) zd8)) dNil)))
 (sRet (dC (.bl true)))))
@[irreducible] noncomputable def F_Pairs_fits:List D→Option D:=runD 2 [false,true] zfj
theorem zg1:F_Pairs_fits=runD 2 [false,true] zfj:=by unfold F_Pairs_fits; rfl
theorem zzp:stD 0 [] []=[]:=rfl
noncomputable def zpz:DS:=(sRet (dLst (zai (zm7 656) (zai (zm7 715) (zai (zm7 774) (zai (zm7 831) (zai (zm7 951) (zai (zm7 1015) dNil))))))))
@[irreducible] noncomputable def F_kinds:List D→Option D:=runF 0 [] zpz
theorem zni:F_kinds=runF 0 [] zpz:=by unfold F_kinds; rfl
def zif:DS:=(sSeq (sFor (asL (za4 F_kinds dNil)) (gN true 1)
 (sIf ‹67›
      sNo
      zbq))
    (zi1 (dVar 0)))
@[irreducible] def zhm:List D→Option D:=runF 2 [false] zif
theorem zj7:zhm=runF 2 [false] zif:=by unfold zhm; rfl
theorem zki (x0:D):stD 2 [false] [x0]=[.bo x0,.un]:=rfl
noncomputable def zhv:DS:=(sSeq (sFor (asL (za4 F_kinds dNil)) (gN true 1)
 (sIf ‹67›
 (sRet (zbw 1))
      zbq))
    sNo)
@[irreducible] noncomputable def F_kind_of:List D→Option D:=runD 2 [false] zhv
theorem zgj:F_kind_of=runD 2 [false] zhv:=by unfold F_kind_of; rfl
theorem zuy (x0:D):stD 1 [false] [x0]=[.bo x0]:=rfl
noncomputable def zkf:DS:=(sRet (zj4 (zd9 ‹29› ‹29› ‹28› ‹31› (dC (.int 8))) (dF1 allD (dLst (zdk 1 [] (zis (dVar 0)) (gN true 0) zdc (dInT (dVar 0) (dC (.str "abcdefghijklmnopqrstuvwxyz"))))))))
@[irreducible] noncomputable def F_is_name:List D→Option D:=runD 1 [false] zkf
theorem zkb:F_is_name=runD 1 [false] zkf:=by unfold F_is_name; rfl
theorem zp8 (x0:D):stD 2 [false] [x0]=[.bo x0,.un]:=rfl
noncomputable def zgm:DS:=(sSeq (sSet 1 (dIf (dTru (zja (dVar 0) (dC (.str "-")))) (zm6 (dVar 0) (zdw ‹28›) zd8) (zlf (dVar 0))))
 (sSeq (sIf (dOr (dNot (dT (zd9 ‹29› ‹29› ‹28› (dF1 lenD (dVar 1)) (dC (.int 60))))) (dNot (dTru (dF1 allD (dLst (zdk 1 [] (zis (dVar 1)) (gN true 0) zdc (dInT (dVar 0) (dC (.str "0123456789")))))))))
 ‹60›
      zbq)
 (sRet (dOrV (dEq false (dVar 0) (dC (.str "0"))) (zpn (zja (dVar 1) (dC (.str "0"))))))))
@[irreducible] noncomputable def F_is_number:List D→Option D:=runD 2 [false] zgm
theorem zhp:F_is_number=runD 2 [false] zgm:=by unfold F_is_number; rfl
def zdi:DS:=(sSeq (sIf (dNot (dTru (za4 F_is_number ‹46›)))
      (zi1 (dVar 0))
      zbq)
    sNo)
@[irreducible] def zdd:List D→Option D:=runF 1 [false] zdi
theorem zdy:zdd=runF 1 [false] zdi:=by unfold zdd; rfl
theorem zfm (x0:D):stD 1 [false] [x0]=[.bo x0]:=rfl
noncomputable def zel:DS:=(sSeq (sIf (dNot (dTru (za4 F_is_number ‹46›)))
      sNo
      zbq)
 (sRet (dF1 z5v (dVar 0))))
@[irreducible] noncomputable def F_read_number:List D→Option D:=runD 1 [false] zel
theorem zfz:F_read_number=runD 1 [false] zel:=by unfold F_read_number; rfl
def zeu:DS:=(sSeq (sIf (dT (dEq false (dVar 0) (dC (.str "."))))
      sNo
      zbq)
    (sXC 1 [] (asL (dLst (zj2 (dVar 0) (dC (.str " "))))) (gN true 0) (za4 F_read_number ‹46›) (za4 zdd ‹46›)))
@[irreducible] def zep:List D→Option D:=runF 1 [false] zeu
theorem zfq:zep=runF 1 [false] zeu:=by unfold zep; rfl
theorem ziy (x0:D):stD 1 [false] [x0]=[.bo x0]:=rfl
noncomputable def zic:DS:=(sSeq (sIf (dT (dEq false (dVar 0) (dC (.str "."))))
 (sRet (dLst dNil))
      zbq)
 (sRet (dLst (zdk 1 [] (asL (dLst (zj2 (dVar 0) (dC (.str " "))))) (gN true 0) zdc (za4 F_read_number ‹46›)))))
@[irreducible] noncomputable def F_read_row:List D→Option D:=runD 1 [false] zic
theorem ziv:F_read_row=runD 1 [false] zic:=by unfold F_read_row; rfl
def zeb:DS:=(sSeq (sIf (dT (dEq false (dVar 0) (dC (.str "-"))))
      sNo
      zbq)
    (sXC 1 [] (asL (dLst (zj2 (dVar 0) (dC (.str " / "))))) (gN true 0) (za4 F_read_row ‹46›) (za4 zep ‹46›)))
@[irreducible] def zdx:List D→Option D:=runF 1 [false] zeb
theorem zet:zdx=runF 1 [false] zeb:=by unfold zdx; rfl
theorem zha (x0:D):stD 1 [false] [x0]=[.bo x0]:=rfl
noncomputable def zgl:DS:=(sSeq (sIf (dT (dEq false (dVar 0) (dC (.str "-"))))
 (sRet (dLst dNil))
      zbq)
 (sRet (dLst (zdk 1 [] (asL (dLst (zj2 (dVar 0) (dC (.str " / "))))) (gN true 0) zdc (za4 F_read_row ‹46›)))))
@[irreducible] noncomputable def F_read_rows:List D→Option D:=runD 1 [false] zgl
theorem zho:F_read_rows=runD 1 [false] zgl:=by unfold F_read_rows; rfl
def zbp:DS:=(sSeq (sSet 1 (zvo (dVar 0) (dC (.str " "))))
 (sSeq (sSet 2 (dIx (zbw 1) ‹37›))
 (sSeq (sIf ‹93›
      (zi1 (dVar 2))
      zbq)
 (sSeq (sXor (za4 zdx (zai (dIx (dVar 1) ‹92›) dNil)) ‹57›)
 (sSeq (sIf ‹22›
      sNo
      zbq)
    sNo)))))
@[irreducible] def zap:List D→Option D:=runF 4 [false] zbp
theorem zca:zap=runF 4 [false] zbp:=by unfold zap; rfl
def zb2:DS:=(sSeq (sSet 1 (zvo (dVar 0) (dC (.str " "))))
 (sSeq (sSet 2 (dIx (zbw 1) ‹37›))
 (sSeq (sIf ‹93›
      sNo
      zbq)
 (sSeq ‹57›
 (sSeq (sIf ‹22›
      (zmn (dVar 2))
      zbq)
    sNo)))))
@[irreducible] def za5:List D→Option D:=runF 4 [false] zb2
theorem zcx:za5=runF 4 [false] zb2:=by unfold za5; rfl
def zcm:DS:=(sSeq (sSet 1 (zvo (dVar 0) (dC (.str " "))))
 (sSeq (sSet 2 (dIx (zbw 1) ‹37›))
 (sSeq (sIf ‹93›
      sNo
      zbq)
 (sSeq ‹57›
 (sSeq (sX (za4 zhm (zai (dVar 2) dNil))) sNo)))))
@[irreducible] def zbx:List D→Option D:=runF 4 [false] zcm
theorem zdt:zbx=runF 4 [false] zcm:=by unfold zbx; rfl
theorem zc0 (x0:D):stD 4 [false] [x0]=[.bo x0,.un,.un,.un]:=rfl
noncomputable def zfe:DS:=(sSeq (sSet 1 (zvo (dVar 0) (dC (.str " "))))
 (sSeq (sSet 2 (dIx (zbw 1) ‹37›))
 (sSeq (sIf ‹93›
      sNo
      zbq)
 (sSeq ‹57›
 (sSeq (sIf ‹22›
      sNo
      zbq)
 (sRet (dTup (zai (zbw 2) (zai (zbw 3) dNil)))))))))
@[irreducible] noncomputable def F_read_floor:List D→Option D:=runD 4 [false] zfe
theorem zgw:F_read_floor=runD 4 [false] zfe:=by unfold F_read_floor; rfl
theorem zzo (x0 x1:D):stD 2 [false,false] [x0,x1]=[.bo x0,.bo x1]:=rfl
noncomputable def zpy:DS:=(sRet (dMod (dMul (dAdd (dAdd (dMul (dVar 0) (dVar 0)) (dMul (dVar 1) (dVar 0))) (dMul (dMul (dC (.int 7)) (dVar 1)) (dVar 1))) (dC (.int 1103515245))) (dC (.int 2147483629))))
@[irreducible] noncomputable def F_l_mix:List D→Option D:=runD 2 [false,false] zpy
theorem znh:F_l_mix=runD 2 [false,false] zpy:=by unfold F_l_mix; rfl
theorem zuv:stD 0 [] []=[]:=rfl
noncomputable def zkc:DS:=(sRet (dLst (zai (dC (.str "alike")) (zai (dC (.str "open")) (zai (dC (.str "tails")) (zai (dC (.str "windows")) (zai (dC (.str "tree")) (zai (dC (.str "pairs")) dNil))))))))
@[irreducible] noncomputable def F_l_words:List D→Option D:=runD 0 [] zkc
theorem zj8:F_l_words=runD 0 [] zkc:=by unfold F_l_words; rfl
theorem zwk (x0 x1:D):stD 3 [false,false] [x0,x1]=[.bo x0,.bo x1,.un]:=rfl
noncomputable def zl3:DS:=(sSeq (sSet 2 (dLst (zdk 1 [1] (dRg1 ‹91›) (gN true 0) zdc (dAdd ‹28› (dMod (za4 F_l_mix (zai (dAdd (dVar 1) (dVar 0)) (zai ‹28› dNil))) (dC (.int 7)))))))
 (sSeq (sIf (dT (dEq false (dVar 0) ‹37›))
 (sRet (dLst (zai (dLst (zai (dAdd ‹28› ‹61›) dNil)) (zai (zbw 2) dNil))))
      zbq)
 (sSeq (sIf (dT (dEq false (dVar 0) ‹28›))
 (sRet (dLst (dSl (dLst (zai (zbw 2) (zai (dLst (zai ‹37› (zai ‹91› (zai (dC (.int 5)) dNil)))) dNil))) zd8 (zdw ‹61›))))
      zbq)
 (sSeq (sIf (dT (dEq false (dVar 0) ‹92›))
 (sRet (dLst (dSl (dLst (zai (zbw 2) (zai (dLst (zai ‹37› (zai ‹91› (zai (dC (.int 5)) dNil)))) dNil))) zd8 (zdw ‹61›))))
      zbq)
 (sSeq (sIf (dT (dEq false (dVar 0) ‹91›))
 (sRet (dLst (dSl (dLst (zai (dLst (zai ‹92› dNil)) (zai (dLst (zai ‹37› (zai (dIx (zbw 2) ‹37›) (zai (dIx (zbw 2) ‹28›) dNil)))) (zai (dLst (zai ‹28› (zai (dC (.int 9)) (zai (dIx (zbw 2) ‹92›) dNil)))) dNil)))) zd8 (zdw (dAdd ‹28› ‹61›)))))
      zbq)
 (sSeq (sIf (dT (dEq false (dVar 0) (dC (.int 4))))
 (sRet (dLst (zai (dLst (zai ‹92› dNil)) (zai (dLst (dSl (dLst (zai ‹28› (zai ‹92› (zai (dNeg ‹28›) dNil)))) zd8 (zdw (dMod (zj3 (dVar 1) (dC (.int 6))) (dC (.int 4)))))) dNil))))
      zbq)
 (sRet (dLst (dSl (dLst (zai (dLst (zai ‹91› dNil)) (zai (dLst (zai ‹37› (zai ‹28› dNil))) (zai (dLst (zai ‹28› (zai ‹92› dNil))) dNil)))) zd8 (zdw (dAdd ‹28› ‹61›)))))))))))
@[irreducible] noncomputable def F_l_rows:List D→Option D:=runD 3 [false,false] zl3
theorem zk8:F_l_rows=runD 3 [false,false] zl3:=by unfold F_l_rows; rfl
theorem zwl (x0 x1:D):stD 6 [true,false] [x0,x1]=[.pu x0,.bo x1,.un,.un,.un,.un]:=rfl
noncomputable def zl4:DS:=(sSeq (sSet 2 (dMod (za4 F_l_mix (zai (dVar 1) (zai ‹92› dNil))) (dC (.int 8))))
 (sSeq (sSet 3 (dMod (za4 F_l_mix (zai (dVar 1) (zai ‹91› dNil))) (z0t ‹28› ‹31›)))
 (sSeq (sIf (dOr (dT (dGt (dVar 2) ‹91›)) (dT (dEq false ‹31› ‹37›)))
 (sRet (zbw 0))
      zbq)
 (sSeq (sIf (dT (dEq false (dVar 2) ‹37›))
 (sRet (dLst (dCat (dLst (dSl (zbw 0) zd8 (zdw (dVar 3)))) (dLst (dSl (zbw 0) (zdw (dAdd (dVar 3) ‹28›)) zd8)))))
      zbq)
 (sSeq (sIf (dT (dEq false (dVar 2) ‹28›))
 (sRet (dLst (dCat (dLst (dCat (dLst (dSl (zbw 0) zd8 (zdw (dVar 3)))) (dLst (zai (dLst (dLof (dIx (zbw 0) (dVar 3)))) dNil)))) (dLst (dSl (zbw 0) (zdw (dVar 3)) zd8)))))
      zbq)
 (sSeq (zqs 4 (dLof (dIx (zbw 0) (dVar 3))))
 (sSeq (sIf (dOr (dT (dEq false (dVar 2) ‹92›)) (dT (dEq false (dF1 lenD (dVar 4)) ‹37›)))
      (sFrz 4 (sRet (dLst (dCat (zbw 0) (dLst (zai (dLst (dCat (zbw 4) (dLst (zai ‹28› dNil)))) dNil))))))
      zbq)
 (sSeq (sSet 5 (dIx (dLst (zai (dNeg ‹28›) (zai ‹37› (zai (dC (.int 21)) (zai (dMod (zj3 (dVar 1) (dC (.int 6))) (dPow (dC (.int 10)) (dC (.int 50)))) dNil))))) (dMod (za4 F_l_mix (zai (dVar 1) (zai (dC (.int 4)) dNil))) (dC (.int 4)))))
 (sSeq (sPut 4 (dMod (za4 F_l_mix (zai (dVar 1) (zai (dC (.int 5)) dNil))) (dF1 lenD (dVar 4))) (zbw 5))
    (sFrz 4 (sRet (dLst (dCat (dLst (dCat (dLst (dSl (zbw 0) zd8 (zdw (dVar 3)))) (dLst (zai (zbw 4) dNil)))) (dLst (dSl (zbw 0) (zdw (dAdd (dVar 3) ‹28›)) zd8)))))))))))))))
@[irreducible] noncomputable def F_l_bent:List D→Option D:=runD 6 [true,false] zl4
theorem zk9:F_l_bent=runD 6 [true,false] zl4:=by unfold F_l_bent; rfl
theorem zux (x0:D):stD 4 [false] [x0]=[.bo x0,.un,.un,.un]:=rfl
noncomputable def zke:DS:=(sSeq (sIf (dT (dEq false ‹31› ‹37›))
 (sRet (dC (.str "-")))
      zbq)
 (sSeq (zqs 1 dNil)
 (sSeq (sFor (asL (zpm 0)) (gN false 2)
 (sSeq (sSet 3 (dLst (zdk 1 [] (asL (dVar 2)) (gN false 0) zdc (dF1 strD (dVar 0)))))
 (sSeq (sIf (dT (dEq false (dF1 lenD (dVar 2)) ‹37›))
 (sSet 3 (dLst (zai (dC (.str ".")) dNil)))
      zbq)
 (sApp 1 (zpo (dC (.str " ")) (dVar 3))))))
 (sRet (zpo (dC (.str " / ")) (dVar 1))))))
@[irreducible] noncomputable def F_l_shown:List D→Option D:=runD 4 [false] zke
theorem zka:F_l_shown=runD 4 [false] zke:=by unfold F_l_shown; rfl
theorem zwj (x0 x1:D):stD 5 [false,false] [x0,x1]=[.bo x0,.bo x1,.un,.un,.un]:=rfl
noncomputable def zl2:DS:=(sSeq (sSet 2 (dIx (za4 F_l_words dNil) (dVar 0)))
 (sSeq (sSet 3 (dMod (za4 F_l_mix (zai (dVar 1) (zai (dC (.int 6)) dNil))) (dC (.int 12))))
 (sSeq (sSet 4 (dC (.str "abcdefghijklmnopqrstuvwxyz")))
 (sSeq (sIf (dT (dEq false (dVar 3) ‹37›))
 (sRet (zpo (dC (.str "")) (dLst (zdk 1 [4,1] (dRg1 (dMod (za4 F_l_mix (zai (dVar 1) (zai (dC (.int 7)) dNil))) (dC (.int 10)))) (gN true 0) zdc (dIx (zbw 1) (dMod (za4 F_l_mix (zai (dAdd (dVar 2) (dMul (dVar 0) (dVar 0))) ‹46›)) (dC (.int 26))))))))
      zbq)
 (sSeq (sIf (dT (dEq false (dVar 3) ‹28›))
 (sRet (zs5 (dVar 2) (dIx (dVar 4) (dMod (za4 F_l_mix (zai (dVar 1) (zai (dC (.int 7)) dNil))) (dC (.int 26))))))
      zbq)
 (sSeq (sIf (dT (dEq false (dVar 3) ‹92›))
 (sRet (zs5 (dUp (dSlT (dVar 2) zd8 (zdw ‹28›))) (zm6 (dVar 2) (zdw ‹28›) zd8)))
      zbq)
 (sSeq (sIf (dT (dEq false (dVar 3) ‹91›))
 (sRet (dSlT (dVar 2) zd8 (zdw (dNeg ‹28›))))
      zbq)
 (sRet (zbw 2)))))))))
@[irreducible] noncomputable def F_l_word:List D→Option D:=runD 5 [false,false] zl2
theorem zk7:F_l_word=runD 5 [false,false] zl2:=by unfold F_l_word; rfl
theorem zhb (x0:D):stD 4 [false] [x0]=[.bo x0,.un,.un,.un]:=rfl
noncomputable def zdz:DS:=(sSeq (sSet 1 (dC .non))
    (sOrC (za4 zap ‹46›) (zsj 4 1 (za4 zap ‹46›) ([true,false,false]++[true]))
    (sOrC (za4 za5 ‹46›) (zsj 4 1 (za4 za5 ‹46›) ([false,false,true]++[true]))
    (zsj 4 1 (za4 zbx ‹46›) ([false,true,false]++[true])))))
@[irreducible] noncomputable def F_l_refused:List D→Option D:=runD 4 [false] zdz
theorem zdu:F_l_refused=runD 4 [false] zdz:=by unfold F_l_refused; rfl
theorem zuw (x0:D):stD 2 [false] [x0]=[.bo x0,.un]:=rfl
noncomputable def zkd:DS:=(sSeq (sIf (dOr (dT (dLt ‹31› ‹28›)) (dT (dGt ‹31› (dC (.int 8)))))
 ‹60›
      zbq)
 (sSeq (sFor (zis (dVar 0)) (gN true 1)
 (sIf (dT (z55 (dVar 1) (dC (.str "abcdefghijklmnopqrstuvwxyz"))))
 ‹60›
      zbq))
 (sRet (dC (.bl true)))))
@[irreducible] noncomputable def F_l_small:List D→Option D:=runD 2 [false] zkd
theorem zj9:F_l_small=runD 2 [false] zkd:=by unfold F_l_small; rfl
theorem z4f (x0:D):stD 10 [false] [x0]=[.bo x0,.un,.un,.un,.un,.un,.un,.un,.un,.un]:=rfl
noncomputable def z0z:DS:=(sSeq (sFor (asL (dLst (dCat (dLst (zai (dC (.int 30)) dNil)) (dLst (zvj (dSl (dVar 0) zd8 (zdw (dC (.int 63))))))))) (gN true 1)
 (sSeq (sSet 2 (dMod (dVar 1) (dC (.int 6))))
 (sSeq (sSet 3 (za4 F_l_word (zai (dVar 2) (zai (dVar 1) dNil))))
 (sSeq (sSet 4 (za4 F_l_bent (zai (za4 F_l_rows (zai (dVar 2) (zai (dVar 1) dNil))) (zai (dVar 1) dNil))))
 (sSeq (sSet 5 (dMod (za4 F_l_mix (zai (dVar 1) (zai (dC (.int 8)) dNil))) (dC (.int 16))))
 (sSeq (sSet 6 (zs5 (zs5 (zs5 (dVar 3) (zru (dIx (dLst (zai (dC (.str " ")) (zai (dC (.str " ")) (zai (dC (.str "")) (zai (dC (.str "  ")) dNil))))) (zvp ‹91› (dVar 5))) (dF1 intD (dLt (dVar 5) (dC (.int 4)))))) (zru (dC (.str " ")) (dF1 intD (dGt (dVar 5) ‹91›)))) (za4 F_l_shown (zai (dVar 4) dNil))))
 (sSeq (sSet 7 (dIn false (dVar 5) (dTup (zai ‹92› (zai ‹91› dNil)))))
 (sSeq (sIf (dT (dEq false (dVar 5) (dC (.int 4))))
 (sSeq (sSet 6 (zs5 (dVar 6) (dIx (dLst (zai (dC (.str " ")) (zai (dC (.str " /")) (zai (dC (.str "x")) (zai (dC (.str " +1")) (zai (dC (.str " -0")) (zai (dC (.str ".")) dNil))))))) (dMod (za4 F_l_mix (zai (dVar 1) (zai (dC (.int 9)) dNil))) (dC (.int 6))))))
 (sSet 7 (dC (.bl true))))
      zbq)
 (sSeq (sSet 8 ‹37›)
 (sSeq (sIf (dOr (dTru (dVar 7)) (dNot (dTru (za4 F_l_small (zai (dVar 3) dNil)))))
 (sSet 8 ‹28›)
 (sIf (dT (dInX true (dVar 3) (za4 F_l_words dNil)))
 (sSet 8 ‹92›)
 (sSet 8 (dMul ‹91› (dF1 intD (zpn (zig [(656,F_Alike_fits),(715,F_Open_fits),(774,F_Tails_fits),(831,F_Windows_fits),(951,F_Tree_fits),(1015,F_Pairs_fits)] (za4 F_kind_of (zai (dVar 3) dNil)) (zai (dLst ‹62›) dNil))))))))
 (sIf (dT (dGt (dVar 8) ‹37›))
 (sIf (dT (dEq true (za4 F_l_refused (zai (dVar 6) dNil)) (dLst (zai (dEq false (dVar 8) ‹28›) (zai (dEq false (dVar 8) ‹92›) (zai (dEq false (dVar 8) ‹91›) (zai (dC (.bl true)) dNil)))))))
 ‹60›
      zbq)
 (sSeq (sSet 9 (za4 F_read_floor (zai (dVar 6) dNil)))
 (sIf (dOr (dNot (dTru (dIsi "tuple" (dVar 9)))) (dOr (dT (dEq true (dF1 lenD (dVar 9)) ‹92›)) (dOr (dT (dEq true (dIx (dVar 9) ‹37›) (dVar 3))) (dT (dEq true (dIx (dVar 9) ‹28›) (dVar 4))))))
 ‹60›
      zbq)))))))))))))
 (sRet (dC (.bl true))))
@[irreducible] noncomputable def F_law:List D→Option D:=runD 10 [false] z0z
theorem zr4:F_law=runD 10 [false] z0z:=by unfold F_law; rfl
end
section
variable [Tabs] {P:Program} {w:World} {K:PySem.W.Frag} {mg:Str→Option Value} {base:Heap} {ad:Adr}
theorem ze9 (T:Txt K mg ad):FnOk P w K mg base CX0 1 ad.f_tells_one ad.d_tells_one ["numbers", "least", "most"] (spD .v K [false,false,false] F_tells_one):=by
  rw [zhn]
  exact Fun.okD (N:=["numbers", "least", "most"]) T.F_tells_one zql [false,false,false] rfl zgk fun cdv A outer s H E hr=>⟨_,
 (zah (zaz (zim (zcv ‹19› ‹8› zaf (za8 _)) (zjo (zt1 zg6 zg6 (pv 1) (zbn ‹16› (pv 0) zaf ‹25›) (pv 2)))))),
 (za6 (zfn (SemI.b (zcz (neg:=false) ‹38› ‹11›)) (zd0 (p:=fun i j=>decide (i≤j)) (q:=fun i j=>decide (i≤j)) (zac 1) (zch (zac 0) ‹11›) (zac 2))))⟩
theorem zej (T:Txt K mg ad):FnOk P w K mg base CX0 1 ad.f_none_below ad.d_none_below ["numbers", "least"] (spD .v K [false,false] F_none_below):=by
  rw [zgx]
  exact Fun.okD (N:=["numbers", "least"]) T.F_none_below zos [false,false] rfl zff fun cdv A outer s H E hr=>⟨_,
 (zah (zaz (zar (zes (K:=K) rfl rfl) rfl T.z_all znc (zaa (zeh rfl (zb4 (K:=K) rfl (pv 0)) (ts:=["number"]) (zs:=["least"]) (k:=1) (is:=[1]) rfl ‹117› ‹9› rfl rfl rfl (zbi ‹3›) ‹2› (fun _ _ _ _ _=>(zcv z5c (pv 0) (pv 1) (za8 _))) rfl rfl ‹10›) zad)))),
 (za6 (zmi (SemI.b (SemF.l (zc1 (m:=false) (k:=1) (cs:=[1]) (zl9 (zac 0)) (zbd 0) zco (z4o (zac 0) (zac 1)))))))⟩
theorem zrc (T:Txt K mg ad):FnOk P w K mg base CX0 1 ad.f_either ad.d_either ["truths", "others"] (spD .v K [false,false] F_either):=by
  rw [zla]
  exact Fun.okD (N:=["truths", "others"]) T.F_either zw6 [false,false] rfl zl5 fun cdv A outer s H E hr=>⟨_,
 (zah (zaz (zeh rfl (z41 (K:=K) rfl rfl T.z_zip (zaa (pv 0) ‹104›)) (ts:=["one", "other"]) (zs:=[]) (k:=2) (is:=[]) rfl .nil .nil rfl rfl rfl (z3g (zrh (zbi ‹3›) (zrh (zbi ‹3›) z0a))) (fun _ _ _ _ _=>(zsm (K:=K) rfl rfl (zh3 (pgbC (i:=0) ‹10› rfl ‹20› (Or.inr rfl)) (zh3 (pgbC (i:=1) ‹10› rfl ‹20› (Or.inr rfl)) zsl)))) (fun _ _ _ _ _=>(z45 (pv 0) (zjo (pv 1)))) rfl rfl ‹10›))),
 (za6 (SemF.l (zc1 (m:=true) (k:=2) (cs:=[]) (zzn (zac 0) (zac 1)) (z2z (zhy (zbd 0) (zhy (zbd 1) zsg))) zco (z1f (zac 0) (zbj 1)))))⟩
theorem znk (T:Txt K mg ad):FnOk P w K mg base (CXE P w) 1 ad.f_told_order ad.d_told_order ["many", "needs"] (spX K [false,false] ad.c_NoOrder zea):=by
  rw [zgu]
  exact Fun.okX (N:=["many", "needs", "before", "first", "later"]) T.F_told_order sc_told_order [false,false] rfl zem fun cdv A outer s H E hr=>⟨_,
 (zag (ztx (i:=2) sc_told_order.nd rfl rfl rfl (zcu rfl T.z_range ‹26›) (ts:=["work"]) (zs:=["many"]) (k:=1) (is:=[0]) rfl ‹117› ‹9› rfl rfl rfl (zbi ‹3›) ‹2› (fun _ _ _ _ _=>(zbh z1r (zbu (zaa zev zad)) (pv 1))) rfl rfl ‹10›)
 (zag (zfu PassesOwn.leaving rfl (zb4 (K:=K) rfl (pv 1)) (zsm (K:=K) rfl rfl (zh3 (zc9 (i:=3) sc_told_order.nd rfl ‹20›) (zh3 (zc9 (i:=4) sc_told_order.nd rfl ‹20›) zsl)))
 (zag (zbt ‹145›
 (zah (ze8 (E:=E) (C:=ad.c_NoOrder) (fun _ _ h=>h) ⟨rfl,rfl,rfl⟩ rfl PySem.F.excBase_ValueError rfl T.m_NoOrder T.q_NoOrder (zaa (zso (PParts.val (pv 3) (PParts.text ‹3› (PParts.val (pv 4) (PParts.text ‹3› PParts.nil))))) zad)))
 zaw)
 (zah (zq0 zev (zq1 (zbn ‹16› (pv 2) (pv 3) ‹25›) (pv 4) zjh)))))
 (zah zci))),
 (zam (ztl (zwx (m:=true) (k:=1) (cs:=[0]) (SemW.c (zcn (zac 0))) (zbd 0) zco (z1i (zb3 (n:=1) (zaq zft zak) ‹3›) (zac 1))))
 (zam (zfs (m:=false) (zje (zqe 1)) (z2z (zhy (zbd 3) (zhy (zbd 4) zsg)))
 (zam (zb0 (zc7 (z08 (za0 (SemI.b (zd0 (p:=fun i j=>decide (i≤j)) (q:=fun i j=>decide (i<j)) ‹11› (zac 3) (zac 0)))) (za0 (SemI.b (zd0 (p:=fun i j=>decide (i≤j)) (q:=fun i j=>decide (i<j)) ‹11› (zac 4) (zac 0))))))
 (zmf (SemJ.cons (zac 3) (SemJ.cons (zac 4) SemJ.nil)))
 zay)
 (zws zft (zac 3) (zac 4))))
 zbz))⟩
theorem zjr (T:Txt K mg ad):FnOk P w K mg base CX0 1 ad.f_told_order ad.d_told_order ["many", "needs"] (spD .l K [false,false] F_told_order):=by
  rw [zgv]
  exact Fun.okF (N:=["many", "needs", "before", "first", "later"]) T.F_told_order sc_told_order [false,false] rfl zfd fun cdv A outer s H E hr=>⟨_,
 (zag (ztx (i:=2) sc_told_order.nd rfl rfl rfl (zcu rfl T.z_range ‹26›) (ts:=["work"]) (zs:=["many"]) (k:=1) (is:=[0]) rfl ‹117› ‹9› rfl rfl rfl (zbi ‹3›) ‹2› (fun _ _ _ _ _=>(zbh z1r (zbu (zaa zev zad)) (pv 1))) rfl rfl ‹10›)
 (zag (zfu PassesOwn.never rfl (zb4 (K:=K) rfl (pv 1)) (zsm (K:=K) rfl rfl (zh3 (zc9 (i:=3) sc_told_order.nd rfl ‹20›) (zh3 (zc9 (i:=4) sc_told_order.nd rfl ‹20›) zsl)))
 (zag (zbt ‹145›
 (zah zci)
 zaw)
 (zah (zq0 zev (zq1 (zbn ‹16› (pv 2) (pv 3) ‹25›) (pv 4) zjh)))))
 (zah (zaz (pv 2))))),
 (zam (ztl (zwx (m:=true) (k:=1) (cs:=[0]) (SemW.c (zcn (zac 0))) (zbd 0) zco (z1i (zb3 (n:=1) (zaq zft zak) ‹3›) (zac 1))))
 (zam (zfs (m:=false) (zje (zqe 1)) (z2z (zhy (zbd 3) (zhy (zbd 4) zsg)))
 (zam (zb0 (zc7 (z08 (za0 (SemI.b (zd0 (p:=fun i j=>decide (i≤j)) (q:=fun i j=>decide (i<j)) ‹11› (zac 3) (zac 0)))) (za0 (SemI.b (zd0 (p:=fun i j=>decide (i≤j)) (q:=fun i j=>decide (i<j)) ‹11› (zac 4) (zac 0))))))
 zbz
 zay)
 (zws zft (zac 3) (zac 4))))
 (z2s 2 z2q)))⟩
theorem zrf (T:Txt K mg ad):FnOk P w K mg base (CXE P w) 2 ad.f_ahead_of ad.d_ahead_of ["many", "needs"] (spX K [false,false] ad.c_NoOrder zfy):=by
  rw [ziu]
  exact Fun.okX (N:=["many", "needs", "before", "between", "first"]) T.F_ahead_of sc_ahead_of [false,false] rfl zgs fun cdv A outer s H E hr=>⟨_,
 (zag (zu6 (zbe (i:=2) sc_ahead_of.nd rfl (Or.inr rfl) (zau (znk T) ‹1› rfl T.m_told_order T.F_told_order.kp T.b_told_order .nil ‹129› (zaa (pv 0) ‹104›))) (zbe (i:=2) sc_ahead_of.nd rfl (Or.inr rfl) (zau (zjr T) ‹1› rfl T.m_told_order T.F_told_order.kp T.b_told_order .nil zbr (zaa (pv 0) ‹104›))))
 (zag (zfu PassesOwn.leaving rfl (zcu rfl T.z_range ‹26›) (zc9 (i:=3) sc_ahead_of.nd rfl ‹20›)
 (zah (zfu PassesOwn.leaving rfl (zcu rfl T.z_range ‹26›) (zc9 (i:=4) sc_ahead_of.nd rfl ‹20›)
 (zah (zbt (za7 (K:=K) rfl (zbn ‹16› (zbn ‹16› (pv 2) (pv 4) ‹25›) (pv 3) ‹25›) ‹107›)
 (zah (zq0 (zau (zrc T) ‹1› rfl T.m_either T.F_either.kp T.b_either .nil zbr (zaa (zbn ‹16› (pv 2) (pv 4) ‹25›) (zaa (zbn ‹16› (pv 2) (pv 3) ‹25›) zad))) (zq1 (pv 2) (pv 4) zjh)))
 zaw)))))
 (zag (zbt (za7 (K:=K) rfl (zar (zrz (K:=K) rfl rfl) rfl T.z_any z13 (zaa (zeh rfl (zcu rfl T.z_range ‹26›) (ts:=["work"]) (zs:=["before"]) (k:=1) (is:=[2]) rfl ‹117› ‹9› rfl rfl rfl (zbi ‹3›) ‹2› (fun _ _ _ _ _=>(zbn ‹16› (zbn ‹16› (pv 1) (pv 0) ‹25›) (pv 0) ‹25›)) rfl rfl ‹10›) zad)) ‹107›)
 (zah (ze8 (E:=E) (C:=ad.c_NoOrder) (fun _ _ h=>h) ⟨rfl,rfl,rfl⟩ rfl PySem.F.excBase_ValueError rfl T.m_NoOrder T.q_NoOrder (zaa zbk zad)))
 zaw)
 (zah zci)))),
 (zam (z4g (zwn (zan (zac 0) (zan (zac 1) zak))) (zom (zw5 (zan (zac 0) (zan (zac 1) zak)))))
 (zam (zfs (m:=true) (zcn (zac 0)) (zbd 3)
 (zfs (m:=true) (zcn (zac 0)) (zbd 4)
 (zb0 (zc4 (K:=K) (zch (zch (zac 2) (zac 4)) (zac 3)))
 (zwt (zav (zan (zch (zac 2) (zac 4)) (zan (zch (zac 2) (zac 3)) zak))) (zac 4))
 zay)))
 (zam (zb0 ‹70›
 zwr
 zay)
 zbz)))⟩
theorem zsq (T:Txt K mg ad):FnOk P w K mg base CX0 2 ad.f_ahead_of ad.d_ahead_of ["many", "needs"] (spD .v K [false,false] F_ahead_of):=by
  rw [zix]
  exact Fun.okD (N:=["many", "needs", "before", "between", "first"]) T.F_ahead_of sc_ahead_of [false,false] rfl zie fun cdv A outer s H E hr=>⟨_,
 (zag (zbe (i:=2) sc_ahead_of.nd rfl (Or.inr rfl) (zau (zjr T) ‹1› rfl T.m_told_order T.F_told_order.kp T.b_told_order .nil zbr (zaa (pv 0) ‹104›)))
 (zag (zfu PassesOwn.never rfl (zcu rfl T.z_range ‹26›) (zc9 (i:=3) sc_ahead_of.nd rfl ‹20›)
 (zah (zfu PassesOwn.never rfl (zcu rfl T.z_range ‹26›) (zc9 (i:=4) sc_ahead_of.nd rfl ‹20›)
 (zah (zbt (za7 (K:=K) rfl (zbn ‹16› (zbn ‹16› (pv 2) (pv 4) ‹25›) (pv 3) ‹25›) ‹107›)
 (zah (zq0 (zau (zrc T) ‹1› rfl T.m_either T.F_either.kp T.b_either .nil zbr (zaa (zbn ‹16› (pv 2) (pv 4) ‹25›) (zaa (zbn ‹16› (pv 2) (pv 3) ‹25›) zad))) (zq1 (pv 2) (pv 4) zjh)))
 zaw)))))
 (zag (zbt (za7 (K:=K) rfl (zar (zrz (K:=K) rfl rfl) rfl T.z_any z13 (zaa (zeh rfl (zcu rfl T.z_range ‹26›) (ts:=["work"]) (zs:=["before"]) (k:=1) (is:=[2]) rfl ‹117› ‹9› rfl rfl rfl (zbi ‹3›) ‹2› (fun _ _ _ _ _=>(zbn ‹16› (zbn ‹16› (pv 1) (pv 0) ‹25›) (pv 0) ‹25›)) rfl rfl ‹10›) zad)) ‹107›)
 (zah zci)
 zaw)
 (zah (zaz (zeh rfl (zb4 (K:=K) rfl (pv 2)) (ts:=["row"]) (zs:=["many"]) (k:=1) (is:=[0]) rfl ‹117› ‹9› rfl rfl rfl (zbi ‹3›) (fun _ _ _ _ _=>(pgbC (i:=0) ‹10› rfl (Or.inr rfl) ‹20›)) (fun _ _ _ _ _=>(z47 rfl (zcu rfl T.z_range ‹104›) (ts:=["later"]) (zs:=["row"]) (k:=1) (is:=[0]) rfl ‹117› (.cons rfl ‹13› rfl ‹13› .nil) rfl rfl rfl (zbi ‹3›) ‹2› (fun _ _ _ _ _=>(za7 (K:=K) rfl (zbn ‹16› (pv 1) (pv 0) ‹25›) ‹107›)) (fun _ _ _ _ _=>(pv 0)) rfl rfl ‹10›)) rfl rfl ‹10›)))))),
 (zam (zom (zw5 (zan (zac 0) (zan (zac 1) zak))))
 (zam (zfs (m:=true) (zcn (zac 0)) (zbd 3)
 (zfs (m:=true) (zcn (zac 0)) (zbd 4)
 (zb0 (zc4 (K:=K) (zch (zch (zac 2) (zac 4)) (zac 3)))
 (zwt (zav (zan (zch (zac 2) (zac 4)) (zan (zch (zac 2) (zac 3)) zak))) (zac 4))
 zay)))
 (zam (zb0 ‹70›
 zbz
 zay)
 (za6 (SemF.l (zc1 (m:=false) (k:=1) (cs:=[0]) (zl9 (zac 2)) (zbd 0) zco (SemF.l (zc1 (m:=true) (k:=1) (cs:=[0]) (SemW.c (zcn (zac 1))) (zbd 0) (zc4 (K:=K) (zch (zac 1) (zac 0))) (zbj 0)))))))))⟩
theorem zre (T:Txt K mg ad):FnOk P w K mg base (CXE P w) 1 ad.f_level_of ad.d_level_of ["behind", "work"] (spX K [false,false] ad.c_NoOrder zfx):=by
  rw [zit]
  exact Fun.okX (N:=["behind", "work", "level", "later"]) T.F_level_of sc_level_of [false,false] rfl zgr fun cdv A outer s H E hr=>⟨_,
 (zag (zbe (i:=2) sc_level_of.nd rfl ‹20› zaf)
 (zag (zbe (i:=3) sc_level_of.nd rfl ‹20› (zbn ‹16› (pv 0) (pv 1) ‹25›))
 (zag (ztw PassesOwn.leaving (za9 ‹130› (pv 3) (zsn zl8 zaf) (za8 _))
 (zag (z1o (i:=2) sc_level_of.nd rfl ‹20› zaf z1v)
 (zag (zbt (za9 zra (pv 2) ‹8› (za8 _))
 (zah (ze8 (E:=E) (C:=ad.c_NoOrder) (fun _ _ h=>h) ⟨rfl,rfl,rfl⟩ rfl PySem.F.excBase_ValueError rfl T.m_NoOrder T.q_NoOrder (zaa (zso (PParts.text ‹3› (PParts.val (pv 1) (PParts.text ‹3› PParts.nil)))) zad)))
 zaw)
 (zah (zbe (i:=3) sc_level_of.nd rfl ‹20› (zbn ‹16› (pv 0) (pv 3) ‹25›))))))
 (zah zci)))),
 (zam (zbl zae)
 (zam (zbl (SemB.i (zch (zac 0) (zac 1))))
 (zam (ztk (za0 (SemI.b (zcz (neg:=true) (zac 3) (SemI.b (zmg ‹11›)))))
 (zam (z1b ‹11›)
 (zam (zb0 (za0 (SemI.b (zqj (zac 2) ‹38›)))
 (zmf (SemJ.cons (zac 1) SemJ.nil))
 zay)
 (zbl (SemB.i (zch (zac 0) (zac 3)))))))
 zbz)))⟩
theorem zmq (T:Txt K mg ad):FnOk P w K mg base CX0 1 ad.f_level_of ad.d_level_of ["behind", "work"] (spD .v K [false,false] F_level_of):=by
  rw [ziw]
  exact Fun.okD (N:=["behind", "work", "level", "later"]) T.F_level_of sc_level_of [false,false] rfl zid fun cdv A outer s H E hr=>⟨_,
 (zag (zbe (i:=2) sc_level_of.nd rfl ‹20› zaf)
 (zag (zbe (i:=3) sc_level_of.nd rfl ‹20› (zbn ‹16› (pv 0) (pv 1) ‹25›))
 (zag (ztw PassesOwn.never (za9 ‹130› (pv 3) (zsn zl8 zaf) (za8 _))
 (zag (z1o (i:=2) sc_level_of.nd rfl ‹20› zaf z1v)
 (zag (zbt (za9 zra (pv 2) ‹8› (za8 _))
 (zah zci)
 zaw)
 (zah (zbe (i:=3) sc_level_of.nd rfl ‹20› (zbn ‹16› (pv 0) (pv 3) ‹25›))))))
 (zah (zaz (pv 2)))))),
 (zam (zbl zae)
 (zam (zbl (SemB.i (zch (zac 0) (zac 1))))
 (zam (ztk (za0 (SemI.b (zcz (neg:=true) (zac 3) (SemI.b (zmg ‹11›)))))
 (zam (z1b ‹11›)
 (zam (zb0 (za0 (SemI.b (zqj (zac 2) ‹38›)))
 zbz
 zay)
 (zbl (SemB.i (zch (zac 0) (zac 3)))))))
 (za6 (zbj 2)))))⟩
theorem zvb (T:Txt K mg ad):FnOk P w K mg base (CXE P w) 2 ad.f_levels ad.d_levels ["behind"] (spX K [false] ad.c_NoOrder zj6):=by
  rw [zk4]
  exact Fun.okX (N:=["behind", "later"]) T.F_levels sc_levels [false] rfl zkg fun cdv A outer s H E hr=>⟨_,
 (zag (zfu PassesOwn.leaving rfl (zb4 (K:=K) rfl (pv 0)) (zc9 (i:=1) sc_levels.nd rfl ‹20›)
 (zah (zbt (zc5 (ze7 zg6 zq8 (zsn zl8 zaf) (pv 1) ‹8›))
 (zah (ze8 (E:=E) (C:=ad.c_NoOrder) (fun _ _ h=>h) ⟨rfl,rfl,rfl⟩ rfl PySem.F.excBase_ValueError rfl T.m_NoOrder T.q_NoOrder (zaa (zso (PParts.text ‹3› (PParts.val (pv 1) PParts.nil))) zad)))
 zaw)))
 (zah (zaz (z29 (E:=E) (fun _ _ h=>h) ⟨rfl,rfl,rfl⟩ rfl (zcu rfl T.z_range (zaa ‹8› zad)) (ts:=["work"]) (zs:=["behind"]) (k:=1) (is:=[0]) rfl ‹117› ‹9› rfl (zbi ‹3›) (fun _ _ _ _ _ _=>(pgbX ‹10› rfl rfl)) (fun _ _ _ _ _ _ px=>(zxt (zau (zmq T) ‹1› rfl T.m_level_of T.F_level_of.kp T.b_level_of .nil zbr (zaa (pv 1) ‹26›)) (zau (zre T) ‹1› rfl T.m_level_of T.F_level_of.kp T.b_level_of .nil px (zaa (pv 1) ‹26›)))) rfl ‹10› rfl ‹10›)))),
 (zam (zfs (m:=false) (zje (zqe 0)) (zbd 1)
 (zb0 (zc7 (za0 (SemI.b (zd0 (p:=fun i j=>decide (i≤j)) (q:=fun i j=>decide (i<j)) (SemI.b (zmg ‹11›)) (zac 1) ‹38›))))
 (zmf (SemJ.cons (zac 1) SemJ.nil))
 zay))
 (zol (m:=true) (k:=1) (cs:=[0]) (SemW.c (zcn ‹38›)) (zbd 0) (zav (zan (zac 1) ‹88›)) (zan (zac 1) ‹88›)))⟩
theorem zx0 (T:Txt K mg ad):FnOk P w K mg base CX0 2 ad.f_levels ad.d_levels ["behind"] (spD .v K [false] F_levels):=by
  rw [zk6]
  exact Fun.okD (N:=["behind", "later"]) T.F_levels sc_levels [false] rfl zl1 fun cdv A outer s H E hr=>⟨_,
 (zag (zfu PassesOwn.never rfl (zb4 (K:=K) rfl (pv 0)) (zc9 (i:=1) sc_levels.nd rfl ‹20›)
 (zah (zbt (zc5 (ze7 zg6 zq8 (zsn zl8 zaf) (pv 1) ‹8›))
 (zah zci)
 zaw)))
 (zah (zaz (zeh rfl (zcu rfl T.z_range (zaa ‹8› zad)) (ts:=["work"]) (zs:=["behind"]) (k:=1) (is:=[0]) rfl ‹117› ‹9› rfl rfl rfl (zbi ‹3›) ‹2› (fun _ _ _ _ _=>(zau (zmq T) ‹1› rfl T.m_level_of T.F_level_of.kp T.b_level_of .nil zbr (zaa (pv 1) ‹26›))) rfl rfl ‹10›)))),
 (zam (zfs (m:=false) (zje (zqe 0)) (zbd 1)
 (zb0 (zc7 (za0 (SemI.b (zd0 (p:=fun i j=>decide (i≤j)) (q:=fun i j=>decide (i<j)) (SemI.b (zmg ‹11›)) (zac 1) ‹38›))))
 zbz
 zay))
 (za6 (SemF.l (zc1 (m:=true) (k:=1) (cs:=[0]) (SemW.c (zcn ‹38›)) (zbd 0) zco (zav (zan (zac 1) ‹88›))))))⟩
theorem zju (T:Txt K mg ad):FnOk P w K mg base CX0 1 ad.f_Alike_word ad.d_Alike_word ["self"] (spD .v K [false] F_Alike_word):=by
  rw [zg2]
  exact Fun.okD (N:=["self"]) T.F_Alike_word zox [false] rfl zfk fun cdv A outer s H E hr=>⟨_,
 (zah (zaz zbk)),
 (za6 zbf)⟩
theorem zdr (T:Txt K mg ad):FnOk P w K mg base CX0 2 ad.f_Alike_fits ad.d_Alike_fits ["self", "rows"] (spD .v K [false,true] F_Alike_fits):=by
  rw [zg3]
  exact Fun.okD (N:=["self", "rows"]) T.F_Alike_fits zoy [false,true] rfl zfl fun cdv A outer s H E hr=>⟨_,
 (zag (zbt (PW.pt (zi3 (za9 ‹130› (zar ‹35› rfl T.z_len zcg ‹104›) zaf (za8 _)) (zhd (zc5 (za7 (K:=K) rfl (zau (ze9 T) ‹1› rfl T.m_tells_one T.F_tells_one.kp T.b_tells_one .nil zbr (zaa ‹7› (zaa zaf ‹79›))) ‹107›)))))
 ‹111›
 zaw)
 (zah (zaz (zim (zcv zg6 (zar ‹35› rfl T.z_len zcg (zaa ‹7› zad)) zaf (za8 _)) (zjo (zau (zej T) ‹1› rfl T.m_none_below T.F_none_below.kp T.b_none_below .nil zbr (zaa ‹7› ‹79›))))))),
 (zam (zb0 (zjg (za0 (SemI.b (zcz (neg:=true) (SemI.b (zce (zac 1))) ‹11›))) (zc7 (zc4 (K:=K) (SemI.b (zav (zan (zch (zac 1) ‹11›) (zan ‹11› (zan ‹11› zak))))))))
 (za6 zft)
 zay)
 (za6 (zfn (SemI.b (zzq (SemI.b (zce (zch (zac 1) ‹11›))) ‹11›)) (zav (zan (zch (zac 1) ‹11›) (zan ‹11› zak))))))⟩
theorem zk0 (T:Txt K mg ad):FnOk P w K mg base CX0 1 ad.f_Open_word ad.d_Open_word ["self"] (spD .v K [false] F_Open_word):=by
  rw [zhs]
  exact Fun.okD (N:=["self"]) T.F_Open_word zqo [false] rfl zgp fun cdv A outer s H E hr=>⟨_,
 (zah (zaz zbk)),
 (za6 zbf)⟩
theorem zd7 (T:Txt K mg ad):FnOk P w K mg base CX0 2 ad.f_Open_fits ad.d_Open_fits ["self", "rows"] (spD .v K [false,true] F_Open_fits):=by
  rw [zht]
  exact Fun.okD (N:=["self", "rows"]) T.F_Open_fits zqp [false,true] rfl zgq fun cdv A outer s H E hr=>⟨_,
 (zag (zbt (za9 zra (zar ‹35› rfl T.z_len zcg ‹104›) zaf (za8 _))
 ‹111›
 zaw)
 (zah (zaz (zar (zes (K:=K) rfl rfl) rfl T.z_all znc (zaa (zeh rfl (zb4 (K:=K) rfl (pv 1)) (ts:=["row"]) (zs:=["rows"]) (k:=1) (is:=[1]) rfl ‹117› ‹9› rfl rfl rfl (zbi ‹3›) ‹2› (fun _ _ _ _ _=>(zim (zcv ‹19› ‹8› (zar ‹35› rfl T.z_len zcg (zaa ‹7› zad)) (za8 _)) (zim (zcv zg6 ‹8› zaf (za8 _)) (zjo (zau (zej T) ‹1› rfl T.m_none_below T.F_none_below.kp T.b_none_below .nil zbr (zaa (pv 0) ‹79›)))))) rfl rfl ‹10›) zad))))),
 (zam (zb0 (za0 (SemI.b (zqj (SemI.b (zce (zac 1))) ‹11›)))
 (za6 zft)
 zay)
 (za6 (zmi (SemI.b (SemF.l (zc1 (m:=true) (k:=1) (cs:=[1]) (SemW.c (zec (zbj 1))) (zbd 0) zco (zfn (SemI.b (zcz (neg:=false) ‹38› (SemI.b (zce (zch (zac 1) ‹11›))))) (zfn (SemI.b (zzq ‹38› ‹11›)) (zav (zan (zac 0) (zan ‹11› zak)))))))))))⟩
theorem zjs (T:Txt K mg ad):FnOk P w K mg base CX0 1 ad.f_Tails_word ad.d_Tails_word ["self"] (spD .v K [false] F_Tails_word):=by
  rw [zgy]
  exact Fun.okD (N:=["self"]) T.F_Tails_word zot [false] rfl zfg fun cdv A outer s H E hr=>⟨_,
 (zah (zaz zbk)),
 (za6 zbf)⟩
theorem zdp (T:Txt K mg ad):FnOk P w K mg base CX0 2 ad.f_Tails_fits ad.d_Tails_fits ["self", "rows"] (spD .v K [false,true] F_Tails_fits):=by
  rw [zgz]
  exact Fun.okD (N:=["self", "rows"]) T.F_Tails_fits zou [false,true] rfl zfh fun cdv A outer s H E hr=>⟨_,
 (zah (zaz (zim (zcv zg6 (zar ‹35› rfl T.z_len zcg ‹104›) zaf (za8 _)) (zjo (zar (zes (K:=K) rfl rfl) rfl T.z_all znc (zaa (zeh rfl (zb4 (K:=K) rfl (pv 1)) (ts:=["row"]) (zs:=[]) (k:=1) (is:=[]) rfl .nil .nil rfl rfl rfl (zbi ‹3›) ‹2› (fun _ _ _ _ _=>(zim (zcv ‹19› ‹8› zaf (za8 _)) (zim (zau (zej T) ‹1› rfl T.m_none_below T.F_none_below.kp T.b_none_below .nil zbr (zaa (pv 0) ‹79›)) (zjo (zcv z5c (zbn ‹16› (pv 0) zaf ‹25›) zaf (za8 _)))))) rfl rfl ‹10›) zad)))))),
 (za6 (zfn (SemI.b (zzq (SemI.b (zce (zac 1))) ‹11›)) (zmi (SemI.b (SemF.l (zc1 (m:=true) (k:=1) (cs:=[]) (SemW.c (zec (zbj 1))) (zbd 0) zco (zfn (SemI.b (zcz (neg:=false) ‹38› ‹11›)) (zfn (SemI.b (zav (zan (zac 0) (zan ‹11› zak)))) (z4o (zch (zac 0) ‹11›) ‹11›)))))))))⟩
theorem zhf (T:Txt K mg ad):FnOk P w K mg base CX0 1 ad.f_Windows_word ad.d_Windows_word ["self"] (spD .v K [false] F_Windows_word):=by
  rw [zfb]
  exact Fun.okD (N:=["self"]) T.F_Windows_word zmk [false] rfl zd3 fun cdv A outer s H E hr=>⟨_,
 (zah (zaz zbk)),
 (za6 zbf)⟩
theorem zda (T:Txt K mg ad):FnOk P w K mg base CX0 2 ad.f_Windows_fits ad.d_Windows_fits ["self", "rows"] (spD .v K [false,true] F_Windows_fits):=by
  rw [zfc]
  exact Fun.okD (N:=["self", "rows"]) T.F_Windows_fits zml [false,true] rfl zd4 fun cdv A outer s H E hr=>⟨_,
 (zag (zbt (PW.pt (zi3 (zc5 (ze7 zg6 zg6 zaf (zar ‹35› rfl T.z_len zcg ‹104›) zaf)) (zhd (zc5 (za7 (K:=K) rfl (zau (ze9 T) ‹1› rfl T.m_tells_one T.F_tells_one.kp T.b_tells_one .nil zbr (zaa ‹7› (zaa zaf ‹79›))) ‹107›)))))
 ‹111›
 zaw)
 (zah (zaz (zar (zes (K:=K) rfl rfl) rfl T.z_all znc (zaa (zeh rfl (zb4 (K:=K) rfl (zb5 ‹95› (pv 1) (zcs zaf) zct)) (ts:=["row"]) (zs:=[]) (k:=1) (is:=[]) rfl .nil .nil rfl rfl rfl (zbi ‹3›) ‹2› (fun _ _ _ _ _=>(zim (zcv ‹19› ‹8› zaf (za8 _)) (zim (zau (zej T) ‹1› rfl T.m_none_below T.F_none_below.kp T.b_none_below .nil zbr (zaa (pv 0) ‹79›)) (zjo (zcv zg6 (zbn ‹16› (pv 0) zaf ‹25›) (zbn ‹16› (pv 0) zaf ‹25›) (za8 _)))))) rfl rfl ‹10›) zad))))),
 (zam (zb0 (zjg (zc7 (za0 (SemI.b (zd0 (p:=fun i j=>decide (i≤j)) (q:=fun i j=>decide (i≤j)) ‹11› (SemI.b (zce (zac 1))) ‹11›)))) (zc7 (zc4 (K:=K) (SemI.b (zav (zan (zch (zac 1) ‹11›) (zan ‹11› (zan ‹11› zak))))))))
 (za6 zft)
 zay)
 (za6 (zmi (SemI.b (SemF.l (zc1 (m:=true) (k:=1) (cs:=[]) (SemW.c (zec (SemF.l (zi0 (zbj 1) (zcp ‹11›) zcq)))) (zbd 0) zco (zfn (SemI.b (zcz (neg:=false) ‹38› ‹11›)) (zfn (SemI.b (zav (zan (zac 0) (zan ‹11› zak)))) (zzq (zch (zac 0) ‹11›) (zch (zac 0) ‹11›))))))))))⟩
theorem zkz (T:Txt K mg ad):FnOk P w K mg base CX0 1 ad.f_Tree_word ad.d_Tree_word ["self"] (spD .v K [false] F_Tree_word):=by
  rw [zhq]
  exact Fun.okD (N:=["self"]) T.F_Tree_word zqm [false] rfl zgn fun cdv A outer s H E hr=>⟨_,
 (zah (zaz zbk)),
 (za6 zbf)⟩
theorem zd6 (T:Txt K mg ad):FnOk P w K mg base CX0 3 ad.f_Tree_fits ad.d_Tree_fits ["self", "rows"] (spD .v K [false,true] F_Tree_fits):=by
  rw [zhr]
  exact Fun.okD (N:=["self", "rows"]) T.F_Tree_fits zqn [false,true] rfl zgo fun cdv A outer s H E hr=>⟨_,
 (zag (zbt (PW.pt (zi3 (za9 ‹130› (zar ‹35› rfl T.z_len zcg ‹104›) zaf (za8 _)) (zi3 (zc5 (za7 (K:=K) rfl (zau (ze9 T) ‹1› rfl T.m_tells_one T.F_tells_one.kp T.b_tells_one .nil zbr (zaa ‹7› (zaa zaf ‹79›))) ‹107›)) (zhd (za9 zra (zar ‹35› rfl T.z_len zcg (zaa ‹7› zad)) zaf (za8 _))))))
 ‹111›
 zaw)
 (zag (zu6 (zxn ⟨rfl,rfl,rfl⟩ (zvb T) ‹1› rfl T.m_levels T.F_levels.kp T.b_levels (fun _=>(zaa ‹7› zad)) rfl T.m_NoOrder (fun _ _=>‹111›)) (zxo (fun _=>(zau (zx0 T) ‹1› rfl T.m_levels T.F_levels.kp T.b_levels .nil zbr (zaa ‹7› zad)))))
 ‹111›)),
 (zam (zb0 (zjg (za0 (SemI.b (zcz (neg:=true) (SemI.b (zce (zac 1))) ‹11›))) (zjg (zc7 (zc4 (K:=K) (SemI.b (zav (zan (zch (zac 1) ‹11›) (zan ‹11› (zan ‹11› zak))))))) (za0 (SemI.b (zqj (SemI.b (zce (zch (zac 1) ‹11›))) ‹11›)))))
 (za6 zft)
 zay)
 (zam (zwo (zan (zch (zac 1) ‹11›) zak) T.x_NoOrder_NoOrder (SemI.b (zav (zan (zch (zac 1) ‹11›) zak))) gLvN gLvX)
 (za6 zft)))⟩
theorem zjt (T:Txt K mg ad):FnOk P w K mg base CX0 1 ad.f_Pairs_word ad.d_Pairs_word ["self"] (spD .v K [false] F_Pairs_word):=by
  rw [zg0]
  exact Fun.okD (N:=["self"]) T.F_Pairs_word zov [false] rfl zfi fun cdv A outer s H E hr=>⟨_,
 (zah (zaz zbk)),
 (za6 zbf)⟩
theorem zdq (T:Txt K mg ad):FnOk P w K mg base CX0 3 ad.f_Pairs_fits ad.d_Pairs_fits ["self", "rows"] (spD .v K [false,true] F_Pairs_fits):=by
  rw [zg1]
  exact Fun.okD (N:=["self", "rows"]) T.F_Pairs_fits zow [false,true] rfl zfj fun cdv A outer s H E hr=>⟨_,
 (zag (zbt (PW.pt (zi3 (zc5 (za7 (K:=K) rfl (pv 1) ‹107›)) (zi3 (zc5 (za7 (K:=K) rfl (zau (ze9 T) ‹1› rfl T.m_tells_one T.F_tells_one.kp T.b_tells_one .nil zbr (zaa ‹7› (zaa zaf ‹79›))) ‹107›)) (zhd (zc5 (za7 (K:=K) rfl (zar (zes (K:=K) rfl rfl) rfl T.z_all znc (zaa (zeh rfl (zb4 (K:=K) rfl (zb5 ‹95› (pv 1) (zcs zaf) zct)) (ts:=["row"]) (zs:=[]) (k:=1) (is:=[]) rfl .nil .nil rfl rfl rfl (zbi ‹3›) ‹2› (fun _ _ _ _ _=>(zcv ‹19› ‹8› zaf (za8 _))) rfl rfl ‹10›) zad)) ‹107›))))))
 ‹111›
 zaw)
 (zag (zu6 (zxn ⟨rfl,rfl,rfl⟩ (zrf T) ‹1› rfl T.m_ahead_of T.F_ahead_of.kp T.b_ahead_of (fun _=>(zaa (zbn ‹16› ‹7› zaf ‹25›) (zaa (zb5 ‹95› (pv 1) (zcs zaf) zct) zad))) rfl T.m_NoOrder (fun _ _=>‹111›)) (zxo (fun _=>(zau (zsq T) ‹1› rfl T.m_ahead_of T.F_ahead_of.kp T.b_ahead_of .nil zbr (zaa (zbn ‹16› ‹7› zaf ‹25›) (zaa (zb5 ‹95› (pv 1) (zcs zaf) zct) zad))))))
 ‹111›)),
 (zam (zb0 (zjg (zc7 (zc4 (K:=K) (zac 1))) (zjg (zc7 (zc4 (K:=K) (SemI.b (zav (zan (zch (zac 1) ‹11›) (zan ‹11› (zan ‹11› zak))))))) (zc7 (zc4 (K:=K) (SemI.b (zmi (SemI.b (SemF.l (zc1 (m:=true) (k:=1) (cs:=[]) (SemW.c (zec (SemF.l (zi0 (zbj 1) (zcp ‹11›) zcq)))) (zbd 0) zco (zcz (neg:=false) ‹38› ‹11›))))))))))
 (za6 zft)
 zay)
 (zam (zwo (zan (zch (zch (zac 1) ‹11›) ‹11›) (zan (SemI.b (SemF.l (zi0 (zbj 1) (zcp ‹11›) zcq))) zak)) T.x_NoOrder_NoOrder (SemI.b (zav (zan (zch (zch (zac 1) ‹11›) ‹11›) (zan (SemI.b (SemF.l (zi0 (zbj 1) (zcp ‹11›) zcq))) zak)))) gAhN gAhX)
 (za6 zft)))⟩
theorem zt2 (T:Txt K mg ad):FnOk P w K mg base CX0 1 ad.f_kinds ad.d_kinds [] (spD .l K [] F_kinds):=by
  rw [zni]
  exact Fun.okF (N:=[]) T.F_kinds zzs [] rfl zpz fun cdv A outer s H E hr=>⟨_,
 (zah (zaz (zbu (zaa (zh4 T.mk_Alike rfl T.m_Alike) (zaa (zh4 T.mk_Open rfl T.m_Open) (zaa (zh4 T.mk_Tails rfl T.m_Tails) (zaa (zh4 T.mk_Windows rfl T.m_Windows) (zaa (zh4 T.mk_Tree rfl T.m_Tree) (zaa (zh4 T.mk_Pairs rfl T.m_Pairs) zad))))))))),
 (z2r (zb3 (n:=6) (zaq zkk (zaq zkk (zaq zkk (zaq zkk (zaq zkk (zaq zkk zak)))))) ‹3›))⟩
theorem zsr (T:Txt K mg ad):FnOk P w K mg base (CXE P w) 2 ad.f_kind_of ad.d_kind_of ["word"] (spX K [false] ad.c_NoKind zhm):=by
  rw [zj7]
  exact Fun.okX (N:=["word", "kind"]) T.F_kind_of sc_kind_of [false] rfl zif fun cdv A outer s H E hr=>⟨_,
 (zag (zfu PassesOwn.leaving rfl (zb4 (K:=K) rfl (zlt (zt2 T) ‹1› rfl T.m_kinds T.F_kinds.kp T.b_kinds .nil zbr)) (zc9 (i:=1) sc_kind_of.nd rfl ‹20›)
 (zah (zbt (za9 ‹19› (zq2 (tbl:=spT K [] [(656,F_Alike_word),(715,F_Open_word),(774,F_Tails_word),(831,F_Windows_word),(951,F_Tree_word),(1015,F_Pairs_word)]) (pv 1) (.cons T.ki_Alike.cl T.t_Alike_word (zju T) ‹1› T.b_Alike_word (.cons T.ki_Open.cl T.t_Open_word (zk0 T) ‹1› T.b_Open_word (.cons T.ki_Tails.cl T.t_Tails_word (zjs T) ‹1› T.b_Tails_word (.cons T.ki_Windows.cl T.t_Windows_word (zhf T) ‹1› T.b_Windows_word (.cons T.ki_Tree.cl T.t_Tree_word (zkz T) ‹1› T.b_Tree_word (.cons T.ki_Pairs.cl T.t_Pairs_word (zjt T) ‹1› T.b_Pairs_word .nil))))))) (pv 0) (za8 _))
 (zah zci)
 zaw)))
 (zah (ze8 (E:=E) (C:=ad.c_NoKind) (fun _ _ h=>h) ⟨rfl,rfl,rfl⟩ rfl PySem.F.excBase_ValueError rfl T.m_NoKind T.q_NoKind (zaa (zxs (pv 0)) zad)))),
 (zam (zfs (m:=true) (zec (zav zak)) (zbd 1)
 (zb0 ‹49›
 zbz
 zay))
 (zme (zac 0)))⟩
theorem zh6 (T:Txt K mg ad):FnOk P w K mg base CX0 2 ad.f_kind_of ad.d_kind_of ["word"] (spD .v K [false] F_kind_of):=by
  rw [zgj]
  exact Fun.okD (N:=["word", "kind"]) T.F_kind_of sc_kind_of [false] rfl zhv fun cdv A outer s H E hr=>⟨_,
 (zag (zfu PassesOwn.never rfl (zb4 (K:=K) rfl (zlt (zt2 T) ‹1› rfl T.m_kinds T.F_kinds.kp T.b_kinds .nil zbr)) (zc9 (i:=1) sc_kind_of.nd rfl ‹20›)
 (zah (zbt (za9 ‹19› (zq2 (tbl:=spT K [] [(656,F_Alike_word),(715,F_Open_word),(774,F_Tails_word),(831,F_Windows_word),(951,F_Tree_word),(1015,F_Pairs_word)]) (pv 1) (.cons T.ki_Alike.cl T.t_Alike_word (zju T) ‹1› T.b_Alike_word (.cons T.ki_Open.cl T.t_Open_word (zk0 T) ‹1› T.b_Open_word (.cons T.ki_Tails.cl T.t_Tails_word (zjs T) ‹1› T.b_Tails_word (.cons T.ki_Windows.cl T.t_Windows_word (zhf T) ‹1› T.b_Windows_word (.cons T.ki_Tree.cl T.t_Tree_word (zkz T) ‹1› T.b_Tree_word (.cons T.ki_Pairs.cl T.t_Pairs_word (zjt T) ‹1› T.b_Pairs_word .nil))))))) (pv 0) (za8 _))
 (zah (zaz (pv 1)))
 zaw)))
 (zah zci)),
 (zam (zfs (m:=true) (zec (zav zak)) (zbd 1)
 (zb0 ‹49›
 (za6 (zbj 1))
 zay))
 zbz)⟩
theorem zh7 (T:Txt K mg ad):FnOk P w K mg base CX0 1 ad.f_is_name ad.d_is_name ["text"] (spD .v K [false] F_is_name):=by
  rw [zkb]
  exact Fun.okD (N:=["text"]) T.F_is_name zu1 [false] rfl zkf fun cdv A outer s H E hr=>⟨_,
 (zah (zaz (zim (zt1 zg6 zg6 zaf ‹8› (zt0 rfl T.c_MOST_LETTERS)) (zjo (zar (zes (K:=K) rfl rfl) rfl T.z_all znc (zaa (zeh rfl (zxr (pv 0)) (ts:=["sign"]) (zs:=[]) (k:=1) (is:=[]) rfl .nil .nil rfl rfl rfl (zbi ‹3›) ‹2› (fun _ _ _ _ _=>(zcv zq9 (pv 0) (zh5 rfl T.c_LETTERS) ‹128›)) rfl rfl ‹10›) zad)))))),
 (za6 (zfn (SemI.b (zd0 (p:=fun i j=>decide (i≤j)) (q:=fun i j=>decide (i≤j)) ‹11› ‹38› ‹11›)) (zmi (SemI.b (SemF.l (zc1 (m:=true) (k:=1) (cs:=[]) (SemW.c (zoc (zac 0))) (zbd 0) zco (z1g (zac 0) (SemI.b zbf))))))))⟩
theorem zky (T:Txt K mg ad):FnOk P w K mg base CX0 1 ad.f_is_number ad.d_is_number ["text"] (spD .v K [false] F_is_number):=by
  rw [zhp]
  exact Fun.okD (N:=["text", "figures"]) T.F_is_number sc_is_number [false] rfl zgm fun cdv A outer s H E hr=>⟨_,
 (zag (zbe (i:=1) sc_is_number.nd rfl ‹20› (zzy (za7 (K:=K) rfl (bmK (K:=K) rfl (zjq PySem.F.plainAttrs_str PySem.F.slot_str_startswith PySem.F.type_str_startswith zrg (pv 0) (zaa zbk zad))) ‹107›) (zb5 zw0 (pv 0) (zcs zaf) zct) (pv 0)))
 (zag (zbt (PW.pt (zi3 (zc5 (ze7 zg6 zg6 zaf (zar ‹35› rfl T.z_len zcg ‹104›) (zt0 rfl T.c_MOST_FIGURES))) (zhd (zc5 (za7 (K:=K) rfl (zar (zes (K:=K) rfl rfl) rfl T.z_all znc (zaa (zeh rfl (zxr (pv 1)) (ts:=["sign"]) (zs:=[]) (k:=1) (is:=[]) rfl .nil .nil rfl rfl rfl (zbi ‹3›) ‹2› (fun _ _ _ _ _=>(zcv zq9 (pv 0) (zh5 rfl T.c_FIGURES) ‹128›)) rfl rfl ‹10›) zad)) ‹107›)))))
 ‹111›
 zaw)
 (zah (zaz (z45 (zcv ‹19› (pv 0) zbk (za8 _)) (zjo (z1q (bmK (K:=K) rfl (zjq PySem.F.plainAttrs_str PySem.F.slot_str_startswith PySem.F.type_str_startswith zrg (pv 1) (zaa zbk zad)))))))))),
 (zam (zbl (z6l (zc4 (K:=K) (SemI.b (zqh (zac 0) (SemI.b zbf)))) (zw1 (zac 0) (zcp ‹11›) zcq) (SemB.i (zac 0))))
 (zam (zb0 (zjg (zc7 (za0 (SemI.b (zd0 (p:=fun i j=>decide (i≤j)) (q:=fun i j=>decide (i≤j)) ‹11› (SemI.b (zce (zac 1))) ‹11›)))) (zc7 (zc4 (K:=K) (SemI.b (zmi (SemI.b (SemF.l (zc1 (m:=true) (k:=1) (cs:=[]) (SemW.c (zoc (zac 1))) (zbd 0) zco (z1g (zac 0) (SemI.b zbf))))))))))
 (za6 zft)
 zay)
 (za6 (z1f ‹65› (zw2 (SemI.b (zqh (zac 1) (SemI.b zbf))))))))⟩
theorem zmr (T:Txt K mg ad):FnOk P w K mg base (CXE P w) 2 ad.f_read_number ad.d_read_number ["text"] (spX K [false] ad.c_NoText zdd):=by
  rw [zdy]
  exact Fun.okX (N:=["text"]) T.F_read_number zij [false] rfl zdi fun cdv A outer s H E hr=>⟨_,
 (zag (zbt (zc5 (za7 (K:=K) rfl (zau (zky T) ‹1› rfl T.m_is_number T.F_is_number.kp T.b_is_number .nil zbr ‹26›) ‹107›))
 (zah (ze8 (E:=E) (C:=ad.c_NoText) (fun _ _ h=>h) ⟨rfl,rfl,rfl⟩ rfl PySem.F.excBase_ValueError rfl T.m_NoText T.q_NoText (zaa (ztz (pv 0)) zad)))
 zaw)
 (zah zci)),
 (zam (zb0 (zc7 (zc4 (K:=K) (SemI.b (zav ‹88›))))
 (zme (zac 0))
 zay)
 zbz)⟩
theorem ziq (T:Txt K mg ad):FnOk P w K mg base CX0 2 ad.f_read_number ad.d_read_number ["text"] (spD .v K [false] F_read_number):=by
  rw [zfz]
  exact Fun.okD (N:=["text"]) T.F_read_number zij [false] rfl zel fun cdv A outer s H E hr=>⟨_,
 (zag (zbt (zc5 (za7 (K:=K) rfl (zau (zky T) ‹1› rfl T.m_is_number T.F_is_number.kp T.b_is_number .nil zbr ‹26›) ‹107›))
 (zah zci)
 zaw)
 (zah (zaz (zd5 zzb rfl T.z_int zum ‹26›)))),
 (zam (zb0 (zc7 (zc4 (K:=K) (SemI.b (zav ‹88›))))
 zbz
 zay)
 (za6 (z2y (zac 0))))⟩
theorem zrd (T:Txt K mg ad):FnOk P w K mg base (CXE P w) 3 ad.f_read_row ad.d_read_row ["text"] (spX K [false] ad.c_NoText zep):=by
  rw [zfq]
  exact Fun.okX (N:=["text"]) T.F_read_row zmj [false] rfl zeu fun cdv A outer s H E hr=>⟨_,
 (zag (zbt (za9 ‹19› (pv 0) (zh5 rfl T.c_NO_NUMBERS) (za8 _))
 (zah zci)
 zaw)
 (zah (zaz (z29 (E:=E) (fun _ _ h=>h) ⟨rfl,rfl,rfl⟩ rfl ‹21› (ts:=["part"]) (zs:=[]) (k:=1) (is:=[]) rfl .nil .nil rfl (zbi ‹3›) (fun _ _ _ _ _ _=>(pgbX ‹10› rfl rfl)) (fun _ _ _ _ _ _ px=>(zxt (zau (ziq T) ‹1› rfl T.m_read_number T.F_read_number.kp T.b_read_number .nil zbr ‹26›) (zau (zmr T) ‹1› rfl T.m_read_number T.F_read_number.kp T.b_read_number .nil px ‹26›))) rfl ‹10› rfl ‹10›)))),
 (zam (zb0 (za0 ‹65›)
 zbz
 zay)
 (zol (m:=true) (k:=1) (cs:=[]) ‹89› (zbd 0) (zav ‹88›) ‹88›))⟩
theorem zmp (T:Txt K mg ad):FnOk P w K mg base CX0 3 ad.f_read_row ad.d_read_row ["text"] (spD .v K [false] F_read_row):=by
  rw [ziv]
  exact Fun.okD (N:=["text"]) T.F_read_row zmj [false] rfl zic fun cdv A outer s H E hr=>⟨_,
 (zag (zbt (za9 ‹19› (pv 0) (zh5 rfl T.c_NO_NUMBERS) (za8 _))
 (zah (zaz (zbu zad)))
 zaw)
 (zah (zaz (zeh rfl ‹21› (ts:=["part"]) (zs:=[]) (k:=1) (is:=[]) rfl .nil .nil rfl rfl rfl (zbi ‹3›) ‹2› (fun _ _ _ _ _=>(zau (ziq T) ‹1› rfl T.m_read_number T.F_read_number.kp T.b_read_number .nil zbr ‹26›)) rfl rfl ‹10›)))),
 (zam (zb0 (za0 ‹65›)
 (za6 (SemF.l (zb3 (n:=0) zak ‹3›)))
 zay)
 (za6 (SemF.l (zc1 (m:=true) (k:=1) (cs:=[]) ‹89› (zbd 0) zco (zav ‹88›)))))⟩
theorem zo7 (T:Txt K mg ad):FnOk P w K mg base (CXE P w) 4 ad.f_read_rows ad.d_read_rows ["text"] (spX K [false] ad.c_NoText zdx):=by
  rw [zet]
  exact Fun.okX (N:=["text"]) T.F_read_rows zkv [false] rfl zeb fun cdv A outer s H E hr=>⟨_,
 (zag (zbt (za9 ‹19› (pv 0) (zh5 rfl T.c_NO_ROWS) (za8 _))
 (zah zci)
 zaw)
 (zah (zaz (z29 (E:=E) (fun _ _ h=>h) ⟨rfl,rfl,rfl⟩ rfl ‹21› (ts:=["part"]) (zs:=[]) (k:=1) (is:=[]) rfl .nil .nil rfl (zbi ‹3›) (fun _ _ _ _ _ _=>(pgbX ‹10› rfl rfl)) (fun _ _ _ _ _ _ px=>(zxt (zau (zmp T) ‹1› rfl T.m_read_row T.F_read_row.kp T.b_read_row .nil zbr ‹26›) (zau (zrd T) ‹1› rfl T.m_read_row T.F_read_row.kp T.b_read_row .nil px ‹26›))) rfl ‹10› rfl ‹10›)))),
 (zam (zb0 (za0 ‹65›)
 zbz
 zay)
 (zol (m:=true) (k:=1) (cs:=[]) ‹89› (zbd 0) (zav ‹88›) ‹88›))⟩
theorem zfa (T:Txt K mg ad):FnOk P w K mg base CX0 4 ad.f_read_rows ad.d_read_rows ["text"] (spD .v K [false] F_read_rows):=by
  rw [zho]
  exact Fun.okD (N:=["text"]) T.F_read_rows zkv [false] rfl zgl fun cdv A outer s H E hr=>⟨_,
 (zag (zbt (za9 ‹19› (pv 0) (zh5 rfl T.c_NO_ROWS) (za8 _))
 (zah (zaz (zbu zad)))
 zaw)
 (zah (zaz (zeh rfl ‹21› (ts:=["part"]) (zs:=[]) (k:=1) (is:=[]) rfl .nil .nil rfl rfl rfl (zbi ‹3›) ‹2› (fun _ _ _ _ _=>(zau (zmp T) ‹1› rfl T.m_read_row T.F_read_row.kp T.b_read_row .nil zbr ‹26›)) rfl rfl ‹10›)))),
 (zam (zb0 (za0 ‹65›)
 (za6 (SemF.l (zb3 (n:=0) zak ‹3›)))
 zay)
 (za6 (SemF.l (zc1 (m:=true) (k:=1) (cs:=[]) ‹89› (zbd 0) zco (zav ‹88›)))))⟩
theorem zhg (T:Txt K mg ad):FnOk P w K mg base (CXE P w) 5 ad.f_read_floor ad.d_read_floor ["text"] (spX K [false] ad.c_NoText zap):=by
  rw [zca]
  exact Fun.okX (N:=["text", "parts", "word", "rows"]) T.F_read_floor sc_read_floor [false] rfl zbp fun cdv A outer s H E hr=>⟨_,
 (zag ‹14›
 (zag (zbe (i:=2) sc_read_floor.nd rfl ‹20› ‹7›)
 (zag (zbt (zc5 (za7 (K:=K) rfl (zau (zh7 T) ‹1› rfl T.m_is_name T.F_is_name.kp T.b_is_name .nil zbr (zaa (pv 2) zad)) ‹107›))
 (zah (ze8 (E:=E) (C:=ad.c_NoText) (fun _ _ h=>h) ⟨rfl,rfl,rfl⟩ rfl PySem.F.excBase_ValueError rfl T.m_NoText T.q_NoText (zaa (ztz (pv 2)) zad)))
 zaw)
 (zag (zu6 (zbe (i:=3) sc_read_floor.nd rfl ‹20› (zau (zo7 T) ‹1› rfl T.m_read_rows T.F_read_rows.kp T.b_read_rows .nil ‹129› (zaa ‹7› zad))) (zbe (i:=3) sc_read_floor.nd rfl ‹20› (zau (zfa T) ‹1› rfl T.m_read_rows T.F_read_rows.kp T.b_read_rows .nil zbr (zaa ‹7› zad))))
 (zag (zbt (zc5 (za7 (K:=K) rfl (zjp (tbl:=spT K [true] [(656,F_Alike_fits),(715,F_Open_fits),(774,F_Tails_fits),(831,F_Windows_fits),(951,F_Tree_fits),(1015,F_Pairs_fits)]) (zau (zh6 T) ‹1› rfl T.m_kind_of T.F_kind_of.kp T.b_kind_of .nil zbr (zaa (pv 2) zad)) ‹0› (zaa (pv 3) zad)) ‹107›))
 zhe
 zaw)
 (zah zci)))))),
 (zam (zbl (zoq (zac 0) (SemI.b zbf)))
 (zam (zbl (zle (zbj 1) ‹11›))
 (zam (zb0 (zc7 (zc4 (K:=K) ‹76›))
 (zme (zac 2))
 zay)
 (zam (z4g (zwn (zan (zch (zac 1) ‹11›) zak)) (zbl (zav (zan (zch (zac 1) ‹11›) zak))))
 (zam (zb0 ‹18›
 zbz
 zay)
 zbz)))))⟩
theorem zg7 (T:Txt K mg ad):FnOk P w K mg base (CXE P w) 5 ad.f_read_floor ad.d_read_floor ["text"] (spX K [false] ad.c_NoFloor za5):=by
  rw [zcx]
  exact Fun.okX (N:=["text", "parts", "word", "rows"]) T.F_read_floor sc_read_floor [false] rfl zb2 fun cdv A outer s H E hr=>⟨_,
 (zag ‹14›
 (zag (zbe (i:=2) sc_read_floor.nd rfl ‹20› ‹7›)
 (zag (zbt (zc5 (za7 (K:=K) rfl (zau (zh7 T) ‹1› rfl T.m_is_name T.F_is_name.kp T.b_is_name .nil zbr (zaa (pv 2) zad)) ‹107›))
 zhe
 zaw)
 (zag (zbe (i:=3) sc_read_floor.nd rfl ‹20› (zau (zfa T) ‹1› rfl T.m_read_rows T.F_read_rows.kp T.b_read_rows .nil zbr (zaa ‹7› zad)))
 (zag (zbt (zc5 (za7 (K:=K) rfl (zjp (tbl:=spT K [true] [(656,F_Alike_fits),(715,F_Open_fits),(774,F_Tails_fits),(831,F_Windows_fits),(951,F_Tree_fits),(1015,F_Pairs_fits)]) (zau (zh6 T) ‹1› rfl T.m_kind_of T.F_kind_of.kp T.b_kind_of .nil zbr (zaa (pv 2) zad)) ‹0› (zaa (pv 3) zad)) ‹107›))
 (zah (ze8 (E:=E) (C:=ad.c_NoFloor) (fun _ _ h=>h) ⟨rfl,rfl,rfl⟩ rfl PySem.F.excBase_ValueError rfl T.m_NoFloor T.q_NoFloor (zaa (zzx (pv 2)) zad)))
 zaw)
 (zah zci)))))),
 (zam (zbl (zoq (zac 0) (SemI.b zbf)))
 (zam (zbl (zle (zbj 1) ‹11›))
 (zam (zb0 (zc7 (zc4 (K:=K) ‹76›))
 zbz
 zay)
 (zam (zbl (zav (zan (zch (zac 1) ‹11›) zak)))
 (zam (zb0 ‹18›
 (zwq (zac 2))
 zay)
 zbz)))))⟩
theorem zhh (T:Txt K mg ad):FnOk P w K mg base (CXE P w) 5 ad.f_read_floor ad.d_read_floor ["text"] (spX K [false] ad.c_NoKind zbx):=by
  rw [zdt]
  exact Fun.okX (N:=["text", "parts", "word", "rows"]) T.F_read_floor sc_read_floor [false] rfl zcm fun cdv A outer s H E hr=>⟨_,
 (zag ‹14›
 (zag (zbe (i:=2) sc_read_floor.nd rfl ‹20› ‹7›)
 (zag (zbt (zc5 (za7 (K:=K) rfl (zau (zh7 T) ‹1› rfl T.m_is_name T.F_is_name.kp T.b_is_name .nil zbr (zaa (pv 2) zad)) ‹107›))
 zhe
 zaw)
 (zag (zbe (i:=3) sc_read_floor.nd rfl ‹20› (zau (zfa T) ‹1› rfl T.m_read_rows T.F_read_rows.kp T.b_read_rows .nil zbr (zaa ‹7› zad)))
 (zag (zbt (zc5 (za7 (K:=K) rfl (zjp (tbl:=spT K [true] [(656,F_Alike_fits),(715,F_Open_fits),(774,F_Tails_fits),(831,F_Windows_fits),(951,F_Tree_fits),(1015,F_Pairs_fits)]) (zau (zsr T) ‹1› rfl T.m_kind_of T.F_kind_of.kp T.b_kind_of .nil ‹129› (zaa (pv 2) zad)) ‹0› (zaa (pv 3) zad)) ‹107›)) zhe zaw) zhe))))),
 (zam (zbl (zoq (zac 0) (SemI.b zbf)))
 (zam (zbl (zle (zbj 1) ‹11›))
 (zam (zb0 (zc7 (zc4 (K:=K) ‹76›))
 zbz
 zay)
 (zam (zbl (zav (zan (zch (zac 1) ‹11›) zak)))
 (zam (z2o (sx_c (zan (zac 2) zak))) zbz)))))⟩
theorem zo6 (T:Txt K mg ad):FnOk P w K mg base CX0 5 ad.f_read_floor ad.d_read_floor ["text"] (spD .v K [false] F_read_floor):=by
  rw [zgw]
  exact Fun.okD (N:=["text", "parts", "word", "rows"]) T.F_read_floor sc_read_floor [false] rfl zfe fun cdv A outer s H E hr=>⟨_,
 (zag ‹14›
 (zag (zbe (i:=2) sc_read_floor.nd rfl ‹20› ‹7›)
 (zag (zbt (zc5 (za7 (K:=K) rfl (zau (zh7 T) ‹1› rfl T.m_is_name T.F_is_name.kp T.b_is_name .nil zbr (zaa (pv 2) zad)) ‹107›))
 (zah zci)
 zaw)
 (zag (zbe (i:=3) sc_read_floor.nd rfl ‹20› (zau (zfa T) ‹1› rfl T.m_read_rows T.F_read_rows.kp T.b_read_rows .nil zbr (zaa ‹7› zad)))
 (zag (zbt (zc5 (za7 (K:=K) rfl (zjp (tbl:=spT K [true] [(656,F_Alike_fits),(715,F_Open_fits),(774,F_Tails_fits),(831,F_Windows_fits),(951,F_Tree_fits),(1015,F_Pairs_fits)]) (zau (zh6 T) ‹1› rfl T.m_kind_of T.F_kind_of.kp T.b_kind_of .nil zbr (zaa (pv 2) zad)) ‹0› (zaa (pv 3) zad)) ‹107›))
 (zah zci)
 zaw)
 (zah (zaz (zty (zaa (pv 2) (zaa (pv 3) zad)))))))))),
 (zam (zbl (zoq (zac 0) (SemI.b zbf)))
 (zam (zbl (zle (zbj 1) ‹11›))
 (zam (zb0 (zc7 (zc4 (K:=K) ‹76›))
 zbz
 zay)
 (zam (zbl (zav (zan (zch (zac 1) ‹11›) zak)))
 (zam (zb0 ‹18›
 zbz
 zay)
 (za6 (z1d (n:=2) (zaq (zbj 2) (zaq (zbj 3) zak)) ‹3›)))))))⟩
theorem zdo (T:Txt K mg ad):FnOk P w K mg base CX0 1 ad.f_l_mix ad.d_l_mix ["_law_number", "_law_k"] (spD .v K [false,false] F_l_mix):=by
  rw [znh]
  exact Fun.okD (N:=["_law_number", "_law_k"]) T.F_l_mix zzr [false,false] rfl zpy fun cdv A outer s H E hr=>⟨_,
 (zah (zaz (zbh zdm (zbh zi4 (zbh zio (zbh zio (zbh zi4 (pv 0) (pv 0)) (zbh zi4 (pv 1) (pv 0))) (zbh zi4 (zbh zi4 zaf (pv 1)) (pv 1))) zaf) zaf))),
 (za6 (zdl (SemI.b (zmh (SemI.b (zii (SemI.b (zii (SemI.b (zmh (zac 0) (zac 0))) (SemI.b (zmh (zac 1) (zac 0))))) (SemI.b (zmh (SemI.b (zmh ‹11› (zac 1))) (zac 1))))) ‹11›)) ‹11›))⟩
theorem zns (T:Txt K mg ad):FnOk P w K mg base CX0 1 ad.f_l_words ad.d_l_words [] (spD .v K [] F_l_words):=by
  rw [zj8]
  exact Fun.okD (N:=[]) T.F_l_words zu0 [] rfl zkc fun cdv A outer s H E hr=>⟨_,
 (zah (zaz (zbu (zaa zbk (zaa zbk (zaa zbk (zaa zbk (zaa zbk (zaa zbk zad))))))))),
 (za6 (SemF.l (zb3 (n:=6) (zaq zbf (zaq zbf (zaq zbf (zaq zbf (zaq zbf (zaq zbf zak)))))) ‹3›)))⟩
theorem zx2 (T:Txt K mg ad):FnOk P w K mg base CX0 2 ad.f_l_rows ad.d_l_rows ["_law_at", "_law_cell"] (spD .v K [false,false] F_l_rows):=by
  rw [zk8]
  exact Fun.okD (N:=["_law_at", "_law_cell", "_law_hours"]) T.F_l_rows sc_l_rows [false,false] rfl zl3 fun cdv A outer s H E hr=>⟨_,
 (zag (ztx (i:=2) sc_l_rows.nd rfl rfl rfl (zcu rfl T.z_range ‹79›) (ts:=["_law_k"]) (zs:=["_law_cell"]) (k:=1) (is:=[1]) rfl ‹117› ‹9› rfl rfl rfl (zbi ‹3›) ‹2› (fun _ _ _ _ _=>(zbh zio zaf (zbh zdm (zau (zdo T) ‹1› rfl T.m_l_mix T.F_l_mix.kp T.b_l_mix .nil zbr (zaa (zbh zio (pv 1) (pv 0)) ‹79›)) zaf))) rfl rfl ‹10›)
 (zag (zbt (za9 ‹19› (pv 0) zaf (za8 _))
 (zah (zaz (zbu (zaa (zbu (zaa (zbh zio zaf ‹86›) zad)) (zaa (pv 2) zad)))))
 zaw)
 (zag (zbt (za9 ‹19› (pv 0) zaf (za8 _))
 ‹78›
 zaw)
 (zag (zbt (za9 ‹19› (pv 0) zaf (za8 _))
 ‹78›
 zaw)
 (zag (zbt (za9 ‹19› (pv 0) zaf (za8 _))
 (zah (zaz (zb5 ‹95› (zbu (zaa (zbu ‹79›) (zaa (zbu (zaa zaf (zaa (zbn ‹16› (pv 2) zaf ‹25›) (zaa (zbn ‹16› (pv 2) zaf ‹25›) zad)))) (zaa (zbu (zaa zaf (zaa zaf (zaa (zbn ‹16› (pv 2) zaf ‹25›) zad)))) zad)))) zct (zcs (zbh zio zaf ‹86›)))))
 zaw)
 (zag (zbt (za9 ‹19› (pv 0) zaf (za8 _))
 (zah (zaz (zbu (zaa (zbu ‹79›) (zaa (zb5 ‹95› (zbu (zaa zaf (zaa zaf (zaa (zsn zl8 zaf) zad)))) zct (zcs ‹86›)) zad)))))
 zaw)
 (zah (zaz (zb5 ‹95› (zbu (zaa (zbu ‹79›) (zaa (zbu (zaa zaf ‹79›)) (zaa (zbu (zaa zaf ‹79›)) zad)))) zct (zcs (zbh zio zaf ‹86›))))))))))),
 (zam (zwp (SemF.l (zc1 (m:=true) (k:=1) (cs:=[1]) (SemW.c (zcn ‹11›)) (zbd 0) zco (zii ‹11› (SemI.b (zdl (SemI.b (zav (zan (SemI.b (zii (zac 1) (zac 0))) (zan ‹11› zak)))) ‹11›))))))
 (zam (zb0 (za0 (SemI.b (zcz (neg:=false) (zac 0) ‹11›)))
 (za6 (SemF.l (zb3 (n:=2) (zaq (SemF.l (zb3 (n:=1) (zaq (zii ‹11› (SemI.b (zdl (SemI.b (ziz (zac 1) ‹11›)) ‹11›))) zak) ‹3›)) (zaq (zbj 2) zak)) ‹3›)))
 zay)
 (zam (zb0 (za0 (SemI.b (zcz (neg:=false) (zac 0) ‹11›)))
 (za6 (SemF.l (zi0 (SemF.l (zb3 (n:=2) (zaq (zbj 2) (zaq (SemF.l (zb3 (n:=3) (zaq zae (zaq zae (zaq zae zak))) ‹3›)) zak)) ‹3›)) zcq (zcp (SemI.b (zdl (SemI.b (ziz (zac 1) ‹11›)) ‹11›))))))
 zay)
 (zam (zb0 (za0 (SemI.b (zcz (neg:=false) (zac 0) ‹11›)))
 (za6 (SemF.l (zi0 (SemF.l (zb3 (n:=2) (zaq (zbj 2) (zaq (SemF.l (zb3 (n:=3) (zaq zae (zaq zae (zaq zae zak))) ‹3›)) zak)) ‹3›)) zcq (zcp (SemI.b (zdl (SemI.b (ziz (zac 1) ‹11›)) ‹11›))))))
 zay)
 (zam (zb0 (za0 (SemI.b (zcz (neg:=false) (zac 0) ‹11›)))
 (za6 (SemF.l (zi0 (SemF.l (zb3 (n:=3) (zaq (SemF.l (zb3 (n:=1) (zaq zae zak) ‹3›)) (zaq (SemF.l (zb3 (n:=3) (zaq zae (zaq (zle (zbj 2) ‹11›) (zaq (zle (zbj 2) ‹11›) zak))) ‹3›)) (zaq (SemF.l (zb3 (n:=3) (zaq zae (zaq zae (zaq (zle (zbj 2) ‹11›) zak))) ‹3›)) zak))) ‹3›)) zcq (zcp (SemI.b (zii ‹11› (SemI.b (zdl (SemI.b (ziz (zac 1) ‹11›)) ‹11›))))))))
 zay)
 (zam (zb0 (za0 (SemI.b (zcz (neg:=false) (zac 0) ‹11›)))
 (za6 (SemF.l (zb3 (n:=2) (zaq (SemF.l (zb3 (n:=1) (zaq zae zak) ‹3›)) (zaq (SemF.l (zi0 (SemF.l (zb3 (n:=3) (zaq zae (zaq zae (zaq (zmg ‹11›) zak))) ‹3›)) zcq (zcp (SemI.b (zdl (SemI.b (ziz (zac 1) ‹11›)) ‹11›))))) zak)) ‹3›)))
 zay)
 (za6 (SemF.l (zi0 (SemF.l (zb3 (n:=3) (zaq (SemF.l (zb3 (n:=1) (zaq zae zak) ‹3›)) (zaq (SemF.l (zb3 (n:=2) (zaq zae (zaq zae zak)) ‹3›)) (zaq (SemF.l (zb3 (n:=2) (zaq zae (zaq zae zak)) ‹3›)) zak))) ‹3›)) zcq (zcp (SemI.b (zii ‹11› (SemI.b (zdl (SemI.b (ziz (zac 1) ‹11›)) ‹11›))))))))))))))⟩
theorem zx3 (T:Txt K mg ad):FnOk P w K mg base CX0 2 ad.f_l_bent ad.d_l_bent ["_law_rows_here", "_law_cell"] (spD .v K [true,false] F_l_bent):=by
  rw [zk9]
  exact Fun.okD (N:=["_law_rows_here", "_law_cell", "_law_choice", "_law_place", "_law_row", "_law_number"]) T.F_l_bent sc_l_bent [true,false] rfl zl4 fun cdv A outer s H E hr=>⟨_,
 (zag (zbe (i:=2) sc_l_bent.nd rfl ‹20› (zbh zdm (zau (zdo T) ‹1› rfl T.m_l_mix T.F_l_mix.kp T.b_l_mix .nil zbr ‹73›) zaf))
 (zag (zbe (i:=3) sc_l_bent.nd rfl ‹20› (zbh zdm (zau (zdo T) ‹1› rfl T.m_l_mix T.F_l_mix.kp T.b_l_mix .nil zbr ‹73›) (zar (zy9 rfl) rfl T.z_max z6e (zaa zaf (zaa ‹8› zad)))))
 (zag (zbt (PW.pt (zi3 (za9 zra (pv 2) zaf (za8 _)) (zhd (za9 ‹19› ‹8› zaf (za8 _)))))
 (zah (zaz (pv 0)))
 zaw)
 (zag (zbt (za9 ‹19› (pv 2) zaf (za8 _))
 (zah (zaz (zbh zgb (zb5 ‹95› (pv 0) zct (zcs (pv 3))) (zb5 ‹95› (pv 0) (zcs (zbh zio (pv 3) zaf)) zct))))
 zaw)
 (zag (zbt (za9 ‹19› (pv 2) zaf (za8 _))
 (zah (zaz (zbh zgb (zbh zgb (zb5 ‹95› (pv 0) zct (zcs (pv 3))) (zbu (zaa (zd5 (zgh (K:=K) rfl) rfl T.z_list ztc (zaa (zbn ‹16› (pv 0) (pv 3) ‹25›) zad)) zad))) (zb5 ‹95› (pv 0) (zcs (pv 3)) zct))))
 zaw)
 (zag (zbe (i:=4) sc_l_bent.nd rfl ‹20› (zd5 (zgh (K:=K) rfl) rfl T.z_list ztc (zaa (zbn ‹16› (pv 0) (pv 3) ‹25›) zad)))
 (zag (zbt (PW.pt (zi3 (za9 ‹19› (pv 2) zaf (za8 _)) (zhd (za9 ‹19› (zar ‹35› rfl T.z_len zcg (zaa (pv 4) zad)) zaf (za8 _)))))
 (zah (zaz (zbh zgb (pv 0) (zbu (zaa (zbh zgb (pv 4) (zbu ‹79›)) zad)))))
 zaw)
 (zag (zbe (i:=5) sc_l_bent.nd rfl ‹20› (zbn ‹16› (zbu (zaa (zsn zl8 zaf) (zaa zaf (zaa zaf (zaa (zbh zdm (zbh zga (pv 1) zaf) (zbh z5b zaf zaf)) zad))))) (zbh zdm (zau (zdo T) ‹1› rfl T.m_l_mix T.F_l_mix.kp T.b_l_mix .nil zbr ‹73›) zaf) ‹25›))
 (zag (zq0 (pv 5) (zq1 (pv 4) (zbh zdm (zau (zdo T) ‹1› rfl T.m_l_mix T.F_l_mix.kp T.b_l_mix .nil zbr ‹73›) (zar ‹35› rfl T.z_len zcg (zaa (pv 4) zad))) zjh))
 (zah (zaz (zbh zgb (zbh zgb (zb5 ‹95› (pv 0) zct (zcs (pv 3))) (zbu (zaa (pv 4) zad))) (zb5 ‹95› (pv 0) (zcs (zbh zio (pv 3) zaf)) zct))))))))))))),
 (zam (zbl (zdl (SemI.b (zav (zan (zac 1) (zan ‹11› zak)))) ‹11›))
 (zam (zbl (zdl (SemI.b (zav (zan (zac 1) (zan ‹11› zak)))) (SemI.b (z2x ‹11› ‹38›))))
 (zam (zb0 (zjg (za0 (SemI.b (zqj (zac 2) ‹11›))) (za0 (SemI.b (zcz (neg:=false) ‹38› ‹11›))))
 (za6 (zbj 0))
 zay)
 (zam (zb0 (za0 (SemI.b (zcz (neg:=false) (zac 2) ‹11›)))
 (za6 (SemF.l (zku (SemF.l (zi0 (zbj 0) zcq (zcp (zac 3)))) (SemF.l (zi0 (zbj 0) (zcp (SemI.b (zii (zac 3) ‹11›))) zcq)))))
 zay)
 (zam (zb0 (za0 (SemI.b (zcz (neg:=false) (zac 2) ‹11›)))
 (za6 (SemF.l (zku (SemF.l (zku (SemF.l (zi0 (zbj 0) zcq (zcp (zac 3)))) (SemF.l (zb3 (n:=1) (zaq (SemF.l (zsh (zle (zbj 0) (zac 3)))) zak) ‹3›)))) (SemF.l (zi0 (zbj 0) (zcp (zac 3)) zcq)))))
 zay)
 (zam (zom (zsh (zle (zbj 0) (zac 3))))
 (zam (zb0 (zjg (za0 (SemI.b (zcz (neg:=false) (zac 2) ‹11›))) (za0 (SemI.b (zcz (neg:=false) (SemI.b (zce (zac 4))) ‹11›))))
 (z1a 4 (za6 (SemF.l (zku (zbj 0) (SemF.l (zb3 (n:=1) (zaq (SemF.l (zku (zbj 4) (SemF.l (zb3 (n:=1) (zaq zae zak) ‹3›)))) zak) ‹3›))))))
 zay)
 (zam (zbl (zle (SemF.l (zb3 (n:=4) (zaq (zmg ‹11›) (zaq zae (zaq zae (zaq (zdl (SemI.b (ziz (zac 1) ‹11›)) (SemI.b (z4j ‹11› ‹11›))) zak)))) ‹3›)) (SemI.b (zdl (SemI.b (zav (zan (zac 1) (zan ‹11› zak)))) ‹11›))))
 (zam (zwt (zbj 5) (SemI.b (zdl (SemI.b (zav (zan (zac 1) (zan ‹11› zak)))) (SemI.b (zce (zac 4))))))
 (z1a 4 (za6 (SemF.l (zku (SemF.l (zku (SemF.l (zi0 (zbj 0) zcq (zcp (zac 3)))) (SemF.l (zb3 (n:=1) (zaq (zbj 4) zak) ‹3›)))) (SemF.l (zi0 (zbj 0) (zcp (SemI.b (zii (zac 3) ‹11›))) zcq)))))))))))))))⟩
theorem zva (T:Txt K mg ad):FnOk P w K mg base CX0 1 ad.f_l_shown ad.d_l_shown ["_law_rows_here"] (spD .v K [false] F_l_shown):=by
  rw [zka]
  exact Fun.okD (N:=["_law_rows_here", "_law_parts", "_law_row", "_law_words_here"]) T.F_l_shown sc_l_shown [false] rfl zke fun cdv A outer s H E hr=>⟨_,
 (zag (zbt (za9 ‹19› ‹8› zaf (za8 _))
 (zah (zaz zbk))
 zaw)
 (zag (zbe (i:=1) sc_l_shown.nd rfl ‹20› (zbu zad))
 (zag (zfu PassesOwn.never rfl (zb4 (K:=K) rfl (pv 0)) (zc9 (i:=2) sc_l_shown.nd rfl ‹20›)
 (zag (ztx (i:=3) sc_l_shown.nd rfl rfl rfl (zb4 (K:=K) rfl (pv 2)) (ts:=["_law_number"]) (zs:=[]) (k:=1) (is:=[]) rfl .nil .nil rfl rfl rfl (zbi ‹3›) ‹2› (fun _ _ _ _ _=>(zd5 zrw rfl T.z_str z6c ‹26›)) rfl rfl ‹10›)
 (zag (zbt (za9 ‹19› (zar ‹35› rfl T.z_len zcg (zaa (pv 2) zad)) zaf (za8 _))
 (zah (zbe (i:=3) sc_l_shown.nd rfl ‹20› (zbu (zaa zbk zad))))
 zaw)
 (zah (z27 (zjq PySem.F.plainAttrs_list PySem.F.slot_list_append PySem.F.type_list_append zmu (pv 1) (zaa (bmK (K:=K) rfl (zjq PySem.F.plainAttrs_str PySem.F.slot_str_join PySem.F.type_str_join (zst (K:=K) rfl) zbk (zaa (pv 3) zad))) zad)))))))
 (zah (zaz (bmK (K:=K) rfl (zjq PySem.F.plainAttrs_str PySem.F.slot_str_join PySem.F.type_str_join (zst (K:=K) rfl) zbk ‹104›))))))),
 (zam (zb0 (za0 (SemI.b (zcz (neg:=false) ‹38› ‹11›)))
 (za6 zbf)
 zay)
 (zam (zom (zb3 (n:=0) zak ‹3›))
 (zam (zfs (m:=false) (zje (zqe 0)) (zbd 2)
 (zam (zwp (SemF.l (zc1 (m:=false) (k:=1) (cs:=[]) (zl9 (zac 2)) (zbd 0) zco (z2u (zac 0)))))
 (zam (zb0 (za0 (SemI.b (zcz (neg:=false) (SemI.b (zce (zac 2))) ‹11›)))
 (zbl (SemF.l (zb3 (n:=1) (zaq zbf zak) ‹3›)))
 zay)
 (z4h (zse (SemI.b zbf) (zac 3))))))
 (za6 (zse (SemI.b zbf) (zac 1))))))⟩
theorem zx1 (T:Txt K mg ad):FnOk P w K mg base CX0 2 ad.f_l_word ad.d_l_word ["_law_at", "_law_cell"] (spD .v K [false,false] F_l_word):=by
  rw [zk7]
  exact Fun.okD (N:=["_law_at", "_law_cell", "_law_word_here", "_law_choice", "_law_letters"]) T.F_l_word sc_l_word [false,false] rfl zl2 fun cdv A outer s H E hr=>⟨_,
 (zag (zbe (i:=2) sc_l_word.nd rfl ‹20› (zbn ‹16› (zlt (zns T) ‹1› rfl T.m_l_words T.F_l_words.kp T.b_l_words .nil zbr) (pv 0) ‹25›))
 (zag (zbe (i:=3) sc_l_word.nd rfl ‹20› (zbh zdm (zau (zdo T) ‹1› rfl T.m_l_mix T.F_l_mix.kp T.b_l_mix .nil zbr ‹73›) zaf))
 (zag (zbe (i:=4) sc_l_word.nd rfl (Or.inr rfl) zbk)
 (zag (zbt (za9 ‹19› (pv 3) zaf (za8 _))
 (zah (zaz (bmK (K:=K) rfl (zjq PySem.F.plainAttrs_str PySem.F.slot_str_join PySem.F.type_str_join (zst (K:=K) rfl) zbk (zaa (zeh rfl (zcu rfl T.z_range (zaa (zbh zdm (zau (zdo T) ‹1› rfl T.m_l_mix T.F_l_mix.kp T.b_l_mix .nil zbr ‹73›) zaf) zad)) (ts:=["_law_k"]) (zs:=["_law_letters", "_law_cell"]) (k:=1) (is:=[4,1]) rfl (.cons rfl ‹117›) (.cons rfl ‹20› rfl ‹13› ‹9›) rfl rfl rfl (zbi ‹3›) ‹2› (fun _ _ _ _ _=>(zbn ‹16› (pv 1) (zbh zdm (zau (zdo T) ‹1› rfl T.m_l_mix T.F_l_mix.kp T.b_l_mix .nil zbr (zaa (zbh zio (pv 2) (zbh zi4 (pv 0) (pv 0))) ‹26›)) zaf) ‹25›)) rfl rfl ‹10›) zad)))))
 zaw)
 (zag (zbt (za9 ‹19› (pv 3) zaf (za8 _))
 (zah (zaz (zbh zen (pv 2) (zbn ‹16› (pv 4) (zbh zdm (zau (zdo T) ‹1› rfl T.m_l_mix T.F_l_mix.kp T.b_l_mix .nil zbr ‹73›) zaf) ‹25›))))
 zaw)
 (zag (zbt (za9 ‹19› (pv 3) zaf (za8 _))
 (zah (zaz (zbh zen (bm0K (K:=K) rfl (z48 PySem.F.plainAttrs_str PySem.F.slot_str_upper PySem.F.type_str_upper zz9 (zb5 zwz (pv 2) zct (zcs zaf)))) (zb5 zw0 (pv 2) (zcs zaf) zct))))
 zaw)
 (zag (zbt (za9 ‹19› (pv 3) zaf (za8 _))
 (zah (zaz (zb5 zwz (pv 2) zct (zcs (zsn zl8 zaf)))))
 zaw)
 (zah (zaz (pv 2)))))))))),
 (zam (zbl (zle (zav zak) (zac 0)))
 (zam (zbl (zdl (SemI.b (zav (zan (zac 1) (zan ‹11› zak)))) ‹11›))
 (zam (zbl zbf)
 (zam (zb0 (za0 (SemI.b (zcz (neg:=false) (zac 3) ‹11›)))
 (za6 (zse (SemI.b zbf) (SemI.b (SemF.l (zc1 (m:=true) (k:=1) (cs:=[4,1]) (SemW.c (zcn (SemI.b (zdl (SemI.b (zav (zan (zac 1) (zan ‹11› zak)))) ‹11›)))) (zbd 0) zco (zle (zbj 1) (SemI.b (zdl (SemI.b (zav (zan (SemI.b (zii (zac 2) (SemI.b (zmh (zac 0) (zac 0))))) ‹88›))) ‹11›))))))))
 zay)
 (zam (zb0 (za0 (SemI.b (zcz (neg:=false) (zac 3) ‹11›)))
 (za6 (zkl (zac 2) (zch (zac 4) (SemI.b (zdl (SemI.b (zav (zan (zac 1) (zan ‹11› zak)))) ‹11›)))))
 zay)
 (zam (zb0 (za0 (SemI.b (zcz (neg:=false) (zac 3) ‹11›)))
 (za6 (zkl (SemI.b (z6j (SemI.b (z1e (zac 2) zcq (zcp ‹11›))))) (SemI.b (zw1 (zac 2) (zcp ‹11›) zcq))))
 zay)
 (zam (zb0 (za0 (SemI.b (zcz (neg:=false) (zac 3) ‹11›)))
 (za6 (z1e (zac 2) zcq (zcp (SemI.b (zmg ‹11›)))))
 zay)
 (za6 (zbj 2)))))))))⟩
theorem zrb (T:Txt K mg ad):FnOk P w K mg base CX0 6 ad.f_l_refused ad.d_l_refused ["_law_text"] (spD .v K [false] F_l_refused):=by
  rw [zdu]
  exact Fun.okD (N:=["_law_text", "_law_caught", "e", "_law_found"]) T.F_l_refused sc_l_refused [false] rfl zdz fun cdv A outer s H E hr=>⟨_,
 (zag (zbe (i:=1) sc_l_refused.nd rfl ‹20› z46)
 (zag (zu6 (zxp (iv:=1) (ie:=2) ⟨rfl,rfl,rfl⟩ (zhg T) ‹1› rfl T.m_read_floor T.F_read_floor.kp T.b_read_floor (fun _=>‹26›) sc_l_refused.nd rfl rfl rfl rfl rfl T.m_FloorError)
 (zu6 (zxp (iv:=1) (ie:=2) ⟨rfl,rfl,rfl⟩ (zg7 T) ‹1› rfl T.m_read_floor T.F_read_floor.kp T.b_read_floor (fun _=>‹26›) sc_l_refused.nd rfl rfl rfl rfl rfl T.m_FloorError)
 (zxp (iv:=1) (ie:=2) ⟨rfl,rfl,rfl⟩ (zhh T) ‹1› rfl T.m_read_floor T.F_read_floor.kp T.b_read_floor (fun _=>‹26›) sc_l_refused.nd rfl rfl rfl rfl rfl T.m_FloorError)))
 (zag (zbt (PW.pt (zi3 (za7 (K:=K) rfl (zar (zry (K:=K) rfl) rfl T.z_isinstance zc3 (zaa (pv 1) (zaa (zty (zaa (zf9 (v:=.ref ad.c_NoRoom) rfl T.m_NoRoom rfl) (zaa (zf9 (v:=.ref ad.c_NoOrder) rfl T.m_NoOrder rfl) zad))) zad))) ‹107›) (zhd (za7 (K:=K) rfl (zar (zry (K:=K) rfl) rfl T.z_isinstance zc3 (zaa (pv 1) (zaa (zty (zaa (zf9 (v:=.ref ad.c_NoRow) rfl T.m_NoRow rfl) (zaa (zf9 (v:=.ref ad.c_NoName) rfl T.m_NoName rfl) zad))) zad))) ‹107›)))) (zah (zaz (zbu zad))) zaw)
 (zag (zbe (i:=3) sc_l_refused.nd rfl ‹20› (zbu (zaa (zar (zl0 (K:=K) rfl) rfl T.z_isinstance zc3 (zaa (pv 1) (zaa (zf9 (v:=.ref ad.c_NoText) rfl T.m_NoText rfl) zad))) (zaa (zar (zl0 (K:=K) rfl) rfl T.z_isinstance zc3 (zaa (pv 1) (zaa (zf9 (v:=.ref ad.c_NoKind) rfl T.m_NoKind rfl) zad))) (zaa (zar (zl0 (K:=K) rfl) rfl T.z_isinstance zc3 (zaa (pv 1) (zaa (zf9 (v:=.ref ad.c_NoFloor) rfl T.m_NoFloor rfl) zad))) zad)))))
 (zah (zaz (zbh zgb (pv 3) (zbu (zaa (zar (zl0 (K:=K) rfl) rfl T.z_isinstance zc3 (zaa (pv 1) (zaa (zxu (v:=.ty "ValueError") rfl T.z_ValueError zpv rfl) zad))) zad))))))))),
 (zam (zbl z4k)
 (z09 (x:=(za4 zap ‹46›)) (zsd (n:=4) (iv:=1) (ie:=2) (C:=ad.c_NoText) ‹88› T.x_NoText_FloorError ‹3›
    (z2b (z2a (znm (znn T.kx_NoText (zh8 T.i_NoText_NoRoom T.i_NoText_NoOrder))) (znm (znn T.kx_NoText (zh8 T.i_NoText_NoRow T.i_NoText_NoName)))) (zvs ‹3› ‹3› (zf0 (zlb (c:=.ref ad.c_NoText) (u:=.ref ad.c_NoText) T.kx_NoText rfl T.i_NoText_NoText) (zf0 (zlb (c:=.ref ad.c_NoKind) (u:=.ref ad.c_NoKind) T.kx_NoText rfl T.i_NoText_NoKind) (zf0 (zlb (c:=.ref ad.c_NoFloor) (u:=.ref ad.c_NoFloor) T.kx_NoText rfl T.i_NoText_NoFloor) zvt))) (zlb (c:=.ty "ValueError") (u:=.type "ValueError") T.kx_NoText rfl T.i_NoText_ValueError))))
 (z09 (x:=(za4 za5 ‹46›)) (zsd (n:=4) (iv:=1) (ie:=2) (C:=ad.c_NoFloor) ‹88› T.x_NoFloor_FloorError ‹3›
    (z2b (z2a (znm (znn T.kx_NoFloor (zh8 T.i_NoFloor_NoRoom T.i_NoFloor_NoOrder))) (znm (znn T.kx_NoFloor (zh8 T.i_NoFloor_NoRow T.i_NoFloor_NoName)))) (zvs ‹3› ‹3› (zf0 (zlb (c:=.ref ad.c_NoText) (u:=.ref ad.c_NoText) T.kx_NoFloor rfl T.i_NoFloor_NoText) (zf0 (zlb (c:=.ref ad.c_NoKind) (u:=.ref ad.c_NoKind) T.kx_NoFloor rfl T.i_NoFloor_NoKind) (zf0 (zlb (c:=.ref ad.c_NoFloor) (u:=.ref ad.c_NoFloor) T.kx_NoFloor rfl T.i_NoFloor_NoFloor) zvt))) (zlb (c:=.ty "ValueError") (u:=.type "ValueError") T.kx_NoFloor rfl T.i_NoFloor_ValueError))))
 (zsd (n:=4) (iv:=1) (ie:=2) (C:=ad.c_NoKind) ‹88› T.x_NoKind_FloorError ‹3›
    (z2b (z2a (znm (znn T.kx_NoKind (zh8 T.i_NoKind_NoRoom T.i_NoKind_NoOrder))) (znm (znn T.kx_NoKind (zh8 T.i_NoKind_NoRow T.i_NoKind_NoName)))) (zvs ‹3› ‹3› (zf0 (zlb (c:=.ref ad.c_NoText) (u:=.ref ad.c_NoText) T.kx_NoKind rfl T.i_NoKind_NoText) (zf0 (zlb (c:=.ref ad.c_NoKind) (u:=.ref ad.c_NoKind) T.kx_NoKind rfl T.i_NoKind_NoKind) (zf0 (zlb (c:=.ref ad.c_NoFloor) (u:=.ref ad.c_NoFloor) T.kx_NoKind rfl T.i_NoKind_NoFloor) zvt))) (zlb (c:=.ty "ValueError") (u:=.type "ValueError") T.kx_NoKind rfl T.i_NoKind_ValueError)))))))⟩
theorem zu9 (T:Txt K mg ad):FnOk P w K mg base CX0 1 ad.f_l_small ad.d_l_small ["_law_word_here"] (spD .v K [false] F_l_small):=by
  rw [zj9]
  exact Fun.okD (N:=["_law_word_here", "_law_sign"]) T.F_l_small sc_l_small [false] rfl zkd fun cdv A outer s H E hr=>⟨_,
 (zag (zbt (PW.pt (zi3 (za9 zq8 ‹8› zaf (za8 _)) (zhd (za9 zra ‹8› zaf (za8 _)))))
 ‹111›
 zaw)
 (zag (zfu PassesOwn.never rfl (zxr (pv 0)) (zc9 (i:=1) sc_l_small.nd rfl ‹20›)
 (zah (zbt (za9 zq6 (pv 1) zbk ‹128›)
 ‹111›
 zaw)))
 ‹111›)),
 (zam (zb0 (zjg (za0 (SemI.b (z4l ‹38› ‹11›))) (za0 (SemI.b (zqj ‹38› ‹11›))))
 (za6 zft)
 zay)
 (zam (zfs (m:=true) (zoc (zac 0)) (zbd 1)
 (zb0 (za0 (SemI.b (z2v (zac 1) (SemI.b zbf))))
 (za6 zft)
 zay))
 (za6 zft)))⟩
theorem z5e (T:Txt K mg ad):FnOk P w K mg base CX0 7 ad.f_law ad.d_law ["_law_script"] (spD .v K [false] F_law):=by
  rw [zr4]
  exact Fun.okD (N:=["_law_script", "_law_cell", "_law_at", "_law_word_here", "_law_rows_here", "_law_choice", "_law_text", "_law_spoiled", "_law_mark", "_law_found"]) T.F_law sc_law [false] rfl z0z fun cdv A outer s H E hr=>⟨_,
 (zag (zfu PassesOwn.never rfl (zb4 (K:=K) rfl (zbh zgb (zbu ‹79›) (zb5 ‹95› (pv 0) zct (zcs zaf)))) (zc9 (i:=1) sc_law.nd rfl ‹20›)
 (zag (zbe (i:=2) sc_law.nd rfl ‹20› (zbh zdm (pv 1) zaf))
 (zag (zbe (i:=3) sc_law.nd rfl ‹20› (zau (zx1 T) ‹1› rfl T.m_l_word T.F_l_word.kp T.b_l_word .nil zbr (zaa (pv 2) ‹104›)))
 (zag (zbe (i:=4) sc_law.nd rfl ‹20› (zau (zx3 T) ‹1› rfl T.m_l_bent T.F_l_bent.kp T.b_l_bent .nil zbr (zaa (zau (zx2 T) ‹1› rfl T.m_l_rows T.F_l_rows.kp T.b_l_rows .nil zbr (zaa (pv 2) ‹104›)) ‹104›)))
 (zag (zbe (i:=5) sc_law.nd rfl ‹20› (zbh zdm (zau (zdo T) ‹1› rfl T.m_l_mix T.F_l_mix.kp T.b_l_mix .nil zbr ‹73›) zaf))
 (zag (zbe (i:=6) sc_law.nd rfl ‹20› (zbh zen (zbh zen (zbh zen (pv 3) (zbh zxy (zbn ‹16› (zbu (zaa zbk (zaa zbk (zaa zbk (zaa zbk zad))))) (zar (zy8 rfl) rfl T.z_min z6d (zaa zaf (zaa (pv 5) zad))) ‹25›) (zd5 znb rfl T.z_int zum (zaa (zcv zq8 (pv 5) zaf (za8 _)) zad)))) (zbh zxy zbk (zd5 znb rfl T.z_int zum (zaa (zcv zra (pv 5) zaf (za8 _)) zad)))) (zau (zva T) ‹1› rfl T.m_l_shown T.F_l_shown.kp T.b_l_shown .nil zbr (zaa (pv 4) zad))))
 (zag (zbe (i:=7) sc_law.nd rfl ‹20› (zcv (zu8 (K:=K) rfl) (pv 5) (zty (zaa zaf ‹79›)) ‹128›))
 (zag (zbt (za9 ‹19› (pv 5) zaf (za8 _))
 (zag (zbe (i:=6) sc_law.nd rfl ‹20› (zbh zen (pv 6) (zbn ‹16› (zbu (zaa zbk (zaa zbk (zaa zbk (zaa zbk (zaa zbk (zaa zbk zad))))))) (zbh zdm (zau (zdo T) ‹1› rfl T.m_l_mix T.F_l_mix.kp T.b_l_mix .nil zbr ‹73›) zaf) ‹25›)))
 (zah (zbe (i:=7) sc_law.nd rfl ‹20› zev)))
 zaw)
 (zag (zbe (i:=8) sc_law.nd rfl ‹20› zaf)
 (zag (zbt (PW.pt (zi3 (za7 (K:=K) rfl (pv 7) ‹107›) (zhd (zc5 (za7 (K:=K) rfl (zau (zu9 T) ‹1› rfl T.m_l_small T.F_l_small.kp T.b_l_small .nil zbr (zaa (pv 3) zad)) ‹107›)))))
 (zah (zbe (i:=8) sc_law.nd rfl ‹20› zaf))
 (zah (zbt (za9 (zo5 (K:=K) rfl) (pv 3) (zlt (zns T) ‹1› rfl T.m_l_words T.F_l_words.kp T.b_l_words .nil zbr) ‹128›)
 (zah (zbe (i:=8) sc_law.nd rfl ‹20› zaf))
 (zah (zbe (i:=8) sc_law.nd rfl ‹20› (zbh zi4 zaf (zd5 znb rfl T.z_int zum (zaa (z1q (zjp (tbl:=spT K [true] [(656,F_Alike_fits),(715,F_Open_fits),(774,F_Tails_fits),(831,F_Windows_fits),(951,F_Tree_fits),(1015,F_Pairs_fits)]) (zau (zh6 T) ‹1› rfl T.m_kind_of T.F_kind_of.kp T.b_kind_of .nil zbr (zaa (pv 3) zad)) ‹0› (zaa (zeh rfl (zb4 (K:=K) rfl (pv 4)) (ts:=["_law_row"]) (zs:=[]) (k:=1) (is:=[]) rfl .nil .nil rfl rfl rfl (zbi ‹3›) ‹2› (fun _ _ _ _ _=>(zd5 (zgh (K:=K) rfl) rfl T.z_list ztc ‹26›)) rfl rfl ‹10›) zad))) zad))))))))
 (zah (zbt (za9 zra (pv 8) zaf (za8 _))
 (zah (zbt (za9 ‹130› (zau (zrb T) ‹1› rfl T.m_l_refused T.F_l_refused.kp T.b_l_refused .nil zbr (zaa (pv 6) zad)) (zbu (zaa (zcv ‹19› (pv 8) zaf (za8 _)) (zaa (zcv ‹19› (pv 8) zaf (za8 _)) (zaa (zcv ‹19› (pv 8) zaf (za8 _)) (zaa zev zad))))) (za8 _))
 ‹111›
 zaw))
 (zag (zbe (i:=9) sc_law.nd rfl ‹20› (zau (zo6 T) ‹1› rfl T.m_read_floor T.F_read_floor.kp T.b_read_floor .nil zbr (zaa (pv 6) zad)))
 (zah (zbt (PW.pt (zi3 (zc5 (za7 (K:=K) rfl (zar (zza (K:=K) rfl) rfl T.z_isinstance zc3 (zaa (pv 9) (zaa (zxu (v:=.ty "tuple") rfl T.z_tuple z0w rfl) zad))) ‹107›)) (zi3 (za9 ‹130› (zar ‹35› rfl T.z_len zcg (zaa (pv 9) zad)) zaf (za8 _)) (zi3 (za9 ‹130› (zbn ‹16› (pv 9) zaf ‹25›) (pv 3) (za8 _)) (zhd (za9 ‹130› (zbn ‹16› (pv 9) zaf ‹25›) (pv 4) (za8 _)))))))
 ‹111›
 zaw)))))))))))))))
 ‹111›),
 (zam (zfs (m:=true) (zec (SemF.l (zku (SemF.l (zb3 (n:=1) (zaq zae zak) ‹3›)) (SemF.l (z4q (zac 0) zcq (zcp ‹11›)))))) (zbd 1)
 (zam (zbl (zdl (zac 1) ‹11›))
 (zam (zbl (zav (zan (zac 2) (zan (zac 1) zak))))
 (zam (zbl (zav (zaq (zav (zan (zac 2) (zan (zac 1) zak))) (zan (zac 1) zak))))
 (zam (zbl (zdl (SemI.b (zav (zan (zac 1) (zan ‹11› zak)))) ‹11›))
 (zam (zbl (zkl (SemI.b (zkl (SemI.b (zkl (zac 3) (SemI.b (zw3 (zch (SemI.b (SemF.l (zb3 (n:=4) (zaq zbf (zaq zbf (zaq zbf (zaq zbf zak)))) ‹3›))) (SemI.b (z2w ‹11› (zac 5)))) (SemI.b (zsf (SemI.b (z4l (zac 5) ‹11›)))))))) (SemI.b (zw3 (SemI.b zbf) (SemI.b (zsf (SemI.b (zqj (zac 5) ‹11›)))))))) (SemI.b (zav (zan (zac 4) zak)))))
 (zam (zbl (z6k (neg:=false) (zac 5) (SemI.b (z1d (n:=2) (zaq zae (zaq zae zak)) ‹3›))))
 (zam (zb0 (za0 (SemI.b (zcz (neg:=false) (zac 5) ‹11›)))
 (zam (zbl (zkl (zac 6) (zch (SemI.b (SemF.l (zb3 (n:=6) (zaq zbf (zaq zbf (zaq zbf (zaq zbf (zaq zbf (zaq zbf zak)))))) ‹3›))) (SemI.b (zdl (SemI.b (zav (zan (zac 1) (zan ‹11› zak)))) ‹11›)))))
 (zbl zft))
 zay)
 (zam (zbl zae)
 (zam (zb0 (zjg (zc4 (K:=K) (zac 7)) (zc7 (zc4 (K:=K) (SemI.b (zav (zan (zac 3) zak))))))
 (zbl zae)
 (zb0 (za0 (SemI.b (z4n (neg:=true) (zac 3) (SemI.b (zav zak)))))
 (zbl zae)
 (zbl (zmh ‹11› (SemI.b (zsf (SemI.b (zw2 (SemI.b (zkj (ms:=[true]) (tbl:=[(656,F_Alike_fits),(715,F_Open_fits),(774,F_Tails_fits),(831,F_Windows_fits),(951,F_Tree_fits),(1015,F_Pairs_fits)]) (SemI.b (zav (zan (zac 3) zak))) (zaq (SemF.l (zc1 (m:=true) (k:=1) (cs:=[]) (SemW.c (zec (zbj 4))) (zbd 0) zco (SemF.l (zsh (zbj 0))))) zak)))))))))))
 (zb0 (za0 (SemI.b (zqj (zac 8) ‹11›)))
 (zb0 (za0 (SemI.b (zcz (neg:=true) (SemI.b (zav (zan (zac 6) zak))) (SemI.b (SemF.l (zb3 (n:=4) (zaq (zcz (neg:=false) (zac 8) ‹11›) (zaq (zcz (neg:=false) (zac 8) ‹11›) (zaq (zcz (neg:=false) (zac 8) ‹11›) (zaq zft zak)))) ‹3›))))))
 (za6 zft)
 zay)
 (zam (zbl (zav (zan (zac 6) zak)))
 (zb0 (zjg (zc7 (zc4 (K:=K) (SemI.b (z4m (n := "tuple") (zac 9))))) (zjg (za0 (SemI.b (zcz (neg:=true) (SemI.b (zce (zac 9))) ‹11›))) (zjg (za0 (SemI.b (zcz (neg:=true) (zch (zac 9) ‹11›) (zac 3)))) (za0 (SemI.b (zcz (neg:=true) (zch (zac 9) ‹11›) (zac 4)))))))
 (za6 zft)
 zay)))))))))))))
 (za6 zft))⟩
end
local macro_rules | `(tactic| walk_at "sd")=>`(tactic| first | assumption | omega | decide | (simp only [List.length_map,List.length_cons,List.length_nil]; omega) | ((with_reducible apply And.intro) <;> walk_at "sd"))
local macro_rules | `(tactic| walk_at "fn")=>`(tactic| assumption)
local macro_rules | `(tactic| walk_at "ix")=>`(tactic| first | exact ixS (by omega) (by omega) | exact ixI (by omega) (by omega) | exact ix2I _ _ _ | exact ix3I _ _ _ _ | exact ix4I _ _ _ _ _ | rfl)
local macro_rules | `(tactic| walk_at "ev")=>`(tactic| first
  | ((with_reducible first | apply zgt | apply ev_sub | apply ev_lt | apply ev_le | apply ev_gt | apply z0q | apply zs0 | apply zi8 | apply ev_cons | apply ev_eqF | apply znz); (· walk_at "ev"); (· walk_at "ev"))
  | ((with_reducible first | apply zjz | apply ev_t | apply ev_not | apply zm1 | apply ev_lst | apply zyx | apply ev_oSome); (· walk_at "ev"))
  | ((with_reducible first | apply zb6 | apply zgf | apply ev_f1 | apply ev_asL | apply ev_lof); (· walk_at "ev"); (· rfl))
  | ((with_reducible first | apply ev_and | apply ev_or | apply zeg | apply zud); (· walk_at "ev"); (· intro _; walk_at "ev"))
  | ((with_reducible first | show dVar _ _=_ | show zbw _ _=_ | show zpm _ _=_ | show dC _ _=_ | show dNil _=_ | show zd8 _=_ | show zdc _=_); rfl)
  | ((with_reducible apply ev_ix); (· walk_at "ev"); (· walk_at "ev"); (· walk_at "ix"))
  | ((with_reducible apply ev_call); (· walk_at "ev"); (· walk_at "fn"))
  | ((with_reducible first | apply ev_chain | apply zsz); (· walk_at "ev"); (· walk_at "ev"); (· walk_at "ev"))
  | ((with_reducible apply zir); (· walk_at "ev"); (· walk_at "ev"); (· first | assumption | (apply imul; omega)))
  | ((with_reducible apply zm2); (· walk_at "ev"); (· walk_at "ev"); (· first | exact fdok (by omega) (by omega) | walk_at "sd"))
  | ((with_reducible first | apply ev_mod | apply ev_rg2); (· walk_at "ev"); (· walk_at "ev"); (· walk_at "sd"))
  | ((with_reducible apply ev_rg1); (· walk_at "ev"); (· walk_at "sd"))
  | ((with_reducible apply zyy); (· walk_at "ev"); (· walk_at "ev"); (· simp only [List.length_cons,List.length_nil]; walk_at "sd")))
local macro_rules | `(tactic| walk_at "st")=>`(tactic| dsimp only [List.set_cons_succ,List.set_cons_zero])
local macro_rules | `(tactic| walk_at "go")=>`(tactic| ((try dsimp only); walk_at "go1"))
local macro_rules | `(tactic| walk_at "go1")=>`(tactic| first
  | ((with_reducible apply wp_seq); walk_at "go")
  | ((with_reducible apply wp_frz); dsimp only [frz,List.getD_cons_succ,List.getD_cons_zero,List.set_cons_succ,List.set_cons_zero]; walk_at "go")
  | ((with_reducible apply zba); (· walk_at "ev"); walk_at "st"; walk_at "go")
  | ((with_reducible apply zkh); (· walk_at "ev"); (· simp only [List.length_cons,List.length_nil]; omega); walk_at "st"; walk_at "go")
  | ((with_reducible apply wp_aug); (· rfl); (· walk_at "ev"); walk_at "st"; walk_at "go")
  | ((with_reducible apply zat); (try dsimp only); walk_at "go")
  | skip)
abbrev cs (x:Str):List Nat:=x.cps.toList
theorem zj5 {x y:Str} (h:cs x=cs y):x=y:=Str.ext' (Array.toList_inj.mp h)
theorem cs_len (x:Str):(cs x).length=x.length:=Array.length_toList
theorem zdg (x y:Str):cs (x++y)=cs x++cs y:=by unfold cs; rw [Str.cps_append,Array.toList_append]
theorem at_char {x y:Str} {k d c:Nat} (hd:(cs y)[d]?=some c) (h:StrLaws.At x y x.length k):(cs x)[k+d]?=some c:=by
  have h2:=h.2
  rw [StrLaws.subAt_eq] at h2
  have e:((cs x).drop k).take y.length=cs y:=eq_of_beq h2
  have hl:d<y.length:=by rw [← cs_len]; exact (List.getElem?_eq_some_iff.mp hd).1
  rw [← e,List.getElem?_take_of_lt hl,List.getElem?_drop] at hd
  exact hd
theorem zze {x y:Str} {k:Nat} {v:List Nat} (hk:k≤x.length) (h:(cs x).drop k=cs y++v):StrLaws.At x y x.length k:=by
  have hl:((cs x).drop k).length=y.length+v.length:=by rw [h,List.length_append,cs_len]
  rw [List.length_drop,cs_len] at hl
  refine ⟨by omega,?_⟩
  rw [StrLaws.subAt_eq,show x.cps.toList.drop k=cs y++v from h,← cs_len,List.take_left]
  exact beq_self_eq_true _
theorem zq4 {x y:Str} {c d:Nat} (hd:(cs y)[d]?=some c) (hb:∀ i,i<d→(cs y)[i]?≠some c):∀ (ps:List Str) (a:Nat) (cuts:List Nat) (f:Nat),ps≠[]→a≤x.length→(cs x).drop a=cs (Str.join y ps)→(∀ p∈ps,c∉cs p)→StrLaws.ChainG x y x.length a cuts f→(∀ k,f≤k→¬ StrLaws.At x y x.length k)→StrLaws.partsFrom x y.length a cuts=ps
  | [],_,_,_,h,_,_,_,_,_=>absurd rfl h
  | [p],a,cuts,f,_,ha,hx,hp,hc,hn=>by
    have hx:(cs x).drop a=cs p:=hx
    cases cuts with
    | nil =>
      show [Builtin.Str.strSub x a x.length]=[p]
      congr 1
      apply zj5
      show (Builtin.Str.strSub x a x.length).cps.toList=_
      rw [StrLaws.strSub_toList,show x.cps.toList.drop a=cs p from hx]
      refine List.take_of_length_le ?_
      rw [← hx,List.length_drop,cs_len]
      exact Nat.le_refl _
    | cons k r =>
      obtain ⟨h1,h2,_,_⟩:=hc
      have:=at_char hd h2
      rw [show k+d=a+(k-a+d) by omega,← List.getElem?_drop,hx] at this
      exact absurd (List.mem_of_getElem? this) (hp p List.mem_cons_self)
  | p::q::ps,a,cuts,f,_,ha,hx,hp,hc,hn=>by
    have hx:(cs x).drop a=cs p++(cs y++cs (Str.join y (q::ps))):=by
      rw [hx]
      show cs (p++y++Str.join y (q::ps))=_
      rw [zdg,zdg,List.append_assoc]
    have hlen:x.length-a=p.length+(y.length+(Str.join y (q::ps)).length):=by
      have:=congrArg List.length hx
      rw [List.length_drop,List.length_append,List.length_append,cs_len,cs_len,cs_len,cs_len] at this
      exact this
    have hdr:(cs x).drop (a+p.length)=cs y++cs (Str.join y (q::ps)):=by rw [← List.drop_drop,hx,← cs_len p,List.drop_left]
    have here:StrLaws.At x y x.length (a+p.length):=zze (by omega) hdr
    have not:∀ k,a≤k→k<a+p.length→¬ StrLaws.At x y x.length k:=fun k h1 h2 hA=>by
      have e:=at_char hd hA
      rw [show k+d=a+(k-a+d) by omega,← List.getElem?_drop,hx] at e
      by_cases c1:k-a+d<p.length
      · rw [List.getElem?_append_left (by rw [cs_len]; exact c1)] at e
        exact hp p List.mem_cons_self (List.mem_of_getElem? e)
      · have hdl:d<(cs y).length:=(List.getElem?_eq_some_iff.mp hd).1
        rw [List.getElem?_append_right (by rw [cs_len]; omega),cs_len,List.getElem?_append_left (by omega)] at e
        exact hb _ (by omega) e
    cases cuts with
    | nil =>
      have e:f=a:=hc
      exact absurd here (hn _ (by omega))
    | cons k r =>
      obtain ⟨h1,h2,h3,h4⟩:=hc
      have ek:k=a+p.length:=by
        by_cases c1:k<a+p.length
        · exact absurd h2 (not k h1 c1)
        · by_cases c2:a+p.length<k
          · exact absurd here (h3 _ (by omega) c2)
          · omega
      subst ek
      show Builtin.Str.strSub x a (a+p.length)::StrLaws.partsFrom x y.length (a+p.length+y.length) r=p::q::ps
      rw [zq4 hd hb (q::ps) (a+p.length+y.length) r f (by simp) (by omega) (by rw [← List.drop_drop,hdr,← cs_len y,List.drop_left]) (fun z hz=>hp z ‹33›) h4 hn]
      congr 1
      apply zj5
      show (Builtin.Str.strSub x a (a+p.length)).cps.toList=_
      rw [StrLaws.strSub_toList,show x.cps.toList.drop a=_ from hx,show a+p.length-a=(cs p).length by rw [cs_len]; omega,List.take_left]
theorem z3j (x:Str):1≤Builtin.Str.strKind x:=by unfold Builtin.Str.strKind; split <;> (try split) <;> omega
theorem zno {y:Str} {c d:Nat} (hd:(cs y)[d]?=some c) (hb:∀ i,i<d→(cs y)[i]?≠some c) (hk:Builtin.Str.strKind y=1) {ps:List Str} (hne:ps≠[]) (hp:∀ p∈ps,c∉cs p):splitL (Str.join y ps) y=ps:=by
  have hy:1≤y.length:=by rw [← cs_len]; have:=(List.getElem?_eq_some_iff.mp hd).1; omega
  have k1:¬ Builtin.Str.strKind (Str.join y ps)<Builtin.Str.strKind y:=by have:=z3j (Str.join y ps); omega
  obtain ⟨f,hG,hn⟩:=StrLaws.occ_tight (Str.join y ps) y hy
  have main:=zq4 hd hb ps 0 _ f hne (Nat.zero_le _) (by rw [List.drop_zero]) hp hG hn
  unfold splitL
  split
  · rename_i h
    rw [Bool.or_eq_true,Bool.or_eq_true,decide_eq_true_iff,decide_eq_true_iff] at h
    have single:∀ {ps:List Str},ps≠[]→(∀ q z r,ps=q::z::r→False)→[Str.join y ps]=ps:=by
      intro ps h1 h2
      match ps,h1,h2 with
      | [p],_,_=>rfl
      | q::z::r,_,h2=>exact (h2 q z r rfl).elim
    refine single hne fun q z r e=>?_
    rcases h with (h | h) | h
    · rw [e] at h
      have:(Str.join y (q::z::r)).length=q.length+y.length+(Str.join y (z::r)).length:=by
        show (q++y++Str.join y (z::r)).length=_
        rw [Str.length_append,Str.length_append]
      omega
    · exact k1 h
    · rw [List.isEmpty_iff.mp h] at main
      rw [e] at main
      have:(StrLaws.partsFrom (Str.join y (q::z::r)) y.length 0 []).length=(q::z::r).length:=by rw [main]
      simp [StrLaws.partsFrom] at this
  · rw [StrLaws.partsBetween_eq]
    exact main
def digs (m:Nat):List Nat:=(Nat.toDigits 10 m).map Char.toNat
def numT (n:Int):Str:=toString n
theorem digs_lt {m:Nat} (h:m<10):digs m=[48+m]:=by
  unfold digs
  rw [Nat.toDigits_of_lt_base h]
  have:∀ d:Nat,d<10→(Nat.digitChar d).toNat=48+d:=by decide
  rw [List.map_cons,List.map_nil,this m h]
theorem digs_step {m:Nat} (h:10≤m):digs m=digs (m / 10)++[48+m % 10]:=by
  have hm:m % 10<10:=Nat.mod_lt m ‹3›
  have t:Nat.toDigits 10 (m / 10)++Nat.toDigits 10 (m % 10)=Nat.toDigits 10 (10*(m / 10)+m % 10):=Nat.toDigits_append_toDigits ‹3› (by omega) hm
  rw [Nat.div_add_mod] at t
  rw [← digs_lt hm]
  unfold digs
  rw [← t,List.map_append]
theorem digs_all:∀ (m:Nat),NumText.AllDigits (digs m):=by
  intro m
  induction m using Nat.strongRecOn with
  | _ m ih =>
    by_cases h:m<10
    · rw [digs_lt h]
      intro c hc
      rw [List.mem_singleton.mp hc]
      omega
    · rw [digs_step (by omega)]
      intro c hc
      rcases List.mem_append.mp hc with hc | hc
      · exact ih (m / 10) (by omega) c hc
      · rw [List.mem_singleton.mp hc]
        omega
theorem digs_head:∀ (m:Nat),0<m→∃ c r,digs m=c::r∧49≤c∧c≤57:=by
  intro m
  induction m using Nat.strongRecOn with
  | _ m ih =>
    intro h0
    by_cases h:m<10
    · exact ⟨48+m,[],digs_lt h,by omega,by omega⟩
    · obtain ⟨c,r,e,h1,h2⟩:=ih (m / 10) (by omega) (by omega)
      exact ⟨c,r++[48+m % 10],by rw [digs_step (by omega),e]; rfl,h1,h2⟩
theorem digs_ne (m:Nat):digs m≠[]:=by
  by_cases h:m<10
  · rw [digs_lt h]; simp
  · rw [digs_step (by omega)]; simp
theorem zpk:∀ (k m:Nat),m<10 ^ (k+1)→(digs m).length≤k+1
  | 0,m,h=>by rw [digs_lt (by simpa using h)]; simp
  | k+1,m,h=>by
    by_cases c:m<10
    · rw [digs_lt c]; simp
    · rw [digs_step (by omega),List.length_append,List.length_singleton]
      have:m / 10<10 ^ (k+1):=by
        rw [Nat.pow_succ] at h
        omega
      have:=zpk k (m / 10) this
      omega
theorem digs_val (m:Nat):NumText.digitsVal (digs m)=m:=PySem.W.KIN.val_back m
theorem z57 (m:Nat):cs (numT (m:Int))=digs m:=PySem.W.KIN.signs_num m
theorem z56 (m:Nat) (h:0<m):cs (numT (-(m:Int)))=45::digs m:=by
  obtain ⟨k,rfl⟩:∃ k,m=k+1:=⟨m-1,by omega⟩
  unfold numT cs
  show (Str.ofString (toString (Int.negSucc k))).cps.toList=_
  rw [PyProof.Rows.signs_ofString]
  show (("-" ++ Nat.repr (k+1)).toList).map Char.toNat=_
  rw [String.toList_append,List.map_append,Nat.toList_repr]
  rfl
def Sml (n:Int):Prop:=n.natAbs<10 ^ 60
theorem zhi (n:Int):(0≤n∧cs (numT n)=digs n.natAbs)∨(n<0∧cs (numT n)=45::digs n.natAbs):=by
  by_cases h:0≤n
  · refine .inl ⟨h,?_⟩
    have e:n=((n.natAbs:Nat):Int):=by omega
    conv=>lhs; rw [e]
    exact z57 _
  · refine .inr ⟨by omega,?_⟩
    have e:n=-((n.natAbs:Nat):Int):=by omega
    conv=>lhs; rw [e]
    exact z56 _ (by omega)
theorem zx5 {n:Int} (h:Sml n):1≤(numT n).length∧(numT n).length≤61:=by
  have l:=zpk 59 n.natAbs h
  have l0:1≤(digs n.natAbs).length:=by
    have:=digs_ne n.natAbs
    cases e:digs n.natAbs with
    | nil=>exact absurd e this
    | cons c r=>simp
  rw [← cs_len]
  rcases zhi n with ⟨_,e⟩ | ⟨_,e⟩
  · rw [e]; omega
  · rw [e,List.length_cons]; omega
theorem num_chars {n:Int} {c:Nat} (h:c∈cs (numT n)):c=45∨(48≤c∧c≤57):=by
  rcases zhi n with ⟨_,e⟩ | ⟨_,e⟩
  · rw [e] at h; exact .inr (digs_all _ c h)
  · rw [e] at h
    rcases List.mem_cons.mp h with h | h
    · exact .inl h
    · exact .inr (digs_all _ c h)
theorem zz4 {n:Int} (h:Sml n):intText? (numT n)=some n:=by
  obtain ⟨_,l2⟩:=zx5 h
  rcases zhi n with ⟨h0,e⟩ | ⟨h0,e⟩
  · rw [intText_digits (by rw [show (numT n).cps.toList=digs n.natAbs from e]; exact digs_all _) (by rw [show (numT n).cps.toList=digs n.natAbs from e]; exact digs_ne _) (by omega),show (numT n).cps.toList=digs n.natAbs from e,digs_val]
    congr 1
    omega
  · rw [intText_neg (cs:=digs n.natAbs) e (digs_all _) (digs_ne _) (by omega),digs_val]
    congr 1
    omega
theorem log_small {n:Int} (h:Sml n):n.natAbs.log2<1920:=by
  by_cases c:n.natAbs=0
  · rw [c]; decide
  · rw [Nat.log2_lt c]
    exact Nat.lt_trans h ‹10›
abbrev SL:Str := "/"
abbrev DT:Str := "."
def figs (x:List Nat):List Nat:=if x[0]?=some 45 then x.drop 1 else x
def isN (w:Str):Bool:=decide (1≤(figs (cs w)).length∧(figs (cs w)).length≤60∧(∀ c∈figs (cs w),48≤c∧c≤57)∧(cs w=[48]∨¬ (figs (cs w))[0]?=some 48))
def valN (w:Str):Int:=(intText? w).getD 0
theorem zrn {w:Str} (h:isN w=true) {c:Nat} (hc:c∈cs w):c=45∨(48≤c∧c≤57):=by
  obtain ⟨_,_,h3,_⟩:=of_decide_eq_true h
  unfold figs at h3
  split at h3
  · rename_i e
    cases ew:cs w with
    | nil=>rw [ew] at hc; cases hc
    | cons a l =>
      rw [ew] at e hc h3
      rcases List.mem_cons.mp hc with q | q
      · have:a=45:=by simpa using e
        exact .inl (q.trans this)
      · exact .inr (h3 c q)
  · exact .inr (h3 c hc)
theorem zyk {w:Str} (h:isN w=true):w.length≤61:=by
  obtain ⟨_,h2,_,_⟩:=of_decide_eq_true h
  rw [← cs_len]
  unfold figs at h2
  split at h2
  · rw [List.length_drop] at h2; omega
  · omega
theorem z3l {w:Str} (h:isN w=true):intText? w=some (valN w):=by
  have hl:=zyk h
  obtain ⟨h1,_,h3,_⟩:=of_decide_eq_true h
  have:∃ n,intText? w=some n:=by
    unfold figs at h1 h3
    split at h1
    · rename_i e
      rw [if_pos e] at h3
      cases ew:cs w with
      | nil=>rw [ew] at e; cases e
      | cons a l =>
        rw [ew] at e h1 h3
        have ea:a=45:=by simpa using e
        subst ea
        exact ⟨_,intText_neg (cs:=l) ew h3 (fun z=>by rw [z] at h1; simp at h1) (by omega)⟩
    · rename_i e
      rw [if_neg e] at h3
      exact ⟨_,intText_digits h3 (fun z=>by rw [show cs w=[] from z] at h1; simp at h1) (by omega)⟩
  obtain ⟨n,e⟩:=this
  unfold valN
  rw [e]
  rfl
theorem z54:isN DT=false:=by decide +kernel
def scan:List Str→List (List Int)→List Int→Bool→Option (List (List Int))
  | [],rows,_,_=>some rows
  | w::ws,rows,row,dot=>if w=SL then (if (row=[]∧dot=false)∨(row≠[]∧dot=true) then none else scan ws (rows++[row]) [] false)
    else if w=DT∧dot=false∧row=[] then scan ws rows row true
    else if isN w=true then scan ws rows (row++[valN w]) dot else none
def zhk (g:List Str):Bool:=decide (g=[DT]∨(g≠[]∧∀ w∈g,isN w=true))
def grpV (g:List Str):List Int:=if g=[DT] then [] else g.map valN
theorem scan_num:∀ (g:List Str) (rest:List Str) (rows:List (List Int)) (row:List Int),(∀ w∈g,w≠SL)→row≠[]→scan (g++SL::rest) rows row false=if (∀ w∈g,isN w=true) then scan rest (rows++[row++g.map valN]) [] false else none
  | [],rest,rows,row,_,hr=>by
    rw [if_pos (by intro w hw; cases hw),List.nil_append,List.map_nil,List.append_nil]
    conv=>lhs; unfold scan
    rw [if_pos rfl,if_neg]
    rintro (⟨h,_⟩ | ⟨_,h⟩)
    · exact hr h
    · cases h
  | w::g,rest,rows,row,hg,hr=>by
    have hw:=hg w List.mem_cons_self
    have ih:=scan_num g rest rows (row++[valN w]) (fun z hz=>hg z ‹33›) (by simp)
    rw [List.cons_append]
    conv=>lhs; unfold scan
    rw [if_neg hw,if_neg (fun h=>hr h.2.2)]
    by_cases c:isN w=true
    · rw [if_pos c,ih,List.append_assoc]
      by_cases d:∀ z∈g,isN z=true
      · rw [if_pos d,if_pos (fun z hz=>(List.mem_cons.mp hz).elim (fun e=>e ▸ c) (d z))]
        rfl
      · rw [if_neg d,if_neg (fun h=>d fun z hz=>h z ‹33›)]
    · rw [if_neg c,if_neg (fun h=>c (h w List.mem_cons_self))]
theorem ztp:∀ (g:List Str) (rest:List Str) (rows:List (List Int)) (row:List Int),(∀ w∈g,w≠SL)→scan (g++SL::rest) rows row true=if row=[]∧g=[] then scan rest (rows++[[]]) [] false else none
  | [],rest,rows,row,_=>by
    rw [List.nil_append]
    by_cases c:row=[]
    · subst c
      rw [if_pos ⟨rfl,rfl⟩]
      conv=>lhs; unfold scan
      rw [if_pos rfl,if_neg (by simp)]
    · rw [if_neg (fun h=>c h.1)]
      conv=>lhs; unfold scan
      rw [if_pos rfl,if_pos (.inr ⟨c,rfl⟩)]
  | w::g,rest,rows,row,hg=>by
    have hw:=hg w List.mem_cons_self
    have ih:=ztp g rest rows (row++[valN w]) (fun z hz=>hg z ‹33›)
    rw [List.cons_append,if_neg (fun h=>by cases h.2)]
    unfold scan
    rw [if_neg hw,if_neg (fun h=>by cases h.2.1)]
    by_cases c:isN w=true
    · rw [if_pos c,ih,if_neg (fun h=>by simp at h)]
    · rw [if_neg c]
theorem z1j (g rest:List Str) (rows:List (List Int)) (hg:∀ w∈g,w≠SL):scan (g++SL::rest) rows [] false=if zhk g=true then scan rest (rows++[grpV g]) [] false else none:=by
  cases g with
  | nil =>
    rw [List.nil_append]
    conv=>lhs; unfold scan
    rw [if_pos rfl,if_pos (.inl ⟨rfl,rfl⟩),if_neg ‹3›]
  | cons w g =>
    have hw:=hg w List.mem_cons_self
    have hr:∀ z∈g,z≠SL:=fun z hz=>hg z ‹33›
    rw [List.cons_append]
    conv=>lhs; unfold scan
    rw [if_neg hw]
    by_cases c:w=DT
    · subst c
      rw [if_pos ⟨rfl,rfl,rfl⟩,ztp g rest rows [] hr]
      cases g with
      | nil =>
        rw [if_pos ⟨rfl,rfl⟩,if_pos (show zhk [DT]=true from decide_eq_true (.inl rfl))]
        rfl
      | cons z g =>
        rw [if_neg (fun h=>by cases h.2),if_neg]
        intro h
        rcases of_decide_eq_true h with h | ⟨_,h⟩
        · cases h
        · have:=h _ List.mem_cons_self
          rw [z54] at this
          cases this
    · rw [if_neg (fun h=>c h.1)]
      by_cases d:isN w=true
      · rw [if_pos d,List.nil_append,scan_num g rest rows [valN w] hr (by simp)]
        have e:grpV (w::g)=[valN w]++g.map valN:=by
          unfold grpV
          rw [if_neg (fun z=>c (List.cons.inj z).1)]
          rfl
        by_cases q:∀ z∈g,isN z=true
        · rw [if_pos q,if_pos (show zhk (w::g)=true from decide_eq_true (.inr ⟨by simp,fun z hz=>(List.mem_cons.mp hz).elim (fun e=>e ▸ d) (q z)⟩)),e]
        · rw [if_neg q,if_neg]
          intro h
          rcases of_decide_eq_true h with h | ⟨_,h⟩
          · exact c (List.cons.inj h).1
          · exact q fun z hz=>h z ‹33›
      · rw [if_neg d,if_neg]
        intro h
        rcases of_decide_eq_true h with h | ⟨_,h⟩
        · exact c (List.cons.inj h).1
        · exact d (h w List.mem_cons_self)
def zek:List (List Str)→List Str
  | []=>[]
  | [g]=>g
  | g::h::r=>g++SL::zek (h::r)
theorem zor:∀ (gs:List (List Str)) (rows:List (List Int)),gs≠[]→(∀ g∈gs,∀ w∈g,w≠SL)→scan (zek gs++[SL]) rows [] false=if gs.all zhk=true then some (rows++gs.map grpV) else none
  | [],_,h,_=>absurd rfl h
  | [g],rows,_,hg=>by
    show scan (g++[SL]) rows [] false=_
    rw [z1j g [] rows (hg g List.mem_cons_self),List.all_cons,List.all_nil,Bool.and_true]
    rfl
  | g::h::r,rows,_,hg=>by
    show scan ((g++SL::zek (h::r))++[SL]) rows [] false=_
    rw [List.append_assoc,List.cons_append,z1j g _ rows (hg g List.mem_cons_self),zor (h::r) _ (by simp) fun z hz=>hg z ‹33›,show (g::h::r).all zhk=(zhk g&&(h::r).all zhk) from rfl]
    cases zhk g with
    | false=>rw [Bool.false_and]; rfl
    | true =>
      rw [Bool.true_and,if_pos rfl,List.append_assoc]
      rfl
def zdb:List Str→List (List Str)
  | []=>[[]]
  | w::ws=>if w=SL then []::zdb ws else match zdb ws with
    | []=>[[w]]
    | g::r=>(w::g)::r
theorem zjy:∀ ws:List Str,zdb ws≠[]
  | []=>by simp [zdb]
  | w::ws=>by
    unfold zdb
    split
    · simp
    · split <;> simp
theorem zk1:∀ ws:List Str,zek (zdb ws)=ws
  | []=>rfl
  | w::ws=>by
    have ih:=zk1 ws
    have hn:=zjy ws
    unfold zdb
    cases e:zdb ws with
    | nil=>exact absurd e hn
    | cons g r =>
      rw [e] at ih
      by_cases c:w=SL
      · rw [if_pos c]
        show []++SL::zek (g::r)=_
        rw [ih,c]
        rfl
      · rw [if_neg c]
        show zek ((w::g)::r)=_
        cases r with
        | nil =>
          show w::g=w::ws
          rw [show g=ws from ih]
        | cons h r =>
          show (w::g)++SL::zek (h::r)=w::ws
          rw [← ih]
          rfl
theorem zmy:∀ (ws:List Str),∀ g∈zdb ws,∀ w∈g,w≠SL
  | [],g,hg,w,hw=>by
    have:g=[]:=List.mem_singleton.mp hg
    rw [this] at hw
    cases hw
  | z::ws,g,hg,w,hw=>by
    have ih:=zmy ws
    unfold zdb at hg
    split at hg
    · rcases List.mem_cons.mp hg with q | q
      · rw [q] at hw; cases hw
      · exact ih g q w hw
    · rename_i c
      split at hg
      · rw [List.mem_singleton.mp hg] at hw
        rw [List.mem_singleton.mp hw]
        exact c
      · rename_i g0 r e
        rcases List.mem_cons.mp hg with q | q
        · rw [q] at hw
          rcases List.mem_cons.mp hw with p | p
          · rw [p]; exact c
          · exact ih g0 (by rw [e]; exact List.mem_cons_self) w p
        · exact ih g (by rw [e]; exact List.mem_cons_of_mem _ q) w hw
theorem zro:∀ (gs:List (List Str)),gs≠[]→(∀ g∈gs,∀ w∈g,w≠SL)→zdb (zek gs)=gs:=by
  have one:∀ (g:List Str) (rest:List Str),(∀ w∈g,w≠SL)→zdb (g++SL::rest)=g::zdb rest:=by
    intro g
    induction g with
    | nil=>intro rest _; rw [List.nil_append]; conv=>lhs; unfold zdb; rw [if_pos rfl]
    | cons w g ih =>
      intro rest h
      rw [List.cons_append]
      conv=>lhs; unfold zdb
      rw [if_neg (h w List.mem_cons_self),ih rest fun z hz=>h z ‹33›]
  have last:∀ (g:List Str),(∀ w∈g,w≠SL)→zdb g=[g]:=by
    intro g
    induction g with
    | nil=>intro _; rfl
    | cons w g ih =>
      intro h
      conv=>lhs; unfold zdb
      rw [if_neg (h w List.mem_cons_self),ih fun z hz=>h z ‹33›]
  intro gs
  induction gs with
  | nil=>intro h; exact absurd rfl h
  | cons g r ih =>
    intro _ h
    cases r with
    | nil=>exact last g (h g List.mem_cons_self)
    | cons q r =>
      show zdb (g++SL::zek (q::r))=_
      rw [one g _ (h g List.mem_cons_self),ih (by simp) fun z hz=>h z ‹33›]
theorem zgd (y:Str):∀ (a b:List Str),a≠[]→b≠[]→Str.join y (a++b)=Str.join y a++y++Str.join y b
  | [],_,h,_=>absurd rfl h
  | [p],b,_,hb=>by
    cases b with
    | nil=>exact absurd rfl hb
    | cons q r=>rfl
  | p::q::r,b,_,hb=>by
    have ih:=zgd y (q::r) b (by simp) hb
    show p++y++Str.join y ((q::r)++b)=p++y++Str.join y (q::r)++y++Str.join y b
    rw [ih]
    simp only [Str.append_assoc]
theorem bar:(" / " : Str) = " " ++ SL ++ " " := by apply zj5; decide +kernel
theorem zpf:∀ (gs:List (List Str)),gs≠[]→(∀ g∈gs,g≠[])→zek gs≠[]
  | [],h,_=>absurd rfl h
  | [g],_,h=>h g List.mem_cons_self
  | g::h::r,_,_=>by simp [zek]
theorem zh9:∀ (gs:List (List Str)),gs≠[]→(∀ g∈gs,g≠[])→Str.join " " (zek gs)=Str.join " / " (gs.map (Str.join " "))
  | [],h,_=>absurd rfl h
  | [g],_,_=>rfl
  | g::h::r,_,hg=>by
    have ih:=zh9 (h::r) (by simp) fun z hz=>hg z ‹33›
    show Str.join " " (g++SL::zek (h::r))=Str.join " " g ++ " / " ++ Str.join " / " ((h::r).map (Str.join " "))
    rw [zgd " " g _ (hg g List.mem_cons_self) (by simp),← ih]
    have e:Str.join " " (SL::zek (h::r))=SL ++ " " ++ Str.join " " (zek (h::r)):=by
      rw [show (SL::zek (h::r):List Str)=[SL]++zek (h::r) from rfl,zgd " " [SL] _ (by simp) (zpf _ (by simp) fun z hz=>hg z ‹33›)]
      rfl
    rw [e,bar]
    simp only [Str.append_assoc]
theorem zeq (x y:Str):Str.join y (splitL x y)=x:=by
  have h:=StrLaws.join_split x y
  unfold Txt.split at h
  unfold splitL
  by_cases c1:(decide (x.length<y.length) || decide (Builtin.Str.strKind x<Builtin.Str.strKind y))=true
  · rw [c1,Bool.true_or,if_pos rfl]
    rfl
  · rw [if_neg c1] at h
    have c1:=Bool.eq_false_iff.mpr c1
    rw [c1,Bool.false_or]
    exact h
theorem zzz (x:Str) (w a:Nat):∀ cuts:List Nat,StrLaws.partsFrom x w a cuts≠[]
  | []=>by simp [StrLaws.partsFrom]
  | k::r=>by simp [StrLaws.partsFrom]
theorem zqd (x y:Str):splitL x y≠[]:=by
  unfold splitL
  split
  · simp
  · rw [StrLaws.partsBetween_eq]
    exact zzz x _ _ _
def rowOk (p:Str):Bool:=decide (p=DT∨∀ w∈splitL p " ", isN w=true)
def rowV (p:Str):List Int:=if p=DT then [] else (splitL p " ").map valN
theorem zhw {ws:List Str} (hne:ws≠[]) (h:∀ w∈ws,32∉cs w):splitL (Str.join " " ws) " " = ws:=zno (c:=32) (d:=0) rfl (fun i hi=>by omega) ‹10› hne h
theorem zwu {ps:List Str} (hne:ps≠[]) (h:∀ p∈ps,47∉cs p):splitL (Str.join " / " ps) " / " = ps:=by
  refine zno (c:=47) (d:=1) rfl (fun i hi=>?_) ‹10› hne h
  have:i=0:=by omega
  subst this
  show some 32≠some 47
  decide
theorem jchars {y:Str} {c:Nat}:∀ {ps:List Str},c∈cs (Str.join y ps)→c∈cs y∨∃ p∈ps,c∈cs p
  | [],h=>by cases h
  | [p],h=>.inr ⟨p,List.mem_cons_self,h⟩
  | p::q::r,h=>by
    have h:c∈cs (p++y++Str.join y (q::r)):=h
    rw [zdg,zdg] at h
    rcases List.mem_append.mp h with h | h
    · rcases List.mem_append.mp h with h | h
      · exact .inr ⟨p,List.mem_cons_self,h⟩
      · exact .inl h
    · rcases jchars (ps:=q::r) h with h | ⟨z,hz,h⟩
      · exact .inl h
      · exact .inr ⟨z,List.mem_cons_of_mem _ hz,h⟩
theorem zpg {g:List Str} (h:zhk g=true):g≠[]:=by
  rcases of_decide_eq_true h with h | h
  · rw [h]; simp
  · exact h.1
theorem grpOk_chars {g:List Str} (h:zhk g=true) {w:Str} (hw:w∈g) {c:Nat} (hc:c∈cs w):c=46∨c=45∨(48≤c∧c≤57):=by
  rcases of_decide_eq_true h with h | h
  · rw [h] at hw
    rw [List.mem_singleton.mp hw] at hc
    exact .inl (List.mem_singleton.mp (show c∈[46] from hc))
  · exact .inr (zrn (h.2 w hw) hc)
theorem zrp {g:List Str} (h:zhk g=true):rowOk (Str.join " " g)=true∧rowV (Str.join " " g)=grpV g:=by
  by_cases c:g=[DT]
  · subst c
    have e:Str.join " " [DT]=DT:=rfl
    rw [e]
    exact ⟨decide_eq_true (.inl rfl),by unfold rowV grpV; rw [if_pos rfl,if_pos rfl]⟩
  · have h2:=(of_decide_eq_true h).resolve_left c
    have es:splitL (Str.join " " g) " " = g:=zhw h2.1 fun w hw hc=>by
      have:=grpOk_chars h hw hc
      omega
    refine ⟨decide_eq_true (.inr fun w hw=>h2.2 w (by rw [es] at hw; exact hw)),?_⟩
    unfold rowV grpV
    rw [if_neg c,if_neg,es]
    intro z
    rw [z] at es
    have e2:splitL (DT:Str) " " = [DT]:=by
      have:=zhw (ws:=[DT]) (by simp) (fun w hw hc=>by
        rw [List.mem_singleton.mp hw] at hc
        have:32=46:=List.mem_singleton.mp (show 32∈[46] from hc)
        omega)
      exact this
    rw [e2] at es
    exact c es.symm
theorem key (x:Str):scan (splitL x " " ++ [SL]) [] [] false=if (splitL x " / ").all rowOk=true then some ((splitL x " / ").map rowV) else none:=by
  have hw:=zk1 (splitL x " ")
  have hx:=zeq x " "
  have sc:=zor (zdb (splitL x " ")) [] (zjy _) (zmy _)
  rw [hw,List.nil_append] at sc
  rw [sc]
  have A:(zdb (splitL x " ")).all zhk=true→(splitL x " / ").all rowOk=true∧(splitL x " / ").map rowV=(zdb (splitL x " ")).map grpV:=by
    intro h
    rw [List.all_eq_true] at h
    have e:splitL x " / " = (zdb (splitL x " ")).map (Str.join " "):=by
      conv=>lhs; rw [← hx,← hw,zh9 _ (zjy _) fun g hg=>zpg (h g hg)]
      refine zwu (by simpa using zjy _) fun p hp hc=>?_
      obtain ⟨g,hg,rfl⟩:=List.mem_map.mp hp
      rcases jchars hc with q | ⟨w,hw,q⟩
      · have:47=32:=List.mem_singleton.mp (show 47∈[32] from q)
        omega
      · have:=grpOk_chars (h g hg) hw q
        omega
    rw [e]
    constructor
    · rw [List.all_eq_true]
      intro p hp
      obtain ⟨g,hg,rfl⟩:=List.mem_map.mp hp
      exact (zrp (h g hg)).1
    · rw [List.map_map]
      exact List.map_congr_left fun g hg=>(zrp (h g hg)).2
  by_cases c:(zdb (splitL x " ")).all zhk=true
  · obtain ⟨a1,a2⟩:=A c
    rw [if_pos c,if_pos a1,a2]
  · rw [if_neg c,if_neg]
    intro h
    apply c
    rw [List.all_eq_true] at h
    have hb:=zeq x " / "
    let gf:Str→List Str:=fun p=>if p=DT then [DT] else splitL p " "
    have jf:∀ p,Str.join " " (gf p)=p:=fun p=>by
      by_cases q:p=DT
      · show Str.join " " (if p=DT then [DT] else splitL p " ")=p
        rw [if_pos q,q]
        rfl
      · show Str.join " " (if p=DT then [DT] else splitL p " ")=p
        rw [if_neg q]
        exact zeq p " "
    have ok:∀ p∈splitL x " / ", zhk (gf p)=true:=fun p hp=>by
      show zhk (if p=DT then [DT] else splitL p " ")=true
      by_cases q:p=DT
      · rw [if_pos q]; exact decide_eq_true (.inl rfl)
      · rw [if_neg q]
        exact decide_eq_true (.inr ⟨zqd p " ", (of_decide_eq_true (h p hp)).resolve_left q⟩)
    have okg:∀ g∈(splitL x " / ").map gf,zhk g=true:=fun g hg=>by
      obtain ⟨p,hp,rfl⟩:=List.mem_map.mp hg
      exact ok p hp
    have gne:(splitL x " / ").map gf≠[]:=by simpa using zqd x " / "
    have ej:Str.join " " (zek ((splitL x " / ").map gf))=x:=by
      rw [zh9 _ gne fun g hg=>zpg (okg g hg),List.map_map]
      have:(splitL x " / ").map (Str.join " " ∘ gf)=splitL x " / " := by
        conv=>rhs; rw [← List.map_id (splitL x " / ")]
        exact List.map_congr_left fun p _=>jf p
      rw [this,hb]
    have inw:∀ (gs:List (List Str)) (w:Str),w∈zek gs→w=SL∨∃ g∈gs,w∈g:=by
      intro gs
      induction gs with
      | nil=>intro w hw; cases hw
      | cons g r ih =>
        intro w hw
        cases r with
        | nil=>exact .inr ⟨g,List.mem_cons_self,hw⟩
        | cons q r =>
          have hw:w∈g++SL::zek (q::r):=hw
          rcases List.mem_append.mp hw with z | z
          · exact .inr ⟨g,List.mem_cons_self,z⟩
          · rcases List.mem_cons.mp z with z | z
            · exact .inl z
            · rcases ih w z with z | ⟨g2,h1,h2⟩
              · exact .inl z
              · exact .inr ⟨g2,List.mem_cons_of_mem _ h1,h2⟩
    have es:splitL x " " = zek ((splitL x " / ").map gf):=by
      conv=>lhs; rw [← ej]
      refine zhw (zpf _ gne fun g hg=>zpg (okg g hg)) fun w hw hc=>?_
      rcases inw _ w hw with z | ⟨g,hg,z⟩
      · rw [z] at hc
        have:32=47:=List.mem_singleton.mp (show 32∈[47] from hc)
        omega
      · have:=grpOk_chars (okg g hg) z hc
        omega
    rw [es,zro _ gne,List.all_eq_true]
    · exact okg
    · intro g hg w hw z
      rw [z] at hw
      have:=grpOk_chars (okg g hg) hw (c:=47) (show 47∈[47] from List.mem_cons_self)
      omega
def Good (x:Str):Prop:=(∀ c∈cs x,c<128)∧x.length≤20000
theorem zwi {x y:Str} {c:Nat} (hy:cs y=[c]):zod x y=decide ((cs x)[0]?=some c):=by
  have e:y=⟨#[c]⟩:=zj5 hy
  subst e
  have h:=StrLaws.subAt_one x c 0
  unfold zod
  by_cases q:(cs x)[0]?=some c
  · obtain ⟨h1,h2⟩:=h.mpr q
    rw [decide_eq_true q,h2,Bool.and_true]
    exact decide_eq_true h1
  · rw [decide_eq_false q]
    rw [Bool.and_eq_false_iff]
    by_cases h1:0+(⟨#[c]⟩:Str).length≤x.length
    · refine .inr ?_
      cases e:Builtin.Str.subAt x ⟨#[c]⟩ 0 with
      | false=>rfl
      | true=>exact absurd (h.mp ⟨h1,e⟩) q
    · exact .inl (decide_eq_false h1)
theorem z3o (c:Nat) (h:c<128):inTZ ⟨#[c]⟩ ("0123456789" : Str)=decide (48≤c∧c≤57):=by
  have:∀ d:Fin 128,inTZ ⟨#[d.val]⟩ ("0123456789" : Str)=decide (48≤d.val∧d.val≤57):=by decide +kernel
  exact this ⟨c,h⟩
theorem all_ev {bs:List Bool}:allD (.lst (bs.map D.bl))=some (.bl (bs.all id)):=by
  show (trus _).map _=_
  rw [zn9]; rfl
theorem zm3 {a b:DE} {ρ:Rho} {x y:Str} (ha:a ρ=some (.str x)) (hb:b ρ=some (.str y)) (h:x≠y):dEq false a b ρ=some (.bl false):=by
  rw [z0r (neg:=false) ha hb rfl,if_neg ‹3›]
  congr 2
  rw [decide_eq_false_iff_not]
  exact fun z=>h (by cases z; rfl)
theorem zrs {a b:DE} {ρ:Rho} {x:Str} (ha:a ρ=some (.str x)) (hb:b ρ=some (.str x)):dEq false a b ρ=some (.bl true):=zy0 ha hb rfl
theorem zue {a b:DE} {ρ:Rho} {x y:Str} (ha:a ρ=some (.str x)) (hb:b ρ=some (.str y)):dEq false a b ρ=some (.bl (decide (x=y))):=by
  by_cases c:x=y
  · rw [decide_eq_true c]
    subst c
    exact zrs ha hb
  · rw [decide_eq_false c]
    exact zm3 ha hb c
theorem z0n {l:List Nat} {c:Nat} (h:c∈figs l):c∈l:=by
  unfold figs at h
  split at h
  · exact List.mem_of_mem_drop h
  · exact h
theorem z0o (l:List Nat):(figs l).length≤l.length:=by
  unfold figs
  split
  · rw [List.length_drop]; omega
  · omega
theorem cs_tail (x:Str):cs (tailT x)=(cs x).drop 1:=rfl
theorem ev_lenT {a:DE} {ρ:Rho} {x:Str} (ha:a ρ=some (.str x)) (h:x.length≤sizeLine):dF1 lenD a ρ=some (.int (x.length:Int)):=ev_f1 ha (by show (if x.length≤sizeLine then some (D.int x.length) else none)=_; rw [if_pos h])
theorem is_number {x:Str} (h:Good x):F_is_number [.str x]=some (.bl (isN x)):=by
  have hline:sizeLine=16777216:=sizeLine_eq
  obtain ⟨ha,hl⟩:=h
  refine zbm zhp ?_
  rw [zp8]
  unfold zgm
  obtain ⟨fig,efig,ev⟩:∃ fig:Str,cs fig=figs (cs x)∧dIf (dTru (zja (dVar 0) (dC (.str "-")))) (zm6 (dVar 0) (zdw ‹28›) zd8) (zlf (dVar 0)) [.bo (.str x),.un]=some (.str fig):=by
    have es:dTru (zja (dVar 0) (dC (.str "-"))) [.bo (.str x),.un]=some (decide ((cs x)[0]?=some 45)):=zb6 (zlh rfl rfl (by rw [zwi (c:=45) rfl])) rfl
    unfold figs
    by_cases c:(cs x)[0]?=some 45
    · refine ⟨tailT x,by rw [if_pos c]; exact cs_tail x,?_⟩
      unfold dIf
      rw [es,decide_eq_true c]
      exact zub rfl rfl rfl (by omega)
    · refine ⟨x,by rw [if_neg c],?_⟩
      unfold dIf
      rw [es,decide_eq_false c]
      exact zgf rfl rfl
  have hfl:fig.length=(figs (cs x)).length:=by rw [← cs_len,efig]
  have hfl2:(figs (cs x)).length≤x.length:=by rw [← cs_len]; exact z0o _
  have hfa:∀ c∈figs (cs x),c<128:=fun c hc=>ha c (z0n hc)
  refine wp_seq (zba ev ?_)
  walk_at "st"
  have ec:zdk 1 [] (zis (dVar 1)) (gN true 0) zdc (dInT (dVar 0) (dC (.str "0123456789"))) [.bo (.str x),.pu (.str fig)]=some (((figs (cs x)).map fun c=>decide (48≤c∧c≤57)).map D.bl):=by
    rw [List.map_map]
    refine ev_compA0 (fun c=>D.str ⟨#[c]⟩) (xs:=figs (cs x)) ?_ (fun c=>D.bl (decide (48≤c∧c≤57))) fun c hc=>⟨_,rfl,?_⟩
    · rw [ev_signs (x:=fig) rfl ⟨?_,by omega⟩]
      · unfold signs
        rw [show fig.cps.toList=figs (cs x) from efig]
      · rw [← Array.all_toList,show fig.cps.toList=figs (cs x) from efig,List.all_eq_true]
        intro c hc
        exact decide_eq_true (hfa c hc)
    · exact zlh rfl rfl (by rw [z3o c (hfa c hc)])
  have e1:dNot (dT (zd9 ‹29› ‹29› ‹28› (dF1 lenD (dVar 1)) (dC (.int 60)))) [.bo (.str x),.pu (.str fig)]=some (!decide (1≤(figs (cs x)).length∧(figs (cs x)).length≤60)):=by
    refine ev_not (ev_t ?_)
    rw [ev_chain (i:=1) (j:=(fig.length:Int)) (k:=60) rfl (ev_lenT rfl (by omega)) rfl,hfl]
    congr 2
    rw [Bool.decide_and]
    congr 1
    · exact decide_eq_decide.mpr (by omega)
    · exact decide_eq_decide.mpr (by omega)
  have e2:dNot (dTru (dF1 allD (dLst (zdk 1 [] (zis (dVar 1)) (gN true 0) zdc (dInT (dVar 0) (dC (.str "0123456789"))))))) [.bo (.str x),.pu (.str fig)]=some (!decide (∀ c∈figs (cs x),48≤c∧c≤57)):=by
    refine ev_not (zb6 (ev_f1 (ev_lst ec) all_ev) ?_)
    show some _=some _
    congr 1
    rw [List.all_map]
    by_cases c:∀ c∈figs (cs x),48≤c∧c≤57
    · rw [decide_eq_true c,List.all_eq_true]
      exact fun z hz=>decide_eq_true (c z hz)
    · rw [decide_eq_false c,Bool.eq_false_iff]
      intro z
      rw [List.all_eq_true] at z
      exact c fun y hy=>of_decide_eq_true (z y hy)
  have e3:dOrV (dEq false (dVar 0) (dC (.str "0"))) (zpn (zja (dVar 1) (dC (.str "0")))) [.bo (.str x),.pu (.str fig)]=some (.bl (decide (cs x=[48]∨¬ (figs (cs x))[0]?=some 48))):=by
    have q2:zpn (zja (dVar 1) (dC (.str "0"))) [.bo (.str x),.pu (.str fig)]=some (.bl (!decide ((cs fig)[0]?=some 48))):=zm1 (zlh rfl rfl (by rw [zwi (c:=48) rfl]))
    have q1:dEq false (dVar 0) (dC (.str "0")) [.bo (.str x),.pu (.str fig)]=some (.bl (decide (x = "0"))):=zue rfl rfl
    rw [zud q1 fun _=>q2,efig,Bool.decide_or,decide_not]
    congr 3
    exact decide_eq_decide.mpr ⟨fun z=>by rw [z]; rfl,fun z=>zj5 z⟩
  unfold isN
  by_cases c1:1≤(figs (cs x)).length∧(figs (cs x)).length≤60
  · rw [decide_eq_true c1] at e1
    by_cases c2:∀ c∈figs (cs x),48≤c∧c≤57
    · rw [decide_eq_true c2] at e2
      refine wp_seq (zcd (ev_or (x:=false) (y:=false) e1 fun _=>e2) (zat (wp_ret e3 ?_)))
      congr 1
      exact decide_eq_decide.mpr ⟨fun z=>⟨c1.1,c1.2,c2,z⟩,fun z=>z.2.2.2⟩
    · rw [decide_eq_false c2] at e2
      refine wp_seq (wp_ifT (ev_or (x:=false) (y:=true) e1 fun _=>e2) (wp_ret rfl ?_))
      congr 1
      exact (decide_eq_false fun z=>c2 z.2.2.1).symm
  · rw [decide_eq_false c1] at e1
    refine wp_seq (wp_ifT (ev_or (x:=true) (y:=true) e1 fun h=>by cases h) (wp_ret rfl ?_))
    congr 1
    exact (decide_eq_false fun z=>c1 ⟨z.1,z.2.1⟩).symm
theorem zdh {x y w:Str} (h:Good x) (hw:w∈splitL x y):Good w:=by
  have hx:=zeq x y
  have sub:∀ (ps:List Str),w∈ps→(∀ c∈cs w,c∈cs (Str.join y ps))∧w.length≤(Str.join y ps).length:=by
    intro ps
    induction ps with
    | nil=>intro h; cases h
    | cons p r ih =>
      intro h
      cases r with
      | nil =>
        have:w=p:=List.mem_singleton.mp h
        subst this
        exact ⟨fun c hc=>hc,Nat.le_refl _⟩
      | cons q r =>
        have e:Str.join y (p::q::r)=p++y++Str.join y (q::r):=rfl
        rw [e,zdg,zdg,Str.length_append,Str.length_append]
        rcases List.mem_cons.mp h with h | h
        · subst h
          exact ⟨fun c hc=>List.mem_append_left _ (List.mem_append_left _ hc),by omega⟩
        · obtain ⟨a,b⟩:=ih h
          exact ⟨fun c hc=>List.mem_append_right _ (a c hc),by omega⟩
  obtain ⟨a,b⟩:=sub _ hw
  rw [hx] at a b
  exact ⟨fun c hc=>h.1 c (a c hc),Nat.le_trans b h.2⟩
theorem zuq (x:Str) {y:Str} (hy:1≤y.length):(splitL x y).length≤x.length+1:=by
  have hx:=zeq x y
  have:∀ ps:List Str,ps.length≤(Str.join y ps).length+1:=by
    intro ps
    induction ps with
    | nil=>simp
    | cons p r ih =>
      cases r with
      | nil=>simp
      | cons q r =>
        have e:Str.join y (p::q::r)=p++y++Str.join y (q::r):=rfl
        rw [e,Str.length_append,Str.length_append,List.length_cons]
        omega
  have:=this (splitL x y)
  rw [hx] at this
  exact this
theorem read_number {x:Str} (h:Good x) (hn:isN x=true):F_read_number [.str x]=some (.int (valN x)):=by
  refine zbm zfz ?_
  rw [zfm]
  unfold zel
  refine wp_seq (zcd (ev_not (x:=true) (zb6 (ev_call ‹5› (by rw [is_number h,hn])) rfl)) (zat ?_))
  refine wp_ret (ev_f1 rfl ?_) rfl
  show (if x.length≤640 then (intText? x).map D.int else none)=_
  have:=zyk hn
  rw [if_pos (by omega),z3l hn]
  rfl
theorem zxg {x:Str} (h:Good x):(reprText x).length≤1000000:=by
  have:=StrLaws.reprText_len x fun c hc=>Nat.lt_trans (h.1 c hc) ‹3›
  have:=h.2
  omega
theorem zkw {x:Str} (h:Good x) (hn:isN x=false):zdd [.str x]=some .non:=by
  refine zfo zdy ?_
  rw [zfm]
  unfold zdi
  exact wp_seq (wp_ifT (ev_not (x:=false) (zb6 (ev_call ‹5› (by rw [is_number h,hn])) rfl)) (zl6 rfl (zxg h) rfl))
def lsD (l:List Int):D:=.lst (l.map D.int)
def rsD (R:List (List Int)):D:=.lst (R.map lsD)
theorem zhx {x y:Str} {a b:DE} {ρ:Rho} (hx:Good x) (hy:1≤y.length) (ha:a ρ=some (.str x)) (hb:b ρ=some (.str y)):zj2 a b ρ=some ((splitL x y).map D.str):=by
  have hline:sizeLine=16777216:=sizeLine_eq
  have:=zuq x hy
  have:=hx.2
  exact z0p ha hb ⟨beq_false_of_ne (by omega),by omega,by omega⟩
theorem read_row {p:Str} (h:Good p) (ho:rowOk p=true):F_read_row [.str p]=some (lsD (rowV p)):=by
  refine zbm ziv ?_
  rw [ziy]
  unfold zic rowV
  by_cases c:p=DT
  · subst c
    exact wp_seq (wp_ifT (ev_t (zrs rfl rfl)) (wp_ret rfl (by rw [if_pos rfl]; rfl)))
  · have hw:=(of_decide_eq_true ho).resolve_left c
    refine wp_seq (zcd (ev_t (zm3 rfl rfl c)) (zat (wp_ret (d:=.lst ((splitL p " ").map fun w=>.int (valN w))) (ev_lst ?_) ?_)))
    · exact ev_compA0 D.str (ev_asL (ev_lst (zhx h ‹3› rfl rfl)) rfl) (fun w=>.int (valN w)) fun w hw2=>⟨_,rfl,ev_call ‹5› (read_number (zdh h hw2) (hw w hw2))⟩
    · rw [if_neg c]
      unfold lsD
      rw [List.map_map]
      rfl
theorem zqx {p:Str} (h:Good p) (ho:rowOk p=false):zep [.str p]=some .non:=by
  have ho:=of_decide_eq_false ho
  refine zfo zfq ?_
  rw [ziy]
  unfold zeu
  have c:p≠DT:=fun z=>ho (.inl z)
  refine wp_seq (zcd (ev_t (zm3 rfl rfl c)) (zat (zn5 (ds:=(splitL p " ").map D.str) (ev_asL (ev_lst (zhx h ‹3› rfl rfl)) rfl) (zjn D.str (fun w hw=>?_) ?_) rfl)))
  · refine ⟨_,rfl,?_⟩
    cases q:isN w with
    | true=>exact .inr ⟨_,ev_call ‹5› (read_number (zdh h hw) q)⟩
    | false=>exact .inl ⟨_,ev_call ‹5› (zkw (zdh h hw) q)⟩
  · have:∃ w∈splitL p " ", isN w=false:=Classical.byContradiction fun z=>ho (.inr fun w hw=>by
      cases q:isN w with
      | true=>rfl
      | false=>exact absurd ⟨w,hw,q⟩ z)
    obtain ⟨w,hw,q⟩:=this
    refine ⟨w,hw,fun ρ1 e=>?_⟩
    cases e
    exact ⟨_,ev_call ‹5› (zkw (zdh h hw) q)⟩
def said (x:Str):Option (List (List Int)):=if x = "-" then some [] else if (splitL x " / ").all rowOk=true then some ((splitL x " / ").map rowV) else none
theorem read_rows {x:Str} (h:Good x) {R:List (List Int)} (hs:said x=some R):F_read_rows [.str x]=some (rsD R):=by
  refine zbm zho ?_
  rw [zha]
  unfold zgl
  unfold said at hs
  by_cases c:x = "-"
  · rw [if_pos c] at hs
    cases hs
    subst c
    exact wp_seq (wp_ifT (ev_t (zrs rfl rfl)) (wp_ret rfl rfl))
  · rw [if_neg c] at hs
    split at hs
    · rename_i q
      cases hs
      rw [List.all_eq_true] at q
      refine wp_seq (zcd (ev_t (zm3 rfl rfl c)) (zat (wp_ret (d:=.lst ((splitL x " / ").map fun p=>lsD (rowV p))) (ev_lst ?_) ?_)))
      · exact ev_compA0 D.str (ev_asL (ev_lst (zhx h ‹3› rfl rfl)) rfl) (fun p=>lsD (rowV p)) fun p hp=>⟨_,rfl,ev_call ‹5› (read_row (zdh h hp) (q p hp))⟩
      · unfold rsD
        rw [List.map_map]
        rfl
    · cases hs
theorem zu4 {x:Str} (h:Good x) (hs:said x=none):zdx [.str x]=some .non:=by
  refine zfo zet ?_
  rw [zha]
  unfold zeb
  unfold said at hs
  by_cases c:x = "-"
  · rw [if_pos c] at hs
    cases hs
  · rw [if_neg c] at hs
    split at hs
    · cases hs
    · rename_i ho
      refine wp_seq (zcd (ev_t (zm3 rfl rfl c)) (zat (zn5 (ds:=(splitL x " / ").map D.str) (ev_asL (ev_lst (zhx h ‹3› rfl rfl)) rfl) (zjn D.str (fun w hw=>?_) ?_) rfl)))
      · refine ⟨_,rfl,?_⟩
        cases q:rowOk w with
        | true=>exact .inr ⟨_,ev_call ‹5› (read_row (zdh h hw) q)⟩
        | false=>exact .inl ⟨_,ev_call ‹5› (zqx (zdh h hw) q)⟩
      · have:∃ w∈splitL x " / ", rowOk w=false:=Classical.byContradiction fun z=>ho (by
          rw [List.all_eq_true]
          intro w hw
          cases q:rowOk w with
          | true=>rfl
          | false=>exact absurd ⟨w,hw,q⟩ z)
        obtain ⟨w,hw,q⟩:=this
        refine ⟨w,hw,fun ρ1 e=>?_⟩
        cases e
        exact ⟨_,ev_call ‹5› (zqx (zdh h hw) q)⟩
def WS:List Str:=["alike", "open", "tails", "windows", "tree", "pairs"]
def KA:List Addr:=[zpu,ztb,zps,zkr,zta,zpt]
def insD (C:Addr):D:=.ins C
theorem zhl {a b:DE} {ρ:Rho} {d:D} (ha:a ρ=some d) (hb:b ρ=some d) (h:cmpb 20 d d=true):dEq true a b ρ=some (.bl false):=by
  rw [z0r ha hb h,if_pos rfl]; simp
theorem zun {x c:Int} {k:Nat} (hk:10≤k) (hb:Builtin.Int.intBits x≤k) (h0:0≤c) (h1:c<1000):Builtin.Int.intBits (x+c)≤k+1:=by
  have p:1000≤2 ^ k:=Nat.le_trans (show 1000≤2 ^ 10 by decide) (Nat.pow_le_pow_right ‹3› hk)
  have hx:x.natAbs<2 ^ k:=by
    by_cases c:x=0
    · rw [c]; show 0<2 ^ k; omega
    · unfold Builtin.Int.intBits at hb
      rw [if_neg (by simpa using c)] at hb
      exact (Nat.log2_lt (by omega)).mp (by omega)
  have hy:(x+c).natAbs<2 ^ (k+1):=by
    rw [Nat.pow_succ]
    generalize 2 ^ k=P at p hx
    omega
  unfold Builtin.Int.intBits
  split
  · omega
  · rename_i z
    have z:¬ x+c=0:=by simpa using z
    have:=(Nat.log2_lt (show (x+c).natAbs≠0 by omega)).mpr hy
    omega
def mixZ (x k:Int):Int:=(x*x+k*x+7*k*k)*1103515245 % 2147483629
theorem mix (x k:Int) (hb:Builtin.Int.intBits x≤1048577) (h0:0≤k) (h1:k<1000):F_l_mix [.int x,.int k]=some (.int (mixZ x k)):=by
  refine zbm znh ?_
  rw [zzo]
  unfold zpy
  refine wp_ret (ev_mod (zir (zgt (zgt (zir rfl rfl (IntMulOk.of_le hb hb ‹3›)) (zir rfl rfl (imul (by omega)))) (zir (zir rfl rfl (imul (by omega))) rfl (imul (by omega)))) rfl (imul (by omega))) rfl ‹3›) rfl
theorem mixZ_lt (x k:Int):0≤mixZ x k∧mixZ x k<2147483629:=⟨Int.emod_nonneg _ ‹3›,Int.emod_lt_of_pos _ ‹3›⟩
def Gn (n:Nat) (x:Str):Prop:=(∀ c∈x.cps.toList,64<c∧c<128)∧x.length≤n
theorem Gn.app {n m:Nat} {x y:Str} (hx:Gn n x) (hy:Gn m y):Gn (n+m) (x++y):=by
  refine ⟨fun c hc=>?_,by have:=hx.2; have:=hy.2; rw [strLen_append]; omega⟩
  have e:(x++y).cps.toList=x.cps.toList++y.cps.toList:=Array.toList_append
  rw [e] at hc
  exact (List.mem_append.mp hc).elim (hx.1 c) (hy.1 c)
theorem Gn.slice {n:Nat} {x:Str} (hx:Gn n x) (lo hi:Option Int):Gn n (zkt x lo hi):=by
  refine ⟨fun c hc=>?_,Nat.le_trans (zqf x lo hi) hx.2⟩
  have hc:c∈(Builtin.Str.strSliceIndices lo hi 1 x.length).filterMap (x.cps[·]?):=by
    unfold zkt at hc
    simpa using hc
  obtain ⟨i,_,e⟩:=List.mem_filterMap.mp hc
  have:=Array.mem_of_getElem? e
  exact hx.1 c (by simpa using this)
theorem Gn.up {n:Nat} {x:Str} (hx:Gn n x):Gn n (Txt.upper x):=by
  rw [PyProof.Rows.upper_ascii fun c hc=>(hx.1 c hc).2]
  refine ⟨fun c hc=>?_,?_⟩
  · have hc:c∈x.cps.toList.map PyProof.Rows.up1:=by simpa using hc
    obtain ⟨d,hd,rfl⟩:=List.mem_map.mp hc
    have:=hx.1 d hd
    unfold PyProof.Rows.up1
    split <;> omega
  · show (Array.map PyProof.Rows.up1 x.cps).size≤n
    rw [Array.size_map]
    exact hx.2
theorem Gn.mono {n m:Nat} {x:Str} (hx:Gn n x) (h:n≤m):Gn m x:=⟨hx.1,Nat.le_trans hx.2 h⟩
theorem Gn.repr {x:Str} (hx:Gn 40 x):(reprText x).length≤1000000:=by
  have:=StrLaws.reprText_len x fun c hc=>Nat.lt_trans (hx.1 c hc).2 ‹3›
  have:=hx.2
  omega
theorem z34 {w:Str} {k:Nat} (h:WS[k]?=some w):Gn 7 w:=by
  unfold WS at h
  match k,h with
  | 0,h=>cases h; exact ⟨by decide,by decide⟩
  | 1,h=>cases h; exact ⟨by decide,by decide⟩
  | 2,h=>cases h; exact ⟨by decide,by decide⟩
  | 3,h=>cases h; exact ⟨by decide,by decide⟩
  | 4,h=>cases h; exact ⟨by decide,by decide⟩
  | 5,h=>cases h; exact ⟨by decide,by decide⟩
theorem z6g {i:Int} (h0:0≤i) (h1:i<6):∃ w,ixD (.lst (WS.map D.str)) i=some (.str w)∧WS[i.toNat]?=some w:=by
  have:i=0∨i=1∨i=2∨i=3∨i=4∨i=5:=by omega
  rcases this with rfl | rfl | rfl | rfl | rfl | rfl <;> exact ⟨_,rfl,rfl⟩
def letters:Str := "abcdefghijklmnopqrstuvwxyz"
theorem zvg:∀ c∈letters.cps.toList,64<c∧c<128:=by decide +kernel
theorem letter {i:Int} (h0:0≤i) (h1:i<26):∃ c,ixD (.str letters) i=some (.str ⟨#[c]⟩)∧Gn 1 ⟨#[c]⟩:=by
  have hline:sizeLine=16777216:=sizeLine_eq
  have hl:letters.cps.toList.length=26:=by decide +kernel
  have hz:letters.length≤sizeLine:=by rw [hline]; decide +kernel
  have hi:i.toNat<letters.cps.toList.length:=by omega
  refine ⟨letters.cps.toList[i.toNat],?_,?_,Nat.le_refl _⟩
  · show (if letters.length≤sizeLine then (atI letters.cps.toList i).map _ else none)=_
    rw [if_pos hz]
    have:atI letters.cps.toList i=some letters.cps.toList[i.toNat]:=by
      unfold atI
      rw [zrm h0 (by omega)]
      exact List.getElem?_eq_getElem hi
    rw [this]
    rfl
  · intro c hc
    have hc:c=letters.cps.toList[i.toNat]:=by simpa using hc
    rw [hc]
    exact zvg _ (List.getElem_mem hi)
theorem z2e:F_l_words []=some (.lst (WS.map D.str)):=by
  refine zbm zj8 ?_
  rw [zuv]
  unfold zkc
  exact wp_ret (ev_lst (ev_cons rfl (ev_cons rfl (ev_cons rfl (ev_cons rfl ‹4›))))) rfl
theorem zpe:F_kinds []=some (.lst (KA.map insD)):=by
  refine zfo zni ?_
  rw [zzp]
  unfold zpz
  exact wp_ret (ev_lst (ev_cons rfl (ev_cons rfl (ev_cons rfl (ev_cons rfl ‹4›))))) rfl
theorem w1 {s:D}:F_Alike_word [s]=some (.str "alike"):=by refine zbm zg2 ?_; rw [zoj]; unfold zfk; exact wp_ret rfl rfl
theorem w2 {s:D}:F_Open_word [s]=some (.str "open"):=by refine zbm zhs ?_; rw [zqb]; unfold zgp; exact wp_ret rfl rfl
theorem w3 {s:D}:F_Tails_word [s]=some (.str "tails"):=by refine zbm zgy ?_; rw [zof]; unfold zfg; exact wp_ret rfl rfl
theorem w4 {s:D}:F_Windows_word [s]=some (.str "windows"):=by refine zbm zfb ?_; rw [zmc]; unfold zd3; exact wp_ret rfl rfl
theorem w5 {s:D}:F_Tree_word [s]=some (.str "tree"):=by refine zbm zhq ?_; rw [zp9]; unfold zgn; exact wp_ret rfl rfl
theorem w6 {s:D}:F_Pairs_word [s]=some (.str "pairs"):=by refine zbm zg0 ?_; rw [zoh]; unfold zfi; exact wp_ret rfl rfl
noncomputable abbrev MT:List ‹83›:=[(zpu,F_Alike_word),(ztb,F_Open_word),(zps,F_Tails_word),(zkr,F_Windows_word),(zta,F_Tree_word),(zpt,F_Pairs_word)]
theorem zsv {k:Nat} {C:Addr} {w:Str} {a:DE} {ρ:Rho} (h1:KA[k]?=some C) (h2:WS[k]?=some w) (ha:a ρ=some (.ins C)):zig MT a dNil ρ=some (.str w):=by
  unfold KA at h1
  unfold WS at h2
  match k,h1,h2 with
  | 0,h1,h2=>cases h1; cases h2; exact zef ha rfl rfl w1
  | 1,h1,h2=>cases h1; cases h2; exact zef ha rfl rfl w2
  | 2,h1,h2=>cases h1; cases h2; exact zef ha rfl rfl w3
  | 3,h1,h2=>cases h1; cases h2; exact zef ha rfl rfl w4
  | 4,h1,h2=>cases h1; cases h2; exact zef ha rfl rfl w5
  | 5,h1,h2=>cases h1; cases h2; exact zef ha rfl rfl w6
theorem z3k {j:Nat} {d:D} (h:(KA.map insD)[j]?=some d):∃ C w,d=.ins C∧KA[j]?=some C∧WS[j]?=some w:=by
  rw [List.getElem?_map] at h
  obtain ⟨C,h1,rfl⟩:=Option.map_eq_some_iff.mp h
  have hj:j<6:=(List.getElem?_eq_some_iff.mp h1).1
  exact ⟨C,_,rfl,h1,List.getElem?_eq_getElem (l:=WS) hj⟩
theorem kind_of {x:Str} (hx:x∈WS):∃ (k:Nat) (C:Addr),F_kind_of [.str x]=some (.ins C)∧KA[k]?=some C∧WS[k]?=some x:=by
  obtain ⟨d,e,k,C,rfl,h1,h2⟩:=zkm zgj (ds:=[.str x]) (P:=fun d=>∃ (k:Nat) (C:Addr),d=.ins C∧KA[k]?=some C∧WS[k]?=some x) (by
    rw [zki]
    unfold zhv
    refine wp_seq (wp_for (ev_asL (ev_call rfl zpe) rfl) (fun j ρ=>(∃ v,ρ=[.bo (.str x),v])∧∀ i,i<j→WS[i]?≠some x) ⟨⟨_,rfl⟩,fun i h=>by omega⟩ ?_ ?_)
    · rintro j d ρ hd ⟨⟨v,rfl⟩,hn⟩
      obtain ⟨C,w,rfl,h1,h2⟩:=z3k hd
      refine ⟨_,rfl,?_⟩
      dsimp only [gN,slm,List.set_cons_succ,List.set_cons_zero]
      refine zde (ev_t (zue (zsv h1 h2 rfl) rfl)) (fun e=>?_) (fun e=>zat ⟨⟨_,rfl⟩,fun i hi=>?_⟩)
      · exact wp_ret rfl ⟨j,C,rfl,h1,by rw [← e]; exact h2⟩
      · rcases Nat.lt_succ_iff_lt_or_eq.mp hi with h | rfl
        · exact hn i h
        · rw [h2]; exact fun q=>e (Option.some.inj q)
    · rintro ρ ⟨_,hn⟩
      obtain ⟨i,hi,e⟩:=List.getElem_of_mem hx
      exact absurd (by rw [List.getElem?_eq_getElem hi,e]) (hn i hi))
  exact ⟨k,C,e,h1,h2⟩
theorem z0d {x:Str} (hx:x∉WS) (hg:Gn 40 x):zhm [.str x]=some .non:=by
  refine zfo zj7 ?_
  rw [zki]
  unfold zif
  refine wp_seq ‹142›
  · rintro j d ρ hd ⟨v,rfl⟩
    obtain ⟨C,w,rfl,h1,h2⟩:=z3k hd
    refine ⟨_,rfl,?_⟩
    dsimp only [gN,slm,List.set_cons_succ,List.set_cons_zero]
    exact zde (ev_t (zue (zsv h1 h2 rfl) rfl)) (fun e=>absurd (by rw [← e]; exact List.mem_of_getElem? h2) hx) fun _=>zat ⟨_,rfl⟩
  · rintro ρ ⟨v,rfl⟩
    exact zl6 rfl hg.repr rfl
theorem z3r {xs:List Str} (h:∀ s∈xs,Gn 1 s):∀ (acc:Array Nat) (n:Nat),Gn n ⟨acc⟩→Gn (n+xs.length) ⟨xs.foldl (fun acc p=>acc++("" : Str).cps++p.cps) acc⟩:=by
  induction xs with
  | nil=>intro acc n g; exact g
  | cons x r ih =>
    intro acc n g
    rw [List.foldl_cons,List.length_cons,show n+(r.length+1)=(n+1)+r.length by omega]
    refine ih (fun s hs=>h s (List.mem_cons_of_mem _ hs)) _ _ ?_
    have g0:Gn 0 "" := ⟨by decide,by decide⟩
    exact (g.app g0).app (h x List.mem_cons_self)
theorem z0k {xs:List Str} (h:∀ s∈xs,Gn 1 s):Gn xs.length (Builtin.Str.glued "" xs)∧xs.toArray.foldl (·+·.length+("" : Str).length) 0≤xs.length:=by
  constructor
  · unfold Builtin.Str.glued
    cases xs with
    | nil=>exact ⟨by decide,by decide⟩
    | cons x r =>
      have:=z3r (xs:=r) (fun s hs=>h s (List.mem_cons_of_mem _ hs)) x.cps 1 (h x List.mem_cons_self)
      rw [List.length_cons,Nat.add_comm]
      exact this
  · rw [List.foldl_toArray]
    have:∀ (l:List Str) (a:Nat),(∀ s∈l,Gn 1 s)→l.foldl (·+·.length+("" : Str).length) a≤a+l.length:=by
      intro l
      induction l with
      | nil=>intro a _; exact Nat.le_refl _
      | cons x r ih =>
        intro a hl
        rw [List.foldl_cons,List.length_cons]
        have h1:=(hl x List.mem_cons_self).2
        have h2:=ih (a+x.length+("" : Str).length) fun s hs=>hl s (List.mem_cons_of_mem _ hs)
        have h3:("" : Str).length=0:=by decide
        omega
    have:=this xs 0 h
    omega
theorem lenLs (r:List Int):lenD (lsD r)=some (.int r.length):=by show some (D.int ((r.map D.int).length:Nat))=_; rw [List.length_map]
theorem lenRs (rs:List (List Int)):lenD (rsD rs)=some (.int rs.length):=by show some (D.int ((rs.map lsD).length:Nat))=_; rw [List.length_map]
def t1 (h:List Int) (lo hi:Int):Bool:=decide (h.length=1)&&(decide (lo≤h.getD 0 0)&&decide (h.getD 0 0≤hi))
def nb (r:List Int):Bool:=r.all fun v=>decide (0≤v)
theorem zs4 (n k:Nat):decide ((n:Int)=(k:Int))=decide (n=k):=by rw [Bool.eq_iff_iff]; simp; omega
theorem tells_one (h:List Int) (lo hi:Int):F_tells_one [lsD h,.int lo,.int hi]=some (.bl (t1 h lo hi)):=by
  refine zbm zhn ?_
  rw [zp6]
  unfold zgk t1
  refine wp_ret (zeg (x:=decide (h.length=1)) (y:=decide (lo≤h.getD 0 0)&&decide (h.getD 0 0≤hi)) ?_ fun c=>?_) rfl
  · rw [ev_eqF (ev_f1 rfl (lenLs h)) rfl,show (1:Int)=((1:Nat):Int) from rfl,zs4]
  · have c:=of_decide_eq_true c
    exact ev_chain (i:=lo) (j:=h.getD 0 0) (k:=hi) rfl ‹80› rfl
theorem none_below (r:List Int):F_none_below [lsD r,.int 0]=some (.bl (nb r)):=by
  refine zbm zgx ?_
  rw [zoe]
  unfold zff
  refine wp_ret (ev_f1 (ev_lst (ds:=(r.map fun v=>decide (0≤v)).map D.bl) ?_) all_ev) ?_
  · rw [List.map_map]
    exact ev_compA0 D.int (ev_asL rfl rfl) _ fun v _=>⟨_,rfl,z0q rfl rfl⟩
  · unfold nb
    rw [List.all_map]
    rfl
theorem row_at {rs:List (List Int)} {k:Nat} {r:List Int} (h:rs[k]?=some r):ixD (rsD rs) (k:Int)=some (lsD r):=by
  have hk:=(List.getElem?_eq_some_iff.mp h).1
  show atI (rs.map lsD) (k:Int)=_
  unfold atI
  rw [List.length_map,zrm (by omega) (by omega)]
  show (rs.map lsD)[(k:Int).toNat]?=_
  rw [List.getElem?_map,Int.toNat_natCast,h]
  rfl
def fit0 (rs:List (List Int)):Bool:=match rs with
  | [h,r]=>t1 h 1 20&&(decide (r.length≤20)&&nb r)
  | _=>false
theorem z3t {rs:List (List Int)} (h:rs.length≠2):fit0 rs=false:=by
  match rs,h with
  | [],_=>rfl
  | [_],_=>rfl
  | [_,_],h=>exact absurd rfl h
  | _::_::_::_,_=>rfl
theorem two_of {rs:List (List Int)} (h:rs.length=2):∃ a b,rs=[a,b]:=by
  match rs,h with
  | [a,b],_=>exact ⟨a,b,rfl⟩
theorem len_ne {rs:List (List Int)} {ρ:Rho} {a:DE} (ha:a ρ=some (rsD rs)) (k:Nat):dT (dEq true (dF1 lenD a) (dC (.int (k:Int)))) ρ=some (decide (rs.length≠k)):=by
  refine ev_t ?_
  rw [znz (ev_f1 ha (lenRs rs)) rfl]
  congr 2
  rw [Bool.eq_iff_iff]
  simp
  omega
theorem zvq (s:D) (rs:List (List Int)):F_Alike_fits [s,rsD rs]=some (.bl (fit0 rs)):=by
  refine zbm zg3 ?_
  rw [zok]
  unfold zfl
  by_cases h2:rs.length=2
  · obtain ⟨h,r,rfl⟩:=two_of h2
    have e1:=tells_one h 1 20
    cases c:t1 h 1 20 with
    | false =>
      rw [c] at e1
      refine wp_seq (wp_ifT (ev_or (x:=false) (y:=true) ((len_ne rfl 2).trans rfl) fun _=>ev_not (x:=false) (zb6 (ev_call (ev_cons ‹150› ‹4›) e1) rfl)) (wp_ret rfl ?_))
      show D.bl false=D.bl (t1 h 1 20&&_)
      rw [c]; rfl
    | true =>
      rw [c] at e1
      refine wp_seq (zcd (ev_or (x:=false) (y:=false) ((len_ne rfl 2).trans rfl) fun _=>ev_not (x:=true) (zb6 (ev_call (ev_cons ‹150› ‹4›) e1) rfl)) (zat ?_))
      have er:∀ ρ:Rho,dVar 1 ρ=some (rsD [h,r])→dIx (dVar 1) ‹28› ρ=some (lsD r):=fun ρ q=>ev_ix q rfl (row_at (rs:=[h,r]) (k:=1) rfl)
      refine wp_ret (zeg (x:=decide (r.length≤20)) (y:=nb r) ?_ fun _=>ev_call (ev_cons (er _ rfl) ‹5›) (none_below r)) ?_
      · rw [ev_le (ev_f1 (er _ rfl) (lenLs r)) rfl]
        congr 2
        rw [Bool.eq_iff_iff]
        simp
        omega
      · show D.bl _=D.bl (t1 h 1 20&&_)
        rw [c]; rfl
  · refine wp_seq ‹102›
    rw [z3t h2]
def g1 (n:Nat) (r:List Int):Bool:=decide (r.length=n)&&(decide (r.length≤6)&&nb r)
def fit1 (rs:List (List Int)):Bool:=decide (rs.length≤6)&&rs.all (g1 (rs.headD []).length)
theorem z5j {rs:List (List Int)} {ρ:Rho} {a:DE} (ha:a ρ=some (rsD rs)) (k:Nat):dT (dGt (dF1 lenD a) (dC (.int (k:Int)))) ρ=some (decide (k<rs.length)):=by
  refine ev_t ?_
  rw [ev_gt (ev_f1 ha (lenRs rs)) rfl]
  congr 2
  rw [Bool.eq_iff_iff]
  simp
theorem z24 {r:List Int} {ρ:Rho} {a:DE} (ha:a ρ=some (lsD r)) (k:Nat):dT (dGt (dF1 lenD a) (dC (.int (k:Int)))) ρ=some (decide (k<r.length)):=by
  refine ev_t ?_
  rw [ev_gt (ev_f1 ha (lenLs r)) rfl]
  congr 2
  rw [Bool.eq_iff_iff]
  simp
theorem z23 {r:List Int} {ρ:Rho} {a:DE} (ha:a ρ=some (lsD r)) (k:Nat):dLe (dF1 lenD a) (dC (.int (k:Int))) ρ=some (.bl (decide (r.length≤k))):=by
  rw [ev_le (ev_f1 ha (lenLs r)) rfl]
  congr 2
  rw [Bool.eq_iff_iff]
  simp
theorem zsk {r:List Int} {ρ:Rho} {a:DE} (ha:a ρ=some (lsD r)) (k:Nat):dEq false (dF1 lenD a) (dC (.int (k:Int))) ρ=some (.bl (decide (r.length=k))):=by
  rw [ev_eqF (ev_f1 ha (lenLs r)) rfl,zs4]
theorem zlw {rs:List (List Int)} (h:rs≠[]) {ρ:Rho} {a:DE} (ha:a ρ=some (rsD rs)):dIx a ‹37› ρ=some (lsD (rs.headD [])):=by
  cases rs with
  | nil=>exact absurd rfl h
  | cons x t=>exact ev_ix ha rfl (row_at (rs:=x::t) (k:=0) rfl)
theorem zxx (s:D) (rs:List (List Int)):F_Open_fits [s,rsD rs]=some (.bl (fit1 rs)):=by
  refine zbm zht ?_
  rw [zqc]
  unfold zgq fit1
  refine wp_seq (zde (z5j rfl 6) (fun c=>?_) fun c=>zat ?_)
  · refine wp_ret rfl ?_
    rw [decide_eq_false (by omega)]
    rfl
  · rw [decide_eq_true (by omega),Bool.true_and]
    refine wp_ret (ev_f1 (ev_lst (ds:=(rs.map (g1 (rs.headD []).length)).map D.bl) ?_) all_ev) ?_
    · rw [List.map_map]
      refine ev_compA0 lsD (ev_asL rfl rfl) _ fun r hr=>⟨_,rfl,?_⟩
      have hne:rs≠[]:=fun z=>by rw [z] at hr; cases hr
      refine zeg (x:=decide (r.length=(rs.headD []).length)) ?_ fun _=>zeg (z23 rfl 6) fun _=>ev_call ‹4› (none_below r)
      rw [ev_eqF (ev_f1 rfl (lenLs r)) (ev_f1 (zlw hne rfl) (lenLs _)),zs4]
    · rw [List.all_map]
      rfl
def g2 (r:List Int):Bool:=decide (r.length=3)&&(nb r&&decide (1≤r.getD 1 0))
def fit2 (rs:List (List Int)):Bool:=decide (rs.length≤12)&&rs.all g2
theorem zt4 {r:List Int} {ρ:Rho} {a:DE} (ha:a ρ=some (lsD r)) {k:Nat} (hk:k<r.length):dIx a (dC (.int (k:Int))) ρ=some (.int (r.getD k 0)):=ev_ix ha rfl (ixI (by omega) (by omega))
theorem zuu (s:D) (rs:List (List Int)):F_Tails_fits [s,rsD rs]=some (.bl (fit2 rs)):=by
  refine zbm zgz ?_
  rw [zog]
  unfold zfh fit2
  refine wp_ret (zeg (x:=decide (rs.length≤12)) (y:=rs.all g2) ?_ fun _=>?_) rfl
  · rw [ev_le (ev_f1 rfl (lenRs rs)) rfl]
    congr 2
    rw [Bool.eq_iff_iff]
    simp
    omega
  · refine (ev_f1 (ev_lst (ds:=(rs.map g2).map D.bl) ?_) all_ev).trans ?_
    · rw [List.map_map]
      refine ev_compA0 lsD (ev_asL rfl rfl) _ fun r hr=>⟨_,rfl,?_⟩
      refine zeg (zsk rfl 3) fun c=>zeg (ev_call ‹4› (none_below r)) fun _=>?_
      have c:=of_decide_eq_true c
      exact z0q (zt4 (k:=1) rfl (by omega)) rfl
    · rw [List.all_map]
      rfl
def g3 (r:List Int):Bool:=decide (r.length=3)&&(nb r&&decide (r.getD 0 0≤r.getD 1 0))
def fit3 (rs:List (List Int)):Bool:=match rs with
  | []=>false
  | h::t=>decide (t.length≤8)&&(t1 h 1 8&&t.all g3)
theorem zoa {h:List Int} {t:List (List Int)} {ρ:Rho} {a:DE} (ha:a ρ=some (rsD (h::t))):dLst (dSl a (zdw ‹28›) zd8) ρ=some (rsD t):=by
  refine ev_lst ?_
  rw [zsz (ev_asL ha rfl) rfl rfl]
  congr 1
  unfold cutL
  have e0:HT.sIx ((h::t).map lsD).length 0 (some 1)=1:=by
    unfold HT.sIx
    simp
  have e1:HT.sIx ((h::t).map lsD).length ((h::t).map lsD).length none=t.length+1:=by
    unfold HT.sIx
    simp
  rw [e0,e1,List.map_cons,List.drop_succ_cons,List.drop_zero,Nat.add_sub_cancel,List.take_of_length_le (by rw [List.length_map]; exact Nat.le_refl _)]
theorem zp0 (s:D) (rs:List (List Int)):F_Windows_fits [s,rsD rs]=some (.bl (fit3 rs)):=by
  refine zbm zfc ?_
  rw [zmd]
  unfold zd4
  cases rs with
  | nil=>exact wp_seq (wp_ifT (ev_or (x:=true) (y:=false) (ev_not (x:=false) (ev_t ((ev_chain (i:=1) (j:=0) (k:=9) rfl (ev_f1 rfl (lenRs [])) rfl).trans rfl))) fun c=>by cases c) (wp_ret rfl rfl))
  | cons h t =>
    have e1:=tells_one h 1 8
    have key:∀ ρ:Rho,dVar 1 ρ=some (rsD (h::t))→dOr (dNot (dT (zd9 ‹29› ‹29› ‹28› (dF1 lenD (dVar 1)) (dC (.int 9))))) (dNot (dTru (za4 F_tells_one (zai (dIx (dVar 1) ‹37›) (zai ‹28› (zai (dC (.int 8)) dNil)))))) ρ=some (!decide (t.length≤8) || !t1 h 1 8):=fun ρ q=>by
      refine ev_or (ev_not (ev_t ?_)) fun _=>ev_not (zb6 (ev_call (ev_cons (zlw (rs:=h::t) (by simp) q) ‹4›) e1) rfl)
      rw [ev_chain (i:=1) (j:=((h::t).length:Int)) (k:=9) rfl (ev_f1 q (lenRs (h::t))) rfl]
      congr 2
      rw [Bool.eq_iff_iff]
      simp
      omega
    refine wp_seq (zn6 (key _ rfl) (fun c=>wp_ret rfl ?_) fun c=>zat ?_)
    · show D.bl false=D.bl (decide (t.length≤8)&&(t1 h 1 8&&t.all g3))
      congr 1
      cases a:decide (t.length≤8) with
      | false=>rfl
      | true =>
        rw [a] at c
        cases b:t1 h 1 8 with
        | false=>rfl
        | true=>rw [b] at c; cases c
    · rw [Bool.or_eq_false_iff,Bool.not_eq_false',Bool.not_eq_false'] at c
      refine wp_ret ((ev_f1 (ev_lst (ds:=(t.map g3).map D.bl) ?_) all_ev)) ?_
      · rw [List.map_map]
        refine ev_compA0 lsD (ev_asL (zoa rfl) rfl) _ fun r hr=>⟨_,rfl,?_⟩
        refine zeg (zsk rfl 3) fun c=>zeg (ev_call ‹4› (none_below r)) fun _=>?_
        have c:=of_decide_eq_true c
        exact ev_le (zt4 (k:=0) rfl (by omega)) (zt4 (k:=1) rfl (by omega))
      · show D.bl _=D.bl (decide (t.length≤8)&&(t1 h 1 8&&t.all g3))
        rw [c.1,c.2,List.all_map]
        rfl
open Classical in
noncomputable def fit4 (rs:List (List Int)):Bool:=match rs with
  | [h,r]=>t1 h 1 20&&(decide (r.length≤40)&&decide (Tr.Ok r))
  | _=>false
theorem z3s {rs:List (List Int)} (h:rs.length≠2):fit4 rs=false:=by
  match rs,h with
  | [],_=>rfl
  | [_],_=>rfl
  | [_,_],h=>exact absurd rfl h
  | _::_::_::_,_=>rfl
open Classical in
theorem zv9 (s:D) (rs:List (List Int)) (hw:∀ r∈rs,∀ v∈r,v.natAbs<10 ^ 70):F_Tree_fits [s,rsD rs]=some (.bl (fit4 rs)):=by
  refine zbm zhr ?_
  rw [zqa]
  unfold zgo
  by_cases h2:rs.length=2
  · obtain ⟨h,r,rfl⟩:=two_of h2
    have e1:=tells_one h 1 20
    have er:∀ ρ:Rho,dVar 1 ρ=some (rsD [h,r])→dIx (dVar 1) ‹28› ρ=some (lsD r):=fun ρ q=>ev_ix q rfl (row_at (rs:=[h,r]) (k:=1) rfl)
    refine wp_seq (zn6 (ev_or (x:=false) ((len_ne rfl 2).trans rfl) fun _=>ev_or (ev_not (zb6 (ev_call (ev_cons ‹150› ‹4›) e1) rfl)) fun _=>z24 (er _ rfl) 40) (fun c=>wp_ret rfl ?_) fun c=>zat ?_)
    · show D.bl false=D.bl (t1 h 1 20&&(decide (r.length≤40)&&_))
      rw [Bool.false_or,Bool.or_eq_true] at c
      rcases c with c | c
      · rw [show t1 h 1 20=false by simpa using c]; rfl
      · rw [decide_eq_false (show ¬ r.length≤40 by have:=of_decide_eq_true c; omega),Bool.false_and,Bool.and_false]
    · rw [Bool.false_or,Bool.or_eq_false_iff] at c
      have c1:t1 h 1 20=true:=by simpa using c.1
      have c2:r.length≤40:=by have:=of_decide_eq_false c.2; omega
      have g:=z5x c2 (hw r (by simp))
      by_cases o:Tr.Ok r
      · rw [decide_eq_true o] at g
        refine wp_seq (zvy (ev_cons (er _ rfl) rfl) g (wp_ret rfl ?_))
        show D.bl true=D.bl (t1 h 1 20&&(decide (r.length≤40)&&decide (Tr.Ok r)))
        rw [c1,decide_eq_true c2,decide_eq_true o]; rfl
      · rw [decide_eq_false o] at g
        refine wp_seq (zvz (ev_cons (er _ rfl) rfl) g ?_)
        show D.bl false=D.bl (t1 h 1 20&&(decide (r.length≤40)&&decide (Tr.Ok r)))
        rw [decide_eq_false o,Bool.and_false,Bool.and_false]
  · refine wp_seq ‹102›
    rw [z3s h2]
def prOf (r:List Int):Int×Int:=(r.getD 0 0,r.getD 1 0)
open Classical in
noncomputable def fit5 (rs:List (List Int)):Bool:=match rs with
  | []=>false
  | h::t=>t1 h 0 14&&‹69›
theorem zz1 {r:List Int} (h:r.length=2):lsD r=Pr.pairZ (prOf r):=by
  match r,h with
  | [a,b],_=>rfl
theorem zxw {t:List (List Int)} (h:∀ r∈t,r.length=2):rsD t=Pr.needsZ (t.map prOf):=by
  unfold rsD Pr.needsZ
  rw [List.map_map]
  congr 1
  exact List.map_congr_left fun r hr=>zz1 (h r hr)
theorem z6i {h:List Int} {lo hi:Int} (c:t1 h lo hi=true):h.length=1∧lo≤h.getD 0 0∧h.getD 0 0≤hi:=by
  unfold t1 at c
  rw [Bool.and_eq_true,Bool.and_eq_true] at c
  exact ⟨of_decide_eq_true c.1,of_decide_eq_true c.2.1,of_decide_eq_true c.2.2⟩
open Classical in
theorem zu7 (s:D) (rs:List (List Int)) (hl:rs.length≤1000) (hw:∀ r∈rs,∀ v∈r,v.natAbs<10 ^ 70):F_Pairs_fits [s,rsD rs]=some (.bl (fit5 rs)):=by
  refine zbm zg1 ?_
  rw [zoi]
  unfold zfj
  cases rs with
  | nil=>exact wp_seq (wp_ifT (ev_or (x:=true) (y:=false) (ev_not (x:=false) (zb6 rfl rfl)) fun c=>by cases c) (wp_ret rfl rfl))
  | cons h t =>
    have e1:=tells_one h 0 14
    have ea:∀ ρ:Rho,zbw 1 ρ=some (rsD (h::t))→dTru (dF1 allD (dLst (zdk 1 [] (asL (dLst (dSl (zbw 1) (zdw ‹28›) zd8))) (gN true 0) zdc (dEq false ‹31› ‹92›)))) ρ=some (t.all fun r=>decide (r.length=2)):=fun ρ q=>by
      refine zb6 (d:=.bl (t.all fun r=>decide (r.length=2))) ((ev_f1 (ev_lst (ds:=(t.map fun r=>decide (r.length=2)).map D.bl) ?_) all_ev).trans ?_) rfl
      · rw [List.map_map]
        exact ev_compA0 lsD (ev_asL (zoa q) rfl) _ fun r hr=>⟨_,rfl,zsk rfl 2⟩
      · rw [List.all_map]
        rfl
    refine wp_seq (zn6 (ev_or (x:=false) (ev_not (x:=true) (zb6 rfl rfl)) fun _=>ev_or (ev_not (zb6 (ev_call (ev_cons (zlw (rs:=h::t) (by simp) rfl) ‹4›) e1) rfl)) fun _=>ev_not (ea _ rfl)) (fun c=>wp_ret rfl ?_) fun c=>zat ?_)
    · show D.bl false=D.bl (t1 h 0 14&&(t.all (fun r=>decide (r.length=2))&&_))
      rw [Bool.false_or,Bool.or_eq_true] at c
      rcases c with c | c
      · rw [show t1 h 0 14=false by simpa using c]; rfl
      · rw [Bool.not_eq_true'] at c
        rw [c,Bool.false_and,Bool.and_false]
    · rw [Bool.false_or,Bool.or_eq_false_iff] at c
      have c1:t1 h 0 14=true:=by simpa using c.1
      have c2:(t.all fun r=>decide (r.length=2))=true:=by
        have:=c.2
        rwa [Bool.not_eq_false'] at this
      have c3:∀ r∈t,r.length=2:=fun r hr=>of_decide_eq_true (List.all_eq_true.mp c2 r hr)
      obtain ⟨k1,k2,k3⟩:=z6i c1
      have hl':t.length≤1000:=by rw [List.length_cons] at hl; omega
      have g:=z5y (n:=(h.getD 0 0).toNat) (qs:=t.map prOf) (by omega) (by rw [List.length_map]; exact hl') fun q hq=>by
        obtain ⟨r,hr,rfl⟩:=List.mem_map.mp hq
        have:=hw r (List.mem_cons_of_mem _ hr)
        have l2:=c3 r hr
        exact ⟨Pr.log_small (this _ (zpc (by omega))),Pr.log_small (this _ (zpc (by omega)))⟩
      rw [← zxw c3,Int.toNat_of_nonneg k2] at g
      have en:∀ ρ:Rho,dVar 1 ρ=some (rsD (h::t))→dIx (dIx (dVar 1) ‹37›) ‹37› ρ=some (.int (h.getD 0 0)):=fun ρ q=>zt4 (k:=0) (zlw (rs:=h::t) (by simp) q) (by show 0<h.length; omega)
      by_cases o:Pr.Ok (h.getD 0 0).toNat (t.map prOf)
      · rw [decide_eq_true o] at g
        refine wp_seq (zvy (ev_cons (en _ rfl) (ev_cons (zoa rfl) rfl)) g (wp_ret rfl ?_))
        show D.bl true=D.bl (t1 h 0 14&&‹69›)
        rw [c1,c2,decide_eq_true o]; rfl
      · rw [decide_eq_false o] at g
        refine wp_seq (zvz (ev_cons (en _ rfl) (ev_cons (zoa rfl) rfl)) g ?_)
        show D.bl false=D.bl (t1 h 0 14&&‹69›)
        rw [decide_eq_false o,Bool.and_false,Bool.and_false]
theorem z0e {x:Str} (hx:x∉WS):F_kind_of [.str x]=none:=by
  refine z22 zgj ?_
  rw [zki]
  unfold zhv
  refine zfv ‹142›
  · rintro j d ρ hd ⟨v,rfl⟩
    obtain ⟨C,w,rfl,h1,h2⟩:=z3k hd
    refine ⟨_,rfl,?_⟩
    dsimp only [gN,slm,List.set_cons_succ,List.set_cons_zero]
    exact zde (ev_t (zue (zsv h1 h2 rfl) rfl)) (fun e=>absurd (by rw [← e]; exact List.mem_of_getElem? h2) hx) fun _=>zat ⟨_,rfl⟩
  · rintro ρ ⟨v,rfl⟩
    exact zve
def isW (x:Str):Bool:=decide (1≤x.length∧x.length≤8∧∀ c∈cs x,97≤c∧c≤122)
theorem zyo (c:Nat) (h:c<128):inTZ ⟨#[c]⟩ ("abcdefghijklmnopqrstuvwxyz" : Str)=decide (97≤c∧c≤122):=by
  have:∀ d:Fin 128,inTZ ⟨#[d.val]⟩ ("abcdefghijklmnopqrstuvwxyz" : Str)=decide (97≤d.val∧d.val≤122):=by decide +kernel
  exact this ⟨c,h⟩
theorem signs_ev {x:Str} {a:DE} {ρ:Rho} (h:Good x) (ha:a ρ=some (.str x)):zis a ρ=some ((cs x).map fun c=>D.str ⟨#[c]⟩):=by
  have hline:sizeLine=16777216:=sizeLine_eq
  have:=h.2
  rw [ev_signs ha ⟨?_,by omega⟩]
  · rfl
  · rw [← Array.all_toList,List.all_eq_true]
    exact fun c hc=>decide_eq_true (h.1 c hc)
theorem is_name {x:Str} (h:Good x):F_is_name [.str x]=some (.bl (isW x)):=by
  have hline:sizeLine=16777216:=sizeLine_eq
  have hl:=h.2
  refine zbm zkb ?_
  rw [zuy]
  unfold zkf
  refine wp_ret (zeg (x:=decide (1≤x.length∧x.length≤8)) (y:=decide (∀ c∈cs x,97≤c∧c≤122)) ?_ fun _=>?_) ?_
  · rw [ev_chain (i:=1) (j:=(x.length:Int)) (k:=8) rfl (ev_lenT rfl (by omega)) rfl]
    congr 2
    rw [Bool.decide_and]
    congr 1
    · exact decide_eq_decide.mpr (by omega)
    · exact decide_eq_decide.mpr (by omega)
  · refine (ev_f1 (ev_lst (ds:=((cs x).map fun c=>decide (97≤c∧c≤122)).map D.bl) ?_) all_ev).trans ?_
    · rw [List.map_map]
      exact ev_compA0 (fun c=>D.str ⟨#[c]⟩) (xs:=cs x) (signs_ev h rfl) (fun c=>D.bl (decide (97≤c∧c≤122))) fun c hc=>⟨_,rfl,zlh rfl rfl (by rw [zyo c (h.1 c hc)])⟩
    · congr 2
      rw [List.all_map,Bool.eq_iff_iff,List.all_eq_true,decide_eq_true_iff]
      exact ⟨fun z c hc=>of_decide_eq_true (z c hc),fun z c hc=>decide_eq_true (z c hc)⟩
  · congr 1
    unfold isW
    rw [← Bool.decide_and]
    exact decide_eq_decide.mpr ⟨fun z=>⟨z.1.1,z.1.2,z.2⟩,fun z=>⟨⟨z.1,z.2.1⟩,z.2.2⟩⟩
theorem z3h {x:Str} (h:Good x):F_l_small [.str x]=some (.bl (isW x)):=by
  have hline:sizeLine=16777216:=sizeLine_eq
  have hl:=h.2
  refine zbm zj9 ?_
  rw [zuw]
  unfold zkd isW
  have e1:dOr (dT (dLt ‹31› ‹28›)) (dT (dGt ‹31› (dC (.int 8)))) [.bo (.str x),.un]=some (decide (x.length<1∨8<x.length)):=by
    rw [ev_or (x:=decide (x.length<1)) (y:=decide (8<x.length)) (ev_t ?_) fun _=>ev_t ?_]
    · congr 1
      rw [← Bool.decide_or]
    · rw [ev_lt (ev_lenT rfl (by omega)) rfl]
      congr 2
      exact decide_eq_decide.mpr (by omega)
    · rw [ev_gt (ev_lenT rfl (by omega)) rfl]
      congr 2
      exact decide_eq_decide.mpr (by omega)
  refine wp_seq (zde e1 (fun c=>wp_ret rfl ?_) fun c=>zat ?_)
  · congr 1
    exact (decide_eq_false fun w=>by omega).symm
  · refine wp_seq (wp_for (ds:=(cs x).map fun c=>D.str ⟨#[c]⟩) (signs_ev h rfl) (fun j ρ=>∃ v:Sl,(∀ i c,i<j→(cs x)[i]?=some c→97≤c∧c≤122)∧ρ=[.bo (.str x),v]) ⟨.un,fun i c hi=>by omega,rfl⟩ ?_ ?_)
    · rintro j d ρ hd ⟨v,hp,rfl⟩
      rw [List.getElem?_map] at hd
      obtain ⟨c1,ec,rfl⟩:=Option.map_eq_some_iff.mp hd
      refine ⟨_,rfl,?_⟩
      dsimp only [gN,slm,List.set_cons_succ,List.set_cons_zero]
      have hcm:=List.mem_of_getElem? ec
      refine zde (p:=¬ (97≤c1∧c1≤122)) (ev_t (zlh rfl rfl (by rw [zyo c1 (h.1 c1 hcm),decide_not]))) (fun z=>wp_ret rfl ?_) fun z=>zat ⟨_,fun i c' hi e=>?_,rfl⟩
      · congr 1
        exact (decide_eq_false fun w=>z (w.2.2 c1 hcm)).symm
      · by_cases q:i=j
        · subst q
          rw [ec] at e
          cases e
          exact Classical.byContradiction z
        · exact hp i c' (by omega) e
    · rintro ρ ⟨v,hp,rfl⟩
      rw [List.length_map] at hp
      refine wp_ret rfl ?_
      congr 1
      refine (decide_eq_true ⟨by omega,by omega,fun c1 hcm=>?_⟩).symm
      obtain ⟨i,hi,e⟩:=List.getElem_of_mem hcm
      exact hp i c1 hi (by rw [List.getElem?_eq_getElem hi,e])
theorem zq5 {x y:Str} {p r:List Nat} {c:Nat} (hy:cs y=[c]) (hx:cs x=p++c::r) (hp:c∉p):cs (Txt.partition x y).1=p∧cs (Txt.partition x y).2.2=r:=by
  have hl:x.length=p.length+(r.length+1):=by rw [← cs_len,hx,List.length_append,List.length_cons]
  have hyl:y.length=1:=by rw [← cs_len,hy]; rfl
  have here:StrLaws.At x y x.length p.length:=zze (v:=r) (by omega) (by rw [hx,List.drop_left,hy]; rfl)
  have not:∀ k,k<p.length→¬ StrLaws.At x y x.length k:=fun k hk hA=>by
    have e:=at_char (d:=0) (c:=c) (by rw [hy]; rfl) hA
    rw [Nat.add_zero,hx,List.getElem?_append_left hk] at e
    exact hp (List.mem_of_getElem? e)
  unfold Txt.partition
  rcases StrLaws.occ_head x y 1 ‹34› with ⟨_,hn⟩ | ⟨i,q,e,h1,h2⟩
  · exact absurd here (hn _)
  · have ei:i=p.length:=by
      by_cases c1:i<p.length
      · exact absurd h1 (not i c1)
      · by_cases c2:p.length<i
        · exact absurd here (h2 _ c2)
        · omega
    subst ei
    rw [e]
    constructor
    · show (Builtin.Str.strSub x 0 p.length).cps.toList=_
      rw [StrLaws.strSub_toList,List.drop_zero,show x.cps.toList=p++c::r from hx,Nat.sub_zero,List.take_left]
    · show (Builtin.Str.strSub x (p.length+y.length) x.length).cps.toList=_
      rw [StrLaws.strSub_toList,show x.cps.toList=p++c::r from hx,hyl,← List.drop_drop,List.drop_left,List.drop_one,List.tail_cons]
      exact List.take_of_length_le (by omega)
theorem zxv {x y:Str} {c:Nat} (hy:cs y=[c]) (hx:c∉cs x):(Txt.partition x y).1=x:=by
  unfold Txt.partition
  rcases StrLaws.occ_head x y 1 ‹34› with ⟨e,hn⟩ | ⟨i,q,e,h1,h2⟩
  · rw [e]
  · have:=at_char (d:=0) (c:=c) (by rw [hy]; rfl) h1
    exact absurd (List.mem_of_getElem? this) hx
def rowW (r:List Int):List Str:=if r=[] then [DT] else r.map numT
def wsOf (R:List (List Int)):List Str:=if R=[] then [("-" : Str)] else zek (R.map rowW)
def zc8 (R:List (List Int)):Str:=Str.join " " (wsOf R)
def SmR (r:List Int):Prop:=r.length≤5∧∀ n∈r,Sml n
def SmRs (R:List (List Int)):Prop:=R.length≤8∧∀ r∈R,SmR r
theorem z3m {n:Int} (h:Sml n):isN (numT n)=true:=by
  have ld:=zpk 59 n.natAbs h
  have l0:1≤(digs n.natAbs).length:=by
    have:=digs_ne n.natAbs
    cases e:digs n.natAbs with
    | nil=>exact absurd e this
    | cons c r=>simp
  have ef:figs (cs (numT n))=digs n.natAbs:=by
    unfold figs
    rcases zhi n with ⟨h0,e⟩ | ⟨h0,e⟩
    · rw [e,if_neg]
      intro z
      have:=digs_all _ _ (List.mem_of_getElem? z)
      omega
    · rw [e]
      rfl
  unfold isN
  refine decide_eq_true ?_
  rw [ef]
  refine ⟨l0,ld,digs_all _,?_⟩
  by_cases z:n=0
  · subst z
    exact .inl rfl
  · obtain ⟨c,r,e,q1,q2⟩:=digs_head n.natAbs (by omega)
    refine .inr ?_
    rw [e]
    intro w
    have:c=48:=by simpa using w
    omega
theorem zzh {n:Int} (h:Sml n):valN (numT n)=n:=by unfold valN; rw [zz4 h]; rfl
theorem num_head (n:Int):∃ c l,cs (numT n)=c::l∧(c=45∨(48≤c∧c≤57))∧(c=45→l≠[]):=by
  rcases zhi n with ⟨_,e⟩ | ⟨_,e⟩
  · cases ed:digs n.natAbs with
    | nil=>exact absurd ed (digs_ne _)
    | cons c l =>
      have:=digs_all n.natAbs c (by rw [ed]; exact List.mem_cons_self)
      exact ⟨c,l,by rw [e,ed],.inr this,fun z=>by omega⟩
  · exact ⟨45,_,e,.inl rfl,fun _=>digs_ne _⟩
theorem zss {n:Int} {y:Str} {c:Nat} (hy:cs y=[c]) (hc:¬ (48≤c∧c≤57)):numT n≠y:=fun z=>by
  obtain ⟨d,l,e,h1,h2⟩:=num_head n
  rw [z,hy] at e
  obtain ⟨rfl,rfl⟩:=List.cons.inj e
  rcases h1 with h1 | h1
  · exact h2 h1 rfl
  · exact hc h1
theorem zxe (r:List Int):rowW r≠[]:=by
  unfold rowW
  split
  · simp
  · rename_i h; simpa using h
theorem inter_mem:∀ (gs:List (List Str)) (w:Str),w∈zek gs→w=SL∨∃ g∈gs,w∈g:=by
  intro gs
  induction gs with
  | nil=>intro w hw; cases hw
  | cons g r ih =>
    intro w hw
    cases r with
    | nil=>exact .inr ⟨g,List.mem_cons_self,hw⟩
    | cons q r =>
      have hw:w∈g++SL::zek (q::r):=hw
      rcases List.mem_append.mp hw with z | z
      · exact .inr ⟨g,List.mem_cons_self,z⟩
      · rcases List.mem_cons.mp z with z | z
        · exact .inl z
        · rcases ih w z with z | ⟨g2,h1,h2⟩
          · exact .inl z
          · exact .inr ⟨g2,List.mem_cons_of_mem _ h1,h2⟩
theorem zvv {R:List (List Int)} {w:Str} (h:w∈wsOf R):(w = "-" ∧ R=[])∨w=SL∨w=DT∨∃ n,w=numT n:=by
  unfold wsOf at h
  split at h
  · rename_i e; exact .inl ⟨List.mem_singleton.mp h,e⟩
  · rcases inter_mem _ w h with z | ⟨g,hg,z⟩
    · exact .inr (.inl z)
    · obtain ⟨r,_,rfl⟩:=List.mem_map.mp hg
      unfold rowW at z
      split at z
      · exact .inr (.inr (.inl (List.mem_singleton.mp z)))
      · obtain ⟨n,_,rfl⟩:=List.mem_map.mp z
        exact .inr (.inr (.inr ⟨n,rfl⟩))
theorem zr5 (R:List (List Int)):wsOf R≠[]:=by
  unfold wsOf
  split
  · simp
  · rename_i h
    refine zpf _ (by simpa using h) fun g hg=>?_
    obtain ⟨r,_,rfl⟩:=List.mem_map.mp hg
    exact zxe r
theorem zr6 {R:List (List Int)} {w:Str} (h:w∈wsOf R):∃ c l,cs w=c::l∧45≤c∧c≤57:=by
  rcases zvv h with ⟨rfl,_⟩ | rfl | rfl | ⟨n,rfl⟩
  · exact ⟨45,[],rfl,by decide,by decide⟩
  · exact ⟨47,[],rfl,by decide,by decide⟩
  · exact ⟨46,[],rfl,by decide,by decide⟩
  · obtain ⟨c,l,e,h1,_⟩:=num_head n
    exact ⟨c,l,e,by omega,by omega⟩
theorem ztf {R:List (List Int)} {w:Str} (h:w∈wsOf R) {c:Nat} (hc:c∈cs w):45≤c∧c≤57:=by
  rcases zvv h with ⟨rfl,_⟩ | rfl | rfl | ⟨n,rfl⟩
  · have:c=45:=List.mem_singleton.mp (show c∈[45] from hc)
    omega
  · have:c=47:=List.mem_singleton.mp (show c∈[47] from hc)
    omega
  · have:c=46:=List.mem_singleton.mp (show c∈[46] from hc)
    omega
  · have:=num_chars hc
    omega
theorem zg9 {R:List (List Int)} {w:Str} (h:w∈wsOf R):32∉cs w:=fun z=>by have:=ztf h z; omega
theorem zoz {us:List Str} (h1:us≠[]) (h2:∀ w∈us,32∉cs w) (h3:Str.join " " us ≠ "-"):said (Str.join " " us)=scan (us++[SL]) [] [] false:=by
  unfold said
  rw [if_neg h3,← key,zhw h1 h2]
theorem zw7 {R:List (List Int)} (h:SmRs R):said (zc8 R)=some R:=by
  by_cases c:R=[]
  · subst c
    rfl
  · have hn:Str.join " " (wsOf R) ≠ "-" := fun z=>by
      have e1:=zhw (zr5 R) fun w hw=>zg9 hw
      have e2:splitL ("-" : Str) " " = [("-" : Str)]:=zhw (ws:=[("-" : Str)]) (by simp) fun w hw hc=>by
        rw [List.mem_singleton.mp hw] at hc
        have:32=45:=List.mem_singleton.mp (show 32∈[45] from hc)
        omega
      rw [z,e2] at e1
      have hm:("-" : Str)∈wsOf R:=by rw [← e1]; exact List.mem_cons_self
      rcases zvv hm with ⟨_,q⟩ | q | q | ⟨n,q⟩
      · exact c q
      · exact absurd (congrArg cs q) ‹10›
      · exact absurd (congrArg cs q) ‹10›
      · exact zss (c:=45) rfl (by omega) q.symm
    unfold zc8
    rw [zoz (zr5 R) (fun w hw=>zg9 hw) hn]
    unfold wsOf
    rw [if_neg c,zor _ [] (by simpa using c),if_pos,List.nil_append,List.map_map]
    · congr 1
      conv=>rhs; rw [← List.map_id R]
      refine List.map_congr_left fun r hr=>?_
      show grpV (rowW r)=r
      unfold rowW
      split
      · rename_i e; rw [e]; rfl
      · rename_i e
        unfold grpV
        rw [if_neg,List.map_map]
        · conv=>rhs; rw [← List.map_id r]
          exact List.map_congr_left fun n hn=>zzh ((h.2 r hr).2 n hn)
        · intro z
          cases r with
          | nil=>exact e rfl
          | cons n r=>exact zss (c:=46) rfl (by omega) (List.cons.inj z).1
    · rw [List.all_map,List.all_eq_true]
      intro r hr
      show zhk (rowW r)=true
      unfold rowW
      split
      · exact decide_eq_true (.inl rfl)
      · rename_i e
        refine decide_eq_true (.inr ⟨by simpa using e,fun w hw=>?_⟩)
        obtain ⟨n,hn,rfl⟩:=List.mem_map.mp hw
        exact z3m ((h.2 r hr).2 n hn)
    · intro g hg w hw z
      obtain ⟨r,_,rfl⟩:=List.mem_map.mp hg
      subst z
      unfold rowW at hw
      split at hw
      · exact absurd (congrArg cs (List.mem_singleton.mp hw)) ‹10›
      · obtain ⟨n,_,e⟩:=List.mem_map.mp hw
        exact zss (c:=47) rfl (by omega) e
theorem scan_bad:∀ (ws:List Str) (rows:List (List Int)) (row:List Int) (dot:Bool),(∃ w∈ws,w≠SL∧w≠DT∧isN w=false)→scan ws rows row dot=none
  | [],_,_,_,h=>by obtain ⟨w,hw,_⟩:=h; cases hw
  | z::ws,rows,row,dot,h=>by
    obtain ⟨w,hw,h1,h2,h3⟩:=h
    unfold scan
    rcases List.mem_cons.mp hw with rfl | hw
    · rw [if_neg h1,if_neg (fun q=>h2 q.1),if_neg (by rw [h3]; decide)]
    · have ih:=fun rows row dot=>scan_bad ws rows row dot ⟨w,hw,h1,h2,h3⟩
      split
      · split
        · rfl
        · exact ih _ _ _
      · split
        · exact ih _ _ _
        · split
          · exact ih _ _ _
          · rfl
theorem zqk:∀ (ws:List Str) (rows:List (List Int)) (row:List Int) (dot:Bool),scan (ws++[SL,SL]) rows row dot=none
  | [],rows,row,dot=>by
    show scan [SL,SL] rows row dot=none
    unfold scan
    rw [if_pos rfl]
    split
    · rfl
    · unfold scan
      rw [if_pos rfl,if_pos (.inl ⟨rfl,rfl⟩)]
  | z::ws,rows,row,dot=>by
    have ih:=fun rows row dot=>zqk ws rows row dot
    rw [List.cons_append]
    unfold scan
    split
    · split
      · rfl
      · exact ih _ _ _
    · split
      · exact ih _ _ _
      · split
        · exact ih _ _ _
        · rfl
theorem z0f {us:List Str} {w:Str} (h:w∈us):w.length≤(Str.join " " us).length:=by
  induction us with
  | nil=>cases h
  | cons p r ih =>
    cases r with
    | nil=>rw [List.mem_singleton.mp h]; exact Nat.le_refl _
    | cons q r =>
      show _≤(p ++ " " ++ Str.join " " (q::r)).length
      rw [Str.length_append,Str.length_append]
      rcases List.mem_cons.mp h with rfl | h
      · omega
      · have:=ih h; omega
theorem zo3 (R:List (List Int)):1≤(zc8 R).length:=by
  obtain ⟨w,l,e⟩:∃ w l,wsOf R=w::l:=by
    cases e:wsOf R with
    | nil=>exact absurd e (zr5 R)
    | cons w l=>exact ⟨w,l,rfl⟩
  have hm:w∈wsOf R:=by rw [e]; exact List.mem_cons_self
  have:=z0f hm
  obtain ⟨c,l2,e2,_⟩:=zr6 hm
  have h1:1≤w.length:=by rw [← cs_len,e2]; simp
  unfold zc8
  omega
theorem zo8 {x:Str} (h:2≤x.length):x ≠ "-" := fun z=>by
  rw [z] at h
  have:("-" : Str).length=1:=rfl
  omega
theorem zw8 {R:List (List Int)} {w:Str} (h1:32∉cs w) (h2:w=SL∨(w≠SL∧w≠DT∧isN w=false)):said (zc8 R ++ " " ++ w)=none:=by
  have e:zc8 R ++ " " ++ w=Str.join " " (wsOf R++[w]):=(zgd " " _ [w] (zr5 R) (by simp)).symm
  have hl:=zo3 R
  have hd:Str.join " " (wsOf R++[w]) ≠ "-" := by
    rw [← e]
    refine zo8 ?_
    rw [Str.length_append,Str.length_append]
    have:(" " : Str).length=1:=rfl
    omega
  rw [e,zoz (by simp) (fun z hz=>(List.mem_append.mp hz).elim (fun q=>zg9 q) fun q=>by rw [List.mem_singleton.mp q]; exact h1) hd]
  rcases h2 with rfl | h2
  · rw [List.append_assoc]
    exact zqk _ _ _ _
  · exact scan_bad _ _ _ _ ⟨w,by simp,h2⟩
theorem zqq {R:List (List Int)} {s:Str} {c:Nat} (hs:cs s=[c]) (hc:c=120∨c=46):said (zc8 R++s)=none:=by
  obtain ⟨l,w,e⟩:∃ l w,wsOf R=l++[w]:=⟨_,_,(List.dropLast_concat_getLast (zr5 R)).symm⟩
  have hm:w∈wsOf R:=by rw [e]; simp
  have hl:=zo3 R
  have e2:zc8 R++s=Str.join " " (l++[w++s]):=by
    unfold zc8
    rw [e]
    cases l with
    | nil=>rfl
    | cons p l =>
      rw [zgd " " (p::l) [w] (by simp) (by simp),zgd " " (p::l) [w++s] (by simp) (by simp)]
      show Str.join " " (p::l) ++ " " ++ w++s=Str.join " " (p::l) ++ " " ++ (w++s)
      simp only [Str.append_assoc]
  have hsl:s.length=1:=by rw [← cs_len,hs]; rfl
  have ew:cs (w++s)=cs w++[c]:=by rw [zdg,hs]
  obtain ⟨d,l2,ed,h45,h57⟩:=zr6 hm
  have bad:w++s≠SL∧w++s≠DT∧isN (w++s)=false:=by
    have two:∀ {y:Str} {k:Nat},cs y=[k]→w++s≠y:=fun {y k} hy z=>by
      have:=congrArg (fun x=>(cs x).length) z
      simp only [ew,hy,ed,List.length_append,List.length_cons,List.length_nil] at this
      omega
    refine ⟨two (k:=47) rfl,two (k:=46) rfl,?_⟩
    rw [Bool.eq_false_iff]
    intro z
    have:=zrn z (c:=c) (by rw [ew]; simp)
    omega
  have hd:Str.join " " (l++[w++s]) ≠ "-" := by
    rw [← e2]
    refine zo8 ?_
    rw [Str.length_append]
    omega
  rw [e2,zoz (by simp) (fun z hz hc2=>?_) hd]
  · exact scan_bad _ _ _ _ ⟨w++s,by simp,bad⟩
  · rcases List.mem_append.mp hz with q | q
    · exact zg9 (R:=R) (by rw [e]; exact List.mem_append_left _ q) hc2
    · rw [List.mem_singleton.mp q,ew] at hc2
      rcases List.mem_append.mp hc2 with q | q
      · exact zg9 hm q
      · have:=List.mem_singleton.mp q
        omega
theorem zu2 (R:List (List Int)):said ((" " : Str)++zc8 R)=none:=by
  have e:(" " : Str)++zc8 R=Str.join " " (Str.empty::wsOf R):=by
    rw [show (Str.empty::wsOf R)=[Str.empty]++wsOf R from rfl,zgd " " [Str.empty] _ (by simp) (zr5 R)]
    apply zj5
    rw [zdg,zdg,zdg]
    rfl
  have hl:=zo3 R
  have hd:Str.join " " (Str.empty::wsOf R) ≠ "-" := by
    rw [← e]
    refine zo8 ?_
    rw [Str.length_append]
    have:(" " : Str).length=1:=rfl
    omega
  rw [e,zoz (by simp) (fun z hz=>(List.mem_cons.mp hz).elim (fun q=>by rw [q]; exact List.not_mem_nil) fun q=>zg9 q) hd]
  refine scan_bad _ _ _ _ ⟨Str.empty,by simp,?_⟩
  refine ⟨fun z=>absurd (congrArg cs z) ‹10›,fun z=>absurd (congrArg cs z) ‹10›,by decide +kernel⟩
theorem zlv (y:Str) (B:Nat):∀ ps:List Str,(∀ p∈ps,p.length≤B)→(Str.join y ps).length≤ps.length*(B+y.length)
  | [],_=>Nat.zero_le _
  | [p],h=>by
    have:=h p List.mem_cons_self
    show p.length≤1*(B+y.length)
    omega
  | p::q::r,h=>by
    have h1:=h p List.mem_cons_self
    have h2:=zlv y B (q::r) fun z hz=>h z ‹33›
    show (p++y++Str.join y (q::r)).length≤_
    rw [Str.length_append,Str.length_append,List.length_cons,Nat.add_mul]
    omega
theorem zua (y:Str) (B:Nat):∀ (ps:List Str) (a:Nat),(∀ p∈ps,p.length≤B)→ps.foldl (fun n s=>n+s.length+y.length) a≤a+ps.length*(B+y.length)
  | [],a,_=>by simp
  | p::r,a,h=>by
    have h1:=h p List.mem_cons_self
    have h2:=zua y B r (a+p.length+y.length) fun z hz=>h z ‹33›
    rw [List.foldl_cons,List.length_cons,Nat.add_mul]
    omega
theorem zyg {y:Str} {ps:List Str} {B:Nat} (h:∀ p∈ps,p.length≤B) (hb:ps.length*(B+y.length)≤100000):Builtin.Str.tooLong (ps.toArray.foldl (·+·.length+y.length) 0)=false∧(Builtin.Str.glued y ps).length≤sizeLine:=by
  have hline:sizeLine=16777216:=sizeLine_eq
  have h1:=zlv y B ps h
  have h2:=zua y B ps 0 h
  constructor
  · rw [List.foldl_toArray]
    unfold Builtin.Str.tooLong
    exact decide_eq_false (by omega)
  · rw [StrLaws.glued_eq_join]
    omega
theorem zt5 {r:List Int} (h:SmR r):∀ w∈rowW r,w.length≤61:=fun w hw=>by
  unfold rowW at hw
  split at hw
  · rw [List.mem_singleton.mp hw]; decide
  · obtain ⟨n,hn,rfl⟩:=List.mem_map.mp hw
    exact (zx5 (h.2 n hn)).2
theorem zts {r:List Int} (h:SmR r):(rowW r).length≤5:=by
  unfold rowW
  split
  · decide
  · rw [List.length_map]; exact h.1
theorem ztt {r:List Int} (h:SmR r):(Str.join " " (rowW r)).length≤310:=by
  have h1:=zlv " " 61 (rowW r) (zt5 h)
  have h2:=zts h
  have h3:(" " : Str).length=1:=rfl
  have h4:(rowW r).length*(61+1)≤5*62:=Nat.mul_le_mul_right _ h2
  rw [h3] at h1
  omega
theorem rowsT_eq {R:List (List Int)} (h:R≠[]):Str.join " / " (R.map fun r=>Str.join " " (rowW r))=zc8 R:=by
  unfold zc8 wsOf
  rw [if_neg h,zh9 (R.map rowW) (by simpa using h) fun g hg=>?_,List.map_map]
  · rfl
  · obtain ⟨r,_,rfl⟩:=List.mem_map.mp hg
    exact zxe r
theorem zxd {R:List (List Int)} (h:SmRs R):(zc8 R).length≤2504:=by
  by_cases c:R=[]
  · subst c; decide
  · rw [← rowsT_eq c]
    have h1:=zlv " / " 310 (R.map fun r=>Str.join " " (rowW r)) fun p hp=>by
      obtain ⟨r,hr,rfl⟩:=List.mem_map.mp hp
      exact ztt (h.2 r hr)
    have h3:(" / " : Str).length=3:=rfl
    rw [List.length_map,h3] at h1
    have h4:R.length*(310+3)≤8*313:=Nat.mul_le_mul_right _ h.1
    omega
theorem rowsT_ok (R:List (List Int)):∀ c∈cs (zc8 R),c=32∨(45≤c∧c≤57):=fun c hc=>by
  rcases jchars hc with q | ⟨w,hw,q⟩
  · exact .inl (List.mem_singleton.mp (show c∈[32] from q))
  · exact .inr (ztf hw q)
theorem lenR (r:List Int):lenD (lsD r)=some (.int (r.length:Int)):=by show some (D.int ((r.map D.int).length:Nat))=_; rw [List.length_map]
theorem z3i {R:List (List Int)} (h:SmRs R):F_l_shown [rsD R]=some (.str (zc8 R)):=by
  have hline:sizeLine=16777216:=sizeLine_eq
  refine zbm zka ?_
  rw [zux]
  unfold zke
  by_cases c:R=[]
  · subst c
    exact wp_seq (wp_ifT (ev_t ((ev_eqF (i:=0) (j:=0) (ev_f1 rfl (lenRs [])) rfl).trans rfl)) (wp_ret rfl rfl))
  have hp:0<R.length:=List.length_pos_iff.mpr c
  refine wp_seq (zcd (ev_t ((ev_eqF (ev_f1 rfl (lenRs R)) rfl).trans ‹105›)) (zat ?_))
  refine wp_seq (zkh (ds:=[]) rfl (by simp) ?_)
  walk_at "st"
  refine wp_seq (wp_for (ds:=R.map lsD) (ev_asL rfl rfl) (fun j ρ=>∃ v2 v3:Sl,ρ=[.bo (rsD R),.ol (((R.take j).map fun r=>Str.join " " (rowW r)).map D.str),v2,v3]) ⟨_,_,rfl⟩ ?_ ?_)
  · rintro j d ρ hd ⟨v2,v3,rfl⟩
    rw [List.getElem?_map] at hd
    obtain ⟨r,hr,rfl⟩:=Option.map_eq_some_iff.mp hd
    refine ⟨_,rfl,?_⟩
    dsimp only [gN,slm,List.set_cons_succ,List.set_cons_zero]
    have hS:=h.2 r (List.mem_of_getElem? hr)
    have hj:=(List.getElem?_eq_some_iff.mp hr).1
    have et:(((R.take j).map fun r=>Str.join " " (rowW r)).map D.str)++[D.str (Str.join " " (rowW r))]=((R.take (j+1)).map fun r=>Str.join " " (rowW r)).map D.str:=by
      rw [List.take_add_one,hr]
      simp
    have hjl:(((R.take j).map fun r=>Str.join " " (rowW r)).map D.str).length<sizeLine:=by
      rw [List.length_map,List.length_map,List.length_take]; have:=h.1; omega
    have jo:=zyg (y := " ") (zt5 hS) (by have:=zts hS; have h3:(" " : Str).length=1:=rfl; rw [h3]; omega)
    refine wp_seq (zba (d:=.lst ((r.map numT).map D.str)) (ev_lst ?_) ?_)
    · rw [show (r.map numT).map D.str=r.map fun n=>D.str (numT n) by rw [List.map_map]; rfl]
      refine ev_compA0 D.int (xs:=r) (ev_asL rfl rfl) (fun n=>D.str (numT n)) fun n hn=>⟨_,rfl,?_⟩
      refine ev_f1 rfl ?_
      show (if n.natAbs.log2<1920 then some (D.str (toString n)) else none)=_
      rw [if_pos (log_small (hS.2 n hn))]
      rfl
    walk_at "st"
    have fin:Wp (sApp 1 (zpo (dC (.str " ")) (dVar 3))) [.bo (rsD R),.ol (((R.take j).map fun r=>Str.join " " (rowW r)).map D.str),.bo (lsD r),.pu (.lst ((rowW r).map D.str))] { nx:=fun ρ=>∃ v2 v3:Sl,ρ=[.bo (rsD R),.ol (((R.take (j+1)).map fun r=>Str.join " " (rowW r)).map D.str),v2,v3],rt:=fun d=>d=.str (zc8 R),bk:=fun ρ=>Wp (sRet (zpo (dC (.str " / ")) (dVar 1))) ρ { nx:=fun _=>D.non=.str (zc8 R),rt:=fun d=>d=.str (zc8 R) },ct:=fun ρ=>∃ v2 v3:Sl,ρ=[.bo (rsD R),.ol (((R.take (j+1)).map fun r=>Str.join " " (rowW r)).map D.str),v2,v3] }:=by
      refine z35 rfl (zs1 rfl rfl jo) hjl ⟨.bo (lsD r),.pu (.lst ((rowW r).map D.str)),?_⟩
      rw [StrLaws.glued_eq_join,et]
      rfl
    by_cases c2:r=[]
    · have ew:rowW r=[DT]:=by unfold rowW; rw [if_pos c2]
      refine wp_seq (wp_ifT (ev_t ((ev_eqF (ev_f1 rfl (lenR r)) rfl).trans (by rw [c2]; rfl))) (zba (ev_lst ‹5›) ?_))
      walk_at "st"
      rw [ew] at fin
      exact fin
    · have ew:rowW r=r.map numT:=by unfold rowW; rw [if_neg c2]
      have hp2:0<r.length:=List.length_pos_iff.mpr c2
      refine wp_seq (zcd (ev_t ((ev_eqF (ev_f1 rfl (lenR r)) rfl).trans ‹105›)) (zat ?_))
      rw [ew] at fin
      exact fin
  · rintro ρ ⟨v2,v3,rfl⟩
    rw [List.length_map,List.take_length]
    refine wp_ret (zs1 rfl rfl (zyg (B:=310) (fun p hp=>?_) ?_)) ?_
    · obtain ⟨r,hr,rfl⟩:=List.mem_map.mp hp
      exact ztt (h.2 r hr)
    · have h3:(" / " : Str).length=3:=rfl
      rw [List.length_map,h3]
      have:=h.1
      omega
    · rw [StrLaws.glued_eq_join,rowsT_eq c]
theorem zmt {g:DG} {e x:DE} {r:Rho}:∀ {ds:List D},(∀ d∈ds,∀ ρ1,g d r=some ρ1→x ρ1=none)→¬ zdn g e x r ds
  | [],_,h=>h
  | d::ds,hx,h=>by
    unfold zdn at h
    split at h
    · exact h
    · rename_i ρ1 e1
      rw [hx d List.mem_cons_self ρ1 e1] at h
      dsimp only at h
      split at h
      · exact zmt (fun z hz=>hx z ‹33›) h
      · exact h
theorem zqy {x:Str} (h:Good x) (hn:isN x=true):zdd [.str x]=none:=by
  refine zqt zdy ?_
  rw [zfm]
  unfold zdi
  exact zfv (zcd (ev_not (x:=true) (zb6 (ev_call ‹5› (by rw [is_number h,hn])) rfl)) (zat zve))
theorem zxh {p:Str} (h:Good p) (ho:rowOk p=true):zep [.str p]=none:=by
  refine zqt zfq ?_
  rw [ziy]
  unfold zeu
  by_cases c:p=DT
  · subst c
    exact zms (zx8 (ev_t (zrs rfl rfl)) zve)
  · have hw:=(of_decide_eq_true ho).resolve_left c
    refine zfv (zcd (ev_t (zm3 rfl rfl c)) (zat (zt6 (ds:=(splitL p " ").map D.str) (ev_asL (ev_lst (zhx h ‹3› rfl rfl)) rfl) (zmt fun d hd ρ1 e=>?_))))
    obtain ⟨w,hw2,rfl⟩:=List.mem_map.mp hd
    cases e
    exact zi5 ‹5› (zqy (zdh h hw2) (hw w hw2))
theorem zu5 {x:Str} (h:Good x) {R:List (List Int)} (hs:said x=some R):zdx [.str x]=none:=by
  refine zqt zet ?_
  rw [zha]
  unfold zeb
  unfold said at hs
  by_cases c:x = "-"
  · subst c
    exact zms (zx8 (ev_t (zrs rfl rfl)) zve)
  · rw [if_neg c] at hs
    split at hs
    · rename_i q
      rw [List.all_eq_true] at q
      refine zfv (zcd (ev_t (zm3 rfl rfl c)) (zat (zt6 (ds:=(splitL x " / ").map D.str) (ev_asL (ev_lst (zhx h ‹3› rfl rfl)) rfl) (zmt fun d hd ρ1 e=>?_))))
      obtain ⟨w,hw2,rfl⟩:=List.mem_map.mp hd
      cases e
      exact zi5 ‹5› (zxh (zdh h hw2) (q w hw2))
    · cases hs
noncomputable def z0m (k:Nat) (R:List (List Int)):Bool:=match k with
  | 0=>fit0 R
  | 1=>fit1 R
  | 2=>fit2 R
  | 3=>fit3 R
  | 4=>fit4 R
  | _=>fit5 R
noncomputable abbrev MF:List ‹83›:=[(zpu,F_Alike_fits),(ztb,F_Open_fits),(zps,F_Tails_fits),(zkr,F_Windows_fits),(zta,F_Tree_fits),(zpt,F_Pairs_fits)]
theorem zsy {k:Nat} {C:Addr} {R:List (List Int)} {a:DE} {es:Rho→Option (List D)} {ρ:Rho} (hR:SmRs R) (h1:KA[k]?=some C) (ha:a ρ=some (.ins C)) (he:es ρ=some [rsD R]):zig MF a es ρ=some (.bl (z0m k R)):=by
  have hw:∀ r∈R,∀ v∈r,v.natAbs<10 ^ 70:=fun r hr v hv=>Nat.lt_trans ((hR.2 r hr).2 v hv) ‹3›
  have hl:R.length≤1000:=Nat.le_trans hR.1 ‹3›
  unfold KA at h1
  match k,h1 with
  | 0,h1=>cases h1; exact zef ha rfl he (zvq _ R)
  | 1,h1=>cases h1; exact zef ha rfl he (zxx _ R)
  | 2,h1=>cases h1; exact zef ha rfl he (zuu _ R)
  | 3,h1=>cases h1; exact zef ha rfl he (zp0 _ R)
  | 4,h1=>cases h1; exact zef ha rfl he (zv9 _ R hw)
  | 5,h1=>cases h1; exact zef ha rfl he (zu7 _ R hl hw)
theorem zvu {i j:Nat} {w:Str} (h1:WS[i]?=some w) (h2:WS[j]?=some w):i=j:=by
  have nd:WS.Nodup:=by decide +kernel
  have hi:=(List.getElem?_eq_some_iff.mp h1).1
  exact (List.getElem?_inj hi nd).mp (h1.trans h2.symm)
structure FT (x q r:Str):Prop where
  gx:Good x
  e:cs x=cs q++32::cs r
  n:32∉cs q
theorem FT.gq {x q r:Str} (h:FT x q r):Good q:=by
  refine ⟨fun c hc=>h.gx.1 c (by rw [h.e]; exact List.mem_append_left _ hc),?_⟩
  have h1:=congrArg List.length h.e
  have:=h.gx.2
  rw [List.length_append,cs_len,cs_len] at h1
  omega
theorem FT.gr {x q r:Str} (h:FT x q r):Good r:=by
  refine ⟨fun c hc=>h.gx.1 c (by rw [h.e]; exact List.mem_append_right _ (List.mem_cons_of_mem _ hc)),?_⟩
  have h1:=congrArg List.length h.e
  have:=h.gx.2
  rw [List.length_append,List.length_cons,cs_len,cs_len,cs_len] at h1
  omega
theorem FT.p {x q r:Str} (h:FT x q r):(Txt.partition x " ").1=q∧(Txt.partition x " ").2.2=r:=by
  obtain ⟨h1,h2⟩:=zq5 (c:=32) (y := " ") rfl h.e h.n
  exact ⟨zj5 h1,zj5 h2⟩
theorem FT.w {x q r:Str} (h:FT x q r):∀ {ρ:Rho} {a:DE},a ρ=some (zz0 x " ")→dIx a ‹37› ρ=some (.str q):=fun ha=>(ev_ix ha rfl rfl).trans (by rw [h.p.1])
theorem FT.rs {x q r:Str} (h:FT x q r):∀ {ρ:Rho} {a:DE},a ρ=some (zz0 x " ")→dIx a ‹92› ρ=some (.str r):=fun ha=>(ev_ix ha rfl rfl).trans (by rw [h.p.2])
theorem zng {x:Str} (h:Good x):(((" " : Str).length==0)=false)∧x.length≤sizeLine:=⟨rfl,by have:=sizeLine_eq; have:=h.2; omega⟩
theorem zt7 {x q:Str} (hx:Good x) (hq:Good q) (e:(Txt.partition x " ").1=q) (h:isW q=false):zap [.str x]=some .non:=by
  refine zfo zca ?_
  rw [zc0]
  unfold zbp
  refine wp_seq (zba (zi6 rfl rfl (zng hx)) ?_)
  walk_at "st"
  refine wp_seq (zba (d:=.str q) ((ev_ix rfl rfl rfl).trans (by rw [e])) ?_)
  walk_at "st"
  exact wp_seq (wp_ifT (ev_not (x:=false) (zb6 (ev_call ‹5› (by rw [is_name hq,h])) rfl)) (zl6 rfl (zxg hq) rfl))
theorem z5f {x q r:Str} (h:FT x q r) (hq:isW q=true) (hs:said r=none):zap [.str x]=some .non:=by
  refine zfo zca ?_
  rw [zc0]
  unfold zbp
  refine wp_seq ‹90›
  walk_at "st"
  refine wp_seq (zba (h.w rfl) ?_)
  walk_at "st"
  refine wp_seq (zcd (ev_not (x:=true) (zb6 (ev_call ‹5› ‹143›) rfl)) (zat ?_))
  exact wp_seq (zvx (ev_call (ev_cons (h.rs rfl) rfl) (zu4 h.gr hs)) rfl)
theorem zx9 {c:Rho→Option Bool} {ρ:Rho}:sSeq (sIf c sNo zbq) sNo ρ=.no:=by
  cases e:c ρ with
  | none=>exact zms (z1s e)
  | some b =>
    cases b with
    | true=>exact zms (zx8 e zve)
    | false=>exact zfv (zcd e (zat zve))
theorem z6h {x q r:Str} (h:FT x q r) (hq:isW q=true) {R:List (List Int)} (hs:said r=some R):zap [.str x]=none:=by
  refine zqt zca ?_
  rw [zc0]
  unfold zbp
  refine zfv ‹90›
  walk_at "st"
  refine zfv (zba (h.w rfl) ?_)
  walk_at "st"
  refine zfv (zcd (ev_not (x:=true) (zb6 (ev_call ‹5› ‹143›) rfl)) (zat ?_))
  refine zfv (zvw (zi5 (ev_cons (h.rs rfl) rfl) (zu5 h.gr hs)) ‹41›)
  walk_at "st"
  exact zx9
theorem z3b {tbl:List ‹83›} {a:DE} {es:Rho→Option (List D)} {ρ:Rho} (h:a ρ=none):dNot (dTru (zig tbl a es)) ρ=none:=by
  have e:zig tbl a es ρ=none:=by unfold zig; rw [h]
  unfold dNot dTru
  rw [e]
theorem floorN {x q r:Str} (h:FT x q r) (hq:isW q=true) {R:List (List Int)} (hs:said r=some R) (hk:q∉WS):za5 [.str x]=none:=by
  refine zqt zcx ?_
  rw [zc0]
  unfold zb2
  refine zfv ‹90›
  walk_at "st"
  refine zfv (zba (h.w rfl) ?_)
  walk_at "st"
  refine zfv (zcd (ev_not (x:=true) (zb6 (ev_call ‹5› ‹143›) rfl)) (zat ?_))
  refine zfv ‹41›
  walk_at "st"
  exact zms (z1s (z3b (zi5 ‹5› (z0e hk))))
theorem noKind {x q r:Str} (h:FT x q r) (hq:isW q=true) {R:List (List Int)} (hs:said r=some R) (hk:q∉WS) (hg:Gn 40 q):zbx [.str x]=some .non:=by
  refine zfo zdt ?_
  rw [zc0]
  unfold zcm
  refine wp_seq ‹90›
  walk_at "st"
  refine wp_seq (zba (h.w rfl) ?_)
  walk_at "st"
  refine wp_seq (zcd (ev_not (x:=true) (zb6 (ev_call ‹5› ‹143›) rfl)) (zat ?_))
  refine wp_seq ‹41›
  walk_at "st"
  exact wp_seq (wp_x (ev_call ‹5› (z0d hk hg)) rfl)
theorem z3c {x q r:Str} (h:FT x q r) (hq:isW q=true) {R:List (List Int)} (hR:SmRs R) (hs:said r=some R) {k:Nat} (hk:WS[k]?=some q) (hf:z0m k R=false):za5 [.str x]=some .non:=by
  obtain ⟨k2,C,e,h1,h2⟩:=kind_of (List.mem_of_getElem? hk)
  have ek:k2=k:=zvu h2 hk
  subst ek
  refine zfo zcx ?_
  rw [zc0]
  unfold zb2
  refine wp_seq ‹90›
  walk_at "st"
  refine wp_seq (zba (h.w rfl) ?_)
  walk_at "st"
  refine wp_seq (zcd (ev_not (x:=true) (zb6 (ev_call ‹5› ‹143›) rfl)) (zat ?_))
  refine wp_seq ‹41›
  walk_at "st"
  have hl:=h.gq.2
  exact wp_seq (wp_ifT (ev_not (x:=false) (zb6 ((zsy hR h1 (ev_call ‹5› e) ‹5›).trans (by rw [hf])) rfl)) (zv1 rfl (by omega) rfl))
theorem z3n {x q r:Str} (h:FT x q r) (hq:isW q=true) {R:List (List Int)} (hR:SmRs R) (hs:said r=some R) {k:Nat} (hk:WS[k]?=some q) (hf:z0m k R=true):F_read_floor [.str x]=some (.tup [.str q,rsD R]):=by
  obtain ⟨k2,C,e,h1,h2⟩:=kind_of (List.mem_of_getElem? hk)
  have ek:k2=k:=zvu h2 hk
  subst ek
  refine zbm zgw ?_
  rw [zc0]
  unfold zfe
  refine wp_seq ‹90›
  walk_at "st"
  refine wp_seq (zba (h.w rfl) ?_)
  walk_at "st"
  refine wp_seq (zcd (ev_not (x:=true) (zb6 (ev_call ‹5› ‹143›) rfl)) (zat ?_))
  refine wp_seq ‹41›
  walk_at "st"
  refine wp_seq (zcd (ev_not (x:=true) (zb6 ((zsy hR h1 (ev_call ‹5› e) ‹5›).trans (by rw [hf])) rfl)) (zat ?_))
  exact wp_ret (zyx ‹4›) rfl
abbrev blsL (a b c d:Bool):D:=.lst [.bl a,.bl b,.bl c,.bl d]
theorem ref1 {x:Str} (h:zap [.str x]=some .non):F_l_refused [.str x]=some (blsL true false false true):=by
  refine zbm zdu ?_
  rw [zhb]
  unfold zdz
  refine wp_seq (zba rfl ?_)
  walk_at "st"
  exact z01 (ev_call ‹5› h) (zr7 ⟨rfl,by decide⟩ (ev_call ‹5› h) rfl)
theorem ref3 {x:Str} (h0:zap [.str x]=none) (h:za5 [.str x]=some .non):F_l_refused [.str x]=some (blsL false false true true):=by
  refine zbm zdu ?_
  rw [zhb]
  unfold zdz
  refine wp_seq (zba rfl ?_)
  walk_at "st"
  exact zv4 (zi5 ‹5› h0) (z01 (ev_call ‹5› h) (zr7 ⟨rfl,by decide⟩ (ev_call ‹5› h) rfl))
theorem ref2 {x:Str} (h0:zap [.str x]=none) (h1:za5 [.str x]=none) (h:zbx [.str x]=some .non):F_l_refused [.str x]=some (blsL false true false true):=by
  refine zbm zdu ?_
  rw [zhb]
  unfold zdz
  refine wp_seq (zba rfl ?_)
  walk_at "st"
  exact zv4 (zi5 ‹5› h0) (zv4 (zi5 ‹5› h1) (zr7 ⟨rfl,by decide⟩ (ev_call ‹5› h) rfl))
theorem z2l {n:Nat} {x:Str} (h:Gn n x):Gn n (tailT x):=by
  refine ⟨fun c hc=>h.1 c ?_,?_⟩
  · have hc:c∈(x.cps.toList.drop 1):=hc
    exact List.mem_of_mem_drop hc
  · have h2:=h.2
    rw [← cs_len] at h2 ⊢
    show (List.drop 1 (cs x)).length≤n
    rw [List.length_drop]
    omega
theorem z5k {i c:Int} (h0:0≤i) (h1:i<6) (hb:Builtin.Int.intBits c≤1048576):∃ x,F_l_word [.int i,.int c]=some (.str x)∧Gn 14 x:=by
  have hline:sizeLine=16777216:=sizeLine_eq
  obtain ⟨d,e,x,rfl,hx⟩:=zkm zk7 (ds:=[.int i,.int c]) (P:=fun d=>∃ x,d=.str x∧Gn 14 x) (by
    rw [zwj]
    unfold zl2
    obtain ⟨w,ew,hw⟩:=z6g h0 h1
    refine wp_seq (zba (ev_ix (ev_call rfl z2e) rfl ew) ?_)
    walk_at "st"
    have gw:=z34 hw
    have lw:w.length≤7:=gw.2
    have lz:w.length≤sizeLine:=by omega
    refine wp_seq (zba (ev_mod (ev_call ‹4› (mix c 6 (by omega) ‹3› ‹3›)) rfl ‹3›) ?_)
    walk_at "st"
    refine wp_seq (zba rfl ?_)
    walk_at "st"
    refine wp_seq ‹15›
    · obtain ⟨m0,m1⟩:=mixZ_lt c 7
      obtain ⟨n,hn,hn9⟩:∃ n:Nat,mixZ c 7 % 10=n∧n<10:=⟨(mixZ c 7 % 10).toNat,by omega,by omega⟩
      have hc:∀ k:Nat,k<10→∃ s,ixD (.str letters) (mixZ (c+(k:Int)*(k:Int)) (k:Int) % 26)=some (.str s)∧Gn 1 s:=fun k _=>by
        obtain ⟨s,es,gs⟩:=letter (i:=mixZ (c+(k:Int)*(k:Int)) (k:Int) % 26) (Int.emod_nonneg _ ‹3›) (Int.emod_lt_of_pos _ ‹3›)
        exact ⟨_,es,gs⟩
      obtain ⟨f,hf⟩:∃ f:Nat→Str,∀ k:Nat,k<10→ixD (.str letters) (mixZ (c+(k:Int)*(k:Int)) (k:Int) % 26)=some (.str (f k))∧Gn 1 (f k):=by
        refine ⟨fun k=>if h:k<10 then (hc k h).choose else "", fun k h=>?_⟩
        dsimp only
        rw [dif_pos h]
        exact (hc k h).choose_spec
      have gg:=z0k (xs:=‹108›.map f) fun s hs=>by
        obtain ⟨k,hk,rfl⟩:=List.mem_map.mp hs
        exact (hf k (by have:=List.mem_range.mp hk; omega)).2
      rw [List.length_map,List.length_range] at gg
      have gl:=gg.1.2
      refine wp_ret (zs1 rfl (ev_lst (ds:=(‹108›.map f).map D.str) ?_) ⟨?_,by omega⟩) ⟨_,rfl,gg.1.mono (by omega)⟩
      · rw [List.map_map]
        refine ev_compA0 (fun k:Nat=>D.int (0+(k:Int))) (xs:=List.range n) ?_ _ fun k hk=>⟨_,rfl,?_⟩
        · refine (ev_rg1 (ev_mod (ev_call ‹4› (mix c 7 (by omega) ‹3› ‹3›)) rfl ‹3›) ⟨by omega,by omega⟩).trans ?_
          rw [hn]
          rfl
        · have hk9:k<10:=by have:=List.mem_range.mp hk; omega
          have hs:(k:Int)*(k:Int)<100:=Int.lt_of_le_of_lt (Int.mul_le_mul (show (k:Int)≤9 by omega) (show (k:Int)≤9 by omega) (by omega) (by omega)) ‹3›
          have hs0:0≤(k:Int)*(k:Int):=Int.mul_nonneg (by omega) (by omega)
          rw [show (0:Int)+(k:Int)=(k:Int) by omega]
          exact ev_ix rfl (ev_mod (ev_call (ev_cons (zgt rfl (zir rfl rfl (imul (by omega)))) ‹5›) (mix _ _ (zun (k:=1048576) ‹3› hb hs0 (by omega)) (by omega) (by omega))) rfl ‹3›) (hf k hk9).1
      · have:=gg.2
        unfold Builtin.Str.tooLong
        rw [decide_eq_false_iff_not,hline]
        omega
    refine wp_seq ‹15›
    · obtain ⟨s,es,gs⟩:=letter (i:=mixZ c 7 % 26) (Int.emod_nonneg _ ‹3›) (Int.emod_lt_of_pos _ ‹3›)
      have l4:=gs.2
      exact wp_ret (zlh rfl (ev_ix rfl (ev_mod (ev_call ‹4› (mix c 7 (by omega) ‹3› ‹3›)) rfl ‹3›) es) (if_pos (by omega))) ⟨_,rfl,(gw.app gs).mono ‹3›⟩
    refine wp_seq ‹15›
    · have g1:=(gw.slice none (some 1)).up
      have g2:=z2l gw
      have l1:=(gw.slice none (some 1)).2
      have l2:=g1.2
      have l3:=g2.2
      exact wp_ret (zlh (z6p (z1x rfl rfl (ev_oSome rfl) lz) (by omega)) (zub rfl rfl rfl lz) (if_pos (by omega))) ⟨_,rfl,g1.app g2⟩
    refine wp_seq ‹15›
    · exact wp_ret (z1x rfl rfl (ev_oSome (zjz rfl)) lz) ⟨_,rfl,(gw.slice _ _).mono ‹3›⟩
    exact wp_ret rfl ⟨_,rfl,gw.mono ‹3›⟩)
  exact ⟨x,e,hx⟩
theorem Gn.good {n:Nat} {x:Str} (h:Gn n x) (hn:n≤20000):Good x:=⟨fun c hc=>(h.1 c hc).2,Nat.le_trans h.2 hn⟩
theorem Gn.free {n:Nat} {x:Str} (h:Gn n x):32∉cs x:=fun z=>by have:=(h.1 32 z).1; omega
theorem z4i {n:Int} (h0:-100≤n) (h1:n<10 ^ 50):Sml n:=by
  unfold Sml
  have:(10:Int) ^ 50<10 ^ 60:=by decide
  have h2:n<10 ^ 60:=by omega
  by_cases c:0≤n
  · have e:(n.natAbs:Int)=n:=by omega
    have:(n.natAbs:Int)<((10 ^ 60:Nat):Int):=by rw [e]; exact_mod_cast h2
    exact Int.ofNat_lt.mp this
  · have:n.natAbs≤100:=by omega
    exact Nat.lt_of_le_of_lt this ‹3›
theorem zww {l:List Int} (hl:l.length≤5) (h:∀ n∈l,-100≤n∧n<10 ^ 50):SmR l:=⟨hl,fun n hn=>z4i (h n hn).1 (h n hn).2⟩
theorem zs7 {α β:Type} (f:α→β) (l:List α) (lo hi:Option Int):cutL (l.map f) lo hi=(cutL l lo hi).map f:=by unfold cutL; rw [List.length_map,List.map_take,List.map_drop]
theorem zs6 {α:Type} {l:List α} {lo hi:Option Int} {a:α} (h:a∈cutL l lo hi):a∈l:=List.mem_of_mem_drop (List.mem_of_mem_take h)
theorem zs8 {α:Type} (l:List α) (lo hi:Option Int):(cutL l lo hi).length≤l.length:=by
  unfold cutL
  rw [List.length_take,List.length_drop]
  omega
def Sn (r:List Int):Prop:=r.length≤3∧∀ n∈r,-100≤n∧n<10 ^ 50
def Sns (R:List (List Int)):Prop:=R.length≤3∧∀ r∈R,Sn r
theorem Sns.cut {R:List (List Int)} (h:Sns R) (lo hi:Option Int):Sns (cutL R lo hi):=⟨Nat.le_trans (zs8 _ _ _) h.1,fun r hr=>h.2 r (zs6 hr)⟩
theorem Sn.cut {r:List Int} (h:Sn r) (lo hi:Option Int):Sn (cutL r lo hi):=⟨Nat.le_trans (zs8 _ _ _) h.1,fun n hn=>h.2 n (zs6 hn)⟩
theorem sn1 {a:Int} (ha:-100≤a∧a<100):Sn [a]:=⟨by simp,fun n hn=>by
  rw [List.mem_singleton.mp hn]
  exact ⟨ha.1,Int.lt_trans ha.2 ‹3›⟩⟩
theorem sn3 {a b c:Int} (ha:-100≤a∧a<100) (hb:-100≤b∧b<100) (hc:-100≤c∧c<100):Sn [a,b,c]:=⟨by simp,fun n hn=>by
  have h:n=a∨n=b∨n=c:=by simpa using hn
  have:n<100:=by omega
  exact ⟨by omega,Int.lt_trans this ‹3›⟩⟩
theorem sns2 {a b:List Int} (ha:Sn a) (hb:Sn b):Sns [a,b]:=⟨by simp,fun r hr=>by
  have h:r=a∨r=b:=by simpa using hr
  rcases h with rfl | rfl
  · exact ha
  · exact hb⟩
theorem sns3 {a b c:List Int} (ha:Sn a) (hb:Sn b) (hc:Sn c):Sns [a,b,c]:=⟨by simp,fun r hr=>by
  have h:r=a∨r=b∨r=c:=by simpa using hr
  rcases h with rfl | rfl | rfl
  · exact ha
  · exact hb
  · exact hc⟩
theorem zop {a:DE} {ρ:Rho} {R:List (List Int)} {hi:DE} {k:Int} (ha:a ρ=some (rsD R)) (hh:hi ρ=some (.int k)):dLst (dSl a zd8 (zdw hi)) ρ=some (rsD (cutL R none (some k))):=by
  refine (ev_lst (zsz (ev_asL ha rfl) rfl (ev_oSome hh))).trans ?_
  unfold rsD
  rw [zs7]
theorem z5l {i c:Int} (h0:0≤i) (h1:i<6) (hb:Builtin.Int.intBits c≤1048576):∃ R,F_l_rows [.int i,.int c]=some (rsD R)∧Sns R:=by
  have hline:sizeLine=16777216:=sizeLine_eq
  obtain ⟨d,e,R,rfl,hR⟩:=zkm zk8 (ds:=[.int i,.int c]) (P:=fun d=>∃ R,d=rsD R∧Sns R) (by
    rw [zwk]
    unfold zl3
    have fd:zj3 (dVar 1) (dC (.int 6))=fun ρ=>zj3 (dVar 1) (dC (.int 6)) ρ:=rfl
    have hm:∀ k:Int,0≤1+mixZ (c+k) 1 % 7∧1+mixZ (c+k) 1 % 7<100:=fun k=>by
      have h1:=Int.emod_nonneg (mixZ (c+k) 1) (show (7:Int)≠0 by decide)
      have h2:=Int.emod_lt_of_pos (mixZ (c+k) 1) (show (0:Int)<7 by decide)
      omega
    refine wp_seq (zba (d:=lsD [1+mixZ (c+0) 1 % 7,1+mixZ (c+1) 1 % 7,1+mixZ (c+2) 1 % 7]) (ev_lst ?_) ?_)
    · refine (ev_compA0 (fun k:Nat=>D.int (0+(k:Int))) (xs:=List.range 3) ?_ (fun k=>D.int (1+mixZ (c+(k:Int)) 1 % 7)) fun k hk=>⟨_,rfl,?_⟩).trans rfl
      · exact ev_rg1 (i:=3) rfl ⟨by decide,by rw [hline]; decide⟩
      · have hk3:k<3:=List.mem_range.mp hk
        rw [show (0:Int)+(k:Int)=(k:Int) by omega]
        exact zgt rfl (ev_mod (ev_call (ev_cons (zgt rfl rfl) ‹5›) (mix _ _ (zun (k:=1048576) ‹3› hb (by omega) (by omega)) ‹3› ‹3›)) rfl ‹3›)
    walk_at "st"
    generalize ea:1+mixZ (c+0) 1 % 7=a0
    generalize eb:1+mixZ (c+1) 1 % 7=a1
    generalize ec:1+mixZ (c+2) 1 % 7=a2
    have ha:=hm 0
    have hb2:=hm 1
    have hc2:=hm 2
    rw [ea] at ha
    rw [eb] at hb2
    rw [ec] at hc2
    have m3:∀ ρ:Rho,dVar 1 ρ=some (.int c)→dMod (zj3 (dVar 1) (dC (.int 6))) ‹91› ρ=some (.int (c / 6 % 3)):=fun ρ h=>ev_mod (zm2 h rfl (fdok (by omega) (by omega))) rfl ‹3›
    have m4:∀ ρ:Rho,dVar 1 ρ=some (.int c)→dMod (zj3 (dVar 1) (dC (.int 6))) (dC (.int 4)) ρ=some (.int (c / 6 % 4)):=fun ρ h=>ev_mod (zm2 h rfl (fdok (by omega) (by omega))) rfl ‹3›
    have n3:0≤c / 6 % 3∧c / 6 % 3<3:=⟨Int.emod_nonneg _ ‹3›,Int.emod_lt_of_pos _ ‹3›⟩
    refine wp_seq ‹15›
    · refine wp_ret (ev_lst (ev_cons (ev_lst (ev_cons (zgt rfl (m3 _ rfl)) rfl)) ‹5›)) ⟨[[1+c / 6 % 3],[a0,a1,a2]],rfl,sns2 (sn1 (by omega)) (sn3 (by omega) (by omega) (by omega))⟩
    refine wp_seq ‹15›
    · exact wp_ret (zop (R:=[[a0,a1,a2],[0,3,5]]) (ev_lst (ev_cons rfl (ev_cons (ev_lst (ev_cons rfl ‹4›)) rfl))) (m3 _ rfl)) ⟨_,rfl,(sns2 (sn3 (by omega) (by omega) (by omega)) (sn3 ‹3› ‹3› ‹3›)).cut _ _⟩
    refine wp_seq ‹15›
    · exact wp_ret (zop (R:=[[a0,a1,a2],[0,3,5]]) (ev_lst (ev_cons rfl (ev_cons (ev_lst (ev_cons rfl ‹4›)) rfl))) (m3 _ rfl)) ⟨_,rfl,(sns2 (sn3 (by omega) (by omega) (by omega)) (sn3 ‹3› ‹3› ‹3›)).cut _ _⟩
    refine wp_seq ‹15›
    · exact wp_ret (zop (R:=[[2],[0,a0,a1],[1,9,a2]]) (ev_lst (ev_cons (ev_lst ‹5›) (ev_cons (ev_lst (ev_cons rfl (ev_cons (ev_ix rfl rfl rfl) (ev_cons (ev_ix rfl rfl rfl) rfl)))) (ev_cons (ev_lst (ev_cons rfl (ev_cons rfl (ev_cons (ev_ix rfl rfl rfl) rfl)))) rfl)))) (zgt rfl (m3 _ rfl))) ⟨_,rfl,(sns3 (sn1 ‹3›) (sn3 ‹3› (by omega) (by omega)) (sn3 ‹3› ‹3› (by omega))).cut _ _⟩
    refine wp_seq ‹15›
    · refine wp_ret (ev_lst (ev_cons (ev_lst ‹5›) (ev_cons (d:=lsD (cutL [1,2,-1] none (some (c / 6 % 4)))) (ev_lst ?_) rfl))) ⟨[[2],cutL [1,2,-1] none (some (c / 6 % 4))],rfl,sns2 (sn1 ‹3›) ((sn3 ‹3› ‹3› ‹3›).cut _ _)⟩
      refine (zsz (ev_asL (ev_lst (ev_cons rfl (ev_cons rfl (ev_cons (zjz rfl) rfl)))) rfl) rfl (ev_oSome (m4 _ rfl))).trans ?_
      rw [← zs7]
      rfl
    · exact wp_ret (zop (R:=[[3],[0,1],[1,2]]) (ev_lst (ev_cons (ev_lst ‹5›) (ev_cons (ev_lst ‹4›) (ev_cons (ev_lst ‹4›) rfl)))) (zgt rfl (m3 _ rfl))) ⟨_,rfl,(sns3 (sn1 ‹3›) ⟨by decide,by decide⟩ ⟨by decide,by decide⟩).cut _ _⟩)
  exact ⟨R,e,hR⟩
theorem sl_g {a:DE} {ρ:Rho} {R:List (List Int)} {lo hi:Rho→Option (Option Int)} {l u:Option Int} (ha:a ρ=some (rsD R)) (hl:lo ρ=some l) (hh:hi ρ=some u):dLst (dSl a lo hi) ρ=some (rsD (cutL R l u)):=by
  refine (ev_lst (zsz (ev_asL ha rfl) hl hh)).trans ?_
  unfold rsD
  rw [zs7]
theorem cat_rs {a b:DE} {ρ:Rho} {A B:List (List Int)} (ha:a ρ=some (rsD A)) (hb:b ρ=some (rsD B)) (h:A.length+B.length≤1000):dLst (dCat a b) ρ=some (rsD (A++B)):=by
  have hline:sizeLine=16777216:=sizeLine_eq
  refine (ev_lst (ev_cat ha hb (by rw [List.length_map,List.length_map]; omega))).trans ?_
  unfold rsD
  rw [List.map_append]
theorem Sn.smr {r:List Int} (h:Sn r):SmR r:=zww (Nat.le_trans h.1 ‹3›) h.2
theorem smrs_app {A B:List (List Int)} (hl:A.length+B.length≤8) (ha:∀ r∈A,SmR r) (hb:∀ r∈B,SmR r):SmRs (A++B):=⟨by rw [List.length_append]; exact hl,fun r hr=>(List.mem_append.mp hr).elim (ha r) (hb r)⟩
theorem p50 {ρ:Rho}:dPow (dC (.int 10)) (dC (.int 50)) ρ=some (.int (10 ^ 50)):=z52 (i:=10) (j:=50) rfl rfl (by unfold CPow; decide)
theorem z5m {R:List (List Int)} {c:Int} (h:Sns R) (hb:Builtin.Int.intBits c≤1048576):∃ Q,F_l_bent [rsD R,.int c]=some (rsD Q)∧SmRs Q:=by
  have hline:sizeLine=16777216:=sizeLine_eq
  obtain ⟨d,e,Q,rfl,hQ⟩:=zkm zk9 (ds:=[rsD R,.int c]) (P:=fun d=>∃ Q,d=rsD Q∧SmRs Q) (by
    rw [zwl]
    unfold zl4
    have hR1:=h.1
    refine wp_seq (zba (ev_mod (ev_call ‹4› (mix c 2 (by omega) ‹3› ‹3›)) rfl ‹3›) ?_)
    walk_at "st"
    generalize mixZ c 2 % 8=ch
    refine wp_seq (zba (ev_mod (ev_call ‹4› (mix c 3 (by omega) ‹3› ‹3›)) (zs0 rfl (ev_f1 rfl (lenRs R))) (by omega)) ?_)
    walk_at "st"
    have b1:=Int.emod_nonneg (mixZ c 3) (show max 1 (R.length:Int)≠0 by omega)
    have b2:=Int.emod_lt_of_pos (mixZ c 3) (show 0<max 1 (R.length:Int) by omega)
    generalize mixZ c 3 % max 1 (R.length:Int)=pl at b1 b2
    have smr:∀ r∈R,SmR r:=fun r hr=>(h.2 r hr).smr
    have sc:∀ lo hi,∀ r∈cutL R lo hi,SmR r:=fun lo hi r hr=>smr r (zs6 hr)
    have lc:∀ lo hi,(cutL R lo hi).length≤3:=fun lo hi=>Nat.le_trans (zs8 _ _ _) hR1
    by_cases c0:R=[]
    · have e0:∀ ρ:Rho,dVar 0 ρ=some (rsD R)→dT (dEq false ‹31› ‹37›) ρ=some true:=fun ρ q=>ev_t ((ev_eqF (ev_f1 q (lenRs R)) rfl).trans (by rw [c0]; rfl))
      exact wp_seq (wp_ifT (by rw [ev_or (x:=decide (3<ch)) (y:=true) (ev_t (ev_gt rfl rfl)) fun _=>e0 _ rfl,Bool.or_true]) (wp_ret rfl ⟨R,rfl,Nat.le_trans hR1 ‹3›,smr⟩))
    have hpos:0<R.length:=List.length_pos_iff.mpr c0
    have e0:∀ ρ:Rho,dVar 0 ρ=some (rsD R)→dT (dEq false ‹31› ‹37›) ρ=some false:=fun ρ q=>ev_t ((ev_eqF (ev_f1 q (lenRs R)) rfl).trans ‹105›)
    refine wp_seq (zde (p:=3<ch) (by rw [ev_or (x:=decide (3<ch)) (y:=false) (ev_t (ev_gt rfl rfl)) fun _=>e0 _ rfl,Bool.or_false]) (fun _=>wp_ret rfl ⟨R,rfl,Nat.le_trans hR1 ‹3›,smr⟩) fun _=>zat ?_)
    obtain ⟨p,rfl⟩:∃ p:Nat,pl=(p:Int):=⟨pl.toNat,by omega⟩
    have hp:p<R.length:=by omega
    obtain ⟨r,hr⟩:∃ r,R[p]?=some r:=⟨_,List.getElem?_eq_getElem hp⟩
    have hrm:=List.mem_of_getElem? hr
    have hS:=h.2 r hrm
    have hS1:=hS.1
    have l1:=lc none (some (p:Int))
    have l2:=lc (some ((p:Int)+1)) none
    have l3:=lc (some (p:Int)) none
    refine wp_seq ‹15›
    · exact wp_ret (cat_rs (sl_g rfl rfl (ev_oSome rfl)) (sl_g rfl (ev_oSome (zgt rfl rfl)) rfl) (by omega)) ⟨_,rfl,smrs_app (by omega) (sc _ _) (sc _ _)⟩
    refine wp_seq ‹15›
    · refine wp_ret (cat_rs (A:=cutL R none (some (p:Int))++[r]) (cat_rs (B:=[r]) (sl_g rfl rfl (ev_oSome rfl)) (ev_lst (ev_cons (ev_lst (ev_lof (ev_ix rfl rfl (row_at hr)) rfl)) rfl)) ‹55›) (sl_g rfl (ev_oSome rfl) rfl) ‹55›) ⟨_,rfl,smrs_app ‹55› (fun q hq=>?_) (sc _ _)⟩
      rcases List.mem_append.mp hq with z | z
      · exact sc _ _ q z
      · rw [List.mem_singleton.mp z]; exact hS.smr
    refine wp_seq (zkh (ds:=r.map D.int) (ev_lof (ev_ix rfl rfl (row_at hr)) rfl) (by simp) ?_)
    walk_at "st"
    have er:∀ ρ:Rho,dVar 4 ρ=some (lsD r)→dT (dEq false (dF1 lenD (dVar 4)) ‹37›) ρ=some (decide (r.length=0)):=fun ρ q=>ev_t ((ev_eqF (ev_f1 q (lenLs r)) rfl).trans (by congr 2; exact decide_eq_decide.mpr (by omega)))
    refine wp_seq (zde (p:=ch=2∨r.length=0) (by rw [ev_or (x:=decide (ch=2)) (y:=decide (r.length=0)) (ev_t (ev_eqF rfl rfl)) fun _=>er _ rfl,Bool.decide_or]) (fun _=>?_) fun hne=>zat ?_)
    · refine wp_frz (wp_ret (cat_rs (A:=R) (B:=[r++[1]]) rfl (ev_lst (ev_cons (d:=lsD (r++[1])) (ev_lst ?_) rfl)) ‹55›) ⟨_,rfl,smrs_app ‹55› smr fun q hq=>?_⟩)
      · refine (ev_cat (xs:=r.map D.int) (ys:=[.int 1]) rfl rfl (by rw [List.length_map]; simp; omega)).trans ?_
        rw [List.map_append]
        rfl
      · rw [List.mem_singleton.mp hq]
        refine zww ‹55› fun n hn=>?_
        rcases List.mem_append.mp hn with z | z
        · exact hS.2 n z
        · rw [List.mem_singleton.mp z]; decide
    · have m0:=Int.emod_nonneg (mixZ c 4) (show (4:Int)≠0 by decide)
      have m1:=Int.emod_lt_of_pos (mixZ c 4) (show (0:Int)<4 by decide)
      have q0:=Int.emod_nonneg (c / 6) (show (10 ^ 50:Int)≠0 by decide)
      have q1:=Int.emod_lt_of_pos (c / 6) (show (0:Int)<10 ^ 50 by decide)
      obtain ⟨n,en,hn⟩:∃ n:Int,ixD (.lst [.int (-1),.int 0,.int 21,.int (c / 6 % 10 ^ 50)]) (mixZ c 4 % 4)=some (.int n)∧(-100≤n∧n<10 ^ 50):=by
        have:mixZ c 4 % 4=0∨mixZ c 4 % 4=1∨mixZ c 4 % 4=2∨mixZ c 4 % 4=3:=by omega
        rcases this with q | q | q | q <;> rw [q]
        · exact ⟨_,rfl,by decide,by decide⟩
        · exact ⟨_,rfl,by decide,by decide⟩
        · exact ⟨_,rfl,by decide,by decide⟩
        · exact ⟨_,rfl,by omega,q1⟩
      refine wp_seq (zba (ev_ix (ev_lst (ev_cons (zjz rfl) (ev_cons rfl (ev_cons rfl (ev_cons (ev_mod (zm2 rfl rfl (fdok (by omega) (by omega))) p50 ‹3›) rfl))))) (ev_mod (ev_call ‹4› (mix c 4 (by omega) ‹3› ‹3›)) rfl ‹3›) en) ?_)
      walk_at "st"
      have hr0:0<r.length:=by omega
      have k0:=Int.emod_nonneg (mixZ c 5) (show (r.length:Int)≠0 by omega)
      have k1:=Int.emod_lt_of_pos (mixZ c 5) (show 0<(r.length:Int) by omega)
      refine wp_seq (wp_put (j:=(mixZ c 5 % (r.length:Int)).toNat) rfl rfl (ev_mod (ev_call ‹4› (mix c 5 (by omega) ‹3› ‹3›)) (ev_f1 rfl (lenLs r)) (by omega)) (zrm k0 (by rw [List.length_map]; exact k1)) ?_)
      walk_at "st"
      generalize (mixZ c 5 % (r.length:Int)).toNat=j
      rw [show (r.map D.int).set j (.int n)=(r.set j n).map D.int by rw [List.map_set]]
      have hS2:SmR (r.set j n):=by
        refine zww (by rw [List.length_set]; omega) fun m hm=>?_
        rcases List.mem_or_eq_of_mem_set hm with z | z
        · exact hS.2 m z
        · rw [z]; exact hn
      refine wp_frz (wp_ret (cat_rs (A:=cutL R none (some (p:Int))++[r.set j n]) (cat_rs (B:=[r.set j n]) (sl_g rfl rfl (ev_oSome rfl)) (ev_lst ‹5›) ‹55›) (sl_g rfl (ev_oSome (zgt rfl rfl)) rfl) ‹55›) ⟨_,rfl,smrs_app ‹55› (fun q hq=>?_) (sc _ _)⟩)
      rcases List.mem_append.mp hq with z | z
      · exact sc _ _ q z
      · rw [List.mem_singleton.mp z]; exact hS2)
  exact ⟨Q,e,hQ⟩
theorem z59 (n:Nat) (R Q:List (List Int)):cmpb (n+2) (rsD R) (rsD Q)=true:=by
  refine zy7 fun x hx y hy=>?_
  obtain ⟨p,_,rfl⟩:=List.mem_map.mp hx
  obtain ⟨q,_,rfl⟩:=List.mem_map.mp hy
  refine zy7 fun x hx y hy=>?_
  obtain ⟨p,_,rfl⟩:=List.mem_map.mp hx
  obtain ⟨q,_,rfl⟩:=List.mem_map.mp hy
  cases n <;> rfl
theorem z3z {R:List (List Int)} {ρ:Rho} (h:zbw 4 ρ=some (rsD R)):dLst ‹62› ρ=some (rsD R):=ev_lst (ev_compA0 lsD (xs:=R) (ev_asL h rfl) lsD fun r hr=>⟨_,rfl,ev_lst (ev_lof rfl rfl)⟩)
theorem rest_ok {ns:List Int} {c ch:Int} {x X:Str} {R:List (List Int)} {s:Bool} {v2 v8 v9:Sl} {W:Wk} (hx:Gn 14 x) (hR:SmRs R) (h1:s=true∨isW x=false→zap [.str X]=some .non) (h2:s=false→FT X x (zc8 R)) (hW:∀ a b,W.nx [.bo (.scr ns),.pu (.int c),v2,.pu (.str x),.pu (rsD R),.pu (.int ch),.pu (.str X),.pu (.bl s),a,b]) :
    Wp (sSeq (sSet 8 ‹37›)
 (sSeq (sIf (dOr (dTru (dVar 7)) (dNot (dTru (za4 F_l_small (zai (dVar 3) dNil)))))
 (sSet 8 ‹28›)
 (sIf (dT (dInX true (dVar 3) (za4 F_l_words dNil)))
 (sSet 8 ‹92›)
 (sSet 8 (dMul ‹91› (dF1 intD (zpn (zig MF (za4 F_kind_of (zai (dVar 3) dNil)) (zai (dLst ‹62›) dNil))))))))
 (sIf (dT (dGt (dVar 8) ‹37›))
 (sIf (dT (dEq true (za4 F_l_refused (zai (dVar 6) dNil)) (dLst (zai (dEq false (dVar 8) ‹28›) (zai (dEq false (dVar 8) ‹92›) (zai (dEq false (dVar 8) ‹91›) (zai (dC (.bl true)) dNil)))))))
 ‹60›
      zbq)
 (sSeq (sSet 9 (za4 F_read_floor (zai (dVar 6) dNil)))
 (sIf (dOr (dNot (dTru (dIsi "tuple" (dVar 9)))) (dOr (dT (dEq true (dF1 lenD (dVar 9)) ‹92›)) (dOr (dT (dEq true (dIx (dVar 9) ‹37›) (dVar 3))) (dT (dEq true (dIx (dVar 9) ‹28›) (dVar 4))))))
 ‹60›
      zbq))))) [.bo (.scr ns),.pu (.int c),v2,.pu (.str x),.pu (rsD R),.pu (.int ch),.pu (.str X),.pu (.bl s),v8,v9] W:=by
  have hsm:F_l_small [.str x]=some (.bl (isW x)):=z3h (hx.good ‹3›)
  refine wp_seq (zba rfl ?_)
  walk_at "st"
  by_cases c1:s=true∨isW x=false
  · have hX:=ref1 (h1 c1)
    refine wp_seq (wp_ifT ((ev_or (x:=s) (y:=!isW x) (zb6 rfl rfl) fun _=>ev_not (zb6 (ev_call ‹5› hsm) rfl)).trans ?_) (zba rfl ?_))
    · rcases c1 with q | q
      · rw [q]; rfl
      · rw [q]; simp
    walk_at "st"
    refine wp_ifT (ev_t ((ev_gt (i:=1) (j:=0) rfl rfl).trans rfl)) ?_
    exact zcd (ev_t (zhl (d:=blsL true false false true) (ev_call ‹5› hX) (ev_lst (ev_cons ((ev_eqF (i:=1) (j:=1) rfl rfl).trans rfl) (ev_cons ((ev_eqF (i:=1) (j:=2) rfl rfl).trans rfl) (ev_cons ((ev_eqF (i:=1) (j:=3) rfl rfl).trans rfl) ‹5›)))) rfl)) (zat (hW _ _))
  · have hs:s=false:=by cases s with
      | true=>exact absurd (.inl rfl) c1
      | false=>rfl
    have hw:isW x=true:=by cases e:isW x with
      | true=>rfl
      | false=>exact absurd (.inr e) c1
    have ft:=h2 hs
    have sd:=zw7 hR
    have tn:=z6h ft hw sd
    rw [hw] at hsm
    refine wp_seq (zcd (ev_or (x:=false) (y:=false) ((zb6 (d:=.bl s) rfl rfl).trans (by rw [hs])) fun _=>ev_not (x:=true) (zb6 (ev_call ‹5› hsm) rfl)) ?_)
    by_cases c2:x∈WS
    · obtain ⟨k,C,ek,k1,k2⟩:=kind_of c2
      refine zcd (ev_t ((z1y (xs:=WS) rfl (ev_call rfl z2e)).trans ?_)) ?_
      · rw [if_pos rfl,decide_eq_true c2]; rfl
      have ef:=zsy hR k1 (a:=za4 F_kind_of (zai (dVar 3) dNil)) (es:=zai (dLst ‹62›) dNil) (ρ:=[.bo (.scr ns),.pu (.int c),v2,.pu (.str x),.pu (rsD R),.pu (.int ch),.pu (.str X),.pu (.bl s),.pu (.int 0),v9]) (ev_call ‹5› ek) (ev_cons (z3z rfl) rfl)
      cases hf:z0m k R with
      | false =>
        rw [hf] at ef
        have hX:=ref3 tn (z3c ft hw hR sd k2 hf)
        refine zba (d:=.int 3) ((zir rfl (ev_f1 (zm1 ef) rfl) (imul ‹3›)).trans rfl) ?_
        walk_at "st"
        refine wp_ifT (ev_t ((ev_gt (i:=3) (j:=0) rfl rfl).trans rfl)) ?_
        exact zcd (ev_t (zhl (d:=blsL false false true true) (ev_call ‹5› hX) (ev_lst (ev_cons ((ev_eqF (i:=3) (j:=1) rfl rfl).trans rfl) (ev_cons ((ev_eqF (i:=3) (j:=2) rfl rfl).trans rfl) (ev_cons ((ev_eqF (i:=3) (j:=3) rfl rfl).trans rfl) ‹5›)))) rfl)) (zat (hW _ _))
      | true =>
        rw [hf] at ef
        refine zba (d:=.int 0) ((zir rfl (ev_f1 (zm1 ef) rfl) (imul ‹3›)).trans rfl) ?_
        walk_at "st"
        refine zcd (ev_t ((ev_gt (i:=0) (j:=0) rfl rfl).trans rfl)) ?_
        refine wp_seq (zba (ev_call ‹5› (z3n ft hw hR sd k2 hf)) ?_)
        walk_at "st"
        exact zcd (ev_or (x:=false) (y:=false) (ev_not (x:=true) (zb6 (d:=.bl true) rfl rfl)) fun _=>ev_or (x:=false) (y:=false) (ev_t ((znz (i:=2) (j:=2) rfl rfl).trans rfl)) fun _=>ev_or (x:=false) (y:=false) (ev_t (zhl (ev_ix rfl rfl rfl) rfl rfl)) fun _=>ev_t (zhl (ev_ix rfl rfl rfl) rfl (z59 18 R R))) (zat (hW _ _))
    · have hX:=ref2 tn (floorN ft hw sd c2) (noKind ft hw sd c2 (hx.mono ‹3›))
      refine wp_ifT (ev_t ((z1y (xs:=WS) rfl (ev_call rfl z2e)).trans ?_)) (zba rfl ?_)
      · rw [if_pos rfl,decide_eq_false c2]; rfl
      walk_at "st"
      refine wp_ifT (ev_t ((ev_gt (i:=2) (j:=0) rfl rfl).trans rfl)) ?_
      exact zcd (ev_t (zhl (d:=blsL false true false true) (ev_call ‹5› hX) (ev_lst (ev_cons ((ev_eqF (i:=2) (j:=1) rfl rfl).trans rfl) (ev_cons ((ev_eqF (i:=2) (j:=2) rfl rfl).trans rfl) (ev_cons ((ev_eqF (i:=2) (j:=3) rfl rfl).trans rfl) ‹5›)))) rfl)) (zat (hW _ _))
theorem z1t {x q r:Str} (h:FT x q r) (hs:said r=none):zap [.str x]=some .non:=by
  cases e:isW q with
  | true=>exact z5f h e hs
  | false=>exact zt7 h.gx h.gq h.p.1 e
noncomputable abbrev z6q:DE:=zru (dIx (dLst (zai (dC (.str " ")) (zai (dC (.str " ")) (zai (dC (.str "")) (zai (dC (.str "  ")) dNil))))) (zvp ‹91› (dVar 5))) (dF1 intD (dLt (dVar 5) (dC (.int 4))))
noncomputable abbrev dSep2:DE:=zru (dC (.str " ")) (dF1 intD (dGt (dVar 5) ‹91›))
def sepC (ch:Int):List Nat:=if ch=2 then [] else if ch=3 then [32,32] else [32]
theorem z4r {ch:Int} (h0:0≤ch) {ρ:Rho} (h:dVar 5 ρ=some (.int ch)):∃ A B:Str,z6q ρ=some (.str A)∧dSep2 ρ=some (.str B)∧cs A++cs B=sepC ch:=by
  by_cases c:ch<4
  · have:ch=0∨ch=1∨ch=2∨ch=3:=by omega
    have e2:dSep2 ρ=some (.str Str.empty):=(ev_mulT (n:=0) rfl (ev_f1 (d:=.bl false) ((ev_gt (j:=3) h rfl).trans ‹105›) rfl) (.inl rfl)).trans rfl
    have e3:dF1 intD (dLt (dVar 5) (dC (.int 4))) ρ=some (.int 1):=ev_f1 (d:=.bl true) ((ev_lt (j:=4) h rfl).trans (by rw [decide_eq_true (by omega)])) rfl
    rcases this with rfl | rfl | rfl | rfl
    · exact ⟨_,_,(ev_mulT (x := " ") (ev_ix (ev_lst (ev_cons rfl (ev_cons rfl ‹4›))) (zi8 rfl h) rfl) e3 (.inr rfl)).trans rfl,e2,rfl⟩
    · exact ⟨_,_,(ev_mulT (x := " ") (ev_ix (ev_lst (ev_cons rfl (ev_cons rfl ‹4›))) (zi8 rfl h) rfl) e3 (.inr rfl)).trans rfl,e2,rfl⟩
    · exact ⟨_,_,(ev_mulT (x := "") (ev_ix (ev_lst (ev_cons rfl (ev_cons rfl ‹4›))) (zi8 rfl h) rfl) e3 (.inr rfl)).trans rfl,e2,rfl⟩
    · exact ⟨_,_,(ev_mulT (x := "  ") (ev_ix (ev_lst (ev_cons rfl (ev_cons rfl ‹4›))) (zi8 rfl h) rfl) e3 (.inr rfl)).trans rfl,e2,rfl⟩
  · have e2:dSep2 ρ=some (.str " "):=(ev_mulT (n:=1) rfl (ev_f1 (d:=.bl true) ((ev_gt (j:=3) h rfl).trans (by rw [decide_eq_true (by omega)])) rfl) (.inr rfl)).trans rfl
    have e3:dF1 intD (dLt (dVar 5) (dC (.int 4))) ρ=some (.int 0):=ev_f1 (d:=.bl false) ((ev_lt (j:=4) h rfl).trans ‹105›) rfl
    have em:zvp ‹91› (dVar 5) ρ=some (.int 3):=(zi8 rfl h).trans (by rw [show min 3 ch=3 by omega])
    refine ⟨Str.empty, " ", (ev_mulT (x := "  ") (ev_ix (ev_lst (ev_cons rfl (ev_cons rfl ‹4›))) em rfl) e3 (.inl rfl)).trans rfl,e2,?_⟩
    unfold sepC
    rw [if_neg (by omega),if_neg (by omega)]
    rfl
theorem z21 (ch:Int):(sepC ch).length≤2∧∀ c∈sepC ch,c=32:=by
  unfold sepC
  split
  · exact ⟨by decide,by decide⟩
  · split <;> exact ⟨by decide,by decide⟩
theorem z20 {i:Int} (h0:0≤i) (h1:i<6):∃ s,ixD (.lst [.str " ", .str " /", .str "x", .str " +1", .str " -0", .str "."]) i=some (.str s)∧s.length≤3∧(∀ c∈cs s,c<128)∧∀ R,said (zc8 R++s)=none:=by
  have more:∀ {s w:Str} (R:List (List Int)),cs s=32::cs w→32∉cs w→(w=SL∨(w≠SL∧w≠DT∧isN w=false))→said (zc8 R++s)=none:=fun {s w} R e h1 h2=>by
    have:zc8 R++s=zc8 R ++ " " ++ w:=by
      apply zj5
      rw [zdg,zdg,zdg,e,List.append_assoc]
      rfl
    rw [this]
    exact zw8 h1 h2
  have:i=0∨i=1∨i=2∨i=3∨i=4∨i=5:=by omega
  rcases this with rfl | rfl | rfl | rfl | rfl | rfl
  · exact ⟨_,rfl,by decide,by decide,fun R=>more (w:=Str.empty) R rfl ‹3› (.inr ⟨fun z=>absurd (congrArg cs z) ‹10›,fun z=>absurd (congrArg cs z) ‹10›,by decide +kernel⟩)⟩
  · exact ⟨_,rfl,by decide,by decide,fun R=>more (w:=SL) R rfl ‹3› (.inl rfl)⟩
  · exact ⟨_,rfl,by decide,by decide,fun R=>zqq (c:=120) rfl (.inl rfl)⟩
  · exact ⟨_,rfl,by decide,by decide,fun R=>more (w := "+1") R rfl ‹3› (.inr ⟨fun z=>absurd (congrArg cs z) ‹10›,fun z=>absurd (congrArg cs z) ‹10›,by decide +kernel⟩)⟩
  · exact ⟨_,rfl,by decide,by decide,fun R=>more (w := "-0") R rfl ‹3› (.inr ⟨fun z=>absurd (congrArg cs z) ‹10›,fun z=>absurd (congrArg cs z) ‹10›,by decide +kernel⟩)⟩
  · exact ⟨_,rfl,by decide,by decide,fun R=>zqq (c:=46) rfl (.inr rfl)⟩
theorem zz7 {X x:Str} {R:List (List Int)} (gX:Good X) (hx:32∉cs x) (e:cs X=cs x++cs (zc8 R)):zap [.str X]=some .non:=by
  obtain ⟨h,t,ew⟩:∃ h t,wsOf R=h::t:=by
    cases q:wsOf R with
    | nil=>exact absurd q (zr5 R)
    | cons a l=>exact ⟨a,l,rfl⟩
  have hm:h∈wsOf R:=by rw [ew]; exact List.mem_cons_self
  obtain ⟨c,l,ec,c1,c2⟩:=zr6 hm
  have bad:∀ q:Str,cs q=cs x++cs h→isW q=false:=fun q eq=>by
    rw [Bool.eq_false_iff]
    intro z
    have:=(of_decide_eq_true z).2.2 c (by rw [eq,ec]; simp)
    omega
  have gq:∀ q:Str,(∀ k∈cs q,k∈cs X)→q.length≤X.length→Good q:=fun q a b=>⟨fun k hk=>gX.1 k (a k hk),Nat.le_trans b gX.2⟩
  unfold zc8 at e
  rw [ew] at e
  cases t with
  | nil =>
    have e:cs X=cs x++cs h:=e
    have hn:32∉cs X:=fun z=>by
      rw [e] at z
      exact (List.mem_append.mp z).elim hx (zg9 hm)
    exact zt7 gX gX (zxv (c:=32) rfl hn) (bad X e)
  | cons a t =>
    have e:cs X=(cs x++cs h)++32::cs (Str.join " " (a::t)):=by
      rw [e]
      show _++cs (h ++ " " ++ Str.join " " (a::t))=_
      rw [zdg,zdg,List.append_assoc,List.append_assoc]
      rfl
    have hn:32∉cs x++cs h:=fun z=>(List.mem_append.mp z).elim hx (zg9 hm)
    obtain ⟨p1,_⟩:=zq5 (c:=32) (y := " ") rfl e hn
    have hq:Good (Txt.partition X " ").1:=gq _ (fun k hk=>by rw [p1] at hk; rw [e]; exact List.mem_append_left _ hk) (by
      have h1:=congrArg List.length p1
      have h2:=congrArg List.length e
      rw [List.length_append] at h2
      rw [cs_len] at h1 h2
      omega)
    exact zt7 gX hq rfl (bad _ p1)
theorem z0b (ns:List Int) (hl:ns.length≤63) (hb:∀ m∈ns,Builtin.Int.intBits m≤1048576):F_law [.scr ns]=some (.bl true):=by
  have hline:sizeLine=16777216:=sizeLine_eq
  refine zbm zr4 ?_
  rw [z4f]
  unfold z0z
  obtain ⟨ks,ek,hk,hkl⟩:∃ ks:List Int,cutL (ns.map D.int) none (some 63)=ks.map D.int∧(∀ m∈ks,m∈ns)∧ks.length≤ns.length:=by
    unfold cutL
    rw [← List.map_drop,← List.map_take]
    refine ⟨_,rfl,fun m hm=>List.mem_of_mem_drop (List.mem_of_mem_take hm),?_⟩
    rw [List.length_take,List.length_drop]
    omega
  have hf:zg8 (ks.map D.int)=true:=by
    unfold zg8
    rw [List.all_eq_true]
    intro d hd
    obtain ⟨m,_,rfl⟩:=List.mem_map.mp hd
    rfl
  refine wp_seq (wp_for (ds:=(30::ks).map D.int) (ev_asL (ev_lst (ev_cat (xs:=[.int 30]) (ys:=ks.map D.int) rfl (ev_lst (z3w (by rw [← ek]; exact zsz (ev_asL rfl rfl) rfl rfl) hf)) (by rw [List.length_map]; simp; omega))) rfl) (fun _ ρ=>∃ v1 v2 v3 v4 v5 v6 v7 v8 v9:Sl,ρ=[.bo (.scr ns),v1,v2,v3,v4,v5,v6,v7,v8,v9]) ⟨_,_,_,_,_,_,_,_,_,rfl⟩ ?_ ?_)
  · rintro j d ρ hd ⟨v1,v2,v3,v4,v5,v6,v7,v8,v9,rfl⟩
    rw [List.getElem?_map] at hd
    obtain ⟨c,hc,rfl⟩:=Option.map_eq_some_iff.mp hd
    refine ⟨_,rfl,?_⟩
    dsimp only [gN,slm,List.set_cons_succ,List.set_cons_zero]
    have hcb:Builtin.Int.intBits c≤1048576:=by
      rcases List.mem_cons.mp (List.mem_of_getElem? hc) with rfl | h
      · decide
      · exact hb c (hk c h)
    have a0:=Int.emod_nonneg c (show (6:Int)≠0 by decide)
    have a1:=Int.emod_lt_of_pos c (show (0:Int)<6 by decide)
    obtain ⟨x,ex,hx⟩:=z5k a0 a1 hcb
    obtain ⟨R0,eR0,hR0⟩:=z5l a0 a1 hcb
    obtain ⟨R,eR,hR⟩:=z5m hR0 hcb
    refine wp_seq (zba (ev_mod rfl rfl ‹3›) ?_)
    walk_at "st"
    refine wp_seq (zba (ev_call ‹4› ex) ?_)
    walk_at "st"
    refine wp_seq (zba (ev_call (ev_cons (ev_call ‹4› eR0) ‹5›) eR) ?_)
    walk_at "st"
    refine wp_seq (zba (ev_mod (ev_call ‹4› (mix c 8 (by omega) ‹3› ‹3›)) rfl ‹3›) ?_)
    walk_at "st"
    have b0:=Int.emod_nonneg (mixZ c 8) (show (16:Int)≠0 by decide)
    generalize mixZ c 8 % 16=ch at b0
    obtain ⟨A,B,eA,eB,eAB⟩:=z4r b0 (ρ:=[.bo (.scr ns),.pu (.int c),.pu (.int (c % 6)),.pu (.str x),.pu (rsD R),.pu (.int ch),v6,v7,v8,v9]) rfl
    obtain ⟨sl1,sl2⟩:=z21 ch
    have hxl:=hx.2
    have hRl:=zxd hR
    have hABl:A.length+B.length≤2:=by
      have:=congrArg List.length eAB
      rw [List.length_append,cs_len,cs_len] at this
      omega
    have ls:=z3i hR
    refine wp_seq (zba (zlh (zlh (zlh rfl eA (if_pos (by omega))) eB (if_pos (by rw [Str.length_append]; omega))) (ev_call ‹5› ls) (if_pos (by rw [Str.length_append,Str.length_append]; omega))) ?_)
    walk_at "st"
    have eX:cs (x++A++B++zc8 R)=cs x++(sepC ch++cs (zc8 R)):=by
      rw [zdg,zdg,zdg,← eAB]
      simp only [List.append_assoc]
    have lX:(x++A++B++zc8 R).length≤2520:=by rw [Str.length_append,Str.length_append,Str.length_append]; omega
    have gX:Good (x++A++B++zc8 R):=by
      refine ⟨fun k hk=>?_,by omega⟩
      rw [eX] at hk
      rcases List.mem_append.mp hk with q | q
      · exact (hx.1 k q).2
      · rcases List.mem_append.mp q with q | q
        · rw [sl2 k q]; decide
        · have:=rowsT_ok R k q
          omega
    generalize x++A++B++zc8 R=X at eX lX gX
    refine wp_seq (zba (d:=.bl (decide (ch∈[2,3]))) rfl ?_)
    walk_at "st"
    refine wp_seq (zde (ev_t (ev_eqF rfl rfl)) (fun c4=>?_) fun c4=>zat ?_)
    · subst c4
      have m0:=Int.emod_nonneg (mixZ c 9) (show (6:Int)≠0 by decide)
      have m1:=Int.emod_lt_of_pos (mixZ c 9) (show (0:Int)<6 by decide)
      obtain ⟨s,es,s1,s2,s3⟩:=z20 m0 m1
      refine wp_seq (zba (zlh rfl (ev_ix (ev_lst (ev_cons rfl (ev_cons rfl (ev_cons rfl (ev_cons rfl ‹4›))))) (ev_mod (ev_call ‹4› (mix c 9 (by omega) ‹3› ‹3›)) rfl ‹3›) es) (if_pos (by omega))) ?_)
      walk_at "st"
      refine zba rfl ?_
      walk_at "st"
      have ft:FT (X++s) x (zc8 R++s):=⟨⟨fun k hk=>by
          rw [zdg] at hk
          exact (List.mem_append.mp hk).elim (gX.1 k) (s2 k),by rw [Str.length_append]; omega⟩,by
          rw [zdg,eX,zdg]
          show (cs x++([32]++cs (zc8 R)))++cs s=_
          simp,hx.free⟩
      exact rest_ok hx hR (fun _=>z1t ft (s3 R)) (fun z=>by cases z) fun a b=>⟨_,_,_,_,_,_,_,_,_,rfl⟩
    · refine rest_ok hx hR ?_ ?_ fun a b=>⟨_,_,_,_,_,_,_,_,_,rfl⟩
      · by_cases c2:ch=2
        · subst c2
          exact fun _=>zz7 gX hx.free eX
        · by_cases c3:ch=3
          · subst c3
            have ft:FT X x ((" " : Str)++zc8 R):=⟨gX,by rw [eX,zdg]; rfl,hx.free⟩
            exact fun _=>z1t ft (zu2 R)
          · have es:sepC ch=[32]:=by unfold sepC; rw [if_neg c2,if_neg c3]
            rw [es] at eX
            have ft:FT X x (zc8 R):=⟨gX,eX,hx.free⟩
            have hd:decide (ch∈[2,3])=false:=decide_eq_false ‹55›
            rintro (q | q)
            · rw [hd] at q; cases q
            · exact zt7 ft.gx ft.gq ft.p.1 q
      · intro q
        have hd:=of_decide_eq_false q
        have c2:ch≠2:=fun z=>hd (by simp [z])
        have c3:ch≠3:=fun z=>hd (by simp [z])
        have es:sepC ch=[32]:=by unfold sepC; rw [if_neg c2,if_neg c3]
        rw [es] at eX
        exact ⟨gX,eX,hx.free⟩
  · rintro ρ ⟨v1,v2,v3,v4,v5,v6,v7,v8,v9,rfl⟩
    exact wp_ret rfl rfl
abbrev LkF (K:PySem.W.Frag) (f:Addr) (oc:Value) (od:Option Addr) (n q:Str) (s:Stmt) (kV dc pm:Value) (an:Option Addr) (cd ct:Value) (sl:Array (Option Value)):Prop:=K.lookup f=some ⟨oc,od,.func (PySem.W.fnOf n q (zm4 s) (zfp s) (zao s) .none kV dc pm an cd ct),sl⟩
set_option autoImplicit true in
set_option relaxedAutoImplicit true in
open PySem.W in
theorem all_mk {K:Frag} {h:Heap} {mg:Str→Option Value} {fa:Addr} (X:K.In h) (G:h.Ns mainGlobals mg) (hfa:mg "law" = some (.ref fa))

    (a0:nsIn K mainGlobals "tells_one" = some (some (.ref f0))) (l0:LkF K f0 oc0 od0 "tells_one" "tells_one" zf1 kV0 dc0 pm0 an0 cd0 ct0 sl0) (c0:codeIn K cd0 "tells_one" = true) (k0:keepIn K (.ref f0)=true)
    (a1:nsIn K mainGlobals "none_below" = some (some (.ref f1))) (l1:LkF K f1 oc1 od1 "none_below" "none_below" zez kV1 dc1 pm1 an1 cd1 ct1 sl1) (c1:codeIn K cd1 "none_below" = true) (k1:keepIn K (.ref f1)=true)
    (a2:nsIn K mainGlobals "ahead_of" = some (some (.ref f2))) (l2:LkF K f2 oc2 od2 "ahead_of" "ahead_of" zh2 kV2 dc2 pm2 an2 cd2 ct2 sl2) (c2:codeIn K cd2 "ahead_of" = true) (k2:keepIn K (.ref f2)=true)
    (a3:nsIn K mainGlobals "told_order" = some (some (.ref f3))) (l3:LkF K f3 oc3 od3 "told_order" "told_order" zex kV3 dc3 pm3 an3 cd3 ct3 sl3) (c3:codeIn K cd3 "told_order" = true) (k3:keepIn K (.ref f3)=true)
    (a4:nsIn K mainGlobals "either" = some (some (.ref f4))) (l4:LkF K f4 oc4 od4 "either" "either" zls kV4 dc4 pm4 an4 cd4 ct4 sl4) (c4:codeIn K cd4 "either" = true) (k4:keepIn K (.ref f4)=true)
    (a5:nsIn K mainGlobals "levels" = some (some (.ref f5))) (l5:LkF K f5 oc5 od5 "levels" "levels" zlo kV5 dc5 pm5 an5 cd5 ct5 sl5) (c5:codeIn K cd5 "levels" = true) (k5:keepIn K (.ref f5)=true)
    (a6:nsIn K mainGlobals "level_of" = some (some (.ref f6))) (l6:LkF K f6 oc6 od6 "level_of" "level_of" zh1 kV6 dc6 pm6 an6 cd6 ct6 sl6) (c6:codeIn K cd6 "level_of" = true) (k6:keepIn K (.ref f6)=true)
    (a7:findIn K (.ref 656) "word" = some (some (.ref f7))) (l7:LkF K f7 oc7 od7 "word" "Alike.word" ze4 kV7 dc7 pm7 an7 cd7 ct7 sl7) (c7:codeIn K cd7 "Alike.word" = true) (k7:keepIn K (.ref f7)=true)
    (n7:isFn K (.ref f7)=true)
    (a8:findIn K (.ref 656) "fits" = some (some (.ref f8))) (l8:LkF K f8 oc8 od8 "fits" "Alike.fits" ze5 kV8 dc8 pm8 an8 cd8 ct8 sl8) (c8:codeIn K cd8 "Alike.fits" = true) (k8:keepIn K (.ref f8)=true)
    (n8:isFn K (.ref f8)=true)
    (a9:findIn K (.ref 715) "word" = some (some (.ref f9))) (l9:LkF K f9 oc9 od9 "word" "Open.word" zf7 kV9 dc9 pm9 an9 cd9 ct9 sl9) (c9:codeIn K cd9 "Open.word" = true) (k9:keepIn K (.ref f9)=true)
    (n9:isFn K (.ref f9)=true)
    (a10:findIn K (.ref 715) "fits" = some (some (.ref f10))) (l10:LkF K f10 oc10 od10 "fits" "Open.fits" zf8 kV10 dc10 pm10 an10 cd10 ct10 sl10) (c10:codeIn K cd10 "Open.fits" = true) (k10:keepIn K (.ref f10)=true)
    (n10:isFn K (.ref f10)=true)
    (a11:findIn K (.ref 774) "word" = some (some (.ref f11))) (l11:LkF K f11 oc11 od11 "word" "Tails.word" ze0 kV11 dc11 pm11 an11 cd11 ct11 sl11) (c11:codeIn K cd11 "Tails.word" = true) (k11:keepIn K (.ref f11)=true)
    (n11:isFn K (.ref f11)=true)
    (a12:findIn K (.ref 774) "fits" = some (some (.ref f12))) (l12:LkF K f12 oc12 od12 "fits" "Tails.fits" ze1 kV12 dc12 pm12 an12 cd12 ct12 sl12) (c12:codeIn K cd12 "Tails.fits" = true) (k12:keepIn K (.ref f12)=true)
    (n12:isFn K (.ref f12)=true)
    (a13:findIn K (.ref 831) "word" = some (some (.ref f13))) (l13:LkF K f13 oc13 od13 "word" "Windows.word" zd1 kV13 dc13 pm13 an13 cd13 ct13 sl13) (c13:codeIn K cd13 "Windows.word" = true) (k13:keepIn K (.ref f13)=true)
    (n13:isFn K (.ref f13)=true)
    (a14:findIn K (.ref 831) "fits" = some (some (.ref f14))) (l14:LkF K f14 oc14 od14 "fits" "Windows.fits" zd2 kV14 dc14 pm14 an14 cd14 ct14 sl14) (c14:codeIn K cd14 "Windows.fits" = true) (k14:keepIn K (.ref f14)=true)
    (n14:isFn K (.ref f14)=true)
    (a15:findIn K (.ref 951) "word" = some (some (.ref f15))) (l15:LkF K f15 oc15 od15 "word" "Tree.word" zf5 kV15 dc15 pm15 an15 cd15 ct15 sl15) (c15:codeIn K cd15 "Tree.word" = true) (k15:keepIn K (.ref f15)=true)
    (n15:isFn K (.ref f15)=true)
    (a16:findIn K (.ref 951) "fits" = some (some (.ref f16))) (l16:LkF K f16 oc16 od16 "fits" "Tree.fits" zf6 kV16 dc16 pm16 an16 cd16 ct16 sl16) (c16:codeIn K cd16 "Tree.fits" = true) (k16:keepIn K (.ref f16)=true)
    (n16:isFn K (.ref f16)=true)
    (a17:findIn K (.ref 1015) "word" = some (some (.ref f17))) (l17:LkF K f17 oc17 od17 "word" "Pairs.word" ze2 kV17 dc17 pm17 an17 cd17 ct17 sl17) (c17:codeIn K cd17 "Pairs.word" = true) (k17:keepIn K (.ref f17)=true)
    (n17:isFn K (.ref f17)=true)
    (a18:findIn K (.ref 1015) "fits" = some (some (.ref f18))) (l18:LkF K f18 oc18 od18 "fits" "Pairs.fits" ze3 kV18 dc18 pm18 an18 cd18 ct18 sl18) (c18:codeIn K cd18 "Pairs.fits" = true) (k18:keepIn K (.ref f18)=true)
    (n18:isFn K (.ref f18)=true)
    (a19:nsIn K mainGlobals "kinds" = some (some (.ref f19))) (l19:LkF K f19 oc19 od19 "kinds" "kinds" zo1 kV19 dc19 pm19 an19 cd19 ct19 sl19) (c19:codeIn K cd19 "kinds" = true) (k19:keepIn K (.ref f19)=true)
    (a20:nsIn K mainGlobals "kind_of" = some (some (.ref f20))) (l20:LkF K f20 oc20 od20 "kind_of" "kind_of" zjl kV20 dc20 pm20 an20 cd20 ct20 sl20) (c20:codeIn K cd20 "kind_of" = true) (k20:keepIn K (.ref f20)=true)
    (a21:nsIn K mainGlobals "is_name" = some (some (.ref f21))) (l21:LkF K f21 oc21 od21 "is_name" "is_name" zjm kV21 dc21 pm21 an21 cd21 ct21 sl21) (c21:codeIn K cd21 "is_name" = true) (k21:keepIn K (.ref f21)=true)
    (a22:nsIn K mainGlobals "is_number" = some (some (.ref f22))) (l22:LkF K f22 oc22 od22 "is_number" "is_number" zf4 kV22 dc22 pm22 an22 cd22 ct22 sl22) (c22:codeIn K cd22 "is_number" = true) (k22:keepIn K (.ref f22)=true)
    (a23:nsIn K mainGlobals "read_number" = some (some (.ref f23))) (l23:LkF K f23 oc23 od23 "read_number" "read_number" zei kV23 dc23 pm23 an23 cd23 ct23 sl23) (c23:codeIn K cd23 "read_number" = true) (k23:keepIn K (.ref f23)=true)
    (a24:nsIn K mainGlobals "read_rows" = some (some (.ref f24))) (l24:LkF K f24 oc24 od24 "read_rows" "read_rows" zf2 kV24 dc24 pm24 an24 cd24 ct24 sl24) (c24:codeIn K cd24 "read_rows" = true) (k24:keepIn K (.ref f24)=true)
    (a25:nsIn K mainGlobals "read_row" = some (some (.ref f25))) (l25:LkF K f25 oc25 od25 "read_row" "read_row" zh0 kV25 dc25 pm25 an25 cd25 ct25 sl25) (c25:codeIn K cd25 "read_row" = true) (k25:keepIn K (.ref f25)=true)
    (a26:nsIn K mainGlobals "read_floor" = some (some (.ref f26))) (l26:LkF K f26 oc26 od26 "read_floor" "read_floor" zey kV26 dc26 pm26 an26 cd26 ct26 sl26) (c26:codeIn K cd26 "read_floor" = true) (k26:keepIn K (.ref f26)=true)
    (a27:nsIn K mainGlobals "_law_mix" = some (some (.ref f27))) (l27:LkF K f27 oc27 od27 "_law_mix" "_law_mix" zo0 kV27 dc27 pm27 an27 cd27 ct27 sl27) (c27:codeIn K cd27 "_law_mix" = true) (k27:keepIn K (.ref f27)=true)
    (a28:nsIn K mainGlobals "_law_words" = some (some (.ref f28))) (l28:LkF K f28 oc28 od28 "_law_words" "_law_words" zji kV28 dc28 pm28 an28 cd28 ct28 sl28) (c28:codeIn K cd28 "_law_words" = true) (k28:keepIn K (.ref f28)=true)
    (a29:nsIn K mainGlobals "_law_rows" = some (some (.ref f29))) (l29:LkF K f29 oc29 od29 "_law_rows" "_law_rows" zlq kV29 dc29 pm29 an29 cd29 ct29 sl29) (c29:codeIn K cd29 "_law_rows" = true) (k29:keepIn K (.ref f29)=true)
    (a30:nsIn K mainGlobals "_law_bent" = some (some (.ref f30))) (l30:LkF K f30 oc30 od30 "_law_bent" "_law_bent" zlr kV30 dc30 pm30 an30 cd30 ct30 sl30) (c30:codeIn K cd30 "_law_bent" = true) (k30:keepIn K (.ref f30)=true)
    (a31:nsIn K mainGlobals "_law_shown" = some (some (.ref f31))) (l31:LkF K f31 oc31 od31 "_law_shown" "_law_shown" zjk kV31 dc31 pm31 an31 cd31 ct31 sl31) (c31:codeIn K cd31 "_law_shown" = true) (k31:keepIn K (.ref f31)=true)
    (a32:nsIn K mainGlobals "_law_word" = some (some (.ref f32))) (l32:LkF K f32 oc32 od32 "_law_word" "_law_word" zlp kV32 dc32 pm32 an32 cd32 ct32 sl32) (c32:codeIn K cd32 "_law_word" = true) (k32:keepIn K (.ref f32)=true)
    (a33:nsIn K mainGlobals "_law_refused" = some (some (.ref f33))) (l33:LkF K f33 oc33 od33 "_law_refused" "_law_refused" zf3 kV33 dc33 pm33 an33 cd33 ct33 sl33) (c33:codeIn K cd33 "_law_refused" = true) (k33:keepIn K (.ref f33)=true)
    (a34:nsIn K mainGlobals "_law_small" = some (some (.ref f34))) (l34:LkF K f34 oc34 od34 "_law_small" "_law_small" zjj kV34 dc34 pm34 an34 cd34 ct34 sl34) (c34:codeIn K cd34 "_law_small" = true) (k34:keepIn K (.ref f34)=true)
    (a35:nsIn K mainGlobals "law" = some (some (.ref f35))) (l35:LkF K f35 oc35 od35 "law" "law" zzt kV35 dc35 pm35 an35 cd35 ct35 sl35) (c35:codeIn K cd35 "law" = true) (k35:keepIn K (.ref f35)=true)
    (z_ValueError:nsIn K mainGlobals "ValueError" = some none)
    (z_all:nsIn K mainGlobals "all" = some none)
    (z_any:nsIn K mainGlobals "any" = some none)
    (z_int:nsIn K mainGlobals "int" = some none)
    (z_isinstance:nsIn K mainGlobals "isinstance" = some none)
    (z_len:nsIn K mainGlobals "len" = some none)
    (z_list:nsIn K mainGlobals "list" = some none)
    (z_max:nsIn K mainGlobals "max" = some none)
    (z_min:nsIn K mainGlobals "min" = some none)
    (z_range:nsIn K mainGlobals "range" = some none)
    (z_str:nsIn K mainGlobals "str" = some none)
    (z_tuple:nsIn K mainGlobals "tuple" = some none)
    (z_zip:nsIn K mainGlobals "zip" = some none)
    (c_FIGURES:nsIn K mainGlobals "FIGURES" = some (some (.str "0123456789" t_FIGURES)))
    (c_LETTERS:nsIn K mainGlobals "LETTERS" = some (some (.str "abcdefghijklmnopqrstuvwxyz" t_LETTERS)))
    (c_MOST_FIGURES:nsIn K mainGlobals "MOST_FIGURES" = some (some (.int 60 t_MOST_FIGURES)))
    (c_MOST_LETTERS:nsIn K mainGlobals "MOST_LETTERS" = some (some (.int 8 t_MOST_LETTERS)))
    (c_NO_NUMBERS:nsIn K mainGlobals "NO_NUMBERS" = some (some (.str "." t_NO_NUMBERS)))
    (c_NO_ROWS:nsIn K mainGlobals "NO_ROWS" = some (some (.str "-" t_NO_ROWS)))
    (m_NoOrder:nsIn K mainGlobals "NoOrder" = some (some (.ref c_NoOrder)))
    (m_Alike:nsIn K mainGlobals "Alike" = some (some (.ref 656)))
    (m_Open:nsIn K mainGlobals "Open" = some (some (.ref 715)))
    (m_Tails:nsIn K mainGlobals "Tails" = some (some (.ref 774)))
    (m_Windows:nsIn K mainGlobals "Windows" = some (some (.ref 831)))
    (m_Tree:nsIn K mainGlobals "Tree" = some (some (.ref 951)))
    (m_Pairs:nsIn K mainGlobals "Pairs" = some (some (.ref 1015)))
    (m_NoKind:nsIn K mainGlobals "NoKind" = some (some ‹114›))
    (m_NoText:nsIn K mainGlobals "NoText" = some (some ‹113›))
    (m_NoFloor:nsIn K mainGlobals "NoFloor" = some (some ‹99›))
    (m_FloorError:nsIn K mainGlobals "FloorError" = some (some (.ref c_FloorError)))
    (m_NoRoom:nsIn K mainGlobals "NoRoom" = some (some (.ref c_NoRoom)))
    (m_NoRow:nsIn K mainGlobals "NoRow" = some (some (.ref c_NoRow)))
    (m_NoName:nsIn K mainGlobals "NoName" = some (some (.ref c_NoName)))
    (q_NoOrder:excIn K c_NoOrder [.type "ValueError", .type "Exception", .type "BaseException", .type "object"] "ValueError.__new__" = true)
    (x_NoOrder_NoOrder:exmOne K (.ref c_NoOrder) (.ref c_NoOrder)=some true)
    (mk_Alike_mk:makesIn K 656=true)
    (mk_Alike_in:findIn K (.ref 656) "__init__" = some (some (.builtin "object.__init__")))
    (mk_Alike_kp:keepIn K (.ref 656)=true)
    (mk_Open_mk:makesIn K 715=true)
    (mk_Open_in:findIn K (.ref 715) "__init__" = some (some (.builtin "object.__init__")))
    (mk_Open_kp:keepIn K (.ref 715)=true)
    (mk_Tails_mk:makesIn K 774=true)
    (mk_Tails_in:findIn K (.ref 774) "__init__" = some (some (.builtin "object.__init__")))
    (mk_Tails_kp:keepIn K (.ref 774)=true)
    (mk_Windows_mk:makesIn K 831=true)
    (mk_Windows_in:findIn K (.ref 831) "__init__" = some (some (.builtin "object.__init__")))
    (mk_Windows_kp:keepIn K (.ref 831)=true)
    (mk_Tree_mk:makesIn K 951=true)
    (mk_Tree_in:findIn K (.ref 951) "__init__" = some (some (.builtin "object.__init__")))
    (mk_Tree_kp:keepIn K (.ref 951)=true)
    (mk_Pairs_mk:makesIn K 1015=true)
    (mk_Pairs_in:findIn K (.ref 1015) "__init__" = some (some (.builtin "object.__init__")))
    (mk_Pairs_kp:keepIn K (.ref 1015)=true)
    (ki_Pairs_pg:plainGet K 1015 Str.empty=true)
    (ki_Pairs_hd:hasDictIn K 1015=true)
    (ki_Pairs_po:plainOver K 1015=true)
    (ki_Pairs_sa:findIn K (.ref 1015) "__setattr__" = some (some (.builtin "object.__setattr__")))
    (ki_Pairs_ca:findIn K (.ref 1015) "__class__" = some (some (.builtin "object.__class__")))
    (kc_sp:specialIn K (.builtin "object.__class__") "__get__" = some (some (.builtin "getset_descriptor.__get__")))
    (kc_tk:takesIn K (.builtin "object.__class__")=some true)
    (ki_Pairs_mro:mroIn K 1015 (.type "object")=some true)
    (ki_Tree_pg:plainGet K 951 Str.empty=true)
    (ki_Tree_hd:hasDictIn K 951=true)
    (ki_Tree_po:plainOver K 951=true)
    (ki_Tree_sa:findIn K (.ref 951) "__setattr__" = some (some (.builtin "object.__setattr__")))
    (ki_Tree_ca:findIn K (.ref 951) "__class__" = some (some (.builtin "object.__class__")))
    (ki_Tree_mro:mroIn K 951 (.type "object")=some true)
    (ki_Windows_pg:plainGet K 831 Str.empty=true)
    (ki_Windows_hd:hasDictIn K 831=true)
    (ki_Windows_po:plainOver K 831=true)
    (ki_Windows_sa:findIn K (.ref 831) "__setattr__" = some (some (.builtin "object.__setattr__")))
    (ki_Windows_ca:findIn K (.ref 831) "__class__" = some (some (.builtin "object.__class__")))
    (ki_Windows_mro:mroIn K 831 (.type "object")=some true)
    (ki_Tails_pg:plainGet K 774 Str.empty=true)
    (ki_Tails_hd:hasDictIn K 774=true)
    (ki_Tails_po:plainOver K 774=true)
    (ki_Tails_sa:findIn K (.ref 774) "__setattr__" = some (some (.builtin "object.__setattr__")))
    (ki_Tails_ca:findIn K (.ref 774) "__class__" = some (some (.builtin "object.__class__")))
    (ki_Tails_mro:mroIn K 774 (.type "object")=some true)
    (ki_Open_pg:plainGet K 715 Str.empty=true)
    (ki_Open_hd:hasDictIn K 715=true)
    (ki_Open_po:plainOver K 715=true)
    (ki_Open_sa:findIn K (.ref 715) "__setattr__" = some (some (.builtin "object.__setattr__")))
    (ki_Open_ca:findIn K (.ref 715) "__class__" = some (some (.builtin "object.__class__")))
    (ki_Open_mro:mroIn K 715 (.type "object")=some true)
    (ki_Alike_pg:plainGet K 656 Str.empty=true)
    (ki_Alike_hd:hasDictIn K 656=true)
    (ki_Alike_po:plainOver K 656=true)
    (ki_Alike_sa:findIn K (.ref 656) "__setattr__" = some (some (.builtin "object.__setattr__")))
    (ki_Alike_ca:findIn K (.ref 656) "__class__" = some (some (.builtin "object.__class__")))
    (ki_Alike_mro:mroIn K 656 (.type "object")=some true)
    (q_NoKind:excIn K c_NoKind [.type "ValueError", .type "Exception", .type "BaseException", .type "object"] "ValueError.__new__" = true)
    (q_NoText:excIn K c_NoText [.type "ValueError", .type "Exception", .type "BaseException", .type "object"] "ValueError.__new__" = true)
    (q_NoFloor:excIn K c_NoFloor [.type "ValueError", .type "Exception", .type "BaseException", .type "object"] "ValueError.__new__" = true)
    (kx_NoKind_ga:findIn K ‹114› "__getattribute__" = some (some (.builtin "BaseException.__getattribute__")))
    (kx_NoKind_gk:findIn K ‹114› "__getattr__" = some none)
    (kx_NoKind_hd:hasDictIn K c_NoKind=true)
    (kx_NoKind_ca:findIn K ‹114› "__class__" = some (some (.builtin "object.__class__")))
    (kx_NoKind_mro:mroIn K c_NoKind (.type "object")=some true)
    (kx_NoKind_mrb:mroIn K c_NoKind (.type "BaseException")=some true)
    (x_NoKind_FloorError:exmOne K ‹114› (.ref c_FloorError)=some true)
    (i_NoKind_NoRow:kitOne K ‹114› (.ref c_NoRow)=some false)
    (i_NoKind_NoName:kitOne K ‹114› (.ref c_NoName)=some false)
    (i_NoKind_NoRoom:kitOne K ‹114› (.ref c_NoRoom)=some false)
    (i_NoKind_NoOrder:kitOne K ‹114› (.ref c_NoOrder)=some false)
    (i_NoKind_NoFloor:kitOne K ‹114› ‹99›=some false)
    (i_NoKind_NoKind:kitOne K ‹114› ‹114›=some true)
    (i_NoKind_NoText:kitOne K ‹114› ‹113›=some false)
    (i_NoKind_ValueError:kitOne K ‹114› (.type "ValueError")=some true)
    (kx_NoFloor_ga:findIn K ‹99› "__getattribute__" = some (some (.builtin "BaseException.__getattribute__")))
    (kx_NoFloor_gk:findIn K ‹99› "__getattr__" = some none)
    (kx_NoFloor_hd:hasDictIn K c_NoFloor=true)
    (kx_NoFloor_ca:findIn K ‹99› "__class__" = some (some (.builtin "object.__class__")))
    (kx_NoFloor_mro:mroIn K c_NoFloor (.type "object")=some true)
    (kx_NoFloor_mrb:mroIn K c_NoFloor (.type "BaseException")=some true)
    (x_NoFloor_FloorError:exmOne K ‹99› (.ref c_FloorError)=some true)
    (i_NoFloor_NoRow:kitOne K ‹99› (.ref c_NoRow)=some false)
    (i_NoFloor_NoName:kitOne K ‹99› (.ref c_NoName)=some false)
    (i_NoFloor_NoRoom:kitOne K ‹99› (.ref c_NoRoom)=some false)
    (i_NoFloor_NoOrder:kitOne K ‹99› (.ref c_NoOrder)=some false)
    (i_NoFloor_NoFloor:kitOne K ‹99› ‹99›=some true)
    (i_NoFloor_NoKind:kitOne K ‹99› ‹114›=some false)
    (i_NoFloor_NoText:kitOne K ‹99› ‹113›=some false)
    (i_NoFloor_ValueError:kitOne K ‹99› (.type "ValueError")=some true)
    (kx_NoText_ga:findIn K ‹113› "__getattribute__" = some (some (.builtin "BaseException.__getattribute__")))
    (kx_NoText_gk:findIn K ‹113› "__getattr__" = some none)
    (kx_NoText_hd:hasDictIn K c_NoText=true)
    (kx_NoText_ca:findIn K ‹113› "__class__" = some (some (.builtin "object.__class__")))
    (kx_NoText_mro:mroIn K c_NoText (.type "object")=some true)
    (kx_NoText_mrb:mroIn K c_NoText (.type "BaseException")=some true)
    (x_NoText_FloorError:exmOne K ‹113› (.ref c_FloorError)=some true)
    (i_NoText_NoRow:kitOne K ‹113› (.ref c_NoRow)=some false)
    (i_NoText_NoName:kitOne K ‹113› (.ref c_NoName)=some false)
    (i_NoText_NoRoom:kitOne K ‹113› (.ref c_NoRoom)=some false)
    (i_NoText_NoOrder:kitOne K ‹113› (.ref c_NoOrder)=some false)
    (i_NoText_NoFloor:kitOne K ‹113› ‹99›=some false)
    (i_NoText_NoKind:kitOne K ‹113› ‹114›=some false)
    (i_NoText_NoText:kitOne K ‹113› ‹113›=some true)
    (i_NoText_ValueError:kitOne K ‹113› (.type "ValueError")=some true) :
    ∃ a:Adr,Txt K mg a∧a.f_law=fa∧∀ (s:Shared) (v:Value),BindsTo s a.d_law ⟨[v],[]⟩ [("_law_script", v)]:=by
  have e:=hfa.symm.trans (mg_of X G a35)
  cases e
  have F0:=zby (st:=zf1) l0 c0 k0
  have F1:=zby (st:=zez) l1 c1 k1
  have F2:=zby (st:=zh2) l2 c2 k2
  have F3:=zby (st:=zex) l3 c3 k3
  have F4:=zby (st:=zls) l4 c4 k4
  have F5:=zby (st:=zlo) l5 c5 k5
  have F6:=zby (st:=zh1) l6 c6 k6
  have F7:=zby (st:=ze4) l7 c7 k7
  have F8:=zby (st:=ze5) l8 c8 k8
  have F9:=zby (st:=zf7) l9 c9 k9
  have F10:=zby (st:=zf8) l10 c10 k10
  have F11:=zby (st:=ze0) l11 c11 k11
  have F12:=zby (st:=ze1) l12 c12 k12
  have F13:=zby (st:=zd1) l13 c13 k13
  have F14:=zby (st:=zd2) l14 c14 k14
  have F15:=zby (st:=zf5) l15 c15 k15
  have F16:=zby (st:=zf6) l16 c16 k16
  have F17:=zby (st:=ze2) l17 c17 k17
  have F18:=zby (st:=ze3) l18 c18 k18
  have F19:=zby (st:=zo1) l19 c19 k19
  have F20:=zby (st:=zjl) l20 c20 k20
  have F21:=zby (st:=zjm) l21 c21 k21
  have F22:=zby (st:=zf4) l22 c22 k22
  have F23:=zby (st:=zei) l23 c23 k23
  have F24:=zby (st:=zf2) l24 c24 k24
  have F25:=zby (st:=zh0) l25 c25 k25
  have F26:=zby (st:=zey) l26 c26 k26
  have F27:=zby (st:=zo0) l27 c27 k27
  have F28:=zby (st:=zji) l28 c28 k28
  have F29:=zby (st:=zlq) l29 c29 k29
  have F30:=zby (st:=zlr) l30 c30 k30
  have F31:=zby (st:=zjk) l31 c31 k31
  have F32:=zby (st:=zlp) l32 c32 k32
  have F33:=zby (st:=zf3) l33 c33 k33
  have F34:=zby (st:=zjj) l34 c34 k34
  have F35:=zby (st:=zzt) l35 c35 k35
  have b0:=F0.binds (ps:=["numbers", "least", "most"]) fun _ _ _ _ _ _ us hl=>match us,hl with | [_,_,_],_=>rfl
  have b1:=F1.binds (ps:=["numbers", "least"]) fun _ _ _ _ _ _ us hl=>match us,hl with | [_,_],_=>rfl
  have b2:=F2.binds (ps:=["many", "needs"]) fun _ _ _ _ _ _ us hl=>match us,hl with | [_,_],_=>rfl
  have b3:=F3.binds (ps:=["many", "needs"]) fun _ _ _ _ _ _ us hl=>match us,hl with | [_,_],_=>rfl
  have b4:=F4.binds (ps:=["truths", "others"]) fun _ _ _ _ _ _ us hl=>match us,hl with | [_,_],_=>rfl
  have b5:=F5.binds (ps:=["behind"]) fun _ _ _ _ _ _ us hl=>match us,hl with | [_],_=>rfl
  have b6:=F6.binds (ps:=["behind", "work"]) fun _ _ _ _ _ _ us hl=>match us,hl with | [_,_],_=>rfl
  have b7:=F7.binds (ps:=["self"]) fun _ _ _ _ _ _ us hl=>match us,hl with | [_],_=>rfl
  have b8:=F8.binds (ps:=["self", "rows"]) fun _ _ _ _ _ _ us hl=>match us,hl with | [_,_],_=>rfl
  have b9:=F9.binds (ps:=["self"]) fun _ _ _ _ _ _ us hl=>match us,hl with | [_],_=>rfl
  have b10:=F10.binds (ps:=["self", "rows"]) fun _ _ _ _ _ _ us hl=>match us,hl with | [_,_],_=>rfl
  have b11:=F11.binds (ps:=["self"]) fun _ _ _ _ _ _ us hl=>match us,hl with | [_],_=>rfl
  have b12:=F12.binds (ps:=["self", "rows"]) fun _ _ _ _ _ _ us hl=>match us,hl with | [_,_],_=>rfl
  have b13:=F13.binds (ps:=["self"]) fun _ _ _ _ _ _ us hl=>match us,hl with | [_],_=>rfl
  have b14:=F14.binds (ps:=["self", "rows"]) fun _ _ _ _ _ _ us hl=>match us,hl with | [_,_],_=>rfl
  have b15:=F15.binds (ps:=["self"]) fun _ _ _ _ _ _ us hl=>match us,hl with | [_],_=>rfl
  have b16:=F16.binds (ps:=["self", "rows"]) fun _ _ _ _ _ _ us hl=>match us,hl with | [_,_],_=>rfl
  have b17:=F17.binds (ps:=["self"]) fun _ _ _ _ _ _ us hl=>match us,hl with | [_],_=>rfl
  have b18:=F18.binds (ps:=["self", "rows"]) fun _ _ _ _ _ _ us hl=>match us,hl with | [_,_],_=>rfl
  have b19:=F19.binds (ps:=[]) fun _ _ _ _ _ _ us hl=>match us,hl with | [],_=>rfl
  have b20:=F20.binds (ps:=["word"]) fun _ _ _ _ _ _ us hl=>match us,hl with | [_],_=>rfl
  have b21:=F21.binds (ps:=["text"]) fun _ _ _ _ _ _ us hl=>match us,hl with | [_],_=>rfl
  have b22:=F22.binds (ps:=["text"]) fun _ _ _ _ _ _ us hl=>match us,hl with | [_],_=>rfl
  have b23:=F23.binds (ps:=["text"]) fun _ _ _ _ _ _ us hl=>match us,hl with | [_],_=>rfl
  have b24:=F24.binds (ps:=["text"]) fun _ _ _ _ _ _ us hl=>match us,hl with | [_],_=>rfl
  have b25:=F25.binds (ps:=["text"]) fun _ _ _ _ _ _ us hl=>match us,hl with | [_],_=>rfl
  have b26:=F26.binds (ps:=["text"]) fun _ _ _ _ _ _ us hl=>match us,hl with | [_],_=>rfl
  have b27:=F27.binds (ps:=["_law_number", "_law_k"]) fun _ _ _ _ _ _ us hl=>match us,hl with | [_,_],_=>rfl
  have b28:=F28.binds (ps:=[]) fun _ _ _ _ _ _ us hl=>match us,hl with | [],_=>rfl
  have b29:=F29.binds (ps:=["_law_at", "_law_cell"]) fun _ _ _ _ _ _ us hl=>match us,hl with | [_,_],_=>rfl
  have b30:=F30.binds (ps:=["_law_rows_here", "_law_cell"]) fun _ _ _ _ _ _ us hl=>match us,hl with | [_,_],_=>rfl
  have b31:=F31.binds (ps:=["_law_rows_here"]) fun _ _ _ _ _ _ us hl=>match us,hl with | [_],_=>rfl
  have b32:=F32.binds (ps:=["_law_at", "_law_cell"]) fun _ _ _ _ _ _ us hl=>match us,hl with | [_,_],_=>rfl
  have b33:=F33.binds (ps:=["_law_text"]) fun _ _ _ _ _ _ us hl=>match us,hl with | [_],_=>rfl
  have b34:=F34.binds (ps:=["_law_word_here"]) fun _ _ _ _ _ _ us hl=>match us,hl with | [_],_=>rfl
  have b35:=F35.binds (ps:=["_law_script"]) fun _ _ _ _ _ _ us hl=>match us,hl with | [_],_=>rfl
  exact ⟨⟨f0,_,f1,_,f2,_,f3,_,f4,_,f5,_,f6,_,f7,_,f8,_,f9,_,f10,_,f11,_,f12,_,f13,_,f14,_,f15,_,f16,_,f17,_,f18,_,f19,_,f20,_,f21,_,f22,_,f23,_,f24,_,f25,_,f26,_,f27,_,f28,_,f29,_,f30,_,f31,_,f32,_,f33,_,f34,_,f35,_,c_NoOrder,c_NoKind,c_NoText,c_NoFloor,c_FloorError,c_NoRoom,c_NoRow,c_NoName⟩,⟨F0,b0,mg_of X G a0,F1,b1,mg_of X G a1,F2,b2,mg_of X G a2,F3,b3,mg_of X G a3,F4,b4,mg_of X G a4,F5,b5,mg_of X G a5,F6,b6,mg_of X G a6,F7,b7,⟨a7,n7,k7⟩,F8,b8,⟨a8,n8,k8⟩,F9,b9,⟨a9,n9,k9⟩,F10,b10,⟨a10,n10,k10⟩,F11,b11,⟨a11,n11,k11⟩,F12,b12,⟨a12,n12,k12⟩,F13,b13,⟨a13,n13,k13⟩,F14,b14,⟨a14,n14,k14⟩,F15,b15,⟨a15,n15,k15⟩,F16,b16,⟨a16,n16,k16⟩,F17,b17,⟨a17,n17,k17⟩,F18,b18,⟨a18,n18,k18⟩,F19,b19,mg_of X G a19,F20,b20,mg_of X G a20,F21,b21,mg_of X G a21,F22,b22,mg_of X G a22,F23,b23,mg_of X G a23,F24,b24,mg_of X G a24,F25,b25,mg_of X G a25,F26,b26,mg_of X G a26,F27,b27,mg_of X G a27,F28,b28,mg_of X G a28,F29,b29,mg_of X G a29,F30,b30,mg_of X G a30,F31,b31,mg_of X G a31,F32,b32,mg_of X G a32,F33,b33,mg_of X G a33,F34,b34,mg_of X G a34,F35,b35,mg_of X G a35,mg_none_of X G z_ValueError,mg_none_of X G z_all,mg_none_of X G z_any,mg_none_of X G z_int,mg_none_of X G z_isinstance,mg_none_of X G z_len,mg_none_of X G z_list,mg_none_of X G z_max,mg_none_of X G z_min,mg_none_of X G z_range,mg_none_of X G z_str,mg_none_of X G z_tuple,mg_none_of X G z_zip,⟨_,mg_of X G c_FIGURES⟩,⟨_,mg_of X G c_LETTERS⟩,⟨_,mg_of X G c_MOST_FIGURES⟩,⟨_,mg_of X G c_MOST_LETTERS⟩,⟨_,mg_of X G c_NO_NUMBERS⟩,⟨_,mg_of X G c_NO_ROWS⟩,mg_of X G m_NoOrder,mg_of X G m_Alike,mg_of X G m_Open,mg_of X G m_Tails,mg_of X G m_Windows,mg_of X G m_Tree,mg_of X G m_Pairs,mg_of X G m_NoKind,mg_of X G m_NoText,mg_of X G m_NoFloor,mg_of X G m_FloorError,mg_of X G m_NoRoom,mg_of X G m_NoRow,mg_of X G m_NoName,q_NoOrder,x_NoOrder_NoOrder,⟨mk_Alike_mk,mk_Alike_in,mk_Alike_kp⟩,⟨mk_Open_mk,mk_Open_in,mk_Open_kp⟩,⟨mk_Tails_mk,mk_Tails_in,mk_Tails_kp⟩,⟨mk_Windows_mk,mk_Windows_in,mk_Windows_kp⟩,⟨mk_Tree_mk,mk_Tree_in,mk_Tree_kp⟩,⟨mk_Pairs_mk,mk_Pairs_in,mk_Pairs_kp⟩,⟨⟨ki_Pairs_pg,ki_Pairs_hd,ki_Pairs_po,ki_Pairs_sa⟩,ki_Pairs_ca,kc_sp,kc_tk,ki_Pairs_mro⟩,⟨⟨ki_Tree_pg,ki_Tree_hd,ki_Tree_po,ki_Tree_sa⟩,ki_Tree_ca,kc_sp,kc_tk,ki_Tree_mro⟩,⟨⟨ki_Windows_pg,ki_Windows_hd,ki_Windows_po,ki_Windows_sa⟩,ki_Windows_ca,kc_sp,kc_tk,ki_Windows_mro⟩,⟨⟨ki_Tails_pg,ki_Tails_hd,ki_Tails_po,ki_Tails_sa⟩,ki_Tails_ca,kc_sp,kc_tk,ki_Tails_mro⟩,⟨⟨ki_Open_pg,ki_Open_hd,ki_Open_po,ki_Open_sa⟩,ki_Open_ca,kc_sp,kc_tk,ki_Open_mro⟩,⟨⟨ki_Alike_pg,ki_Alike_hd,ki_Alike_po,ki_Alike_sa⟩,ki_Alike_ca,kc_sp,kc_tk,ki_Alike_mro⟩,q_NoKind,q_NoText,q_NoFloor,⟨kx_NoKind_ga,kx_NoKind_gk,kx_NoKind_hd,kx_NoKind_ca,kc_sp,kc_tk,kx_NoKind_mro,kx_NoKind_mrb⟩,x_NoKind_FloorError,i_NoKind_NoRow,i_NoKind_NoName,i_NoKind_NoRoom,i_NoKind_NoOrder,i_NoKind_NoFloor,i_NoKind_NoKind,i_NoKind_NoText,i_NoKind_ValueError,⟨kx_NoFloor_ga,kx_NoFloor_gk,kx_NoFloor_hd,kx_NoFloor_ca,kc_sp,kc_tk,kx_NoFloor_mro,kx_NoFloor_mrb⟩,x_NoFloor_FloorError,i_NoFloor_NoRow,i_NoFloor_NoName,i_NoFloor_NoRoom,i_NoFloor_NoOrder,i_NoFloor_NoFloor,i_NoFloor_NoKind,i_NoFloor_NoText,i_NoFloor_ValueError,⟨kx_NoText_ga,kx_NoText_gk,kx_NoText_hd,kx_NoText_ca,kc_sp,kc_tk,kx_NoText_mro,kx_NoText_mrb⟩,x_NoText_FloorError,i_NoText_NoRow,i_NoText_NoName,i_NoText_NoRoom,i_NoText_NoOrder,i_NoText_NoFloor,i_NoText_NoKind,i_NoText_NoText,i_NoText_ValueError⟩,rfl,fun s v=>.of_eq rfl⟩
theorem walk {l:PySem.W.OpenLaw} {q:Program} {loose:List Str} {XP:(Str→Option Value)→Heap→Prop} {YP:World→Heap→Prop} {d:DefRec} {K:Params→PySem.W.Frag} (hn:l.most=some 63) (hdf:d.params.defaults=[])
    (hY:∀ (w:World) (h:Heap),YP w h→(K w.params).In h)
    (F:∀ (w:World) (mg:Str→Option Value) (fa:Addr) (h:Heap),(K w.params).In h→h.Ns mainGlobals mg→mg d.name=some (.ref fa)→∃ a:Adr,Txt (K w.params) mg a∧a.f_law=fa∧∀ (s:Shared) (v:Value),BindsTo s a.d_law ⟨[v],[]⟩ [("_law_script", v)]) :
    PySem.W.WalkO q loose XP YP l.row.toRowW d [] (fun f vs=>PySem.call f vs) :=
  L2.walk_ofB (n:=63) (k:=7) (x := "_law_script") (CX:=fun _=>CX0) (sp:=fun w=>z1c (K w.params)) hn ‹3› hdf ⟨rfl,by decide,by decide⟩ hY
    (fun w mg fa h KX G e=>by
      obtain ⟨a,T,rfl,hb⟩:=F w mg fa h KX G e
      exact ⟨a.d_law,hb,fun base kb nb=>(z5e T).imp fun vs H Q E h=>zwv z0b h⟩)
    (fun _ _ a ns hl hbits _ hS=>⟨a,ns,rfl,hS,hl,hbits,(fun _ h=>by cases h),fun _=>rfl⟩) fun _ _ _ _ _ z=>z
end My
namespace PySem.W.Fast
theorem tw11460876648221575701:True:=⟨⟩
theorem tw5230279406411608802:True:=⟨⟩
theorem tw16195542845105415712:True:=⟨⟩
theorem tw2817276880970482304:True:=⟨⟩
theorem tw7000010707166280544:True:=⟨⟩
theorem tw6849687606660598688:True:=⟨⟩
theorem tw3110339062040631200:True:=⟨⟩
theorem tw8327485572058097568:True:=⟨⟩
theorem tw12927938732305707968:True:=⟨⟩
theorem tw6157140298844794081:True:=⟨⟩
theorem tw79669150856722785:True:=⟨⟩
theorem tw8107258007499618017:True:=⟨⟩
theorem tw2501167489845796609:True:=⟨⟩
theorem tw2920666717012655073:True:=⟨⟩
theorem tw15488315922240808962:True:=⟨⟩
theorem tw4243118274527905090:True:=⟨⟩
theorem tw4591675024556457378:True:=⟨⟩
theorem tw14852582181305204194:True:=⟨⟩
theorem tw3732447256384892418:True:=⟨⟩
theorem tw4201933838205715170:True:=⟨⟩
theorem tw824813824086512450:True:=⟨⟩
theorem tw5802840110990205155:True:=⟨⟩
theorem tw15968918489702104355:True:=⟨⟩
theorem tw16319172326860338915:True:=⟨⟩
theorem tw2606034131250215907:True:=⟨⟩
theorem tw4480611259850922212:True:=⟨⟩
theorem tw17851208420946514212:True:=⟨⟩
theorem tw13600930436555170116:True:=⟨⟩
theorem tw8857639659548807620:True:=⟨⟩
theorem tw5584386338703992292:True:=⟨⟩
theorem tw17891697266996436484:True:=⟨⟩
theorem tw9479002083925378628:True:=⟨⟩
theorem tw9335404127982944868:True:=⟨⟩
theorem tw10956796626774644356:True:=⟨⟩
theorem tw11933880326239802116:True:=⟨⟩
theorem tw8846521966189240196:True:=⟨⟩
theorem tw8424715001153162148:True:=⟨⟩
theorem tw13894671149906486244:True:=⟨⟩
theorem tw2735888907099233381:True:=⟨⟩
theorem tw12143143554593756293:True:=⟨⟩
theorem tw18016104004833277669:True:=⟨⟩
theorem tw16057651731836543813:True:=⟨⟩
theorem tw14151863849843525830:True:=⟨⟩
theorem tw4524926558479572326:True:=⟨⟩
theorem tw12261844945056364966:True:=⟨⟩
theorem tw1412510595486298598:True:=⟨⟩
theorem tw8184031608673431046:True:=⟨⟩
theorem tw12237109186886718182:True:=⟨⟩
theorem tw2964382043959061254:True:=⟨⟩
theorem tw17723002511595641991:True:=⟨⟩
theorem tw6829791564843871527:True:=⟨⟩
theorem tw2393183423985149671:True:=⟨⟩
theorem tw12198590423352431431:True:=⟨⟩
theorem tw10293899734672856999:True:=⟨⟩
theorem tw4754098153569718247:True:=⟨⟩
theorem tw15713529363918184456:True:=⟨⟩
theorem tw3931460320578628680:True:=⟨⟩
theorem tw14407823674288371784:True:=⟨⟩
theorem tw2161398161483167240:True:=⟨⟩
theorem tw12652081590868149000:True:=⟨⟩
theorem tw15683156062563328137:True:=⟨⟩
theorem tw14341124883341150633:True:=⟨⟩
theorem tw11774911758863649225:True:=⟨⟩
theorem tw2338225151018843817:True:=⟨⟩
theorem tw378793793829455561:True:=⟨⟩
theorem tw4798851533016058569:True:=⟨⟩
theorem tw14684094943890923465:True:=⟨⟩
theorem tw7653579205263887338:True:=⟨⟩
theorem tw14898614141896744075:True:=⟨⟩
theorem tw12543421146248256715:True:=⟨⟩
theorem tw16692762190774939883:True:=⟨⟩
theorem tw10827957161890837803:True:=⟨⟩
theorem tw17156267355297078540:True:=⟨⟩
theorem tw6822699665093335436:True:=⟨⟩
theorem tw13070149460696130573:True:=⟨⟩
theorem tw2132031061263268973:True:=⟨⟩
theorem tw4860309833450229261:True:=⟨⟩
theorem tw5537888578467533:True:=⟨⟩
theorem tw7983658761652651757:True:=⟨⟩
theorem tw5356092915746534221:True:=⟨⟩
theorem tw1310465472527711085:True:=⟨⟩
theorem tw10047291176208639150:True:=⟨⟩
theorem tw228651259527018894:True:=⟨⟩
theorem tw8894127837855787854:True:=⟨⟩
theorem tw14865770067422159758:True:=⟨⟩
theorem tw7950213314673005807:True:=⟨⟩
theorem tw373111486451069231:True:=⟨⟩
theorem tw9365979754064723504:True:=⟨⟩
theorem tw18219603288583011888:True:=⟨⟩
theorem tw2801578070885332624:True:=⟨⟩
theorem tw1951661836465082160:True:=⟨⟩
theorem tw13836748399647799120:True:=⟨⟩
theorem tw14436397971170939792:True:=⟨⟩
theorem tw10011052882878189552:True:=⟨⟩
theorem tw8296889332714428400:True:=⟨⟩
theorem tw3642187694185797073:True:=⟨⟩
theorem tw14884917603707532049:True:=⟨⟩
theorem tw3968225556102068081:True:=⟨⟩
theorem tw7654901505927249905:True:=⟨⟩
theorem tw16355483879353459122:True:=⟨⟩
theorem tw13388984421133914802:True:=⟨⟩
theorem tw12557590733404614322:True:=⟨⟩
theorem tw6760263102294470610:True:=⟨⟩
theorem tw7540796708668074994:True:=⟨⟩
theorem tw7936687479992526067:True:=⟨⟩
theorem tw11921173394054154739:True:=⟨⟩
theorem tw2668819726185022963:True:=⟨⟩
theorem tw2388115732656961331:True:=⟨⟩
theorem tw11931666237744976787:True:=⟨⟩
theorem tw8946886836193598548:True:=⟨⟩
theorem tw8609461175804497076:True:=⟨⟩
theorem tw13966429108939397556:True:=⟨⟩
theorem tw2321618511732469236:True:=⟨⟩
theorem tw8240135271981895765:True:=⟨⟩
theorem tw12593357370729818453:True:=⟨⟩
theorem tw16548523415170135413:True:=⟨⟩
theorem tw6209667726510221845:True:=⟨⟩
theorem tw2112425934075109941:True:=⟨⟩
theorem tw14568809389915057909:True:=⟨⟩
theorem tw3883671125611717429:True:=⟨⟩
theorem tw3742589911215715670:True:=⟨⟩
theorem tw4450849871487287830:True:=⟨⟩
theorem tw3208564449655679574:True:=⟨⟩
theorem tw1569362085880235191:True:=⟨⟩
theorem tw12541722085138297144:True:=⟨⟩
theorem tw2804687357607489304:True:=⟨⟩
theorem tw7333058400308175704:True:=⟨⟩
theorem tw16481009225702905752:True:=⟨⟩
theorem tw2728435360414434329:True:=⟨⟩
theorem tw10514888212311845977:True:=⟨⟩
theorem tw8764022681341851737:True:=⟨⟩
theorem tw10191515360414345401:True:=⟨⟩
theorem tw6346601047243950297:True:=⟨⟩
theorem tw268150941703661817:True:=⟨⟩
theorem tw2206332162599577977:True:=⟨⟩
theorem tw9365716586385433081:True:=⟨⟩
theorem tw11908372543866564121:True:=⟨⟩
theorem tw12553321019287120601:True:=⟨⟩
theorem tw5928040376263859033:True:=⟨⟩
theorem tw3606760647229585273:True:=⟨⟩
theorem tw1947039075882073977:True:=⟨⟩
theorem tw11689797927741599737:True:=⟨⟩
theorem tw3405922442354999706:True:=⟨⟩
theorem tw15447174116717382042:True:=⟨⟩
theorem tw1426875072655239066:True:=⟨⟩
theorem tw12077192387262040187:True:=⟨⟩
theorem tw6471993405644216475:True:=⟨⟩
theorem tw8779591099955477723:True:=⟨⟩
theorem tw17223414475794495931:True:=⟨⟩
theorem tw1915617122826581659:True:=⟨⟩
theorem tw9296493548439519099:True:=⟨⟩
theorem tw5252652942234842268:True:=⟨⟩
theorem tw2921067248529621180:True:=⟨⟩
theorem tw2748945228316115324:True:=⟨⟩
theorem tw16673868746806868508:True:=⟨⟩
theorem tw11982837166654265916:True:=⟨⟩
theorem tw711605841735577308:True:=⟨⟩
theorem tw11326354183419647740:True:=⟨⟩
theorem tw7562744464629433405:True:=⟨⟩
theorem tw10028528153447845245:True:=⟨⟩
theorem tw3888389222623935869:True:=⟨⟩
theorem tw9129489821577543101:True:=⟨⟩
theorem tw3915008235896387037:True:=⟨⟩
theorem tw16159760447490257757:True:=⟨⟩
theorem tw11935198820986277885:True:=⟨⟩
theorem tw4958753770578854078:True:=⟨⟩
theorem tw689697130636085662:True:=⟨⟩
theorem tw699031102663631326:True:=⟨⟩
theorem tw14932624804417420766:True:=⟨⟩
theorem tw8505175580818097630:True:=⟨⟩
theorem tw14088315175443522238:True:=⟨⟩
theorem tw14271007020995893182:True:=⟨⟩
theorem tw14433098071612885087:True:=⟨⟩
theorem tw6566348070813746335:True:=⟨⟩
theorem tw4806833575572444479:True:=⟨⟩
theorem tw7398775620886561407:True:=⟨⟩
theorem tw7419223469718425215:True:=⟨⟩
theorem tw3861279715488128671:True:=⟨⟩
end PySem.W.Fast
open PySem PySem.W PyProof.Rows
set_option maxRecDepth 100000 in
set_option maxHeartbeats 0 in
theorem PySem.Challenge.cw_leastfloor_k83_floors_as_texts_holds : PySem.Challenge.rw_leastfloor_k83_floors_as_texts.Holds := by
  w_on; o_law; k_head; (case hw => w_witness2)
  k_fill
  refine My.walk (l := PySem.Challenge.rw_leastfloor_k83_floors_as_texts) rfl rfl (fun w h Y => by first | exact PySem.W.kIn_of Y | exact PySem.W.km_in_of Y) ?F
  case F =>
    intro w mg fa h KX G hmg
    refine' My.all_mk KX G hmg ?a0 ?l0 ?c0 ?k0 ?a1 ?l1 ?c1 ?k1 ?a2 ?l2 ?c2 ?k2 ?a3 ?l3 ?c3 ?k3 ?a4 ?l4 ?c4 ?k4 ?a5 ?l5 ?c5 ?k5 ?a6 ?l6 ?c6 ?k6 ?n7 ?a7 ?l7 ?c7 ?k7 ?n8 ?a8 ?l8 ?c8 ?k8 ?n9 ?a9 ?l9 ?c9 ?k9 ?n10 ?a10 ?l10 ?c10 ?k10 ?n11 ?a11 ?l11 ?c11 ?k11 ?n12 ?a12 ?l12 ?c12 ?k12 ?n13 ?a13 ?l13 ?c13 ?k13 ?n14 ?a14 ?l14 ?c14 ?k14 ?n15 ?a15 ?l15 ?c15 ?k15 ?n16 ?a16 ?l16 ?c16 ?k16 ?n17 ?a17 ?l17 ?c17 ?k17 ?n18 ?a18 ?l18 ?c18 ?k18 ?a19 ?l19 ?c19 ?k19 ?a20 ?l20 ?c20 ?k20 ?a21 ?l21 ?c21 ?k21 ?a22 ?l22 ?c22 ?k22 ?a23 ?l23 ?c23 ?k23 ?a24 ?l24 ?c24 ?k24 ?a25 ?l25 ?c25 ?k25 ?a26 ?l26 ?c26 ?k26 ?a27 ?l27 ?c27 ?k27 ?a28 ?l28 ?c28 ?k28 ?a29 ?l29 ?c29 ?k29 ?a30 ?l30 ?c30 ?k30 ?a31 ?l31 ?c31 ?k31 ?a32 ?l32 ?c32 ?k32 ?a33 ?l33 ?c33 ?k33 ?a34 ?l34 ?c34 ?k34 ?a35 ?l35 ?c35 ?k35 ?z_ValueError ?z_all ?z_any ?z_int ?z_isinstance ?z_len ?z_list ?z_max ?z_min ?z_range ?z_str ?z_tuple ?z_zip ?c_FIGURES ?c_LETTERS ?c_MOST_FIGURES ?c_MOST_LETTERS ?c_NO_NUMBERS ?c_NO_ROWS ?m_NoOrder ?m_Alike ?m_Open ?m_Tails ?m_Windows ?m_Tree ?m_Pairs ?m_NoKind ?m_NoText ?m_NoFloor ?m_FloorError ?m_NoRoom ?m_NoRow ?m_NoName ?q_NoOrder ?x_NoOrder_NoOrder ?mk_Alike_mk ?mk_Alike_in ?mk_Alike_kp ?mk_Open_mk ?mk_Open_in ?mk_Open_kp ?mk_Tails_mk ?mk_Tails_in ?mk_Tails_kp ?mk_Windows_mk ?mk_Windows_in ?mk_Windows_kp ?mk_Tree_mk ?mk_Tree_in ?mk_Tree_kp ?mk_Pairs_mk ?mk_Pairs_in ?mk_Pairs_kp ?ki_Pairs_pg ?ki_Pairs_hd ?ki_Pairs_po ?ki_Pairs_sa ?ki_Pairs_ca ?kc_sp ?kc_tk ?ki_Pairs_mro ?ki_Tree_pg ?ki_Tree_hd ?ki_Tree_po ?ki_Tree_sa ?ki_Tree_ca ?ki_Tree_mro ?ki_Windows_pg ?ki_Windows_hd ?ki_Windows_po ?ki_Windows_sa ?ki_Windows_ca ?ki_Windows_mro ?ki_Tails_pg ?ki_Tails_hd ?ki_Tails_po ?ki_Tails_sa ?ki_Tails_ca ?ki_Tails_mro ?ki_Open_pg ?ki_Open_hd ?ki_Open_po ?ki_Open_sa ?ki_Open_ca ?ki_Open_mro ?ki_Alike_pg ?ki_Alike_hd ?ki_Alike_po ?ki_Alike_sa ?ki_Alike_ca ?ki_Alike_mro ?q_NoKind ?q_NoText ?q_NoFloor ?kx_NoKind_ga ?kx_NoKind_gk ?kx_NoKind_hd ?kx_NoKind_ca ?kx_NoKind_mro ?kx_NoKind_mrb ?x_NoKind_FloorError ?i_NoKind_NoRow ?i_NoKind_NoName ?i_NoKind_NoRoom ?i_NoKind_NoOrder ?i_NoKind_NoFloor ?i_NoKind_NoKind ?i_NoKind_NoText ?i_NoKind_ValueError ?kx_NoFloor_ga ?kx_NoFloor_gk ?kx_NoFloor_hd ?kx_NoFloor_ca ?kx_NoFloor_mro ?kx_NoFloor_mrb ?x_NoFloor_FloorError ?i_NoFloor_NoRow ?i_NoFloor_NoName ?i_NoFloor_NoRoom ?i_NoFloor_NoOrder ?i_NoFloor_NoFloor ?i_NoFloor_NoKind ?i_NoFloor_NoText ?i_NoFloor_ValueError ?kx_NoText_ga ?kx_NoText_gk ?kx_NoText_hd ?kx_NoText_ca ?kx_NoText_mro ?kx_NoText_mrb ?x_NoText_FloorError ?i_NoText_NoRow ?i_NoText_NoName ?i_NoText_NoRoom ?i_NoText_NoOrder ?i_NoText_NoFloor ?i_NoText_NoKind ?i_NoText_NoText ?i_NoText_ValueError
    all_goals try unfold My.LkF
    case a0|l0|c0|k0|a1|l1|c1|k1|a2|l2|c2|k2|a3|l3|c3|k3|a4|l4|c4|k4|a5|l5|c5|k5|a6|l6|c6|k6|n7|a7|l7|c7|k7|n8|a8|l8|c8|k8|n9|a9 => k_is
    case l9|c9|k9|n10|a10|l10|c10|k10|n11|a11|l11|c11|k11|n12|a12|l12|c12|k12|n13|a13|l13|c13|k13|n14|a14|l14|c14|k14|n15|a15|l15|c15|k15|n16|a16|l16|c16|k16|n17|a17 => k_is
    case l17|c17|k17|n18|a18|l18|c18|k18|a19|l19|c19|k19|a20|l20|c20|k20|a21|l21|c21|k21|a22|l22|c22|k22|a23|l23|c23|k23|a24|l24|c24|k24|a25|l25|c25|k25|a26|l26|c26|k26 => k_is
    case a27|l27|c27|k27|a28|l28|c28|k28|a29|l29|c29|k29|a30|l30|c30|k30|a31|l31|c31|k31|a32|l32|c32|k32|a33|l33|c33|k33|a34|l34|c34|k34|a35|l35|c35|k35|z_ValueError|z_all|z_any|z_int => k_is
    case z_isinstance|z_len|z_list|z_max|z_min|z_range|z_str|z_tuple|z_zip|c_FIGURES|c_LETTERS|c_MOST_FIGURES|c_MOST_LETTERS|c_NO_NUMBERS|c_NO_ROWS|m_NoOrder|m_Alike|m_Open|m_Tails|m_Windows|m_Tree|m_Pairs|m_NoKind|m_NoText|m_NoFloor|m_FloorError|m_NoRoom|m_NoRow|m_NoName => k_is
    case q_NoOrder => k_exc
    case x_NoOrder_NoOrder => kts_exm
    case mk_Alike_mk|mk_Alike_in|mk_Alike_kp|mk_Open_mk|mk_Open_in|mk_Open_kp|mk_Tails_mk|mk_Tails_in|mk_Tails_kp|mk_Windows_mk|mk_Windows_in|mk_Windows_kp|mk_Tree_mk|mk_Tree_in|mk_Tree_kp|mk_Pairs_mk|mk_Pairs_in|mk_Pairs_kp|ki_Pairs_pg|ki_Pairs_hd|ki_Pairs_po|ki_Pairs_sa|ki_Pairs_ca|kc_sp|kc_tk|ki_Pairs_mro|ki_Tree_pg|ki_Tree_hd|ki_Tree_po|ki_Tree_sa|ki_Tree_ca|ki_Tree_mro|ki_Windows_pg|ki_Windows_hd|ki_Windows_po|ki_Windows_sa|ki_Windows_ca|ki_Windows_mro|ki_Tails_pg|ki_Tails_hd => k_is
    case ki_Tails_po|ki_Tails_sa|ki_Tails_ca|ki_Tails_mro|ki_Open_pg|ki_Open_hd|ki_Open_po|ki_Open_sa|ki_Open_ca|ki_Open_mro|ki_Alike_pg|ki_Alike_hd|ki_Alike_po|ki_Alike_sa|ki_Alike_ca|ki_Alike_mro => k_is
    case q_NoKind|q_NoText|q_NoFloor => k_exc
    case kx_NoKind_ga|kx_NoKind_gk|kx_NoKind_hd|kx_NoKind_ca|kx_NoKind_mro|kx_NoKind_mrb => k_is
    case x_NoKind_FloorError => kts_exm
    case i_NoKind_NoRow|i_NoKind_NoName|i_NoKind_NoRoom|i_NoKind_NoOrder|i_NoKind_NoFloor|i_NoKind_NoKind|i_NoKind_NoText|i_NoKind_ValueError => kit_is
    case kx_NoFloor_ga|kx_NoFloor_gk|kx_NoFloor_hd|kx_NoFloor_ca|kx_NoFloor_mro|kx_NoFloor_mrb => k_is
    case x_NoFloor_FloorError => kts_exm
    case i_NoFloor_NoRow|i_NoFloor_NoName|i_NoFloor_NoRoom|i_NoFloor_NoOrder|i_NoFloor_NoFloor|i_NoFloor_NoKind|i_NoFloor_NoText|i_NoFloor_ValueError => kit_is
    case kx_NoText_ga|kx_NoText_gk|kx_NoText_hd|kx_NoText_ca|kx_NoText_mro|kx_NoText_mrb => k_is
    case x_NoText_FloorError => kts_exm
    case i_NoText_NoRow|i_NoText_NoName|i_NoText_NoRoom|i_NoText_NoOrder|i_NoText_NoFloor|i_NoText_NoKind|i_NoText_NoText|i_NoText_ValueError => kit_is
#print axioms PySem.Challenge.cw_leastfloor_k83_floors_as_texts_holds
