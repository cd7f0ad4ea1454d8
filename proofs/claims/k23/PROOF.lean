import PyProof.Rows.All
import Wide.All
import OpenK.AllK
import Wide.FinOn
import Lean
import PyProof.EqAt
import PyProof.EqKinds
import PyProof.TupleCall
import PySem.Challenge.RW_leastfloor_k23_whole_open_plan
set_option compiler.extract_closed false
set_option genSizeOfSpec false
set_option Elab.async false
set_option linter.all false
set_option maxRecDepth 100000
set_option hygiene false
set_option hygiene true
open Array renaming length_toList→KR,getElem?_eq_getElem→K9,toList_append→LZ,getElem?_toList→Ms,size_push→MV,perm_iff_toList_perm→Nw,toList_push→NG,size_append→NH,toList_reverse→Pn,toList_setIfInBounds→P1,toList_inj→Qx,toList_map→Qy,toList_modify→RF,forIn_toList→R8,toList_zip→Sy,map→Tr
open Bool renaming false_ne_true→KU,eq_iff_iff→LY,false_eq_true→MI,and_eq_true→Nb,and_true→RQ,not_eq_true'→Sk,or_eq_true→SK
open False renaming elim→N0
open ForInStep renaming yield→LN,done→LQ
open Int renaming le_refl→Mh,toNat_natCast→Mu,mul_nonneg→O6,add_zero→QT,zero_add→QU,natCast_add→SR,mul_le_mul→Te,add_nonneg→Tf
open List renaming getD_eq_getElem?_getD→Ku,getElem?_eq_getElem→Kv,length_map→Kw,mem_cons_of_mem→Kx,mem_cons_self→Ky,mem_singleton→Kz,mem_append_right→KA,getElem?_map→KO,mem_cons→KP,size_toArray→KQ,mem_append→KS,range→KW,set_cons_zero→KZ,length_append→K0,set_cons_succ→K2,mem_append_left→K3,mem_map→K5,map_map→K6,length_range→K7,pairwise_append→K8,nodup_cons→La,map_cons→Ld,map_append→Li,getElem?_eq_some_iff→Lj,getElem?_append_right→Ln,length_cons→Lo,drop_eq_getElem_cons→Lq,replicate→Lr,mem_range→Lw,append_assoc→Lx,mem_filter→LC,map_congr_left→LH,mem_of_getElem?→LI,getElem?_append_left→LK,length_replicate→LR,take_append_drop→LS,length_drop→LW,mem_of_mem_take→L5,append_nil→Mb,nodup_nil→Mc,length_singleton→Me,getElem?_eq_none→Mf,getElem?_replicate→Mg,length_take→Mj,all_eq_true→Ml,length_nil→Mm,take_of_length_le→Mn,getElem?_of_mem→Mp,getElem?_set_self→Mw,pairwise_cons→Mz,length_set→MC,getElem?_set_ne→MF,mem_of_mem_drop→MJ,find?_cons→MM,ext_getElem→MN,pairwise_map→MS,drop_drop→M5,replicate_succ→M7,getElem?_range→M8,getElem_mem→Nd,filter_cons_of_pos→Nl,nil_append→Nm,drop_of_length_le→Nt,length_filter_le→NA,map_nil→NC,flatten_cons→ND,getElem?_take_of_lt→NI,not_mem_nil→NR,lookup_cons→NS,filter_cons_of_neg→NT,cons_append→NU,getElem?_drop→N7,drop_eq_nil_of_le→N8,toArray→N9,of_mem_zip→Oa,zip→Oc,any_cons→Od,sum_cons→Oe,perm_append_comm→Of,nodup_append→Oi,drop_zero→Ot,take_take→Ou,mem_iff_getElem→Oy,getElem_map→OB,take_length→OC,pairwise_iff_getElem→OD,getD_cons_zero→OF,mem_filterMap→OK,length_mapIdx→OP,getElem_range→OS,ext_getElem?→O1,range_succ_eq_map→O3,set_append_right→O8,any_eq_true→Pd,drop_length→Pe,nodup_range→Pg,eq_nil_of_length_eq_zero→Pl,mem_erase_of_ne→Po,foldl_cons→Pt,sum_append→Pw,filterMap_cons→Px,reverse_append→Py,length_zipWith→Pz,filter_eq_self→PB,getElem_of_mem→PD,getD_cons_succ→PF,mem_or_eq_of_mem_set→P6,take_add_one→Qf,map_id→Qg,set_eq_of_length_le→Qm,length_erase_of_mem→Qp,pairwise_mergeSort→Qz,length_pos_of_mem→QS,map_set→QV,append_eq_nil_iff→QW,contains_iff_mem→Q8,drop_take→Rp,take_succ→Rx,length_take_le'→Ry,length_pos_iff→RE,mergeSort_perm→RI,map_eq_nil_iff→RL,filter_sublist→RM,all_cons→RO,forIn_toArray→R7,find?_eq_none→R9,take_sublist→Sg,all_map→Sh,getElem?_set→So,map_snd_zip→Sz,toArray_inj→SE,length→SF,length_zip→SN,foldl→S2,forIn_nil→S9,sum→Tg,take_add→Ti,map_drop→To
open List.Nodup renaming sublist→Sa
open List.Pairwise renaming imp_of_mem→NN,nil→Qe
open List.Perm renaming append_left→Nz,append_right→OZ,refl→P0,eq_of_pairwise→Qo,trans→Q2
open Nat renaming lt_of_lt_of_le→Lc,le_refl→Lg,ne_of_lt→Lm,le_trans→LF,zero_le→LL,lt_irrefl→LP,lt_succ_of_lt→L6,le_of_lt→M0,ne_of_gt→Ng,lt_succ_self→Nu,min_eq_left→Ob,add_sub_cancel→ON,sub_self→PN,le_of_eq→PO,le_succ→Qc,lt_trans→QK,strongRecOn→Q3,min_self→Si
open Ne renaming symm→MY
open Option renaming map_eq_some_iff→LO,isSome_map→Qd,isSome_iff_exists→Qi,map_eq_none_iff→QR,map_some→QY,isSome_some→R1,none→Tz
open Option.some renaming inj→Lz
open Or renaming inl→Lk,inr→L3
open Prod renaming ext→TF
open Prod.mk renaming injEq→Tp
open PyProof.Rows renaming wpS_bind→KY,wpS_pure→K4,Keyed→Lb,seqObj→Ll,pendingOf→Ly,arrOf→LJ,wpS_forRange→Mo,SortKind→MU,SortSt→MW,wpS_modify→M6,get?_update_seq→M9,listUpdate_at→Nh,elem'→Ni,wpS_mono→Np,callWith_type1→Nr,IntsAre→OA,setPending→OO,size_push'→OR,seqEpoch_at→OU,wpS_get→O0,listItems_at→O2,ksk_tree→O9,failedOf→Pm,entry_list_sort→Pu,slot_list_sort→P4,callWith_kw→Qk,reverseSlice'→Ql,wpS_lift→Qv,AllBare→QB,envOfC→QF,subscriptTail_builtinR→QH,plain_sorted→QL,entry_sorted→QM,collect_list→QN,call_function_entry_kw→QP,kind_sorted→Rr,ksk_tree→Rt,envOfC→RG,lt_int→RH,wpAny_call_entry_kw→RK,keyKind'→Sm,News→Ss,wpS→SJ,gallopOf→S8,ksk_rest→Tc
open PyProof.Rows.IntsAre renaming length→NV
open PyProof.Rows.SortSt renaming mk'→R3
open PySem renaming Value→KD,wpAny_bind→KG,sizeLine→KH,Addr→KI,Shared→KJ,mainGlobals→Lf,wpAny→Lh,wpAny_pure→Lp,sizeLine_eq→Lv,wpAny_loadPart'→LG,Str→LV,FuncData→LX,Program→L0,Around→L4,wpAny_mono→L7,World→L9,wpAny_holding→Ma,bootBuiltins→Md,starEach→Mi,cellsFrom→Mt,Expr→Mv,Heap→ME,mem_of_lookup→MP,wpAny_truthy_bool→MR,Paired→MZ,assignEach→M3,compareOp→Nj,foldedSetIterable→Nk,codeAny_builtin→Nn,Obj→Nv,wpAny_passesOwn→NB,Builtin→NF,plainId_quiet→NL,wpAny_newList→NM,recursionLimit→NQ,Scope→NW,sysModules→NY,Stmt→NZ,wpAny_Call_Name_kw→N3,wpAny_rule→N4,keywordEach→Oq,compEnvC→Ow,wpAny_standAt→OG,tupleKind_room_in1→OM,closureFor→OQ,cLine→OT,backTo→OV,wpAny_tryCatch→OY,Arguments→Pa,argsOk→Pc,behindInMarks→Ph,binaryOp→Pk,wpAny_execs_nil→Pp,letOwnedTupleGo→Pq,codeAny→PJ,builtinsNs→PR,bindArgs→PV,backToKw→PX,wpAny_seqItems→PZ,wpAny_newTuple→P2,wpAny_pyIter_list→P8,Keyword→P9,argBest→Qa,wpAny_letGo→Qb,nums_intItems→Qj,wpAny_comprehension_free→Qn,Pos→Qq,TriplesOk→Qr,codeAmong→Qs,swapsWith→Qt,NameKind→Qu,pushCells→Qw,isTrue→QC,wpAny_pyNext_list_item→QD,codeAny_mono→QE,seqIndex_neg→QG,wpAny_getItem_list_neg→QI,call_meets→QJ,wpAny_updateSeq→Q1,pushCells_keeps→Q4,wpAny_isTrue_Compare1→Q6,wpAny_pyNext_list_end→Q7,wpAny_loadName_local→Rb,IntMulOk→Rc,seqIndex_of→Ri,subscripted→Rj,intItems→Rl,intItems_at→Rm,numAt_eq→Rn,getD_mem→Ro,newFunctionEnv→Rq,tupleKind→RA,BindsTo→RB,valueAt→RC,wpAny_loadName_cell→RD,Model→RN,attributeBase→RP,wpAny_attempt→RT,pyNext→RX,wpAny_evalAll_cons→RZ,checkCount→R6,getItem→Sb,callerA→Sn,rawInt→Su,seqItems?→Sx,richCompare→SG,atKey→SH,standAt→SS,Env→SU,wpAny_Name→SV,Operator→SW,wpAny_call→SX,bindL→SY,bindC→S0,typeIs_int→S1,numAt→S3,Fin→Tq,Within→Ts,Result→Tu,Tok→Tw
open PySem.Around renaming under_plainId→MG,frames_deeper→Rg
open PySem.AutoSeq1 renaming sub_list_list→QQ
open PySem.Bind renaming checkArgs→S4
open PySem.Builtin.Builtins renaming bindParams→PM
open PySem.Builtin.Int renaming intBits→MQ
open PySem.Builtin.List renaming listTooLong→NK
open PySem.Calls renaming Name_function_global→PU,call_function_entry→P5
open PySem.Data renaming seq→Sj
open PySem.F renaming plainAttrs_list→LU,slot_list_append→Mq,type_list_append→Mr,plain_max_loop→Nc,slot_list_extend→OI,type_list_extend→OJ,entry_max_loop→Pb
open PySem.Heap renaming get?_push_of_some→KN,lt_size→K1,get?_push_size→LD,get?_update_other→L8,get?_none_of_le→MX,size_update→Nf,size_push→Ov,get?_update_ne→OE,get?_push_ne→O4,get?_update_self→O7,SameBut→PH
open PySem.Heap.SameBut renaming update→Nq
open PySem.NameKind renaming cell→RS,free→Tj
open PySem.Obj renaming mapSeq→Lu
open PySem.P renaming truthy_int→RY
open PySem.Paired renaming length→MT,snoc→TB
open PySem.PassesOwn renaming never→MD
open PySem.SeqAt renaming EqAt→NJ,RcNeAt→Tv
open PySem.SeqAt.EqAt renaming int_int→OL,same→Pr,bool_bool→Rk,int_str→RU,str_int→RV,str_str→R0,of_refs→R5
open PySem.SeqAt.RcAt renaming lists_lengths→OH
open PySem.SeqAt.RcNeAt renaming lists_lengths→PY
open PySem.Value renaming ref→LM,none→MO,type→QA,bool→RW,int→Sq,str→Sr,isStrOf→Th
open PySem.W renaming Frag→KC,kia_one→MK,findIn→M4,mg_none_of→Ny,codeIn→NO,keepIn→NP,mg_of→NX,nsIn→Og,keepIn→Oj,kitOne→Ol,kla_fn→Ox,fnOf→Oz,specialIn→OW,cellsFrom_some→OX,katRev→O5,codeHdIn→Pf,methodObj→P7,mroIn→Qh,KatKeys→QO,instObj→QX,takesIn→QZ,kat_nil→Q5,kat_keys_mono→Ra,lookIn→Rf,codeIn→Rh,tabObj→Rw,codeHd_of_K→RJ,hasDictIn→Sd,kitx_list→Se,kitx_dict→Sf,plainGet→Sv,KatFin→SA,kat_kind→SD,makesIn→SI,kas_ask→SO,OpenLaw→SQ,kas_fr→Ta,news_set→Tb,kat_lt→Td,WalkO→Tn,isFn→Tt
open PySem.W.KasFin renaming intro→Rv
open PySem.W.KatBack renaming intro→Tx
open PySem.W.KatFin renaming intro→Ru
open PySem.W.KatKeys renaming cons→TC,nil→TH
open PySem.W.Looks renaming of_pure→Q9
open PySem.W.WData renaming weight→PL,int→PQ,weightAll→Q0,layableAll→Sw
open Sum renaming inl→Oh,inr→Rz
open Sum.inl renaming inj→Pj
open True renaming intro→Oo
namespace L2
open PySem PySem.Spec PyProof.Rows
abbrev Key:=Sum Int LV
def rW:Key→KD→Bool
 | .inl k,v=>Value.isInt k v
 | .inr x,v=>Th x v
def Jy (w:L9):Key→Int
 | .inl k=>hashInt k
 | .inr x=>hashStr w x
theorem cz:∀ {k:Key} {v:KD},rW k v=true→(∃ i t,k=Oh i∧v=Sq i t)∨(∃ x t,k=Rz x∧v=Sr x t)
 | .inl i,v,h=>by
  obtain ⟨t,e⟩:=Value.isInt_shape (k:=i) (v:=v) h
  exact .inl ⟨i,t,rfl,e⟩
 | .inr x,v,h=>by
  obtain ⟨t,e⟩:=Value.isStrOf_shape (x:=x) (v:=v) h
  exact .inr ⟨x,t,rfl,e⟩
theorem AB (i:Int) (t:Tw):rW (.inl i) (.int i t)=true:=by simp [rW,Value.isInt]
theorem AA (x:LV) (t:Tw):rW (.inr x) (.str x t)=true:=by simp [rW,Th]
theorem Hb (a b:Int):decide ((Oh a:Key)=Oh b)=(a==b):=by
 by_cases e:a=b
 ·subst e; simp
 ·have h:¬ (Oh a:Key)=Oh b:=fun q=>e (Pj q)
  rw [decide_eq_false h]
  exact (beq_eq_false_iff_ne.mpr e).symm
theorem G8 (a b:LV):decide ((Rz a:Key)=Rz b)=decide (a=b):=by
 by_cases e:a=b
 ·subst e; simp
 ·have h:¬ (Rz a:Key)=Rz b:=fun q=>e (Sum.inr.inj q)
  rw [decide_eq_false h,decide_eq_false e]
theorem Ha (a:Int) (b:LV):decide ((Oh a:Key)=Rz b)=false:=decide_eq_false (fun q=>nomatch q)
theorem G9 (a:LV) (b:Int):decide ((Rz a:Key)=Oh b)=false:=decide_eq_false (fun q=>nomatch q)
def cW (prog:L0) (w:L9):PySem.KeyKind prog w Key where
 is:=rW
 hash:=Jy w
 inj:=fun v a b ha hb=>by
  rcases cz ha with ⟨i,t,rfl,rfl⟩ | ⟨x,t,rfl,rfl⟩
  ·rcases cz hb with ⟨j,u,rfl,e⟩ | ⟨y,u,rfl,e⟩
   ·injection e with e1 _; rw [e1]
   ·exact nomatch e
  ·rcases cz hb with ⟨j,u,rfl,e⟩ | ⟨y,u,rfl,e⟩
   ·exact nomatch e
   ·injection e with e1 _; rw [e1]
 byValue:=fun k v h=>by
  rcases cz h with ⟨i,t,rfl,rfl⟩ | ⟨x,t,rfl,rfl⟩ <;> rfl
 pyHash:=fun hv h=>by
  rcases cz hv with ⟨i,t,rfl,rfl⟩ | ⟨x,t,rfl,rfl⟩
  ·exact wpAny_pyHash_int h
  ·exact wpAny_pyHash_str h
 eqBool:=fun hu hv h=>by
  rcases cz hu with ⟨i,t,rfl,rfl⟩ | ⟨x,t,rfl,rfl⟩
  ·rcases cz hv with ⟨j,u,rfl,rfl⟩ | ⟨y,u,rfl,rfl⟩
   ·rw [Hb] at h; exact wpAny_eqBool_int h
   ·rw [Ha] at h; exact RU i t y u _ _ _ _ h
  ·rcases cz hv with ⟨j,u,rfl,rfl⟩ | ⟨y,u,rfl,rfl⟩
   ·rw [G9] at h; exact RV x t j u _ _ _ _ h
   ·rw [G8] at h; exact wpAny_eqBool_str h
 «strs»:=fun k x t v h=>by
  rcases cz h with ⟨i,u,rfl,e⟩ | ⟨y,u,rfl,e⟩
  ·exact nomatch e
  ·injection e with e1 _
   subst e1
   cases v <;> rfl
theorem vn (prog:L0) (w:L9) (i:Int) (t:Tw):(cW prog w).is (.inl i) (.int i t)=true:=AB i t
theorem vm (prog:L0) (w:L9) (x:LV) (t:Tw):(cW prog w).is (.inr x) (.str x t)=true:=AA x t
inductive V where
 | non | bl (b:Bool) | int (i:Int) | str (x:LV) | byt (b:Array UInt8) | flt (b:UInt64) | ref (a:KI) | ty (n:String)
 deriving DecidableEq
def RelV:V→KD→Prop
 | .non,u=>u=MO
 | .bl b,u=>u=RW b
 | .int i,u=>∃ t,u=Sq i t
 | .str x,u=>∃ t,u=Sr x t
 | .byt b,u=>∃ t,u=Value.bytes b t
 | .flt b,u=>∃ t,u=Value.float b t
 | .ref a,u=>u=LM a
 | .ty n,u=>u=QA n
abbrev Vals:List V→List KD→Prop:=MZ RelV
theorem Vals.length {xs:List V} {us:List KD} (r:Vals xs us):xs.length=us.length:=MT r
theorem Vals.get:∀ {xs:List V} {us:List KD} {i:Nat} {x:V},Vals xs us→xs[i]?=some x→∃ u,us[i]?=some u∧RelV x u
 | _,_,_,_,.nil,e=>by simp at e
 | _,_,0,_,.cons r _,e=>by simp at e; subst e; exact ⟨_,rfl,r⟩
 | _,_,i+1,x,.cons _ t,e=>by
  obtain ⟨u,h1,h2⟩:=Vals.get (i:=i) (x:=x) t (by simpa using e)
  exact ⟨u,by simpa using h1,h2⟩
theorem Vals.set {x:V} {u:KD} (r:RelV x u):∀ {xs:List V} {us:List KD} (i:Nat),Vals xs us→Vals (xs.set i x) (us.set i u)
 | _,_,_,.nil=>.nil
 | _,_,0,.cons _ t=>.cons r t
 | _,_,i+1,.cons q t=>.cons q (Vals.set r i t)
theorem Vals.append:∀ {xs ys:List V} {us ws:List KD},Vals xs us→Vals ys ws→Vals (xs++ys) (us++ws)
 | _,_,_,_,.nil,s=>s
 | _,_,_,_,.cons r t,s=>.cons r (Vals.append t s)
def qM:Option V→Option KD→Prop
 | some v,some u=>RelV v u
 | none,none=>True
 | _,_=>False
def KV {κ:Type}:List (κ×V)→List (κ×KD)→Prop:=MZ fun (p:κ×V) (q:κ×KD)=>p.1=q.1∧RelV p.2 q.2
def kV:Key→V
 | .inl i=>.int i
 | .inr x=>.str x
inductive HO where
 | lst (xs:List V)
 | tup (xs:List V)
 | dK (kvs:List (Key×V)) | dT (kvs:List (List Key×V))
 | set (S:Int→Bool) (n:Nat)
 | ins (C dx:KI) (fs:List (LV×V))
 | own (x:KI)
 | xd (fs:List (LV×V))
 | met (f x:KI)
 | BQ (lo hi:Int)
 | jr (o:Nv) (u:HO)
 | tbl (ps:Array KD)
 | ext (φ:ME→Prop)
abbrev Hp:=KI→Option HO
def upd (H:Hp) (a:KI) (o:HO):Hp:=fun b=>if b=a then some o else H b
variable {H:Hp} {a:KI}
theorem aC {o:HO}:upd H a o a=some o:=by unfold upd; rw [if_pos rfl]
theorem av {b:KI} {o:HO} (h:b≠a):upd H a o b=H b:=by unfold upd; rw [if_neg h]
theorem sM {o u:HO}:upd (upd H a o) a u=upd H a u:=by
 funext b; unfold upd; split <;> rfl
theorem ID {b:KI} {o u:HO} (h:H a=some o) (h':H b=some u) (d:o≠u):a≠b:=by
 intro e; subst e; rw [h] at h'; exact d (Lz h')
theorem aV {b:KI} {o:HO} (h:H a=some o) (h':H b=none):a≠b:=by
 intro e; subst e; rw [h] at h'; cases h'
section
variable (P:L0) (w:L9)
def bQ (H:Hp) (h:ME) (a:KI):HO→Prop
 | .lst xs=>xs.length≤KH∧∃ (its:List KD) (n:Nat),Vals xs its∧h.get? a=some { cls:=.type "list", data:=.seq its.toArray n }
 | .tup xs=>xs.length≤KH∧∃ its:List KD,Vals xs its∧IsTup h a its.toArray
 | .dK kvs=>kvs.length≤KH∧(a==NY)=false∧∃ vs,KV kvs vs∧h.DictOf (cW P w) a vs
 | .dT kvs=>kvs.length≤KH∧(a==NY)=false∧∃ xs:List (List Key×KI×KD),
  MZ (fun (p:List Key×V) (q:List Key×KI×KD)=>p.1=q.1∧H q.2.1=some (.tup (p.1.map kV))∧RelV p.2 q.2.2) kvs xs ∧
  ∃ o es ep,h.get? a=some o∧o.ExactDict∧o.data=.dict es ep∧es.toList=xs.map (entryOfKey (RA (cW P w)))∧(xs.map (·.1)).Nodup
 | .set S n=>h.SetOf (intKind P w) a S n
 | .ins C dx fs=>H dx=some (.own a)∧fs.length≤1000∧dx≠a∧h.get? a=some (QX C dx) ∧
  ∃ mA,h.Ns1 dx mA∧(∀ f,qM (fs.lookup f) (mA f))∧Ts mA (fs.map (·.1))
 | .own _=>∃ o,h.get? a=some o
 | .xd fs=>∃ mA,h.Ns1 a mA∧∀ f,qM (fs.lookup f) (mA f)
 | .BQ lo hi=>∃ t u v,h.get? a=some { cls:=.type "range", data:=.fields #[.int lo t,.int hi u,.int 1 v] }
 | .jr o u=>h.get? a=some o∧bQ H h a u
 | .tbl ps=>∃ (q:LV) (t:Tw) (qs:Array KD),ps[0]?=some (.str q t)∧h.get? a=some { cls:=.none,data:=.fields qs }∧Qr qs.toList ∧
  ∀ pos v,Qs pos qs.toList=some v→∃ c o u vs t,v=.ref c∧H c=some (.jr o u)∧o.data=.fields vs∧vs[1]?=some (.str q t)
 | .met f x=>h.get? a=some (P7 (.ref f) (.ref x))
 | .ext φ=>φ h∧(∃ o,h.get? a=some o)∧∀ h1 h2:ME,φ h1→(∀ o,h1.get? a=some o→h2.get? a=some o)→φ h2
def ko (H:Hp) (h:ME):Prop:=∀ a o,H a=some o→bQ P w H h a o
end
section
variable {P:L0} {w:L9} {H H':Hp} {h h':ME} {a:KI} {o:HO}
theorem bQ.lt (x:bQ P w H h a o):a<h.objs.size:=by
 cases o with
 | lst xs=>obtain ⟨_,_,_,_,e⟩:=x; exact K1 e
 | tup xs=>obtain ⟨_,_,_,p⟩:=x; exact p.lt
 | dK kvs=>obtain ⟨_,_,_,_,o,_,_,e,_⟩:=x; exact K1 e
 | dT kvs=>obtain ⟨_,_,_,_,o,_,_,e,_⟩:=x; exact K1 e
 | set S n=>obtain ⟨o,_,_,_,e,_⟩:=x; exact K1 e
 | ins C dx fs=>obtain ⟨_,_,_,e,_⟩:=x; exact K1 e
 | own y=>obtain ⟨_,e⟩:=x; exact K1 e
 | xd fs=>obtain ⟨_,⟨_,_,_,e,_⟩,_⟩:=x; exact K1 e
 | BQ lo hi=>obtain ⟨_,_,_,e⟩:=x; exact K1 e
 | jr ob u=>obtain ⟨e,_⟩:=x; exact K1 e
 | tbl ps=>obtain ⟨_,_,_,_,e,_⟩:=x; exact K1 e
 | met f y=>exact K1 (show h.get? a=some _ from x)
 | ext φ=>obtain ⟨_,⟨_,e⟩,_⟩:=x; exact K1 e
theorem Paired.G0 {α β:Type} {F G:α→β→Prop}:∀ {l₁:List α} {l₂:List β},MZ F l₁ l₂→(∀ a b,F a b→G a b)→MZ G l₁ l₂
 | _,_,.nil,_=>.nil
 | _,_,.cons r t,f=>.cons (f _ _ r) (Paired.G0 t f)
theorem bQ.qR (x:bQ P w H h a o) (k:∀ b u,(b=a∨H b=some (.own a))→h.get? b=some u→h'.get? b=some u)
 (ho:∀ b,H b=some (.own a)→H' b=some (.own a)) (ht:∀ b xs,H b=some (.tup xs)→H' b=some (.tup xs)) (hz:∀ b o u,H b=some (.jr o u)→H' b=some (.jr o u):=by first | exact fun _ _ _ q=>q | (intro b o u q; rw [av (aV q (by assumption))]; exact q)):bQ P w H' h' a o:=by
 induction o with
 | lst xs=>obtain ⟨z,its,n,r,e⟩:=x; exact ⟨z,its,n,r,k _ _ (.inl rfl) e⟩
 | tup xs=>obtain ⟨z,its,r,ob,e,c⟩:=x; exact ⟨z,its,r,ob,k _ _ (.inl rfl) e,c⟩
 | dK kvs=>obtain ⟨z,y,vs,r,ob,es,ep,e,c⟩:=x; exact ⟨z,y,vs,r,ob,es,ep,k _ _ (.inl rfl) e,c⟩
 | dT kvs =>
  obtain ⟨z,y,xs,r,ob,es,ep,e,c⟩:=x
  exact ⟨z,y,xs,Paired.G0 r fun p q z=>⟨z.1,ht _ _ z.2.1,z.2.2⟩,ob,es,ep,k _ _ (.inl rfl) e,c⟩
 | set S n=>obtain ⟨ob,es,ep,t,e,c⟩:=x; exact ⟨ob,es,ep,t,k _ _ (.inl rfl) e,c⟩
 | ins C dx fs =>
  obtain ⟨d,z,ne,e,mA,⟨od,es,ep,e2,c⟩,r⟩:=x
  exact ⟨ho _ d,z,ne,k _ _ (.inl rfl) e,mA,⟨od,es,ep,k _ _ (.inr d) e2,c⟩,r⟩
 | own y=>obtain ⟨ob,e⟩:=x; exact ⟨ob,k _ _ (.inl rfl) e⟩
 | xd fs=>obtain ⟨mA,⟨od,es,ep,e,c⟩,r⟩:=x; exact ⟨mA,⟨od,es,ep,k _ _ (.inl rfl) e,c⟩,r⟩
 | BQ lo hi=>obtain ⟨t,u,v,e⟩:=x; exact ⟨t,u,v,k _ _ (.inl rfl) e⟩
 | jr ob u ih=>obtain ⟨e,q⟩:=x; exact ⟨k _ _ (.inl rfl) e,ih q⟩
 | tbl ps =>
  obtain ⟨q,t,qs,h0,h1,h2,h3⟩:=x
  refine ⟨q,t,qs,h0,k _ _ (.inl rfl) h1,h2,fun pos v e=>?_⟩
  obtain ⟨c,o,u,vs,t2,e1,e2,e3⟩:=h3 pos v e
  exact ⟨c,o,u,vs,t2,e1,hz _ _ _ e2,e3⟩
 | met f y =>
  have e:h.get? a=some (P7 (.ref f) (.ref y)):=x
  show h'.get? a=some (P7 (.ref f) (.ref y))
  exact k a _ (.inl rfl) e
 | ext φ=>obtain ⟨p,⟨o,e⟩,st⟩:=x; exact ⟨st _ _ p fun o q=>k _ _ (.inl rfl) q,⟨o,k _ _ (.inl rfl) e⟩,st⟩
theorem ko.lt (x:ko P w H h) (e:H a=some o):a<h.objs.size:=(x a o e).lt
theorem ko.fresh (x:ko P w H h) (e:h.objs.size≤a):H a=none:=by
 cases q:H a with
 | none=>rfl
 | some u=>exact absurd (Lc (x.lt q) e) (LP _)
theorem ko.kept (x:ko P w H h) (k:∀ b u,h.get? b=some u→h'.get? b=some u):ko P w H h':=fun a o e =>
 (x a o e).qR (fun b u _ q=>k b u q) (fun _ q=>q) fun _ _ q=>q
theorem ko.laid (x:ko P w H h) (k:∀ b u,h.get? b=some u→h'.get? b=some u) (hp:h.objs.size≤a) (new:bQ P w (upd H a o) h' a o):ko P w (upd H a o) h':=fun b u e=>by
 have hn:=x.fresh hp
 by_cases hb:b=a
 ·subst hb; rw [aC] at e; cases e; exact new
 ·rw [av hb] at e
  exact (x b u e).qR (fun c v _ q=>k c v q) (fun c q=>by rw [av (aV q hn)]; exact q) fun c xs q=>by rw [av (aV q hn)]; exact q
end
def Rd (H:Hp) (a:KI) (u:HO):Prop:=H a=some u∨∃ o,H a=some (.jr o u)
variable {P:L0} {h:ME}
theorem Rd.ok {w:L9} {u:HO} (r:Rd H a u) (x:ko P w H h):bQ P w H h a u:=by
 rcases r with r | ⟨o,r⟩
 ·exact x a u r
 ·obtain ⟨_,q⟩:=x a _ r
  exact q
def IV:Option HO→Prop
 | some (.lst _)=>True
 | some (.dK _)=>True
 | some (.dT _)=>True
 | some (.set _ _)=>True
 | some (.ins _ _ _)=>True
 | some (.ext _)=>True
 | _=>False
section
variable {P:L0} {w:L9} {H:Hp} {h h':ME} {x e:KI} {o':HO}
theorem ko.write (ok:ko P w H h) (mu:IV (H x)) (he:e=x∨H e=some (.own x)) (k:∀ b u,b≠e→h.get? b=some u→h'.get? b=some u) (heo:∃ u,h'.get? e=some u)
 (new:bQ P w (upd H x o') h' x o'):ko P w (upd H x o') h':=fun b u q=>by
 have nown:∀ c y,H c=some (.own y)→c≠x:=fun c y r z=>by subst z; rw [r] at mu; exact mu
 have ntup:∀ c xs,H c=some (.tup xs)→c≠x:=fun c xs r z=>by subst z; rw [r] at mu; exact mu
 have nfrz:∀ c o u,H c=some (.jr o u)→c≠x:=fun c o u r z=>by subst z; rw [r] at mu; exact mu
 by_cases hb:b=x
 ·subst hb; rw [aC] at q; cases q; exact new
 ·rw [av hb] at q
  by_cases hbe:b=e
  ·have q':H b=some (.own x):=by
    rcases he with z | z
    ·exact absurd (hbe.trans z) hb
    ·rw [hbe]; exact z
   rw [q] at q'; cases q'
   obtain ⟨v,hv⟩:=heo
   exact ⟨v,by rw [hbe]; exact hv⟩
  ·refine (ok b u q).qR (fun c v hc r=>k c v ?_ r) (fun c r=>by rw [av (nown c b r)]; exact r) (fun c xs r=>by rw [av (ntup c xs r)]; exact r) fun c o u r=>by rw [av (nfrz c o u r)]; exact r
   rcases hc with rfl | hc
   ·exact hbe
   ·rintro rfl
    rcases he with z | z
    ·exact nown c b hc z
    ·rw [hc] at z; cases z; exact hb rfl
end
structure Un (fs ex:List KI) (H H':Hp) (h h':ME):Prop where
 keep:∀ b o,h.get? b=some o→H b=none→b∉fs→b∉ex→h'.get? b=some o
 slot:∀ b o,h.get? b=some o→H b=none→b∈fs→b∉ex→∃ sl,h'.get? b=some { o with slots:=sl }
 free:∀ b o,h.get? b=some o→H b=none→b∉ex→H' b=none
 there:∀ b o,h.get? b=some o→b∉ex→∃ o',h'.get? b=some o'
 sO:∀ b xs,H b=some (.tup xs)→H' b=some (.tup xs)
 q9:∀ b o u,H b=some (.jr o u)→H' b=some (.jr o u)
 qQ:∀ b ps,H b=some (.tbl ps)→∃ more,H' b=some (.tbl (ps++more))
section
variable {fs fs' ex ex':List KI} {H H1 H2:Hp} {h h1 h2 h':ME} {a x e:KI} {o:HO}
theorem Un.any (u:Un fs ex H H1 h h1) {b:KI} {ob:Nv} (q:h.get? b=some ob) (n:H b=none) (hx:b∉ex):∃ sl,h1.get? b=some { ob with slots:=sl }:=by
 by_cases hb:b∈fs
 ·exact u.slot b ob q n hb hx
 ·exact ⟨ob.slots,u.keep b ob q n hb hx⟩
theorem Un.kept (k:∀ b u,h.get? b=some u→h'.get? b=some u):Un fs ex H H h h' :=
 ⟨fun b ob q _ _ _=>k b ob q,fun b ob q _ _ _=>⟨ob.slots,k b ob q⟩,fun _ _ _ n _=>n,fun b ob q _=>⟨ob,k b ob q⟩,fun _ _ q=>q,fun _ _ _ q=>q,fun _ ps q=>⟨#[],by rw [q]; simp⟩⟩
theorem Un.refl:Un fs ex H H h h:=Un.kept fun _ _ q=>q
theorem Un.laid (k:∀ b u,h.get? b=some u→h'.get? b=some u) (hp:h.objs.size≤a) (hn:H a=none):Un fs ex H (upd H a o) h h' where
 keep:=fun b u q _ _ _=>k b u q
 slot:=fun b u q _ _ _=>⟨u.slots,k b u q⟩
 free:=fun b u q n _=>by rw [av (Lm (Lc (K1 q) hp))]; exact n
 there:=fun b u q _=>⟨u,k b u q⟩
 sO:=fun b xs q=>by rw [av (aV q hn)]; exact q
 q9:=fun b u xs q=>by rw [av (aV q hn)]; exact q
 qQ:=fun b ps q=>⟨#[],by rw [av (aV q hn),q]; simp⟩
theorem Un.write (mu:IV (H x)) (he:e=x∨H e=some (.own x)) (k:∀ b u,b≠e→h.get? b=some u→h'.get? b=some u) (heo:∃ u,h'.get? e=some u):Un fs ex H (upd H x o) h h':=by
 have hx:∀ b,H b=none→b≠x:=fun b n z=>by subst z; rw [n] at mu; exact mu
 have hb:∀ b,H b=none→b≠e:=fun b n z=>by
  subst z
  rcases he with r | r
  ·exact hx b n r
  ·rw [n] at r; cases r
 have hm:∀ b u,H b=some u→¬ IV (some u)→b≠x:=fun b u q nm z=>by subst z; rw [q] at mu; exact nm mu
 refine ⟨fun b u q n _ _=>k b u (hb b n) q,fun b u q n _ _=>⟨u.slots,k b u (hb b n) q⟩,fun b u q n _=>by rw [av (hx b n)]; exact n,fun b u q _=>?_,
  fun b xs q=>by rw [av (hm b _ q fun z=>z)]; exact q,fun b u xs q=>by rw [av (hm b _ q fun z=>z)]; exact q,fun b ps q=>⟨#[],by rw [av (hm b _ q fun z=>z),q]; simp⟩⟩
 by_cases hbe:b=e
 ·subst hbe; exact heo
 ·exact ⟨u,k b u hbe q⟩
end
def Jb (h:ME) (H:Hp):List KI:=(KW h.objs.size).filter fun a=>(H a).isSome
def qY (h:ME) (H:Hp):ME:=PySem.W.hideAll h (Jb h H)
theorem AK (h:ME) (H:Hp):(qY h H).objs.size=h.objs.size:=PySem.W.hideAll_size _ _
variable {o:Nv}
theorem CI {b:KI} (e:h.get? b=some o) (n:H b=none):(qY h H).get? b=some o :=
 PySem.W.hideAll_get _ e fun hm=>by
  have q:(H b).isSome=true:=(LC.mp hm).2
  rw [n] at q; simp at q
theorem Em {b:KI} (e:(qY h H).get? b=some o):h.get? b=some o∧H b=none:=by
 have e':h.get? b=some o:=PySem.W.of_hideAll (Jb h H) e
 refine ⟨e',?_⟩
 cases q:H b with
 | none=>rfl
 | some x =>
  have hm:b∈Jb h H:=LC.mpr ⟨Lw.mpr (K1 e'),by simp [q]⟩
  have z:(qY h H).get? b=none:=PySem.W.hideAll_none (Jb h H) hm
  rw [z] at e; cases e
def jv (g h:ME) (L:KI):List (KI×Nv):=(KW h.objs.size).filterMap fun a=>if a=L∨(g.get? a).isSome=true then none else (h.get? a).map fun o=>(a,o)
variable {L:KI}
theorem cZ {g:ME} (h1:a≠L) (h2:g.get? a=none) (h3:h.get? a=some o):(a,o)∈jv g h L :=
 OK.mpr ⟨a,Lw.mpr (K1 h3),by simp [h1,h2,h3]⟩
variable {p:KI×Nv}
theorem pO {g:ME} (hp:p∈jv g h L):p.1≠L∧g.get? p.1=none∧h.get? p.1=some p.2:=by
 obtain ⟨b,_,e⟩:=OK.mp hp
 split at e
 ·cases e
 ·rename_i hn
  cases q:h.get? b with
  | none=>rw [q] at e; simp at e
  | some u =>
   rw [q] at e
   simp only [QY,Option.some.injEq] at e
   subst e
   refine ⟨fun z=>hn (.inl z),?_,q⟩
   show g.get? b=none
   cases r:g.get? b with
   | none=>rfl
   | some v=>exact (hn (.inr (by simp [r]))).elim
def rest (g h:ME) (L d:KI):List (KI×Nv):=(jv g h L).filter fun p=>decide (p.1≠d)
theorem oB {g:ME} {d:KI}:∀ p∈rest g h L d,p.1≠d:=fun p hp=>of_decide_eq_true (LC.mp hp).2
theorem pP {g:ME}:Ss g L h (jv g h L):=fun p hp=>let ⟨a,b,c⟩:=pO hp; ⟨c,a,b⟩
theorem kQ {g:ME} {d:KI} (h1:d≠L) (h2:g.get? d=none) (h3:h.get? d=some o):Ss g L h ((d,o)::rest g h L d):=fun p hp=>by
 rcases KP.mp hp with rfl | hp
 ·exact ⟨h3,h1,h2⟩
 ·exact pP p (LC.mp hp).1
structure Mod (K:KC) (mg:LV→Option KD) (base:ME):Prop where
 Jd:K.In base
 glob:base.Ns Lf mg
 blt:∃ mb,base.Ns PR mb∧∀ x:LV,x ≠ "__name__" → mb x=Md x
 nolimit:base.NoLimit
structure Cx where
 prog:L0
 w:L9
 K:KC
 mg:LV→Option KD
 base:ME
 A:L4
 N:List LV
 s₀:KJ
 H₀:Hp
 env:SU
 outer:List SU
 stack:List SU
 ex:List KI
 fn:LV→Bool
 calm:Bool
 pn:List (KI×Nv)
 xe:KD→KJ→Prop
def Be (l:List SU):List KI:=l.filterMap (·.frame)
abbrev Cx.fs (X:Cx):List KI:=Be X.outer
def HB (sc:NW) (x:LV):Prop:=sc.names.lookup x=some .local∨sc.names.lookup x=some .cell∨sc.names.lookup x=some .free
def Loc (sc:NW) (x:LV):Prop:=sc.names.lookup x=some .local∨sc.names.lookup x=some .cell
def Look (env:SU) (h:ME) (m:LV→Option KD) (x:LV) (u:KD):Prop :=
 (env.kindOf x=some .local∧m x=some u)∨((env.kindOf x=some .cell∨env.kindOf x=some .free)∧∃ c,env.cells.lookup x=some c∧h.IsCell c (some u))
structure Cx.Ok (X:Cx):Prop where
 mod:Mod X.K X.mg X.base
 kind:X.env.scope.kind=.function
 glob:X.env.globals=Lf
 blt:X.env.builtins=PR
 above:X.s₀.heap.objs.size≤X.env.locals
 inj:∀ x y c,X.env.cells.lookup x=some c→X.env.cells.lookup y=some c→x=y
 has:∀ x,(X.env.kindOf x=some .cell∨X.env.kindOf x=some .free)→∃ c,X.env.cells.lookup x=some c
 cab:∀ x c,X.fn x=true→X.env.cells.lookup x=some c→X.s₀.heap.objs.size≤c
 hd:X.calm=true→X.A.handled=none
 frames:X.A.frames=some X.stack
 Fp:X.stack=X.outer∨(X.stack=X.env::X.outer∧X.env.frame=some X.env.locals)
 exf:∀ b∈X.ex,b≠X.env.locals∧∀ x c,X.env.cells.lookup x=some c→c≠b
 bs:∀ b o,X.base.get? b=some o→X.s₀.heap.get? b=some o∧X.H₀ b=none
 zm:X.base.objs.size≤X.s₀.heap.objs.size
 noex:∀ b o,X.base.get? b=some o→b∉X.ex
 CO:∀ b∈X.ex,b∉X.fs
 mN:X.s₀.heap.FunFrames X.base X.outer
 HQ:∀ b∈X.fs,X.H₀ b=none
variable {t':Nat} {ch:List KI} {it:KI} {x:LV} {M:RN} {A:L4} {E:KD→KJ→Prop} {u:KD} {Q:Unit→KJ→Prop}
structure Inv (X:Cx) (pins:List (KI×Nv)) (σ:List (Option V)) (H:Hp) (s:KJ):Prop where
 ok:X.Ok
 os:s.os=X.s₀.os
 bare:QB s.gens
 base:Un X.fs X.ex X.H₀ H X.s₀.heap s.heap
 loc:∃ m,s.heap.Ns X.env.locals m∧∀ (i:Nat) (x:LV) (v:V),X.N[i]?=some x→σ[i]?=some (some v)→HB X.env.scope x→∃ u,RelV v u∧Look X.env s.heap m x u
 cell:∀ x c,X.env.cells.lookup x=some c→∃ v,s.heap.IsCell c v
 free:H X.env.locals=none
 g6:∀ x c,X.env.cells.lookup x=some c→H c=none
 pin:∀ p∈X.pn++pins,s.heap.get? p.1=some p.2∧H p.1=none∧p.1≠X.env.locals∧p.1∉X.fs∧∀ v,p.2.data≠.cell v
 cu:ko X.prog X.w H s.heap
 len:σ.length=X.N.length
section
variable {X:Cx} {pins:List (KI×Nv)} {σ:List (Option V)} {H H':Hp} {s:KJ} {h':ME}
theorem Cx.Ok.Jv (ok:X.Ok) {b:KI} (e:X.base.get? b=some o):b∉X.fs:=fun hb=>by
 have:=(ok.mN.mem hb).1
 rw [e] at this; cases this
theorem Inv.bs (I:Inv X pins σ H s):∀ b o,X.base.get? b=some o→s.heap.get? b=some o∧H b=none:=fun b o e =>
 ⟨I.base.keep b o (I.ok.bs b o e).1 (I.ok.bs b o e).2 (I.ok.Jv e) (I.ok.noex b o e),I.base.free b o (I.ok.bs b o e).1 (I.ok.bs b o e).2 (I.ok.noex b o e)⟩
theorem Inv.bk (I:Inv X pins σ H s):∀ b o,X.base.get? b=some o→s.heap.get? b=some o:=fun b o e=>(I.bs b o e).1
theorem Inv.mod (I:Inv X pins σ H s):Mod X.K X.mg X.base:=I.ok.mod
theorem Inv.vA (I:Inv X pins σ H s):X.K.In s.heap:=I.ok.mod.Jd.keeps I.bk
theorem Inv.nolimit (I:Inv X pins σ H s):s.heap.NoLimit:=I.ok.mod.nolimit.keeps I.bk
theorem Inv.fr (I:Inv X pins σ H s):∃ m,Fr X.base X.env.locals s.heap m :=
 let ⟨m,hn,_⟩:=I.loc
 ⟨m,hn,I.bk,LF I.ok.zm I.ok.above⟩
theorem Inv.lt (I:Inv X pins σ H s):X.env.locals<s.heap.objs.size:=let ⟨_,hn,_⟩:=I.loc; hn.lt
theorem Inv.sz (I:Inv X pins σ H s):X.s₀.heap.objs.size≤s.heap.objs.size:=LF I.ok.above (M0 I.lt)
theorem Inv.Ju (I:Inv X pins σ H s) (h:s.heap.objs.size≤a):a∉X.fs:=fun hb=>by
 obtain ⟨_,o,ho,_⟩:=I.ok.mN.mem hb
 exact absurd (Lc (K1 ho) (LF I.sz h)) (LP _)
theorem Inv.Hv (I:Inv X pins σ H s):∀ x c,X.env.cells.lookup x=some c→c≠X.env.locals:=fun x c e z=>by
 obtain ⟨v,o,ho,hd⟩:=I.cell x c e
 obtain ⟨m,⟨o',es,ep,ho',hd',_⟩,_⟩:=I.loc
 rw [z,ho'] at ho; cases ho; rw [hd'] at hd; cases hd
theorem Inv.mN (I:Inv X pins σ H s):s.heap.FunFrames X.base X.outer:=by
 have all:∀ (l:List SU),(∀ b∈Be l,b∈X.fs)→X.s₀.heap.FunFrames X.base l→s.heap.FunFrames X.base l:=by
  intro l
  induction l with
  | nil=>intro _ _; trivial
  | cons env r ih =>
   intro hs hl
   obtain ⟨hk,⟨L,o,hf,hn,ho,hd⟩,hr⟩:=hl
   have hL:L∈X.fs:=hs L (by unfold Be; rw [Px,hf]; exact Ky)
   obtain ⟨sl,e⟩:=I.base.slot L o ho (I.ok.HQ L hL) hL fun z=>I.ok.CO L z hL
   exact ⟨hk,⟨L,_,hf,hn,e,hd⟩,ih (fun b hb=>hs b (by unfold Be; rw [Px,hf]; exact Kx _ hb)) hr⟩
 exact all X.outer (fun _ hb=>hb) I.ok.mN
theorem Inv.stack (I:Inv X pins σ H s):s.heap.FunFrames X.base X.stack:=by
 rcases I.ok.Fp with e | ⟨e,hf⟩
 ·rw [e]; exact I.mN
 ·rw [e]
  obtain ⟨m,hn,_⟩:=I.loc
  refine .cons (by rw [I.ok.kind]; decide) hf hn ?_ I.mN
  exact MX (LF I.ok.zm I.ok.above)
theorem Inv.o7 (I:Inv X pins σ H s):∀ b∈Be X.stack,b∈X.env.locals::X.fs:=fun b hb=>by
 rcases I.ok.Fp with e | ⟨e,hf⟩
 ·rw [e] at hb; exact Kx _ hb
 ·rw [e] at hb
  unfold Be at hb
  rw [Px,hf] at hb
  exact hb
theorem Inv.sR (I:Inv X pins σ H s):∀ b∈Be X.stack,H b=none:=fun b hb=>by
 rcases KP.mp (I.o7 b hb) with e | hb
 ·rw [e]; exact I.free
 ·obtain ⟨_,o,ho,_⟩:=I.ok.mN.mem hb
  exact I.base.free b o ho (I.ok.HQ b hb) fun z=>I.ok.CO b z hb
theorem Inv.step {g':Array GenState} {t':Nat} {d':Drawn} {ch:List KI} (I:Inv X pins σ H s)
 (hch:∀ b∈ch,(b∈X.ex∨X.s₀.heap.objs.size≤b)∧b≠X.env.locals∧(∀ x c,X.env.cells.lookup x=some c→c≠b)∧∀ p∈X.pn++pins,p.1≠b)
 (keep:∀ b o,b≠X.env.locals→b∉X.fs→b∉ch→s.heap.get? b=some o→H b=none→h'.get? b=some o)
 (slot:∀ b o,b≠X.env.locals→b∈X.fs→b∉ch→s.heap.get? b=some o→H b=none→∃ sl,h'.get? b=some { o with slots:=sl }) (free:∀ b o,b∉ch→s.heap.get? b=some o→H b=none→H' b=none)
 (there:∀ b o,b∉ch→s.heap.get? b=some o→∃ o',h'.get? b=some o')
 (sO:∀ b xs,H b=some (.tup xs)→H' b=some (.tup xs)) (q9:∀ b o u,H b=some (.jr o u)→H' b=some (.jr o u)) (qQ:∀ b ps,H b=some (.tbl ps)→∃ more,H' b=some (.tbl (ps++more)))
 (ns:∀ m,s.heap.Ns X.env.locals m→h'.Ns X.env.locals m) (cu:ko X.prog X.w H' h') (hg:QB g') :
 Inv X pins σ H' { s with heap:=h',gens:=g',drawn:=d',toks:=t' }:=by
 have neL:∀ b o,X.s₀.heap.get? b=some o→b≠X.env.locals:=fun b o e=>Lm (Lc (K1 e) I.ok.above)
 have neC:∀ b o,X.s₀.heap.get? b=some o→b∉X.ex→b∉ch:=fun b o e hx hb=>by
  rcases (hch b hb).1 with z | z
  ·exact hx z
  ·exact absurd (Lc (K1 e) z) (LP _)
 have cellK:∀ x c,X.env.cells.lookup x=some c→∀ v,s.heap.IsCell c v→h'.IsCell c v:=fun x c e v ⟨o,ho,hd⟩=>by
  have nch:c∉ch:=fun z=>(hch c z).2.2.1 x c e rfl
  by_cases hc:c∈X.fs
  ·obtain ⟨sl,q⟩:=slot c o (I.Hv x c e) hc nch ho (I.g6 x c e)
   exact ⟨_,q,hd⟩
  ·exact ⟨o,keep c o (I.Hv x c e) hc nch ho (I.g6 x c e),hd⟩
 refine ⟨I.ok,I.os,hg,⟨fun b o e n hb hx=>?_,fun b o e n hb hx=>?_,fun b o e n hx=>?_,fun b o e hx=>?_,fun b xs e=>sO b xs (I.base.sO b xs e),fun b o xs e=>q9 b o xs (I.base.q9 b o xs e),fun b ps e=>?_⟩,?_,fun x c e=>?_,?_,fun x c e=>?_,fun p hp=>?_,cu,I.len⟩
 ·exact keep b o (neL b o e) hb (neC b o e hx) (I.base.keep b o e n hb hx) (I.base.free b o e n hx)
 ·obtain ⟨sl,e1⟩:=I.base.slot b o e n hb hx
  obtain ⟨sl',e2⟩:=slot b _ (neL b o e) hb (neC b o e hx) e1 (I.base.free b o e n hx)
  exact ⟨sl',e2⟩
 ·obtain ⟨o',e1⟩:=I.base.there b o e hx
  exact free b o' (neC b o e hx) e1 (I.base.free b o e n hx)
 ·obtain ⟨o',e1⟩:=I.base.there b o e hx
  exact there b o' (neC b o e hx) e1
 ·obtain ⟨m1,e1⟩:=I.base.qQ b ps e
  obtain ⟨m2,e2⟩:=qQ b _ e1
  exact ⟨m1++m2,by rw [e2,Array.append_assoc]⟩
 ·obtain ⟨m,hn,hl⟩:=I.loc
  refine ⟨m,ns m hn,fun i x v e1 e2 e3=>?_⟩
  obtain ⟨u,r,l⟩:=hl i x v e1 e2 e3
  refine ⟨u,r,?_⟩
  rcases l with l | ⟨k,c,e,z⟩
  ·exact .inl l
  ·exact .inr ⟨k,c,e,cellK x c e _ z⟩
 ·obtain ⟨v,z⟩:=I.cell x c e
  exact ⟨v,cellK x c e v z⟩
 ·obtain ⟨m,⟨o,_,_,ho,_⟩,_⟩:=I.loc
  exact free _ o (fun z=>(hch _ z).2.1 rfl) ho I.free
 ·obtain ⟨v,o,ho,hd⟩:=I.cell x c e
  exact free c o (fun z=>(hch c z).2.2.1 x c e rfl) ho (I.g6 x c e)
 ·obtain ⟨e,n,ne,nf,d⟩:=I.pin p hp
  have nch:p.1∉ch:=fun z=>(hch p.1 z).2.2.2 p hp rfl
  exact ⟨keep p.1 p.2 ne nf nch e n,free p.1 p.2 nch e n,ne,nf,d⟩
theorem Inv.un (I:Inv X pins σ H s) (u:Un X.fs [] H H' s.heap h') (cu:ko X.prog X.w H' h'):Inv X pins σ H' { s with heap:=h',toks:=t' }:=by
 obtain ⟨m,⟨o,es,ep,ho,r⟩,_⟩:=id I.loc
 obtain ⟨sl,hL⟩:=u.any ho I.free (by simp)
 exact I.step (g':=s.gens) (d':=s.drawn) (ch:=[]) (fun _ z=>nomatch z) (fun b o _ hb _ e n=>u.keep b o e n hb (by simp)) (fun b o _ hb _ e n=>u.slot b o e n hb (by simp)) (fun b o _ e n=>u.free b o e n (by simp)) (fun b o _ e=>u.there b o e (by simp)) u.sO u.q9 u.qQ (fun m' hm=>by
  obtain ⟨o',es',ep',ho',r'⟩:=hm
  rw [ho] at ho'; cases ho'
  exact ⟨_,es',ep',hL,r'⟩) cu I.bare
theorem Inv.call {g':Array GenState} {d':Drawn} (I:Inv X pins σ H s) (u:Un (Be X.stack) ch H H' s.heap h') (cu:ko X.prog X.w H' h') (hg:QB g')
 (hch:∀ b∈ch,(b∈X.ex∨X.s₀.heap.objs.size≤b)∧b≠X.env.locals∧(∀ x c,X.env.cells.lookup x=some c→c≠b)∧∀ p∈X.pn++pins,p.1≠b) :
 Inv X pins σ H' { s with heap:=h',gens:=g',drawn:=d',toks:=t' }:=by
 obtain ⟨m,⟨o,es,ep,ho,r⟩,_⟩:=id I.loc
 obtain ⟨sl,hL⟩:=u.any ho I.free fun z=>(hch _ z).2.1 rfl
 exact I.step (ch:=ch) hch (fun b o hL hb hc e n=>u.keep b o e n (fun z=>(KP.mp (I.o7 b z)).elim hL hb) hc) (fun b o _ _ hc e n=>u.any e n hc) (fun b o hc e n=>u.free b o e n hc) (fun b o hc e=>u.there b o e hc) u.sO u.q9 u.qQ (fun m' hm=>by
  obtain ⟨o',es',ep',ho',r'⟩:=hm
  rw [ho] at ho'; cases ho'
  exact ⟨_,es',ep',hL,r'⟩) cu hg
theorem Inv.turned (I:Inv X pins σ H s) (k:∀ b o,b≠it→s.heap.get? b=some o→h'.get? b=some o) (hn:H it=none) (hL:it≠X.env.locals)
 (h1:it∈X.ex∨X.s₀.heap.objs.size≤it) (h2:∀ x c,X.env.cells.lookup x=some c→c≠it) (h3:∀ p∈X.pn++pins,p.1≠it):Inv X pins σ H { s with heap:=h',toks:=t' }:=by
 have nit:∀ b u,H b=some u→b≠it:=fun b u e z=>by rw [z,hn] at e; cases e
 refine I.step (g':=s.gens) (d':=s.drawn) (ch:=[it]) (fun b hb=>?_) (fun b o _ _ hc e _=>k b o (fun z=>hc (by simp [z])) e) (fun b o _ _ hc e _=>⟨o.slots,k b o (fun z=>hc (by simp [z])) e⟩) (fun _ _ _ _ n=>n)
  (fun b o hc e=>⟨o,k b o (fun z=>hc (by simp [z])) e⟩) (fun _ _ e=>e) (fun _ _ _ e=>e) (fun b ps e=>⟨#[],by rw [e]; simp⟩) (fun m hm=>?_) (fun b u e=>?_) I.bare
 ·have e:b=it:=by simpa using hb
  subst e
  exact ⟨h1,hL,h2,h3⟩
 ·obtain ⟨o,es,ep,ho,r⟩:=hm
  exact ⟨o,es,ep,k _ o (MY hL) ho,r⟩
 ·refine (I.cu b u e).qR (fun c v hc q=>k c v ?_ q) (fun _ q=>q) fun _ _ q=>q
  rcases hc with z | z
  ·rw [z]; exact nit b u e
  ·exact nit c _ z
theorem Inv.tok (I:Inv X pins σ H s) (t:Nat):Inv X pins σ H { s with toks:=t }:=I.un (h':=s.heap) (t':=t) Un.refl I.cu
theorem Inv.kept {t':Nat} (I:Inv X pins σ H s) (k:∀ b u,s.heap.get? b=some u→h'.get? b=some u):Inv X pins σ H { s with heap:=h',toks:=t' }:=I.un (Un.kept k) (I.cu.kept k)
theorem Inv.laid {a:KI} {o:HO} {t':Nat} (I:Inv X pins σ H s) (k:∀ b u,s.heap.get? b=some u→h'.get? b=some u) (hp:s.heap.objs.size≤a) (new:bQ X.prog X.w (upd H a o) h' a o) :
 Inv X pins σ (upd H a o) { s with heap:=h',toks:=t' }:=I.un (Un.laid k hp (I.cu.fresh hp)) (I.cu.laid k hp new)
theorem Inv.write {x e:KI} {o:HO} {t':Nat} (I:Inv X pins σ H s) (mu:IV (H x)) (he:e=x∨H e=some (.own x)) (k:∀ b u,b≠e→s.heap.get? b=some u→h'.get? b=some u) (heo:∃ u,h'.get? e=some u)
 (new:bQ X.prog X.w (upd H x o) h' x o):Inv X pins σ (upd H x o) { s with heap:=h',toks:=t' }:=I.un (Un.write mu he k heo) (I.cu.write mu he k heo new)
theorem Inv.weak {σ':List (Option V)} (I:Inv X pins σ H s) (hl:σ'.length=σ.length) (w:∀ (i:Nat) v,σ'[i]?=some (some v)→σ[i]?=some (some v)):Inv X pins σ' H s :=
 ⟨I.ok,I.os,I.bare,I.base,let ⟨m,hn,hl'⟩:=I.loc; ⟨m,hn,fun i x v e1 e2 e3=>hl' i x v e1 (w i v e2) e3⟩,I.cell,I.free,I.g6,I.pin,I.cu,hl.trans I.len⟩
theorem Inv.ic {pins':List (KI×Nv)} (I:Inv X pins σ H s) (h:∀ p∈pins',s.heap.get? p.1=some p.2∧H p.1=none∧p.1≠X.env.locals∧p.1∉X.fs∧∀ v,p.2.data≠.cell v):Inv X pins' σ H s :=
 ⟨I.ok,I.os,I.bare,I.base,I.loc,I.cell,I.free,I.g6,fun p hp=>(KS.mp hp).elim (fun z=>I.pin p (K3 _ z)) (h p),I.cu,I.len⟩
theorem vl {N:List LV} (hN:N.Nodup) {i j:Nat} (a:N[i]?=some x) (b:N[j]?=some x):i=j:=by
 obtain ⟨h1,e1⟩:=Lj.mp a
 obtain ⟨h2,e2⟩:=Lj.mp b
 exact (List.getElem_inj hN).mp (e1.trans e2.symm)
theorem rC {i:Nat} {v:V} (I:Inv X pins σ H s) (hN:X.N.Nodup) (hi:X.N[i]?=some x) (hx:Loc X.env.scope x) (r:RelV v u)
 (h:∀ s',Inv X pins (σ.set i (some v)) H s'→(∃ a,PH a s.heap s'.heap∧(a=X.env.locals∨X.env.cells.lookup x=some a))→Q () s') (hf:X.fn x=true∨X.env.scope.names.lookup x=some .local:=by first | exact .inl rfl | exact .inr rfl | assumption):Lh M A (storeName X.env x u) Q E s:=by
 obtain ⟨m,hn,hl⟩:=id I.loc
 have hcls:(X.env.scope.kind==.class || (X.env.scope.kind==.module&&X.env.locals != X.env.globals))=false:=by rw [I.ok.kind]; rfl
 have hiσ:i < σ.length:=by rw [I.len]; exact (Lj.mp hi).1
 have Hv:=I.Hv
 have tracked:∀ {a:KI} {h':ME},(∃ o,s.heap.get? a=some o∧H a=none)→PH a s.heap h'→ko X.prog X.w H h':=fun {a h'} ha hs b ob e=>by
  obtain ⟨_,_,hfree⟩:=ha
  refine (I.cu b ob e).qR (fun c w' hc q=>(hs.2 c ?_).trans q) (fun _ q=>q) fun _ _ q=>q
  rintro rfl
  rcases hc with rfl | hc
  ·rw [hfree] at e; cases e
  ·rw [hfree] at hc; cases hc
 rcases hx with hk | hk
 ·refine wpAny_storeName_local hk hn (fun h' hn' hs=>?_) hcls
  obtain ⟨oL,_,_,hoL,_⟩:=id hn
  refine h _ ⟨I.ok,I.os,I.bare,⟨fun b o e n hb hx=>?_,fun b o e n hb hx=>?_,I.base.free,fun b o e hx=>?_,I.base.sO,I.base.q9,I.base.qQ⟩,⟨_,hn',fun j y v' e1 e2 e3=>?_⟩,fun y c e=>?_,I.free,I.g6,fun p hp=>?_,tracked ⟨oL,hoL,I.free⟩ hs,by simpa using I.len⟩ ⟨_,hs,.inl rfl⟩
  ·exact (hs.2 b (Lm (Lc (K1 e) I.ok.above))).trans (I.base.keep b o e n hb hx)
  ·obtain ⟨sl,e1⟩:=I.base.slot b o e n hb hx
   exact ⟨sl,(hs.2 b (Lm (Lc (K1 e) I.ok.above))).trans e1⟩
  ·obtain ⟨o',e1⟩:=I.base.there b o e hx
   exact ⟨o',(hs.2 b (Lm (Lc (K1 e) I.ok.above))).trans e1⟩
  ·by_cases hj:j=i
   ·subst hj
    rw [hi] at e1; cases e1
    rw [Mw hiσ] at e2
    cases e2
    exact ⟨u,r,.inl ⟨hk,by simp⟩⟩
   ·rw [MF (MY hj)] at e2
    obtain ⟨u',r',q⟩:=hl j y v' e1 e2 e3
    refine ⟨u',r',?_⟩
    rcases q with ⟨k,e⟩ | ⟨k,c,e,z⟩
    ·refine .inl ⟨k,?_⟩
     have:y≠x:=fun e=>hj (vl hN e1 (e ▸ hi))
     simp [this,e]
    ·exact .inr ⟨k,c,e,z.sameBut hs (Hv y c e)⟩
  ·obtain ⟨w',z⟩:=I.cell y c e
   exact ⟨w',z.sameBut hs (Hv y c e)⟩
  ·obtain ⟨e,n,ne,nf,d⟩:=I.pin p hp
   exact ⟨(hs.2 p.1 ne).trans e,n,ne,nf,d⟩
 ·have hfn:X.fn x=true:=by
   rcases hf with z | z
   ·exact z
   ·rw [z] at hk; cases hk
  obtain ⟨c,hc⟩:=I.ok.has x (.inl hk)
  obtain ⟨w',z⟩:=I.cell x c hc
  refine wpAny_storeName_cell I.ok.kind hk hc z (fun h' hc' hs=>?_)
  obtain ⟨oc,hoc,hocd⟩:=id z
  refine h { s with heap:=h' } ⟨I.ok,I.os,I.bare,⟨fun b o e n hb hx=>?_,fun b o e n hb hx=>?_,I.base.free,fun b o e hx=>?_,I.base.sO,I.base.q9,I.base.qQ⟩,⟨m,hn.sameBut hs (MY (Hv x c hc)),fun j y v' e1 e2 e3=>?_⟩,fun y c' e=>?_,I.free,I.g6,fun p hp=>?_,tracked ⟨oc,hoc,I.g6 x c hc⟩ hs,by simpa using I.len⟩ ⟨c,hs,.inr hc⟩
  ·exact (hs.2 b (Lm (Lc (K1 e) (I.ok.cab x c hfn hc)))).trans (I.base.keep b o e n hb hx)
  ·obtain ⟨sl,e1⟩:=I.base.slot b o e n hb hx
   exact ⟨sl,(hs.2 b (Lm (Lc (K1 e) (I.ok.cab x c hfn hc)))).trans e1⟩
  ·obtain ⟨o',e1⟩:=I.base.there b o e hx
   exact ⟨o',(hs.2 b (Lm (Lc (K1 e) (I.ok.cab x c hfn hc)))).trans e1⟩
  ·by_cases hj:j=i
   ·subst hj
    rw [hi] at e1; cases e1
    rw [Mw hiσ] at e2
    cases e2
    exact ⟨u,r,.inr ⟨.inl hk,c,hc,hc'⟩⟩
   ·rw [MF (MY hj)] at e2
    obtain ⟨u',r',q⟩:=hl j y v' e1 e2 e3
    refine ⟨u',r',?_⟩
    rcases q with q | ⟨k,c',e,z'⟩
    ·exact .inl q
    ·refine .inr ⟨k,c',e,z'.sameBut hs ?_⟩
     rintro rfl
     exact hj (vl hN e1 (I.ok.inj _ _ _ e hc ▸ hi))
  ·by_cases hcc:c'=c
   ·subst hcc; exact ⟨_,hc'⟩
   ·obtain ⟨w2,z2⟩:=I.cell y c' e
    exact ⟨w2,z2.sameBut hs hcc⟩
  ·obtain ⟨e,n,ne,nf,d⟩:=I.pin p hp
   refine ⟨(hs.2 p.1 ?_).trans e,n,ne,nf,d⟩
   intro q
   rw [q,hoc] at e
   have q':oc=p.2:=Lz e
   exact d w' (by rw [← q']; exact hocd)
theorem o6 {i:Nat} {v:V} (I:Inv X pins σ H s) (hN:X.N.Nodup) (hi:X.N[i]?=some x) (hx:Loc X.env.scope x) (r:RelV v u)
 (h:∀ s',Inv X pins (σ.set i (some v)) H s'→Q () s') (hf:X.fn x=true∨X.env.scope.names.lookup x=some .local:=by first | exact .inl rfl | exact .inr rfl | assumption):Lh M A (storeName X.env x u) Q E s :=
 rC I hN hi hx r (fun s' I' _=>h s' I') hf
theorem Inv.FQ {s':KJ} (I:Inv X pins σ H s) (ho:s'.os=s.os) (u:Un (Be X.stack) ch H H' s.heap s'.heap) (cu:ko X.prog X.w H' s'.heap) (hg:QB s'.gens)
 (hch:∀ b∈ch,(b∈X.ex∨X.s₀.heap.objs.size≤b)∧b≠X.env.locals∧(∀ x c,X.env.cells.lookup x=some c→c≠b)∧∀ p∈X.pn++pins,p.1≠b):Inv X pins σ H' s':=by
 obtain ⟨h',g',d',t',o'⟩:=s'
 have e:o'=s.os:=ho
 subst e
 exact I.call (g':=g') (t':=t') (d':=d') u cu hg hch
end
abbrev XK:=KD→Option KI→Hp→Prop
abbrev St:=List (Option V)
abbrev VK:=V→Hp→Prop
abbrev TE:=St→Hp→VK→Prop
abbrev TT:=St→Hp→(Bool→Hp→Prop)→Prop
abbrev TA:=St→Hp→(List V→Hp→Prop)→Prop
structure Ends where
 nx:St→Hp→Prop
 rt:VK
 bk:St→Hp→Prop:=fun _ _=>False
 ct:St→Hp→Prop:=fun _ _=>False
abbrev TS:=Ends→St→Hp→Prop
def EP (X:Cx) (pins:List (KI×Nv)) (σ:St) (Q:VK) (u:KD) (s':KJ):Prop:=∃ v H',Inv X pins σ H' s'∧RelV v u∧Q v H'
def TP (X:Cx) (pins:List (KI×Nv)) (σ:St) (Q:Bool→Hp→Prop) (b:Bool) (s':KJ):Prop:=∃ H',Inv X pins σ H' s'∧Q b H'
def AP (X:Cx) (pins:List (KI×Nv)) (σ:St) (Q:List V→Hp→Prop) (us:List KD) (s':KJ):Prop:=∃ vs H',Inv X pins σ H' s'∧Vals vs us∧Q vs H'
def SP (X:Cx) (pins:List (KI×Nv)) (D:Ends) (f:Flow) (s':KJ):Prop :=
 match f with
 | .next=>∃ σ' H',Inv X pins σ' H' s'∧D.nx σ' H'
 | .brk=>∃ σ' H',Inv X pins σ' H' s'∧D.bk σ' H'
 | .cont=>∃ σ' H',Inv X pins σ' H' s'∧D.ct σ' H'
 | .ret u=>∃ v σ' H',Inv X pins σ' H' s'∧RelV v u∧D.rt v H'
def PE (X:Cx) (e:Mv) (t:TE):Prop :=
 ∀ (pins:List (KI×Nv)) (s:KJ) (σ:St) (H:Hp) (Q:VK),Inv X pins σ H s→t σ H Q→Lh (model X.prog X.w) X.A (eval e X.env) (EP X pins σ Q) X.xe s
def PT (X:Cx) (e:Mv) (t:TT):Prop :=
 ∀ (pins:List (KI×Nv)) (s:KJ) (σ:St) (H:Hp) (Q:Bool→Hp→Prop),Inv X pins σ H s→t σ H Q→Lh (model X.prog X.w) X.A (QC e X.env (eval e X.env)) (TP X pins σ Q) X.xe s
def PW (X:Cx) (e:Mv) (t:TT):Prop :=
 ∀ (whole:Sem KD) (pins:List (KI×Nv)) (s:KJ) (σ:St) (H:Hp) (Q:Bool→Hp→Prop),Inv X pins σ H s→t σ H Q→Lh (model X.prog X.w) X.A (QC e X.env whole) (TP X pins σ Q) X.xe s
variable {X:Cx}
theorem PW.pt {e:Mv} {t:TT} (h:PW X e t):PT X e t:=h _
def PA (X:Cx) (es:List Mv) (t:TA):Prop :=
 ∀ (pos:Qq) (pins:List (KI×Nv)) (s:KJ) (σ:St) (H:Hp) (Q:List V→Hp→Prop),Inv X pins σ H s→t σ H Q→Lh (model X.prog X.w) X.A (spliced (OV pos (Mi es X.env))) (AP X pins σ Q) X.xe s
def PS (X:Cx) (st:NZ) (t:TS):Prop :=
 ∀ (pins:List (KI×Nv)) (s:KJ) (σ:St) (H:Hp) (D:Ends),Inv X pins σ H s→t D σ H→Lh (model X.prog X.w) X.A (exec st X.env) (SP X pins D) X.xe s
def wt (X:Cx) (st:List NZ) (t:TS):Prop :=
 ∀ (pins:List (KI×Nv)) (s:KJ) (σ:St) (H:Hp) (D:Ends),Inv X pins σ H s→t D σ H→Lh (model X.prog X.w) X.A (execs st X.env) (SP X pins D) X.xe s
variable {pos:Qq} {pins:List (KI×Nv)} {σ:St} {t:TE}
theorem cD {α:Type} {t:Sem α} {Q Q':α→KJ→Prop} {s:KJ} (h:Lh M A t Q E s) (hQ:∀ a s,Q a s→Q' a s):Lh M A t Q' E s:=L7 h hQ fun _ _ x=>x
section
variable {X:Cx}
def mf (i:Nat):TE:=fun σ H Q=>∃ v,σ[i]?=some (some v)∧Q v H
def tC (v:V):TE:=fun _ H Q=>Q v H
theorem GJ {i:Nat} (hN:X.N[i]?=some x) (hv:HB X.env.scope x) (hd:(x==("__debug__" : LV))=false:=by decide) (hcd:(x==("__classdict__" : LV))=false:=by decide):PE X (.Name x pos) (mf i):=by
 intro pins s σ H Q I h
 obtain ⟨v,e,h⟩:=h
 obtain ⟨m,hn,hl⟩:=I.loc
 obtain ⟨u,r,l⟩:=hl i x v hN e hv
 have fin:EP X pins σ Q u s:=⟨v,H,I,r,h⟩
 rcases l with ⟨hk,hm⟩ | ⟨hk,c,hc,hcell⟩
 ·exact SV (Rb I.ok.kind hk hn hm fin) hd
 ·rcases hk with hk | hk
  ·exact SV (RD I.ok.kind hk hc hcell fin) hd
  ·exact SV (wpAny_loadName_free I.ok.kind hk hc hcell fin hcd) hd
theorem ao {i j pos}:PE X (.Constant (.int i) j pos) (tC (.int i)):=fun _ _ _ H _ I h=>wpAny_Constant_int ⟨.int i,H,I.tok _,⟨_,rfl⟩,h⟩
theorem nF {b j pos}:PE X (.Constant (.bool b) j pos) (tC (.bl b)):=fun _ _ _ H _ I h=>Constant_bool ⟨.bl b,H,I,rfl,h⟩
def Gl (X:Cx) (x:LV):Prop:=X.env.kindOf x=some .globalImplicit
theorem yV {s:KJ} {Q:KD→KJ→Prop} (I:Inv X pins σ H s) (hg:Gl X x) (hm:X.mg x=some u) (h:Q u s)
 (hd:(x==("__debug__" : LV))=false:=by decide):Lh (model X.prog X.w) X.A (eval (.Name x pos) X.env) Q E s :=
 PU I.ok.kind hg (Calls.loadGlobal_global (by rw [I.ok.glob]; exact I.mod.glob.keeps I.bk) hm h) hd
theorem iR {s:KJ} {Q:KD→KJ→Prop} (I:Inv X pins σ H s) (hg:Gl X x) (hm:X.mg x=none) (hv:Md x=some u) (h:Q u s)
 (hn:x ≠ "__name__" := by decide) (hd:(x==("__debug__" : LV))=false:=by decide):Lh (model X.prog X.w) X.A (eval (.Name x pos) X.env) Q E s:=by
 obtain ⟨mb,h1,h2⟩:=I.mod.blt
 exact PU I.ok.kind hg (Calls.loadGlobal_builtin (by rw [I.ok.glob]; exact I.mod.glob.keeps I.bk) hm (by rw [I.ok.blt]; exact h1.keeps I.bk) ((h2 x hn).trans hv) h) hd
theorem Ei {v:V} (hg:Gl X x) (hm:X.mg x=some u) (r:RelV v u) (hd:(x==("__debug__" : LV))=false:=by decide):PE X (.Name x pos) (tC v) :=
 fun _ _ _ H _ I h=>yV I hg hm ⟨v,H,I,r,h⟩ hd
theorem oE {v:V} (hg:Gl X x) (hm:X.mg x=none) (hv:Md x=some u) (r:RelV v u) (hn:x ≠ "__name__" := by decide) (hd:(x==("__debug__" : LV))=false:=by decide):PE X (.Name x pos) (tC v) :=
 fun _ _ _ H _ I h=>iR I hg hm hv ⟨v,H,I,r,h⟩ hn hd
variable {a b:Mv} {ta tb:TE} {pos:Qq}
def PC (X:Cx) (op:CmpOp) (a b:Mv) (t:TE):Prop :=
 ∀ (pins:List (KI×Nv)) (s:KJ) (σ:St) (H:Hp) (Q:VK),Inv X pins σ H s→t σ H Q →
  Lh (model X.prog X.w) X.A (eval a X.env) (fun v s₁=>Lh (model X.prog X.w) X.A (eval b X.env) (fun u s₂=>Lh (model X.prog X.w) X.A (Nj op v u) (EP X pins σ Q) X.xe s₂) X.xe s₁) X.xe s
def tB (t:TE):TT:=fun σ H Q=>t σ H fun x H1=>∃ c,x=.bl c∧Q c H1
theorem BZ {op:CmpOp} (h:PC X op a b t) (h1:Ph op b=false:=by first | exact nobehind _ (by decide) (by decide) | rfl):PT X (.Compare a [op] [b] pos) (tB t):=by
 intro pins s σ H Q I hw
 refine Q6 (cD (h pins s σ H _ I hw) fun v s1 h1=>cD h1 fun u s2 h2=>cD h2 fun c s3 ⟨x,H1,I1,r1,q1⟩=>?_) h1
 obtain ⟨d,rfl,q⟩:=q1
 cases r1
 exact MR ⟨H1,I1,q⟩
variable {tA tB':TT} {rest:List Mv}
def Il (t u:TT):TT:=fun σ H Q=>t σ H fun c H1=>if c=true then u σ H1 Q else Q false H1
def JV (t u:TT):TT:=fun σ H Q=>t σ H fun c H1=>if c=true then Q true H1 else u σ H1 Q
def Ic (t:TT):TT:=fun σ H Q=>t σ H fun c H1=>Q (!c) H1
theorem Eb (ha:PT X a tA):PW X (.BoolOp .And [a] pos) tA:=by
 intro wh pins s σ H Q I h
 refine isTrue_and (cD (ha pins s σ H Q I h) fun c s1 e=>?_)
 cases c with
 | true=>exact isTrue_and_nil e
 | false=>exact e
theorem tH (ha:PT X a tA):PW X (.BoolOp .Or [a] pos) tA:=by
 intro wh pins s σ H Q I h
 refine isTrue_or (cD (ha pins s σ H Q I h) fun c s1 e=>?_)
 cases c with
 | false=>exact isTrue_or_nil e
 | true=>exact e
theorem Gx (ha:PT X a tA) (hb:PW X (.BoolOp .And (b::rest) pos) tB'):PW X (.BoolOp .And (a::b::rest) pos) (Il tA tB'):=by
 intro wh pins s σ H Q I h
 refine isTrue_and (cD (ha pins s σ H _ I h) fun c s1 ⟨H1,I1,q1⟩=>?_)
 cases c with
 | true=>exact hb wh pins s1 σ H1 Q I1 q1
 | false=>exact ⟨H1,I1,q1⟩
theorem nE (ha:PT X a tA) (hb:PW X (.BoolOp .Or (b::rest) pos) tB'):PW X (.BoolOp .Or (a::b::rest) pos) (JV tA tB'):=by
 intro wh pins s σ H Q I h
 refine isTrue_or (cD (ha pins s σ H _ I h) fun c s1 ⟨H1,I1,q1⟩=>?_)
 cases c with
 | true=>exact ⟨H1,I1,q1⟩
 | false=>exact hb wh pins s1 σ H1 Q I1 q1
theorem xn (ha:PT X a tA):PT X (.UnaryOp .Not a pos) (Ic tA):=by
 intro pins s σ H Q I h
 exact isTrue_not (ha pins s σ H (fun c H1=>Q (!c) H1) I h)
def Fo (ta tb:TE):TE:=fun σ H Q=>ta σ H fun x H1=>∃ c,x=.bl c∧if c=true then tb σ H1 Q else Q (.bl false) H1
def Ib (ta tb:TE):TE:=fun σ H Q=>ta σ H fun x H1=>∃ c,x=.bl c∧if c=true then Q (.bl true) H1 else tb σ H1 Q
def Ff (ta:TE):TE:=fun σ H Q=>ta σ H fun x H1=>∃ c,x=.bl c∧Q (.bl (!c)) H1
theorem pJ {op} (h:PE X a t):PE X (.BoolOp op [a] pos) t:=fun pins s σ H Q I hw=>BoolOp_one (h pins s σ H Q I hw)
theorem pK (ha:PE X a ta) (hb:PE X (.BoolOp .And (b::rest) pos) tb):PE X (.BoolOp .And (a::b::rest) pos) (Fo ta tb):=by
 intro pins s σ H Q I h
 refine BoolOp_and (cD (ha pins s σ H _ I h) fun v s1 ⟨x,H1,I1,r1,q1⟩=>?_)
 obtain ⟨c,rfl,q1⟩:=q1
 cases r1
 refine MR ?_
 cases c with
 | true=>exact hb pins s1 σ H1 Q I1 q1
 | false=>exact ⟨.bl false,H1,I1,rfl,q1⟩
theorem IA (ha:PE X a ta) (hb:PE X (.BoolOp .Or (b::rest) pos) tb):PE X (.BoolOp .Or (a::b::rest) pos) (Ib ta tb):=by
 intro pins s σ H Q I h
 refine BoolOp_or (cD (ha pins s σ H _ I h) fun v s1 ⟨x,H1,I1,r1,q1⟩=>?_)
 obtain ⟨c,rfl,q1⟩:=q1
 cases r1
 refine MR ?_
 cases c with
 | false=>exact hb pins s1 σ H1 Q I1 q1
 | true=>exact ⟨.bl true,H1,I1,rfl,q1⟩
theorem B4 (ha:PE X a ta):PE X (.UnaryOp .Not a pos) (Ff ta):=by
 intro pins s σ H Q I h
 refine UnaryOp_ (cD (ha pins s σ H _ I h) fun v s1 ⟨x,H1,I1,r1,q1⟩=>?_)
 obtain ⟨c,rfl,q1⟩:=q1
 cases r1
 exact not_of (MR ⟨.bl (!c),H1,I1,rfl,q1⟩)
def JW (t:TT) (ta tb:TE):TE:=fun σ H Q=>t σ H fun c H1=>if c=true then ta σ H1 Q else tb σ H1 Q
theorem B5 {c:Mv} (hc:PT X c tA) (ha:PE X a ta) (hb:PE X b tb):PE X (.IfExp c a b pos) (JW tA ta tb):=by
 intro pins s σ H Q I h
 refine wpAny_IfExp (cD (hc pins s σ H _ I h) fun d s1 ⟨H1,I1,q1⟩=>?_)
 cases d with
 | true=>exact ha pins s1 σ H1 Q I1 q1
 | false=>exact hb pins s1 σ H1 Q I1 q1
end
def dA (K:KC) (H:Hp) (a:KI) (xs:List V):Prop :=
 Rd H a (.lst xs) ∨
  ∃ (o:Nv) (its:Array KD) (n:Nat),K.lookup a=some o∧o.cls=.type "list" ∧ o.dict=none∧o.data=.seq its n∧its.size≤KH∧Vals xs its.toList
def Bh (K:KC) (H:Hp) (a:KI) (xs:List V):Prop :=
 Rd H a (.tup xs) ∨
  ∃ (o:Nv) (its:Array KD) (n:Nat),K.lookup a=some o∧o.cls=.type "tuple" ∧ o.data=.seq its n∧its.size≤KH∧Vals xs its.toList
def JM:KD→Option V
 | .none=>some .non
 | .bool b=>some (.bl b)
 | .int i _=>some (.int i)
 | .str x _=>some (.str x)
 | .bytes b _=>some (.byt b)
 | .float b _=>some (.flt b)
 | .ref a=>some (.ref a)
 | .type n=>some (.ty n)
 | _=>none
theorem RelV.abs {x:V} (r:RelV x u):JM u=some x:=by
 cases x with
 | non=>cases r; rfl
 | bl _=>cases r; rfl
 | int _=>obtain ⟨t,rfl⟩:=r; rfl
 | str _=>obtain ⟨t,rfl⟩:=r; rfl
 | byt _=>obtain ⟨t,rfl⟩:=r; rfl
 | flt _=>obtain ⟨t,rfl⟩:=r; rfl
 | ref _=>cases r; rfl
 | ty _=>cases r; rfl
theorem RelV.inj {x y:V} {u:KD} (r:RelV x u) (q:RelV y u):x=y:=Lz (r.abs.symm.trans q.abs)
variable {K:KC}
theorem Vals.inj:∀ {xs ys:List V} {us:List KD},Vals xs us→Vals ys us→xs=ys
 | _,_,_,.nil,.nil=>rfl
 | _,_,_,.cons r t,.cons r' t'=>by rw [r.inj r',Vals.inj t t']
section
variable {X:Cx} {pins:List (KI×Nv)} {σ:St} {H:Hp} {s:KJ} {a:KI} {xs ys:List V}
theorem dA.of (h:H a=some (.lst xs)):dA K H a xs:=.inl (.inl h)
theorem Inv.list (I:Inv X pins σ H s) (h:dA X.K H a xs):∃ its:List KD,Vals xs its∧PlainL s.heap a its.toArray∧xs.length≤KH:=by
 rcases h with h | ⟨o,its,n,hk,hc,hd,hs,hz,r⟩
 ·obtain ⟨z,its,n,r,e⟩:=h.ok I.cu
  exact ⟨its,r,⟨_,n,e,rfl,rfl,rfl⟩,z⟩
 ·refine ⟨its.toList,r,⟨o,n,I.vA a o hk,hc,hd,by simpa using hs⟩,?_⟩
  have e:=r.length
  simp only [KR] at e
  omega
theorem Inv.tuple (I:Inv X pins σ H s) (h:Bh X.K H a xs):∃ its:List KD,Vals xs its∧IsTup s.heap a its.toArray∧xs.length≤KH:=by
 rcases h with h | ⟨o,its,n,hk,hc,hs,hz,r⟩
 ·obtain ⟨z,its,r,p⟩:=h.ok I.cu
  exact ⟨its,r,p,z⟩
 ·refine ⟨its.toList,r,⟨o,I.vA a o hk,hc,n,by simpa using hs⟩,?_⟩
  have e:=r.length
  simp only [KR] at e
  omega
theorem Inv.vx (I:Inv X pins σ H s) (h:dA X.K H a xs) (h':dA X.K H a ys):xs=ys:=by
 obtain ⟨its,r,⟨o,n,e,_,_,d⟩,_⟩:=I.list h
 obtain ⟨its',r',⟨o',n',e',_,_,d'⟩,_⟩:=I.list h'
 rw [e] at e'; cases e'
 rw [d] at d'
 injection d' with d1 _
 have:its=its':=by simpa using congrArg Array.toList d1
 subst this
 exact r.inj r'
end
abbrev Cx.qP (X:Cx) (E:KD→KJ→Prop):Cx:={ X with xe:=E }
abbrev Cx.Fy (X:Cx):Cx:=X.qP fun _ _=>False
theorem Cx.Ok.qP {X:Cx} (ok:X.Ok) (E:KD→KJ→Prop):(X.qP E).Ok :=
 ⟨ok.mod,ok.kind,ok.glob,ok.blt,ok.above,ok.inj,ok.has,ok.cab,ok.hd,ok.frames,ok.Fp,ok.exf,ok.bs,ok.zm,ok.noex,ok.CO,ok.mN,ok.HQ⟩
variable {tc:TT}
theorem Cx.Ok.iJ (ok:(X.qP E).Ok):X.Ok :=
 ⟨ok.mod,ok.kind,ok.glob,ok.blt,ok.above,ok.inj,ok.has,ok.cab,ok.hd,ok.frames,ok.Fp,ok.exf,ok.bs,ok.zm,ok.noex,ok.CO,ok.mN,ok.HQ⟩
section
variable {X:Cx} {pins:List (KI×Nv)} {σ:St} {H:Hp} {s:KJ} {E:KD→KJ→Prop}
theorem Inv.qP (I:Inv X pins σ H s) (E:KD→KJ→Prop):Inv (X.qP E) pins σ H s:=⟨I.ok.qP E,I.os,I.bare,I.base,I.loc,I.cell,I.free,I.g6,I.pin,I.cu,I.len⟩
theorem Inv.iJ (I:Inv (X.qP E) pins σ H s):Inv X pins σ H s:=⟨I.ok.iJ,I.os,I.bare,I.base,I.loc,I.cell,I.free,I.g6,I.pin,I.cu,I.len⟩
theorem SP.iJ {D:Ends} {f:Flow} {s':KJ} (h:SP (X.qP E) pins D f s'):SP X pins D f s':=by
 cases f with
 | next=>obtain ⟨σ',H',I,q⟩:=h; exact ⟨σ',H',I.iJ,q⟩
 | brk=>obtain ⟨σ',H',I,q⟩:=h; exact ⟨σ',H',I.iJ,q⟩
 | cont=>obtain ⟨σ',H',I,q⟩:=h; exact ⟨σ',H',I.iJ,q⟩
 | ret u=>obtain ⟨v,σ',H',I,r,q⟩:=h; exact ⟨v,σ',H',I.iJ,r,q⟩
theorem wt.Fy {st:List NZ} {t:TS} (h:wt X.Fy st t):wt X st t:=fun pins s σ H D I hw =>
 L7 (h pins s σ H D (I.qP _) hw) (fun _ _ q=>q.iJ) fun _ _ z=>N0 z
end
section
variable {X:Cx} {st:NZ} {rest:List NZ} {t u:TS} {e:Mv} {te:TE} {pos:Qq}
def Fg:TS:=fun D σ H=>D.nx σ H
def Ia (t u:TS):TS:=fun D σ H=>t { D with nx:=u D } σ H
theorem cV:wt X [] Fg:=fun _ _ σ H _ I h=>Pp ⟨σ,H,I,h⟩
theorem ai (h1:PS X st t) (h2:wt X rest u):wt X (st::rest) (Ia t u):=by
 intro pins s σ H D I h
 refine wpAny_execs_cons (cD (h1 pins s σ H { D with nx:=u D } I h) fun f s1 q=>?_)
 cases f with
 | next =>
  obtain ⟨σ',H',I',q⟩:=q
  exact h2 pins s1 σ' H' D I' q
 | ret v=>exact q
 | brk=>exact q
 | cont=>exact q
theorem ay (h1:PS X st t):wt X [st] t:=by
 intro pins s σ H D I h
 refine wpAny_execs_cons (cD (h1 pins s σ H D I h) fun f s1 q=>?_)
 cases f with
 | next=>exact Pp q
 | ret v=>exact q
 | brk=>exact q
 | cont=>exact q
def Ih:TS:=fun D σ H=>D.ct σ H
theorem ve:PS X (.Continue pos) Ih:=fun _ _ σ H _ I h=>wpAny_Continue ⟨σ,H,I,h⟩
theorem Inv.quiet {s:KJ} (I:Inv X pins σ H s):interactive X.env=false:=by simp [interactive,I.ok.kind]
def uQ (te:TE):TS:=fun D σ H=>te σ H fun _ H1=>D.nx σ H1
theorem dJ (he:PE X e te) (hs:Qt e none pos.line X.env=pure false:=by rfl):PS X (.Expr e pos) (uQ te):=by
 intro pins s σ H D I h
 exact wpAny_Expr_any (cD (he pins s σ H _ I h) fun v s1 ⟨x,H1,I1,r1,q1⟩=>⟨σ,H1,I1,q1⟩) I.quiet hs
def Gb (te:TE):TS:=fun D σ H=>te σ H D.rt
theorem bh (he:PE X e te):PS X (.Return (some e) pos) (Gb te):=by
 intro pins s σ H D I h
 exact wpAny_Return_some (cD (he pins s σ H _ I h) fun v s1 ⟨x,H1,I1,r1,q1⟩=>⟨x,σ,H1,I1,r1,q1⟩)
def Ie (c:TT) (t u:TS):TS:=fun D σ H=>c σ H fun b H1=>if b=true then t D σ H1 else u D σ H1
theorem fP {c:Mv} {a b:List NZ} (hc:PT X c tc) (ha:wt X a t) (hb:wt X b u):PS X (.If c a b pos) (Ie tc t u):=by
 intro pins s σ H D I h
 refine wpAny_If (cD (hc pins s σ H _ I h) fun d s1 ⟨H1,I1,q1⟩=>?_)
 cases d with
 | true=>exact ha pins s1 σ H1 D I1 q1
 | false=>exact hb pins s1 σ H1 D I1 q1
end
abbrev TG:=V→St→Hp→(St→Hp→Prop)→Prop
abbrev uH:=List V→St→Hp→(St→Hp→Prop)→Prop
def PG (X:Cx) (target:Mv) (t:TG):Prop :=
 ∀ (pins:List (KI×Nv)) (s:KJ) (σ:St) (H:Hp) (v:V) (u:KD) (Q:St→Hp→Prop),Inv X pins σ H s→RelV v u→t v σ H Q →
  Lh (model X.prog X.w) X.A (assign target X.env u) (fun _ s'=>∃ σ' H',Inv X pins σ' H' s'∧Q σ' H') X.xe s
def HG (X:Cx) (ts:List Mv) (t:uH):Prop :=
 ∀ (pins:List (KI×Nv)) (s:KJ) (σ:St) (H:Hp) (vs:List V) (us:List KD) (Q:St→Hp→Prop),Inv X pins σ H s→Vals vs us→t vs σ H Q →
  Lh (model X.prog X.w) X.A (assignInOrder ((M3 ts X.env).map (·.2)) us) (fun _ s'=>∃ σ' H',Inv X pins σ' H' s'∧Q σ' H') X.xe s
abbrev Dv:=V→V→V→Hp→(Hp→Prop)→Prop
def HF (X:Cx) (t:Dv):Prop :=
 ∀ (pins:List (KI×Nv)) (s:KJ) (σ:St) (H:Hp) (o i v:V) (ov iv u:KD) (Q:Hp→Prop),Inv X pins σ H s→RelV o ov→RelV i iv→RelV v u→t o i v H Q →
  Lh (model X.prog X.w) X.A (setItem ov iv u) (fun _ s'=>∃ H',Inv X pins σ H' s'∧Q H') X.xe s
abbrev HV:=V→V→Hp→VK→Prop
variable {es:List Mv} {n:Nat} {tg:Mv} {te:TE} {pos':Qq} {body:List NZ} {tb:TS}
def JP (X:Cx) (op:SW) (t:HV):Prop :=
 ∀ (pins:List (KI×Nv)) (s:KJ) (σ:St) (H:Hp) (x y:V) (v u:KD) (Q:VK),Inv X pins σ H s→RelV x v→RelV y u→t x y H Q →
  Lh (model X.prog X.w) X.A (inplaceOp op v u) (EP X pins σ Q) X.xe s
section
variable {X:Cx} {pos:Qq}
def jO (i:Nat):TG:=fun v σ H Q=>Q (σ.set i (some v)) H
theorem bV {i:Nat} (hN:X.N.Nodup) (hi:X.N[i]?=some x) (hx:Loc X.env.scope x) (hf:X.fn x=true∨X.env.scope.names.lookup x=some .local:=by first | exact .inl rfl | exact .inr rfl | assumption):PG X (.Name x pos) (jO i):=by
 intro pins s σ H v u Q I r h
 exact wpAny_assign_Name (o6 I hN hi hx r (fun s' I'=>⟨_,H,I',h⟩) hf)
def Hi:uH:=fun vs σ H Q=>vs=[]∧Q σ H
def CM (t:TG) (u:uH):uH:=fun vs σ H Q=>∃ v r,vs=v::r∧t v σ H fun σ' H'=>u r σ' H' Q
theorem gn:HG X [] Hi:=by
 intro pins s σ H vs us Q I r h
 obtain ⟨e,h⟩:=h
 subst e
 cases r
 exact assignInOrder_nil ⟨σ,H,I,h⟩
theorem bI {e:Mv} {t:TG} {u:uH} (h1:PG X e t) (h2:HG X es u)
 (hs:(M3 (e::es) X.env).map (·.2)=assign e X.env::(M3 es X.env).map (·.2):=by rfl):HG X (e::es) (CM t u):=by
 intro pins s σ H vs us Q I r h
 obtain ⟨v,vr,e1,h⟩:=h
 subst e1
 cases r with
 | cons r rr =>
  rw [hs]
  refine assignInOrder_cons (cD (h1 pins s σ H _ _ _ I r h) fun _ s1 ⟨σ1,H1,I1,q1⟩=>?_)
  exact h2 pins s1 σ1 H1 _ _ Q I1 rr q1
def IL (K:KC) (n:Nat) (t:uH):TG:=fun v σ H Q=>∃ a xs,v=.ref a∧Bh K H a xs∧xs.length=n∧t xs σ H Q
theorem GG {k:Nat} {t:uH} (hc:X.calm=true) (h:HG X es t)
 (hn:(M3 es X.env).length=n:=by rfl) (hst:(M3 es X.env).findIdx? (·.1)=none:=by rfl):PG X (.Tuple es k pos) (IL X.K n t):=by
 intro pins s σ H v u Q I r hw
 obtain ⟨a,xs,e1,hq,hl,hw⟩:=hw
 subst e1
 cases r
 obtain ⟨its,rv,ht,hz⟩:=I.tuple hq
 refine assign_Tuple_tuple (I.ok.hd hc) ht (by simp [hn,← hl,rv.length]) hst fun h' hx=>?_
 have I1:Inv X pins σ H { s with heap:=h' }:=I.kept (t':=s.toks) fun b o e=>hx b o (Lm (K1 e)) e
 exact h pins _ σ H xs _ Q I1 (by simpa using rv) hw
def Hh (to ti:TE) (t:Dv):TG:=fun v σ H Q=>to σ H fun o H1=>ti σ H1 fun i H2=>t o i v H2 fun H3=>Q σ H3
theorem pI {o i:Mv} {to ti:TE} {t:Dv} (ho:PE X o to) (hi:PE X i ti) (hs:HF X t)
 (ha:∀ v,assign (.Subscript o i pos) X.env v=(do
  let ov ← holding [v] (eval o X.env)
  let iv ← holding [v,ov] (eval i X.env)
  SS pos
  holding [v,ov,iv] (setItem ov iv v)
  release [v,ov,iv] []):=by intro _; rfl):PG X (.Subscript o i pos) (Hh to ti t):=by
 intro pins s σ H v u Q I r h
 rw [ha]
 refine KG (Ma (cD (ho pins s σ H _ I h) fun ov s1 ⟨x,H1,I1,r1,q1⟩=>?_))
 refine KG (Ma (cD (hi pins s1 σ H1 _ I1 q1) fun iv s2 ⟨y,H2,I2,r2,q2⟩=>?_))
 refine KG (OG (KG (Ma (cD (hs pins s2 σ H2 x y v ov iv u _ I2 r1 r2 r q2) fun _ s3 ⟨H3,I3,q3⟩=>?_))))
 exact wpAny_release ⟨σ,H3,I3,q3⟩
def uS (te:TE) (g:TG):TS:=fun D σ H=>te σ H fun x H1=>g x σ H1 D.nx
theorem mB {e:Mv} {g:TG} (he:PE X e te) (hg:PG X tg g) (hs:swapsWithSole [tg] e pos.line X.env=pure false:=by rfl) (hw:swappedStores [tg] e X.env=pure none:=by rfl)
 (h1:(M3 [tg] X.env).map (·.2)=[assign tg X.env]:=by rfl):PS X (.Assign [tg] e pos) (uS te g):=by
 intro pins s σ H D I h
 refine wpAny_Assign_stores (cD (he pins s σ H _ I h) fun v s1 ⟨x,H1,I1,r1,q1⟩=>?_) hs hw
 rw [h1]
 exact cD (hg pins s1 σ H1 x v _ I1 r1 q1) fun _ s2 q=>q
theorem ba {i:Nat} {e:Mv} (hN:X.N.Nodup) (hi:X.N[i]?=some x) (hx:Loc X.env.scope x) (he:PE X e te) (hs:Qt e (some (.Name x pos')) pos.line X.env=pure false:=by rfl) (hf:X.fn x=true∨X.env.scope.names.lookup x=some .local:=by first | exact .inl rfl | exact .inr rfl | assumption) :
 PS X (.Assign [.Name x pos'] e pos) (uS te (jO i)):=by
 intro pins s σ H D I h
 refine wpAny_Assign_Name (cD (he pins s σ H _ I h) fun v s1 ⟨y,H1,I1,r1,q1⟩=>?_) hs
 exact o6 I1 hN hi hx r1 (fun s2 I2=>⟨_,H1,I2,q1⟩) hf
def Ik (i:Nat) (te:TE) (ti:HV):TS:=fun D σ H=>∃ x,σ[i]?=some (some x)∧te σ H fun y H1=>ti x y H1 fun z H2=>D.nx (σ.set i (some z)) H2
theorem GA {i:Nat} {e:Mv} {op:SW} {ti:HV} (hN:X.N.Nodup) (hi:X.N[i]?=some x) (hx:Loc X.env.scope x) (he:PE X e te) (ho:JP X op ti) (hf:X.fn x=true∨X.env.scope.names.lookup x=some .local:=by first | exact .inl rfl | exact .inr rfl | assumption) :
 PS X (.AugAssign (.Name x pos') op e pos) (Ik i te ti):=by
 intro pins s σ H D I h
 obtain ⟨v,e1,h⟩:=h
 obtain ⟨m,hn,hl⟩:=I.loc
 have vis:HB X.env.scope x:=by rcases hx with k | k; exact .inl k; exact .inr (.inl k)
 obtain ⟨u,r,l⟩:=hl i x v hi e1 vis
 refine wpAny_AugAssign_Name ?_
 have go:Lh (model X.prog X.w) X.A (eval e X.env) (fun w s₂=>Lh (model X.prog X.w) X.A (inplaceOp op u w) (fun r s₃=>Lh (model X.prog X.w) X.A (storeName X.env x r) (fun _=>SP X pins D .next) X.xe s₃) X.xe s₂) X.xe s:=by
  refine cD (he pins s σ H _ I h) fun w s1 ⟨y,H1,I1,r1,q1⟩=>?_
  refine cD (ho pins s1 σ H1 v y u w _ I1 r r1 q1) fun z s2 ⟨zv,H2,I2,r2,q2⟩=>?_
  exact o6 I2 hN hi hx r2 (fun s3 I3=>⟨_,H2,I3,q2⟩) hf
 rcases l with ⟨hk,hm⟩ | ⟨hk,c,hc,hcell⟩
 ·exact Rb I.ok.kind hk hn hm go
 ·rcases hk with hk | hk
  ·exact RD I.ok.kind hk hc hcell go
  ·rcases hx with k | k
   ·have:X.env.scope.names.lookup x=some .free:=hk
    rw [k] at this; cases this
   ·have:X.env.scope.names.lookup x=some .free:=hk
    rw [k] at this; cases this
def Fl (to ti te:TE) (tget:V→V→Hp→VK→Prop) (tip:HV) (tset:Dv):TS:=fun D σ H=>to σ H fun o H1=>ti σ H1 fun i H2=>tget o i H2 fun x H3=>te σ H3 fun y H4=>tip x y H4 fun z H5=>tset o i z H5 fun H6=>D.nx σ H6
def HH (X:Cx) (t:V→V→Hp→VK→Prop):Prop :=
 ∀ (pins:List (KI×Nv)) (s:KJ) (σ:St) (H:Hp) (o i:V) (ov iv:KD) (Q:VK),Inv X pins σ H s→RelV o ov→RelV i iv→t o i H Q →
  Lh (model X.prog X.w) X.A (Sb ov iv) (EP X pins σ Q) X.xe s
theorem Ed {o i e:Mv} {to ti:TE} {tget:V→V→Hp→VK→Prop} {tip:HV} {tset:Dv} {op:SW} {tpos:Qq} (ho:PE X o to) (hi:PE X i ti) (hg:HH X tget) (he:PE X e te) (hp:JP X op tip) (hs:HF X tset)
 (ha:∀ ov iv new,augStore i ov iv new=(do holding [new,ov,iv] (setItem ov iv new); release [new,ov,iv] []; pure .next):=by intros; rfl):PS X (.AugAssign (.Subscript o i tpos) op e pos) (Fl to ti te tget tip tset):=by
 intro pins s σ H D I h
 refine wpAny_AugAssign_SubscriptAny (cD (ho pins s σ H _ I h) fun ov s1 ⟨x1,H1,I1,r1,q1⟩=>?_) ha
 refine cD (hi pins s1 σ H1 _ I1 q1) fun iv s2 ⟨x2,H2,I2,r2,q2⟩=>?_
 refine cD (hg pins s2 σ H2 x1 x2 ov iv _ I2 r1 r2 q2) fun old s3 ⟨x3,H3,I3,r3,q3⟩=>?_
 refine cD (he pins s3 σ H3 _ I3 q3) fun v s4 ⟨x4,H4,I4,r4,q4⟩=>?_
 refine cD (hp pins s4 σ H4 x3 x4 old v _ I4 r3 r4 q4) fun new s5 ⟨x5,H5,I5,r5,q5⟩=>?_
 exact cD (hs pins s5 σ H5 x1 x2 x5 ov iv new _ I5 r1 r2 r5 q5) fun _ s6 ⟨H6,I6,q6⟩=>⟨σ,H6,I6,q6⟩
def JA (f:Int→Int→Int):HV:=fun x y H Q=>∃ i j,x=.int i∧y=.int j∧Q (.int (f i j)) H
theorem CA:JP X .Sub (JA fun i j=>i-j):=by
 intro pins s σ H x y v u Q I r1 r2 h
 obtain ⟨i,j,e1,e2,q⟩:=h
 subst e1; subst e2
 obtain ⟨t,rfl⟩:=r1
 obtain ⟨t',rfl⟩:=r2
 exact isub_int ⟨.int _,H,I.tok _,⟨_,rfl⟩,q⟩
end
section
variable {X:Cx} {pos:Qq}
def Bv (c:TT) (tb:TS):TS:=fun D σ H=>∃ W:Nat→St→Hp→Prop,(∃ m,W m σ H)∧∀ m σ H,W m σ H →
 c σ H fun b H1=>if b=true then ∃ N:St→Hp→Prop,(∀ σ' H',N σ' H'→∃ m',m'<m∧W m' σ' H')∧tb { D with nx:=N,ct:=N,bk:=D.nx } σ H1 else D.nx σ H1
theorem B0 {c:Mv} (hp:PassesOwn (model X.prog X.w) X.A X.env X.xe) (hc:PT X c tc) (hb:wt X body tb):PS X (.While c body [] pos) (Bv tc tb):=by
 intro pins s σ H D I h
 obtain ⟨W,⟨m0,w0⟩,turn⟩:=h
 refine wpAny_While (codeAny_whileLoop (fun n s'=>∃ σ' H',Inv X pins σ' H' s'∧W n σ' H') ?_ m0 ⟨σ,H,I,w0⟩)
 rintro n s1 ⟨σ1,H1,I1,w1⟩
 refine NB hp (cD (hc pins s1 σ1 H1 _ I1 (turn n σ1 H1 w1)) fun b s2 ⟨H2,I2,q2⟩=>?_)
 cases b with
 | true =>
  obtain ⟨N,hN,q2⟩:=q2
  rw [if_pos rfl]
  refine NB hp (cD (hb pins s2 σ1 H2 _ I2 q2) fun f s3 q3=>?_)
  cases f with
  | next =>
   obtain ⟨σ3,H3,I3,n3⟩:=q3
   obtain ⟨m',hm,w3⟩:=hN σ3 H3 n3
   exact ⟨m',hm,σ3,H3,I3,w3⟩
  | cont =>
   obtain ⟨σ3,H3,I3,n3⟩:=q3
   obtain ⟨m',hm,w3⟩:=hN σ3 H3 n3
   exact ⟨m',hm,σ3,H3,I3,w3⟩
  | brk=>exact q3
  | ret v=>exact q3
 | false =>
  rw [if_neg KU]
  exact Pp ⟨σ1,H2,I2,q2⟩
end
structure It where
 go:Nat→Hp→Prop
 ye:Nat→Hp→V→Hp→Prop
 stop:Nat→Hp→Prop
def wm (X:Cx) (pins:List (KI×Nv)) (H:Hp) (b:KI):Prop :=
 H b=none∧b≠X.env.locals∧b∉X.fs∧(b∈X.ex∨X.s₀.heap.objs.size≤b)∧(∀ x c,X.env.cells.lookup x=some c→c≠b)∧∀ p∈X.pn++pins,p.1≠b
theorem Inv.EE {H':Hp} {s:KJ} {b:KI} (I:Inv X pins σ H s) (hb:s.heap.objs.size≤b) (hn:H' b=none):wm X pins H' b:=by
 refine ⟨hn,Ng (Lc I.lt hb),I.Ju hb,.inr (LF I.sz hb),fun x c e z=>?_,fun p hp z=>?_⟩
 ·obtain ⟨v,q⟩:=I.cell x c e
  exact absurd (Lc q.lt (by rw [z]; exact hb)) (LP _)
 ·exact absurd (Lc (K1 (I.pin p hp).1) (by rw [z]; exact hb)) (LP _)
structure Turn (P:L0) (w:L9) (K:KC) (tg:Mv) (J:It) (fp:List KI) (it:KI) (tn:Nat→ME→Prop):Prop where
 mem:it∈fp
 obj:∀ i h,tn i h→∀ b∈fp,∃ o,h.get? b=some o∧∀ v,o.data≠.cell v
 keep:∀ i h h',tn i h→(∀ b∈fp,∀ o,h.get? b=some o→h'.get? b=some o)→tn i h'
 item:∀ (X:Cx),X.prog=P→X.w=w→X.K=K→X.calm=true→∀ (i:Nat) (pins:List (KI×Nv)) (s:KJ) (σ:St) (H:Hp) (E:KD→KJ→Prop),Inv X pins σ H s→(∀ b∈fp,wm X pins H b)→tn i s.heap→J.go i H →
  Lh (model P w) X.A (RX (.ref it)) (fun r s1=>∃ u,r=some u ∧
   Lh (model P w) X.A (Pq tg (.ref it) u) (fun _ s2=>∃ x H',Inv X pins σ H' s2∧RelV x u∧J.ye i H x H'∧tn (i+1) s2.heap∧∀ b∈fp,H' b=none) E s1) E s
 done:∀ (X:Cx),X.prog=P→X.w=w→X.K=K→X.calm=true→∀ (i:Nat) (pins:List (KI×Nv)) (s:KJ) (σ:St) (H:Hp) (E:KD→KJ→Prop),Inv X pins σ H s→(∀ b∈fp,wm X pins H b)→tn i s.heap→J.stop i H →
  Lh (model P w) X.A (RX (.ref it)) (fun r s1=>r=none∧Inv X pins σ H s1) E s
 self:∀ (A:L4) (i:Nat) (s:KJ) (Q:KD→KJ→Prop) (E:KD→KJ→Prop),tn i s.heap→Q (.ref it) s→Lh (model P w) A (pyIter (.ref it)) Q E s
abbrev TI:=St→Hp→(It→Hp→Prop)→Prop
def J4 (X:Cx) (pins:List (KI×Nv)) (σ:St) (tg:Mv) (R:It→Hp→Prop) (itv:KD) (s2:KJ):Prop :=
 ∃ (it:KI) (fp:List KI) (tn:Nat→ME→Prop) (J:It) (H':Hp),itv=.ref it∧Inv X pins σ H' s2∧Turn X.prog X.w X.K tg J fp it tn∧tn 0 s2.heap∧(∀ b∈fp,wm X pins H' b)∧R J H'
def PI (X:Cx) (tg iter:Mv) (wi:TI):Prop :=
 ∀ (pins:List (KI×Nv)) (s:KJ) (σ:St) (H:Hp) (R:It→Hp→Prop),Inv X pins σ H s→wi σ H R →
  Lh (model X.prog X.w) X.A (eval iter X.env) (fun v s1=>Lh (model X.prog X.w) X.A (pyIter v) (J4 X pins σ tg R) X.xe s1) X.xe s
theorem FG {s:KJ} {n:String} {vs:Array KD} (ho:s.heap.get? it=some o) (hc:o.cls=.type n) (hd:o.data=.fields vs)
    (hn:["enumerate", "zip", "dict_itemiterator", "dict_reverseitemiterator", "odict_iterator", "itertools.zip_longest", "itertools.pairwise"].contains n=false) (hQ:Q () s):Lh M A (Pq tg (.ref it) u) Q E s:=by
  unfold Pq
  cases tg <;> first
    | exact Lp hQ
    | (cases u <;> first
        | exact Lp hQ
        | (refine wpAny_bind (wpAny_load ho ?_)
           rw [hc,hd]
           show Lh M A (if (["enumerate", "zip", "dict_itemiterator", "dict_reverseitemiterator", "odict_iterator", "itertools.zip_longest", "itertools.pairwise"].contains n&&vs[0]?==some (Su _))=true then _ else _) Q E s
           rw [if_neg (by intro h; rw [hn,Bool.false_and] at h; cases h)]
           exact Lp hQ))
def Ji (K:KC) (a:KI):It :=
 ⟨fun i H=>∃ xs x,dA K H a xs∧xs[i]?=some x,fun i H x H'=>H'=H∧∀ xs,dA K H a xs→xs[i]?=some x,fun i H=>∃ xs,dA K H a xs∧xs.length≤i⟩
def IX (lo:Int) (n:Nat):It:=⟨fun i _=>i<n,fun i H x H'=>H'=H∧x=.int (lo+i),fun i _=>n≤i⟩
theorem zE {w:L9} (a it:KI):Turn P w K tg (Ji K a) [it] it (fun i h=>h.IsListIter it a i) where
 mem:=by simp
 obj:=fun i h st b hb=>by
  have e:b=it:=by simpa using hb
  subst e
  obtain ⟨o,e,c,d⟩:=st
  exact ⟨o,e,fun v z=>by rw [d] at z; cases z⟩
 keep:=fun i h h' st k=>st.at fun o e=>k it (by simp) o e
 item:=by
  intro X hP hw hK hc i pins s σ H E I hf st hg
  subst hP hw hK
  obtain ⟨xs,x,hq,hx⟩:=hg
  obtain ⟨its,rv,p,hz⟩:=I.list hq
  obtain ⟨u,hu,ru⟩:=rv.get hx
  obtain ⟨f0,f1,f2,f3,f4,f5⟩:=hf it (by simp)
  refine QD st p.isList (x:=u) (by simpa using hu) fun h' st' sb=>?_
  have I1:Inv X pins σ H { s with heap:=h' }:=I.turned (t':=s.toks) (fun b o hb e=>(sb.2 b hb).trans e) f0 f1 f3 f4 f5
  obtain ⟨o,e,c,d⟩:=id st'
  exact ⟨u,rfl,FG (s:={ s with heap:=h' }) e c d (by decide) ⟨x,H,I1,ru,⟨rfl,fun ys hy=>by rw [I.vx hy hq]; exact hx⟩,st',fun b hb=>(hf b hb).1⟩⟩
 done:=by
  intro X hP hw hK hc i pins s σ H E I hf st hg
  subst hP hw hK
  obtain ⟨xs,hq,hx⟩:=hg
  obtain ⟨its,rv,p,hz⟩:=I.list hq
  obtain ⟨f0,f1,f2,f3,f4,f5⟩:=hf it (by simp)
  have hl:=rv.length
  exact Q7 (I.ok.hd hc) st p.isList (by simp; omega) fun h' eb=>⟨rfl,I.turned (t':=s.toks) (fun b o hb e=>eb b o hb e) f0 f1 f3 f4 f5⟩
 self:=fun _ _ _ _ _ st h=>wpAny_pyIter_listiter st h
variable {ta:TA} {fp:List KI}
theorem wI {w:L9} (it:KI) (lo:Int) (n:Nat):Turn P w K tg (IX lo n) [it] it (fun i h=>IsRangeIter h it (lo+(i:Nat)*1) ((n:Int)-(i:Nat)) 1) where
 mem:=by simp
 obj:=fun i h st b hb=>by
  have e:b=it:=by simpa using hb
  subst e
  exact ⟨_,st,fun v z=>by
   have z':Data.fields _=Data.cell v:=z
   cases z'⟩
 keep:=fun i h h' st k=>k it (by simp) _ st
 item:=by
  intro X hP hw hK hc i pins s σ H E I hf st hg
  subst hP hw hK
  obtain ⟨f0,f1,f2,f3,f4,f5⟩:=hf it (by simp)
  have W:=Walks.range (prog:=X.prog) (w:=X.w) (I.ok.hd hc) it lo 1 n
  refine W.item i s _ _ hg st fun v h' tk hv st' kk=>?_
  obtain ⟨t,rfl⟩:=hv
  have I1:Inv X pins σ H { s with heap:=h',toks:=tk }:=I.turned (fun b o hb e=>kk b o (by simpa using hb) e) f0 f1 f3 f4 f5
  refine ⟨_,rfl,FG (s:={ s with heap:=h',toks:=tk }) (n := "range_iterator") st' rfl rfl (by decide) ⟨.int (lo+i),H,I1,⟨t,?_⟩,⟨rfl,rfl⟩,st',fun b hb=>(hf b hb).1⟩⟩
  rw [Int.mul_one]
 done:=by
  intro X hP hw hK hc i pins s σ H E I hf st hg
  subst hP hw hK
  obtain ⟨f0,f1,f2,f3,f4,f5⟩:=hf it (by simp)
  exact wpAny_pyNext_range_end (I.ok.hd hc) st (by have:n≤i:=hg; omega) fun h' eb=>⟨rfl,I.turned (t':=s.toks) (fun b o hb e=>eb b o hb e) f0 f1 f3 f4 f5⟩
 self:=fun _ _ _ _ _ st h=>wpAny_pyIter_rangeiter st h
section
variable {X:Cx} {tg:Mv}
def vC (K:KC) (tl:TE):TI:=fun σ H R=>tl σ H fun x H1=>∃ a,x=.ref a∧(∃ xs,dA K H1 a xs)∧R (Ji K a) H1
theorem Eg {l:Mv} {tl:TE} (hl:PE X l tl):PI X tg l (vC X.K tl):=by
 intro pins s σ H R I h
 refine cD (hl pins s σ H _ I h) fun v s1 ⟨x,H1,I1,r1,q1⟩=>?_
 obtain ⟨a,e,⟨xs,hq⟩,q⟩:=q1
 subst e
 cases r1
 obtain ⟨its,rv,p,hz⟩:=I1.list hq
 refine P8 p.isList ?_
 refine ⟨s1.heap.objs.size,[s1.heap.objs.size],_,_,H1,rfl,I1.kept (t':=s1.toks) fun b o e=>KN _ e,zE a _,⟨_,LD _ rfl,rfl,rfl⟩,fun b hb=>?_,q⟩
 have e:b=s1.heap.objs.size:=by simpa using hb
 subst e
 exact I1.EE (Lg _) (I1.cu.fresh (Lg _))
theorem vc {s:KJ} {R:It→Hp→Prop} {lo hi:Int} {t u v:Tw} {tk:Nat} (I:Inv X pins σ H s) (h1:-(2 ^ 62)≤lo) (h2:lo<2 ^ 62) (h3:-(2 ^ 62)≤hi) (h4:hi<2 ^ 62)
 (q:R (IX lo (hi-lo).toNat) H):Lh (model X.prog X.w) X.A (pyIter (.ref s.heap.objs.size)) (J4 X pins σ tg R) E { s with heap:=s.heap.push { cls:=.type "range", data:=.fields #[.int lo t,.int hi u,.int 1 v] },toks:=tk }:=by
 refine wpAny_pyIter_range (IsRange.new ..) (small_one h1 h2 h3 h4) ?_
 have I1:Inv X pins σ H { s with heap:=s.heap.push { cls:=.type "range", data:=.fields #[.int lo t,.int hi u,.int 1 v] },toks:=tk }:=I.kept fun b o e=>KN _ e
 refine ⟨(s.heap.push { cls:=.type "range", data:=.fields #[.int lo t,.int hi u,.int 1 v] }).objs.size,[(s.heap.push { cls:=.type "range", data:=.fields #[.int lo t,.int hi u,.int 1 v] }).objs.size],_,_,H,rfl,
  I1.kept (t':=tk) fun b o e=>KN _ e,wI _ lo (hi-lo).toNat,?_,fun b hb=>?_,q⟩
 ·have e1:lo+((0:Nat):Int)*1=lo:=by simp
  have e2:(((hi-lo).toNat:Nat):Int)-((0:Nat):Int)=Builtin.Range.rangeSize lo hi 1:=by rw [rangeSize_one]; split <;> omega
  show IsRangeIter _ _ (lo+((0:Nat):Int)*1) ((((hi-lo).toNat:Nat):Int)-((0:Nat):Int)) 1
  rw [e1,e2]
  exact LD _ rfl
 ·have e:b=(s.heap.push { cls:=.type "range", data:=.fields #[.int lo t,.int hi u,.int 1 v] }).objs.size:=by simpa using hb
  subst e
  exact I1.EE (Lg _) (I1.cu.fresh (Lg _))
def FD (ta:TA):TI:=fun σ H R=>ta σ H fun vs H1=>∃ j:Int,vs=[.int j]∧-(2 ^ 62)≤j∧j<2 ^ 62∧R (IX 0 j.toNat) H1
def FC (ta:TA):TI:=fun σ H R=>ta σ H fun vs H1=>∃ i j:Int,vs=[.int i,.int j]∧(-(2 ^ 62)≤i∧i<2 ^ 62∧-(2 ^ 62)≤j∧j<2 ^ 62)∧R (IX i (j-i).toNat) H1
theorem cS {a:Mv} {p:Qq} (hg:Gl X "range") (hm:X.mg "range" = none) (ha:PA X [a] ta) (hs:Mi [a] X.env=[(false,eval a X.env)]:=by rfl):PI X tg (.Call (.Name "range" p) [a] [] pos) (FD ta):=by
 intro pins s σ H R I h
 refine Call_ (iR I hg hm boot_range (Nr (cD (ha pos pins s σ H _ I h) fun us s1 ⟨vs,H1,I1,r1,q1⟩=>?_) hs rfl))
 obtain ⟨j,e,q1,q2,q⟩:=q1
 subst e
 cases r1 with
 | cons r rr =>
  cases rr
  obtain ⟨t,rfl⟩:=r
  exact call_range_1 (vc I1 (by omega) (by omega) q1 q2 (by simpa using q))
theorem z8 {a b:Mv} {p:Qq} (hg:Gl X "range") (hm:X.mg "range" = none) (ha:PA X [a,b] ta) (hs:Mi [a,b] X.env=[(false,eval a X.env),(false,eval b X.env)]:=by rfl) (hs2:Mi [b] X.env=[(false,eval b X.env)]:=by rfl) :
 PI X tg (.Call (.Name "range" p) [a,b] [] pos) (FC ta):=by
 intro pins s σ H R I h
 refine Call_ (iR I hg hm boot_range (Nr (cD (ha pos pins s σ H _ I h) fun us s1 ⟨vs,H1,I1,r1,q1⟩=>?_) (by rw [hs,hs2]) (by rw [hs2]; rfl)))
 obtain ⟨i,j,e,⟨q1,q2,q3,q4⟩,q⟩:=q1
 subst e
 cases r1 with
 | cons r rr =>
  cases rr with
  | cons r' rr =>
   cases rr
   obtain ⟨t,rfl⟩:=r
   obtain ⟨t',rfl⟩:=r'
   exact call_range_2 (vc I1 q1 q2 q3 q4 q)
def Ig (wi:TI) (g:TG) (tb:TS):TS:=fun D σ H=>wi σ H fun J H1=>∃ W:Nat→Nat→St→Hp→Prop,(∃ m,W 0 m σ H1)∧∀ i m σ H,W i m σ H →
 (J.stop i H∧D.nx σ H)∨(J.go i H∧∃ N:St→Hp→Prop,(∀ σ' H',N σ' H'→∃ m',m'<m∧W (i+1) m' σ' H')∧∀ x H',J.ye i H x H'→g x σ H' fun σ2 H2=>tb { D with nx:=N,ct:=N,bk:=D.nx } σ2 H2)
def pH (fp:List KI) (h:ME):List (KI×Nv):=fp.filterMap fun b=>(h.get? b).map fun o=>(b,o)
theorem ij {b:KI} (hb:b∈fp) (e:h.get? b=some o):(b,o)∈pH fp h:=OK.mpr ⟨b,hb,by rw [e]; rfl⟩
theorem Ai (hp:p∈pH fp h):p.1∈fp∧h.get? p.1=some p.2:=by
 obtain ⟨b,hb,e⟩:=OK.mp hp
 cases q:h.get? b with
 | none=>rw [q] at e; cases e
 | some o =>
  rw [q] at e
  have e':(b,o)=p:=Lz e
  subst e'
  exact ⟨hb,q⟩
theorem Inv.pinned {s:KJ} (I:Inv X pins σ H s) (hf:∀ b∈fp,wm X pins H b) (ho:∀ b∈fp,∃ o,s.heap.get? b=some o∧∀ v,o.data≠.cell v):Inv X (pins++pH fp s.heap) σ H s :=
 I.ic fun p hp=>(KS.mp hp).elim (fun z=>I.pin p (KA _ z)) fun z=>by
  obtain ⟨hb,e⟩:=Ai z
  obtain ⟨f0,f1,f2,_⟩:=hf p.1 hb
  obtain ⟨o,e',d⟩:=ho p.1 hb
  rw [e] at e'; cases e'
  exact ⟨e,f0,f1,f2,d⟩
theorem Inv.dZ {pl:List (KI×Nv)} {s:KJ} (I:Inv X (pins++pl) σ H s):Inv X pins σ H s:=I.ic fun p hp=>I.pin p (KA _ (K3 _ hp))
theorem fQ {iter:Mv} {wi:TI} {g:TG} (hp:PassesOwn (model X.prog X.w) X.A X.env X.xe) (hc:X.calm=true) (hi:PI X tg iter wi) (hg:PG X tg g) (hb:wt X body tb)
 (hs:∀ x,Nk iter X.env x=pure x:=by intro _; rfl):PS X (.For tg iter body [] pos) (Ig wi g tb):=by
 intro pins s σ H D I h
 refine wpAny_For (cD (hi pins s σ H _ I h) fun v s1 h1=>cD h1 fun itv s2 h2=>?_) hs
 obtain ⟨it,fp,tn,J,H2,e,I2,T,st2,f2,W,⟨m0,w0⟩,turn⟩:=h2
 subst e
 have stat:∀ {H':Hp},(∀ b∈fp,H' b=none)→∀ b∈fp,wm X pins H' b:=fun hn b hb=>⟨hn b hb,(f2 b hb).2⟩
 refine codeAny_forLoop_any (fun n s'=>∃ i σ' H',Inv X pins σ' H' s'∧tn i s'.heap∧(∀ b∈fp,H' b=none)∧W i n σ' H') ?_ m0 ⟨0,σ,H2,I2,st2,fun b hb=>(f2 b hb).1,w0⟩
 rintro n s3 ⟨i,σ3,H3,I3,st3,fr3,w3⟩
 rcases turn i n σ3 H3 w3 with ⟨stop,qn⟩ | ⟨go,N,hN,step⟩
 ·refine NB hp (cD (T.done X rfl rfl rfl hc i pins s3 σ3 H3 X.xe I3 (stat fr3) st3 stop) fun r s4 ⟨hr,I4⟩=>?_)
  subst hr
  exact Pp ⟨σ3,H3,I4,qn⟩
 ·refine NB hp (cD (T.item X rfl rfl rfl hc i pins s3 σ3 H3 X.xe I3 (stat fr3) st3 go) fun r s4 ⟨u,hr,h4⟩=>?_)
  subst hr
  refine NB hp (cD h4 fun _ s5 ⟨x,H5,I5,r5,y5,st5,fr5⟩=>?_)
  have I5':=I5.pinned (stat fr5) (T.obj _ _ st5)
  refine NB hp (cD (hg _ s5 σ3 H5 x u _ I5' r5 (step x H5 y5)) fun _ s6 ⟨σ6,H6,I6,q6⟩=>?_)
  refine NB hp (cD (hb _ s6 σ6 H6 _ I6 q6) fun f s7 q7=>?_)
  have again:∀ {σ7:St} {H7:Hp},Inv X (pins++pH fp s5.heap) σ7 H7 s7→N σ7 H7→∃ m,m<n∧∃ i σ' H',Inv X pins σ' H' s7∧tn i s7.heap∧(∀ b∈fp,H' b=none)∧W i m σ' H':=fun {σ7 H7} I7 n7=>by
   obtain ⟨m',hm,w7⟩:=hN σ7 H7 n7
   refine ⟨m',hm,i+1,σ7,H7,I7.dZ,T.keep _ _ _ st5 fun b hb o e=>(I7.pin (b,o) (KA _ (KA _ (ij hb e)))).1,fun b hb=>?_,w7⟩
   obtain ⟨o,e,d⟩:=T.obj _ _ st5 b hb
   exact (I7.pin (b,o) (KA _ (KA _ (ij hb e)))).2.1
  cases f with
  | next=>obtain ⟨σ7,H7,I7,n7⟩:=q7; exact again I7 n7
  | cont=>obtain ⟨σ7,H7,I7,n7⟩:=q7; exact again I7 n7
  | brk=>obtain ⟨σ7,H7,I7,q7⟩:=q7; exact ⟨σ7,H7,I7.dZ,q7⟩
  | ret v=>obtain ⟨x7,σ7,H7,I7,r7,q7⟩:=q7; exact ⟨x7,σ7,H7,I7.dZ,r7,q7⟩
end
abbrev R2:=V→V→Hp→VK→Prop
def oR (X:Cx) (f:KD→KD→Sem KD) (r:R2):Prop :=
 ∀ (pins:List (KI×Nv)) (s:KJ) (σ:St) (H:Hp) (x y:V) (v u:KD) (Q:VK),Inv X pins σ H s→RelV x v→RelV y u→r x y H Q →
  Lh (model X.prog X.w) X.A (f v u) (EP X pins σ Q) X.xe s
def JN (X:Cx) (f:KD→Sem KD) (r:V→Hp→VK→Prop):Prop :=
 ∀ (pins:List (KI×Nv)) (s:KJ) (σ:St) (H:Hp) (x:V) (v:KD) (Q:VK),Inv X pins σ H s→RelV x v→r x H Q →
  Lh (model X.prog X.w) X.A (f v) (EP X pins σ Q) X.xe s
def cP (X:Cx) (f:KD) (r:List V→Hp→VK→Prop):Prop :=
 ∀ (pins:List (KI×Nv)) (s:KJ) (σ:St) (H:Hp) (xs:List V) (us:List KD) (Q:VK),Inv X pins σ H s→Vals xs us→r xs H Q →
  Lh (model X.prog X.w) X.A (call f us) (EP X pins σ Q) X.xe s
def JO (X:Cx) (r:V→Hp→(Bool→Hp→Prop)→Prop):Prop :=
 ∀ (pins:List (KI×Nv)) (s:KJ) (σ:St) (H:Hp) (x:V) (v:KD) (Q:Bool→Hp→Prop),Inv X pins σ H s→RelV x v→r x H Q →
  Lh (model X.prog X.w) X.A (truthy v) (TP X pins σ Q) X.xe s
def nT (r:R2) (ta tb:TE):TE:=fun σ H Q=>ta σ H fun x H1=>tb σ H1 fun y H2=>r x y H2 Q
def JU (r:V→Hp→VK→Prop) (ta:TE):TE:=fun σ H Q=>ta σ H fun x H1=>r x H1 Q
def rI (C:Int→Int→Prop) (g:Int→Int→V):R2:=fun x y H Q=>∃ i j,x=.int i∧y=.int j∧C i j∧Q (g i j) H
def z6 (g:Int→Int→V):R2:=fun x y H Q=>∃ i j,x=.int i∧y=.int j∧Q (g i j) H
variable {r:R2} {f:KD→KD→Sem KD}
def rU (g:Int→V):V→Hp→VK→Prop:=fun x H Q=>∃ i,x=.int i∧Q (g i) H
section
variable {X:Cx} {a b c:Mv} {ta tb tc:TE} {pos:Qq}
theorem Hy (ha:PE X a ta) (hb:PE X b tb) {s:KJ} {R:V→V→Hp→Prop} (I:Inv X pins σ H s)
 (h:ta σ H fun x H1=>tb σ H1 fun y H2=>R x y H2) {Q:KD→KJ→Prop} {f:KD→KD→Sem KD}
 (hf:∀ v u s2 x y H2,Inv X pins σ H2 s2→RelV x v→RelV y u→R x y H2→Lh (model X.prog X.w) X.A (f v u) Q X.xe s2) :
 Lh (model X.prog X.w) X.A (eval a X.env) (fun v s₁=>Lh (model X.prog X.w) X.A (eval b X.env) (fun u s₂=>Lh (model X.prog X.w) X.A (f v u) Q X.xe s₂) X.xe s₁) X.xe s:=by
 refine cD (ha pins s σ H _ I h) fun v s1 ⟨x,H1,I1,r1,q1⟩=>?_
 refine cD (hb pins s1 σ H1 _ I1 q1) fun u s2 ⟨y,H2,I2,r2,q2⟩=>?_
 exact hf v u s2 x y H2 I2 r1 r2 q2
theorem aW {op:SW} (ho:oR X (Pk op) r) (ha:PE X a ta) (hb:PE X b tb):PE X (.BinOp a op b pos) (nT r ta tb):=by
 intro pins s σ H Q I h
 exact wpAny_BinOp (Hy ha hb I h fun v u s2 x y H2 I2 rx ry q=>ho pins s2 σ H2 x y v u Q I2 rx ry q)
theorem rQ {op:UnaryOp} {r:V→Hp→VK→Prop} (ho:JN X (unaryOp op) r) (ha:PE X a ta):PE X (.UnaryOp op a pos) (JU r ta):=by
 intro pins s σ H Q I h
 exact UnaryOp_ (cD (ha pins s σ H _ I h) fun v s1 ⟨x,H1,I1,r1,q1⟩=>ho pins s1 σ H1 x v Q I1 r1 q1)
theorem Jc {C:Int→Int→Prop} {g:Int→Int→Int}
 (rule:∀ (i j:Int) (t u:Tw) (s:KJ) (Q:KD→KJ→Prop) (E:KD→KJ→Prop),C i j→Q (.int (g i j) s.toks) { s with toks:=s.toks+1 }→Lh (model X.prog X.w) X.A (f (.int i t) (.int j u)) Q E s) :
 oR X f (rI C fun i j=>.int (g i j)):=by
 intro pins s σ H x y v u Q I rx ry h
 obtain ⟨i,j,rfl,rfl,hc,q⟩:=h
 obtain ⟨t,rfl⟩:=rx
 obtain ⟨t',rfl⟩:=ry
 exact rule i j t t' s _ _ hc ⟨.int (g i j),H,I.tok _,⟨_,rfl⟩,q⟩
theorem IB {g:Int→Int→Int}
 (rule:∀ (i j:Int) (t u:Tw) (s:KJ) (Q:KD→KJ→Prop) (E:KD→KJ→Prop),Q (.int (g i j) s.toks) { s with toks:=s.toks+1 }→Lh (model X.prog X.w) X.A (f (.int i t) (.int j u)) Q E s) :
 oR X f (z6 fun i j=>.int (g i j)):=by
 intro pins s σ H x y v u Q I rx ry h
 obtain ⟨i,j,rfl,rfl,q⟩:=h
 obtain ⟨t,rfl⟩:=rx
 obtain ⟨t',rfl⟩:=ry
 exact rule i j t t' s _ _ ⟨.int (g i j),H,I.tok _,⟨_,rfl⟩,q⟩
theorem GR {g:Int→Int→Bool}
 (rule:∀ (i j:Int) (t u:Tw) (s:KJ) (Q:KD→KJ→Prop) (E:KD→KJ→Prop),Q (.bool (g i j)) s→Lh (model X.prog X.w) X.A (f (.int i t) (.int j u)) Q E s) :
 oR X f (z6 fun i j=>.bl (g i j)):=by
 intro pins s σ H x y v u Q I rx ry h
 obtain ⟨i,j,rfl,rfl,q⟩:=h
 obtain ⟨t,rfl⟩:=rx
 obtain ⟨t',rfl⟩:=ry
 exact rule i j t t' s _ _ ⟨.bl (g i j),H,I,rfl,q⟩
def E9 (i j:Int):Prop:=0≤j∧j≤1000000∧i.natAbs<2 ^ 64
def HN (i j:Int):Prop:=(-(2 ^ 64)<i∧i<2 ^ 64)∨(-(2 ^ 64)<j∧j<2 ^ 64)
theorem HN.ok {i j:Int} (h:HN i j):Rc i j:=by
 rcases h with ⟨h1,h2⟩ | ⟨h1,h2⟩
 ·exact .of_left (intBits_le_64 h1 h2)
 ·exact .of_right (intBits_le_64 h1 h2)
theorem fR:oR X (Pk .Add) (z6 fun i j=>.int (i+j)):=IB fun _ _ _ _ _ _ _ q=>add_int q
theorem xt:oR X (Pk .Sub) (z6 fun i j=>.int (i-j)):=IB fun _ _ _ _ _ _ _ q=>sub_int q
theorem eO:oR X (Pk .Mod) (rI (fun _ j=>0<j) fun i j=>.int (i % j)):=Jc fun i j _ _ _ _ _ hc q=>by
 have h1:(0:Int)<j:=hc
 exact mod_int' (by omega) (by rw [Int.fmod_eq_emod_of_nonneg i (by omega)]; exact q)
theorem B9:oR X (Pk .Pow) (rI E9 fun i j=>.int (i ^ j.toNat)):=Jc fun _ _ _ _ _ _ _ hc q=>pow_int_small hc.1 hc.2.1 hc.2.2 q
theorem Jn {f:KD→Sem KD} {g:Int→Int}
 (rule:∀ (i:Int) (t:Tw) (s:KJ) (Q:KD→KJ→Prop) (E:KD→KJ→Prop),Q (.int (g i) s.toks) { s with toks:=s.toks+1 }→Lh (model X.prog X.w) X.A (f (.int i t)) Q E s) :
 JN X f (rU fun i=>.int (g i)):=by
 intro pins s σ H x v Q I rx h
 obtain ⟨i,rfl,q⟩:=h
 obtain ⟨t,rfl⟩:=rx
 exact rule i t s _ _ ⟨.int (g i),H,I.tok _,⟨_,rfl⟩,q⟩
theorem md:JN X (unaryOp .USub) (rU fun i=>.int (-i)):=Jn fun _ _ _ _ _ q=>neg_int q
end
def jC:V→V→Bool
 | .non,.non=>true | .non,.int _=>true | .int _,.non=>true | .non,.bl _=>true | .bl _,.non=>true | .non,.str _=>true | .str _,.non=>true
 | .int _,.int _=>true | .bl _,.bl _=>true | .str _,.str _=>true | .byt _,.byt _=>true
 | .int _,.str _=>true | .str _,.int _=>true | .bl _,.str _=>true | .str _,.bl _=>true
 | _,_=>false
def Kc:R2:=fun x y H Q=>jC x y=true∧Q (.bl (decide (x=y))) H
def Kb:R2:=fun x y H Q=>jC x y=true∧Q (.bl (!decide (x=y))) H
theorem lp {i j:Int}:decide (V.int i=V.int j)=(i==j):=by
 rw [LY]
 simp
theorem um {i j:Bool}:decide (V.bl i=V.bl j)=(i==j):=by
 rw [LY]
 simp
theorem oN {i j:LV}:decide (V.str i=V.str j)=(i==j):=by
 rw [LY]
 simp
variable {us:List KD}
theorem ze {i j:Array UInt8}:decide (V.byt i=V.byt j)=(i.toList==j.toList):=by
 rw [LY]
 cases i
 cases j
 simp
section
variable {X:Cx} {a b c:Mv} {ta tb tc:TE} {pos:Qq}
theorem bw {s:KJ} {Q:VK} {k k':Bool} (I:Inv X pins σ H s) (q:Q (.bl k) H) (e:k=k'):EP X pins σ Q (.bool k') s:=by
 subst e
 exact ⟨.bl k,H,I,rfl,q⟩
theorem yO:oR X (Nj .Eq) Kc:=by
 intro pins s σ H x y v u Q I rx ry h
 obtain ⟨hs,q⟩:=h
 cases x with
 | non =>
  cases rx
  cases y with
  | non=>cases ry; exact PySem.EqNone.eq_none_none (bw I q (by simp))
  | bl j=>cases ry; exact PySem.EqNone.eq_none_bool (bw I q (by simp))
  | int j=>obtain ⟨t',rfl⟩:=ry; exact PySem.EqNone.eq_none_int (bw I q (by simp))
  | str j=>obtain ⟨t',rfl⟩:=ry; exact PySem.EqNone.eq_none_str (bw I q (by simp))
  | _=>exact absurd (show false=true from hs) KU
 | bl i =>
  cases rx
  cases y with
  | non=>cases ry; exact PySem.EqNone.eq_bool_none (bw I q (by simp))
  | bl j=>cases ry; exact eq_bool (bw I q um)
  | str j=>obtain ⟨t',rfl⟩:=ry; exact PySem.EqMixed.eq_bool_str (bw I q (by simp))
  | _=>exact absurd (show false=true from hs) KU
 | int i =>
  obtain ⟨t,rfl⟩:=rx
  cases y with
  | non=>cases ry; exact PySem.EqNone.eq_int_none (bw I q (by simp))
  | int j=>obtain ⟨t',rfl⟩:=ry; exact eq_int (bw I q lp)
  | str j=>obtain ⟨t',rfl⟩:=ry; exact PySem.EqMixed.eq_int_str (bw I q (by simp))
  | _=>exact absurd (show false=true from hs) KU
 | str i =>
  obtain ⟨t,rfl⟩:=rx
  cases y with
  | non=>cases ry; exact PySem.EqNone.eq_str_none (bw I q (by simp))
  | bl j=>cases ry; exact PySem.EqMixed.eq_str_bool (bw I q (by simp))
  | int j=>obtain ⟨t',rfl⟩:=ry; exact PySem.EqMixed.eq_str_int (bw I q (by simp))
  | str j=>obtain ⟨t',rfl⟩:=ry; exact eq_str (bw I q oN)
  | _=>exact absurd (show false=true from hs) KU
 | byt i =>
  obtain ⟨t,rfl⟩:=rx
  cases y with
  | byt j=>obtain ⟨t',rfl⟩:=ry; exact PySem.W.eq_bytes (bw I q ze)
  | _=>exact absurd (show false=true from hs) KU
 | _=>cases y <;> exact absurd (show false=true from hs) KU
theorem yN:oR X (Nj .NotEq) Kb:=by
 intro pins s σ H x y v u Q I rx ry h
 obtain ⟨hs,q⟩:=h
 cases x with
 | non =>
  cases rx
  cases y with
  | non=>cases ry; exact PySem.EqNone.ne_none_none (bw I q (by simp))
  | bl j=>cases ry; exact PySem.EqNone.ne_none_bool (bw I q (by simp))
  | int j=>obtain ⟨t',rfl⟩:=ry; exact PySem.EqNone.ne_none_int (bw I q (by simp))
  | str j=>obtain ⟨t',rfl⟩:=ry; exact PySem.EqNone.ne_none_str (bw I q (by simp))
  | _=>exact absurd (show false=true from hs) KU
 | bl i =>
  cases rx
  cases y with
  | non=>cases ry; exact PySem.EqNone.ne_bool_none (bw I q (by simp))
  | bl j=>cases ry; exact ne_bool (bw I q (congrArg not um))
  | str j=>obtain ⟨t',rfl⟩:=ry; exact PySem.EqMixed.ne_bool_str (bw I q (by simp))
  | _=>exact absurd (show false=true from hs) KU
 | int i =>
  obtain ⟨t,rfl⟩:=rx
  cases y with
  | non=>cases ry; exact PySem.EqNone.ne_int_none (bw I q (by simp))
  | int j=>obtain ⟨t',rfl⟩:=ry; exact ne_int (bw I q (congrArg not lp))
  | str j=>obtain ⟨t',rfl⟩:=ry; exact PySem.EqMixed.ne_int_str (bw I q (by simp))
  | _=>exact absurd (show false=true from hs) KU
 | str i =>
  obtain ⟨t,rfl⟩:=rx
  cases y with
  | non=>cases ry; exact PySem.EqNone.ne_str_none (bw I q (by simp))
  | bl j=>cases ry; exact PySem.EqMixed.ne_str_bool (bw I q (by simp))
  | int j=>obtain ⟨t',rfl⟩:=ry; exact PySem.EqMixed.ne_str_int (bw I q (by simp))
  | str j=>obtain ⟨t',rfl⟩:=ry; exact ne_str (bw I q (congrArg not oN))
  | _=>exact absurd (show false=true from hs) KU
 | byt i =>
  obtain ⟨t,rfl⟩:=rx
  cases y with
  | byt j=>obtain ⟨t',rfl⟩:=ry; exact PySem.W.ne_bytes (bw I q (congrArg not ze))
  | _=>exact absurd (show false=true from hs) KU
 | _=>cases y <;> exact absurd (show false=true from hs) KU
theorem nI:oR X (Nj .Lt) (z6 fun i j=>.bl (decide (i<j))):=GR fun _ _ _ _ _ _ _ q=>lt_int q
theorem Ca:oR X (Nj .Gt) (z6 fun i j=>.bl (decide (j<i))):=GR fun _ _ _ _ _ _ _ q=>gt_int q
theorem Cb:oR X (Nj .GtE) (z6 fun i j=>.bl (decide (j≤i))):=GR fun _ _ _ _ _ _ _ q=>ge_int q
theorem bz (b:Mv) {op:CmpOp} (h:op≠.In:=by decide) (h2:op≠.NotIn:=by decide):Ph op b=false:=by
 have e1:(op==CmpOp.In)=false:=by cases op <;> first | rfl | exact absurd rfl h
 have e2:(op==CmpOp.NotIn)=false:=by cases op <;> first | rfl | exact absurd rfl h2
 cases b <;> simp [Ph,e1,e2]
theorem eY {op:CmpOp} (ho:oR X (Nj op) r) (ha:PE X a ta) (hb:PE X b tb) (hm:Ph op b=false):PE X (.Compare a [op] [b] pos) (nT r ta tb):=by
 intro pins s σ H Q I h
 exact wpAny_Compare1 (Hy ha hb I h fun v u s2 x y H2 I2 rx ry q=>ho pins s2 σ H2 x y v u Q I2 rx ry q) hm
def Fe (t:TE):TT:=fun σ H Q=>t σ H fun x H'=>∃ k,x=.bl k∧Q k H'
theorem bM {op:CmpOp} (ho:oR X (Nj op) r) (ha:PE X a ta) (hb:PE X b tb) (hm:Ph op b=false):PT X (.Compare a [op] [b] pos) (Fe (nT r ta tb)):=by
 intro pins s σ H Q I h
 refine Q6 (cD (ha pins s σ H _ I h) fun v s1 ⟨x,H1,I1,r1,q1⟩=>cD (hb pins s1 σ H1 _ I1 q1) fun u s2 ⟨y,H2,I2,r2,q2⟩ =>
  cD (ho pins s2 σ H2 x y v u _ I2 r1 r2 q2) fun c s3 ⟨z,H3,I3,r3,k,e,q3⟩=>?_) hm
 subst e
 cases r3
 exact MR ⟨H3,I3,q3⟩
def Du (K:KC) (x:V) (H:Hp) (k:Bool):Prop :=
 match x with
 | .non=>k=false
 | .bl b=>k=b
 | .int i=>k=(i != 0)
 | .str y=>y.length≤KH∧k=((y.length:Int) != 0)
 | .byt y=>y.size≤KH∧k=((y.size:Int) != 0)
 | .ref p=>(∃ xs,dA K H p xs∧k=!xs.isEmpty)∨(∃ xs,Bh K H p xs∧k=!xs.isEmpty)∨∃ kvs,H p=some (.dK kvs)∧k=!kvs.isEmpty
 | _=>False
theorem xK {κ:Type} {kvs:List (κ×V)} {vs:List (κ×KD)} (r:KV kvs vs):(!vs.isEmpty)=!kvs.isEmpty:=by
 cases r <;> rfl
theorem p9 {xs:List V} {its:List KD} (r:Vals xs its):(!its.toArray.isEmpty)=!xs.isEmpty:=by
 cases r <;> simp
theorem j5:(KH:Nat)<2 ^ 63:=by rw [Lv]; decide
theorem FY:JO X (fun x H Q=>∃ k,Du X.K x H k∧Q k H):=by
 intro pins s σ H x v Q I rx h
 obtain ⟨k,e,q⟩:=h
 have hl:=j5
 have hs:KH=16777216:=Lv
 cases x with
 | non =>
  cases rx
  have e':k=false:=e
  subst e'
  exact truthy_none ⟨H,I,q⟩
 | bl b =>
  cases rx
  have e':k=b:=e
  subst e'
  exact MR ⟨H,I,q⟩
 | int i =>
  obtain ⟨t,rfl⟩:=rx
  have e':k=(i != 0):=e
  subst e'
  exact RY ⟨H,I,q⟩
 | str y =>
  obtain ⟨t,rfl⟩:=rx
  obtain ⟨hy,e'⟩:y.length≤KH∧k=((y.length:Int) != 0):=e
  subst e'
  exact PySem.P.truthy_str (by omega) ⟨H,I.tok _,q⟩
 | byt y =>
  obtain ⟨t,rfl⟩:=rx
  obtain ⟨hy,e'⟩:y.size≤KH∧k=((y.size:Int) != 0):=e
  subst e'
  exact PySem.W.truthy_bytes (by omega) ⟨H,I.tok _,q⟩
 | ref p =>
  cases rx
  have e':(∃ xs,dA X.K H p xs∧k=!xs.isEmpty)∨(∃ xs,Bh X.K H p xs∧k=!xs.isEmpty)∨∃ kvs,H p=some (.dK kvs)∧k=!kvs.isEmpty:=e
  rcases e' with ⟨xs,hx,e'⟩ | ⟨xs,hx,e'⟩ | ⟨kvs,hx,e'⟩
  ·subst e'
   obtain ⟨its,r,pl,hz⟩:=I.list hx
   have hlen:=r.length
   exact wpAny_truthy_list pl.isList (by simp only [KQ]; omega) ⟨H,I.tok _,by rw [p9 r]; exact q⟩
  ·subst e'
   obtain ⟨its,r,pl,hz⟩:=I.tuple hx
   have hlen:=r.length
   exact truthy_tuple pl (by simp only [KQ]; omega) ⟨H,I.tok _,by rw [p9 r]; exact q⟩
  ·subst e'
   obtain ⟨hz,hS,vs,r,m⟩:kvs.length≤KH∧(p==NY)=false∧∃ vs,KV kvs vs∧s.heap.DictOf (cW X.prog X.w) p vs:=I.cu p _ hx
   have hlen:kvs.length=vs.length:=MT r
   exact wpAny_truthy_dict hS m (by omega) ⟨H,I.tok _,by rw [xK r]; exact q⟩
 | _=>exact (show False from e).elim
theorem BY (ha:PE X a ta) (he:∀ whole,QC a X.env whole=(do let v ← whole; SS a.pos; holding [v] (truthy v))) :
 PT X a (fun σ H Q=>ta σ H fun x H'=>∃ k,Du X.K x H' k∧Q k H'):=by
 intro pins s σ H Q I h
 exact isTrue_plain (cD (ha pins s σ H _ I h) fun v s1 ⟨x,H1,I1,r1,q1⟩=>FY pins s1 σ H1 x v Q I1 r1 q1) (he _)
theorem vals1 {x:V} (r:Vals [x] us):∃ u,us=[u]∧RelV x u:=by
 cases r with
 | cons r1 r2=>cases r2; exact ⟨_,rfl,r1⟩
theorem vals2 {x y:V} (r:Vals [x,y] us):∃ u w',us=[u,w']∧RelV x u∧RelV y w':=by
 cases r with
 | cons r1 r2 =>
  cases r2 with
  | cons r3 r4=>cases r4; exact ⟨_,_,rfl,r1,r3⟩
theorem A3 (hc:X.calm=true):cP X (.builtin "max") (fun xs H Q=>∃ i j,xs=[.int i,.int j]∧Q (.int (if j > i then j else i)) H):=by
 intro pins s σ H xs us Q I r h
 obtain ⟨i,j,rfl,q⟩:=h
 obtain ⟨u,w',rfl,⟨t,rfl⟩,⟨t',rfl⟩⟩:=vals2 r
 refine max_two_ints (I.ok.hd hc) fun h' tk k=>⟨_,H,I.kept k,?_,q⟩
 by_cases hj:j > i
 ·rw [if_pos hj,if_pos hj]; exact ⟨_,rfl⟩
 ·rw [if_neg hj,if_neg hj]; exact ⟨_,rfl⟩
theorem AZ (hc:X.calm=true):cP X (.builtin "min") (fun xs H Q=>∃ i j,xs=[.int i,.int j]∧Q (.int (if j<i then j else i)) H):=by
 intro pins s σ H xs us Q I r h
 obtain ⟨i,j,rfl,q⟩:=h
 obtain ⟨u,w',rfl,⟨t,rfl⟩,⟨t',rfl⟩⟩:=vals2 r
 refine min_two_ints (I.ok.hd hc) fun h' tk k=>⟨_,H,I.kept k,?_,q⟩
 by_cases hj:j<i
 ·rw [if_pos hj,if_pos hj]; exact ⟨_,rfl⟩
 ·rw [if_neg hj,if_neg hj]; exact ⟨_,rfl⟩
theorem m8:cP X (.type "int") (fun xs H Q=>(∃ i,xs=[.int i]∧Q (.int i) H)∨∃ k,xs=[.bl k]∧Q (.int (if k then 1 else 0)) H):=by
 intro pins s σ H xs us Q I r h
 rcases h with ⟨i,rfl,q⟩ | ⟨k,rfl,q⟩
 ·obtain ⟨u,rfl,t,rfl⟩:=vals1 r
  exact call_int_int ⟨.int i,H,I,⟨_,rfl⟩,q⟩
 ·obtain ⟨u,rfl,r1⟩:=vals1 r
  cases r1
  exact call_int_bool ⟨.int (if k then 1 else 0),H,I.tok _,⟨_,rfl⟩,q⟩
def E7 (K:KC) (x:V) (H:Hp) (n:Nat):Prop :=
 match x with
 | .str y=>y.length≤KH∧n=y.length
 | .byt y=>y.size≤KH∧n=y.size
 | .ref p=>(∃ xs,dA K H p xs∧n=xs.length)∨∃ xs,Bh K H p xs∧n=xs.length
 | _=>False
theorem Dh:cP X (.builtin "len") (fun xs H Q=>∃ x n,xs=[x]∧E7 X.K x H n∧Q (.int n) H):=by
 intro pins s σ H xs us Q I r h
 obtain ⟨x,n,rfl,e,q⟩:=h
 obtain ⟨u,rfl,rx⟩:=vals1 r
 have hl:=j5
 have hs:KH=16777216:=Lv
 cases x with
 | str y =>
  obtain ⟨t,rfl⟩:=rx
  obtain ⟨hy,e'⟩:y.length≤KH∧n=y.length:=e
  subst e'
  exact len_str (by omega) ⟨.int _,H,I.tok _,⟨_,rfl⟩,q⟩
 | byt y =>
  obtain ⟨t,rfl⟩:=rx
  obtain ⟨hy,e'⟩:y.size≤KH∧n=y.size:=e
  subst e'
  exact PySem.W.len_bytes (by omega) ⟨.int _,H,I.tok _,⟨_,rfl⟩,q⟩
 | ref p =>
  cases rx
  have e':(∃ xs,dA X.K H p xs∧n=xs.length)∨∃ xs,Bh X.K H p xs∧n=xs.length:=e
  rcases e' with ⟨xs,hx,e'⟩ | ⟨xs,hx,e'⟩
  ·subst e'
   obtain ⟨its,r',pl,hz⟩:=I.list hx
   have hlen:=r'.length
   exact Calls.call_len_list pl.isList (by simp only [KQ]; omega) ⟨.int xs.length,H,I.tok _,⟨_,by simp only [KQ]; rw [hlen]⟩,q⟩
  ·subst e'
   obtain ⟨its,r',pl,hz⟩:=I.tuple hx
   have hlen:=r'.length
   exact len_tuple pl (by simp only [KQ]; omega) ⟨.int xs.length,H,I.tok _,⟨_,by simp only [KQ]; rw [hlen]⟩,q⟩
 | _=>exact (show False from e).elim
end
structure HI (h:ME) (x dx C:KI) (mA:LV→Option KD):Prop where
 obj:h.get? x=some (QX C dx)
 ns:h.Ns1 dx mA
 ne:dx≠x
variable {mA:LV→Option KD}
theorem As {dx:KI} (n:h.Ns1 dx mA):∃ od,h.get? dx=some od∧∀ name,Rf name od=some (mA name):=by
 obtain ⟨o,es,ep,ho,hd,hk,_,hm⟩:=n
 refine ⟨o,ho,fun name=>?_⟩
 have e:=hm name
 unfold nsFind findBy at e
 rw [← Array.find?_toList] at e
 unfold Rf
 rw [hd]
 dsimp only
 split
 ·rename_i y q
  rw [q] at e
  exact congrArg some e
 ·rename_i q
  rw [q] at e
  have a:es.toList.any (·.refKey)=false:=by
   rw [List.any_eq_false]
   intro y hy
   obtain ⟨z,t,hkey⟩:=hk y (Array.mem_toList_iff.mp hy)
   simp [DictEntry.refKey,hkey]
  have a':¬ es.toList.any (·.refKey)=true:=by rw [a]; exact KU
  rw [if_neg a']
  exact congrArg some e
theorem HI.look {x dx C:KI} (I:HI h x dx C mA):∃ od,PySem.W.InstAt h x (QX C dx) C (some od)∧∀ name,Rf name od=some (mA name) :=
 let ⟨od,ho,hl⟩:=As I.ns
 ⟨od,⟨I.obj,rfl,rfl,ho⟩,hl⟩
theorem qM.some_of {v:V} {o:Option KD} (r:qM (some v) o):∃ u,o=some u∧RelV v u:=by
 cases o with
 | none=>exact (show False from r).elim
 | some u=>exact ⟨u,rfl,r⟩
section
variable {P:L0} {w:L9} {H H':Hp} {h h':ME} {a C dx:KI} {fs fs':List (LV×V)}
theorem Ey (cu:ko P w H h) (e:H a=some (.ins C dx fs)):∃ mA,HI h a dx C mA∧(∀ f,qM (fs.lookup f) (mA f))∧Ts mA (fs.map (·.1))∧fs.length≤1000∧H dx=some (.own a):=by
 obtain ⟨d,z,ne,ob,mA,n,r,q⟩:=(show bQ P w H h a (.ins C dx fs) from cu a _ e)
 exact ⟨mA,⟨ob,n,ne⟩,r,q,z,d⟩
end
structure IZ (K:KC) (C:KI):Prop where
 pg:Sv K C Str.empty=true
 hd:Sd K C=true
 po:PySem.W.plainOver K C=true
 sa:M4 K (.ref C) "__setattr__" = some (some (.builtin "object.__setattr__"))
theorem IZ.get {C:KI} (c:IZ K C) (f:LV):Sv K C f=true:=c.pg
structure Kt (K:KC) (C:KI) (f:LV) (v:V) (u:KD):Prop where
 at_:M4 K (.ref C) f=some (some u)
 rel:RelV v u
 get:OW K u "__get__" = some none
 cp:PySem.W.copiedNames.contains f=false
structure Meth (K:KC) (C:KI) (m:LV) (f:KI):Prop where
 at_:M4 K (.ref C) m=some (some (.ref f))
 fn:Tt K (.ref f)=true
 kp:Oj K (.ref f)=true
section
variable {X:Cx} {pins:List (KI×Nv)} {σ:St} {H:Hp} {s:KJ} {A:L4} {E:KD→KJ→Prop} {Q:KD→KJ→Prop} {c:KD} {b:Bool}
inductive jH (K:KC) (H:Hp):V→KD→Prop where
 | non:jH K H .non (.type "NoneType")
 | bl (x:Bool):jH K H (.bl x) (.type "bool")
 | int (i:Int):jH K H (.int i) (.type "int")
 | str (x:LV):jH K H (.str x) (.type "str")
 | flt (x:UInt64):jH K H (.flt x) (.type "float")
 | lst {a:KI} {xs:List V} (e:H a=some (.lst xs)):jH K H (.ref a) (.type "list")
 | jr {a:KI} {o:Nv} {xs:List V} (e:H a=some (.jr o (.lst xs))):jH K H (.ref a) (.type "list")
 | tup {a:KI} {xs:List V} (e:H a=some (.tup xs)):jH K H (.ref a) (.type "tuple")
 | dK {a:KI} {kvs:List (Key×V)} (e:H a=some (.dK kvs)):jH K H (.ref a) (.type "dict")
 | dT {a:KI} {kvs:List (List Key×V)} (e:H a=some (.dT kvs)):jH K H (.ref a) (.type "dict")
 | ins {a C dx:KI} {fs:List (LV×V)} (e:H a=some (.ins C dx fs)) (cl:IZ K C) (ha:M4 K (.ref C) "__class__" = some (some (.builtin "object.__class__")))
  (hn:OW K (.builtin "object.__class__") "__get__" = some (some (.builtin "getset_descriptor.__get__"))) (JB:QZ K (.builtin "object.__class__")=some true)
  (hm:Qh K C (.type "object")=some true):jH K H (.ref a) (.ref C)
theorem AG {x:V} {t:KD} (I:Inv X pins σ H s) (rx:RelV x u) (ty:jH X.K H x t) (e:Ol X.K t c=some b) (h:∀ tk,Q (.bool b) { s with toks:=tk }) :
 Lh (model X.prog X.w) A (call (.builtin "isinstance") [u,c]) Q E s:=by
 cases ty with
 | non=>cases (show u=MO from rx); exact MK PySem.W.kitx_none I.vA Oo e (fun z=>nomatch z) h
 | bl y=>cases (show u=RW y from rx); exact MK PySem.W.kitx_bool I.vA Oo e (fun z=>nomatch z) h
 | int i=>obtain ⟨t,q⟩:=(show ∃ t,u=Sq i t from rx); cases q; exact MK PySem.W.kitx_int I.vA Oo e (fun z=>nomatch z) h
 | str y=>obtain ⟨t,q⟩:=(show ∃ t,u=Sr y t from rx); cases q; exact MK PySem.W.kitx_str I.vA Oo e (fun z=>nomatch z) h
 | flt y=>obtain ⟨t,q⟩:=(show ∃ t,u=Value.float y t from rx); cases q; exact MK PySem.W.kitx_float I.vA Oo e (fun z=>nomatch z) h
 | @lst a xs ea =>
  cases (show u=LM a from rx)
  obtain ⟨_,_,n,_,h1⟩:=(show bQ X.prog X.w H s.heap a (.lst xs) from I.cu a _ ea)
  exact MK Se I.vA ⟨_,h1,rfl⟩ e (fun z=>nomatch z) h
 | @jr a ob xs ea =>
  cases (show u=LM a from rx)
  obtain ⟨_,_,_,n,_,h1⟩:=(show bQ X.prog X.w H s.heap a (.jr ob (.lst xs)) from I.cu a _ ea)
  exact MK Se I.vA ⟨_,h1,rfl⟩ e (fun z=>nomatch z) h
 | @tup a xs ea =>
  cases (show u=LM a from rx)
  obtain ⟨_,_,_,p⟩:=(show bQ X.prog X.w H s.heap a (.tup xs) from I.cu a _ ea)
  obtain ⟨o,h1,h2,_⟩:=p
  exact MK PySem.W.kitx_tuple I.vA ⟨o,h1,h2⟩ e (fun z=>nomatch z) h
 | @dK a kvs ea =>
  cases (show u=LM a from rx)
  obtain ⟨_,_,vs,_,p⟩:=(show bQ X.prog X.w H s.heap a (.dK kvs) from I.cu a _ ea)
  obtain ⟨o,es,ep,h1,h2,_⟩:=p
  exact MK Sf I.vA ⟨o,h1,h2.1⟩ e (fun z=>nomatch z) h
 | @dT a kvs ea =>
  cases (show u=LM a from rx)
  obtain ⟨_,_,xs,_,o,es,ep,h1,h2,_⟩:=(show bQ X.prog X.w H s.heap a (.dT kvs) from I.cu a _ ea)
  exact MK Sf I.vA ⟨o,h1,h2.1⟩ e (fun z=>nomatch z) h
 | @ins a C dx fs ea cl ha hn JB hm =>
  cases (show u=LM a from rx)
  obtain ⟨mA,O,_⟩:=Ey I.cu ea
  obtain ⟨od,J,_⟩:=O.look
  exact MK (PySem.W.kitx_own (cl.get _) cl.hd ha hn JB hm) I.vA J e (fun z=>nomatch z) h
end
structure fg (k:Nat) (A:L4):Prop where
 hd:A.handled=none
 dp:A.depth+3*k+5<NQ
 un:A.units+16*k+200<OT
theorem fg.mono {j k:Nat} (r:fg k A) (h:j≤k):fg j A:=⟨r.hd,by have:=r.dp; omega,by have:=r.un; omega⟩
theorem fg.deeper {k:Nat} {A:L4} (r:fg (k+1) A) (env:SU):fg k (A.deeper env) :=
 ⟨r.hd,by have:=r.dp; show A.depth+1+3*k+5 < _; omega,by have:=r.un; show A.units+3+16*k+200 < _; omega⟩
theorem fg.depth {k:Nat} {A:L4} (r:fg k A):A.depth<NQ:=by have:=r.dp; omega
theorem fg.units {k:Nat} {A:L4} (r:fg k A):A.units+64<OT:=by have:=r.un; omega
def eC:TA:=fun _ H Q=>Q [] H
def cf (ta:TE) (tr:TA):TA:=fun σ H Q=>ta σ H fun x H1=>tr σ H1 fun xs H2=>Q (x::xs) H2
section
variable {X:Cx} {e:Mv} {es:List Mv} {te:TE} {t:TA} {pos:Qq}
theorem aj:PA X [] eC:=fun _ _ _ _ H Q I h=>Calls.spliced_nil ⟨[],H,I,.nil,h⟩
theorem aa (ha:PE X e te) (hr:PA X es t) (hs:Mi (e::es) X.env=(false,eval e X.env)::Mi es X.env:=by rfl):PA X (e::es) (cf te t):=by
 intro pos pins s σ H Q I h
 rw [hs]
 show Lh _ _ (spliced ((false,eval e X.env)::OV pos (Mi es X.env))) _ _ s
 refine Calls.spliced_cons (cD (ha pins s σ H _ I h) fun u s1 ⟨x,H1,I1,r1,q1⟩=>?_)
 exact cD (hr pos pins s1 σ H1 _ I1 q1) fun us s2 ⟨xs,H2,I2,r2,q2⟩=>⟨x::xs,H2,I2,.cons r1 r2,q2⟩
def H0 (t:TA):TE:=fun σ H Q=>t σ H fun xs H1=>xs.length≤KH∧∀ p,H1 p=none→Q (.ref p) (upd H1 p (.tup xs))
def Gd (t:TA):TE:=fun σ H Q=>t σ H fun xs H1=>xs.length≤KH∧∀ p,H1 p=none→Q (.ref p) (upd H1 p (.lst xs))
theorem xq {x1} (h:PA X es t):PE X (.Tuple es x1 pos) (H0 t):=by
 intro pins s σ H Q I hq
 refine wpAny_Tuple_spliced (cD (h pos pins s σ H _ I hq) fun us s1 ⟨xs,H1,I1,r,z,q⟩=>⟨by rw [← r.length]; exact z,?_⟩)
 have hf:H1 s1.heap.objs.size=none:=I1.cu.fresh (Lg _)
 refine ⟨.ref s1.heap.objs.size,upd H1 s1.heap.objs.size (.tup xs),I1.laid (t':=s1.toks) (fun b u e=>KN _ e) (Lg _) ?_,rfl,q _ hf⟩
 exact ⟨z,us,r,⟨_,LD _ rfl,rfl,_,rfl⟩⟩
theorem cN (h:PA X es t):PE X (.List es pos) (Gd t):=by
 intro pins s σ H Q I hq
 refine wpAny_List_spliced (cD (h pos pins s σ H _ I hq) fun us s1 ⟨xs,H1,I1,r,z,q⟩=>⟨by rw [← r.length]; exact z,?_⟩)
 have hf:H1 s1.heap.objs.size=none:=I1.cu.fresh (Lg _)
 refine ⟨.ref s1.heap.objs.size,upd H1 s1.heap.objs.size (.lst xs),I1.laid (t':=s1.toks) (fun b u e=>KN _ e) (Lg _) ?_,rfl,q _ hf⟩
 exact ⟨z,us,0,r,LD _ rfl⟩
end
abbrev Sp:=List V→Hp→VK→XK→Prop
abbrev Bi:=List SU→Hp→KJ→XK→KD→KJ→Prop
structure E8 (P:L0) (w:L9) (K:KC) (mg:LV→Option KD) (base:ME) (A:L4) (outer:List SU) (s:KJ) (H:Hp):Prop where
 frames:A.frames=some outer
 mod:Mod K mg base
 bs:∀ b o,base.get? b=some o→s.heap.get? b=some o∧H b=none
 zm:base.objs.size≤s.heap.objs.size
 mN:s.heap.FunFrames base outer
 HQ:∀ b∈Be outer,H b=none
 cu:ko P w H s.heap
 bare:QB s.gens
def CE (outer:List SU) (P:L0) (w:L9) (H:Hp) (s:KJ) (Q:VK) (u:KD) (s':KJ):Prop :=
 ∃ v H',s'.os=s.os∧QB s'.gens∧Un (Be outer) [] H H' s.heap s'.heap∧ko P w H' s'.heap∧RelV v u∧Q v H'
def CR (CX:Bi) (outer:List SU) (P:L0) (w:L9) (H:Hp) (s:KJ) (Q:VK) (E:XK) (r:Tu) (s':KJ):Prop :=
 match r with
 | .ok (.ret u)=>CE outer P w H s Q u s'
 | .ok _=>False
 | .error e=>CX outer H s E e s'
structure df (P:L0) (w:L9) (K:KC) (mg:LV→Option KD) (base:ME) (CX:Bi) (k:Nat) (f:KI) (fd:LX) (ps:List LV) (sp:Sp):Prop where
 len:∀ vs H Q E,sp vs H Q E→vs.length=ps.length
 run:∀ (A:L4) (outer:List SU) (s:KJ) (H:Hp) (args:Args) (us:List KD) (vs:List V) (Q:VK) (E:XK),fg k A→E8 P w K mg base A outer s H→RB s fd args (ps.zip us)→Vals vs us→sp vs H Q E →
  PJ (model P w) A (.call (.ref f) args) (CR CX outer P w H s Q E) s
variable {mg:LV→Option KD} {base:ME} {CX:Bi} {fd:LX} {ps:List LV}
theorem df.imp {w:L9} {k:Nat} {f:KI} {sp sp':Sp} (F:df P w K mg base CX k f fd ps sp)
 (h:∀ vs H Q E,sp' vs H Q E→sp vs H Q E):df P w K mg base CX k f fd ps sp' :=
 ⟨fun vs H Q E q=>F.len vs H Q E (h _ _ _ _ q),fun A outer s H args us vs Q E hr he hb hv hs=>F.run A outer s H args us vs Q E hr he hb hv (h _ _ _ _ hs)⟩
section
variable {X:Cx} {pins:List (KI×Nv)} {σ:St} {H:Hp} {s s':KJ}
theorem Inv.JH (I:Inv X pins σ H s):E8 X.prog X.w X.K X.mg X.base X.A X.stack s H :=
 ⟨I.ok.frames,I.ok.mod,I.bs,LF I.ok.zm I.sz,I.stack,I.sR,I.cu,I.bare⟩
theorem Inv.after {Q:VK} (I:Inv X pins σ H s) (h:CE X.stack X.prog X.w H s Q u s'):EP X pins σ Q u s':=by
 obtain ⟨v,H',os,bare,un,cu,r,q⟩:=h
 obtain ⟨hh,g,d,t,os'⟩:=s'
 obtain rfl:os'=s.os:=os
 exact ⟨v,H',I.call (h':=hh) (g':=g) (d':=d) (t':=t) (ch:=[]) un cu bare (fun b z=>absurd z (by simp)),r,q⟩
end
def Fj (sp:Sp) (dvs:List V) (E:XK) (t:TA):TE:=fun σ H Q=>t σ H fun vs H1=>sp (vs++dvs) H1 Q E
def Binds (K:KC) (fd:LX) (ps:List LV) (ds:List KD):Prop :=
 ∀ (s:KJ) (us:List KD),K.In s.heap→(us++ds).length=ps.length→RB s fd ⟨us,[]⟩ (ps.zip (us++ds))
theorem Binds.all (h:∀ us:List KD,us.length=ps.length→PV fd ⟨us,[]⟩=pure (ps.zip us)):Binds K fd ps []:=fun s us _ hl=>by
 rw [Mb] at hl ⊢
 exact .of_eq (h us hl)
variable {vs:List V}
def Passes (CX:Bi) (X:Cx) (E:XK):Prop:=∀ (pins:List (KI×Nv)) (σ:St) (H:Hp) (s:KJ) (e:KD) (s':KJ),Inv X pins σ H s→CX X.stack H s E e s'→X.xe e s'
section
variable {X:Cx} {CX:Bi} {k:Nat} {f C:KI} {fd:LX} {ps:List LV} {sp:Sp} {dvs:List V} {ds:List KD} {E:XK} {x m:LV} {p pos apos:Qq} {e o:Mv} {es:List Mv} {ta:TE} {t:TA}
theorem Gq {s:KJ} {Q:VK} (F:df X.prog X.w X.K X.mg X.base CX k f fd ps sp) (hr:fg k X.A) (hb:Binds X.K fd ps ds) (hd:Vals dvs ds) (hx:Passes CX X E)
 (I:Inv X pins σ H s) (r:Vals vs us) (h:sp (vs++dvs) H Q E):Lh (model X.prog X.w) X.A (call (.ref f) us) (EP X pins σ Q) X.xe s:=by
 have r2:Vals (vs++dvs) (us++ds):=r.append hd
 have hl:(us++ds).length=ps.length:=by rw [← r2.length]; exact F.len _ _ _ _ h
 refine SX (QE (F.run X.A X.stack s H ⟨us,[]⟩ (us++ds) (vs++dvs) Q E hr I.JH (hb s us I.vA hl) r2 h) fun r s' hq=>?_)
 cases r with
 | error e=>exact hx pins σ H s e s' I hq
 | ok fl =>
  cases fl with
  | ret u=>exact I.after hq
  | next=>exact N0 hq
  | brk=>exact N0 hq
  | cont=>exact N0 hq
theorem aT (F:df X.prog X.w X.K X.mg X.base CX k f fd ps sp) (hr:fg k X.A) (hg:Gl X x) (hm:X.mg x=some (.ref f)) (hk:Oj X.K (.ref f)=true) (hb:Binds X.K fd ps ds) (hd:Vals dvs ds) (hx:Passes CX X E)
 (ha:PA X (e::es) t) (hdb:(x==("__debug__" : LV))=false:=by decide) (he:Mi (e::es) X.env=(false,eval e X.env)::Mi es X.env:=by rfl) (hpl:(OV pos (Mi es X.env)).any (·.1)=false:=by rfl) :
 PE X (.Call (.Name x p) (e::es) [] pos) (Fj sp dvs E t):=by
 intro pins s σ H Q I h
 refine N3 (yV I hg hm ?_ hdb)
 refine PySem.W.callWith_K (h₀:=X.base) I.ok.mod.Jd hk (cD (ha pos pins s σ H _ I h) fun us s1 ⟨vs,H1,I1,r,q⟩=>⟨I1.vA,?_⟩) he hpl
 exact Gq F hr hb hd hx I1 r q
structure Mk (K:KC) (C f:KI):Prop where
 makes:SI K C=true
 init:M4 K (.ref C) "__init__" = some (some (.ref f))
 fn:Tt K (.ref f)=true
 kp:Oj K (.ref C)=true
end
def PK (X:Cx) (kws:List P9) (t:TA):Prop :=
 ∀ (pos:Qq) (pins:List (KI×Nv)) (s:KJ) (σ:St) (H:Hp) (Q:List V→Hp→Prop),Inv X pins σ H s→t σ H Q→Lh (model X.prog X.w) X.A (evalAll ((PX pos (Oq kws X.env)).map (·.2))) (AP X pins σ Q) X.xe s
section
variable {X:Cx} {CX:Bi} {k:Nat} {f C:KI} {fd:LX} {ps ks:List LV} {sp:Sp} {E:XK} {x m:LV} {p pos apos kpos:Qq} {e o:Mv} {es:List Mv} {kws:List P9} {te ta:TE} {t tk:TA} {nm:Option LV}
theorem GC:PK X [] eC:=fun _ _ _ _ H Q I h=>wpAny_evalAll_nil ⟨[],H,I,.nil,h⟩
theorem Ee (ha:PE X e te) (hr:PK X kws t):PK X (⟨nm,e,kpos⟩::kws) (cf te t):=by
 intro pos pins s σ H Q I h
 show Lh _ _ (evalAll ((do let v ← eval e X.env; SS pos; pure v)::(PX pos (Oq kws X.env)).map (·.2))) _ _ s
 refine RZ (KG (cD (ha pins s σ H _ I h) fun u s1 ⟨x,H1,I1,r1,q1⟩=>KG (OG (Lp ?_))))
 exact cD (hr pos pins s1 σ H1 _ I1 q1) fun us s2 ⟨xs,H2,I2,r2,q2⟩=>⟨x::xs,H2,I2,.cons r1 r2,q2⟩
structure JQ (K:KC) (fd:LX) (ps ks:List LV) (g:List KD→List KD→List KD) (gV:List V→List V→List V):Prop where
 to:∀ (s:KJ) (us ws:List KD),K.In s.heap→(g us ws).length=ps.length→RB s fd ⟨us,ks.zip ws⟩ (ps.zip (g us ws))
 rel:∀ {vs:List V} {us:List KD} {zs:List V} {ws:List KD},Vals vs us→Vals zs ws→Vals (gV vs zs) (g us ws)
variable {g:List KD→List KD→List KD} {gV:List V→List V→List V}
end
structure aZ (N P:List LV) (sc:NW):Prop where
 kind:sc.kind=.function
 co:sc.isCoroutine=false
 gen:sc.isGenerator=false
 nd:N.Nodup
 pre:N.take P.length=P
 par:∀ x∈P,sc.names.lookup x=some .local∨sc.names.lookup x=some .cell
 GW:∀ y∈sc.names,y.2≠.free
theorem su {kindOf:LV→Option Qu} {x:LV}:∀ {binds:List (LV×KD)} {m:LV→Option KD},(∀ v,(x,v)∉binds)→SY kindOf binds m x=m x
 | [],_,_=>rfl
 | (n,v)::r,m,h=>by
  unfold SY
  rw [su fun w hw=>h w (Kx _ hw)]
  split
  ·have:x≠n:=by rintro rfl; exact h v Ky
   simp [this]
  ·rfl
theorem sC {kindOf:LV→Option Qu} {x:LV}:∀ {binds:List (LV×KD)} {m:LV→Option KD},(∀ v,(x,v)∉binds)→S0 kindOf binds m x=m x
 | [],_,_=>rfl
 | (n,v)::r,m,h=>by
  unfold S0
  rw [sC fun w hw=>h w (Kx _ hw)]
  split
  ·rfl
  ·have:x≠n:=by rintro rfl; exact h v Ky
   simp [this]
theorem sv {kindOf:LV→Option Qu} {x:LV} {v:KD}:∀ {P:List LV} {vs:List KD} {i:Nat} {m:LV→Option KD},P.Nodup→P[i]?=some x→vs[i]?=some v→kindOf x=some .local →
 SY kindOf (P.zip vs) m x=some v
 | [],_,_,_,_,h,_,_=>by simp at h
 | _::_,[],_,_,_,_,h,_=>by simp at h
 | p::P,w::vs,0,m,nd,h1,h2,hk=>by
  simp at h1 h2; subst h1; subst h2
  show SY kindOf ((p,w)::P.zip vs) m p=_
  unfold SY
  rw [su fun v hv=>(La.mp nd).1 (Oa hv).1,if_pos hk]
  simp
 | p::P,w::vs,i+1,m,nd,h1,h2,hk=>by
  show SY kindOf ((p,w)::P.zip vs) m x=_
  unfold SY
  exact sv (i:=i) (La.mp nd).2 (by simpa using h1) (by simpa using h2) hk
theorem sE {kindOf:LV→Option Qu} {x:LV} {v:KD}:∀ {P:List LV} {vs:List KD} {i:Nat} {m:LV→Option KD},P.Nodup→P[i]?=some x→vs[i]?=some v→kindOf x≠some .local →
 S0 kindOf (P.zip vs) m x=some v
 | [],_,_,_,_,h,_,_=>by simp at h
 | _::_,[],_,_,_,_,h,_=>by simp at h
 | p::P,w::vs,0,m,nd,h1,h2,hk=>by
  simp at h1 h2; subst h1; subst h2
  show S0 kindOf ((p,w)::P.zip vs) m p=_
  unfold S0
  rw [sC fun v hv=>(La.mp nd).1 (Oa hv).1,if_neg hk]
  simp
 | p::P,w::vs,i+1,m,nd,h1,h2,hk=>by
  show S0 kindOf ((p,w)::P.zip vs) m x=_
  unfold S0
  exact sE (i:=i) (La.mp nd).2 (by simpa using h1) (by simpa using h2) hk
def start (N:List LV) (vs:List V):St:=vs.map some++Lr (N.length-vs.length) none
def ur (CX:Bi) (P:L0) (w:L9) (K:KC) (mg:LV→Option KD) (base:ME) (N:List LV) (qual:LV) (scope:NW) (f:KI) (cd:KD) (A:L4) (outer:List SU) (s:KJ) (H:Hp) (E:XK):Cx where
 prog:=P
 w:=w
 K:=K
 mg:=mg
 base:=base
 A:=A.deeper (QF qual scope s.heap.objs.size f cd)
 N:=N
 s₀:=s
 H₀:=H
 env:=QF qual scope s.heap.objs.size f cd
 outer:=outer
 stack:=QF qual scope s.heap.objs.size f cd::outer
 ex:=[]
 calm:=true
 fn:=fun _=>true
 pn:=[]
 xe:=fun e s'=>Lh (model P w) (A.deeper (QF qual scope s.heap.objs.size f cd)) (leaving (QF qual scope s.heap.objs.size f cd) e) (fun _ s''=>CX outer H s E e s'') (fun e' s''=>CX outer H s E e' s'') s'
theorem vT {sc:NW} (h:sc.names.lookup x=some .cell):∃ c,(Mt n sc.names []).lookup x=some c:=by
 have q:=OX sc.names n [] (.inl h)
 exact Qi.mp q
variable {scope:NW}
theorem AI {w:L9} {N:List LV} {qual:LV} {f:KI} {cd:KD} {outer:List SU} {s s1:KJ} {E:XK}
 (S:aZ N ps scope) (hd:A.handled=none) (e0:E8 P w K mg base A outer s H) (hl:vs.length=ps.length) (r:Vals vs us)
 (x:InCallC s s.heap.objs.size (SY (QF qual scope s.heap.objs.size f cd).kindOf (ps.zip us) fun _=>none) (Mt (s.heap.objs.size+1) scope.names []) (S0 (QF qual scope s.heap.objs.size f cd).kindOf (ps.zip us) fun _=>none) s1) :
 Inv (ur CX P w K mg base N qual scope f cd A outer s H E) [] (start N vs) H s1:=by
 have hpl:ps.length≤N.length:=by have:=congrArg SF S.pre; rw [Mj] at this; omega
 obtain ⟨h1,tk,rfl,hk⟩:=x.done
 have noA:∀ b:KI,b∉(ur CX P w K mg base N qual scope f cd A outer s H E).ex:=fun b z=>absurd (show b∈([]:List KI) from z) (by simp)
 refine ⟨⟨e0.mod,S.kind,rfl,rfl,Lg _,fun y z c h1 h2=>?_,fun y hy=>?_,fun y c _ h=>?_,fun _=>hd,Rg e0.frames,.inr ⟨rfl,rfl⟩,fun b z=>absurd z (noA b),e0.bs,e0.zm,fun b _ _=>noA b,fun b z=>absurd z (noA b),e0.mN,e0.HQ⟩,
  rfl,e0.bare,Un.kept hk,⟨_,x.toInCall.ns,fun i y v h1 h2 h3=>?_⟩,fun y c h=>⟨_,x.cell y c h⟩,e0.cu.fresh (Lg _),fun y c h=>?_,fun p hp=>absurd (show p∈([]:List (KI×Nv)) from hp) (by simp),e0.cu.kept hk,?_⟩
 ·exact name_of_addr x.apart (MP h1) (MP h2)
 ·have hy:scope.names.lookup y=some .cell∨scope.names.lookup y=some .free:=hy
  rcases hy with hy | hy
  ·exact vT hy
  ·exact absurd rfl (S.GW _ (MP hy))
 ·exact M0 (x.above y c (MP h))
 ·have hi:i<vs.length:=by
   unfold start at h2
   by_cases hi:i<vs.length
   ·exact hi
   ·rw [Ln (by simpa using hi)] at h2
    rw [Mg] at h2
    split at h2 <;> cases h2
  have ha:vs[i]?=some v:=by
   unfold start at h2
   rw [LK (by simpa using hi),KO] at h2
   cases e:vs[i]? with
   | none=>rw [e] at h2; cases h2
   | some a=>rw [e] at h2; cases h2; rfl
  obtain ⟨u,hu,rv⟩:=r.get ha
  have hp:ps[i]?=some y:=by
   rw [← S.pre,NI (by omega)]; exact h1
  have ndP:ps.Nodup:=by rw [← S.pre]; exact S.nd.sublist (Sg _ _)
  refine ⟨u,rv,?_⟩
  rcases S.par y (LI hp) with k | k
  ·exact .inl ⟨k,sv ndP hp hu k⟩
  ·obtain ⟨c,e⟩:=vT (n:=s.heap.objs.size+1) k
   refine .inr ⟨.inl k,c,e,?_⟩
   have q:=x.cell y c e
   rw [sE ndP hp hu (by show scope.names.lookup y≠_; rw [k]; decide)] at q
   exact q
 ·exact e0.cu.fresh (M0 (x.above y c (MP h)))
 ·unfold start
  show _=N.length
  rw [K0,Kw,LR]
  omega
theorem FH {w:L9} {k:Nat} {f:KI} {name qual:LV} {params:Pa} {dV kV doc pm cdv ct oc:KD} {an od:Option KI}
 {osl:Array (Option KD)} {N ps:List LV} {sp:Sp} (lk:K.lookup f=some ⟨oc,od,.func (Oz name qual params body scope dV kV doc pm an cdv ct),osl⟩) (hcd:Rh K cdv qual=true) (S:aZ N ps scope)
 (len:∀ vs H Q E,sp vs H Q E→vs.length=ps.length)
 (hbody:∀ (A:L4) (outer:List SU) (s:KJ) (H:Hp) (vs:List V) (Q:VK) (E:XK),fg k (A.deeper (QF qual scope s.heap.objs.size f cdv))→sp vs H Q E →
  ∃ t,wt (ur CX P w K mg base N qual scope f cdv A outer s H E) body t∧t { nx:=fun _ H'=>Q .non H',rt:=Q } (start N vs) H) :
 df P w K mg base CX (k+1) f (Oz name qual params body scope dV kV doc pm an cdv ct) ps sp:=by
 refine ⟨len,fun A outer s H args us vs Q E hr e0 hb r hsp=>?_⟩
 have hl:=len _ _ _ _ hsp
 have KX:K.In s.heap:=e0.mod.Jd.keeps fun b o e=>(e0.bs b o e).1
 have lim:s.heap.NoLimit:=e0.mod.nolimit.keeps fun b o e=>(e0.bs b o e).1
 have hkind:∀ y∈ps.zip us,scope.names.lookup y.1=some .local∨(scope.names.lookup y.1=some .cell∧((Mt (s.heap.objs.size+1) scope.names []).lookup y.1).isSome=true):=fun ⟨n,v⟩ hy=>by
  rcases S.par n (Oa hy).1 with q | q
  ·exact .inl q
  ·exact .inr ⟨q,OX _ _ _ (.inl q)⟩
 refine codeAny_call_function hr.depth (KX _ _ lk) rfl S.co S.gen rfl (PySem.W.codeRec_of KX hcd) (hb _ _ _ _ ?_)
 refine wpAny_newFunctionEnv_cells S.kind hkind fun env he s1 x=>?_
 subst he
 refine ⟨lim.keeps x.toInCall.keep,codeAny_func ?_⟩
 obtain ⟨t,ht,hq⟩:=hbody A outer s H vs Q E (hr.deeper _) hsp
 have I:Inv (ur CX P w K mg base N qual scope f cdv A outer s H E) [] (start N vs) H s1:=AI S hr.hd e0 hl r x
 refine L7 (ht [] s1 (start N vs) H _ I hq) (fun fl s' hs=>?_) fun e s' hs=>hs
 have fin:∀ {σ':St} {H':Hp} {v:V} {u:KD},Inv (ur CX P w K mg base N qual scope f cdv A outer s H E) [] σ' H' s'→RelV v u→Q v H'→CE outer P w H s Q u s' :=
  fun {σ' H' v u} J rv q=>⟨v,H',J.os,J.bare,J.base,J.cu,rv,q⟩
 cases fl with
 | ret u =>
  obtain ⟨v,σ',H',J,rv,q⟩:=hs
  exact fin J rv q
 | next =>
  obtain ⟨σ',H',J,q⟩:=hs
  exact fin (v:=V.non) (u:=MO) J rfl q
 | brk =>
  obtain ⟨_,_,_,q⟩:=hs
  exact N0 q
 | cont =>
  obtain ⟨_,_,_,q⟩:=hs
  exact N0 q
section
variable {X:Cx} {x:LV} {p pos:Qq} {e:Mv} {es:List Mv} {t:TA} {id T:String} {r:List V→Hp→VK→Prop}
def uR (r:List V→Hp→VK→Prop) (t:TA):TE:=fun σ H Q=>t σ H fun vs H1=>r vs H1 Q
theorem aJ (hc:cP X (.builtin id) r) (hg:Gl X x) (hm:X.mg x=none) (hv:Md x=some (.builtin id)) (ha:PA X (e::es) t) (hn:x ≠ "__name__" := by decide) (hdb:(x==("__debug__" : LV))=false:=by decide)
 (he:Mi (e::es) X.env=(false,eval e X.env)::Mi es X.env:=by rfl) (hpl:(OV pos (Mi es X.env)).any (·.1)=false:=by rfl):PE X (.Call (.Name x p) (e::es) [] pos) (uR r t):=by
 intro pins s σ H Q I h
 refine N3 (iR I hg hm hv ?_ hn hdb)
 exact PyProof.Rows.callWith_builtin1 (cD (ha pos pins s σ H _ I h) fun us s1 ⟨vs,H1,I1,r1,q1⟩=>hc pins s1 σ H1 vs us Q I1 r1 q1) he hpl
theorem fL (hc:cP X (.type T) r) (hg:Gl X x) (hm:X.mg x=none) (hv:Md x=some (.type T)) (ha:PA X (e::es) t) (hn:x ≠ "__name__" := by decide) (hdb:(x==("__debug__" : LV))=false:=by decide)
 (he:Mi (e::es) X.env=(false,eval e X.env)::Mi es X.env:=by rfl) (hpl:(OV pos (Mi es X.env)).any (·.1)=false:=by rfl):PE X (.Call (.Name x p) (e::es) [] pos) (uR r t):=by
 intro pins s σ H Q I h
 refine N3 (iR I hg hm hv ?_ hn hdb)
 exact Nr (cD (ha pos pins s σ H _ I h) fun us s1 ⟨vs,H1,I1,r1,q1⟩=>hc pins s1 σ H1 vs us Q I1 r1 q1) he hpl
end
end L2
namespace HT
open PySem PyProof.Rows
def lexLt:List Int→List Int→Bool
 | [],[]=>false
 | [],_::_=>true
 | _::_,[]=>false
 | x::xs,y::ys=>if x=y then lexLt xs ys else decide (x<y)
end HT
namespace L2
open PySem PySem.Spec PyProof.Rows
abbrev TO:=St→Hp→(Option Int→Hp→Prop)→Prop
theorem intsAre_of {ns:List Int}:∀ {us:List KD},Vals (ns.map V.int) us→OA us ns:=by
 induction ns with
 | nil=>intro us r; rw [NC] at r; cases r; exact .nil
 | cons n ns ih =>
  intro us r
  rw [Ld] at r
  cases r with
  | cons r1 r2 =>
   obtain ⟨t,e⟩:=r1
   subst e
   exact .cons n t (ih r2)
def ixN (n:Nat) (i:Int):Option Nat:=if 0≤i then (if i<n then some i.toNat else none) else if -(n:Int)≤i then some (i+n).toNat else none
def iF {α:Type} (xs:List α) (i:Int):Option α:=(ixN xs.length i).bind fun j=>xs[j]?
variable {n:Nat}
theorem yX {i:Int} {j:Nat} (h:ixN n i=some j):seqIndex? i n=some j∧j<n∧-(n:Int)≤i∧i<n:=by
 unfold ixN at h
 by_cases h0:0≤i
 ·rw [if_pos h0] at h
  by_cases h1:i<n
  ·rw [if_pos h1] at h
   have e:i.toNat=j:=Lz h
   exact ⟨by rw [Ri h0 h1,e],by omega,by omega,h1⟩
  ·rw [if_neg h1] at h; cases h
 ·rw [if_neg h0] at h
  by_cases h1:-(n:Int)≤i
  ·rw [if_pos h1] at h
   have e:(i+n).toNat=j:=Lz h
   exact ⟨by rw [QG (by omega) h1,e],by omega,h1,by omega⟩
  ·rw [if_neg h1] at h; cases h
variable {α:Type}
theorem oP {xs:List α} {i:Int} {v:α} (h:iF xs i=some v):∃ j,seqIndex? i xs.length=some j∧xs[j]?=some v∧j<xs.length∧-(xs.length:Int)≤i∧i<xs.length:=by
 unfold iF at h
 cases e:ixN xs.length i with
 | none=>rw [e] at h; cases h
 | some j =>
  rw [e] at h
  obtain ⟨h1,h2,h3,h4⟩:=yX e
  exact ⟨j,h1,h,h2,h3,h4⟩
def E4 (b:Mv):Prop:=∀ o i,Rj b false o i=operate [o,i] (Sb o i)
def DK (X:Cx) (r:R2):Prop :=
 ∀ (value slice:Mv) (pins:List (KI×Nv)) (s:KJ) (σ:St) (H:Hp) (x y:V) (v u:KD) (Q:VK),Inv X pins σ H s→RelV x v→RelV y u→r x y H Q →
  Rj slice false v u=operate [v,u] (Sb v u)→Lh (model X.prog X.w) X.A (subscriptTail value slice v u) (EP X pins σ Q) X.xe s
variable {pins:List (KI×Nv)} {σ:St} {H:Hp} {its:List KD}
def Kl (X:Cx) (id:String) (r:V→List V→Hp→VK→Prop):Prop :=
 ∀ (pins:List (KI×Nv)) (s:KJ) (σ:St) (H:Hp) (x:V) (xs:List V) (v:KD) (us:List KD) (Q:VK),Inv X pins σ H s→RelV x v→Vals xs us→r x xs H Q →
  Lh (model X.prog X.w) X.A (call (.builtin id) (v::us)) (EP X pins σ Q) X.xe s
section
variable {X:Cx} {a b:Mv} {ta tb:TE} {pos:Qq}
theorem DK.or {r r':R2} (h:DK X r) (h':DK X r'):DK X (fun x y H Q=>r x y H Q∨r' x y H Q):=by
 intro value slice pins s σ H x y v u Q I rx ry q hs
 rcases q with q | q
 ·exact h value slice pins s σ H x y v u Q I rx ry q hs
 ·exact h' value slice pins s σ H x y v u Q I rx ry q hs
theorem aX {r:R2} (hr:DK X r) (ha:PE X a ta) (hb:PE X b tb) (hs:E4 b):PE X (.Subscript a b pos) (nT r ta tb):=by
 intro pins s σ H Q I h
 exact Subscript_ (Hy ha hb I h fun v u s2 x y H2 I2 rx ry q=>hr a b pins s2 σ H2 x y v u Q I2 rx ry q (hs _ _))
def BW (K:KC):R2:=fun x y H Q=>∃ p xs i v,x=.ref p∧y=.int i∧dA K H p xs∧iF xs i=some v∧Q v H
def Iy (K:KC):R2:=fun x y H Q=>∃ p xs i v,x=.ref p∧y=.int i∧Bh K H p xs∧iF xs i=some v∧Q v H
def Iz:R2:=fun x y H Q=>∃ z i c,x=.str z∧y=.int i∧z.length≤KH∧iF z.cps.toList i=some c∧Q (.str ⟨#[c]⟩) H
theorem Ew:DK X (BW X.K):=by
 intro value slice pins s σ H x y v u Q I rx ry h hs
 obtain ⟨p,xs,i,z,rfl,rfl,hq,he,q⟩:=h
 cases rx
 obtain ⟨t,rfl⟩:=ry
 obtain ⟨its,r,pl,hz⟩:=I.list hq
 obtain ⟨j,h1,h2,h3,h4,h5⟩:=oP he
 obtain ⟨w,ew,rw'⟩:=r.get h2
 have hl:=r.length
 have hn:=j5
 have fin:EP X pins σ Q w s:=⟨z,H,I,rw',q⟩
 by_cases h0:0≤i
 ·have hj:i.toNat=j:=by
   rw [Ri h0 h5] at h1
   exact Lz h1
  exact item_listR pl.isList h0 (by omega) (by rw [hj]; simpa using ew) fin hs
 ·have hj:(i+(its.toArray.size:Int)).toNat=j:=by
   rw [QG (by omega) h4] at h1
   rw [KQ,← hl]
   exact Lz h1
  exact QH (x:=w) pl.isList.typeIs slot_list_getitem.lookup
   (QI (Q:=fun r s'=>r=w∧EP X pins σ Q r s') pl.isList (by omega) (by rw [KQ] <;> omega) (by omega) (by rw [hj]; simpa using ew) ⟨rfl,fin⟩) hs
theorem Hd:DK X (Iy X.K):=by
 intro value slice pins s σ H x y v u Q I rx ry h hs
 obtain ⟨p,xs,i,z,rfl,rfl,hq,he,q⟩:=h
 cases rx
 obtain ⟨t,rfl⟩:=ry
 obtain ⟨its,r,pl,hz⟩:=I.tuple hq
 obtain ⟨j,h1,h2,h3,h4,h5⟩:=oP he
 obtain ⟨w,ew,rw'⟩:=r.get h2
 have hl:=r.length
 have hn:=j5
 have fin:EP X pins σ Q w s:=⟨z,H,I,rw',q⟩
 exact QH (x:=w) pl.typeIs slot_tuple_getitem.lookup
  (getItem_tuple (j:=j) (Q:=fun r s'=>r=w∧EP X pins σ Q r s') pl (by omega) (by omega) (by rw [KQ,← hl]; exact h1) (by simpa using ew) ⟨rfl,fin⟩) hs
theorem He:DK X Iz:=by
 intro value slice pins s σ H x y v u Q I rx ry h hs
 obtain ⟨z,i,c,rfl,rfl,hz,he,q⟩:=h
 obtain ⟨t,rfl⟩:=rx
 obtain ⟨t',rfl⟩:=ry
 obtain ⟨j,h1,h2,h3,h4,h5⟩:=oP he
 have hl:z.cps.toList.length=z.length:=by simp [Str.length]
 rw [hl] at h1 h4 h5
 have hn:=j5
 exact tail_any (typeIs_str s z t) slot_str_getitem.lookup (getItem_str (c:=c) (by
  have e1:decide (i < -(2 ^ 63:Int))=false:=decide_eq_false (by omega)
  have e2:decide (i ≥ 2 ^ 63)=false:=decide_eq_false (by omega)
  rw [e1,e2,Bool.or_false]) (by rw [h1]; simpa using h2) ⟨.str ⟨#[c]⟩,H,I.tok _,⟨_,rfl⟩,q⟩) hs
def Fv (K:KC):R2:=fun x y H Q=>BW K x y H Q∨Iy K x y H Q∨Iz x y H Q
theorem Hf:DK X (Fv X.K):=Ew.or (Hd.or He)
theorem xF (its:List KD) (n j:Nat) (u:KD):Lu (·.setIfInBounds j u) { cls:=.type "list", data:=.seq its.toArray n }={ cls:=.type "list", data:=.seq (its.set j u).toArray n }:=by
 simp [Lu]
theorem Inv.lst {pins:List (KI×Nv)} {σ:St} {H:Hp} {s:KJ} {p:KI} {xs:List V} (I:Inv X pins σ H s) (h:H p=some (.lst xs)) :
 ∃ (its:List KD) (n:Nat),Vals xs its∧s.heap.get? p=some { cls:=.type "list", data:=.seq its.toArray n }∧xs.length≤KH:=by
 obtain ⟨z,its,n,r,e⟩:=I.cu p _ h
 exact ⟨its,n,r,e,z⟩
theorem Inv.G1 {s:KJ} {p:KI} {xs ys:List V} {its':List KD} {n':Nat} {f:Nv→Nv} (I:Inv X pins σ H s) (h:H p=some (.lst xs))
 (ho:s.heap.get? p=some { cls:=.type "list", data:=.seq its.toArray n }) (hf:f { cls:=.type "list", data:=.seq its.toArray n }={ cls:=.type "list", data:=.seq its'.toArray n' }) (r:Vals ys its') (hz:ys.length≤KH) (t:Nat) :
 Inv X pins σ (upd H p (.lst ys)) { s with heap:=s.heap.update p f,toks:=t }:=by
 have e:(s.heap.update p f).get? p=some { cls:=.type "list", data:=.seq its'.toArray n' }:=by
  rw [O7 f ho (by rw [hf] <;> rfl),hf]
 refine I.write (x:=p) (e:=p) (by rw [h]; trivial) (.inl rfl) (fun b u hb q=>(L8 _ _ (MY hb)).trans q) ⟨_,e⟩ ?_
 exact ⟨hz,its',n',r,e⟩
def yI:V→V→V→Hp→(Hp→Prop)→Prop:=fun o i v H Q=>∃ p xs k j,o=.ref p∧i=.int k∧H p=some (.lst xs)∧ixN xs.length k=some j∧Q (upd H p (.lst (xs.set j v)))
theorem set_list:HF X yI:=by
 intro pins s σ H o i v ov iv u Q I ro ri rv h
 obtain ⟨p,xs,k,j,rfl,rfl,hp,hj,q⟩:=h
 cases ro
 obtain ⟨t,rfl⟩:=ri
 obtain ⟨its,n,r,ho,hz⟩:=I.lst hp
 obtain ⟨h1,h2,h3,h4⟩:=yX hj
 have hl:=r.length
 have hn:=j5
 have I':Inv X pins σ (upd H p (.lst (xs.set j v))) { s with heap:=s.heap.update p (Lu (·.setIfInBounds j u)) } :=
  I.G1 hp ho (xF its n j u) (r.set rv j) (by rw [MC]; exact hz) s.toks
 by_cases h0:0≤k
 ·have hk:k.toNat=j:=by
   rw [Ri h0 h4] at h1
   exact Lz h1
  exact PySem.W.ki_setAt ho h0 (by omega) (by rw [KQ,← hl]; exact h4) (by rw [hk]; exact ⟨_,I',q⟩)
 ·have hk:(k+(its.toArray.size:Int)).toNat=j:=by
   rw [QG (by omega) h3] at h1
   rw [KQ,← hl]
   exact Lz h1
  exact PySem.W.ki_setBack ho (by omega) (by rw [KQ,← hl]; exact h3) (by omega) (by rw [hk]; exact ⟨_,I',q⟩)
def iW:V→Bool
 | .non=>true
 | .bl _=>true
 | .int _=>true
 | .str _=>true
 | _=>false
def FN:V→V→Bool
 | .non,.non=>true
 | .bl a,.bl b=>a==b
 | .bl a,.int b=>(if a then 1 else 0)==b
 | .int a,.bl b=>a==(if b then 1 else 0)
 | .int a,.int b=>a==b
 | .str a,.str b=>a==b
 | _,_=>false
theorem Hq {A:L4} {s:KJ} {y x:V} {u v:KD} (ry:RelV y u) (rx:RelV x v) (fy:iW y=true) (fx:iW x=true):NJ A s u v (FN y x):=by
 cases y with
 | non =>
  cases ry
  cases x with
  | non=>cases rx; exact Pr _
  | bl b=>cases rx; exact SeqAt.EqAt.none_bool b
  | int b=>obtain ⟨t,rfl⟩:=rx; exact SeqAt.EqAt.none_int b t
  | str b=>obtain ⟨t,rfl⟩:=rx; exact SeqAt.EqAt.none_str b t
  | _=>exact absurd (show false=true from fx) KU
 | bl a =>
  cases ry
  cases x with
  | non=>cases rx; exact SeqAt.EqAt.bool_none a
  | bl b=>cases rx; exact Rk a b
  | int b=>obtain ⟨t,rfl⟩:=rx; exact SeqAt.EqAt.bool_int a b t
  | str b=>obtain ⟨t,rfl⟩:=rx; exact SeqAt.EqAt.bool_str a b t
  | _=>exact absurd (show false=true from fx) KU
 | int a =>
  obtain ⟨t',rfl⟩:=ry
  cases x with
  | non=>cases rx; exact SeqAt.EqAt.int_none a t'
  | bl b=>cases rx; exact SeqAt.EqAt.int_bool a t' b
  | int b=>obtain ⟨t,rfl⟩:=rx; exact OL a t' b t
  | str b=>obtain ⟨t,rfl⟩:=rx; exact RU a t' b t
  | _=>exact absurd (show false=true from fx) KU
 | str a =>
  obtain ⟨t',rfl⟩:=ry
  cases x with
  | non=>cases rx; exact SeqAt.EqAt.str_none a t'
  | bl b=>cases rx; exact SeqAt.EqAt.str_bool a t' b
  | int b=>obtain ⟨t,rfl⟩:=rx; exact RV a t' b t
  | str b=>obtain ⟨t,rfl⟩:=rx; exact R0 a t' b t
  | _=>exact absurd (show false=true from fx) KU
 | _=>exact absurd (show false=true from fy) KU
def EO (x:V) (u:KD):Bool:=match u with
 | .none=>FN .non x
 | .bool b=>FN (.bl b) x
 | .int i _=>FN (.int i) x
 | .str z _=>FN (.str z) x
 | _=>false
theorem C2 {x y:V} {u:KD} (r:RelV y u) (f:iW y=true):EO x u=FN y x:=by
 cases y with
 | non=>cases r; rfl
 | bl b=>cases r; rfl
 | int i=>obtain ⟨t,rfl⟩:=r; rfl
 | str z=>obtain ⟨t,rfl⟩:=r; rfl
 | _=>exact absurd (show false=true from f) KU
theorem uC {x:V}:∀ {xs:List V} {us:List KD},Vals xs us→xs.all iW=true→us.any (EO x)=xs.any fun y=>FN y x
 | _,_,.nil,_=>rfl
 | y::xs,u::us,.cons r t,f=>by
  rw [RO,Nb] at f
  rw [Od,Od,C2 r f.1,uC t f.2]
theorem pS {A:L4} {s:KJ} {x:V} {v:KD} (rx:RelV x v) (fx:iW x=true):∀ {xs:List V} {us:List KD},Vals xs us→xs.all iW=true→∀ u∈us,NJ A s u v (EO x u)
 | _,_,.nil,_=>fun u hu=>by cases hu
 | y::xs,u::us,.cons r t,f=>fun u' hu=>by
  rw [RO,Nb] at f
  rcases KP.mp hu with rfl | hu
  ·rw [C2 r f.1]; exact Hq r rx f.1 fx
  ·exact pS rx fx t f.2 u' hu
def yZ (x:V) (xs:List V):Bool:=xs.any fun y=>FN y x
def Jr (K:KC) (neg:Bool):R2:=fun x y H Q=>∃ p xs,y=.ref p∧(dA K H p xs∨Bh K H p xs)∧iW x=true∧xs.all iW=true∧Q (.bl (if neg then !yZ x xs else yZ x xs)) H
theorem tK:oR X (Nj .NotIn) (Jr X.K true):=by
 intro pins s σ H x y v u Q I rx ry h
 obtain ⟨p,xs,rfl,hq,fx,fs,q⟩:=h
 cases ry
 rcases hq with hq | hq
 ·obtain ⟨its,r,pl,hz⟩:=I.list hq
  refine SeqAt.notIn_listAt (EO x) pl.isList (fun w hw=>pS rx fx r fs w (by simpa using hw)) ⟨.bl _,H,I,rfl,?_⟩
  rw [show its.toArray.any (EO x)=its.any (EO x) by simp,uC r fs]
  exact q
 ·obtain ⟨its,r,pl,hz⟩:=I.tuple hq
  refine SeqAt.notIn_tupleAt (EO x) pl (fun w hw=>pS rx fx r fs w (by simpa using hw)) ⟨.bl _,H,I,rfl,?_⟩
  rw [show its.toArray.any (EO x)=its.any (EO x) by simp,uC r fs]
  exact q
theorem cP.or {f:KD} {r r':List V→Hp→VK→Prop} (h:cP X f r) (h':cP X f r'):cP X f (fun xs H Q=>r xs H Q∨r' xs H Q):=by
 intro pins s σ H xs us Q I rs q
 rcases q with q | q
 ·exact h pins s σ H xs us Q I rs q
 ·exact h' pins s σ H xs us Q I rs q
theorem uw:cP X (.type "list") (fun xs H Q=>∃ p ys,xs=[.ref p]∧(dA X.K H p ys∨Bh X.K H p ys)∧∀ l,H l=none→Q (.ref l) (upd H l (.lst ys))):=by
 intro pins s σ H xs us Q I r h
 obtain ⟨p,ys,rfl,hq,q⟩:=h
 obtain ⟨u,rfl,rx⟩:=vals1 r
 cases rx
 have fin:∀ (its:List KD),Vals ys its→ys.length≤KH→∀ (h':ME) (c':Nat),(∀ b o',s.heap.get? b=some o'→h'.get? b=some o') →
  h'.get? s.heap.objs.size=some { cls:=.type "list", dict:=none,data:=.seq its.toArray c',slots:=#[] }→EP X pins σ Q (.ref s.heap.objs.size) { s with heap:=h' }:=fun its r' hz h' c' kp e =>
  ⟨.ref s.heap.objs.size,_,I.laid (t':=s.toks) kp (Lg _) (show bQ X.prog X.w _ h' _ (.lst ys) from ⟨hz,its,c',r',e⟩),rfl,q _ (I.cu.fresh (Lg _))⟩
 rcases hq with hq | hq
 ·obtain ⟨its,r',pl,hz⟩:=I.list hq
  have hlen:=r'.length
  obtain ⟨o,ho,hc,n,hd⟩:=pl.isList
  exact call_list_seq p (.inl rfl) ho hc hd (fun h' c' kp e=>fin its r' hz h' c' kp e) (by simp only [KQ] <;> omega)
 ·obtain ⟨its,r',pl,hz⟩:=I.tuple hq
  have hlen:=r'.length
  obtain ⟨o,ho,hc,n,hd⟩:=pl
  exact call_list_seq p (.inr rfl) ho hc hd (fun h' c' kp e=>fin its r' hz h' c' kp e) (by simp only [KQ] <;> omega)
def JT (K:KC) (T:String) (x:V) (H:Hp):Prop:=match x with
 | .str _=>T = "str"
 | .int _=>T = "int"
 | .ref p=>(T = "list" ∧ ∃ xs,dA K H p xs)∨(T = "tuple" ∧ ∃ o,K.lookup p=some o∧o.cls=.type "tuple" ∧ o.dict=none) ∨
  (T = "dict" ∧ ((∃ kvs,H p=some (.dK kvs))∨∃ kvs,H p=some (.dT kvs)))∨(T = "set" ∧ ∃ S n,H p=some (.set S n))
 | _=>False
theorem FX {s:KJ} {T:String} {x:V} {v:KD} (I:Inv X pins σ H s) (r:RelV x v) (ty:JT X.K T x H) :
 s.TypeIs v T∧∀ a,v=.ref a→∃ ob,s.heap.get? a=some ob∧ob.dict=none:=by
 cases x with
 | str z =>
  obtain ⟨t,rfl⟩:=r
  cases (show T = "str" from ty)
  exact ⟨typeIs_str s z t,fun _ e=>nomatch e⟩
 | int i =>
  obtain ⟨t,rfl⟩:=r
  cases (show T = "int" from ty)
  exact ⟨S1 s i t,fun _ e=>nomatch e⟩
 | ref p =>
  cases r
  rcases ty with ⟨rfl,xs,hq⟩ | ⟨rfl,o,hk,hc,hd⟩ | ⟨rfl,hk⟩ | ⟨rfl,S,n,hk⟩
  ·obtain ⟨its,_,pl,_⟩:=I.list hq
   refine ⟨pl.isList.typeIs,fun a e=>?_⟩
   cases e
   obtain ⟨o,n,e,c,hd,_⟩:=pl
   exact ⟨o,e,hd⟩
  ·refine ⟨⟨o,I.vA p o hk,hc⟩,fun a e=>?_⟩
   cases e
   exact ⟨o,I.vA _ o hk,hd⟩
  ·have z:∃ o,s.heap.get? p=some o∧o.ExactDict:=by
    rcases hk with ⟨kvs,hk⟩ | ⟨kvs,hk⟩
    ·obtain ⟨_,_,_,_,o,_,_,e,ex,_⟩:=I.cu p _ hk
     exact ⟨o,e,ex⟩
    ·obtain ⟨_,_,_,_,o,_,_,e,ex,_⟩:=I.cu p _ hk
     exact ⟨o,e,ex⟩
   obtain ⟨o,e,ex⟩:=z
   refine ⟨⟨o,e,ex.1⟩,fun a e2=>?_⟩
   cases e2
   exact ⟨o,e,ex.2.1⟩
  ·obtain ⟨o,_,_,_,e,ex,_⟩:=I.cu p _ hk
   refine ⟨⟨o,e,ex.1⟩,fun a e2=>?_⟩
   cases e2
   exact ⟨o,e,ex.2.1⟩
 | _=>exact N0 ty
def Ij (K:KC) (T:String) (r:V→List V→Hp→VK→Prop) (to:TE) (t:TA):TE:=fun σ H Q=>to σ H fun x H1=>JT K T x H1∧t σ H1 fun xs H2=>r x xs H2 Q
variable {o e:Mv} {es:List Mv} {to:TE} {t:TA} {name:LV} {apos cpos:Qq} {T id:String} {r:V→List V→Hp→VK→Prop}
theorem iO (pa:PlainAttrs T) (slot:Slot T name id) (hty:typeOf (.builtin id)=pure (.type "method_descriptor")) (hm:Kl X id r) (ho:PE X o to) (ha:PA X (e::es) t)
 (hbase:RP o name X.env (eval o X.env)=eval o X.env:=by rfl)
 (hfew:((OV cpos (Mi (e::es) X.env)).all (fun x=>!x.1)&&(PX cpos (Oq [] X.env)).all (fun x=>x.1.isSome)
  && decide ((e::es).length+([]:List P9).length+(if ([]:List P9).isEmpty then 0 else 1)<30))=true:=by rfl)
 (hline:(apos.endLine==cpos.line)=true:=by rfl) (hs:Mi (e::es) X.env=(false,eval e X.env)::Mi es X.env:=by rfl) (hplain:(OV cpos (Mi es X.env)).any (·.1)=false:=by rfl) :
 PE X (.Call (.Attribute o name apos) (e::es) [] cpos) (Ij X.K T r to t):=by
 intro pins s σ H Q I h
 refine wpAny_Call_method_late hbase hfew hline rfl (cD (ho pins s σ H _ I h) fun v s1 ⟨x,H1,I1,r1,ty,q1⟩=>?_)
 obtain ⟨h1,h2⟩:=FX I1 r1 ty
 refine ⟨T,id,pa,slot,hty,h1,h2,?_⟩
 have hA:=ha cpos pins s1 σ H1 _ I1 q1
 rw [hs] at hA ⊢
 refine Calls.callWith_builtin (by show (false || (OV cpos (Mi es X.env)).any (·.1))=false; rw [hplain] <;> rfl) (Calls.evalArgs_plain ?_)
 exact cD hA fun us s2 ⟨vs,H2,I2,r2,q2⟩=>hm pins s2 σ H2 x vs v us Q I2 r1 r2 q2
end
def J8 (X:Cx) (id:String) (r:V→List V→Hp→VK→Prop):Prop :=
 ∀ (pins:List (KI×Nv)) (s:KJ) (σ:St) (H:Hp) (x:V) (xs:List V) (v:KD) (us:List KD) (Q:VK),Inv X pins σ H s→RelV x v→Vals xs us→r x xs H Q →
  Lh (model X.prog X.w) X.A (call (.builtin id) (v::us)) (EP X pins σ Q) X.xe s
theorem Vals.one:∀ {x:V} {us:List KD},Vals [x] us→∃ u,us=[u]∧RelV x u
 | _,_,.cons r .nil=>⟨_,rfl,r⟩
theorem Vals.rep {xs:List V} {us:List KD} (h:Vals xs us):∀ k:Nat,Vals (Lr k xs).flatten (Lr k us).flatten
 | 0=>.nil
 | k+1=>by
  rw [M7,M7,ND,ND]
  exact Vals.append h (Vals.rep h k)
theorem foldl_rep (its:List KD):∀ (k:Nat) (acc:List KD),
 S2 (fun x1 x2=>x1++x2) acc.toArray (Lr k its.toArray)=(acc++(Lr k its).flatten).toArray
 | 0,acc=>by simp
 | k+1,acc=>by
  have e:acc.toArray++its.toArray=(acc++its).toArray:=by simp
  have e2:(acc++its)++(Lr k its).flatten=acc++(Lr (k+1) its).flatten:=by
   rw [M7,ND,Lx]
  rw [← e2,← foldl_rep its k (acc++its),← e,M7,Pt]
section
variable {X:Cx} {pins:List (KI×Nv)} {σ:St} {H:Hp} {s:KJ} {l b:KI} {xs ys zs:List V}
theorem Inv.IF {its':List KD} {f:Array KD→Array KD} {t':Nat} (I:Inv X pins σ H s) (hH:H l=some (.lst xs))
 (e:s.heap.get? l=some { cls:=.type "list", data:=.seq its.toArray n }) (hf:f its.toArray=its'.toArray) (hv:Vals ys its') (hz:ys.length≤KH) :
 Inv X pins σ (upd H l (.lst ys)) { s with heap:=s.heap.update l (Lu f),toks:=t' }:=by
 have q:=PySem.IsL.update e f
 rw [hf] at q
 refine I.write (x:=l) (e:=l) (by rw [hH]; exact trivial) (.inl rfl) (fun b' u hb hu=>(L8 s.heap (Lu f) (MY hb)).trans hu) ⟨_,q⟩ ?_
 exact ⟨hz,its',_,hv,q⟩
theorem Inv.G5 {t':Nat} (I:Inv X pins σ H s) (hv:Vals ys its) (hz:ys.length≤KH) :
 Inv X pins σ (upd H s.heap.objs.size (.lst ys)) { s with heap:=s.heap.push { cls:=.type "list", data:=.seq its.toArray },toks:=t' } :=
 I.laid (fun _ _ q=>KN _ q) (Lg _) ⟨hz,its,0,hv,LD _ rfl⟩
theorem Inv.fresh (I:Inv X pins σ H s):H s.heap.objs.size=none:=I.cu.fresh (Lg _)
theorem Inv.G2 (I:Inv X pins σ H s) (hH:H l=some (.lst xs)):xs.length≤KH∧∃ (its:List KD) (n:Nat),Vals xs its∧xs.length=its.length∧s.heap.get? l=some { cls:=.type "list", data:=.seq its.toArray n }:=by
 obtain ⟨z,its,n,r,e⟩:=I.cu l _ hH
 exact ⟨z,its,n,r,r.length,e⟩
theorem vk (h:n≤KH):NK n=false:=by
 unfold NK
 exact decide_eq_false (by omega)
end
section
variable {X:Cx}
def oC:V→List V→Hp→VK→Prop:=fun x vs H Q=>∃ l xs y,x=.ref l∧vs=[y]∧H l=some (.lst xs)∧xs.length<KH∧Q .non (upd H l (.lst (xs++[y])))
theorem dq:J8 X "list.append" oC:=by
 intro pins s σ H x vs v us Q I rx rv h
 obtain ⟨l,xs,y,rfl,rfl,hH,hz,q⟩:=h
 cases rx
 obtain ⟨u,rfl,ru⟩:=rv.one
 obtain ⟨z,its,n,r,hl,e⟩:=I.G2 hH
 refine QJ F.slot_list_append ⟨_,e,rfl⟩ F.entry_list_append (F.args_list_append_2 _ _) (PySem.list_append l its.toArray n u (by rw [KQ]; omega)) ⟨e,?_⟩
 refine ⟨.non,_,I.IF (its':=its++[u]) hH e (by simp) (r.append (.cons ru .nil)) ?_,rfl,q⟩
 rw [K0,Me]
 omega
def Iv:R2:=fun x y H Q=>∃ l k xs,x=.ref l∧y=.int k∧H l=some (.lst xs)∧-(2 ^ 63)≤k∧k<2 ^ 63∧xs.length*k.toNat≤KH ∧
 ∀ p,H p=none→Q (.ref p) (upd H p (.lst (Lr k.toNat xs).flatten))
theorem len_rep (xs:List α) (k:Nat):(Lr k xs).flatten.length=k*xs.length:=by
 induction k with
 | zero=>simp
 | succ k ih=>rw [M7,ND,K0,ih,Nat.succ_mul,Nat.add_comm]
theorem B8:oR X (Pk .Mult) Iv:=by
 intro pins s σ H x y v u Q I rx ry h
 obtain ⟨l,k,xs,rfl,rfl,hH,h1,h2,hz,q⟩:=h
 cases rx
 obtain ⟨t,rfl⟩:=ry
 obtain ⟨z,its,n,r,hl,e⟩:=I.G2 hH
 have hlen:its.toArray.size*k.toNat≤KH:=by rw [KQ,← hl]; exact hz
 have hcap:¬ its.toArray.size*k.toNat > (2 ^ 63-1) / 8:=by
  have:(KH:Nat)≤(2 ^ 63-1) / 8:=by decide
  omega
 have hfit:¬ (!Builtin.List.listFitsIndex k)=true:=by
  rw [fitsIndex_both h1 h2]
  exact KU
 have hlong:¬ NK (its.toArray.size*k.toNat)=true:=by
  rw [vk hlen]
  exact KU
 have hnew:S2 (fun x1 x2=>x1++x2) #[] (Lr (if its.toArray.isEmpty=true then 0 else k.toNat) its.toArray)=(Lr k.toNat its).flatten.toArray:=by
  have f0:∀ m:Nat,S2 (fun x1 x2=>x1++x2) #[] (Lr m its.toArray)=(Lr m its).flatten.toArray:=fun m=>by
   have:=foldl_rep its m []
   rw [Nm] at this
   exact this
  rw [f0]
  cases its with
  | nil=>simp
  | cons a r'=>rw [if_neg (by simp)]
 refine wpAny_binaryOp_repeat_ref (T := "list") (U := "int") (by decide) ⟨_,e,rfl⟩ (fun s'=>S1 s' k t) noFill_list_mul F.fills_int_mul F.slot_int_rmul repeat_list F.slot_int_index.lookup
  (QJ F.slot_int_rmul (S1 s k t) F.entry_int_rmul (F.args_int_rmul_2 _ _) (int___rmul___int_list k t l its.toArray n)
   ⟨e,rfl,⟨_,e,rfl⟩,QJ F.slot_list_mul ⟨_,e,rfl⟩ F.entry_list_mul (F.args_list_mul_2 _ _) (AutoListH.list___mul___list_int_3 l its.toArray n k t hfit hcap hlong) ⟨e,?_⟩⟩)
 rw [hnew]
 exact ⟨.ref _,_,I.G5 (t':=s.toks) (r.rep k.toNat) (by rw [len_rep,Nat.mul_comm]; exact hz),rfl,q _ I.fresh⟩
end
end L2
namespace JS
open PySem PySem.W PySem.Calls PyProof.Rows
variable {P:Params} {h:ME}
theorem n6:∀ (ns:List Int) (vs:List KD),WellAll P h vs (ns.map PQ)→OA vs ns:=by
 intro ns
 induction ns with
 | nil =>
  intro vs w
  rw [NC] at w
  cases w
  exact .nil
 | cons n ns ih =>
  intro vs w
  rw [Ld] at w
  cases w with
  | cons a b =>
   cases a
   exact .cons _ _ (ih _ b)
theorem zX {l:OpenLaw} {n:Nat} (hn:l.most=some n) {args:List WData} {vals:List KD}
 (hpre:l.row.toRowW.claim.pre args=true) (hwl:WellAll P h vals args) :
 ∃ a vs ns,vals=[LM a]∧args=[WData.list (ns.map PQ)]∧h.get? a=some { cls:=.type "list", data:=.seq vs.toArray }∧OA vs ns∧ns.length≤n:=by
 have hsh:WShape.hasAll [] args [.list .int]=true:=(pre_splitW hpre).1
 have hc:l.pre.holds [] { args:=args }=true:=(pre_splitW hpre).2
 obtain ⟨d,r,rfl,h1,h2⟩:=hasAllW_cons hsh
 obtain rfl:=hasAllW_nil h2
 obtain ⟨xs,rfl,h3⟩:=hasW_list h1
 obtain ⟨ns,rfl⟩:=items_int h3
 have hlen:ns.length≤n:=by
  unfold OpenLaw.pre at hc
  have h4:(WTm.not (.lt (.lit (.int (n:Int))) (.len (.arg 0)))).holds [] { args:=[.list (ns.map .int)] }=true:=by
   have h4:=(holds_andW hc).1
   rw [hn] at h4
   exact h4
  have h5:=condW_of h4 (w_not (w_lt w_lit (w_len_list (w_arg rfl))))
  rw [Kw] at h5
  refine Nat.le_of_not_lt fun q=>?_
  have q':(n:Int)<((ns.length:Nat):Int):=by omega
  first
   | (rw [decide_eq_true q'] at h5; exact absurd h5 (by decide))
   | (simp at h5; omega)
 cases hwl with
 | cons w1 w2 =>
  cases w2
  cases w1 with
  | list ho hall=>exact ⟨_,_,ns,rfl,rfl,ho,n6 ns _ hall,hlen⟩
theorem z7 (l:OpenLaw) (args:List WData):l.row.toRowW.claim.post args (.bool true) args=true :=
 postW_of (r:=l.row.toRowW) (X:=(true==true))
  (show WShape.has [] (.bool true) .bool=true by first | rfl | decide | simp [WShape.has,WShape.arms,WShape.armsAll])
  (show (WTm.eq .res (.lit (.bool true))).value [] { args:=args,res:=some (.bool true),after:=args }=some (.bool (true==true)) from w_eq_bool (w_res rfl) w_lit) rfl
section
variable {prog:L0} {w:L9} {A:L4} {E:KD→KJ→Prop} {s:KJ} {K:Frag}
def ledger (h:ME) (L d:KI):List (KI×Nv):=(KW h.objs.size).filterMap fun a=>if a=L∨a=d then none else (h.get? a).map fun o=>(a,o)
end
end JS
namespace L2
open PySem PySem.Spec PyProof.Rows
theorem lX:∀ {vs:List KD} {ns:List Int},OA vs ns→Vals (ns.map V.int) vs
 | _,_,.nil=>.nil
 | _,_,.cons n t h=>.cons ⟨t,rfl⟩ (lX h)
abbrev Kr {K:KC} {h:ME} (_:K.In h):KC:=K
def ll (s:NZ):Pa:=match s with
 | .FunctionDef _ a _ _ _ _ _ _ _ _=>a
 | _=>{ posonlyargs:=[],args:=[],vararg:=none,kwonlyargs:=[],kw_defaults:=[],kwarg:=none,defaults:=[] }
def fK (s:NZ):List NZ:=match s with
 | .FunctionDef _ _ b _ _ _ _ _ _ _=>b
 | _=>[]
def aB (s:NZ):NW:=match s with
 | .FunctionDef _ _ _ _ _ _ sc _ _ _=>sc
 | _=>{ kind:=.function,names:=[],isGenerator:=false,isCoroutine:=false }
abbrev jJ:Bi:=fun _ _ _ _ _ _=>False
abbrev E0:XK:=fun _ _ _=>False
variable {X:Cx}
theorem cq:Passes jJ X E0:=fun _ _ _ _ _ _ _ h=>h.elim
variable {x:LV} {st:NZ} {f:KI} {fd:LX}
structure eA (K:KC) (x qual:LV) (st:NZ) (f:KI) (fd:LX):Prop where
 ex:∃ (oc:KD) (od:Option KI) (kV doc pm:KD) (an:Option KI) (cdv ct:KD) (osl:Array (Option KD)),
  fd=Oz x qual (ll st) (fK st) (aB st) .none kV doc pm an cdv ct∧K.lookup f=some ⟨oc,od,.func fd,osl⟩∧Rh K cdv qual=true
 kp:Oj K (.ref f)=true
section
variable {P:L0} {w:L9} {K:KC} {mg:LV→Option KD} {base:ME}
theorem eA.ok {qual:LV} {N ps:List LV} {k:Nat} {sp:Sp} (F:eA K x qual st f fd) (S:aZ N ps (aB st)) (len:∀ vs H Q E,sp vs H Q E→vs.length=ps.length)
 (hbody:∀ (cdv:KD) (A:L4) (outer:List SU) (s:KJ) (H:Hp) (vs:List V) (Q:VK) (E:XK),fg k (A.deeper (QF qual (aB st) s.heap.objs.size f cdv))→sp vs H Q E →
  ∃ t,wt (ur jJ P w K mg base N qual (aB st) f cdv A outer s H E).Fy (fK st) t∧t { nx:=fun _ H'=>Q .non H',rt:=Q } (start N vs) H):df P w K mg base jJ (k+1) f fd ps sp:=by
 obtain ⟨oc,od,kV,doc,pm,an,cdv,ct,osl,rfl,lk,hcd⟩:=F.ex
 refine FH lk hcd S len fun A outer s H vs Q E hr hsp=>?_
 obtain ⟨t,h,q⟩:=hbody cdv A outer s H vs Q E hr hsp
 exact ⟨t,h.Fy,q⟩
theorem eA.binds {qual:LV} {ps:List LV} (F:eA K x qual st f fd)
 (h:∀ (kV doc pm:KD) (an:Option KI) (cdv ct:KD) (us:List KD),us.length=ps.length→PV (Oz x qual (ll st) (fK st) (aB st) .none kV doc pm an cdv ct) ⟨us,[]⟩=pure (ps.zip us)):Binds K fd ps []:=by
 obtain ⟨oc,od,kV,doc,pm,an,cdv,ct,osl,rfl,lk,hcd⟩:=F.ex
 exact .all (h kV doc pm an cdv ct)
theorem cx {qual:LV} {oc:KD} {od an:Option KI} {osl:Array (Option KD)} {kV doc pm cdv ct:KD} (l:K.lookup f=some ⟨oc,od,.func (Oz x qual (ll st) (fK st) (aB st) .none kV doc pm an cdv ct),osl⟩)
 (c:Rh K cdv qual=true) (k:Oj K (.ref f)=true):eA K x qual st f (Oz x qual (ll st) (fK st) (aB st) .none kV doc pm an cdv ct):=⟨⟨oc,od,kV,doc,pm,an,cdv,ct,osl,rfl,l,c⟩,k⟩
end
variable {A:L4} {pos:Qq}
theorem qc {k:Nat} (hr:fg k A):A.units+1<OT:=Nat.lt_of_le_of_lt (Nat.add_le_add_left (by decide:1≤64) _) hr.units
section
variable {X:Cx}
theorem pv (i:Nat) (hN:X.N[i]?=some x:=by rfl) (hv:HB X.env.scope x:=by first | exact Lk rfl | exact L3 (Lk rfl) | exact L3 (L3 rfl)) (hd:(x==("__debug__" : LV))=false:=by decide)
 (hcd:(x==("__classdict__" : LV))=false:=by decide):PE X (.Name x pos) (mf i):=GJ hN hv hd hcd
end
theorem qW {A B:Prop} (h:B):if false=true then A else B:=by
 rw [if_neg KU]
 exact h
theorem t4 {A B:Prop} (h:A):if true=true then A else B:=by
 rw [if_pos rfl]
 exact h
def aL (H H':Hp):Prop:=∀ b o,H b=some o→H' b=some o
theorem aL.refl (H:Hp):aL H H:=fun _ _ h=>h
theorem aL.trans {H H1 H2:Hp} (a:aL H H1) (b:aL H1 H2):aL H H2:=fun c o h=>b c o (a c o h)
variable {H:Hp} {H':Hp} {α:Type}
theorem aL.free (e:aL H H') {l:KI} (h:H' l=Tz):H l=Tz:=by
 cases q:H l with
 | none=>rfl
 | some o =>
  rw [e l o q] at h
  cases h
section
variable {X:Cx}
theorem eZ:oR X (Pk .Mult) (rI Rc fun i j=>.int (i*j)):=Jc fun _ _ _ _ _ _ _ hc q=>mul_int q hc
theorem kO:oR X (Pk .FloorDiv) (rI (fun _ j=>0<j∧j.natAbs.log2<9000) fun i j=>.int (i / j)):=Jc fun i j _ _ _ _ _ hc q=>by
 have h1:(0:Int)<j:=hc.1
 exact floordiv_int (by omega) (by rw [Int.fdiv_eq_ediv_of_nonneg i (by omega)]; exact q) (.inl (PyProof.noPylong_of_log2 hc.2))
theorem Dg (hc:X.calm=true):cP X (.builtin "sum") (fun xs H Q=>∃ (p:KI) (ns:List Int),xs=[.ref p]∧dA X.K H p (ns.map V.int)∧Q (.int ns.sum) H):=by
 intro pins s σ H xs us Q I r h
 obtain ⟨p,ns,rfl,hq,q⟩:=h
 obtain ⟨u,rfl,rx⟩:=vals1 r
 cases rx
 obtain ⟨its,r',pl,hz⟩:=I.list hq
 have hi:=intsAre_of r'
 obtain ⟨ys,hx⟩:=hi.allInts.items
 have hl':s.heap.IsList p (Rl ys):=hx ▸ pl.isList
 refine sum_intListG (I.ok.hd hc) hl' fun h' tk t' hk=>?_
 have e1:ns=ys.toList.map (·.1):=by
  rw [← Qj,← hx]
  exact (show numsOf its.toArray.toList=ns from hi.numsOf).symm
 have e2:preSum (S3 ys) ys.size=ns.sum:=by
  rw [preSum_eq,Mn (by simp),e1]
 rw [e2]
 exact ⟨.int ns.sum,H,I.kept hk,⟨_,rfl⟩,q⟩
theorem A4 (hc:X.calm=true):cP X (.builtin "max") (fun xs H Q=>∃ (p:KI) (ns:List Int),xs=[.ref p]∧dA X.K H p (ns.map V.int)∧ns≠[]∧∀ M,M∈ns→(∀ a,a∈ns→a≤M)→Q (.int M) H):=by
 intro pins s σ H xs us Q I r h
 obtain ⟨p,ns,rfl,hq,hne,q⟩:=h
 obtain ⟨u,rfl,rx⟩:=vals1 r
 cases rx
 obtain ⟨its,r',pl,hz⟩:=I.list hq
 have hi:=intsAre_of r'
 obtain ⟨ys,e⟩:=hi.allInts.items
 have hns:ns=ys.toList.map (·.1):=by
  rw [← hi.numsOf,← Qj,← e]
 have hsz:0<ys.size:=by
  have h3:=RE.mpr hne
  rw [hns,Kw,KR] at h3
  exact h3
 have hl:=pl.isList
 rw [e] at hl
 refine max_intList (I.ok.hd hc) hl hsz fun v h' tk hv hk=>?_
 obtain ⟨t,rfl⟩:=Rm hv
 obtain ⟨h1,h2⟩:=argBest_gt (S3 ys) (ys.size-1)
 refine ⟨.int _,H,I.kept hk,⟨t,rfl⟩,q _ ?_ fun a ha=>?_⟩
 ·rw [hns,Rn]; exact Ro (by rw [Kw,KR]; omega)
 ·rw [hns] at ha
  obtain ⟨j,hj,rfl⟩:=mem_getD ha
  rw [Kw,KR] at hj
  rw [← Rn]; exact h2 j (by omega)
theorem Di:cP X (.builtin "isinstance") (fun xs H Q=>∃ x n t b,xs=[x,.ty n]∧jH X.K H x t∧Ol X.K t (.type n)=some b∧Q (.bl b) H):=by
 intro pins s σ H xs us Q I r h
 obtain ⟨x,n,t,b,rfl,ty,e,q⟩:=h
 obtain ⟨u,w',rfl,rx,ry⟩:=vals2 r
 cases ry
 exact AG I rx ty e fun tk=>⟨.bl b,H,I.tok _,rfl,q⟩
theorem fI [DecidableEq α] {ns ms:List α} (d:α) (h:ns.length=ms.length):((KW ns.length).all fun j=>decide (ns.getD j d=ms.getD j d))=decide (ns=ms):=by
 rw [LY,Ml,decide_eq_true_iff]
 constructor
 ·intro H
  refine MN h fun i h1 h2=>?_
  have:=of_decide_eq_true (H i (Lw.mpr h1))
  rw [Ku,Ku,Kv h1,Kv h2] at this
  exact this
 ·rintro rfl i _
  simp
theorem ip [DecidableEq α] {s:KJ} {us ws:List KD} {ns ms:List α} {d:α} (hl:us.length=ns.length) (hl2:ws.length=ms.length)
 (h:∀ (j:Nat) (u v:KD) (a b:α),us[j]?=some u→ws[j]?=some v→ns[j]?=some a→ms[j]?=some b→NJ A s u v (decide (a=b))) :
 ∀ j (h1:j<us.toArray.size) (h2:j<ws.toArray.size),NJ A s us.toArray[j] ws.toArray[j] (decide (ns.getD j d=ms.getD j d)):=by
 intro j h1 h2
 have h1':j<us.length:=by simpa using h1
 have h2':j<ws.length:=by simpa using h2
 have q:=h j us[j] ws[j] ns[j] ms[j] (Kv h1') (Kv h2') (Kv (by omega)) (Kv (by omega))
 have e1:ns.getD j d=ns[j]:=by rw [Ku,Kv (by omega)]; rfl
 have e2:ms.getD j d=ms[j]:=by rw [Ku,Kv (by omega)]; rfl
 rw [e1,e2]
 simpa using q
theorem pG [DecidableEq α] [Inhabited α] {s:KJ} {l b:KI} {us ws:List KD} {ns ms:List α} (p1:s.heap.IsList l us.toArray) (p2:s.heap.IsList b ws.toArray) (hl:us.length=ns.length) (hl2:ws.length=ms.length) (hu:A.units<OT)
 (h:∀ (j:Nat) (u v:KD) (a b:α),us[j]?=some u→ws[j]?=some v→ns[j]?=some a→ms[j]?=some b→NJ A.in1 s u v (decide (a=b))) :
 SeqAt.RcAt A s (.ref l) (.ref b) (decide (ns=ms)):=by
 by_cases hs:ns.length=ms.length
 ·have q:=SeqAt.RcAt.lists (e:=fun j=>decide (ns.getD j default=ms.getD j default)) p1 p2 (by simp; omega) hu (ip hl hl2 h)
  have e:((KW us.toArray.size).all fun j=>decide (ns.getD j default=ms.getD j default))=decide (ns=ms):=by
   rw [KQ,hl]; exact fI default hs
  rw [e] at q
  exact q
 ·have q:=OH p1 p2 (by simp; omega) hu
  have e:decide (ns=ms)=false:=decide_eq_false fun z=>hs (by rw [z])
  rw [e]
  exact q
theorem tF [DecidableEq α] [Inhabited α] {s:KJ} {l b:KI} {us ws:List KD} {ns ms:List α} (p1:s.heap.IsList l us.toArray) (p2:s.heap.IsList b ws.toArray) (hl:us.length=ns.length) (hl2:ws.length=ms.length) (hu:A.units<OT)
 (h:∀ (j:Nat) (u v:KD) (a b:α),us[j]?=some u→ws[j]?=some v→ns[j]?=some a→ms[j]?=some b→NJ A.in1 s u v (decide (a=b))) :
 Tv A s (.ref l) (.ref b) (!decide (ns=ms)):=by
 by_cases hs:ns.length=ms.length
 ·have q:=SeqAt.RcNeAt.lists (e:=fun j=>decide (ns.getD j default=ms.getD j default)) p1 p2 (by simp; omega) hu (ip hl hl2 h)
  have e:((KW us.toArray.size).all fun j=>decide (ns.getD j default=ms.getD j default))=decide (ns=ms):=by
   rw [KQ,hl]; exact fI default hs
  rw [e] at q
  exact q
 ·have q:=PY p1 p2 (by simp; omega) hu
  have e:decide (ns=ms)=false:=decide_eq_false fun z=>hs (by rw [z])
  rw [e]
  exact q
end
open PySem.W in
theorem vZ {ns:List Int} (h:Sw [WData.list (ns.map PQ)]=true):∀ n∈ns,MQ n≤1048576:=by
 have w:PL (.list (ns.map PQ))≤2 ^ 20:=by
  unfold Sw WData.layable at h
  simp only [RO,List.all_nil,RQ,Nb,decide_eq_true_eq] at h
  exact h.2
 have key:∀ (ms:List Int),∀ n∈ms,MQ n≤Q0 (ms.map PQ):=by
  intro ms
  induction ms with
  | nil=>intro n hn; cases hn
  | cons m ms ih =>
   intro n hn
   rw [Ld,Q0]
   rcases KP.mp hn with rfl | hn
   ·have e:PL (.int n)=MQ n:=by simp [PL,MQ]
    omega
   ·have:=ih n hn
    omega
 intro n hn
 have q:=key ns n hn
 have e:PL (.list (ns.map PQ))=Q0 (ns.map PQ):=by simp [PL]
 rw [e] at w
 exact LF q w
structure J9 (X:Cx) (N':List LV) (scope:NW) (cl:List (LV×KI)) (σ σ0:St):Prop where
 sub:∀ x c,cl.lookup x=some c→X.env.cells.lookup x=some c
 vals:∀ (j:Nat) (x:LV) (v:V),N'[j]?=some x→σ0[j]?=some (some v)→∃ (i:Nat) (c:KI),X.N[i]?=some x∧σ[i]?=some (some v)∧HB X.env.scope x∧X.env.kindOf x≠some .local∧cl.lookup x=some c ∧
  ((relabel scope X.env).names.lookup x=some .cell∨(relabel scope X.env).names.lookup x=some .free)
 has:∀ x,((relabel scope X.env).names.lookup x=some .cell∨(relabel scope X.env).names.lookup x=some .free)→∃ c,cl.lookup x=some c
 len:σ0.length=N'.length
section
variable {prog:L0} {w:L9} {A:L4} {R:Tu→KJ→Prop} {s:KJ}
theorem uu {elt target iter:Mv} {ifs:List Mv} {scope:NW} {pos:Qq} {it acc:KD} {env:SU} (I:Nat→KJ→Prop)
 (turn:∀ n s,I n s→Lh (model prog w) A (RX it) (fun r s₁=>match r with
  | none=>R (.ok .next) s₁
  | some v=>Lh (model prog w) A (Pq target it v) (fun _ s₀=>Lh (model prog w) A (assign target env v) (fun _ s₂ =>
   Lh (model prog w) A (forIn ifs true fun c r=>if r=true then do let ok ← QC c env (eval c env); pure (LN ok) else pure (LN r)) (fun ok s₃ =>
    if ok=true then Lh (model prog w) A (eval elt env) (fun x s₄ =>
     Lh (model prog w) A (call (.builtin "list.append") [acc,x]) (fun _ s₅=>∃ m,m<n∧I m s₅) (fun _ _=>False) s₄) (fun _ _=>False) s₃
    else ∃ m,m<n∧I m s₃) (fun _ _=>False) s₂) (fun _ _=>False) s₀) (fun _ _=>False) s₁) (fun _ _=>False) s)
 (n:Nat) (h:I n s) :
 PJ (model prog w) A (.compLoop (.ListComp elt [⟨target,iter,ifs,0⟩] scope pos) 0 it acc env) R s:=by
 refine codeAny_loop rfl I (fun n s hI=>?_) n h
 show Lh _ A ((compTurn (.ListComp elt [⟨target,iter,ifs,0⟩] scope pos) 0 it acc env).onRaise (fun x=>do noteFrame x env; theTreesLotGoes x)) _ _ s
 refine wpAny_noted ?_
 rw [compTurn_list]
 refine KG (OG (KG (L7 (turn n s hI) (fun r s₁ h₁=>?_) fun _ _ h'=>h'.elim)))
 cases r with
 | none=>exact Lp h₁
 | some v =>
  refine KG (L7 h₁ (fun _ s₀ h₀=>?_) fun _ _ h'=>h'.elim)
  refine KG (L7 h₀ (fun _ s₂ h₂=>KG (L7 h₂ (fun ok s₃ h₃=>?_) fun _ _ h'=>h'.elim)) fun _ _ h'=>h'.elim)
  cases ok with
  | false=>exact Lp ⟨rfl,h₃⟩
  | true =>
   exact KG (KG (L7 h₃ (fun x s₄ h₄=>KG (L7 h₄ (fun _ s₅ h₅=>Lp (Lp ⟨rfl,h₅⟩)) fun _ _ h'=>h'.elim)) fun _ _ h'=>h'.elim))
end
def FP (J:It) (g:TG) (tt:TT) (te:TE) (σ0:St) (H1:Hp) (Q:VK):Prop:=∀ D,H1 D=none→∃ W:Nat→Nat→List V→Hp→Prop,(∃ m,W 0 m [] (upd H1 D (.lst []))) ∧
 ∀ i m ys H,W i m ys H→(J.stop i H∧H D=some (.lst ys)∧Q (.ref D) H) ∨
  (J.go i H∧∀ x H',J.ye i H x H'→g x σ0 H' fun σ2 H2=>tt σ2 H2 fun c H3 =>
   if c=true then te σ2 H3 fun v H4=>H4 D=some (.lst ys)∧ys.length<KH∧∃ m',m'<m∧W (i+1) m' (ys++[v]) (upd H4 D (.lst (ys++[v])))
   else ∃ m',m'<m∧W (i+1) m' ys H3)
variable {id:String} {es:List Mv} {Q:KD→KJ→Prop}
def zx (g:TG) (σ0:St):Prop:=∀ x H (Q:St→Hp→Prop),g x σ0 H Q→g x σ0 H fun σ2 H2=>Q σ2 H2∧σ2.length=σ0.length∧∀ (j:Nat) v,σ0[j]?=some (some v)→σ2[j]?=some (some v)
section
variable {X:Cx} {tg elt iter:Mv} {ifs:List Mv} {scope:NW} {cl:List (LV×KI)} {N':List LV} {σ0:St→St} {g:TG} {tt:TT} {te:TE}
def nr (wi:TI) (g:TG) (tt:TT) (te:TE) (σ0:St→St):TE:=fun σ H Q=>wi σ H fun J H1=>FP J g tt te (σ0 σ) H1 Q
def yo:TT:=fun _ H Q=>Q true H
variable {pos:Qq} {wi:TI}
def rq (t:TE) (i:Nat):TS:=fun D σ H=>t σ H fun x H1=>D.nx (σ.set i (some x)) H1
end
section
variable {X:Cx}
def yd (X:Cx) (f:KD) (ks:List LV) (r:List V→List V→Hp→VK→Prop):Prop :=
 ∀ (pins:List (KI×Nv)) (s:KJ) (σ:St) (H:Hp) (xs zs:List V) (us ws:List KD) (Q:VK),Inv X pins σ H s→Vals xs us→Vals zs ws→r xs zs H Q →
  Lh (model X.prog X.w) X.A (call f us (ks.zip ws)) (EP X pins σ Q) X.xe s
def Ii (r:List V→List V→Hp→VK→Prop) (t tk:TA):TE:=fun σ H Q=>t σ H fun vs H1=>tk σ H1 fun zs H2=>r vs zs H2 Q
theorem Aa {p:Qq} {e:Mv} {kws:List P9} {ks:List LV} {t tk:TA} {r:List V→List V→Hp→VK→Prop} (hc:yd X (.builtin id) ks r) (hg:Gl X x) (hm:X.mg x=none) (hv:Md x=some (.builtin id)) (ha:PA X (e::es) t) (hk:PK X kws tk)
 (hks:(PX pos (Oq kws X.env)).filterMap (·.1)=ks:=by rfl) (hn:x ≠ "__name__" := by decide) (hdb:(x==("__debug__" : LV))=false:=by decide)
 (he:OV pos (Mi (e::es) X.env)=(false,eval e X.env)::OV pos (Mi es X.env):=by rfl) (hpl:(OV pos (Mi (e::es) X.env)).any (·.1)=false:=by rfl)
 (hall:(PX pos (Oq kws X.env)).all (·.1.isSome)=true:=by rfl) (hkw:(PX pos (Oq kws X.env)).any (·.1.isNone)=false:=by rfl):PE X (.Call (.Name x p) (e::es) kws pos) (Ii r t tk):=by
 intro pins s σ H Q I h
 refine N3 (iR I hg hm hv ?_ hn hdb)
 refine Qk (cD (ha pos pins s σ H _ I h) fun us s1 ⟨vs,H1,I1,r1,q1⟩=>?_) he hpl hall hkw
 refine cD (hk pos pins s1 σ H1 _ I1 q1) fun ws s2 ⟨zs,H2,I2,r2,q2⟩=>?_
 rw [hks]
 exact hc pins s2 σ H2 vs zs us ws Q I2 r1 r2 q2
end
section
variable {prog:L0} {w:L9} {A:L4} {R:Tu→KJ→Prop} {I:KI} {fp wr:List KI} {n:Nat} {P:Nat→KD→Prop} {St:Nat→ME→Prop} {kw:List (LV×KD)}
theorem Al (W:Walks prog w A.in1 I fp wr n P St) (bt:Nat→Nat→Bool) (hcmp:CmpOf prog w A.in1 .Gt P bt) (S:KI) (hSf:S∉fp) :
 ∀ (k j:Nat) (s:KJ) (vb:KD) (c:Nat),n-(j+1)=k→j+1≤n→St (j+1) s.heap→P (Qa bt j) vb →
 s.heap.get? S=some { cls:=.type "list", dict:=none,data:=.seq #[vb,vb] c,slots:=#[] } →
 (∀ v h' tk,P (Qa bt (n-1)) v→(∀ b o,b∉wr→b≠S→s.heap.get? b=some o→h'.get? b=some o)→R (.ok (.ret v)) { s with heap:=h',toks:=tk }) →
 PJ (model prog w) A (.builtin "max.loop" ⟨[.ref I,.none,.ref S],kw⟩) R s:=by
 have hSw:S∉wr:=fun h=>hSf (W.sub _ h)
 have hname:(toString "max" ++ toString ".loop" : String) = "max.loop" := by decide
 intro k
 induction k with
 | zero =>
  intro j s vb c hk hj hst hPb hS hR
  have hin:j+1=n:=by omega
  refine Nn Pb ?_
  rw [MG Nc _]
  show Lh _ A.in1 (Sx (.ref S) >>= _) _ _ s
  refine KG (PZ hS rfl ?_)
  show Lh _ A.in1 (tryCatch (RX (.ref I)) _ >>= _) _ _ s
  refine KG (OY (W.done s _ _ (hin ▸ hst) fun h' tk hk'=>?_))
  have hS':=hk' S _ hSw hS
  show Lh _ A.in1 (updateSeq S (fun _=>#[]) >>= _) _ _ _
  refine KG ?_
  refine Q1 hS' rfl (KG (Qb (Lp ?_)))
  refine hR vb _ tk (by rw [← hin]; exact hPb) fun b o hbw hbS e=>(L8 _ _ (MY hbS)).trans (hk' b o hbw e)
 | succ k ih =>
  intro j s vb c hk hj hst hPb hS hR
  have hlt:j+1<n:=by omega
  refine Nn Pb ?_
  rw [MG Nc _]
  show Lh _ A.in1 (Sx (.ref S) >>= _) _ _ s
  refine KG (PZ hS rfl ?_)
  show Lh _ A.in1 (tryCatch (RX (.ref I)) _ >>= _) _ _ s
  refine KG (OY (W.item (j+1) s _ _ hlt hst fun v h' tk hP hst' hk'=>?_))
  have hS':=hk' S _ hSw hS
  show Lh _ A.in1 (tryCatch (holding [v,v] (SG .Gt v vb >>= _)) _ >>= _) _ _ _
  refine KG (OY (Ma (KG (hcmp (j+1) (Qa bt j) v vb _ _ _ hP hPb ?_))))
  refine KG (Ma (MR ?_))
  refine KG (Qb (Lp ?_))
  cases hb:bt (j+1) (Qa bt j) with
  | true =>
   simp only [if_true]
   refine KG ?_
   refine Q1 hS' rfl (KG (Qb ?_))
   rw [hname]
   refine Lp ⟨NL Nc _,ih (j+1) _ v _ (by omega) hlt (W.frame _ _ _ hst' fun b hbf o e=>?_) (by simp only [Qa,hb,if_true]; exact hP) (O7 _ hS' rfl)
    fun v' h'' tk'' hP' hk''=>?_⟩
   ·exact (L8 _ _ (fun h:S=b=>hSf (by rw [h]; exact hbf))).trans e
   ·exact hR v' h'' tk'' hP' fun b o hbw hbS e=>hk'' b o hbw hbS ((L8 _ _ (MY hbS)).trans (hk' b o hbw e))
  | false =>
   simp only [MI,if_false]
   refine KG (Qb ?_)
   rw [hname]
   refine Lp ⟨NL Nc _,ih (j+1) _ vb c (by omega) hlt hst' (by simp only [Qa,hb,MI,if_false]; exact hPb) hS' fun v' h'' tk'' hP' hk''=>?_⟩
   exact hR v' h'' tk'' hP' fun b o hbw hbS e=>hk'' b o hbw hbS (hk' b o hbw e)
theorem xE (W:Walks prog w A.in1 I fp wr n P St) (bt:Nat→Nat→Bool) (hcmp:CmpOf prog w A.in1 .Gt P bt) (S:KI) (hSf:S∉fp) (hn:0<n) {s:KJ} {c:Nat} (hst:St 0 s.heap)
 (hS:s.heap.get? S=some { cls:=.type "list", dict:=none,data:=.seq #[] c,slots:=#[] })
 (hR:∀ v h' tk,P (Qa bt (n-1)) v→(∀ b o,b∉wr→b≠S→s.heap.get? b=some o→h'.get? b=some o)→R (.ok (.ret v)) { s with heap:=h',toks:=tk }) :
 PJ (model prog w) A (.builtin "max.loop" ⟨[.ref I,.none,.ref S],kw⟩) R s:=by
 have hSw:S∉wr:=fun h=>hSf (W.sub _ h)
 have hname:(toString "max" ++ toString ".loop" : String) = "max.loop" := by decide
 refine Nn Pb ?_
 rw [MG Nc _]
 show Lh _ A.in1 (Sx (.ref S) >>= _) _ _ s
 refine KG (PZ hS rfl ?_)
 show Lh _ A.in1 (tryCatch (RX (.ref I)) _ >>= _) _ _ s
 refine KG (OY (W.item 0 s _ _ hn hst fun v h' tk hP hst' hk'=>?_))
 have hS':=hk' S _ hSw hS
 show Lh _ A.in1 (updateSeq S (fun _=>#[v,v]) >>= _) _ _ _
 refine KG ?_
 refine Q1 hS' rfl ?_
 rw [hname]
 refine Lp ⟨NL Nc _,Al W bt hcmp S hSf _ 0 _ v _ rfl hn (W.frame _ _ _ hst' fun b hbf o e=>?_) hP (O7 _ hS' rfl) fun v' h'' tk'' hP' hk''=>?_⟩
 ·exact (L8 _ _ (fun h:S=b=>hSf (by rw [h]; exact hbf))).trans e
 ·exact hR v' h'' tk'' hP' fun b o hbw hbS e=>hk'' b o hbw hbS ((L8 _ _ (MY hbS)).trans (hk' b o hbw e))
theorem maxD_empty (W:Walks prog w A.in1 I fp wr n P St) (S:KI) (hSf:S∉fp) (hn:n=0) {s:KJ} {c:Nat} {d:KD} (hst:St 0 s.heap)
 (hS:s.heap.get? S=some { cls:=.type "list", dict:=none,data:=.seq #[] c,slots:=#[] })
 (hR:∀ h' tk,(∀ b o,b∉wr→s.heap.get? b=some o→h'.get? b=some o)→R (.ok (.ret d)) { s with heap:=h',toks:=tk }) :
 PJ (model prog w) A (.builtin "max.loop" ⟨[.ref I,.none,.ref S],[("default", d)]⟩) R s:=by
 have hSw:S∉wr:=fun h=>hSf (W.sub _ h)
 refine Nn Pb ?_
 rw [MG Nc _]
 show Lh _ A.in1 (Sx (.ref S) >>= _) _ _ s
 refine KG (PZ hS rfl ?_)
 show Lh _ A.in1 (tryCatch (RX (.ref I)) _ >>= _) _ _ s
 subst hn
 refine KG (OY (W.done s _ _ hst fun h' tk hk'=>?_))
 show Lh _ A.in1 (rule _ >>= _) _ _ _
 exact KG (N4 (Lp (hR h' tk hk')))
end
section
variable {prog:L0} {w:L9} {A:L4} {E:KD→KJ→Prop} {s:KJ}
theorem Ba (a d:KD):Pc "max" ⟨[a],[("default", d)]⟩:=by unfold Pc; kernel_rfl
theorem jG {b:NF} {args:List KD} {kw:List (LV×KD)} (hk:builtinKind id=none) (hp:plainId id=true)
 (hb:entryFor table id=some b) (ha:Pc id ⟨args,kw⟩)
 (hc:Lh (model prog w) A.in1 (b ⟨args,kw⟩) (fun fin s'=>match fin with
  | .done f=>(match (Except.ok f:Tu) with | .ok (.ret v)=>Q v s' | .ok _=>False | .error e=>E e s')
  | .again c'=>c'.quiet=true∧PJ (model prog w) A c' (fun r s'=>match r with | .ok (.ret v)=>Q v s' | .ok _=>False | .error e=>E e s') s') E s) :
 Lh (model prog w) A (call (.builtin id) args kw) Q E s:=by
 refine SX (codeAny_call_builtin hp hb ?_)
 simp only [checkBuiltinCall,hk]
 cases hsig:Manifest.signature? id with
 | none=>exact Lp hc
 | some sig =>
  simp only [Pc,hsig] at ha
  have h2:S4 id sig ⟨args,kw⟩=pure ():=ha
  show Lh _ A.in1 (S4 id sig ⟨args,kw⟩) _ _ s
  rw [h2]; exact Lp hc
theorem qH {x d:KD}
 (h:Lh (model prog w) A.in1 (pyIter x) (fun it s₂=>∃ I fp wr n P St bt,it=.ref I∧Walks prog w A.in1 I fp wr n P St∧St 0 s₂.heap∧(∀ b∈fp,b<s₂.heap.objs.size)∧CmpOf prog w A.in1 .Gt P bt ∧
  (0<n→∀ v h' tk,P (Qa bt (n-1)) v→(∀ b o,b∉wr→s₂.heap.get? b=some o→h'.get? b=some o)→Q v { s₂ with heap:=h',toks:=tk }) ∧
  (n=0→∀ h' tk,(∀ b o,b∉wr→s₂.heap.get? b=some o→h'.get? b=some o)→Q d { s₂ with heap:=h',toks:=tk })) E s) :
 Lh (model prog w) A (call (.builtin "max") [x] [("default", d)]) Q E s:=by
 have hname:(toString "max" ++ toString ".loop" : String) = "max.loop" := by decide
 refine jG F.kind_max F.plain_max F.entry_max (Ba _ _) ?_
 show Lh _ A.in1 (PM "max" ["key", "default"] 0 ⟨[],[("default", d)]⟩ >>= _) _ _ s
 refine KG (wpAny_of_eq (show PM "max" ["key", "default"] 0 ⟨[],[("default", d)]⟩=pure [none,some d] from by with_unfolding_all rfl) ?_)
 refine KG (Lp ?_)
 refine KG (L7 h (fun it s₂ h₂=>?_) fun _ _ e=>e)
 obtain ⟨I,fp,wr,n,P,St,bt,rfl,W,hst,hfp,hcmp,hQ1,hQ0⟩:=h₂
 refine KG (wpAny_newObj_type ?_)
 have hSf:s₂.heap.objs.size∉fp:=fun hm=>LP _ (hfp _ hm)
 rw [hname]
 refine Lp ⟨NL Nc _,?_⟩
 have hst':St 0 (s₂.heap.push { cls:=.type "list", data:=.seq #[] }):=W.frame _ _ _ hst fun b _ o e=>KN _ e
 rcases Nat.eq_zero_or_pos n with hn | hn
 ·exact maxD_empty W s₂.heap.objs.size hSf hn hst' (LD _ rfl) fun h' tk hk=>hQ0 hn h' tk fun b o hbw e=>hk b o hbw (KN _ e)
 ·exact xE W bt hcmp s₂.heap.objs.size hSf hn hst' (LD _ rfl) fun v h' tk hP hk=>hQ1 hn v h' tk hP fun b o hbw e=>hk b o hbw (Lm (K1 e)) (KN _ e)
end
section
variable {X:Cx}
theorem A0 (hc:X.calm=true):yd X (.builtin "max") ["default"] (fun xs zs H Q=>∃ (p:KI) (ns:List Int) (d:V),xs=[.ref p]∧zs=[d]∧dA X.K H p (ns.map V.int)∧(ns=[]→Q d H)∧∀ M,M∈ns→(∀ a,a∈ns→a≤M)→Q (.int M) H):=by
 intro pins s σ H xs zs us ws Q I r rz h
 obtain ⟨p,ns,d,rfl,rfl,hq,q0,q1⟩:=h
 obtain ⟨u,rfl,rx⟩:=vals1 r
 obtain ⟨dv,rfl,rd⟩:=vals1 rz
 cases rx
 obtain ⟨its,r',pl,hz⟩:=I.list hq
 have hi:=intsAre_of r'
 obtain ⟨ys,e⟩:=hi.allInts.items
 have hns:ns=ys.toList.map (·.1):=by
  rw [← hi.numsOf,← Qj,← e]
 have hl:=pl.isList
 rw [e] at hl
 refine qH (iter_intList hl fun s₂ e st hfp hlI=>?_)
 subst e
 refine ⟨_,_,_,_,_,_,_,rfl,Walks.list (A:=X.A.in1) (I.ok.hd hc) _ p hlI (Rl ys),st,hfp,CmpOf.ints_gt (S3 ys) (fun _ _=>Rm),fun hn v h' tk hP hk=>?_,fun hn h' tk hk=>?_⟩
 ·obtain ⟨t,rfl⟩:=Rm (by simpa [Rl] using hP)
  have hsz:0<ys.size:=by simpa [Rl] using hn
  obtain ⟨h1,h2⟩:=argBest_gt (S3 ys) (ys.size-1)
  refine ⟨.int _,H,I.kept (old_kept hk),⟨t,?_⟩,q1 (S3 ys (Qa (fun i j=>decide (S3 ys i > S3 ys j)) (ys.size-1))) ?_ fun a ha=>?_⟩
  ·simp [Rl]
  ·rw [hns,Rn]; exact Ro (by rw [Kw,KR]; omega)
  ·rw [hns] at ha
   obtain ⟨j,hj,rfl⟩:=mem_getD ha
   rw [Kw,KR] at hj
   rw [← Rn]; exact h2 j (by omega)
 ·have hz':ys.size=0:=by simpa [Rl] using hn
  have hn':ns=[]:=by rw [hns]; exact Pl (by rw [Kw,KR]; exact hz')
  exact ⟨d,H,I.kept (old_kept hk),rd,q0 hn'⟩
end
section
variable {X:Cx}
theorem dB {i:Int} (hg:Gl X x) (hm:∃ t,X.mg x=some (.int i t)) (hd:(x==("__debug__" : LV))=false:=by decide):PE X (.Name x pos) (tC (.int i)):=by
 obtain ⟨t,e⟩:=hm
 exact Ei hg e ⟨t,rfl⟩ hd
end
theorem eV:Md "len" = some (.builtin "len"):=by decide +kernel
theorem qI:Md "max" = some (.builtin "max"):=by decide +kernel
theorem Dk:Md "min" = some (.builtin "min"):=by decide +kernel
theorem ux:Md "sum" = some (.builtin "sum"):=by decide +kernel
theorem fb:Md "isinstance" = some (.builtin "isinstance"):=by decide +kernel
theorem sq:Md "sorted" = some (.builtin "sorted"):=by decide +kernel
theorem Hx:Md "all" = some (.builtin "all"):=by decide +kernel
theorem uy:Md "int" = some (.type "int"):=by decide +kernel
theorem EX:Md "bool" = some (.type "bool"):=by decide +kernel
theorem lH:Md "list" = some (.type "list"):=by decide +kernel
theorem uz:Md "enumerate" = some (.type "enumerate"):=by decide +kernel
variable {a:KI}
theorem bG {o:HO} (h:H a=none):aL H (upd H a o):=fun b u e=>by
 rw [av (aV e h)]
 exact e
theorem Paired.mono {α β:Type} {F G:α→β→Prop}:∀ {as:List α} {bs:List β},MZ F as bs→(∀ a b,a∈as→F a b→G a b)→MZ G as bs
 | _,_,.nil,_=>.nil
 | _,_,.cons r t,h=>.cons (h _ _ Ky r) (Paired.mono t fun a b m=>h a b (Kx _ m))
theorem Paired.append {α β:Type} {F:α→β→Prop}:∀ {as cs:List α} {bs ds:List β},MZ F as bs→MZ F cs ds→MZ F (as++cs) (bs++ds)
 | _,_,_,_,.nil,s=>s
 | _,_,_,_,.cons r t,s=>.cons r (Paired.append t s)
section
variable {X:Cx} {K:KC}
theorem jM (h:X.K=K):oR X (Nj .NotIn) (Jr K true):=by subst h; exact tK
theorem gO (h:X.K=K):cP X (.type "list") (fun xs H Q=>∃ p ys,xs=[.ref p]∧(dA K H p ys∨Bh K H p ys)∧∀ l,H l=none→Q (.ref l) (upd H l (.lst ys))):=by subst h; exact uw
theorem ju (h:X.K=K):cP X (.builtin "isinstance") (fun xs H Q=>∃ x n t b,xs=[x,.ty n]∧jH K H x t∧Ol K t (.type n)=some b∧Q (.bl b) H):=by subst h; exact Di
theorem eL {a:Mv} {ta:TE} (h:X.K=K) (ha:PE X a ta) (he:∀ whole,QC a X.env whole=(do let v ← whole; SS a.pos; holding [v] (truthy v))) :
 PT X a (fun σ H Q=>ta σ H fun x H'=>∃ k,Du K x H' k∧Q k H'):=by subst h; exact BY ha he
end
def Jj (K:KC) (a:KI):It :=
 ⟨fun i H=>∃ xs x,dA K H a xs∧xs[i]?=some x,fun i H x H'=>∃ (t:KI) (v:V),x=.ref t∧H t=none∧(∀ xs,dA K H a xs→xs[i]?=some v)∧H'=upd H t (.tup [.int i,v]),fun i H=>∃ xs,dA K H a xs∧xs.length≤i⟩
variable {P:L0} {elts:List Mv} {t:KI} {items:Array KD} {env:SU} {o:Option V} {y:V} {u:KD}
theorem zF {w:L9} {K:KC} {x1} (a e it:KI) (hne:e≠it) :
 Turn P w K (.Tuple elts x1 pos) (Jj K a) [e,it] e (fun i h=>(∃ old,IsEnum h e it (i:Nat) old)∧h.IsListIter it a i) where
 mem:=by simp
 obj:=fun i h st b hb=>by
  obtain ⟨⟨old,he⟩,hit⟩:=st
  have hb':b=e∨b=it:=by simpa using hb
  rcases hb' with rfl | rfl
  ·exact ⟨_,he,fun v z=>by
    have z':Data.fields _=Data.cell v:=z
    cases z'⟩
  ·obtain ⟨o,ho,c,d⟩:=hit
   exact ⟨o,ho,fun v z=>by rw [d] at z; cases z⟩
 keep:=fun i h h' st k=>by
  obtain ⟨⟨old,he⟩,hit⟩:=st
  exact ⟨⟨old,k e (by simp) _ he⟩,hit.at fun o e=>k it (by simp) o e⟩
 item:=by
  intro X hP hw hK hc i pins s σ H E I hf st hg
  subst hP hw hK
  obtain ⟨⟨old,he⟩,hit⟩:=st
  obtain ⟨xs,x,hq,hx⟩:=hg
  obtain ⟨its,rv,p,hz⟩:=I.list hq
  obtain ⟨u,hu,ru⟩:=rv.get hx
  obtain ⟨f0,f1,f2,f3,f4,f5⟩:=hf e (by simp)
  obtain ⟨g0,g1,g2,g3,g4,g5⟩:=hf it (by simp)
  refine wpAny_pyNext_enum_item he hit p.isList (x:=u) (by simpa using hu) hne fun h₁ heo hit₁ ht₁ hz₁ hk₁=>⟨_,rfl,?_⟩
  refine wpAny_letOwnedTupleGo_enum heo fun h₂ he₂ hs₂=>?_
  replace hs₂:PH e h₁ h₂:=hs₂
  have hlt:e<s.heap.objs.size:=K1 he
  have hilt:it<s.heap.objs.size:=by obtain ⟨o,ho,_⟩:=id hit; exact K1 ho
  have k₂:∀ b o,b∉[e,it]→s.heap.get? b=some o→h₂.get? b=some o:=fun b o hb q=>by
   have b1:b≠e:=fun z=>hb (by simp [z])
   have b2:b≠it:=fun z=>hb (by simp [z])
   exact hs₂.extBut b o b1 (hk₁ b o b1 b2 q)
  have nit:∀ b u',H b=some u'→b∉[e,it]:=fun b u' q z=>by
   have z':b=e∨b=it:=by simpa using z
   rcases z' with rfl | rfl
   ·rw [f0] at q; cases q
   ·rw [g0] at q; cases q
  have I1:Inv X pins σ H { s with heap:=h₂,toks:=s.toks+1 }:=by
   refine I.step (g':=s.gens) (d':=s.drawn) (ch:=[e,it]) (fun b hb=>?_) (fun b o _ _ hc' q _=>k₂ b o hc' q) (fun b o _ _ hc' q _=>⟨o.slots,k₂ b o hc' q⟩) (fun _ _ _ _ n=>n)
    (fun b o hc' q=>⟨o,k₂ b o hc' q⟩) (fun _ _ q=>q) (fun _ _ _ q=>q) (fun b ps q=>⟨#[],by rw [q]; simp⟩) (fun m hm=>?_) (fun b u' q=>?_) I.bare
   ·have z':b=e∨b=it:=by simpa using hb
    rcases z' with rfl | rfl
    ·exact ⟨f3,f1,f4,f5⟩
    ·exact ⟨g3,g1,g4,g5⟩
   ·obtain ⟨o,es,ep,ho,r⟩:=hm
    exact ⟨o,es,ep,k₂ _ o (fun z=>by
     have z':X.env.locals=e∨X.env.locals=it:=by simpa using z
     rcases z' with z' | z'
     ·exact f1 z'.symm
     ·exact g1 z'.symm) ho,r⟩
   ·refine (I.cu b u' q).qR (fun c v hc' q'=>k₂ c v ?_ q') (fun _ q'=>q') fun _ _ q'=>q'
    rcases hc' with z | z
    ·rw [z]; exact nit b u' q
    ·exact nit c _ z
  have nH:H s.heap.objs.size=none:=I.fresh
  have tup₂:h₂.get? s.heap.objs.size=some { cls:=.type "tuple", data:=.seq #[.int i s.toks,u] }:=hs₂.extBut _ _ (Ng hlt) ht₁
  have I2:Inv X pins σ (upd H s.heap.objs.size (.tup [.int i,x])) { s with heap:=h₂,toks:=s.toks+1 }:=by
   have ob:bQ X.prog X.w (upd H s.heap.objs.size (.tup [.int i,x])) h₂ s.heap.objs.size (.tup [.int i,x]) :=
    ⟨by simp only [Lo,Mm]; rw [Lv]; decide,[.int i s.toks,u],.cons ⟨_,rfl⟩ (.cons ru .nil),⟨_,tup₂,rfl,_,rfl⟩⟩
   have hk:ko X.prog X.w (upd H s.heap.objs.size (.tup [.int i,x])) h₂:=fun b u' q=>by
    by_cases hb:b=s.heap.objs.size
    ·subst hb; rw [aC] at q; cases q; exact ob
    ·rw [av hb] at q
     exact (I1.cu b u' q).qR (fun c v _ q'=>q') (fun c q'=>by rw [av (aV q' nH)]; exact q') fun c xs' q'=>by rw [av (aV q' nH)]; exact q'
   refine I.step (g':=s.gens) (d':=s.drawn) (ch:=[e,it]) (fun b hb=>?_) (fun b o _ _ hc' q _=>k₂ b o hc' q) (fun b o _ _ hc' q _=>⟨o.slots,k₂ b o hc' q⟩) (fun b o _ q n=>by rw [av (Lm (K1 q))]; exact n)
    (fun b o hc' q=>⟨o,k₂ b o hc' q⟩) (fun b xs' q=>by rw [av (aV q nH)]; exact q) (fun b o u' q=>by rw [av (aV q nH)]; exact q) (fun b ps q=>⟨#[],by rw [av (aV q nH),q]; simp⟩) (fun m hm=>?_) hk I.bare
   ·have z':b=e∨b=it:=by simpa using hb
    rcases z' with rfl | rfl
    ·exact ⟨f3,f1,f4,f5⟩
    ·exact ⟨g3,g1,g4,g5⟩
   ·obtain ⟨o,es,ep,ho,r⟩:=hm
    exact ⟨o,es,ep,k₂ _ o (fun z=>by
     have z':X.env.locals=e∨X.env.locals=it:=by simpa using z
     rcases z' with z' | z'
     ·exact f1 z'.symm
     ·exact g1 z'.symm) ho,r⟩
  refine ⟨.ref s.heap.objs.size,_,I2,rfl,⟨_,x,rfl,nH,fun ys hy=>by rw [I.vx hy hq]; exact hx,rfl⟩,⟨⟨u,?_⟩,hit₁.extBut hs₂.extBut (MY hne)⟩,fun b hb=>?_⟩
  ·have e1:((i+1:Nat):Int)=(i:Int)+1:=by push_cast; rfl
   rw [e1]
   exact he₂
  ·have z':b=e∨b=it:=by simpa using hb
   rcases z' with rfl | rfl
   ·rw [av (Lm hlt)]; exact f0
   ·rw [av (Lm hilt)]; exact g0
 done:=by
  intro X hP hw hK hc i pins s σ H E I hf st hg
  subst hP hw hK
  obtain ⟨⟨old,he⟩,hit⟩:=st
  obtain ⟨xs,hq,hx⟩:=hg
  obtain ⟨its,rv,p,hz⟩:=I.list hq
  obtain ⟨g0,g1,g2,g3,g4,g5⟩:=hf it (by simp)
  have hl:=rv.length
  exact wpAny_pyNext_enum_end (I.ok.hd hc) he hit p.isList (by simp; omega) fun h' eb=>⟨rfl,I.turned (t':=s.toks) (fun b o hb e=>eb b o hb e) g0 g1 g3 g4 g5⟩
 self:=fun _ _ _ _ _ st h=>by
  obtain ⟨⟨old,he⟩,_⟩:=st
  exact wpAny_pyIter_enum he h
section
variable {X:Cx}
def CD (K:KC) (tl:TE):TI:=fun σ H R=>tl σ H fun x H1=>∃ a,x=.ref a∧(∃ xs,dA K H1 a xs)∧R (Jj K a) H1
theorem Eh {l:Mv} {tl:TE} {x1} {tpos p:Qq} (hg:Gl X "enumerate") (hm:X.mg "enumerate" = none) (hl:PE X l tl) (hs:Mi [l] X.env=[(false,eval l X.env)]:=by rfl):PI X (.Tuple elts x1 tpos) (.Call (.Name "enumerate" p) [l] [] pos) (CD X.K tl):=by
 intro pins s σ H R I h
 have ha:PA X [l] (cf tl eC):=aa hl aj hs
 refine Call_ (iR I hg hm uz (Nr (cD (ha pos pins s σ H (fun vs H1=>match vs with | [x]=>∃ a,x=.ref a∧(∃ xs,dA X.K H1 a xs)∧R (Jj X.K a) H1 | _=>False) I h) fun us s1 ⟨vs,H1,I1,r1,q1⟩=>?_) hs rfl))
 ·match vs,r1,q1 with
  | [x],r1,q1 =>
  obtain ⟨a,rfl,⟨xs,hq⟩,q⟩:=q1
  obtain ⟨u,rfl,ru⟩:=vals1 r1
  cases ru
  obtain ⟨its,rv,pl,hz⟩:=I1.list hq
  refine call_enumerate_list pl.isList fun h' he hit hz' hk=>?_
  refine wpAny_pyIter_enum he ?_
  have I2:Inv X pins σ H1 { s1 with heap:=h' }:=I1.kept (t':=s1.toks) hk
  refine ⟨s1.heap.objs.size+1,[s1.heap.objs.size+1,s1.heap.objs.size],_,_,H1,rfl,I2,zF a _ _ (Nat.succ_ne_self _),⟨⟨_,he⟩,hit⟩,fun b hb=>?_,q⟩
  have z':b=s1.heap.objs.size+1∨b=s1.heap.objs.size:=by simpa using hb
  rcases z' with rfl | rfl
  ·exact I1.EE (Qc _) (I1.cu.fresh (Qc _))
  ·exact I1.EE (Lg _) (I1.cu.fresh (Lg _))
end
section
variable {prog:L0} {w:L9} {A:L4} {E:KD→KJ→Prop}
theorem sd {it t:KI} {items:Array KD} (hne:t≠it):∀ (n i:Nat) (s:KJ) (Q:List KD→KJ→Prop),s.heap.IsListIter it t i→s.heap.IsList t items→i+n≤items.size →
 (∀ h',h'.IsListIter it t (i+n)→PH it s.heap h'→Q ((items.toList.drop i).take n) { s with heap:=h' })→Lh (model prog w) A (draw (.ref it) n) Q E s
 | 0,i,s,Q,hit,_,_,hQ=>by
  show Lh _ _ (pure []) Q E s
  exact Lp (by simpa using hQ s.heap hit (Heap.SameBut.refl ..))
 | n+1,i,s,Q,hit,ht,hle,hQ=>by
  have hlt:i<items.size:=by omega
  show Lh _ _ (RX (.ref it) >>= _) Q E s
  refine KG (QD hit ht (x:=items[i]) (by simp [hlt]) fun h₁ hit₁ hs₁=>?_)
  refine KG (Ma (sd hne n (i+1) _ _ hit₁ (ht.extBut hs₁.extBut hne) (by omega) fun h₂ hit₂ hs₂=>Lp ?_))
  have hd:items.toList.drop i=items[i]::items.toList.drop (i+1):=by simp [Lq,hlt]
  have:=hQ h₂ (by rw [show i+(n+1)=i+1+n by omega]; exact hit₂) (hs₁.trans hs₂)
  rw [hd,List.take_succ_cons] at this
  exact this
theorem ma {s:KJ} {Q:List KD→KJ→Prop} (hh:A.handled=none) (ht:s.heap.IsList t items)
 (hQ:∀ h',Heap.ExtBut s.heap.objs.size s.heap h'→Q items.toList { s with heap:=h' }):Lh (model prog w) A (unpackItems (.ref t) items.size none) Q E s:=by
 have hlt:t≠s.heap.objs.size:=by obtain ⟨o,ho,_⟩:=ht; exact Lm (K1 ho)
 unfold unpackItems
 refine KG ?_
 ·unfold notIterableAtAll
  refine KG (wpAny_specialOf ht.typeIs F.slot_list_iter.lookup ?_)
  refine Lp ?_
  simp only [MI,if_false]
  refine KG (Ma (P8 ht ?_))
  refine KG (Ma (sd hlt items.size 0 _ _ ⟨_,LD _ rfl,rfl,rfl⟩ (ht.push _) (by omega) fun h₁ hit₁ hs₁=>?_))
  have hall:List.take items.size (List.drop 0 items.toList)=items.toList:=by
   rw [Ot]; exact Mn (by simp)
  rw [hall]
  rw [if_neg (by simp)]
  have ht₁:h₁.IsList t items:=(ht.push _).extBut hs₁.extBut hlt
  refine KG (Ma (Q7 hh hit₁ ht₁ (by simp) fun h₂ he₂=>?_))
  simp only [Option.isSome_none,MI,if_false]
  refine Lp (hQ h₂ fun b o hb e=>he₂ b o hb (hs₁.extBut b o hb (KN _ e)))
theorem lI {s:KJ} {x1} {pos:Qq} {Q:Unit→KJ→Prop} (hh:A.handled=none) (ht:s.heap.IsList t items)
 (hn:(M3 elts env).length=items.size) (hstar:(M3 elts env).findIdx? (·.1)=none)
 (h:∀ h',Heap.ExtBut s.heap.objs.size s.heap h'→Lh (model prog w) A (assignInOrder ((M3 elts env).map (·.2)) items.toList) Q E { s with heap:=h' }) :
 Lh (model prog w) A (assign (.Tuple elts x1 pos) env (.ref t)) Q E s:=by
 rw [arm_assign_Tuple]
 refine KG (OG ?_)
 unfold unpack
 rw [hn,hstar]
 exact KG (Ma (ma hh ht h))
end
section
variable {X:Cx} {pos:Qq}
def IM (K:KC) (n:Nat) (t:uH):TG:=fun v σ H Q=>∃ a xs,v=.ref a∧dA K H a xs∧xs.length=n∧t xs σ H Q
theorem GI {k:Nat} {t:uH} {n:Nat} (hc:X.calm=true) (h:HG X es t)
 (hn:(M3 es X.env).length=n:=by rfl) (hst:(M3 es X.env).findIdx? (·.1)=none:=by rfl):PG X (.Tuple es k pos) (IM X.K n t):=by
 intro pins s σ H v u Q I r hw
 obtain ⟨a,xs,e1,hq,hl,hw⟩:=hw
 subst e1
 cases r
 obtain ⟨its,rv,ht,hz⟩:=I.list hq
 refine lI (I.ok.hd hc) ht.isList (by simp [hn,← hl,rv.length]) hst fun h' hx=>?_
 have I1:Inv X pins σ H { s with heap:=h' }:=I.kept (t':=s.toks) fun b o e=>hx b o (Lm (K1 e)) e
 exact h pins _ σ H xs _ Q I1 (by simpa using rv) hw
end
section
variable {κ:Type} [DecidableEq κ]
def lY (kvs:List (κ×V)) (k:κ):Option V:=(kvs.find? fun kv=>decide (kv.1=k)).map (·.2)
def putK (kvs:List (κ×V)) (k:κ) (v:V):List (κ×V) :=
 if (kvs.any fun kv=>decide (kv.1=k))=true then kvs.map (fun kv=>if kv.1=k then (kv.1,v) else kv) else kvs++[(k,v)]
theorem iH {p:κ×V} {r:List (κ×V)} {k:κ} (e:p.1=k):lY (p::r) k=some p.2:=by simp [lY,MM,e]
theorem iI {p:κ×V} {r:List (κ×V)} {k:κ} (e:¬ p.1=k):lY (p::r) k=lY r k:=by simp [lY,MM,e]
theorem uM (k:κ):∀ kvs:List (κ×V),(kvs.any fun kv=>decide (kv.1=k))=(lY kvs k).isSome
 | []=>rfl
 | p::r=>by
  rw [Od]
  by_cases e:p.1=k
  ·simp only [iH e,decide_eq_true e,Bool.true_or,R1]
  ·rw [iI e,decide_eq_false e,Bool.false_or]; exact uM k r
theorem nM (kvs:List (κ×V)) (k:κ) (v:V):(putK kvs k v).length≤kvs.length+1:=by
 unfold putK
 split
 ·rw [Kw]; omega
 ·rw [K0,Lo,Mm]; omega
theorem qM.gZ {u:Option KD} (r:qM o u):o.isSome=u.isSome:=by
 cases o with
 | none=>cases u with
  | none=>rfl
  | some _=>exact (show False from r).elim
 | some _=>cases u with
  | none=>exact (show False from r).elim
  | some _=>rfl
theorem KV.val {kvs:List (κ×V)} {vs:List (κ×KD)} (r:KV kvs vs) (k:κ):qM (lY kvs k) (RC vs k):=by
 unfold KV at r
 induction r with
 | nil=>exact Oo
 | @cons p q ps qs h t ih =>
  obtain ⟨h1,h2⟩:=h
  by_cases e:p.1=k
  ·have e':q.1=k:=h1.symm.trans e
   have b:RC (q::qs) k=some q.2:=by simp [RC,MM,e']
   rw [iH e,b]; exact h2
  ·have e':¬ q.1=k:=fun z=>e (h1.trans z)
   have b:RC (q::qs) k=RC qs k:=by simp [RC,MM,e']
   rw [iI e,b]; exact ih
theorem KV.any {kvs:List (κ×V)} {vs:List (κ×KD)} (r:KV kvs vs) (k:κ):(kvs.any fun kv=>decide (kv.1=k))=vs.any fun kv=>decide (kv.1=k):=by
 unfold KV at r
 induction r with
 | nil=>rfl
 | cons h t ih=>rw [Od,Od,ih,h.1]
theorem KV.Gs {kvs:List (κ×V)} {vs:List (κ×KD)} (r:KV kvs vs) (k:κ) (ry:RelV y u) :
 KV (kvs.map fun kv=>if kv.1=k then (kv.1,y) else kv) (vs.map fun kv=>if kv.1=k then (kv.1,u) else kv):=by
 unfold KV at r ⊢
 induction r with
 | nil=>exact .nil
 | @cons p q ps qs h t ih =>
  rw [Ld,Ld]
  refine .cons ?_ ih
  obtain ⟨h1,h2⟩:=h
  by_cases e:p.1=k
  ·rw [if_pos e,if_pos (h1.symm.trans e)]; exact ⟨h1,ry⟩
  ·rw [if_neg e,if_neg (fun z=>e (h1.trans z))]; exact ⟨h1,h2⟩
theorem KV.put {kvs:List (κ×V)} {vs:List (κ×KD)} (r:KV kvs vs) (k:κ) (ry:RelV y u):KV (putK kvs k y) (stored vs k u):=by
 unfold putK stored
 rw [r.any k]
 by_cases e:(vs.any fun kv=>decide (kv.1=k))=true
 ·rw [if_pos e,if_pos e]; exact r.Gs k ry
 ·rw [if_neg e,if_neg e]; exact TB r ⟨rfl,ry⟩
theorem KV.length {kvs:List (κ×V)} {vs:List (κ×KD)} (r:KV kvs vs):kvs.length=vs.length:=MT r
end
theorem vz {w:L9} {k:Key} (r:RelV (kV k) u):(cW P w).is k u=true:=by
 cases k with
 | inl i=>obtain ⟨t,e⟩:=(show ∃ t,u=Sq i t from r); subst e; exact vn P w i t
 | inr x=>obtain ⟨t,e⟩:=(show ∃ t,u=Sr x t from r); subst e; exact vm P w x t
theorem rX {P:L0} {w:L9}:∀ {ks:List Key} {us:List KD},Vals (ks.map kV) us→ItemsAre (cW P w) ks us
 | [],_,r=>by rw [NC] at r; cases r; exact .nil
 | k::ks,_,r=>by
  rw [Ld] at r
  cases r with
  | cons h t=>exact .cons (vz h) (rX t)
abbrev KT (H:Hp):List (List Key×V)→List (List Key×KI×KD)→Prop:=MZ fun p q=>p.1=q.1∧H q.2.1=some (.tup (p.1.map kV))∧RelV p.2 q.2.2
variable {kvs:List (List Key×V)} {xs:List (List Key×KI×KD)}
theorem KT.val (r:KT H kvs xs) (k:List Key):qM (lY kvs k) ((SH xs k).map (·.2)):=by
 induction r with
 | nil=>exact Oo
 | @cons p q ps qs h t ih =>
  obtain ⟨h1,_,h2⟩:=h
  by_cases e:p.1=k
  ·have e':q.1=k:=h1.symm.trans e
   have b:SH (q::qs) k=some q.2:=by simp [SH,MM,e']
   rw [iH e,b]; exact h2
  ·have e':¬ q.1=k:=fun z=>e (h1.trans z)
   have b:SH (q::qs) k=SH qs k:=by simp [SH,MM,e']
   rw [iI e,b]; exact ih
theorem KT.Gs (r:KT H kvs xs) (k:List Key) (ry:RelV y u) :
 KT H (kvs.map fun kv=>if kv.1=k then (kv.1,y) else kv) (xs.map (putAt k u)):=by
 induction r with
 | nil=>exact .nil
 | @cons p q ps qs h t ih =>
  rw [Ld,Ld]
  refine .cons ?_ ih
  obtain ⟨h1,h2,h3⟩:=h
  unfold putAt
  by_cases e:p.1=k
  ·rw [if_pos e,if_pos (h1.symm.trans e)]; exact ⟨h1,h2,ry⟩
  ·rw [if_neg e,if_neg (fun z=>e (h1.trans z))]; exact ⟨h1,h2,h3⟩
theorem KT.put (r:KT H kvs xs) (k:List Key) {b:KI} (hb:H b=some (.tup (k.map kV))) (ry:RelV y u) :
 KT H (putK kvs k y) (storedH xs k b u):=by
 have e:(kvs.any fun kv=>decide (kv.1=k))=(SH xs k).isSome:=by
  rw [uM,(r.val k).gZ,Qd]
 unfold putK storedH
 rw [e]
 by_cases q:(SH xs k).isSome=true
 ·rw [if_pos q,if_pos q]; exact r.Gs k ry
 ·rw [if_neg q,if_neg q]; exact TB r ⟨rfl,hb,ry⟩
theorem KT.keeps (r:KT H kvs xs) (ht:∀ b ys,H b=some (.tup ys)→H' b=some (.tup ys)):KT H' kvs xs :=
 Paired.G0 r fun _ _ z=>⟨z.1,ht _ _ z.2.1,z.2.2⟩
section
variable {P:L0} {w:L9} {H:Hp} {h:ME} {a:KI}
theorem Fu {u:HO} (ok:ko P w H h) (e:Rd H a u):bQ P w H h a u:=e.ok ok
theorem vM {kvs:List (Key×V)} (ok:ko P w H h) (e:Rd H a (.dK kvs)):kvs.length≤KH∧(a==NY)=false∧∃ vs,KV kvs vs∧h.DictOf (cW P w) a vs :=
 show bQ P w H h a (.dK kvs) from Fu ok e
theorem IQ {kvs:List (Key×V)} (ok:ko P w H h) (e:H a=some (.dK kvs)):kvs.length≤KH∧(a==NY)=false∧∃ vs,KV kvs vs∧h.DictOf (cW P w) a vs:=vM ok (.inl e)
theorem pZ {ks:List Key} (ok:ko P w H h) (e:H a=some (.tup (ks.map kV))):(RA (cW P w)).is h ks a:=by
 obtain ⟨_,its,r,o,h1,h2,n,h3⟩:=(show bQ P w H h a (.tup (ks.map kV)) from ok a _ e)
 exact ⟨o,its.toArray,n,h1,h2,h3,by simpa using rX r⟩
theorem vL (ok:ko P w H h) (e:Rd H a (.dT kvs)):kvs.length≤KH∧(a==NY)=false ∧
 ∃ xs,KT H kvs xs∧h.DictOfH (RA (cW P w)) a xs:=by
 obtain ⟨z,y,xs,r,o,es,ep,h1,h2,h3,h4,h5⟩:=(show bQ P w H h a (.dT kvs) from Fu ok e)
 refine ⟨z,y,xs,r,o,es,ep,h1,h2,h3,h4,fun x hx=>?_,h5⟩
 have all:∀ {l:List (List Key×V)} {m:List (List Key×KI×KD)},KT H l m→∀ x∈m,(RA (cW P w)).is h x.1 x.2.1:=by
  intro l m q
  induction q with
  | nil=>intro x hx; exact nomatch hx
  | @cons p q ps qs hq t ih =>
   intro x hx
   rcases KP.mp hx with e | hx
   ·subst e
    exact pZ ok (by rw [← hq.1]; exact hq.2.1)
   ·exact ih x hx
 exact all r x hx
theorem IP (ok:ko P w H h) (e:H a=some (.dT kvs)):kvs.length≤KH∧(a==NY)=false ∧
 ∃ xs,KT H kvs xs∧h.DictOfH (RA (cW P w)) a xs:=vL ok (.inl e)
end
def ng (H:Hp) (a:KI) (y:V) (r:Option V):Prop :=
 (∃ kvs k,Rd H a (.dK kvs)∧y=kV k∧r=lY kvs k)∨∃ kvs k b,Rd H a (.dT kvs)∧y=.ref b∧H b=some (.tup (k.map kV))∧r=lY kvs k
def yc (H:Hp) (a:KI) (y v:V) (H':Hp):Prop :=
 (∃ kvs k,H a=some (.dK kvs)∧y=kV k∧kvs.length<KH∧H'=upd H a (.dK (putK kvs k v))) ∨
 ∃ kvs k b,H a=some (.dT kvs)∧y=.ref b∧H b=some (.tup (k.map kV))∧kvs.length<KH∧H'=upd H a (.dT (putK kvs k v))
theorem ng.k {H:Hp} {a:KI} {kvs:List (Key×V)} {k:Key} (e:H a=some (.dK kvs)):ng H a (kV k) (lY kvs k):=.inl ⟨kvs,k,.inl e,rfl,rfl⟩
variable {h':ME}
theorem yc.k {H:Hp} {a:KI} {kvs:List (Key×V)} {k:Key} {v:V} (e:H a=some (.dK kvs)) (hl:kvs.length<KH):yc H a (kV k) v (upd H a (.dK (putK kvs k v))):=.inl ⟨kvs,k,e,rfl,hl,rfl⟩
section
variable {X:Cx} {pins:List (KI×Nv)} {σ:St} {H:Hp} {s:KJ} {a:KI} {y v:V} {u r:KD} {o:Option V} {A:L4} {E:KD→KJ→Prop}
theorem Inv.big (I:Inv X pins σ H s):NY<s.heap.objs.size:=by
 have h:Lf<s.heap.objs.size:=(I.mod.glob.keeps I.bk).lt
 exact QK (by decide) h
theorem AQ (hu:A.units+1<OT) (I:Inv X pins σ H s) (g:ng H a y (some v)) (ry:RelV y u) (h:∀ w' s',Inv X pins σ H s'→RelV v w'→Q w' s') :
 Lh (model X.prog X.w) A (Sb (.ref a) u) Q E s:=by
 rcases g with ⟨kvs,k,e,ey,l⟩ | ⟨kvs,k,b,e,ey,eb,l⟩
 ·subst ey
  obtain ⟨z,hd,vs,rel,dd⟩:=vM I.cu e
  obtain ⟨w',hw,rw'⟩:=qM.some_of (v:=v) (o:=RC vs k) (by rw [l]; exact rel.val k)
  exact wpAny_getItem_of (vz ry) dd.mapOf hw (h w' _ (I.tok _) rw')
 ·subst ey
  cases (show u=LM b from ry)
  obtain ⟨z,hd,xs,rel,dd⟩:=vL I.cu e
  obtain ⟨w',hw,rw'⟩:=qM.some_of (v:=v) (o:=(SH xs k).map (·.2)) (by rw [l]; exact rel.val k)
  obtain ⟨p,hp,iU⟩:=LO.mp hw
  refine wpAny_getItem_heap (OM hu) (pZ I.cu eb) dd hp ?_
  rw [iU]
  exact h w' _ (I.tok _) rw'
theorem JL (hu:A.units+1<OT) (I:Inv X pins σ H s) (g:ng H a y o) (ry:RelV y u) (h:∀ s',Inv X pins σ H s'→Q (.bool o.isSome) s') :
 Lh (model X.prog X.w) A (Nj .In u (.ref a)) Q E s:=by
 rcases g with ⟨kvs,k,e,ey,l⟩ | ⟨kvs,k,b,e,ey,eb,l⟩
 ·subst ey
  obtain ⟨z,hd,vs,rel,dd⟩:=vM I.cu e
  refine wpAny_in_of (vz ry) hd dd.mapOf ?_
  rw [← (rel.val k).gZ,← l]
  exact h _ (I.tok _)
 ·subst ey
  cases (show u=LM b from ry)
  obtain ⟨z,hd,xs,rel,dd⟩:=vL I.cu e
  refine wpAny_in_heap (OM hu) (pZ I.cu eb) hd dd ?_
  have q:=(rel.val k).gZ
  rw [Qd] at q
  rw [← q,← l]
  exact h _ (I.tok _)
theorem ES (hu:A.units+1<OT) (I:Inv X pins σ H s) (g:ng H a y o) (ry:RelV y u) (h:∀ s',Inv X pins σ H s'→Q (.bool (!o.isSome)) s') :
 Lh (model X.prog X.w) A (Nj .NotIn u (.ref a)) Q E s:=by
 rcases g with ⟨kvs,k,e,ey,l⟩ | ⟨kvs,k,b,e,ey,eb,l⟩
 ·subst ey
  obtain ⟨z,hd,vs,rel,dd⟩:=vM I.cu e
  refine wpAny_notIn_of (vz ry) hd dd.mapOf ?_
  rw [← (rel.val k).gZ,← l]
  exact h _ (I.tok _)
 ·subst ey
  cases (show u=LM b from ry)
  obtain ⟨z,hd,xs,rel,dd⟩:=vL I.cu e
  refine wpAny_notIn_heap (OM hu) (pZ I.cu eb) hd dd ?_
  have q:=(rel.val k).gZ
  rw [Qd] at q
  rw [← q,← l]
  exact h _ (I.tok _)
theorem zf {t':Nat} {ob:HO} (I:Inv X pins σ H s) (mu:IV (H a)) (hs:PH a s.heap h') (he:∃ q,h'.get? a=some q) (new:bQ X.prog X.w (upd H a ob) h' a ob) :
 Inv X pins σ (upd H a ob) { s with heap:=h',toks:=t' } :=
 I.write (x:=a) (e:=a) mu (.inl rfl) (fun b q hb z=>(hs.2 b hb).trans z) he new
theorem Hs {w:L9} {kvs:List (Key×V)} {vs:List (Key×KD)} (z:kvs.length≤KH) (hd:(a==NY)=false) (rel:KV kvs vs) (dd:h'.DictOf (cW P w) a vs) :
 bQ P w H' h' a (.dK kvs):=⟨z,hd,vs,rel,dd⟩
theorem AO {Q:Unit→KJ→Prop} (hu:A.units+1<OT) (I:Inv X pins σ H s) (g:yc H a y v H') (ry:RelV y u) (rv:RelV v r) (h:∀ s',Inv X pins σ H' s'→Q () s') :
 Lh (model X.prog X.w) A (setItem (.ref a) u r) Q E s:=by
 rcases g with ⟨kvs,k,e,ey,l,eH⟩ | ⟨kvs,k,b,e,ey,eb,l,eH⟩
 ·subst ey eH
  obtain ⟨z,hd,vs,rel,dd⟩:=IQ I.cu e
  have hz:vs.length≤KH:=by rw [← rel.length]; exact z
  have hl:(putK kvs k v).length≤KH:=by have:=nM kvs k v; omega
  refine wpAny_setItem_pairs (hsz:=hz) (vz ry) dd fun h' dd' hs=>h _ ?_
  have he:∃ q,h'.get? a=some q:=let ⟨q,_,_,hq,_⟩:=dd'; ⟨q,hq⟩
  exact zf I (by rw [e]; exact Oo) hs he (Hs hl hd (rel.put k rv) dd')
 ·subst ey eH
  cases (show u=LM b from ry)
  obtain ⟨z,hd,xs,rel,dd⟩:=IP I.cu e
  have hz:xs.length≤KH:=by rw [← MT rel]; exact z
  have hl:(putK kvs k v).length≤KH:=by have:=nM kvs k v; omega
  refine wpAny_setItem_heap (hsz:=hz) (OM hu) (pZ I.cu eb) dd fun h' dd' hs=>h _ ?_
  obtain ⟨q,es,ep,hq,h2,h3,h4,_,h5⟩:=dd'
  refine zf I (by rw [e]; exact Oo) hs ⟨q,hq⟩ ⟨hl,hd,_,(rel.put k eb rv).keeps fun c ys ec=>?_,q,es,ep,hq,h2,h3,h4,h5⟩
  rw [av (ID ec e (fun z=>nomatch z))]
  exact ec
end
def IU (i:Mv):Prop:=∀ ov iv,Rj i false ov iv=operate [ov,iv] (Sb ov iv)
theorem DZ {prog:L0} {w:L9} {E:KD→KJ→Prop} {s:KJ} {value slice:Mv} {T:String}
 (hl:typeLookup (.type T) "__getitem__" = pure (some (.builtin id))) (hs:IU slice)
 (h:Lh (model prog w) A (eval value env) (fun o s₁=>Lh (model prog w) A (eval slice env) (fun i s₂=>s₂.TypeIs o T∧Lh (model prog w) A (Sb o i) Q E s₂) E s₁) E s) :
 Lh (model prog w) A (eval (.Subscript value slice pos) env) Q E s:=by
 refine Subscript_ (L7 h (fun o s₁ h₁=>L7 h₁ (fun i s₂ h₂=>?_) fun _ _ x=>x) fun _ _ x=>x)
 obtain ⟨hT,h₂⟩:=h₂
 unfold subscriptTail
 refine KG ?_
 rw [getitemInPython_of_ne hT.not_modules]
 refine KG (wpAny_specialOf hT hl ?_)
 have fin:Lh (model prog w) A (Rj slice false o i) (fun r s₃=>Lh (model prog w) A (letTemporaryGo value o r >>= fun _=>pure r) Q E s₃) E s₂:=by
  rw [hs o i]
  exact wpAny_operating (L7 h₂ (fun r s₃ h₃=>KG (wpAny_letTemporaryGo (Lp h₃))) fun _ _ x=>x)
 first
  | exact Lp (KG fin)
  | exact KG (Lp (KG fin))
  | exact KG fin
theorem vN {pins:List (KI×Nv)} {σ:St} {s:KJ} (I:Inv X pins σ H s) (g:ng H a y o):s.TypeIs (.ref a) "dict" := by
 rcases g with ⟨kvs,k,e,_,_⟩ | ⟨kvs,k,b,e,_,_,_⟩
 ·obtain ⟨_,_,vs,_,dd⟩:=vM I.cu e
  exact dd.typeIs
 ·obtain ⟨_,_,xs,_,dd⟩:=vL I.cu e
  exact dd.typeIs
def Fh (td ty:TE):TE:=fun σ H Q=>td σ H fun x H1=>ty σ H1 fun y H2=>∃ a v,x=.ref a∧ng H2 a y (some v)∧Q v H2
def Jo (ty td:TE):TE:=fun σ H Q=>ty σ H fun y H1=>td σ H1 fun x H2=>∃ a o,x=.ref a∧ng H2 a y o∧Q (.bl o.isSome) H2
def DW (ty td:TE):TE:=fun σ H Q=>ty σ H fun y H1=>td σ H1 fun x H2=>∃ a o,x=.ref a∧ng H2 a y o∧Q (.bl (!o.isSome)) H2
def Ir (td ty tv:TE):TS:=fun D σ H=>tv σ H fun v H1=>td σ H1 fun x H2=>ty σ H2 fun y H3=>∃ a H4,x=.ref a∧yc H3 a y v H4∧D.nx σ H4
section
variable {X:Cx} {o i e value:Mv} {pos pos' tpos:Qq} {td ty tv:TE}
theorem tJ (hu:X.A.units+1<OT) (ho:PE X o td) (hi:PE X i ty) (hs:IU i):PE X (.Subscript o i pos) (Fh td ty):=by
 intro pins s σ H Q I h
 refine DZ PySem.F.slot_dict_getitem.lookup hs (cD (ho pins s σ H _ I h) fun u s1 ⟨x,H1,I1,rx,q1⟩=>cD (hi pins s1 σ H1 _ I1 q1) fun iv s2 ⟨y,H2,I2,ry,a,v,ex,g,q2⟩=>?_)
 subst ex
 obtain rfl:u=LM a:=rx
 exact ⟨vN I2 g,AQ hu I2 g ry fun w' s3 I3 rw'=>⟨v,H2,I3,rw',q2⟩⟩
theorem GK (hu:X.A.units+1<OT) (hi:PE X i ty) (ho:PE X o td):PC X .In i o (Jo ty td):=by
 intro pins s σ H Q I h
 refine cD (hi pins s σ H _ I h) fun iv s1 ⟨y,H1,I1,ry,q1⟩=>cD (ho pins s1 σ H1 _ I1 q1) fun u s2 ⟨x,H2,I2,rx,a,ov,ex,g,q2⟩=>?_
 subst ex
 obtain rfl:u=LM a:=rx
 exact JL hu I2 g ry fun s3 I3=>⟨.bl ov.isSome,H2,I3,rfl,q2⟩
theorem Ab (hu:X.A.units+1<OT) (hi:PE X i ty) (ho:PE X o td):PC X .NotIn i o (DW ty td):=by
 intro pins s σ H Q I h
 refine cD (hi pins s σ H _ I h) fun iv s1 ⟨y,H1,I1,ry,q1⟩=>cD (ho pins s1 σ H1 _ I1 q1) fun u s2 ⟨x,H2,I2,rx,a,ov,ex,g,q2⟩=>?_
 subst ex
 obtain rfl:u=LM a:=rx
 exact ES hu I2 g ry fun s3 I3=>⟨.bl (!ov.isSome),H2,I3,rfl,q2⟩
theorem yL (hu:X.A.units+1<OT) (ho:PE X o td) (hi:PE X i ty) (hv:PE X value tv) (hs:Qt value (some (.Subscript o i pos')) pos.line X.env=pure false) :
 PS X (.Assign [.Subscript o i pos'] value pos) (Ir td ty tv):=by
 intro pins s σ H D I h
 refine wpAny_Assign_Subscript (cD (hv pins s σ H _ I h) fun r s1 ⟨v,H1,I1,rv,q1⟩=>cD (ho pins s1 σ H1 _ I1 q1) fun u s2 ⟨x,H2,I2,rx,q2⟩=>cD (hi pins s2 σ H2 _ I2 q2) fun iv s3 ⟨y,H3,I3,ry,a,H4,ex,g,q3⟩=>?_) hs
 subst ex
 obtain rfl:u=LM a:=rx
 exact AO hu I3 g ry rv fun s4 I4=>⟨σ,H4,I4,q3⟩
end
theorem C3 {w:L9} (h:ME) (hb:NY<h.objs.size):bQ P w H (h.push { cls:=.type "dict", data:=.dict #[] }) h.objs.size (.dK []) :=
 ⟨LL _,beq_eq_false_iff_ne.mpr (MY (Lm hb)),[],.nil,Heap.DictOf.new h⟩
def Ge:TE:=fun _ H Q=>∀ p,H p=none→Q (.ref p) (upd H p (.dK []))
section
variable {X:Cx} {pos:Qq}
theorem vg:PE X (.Dict [] [] pos) Ge:=fun pins s σ H Q I h =>
 wpAny_Dict_empty ⟨.ref s.heap.objs.size,_,I.laid (a:=s.heap.objs.size) (o:=.dK []) (t':=s.toks) (fun _ _ q=>KN _ q) (Lg _) (C3 s.heap I.big),rfl,h _ (I.cu.fresh (Lg _))⟩
end
structure M1 (X:Cx) (o:Mv) (m:LV) (apos:Qq) (e:Mv) (cpos:Qq):Prop where
 base:RP o m X.env (eval o X.env)=eval o X.env
 EH:((OV cpos (Mi [e] X.env)).all (fun x=>!x.1)&&(PX cpos (Oq [] X.env)).all (fun x=>x.1.isSome)
  && decide (([e]:List Mv).length+([]:List P9).length+(if ([]:List P9).isEmpty then 0 else 1)<30))=true
 line:(apos.endLine==cpos.line)=true
 trees:OV cpos (Mi [e] X.env)=[(false,eval e X.env)]
structure M2 (X:Cx) (o:Mv) (m:LV) (apos:Qq) (e f:Mv) (cpos:Qq):Prop where
 base:RP o m X.env (eval o X.env)=eval o X.env
 EH:((OV cpos (Mi [e,f] X.env)).all (fun x=>!x.1)&&(PX cpos (Oq [] X.env)).all (fun x=>x.1.isSome)
  && decide (([e,f]:List Mv).length+([]:List P9).length+(if ([]:List P9).isEmpty then 0 else 1)<30))=true
 line:(apos.endLine==cpos.line)=true
 trees:OV cpos (Mi [e,f] X.env)=[(false,eval e X.env),(false,eval f X.env)]
end L2
namespace Tm
open PySem PyProof.Rows
def d7:Bool→Keyed→Array Keyed→Nat→Nat→Nat→StateT SortSt Sem (Option Nat):=sortPriv% PySem.Builtin.gallop
def pQ:Array Keyed→Array Keyed→StateT SortSt Sem (Array Keyed):=sortPriv% PySem.Builtin.mergeLo
def pR:Array Keyed→Array Keyed→StateT SortSt Sem (Array Keyed):=sortPriv% PySem.Builtin.mergeHi
abbrev setG (st:MW) (g:Nat):MW:=R3 (kindOf st) (LJ st) (Ly st) g (Pm st)
def eW (g:Nat):StateT MW Sem Unit:=modify fun s=>setG s g
theorem xP (left:Bool) (key:Lb) (arr:Array Lb) (base n hint:Nat):d7 left key arr base n hint=(do
 let beyond (i:Nat):StateT MW Sem (Option Bool):=do
  let x ← Ni arr (base+i)
  if left then lt' x key else return (← lt' key x).map (!·)
 let mut lastofs:=0
 let mut ofs:=1
 let mut lo:=0
 let mut hi:=0
 let some right ← beyond hint | return none
 if right then
  let maxofs:=n-hint
  for _ in [0:n] do
   if ofs ≥ maxofs then break
   let some more ← beyond (hint+ofs) | return none
   if !more then break
   lastofs:=ofs
   ofs:=2*ofs+1
  lo:=hint+lastofs+1
  hi:=hint+min ofs maxofs
 else
  let maxofs:=hint+1
  for _ in [0:n] do
   if ofs ≥ maxofs then break
   let some found ← beyond (hint-ofs) | return none
   if found then break
   lastofs:=ofs
   ofs:=2*ofs+1
  lo:=hint+1-min ofs maxofs
  hi:=hint-lastofs
 for _ in [0:n] do
  if lo ≥ hi then break
  let m:=lo+(hi-lo) / 2
  let some more ← beyond m | return none
  if more then lo:=m+1 else hi:=m
 return some hi):=rfl
variable {arr:Array Lb} {x:Lb} {st:MW} {left:Bool} {key:Lb} {Q:Option Nat→MW→Prop} {a:Array Lb}
theorem vo (a b:Array Lb):pQ a b=(do
 rule "list.sort.merge-lo"
 let total:=a.size+b.size
 let done (out:Array Lb) (ia ib:Nat):=out++a.extract ia a.size++b.extract ib b.size
 let lastOfA (out:Array Lb) (ia ib:Nat):=out++b.extract ib b.size++a.extract ia a.size
 let mut out:Array Lb:=#[← Ni b 0]
 let mut ia:=0
 let mut ib:=1
 if ib==b.size then return done out ia ib
 if ia+1==a.size then return lastOfA out ia ib
 let mut minGallop:=S8 (← get)
 for _ in [0:total] do
  let mut acount:=0
  let mut bcount:=0
  for _ in [0:total] do
   let some bWins ← lt' (← Ni b ib) (← Ni a ia) | return done out ia ib
   if bWins then
    out:=out.push (← Ni b ib); ib:=ib+1; bcount:=bcount+1; acount:=0
    if ib==b.size then return done out ia ib
    if bcount ≥ minGallop then break
   else
    out:=out.push (← Ni a ia); ia:=ia+1; acount:=acount+1; bcount:=0
    if ia+1==a.size then return lastOfA out ia ib
    if acount ≥ minGallop then break
  rule "list.sort.gallop"
  minGallop:=minGallop+1
  for _ in [0:total] do
   if minGallop > 1 then minGallop:=minGallop-1
   eW minGallop
   let some k ← d7 false (← Ni b ib) a ia (a.size-ia) 0 | return done out ia ib
   acount:=k
   if k > 0 then
    out:=out++a.extract ia (ia+k); ia:=ia+k
    if ia+1==a.size then return lastOfA out ia ib
    if ia==a.size then return done out ia ib
   out:=out.push (← Ni b ib); ib:=ib+1
   if ib==b.size then return done out ia ib
   let some k ← d7 true (← Ni a ia) b ib (b.size-ib) 0 | return done out ia ib
   bcount:=k
   if k > 0 then
    out:=out++b.extract ib (ib+k); ib:=ib+k
    if ib==b.size then return done out ia ib
   out:=out.push (← Ni a ia); ia:=ia+1
   if ia+1==a.size then return lastOfA out ia ib
   if acount<7&&bcount<7 then break
  minGallop:=minGallop+1
  eW minGallop
 unsupported "internal:list.sort.merge-bound"):=rfl
section
variable {M:RN} {A:L4} {E:KD→KJ→Prop} {s:KJ} {κ:MU} {G:Lb→Prop} {C:Lb→Lb→Bool}
def fG (M:RN) (A:L4) (E:KD→KJ→Prop) (s:KJ) (κ:MU) (G:Lb→Prop) (C:Lb→Lb→Bool):Prop :=
 ∀ {x y:Lb} {Q:Option Bool→MW→Prop} {st:MW},G x→G y→kindOf st=κ→Q (some (C x y)) st→SJ M A E s (lt' x y) Q st
structure Kk (C:Lb→Lb→Bool):Prop where
 as:∀ x y,C x y=true→C y x=false
 tr:∀ x y z,C y x=false→C z y=false→C z x=false
theorem aR {i:Nat} {Q:Lb→MW→Prop} (e:arr[i]?=some x) (h:Q x st):SJ M A E s (Ni arr i) Q st:=by
 rw [elem'_eq,e]
 exact K4 h
def uA (left:Bool) (key:Lb) (C:Lb→Lb→Bool) (x:Lb):Bool:=if left=true then C x key else !(C key x)
theorem wF (hC:fG M A E s κ G C) {i:Nat} {Q:Option Bool→MW→Prop} (hk:kindOf st=κ) (gk:G key) (e:arr[i]?=some x) (gx:G x) (h:Q (some (uA left key C x)) st) :
 SJ M A E s (do let x ← Ni arr i; if left=true then lt' x key else do let r ← lt' key x; pure (r.map (!·))) Q st:=by
 refine KY (aR e ?_)
 unfold uA at h
 cases left with
 | true=>exact hC gx gk hk h
 | false=>exact KY (hC gk gx hk (K4 h))
theorem wC (hC:fG M A E s κ G C) {base n hint:Nat} (hk:kindOf st=κ) (gk:G key) (B:Nat→Bool)
    (hb:∀ i,i<n→∃ x,arr[base+i]?=some x∧G x∧uA left key C x=B i) (mono:∀ i j,i≤j→j<n→B j=true→B i=true) (hh:hint<n)
    (h:∀ k,k≤n→(∀ i,i<k→B i=true)→(∀ i,k≤i→i<n→B i=false)→Q (some k) st):SJ M A E s (d7 left key arr base n hint) Q st:=by
  have ask:∀ (i:Nat) (Q:Option Bool→MW→Prop),i<n→Q (some (B i)) st→SJ M A E s (do let x ← Ni arr (base+i); if left=true then lt' x key else do let r ← lt' key x; pure (r.map (!·))) Q st:=fun i Q hi q=>by
    obtain ⟨x,e,gx,eb⟩:=hb i hi
    exact wF hC hk gk e gx (by rw [eb]; exact q)
  have monoF:∀ i j,i≤j→j<n→B i=false→B j=false:=fun i j hij hj e=>by
    cases q:B j with
    | false=>rfl
    | true=>rw [mono i j hij hj q] at e; cases e
  rw [xP]
  dsimp only
  refine KY (ask hint _ hh ?_)
  dsimp only
  cases hB:B hint with
  | true =>
    rw [if_pos rfl]
    refine KY (Np (Mo (I:=fun x c st'=>st'=st∧∃ la ofs,c=(none,la,ofs)∧x+1≤ofs∧la<ofs∧la<n-hint∧B (hint+la)=true)
      (Q:=fun c st'=>st'=st∧∃ la ofs,c=(none,la,ofs)∧la<ofs∧la<n-hint∧B (hint+la)=true∧(n-hint≤ofs∨(ofs<n-hint∧B (hint+ofs)=false))) ?step ?fin ⟨rfl,0,1,rfl,by omega,by omega,by omega,hB⟩) ?post)
    case fin =>
      rintro c st' ⟨rfl,la,ofs,rfl,a1,a2,a3,a4⟩
      exact ⟨rfl,la,ofs,rfl,a2,a3,a4,.inl (by omega)⟩
    case post =>
      rintro c st' ⟨rfl,la,ofs,rfl,a2,a3,a4,a5⟩
      dsimp only
      have hhi:∀ i,hint+min ofs (n-hint)≤i→i<n→B i=false:=fun i h1 h2=>by
        rcases a5 with a5 | ⟨a5,a6⟩
        · omega
        · exact monoF _ i (by omega) h2 a6
      refine KY (Np (Mo (I:=fun x c st''=>st''=st'∧∃ lo hi,c=(none,lo,hi)∧lo≤hi∧hi≤n∧hi-lo≤n-x∧(∀ i,i<lo→B i=true)∧(∀ i,hi≤i→i<n→B i=false))
        (Q:=fun c st''=>st''=st'∧∃ lo hi,c=(none,lo,hi)∧lo=hi∧hi≤n∧(∀ i,i<lo→B i=true)∧(∀ i,hi≤i→i<n→B i=false)) ?step2 ?fin2 ⟨rfl,hint+la+1,hint+min ofs (n-hint),rfl,by omega,by omega,by omega,fun i hi=>mono i _ (by omega) (by omega) a4,hhi⟩) ?post2)
      case fin2 =>
        rintro c st'' ⟨rfl,lo,hi,rfl,a1,a2,a3,a4,a5⟩
        exact ⟨rfl,lo,hi,rfl,by omega,a2,a4,a5⟩
      case post2 =>
        rintro c st'' ⟨rfl,lo,hi,rfl,rfl,a2,a4,a5⟩
        exact K4 (h lo a2 a4 a5)
      case step2 =>
        rintro x c st'' _ hx ⟨rfl,lo,hi,rfl,a1,a2,a3,a4,a5⟩
        dsimp only
        by_cases c:lo ≥ hi
        · rw [if_pos c]
          exact K4 ⟨rfl,lo,hi,rfl,by omega,a2,a4,a5⟩
        · rw [if_neg c]
          refine KY (ask _ _ (by omega) ?_)
          dsimp only
          cases q:B (lo+(hi-lo) / 2) with
          | true =>
            rw [if_pos rfl]
            exact K4 ⟨rfl,_,_,rfl,by omega,a2,by omega,fun i hi'=>mono i _ (by omega) (by omega) q,a5⟩
          | false =>
            rw [if_neg KU]
            exact K4 ⟨rfl,_,_,rfl,by omega,by omega,by omega,a4,fun i h1 h2=>monoF _ i h1 h2 q⟩
    case step =>
      rintro x c st' _ hx ⟨rfl,la,ofs,rfl,a1,a2,a3,a4⟩
      dsimp only
      by_cases c:ofs ≥ n-hint
      · rw [if_pos c]
        exact K4 ⟨rfl,la,ofs,rfl,a2,a3,a4,.inl c⟩
      · rw [if_neg c]
        refine KY (ask _ _ (by omega) ?_)
        dsimp only
        cases q:B (hint+ofs) with
        | true =>
          rw [if_neg (by decide)]
          exact K4 ⟨rfl,_,_,rfl,by omega,by omega,by omega,q⟩
        | false =>
          rw [if_pos (by decide)]
          exact K4 ⟨rfl,_,_,rfl,a2,a3,a4,.inr ⟨by omega,q⟩⟩
  | false =>
    rw [if_neg KU]
    refine KY (Np (Mo (I:=fun x c st'=>st'=st∧∃ la ofs,c=(none,la,ofs)∧x+1≤ofs∧la<ofs∧la<hint+1∧B (hint-la)=false)
      (Q:=fun c st'=>st'=st∧∃ la ofs,c=(none,la,ofs)∧la<ofs∧la<hint+1∧B (hint-la)=false∧(hint+1≤ofs∨(ofs<hint+1∧B (hint-ofs)=true))) ?step ?fin ⟨rfl,0,1,rfl,by omega,by omega,by omega,hB⟩) ?post)
    case fin =>
      rintro c st' ⟨rfl,la,ofs,rfl,a1,a2,a3,a4⟩
      exact ⟨rfl,la,ofs,rfl,a2,a3,a4,.inl (by omega)⟩
    case post =>
      rintro c st' ⟨rfl,la,ofs,rfl,a2,a3,a4,a5⟩
      dsimp only
      have hlo:∀ i,i<hint+1-min ofs (hint+1)→B i=true:=fun i hi=>by
        rcases a5 with a5 | ⟨a5,a6⟩
        · omega
        · exact mono i _ (by omega) (by omega) a6
      refine KY (Np (Mo (I:=fun x c st''=>st''=st'∧∃ lo hi,c=(none,lo,hi)∧lo≤hi∧hi≤n∧hi-lo≤n-x∧(∀ i,i<lo→B i=true)∧(∀ i,hi≤i→i<n→B i=false))
        (Q:=fun c st''=>st''=st'∧∃ lo hi,c=(none,lo,hi)∧lo=hi∧hi≤n∧(∀ i,i<lo→B i=true)∧(∀ i,hi≤i→i<n→B i=false)) ?step2 ?fin2 ⟨rfl,hint+1-min ofs (hint+1),hint-la,rfl,by omega,by omega,by omega,hlo,fun i h1 h2=>monoF _ i h1 h2 a4⟩) ?post2)
      case fin2 =>
        rintro c st'' ⟨rfl,lo,hi,rfl,a1,a2,a3,a4,a5⟩
        exact ⟨rfl,lo,hi,rfl,by omega,a2,a4,a5⟩
      case post2 =>
        rintro c st'' ⟨rfl,lo,hi,rfl,rfl,a2,a4,a5⟩
        exact K4 (h lo a2 a4 a5)
      case step2 =>
        rintro x c st'' _ hx ⟨rfl,lo,hi,rfl,a1,a2,a3,a4,a5⟩
        dsimp only
        by_cases c:lo ≥ hi
        · rw [if_pos c]
          exact K4 ⟨rfl,lo,hi,rfl,by omega,a2,a4,a5⟩
        · rw [if_neg c]
          refine KY (ask _ _ (by omega) ?_)
          dsimp only
          cases q:B (lo+(hi-lo) / 2) with
          | true =>
            rw [if_pos rfl]
            exact K4 ⟨rfl,_,_,rfl,by omega,a2,by omega,fun i hi'=>mono i _ (by omega) (by omega) q,a5⟩
          | false =>
            rw [if_neg KU]
            exact K4 ⟨rfl,_,_,rfl,by omega,by omega,by omega,a4,fun i h1 h2=>monoF _ i h1 h2 q⟩
    case step =>
      rintro x c st' _ hx ⟨rfl,la,ofs,rfl,a1,a2,a3,a4⟩
      dsimp only
      by_cases c:ofs ≥ hint+1
      · rw [if_pos c]
        exact K4 ⟨rfl,la,ofs,rfl,a2,a3,a4,.inl c⟩
      · rw [if_neg c]
        refine KY (ask _ _ (by omega) ?_)
        dsimp only
        cases q:B (hint-ofs) with
        | true =>
          rw [if_pos rfl]
          exact K4 ⟨rfl,_,_,rfl,a2,a3,a4,.inr ⟨by omega,q⟩⟩
        | false =>
          rw [if_neg KU]
          exact K4 ⟨rfl,_,_,rfl,by omega,by omega,by omega,q⟩
end
section pure
variable {α:Type} {C:α→α→Bool}
structure gP (C:α→α→Bool):Prop where
 as:∀ x y,C x y=true→C y x=false
 tr:∀ x y z,C y x=false→C z y=false→C z x=false
def Le (C:α→α→Bool) (x y:α):Prop:=C y x=false
abbrev rh (C:α→α→Bool) (l:List α):Prop:=l.Pairwise (Le C)
structure ML (C:α→α→Bool) (L out A B:List α):Prop where
 so:rh C out
 oa:∀ x∈out,∀ y∈A,Le C x y
 ob:∀ x∈out,∀ y∈B,Le C x y
 pm:(out++(A++B)).Perm L
 sa:rh C A
 sb:rh C B
theorem ML.len {L out A B:List α} (h:ML C L out A B):out.length+A.length+B.length=L.length:=by
 have:=h.pm.length_eq
 rw [K0,K0] at this
 omega
theorem ML.Df {L out X A B:List α} (h:ML C L out (X++A) B) (hx:∀ x∈X,∀ y∈B,Le C x y):ML C L (out++X) A B:=by
 obtain ⟨s1,s2,s3⟩:=K8.mp h.sa
 refine ⟨K8.mpr ⟨h.so,s1,fun x hx y hy=>h.oa x hx y (K3 _ hy)⟩,fun x hx' y hy=>?_,fun x hx' y hy=>?_,?_,s2,h.sb⟩
 ·rcases KS.mp hx' with z | z
  ·exact h.oa x z y (KA _ hy)
  ·exact s3 x z y hy
 ·rcases KS.mp hx' with z | z
  ·exact h.ob x z y hy
  ·exact hx x z y hy
 ·have:=h.pm
  rw [Lx] at this
  rw [Lx]
  exact this
theorem ML.EV {L out X A B:List α} (h:ML C L out A (X++B)) (hx:∀ x∈X,∀ y∈A,Le C x y):ML C L (out++X) A B:=by
 obtain ⟨s1,s2,s3⟩:=K8.mp h.sb
 refine ⟨K8.mpr ⟨h.so,s1,fun x hx y hy=>h.ob x hx y (K3 _ hy)⟩,fun x hx' y hy=>?_,fun x hx' y hy=>?_,?_,h.sa,s2⟩
 ·rcases KS.mp hx' with z | z
  ·exact h.oa x z y hy
  ·exact hx x z y hy
 ·rcases KS.mp hx' with z | z
  ·exact h.ob x z y (KA _ hy)
  ·exact s3 x z y hy
 ·refine Q2 ?_ h.pm
  rw [Lx]
  refine Nz out ?_
  rw [← Lx,← Lx]
  exact OZ _ Of
def Done (C:α→α→Bool) (L r:List α):Prop:=rh C r∧r.Perm L
theorem ML.JK {L out A B:List α} (h:ML C L out A B) (hB:B=[]):Done C L (out++A++B):=by
 subst hB
 rw [Mb]
 refine ⟨K8.mpr ⟨h.so,h.sa,h.oa⟩,?_⟩
 have:=h.pm
 rw [Mb] at this
 exact this
theorem ML.JJ {L out A B:List α} (h:ML C L out A B) (hA:A=[]):Done C L (out++A++B):=by
 subst hA
 rw [Mb]
 exact ⟨K8.mpr ⟨h.so,h.sb,h.ob⟩,h.pm⟩
theorem ML.JI {L out A B:List α} (h:ML C L out A B) (hl:∀ y∈B,∀ x∈A,Le C y x):Done C L (out++B++A):=by
 refine ⟨K8.mpr ⟨K8.mpr ⟨h.so,h.sb,h.ob⟩,h.sa,fun x hx y hy=>?_⟩,?_⟩
 ·rcases KS.mp hx with z | z
  ·exact h.oa x z y hy
  ·exact hl x z y hy
 ·refine Q2 ?_ h.pm
  rw [Lx]
  exact Nz out Of
theorem le_of_lt (o:gP C) {x y:α} (h:C x y=true):Le C x y:=o.as x y h
theorem le_head (o:gP C) {x y:α} {l:List α} (h:Le C x y) (s:rh C (y::l)):∀ z∈y::l,Le C x z:=fun z hz=>by
 rcases KP.mp hz with rfl | hz
 ·exact h
 ·exact o.tr x y z h ((Mz.mp s).1 z hz)
end pure
section
variable {C:Lb→Lb→Bool}
theorem le_refl (o:gP C) (x:Lb):Le C x x:=by
 unfold Le
 cases h:C x x with
 | false=>rfl
 | true=>rw [o.as x x h] at h; cases h
theorem sY (o:gP C) {l:List Lb} (s:rh C l) {i j:Nat} {y:Lb} (hij:i≤j) (hx:l[i]?=some x) (hy:l[j]?=some y):Le C x y:=by
 by_cases c:i=j
 ·subst c
  rw [hx] at hy
  cases hy
  exact le_refl o x
 ·obtain ⟨hi,rfl⟩:=Lj.mp hx
  obtain ⟨hj,rfl⟩:=Lj.mp hy
  exact OD.mp s i j hi hj (by omega)
theorem Dm (o:gP C) {y:Lb} (h:Le C x y) (e:uA left key C y=true):uA left key C x=true:=by
 unfold uA at *
 cases left with
 | true =>
  rw [if_pos rfl] at *
  cases q:C x key with
  | true=>rfl
  | false =>
   have:C y key=false:=o.tr key x y q h
   rw [this] at e; cases e
 | false =>
  rw [if_neg KU] at *
  have e:C key y=false:=by simpa using e
  have:C key x=false:=o.tr x y key h e
  rw [this]; rfl
variable {M:RN} {A:L4} {E:KD→KJ→Prop} {s:KJ} {κ:MU} {G:Lb→Prop}
theorem fY (hC:fG M A E s κ G C) (o:gP C) {base n hint:Nat} {seg:List Lb} (hk:kindOf st=κ) (gk:G key) (hs:seg=(arr.toList.drop base).take n) (hl:seg.length=n) (sr:rh C seg) (gs:∀ x∈seg,G x) (hh:hint<n)
 (h:∀ k,k≤n→(∀ x∈seg.take k,uA left key C x=true)→(∀ x∈seg.drop k,uA left key C x=false)→Q (some k) st):SJ M A E s (d7 left key arr base n hint) Q st:=by
 have at_:∀ i,i<n→∃ x,seg[i]?=some x∧arr[base+i]?=some x:=fun i hi=>by
  have e:seg[i]?=some seg[i]:=Kv (by omega)
  refine ⟨seg[i],e,?_⟩
  rw [← e,hs,NI hi,N7,Ms]
 refine wC hC hk gk (fun i=>match seg[i]? with | some x=>uA left key C x | none=>false) (fun i hi=>?_) (fun i j hij hj e=>?_) hh fun k hk2 h1 h2=>h k hk2 (fun x hx=>?_) fun x hx=>?_
 ·obtain ⟨x,e1,e2⟩:=at_ i hi
  exact ⟨x,e2,gs x (LI e1),by rw [e1]⟩
 ·obtain ⟨x,e1,_⟩:=at_ i (by omega)
  obtain ⟨y,e2,_⟩:=at_ j hj
  rw [e1]
  rw [e2] at e
  exact Dm o (sY o sr hij e1 e2) e
 ·obtain ⟨i,hi⟩:=Mp hx
  have hlt:=(Lj.mp hi).1
  rw [Mj] at hlt
  rw [NI (by omega)] at hi
  have:=h1 i (by omega)
  rw [hi] at this
  exact this
 ·obtain ⟨i,hi⟩:=Mp hx
  have hlt:=(Lj.mp hi).1
  rw [LW] at hlt
  rw [N7] at hi
  have:=h2 (k+i) (by omega) (by omega)
  rw [hi] at this
  exact this
theorem ext_toList (a:Array Lb) (i j:Nat):(a.extract i j).toList=(a.toList.drop i).take (j-i):=by
 rw [Array.toList_extract,List.extract_eq_take_drop]
theorem oJ (a:Array Lb) (i:Nat):(a.extract i a.size).toList=a.toList.drop i:=by
 rw [ext_toList,Mn (by rw [LW,KR]; exact Lg _)]
theorem dM {i:Nat} (h:i<a.size):a.toList.drop i=a[i]::a.toList.drop (i+1):=by
 rw [Lq (by rw [KR]; exact h),Array.getElem_toList]
theorem qu (l:List Lb) (i k:Nat):l.drop i=(l.drop i).take k++l.drop (i+k):=by
 rw [← M5,LS]
structure MA (C:Lb→Lb→Bool) (a b out:Array Lb) (ia ib:Nat):Prop where
 ml:ML C (a.toList++b.toList) out.toList (a.toList.drop ia) (b.toList.drop ib)
 la:ia≤a.size
 lb:ib≤b.size
theorem MA.len {a b out:Array Lb} {ia ib:Nat} (h:MA C a b out ia ib):out.size+(a.size-ia)+(b.size-ib)=a.size+b.size:=by
 have:=h.ml.len
 rw [LW,LW,K0,KR,KR,KR] at this
 exact this
theorem MA.rO {b out:Array Lb} {ia ib:Nat} (h:MA C a b out ia ib) (hi:ia<a.size) (hx:∀ y∈b.toList.drop ib,Le C a[ia] y):MA C a b (out.push a[ia]) (ia+1) ib:=by
 refine ⟨?_,by omega,h.lb⟩
 rw [NG]
 have m:=h.ml
 rw [dM hi] at m
 exact ML.Df (X:=[a[ia]]) m fun x hx'=>by rw [Kz.mp hx']; exact hx
theorem MA.rN {b out:Array Lb} {ia ib:Nat} (h:MA C a b out ia ib) (hi:ib<b.size) (hx:∀ y∈a.toList.drop ia,Le C b[ib] y):MA C a b (out.push b[ib]) ia (ib+1):=by
 refine ⟨?_,h.la,by omega⟩
 rw [NG]
 have m:=h.ml
 rw [dM hi] at m
 exact ML.EV (X:=[b[ib]]) m fun x hx'=>by rw [Kz.mp hx']; exact hx
theorem MA.Df {a b out:Array Lb} {ia ib k:Nat} (h:MA C a b out ia ib) (hk:k≤a.size-ia) (hx:∀ x∈(a.toList.drop ia).take k,∀ y∈b.toList.drop ib,Le C x y):MA C a b (out++a.extract ia (ia+k)) (ia+k) ib:=by
 have:=h.la
 refine ⟨?_,by omega,h.lb⟩
 rw [LZ,ext_toList,show ia+k-ia=k by omega]
 have m:=h.ml
 rw [qu a.toList ia k] at m
 exact ML.Df m hx
theorem MA.EV {a b out:Array Lb} {ia ib k:Nat} (h:MA C a b out ia ib) (hk:k≤b.size-ib) (hx:∀ x∈(b.toList.drop ib).take k,∀ y∈a.toList.drop ia,Le C x y):MA C a b (out++b.extract ib (ib+k)) ia (ib+k):=by
 have:=h.lb
 refine ⟨?_,h.la,by omega⟩
 rw [LZ,ext_toList,show ib+k-ib=k by omega]
 have m:=h.ml
 rw [qu b.toList ib k] at m
 exact ML.EV m hx
abbrev Dn (C:Lb→Lb→Bool) (a b r:Array Lb):Prop:=Done C (a.toList++b.toList) r.toList
theorem MA.done {b out:Array Lb} {ia ib:Nat} (h:MA C a b out ia ib) (e:ia=a.size∨ib=b.size):Dn C a b (out++a.extract ia a.size++b.extract ib b.size):=by
 unfold Dn
 rw [LZ,LZ,oJ,oJ]
 rcases e with e | e
 ·exact h.ml.JJ (N8 (by rw [KR]; omega))
 ·exact h.ml.JK (N8 (by rw [KR]; omega))
theorem MA.last {b out:Array Lb} {ia ib:Nat} (h:MA C a b out ia ib) (e:ia+1=a.size) (hl:∀ y∈b.toList,∀ x∈a.toList.drop (a.size-1),Le C y x):Dn C a b (out++b.extract ib b.size++a.extract ia a.size):=by
 unfold Dn
 rw [LZ,LZ,oJ,oJ]
 exact h.ml.JI fun y hy x hx=>hl y (MJ hy) x (by rw [show a.size-1=ia by omega]; exact hx)
end
end Tm
set_option pp.maxSteps 1000000
set_option pp.deepTerms true
namespace Tm
variable {a:Array Lb} {st:MW}
open PySem PyProof.Rows
section
variable {M:RN} {A:L4} {E:KD→KJ→Prop} {s:KJ} {κ:MU} {G:Lb→Prop} {C:Lb→Lb→Bool}
abbrev S5:=Option (Array Lb)×Array Lb×Nat×Nat×Nat
abbrev S6:=Option (Array Lb)×Array Lb×Nat×Nat×Nat×Nat
abbrev S7:=Option (Array Lb)×Array Lb×Nat×Nat×Nat×Nat×Nat
structure HU (G:Lb→Prop) (C:Lb→Lb→Bool) (a b:Array Lb):Prop where
 ga:∀ x∈a.toList,G x
 gb:∀ x∈b.toList,G x
 sa:rh C a.toList
 sb:rh C b.toList
 fst:∀ (h:0<b.size),∀ x∈a.toList,Le C b[0] x
 lst:∀ y∈b.toList,∀ x∈a.toList.drop (a.size-1),Le C y x
theorem yT {b:Array Lb} (t:HU G C a b) {out:Array Lb} {ia ib mg k k1:Nat} (m:MA C a b out ia ib) (h1:ia+1<a.size) (h2:ib<b.size) (hx:∀ y∈b.toList.drop ib,Le C (a[ia]'(by omega)) y) {R:ForInStep S7→MW→Prop}
 (ret:∀ r out ia ib mg ac bc,Dn C a b r→R (.done (some r,out,ia,ib,mg,ac,bc)) st)
 (brk:∀ out' ia ib mg ac bc,MA C a b out' ia ib→ia+1<a.size→ib<b.size→out.size≤out'.size→R (.done (none,out',ia,ib,mg,ac,bc)) st)
 (ye:∀ out' ia ib mg ac bc,MA C a b out' ia ib→ia+1<a.size→ib<b.size→out.size≤out'.size→R (.yield (none,out',ia,ib,mg,ac,bc)) st) :
 SJ M A E s (do
  let x2 ← Ni a ia
  if (ia+1+1==a.size)=true then pure (LQ (some (out.push x2++b.extract ib b.size++a.extract (ia+1) a.size),out.push x2,ia+1,ib,mg,k,k1))
  else if (decide (k<7)&&decide (k1<7))=true then pure (LQ (none,out.push x2,ia+1,ib,mg,k,k1))
  else pure (LN (none,out.push x2,ia+1,ib,mg,k,k1))) R st:=by
 refine KY (aR (x:=a[ia]'(by omega)) (K9 (by omega)) ?_)
 have m':=m.rO (by omega) hx
 have hsz:(out.push (a[ia]'(by omega))).size=out.size+1:=MV _
 by_cases q1:(ia+1+1==a.size)=true
 ·rw [if_pos q1]
  exact K4 (ret _ _ _ _ _ _ _ (m'.last (by simpa using q1) t.lst))
 ·rw [if_neg q1]
  have q1:ia+1+1<a.size:=by simp at q1; omega
  by_cases q2:(decide (k<7)&&decide (k1<7))=true
  ·rw [if_pos q2]
   exact K4 (brk _ _ _ _ _ _ m' q1 h2 (by omega))
  ·rw [if_neg q2]
   exact K4 (ye _ _ _ _ _ _ m' q1 h2 (by omega))
theorem oG (hC:fG M A E s κ G C) (o:gP C) {b:Array Keyed} (t:HU G C a b) {out:Array Keyed} {ia ib mg k bc:Nat} (hk:kindOf st=κ) (m:MA C a b out ia ib) (h1:ia+1<a.size) (h2:ib<b.size) (hx:∀ x∈a.toList.drop ia,Le C (b[ib]'h2) x) {R:ForInStep S7→SortSt→Prop}
    (ret:∀ r out ia ib mg ac bc,Dn C a b r→R (.done (some r,out,ia,ib,mg,ac,bc)) st)
    (brk:∀ out' ia ib mg ac bc,MA C a b out' ia ib→ia+1<a.size→ib<b.size→out.size≤out'.size→R (.done (none,out',ia,ib,mg,ac,bc)) st)
    (ye:∀ out' ia ib mg ac bc,MA C a b out' ia ib→ia+1<a.size→ib<b.size→out.size≤out'.size→R (.yield (none,out',ia,ib,mg,ac,bc)) st) :
    SJ M A E s (do
      let y ← Ni b ib
      if (ib+1==b.size)=true then pure (LQ (some (out.push y++a.extract ia a.size++b.extract (ib+1) b.size),out.push y,ia,ib+1,mg,k,bc))
      else do
        let x ← Ni a ia
        let __x ← d7 true x b (ib+1) (b.size-(ib+1)) 0
        match __x with
        | some k1 =>
          if k1 > 0 then
            if (ib+1+k1==b.size)=true then pure (LQ (some (out.push y++b.extract (ib+1) (ib+1+k1)++a.extract ia a.size++b.extract (ib+1+k1) b.size),out.push y++b.extract (ib+1) (ib+1+k1),ia,ib+1+k1,mg,k,k1))
            else do
              let x2 ← Ni a ia
              if (ia+1+1==a.size)=true then pure (LQ (some ((out.push y++b.extract (ib+1) (ib+1+k1)).push x2++b.extract (ib+1+k1) b.size++a.extract (ia+1) a.size),(out.push y++b.extract (ib+1) (ib+1+k1)).push x2,ia+1,ib+1+k1,mg,k,k1))
              else if (decide (k<7)&&decide (k1<7))=true then pure (LQ (none,(out.push y++b.extract (ib+1) (ib+1+k1)).push x2,ia+1,ib+1+k1,mg,k,k1))
              else pure (LN (none,(out.push y++b.extract (ib+1) (ib+1+k1)).push x2,ia+1,ib+1+k1,mg,k,k1))
          else do
            let x2 ← Ni a ia
            if (ia+1+1==a.size)=true then pure (LQ (some ((out.push y).push x2++b.extract (ib+1) b.size++a.extract (ia+1) a.size),(out.push y).push x2,ia+1,ib+1,mg,k,k1))
            else if (decide (k<7)&&decide (k1<7))=true then pure (LQ (none,(out.push y).push x2,ia+1,ib+1,mg,k,k1))
            else pure (LN (none,(out.push y).push x2,ia+1,ib+1,mg,k,k1))
        | _=>pure (LQ (some (out.push y++a.extract ia a.size++b.extract (ib+1) b.size),out.push y,ia,ib+1,mg,k,bc))) R st:=by
  refine KY (aR (x:=b[ib]) (K9 h2) ?_)
  have m':=m.rN h2 hx
  have hsz:(out.push b[ib]).size=out.size+1:=MV _
  by_cases q1:(ib+1==b.size)=true
  · rw [if_pos q1]
    exact K4 (ret _ _ _ _ _ _ _ (m'.done (.inr (by simpa using q1))))
  rw [if_neg q1]
  have q1:ib+1<b.size:=by simp at q1; omega
  have hia:ia<a.size:=by omega
  refine KY (aR (x:=a[ia]) (K9 hia) ?_)
  have mema:a[ia]∈a.toList:=by simp
  have sb':=m'.ml.sb
  refine KY (fY hC o (seg:=b.toList.drop (ib+1)) hk (t.ga _ mema) ?_ (by rw [LW,KR]) sb' (fun x hx=>t.gb x (MJ hx)) (by omega) fun k1 hk1 b1 b2=>?_)
  · rw [Mn (by rw [LW,KR]; exact Lg _)]
  have b1:∀ y∈(b.toList.drop (ib+1)).take k1,C y a[ia]=true:=b1
  have b2:∀ y∈b.toList.drop (ib+1+k1),Le C a[ia] y:=fun y hy=>b2 y (by rw [M5]; exact hy)
  dsimp only
  have sda:=m'.ml.sa
  rw [dM hia] at sda
  by_cases q2:k1 > 0
  · rw [if_pos q2]
    have m2:=m'.EV (k:=k1) (by omega) fun y hy x hx=>by
      rw [dM hia] at hx
      exact le_head o (le_of_lt o (b1 y hy)) sda x hx
    by_cases q3:(ib+1+k1==b.size)=true
    · rw [if_pos q3]
      exact K4 (ret _ _ _ _ _ _ _ (m2.done (.inr (by simpa using q3))))
    · rw [if_neg q3]
      have q3:ib+1+k1<b.size:=by simp at q3; omega
      have hs2:out.size≤(out.push b[ib]++b.extract (ib+1) (ib+1+k1)).size:=by rw [NH]; omega
      exact yT t m2 h1 q3 b2 ret (fun o' i j g x y z1 z2 z3 z4=>brk o' i j g x y z1 z2 z3 (by omega)) fun o' i j g x y z1 z2 z3 z4=>ye o' i j g x y z1 z2 z3 (by omega)
  · rw [if_neg q2]
    have e0:k1=0:=by omega
    exact yT t m' h1 q1 (by rw [e0] at b2; exact b2) ret (fun o' i j g x y z1 z2 z3 z4=>brk o' i j g x y z1 z2 z3 (by omega)) fun o' i j g x y z1 z2 z3 z4=>ye o' i j g x y z1 z2 z3 (by omega)
theorem uI (hC:fG M A E s κ G C) (o:gP C) {b:Array Keyed} (t:HU G C a b) {Q:Array Keyed→SortSt→Prop} (hk:kindOf st=κ) (ha:0<a.size) (hb:0<b.size)
    (h:∀ r g,Dn C a b r→Q r (setG st g)) :
    SJ M A E s (pQ a b) Q st:=by
  rw [vo]
  refine KY (Qv (N4 ⟨rfl,?_⟩))
  dsimp only
  refine KY (aR (x:=b[0]) (K9 hb) ?_)
  have m0:MA C a b #[b[0]] 0 1:=by
    have:MA C a b #[] 0 0:=⟨⟨Qe,fun x hx=>(by cases hx),fun x hx=>(by cases hx),P0 _,t.sa,t.sb⟩,LL _,LL _⟩
    exact this.rN hb (t.fst hb)
  have hst:st=setG st (S8 st):=rfl
  by_cases c1:(1==b.size)=true
  · rw [if_pos c1]
    rw [hst]
    exact K4 (h _ _ (m0.done (.inr (by simpa using c1))))
  rw [if_neg c1]
  by_cases c2:(0+1==a.size)=true
  · rw [if_pos c2]
    rw [hst]
    exact K4 (h _ _ (m0.last (by simpa using c2) t.lst))
  rw [if_neg c2]
  have c1:1<b.size:=by simp at c1; omega
  have c2:0+1<a.size:=by simp at c2; omega
  refine KY (O0 ?_)
  refine KY (Np (Mo
    (I:=fun x (c:S5) st'=>(∃ g,st'=setG st g)∧∃ out ia ib mg,c=(none,out,ia,ib,mg)∧MA C a b out ia ib∧ia+1<a.size∧ib<b.size∧x+1≤out.size)
    (Q:=fun (c:S5) st'=>(∃ g,st'=setG st g)∧∃ r out ia ib mg,c=(some r,out,ia,ib,mg)∧Dn C a b r) ?step ?fin ⟨⟨_,hst⟩,_,_,_,_,rfl,m0,c2,c1,Lg _⟩) ?post)
  case fin =>
    rintro c st' ⟨_,out,ia,ib,mg,rfl,m,h1,h2,h3⟩
    have:=m.len
    omega
  case post =>
    rintro c st' ⟨⟨g,rfl⟩,r,out,ia,ib,mg,rfl,d⟩
    exact K4 (h _ _ d)
  case step =>
    rintro x c st' _ hx ⟨⟨g,rfl⟩,out,ia,ib,mg,rfl,m,h1,h2,h3⟩
    dsimp only
    refine KY (Np (Mo
      (I:=fun y (c:S6) st'=>st'=setG st g∧∃ out' ia ib ac bc,c=(none,out',ia,ib,ac,bc)∧MA C a b out' ia ib∧ia+1<a.size∧ib<b.size∧out.size+y≤out'.size)
      (Q:=fun (c:S6) st'=>st'=setG st g∧((∃ r out ia ib ac bc,c=(some r,out,ia,ib,ac,bc)∧Dn C a b r)∨∃ out' ia ib ac bc,c=(none,out',ia,ib,ac,bc)∧MA C a b out' ia ib∧ia+1<a.size∧ib<b.size∧out.size+1≤out'.size))
      ?step1 ?fin1 ⟨rfl,_,_,_,_,_,rfl,m,h1,h2,Lg _⟩) ?post1)
    case fin1 =>
      rintro c st' ⟨rfl,out',ia,ib,ac,bc,rfl,m,h1,h2,h3⟩
      exact ⟨rfl,.inr ⟨out',ia,ib,ac,bc,rfl,m,h1,h2,by omega⟩⟩
    case step1 =>
      rintro y c st' _ hy ⟨rfl,out',ia,ib,ac,bc,rfl,m,h1,h2,h3⟩
      dsimp only
      have ea:a[ia]?=some a[ia]:=K9 (by omega)
      have eb:b[ib]?=some b[ib]:=K9 (by omega)
      have mema:a[ia]∈a.toList:=by simp
      have memb:b[ib]∈b.toList:=by simp
      refine KY (aR eb (KY (aR ea (KY (hC (t.gb _ memb) (t.ga _ mema) hk ?_)))))
      dsimp only
      have sda:=m.ml.sa
      have sdb:=m.ml.sb
      rw [dM (by omega)] at sda sdb
      cases w:C b[ib] a[ia] with
      | true =>
        rw [if_pos rfl]
        refine KY (aR eb ?_)
        have m':=m.rN h2 (by rw [dM (show ia<a.size by omega)]; exact le_head o (le_of_lt o w) sda)
        have hsz:(out'.push b[ib]).size=out'.size+1:=MV _
        by_cases q1:(ib+1==b.size)=true
        · rw [if_pos q1]
          exact K4 ⟨rfl,.inl ⟨_,_,_,_,_,_,rfl,m'.done (.inr (by simpa using q1))⟩⟩
        · rw [if_neg q1]
          have q1:ib+1<b.size:=by simp at q1; omega
          by_cases q2:bc+1 ≥ mg
          · rw [if_pos q2]
            exact K4 ⟨rfl,.inr ⟨_,_,_,_,_,rfl,m',h1,q1,by omega⟩⟩
          · rw [if_neg q2]
            exact K4 ⟨rfl,_,_,_,_,_,rfl,m',h1,q1,by omega⟩
      | false =>
        rw [if_neg KU]
        refine KY (aR ea ?_)
        have m':=m.rO (by omega) (by rw [dM h2]; exact le_head o w sdb)
        have hsz:(out'.push a[ia]).size=out'.size+1:=MV _
        by_cases q1:(ia+1+1==a.size)=true
        · rw [if_pos q1]
          exact K4 ⟨rfl,.inl ⟨_,_,_,_,_,_,rfl,m'.last (by simpa using q1) t.lst⟩⟩
        · rw [if_neg q1]
          have q1:ia+1+1<a.size:=by simp at q1; omega
          by_cases q2:ac+1 ≥ mg
          · rw [if_pos q2]
            exact K4 ⟨rfl,.inr ⟨_,_,_,_,_,rfl,m',q1,h2,by omega⟩⟩
          · rw [if_neg q2]
            exact K4 ⟨rfl,_,_,_,_,_,rfl,m',q1,h2,by omega⟩
    case post1 =>
      rintro c st' ⟨rfl,⟨r,out',ia,ib,ac,bc,rfl,d⟩ | ⟨out',ia,ib,ac,bc,rfl,m,h1,h2,h4⟩⟩
      · exact K4 ⟨⟨g,rfl⟩,_,_,_,_,_,rfl,d⟩
      dsimp only
      refine KY (Qv (N4 ⟨rfl,?_⟩))
      refine KY (Np (Mo
        (I:=fun y (c:S7) st'=>(∃ g,st'=setG st g)∧∃ out'' ia ib mg ac bc,c=(none,out'',ia,ib,mg,ac,bc)∧MA C a b out'' ia ib∧ia+1<a.size∧ib<b.size∧out'.size≤out''.size)
        (Q:=fun (c:S7) st'=>(∃ g,st'=setG st g)∧((∃ r out ia ib mg ac bc,c=(some r,out,ia,ib,mg,ac,bc)∧Dn C a b r)∨∃ out'' ia ib mg ac bc,c=(none,out'',ia,ib,mg,ac,bc)∧MA C a b out'' ia ib∧ia+1<a.size∧ib<b.size∧out'.size≤out''.size))
        ?step2 ?fin2 ⟨⟨g,rfl⟩,_,_,_,_,_,_,rfl,m,h1,h2,Lg _⟩) ?post2)
      case fin2 =>
        rintro c st' ⟨hg,out'',ia,ib,mg,ac,bc,rfl,m,h1,h2,h3⟩
        exact ⟨hg,.inr ⟨_,_,_,_,_,_,rfl,m,h1,h2,h3⟩⟩
      case post2 =>
        rintro c st' ⟨⟨g2,rfl⟩,⟨r,out'',ia,ib,mg,ac,bc,rfl,d⟩ | ⟨out'',ia,ib,mg,ac,bc,rfl,m,h1,h2,h5⟩⟩
        · exact K4 ⟨⟨g2,rfl⟩,_,_,_,_,_,rfl,d⟩
        · exact KY (M6 (K4 ⟨⟨_,rfl⟩,_,_,_,_,rfl,m,h1,h2,(show x+1+1≤out''.size by omega)⟩))
      case step2 =>
        rintro y c st' _ hy ⟨⟨g2,rfl⟩,out'',ia,ib,mg,ac,bc,rfl,m,h1,h2,h3⟩
        dsimp only
        by_cases hm:mg > 1
        · rw [if_pos hm]
          refine KY (M6 ?_)
          have hkk:kindOf (setG (setG st g2) (mg-1))=κ:=hk
          have memb:b[ib]∈b.toList:=by simp
          refine KY (aR (x:=b[ib]) (K9 h2) ?_)
          refine KY (fY hC o (seg:=a.toList.drop ia) hkk (t.gb _ memb) (by rw [Mn (by rw [LW,KR]; exact Lg _)]) (by rw [LW,KR]) m.ml.sa (fun x hx=>t.ga x (MJ hx)) (by omega) fun k hk1 b1 b2=>?_)
          have sdb:=m.ml.sb
          rw [dM h2] at sdb
          have b1:∀ x∈(a.toList.drop ia).take k,∀ y∈b.toList.drop ib,Le C x y:=fun x hx y hy=>by
            have:=b1 x hx
            unfold uA at this
            rw [dM h2] at hy
            exact le_head o (show Le C x b[ib] by unfold Le; simpa using this) sdb y hy
          have b2:∀ x∈a.toList.drop (ia+k),Le C b[ib] x:=fun x hx=>by
            have:=b2 x (by rw [M5]; exact hx)
            unfold uA at this
            exact le_of_lt o (by simpa using this)
          dsimp only
          by_cases q0:k > 0
          · rw [if_pos q0]
            have m2:=m.Df hk1 b1
            have hs2:out''.size≤(out''++a.extract ia (ia+k)).size:=by rw [NH]; omega
            by_cases q1:(ia+k+1==a.size)=true
            · rw [if_pos q1]
              exact K4 ⟨⟨_,rfl⟩,.inl ⟨_,_,_,_,_,_,_,rfl,m2.last (by simpa using q1) t.lst⟩⟩
            rw [if_neg q1]
            by_cases q2:(ia+k==a.size)=true
            · rw [if_pos q2]
              exact K4 ⟨⟨_,rfl⟩,.inl ⟨_,_,_,_,_,_,_,rfl,m2.done (.inl (by simpa using q2))⟩⟩
            rw [if_neg q2]
            have q3:ia+k+1<a.size:=by simp at q1 q2; have:=m2.la; omega
            exact oG hC o t hkk m2 q3 h2 b2 (fun r out ia ib mg ac bc d=>⟨⟨_,rfl⟩,.inl ⟨_,_,_,_,_,_,_,rfl,d⟩⟩) (fun o' i j g x y z1 z2 z3 z4=>⟨⟨_,rfl⟩,.inr ⟨_,_,_,_,_,_,rfl,z1,z2,z3,by omega⟩⟩) fun o' i j g x y z1 z2 z3 z4=>⟨⟨_,rfl⟩,_,_,_,_,_,_,rfl,z1,z2,z3,by omega⟩
          · rw [if_neg q0]
            have e0:k=0:=by omega
            exact oG hC o t hkk m h1 h2 (by rw [e0] at b2; exact b2) (fun r out ia ib mg ac bc d=>⟨⟨_,rfl⟩,.inl ⟨_,_,_,_,_,_,_,rfl,d⟩⟩) (fun o' i j g x y z1 z2 z3 z4=>⟨⟨_,rfl⟩,.inr ⟨_,_,_,_,_,_,rfl,z1,z2,z3,by omega⟩⟩) fun o' i j g x y z1 z2 z3 z4=>⟨⟨_,rfl⟩,_,_,_,_,_,_,rfl,z1,z2,z3,by omega⟩
        · rw [if_neg hm]
          refine KY (M6 ?_)
          have hkk:kindOf (setG (setG st g2) mg)=κ:=hk
          have memb:b[ib]∈b.toList:=by simp
          refine KY (aR (x:=b[ib]) (K9 h2) ?_)
          refine KY (fY hC o (seg:=a.toList.drop ia) hkk (t.gb _ memb) (by rw [Mn (by rw [LW,KR]; exact Lg _)]) (by rw [LW,KR]) m.ml.sa (fun x hx=>t.ga x (MJ hx)) (by omega) fun k hk1 b1 b2=>?_)
          have sdb:=m.ml.sb
          rw [dM h2] at sdb
          have b1:∀ x∈(a.toList.drop ia).take k,∀ y∈b.toList.drop ib,Le C x y:=fun x hx y hy=>by
            have:=b1 x hx
            unfold uA at this
            rw [dM h2] at hy
            exact le_head o (show Le C x b[ib] by unfold Le; simpa using this) sdb y hy
          have b2:∀ x∈a.toList.drop (ia+k),Le C b[ib] x:=fun x hx=>by
            have:=b2 x (by rw [M5]; exact hx)
            unfold uA at this
            exact le_of_lt o (by simpa using this)
          dsimp only
          by_cases q0:k > 0
          · rw [if_pos q0]
            have m2:=m.Df hk1 b1
            have hs2:out''.size≤(out''++a.extract ia (ia+k)).size:=by rw [NH]; omega
            by_cases q1:(ia+k+1==a.size)=true
            · rw [if_pos q1]
              exact K4 ⟨⟨_,rfl⟩,.inl ⟨_,_,_,_,_,_,_,rfl,m2.last (by simpa using q1) t.lst⟩⟩
            rw [if_neg q1]
            by_cases q2:(ia+k==a.size)=true
            · rw [if_pos q2]
              exact K4 ⟨⟨_,rfl⟩,.inl ⟨_,_,_,_,_,_,_,rfl,m2.done (.inl (by simpa using q2))⟩⟩
            rw [if_neg q2]
            have q3:ia+k+1<a.size:=by simp at q1 q2; have:=m2.la; omega
            exact oG hC o t hkk m2 q3 h2 b2 (fun r out ia ib mg ac bc d=>⟨⟨_,rfl⟩,.inl ⟨_,_,_,_,_,_,_,rfl,d⟩⟩) (fun o' i j g x y z1 z2 z3 z4=>⟨⟨_,rfl⟩,.inr ⟨_,_,_,_,_,_,rfl,z1,z2,z3,by omega⟩⟩) fun o' i j g x y z1 z2 z3 z4=>⟨⟨_,rfl⟩,_,_,_,_,_,_,rfl,z1,z2,z3,by omega⟩
          · rw [if_neg q0]
            have e0:k=0:=by omega
            exact oG hC o t hkk m h1 h2 (by rw [e0] at b2; exact b2) (fun r out ia ib mg ac bc d=>⟨⟨_,rfl⟩,.inl ⟨_,_,_,_,_,_,_,rfl,d⟩⟩) (fun o' i j g x y z1 z2 z3 z4=>⟨⟨_,rfl⟩,.inr ⟨_,_,_,_,_,_,rfl,z1,z2,z3,by omega⟩⟩) fun o' i j g x y z1 z2 z3 z4=>⟨⟨_,rfl⟩,_,_,_,_,_,_,rfl,z1,z2,z3,by omega⟩
end
variable {na:Nat} {nb:Nat} {n:Nat}
theorem vp (a b:Array Lb):pR a b=(do
 rule "list.sort.merge-hi"
 let total:=a.size+b.size
 let done (out:Array Lb) (na nb:Nat):=a.extract 0 na++b.extract 0 nb++out.reverse
 let firstOfB (out:Array Lb) (na nb:Nat):=b.extract 0 nb++a.extract 0 na++out.reverse
 let mut na:=a.size-1
 let mut nb:=b.size
 let mut out:Array Lb:=#[← Ni a na]
 if na==0 then return done out na nb
 if nb==1 then return firstOfB out na nb
 let mut minGallop:=S8 (← get)
 for _ in [0:total] do
  let mut acount:=0
  let mut bcount:=0
  for _ in [0:total] do
   let some aWins ← lt' (← Ni b (nb-1)) (← Ni a (na-1)) | return done out na nb
   if aWins then
    na:=na-1; out:=out.push (← Ni a na); acount:=acount+1; bcount:=0
    if na==0 then return done out na nb
    if acount ≥ minGallop then break
   else
    nb:=nb-1; out:=out.push (← Ni b nb); bcount:=bcount+1; acount:=0
    if nb==1 then return firstOfB out na nb
    if bcount ≥ minGallop then break
  rule "list.sort.gallop"
  minGallop:=minGallop+1
  for _ in [0:total] do
   if minGallop > 1 then minGallop:=minGallop-1
   eW minGallop
   let some at_ ← d7 false (← Ni b (nb-1)) a 0 na (na-1) | return done out na nb
   let k:=na-at_
   acount:=k
   if k > 0 then
    out:=out++(a.extract at_ na).reverse; na:=at_
    if na==0 then return done out na nb
   nb:=nb-1; out:=out.push (← Ni b nb)
   if nb==1 then return firstOfB out na nb
   let some at_ ← d7 true (← Ni a (na-1)) b 0 nb (nb-1) | return done out na nb
   let k:=nb-at_
   bcount:=k
   if k > 0 then
    out:=out++(b.extract at_ nb).reverse; nb:=at_
    if nb==1 then return firstOfB out na nb
    if nb==0 then return done out na nb
   na:=na-1; out:=out.push (← Ni a na)
   if na==0 then return done out na nb
   if acount<7&&bcount<7 then break
  minGallop:=minGallop+1
  eW minGallop
 unsupported "internal:list.sort.merge-bound"):=rfl
section pure
variable {α:Type} {C:α→α→Bool}
structure MH (C:α→α→Bool) (L S A B:List α):Prop where
 so:rh C S
 oa:∀ x∈A,∀ z∈S,Le C x z
 ob:∀ x∈B,∀ z∈S,Le C x z
 pm:((A++B)++S).Perm L
 sa:rh C A
 sb:rh C B
theorem MH.len {L S A B:List α} (h:MH C L S A B):S.length+A.length+B.length=L.length:=by
 have:=h.pm.length_eq
 rw [K0,K0] at this
 omega
theorem MH.Df {L S X A B:List α} (h:MH C L S (A++X) B) (hx:∀ y∈B,∀ x∈X,Le C y x):MH C L (X++S) A B:=by
 obtain ⟨s1,s2,s3⟩:=K8.mp h.sa
 refine ⟨K8.mpr ⟨s2,h.so,fun x hx z hz=>h.oa x (KA _ hx) z hz⟩,fun x hx' z hz=>?_,fun y hy z hz=>?_,?_,s1,h.sb⟩
 ·rcases KS.mp hz with q | q
  ·exact s3 x hx' z q
  ·exact h.oa x (K3 _ hx') z q
 ·rcases KS.mp hz with q | q
  ·exact hx y hy z q
  ·exact h.ob y hy z q
 ·refine Q2 ?_ h.pm
  rw [← Lx]
  refine OZ S ?_
  rw [Lx,Lx]
  exact Nz A Of
theorem MH.EV {L S X A B:List α} (h:MH C L S A (B++X)) (hx:∀ y∈A,∀ x∈X,Le C y x):MH C L (X++S) A B:=by
 obtain ⟨s1,s2,s3⟩:=K8.mp h.sb
 refine ⟨K8.mpr ⟨s2,h.so,fun x hx z hz=>h.ob x (KA _ hx) z hz⟩,fun x hx' z hz=>?_,fun y hy z hz=>?_,?_,h.sa,s1⟩
 ·rcases KS.mp hz with q | q
  ·exact hx x hx' z q
  ·exact h.oa x hx' z q
 ·rcases KS.mp hz with q | q
  ·exact s3 y hy z q
  ·exact h.ob y (K3 _ hy) z q
 ·have:=h.pm
  rw [← Lx] at this
  rw [← Lx]
  exact this
theorem MH.end_ {L S A B:List α} (h:MH C L S A B) (e:A=[]∨B=[]):Done C L (A++B++S):=by
 refine ⟨K8.mpr ⟨?_,h.so,fun x hx z hz=>?_⟩,h.pm⟩
 ·rcases e with e | e
  ·subst e; exact h.sb
  ·subst e; rw [Mb]; exact h.sa
 ·rcases KS.mp hx with q | q
  ·exact h.oa x q z hz
  ·exact h.ob x q z hz
theorem MH.first {L S A B:List α} (h:MH C L S A B) (hl:∀ y∈B,∀ x∈A,Le C y x):Done C L (B++A++S):=by
 refine ⟨K8.mpr ⟨K8.mpr ⟨h.sb,h.sa,hl⟩,h.so,fun x hx z hz=>?_⟩,?_⟩
 ·rcases KS.mp hx with q | q
  ·exact h.ob x q z hz
  ·exact h.oa x q z hz
 ·exact (OZ S Of).trans h.pm
theorem le_last (o:gP C) {x y:α} {l:List α} (h:Le C y x) (s:rh C (l++[y])):∀ z∈l++[y],Le C z x:=fun z hz=>by
 rcases KS.mp hz with q | q
 ·exact o.tr z y x ((K8.mp s).2.2 z q y (Kz.mpr rfl)) h
 ·rw [Kz.mp q]; exact h
end pure
section
variable {C:Lb→Lb→Bool}
structure MB (C:Lb→Lb→Bool) (a b out:Array Lb) (na nb:Nat):Prop where
 mh:MH C (a.toList++b.toList) out.toList.reverse (a.toList.take na) (b.toList.take nb)
 la:na≤a.size
 lb:nb≤b.size
theorem MB.len {a b out:Array Lb} {na nb:Nat} (h:MB C a b out na nb):out.size+na+nb=a.size+b.size:=by
 have:=h.mh.len
 have:=h.la
 have:=h.lb
 rw [List.length_reverse,Mj,Mj,K0,KR,KR,KR] at *
 omega
theorem fZ {i:Nat} (h:i<a.size):a.toList.take (i+1)=a.toList.take i++[a[i]]:=by
 rw [Qf,Ms,K9 h]
 rfl
theorem oY (l:List Lb) {i k:Nat} (h:i≤k):l.take k=l.take i++(l.take k).drop i:=by
 have:l.take i=(l.take k).take i:=by rw [Ou,Ob h]
 rw [this,LS]
theorem MB.rO {b out:Array Lb} (h:MB C a b out (na+1) nb) (hi:na<a.size) (hx:∀ y∈b.toList.take nb,Le C y a[na]):MB C a b (out.push a[na]) na nb:=by
 refine ⟨?_,by omega,h.lb⟩
 rw [NG,Py]
 have m:=h.mh
 rw [fZ hi] at m
 exact MH.Df (X:=[a[na]]) m fun y hy x hx'=>by rw [Kz.mp hx']; exact hx y hy
theorem MB.rN {b out:Array Lb} (h:MB C a b out na (nb+1)) (hi:nb<b.size) (hx:∀ y∈a.toList.take na,Le C y b[nb]):MB C a b (out.push b[nb]) na nb:=by
 refine ⟨?_,h.la,by omega⟩
 rw [NG,Py]
 have m:=h.mh
 rw [fZ hi] at m
 exact MH.EV (X:=[b[nb]]) m fun y hy x hx'=>by rw [Kz.mp hx']; exact hx y hy
theorem zb (a out:Array Lb) (i j:Nat) (h:j≤a.size):(out++(a.extract i j).reverse).toList.reverse=(a.toList.take j).drop i++out.toList.reverse:=by
 rw [LZ,Py,Pn,List.reverse_reverse,ext_toList,Rp]
theorem MB.Df {a b out:Array Lb} {na nb k:Nat} (h:MB C a b out na nb) (hk:k≤na) (hx:∀ y∈b.toList.take nb,∀ x∈(a.toList.take na).drop k,Le C y x):MB C a b (out++(a.extract k na).reverse) k nb:=by
 have:=h.la
 refine ⟨?_,by omega,h.lb⟩
 rw [zb _ _ _ _ h.la]
 have m:=h.mh
 rw [oY a.toList hk] at m
 exact MH.Df m hx
theorem MB.EV {a b out:Array Lb} {na nb k:Nat} (h:MB C a b out na nb) (hk:k≤nb) (hx:∀ y∈a.toList.take na,∀ x∈(b.toList.take nb).drop k,Le C y x):MB C a b (out++(b.extract k nb).reverse) na k:=by
 have:=h.lb
 refine ⟨?_,h.la,by omega⟩
 rw [zb _ _ _ _ h.lb]
 have m:=h.mh
 rw [oY b.toList hk] at m
 exact MH.EV m hx
theorem oK (a:Array Lb) (i:Nat):(a.extract 0 i).toList=a.toList.take i:=by rw [ext_toList,Ot,Nat.sub_zero]
theorem MB.done {b out:Array Lb} (h:MB C a b out na nb) (e:na=0∨nb=0):Dn C a b (a.extract 0 na++b.extract 0 nb++out.reverse):=by
 unfold Dn
 rw [LZ,LZ,oK,oK,Pn]
 exact h.mh.end_ (e.imp (fun e=>by rw [e]; rfl) fun e=>by rw [e]; rfl)
theorem MB.first {a b out:Array Lb} {na nb:Nat} (h:MB C a b out na nb) (e:nb=1) (hb:0<b.size) (hl:∀ x∈a.toList,Le C b[0] x):Dn C a b (b.extract 0 nb++a.extract 0 na++out.reverse):=by
 unfold Dn
 rw [LZ,LZ,oK,oK,Pn]
 refine h.mh.first fun y hy x hx=>?_
 rw [e,fZ hb,List.take_zero,Nm] at hy
 rw [Kz.mp hy]
 exact hl x (L5 hx)
end
section
variable {M:RN} {A:L4} {E:KD→KJ→Prop} {s:KJ} {κ:MU} {G:Lb→Prop} {C:Lb→Lb→Bool}
abbrev T5:=Option (Array Lb)×Nat×Nat×Array Lb×Nat
abbrev T6:=Option (Array Lb)×Nat×Nat×Array Lb×Nat×Nat
abbrev T7:=Option (Array Lb)×Nat×Nat×Array Lb×Nat×Nat×Nat
theorem wJ (o:gP C) (h0:0<n) (h:n-1<a.size) (sr:rh C (a.toList.take n)):∀ x∈a.toList.take n,Le C x a[n-1]:=by
 obtain ⟨n,rfl⟩:∃ k,n=k+1:=⟨n-1,by omega⟩
 have h':n<a.size:=h
 rw [fZ h'] at sr ⊢
 exact le_last o (le_refl o _) sr
theorem y0 {b:Array Lb} {out:Array Lb} {mg k k1:Nat} (m:MB C a b out na nb) (h1:0<na) (h2:1<nb) (hx:∀ (h:na-1<a.size),∀ y∈b.toList.take nb,Le C y a[na-1]) {R:ForInStep T7→MW→Prop}
 (ret:∀ r na nb out mg ac bc,Dn C a b r→R (.done (some r,na,nb,out,mg,ac,bc)) st)
 (brk:∀ na nb out' mg ac bc,MB C a b out' na nb→0<na→1<nb→out.size≤out'.size→R (.done (none,na,nb,out',mg,ac,bc)) st)
 (ye:∀ na nb out' mg ac bc,MB C a b out' na nb→0<na→1<nb→out.size≤out'.size→R (.yield (none,na,nb,out',mg,ac,bc)) st) :
 SJ M A E s (do
  let x2 ← Ni a (na-1)
  if (na-1==0)=true then pure (LQ (some (a.extract 0 (na-1)++b.extract 0 nb++(out.push x2).reverse),na-1,nb,out.push x2,mg,k,k1))
  else if (decide (k<7)&&decide (k1<7))=true then pure (LQ (none,na-1,nb,out.push x2,mg,k,k1))
  else pure (LN (none,na-1,nb,out.push x2,mg,k,k1))) R st:=by
 have la:=m.la
 obtain ⟨na,rfl⟩:∃ n,na=n+1:=⟨na-1,by omega⟩
 rw [ON]
 have hna:na<a.size:=by omega
 refine KY (aR (x:=a[na]) (K9 hna) ?_)
 have m':=m.rO hna (hx hna)
 have hsz:(out.push a[na]).size=out.size+1:=MV _
 by_cases q1:(na==0)=true
 ·rw [if_pos q1]
  exact K4 (ret _ _ _ _ _ _ _ (m'.done (.inl (by simpa using q1))))
 ·rw [if_neg q1]
  have q1:0<na:=by simp at q1; omega
  by_cases q2:(decide (k<7)&&decide (k1<7))=true
  ·rw [if_pos q2]
   exact K4 (brk _ _ _ _ _ _ m' q1 h2 (by omega))
  ·rw [if_neg q2]
   exact K4 (ye _ _ _ _ _ _ m' q1 h2 (by omega))
theorem oH (hC:fG M A E s κ G C) (o:gP C) {b:Array Keyed} (t:HU G C a b) (hb0:0<b.size) {out:Array Keyed} {mg k bc:Nat} (hk:kindOf st=κ) (m:MB C a b out na nb) (h1:0<na) (h2:1<nb) (hx:∀ (h:nb-1<b.size),∀ x∈a.toList.take na,Le C x b[nb-1]) {R:ForInStep T7→SortSt→Prop}
    (ret:∀ r na nb out mg ac bc,Dn C a b r→R (.done (some r,na,nb,out,mg,ac,bc)) st)
    (brk:∀ na nb out' mg ac bc,MB C a b out' na nb→0<na→1<nb→out.size≤out'.size→R (.done (none,na,nb,out',mg,ac,bc)) st)
    (ye:∀ na nb out' mg ac bc,MB C a b out' na nb→0<na→1<nb→out.size≤out'.size→R (.yield (none,na,nb,out',mg,ac,bc)) st) :
    SJ M A E s (do
      let y ← Ni b (nb-1)
      if (nb-1==1)=true then pure (LQ (some (b.extract 0 (nb-1)++a.extract 0 na++(out.push y).reverse),na,nb-1,out.push y,mg,k,bc))
      else do
        let x ← Ni a (na-1)
        let __x ← d7 true x b 0 (nb-1) (nb-1-1)
        match __x with
        | some k1 =>
          if nb-1-k1 > 0 then
            if (k1==1)=true then pure (LQ (some (b.extract 0 k1++a.extract 0 na++(out.push y++(b.extract k1 (nb-1)).reverse).reverse),na,k1,out.push y++(b.extract k1 (nb-1)).reverse,mg,k,nb-1-k1))
            else if (k1==0)=true then pure (LQ (some (a.extract 0 na++b.extract 0 k1++(out.push y++(b.extract k1 (nb-1)).reverse).reverse),na,k1,out.push y++(b.extract k1 (nb-1)).reverse,mg,k,nb-1-k1))
            else do
              let x2 ← Ni a (na-1)
              if (na-1==0)=true then pure (LQ (some (a.extract 0 (na-1)++b.extract 0 k1++((out.push y++(b.extract k1 (nb-1)).reverse).push x2).reverse),na-1,k1,(out.push y++(b.extract k1 (nb-1)).reverse).push x2,mg,k,nb-1-k1))
              else if (decide (k<7)&&decide (nb-1-k1<7))=true then pure (LQ (none,na-1,k1,(out.push y++(b.extract k1 (nb-1)).reverse).push x2,mg,k,nb-1-k1))
              else pure (LN (none,na-1,k1,(out.push y++(b.extract k1 (nb-1)).reverse).push x2,mg,k,nb-1-k1))
          else do
            let x2 ← Ni a (na-1)
            if (na-1==0)=true then pure (LQ (some (a.extract 0 (na-1)++b.extract 0 (nb-1)++((out.push y).push x2).reverse),na-1,nb-1,(out.push y).push x2,mg,k,nb-1-k1))
            else if (decide (k<7)&&decide (nb-1-k1<7))=true then pure (LQ (none,na-1,nb-1,(out.push y).push x2,mg,k,nb-1-k1))
            else pure (LN (none,na-1,nb-1,(out.push y).push x2,mg,k,nb-1-k1))
        | _=>pure (LQ (some (a.extract 0 na++b.extract 0 (nb-1)++(out.push y).reverse),na,nb-1,out.push y,mg,k,bc))) R st:=by
  have la:=m.la
  have lb:=m.lb
  obtain ⟨nb,rfl⟩:∃ n,nb=n+1:=⟨nb-1,by omega⟩
  rw [ON] at *
  have hnb:nb<b.size:=by omega
  refine KY (aR (x:=b[nb]) (K9 hnb) ?_)
  have m':=m.rN hnb (hx hnb)
  have hsz:(out.push b[nb]).size=out.size+1:=MV _
  by_cases q1:(nb==1)=true
  · rw [if_pos q1]
    exact K4 (ret _ _ _ _ _ _ _ (m'.first (by simpa using q1) hb0 (t.fst hb0)))
  rw [if_neg q1]
  have q1:1<nb:=by simp at q1; omega
  have hna:na-1<a.size:=by omega
  refine KY (aR (x:=a[na-1]) (K9 hna) ?_)
  have mema:a[na-1]∈a.toList:=by simp
  refine KY (fY hC o (seg:=b.toList.take nb) hk (t.ga _ mema) (by rw [Ot]) (by rw [Mj,KR]; omega) m'.mh.sb (fun x hx=>t.gb x (L5 hx)) (by omega) fun k1 hk1 b1 b2=>?_)
  have b1:∀ y∈b.toList.take k1,Le C y a[na-1]:=fun y hy=>by
    have:=b1 y (by rw [Ou,Ob hk1]; exact hy)
    exact le_of_lt o this
  have b2:∀ y∈(b.toList.take nb).drop k1,Le C a[na-1] y:=b2
  dsimp only
  have sda:=m'.mh.sa
  have ena:na-1+1=na:=by omega
  have la2:∀ x∈a.toList.take na,Le C x a[na-1]:=wJ o h1 hna sda
  by_cases q2:nb-k1 > 0
  · rw [if_pos q2]
    have m2:=m'.EV (k:=k1) (by omega) fun x hx y hy=>o.tr x a[na-1] y (la2 x hx) (b2 y hy)
    by_cases q3:(k1==1)=true
    · rw [if_pos q3]
      exact K4 (ret _ _ _ _ _ _ _ (m2.first (by simpa using q3) hb0 (t.fst hb0)))
    rw [if_neg q3]
    by_cases q4:(k1==0)=true
    · rw [if_pos q4]
      exact K4 (ret _ _ _ _ _ _ _ (m2.done (.inr (by simpa using q4))))
    rw [if_neg q4]
    have q5:1<k1:=by simp at q3 q4; omega
    have hs2:out.size≤(out.push b[nb]++(b.extract k1 nb).reverse).size:=by rw [NH]; omega
    exact y0 m2 h1 q5 (fun _=>b1) ret (fun i j o' g x y z1 z2 z3 z4=>brk i j o' g x y z1 z2 z3 (by omega)) fun i j o' g x y z1 z2 z3 z4=>ye i j o' g x y z1 z2 z3 (by omega)
  · rw [if_neg q2]
    have e0:k1=nb:=by omega
    exact y0 m' h1 q1 (fun _=>by rw [e0] at b1; exact b1) ret (fun i j o' g x y z1 z2 z3 z4=>brk i j o' g x y z1 z2 z3 (by omega)) fun i j o' g x y z1 z2 z3 z4=>ye i j o' g x y z1 z2 z3 (by omega)
theorem uJ (hC:fG M A E s κ G C) (o:gP C) {b:Array Keyed} (t:HU G C a b) {Q:Array Keyed→SortSt→Prop} (hk:kindOf st=κ) (ha:0<a.size) (hb:0<b.size)
    (h:∀ r g,Dn C a b r→Q r (setG st g)) :
    SJ M A E s (pR a b) Q st:=by
  rw [vp]
  refine KY (Qv (N4 ⟨rfl,?_⟩))
  dsimp only
  have hl:a.size-1<a.size:=by omega
  refine KY (aR (x:=a[a.size-1]) (K9 hl) ?_)
  have m0:MB C a b #[a[a.size-1]] (a.size-1) b.size:=by
    have:MB C a b #[] (a.size-1+1) b.size:=by
      refine ⟨?_,by omega,Lg _⟩
      rw [Mn (by rw [KR]; omega),Mn (by rw [KR]; exact Lg _)]
      exact ⟨Qe,fun x _ z hz=>(by cases hz),fun x _ z hz=>(by cases hz),(by rw [show ((#[]:Array Lb).toList.reverse)=[] from rfl,Mb]),t.sa,t.sb⟩
    refine this.rO hl fun y hy=>t.lst y (L5 hy) _ ?_
    rw [dM hl]
    exact Ky
  have hst:st=setG st (S8 st):=rfl
  by_cases c1:(a.size-1==0)=true
  · rw [if_pos c1]
    rw [hst]
    exact K4 (h _ _ (m0.done (.inl (by simpa using c1))))
  rw [if_neg c1]
  by_cases c2:(b.size==1)=true
  · rw [if_pos c2]
    rw [hst]
    exact K4 (h _ _ (m0.first (by simpa using c2) hb (t.fst hb)))
  rw [if_neg c2]
  have c1:0<a.size-1:=by simp at c1; omega
  have c2:1<b.size:=by simp at c2; omega
  refine KY (O0 ?_)
  refine KY (Np (Mo
    (I:=fun x (c:T5) st'=>(∃ g,st'=setG st g)∧∃ na nb out mg,c=(none,na,nb,out,mg)∧MB C a b out na nb∧0<na∧1<nb∧x+1≤out.size)
    (Q:=fun (c:T5) st'=>(∃ g,st'=setG st g)∧∃ r na nb out mg,c=(some r,na,nb,out,mg)∧Dn C a b r) ?step ?fin ⟨⟨_,hst⟩,_,_,_,_,rfl,m0,c1,c2,Lg _⟩) ?post)
  case fin =>
    rintro c st' ⟨_,na,nb,out,mg,rfl,m,h1,h2,h3⟩
    have:=m.len
    omega
  case post =>
    rintro c st' ⟨⟨g,rfl⟩,r,na,nb,out,mg,rfl,d⟩
    exact K4 (h _ _ d)
  case step =>
    rintro x c st' _ hx ⟨⟨g,rfl⟩,na,nb,out,mg,rfl,m,h1,h2,h3⟩
    dsimp only
    refine KY (Np (Mo
      (I:=fun y (c:T6) st'=>st'=setG st g∧∃ na nb out' ac bc,c=(none,na,nb,out',ac,bc)∧MB C a b out' na nb∧0<na∧1<nb∧out.size+y≤out'.size)
      (Q:=fun (c:T6) st'=>st'=setG st g∧((∃ r na nb out ac bc,c=(some r,na,nb,out,ac,bc)∧Dn C a b r)∨∃ na nb out' ac bc,c=(none,na,nb,out',ac,bc)∧MB C a b out' na nb∧0<na∧1<nb∧out.size+1≤out'.size))
      ?step1 ?fin1 ⟨rfl,_,_,_,_,_,rfl,m,h1,h2,Lg _⟩) ?post1)
    case fin1 =>
      rintro c st' ⟨rfl,na,nb,out',ac,bc,rfl,m,h1,h2,h3⟩
      exact ⟨rfl,.inr ⟨na,nb,out',ac,bc,rfl,m,h1,h2,by omega⟩⟩
    case step1 =>
      rintro y c st' _ hy ⟨rfl,na,nb,out',ac,bc,rfl,m,h1,h2,h3⟩
      dsimp only
      have la:=m.la
      have lb:=m.lb
      obtain ⟨na,rfl⟩:∃ n,na=n+1:=⟨na-1,by omega⟩
      obtain ⟨nb,rfl⟩:∃ n,nb=n+1:=⟨nb-1,by omega⟩
      rw [ON,ON]
      have hna:na<a.size:=by omega
      have hnb:nb<b.size:=by omega
      have ea:a[na]?=some a[na]:=K9 hna
      have eb:b[nb]?=some b[nb]:=K9 hnb
      have mema:a[na]∈a.toList:=by simp
      have memb:b[nb]∈b.toList:=by simp
      refine KY (aR eb (KY (aR ea (KY (hC (t.gb _ memb) (t.ga _ mema) hk ?_)))))
      dsimp only
      have sda:=m.mh.sa
      have sdb:=m.mh.sb
      rw [fZ hna] at sda
      rw [fZ hnb] at sdb
      cases w:C b[nb] a[na] with
      | true =>
        rw [if_pos rfl]
        refine KY (aR ea ?_)
        have m':=m.rO hna (by rw [fZ hnb]; exact le_last o (le_of_lt o w) sdb)
        have hsz:(out'.push a[na]).size=out'.size+1:=MV _
        by_cases q1:(na==0)=true
        · rw [if_pos q1]
          exact K4 ⟨rfl,.inl ⟨_,_,_,_,_,_,rfl,m'.done (.inl (by simpa using q1))⟩⟩
        · rw [if_neg q1]
          have q1:0<na:=by simp at q1; omega
          by_cases q2:ac+1 ≥ mg
          · rw [if_pos q2]
            exact K4 ⟨rfl,.inr ⟨_,_,_,_,_,rfl,m',q1,h2,by omega⟩⟩
          · rw [if_neg q2]
            exact K4 ⟨rfl,_,_,_,_,_,rfl,m',q1,h2,by omega⟩
      | false =>
        rw [if_neg KU]
        refine KY (aR eb ?_)
        have m':=m.rN hnb (by rw [fZ hna]; exact le_last o w sda)
        have hsz:(out'.push b[nb]).size=out'.size+1:=MV _
        by_cases q1:(nb==1)=true
        · rw [if_pos q1]
          exact K4 ⟨rfl,.inl ⟨_,_,_,_,_,_,rfl,m'.first (by simpa using q1) hb (t.fst hb)⟩⟩
        · rw [if_neg q1]
          have q1:1<nb:=by simp at q1; omega
          by_cases q2:bc+1 ≥ mg
          · rw [if_pos q2]
            exact K4 ⟨rfl,.inr ⟨_,_,_,_,_,rfl,m',h1,q1,by omega⟩⟩
          · rw [if_neg q2]
            exact K4 ⟨rfl,_,_,_,_,_,rfl,m',h1,q1,by omega⟩
    case post1 =>
      rintro c st' ⟨rfl,⟨r,na,nb,out',ac,bc,rfl,d⟩ | ⟨na,nb,out',ac,bc,rfl,m,h1,h2,h4⟩⟩
      · exact K4 ⟨⟨g,rfl⟩,_,_,_,_,_,rfl,d⟩
      dsimp only
      refine KY (Qv (N4 ⟨rfl,?_⟩))
      refine KY (Np (Mo
        (I:=fun y (c:T7) st'=>(∃ g,st'=setG st g)∧∃ na nb out'' mg ac bc,c=(none,na,nb,out'',mg,ac,bc)∧MB C a b out'' na nb∧0<na∧1<nb∧out'.size≤out''.size)
        (Q:=fun (c:T7) st'=>(∃ g,st'=setG st g)∧((∃ r na nb out mg ac bc,c=(some r,na,nb,out,mg,ac,bc)∧Dn C a b r)∨∃ na nb out'' mg ac bc,c=(none,na,nb,out'',mg,ac,bc)∧MB C a b out'' na nb∧0<na∧1<nb∧out'.size≤out''.size))
        ?step2 ?fin2 ⟨⟨g,rfl⟩,_,_,_,_,_,_,rfl,m,h1,h2,Lg _⟩) ?post2)
      case fin2 =>
        rintro c st' ⟨hg,na,nb,out'',mg,ac,bc,rfl,m,h1,h2,h3⟩
        exact ⟨hg,.inr ⟨_,_,_,_,_,_,rfl,m,h1,h2,h3⟩⟩
      case post2 =>
        rintro c st' ⟨⟨g2,rfl⟩,⟨r,na,nb,out'',mg,ac,bc,rfl,d⟩ | ⟨na,nb,out'',mg,ac,bc,rfl,m,h1,h2,h5⟩⟩
        · exact K4 ⟨⟨g2,rfl⟩,_,_,_,_,_,rfl,d⟩
        · exact KY (M6 (K4 ⟨⟨_,rfl⟩,_,_,_,_,rfl,m,h1,h2,(show x+1+1≤out''.size by omega)⟩))
      case step2 =>
        rintro y c st' _ hy ⟨⟨g2,rfl⟩,na,nb,out'',mg,ac,bc,rfl,m,h1,h2,h3⟩
        dsimp only
        by_cases hm:mg > 1
        · rw [if_pos hm]
          refine KY (M6 ?_)
          have hkk:kindOf (setG (setG st g2) (mg-1))=κ:=hk
          have la:=m.la
          have lb:=m.lb
          have hnb:nb-1<b.size:=by omega
          have memb:b[nb-1]∈b.toList:=by simp
          refine KY (aR (x:=b[nb-1]) (K9 hnb) ?_)
          refine KY (fY hC o (seg:=a.toList.take na) hkk (t.gb _ memb) (by rw [Ot]) (by rw [Mj,KR]; omega) m.mh.sa (fun x hx=>t.ga x (L5 hx)) (by omega) fun k hk1 b1 b2=>?_)
          have sdb:=m.mh.sb
          have enb:nb-1+1=nb:=by omega
          have lb2:∀ x∈b.toList.take nb,Le C x b[nb-1]:=wJ o (by omega) hnb sdb
          have b1:∀ x∈a.toList.take k,Le C x b[nb-1]:=fun x hx=>by
            have:=b1 x (by rw [Ou,Ob hk1]; exact hx)
            unfold uA at this
            unfold Le
            simpa using this
          have b2:∀ y∈b.toList.take nb,∀ x∈(a.toList.take na).drop k,Le C y x:=fun y hy x hx=>by
            have:=b2 x hx
            unfold uA at this
            exact o.tr y b[nb-1] x (lb2 y hy) (le_of_lt o (by simpa using this))
          dsimp only
          by_cases q0:na-k > 0
          · rw [if_pos q0]
            have m2:=m.Df (by omega) b2
            have hs2:out''.size≤(out''++(a.extract k na).reverse).size:=by rw [NH]; omega
            by_cases q1:(k==0)=true
            · rw [if_pos q1]
              exact K4 ⟨⟨_,rfl⟩,.inl ⟨_,_,_,_,_,_,_,rfl,m2.done (.inl (by simpa using q1))⟩⟩
            rw [if_neg q1]
            have q3:0<k:=by simp at q1; omega
            exact oH hC o t hb hkk m2 q3 h2 (fun _=>b1) (fun r na nb out mg ac bc d=>⟨⟨_,rfl⟩,.inl ⟨_,_,_,_,_,_,_,rfl,d⟩⟩) (fun i j o' g x y z1 z2 z3 z4=>⟨⟨_,rfl⟩,.inr ⟨_,_,_,_,_,_,rfl,z1,z2,z3,by omega⟩⟩) fun i j o' g x y z1 z2 z3 z4=>⟨⟨_,rfl⟩,_,_,_,_,_,_,rfl,z1,z2,z3,by omega⟩
          · rw [if_neg q0]
            have e0:k=na:=by omega
            exact oH hC o t hb hkk m h1 h2 (fun _=>by rw [e0] at b1; exact b1) (fun r na nb out mg ac bc d=>⟨⟨_,rfl⟩,.inl ⟨_,_,_,_,_,_,_,rfl,d⟩⟩) (fun i j o' g x y z1 z2 z3 z4=>⟨⟨_,rfl⟩,.inr ⟨_,_,_,_,_,_,rfl,z1,z2,z3,by omega⟩⟩) fun i j o' g x y z1 z2 z3 z4=>⟨⟨_,rfl⟩,_,_,_,_,_,_,rfl,z1,z2,z3,by omega⟩
        · rw [if_neg hm]
          refine KY (M6 ?_)
          have hkk:kindOf (setG (setG st g2) mg)=κ:=hk
          have la:=m.la
          have lb:=m.lb
          have hnb:nb-1<b.size:=by omega
          have memb:b[nb-1]∈b.toList:=by simp
          refine KY (aR (x:=b[nb-1]) (K9 hnb) ?_)
          refine KY (fY hC o (seg:=a.toList.take na) hkk (t.gb _ memb) (by rw [Ot]) (by rw [Mj,KR]; omega) m.mh.sa (fun x hx=>t.ga x (L5 hx)) (by omega) fun k hk1 b1 b2=>?_)
          have sdb:=m.mh.sb
          have enb:nb-1+1=nb:=by omega
          have lb2:∀ x∈b.toList.take nb,Le C x b[nb-1]:=wJ o (by omega) hnb sdb
          have b1:∀ x∈a.toList.take k,Le C x b[nb-1]:=fun x hx=>by
            have:=b1 x (by rw [Ou,Ob hk1]; exact hx)
            unfold uA at this
            unfold Le
            simpa using this
          have b2:∀ y∈b.toList.take nb,∀ x∈(a.toList.take na).drop k,Le C y x:=fun y hy x hx=>by
            have:=b2 x hx
            unfold uA at this
            exact o.tr y b[nb-1] x (lb2 y hy) (le_of_lt o (by simpa using this))
          dsimp only
          by_cases q0:na-k > 0
          · rw [if_pos q0]
            have m2:=m.Df (by omega) b2
            have hs2:out''.size≤(out''++(a.extract k na).reverse).size:=by rw [NH]; omega
            by_cases q1:(k==0)=true
            · rw [if_pos q1]
              exact K4 ⟨⟨_,rfl⟩,.inl ⟨_,_,_,_,_,_,_,rfl,m2.done (.inl (by simpa using q1))⟩⟩
            rw [if_neg q1]
            have q3:0<k:=by simp at q1; omega
            exact oH hC o t hb hkk m2 q3 h2 (fun _=>b1) (fun r na nb out mg ac bc d=>⟨⟨_,rfl⟩,.inl ⟨_,_,_,_,_,_,_,rfl,d⟩⟩) (fun i j o' g x y z1 z2 z3 z4=>⟨⟨_,rfl⟩,.inr ⟨_,_,_,_,_,_,rfl,z1,z2,z3,by omega⟩⟩) fun i j o' g x y z1 z2 z3 z4=>⟨⟨_,rfl⟩,_,_,_,_,_,_,rfl,z1,z2,z3,by omega⟩
          · rw [if_neg q0]
            have e0:k=na:=by omega
            exact oH hC o t hb hkk m h1 h2 (fun _=>by rw [e0] at b1; exact b1) (fun r na nb out mg ac bc d=>⟨⟨_,rfl⟩,.inl ⟨_,_,_,_,_,_,_,rfl,d⟩⟩) (fun i j o' g x y z1 z2 z3 z4=>⟨⟨_,rfl⟩,.inr ⟨_,_,_,_,_,_,rfl,z1,z2,z3,by omega⟩⟩) fun i j o' g x y z1 z2 z3 z4=>⟨⟨_,rfl⟩,_,_,_,_,_,_,rfl,z1,z2,z3,by omega⟩
end
def gk (xs:Array Lb) (i:Nat):Lb:=xs[i]?.getD (.none,.none)
variable {xs:Array Lb}
theorem gv {i:Nat} (h:i<xs.size):xs[i]?=some (gk xs i):=by
 unfold gk
 rw [K9 h]
 rfl
theorem iV {ys:Array Lb} {i j:Nat} (h:xs[i]?=ys[j]?):gk xs i=gk ys j:=by unfold gk; rw [h]
theorem mL {src d:Nat} (hs:src<xs.size) (hd:d≤src) (k:Nat):gk (bubble xs src d) k=if k=src-d then gk xs src else if src-d<k∧k≤src then gk xs (k-1) else gk xs k:=by
 have e:=getElem?_bubble hs d hd k
 by_cases h1:k=src-d
 ·rw [if_pos h1] at e ⊢; exact iV e
 ·rw [if_neg h1] at e ⊢
  by_cases h2:src-d<k∧k≤src
  ·rw [if_pos h2] at e ⊢; exact iV e
  ·rw [if_neg h2] at e ⊢; exact iV e
theorem dr {i j:Nat} (hj:j≤xs.size) (k:Nat):gk (mirror xs i j ((j-i) / 2)) k=if i≤k∧k<j then gk xs (i+j-1-k) else gk xs k:=by
 have e:=getElem?_mirror_all (i:=i) hj k
 by_cases h1:i≤k∧k<j
 ·rw [if_pos h1] at e ⊢; exact iV e
 ·rw [if_neg h1] at e ⊢; exact iV e
def Up (C:Lb→Lb→Bool) (xs:Array Lb) (lo hi:Nat):Prop:=∀ i j,lo≤i→i≤j→j<hi→Le C (gk xs i) (gk xs j)
def Dw (C:Lb→Lb→Bool) (xs:Array Lb) (lo hi:Nat):Prop:=∀ i j,lo≤i→i≤j→j<hi→Le C (gk xs j) (gk xs i)
structure SB (κ:MU) (a₀:Array Lb) (st:MW):Prop where
 perm:(LJ st).Perm a₀
 kind:kindOf st=κ
 failed:Pm st=none
theorem SB.size {κ:MU} {a₀:Array Lb} {st:MW} (h:SB κ a₀ st):(LJ st).size=a₀.size:=h.perm.size_eq
theorem SB.setArr {κ:MU} {a₀:Array Lb} {st:MW} (h:SB κ a₀ st) {xs:Array Lb} (hp:xs.Perm (LJ st)):SB κ a₀ (PyProof.Rows.setArr st xs):=⟨hp.trans h.perm,h.kind,h.failed⟩
def Good (G:Lb→Prop) (a₀:Array Lb):Prop:=∀ x∈a₀.toList,G x
variable {Q:Bool→MW→Prop} {lo:Nat}
theorem SB.good {κ:MU} {a₀:Array Lb} {G:Lb→Prop} (h:SB κ a₀ st) (g:Good G a₀) {i:Nat} (hi:i<a₀.size):G (gk (LJ st) i):=by
 have hi':i<(LJ st).size:=by rw [h.size]; exact hi
 refine g _ ((Nw.mp h.perm).mem_iff.mp ?_)
 have:=gv hi'
 rw [← Ms] at this
 exact LI this
section
variable {M:RN} {A:L4} {E:KD→KJ→Prop} {s:KJ} {κ:MU} {G:Lb→Prop} {C:Lb→Lb→Bool} {a₀:Array Lb}
theorem kx (hC:fG M A E s κ G C) (g:Good G a₀) {i j:Nat} {Q:Option Bool→MW→Prop} (hB:SB κ a₀ st) (hi:i<a₀.size) (hj:j<a₀.size)
 (h:Q (some (C (gk (LJ st) i) (gk (LJ st) j))) st):SJ M A E s (ltAt' i j) Q st:=by
 rw [ltAt'_eq]
 refine KY (O0 ?_)
 show SJ _ _ _ _ (do let x ← Ni (LJ st) i; let y ← Ni (LJ st) j; lt' x y) Q st
 exact KY (aR (gv (by rw [hB.size]; exact hi)) (KY (aR (gv (by rw [hB.size]; exact hj)) (hC (hB.good g hi) (hB.good g hj) hB.kind h))))
theorem wD (hC:fG M A E s κ G C) (o:gP C) (g:Good G a₀) {ok:Nat} (hn:lo+n≤a₀.size) (cu:ok≤n) (hB:SB κ a₀ st) (hs:Up C (LJ st) lo (lo+ok))
 (h:∀ xs,SB κ a₀ (setArr st xs)→(∀ k,k<lo∨lo+n≤k→gk xs k=gk (LJ st) k)→Up C xs lo (lo+n)→Q true (setArr st xs)):SJ M A E s (binarySort' lo n ok) Q st:=by
 rw [binarySort'_eq]
 refine KY (Np (Mo (I:=fun k c st'=>c=(none,())∧∃ xs,st'=setArr st xs∧SB κ a₀ st'∧(∀ k,k<lo∨lo+n≤k→gk xs k=gk (LJ st) k)∧Up C xs lo (lo+min k n))
  (Q:=fun c st'=>c=(none,())∧∃ xs,st'=setArr st xs∧SB κ a₀ st'∧(∀ k,k<lo∨lo+n≤k→gk xs k=gk (LJ st) k)∧Up C xs lo (lo+n)) ?step ?fin ?init) ?post)
 case post =>
  rintro c st' ⟨rfl,xs,rfl,hB',hf,hs'⟩
  exact K4 (h xs hB' hf hs')
 case init =>
  refine ⟨rfl,LJ st,rfl,hB,fun _ _=>rfl,fun i j h1 hij hj=>?_⟩
  by_cases h1:ok=0
  ·have:i=j:=by omega
   subst this; exact le_refl o _
  ·exact hs i j (by omega) hij (by omega)
 case fin =>
  rintro c st' ⟨hc,xs,e,hB',hf,hs'⟩
  refine ⟨hc,xs,e,hB',hf,?_⟩
  rwa [show min (max (max ok 1) n) n=n by omega] at hs'
 case step =>
  rintro k c st' hak hkn ⟨rfl,xs,rfl,hB',hf,hs'⟩
  rw [show min k n=k by omega] at hs'
  have hk:lo+k<a₀.size:=by omega
  refine KY (Np (Mo (I:=fun x c st''=>st''=setArr st xs∧∃ l r,c=(none,l,r)∧l≤r∧r≤k∧r-l≤k-x ∧
   (∀ i,i<l→Le C (gk xs (lo+i)) (gk xs (lo+k)))∧(∀ i,r≤i→i<k→Le C (gk xs (lo+k)) (gk xs (lo+i))))
   (Q:=fun c st''=>st''=setArr st xs∧∃ l r,c=(none,l,r)∧l≤k ∧
    (∀ i,i<l→Le C (gk xs (lo+i)) (gk xs (lo+k)))∧(∀ i,l≤i→i<k→Le C (gk xs (lo+k)) (gk xs (lo+i)))) ?istep ?ifin ?iinit) ?ipost)
  case iinit=>exact ⟨rfl,0,k,rfl,by omega,by omega,by omega,fun i hi=>by omega,fun i h1 h2=>by omega⟩
  case ifin =>
   rintro c st'' ⟨rfl,l,r,rfl,hlr,hrk,hm,hlo,hhi⟩
   have:l=r:=by omega
   subst this
   exact ⟨rfl,l,l,rfl,hrk,hlo,hhi⟩
  case istep =>
   rintro x c st'' _ hxk ⟨rfl,l,r,rfl,hlr,hrk,hm,hlo,hhi⟩
   dsimp only
   by_cases hge:l ≥ r
   ·rw [if_pos hge]
    have:l=r:=by omega
    subst this
    exact K4 ⟨rfl,l,l,rfl,hrk,hlo,hhi⟩
   ·rw [if_neg hge]
    refine KY (kx hC g hB' hk (by omega) ?_)
    cases w:C (gk (LJ (setArr st xs)) (lo+k)) (gk (LJ (setArr st xs)) (lo+(l+r) / 2)) with
    | true =>
     dsimp only
     rw [if_pos rfl]
     refine K4 ⟨rfl,l,(l+r) / 2,rfl,by omega,by omega,by omega,hlo,fun i h1 h2=>?_⟩
     exact o.tr _ _ _ (le_of_lt o w) (hs' _ _ (by omega) (by omega) (by omega))
    | false =>
     dsimp only
     rw [if_neg KU]
     refine K4 ⟨rfl,(l+r) / 2+1,r,rfl,by omega,by omega,by omega,fun i h1=>?_,hhi⟩
     exact o.tr _ _ _ (hs' _ _ (by omega) (show lo+i≤lo+(l+r) / 2 by omega) (by omega)) w
  case ipost =>
   rintro c st'' ⟨rfl,l,r,rfl,hlk,hlo,hhi⟩
   show SJ _ _ _ _ (do moveDown' (lo+k) (lo+l); pure (LN (none,()))) _ _
   rw [moveDown'_eq]
   have hks:lo+k<(LJ (setArr st xs)).size:=by rw [hB'.size]; exact hk
   refine KY (M6 (K4 ⟨rfl,bubble xs (lo+k) (lo+k-(lo+l)),rfl,hB'.setArr (bubble_perm _ _ _),fun i hi=>?_,?_⟩))
   ·rw [mL hks (by omega),if_neg (by omega),if_neg (by omega)]
    exact hf i hi
   rw [show min (k+1) n=k+1 by omega]
   have hks:lo+k<xs.size:=hks
   intro i j hli hij hj
   show Le C (gk (bubble xs (lo+k) (lo+k-(lo+l))) i) (gk (bubble xs (lo+k) (lo+k-(lo+l))) j)
   rw [mL hks (by omega),mL hks (by omega),show lo+k-(lo+k-(lo+l))=lo+l by omega]
   have hlo':∀ i,lo≤i→i<lo+l→Le C (gk xs i) (gk xs (lo+k)):=fun i h1 h2=>by have:=hlo (i-lo) (by omega); rwa [show lo+(i-lo)=i by omega] at this
   have hhi':∀ i,lo+l≤i→i<lo+k→Le C (gk xs (lo+k)) (gk xs i):=fun i h1 h2=>by have:=hhi (i-lo) (by omega) (by omega); rwa [show lo+(i-lo)=i by omega] at this
   repeat' split
   all_goals first
    | (exfalso; omega)
    | exact le_refl o _
    | exact hlo' _ (by omega) (by omega)
    | exact hhi' _ (by omega) (by omega)
    | exact hs' _ _ (by omega) (by omega) (by omega)
end
section
variable {M:RN} {A:L4} {E:KD→KJ→Prop} {s:KJ} {κ:MU} {G:Lb→Prop} {C:Lb→Lb→Bool} {a₀:Array Lb}
theorem yU (o:gP C) {i j:Nat} (h:i=j):Le C (gk xs i) (gk xs j):=by
 subst h; exact le_refl o _
structure Run (κ:MU) (a₀:Array Lb) (st:MW) (lo nrem:Nat) (xs:Array Lb):Prop where
 sb:SB κ a₀ (setArr st xs)
 out:∀ k,k<lo∨lo+nrem≤k→gk xs k=gk (LJ st) k
theorem Run.size {st:MW} {lo nrem:Nat} {xs:Array Lb} (r:Run κ a₀ st lo nrem xs):xs.size=a₀.size:=r.sb.size
theorem Run.mirror {st:MW} {lo nrem i j:Nat} {xs:Array Lb} (r:Run κ a₀ st lo nrem xs) (hi:lo≤i) (hj:j≤lo+nrem) (hn:lo+nrem≤a₀.size):Run κ a₀ st lo nrem (mirror xs i j ((j-i) / 2)):=by
 refine ⟨r.sb.setArr (mirror_perm _ _ _ _),fun k hk=>?_⟩
 rw [dr (by rw [r.size]; omega),if_neg (by omega)]
 exact r.out k hk
theorem ku {i j:Nat} {Q:Unit→MW→Prop} (h:Q () (setArr st (mirror (LJ st) i j ((j-i) / 2)))):SJ M A E s (Ql i j) Q st:=by
 rw [reverseSlice'_eq]; exact M6 h
theorem sI (hC:fG M A E s κ G C) (o:gP C) (g:Good G a₀) {nrem a:Nat} {Q:Option (Option Nat)×Nat→MW→Prop} (hn:lo+nrem≤a₀.size) (ha:1≤a) (han:a≤nrem) (r:Run κ a₀ st lo nrem xs) (hs:Up C xs lo (lo+a))
 (h:∀ n,a≤n→n≤nrem→Up C xs lo (lo+n)→(n=nrem∨C (gk xs (lo+n)) (gk xs (lo+n-1))=true)→Q (none,n) (setArr st xs)) :
 SJ M A E s (forIn [a:nrem] ((none,a):Option (Option Nat)×Nat) fun _ __s=>do
  let __x ← ltAt' (lo+__s.snd) (lo+__s.snd-1)
  match __x with
  | some smaller=>if smaller=true then pure (LQ (none,__s.snd)) else pure (LN (none,__s.snd+1))
  | _=>pure (LQ (some none,__s.snd))) Q (setArr st xs):=by
 refine Mo (I:=fun x c st'=>st'=setArr st xs∧c=(none,x)∧Up C xs lo (lo+x)) ?step ?fin ⟨rfl,rfl,hs⟩
 case fin =>
  rintro c st' ⟨rfl,rfl,hs'⟩
  rw [show max a nrem=nrem by omega] at hs' ⊢
  exact h nrem han (Lg _) hs' (.inl rfl)
 case step =>
  rintro x c st' hax hxn ⟨rfl,rfl,hs'⟩
  dsimp only
  refine KY (kx hC g r.sb (by omega) (by omega) ?_)
  cases w:C (gk (LJ (setArr st xs)) (lo+x)) (gk (LJ (setArr st xs)) (lo+x-1)) with
  | true =>
   dsimp only
   rw [if_pos rfl]
   exact K4 (h x hax (by omega) hs' (.inr w))
  | false =>
   dsimp only
   rw [if_neg KU]
   refine K4 ⟨rfl,rfl,fun i j hi hij hj=>?_⟩
   by_cases hjx:j<lo+x
   ·exact hs' i j hi hij hjx
   ·have hj':j=lo+x:=by omega
    subst hj'
    by_cases hi':i=lo+x
    ·subst hi'; exact le_refl o _
    ·exact o.tr _ _ _ (hs' i (lo+x-1) hi (by omega) (by omega)) w
def FO (lo n nrem:Nat):StateT MW Sem (Option Nat):=do
 let mut n:=n
 rule "list.sort.descending-run"
 n:=n+1
 let mut neq:=0
 for _ in [n:nrem] do
  let some smaller ← ltAt' (lo+n) (lo+n-1) | return none
  if smaller then
   if neq > 0 then Ql (lo+n-(neq+1)) (lo+n)
   neq:=0
  else
   let some larger ← ltAt' (lo+n-1) (lo+n) | return none
   if larger then break
   neq:=neq+1
  n:=n+1
 if neq > 0 then Ql (lo+n-(neq+1)) (lo+n)
 Ql lo (lo+n)
 for _ in [n:nrem] do
  let some smaller ← ltAt' (lo+n) (lo+n-1) | return none
  if smaller then break
  n:=n+1
 return some n
theorem rl (hC:fG M A E s κ G C) (o:gP C) (g:Good G a₀) {nrem:Nat} {Q:Option Nat→SortSt→Prop} (hn:lo+nrem≤a₀.size) (hnn:n+1≤nrem) (r:Run κ a₀ st lo nrem xs) (hs:Dw C xs lo (lo+(n+1)))
    (h:∀ m ys,Run κ a₀ st lo nrem ys→1≤m→m≤nrem→Up C ys lo (lo+m)→Q (some m) (setArr st ys)):SJ M A E s (FO lo n nrem) Q (setArr st xs):=by
  have tail:∀ (m:Nat) (ys:Array Lb),Run κ a₀ st lo nrem ys→1≤m→m≤nrem→Dw C ys lo (lo+m)→Run κ a₀ st lo nrem (mirror ys lo (lo+m) ((lo+m-lo) / 2))∧Up C (mirror ys lo (lo+m) ((lo+m-lo) / 2)) lo (lo+m):=fun m ys r1 h1 h2 hd=>by
    refine ⟨r1.mirror (Lg _) (by omega) hn,fun i j hi hij hj=>?_⟩
    have hsz:lo+m≤ys.size:=by rw [r1.size]; omega
    rw [dr hsz,dr hsz,if_pos (by omega),if_pos (by omega)]
    exact hd _ _ (by omega) (by omega) (by omega)
  have eqv:∀ (ys:Array Lb) (m q:Nat),Run κ a₀ st lo nrem ys→m≤nrem→q+1≤m→Dw C ys lo (lo+m)→(∀ i j,lo+m-(q+1)≤i→i<lo+m→lo+m-(q+1)≤j→j<lo+m→Le C (gk ys i) (gk ys j))→Dw C (mirror ys (lo+m-(q+1)) (lo+m) ((lo+m-(lo+m-(q+1))) / 2)) lo (lo+m):=fun ys m q r1 h1 h2 hd he i j hi hij hj=>by
    have hsz:lo+m≤ys.size:=by rw [r1.size]; omega
    rw [dr hsz,dr hsz]
    repeat' split
    all_goals first
      | (exfalso; omega)
      | exact he _ _ (by omega) (by omega) (by omega) (by omega)
      | exact hd _ _ (by omega) (by omega) (by omega)
  unfold FO
  refine KY (Qv (N4 ⟨rfl,?_⟩))
  dsimp only
  refine KY (Np (Mo (I:=fun x (c:Option (Option Nat)×Nat×Nat) st'=>∃ neq ys,c=(none,x,neq)∧st'=setArr st ys∧Run κ a₀ st lo nrem ys∧Dw C ys lo (lo+x)∧neq+1≤x∧(∀ i j,lo+x-(neq+1)≤i→i<lo+x→lo+x-(neq+1)≤j→j<lo+x→Le C (gk ys i) (gk ys j)))
    (Q:=fun (c:Option (Option Nat)×Nat×Nat) st'=>∃ m neq ys,c=(none,m,neq)∧st'=setArr st ys∧Run κ a₀ st lo nrem ys∧1≤m∧m≤nrem∧Dw C ys lo (lo+m)∧neq+1≤m∧(∀ i j,lo+m-(neq+1)≤i→i<lo+m→lo+m-(neq+1)≤j→j<lo+m→Le C (gk ys i) (gk ys j))) ?step ?fin ?init) ?post)
  case init=>exact ⟨0,xs,rfl,rfl,r,hs,by omega,fun i j h1 h2 h3 h4=>yU o (by omega)⟩
  case fin =>
    rintro c st' ⟨neq,ys,rfl,rfl,r1,hd,h1,h2⟩
    rw [show max (n+1) nrem=nrem by omega] at hd h1 h2 ⊢
    exact ⟨nrem,neq,ys,rfl,rfl,r1,by omega,Lg _,hd,h1,h2⟩
  case step =>
    rintro x c st' hax hxn ⟨neq,ys,rfl,rfl,r1,hd,h1,h2⟩
    dsimp only
    refine KY (kx hC g r1.sb (by omega) (by omega) ?_)
    have one:∀ (zs:Array Lb) (i j:Nat),lo+(x+1)-(0+1)≤i→i<lo+(x+1)→lo+(x+1)-(0+1)≤j→j<lo+(x+1)→Le C (gk zs i) (gk zs j):=fun zs i j h1 h2 h3 h4=>by
      have:i=j:=by omega
      subst this; exact le_refl o _
    cases w:C (gk (LJ (setArr st ys)) (lo+x)) (gk (LJ (setArr st ys)) (lo+x-1)) with
    | true =>
      dsimp only
      rw [if_pos rfl]
      have grow:∀ zs:Array Lb,Dw C zs lo (lo+x)→gk zs (lo+x)=gk ys (lo+x)→Le C (gk ys (lo+x)) (gk zs (lo+x-1))→Dw C zs lo (lo+(x+1)):=fun zs hz e1 e2 i j hi hij hj=>by
        by_cases hjx:j<lo+x
        · exact hz i j hi hij hjx
        · have hj':j=lo+x:=by omega
          subst hj'
          by_cases hi':i=lo+x
          · subst hi'; exact le_refl o _
          · rw [e1]; exact o.tr _ _ _ e2 (hz i (lo+x-1) hi (by omega) (by omega))
      have w':C (gk ys (lo+x)) (gk ys (lo+x-1))=true:=w
      by_cases hq:neq > 0
      · rw [if_pos hq]
        refine KY (ku (K4 ⟨0,_,rfl,rfl,r1.mirror (by omega) (by omega) hn,grow _ (eqv ys x neq r1 (by omega) h1 hd h2) ?_ ?_,by omega,one _⟩))
        · rw [dr (show lo+x≤ys.size by rw [r1.size]; omega),if_neg (by omega)]
        · rw [dr (show lo+x≤ys.size by rw [r1.size]; omega),if_pos (by omega)]
          exact o.tr _ _ _ (le_of_lt o w') (h2 _ _ (by omega) (by omega) (by omega) (by omega))
      · rw [if_neg hq]
        exact K4 ⟨0,ys,rfl,rfl,r1,grow ys hd rfl (le_of_lt o w'),by omega,one _⟩
    | false =>
      dsimp only
      rw [if_neg KU]
      refine KY (kx hC g r1.sb (by omega) (by omega) ?_)
      cases w2:C (gk (LJ (setArr st ys)) (lo+x-1)) (gk (LJ (setArr st ys)) (lo+x)) with
      | true =>
        dsimp only
        rw [if_pos rfl]
        exact K4 ⟨x,neq,ys,rfl,rfl,r1,by omega,by omega,hd,h1,h2⟩
      | false =>
        dsimp only
        rw [if_neg KU]
        have w':Le C (gk ys (lo+x-1)) (gk ys (lo+x)):=w
        have w2':Le C (gk ys (lo+x)) (gk ys (lo+x-1)):=w2
        refine K4 ⟨neq+1,ys,rfl,rfl,r1,fun i j hi hij hj=>?_,by omega,fun i j a1 a2 a3 a4=>?_⟩
        · by_cases hjx:j<lo+x
          · exact hd i j hi hij hjx
          · have hj':j=lo+x:=by omega
            subst hj'
            by_cases hi':i=lo+x
            · subst hi'; exact le_refl o _
            · exact o.tr _ _ _ w2' (hd i (lo+x-1) hi (by omega) (by omega))
        · by_cases c1:i=lo+x
          · by_cases c2:j=lo+x
            · rw [c1,c2]; exact le_refl o _
            · rw [c1]; exact o.tr _ _ _ w2' (h2 _ _ (by omega) (by omega) (by omega) (by omega))
          · by_cases c2:j=lo+x
            · rw [c2]; exact o.tr _ _ _ (h2 _ _ (by omega) (by omega) (by omega) (by omega)) w'
            · exact h2 _ _ (by omega) (by omega) (by omega) (by omega)
  case post =>
    rintro c st' ⟨m,neq,ys,rfl,rfl,r1,hm1,hm2,hd,h1,h2⟩
    dsimp only
    by_cases hq:neq > 0
    · rw [if_pos hq]
      refine KY (ku ?_)
      have r2:=r1.mirror (i:=lo+m-(neq+1)) (j:=lo+m) (by omega) (by omega) hn
      obtain ⟨r3,u3⟩:=tail m _ r2 hm1 hm2 (eqv ys m neq r1 hm2 h1 hd h2)
      refine KY (ku ?_)
      exact KY (sI (st:=st) hC o g hn hm1 hm2 r3 u3 fun k a1 a2 a3 _=>K4 (h k _ r3 (by omega) a2 a3))
    · rw [if_neg hq]
      obtain ⟨r3,u3⟩:=tail m _ r1 hm1 hm2 hd
      refine KY (ku ?_)
      exact KY (sI (st:=st) hC o g hn hm1 hm2 r3 u3 fun k a1 a2 a3 _=>K4 (h k _ r3 (by omega) a2 a3))
theorem zA (hC:fG M A E s κ G C) (o:gP C) (g:Good G a₀) {nrem:Nat} {Q:Option Nat→MW→Prop} (hn:lo+nrem≤a₀.size) (h1:1≤nrem) (hB:SB κ a₀ st)
    (h:∀ m ys,Run κ a₀ st lo nrem ys→1≤m→m≤nrem→Up C ys lo (lo+m)→Q (some m) (setArr st ys)):SJ M A E s (countRun' lo nrem) Q st:=by
  rw [countRun'_eq]
  dsimp only
  have r0:Run κ a₀ st lo nrem (LJ st):=⟨hB,fun _ _=>rfl⟩
  have hst:setArr st (LJ st)=st:=rfl
  refine KY (sI (st:=st) (xs:=LJ st) hC o g hn (Lg 1) h1 r0 (fun i j hi hij hj=>yU o (by omega)) fun n a1 a2 a3 a4=>?_)
  dsimp only
  by_cases hnn:n=nrem
  · rw [if_pos (by simpa using hnn)]
    exact K4 (h n _ r0 a1 a2 a3)
  rw [if_neg (by simpa using hnn)]
  have hlt:=a4.resolve_left hnn
  by_cases hgt:n > 1
  · rw [if_pos hgt]
    refine KY (kx hC g hB (by omega) (by omega) ?_)
    cases w:C (gk (LJ st) lo) (gk (LJ st) (lo+n-1)) with
    | true =>
      dsimp only
      rw [if_pos rfl]
      exact K4 (h n _ r0 a1 a2 a3)
    | false =>
      dsimp only
      rw [if_neg KU]
      have eqv:∀ i j,lo≤i→i<lo+n→lo≤j→j<lo+n→Le C (gk (LJ st) i) (gk (LJ st) j):=fun i j h1 h2 h3 h4 =>
        o.tr _ _ _ (a3 i (lo+n-1) h1 (by omega) (by omega)) (o.tr _ _ _ w (a3 lo j (Lg _) h3 h4))
      refine KY (ku ?_)
      have hsz:lo+n≤(LJ st).size:=by rw [hB.size]; omega
      refine rl (lo:=lo) (n:=n) hC o g hn (by omega) (r0.mirror (Lg _) (by omega) hn) (fun i j hi hij hj=>?_) h
      rw [dr hsz,dr hsz]
      repeat' split
      all_goals first
        | (exfalso; omega)
        | exact eqv _ _ (by omega) (by omega) (by omega) (by omega)
        | exact le_refl o _
        | (have hj':j=lo+n:=by omega
           subst hj'
           exact o.tr _ _ _ (le_of_lt o hlt) (eqv _ _ (by omega) (by omega) (by omega) (by omega)))
        | (have:i=j:=by omega
           subst this; exact le_refl o _)
  · rw [if_neg hgt]
    have hn1:n=1:=by omega
    subst hn1
    refine rl (lo:=lo) (n:=1) (xs:=LJ st) hC o g hn (by omega) r0 (fun i j hi hij hj=>?_) h
    by_cases hi':i=j
    · subst hi'; exact le_refl o _
    · have hi0:i=lo:=by omega
      have hj1:j=lo+1:=by omega
      subst hi0; subst hj1
      exact le_of_lt o hlt
end
theorem vq (i:Nat):mergeAt' i=(do
 let s ← get
 let (some (sa,na,power),some (sb,nb,_)):=((Ly s)[i]?,(Ly s)[i+1]?) | unsupported "internal:list.sort.pending"
 set (OO s (((Ly s).setIfInBounds i (sa,na+nb,power)).eraseIdxIfInBounds (i+1)))
 let some k ← d7 false (← Ni (LJ s) sb) (LJ s) sa na 0 | return false
 let (sa,na):=(sa+k,na-k)
 if na==0 then return true
 let some nb ← d7 true (← Ni (LJ s) (sa+na-1)) (LJ s) sb nb (nb-1) | return false
 if nb==0 then return true
 let x:=(LJ s).extract sa sb
 let y:=(LJ s).extract sb (sb+nb)
 let merged ← if na≤nb then pQ x y else pR x y
 modify fun s=>setArr s (merged.toList.zipIdx.foldl (fun a (p,j)=>a.setIfInBounds (sa+j) p) (LJ s))
 return (Pm (← get)).isNone):=rfl
section
variable {M:RN} {A:L4} {E:KD→KJ→Prop} {s:KJ} {κ:MU} {G:Lb→Prop} {C:Lb→Lb→Bool} {a₀:Array Lb}
theorem DO {σ:Type} {x:σ} {Q:PUnit→σ→Prop} {st:σ} (h:Q ⟨⟩ x):SJ M A E s (set x:StateT σ Sem PUnit) Q st:=by
 unfold SJ; rw [StateT.run_set]; exact Lp ⟨rfl,h⟩
theorem y9 (xs:Array Lb) (k:Nat):gk xs k=(xs.toList[k]?).getD (.none,.none):=by unfold gk; rw [Ms]
theorem ji {i:Nat} (h:lo+n≤xs.size) (hi:i<n):((xs.toList.drop lo).take n)[i]?=some (gk xs (lo+i)):=by
 rw [NI hi,N7,Ms]
 exact gv (by omega)
theorem jh (h:lo+n≤xs.size):((xs.toList.drop lo).take n).length=n:=by
 rw [Mj,LW,KR]; omega
theorem lZ (o:gP C) (h:lo+n≤xs.size) (sr:rh C ((xs.toList.drop lo).take n)):Up C xs lo (lo+n):=fun i j hi hij hj=>by
 have e1:=ji (i:=i-lo) h (by omega)
 have e2:=ji (i:=j-lo) h (by omega)
 rw [show lo+(i-lo)=i by omega] at e1
 rw [show lo+(j-lo)=j by omega] at e2
 exact sY o sr (by omega) e1 e2
theorem rD (h:lo+n≤xs.size) (u:Up C xs lo (lo+n)):rh C ((xs.toList.drop lo).take n):=by
 refine OD.mpr fun i j hi hj hij=>?_
 rw [jh h] at hi hj
 have e1:=ji (i:=i) h hi
 have e2:=ji (i:=j) h hj
 rw [Kv (by rw [jh h]; exact hi)] at e1
 rw [Kv (by rw [jh h]; exact hj)] at e2
 rw [Lz e1,Lz e2]
 exact u _ _ (by omega) (by omega) (by omega)
theorem yK (p:Nat):∀ (l:List Lb) (n:Nat) (xs:Array Lb),p+n+l.length≤xs.size→((l.zipIdx n).foldl (fun a q=>a.setIfInBounds (p+q.2) q.1) xs).toList=xs.toList.take (p+n)++l++xs.toList.drop (p+n+l.length)
 | [],n,xs,_=>by
  show xs.toList=_
  rw [Mb,Mm,Nat.add_zero,LS]
 | x::l,n,xs,h=>by
  rw [Lo] at h
  rw [List.zipIdx_cons,Pt,yK p l (n+1) _ (by rw [Array.size_setIfInBounds]; omega),P1]
  have hl:p+n<xs.toList.length:=by rw [KR]; omega
  rw [show p+(n+1)=p+n+1 by omega,Qf,List.take_set_of_le (Lg _),Mw hl,List.drop_set_of_lt (by omega),Lo]
  show xs.toList.take (p+n)++[x]++l++_=xs.toList.take (p+n)++(x::l)++_
  rw [show p+n+1+l.length=p+n+(l.length+1) by omega]
  simp
theorem uK (hC:fG M A E s κ G C) (o:gP C) (g:Good G a₀) {i sa sb pw pw2:Nat} {L1 L2:List (Nat×Nat×Nat)} (hB:SB κ a₀ st) (hp:(pendingOf st).toList=L1++(sa,na,pw)::(sb,nb,pw2)::L2) (hi:L1.length=i)
    (hab:sb=sa+na) (hna:0<na) (hnb:0<nb) (hsz:sb+nb≤a₀.size) (ua:Up C (LJ st) sa sb) (ub:Up C (LJ st) sb (sb+nb))
    (h:∀ st',SB κ a₀ st'→(Ly st').toList=L1++(sa,na+nb,pw)::L2→(∀ k,k<sa∨sb+nb≤k→gk (LJ st') k=gk (LJ st) k)→Up C (LJ st') sa (sa+(na+nb))→Q true st'):SJ M A E s (mergeAt' i) Q st:=by
  subst hab
  have hs0:=hB.size
  generalize hxs:LJ st=xs at *
  rw [vq]
  refine KY (O0 ?_)
  have e1:(Ly st)[i]?=some (sa,na,pw):=by
    rw [← Ms,hp,← hi,Ln (Lg _),PN]; rfl
  have e2:(Ly st)[i+1]?=some (sa+na,nb,pw2):=by
    rw [← Ms,hp,← hi,Ln (by omega),show L1.length+1-L1.length=1 by omega]; rfl
  rw [e1,e2]
  dsimp only
  refine KY (DO ?_)
  generalize hst1:OO st (((Ly st).setIfInBounds i (sa,na+nb,pw)).eraseIdxIfInBounds (i+1))=st1
  have hP:(Ly st1).toList=L1++(sa,na+nb,pw)::L2:=by
    rw [← hst1]
    show (((Ly st).setIfInBounds i (sa,na+nb,pw)).eraseIdxIfInBounds (i+1)).toList=_
    rw [Array.toList_eraseIdxIfInBounds,P1,hp,← hi,O8 _ _ (Lg _),PN,List.eraseIdx_append_of_length_le (by omega),show L1.length+1-L1.length=1 by omega]
    rfl
  have hA1:LJ st1=xs:=by rw [← hst1]; exact hxs
  have hB1:SB κ a₀ st1:=by rw [← hst1]; exact ⟨hB.perm,hB.kind,hB.failed⟩
  have hk1:kindOf st1=κ:=hB1.kind
  clear hst1 e1 e2 hp
  rw [hxs]
  let sg (lo n:Nat):List Lb:=(xs.toList.drop lo).take n
  have gs:∀ x∈xs.toList,G x:=fun x hx=>g x ((Nw.mp (hxs ▸ hB.perm)).mem_iff.mp hx)
  have sA:=rD (n:=na) (by omega) ua
  have sB:=rD (n:=nb) (by omega) ub
  have hb0:sa+na<xs.size:=by omega
  have eB:(xs.toList.drop (sa+na)).take nb=gk xs (sa+na)::((xs.toList.drop (sa+na)).take nb).drop 1:=by
    have:=ji (xs:=xs) (lo:=sa+na) (n:=nb) (i:=0) (by omega) hnb
    cases q:(xs.toList.drop (sa+na)).take nb with
    | nil=>rw [q] at this; cases this
    | cons a r=>rw [q] at this; rw [show gk xs (sa+na)=a from (Lz this).symm]; rfl
  refine KY (aR (gv hb0) ?_)
  have gb0:G (gk xs (sa+na)):=gs _ (by have:=gv hb0; rw [← Ms] at this; exact LI this)
  refine KY (fY hC o (seg:=(xs.toList.drop sa).take na) hk1 gb0 rfl (jh (by omega)) sA (fun x hx=>gs x (MJ (L5 hx))) hna fun k hk b1 b2=>?_)
  generalize hLA:(xs.toList.drop sa).take na=LA at *
  generalize hLB:(xs.toList.drop (sa+na)).take nb=LB at *
  have lA:LA.length=na:=by rw [← hLA]; exact jh (by omega)
  have lB:LB.length=nb:=by rw [← hLB]; exact jh (by omega)
  have b1:∀ x∈LA.take k,∀ y∈LB,Le C x y:=fun x hx y hy=>by
    have:=b1 x hx
    unfold uA at this
    rw [eB] at hy sB
    exact le_head o (show Le C x _ by unfold Le; simpa using this) sB y hy
  have b2:∀ x∈LA.drop k,Le C (gk xs (sa+na)) x:=fun x hx=>by
    have:=b2 x hx
    unfold uA at this
    exact le_of_lt o (by simpa using this)
  have hsplit:xs.toList=xs.toList.take sa++(LA++(LB++xs.toList.drop (sa+na+nb))):=by
    rw [← hLA,← hLB]
    conv=>lhs; rw [← LS sa xs.toList]
    congr 1
    conv=>lhs; rw [← LS na (xs.toList.drop sa),M5]
    congr 1
    conv=>lhs; rw [← LS nb (xs.toList.drop (sa+na)),M5]
  have both:((xs.toList.drop sa).take (na+nb))=LA++LB:=by
    rw [← hLA,← hLB,Ti,M5]
  dsimp only
  have same:Up C xs sa (sa+(na+nb))→Q true st1:=fun u=>h st1 hB1 hP (fun k _=>by rw [hA1]) (by rw [hA1]; exact u)
  by_cases q1:(na-k==0)=true
  · rw [if_pos q1]
    have ek:k=na:=by simp at q1; omega
    refine K4 (same (lZ o (by omega) ?_))
    rw [both]
    refine K8.mpr ⟨sA,sB,fun x hx y hy=>b1 x ?_ y hy⟩
    rw [ek,Mn (by omega)]; exact hx
  rw [if_neg q1]
  have q1:0<na-k:=by simp at q1; omega
  have hlast:sa+k+(na-k)-1<xs.size:=by omega
  refine KY (aR (gv hlast) ?_)
  have elast:LA[na-1]?=some (gk xs (sa+k+(na-k)-1)):=by
    have:=ji (xs:=xs) (lo:=sa) (n:=na) (i:=na-1) (by omega) (by omega)
    rw [hLA] at this
    rw [this,show sa+(na-1)=sa+k+(na-k)-1 by omega]
  generalize hal:gk xs (sa+k+(na-k)-1)=al at *
  have mal:al∈LA:=LI elast
  have gal:G al:=gs _ (by rw [hsplit]; exact KA _ (K3 _ mal))
  have toal:∀ x∈LA,Le C x al:=fun x hx=>by
    obtain ⟨j,hj⟩:=Mp hx
    have:=(Lj.mp hj).1
    exact sY o sA (by omega) hj elast
  refine KY (fY hC o (seg:=LB) hk1 gal hLB.symm lB sB (fun x hx=>gs x (by rw [hsplit]; exact KA _ (KA _ (K3 _ hx)))) (by omega) fun k2 hk2 d1 d2=>?_)
  have d1:∀ y∈LB.take k2,Le C y al:=fun y hy=>le_of_lt o (d1 y hy)
  have d2:∀ y∈LB.drop k2,Le C al y:=d2
  dsimp only
  by_cases q2:(k2==0)=true
  · rw [if_pos q2]
    have ek:k2=0:=by simpa using q2
    refine K4 (same (lZ o (by omega) ?_))
    rw [both]
    refine K8.mpr ⟨sA,sB,fun x hx y hy=>o.tr x al y (toal x hx) (d2 y ?_)⟩
    rw [ek,Ot]; exact hy
  rw [if_neg q2]
  have q2:0<k2:=by simp at q2; omega
  have ex:(xs.extract (sa+k) (sa+na)).toList=LA.drop k:=by
    rw [ext_toList,← hLA,Rp,M5,show sa+na-(sa+k)=na-k by omega]
  have ey:(xs.extract (sa+na) (sa+na+k2)).toList=LB.take k2:=by
    rw [ext_toList,← hLB,Ou,Ob hk2,show sa+na+k2-(sa+na)=k2 by omega]
  have lx:(xs.extract (sa+k) (sa+na)).size=na-k:=by rw [← KR,ex,LW,lA]
  have ly:(xs.extract (sa+na) (sa+na+k2)).size=k2:=by rw [← KR,ey,Mj,lB]; omega
  have sA':=sA
  rw [← LS k LA] at sA'
  obtain ⟨sA1,sA2,sA3⟩:=K8.mp sA'
  have sB':=sB
  rw [← LS k2 LB] at sB'
  obtain ⟨sB1,sB2,sB3⟩:=K8.mp sB'
  have t:HU G C (xs.extract (sa+k) (sa+na)) (xs.extract (sa+na) (sa+na+k2)):=by
    refine ⟨fun x hx=>?_,fun x hx=>?_,by rw [ex]; exact sA2,by rw [ey]; exact sB1,fun h0 x hx=>?_,fun y hy x hx=>?_⟩
    · rw [ex] at hx; exact gs x (by rw [hsplit]; exact KA _ (K3 _ (MJ hx)))
    · rw [ey] at hx; exact gs x (by rw [hsplit]; exact KA _ (KA _ (K3 _ (L5 hx))))
    · rw [ex] at hx
      have:(xs.extract (sa+na) (sa+na+k2))[0]=gk xs (sa+na):=by
        rw [Array.getElem_extract]
        have:=gv hb0
        rw [K9 hb0] at this
        exact Lz this
      rw [this]
      exact b2 x hx
    · rw [ey] at hy
      rw [ex,lx] at hx
      have:x=al:=by
        obtain ⟨j,hj⟩:=Mp hx
        have hlt:=(Lj.mp hj).1
        rw [LW,LW,lA] at hlt
        rw [N7,N7,show k+(na-k-1+j)=na-1 by omega,elast] at hj
        exact (Lz hj).symm
      rw [this]
      exact d1 y hy
  have fin:∀ (r:Array Lb) (gg:Nat),Dn C (xs.extract (sa+k) (sa+na)) (xs.extract (sa+na) (sa+na+k2)) r→SJ M A E s (do
      modify fun s=>setArr s (r.toList.zipIdx.foldl (fun a (x:Lb×Nat)=>match x with | (p,j)=>a.setIfInBounds (sa+k+j) p) (LJ s))
      let x ← get
      pure (Pm x).isNone) Q (setG st1 gg):=fun r gg d=>by
    have d:Done C (LA.drop k++LB.take k2) r.toList:=by have d':=d; unfold Dn at d'; rw [ex,ey] at d'; exact d'
    have lr:r.toList.length=na-k+k2:=by rw [d.2.length_eq,K0,LW,Mj,lA,lB]; omega
    have efold:(r.toList.zipIdx.foldl (fun a (x:Lb×Nat)=>match x with | (p,j)=>a.setIfInBounds (sa+k+j) p) xs).toList=xs.toList.take (sa+k)++r.toList++xs.toList.drop (sa+k+r.toList.length):=by
      have:=yK (sa+k) r.toList 0 xs (by omega)
      rw [Nat.add_zero] at this
      exact this
    generalize hys:(r.toList.zipIdx.foldl (fun a (x:Lb×Nat)=>match x with | (p,j)=>a.setIfInBounds (sa+k+j) p) xs)=ys at efold
    have t1:xs.toList.take (sa+k)=xs.toList.take sa++LA.take k:=by
      rw [Ti,← hLA,Ou,Ob (by omega)]
    have t2:xs.toList.drop (sa+k+r.toList.length)=LB.drop k2++xs.toList.drop (sa+na+nb):=by
      have e3:xs.toList.drop (sa+na+nb)=(xs.toList.drop (sa+na+k2)).drop (nb-k2):=by rw [M5,show sa+na+k2+(nb-k2)=sa+na+nb by omega]
      rw [lr,show sa+k+(na-k+k2)=sa+na+k2 by omega,← hLB,Rp,M5,e3,LS]
    have eys:ys.toList=xs.toList.take sa++(LA.take k++(r.toList++(LB.drop k2++xs.toList.drop (sa+na+nb)))):=by
      rw [efold,t1,t2]; simp
    generalize hPRE:xs.toList.take sa=PRE at *
    generalize hRST:xs.toList.drop (sa+na+nb)=RST at *
    have lPRE:PRE.length=sa:=by rw [← hPRE,Mj,KR]; omega
    have e:LA++(LB++RST)=LA.take k++((LA.drop k++LB.take k2)++(LB.drop k2++RST)):=by
      rw [Lx (LA.drop k),← Lx (LB.take k2),LS,← Lx (LA.take k),LS]
    have pm:ys.toList.Perm xs.toList:=by
      rw [eys,hsplit,e]
      exact Nz _ (Nz _ (List.Perm.append d.2 (P0 _)))
    have lmid:(LA.take k++(r.toList++LB.drop k2)).length=na+nb:=by
      rw [K0,K0,Mj,LW,lr,lA,lB]; omega
    have eys2:ys.toList=PRE++((LA.take k++(r.toList++LB.drop k2))++RST):=by rw [eys]; simp
    have exs2:xs.toList=PRE++((LA++LB)++RST):=by rw [hsplit]; simp
    have lys:ys.size=xs.size:=by rw [← KR,← KR]; exact pm.length_eq
    refine KY (M6 (KY (O0 (K4 ?_))))
    show Q (Pm st1).isNone _
    rw [hB1.failed]
    have harr:LJ (setG st1 gg)=xs:=hA1
    rw [harr,hys]
    refine h _ ⟨?_,hB1.kind,hB1.failed⟩ hP (fun j hj=>?_) ?_
    · refine (Nw.mpr ?_:Array.Perm ys xs).trans (hxs ▸ hB.perm)
      exact pm
    · show gk ys j=gk xs j
      rw [y9,y9,eys2,exs2]
      rcases hj with hj | hj
      · rw [LK (by omega),LK (by omega)]
      · rw [Ln (by omega),Ln (by omega),Ln (by omega),Ln (by rw [K0]; omega),lmid,K0,lA,lB]
    · show Up C ys sa (sa+(na+nb))
      refine lZ o (by omega) ?_
      rw [eys2,List.drop_append_of_le_length (by omega),Nt (by omega),Nm,← lmid,List.take_left']
      · refine K8.mpr ⟨sA1,K8.mpr ⟨d.1,sB2,fun x hx y hy=>?_⟩,fun x hx y hy=>?_⟩
        · rcases KS.mp (d.2.mem_iff.mp hx) with z | z
          · exact o.tr x al y (toal x (MJ z)) (d2 y hy)
          · exact sB3 x z y hy
        · rcases KS.mp hy with z | z
          · rcases KS.mp (d.2.mem_iff.mp z) with z | z
            · exact sA3 x hx y z
            · exact b1 x hx y (L5 z)
          · exact b1 x hx y (MJ z)
      · rfl
  by_cases q3:na-k≤k2
  · rw [if_pos q3]
    refine KY (uI hC o t hk1 (by omega) (by omega) fun r gg d=>?_)
    exact fin r gg d
  · rw [if_neg q3]
    refine KY (uJ hC o t hk1 (by omega) (by omega) fun r gg d=>?_)
    exact fin r gg d
end
def mC (st:MW):List (Nat×Nat):=(Ly st).toList.map fun q=>(q.1,q.2.1)
def Runs (C:Lb→Lb→Bool) (xs:Array Lb):Nat→List (Nat×Nat)→Nat→Prop
 | a,[],e=>a=e
 | a,q::r,e=>q.1=a∧0<q.2∧Up C xs a (a+q.2)∧Runs C xs (a+q.2) r e
section
variable {C:Lb→Lb→Bool}
theorem Runs.le {xs:Array Lb}:∀ {l:List (Nat×Nat)} {a e:Nat},Runs C xs a l e→a+l.length≤e
 | [],a,e,h=>by have h:a=e:=h; simp; omega
 | q::r,a,e,h=>by
  have:=Runs.le h.2.2.2
  have:=h.2.1
  rw [Lo]
  omega
theorem Runs.app {xs:Array Lb}:∀ {l1 l2:List (Nat×Nat)} {a e:Nat},Runs C xs a (l1++l2) e↔∃ m,Runs C xs a l1 m∧Runs C xs m l2 e
 | [],l2,a,e=>⟨fun h=>⟨a,rfl,h⟩,fun ⟨m,h1,h2⟩=>by have h1:a=m:=h1; subst h1; exact h2⟩
 | q::l1,l2,a,e=>by
  constructor
  ·rintro ⟨h1,h2,h3,h4⟩
   obtain ⟨m,k1,k2⟩:=Runs.app.mp h4
   exact ⟨m,⟨h1,h2,h3,k1⟩,k2⟩
  ·rintro ⟨m,⟨h1,h2,h3,k1⟩,k2⟩
   exact ⟨h1,h2,h3,Runs.app.mpr ⟨m,k1,k2⟩⟩
theorem Up.congr {ys:Array Lb} {hi:Nat} (h:Up C xs lo hi) (e:∀ k,lo≤k→k<hi→gk ys k=gk xs k):Up C ys lo hi:=fun i j hi' hij hj=>by
 rw [e i hi' (by omega),e j (by omega) hj]; exact h i j hi' hij hj
theorem Runs.congr {xs ys:Array Lb}:∀ {l:List (Nat×Nat)} {a e:Nat},Runs C xs a l e→(∀ k,a≤k→k<e→gk ys k=gk xs k)→Runs C ys a l e
 | [],a,e,h,_=>h
 | q::r,a,e,h,g=>by
  have:=Runs.le h.2.2.2
  exact ⟨h.1,h.2.1,h.2.2.1.congr fun k h1 h2=>g k h1 (by omega),Runs.congr h.2.2.2 fun k h1 h2=>g k (by omega) h2⟩
theorem Gi {α:Type} {l:List α} {i:Nat} (h:i+1<l.length):∃ L1 a b L2,l=L1++a::b::L2∧L1.length=i:=by
 refine ⟨l.take i,l[i],l[i+1],l.drop (i+2),?_,by rw [Mj]; omega⟩
 conv=>lhs; rw [← LS i l,Lq (by omega),Lq (by omega)]
variable {M:RN} {A:L4} {E:KD→KJ→Prop} {s:KJ} {κ:MU} {G:Lb→Prop} {a₀:Array Lb}
theorem gI (hC:fG M A E s κ G C) (o:gP C) (g:Good G a₀) {i e:Nat} (hB:SB κ a₀ st) (hr:Runs C (LJ st) 0 (mC st) e) (he:e≤a₀.size) (hi:i+1<(Ly st).size)
 (h:∀ st',SB κ a₀ st'→Runs C (LJ st') 0 (mC st') e→(∀ k,e≤k→gk (LJ st') k=gk (LJ st) k)→(Ly st').size+1=(Ly st).size→Q true st'):SJ M A E s (mergeAt' i) Q st:=by
 obtain ⟨L1,⟨sa,na,pw⟩,⟨sb,nb,pw2⟩,L2,hp,hl⟩:=Gi (l:=(Ly st).toList) (i:=i) (by rw [KR]; exact hi)
 have hr':=hr
 unfold mC at hr'
 rw [hp,Li] at hr'
 obtain ⟨m,r1,r2⟩:=Runs.app.mp hr'
 obtain ⟨ea,h1,ua,eb,h2,ub,r3⟩:=r2
 have ea:sa=m:=ea
 have eb:sb=m+na:=eb
 have h1:0<na:=h1
 have h2:0<nb:=h2
 have ua:Up C (LJ st) m (m+na):=ua
 have ub:Up C (LJ st) (m+na) (m+na+nb):=ub
 have r3:Runs C (LJ st) (m+na+nb) (L2.map fun q=>(q.1,q.2.1)) e:=r3
 have l1:0+(L1.map fun q=>(q.1,q.2.1)).length≤m:=Runs.le r1
 have l3:m+na+nb+(L2.map fun q=>(q.1,q.2.1)).length≤e:=Runs.le r3
 subst ea
 subst eb
 refine uK hC o g hB hp hl rfl h1 h2 (by omega) ua ub fun st' hB' hp' ho hu=>h st' hB' ?_ (fun k hk=>ho k (by omega)) ?_
 ·unfold mC
  rw [hp',Li]
  refine Runs.app.mpr ⟨sa,r1.congr fun k a1 a2=>ho k (.inl a2),rfl,?_,hu,?_⟩
  ·show 0<na+nb; omega
  ·show Runs C (LJ st') (sa+(na+nb)) _ e
   rw [← Nat.add_assoc]
   exact r3.congr fun k a1 a2=>ho k (.inr a1)
 ·rw [← KR,← KR,hp,hp']
  simp; omega
theorem Ef (c:Prop) [Decidable c] (h:¬ n≤1):(if c then n-2-1 else n-2)+1<n:=by split <;> omega
theorem pT {α β:Type} (g:α→β) (f:α→α) (h:∀ x,g (f x)=g x) (l:List α) (i:Nat):(l.modify i f).map g=l.map g:=by
 refine O1 fun j=>?_
 rw [KO,KO,List.getElem?_modify]
 cases l[j]? with
 | none=>rfl
 | some x =>
  show some (g (if i=j then f x else x))=some (g x)
  split
  ·rw [h]
  ·rfl
theorem Bo (hC:fG M A E s κ G C) (o:gP C) (g:Good G a₀) {Q:Unit→SortSt→Prop} (hB:SB κ a₀ st) (hp:pendingOf st=#[]) (h2:2≤a₀.size)
    (h:∀ st',(LJ st').Perm a₀→Pm st'=none→Up C (LJ st') 0 a₀.size→Q () st'):SJ M A E s sortRuns' Q st:=by
  rw [sortRuns'_eq]
  refine KY (O0 ?_)
  dsimp only
  simp only [hB.size]
  generalize minRun' a₀.size a₀.size 0=mr
  refine KY (Np (Mo
    (I:=fun x (c:Option Unit×Nat) st'=>∃ lo,c=(none,lo)∧SB κ a₀ st'∧Runs C (LJ st') 0 (mC st') lo∧lo≤a₀.size∧min x a₀.size≤lo)
    (Q:=fun (c:Option Unit×Nat) st'=>c=(none,a₀.size)∧SB κ a₀ st'∧Runs C (LJ st') 0 (mC st') a₀.size) ?step ?fin ?init) ?post)
  case init=>exact ⟨0,rfl,hB,by unfold mC; rw [hp]; rfl,LL _,by omega⟩
  case fin =>
    rintro c st' ⟨lo,rfl,hB',hr,h1,h3⟩
    have:lo=a₀.size:=by omega
    subst this
    exact ⟨rfl,hB',hr⟩
  case step =>
    rintro x c st' _ hx ⟨lo,rfl,hB',hr,h1,h3⟩
    dsimp only
    by_cases c1:lo ≥ a₀.size
    · rw [if_pos c1]
      have:lo=a₀.size:=by omega
      subst this
      exact K4 ⟨rfl,hB',hr⟩
    rw [if_neg c1]
    refine KY (zA hC o g (by omega) (by omega) hB' fun m ys r1 m1 m2 u1=>?_)
    dsimp only
    by_cases c2:m<mr
    · rw [if_pos c2]
      refine KY (Qv (N4 ⟨rfl,?_⟩))
      refine KY (wD hC o g (by omega) (by omega) r1.sb u1 fun zs sz oz hz=>?_)
      rw [if_neg (by decide)]
      have rz:Run κ a₀ st' lo (a₀.size-lo) zs:=⟨sz,fun k hk=>(oz k (by omega)).trans (r1.out k hk)⟩
      have ho:=rz.out
      have hr2:Runs C (LJ (setArr st' zs)) 0 (mC (setArr st' zs)) lo:=Runs.congr (l:=mC st') hr fun k _ h2=>ho k (.inl h2)
      have push:∀ st2:MW,SB κ a₀ st2→Runs C (LJ st2) 0 (mC st2) lo→Up C (LJ st2) lo (lo+(min (a₀.size-lo) mr))→(∃ lo',((none,lo+(min (a₀.size-lo) mr)):Option Unit×Nat)=(none,lo')∧SB κ a₀ (OO st2 ((Ly st2).push (lo,(min (a₀.size-lo) mr),0)))∧Runs C (LJ (OO st2 ((Ly st2).push (lo,(min (a₀.size-lo) mr),0)))) 0 (mC (OO st2 ((Ly st2).push (lo,(min (a₀.size-lo) mr),0)))) lo'∧lo'≤a₀.size∧min (x+1) a₀.size≤lo'):=fun st2 hb hr hu=>by
        refine ⟨lo+(min (a₀.size-lo) mr),rfl,⟨hb.perm,hb.kind,hb.failed⟩,?_,by omega,by omega⟩
        unfold mC
        show Runs C (LJ st2) 0 (((Ly st2).push (lo,(min (a₀.size-lo) mr),0)).toList.map fun q=>(q.1,q.2.1)) (lo+(min (a₀.size-lo) mr))
        rw [NG,Li]
        exact Runs.app.mpr ⟨lo,hr,rfl,by show 0<(min (a₀.size-lo) mr); omega,hu,rfl⟩
      refine KY (O0 ?_)
      cases hb:(Ly (setArr st' zs)).back? with
      | none=>exact KY (M6 (K4 (push _ rz.sb hr2 hz)))
      | some q =>
        obtain ⟨s1,n1,p1⟩:=q
        dsimp only
        refine KY (Np (Mo
          (I:=fun y (c:Option Unit×Unit) st2=>c=(none,())∧SB κ a₀ st2∧Runs C (LJ st2) 0 (mC st2) lo∧Up C (LJ st2) lo (lo+(min (a₀.size-lo) mr)))
          (Q:=fun (c:Option Unit×Unit) st2=>c=(none,())∧SB κ a₀ st2∧Runs C (LJ st2) 0 (mC st2) lo∧Up C (LJ st2) lo (lo+(min (a₀.size-lo) mr))) ?_ (fun _ _ hh=>hh) ⟨rfl,rz.sb,hr2,hz⟩) ?_)
        · rintro y c st2 _ _ ⟨rfl,hb2,hr3,hu⟩
          refine KY (O0 ?_)
          by_cases q1:(Ly st2).size > 1
          · rw [if_pos q1,K9 (show (Ly st2).size-2<(Ly st2).size by omega)]
            generalize (Ly st2)[(Ly st2).size-2]'(show (Ly st2).size-2<(Ly st2).size by omega)=pq
            obtain ⟨p1,p2,p3⟩:=pq
            dsimp only
            split
            · exact K4 ⟨rfl,hb2,hr3,hu⟩
            · refine KY (gI hC o g hb2 hr3 h1 (by omega) fun st3 hb3 hr4 ho3 _=>?_)
              exact K4 ⟨rfl,hb3,hr4,hu.congr fun k a1 a2=>ho3 k a1⟩
          · rw [if_neg q1]
            exact K4 ⟨rfl,hb2,hr3,hu⟩
        · rintro c st2 ⟨rfl,hb2,hr3,hu⟩
          dsimp only
          refine KY (M6 (KY (M6 (K4 (push _ ⟨hb2.perm,hb2.kind,hb2.failed⟩ ?_ hu)))))
          show Runs C (LJ st2) 0 (((Ly st2).modify ((Ly st2).size-1) _).toList.map fun q=>(q.1,q.2.1)) lo
          rw [RF]
          refine Eq.mpr (congrArg (fun l=>Runs C (LJ st2) 0 l lo) (pT _ _ ?_ _ _)) hr3
          intro x
          rfl
    · rw [if_neg c2]
      have rz:=r1
      have ho:=rz.out
      have hz:=u1
      generalize ys=zs at *
      have hr2:Runs C (LJ (setArr st' zs)) 0 (mC (setArr st' zs)) lo:=Runs.congr (l:=mC st') hr fun k _ h2=>ho k (.inl h2)
      have push:∀ st2:MW,SB κ a₀ st2→Runs C (LJ st2) 0 (mC st2) lo→Up C (LJ st2) lo (lo+m)→(∃ lo',((none,lo+m):Option Unit×Nat)=(none,lo')∧SB κ a₀ (OO st2 ((Ly st2).push (lo,m,0)))∧Runs C (LJ (OO st2 ((Ly st2).push (lo,m,0)))) 0 (mC (OO st2 ((Ly st2).push (lo,m,0)))) lo'∧lo'≤a₀.size∧min (x+1) a₀.size≤lo'):=fun st2 hb hr hu=>by
        refine ⟨lo+m,rfl,⟨hb.perm,hb.kind,hb.failed⟩,?_,by omega,by omega⟩
        unfold mC
        show Runs C (LJ st2) 0 (((Ly st2).push (lo,m,0)).toList.map fun q=>(q.1,q.2.1)) (lo+m)
        rw [NG,Li]
        exact Runs.app.mpr ⟨lo,hr,rfl,by show 0<m; omega,hu,rfl⟩
      refine KY (O0 ?_)
      cases hb:(Ly (setArr st' zs)).back? with
      | none=>exact KY (M6 (K4 (push _ rz.sb hr2 hz)))
      | some q =>
        obtain ⟨s1,n1,p1⟩:=q
        dsimp only
        refine KY (Np (Mo
          (I:=fun y (c:Option Unit×Unit) st2=>c=(none,())∧SB κ a₀ st2∧Runs C (LJ st2) 0 (mC st2) lo∧Up C (LJ st2) lo (lo+m))
          (Q:=fun (c:Option Unit×Unit) st2=>c=(none,())∧SB κ a₀ st2∧Runs C (LJ st2) 0 (mC st2) lo∧Up C (LJ st2) lo (lo+m)) ?_ (fun _ _ hh=>hh) ⟨rfl,rz.sb,hr2,hz⟩) ?_)
        · rintro y c st2 _ _ ⟨rfl,hb2,hr3,hu⟩
          refine KY (O0 ?_)
          by_cases q1:(Ly st2).size > 1
          · rw [if_pos q1,K9 (show (Ly st2).size-2<(Ly st2).size by omega)]
            generalize (Ly st2)[(Ly st2).size-2]'(show (Ly st2).size-2<(Ly st2).size by omega)=pq
            obtain ⟨p1,p2,p3⟩:=pq
            dsimp only
            split
            · exact K4 ⟨rfl,hb2,hr3,hu⟩
            · refine KY (gI hC o g hb2 hr3 h1 (by omega) fun st3 hb3 hr4 ho3 _=>?_)
              exact K4 ⟨rfl,hb3,hr4,hu.congr fun k a1 a2=>ho3 k a1⟩
          · rw [if_neg q1]
            exact K4 ⟨rfl,hb2,hr3,hu⟩
        · rintro c st2 ⟨rfl,hb2,hr3,hu⟩
          dsimp only
          refine KY (M6 (KY (M6 (K4 (push _ ⟨hb2.perm,hb2.kind,hb2.failed⟩ ?_ hu)))))
          show Runs C (LJ st2) 0 (((Ly st2).modify ((Ly st2).size-1) _).toList.map fun q=>(q.1,q.2.1)) lo
          rw [RF]
          refine Eq.mpr (congrArg (fun l=>Runs C (LJ st2) 0 l lo) (pT _ _ ?_ _ _)) hr3
          intro x
          rfl
  case post =>
    rintro c st' ⟨rfl,hB',hr⟩
    dsimp only
    refine KY (Np (Mo
      (I:=fun x (c:Option Unit×Unit) st2=>c=(none,())∧SB κ a₀ st2∧Runs C (LJ st2) 0 (mC st2) a₀.size∧(Ly st2).size≤max 1 (a₀.size-x))
      (Q:=fun (c:Option Unit×Unit) st2=>c=(none,())∧SB κ a₀ st2∧Runs C (LJ st2) 0 (mC st2) a₀.size∧(Ly st2).size≤1) ?_ ?_ ⟨rfl,hB',hr,?_⟩) ?_)
    · rintro x c st2 _ hx ⟨rfl,hb2,hr3,hl⟩
      refine KY (O0 ?_)
      by_cases q1:(Ly st2).size≤1
      · rw [if_pos q1]
        exact K4 ⟨rfl,hb2,hr3,q1⟩
      rw [if_neg q1]
      refine KY (gI hC o g hb2 hr3 (Lg _) (Ef _ q1) fun st3 hb3 hr4 _ hs=>?_)
      exact K4 ⟨rfl,hb3,hr4,by omega⟩
    · rintro c st2 ⟨rfl,hb2,hr3,hl⟩
      exact ⟨rfl,hb2,hr3,by omega⟩
    · have:=hr.le
      unfold mC at this
      rw [Kw,KR] at this
      omega
    · rintro c st2 ⟨rfl,hb2,hr3,hl⟩
      refine K4 (h st2 hb2.perm hb2.failed ?_)
      cases hq:mC st2 with
      | nil =>
        rw [hq] at hr3
        have:0=a₀.size:=hr3
        omega
      | cons q r =>
        have hlen:(mC st2).length=(Ly st2).size:=by unfold mC; rw [Kw,KR]
        rw [hq,Lo] at hlen
        have hr0:r=[]:=Pl (by omega)
        subst hr0
        rw [hq] at hr3
        obtain ⟨k1,k2,k3,k4⟩:=hr3
        have k4:0+q.2=a₀.size:=k4
        rw [k4] at k3
        exact k3
end
end Tm
namespace VL
variable {Z:KI→Prop} {H:Hp} {a:KI} {vs:List V} {T:KI→Prop} {o:List KI} {α:Type} {C:Int→Int→Prop}
open PySem L2
section
open Classical
inductive D where
 | non | bl (b:Bool) | int (i:Int) | str (x:LV) | ty (n:String)
 | lst (xs:List D) | tup (xs:List D) | ins (C:KI) | scr (ns:List Int) | dct (kvs:List (Int×Int))
def rb (p:Int×Int):Key×V:=(.inl p.1,.int p.2)
abbrev No:KI→Prop:=fun _=>False
def KL (K:KC) (a:KI) (xs:List V):Prop :=
 ∃ (o:Nv) (its:Array KD) (n:Nat),K.lookup a=some o∧o.cls=.type "list" ∧ o.dict=none∧o.data=.seq its n∧its.size≤KH∧Vals xs its.toList
mutual
inductive Is (K:KC) (H:Hp) (Z:KI→Prop):V→D→Prop
 | non:Is K H Z .non .non
 | bl (b:Bool):Is K H Z (.bl b) (.bl b)
 | int (i:Int):Is K H Z (.int i) (.int i)
 | str (x:LV):Is K H Z (.str x) (.str x)
 | ty (n:String):Is K H Z (.ty n) (.ty n)
 | lst {a:KI} {vs:List V} {ds:List D} (hz:¬ Z a) (h:Rd H a (.lst vs)) (hl:vs.length≤KH) (r:IsL K H Z vs ds):Is K H Z (.ref a) (.lst ds)
 | tup {a:KI} {vs:List V} {ds:List D} (hz:¬ Z a) (h:H a=some (.tup vs)) (hl:vs.length≤KH) (r:IsL K H Z vs ds):Is K H Z (.ref a) (.tup ds)
 | ins {a C dx:KI} (hz:¬ Z a) (h:H a=some (.ins C dx [])):Is K H Z (.ref a) (.ins C)
 | dct {a:KI} {kvs:List (Int×Int)} (hz:¬ Z a) (h:Rd H a (.dK (kvs.map rb))) (hl:kvs.length≤KH):Is K H Z (.ref a) (.dct kvs)
 | scr {a:KI} {ns:List Int} (hz:¬ Z a) (h:Rd H a (.lst (ns.map V.int))) (hl:ns.length≤KH):Is K H Z (.ref a) (.scr ns)
 | scrK {a:KI} {ns:List Int} (h:KL K a (ns.map V.int)) (hl:ns.length≤KH):Is K H Z (.ref a) (.scr ns)
inductive IsL (K:KC) (H:Hp) (Z:KI→Prop):List V→List D→Prop
 | nil:IsL K H Z [] []
 | cons {v:V} {d:D} {vs:List V} {ds:List D} (h:Is K H Z v d) (r:IsL K H Z vs ds):IsL K H Z (v::vs) (d::ds)
end
def Kp (Z:KI→Prop) (H:Hp) (Z':KI→Prop) (H':Hp):Prop:=∀ a o,H a=some o→¬ Z a→H' a=some o∧¬ Z' a
theorem Kp.refl:Kp Z H Z H:=fun _ _ h z=>⟨h,z⟩
theorem Kp.trans {Z Z1 Z2:KI→Prop} {H H1 H2:Hp} (a:Kp Z H Z1 H1) (b:Kp Z1 H1 Z2 H2):Kp Z H Z2 H2:=fun c o h z=>b c o (a c o h z).1 (a c o h z).2
theorem Kp.same {H':Hp} (s:aL H H'):Kp Z H Z H':=fun _ _ h z=>⟨s _ _ h,z⟩
theorem Kp.less {Z':KI→Prop} (h:∀ a,Z' a→Z a):Kp Z H Z' H:=fun a _ e z=>⟨e,fun q=>z (h a q)⟩
theorem Rd.kp {Z':KI→Prop} {H':Hp} {u:HO} (k:Kp Z H Z' H') (hz:¬ Z a) (h:Rd H a u):Rd H' a u∧¬ Z' a:=by
 rcases h with h | ⟨o,h⟩
 ·exact ⟨.inl (k _ _ h hz).1,(k _ _ h hz).2⟩
 ·exact ⟨.inr ⟨o,(k _ _ h hz).1⟩,(k _ _ h hz).2⟩
mutual
theorem Is.kp {Z Z':KI→Prop} {H H':Hp} (k:Kp Z H Z' H'):∀ {v:V} {d:D},Is K H Z v d→Is K H' Z' v d
 | _,_,.non=>.non
 | _,_,.bl b=>.bl b
 | _,_,.int b=>.int b
 | _,_,.str b=>.str b
 | _,_,.ty b=>.ty b
 | _,_,.lst hz h hl r=>.lst (Rd.kp k hz h).2 (Rd.kp k hz h).1 hl (IsL.kp k r)
 | _,_,.tup hz h hl r=>.tup (k _ _ h hz).2 (k _ _ h hz).1 hl (IsL.kp k r)
 | _,_,.ins hz h=>.ins (k _ _ h hz).2 (k _ _ h hz).1
 | _,_,.dct hz h hl=>.dct (Rd.kp k hz h).2 (Rd.kp k hz h).1 hl
 | _,_,.scr hz h hl=>.scr (Rd.kp k hz h).2 (Rd.kp k hz h).1 hl
 | _,_,.scrK h hl=>.scrK h hl
theorem IsL.kp {Z Z':KI→Prop} {H H':Hp} (k:Kp Z H Z' H'):∀ {v:List V} {d:List D},IsL K H Z v d→IsL K H' Z' v d
 | _,_,.nil=>.nil
 | _,_,.cons h r=>.cons (Is.kp k h) (IsL.kp k r)
end
theorem Is.same {Z:KI→Prop} {H H':Hp} {v:V} {d:D} (h:Is K H Z v d) (s:aL H H'):Is K H' Z v d:=h.kp (Kp.same s)
theorem IsL.same {Z:KI→Prop} {H H':Hp} {v:List V} {d:List D} (h:IsL K H Z v d) (s:aL H H'):IsL K H' Z v d:=h.kp (Kp.same s)
theorem Is.all {v:V} {d:D} (h:Is K H Z v d):Is K H No v d:=h.kp (Kp.less fun _ z=>z.elim)
theorem IsL.all {v:List V} {d:List D} (h:IsL K H Z v d):IsL K H No v d:=h.kp (Kp.less fun _ z=>z.elim)
def D.jC:D→Bool
 | .lst _=>false
 | .tup _=>false
 | .ins _=>false
 | .scr _=>false
 | .dct _=>false
 | _=>true
theorem Is.jC {Z Z':KI→Prop} {H H':Hp} {v:V} {d:D} (h:Is K H Z v d) (e:d.jC=true):Is K H' Z' v d:=by
 cases h with
 | non=>exact .non
 | bl b=>exact .bl b
 | int b=>exact .int b
 | str b=>exact .str b
 | ty b=>exact .ty b
 | lst _ _ _ _=>cases e
 | tup _ _ _ _=>cases e
 | ins _ _=>cases e
 | dct _ _ _=>cases e
 | scr _ _ _=>cases e
 | scrK _ _=>cases e
section
variable {H:Hp} {Z:KI→Prop}
theorem IsL.paired:∀ {vs:List V} {ds:List D},IsL K H Z vs ds→MZ (Is K H Z) vs ds
 | _,_,.nil=>.nil
 | _,_,.cons h r=>.cons h (IsL.paired r)
theorem IsL.of:∀ {vs:List V} {ds:List D},MZ (Is K H Z) vs ds→IsL K H Z vs ds
 | _,_,.nil=>.nil
 | _,_,.cons h r=>.cons h (IsL.of r)
theorem IsL.length {vs:List V} {ds:List D} (h:IsL K H Z vs ds):vs.length=ds.length:=MT h.paired
theorem IsL.get:∀ {vs:List V} {ds:List D} {i:Nat} {d:D},IsL K H Z vs ds→ds[i]?=some d→∃ v,vs[i]?=some v∧Is K H Z v d
 | _,_,0,_,.cons h _,e=>by cases e; exact ⟨_,rfl,h⟩
 | _,_,i+1,_,.cons _ r,e=>by
  obtain ⟨v,e1,h1⟩:=IsL.get (i:=i) r (by simpa using e)
  exact ⟨v,by simpa using e1,h1⟩
theorem IsL.JC {ds:List D} {i:Nat} {v:V} (h:IsL K H Z vs ds) (e:vs[i]?=some v):∃ d,ds[i]?=some d∧Is K H Z v d:=by
 have hi:=(Lj.mp e).1
 have hl:=h.length
 obtain ⟨v',e1,h1⟩:=h.get (i:=i) (d:=ds[i]'(by omega)) (Kv _)
 rw [e] at e1
 cases e1
 exact ⟨_,Kv (by omega),h1⟩
theorem IsL.append {vs us:List V} {ds es:List D} (a:IsL K H Z vs ds) (b:IsL K H Z us es):IsL K H Z (vs++us) (ds++es):=.of (Paired.append a.paired b.paired)
theorem IsL.set {v:V} {d:D} (q:Is K H Z v d):∀ {vs:List V} {ds:List D} (n:Nat),IsL K H Z vs ds→IsL K H Z (vs.set n v) (ds.set n d)
 | _,_,_,.nil=>.nil
 | _,_,0,.cons _ r=>.cons q r
 | _,_,n+1,.cons h r=>.cons h (IsL.set q n r)
theorem IsL.one {v:V} {d:D} (q:Is K H Z v d):IsL K H Z [v] [d]:=.cons q .nil
theorem IsL.ints:∀ {vs:List V} {ns:List Int},IsL K H Z vs (ns.map D.int)→vs=ns.map V.int
 | _,[],.nil=>rfl
 | _,n::ns,.cons (.int _) r=>by rw [IsL.ints (ns:=ns) r]; rfl
theorem IsL.ofInts:∀ (ns:List Int),IsL K H Z (ns.map V.int) (ns.map D.int)
 | []=>.nil
 | n::ns=>.cons (.int n) (IsL.ofInts ns)
end
inductive Sl where
 | un | pu (d:D) | bo (d:D) | ol (ds:List D) | om (rows:List (List D)) | od (kvs:List (Int×Int))
 | pm (a:KI) (ps:List KI) (rows:List (List D)) | pd (a:KI) (kvs:List (Int×Int))
abbrev aF:=List Sl
abbrev Own:=Nat→List KI
def bS (Z:KI→Prop) (os:Own):KI→Prop:=fun a=>Z a∨∃ i,a∈os i
def rj (K:KC) (B H:Hp) (T:KI→Prop) (o:List KI):Sl→Option V→Prop
 | .un,_=>o=[]
 | .pu d,v=>o=[]∧∃ u,v=some u∧Is K H T u d
 | .bo d,v=>o=[]∧∃ u,v=some u∧Is K B No u d
 | .ol ds,v=>∃ a vs,o=[a]∧v=some (.ref a)∧H a=some (.lst vs)∧vs.length≤KH∧IsL K H T vs ds
 | .om rows,v=>∃ a ps,o=a::ps∧v=some (.ref a)∧H a=some (.lst (ps.map V.ref))∧ps.length≤KH∧MZ (fun p ds=>∃ vs,H p=some (.lst vs)∧vs.length≤KH∧IsL K H T vs ds) ps rows
 | .od kvs,v=>∃ a,o=[a]∧v=some (.ref a)∧H a=some (.dK (kvs.map rb))∧kvs.length≤KH
 | .pm a ps rows,v=>o=a::ps∧v=some (.ref a)∧H a=some (.lst (ps.map V.ref))∧ps.length≤KH∧MZ (fun p ds=>∃ vs,H p=some (.lst vs)∧vs.length≤KH∧IsL K H T vs ds) ps rows
 | .pd a kvs,v=>o=[a]∧v=some (.ref a)∧H a=some (.dK (kvs.map rb))∧kvs.length≤KH
class bD where
 ts:List (KI×LV)
def qL [bD] (H:Hp):Prop:=∀ p∈bD.ts,∃ t,H p.1=some (.tbl #[.str p.2 t])
theorem qL.same [bD] {H':Hp} (h:qL H) (s:aL H H'):qL H':=fun p hp=>let ⟨t,e⟩:=h p hp; ⟨t,s _ _ e⟩
def ZT [bD] (Z:KI→Prop) (H:Hp):Prop:=(∀ a,Z a→∃ o,H a=some o)∧qL H
structure Fr [bD] (K:KC) (B:Hp) (Z:KI→Prop) (os:Own) (ρ:aF) (σ:St) (H:Hp):Prop where
 keep:aL B H
 DL:∀ a,Z a→∃ o,H a=some o
 len:σ.length=ρ.length
 nd:∀ i,(os i).Nodup
 dj:∀ i j a,a∈os i→a∈os j→i=j
 new:∀ i a,a∈os i→B a=none∧¬ Z a
 sl:∀ i,rj K B H (bS Z os) (os i) (ρ.getD i .un) ((σ[i]?).join)
 tab:qL B
variable [bD]
theorem Fr.kA {B:Hp} {os:Own} {ρ:aF} {σ:St} (f:Fr K B Z os ρ σ H):qL H:=f.tab.same f.keep
theorem Paired.any {α β:Type} {F:α→β→Prop}:∀ {as:List α} {bs:List β} {a:α},MZ F as bs→a∈as→∃ b,F a b
 | _,_,_,.cons r t,h=>by
  rcases KP.mp h with rfl | h
  ·exact ⟨_,r⟩
  ·exact Paired.any t h
theorem rj.ui {B:Hp} {s:Sl} {v:Option V} (h:rj K B H T o s v) (ha:a∈o):∃ u,H a=some u:=by
 cases s with
 | un=>cases h; cases ha
 | pu d=>obtain ⟨rfl,_⟩:=h; cases ha
 | bo d=>obtain ⟨rfl,_⟩:=h; cases ha
 | ol ds =>
  obtain ⟨b,vs,rfl,_,e,_⟩:=h
  cases Kz.mp ha
  exact ⟨_,e⟩
 | om rows =>
  obtain ⟨b,ps,rfl,_,e,_,r⟩:=h
  rcases KP.mp ha with rfl | ha
  ·exact ⟨_,e⟩
  ·obtain ⟨_,vs,q,_⟩:=Paired.any r ha
   exact ⟨_,q⟩
 | od kvs =>
  obtain ⟨b,rfl,_,e,_⟩:=h
  cases Kz.mp ha
  exact ⟨_,e⟩
 | pm b ps rows =>
  obtain ⟨rfl,_,e,_,r⟩:=h
  rcases KP.mp ha with rfl | ha
  ·exact ⟨_,e⟩
  ·obtain ⟨_,vs,q,_⟩:=Paired.any r ha
   exact ⟨_,q⟩
 | pd b kvs =>
  obtain ⟨rfl,_,e,_⟩:=h
  cases Kz.mp ha
  exact ⟨_,e⟩
theorem rj.kp {B B' H H':Hp} {T T':KI→Prop} {o:List KI} {s:Sl} {v:Option V} (h:rj K B H T o s v) (k:Kp T H T' H') (hb:aL B B') (ho:∀ a∈o,∀ u,H a=some u→H' a=some u):rj K B' H' T' o s v:=by
 cases s with
 | un=>exact h
 | pu d=>obtain ⟨e,u,e2,i⟩:=h; exact ⟨e,u,e2,i.kp k⟩
 | bo d=>obtain ⟨e,u,e2,i⟩:=h; exact ⟨e,u,e2,i.same hb⟩
 | ol ds=>obtain ⟨a,vs,rfl,e2,e3,hl,i⟩:=h; exact ⟨a,vs,rfl,e2,ho _ (Kz.mpr rfl) _ e3,hl,i.kp k⟩
 | om rows =>
  obtain ⟨a,ps,rfl,e2,e3,hl,i⟩:=h
  exact ⟨a,ps,rfl,e2,ho _ Ky _ e3,hl,Paired.mono i fun p ds hp ⟨vs,q,hv,j⟩=>⟨vs,ho _ (Kx _ hp) _ q,hv,j.kp k⟩⟩
 | od kvs=>obtain ⟨a,rfl,e2,e3,hl⟩:=h; exact ⟨a,rfl,e2,ho _ (Kz.mpr rfl) _ e3,hl⟩
 | pm a ps rows =>
  obtain ⟨rfl,e2,e3,hl,i⟩:=h
  exact ⟨rfl,e2,ho _ Ky _ e3,hl,Paired.mono i fun p ds hp ⟨vs,q,hv,j⟩=>⟨vs,ho _ (Kx _ hp) _ q,hv,j.kp k⟩⟩
 | pd a kvs=>obtain ⟨rfl,e2,e3,hl⟩:=h; exact ⟨rfl,e2,ho _ (Kz.mpr rfl) _ e3,hl⟩
section
variable {B H H':Hp} {Z:KI→Prop} {os:Own} {ρ:aF} {σ:St}
theorem Fr.grow (f:Fr K B Z os ρ σ H) (s:aL H H'):Fr K B Z os ρ σ H' where
 keep:=f.keep.trans s
 DL:=fun a z=>let ⟨o,e⟩:=f.DL a z; ⟨o,s _ _ e⟩
 len:=f.len
 nd:=f.nd
 dj:=f.dj
 new:=f.new
 sl:=fun i=>(f.sl i).kp (Kp.same s) (aL.refl _) fun a _ u e=>s _ _ e
 tab:=f.tab
theorem Fr.out (f:Fr K B Z os ρ σ H) {p:KI} (hp:H p=none):¬ bS Z os p:=by
 rintro (z | ⟨i,z⟩)
 ·obtain ⟨o,e⟩:=f.DL p z
  rw [hp] at e; cases e
 ·obtain ⟨xs,e⟩:=(f.sl i).ui z
  rw [hp] at e; cases e
def iL (os:Own) (i:Nat) (o:List KI):Own:=fun j=>if j=i then o else os j
theorem br {os:Own} {i:Nat}:iL os i o i=o:=if_pos rfl
theorem bZ {os:Own} {i j:Nat} (h:j≠i):iL os i o j=os j:=if_neg h
theorem qZ {l:List α} {i:Nat} {x d:α} (h:i<l.length):(l.set i x).getD i d=x:=by
 rw [Ku,Mw h]; rfl
theorem vG {l:List α} {i j:Nat} {x d:α} (h:j≠i):(l.set i x).getD j d=l.getD j d:=by
 rw [Ku,MF (MY h),← Ku]
theorem Fr.step (f:Fr K B Z os ρ σ H) {i:Nat} (hi:i < ρ.length) {o:List KI} {s:Sl} {v:Option V}
 (hk:∀ a u,H a=some u→a∉os i→H' a=some u) (hs:∀ a,a∈os i→∃ u,H' a=some u) (hn:o.Nodup) (ho:∀ a∈o,a∈os i∨H a=none) (ok:rj K B H' (bS Z (iL os i o)) o s v) :
 Fr K B Z (iL os i o) (ρ.set i s) (σ.set i v) H'∧Kp (bS Z os) H (bS Z (iL os i o)) H':=by
 have no:∀ a u,H a=some u→a∉os i→a∉o:=fun a u e n q=>by
  rcases ho a q with z | z
  ·exact n z
  ·rw [z] at e; cases e
 have kp:Kp (bS Z os) H (bS Z (iL os i o)) H':=fun a u e t=>by
  have ni:a∉os i:=fun q=>t (.inr ⟨i,q⟩)
  refine ⟨hk a u e ni,?_⟩
  rintro (z | ⟨j,z⟩)
  ·exact t (.inl z)
  ·by_cases hj:j=i
   ·subst hj; rw [br] at z; exact no a u e ni z
   ·rw [bZ hj] at z; exact t (.inr ⟨j,z⟩)
 refine ⟨⟨fun a u e=>hk a u (f.keep a u e) fun q=>?_,fun a z=>?_,?_,fun j=>?_,fun j k a h1 h2=>?_,fun j a h=>?_,fun j=>?_,f.tab⟩,kp⟩
 ·have:=(f.new i a q).1; rw [e] at this; cases this
 ·obtain ⟨u,e⟩:=f.DL a z
  exact ⟨u,hk a u e fun q=>(f.new i a q).2 z⟩
 ·rw [MC,MC]; exact f.len
 ·by_cases hj:j=i
  ·subst hj; rw [br]; exact hn
  ·rw [bZ hj]; exact f.nd j
 ·have ui:∀ k,a∈os k→∃ u,H a=some u:=fun k z=>let ⟨xs,e⟩:=(f.sl k).ui z; ⟨_,e⟩
  by_cases hj:j=i
  ·by_cases hk':k=i
   ·rw [hj,hk']
   ·subst hj
    rw [br] at h1; rw [bZ hk'] at h2
    rcases ho a h1 with z | z
    ·exact f.dj _ _ a z h2
    ·obtain ⟨u,e⟩:=ui k h2; rw [z] at e; cases e
  ·by_cases hk':k=i
   ·subst hk'
    rw [bZ hj] at h1; rw [br] at h2
    rcases ho a h2 with z | z
    ·exact f.dj _ _ a h1 z
    ·obtain ⟨u,e⟩:=ui j h1; rw [z] at e; cases e
   ·rw [bZ hj] at h1; rw [bZ hk'] at h2
    exact f.dj _ _ a h1 h2
 ·by_cases hj:j=i
  ·subst hj
   rw [br] at h
   rcases ho a h with z | z
   ·exact f.new _ a z
   ·exact ⟨aL.free f.keep z,fun q=>f.out z (.inl q)⟩
  ·rw [bZ hj] at h; exact f.new j a h
 ·by_cases hj:j=i
  ·subst hj
   have hσ:j < σ.length:=by rw [f.len]; exact hi
   rw [br,qZ hi,Mw hσ]
   exact ok
  ·rw [bZ hj,vG hj,MF (MY hj)]
   exact (f.sl j).kp kp (aL.refl _) fun a ha u e=>hk a u e fun q=>hj (f.dj _ _ a ha q)
theorem Fr.put (f:Fr K B Z os ρ σ H) {i:Nat} (hi:i < ρ.length) {v:V} {d:D} (h:Is K H (bS Z os) v d) :
 Fr K B Z (iL os i []) (ρ.set i (.pu d)) (σ.set i (some v)) H∧Kp (bS Z os) H (bS Z (iL os i [])) H:=by
 refine f.step hi (fun a u e _=>e) (fun a ha=>let ⟨xs,e⟩:=(f.sl i).ui ha; ⟨_,e⟩) Mc (fun a h=>by cases h) ⟨rfl,v,rfl,h.kp (Kp.less ?_)⟩
 rintro a (z | ⟨j,z⟩)
 ·exact .inl z
 ·by_cases hj:j=i
  ·subst hj; rw [br] at z; cases z
  ·rw [bZ hj] at z; exact .inr ⟨j,z⟩
end
end
section
open Classical
noncomputable section
abbrev DE:=aF→Option D
section
variable [bD] {K:KC}
def aO (K:KC) (t:TE) (e:DE):Prop:=∀ {B:Hp} {Z:KI→Prop} {os:Own} {ρ:aF} {σ:L2.St} {H:Hp} {Q:VK} {d:D},Fr K B Z os ρ σ H→e ρ=some d→(∀ v H',aL H H'→Is K H' No v d→Q v H')→t σ H Q
def af (K:KC) (t:TE) (e:DE):Prop:=∀ {B:Hp} {Z:KI→Prop} {os:Own} {ρ:aF} {σ:L2.St} {H:Hp} {Q:VK} {d:D},Fr K B Z os ρ σ H→e ρ=some d→(∀ v H',aL H H'→Is K H' (bS Z os) v d→Q v H')→t σ H Q
def ck (K:KC) (t:TE) (e:aF→Option (List D)):Prop:=∀ {B:Hp} {Z:KI→Prop} {os:Own} {ρ:aF} {σ:L2.St} {H:Hp} {Q:VK} {ds:List D},Fr K B Z os ρ σ H→e ρ=some ds →
 (∀ p vs H',aL H H'→H p=none→H' p=some (.lst vs)→vs.length≤KH→IsL K H' (fun a=>a=p∨bS Z os a) vs ds→Q (.ref p) H')→t σ H Q
def jI (K:KC) (t:TT) (e:aF→Option Bool):Prop:=∀ {B:Hp} {Z:KI→Prop} {os:Own} {ρ:aF} {σ:L2.St} {H:Hp} {Q:Bool→Hp→Prop} {b:Bool},Fr K B Z os ρ σ H→e ρ=some b→(∀ H',aL H H'→Q b H')→t σ H Q
inductive Args (K:KC) (H:Hp) (T:KI→Prop):List Bool→List V→List D→Prop
 | nil:Args K H T [] [] []
 | own {ms:List Bool} {v:V} {d:D} {vs:List V} {ds:List D}:Is K H T v d→Args K H T ms vs ds→Args K H T (true::ms) (v::vs) (d::ds)
 | any {ms:List Bool} {v:V} {d:D} {vs:List V} {ds:List D}:Is K H No v d→Args K H T ms vs ds→Args K H T (false::ms) (v::vs) (d::ds)
def wg (K:KC) (ms:List Bool) (t:TA) (e:aF→Option (List D)):Prop:=∀ {B:Hp} {Z:KI→Prop} {os:Own} {ρ:aF} {σ:L2.St} {H:Hp} {Q:List V→Hp→Prop} {ds:List D},Fr K B Z os ρ σ H→e ρ=some ds→(∀ vs H',aL H H'→Args K H' (bS Z os) ms vs ds→Q vs H')→t σ H Q
theorem Args.len {ms:List Bool} {ds:List D} (a:Args K H T ms vs ds):vs.length=ms.length∧ds.length=ms.length:=by
 induction a with
 | nil=>exact ⟨rfl,rfl⟩
 | own h _ ih=>simp [ih.1,ih.2]
 | any h _ ih=>simp [ih.1,ih.2]
theorem Args.G3 {H:Hp} {T:KI→Prop}:∀ {n:Nat} {vs:List V} {ds:List D},Args K H T (Lr n true) vs ds→IsL K H T vs ds
 | 0,_,_,.nil=>.nil
 | _+1,_,_,.own h r=>.cons h r.G3
theorem af.b {t:TE} {e:DE} (h:af K t e):aO K t e:=fun f q k=>h f q fun v H' s i=>k v H' s i.all
theorem ck.i {t:TE} {e:aF→Option (List D)} (h:ck K t e):af K t (fun ρ=>(e ρ).map D.lst):=fun {B Z os ρ σ H Q d} f q k=>by
 dsimp only at q
 cases q1:e ρ with
 | none=>rw [q1] at q; cases q
 | some ds =>
  rw [q1] at q
  cases q
  refine h f q1 fun p vs H' s hp hp' hl i=>k _ _ s (.lst (f.out hp) (.inl hp') hl (i.kp (Kp.less fun a z=>.inr z)))
def G4:D→Option (List D)
 | .lst ds=>some ds
 | .scr ns=>some (ns.map D.int)
 | _=>none
theorem Is.seq {v:V} {d:D} {ds:List D} (h:Is K H Z v d) (e:G4 d=some ds):∃ p vs,v=.ref p∧vs.length≤KH∧vs.length=ds.length∧∀ H' Z',Kp Z H Z' H'→dA K H' p vs∧IsL K H' Z' vs ds:=by
 cases h with
 | lst hz h hl r=>cases e; exact ⟨_,_,rfl,hl,r.length,fun H' Z' k=>⟨.inl (Rd.kp k hz h).1,r.kp k⟩⟩
 | scr hz h hl=>cases e; exact ⟨_,_,rfl,by rw [Kw]; exact hl,by simp,fun H' Z' k=>⟨.inl (Rd.kp k hz h).1,.ofInts _⟩⟩
 | scrK h hl=>cases e; exact ⟨_,_,rfl,by rw [Kw]; exact hl,by simp,fun H' Z' k=>⟨.inr h,.ofInts _⟩⟩
 | _=>cases e
noncomputable def gw (e:DE):DE:=fun ρ=>match e ρ with
 | some d=>if d.jC=true then some d else none
 | none=>none
theorem aO.i {t:TE} {e:DE} (h:aO K t e):af K t (gw e):=fun {B Z os ρ σ H Q d} f q k=>by
 unfold gw at q
 cases q1:e ρ with
 | none=>rw [q1] at q; cases q
 | some d' =>
  rw [q1] at q
  have q':(if d'.jC=true then some d' else none)=some d:=q
  by_cases c:d'.jC=true
  ·rw [if_pos c] at q'
   cases q'
   exact h f q1 fun v H' s i=>k v H' s (i.jC c)
  ·rw [if_neg c] at q'; cases q'
noncomputable def ag (i:Nat):DE:=fun ρ=>match ρ.getD i .un with
 | .pu d=>some d
 | .bo d=>some d
 | .ol ds=>some (.lst ds)
 | .om rows=>some (.lst (rows.map D.lst))
 | .od kvs=>some (.dct kvs)
 | .pm _ _ rows=>some (.lst (rows.map D.lst))
 | .pd _ kvs=>some (.dct kvs)
 | .un=>none
noncomputable def aG (i:Nat):DE:=fun ρ=>match ρ.getD i .un with
 | .pu d=>some d
 | _=>none
omit [bD] in
theorem join_some {o:Option (Option α)} {u:α} (h:o.join=some u):o=some (some u):=by
 cases o with
 | none=>cases h
 | some x=>rw [show x=some u from h]
theorem h8 {H:Hp} {T:KI→Prop}:∀ {ps:List KI} {rows:List (List D)},MZ (fun p ds=>∃ vs,H p=some (.lst vs)∧vs.length≤KH∧IsL K H T vs ds) ps rows→IsL K H No (ps.map V.ref) (rows.map D.lst)
 | _,_,.nil=>.nil
 | _,_,.cons ⟨vs,e,hl,i⟩ r=>.cons (.lst (fun z=>z) (.inl e) hl i.all) (h8 r)
theorem ae (i:Nat):aO K (mf i) (ag i):=fun {B Z os ρ σ H Q d} f q k=>by
 have s:=f.sl i
 unfold ag at q
 cases e:ρ.getD i .un with
 | un=>rw [e] at q; cases q
 | pu d' =>
  rw [e] at q s
  cases q
  obtain ⟨_,u,hu,i⟩:=s
  exact ⟨u,join_some hu,k u H (aL.refl _) i.all⟩
 | bo d' =>
  rw [e] at q s
  cases q
  obtain ⟨_,u,hu,i⟩:=s
  exact ⟨u,join_some hu,k u H (aL.refl _) (i.same f.keep)⟩
 | ol ds =>
  rw [e] at q s
  cases q
  obtain ⟨a,vs,_,hu,hH,hl,i⟩:=s
  exact ⟨_,join_some hu,k _ H (aL.refl _) (.lst (fun z=>z) (.inl hH) hl i.all)⟩
 | om rows =>
  rw [e] at q s
  cases q
  obtain ⟨a,ps,_,hu,hH,hl,i⟩:=s
  exact ⟨_,join_some hu,k _ H (aL.refl _) (.lst (fun z=>z) (.inl hH) (by rw [Kw]; exact hl) (h8 i))⟩
 | od kvs =>
  rw [e] at q s
  cases q
  obtain ⟨a,_,hu,hH,hl⟩:=s
  exact ⟨_,join_some hu,k _ H (aL.refl _) (.dct (fun z=>z) (.inl hH) hl)⟩
 | pm a ps rows =>
  rw [e] at q s
  cases q
  obtain ⟨_,hu,hH,hl,i⟩:=s
  exact ⟨_,join_some hu,k _ H (aL.refl _) (.lst (fun z=>z) (.inl hH) (by rw [Kw]; exact hl) (h8 i))⟩
 | pd a kvs =>
  rw [e] at q s
  cases q
  obtain ⟨_,hu,hH,hl⟩:=s
  exact ⟨_,join_some hu,k _ H (aL.refl _) (.dct (fun z=>z) (.inl hH) hl)⟩
theorem aN (i:Nat):af K (mf i) (aG i):=fun {B Z os ρ σ H Q d} f q k=>by
 have s:=f.sl i
 unfold aG at q
 cases e:ρ.getD i .un with
 | pu d' =>
  rw [e] at q s
  cases q
  obtain ⟨_,u,hu,i⟩:=s
  exact ⟨u,join_some hu,k u H (aL.refl _) i⟩
 | _=>rw [e] at q; cases q
noncomputable def dC (d:D):DE:=fun _=>some d
theorem ak {i:Int}:af K (tC (.int i)) (dC (.int i)):=fun f q k=>by cases q; exact k _ _ (aL.refl _) (.int i)
theorem u0 {i:Bool}:af K (tC (.bl i)) (dC (.bl i)):=fun f q k=>by cases q; exact k _ _ (aL.refl _) (.bl i)
noncomputable def nN (f:Int→Int→Option D) (a b:DE):DE:=fun ρ=>match a ρ with
 | some (.int i)=>(match b ρ with
  | some (.int j)=>f i j
  | _=>none)
 | _=>none
theorem lC {f:Int→Int→Option D} {a b:DE} {ρ:aF} {d:D} (h:nN f a b ρ=some d):∃ i j,a ρ=some (.int i)∧b ρ=some (.int j)∧f i j=some d:=by
 unfold nN at h
 split at h
 ·rename_i i e1
  split at h
  ·rename_i j e2
   exact ⟨i,j,e1,e2,h⟩
  ·cases h
 ·cases h
theorem Is.isInt {v:V} {i:Int} (h:Is K H Z v (.int i)):v=.int i:=by cases h; rfl
theorem Is.AH {v:V} {i:Bool} (h:Is K H Z v (.bl i)):v=.bl i:=by cases h; rfl
variable {ta tb tc:TE} {a b c:DE}
theorem pj {g:Int→Int→V} (gd:Int→Int→D) (hg:∀ i j H Z,Is K H Z (g i j) (gd i j)) (ha:aO K ta a) (hb:aO K tb b):af K (nT (z6 g) ta tb) (nN (fun i j=>some (gd i j)) a b):=fun {B Z os ρ σ H Q d} f q k=>by
 obtain ⟨i,j,e1,e2,e3⟩:=lC q
 cases e3
 refine ha f e1 fun v H1 s1 i1=>hb (f.grow s1) e2 fun u H2 s2 i2=>?_
 exact ⟨i,j,i1.isInt,i2.isInt,k _ _ (s1.trans s2) (hg i j _ _)⟩
noncomputable def gC (C:Int→Int→Prop) (g:Int→Int→D):Int→Int→Option D:=fun i j=>if C i j then some (g i j) else none
theorem t6 {g:Int→Int→D} {i j:Int} (h:C i j):gC C g i j=some (g i j):=if_pos h
theorem th {g:Int→Int→V} (gd:Int→Int→D) (hg:∀ i j H Z,Is K H Z (g i j) (gd i j)) (ha:aO K ta a) (hb:aO K tb b):af K (nT (rI C g) ta tb) (nN (gC C gd) a b):=fun {B Z os ρ σ H Q d} f q k=>by
 obtain ⟨i,j,e1,e2,e3⟩:=lC q
 unfold gC at e3
 by_cases c:C i j
 ·rw [if_pos c] at e3
  cases e3
  refine ha f e1 fun v H1 s1 i1=>hb (f.grow s1) e2 fun u H2 s2 i2=>?_
  exact ⟨i,j,i1.isInt,i2.isInt,c,k _ _ (s1.trans s2) (hg i j _ _)⟩
 ·rw [if_neg c] at e3; cases e3
noncomputable def ke:DE→DE→DE:=nN fun i j=>some (.int (i+j))
noncomputable def AR:DE→DE→DE:=nN fun i j=>some (.int (i-j))
noncomputable def m3:DE→DE→DE:=nN (gC Rc fun i j=>.int (i*j))
noncomputable def qE:DE→DE→DE:=nN (gC (fun _ j=>0<j∧j.natAbs.log2<9000) fun i j=>.int (i / j))
noncomputable def jF:DE→DE→DE:=nN (gC (fun _ j=>0<j) fun i j=>.int (i % j))
noncomputable def C5:DE→DE→DE:=nN (gC E9 fun i j=>.int (i ^ j.toNat))
noncomputable def AV:DE→DE→DE:=nN fun i j=>some (.bl (decide (i<j)))
noncomputable def Ht:DE→DE→DE:=nN fun i j=>some (.bl (decide (j<i)))
noncomputable def Hu:DE→DE→DE:=nN fun i j=>some (.bl (decide (j≤i)))
theorem fN (ha:aO K ta a) (hb:aO K tb b):af K (nT (z6 fun i j=>.int (i+j)) ta tb) (ke a b):=pj (fun i j=>.int (i+j)) (fun _ _ _ _=>.int _) ha hb
theorem xa (ha:aO K ta a) (hb:aO K tb b):af K (nT (z6 fun i j=>.int (i-j)) ta tb) (AR a b):=pj (fun i j=>.int (i-j)) (fun _ _ _ _=>.int _) ha hb
theorem gJ (ha:aO K ta a) (hb:aO K tb b):af K (nT (rI Rc fun i j=>.int (i*j)) ta tb) (m3 a b):=th (fun i j=>.int (i*j)) (fun _ _ _ _=>.int _) ha hb
theorem ox (ha:aO K ta a) (hb:aO K tb b):af K (nT (rI (fun _ j=>0<j∧j.natAbs.log2<9000) fun i j=>.int (i / j)) ta tb) (qE a b):=th (fun i j=>.int (i / j)) (fun _ _ _ _=>.int _) ha hb
theorem eJ (ha:aO K ta a) (hb:aO K tb b):af K (nT (rI (fun _ j=>0<j) fun i j=>.int (i % j)) ta tb) (jF a b):=th (fun i j=>.int (i % j)) (fun _ _ _ _=>.int _) ha hb
theorem BG (ha:aO K ta a) (hb:aO K tb b):af K (nT (rI E9 fun i j=>.int (i ^ j.toNat)) ta tb) (C5 a b):=th (fun i j=>.int (i ^ j.toNat)) (fun _ _ _ _=>.int _) ha hb
theorem nv (ha:aO K ta a) (hb:aO K tb b):af K (nT (z6 fun i j=>.bl (decide (i<j))) ta tb) (AV a b):=pj (fun i j=>.bl (decide (i<j))) (fun _ _ _ _=>.bl _) ha hb
theorem BH (ha:aO K ta a) (hb:aO K tb b):af K (nT (z6 fun i j=>.bl (decide (j<i))) ta tb) (Ht a b):=pj (fun i j=>.bl (decide (j<i))) (fun _ _ _ _=>.bl _) ha hb
theorem BI (ha:aO K ta a) (hb:aO K tb b):af K (nT (z6 fun i j=>.bl (decide (j≤i))) ta tb) (Hu a b):=pj (fun i j=>.bl (decide (j≤i))) (fun _ _ _ _=>.bl _) ha hb
noncomputable def rf (a:DE):DE:=fun ρ=>match a ρ with
 | some (.int i)=>some (.int (-i))
 | _=>none
theorem mv (ha:aO K ta a):af K (JU (rU fun i=>.int (-i)) ta) (rf a):=fun {B Z os ρ σ H Q d} f q k=>by
 unfold rf at q
 split at q
 ·rename_i i e1
  cases q
  exact ha f e1 fun v H1 s1 i1=>⟨i,i1.isInt,k _ _ s1 (.int _)⟩
 ·cases q
noncomputable def dT (a:DE):aF→Option Bool:=fun ρ=>match a ρ with
 | some (.bl b)=>some b
 | _=>none
theorem bL (ha:aO K ta a):jI K (Fe ta) (dT a):=fun {B Z os ρ σ H Q d} f q k=>by
 unfold dT at q
 split at q
 ·rename_i b e
  cases q
  exact ha f e fun v H1 s1 i1=>⟨_,i1.AH,k _ s1⟩
 ·cases q
def DR:D→Option Bool
 | .non=>some false
 | .bl b=>some b
 | .int i=>some (i != 0)
 | .str y=>if y.length≤KH then some ((y.length:Int) != 0) else none
 | .lst ds=>some (!ds.isEmpty)
 | .tup ds=>some (!ds.isEmpty)
 | .scr ns=>some (!ns.isEmpty)
 | _=>none
theorem qa {ds:List D} (h:IsL K H Z vs ds):vs.isEmpty=ds.isEmpty:=by cases h <;> rfl
theorem FZ {v:V} {d:D} {b:Bool} (h:Is K H Z v d) (e:DR d=some b):Du K v H b:=by
 cases h with
 | non=>cases e; rfl
 | bl b=>cases e; rfl
 | int i=>cases e; rfl
 | str x =>
  have e:(if x.length≤KH then some ((x.length:Int) != 0) else none)=some b:=e
  by_cases c:x.length≤KH
  ·rw [if_pos c] at e; cases e; exact ⟨c,rfl⟩
  ·rw [if_neg c] at e; cases e
 | ty n=>cases e
 | lst hz h hl r=>cases e; exact .inl ⟨_,.inl h,by rw [qa r]⟩
 | tup hz h hl r=>cases e; exact .inr (.inl ⟨_,.inl (.inl h),by rw [qa r]⟩)
 | ins _ _=>cases e
 | dct _ _ _=>cases e
 | scr hz h hl=>cases e; exact .inl ⟨_,.inl h,by cases ‹List Int› <;> rfl⟩
 | scrK h hl=>cases e; exact .inl ⟨_,.inr h,by cases ‹List Int› <;> rfl⟩
noncomputable def qC (a:DE):aF→Option Bool:=fun ρ=>match a ρ with
 | some d=>DR d
 | none=>none
theorem mi (ha:aO K ta a):jI K (fun σ H Q=>ta σ H fun x H'=>∃ k,Du K x H' k∧Q k H') (qC a):=fun {B Z os ρ σ H Q b} f q k=>by
 unfold qC at q
 split at q
 ·rename_i d e
  exact ha f e fun v H1 s1 i1=>⟨b,FZ i1 q,k _ s1⟩
 ·cases q
variable {tA tB':TT} {x y:aF→Option Bool}
noncomputable def Dc (x y:aF→Option Bool):aF→Option Bool:=fun ρ=>match x ρ with
 | some true=>y ρ
 | some false=>some false
 | none=>none
noncomputable def Bf (x y:aF→Option Bool):aF→Option Bool:=fun ρ=>match x ρ with
 | some true=>some true
 | some false=>y ρ
 | none=>none
noncomputable def vP (x:aF→Option Bool):aF→Option Bool:=fun ρ=>match x ρ with
 | some b=>some (!b)
 | none=>none
theorem Gg (ha:jI K tA x) (hb:jI K tB' y):jI K (Il tA tB') (Dc x y):=fun {B Z os ρ σ H Q b} f q k=>by
 unfold Dc at q
 split at q
 ·rename_i e
  exact ha f e fun H1 s1=>t4 (hb (f.grow s1) q fun H2 s2=>k _ (s1.trans s2))
 ·rename_i e
  cases q
  exact ha f e fun H1 s1=>qW (k _ s1)
 ·cases q
theorem o8 (ha:jI K tA x) (hb:jI K tB' y):jI K (JV tA tB') (Bf x y):=fun {B Z os ρ σ H Q b} f q k=>by
 unfold Bf at q
 split at q
 ·rename_i e
  cases q
  exact ha f e fun H1 s1=>t4 (k _ s1)
 ·rename_i e
  exact ha f e fun H1 s1=>qW (hb (f.grow s1) q fun H2 s2=>k _ (s1.trans s2))
 ·cases q
theorem wL (ha:jI K tA x):jI K (Ic tA) (vP x):=fun {B Z os ρ σ H Q b} f q k=>by
 unfold vP at q
 split at q
 ·rename_i c e
  cases q
  exact ha f e fun H1 s1=>k _ s1
 ·cases q
noncomputable def bP:aF→Option Bool:=fun _=>some true
theorem cn:jI K yo bP:=fun f q k=>by cases q; exact k _ (aL.refl _)
noncomputable def lE (a b:DE):DE:=fun ρ=>match a ρ with
 | some (.bl true)=>b ρ
 | some (.bl false)=>some (.bl false)
 | _=>none
noncomputable def C6 (a b:DE):DE:=fun ρ=>match a ρ with
 | some (.bl true)=>some (.bl true)
 | some (.bl false)=>b ρ
 | _=>none
noncomputable def sh (a:DE):DE:=fun ρ=>match a ρ with
 | some (.bl c)=>some (.bl (!c))
 | _=>none
theorem kC (ha:aO K ta a) (hb:af K tb b):af K (Fo ta tb) (lE a b):=fun {B Z os ρ σ H Q d} f q k=>by
 unfold lE at q
 split at q
 ·rename_i e
  exact ha f e fun v H1 s1 i1=>⟨true,i1.AH,t4 (hb (f.grow s1) q fun v H2 s2=>k _ _ (s1.trans s2))⟩
 ·rename_i e
  cases q
  exact ha f e fun v H1 s1 i1=>⟨false,i1.AH,qW (k _ _ s1 (.bl _))⟩
 ·cases q
theorem Gk (ha:aO K ta a) (hb:af K tb b):af K (Ib ta tb) (C6 a b):=fun {B Z os ρ σ H Q d} f q k=>by
 unfold C6 at q
 split at q
 ·rename_i e
  cases q
  exact ha f e fun v H1 s1 i1=>⟨true,i1.AH,t4 (k _ _ s1 (.bl _))⟩
 ·rename_i e
  exact ha f e fun v H1 s1 i1=>⟨false,i1.AH,qW (hb (f.grow s1) q fun v H2 s2=>k _ _ (s1.trans s2))⟩
 ·cases q
theorem yz (ha:aO K ta a):af K (Ff ta) (sh a):=fun {B Z os ρ σ H Q d} f q k=>by
 unfold sh at q
 split at q
 ·rename_i c e
  cases q
  exact ha f e fun v H1 s1 i1=>⟨c,i1.AH,k _ _ s1 (.bl _)⟩
 ·cases q
noncomputable def Jg (x:aF→Option Bool) (a b:DE):DE:=fun ρ=>match x ρ with
 | some true=>a ρ
 | some false=>b ρ
 | none=>none
theorem Io (h:jI K tA x) (ha:af K ta a) (hb:af K tb b):af K (JW tA ta tb) (Jg x a b):=fun {B Z os ρ σ H Q d} f q k=>by
 unfold Jg at q
 split at q
 ·rename_i e
  exact h f e fun H1 s1=>t4 (ha (f.grow s1) q fun v H2 s2=>k _ _ (s1.trans s2))
 ·rename_i e
  exact h f e fun H1 s1=>qW (hb (f.grow s1) q fun v H2 s2=>k _ _ (s1.trans s2))
 ·cases q
end
end
end
end VL
namespace L2
variable {K:KC}
open PySem PySem.Spec PyProof.Rows
section
variable {X:Cx} {pins:List (KI×Nv)} {σ:St} {H:Hp} {s:KJ} {l:KI} {xs:List V}
theorem Inv.kT (I:Inv X pins σ H s) (hH:Rd H l (.lst xs)):xs.length≤KH∧∃ (its:List KD) (n:Nat),Vals xs its∧xs.length=its.length∧s.heap.get? l=some { cls:=.type "list", data:=.seq its.toArray n }:=by
 obtain ⟨z,its,n,r,e⟩:=hH.ok I.cu
 exact ⟨z,its,n,r,r.length,e⟩
def Fx:R2:=fun x y H Q=>∃ l b xs zs,x=.ref l∧y=.ref b∧Rd H l (.lst xs)∧Rd H b (.lst zs)∧xs.length+zs.length≤KH∧∀ p,H p=none→Q (.ref p) (upd H p (.lst (xs++zs)))
theorem oF:oR X (Pk .Add) Fx:=by
 intro pins s σ H x y v u Q I rx ry h
 obtain ⟨l,b,xs,zs,rfl,rfl,hH,hB,hz,q⟩:=h
 cases rx
 cases ry
 obtain ⟨z,its,n,r,hl,e⟩:=I.kT hH
 obtain ⟨z2,its2,n2,r2,hl2,e2⟩:=I.kT hB
 refine PySem.P.add_list e e2 ?_ (by rw [KQ,KQ]; omega)
 have ea:its.toArray++its2.toArray=(its++its2).toArray:=by simp
 rw [ea]
 exact ⟨.ref _,_,I.G5 (t':=s.toks) (r.append r2) (by rw [K0]; omega),rfl,q _ I.fresh⟩
def Fw:V→List V→Hp→VK→Prop:=fun x vs H Q=>∃ l b xs zs,x=.ref l∧vs=[.ref b]∧H l=some (.lst xs)∧Rd H b (.lst zs)∧xs.length+zs.length≤KH∧Q .non (upd H l (.lst (xs++zs)))
theorem tR:J8 X "list.extend" Fw:=by
 intro pins s σ H x vs v us Q I rx rv h
 obtain ⟨l,b,xs,zs,rfl,rfl,hH,hB,hz,q⟩:=h
 cases rx
 obtain ⟨u,rfl,ru⟩:=rv.one
 cases ru
 obtain ⟨z,its,n,r,hl,e⟩:=I.G2 hH
 obtain ⟨z2,its2,n2,r2,hl2,e2⟩:=I.kT hB
 have hsz:its.toArray.size+its2.toArray.size≤KH:=by rw [KQ,KQ]; omega
 have hlong:¬ (!its.toArray.isEmpty&&NK (its.toArray.size+its2.toArray.size))=true:=by
  rw [vk hsz,Bool.and_false]
  exact KU
 refine QJ F.slot_list_extend ⟨_,e,rfl⟩ F.entry_list_extend (F.args_list_extend_2 _ _)
  (AutoSeq1.list_extend_list_list_0 l its.toArray n b its2.toArray n2 hlong (by rw [KQ]; omega) (by omega)) ⟨e,e2,?_⟩
 refine ⟨.non,_,I.IF (its':=its++its2) hH e (by simp) (r.append r2) ?_,rfl,q⟩
 rw [K0]
 omega
theorem aA (h:X.K=K):DK X (Fv K):=by subst h; exact Hf
theorem cg (h:X.K=K):cP X (.builtin "len") (fun xs H Q=>∃ x n,xs=[x]∧E7 K x H n∧Q (.int n) H):=by subst h; exact Dh
theorem jt (hc:X.calm=true) (h:X.K=K):cP X (.builtin "sum") (fun xs H Q=>∃ (p:KI) (ns:List Int),xs=[.ref p]∧dA K H p (ns.map V.int)∧Q (.int ns.sum) H):=by subst h; exact Dg hc
theorem kj (hc:X.calm=true) (h:X.K=K):cP X (.builtin "max") (fun xs H Q=>∃ (p:KI) (ns:List Int),xs=[.ref p]∧dA K H p (ns.map V.int)∧ns≠[]∧∀ M,M∈ns→(∀ a,a∈ns→a≤M)→Q (.int M) H):=by subst h; exact A4 hc
end
end L2
namespace VL
variable {es:aF→Option (List D)} {ρ:aF} {ds:List D} {ms:List Bool} {tr:TA} {H:Hp} {n:Nat} {t:TA} {Z:KI→Prop} {vs:List V} {d:D} {ns:List Int} {Q:VK} {neg:Bool} {A:L4}
open PySem L2
section
open Classical
noncomputable section
section
variable [bD] {K:KC} {ta tb tc:TE} {a b c:DE}
noncomputable def ax (a:DE) (es:aF→Option (List D)):aF→Option (List D):=fun ρ=>match a ρ with
 | some d=>(match es ρ with
  | some ds=>some (d::ds)
  | none=>none)
 | none=>none
noncomputable def bK:aF→Option (List D):=fun _=>some []
theorem qF {a:DE} (h:ax a es ρ=some ds):∃ d r,a ρ=some d∧es ρ=some r∧ds=d::r:=by
 unfold ax at h
 split at h
 ·rename_i d e1
  split at h
  ·rename_i r e2
   exact ⟨d,r,e1,e2,(Lz h).symm⟩
  ·cases h
 ·cases h
theorem aH:wg K [] eC bK:=fun f q k=>by cases q; exact k _ _ (aL.refl _) .nil
theorem bq (ha:af K ta a) (hr:wg K ms tr es):wg K (true::ms) (cf ta tr) (ax a es):=fun {B Z os ρ σ H Q ds} f q k=>by
 obtain ⟨d,r,e1,e2,rfl⟩:=qF q
 exact ha f e1 fun v H1 s1 i1=>hr (f.grow s1) e2 fun vs H2 s2 i2=>k _ _ (s1.trans s2) (.own (i1.same s2) i2)
theorem aP (ha:aO K ta a) (hr:wg K ms tr es):wg K (false::ms) (cf ta tr) (ax a es):=fun {B Z os ρ σ H Q ds} f q k=>by
 obtain ⟨d,r,e1,e2,rfl⟩:=qF q
 exact ha f e1 fun v H1 s1 i1=>hr (f.grow s1) e2 fun vs H2 s2 i2=>k _ _ (s1.trans s2) (.any (i1.same s2) i2)
theorem iS {T:KI→Prop} {p:KI} {o:HO} (hp:H p=none):Kp T H (fun a=>a=p∨T a) (upd H p o):=fun a u e z=>by
 have hne:a≠p:=aV e hp
 exact ⟨by rw [av hne]; exact e,fun q=>q.elim hne z⟩
theorem cY (h:wg K (Lr n true) t es) (hn:n≤KH):ck K (Gd t) es:=fun {B Z os ρ σ H Q ds} f q k=>by
 refine h f q fun vs H1 s1 a=>?_
 have hl:vs.length≤KH:=by have:=a.len.1; rw [LR] at this; omega
 exact ⟨hl,fun p hp=>k p vs _ (s1.trans (bG hp)) (aL.free s1 hp) aC hl (a.G3.kp (iS hp))⟩
noncomputable def xW (es:aF→Option (List D)):DE:=fun ρ=>(es ρ).map D.tup
theorem w5 (h:wg K (Lr n true) t es) (hn:n≤KH):af K (H0 t) (xW es):=fun {B Z os ρ σ H Q d} f q k=>by
 unfold xW at q
 cases q1:es ρ with
 | none=>rw [q1] at q; cases q
 | some ds =>
  rw [q1] at q
  cases q
  refine h f q1 fun vs H1 s1 a=>?_
  have hl:vs.length≤KH:=by have:=a.len.1; rw [LR] at this; omega
  exact ⟨hl,fun p hp=>k _ _ (s1.trans (bG hp)) (.tup ((f.grow s1).out hp) aC hl ((a.G3.kp (iS hp)).kp (Kp.less fun a z=>.inr z)))⟩
noncomputable def cc (es:aF→Option (List D)):DE:=fun ρ=>(es ρ).map D.lst
theorem ck.l {t:TE} {e:aF→Option (List D)} (h:ck K t e):af K t (cc e):=h.i
def Cy:D→Int→Option D
 | .lst ds,i=>iF ds i
 | .tup ds,i=>iF ds i
 | .scr ns,i=>(iF ns i).map D.int
 | .str z,i=>if z.length≤KH then (iF z.cps.toList i).map fun c=>.str ⟨#[c]⟩ else none
 | _,_=>none
theorem Dt {i:Int} (r:IsL K H Z vs ds) (h:iF ds i=some d):∃ v,iF vs i=some v∧Is K H Z v d:=by
 unfold iF at h ⊢
 rw [r.length]
 cases e:ixN ds.length i with
 | none=>rw [e] at h; cases h
 | some j =>
  rw [e] at h
  obtain ⟨v,e1,i1⟩:=r.get (i:=j) (show ds[j]?=some d from h)
  exact ⟨v,e1,i1⟩
theorem wd {i:Int} {n:Int} (h:iF ns i=some n):iF (ns.map V.int) i=some (.int n):=by
 unfold iF at h ⊢
 rw [Kw]
 cases e:ixN ns.length i with
 | none=>rw [e] at h; cases h
 | some j =>
  rw [e] at h
  have h':ns[j]?=some n:=h
  show (ns.map V.int)[j]?=some (.int n)
  rw [KO,h']
  rfl
theorem FA {v:V} {e:D} {i:Int} (h:Is K H Z v d) (q:Cy d i=some e) (k:∀ u,Is K H Z u e→Q u H):Fv K v (.int i) H Q:=by
 cases h with
 | lst hz h hl r =>
  obtain ⟨u,e1,i1⟩:=Dt r (show iF _ i=some e from q)
  exact .inl ⟨_,_,i,u,rfl,rfl,.inl h,e1,k u i1⟩
 | tup hz h hl r =>
  obtain ⟨u,e1,i1⟩:=Dt r (show iF _ i=some e from q)
  exact .inr (.inl ⟨_,_,i,u,rfl,rfl,.inl (.inl h),e1,k u i1⟩)
 | str z =>
  have q:(if z.length≤KH then (iF z.cps.toList i).map fun c=>D.str ⟨#[c]⟩ else none)=some e:=q
  by_cases c:z.length≤KH
  ·rw [if_pos c] at q
   cases e2:iF z.cps.toList i with
   | none=>rw [e2] at q; cases q
   | some cp =>
    rw [e2] at q
    cases q
    exact .inr (.inr ⟨z,i,cp,rfl,rfl,c,e2,k _ (.str _)⟩)
  ·rw [if_neg c] at q; cases q
 | @scr p ns hz h hl =>
  have q:(iF ns i).map D.int=some e:=q
  cases e2:iF ns i with
  | none=>rw [e2] at q; cases q
  | some n=>rw [e2] at q; cases q; exact .inl ⟨_,_,i,_,rfl,rfl,.inl h,wd e2,k _ (.int n)⟩
 | @scrK p ns h hl =>
  have q:(iF ns i).map D.int=some e:=q
  cases e2:iF ns i with
  | none=>rw [e2] at q; cases q
  | some n=>rw [e2] at q; cases q; exact .inl ⟨_,_,i,_,rfl,rfl,.inr h,wd e2,k _ (.int n)⟩
 | _=>cases q
noncomputable def dt (a b:DE):DE:=fun ρ=>match a ρ with
 | some d=>(match b ρ with
  | some (.int i)=>Cy d i
  | _=>none)
 | none=>none
theorem vR (h:dt a b ρ=some d):∃ e i,a ρ=some e∧b ρ=some (.int i)∧Cy e i=some d:=by
 unfold dt at h
 split at h
 ·rename_i e e1
  split at h
  ·rename_i i e2
   exact ⟨e,i,e1,e2,h⟩
  ·cases h
 ·cases h
theorem bO (ha:aO K ta a) (hb:aO K tb b):aO K (nT (Fv K) ta tb) (dt a b):=fun {B Z os ρ σ H Q d} f q k=>by
 obtain ⟨e,i,e1,e2,e3⟩:=vR q
 refine ha f e1 fun v H1 s1 i1=>hb (f.grow s1) e2 fun u H2 s2 i2=>?_
 rw [i2.isInt]
 exact FA (i1.same s2) e3 fun w i3=>k _ _ (s1.trans s2) i3
theorem ny (ha:af K ta a) (hb:aO K tb b):af K (nT (Fv K) ta tb) (dt a b):=fun {B Z os ρ σ H Q d} f q k=>by
 obtain ⟨e,i,e1,e2,e3⟩:=vR q
 refine ha f e1 fun v H1 s1 i1=>hb (f.grow s1) e2 fun u H2 s2 i2=>?_
 rw [i2.isInt]
 exact FA (i1.same s2) e3 fun w i3=>k _ _ (s1.trans s2) i3
def D.v:D→V
 | .bl b=>.bl b
 | .int i=>.int i
 | .str x=>.str x
 | .ty n=>.ty n
 | _=>.non
theorem D.v_is (h:d.jC=true):Is K H Z d.v d:=by
 cases d with
 | non=>exact .non
 | bl b=>exact .bl b
 | int b=>exact .int b
 | str b=>exact .str b
 | ty b=>exact .ty b
 | _=>cases h
noncomputable def gz (g:D→Option D) (a:DE):DE:=fun ρ=>match a ρ with
 | some d=>g d
 | none=>none
theorem rG {r:List V→Hp→VK→Prop} {g:D→Option D} (hg:∀ {H v d e} {Q:VK},Is K H No v d→g d=some e→e.jC=true∧(Q e.v H→r [v] H Q)) (ha:aO K ta a):af K (uR r (cf ta eC)) (gz g a):=fun {B Z os ρ σ H Q d} f q k=>by
 unfold gz at q
 split at q
 ·rename_i e e1
  refine ha f e1 fun v H1 s1 i1=>?_
  obtain ⟨hs,hr⟩:=hg (Q:=Q) i1 q
  exact hr (k _ _ s1 (D.v_is hs))
 ·cases q
def gM:D→Option D
 | .lst ds=>some (.int ds.length)
 | .tup ds=>some (.int ds.length)
 | .scr ns=>some (.int ns.length)
 | .str y=>if y.length≤KH then some (.int y.length) else none
 | _=>none
theorem G6 {v:V} {e:D} (h:Is K H No v d) (q:gM d=some e):e.jC=true∧(Q e.v H→∃ x n,[v]=[x]∧E7 K x H n∧Q (.int n) H):=by
 cases h with
 | lst hz h hl r=>cases q; exact ⟨rfl,fun k=>⟨_,_,rfl,.inl ⟨_,.inl h,rfl⟩,by rw [r.length]; exact k⟩⟩
 | tup hz h hl r=>cases q; exact ⟨rfl,fun k=>⟨_,_,rfl,.inr ⟨_,.inl (.inl h),rfl⟩,by rw [r.length]; exact k⟩⟩
 | str z =>
  have q:(if z.length≤KH then some (D.int z.length) else none)=some e:=q
  by_cases c:z.length≤KH
  ·rw [if_pos c] at q; cases q; exact ⟨rfl,fun k=>⟨_,_,rfl,⟨c,rfl⟩,k⟩⟩
  ·rw [if_neg c] at q; cases q
 | scr hz h hl=>cases q; exact ⟨rfl,fun k=>⟨_,_,rfl,.inl ⟨_,.inl h,rfl⟩,by rw [Kw]; exact k⟩⟩
 | scrK h hl=>cases q; exact ⟨rfl,fun k=>⟨_,_,rfl,.inl ⟨_,.inr h,rfl⟩,by rw [Kw]; exact k⟩⟩
 | _=>cases q
theorem fm (ha:aO K ta a):af K (uR (fun xs H Q=>∃ x n,xs=[x]∧E7 K x H n∧Q (.int n) H) (cf ta eC)) (gz gM a):=rG (fun h q=>G6 h q) ha
def cT:List D→Option (List Int)
 | []=>some []
 | .int i::r=>(cT r).map (i::·)
 | _=>none
theorem dR:∀ (ns:List Int),cT (ns.map D.int)=some ns
 | []=>rfl
 | n::ns=>by show (cT (ns.map D.int)).map (n::·)=_; rw [dR ns]; rfl
theorem de:∀ {ds:List D} {ns:List Int},cT ds=some ns→ds=ns.map D.int
 | [],ns,h=>by cases h; rfl
 | .int i::r,ns,h=>by
  have h:(cT r).map (i::·)=some ns:=h
  cases e:cT r with
  | none=>rw [e] at h; cases h
  | some ms=>rw [e] at h; cases h; rw [de e]; rfl
 | .non::_,_,h=>by cases h
 | .bl _::_,_,h=>by cases h
 | .str _::_,_,h=>by cases h
 | .ty _::_,_,h=>by cases h
 | .lst _::_,_,h=>by cases h
 | .tup _::_,_,h=>by cases h
 | .ins _::_,_,h=>by cases h
 | .dct _::_,_,h=>by cases h
 | .scr _::_,_,h=>by cases h
def ofInts (g:List Int→Option D):D→Option D
 | .lst ds=>(cT ds).bind g
 | _=>none
theorem ig (g:List Int→Option D) (ns:List Int):ofInts g (.lst (ns.map D.int))=g ns:=by
 show (cT (ns.map D.int)).bind g=g ns
 rw [dR]; rfl
theorem iP {g:List Int→Option D} {e:D} (h:ofInts g d=some e):∃ ns,d=.lst (ns.map D.int)∧g ns=some e:=by
 cases d with
 | lst ds =>
  have h:(cT ds).bind g=some e:=h
  cases q:cT ds with
  | none=>rw [q] at h; cases h
  | some ns=>rw [q] at h; exact ⟨ns,by rw [de q],h⟩
 | _=>cases h
theorem Is.ints {H:Hp} {Z:KI→Prop} {v:V} {ns:List Int} (h:Is K H Z v (.lst (ns.map D.int))):∃ p,v=.ref p∧Rd H p (.lst (ns.map V.int)):=by
 generalize e:D.lst (ns.map D.int)=d at h
 cases h with
 | lst hz h hl r=>cases e; rw [← r.ints]; exact ⟨_,rfl,h⟩
 | _=>cases e
def uT:D→Option D:=ofInts fun ns=>some (.int ns.sum)
theorem tf (ha:aO K ta a):af K (uR (fun xs H Q=>∃ (p:KI) (ns:List Int),xs=[.ref p]∧dA K H p (ns.map V.int)∧Q (.int ns.sum) H) (cf ta eC)) (gz uT a):=by
 refine rG (fun h q=>?_) ha
 obtain ⟨ns,rfl,e⟩:=iP q
 cases e
 obtain ⟨p,rfl,r⟩:=h.ints
 exact ⟨rfl,fun k=>⟨p,ns,rfl,.inl r,k⟩⟩
def nY (x:Int) (r:List Int):Int:=r.foldl max x
def xC (x:Int) (r:List Int):Int:=r.foldl min x
theorem aQ:∀ (r:List Int) (x:Int),nY x r∈x::r∧∀ a∈x::r,a≤nY x r
 | [],x=>⟨Ky,fun a h=>by rw [Kz.mp h]; exact Mh _⟩
 | y::r,x=>by
  obtain ⟨h1,h2⟩:=aQ r (max x y)
  have e:nY x (y::r)=nY (max x y) r:=rfl
  rw [e]
  refine ⟨?_,fun a ha=>?_⟩
  ·rcases KP.mp h1 with q | q
   ·rw [q]
    rcases Int.le_total x y with z | z
    ·rw [Int.max_eq_right z]; simp
    ·rw [Int.max_eq_left z]; simp
   ·simp [q]
  ·have hm:=h2 (max x y) Ky
   rcases KP.mp ha with rfl | ha
   ·omega
   ·rcases KP.mp ha with rfl | ha
    ·omega
    ·exact h2 a (Kx _ ha)
theorem gX:∀ (r:List Int) (x:Int),xC x r∈x::r∧∀ a∈x::r,xC x r≤a
 | [],x=>⟨Ky,fun a h=>by rw [Kz.mp h]; exact Mh _⟩
 | y::r,x=>by
  obtain ⟨h1,h2⟩:=gX r (min x y)
  have e:xC x (y::r)=xC (min x y) r:=rfl
  rw [e]
  refine ⟨?_,fun a ha=>?_⟩
  ·rcases KP.mp h1 with q | q
   ·rw [q]
    rcases Int.le_total x y with z | z
    ·rw [Int.min_eq_left z]; simp
    ·rw [Int.min_eq_right z]; simp
   ·simp [q]
  ·have hm:=h2 (min x y) Ky
   rcases KP.mp ha with rfl | ha
   ·omega
   ·rcases KP.mp ha with rfl | ha
    ·omega
    ·exact h2 a (Kx _ ha)
theorem iQ {M N:Int} (h1:M∈ns) (h2:∀ a∈ns,a≤M) (h3:N∈ns) (h4:∀ a∈ns,a≤N):M=N:=by
 have:=h2 N h3
 have:=h4 M h1
 omega
theorem Ci {M N:Int} (h1:M∈ns) (h2:∀ a∈ns,M≤a) (h3:N∈ns) (h4:∀ a∈ns,N≤a):M=N:=by
 have:=h2 N h3
 have:=h4 M h1
 omega
def maxD:D→Option D:=ofInts fun ns=>match ns with
 | []=>none
 | x::r=>some (.int (nY x r))
theorem xb (ha:aO K ta a):af K (uR (fun xs H Q=>∃ (p:KI) (ns:List Int),xs=[.ref p]∧dA K H p (ns.map V.int)∧ns≠[]∧∀ M,M∈ns→(∀ a,a∈ns→a≤M)→Q (.int M) H) (cf ta eC)) (gz maxD a):=by
 refine rG (fun h q=>?_) ha
 obtain ⟨ns,rfl,e⟩:=iP q
 obtain ⟨p,rfl,r⟩:=h.ints
 cases ns with
 | nil=>cases e
 | cons x t =>
  cases e
  refine ⟨rfl,fun k=>⟨p,x::t,rfl,.inl r,by simp,fun M h1 h2=>?_⟩⟩
  rw [iQ h1 h2 (aQ t x).1 (aQ t x).2]
  exact k
noncomputable def zh:DE→DE→DE:=nN fun i j=>some (.int (if j > i then j else i))
noncomputable def zg:DE→DE→DE:=nN fun i j=>some (.int (if j<i then j else i))
theorem D6 (ha:aO K ta a) (hb:aO K tb b):af K (uR (fun xs H Q=>∃ i j,xs=[.int i,.int j]∧Q (.int (if j > i then j else i)) H) (cf ta (cf tb eC))) (zh a b):=fun {B Z os ρ σ H Q d} f q k=>by
 obtain ⟨i,j,e1,e2,e3⟩:=lC q
 cases e3
 refine ha f e1 fun v H1 s1 i1=>hb (f.grow s1) e2 fun u H2 s2 i2=>⟨i,j,by rw [i1.isInt,i2.isInt],k _ _ (s1.trans s2) (.int _)⟩
theorem D4 (ha:aO K ta a) (hb:aO K tb b):af K (uR (fun xs H Q=>∃ i j,xs=[.int i,.int j]∧Q (.int (if j<i then j else i)) H) (cf ta (cf tb eC))) (zg a b):=fun {B Z os ρ σ H Q d} f q k=>by
 obtain ⟨i,j,e1,e2,e3⟩:=lC q
 cases e3
 refine ha f e1 fun v H1 s1 i1=>hb (f.grow s1) e2 fun u H2 s2 i2=>⟨i,j,by rw [i1.isInt,i2.isInt],k _ _ (s1.trans s2) (.int _)⟩
def intD:D→Option D
 | .int i=>some (.int i)
 | .bl b=>some (.int (if b=true then 1 else 0))
 | _=>none
theorem tp (ha:aO K ta a):af K (uR (fun xs H Q=>(∃ i,xs=[.int i]∧Q (.int i) H)∨∃ k,xs=[.bl k]∧Q (.int (if k then 1 else 0)) H) (cf ta eC)) (gz intD a):=by
 refine rG (fun h q=>?_) ha
 cases h with
 | int i=>cases q; exact ⟨rfl,fun k=>.inl ⟨i,rfl,k⟩⟩
 | bl b=>cases q; exact ⟨rfl,fun k=>.inr ⟨b,rfl,k⟩⟩
 | _=>cases q
def D.DP:D→String
 | .non => "NoneType"
 | .bl _ => "bool"
 | .int _ => "int"
 | .str _ => "str"
 | .lst _ => "list"
 | .tup _ => "tuple"
 | .ty _ => "type"
 | .ins _ => "object"
 | .dct _ => "object"
 | .scr _ => "script"
def xJ:List (String×String×Bool):=[("int", "int", true),("int", "bool", false),("int", "list", false),("int", "tuple", false),("int", "str", false),("bool", "int", true),("bool", "bool", true),("bool", "list", false),("bool", "tuple", false),("list", "list", true),("list", "tuple", false),("list", "int", false),("list", "str", false),("tuple", "tuple", true),("tuple", "list", false),("tuple", "int", false),("str", "str", true),("str", "list", false),("str", "int", false),("NoneType", "int", false),("NoneType", "list", false),("NoneType", "tuple", false)]
def qX (x n:String):Option Bool:=(xJ.find? fun t=>decide (t.1=x)&&decide (t.2.1=n)).map fun t=>t.2.2
noncomputable def AW (n:String) (a:DE):DE:=fun ρ=>match a ρ with
 | some d=>(qX d.DP n).map D.bl
 | none=>none
theorem Cz {x n:String} {b:Bool} (h:qX x n=some b):Ol K (.type x) (.type n)=some b:=by
 unfold qX at h
 obtain ⟨t,e,rfl⟩:=LO.mp h
 have hm:=List.mem_of_find?_eq_some e
 have hp:=List.find?_some e
 rw [Nb,decide_eq_true_iff,decide_eq_true_iff] at hp
 obtain ⟨rfl,rfl⟩:=hp
 clear e h
 revert t
 unfold xJ
 repeat' (first | exact fun t h=>absurd h NR | refine List.forall_mem_cons.mpr ⟨?_,?_⟩)
 all_goals first | rfl | with_unfolding_all rfl
theorem DQ {v:V} {n:String} {b:Bool} (h:Is K H No v d) (e:qX d.DP n=some b):jH K H v (.type d.DP):=by
 cases h with
 | non=>exact .non
 | bl b=>exact .bl b
 | int b=>exact .int b
 | str b=>exact .str b
 | ty n=>unfold qX at e; simp [D.DP,xJ] at e
 | lst hz h hl r=>rcases h with h | ⟨o,h⟩; exact .lst h; exact .jr h
 | tup hz h hl r=>exact .tup h
 | ins _ _=>unfold qX at e; simp [D.DP,xJ] at e
 | dct _ _ _=>unfold qX at e; simp [D.DP,xJ] at e
 | scr _ _ _=>unfold qX at e; simp [D.DP,xJ] at e
 | scrK _ _=>unfold qX at e; simp [D.DP,xJ] at e
theorem tj {n:String} (ha:aO K ta a):af K (uR (fun xs H Q=>∃ x n t b,xs=[x,.ty n]∧jH K H x t∧Ol K t (.type n)=some b∧Q (.bl b) H) (cf ta (cf (tC (.ty n)) eC))) (AW n a):=fun {B Z os ρ σ H Q d} f q k=>by
 unfold AW at q
 split at q
 ·rename_i e e1
  cases q1:qX e.DP n with
  | none=>rw [q1] at q; cases q
  | some b =>
   rw [q1] at q
   cases q
   exact ha f e1 fun v H1 s1 i1=>⟨v,n,_,b,rfl,DQ i1 q1,Cz q1,k _ _ s1 (.bl b)⟩
 ·cases q
noncomputable def IC:aF→Option (Option Int):=fun _=>some none
def iG (a:DE):aF→Option (List D):=fun ρ=>match a ρ with
 | some d=>G4 d
 | none=>none
theorem jb {a:DE} (h:iG a ρ=some ds):∃ d,a ρ=some d∧G4 d=some ds:=by
 unfold iG at h
 split at h
 ·exact ⟨_,by assumption,h⟩
 ·cases h
theorem Is.p8 {v:V} (h:Is K H Z v (.lst ds)):∃ p vs,v=.ref p∧¬ Z p∧Rd H p (.lst vs)∧vs.length≤KH∧IsL K H Z vs ds:=by
 cases h with
 | lst hz h hl r=>exact ⟨_,_,rfl,hz,h,hl,r⟩
theorem Is.isTup {v:V} (h:Is K H Z v (.tup ds)):∃ p vs,v=.ref p∧¬ Z p∧H p=some (.tup vs)∧vs.length≤KH∧IsL K H Z vs ds:=by
 cases h with
 | tup hz h hl r=>exact ⟨_,_,rfl,hz,h,hl,r⟩
def kZ (ds:List D):Bool:=ds.all D.jC
theorem IsL.flat {H H':Hp} {Z Z':KI→Prop}:∀ {vs:List V} {ds:List D},IsL K H Z vs ds→kZ ds=true→IsL K H' Z' vs ds
 | _,_,.nil,_=>.nil
 | _,_,.cons h r,e=>by
  have e:=(Nb _ _).mp (show (D.jC _&&kZ _)=true from e)
  exact .cons (h.jC e.1) (r.flat e.2)
noncomputable def qg (e:aF→Option (List D)):aF→Option (List D):=fun ρ=>match e ρ with
 | some ds=>if kZ ds=true then some ds else none
 | none=>none
theorem xQ {e:aF→Option (List D)} (h:qg e ρ=some ds):e ρ=some ds∧kZ ds=true:=by
 unfold qg at h
 split at h
 ·rename_i es e1
  by_cases c:kZ es=true
  ·rw [if_pos c] at h; cases h; exact ⟨e1,c⟩
  ·rw [if_neg c] at h; cases h
 ·cases h
noncomputable def rg (a:DE):aF→Option (List D):=fun ρ=>match a ρ with
 | some (.tup ds)=>some ds
 | some d=>G4 d
 | _=>none
theorem si (h:rg a ρ=some ds):a ρ=some (.tup ds)∨∃ d,a ρ=some d∧G4 d=some ds:=by
 unfold rg at h
 split at h
 ·rename_i es e; cases h; exact .inl e
 ·rename_i d _ e; exact .inr ⟨d,e,h⟩
 ·cases h
theorem D8 (ha:af K ta a):ck K (uR (fun xs H Q=>∃ p ys,xs=[.ref p]∧(dA K H p ys∨Bh K H p ys)∧∀ l,H l=none→Q (.ref l) (upd H l (.lst ys))) (cf ta eC)) (rg a):=fun {B Z os ρ σ H Q ds} f q k=>by
 rcases si q with e1 | ⟨d,e1,ed⟩
 ·refine ha f e1 fun v H1 s1 i1=>?_
  obtain ⟨p,vs,rfl,hz,hr,hn,r⟩:=i1.isTup
  exact ⟨p,vs,rfl,.inr (.inl (.inl hr)),fun n hn'=>k n _ _ (s1.trans (bG hn')) (aL.free s1 hn') aC hn (r.kp (iS hn'))⟩
 ·refine ha f e1 fun v H1 s1 i1=>?_
  obtain ⟨p,vs,rfl,hn,_,hr⟩:=i1.seq ed
  obtain ⟨hr,r⟩:=hr H1 _ Kp.refl
  exact ⟨p,vs,rfl,.inl hr,fun n hn'=>k n _ _ (s1.trans (bG hn')) (aL.free s1 hn') aC hn (r.kp (iS hn'))⟩
theorem u4 (ha:aO K ta a):ck K (uR (fun xs H Q=>∃ p ys,xs=[.ref p]∧(dA K H p ys∨Bh K H p ys)∧∀ l,H l=none→Q (.ref l) (upd H l (.lst ys))) (cf ta eC)) (qg (rg a)):=fun {B Z os ρ σ H Q ds} f q k=>by
 obtain ⟨q,hf⟩:=xQ q
 rcases si q with e1 | ⟨d,e1,ed⟩
 ·refine ha f e1 fun v H1 s1 i1=>?_
  obtain ⟨p,vs,rfl,hz,hr,hn,r⟩:=i1.isTup
  exact ⟨p,vs,rfl,.inr (.inl (.inl hr)),fun n hn'=>k n _ _ (s1.trans (bG hn')) (aL.free s1 hn') aC hn (r.flat hf)⟩
 ·refine ha f e1 fun v H1 s1 i1=>?_
  obtain ⟨p,vs,rfl,hn,_,hr⟩:=i1.seq ed
  obtain ⟨hr,r⟩:=hr H1 _ Kp.refl
  exact ⟨p,vs,rfl,.inl hr,fun n hn'=>k n _ _ (s1.trans (bG hn')) (aL.free s1 hn') aC hn (r.flat hf)⟩
noncomputable def m4 (a b:DE):aF→Option (List D):=fun ρ=>match a ρ with
 | some (.lst ds)=>(match b ρ with
  | some (.lst es)=>if ds.length+es.length≤KH then some (ds++es) else none
  | _=>none)
 | _=>none
theorem AX (h:m4 a b ρ=some ds):∃ xs ys,a ρ=some (.lst xs)∧b ρ=some (.lst ys)∧xs.length+ys.length≤KH∧ds=xs++ys:=by
 unfold m4 at h
 split at h
 ·rename_i xs e1
  split at h
  ·rename_i ys e2
   by_cases c:xs.length+ys.length≤KH
   ·rw [if_pos c] at h; exact ⟨xs,ys,e1,e2,c,(Lz h).symm⟩
   ·rw [if_neg c] at h; cases h
  ·cases h
 ·cases h
theorem tq (ha:af K ta a) (hb:af K tb b):ck K (nT Fx ta tb) (m4 a b):=fun {B Z os ρ σ H Q ds} f q k=>by
 obtain ⟨xs,ys,e1,e2,hc,rfl⟩:=AX q
 refine ha f e1 fun v H1 s1 i1=>hb (f.grow s1) e2 fun u H2 s2 i2=>?_
 obtain ⟨p,vs,rfl,hz,hr,hn,r⟩:=(i1.same s2).p8
 obtain ⟨p2,us,rfl,hz2,hr2,hn2,r2⟩:=i2.p8
 have hl:vs.length+us.length≤KH:=by rw [r.length,r2.length]; exact hc
 have s12:=s1.trans s2
 exact ⟨p,p2,vs,us,rfl,rfl,hr,hr2,hl,fun n hn'=>k n _ _ (s12.trans (bG hn')) (aL.free s12 hn') aC (by rw [K0]; exact hl) ((r.append r2).kp (iS hn'))⟩
noncomputable def AS (a:aF→Option (List D)) (b:DE):aF→Option (List D):=fun ρ=>match a ρ with
 | some ds=>(match b ρ with
  | some (.int n)=>if -(2 ^ 63)≤n∧n<2 ^ 63∧ds.length*n.toNat≤KH then some (Lr n.toNat ds).flatten else none
  | _=>none)
 | none=>none
theorem IsL.rep {H:Hp} {Z:KI→Prop} {vs:List V} {ds:List D} (r:IsL K H Z vs ds):∀ n,IsL K H Z (Lr n vs).flatten (Lr n ds).flatten
 | 0=>.nil
 | n+1=>by rw [M7,ND,M7,ND]; exact r.append (r.rep n)
theorem BJ {a:aF→Option (List D)} (ha:ck K ta a) (hb:aO K tb b):ck K (nT Iv ta tb) (AS a b):=fun {B Z os ρ σ H Q ds} f q k=>by
 unfold AS at q
 split at q
 ·rename_i es e1
  split at q
  ·rename_i n e2
   by_cases c:-(2 ^ 63)≤n∧n<2 ^ 63∧es.length*n.toNat≤KH
   ·rw [if_pos c] at q
    cases q
    refine ha f e1 fun p vs H1 s1 hp hp' hl i1=>hb (f.grow s1) e2 fun u H2 s2 i2=>?_
    rw [i2.isInt]
    have i1':=(i1.same s2).kp (Kp.less (Z':=bS Z os) fun a z=>.inr z)
    have hlen:vs.length*n.toNat≤KH:=by rw [i1.length]; exact c.2.2
    have s12:=s1.trans s2
    refine ⟨p,n,vs,rfl,rfl,s2 _ _ hp',c.1,c.2.1,hlen,fun x hx=>k x _ _ (s12.trans (bG hx)) (aL.free s12 hx) aC ?_ ((i1'.rep _).kp (iS hx))⟩
    rw [len_rep,Nat.mul_comm]; exact hlen
   ·rw [if_neg c] at q; cases q
  ·cases q
 ·cases q
def HP:D→List D→Option Bool
 | .int i,ds=>(cT ds).map fun ns=>decide (i∈ns)
 | _,_=>none
theorem AJ (k:Int) (hs:List Int):yZ (.int k) (hs.map V.int)=decide (k∈hs):=by
 unfold yZ
 rw [List.any_map,LY,Pd,decide_eq_true_iff]
 constructor
 ·rintro ⟨x,hx,e⟩
  have e':(x==k)=true:=e
  rw [← beq_iff_eq.mp e']
  exact hx
 ·intro h
  exact ⟨k,h,show (k==k)=true from beq_self_eq_true k⟩
theorem xR (hs:List Int):(hs.map V.int).all iW=true:=by
 rw [Sh,Ml]
 intro x _
 rfl
noncomputable def HR (neg:Bool) (a b:DE):DE:=fun ρ=>match a ρ with
 | some d=>(match b ρ with
  | some (.lst ds)=>(HP d ds).map fun c=>.bl (if neg then !c else c)
  | some (.tup ds)=>(HP d ds).map fun c=>.bl (if neg then !c else c)
  | _=>none)
 | none=>none
theorem CB {v:V} {c:Bool} (i:Is K H Z v d) (r:IsL K H Z vs ds) (h:HP d ds=some c):iW v=true∧vs.all iW=true∧yZ v vs=c:=by
 cases i with
 | int i =>
  have h:(cT ds).map (fun ns=>decide (i∈ns))=some c:=h
  cases e:cT ds with
  | none=>rw [e] at h; cases h
  | some ns =>
   rw [e] at h
   cases h
   have e2:=de e
   subst e2
   rw [r.ints]
   exact ⟨rfl,xR ns,AJ i ns⟩
 | _=>cases h
theorem Fq (ha:aO K ta a) (hb:aO K tb b):af K (nT (Jr K neg) ta tb) (HR neg a b):=fun {B Z os ρ σ H Q d} f q k=>by
 unfold HR at q
 split at q
 ·rename_i e e1
  split at q
  ·rename_i ds e2
   cases q1:HP e ds with
   | none=>rw [q1] at q; cases q
   | some c =>
    rw [q1] at q
    cases q
    refine ha f e1 fun v H1 s1 i1=>hb (f.grow s1) e2 fun u H2 s2 i2=>?_
    obtain ⟨p,vs,rfl,hz,hr,hn,r⟩:=i2.p8
    obtain ⟨h1,h2,h3⟩:=CB (i1.same s2) r q1
    exact ⟨p,vs,rfl,.inl (.inl hr),h1,h2,by rw [h3]; exact k _ _ (s1.trans s2) (.bl _)⟩
  ·rename_i ds e2
   cases q1:HP e ds with
   | none=>rw [q1] at q; cases q
   | some c =>
    rw [q1] at q
    cases q
    refine ha f e1 fun v H1 s1 i1=>hb (f.grow s1) e2 fun u H2 s2 i2=>?_
    obtain ⟨p,vs,rfl,hz,hr,hn,r⟩:=i2.isTup
    obtain ⟨h1,h2,h3⟩:=CB (i1.same s2) r q1
    exact ⟨p,vs,rfl,.inr (.inl (.inl hr)),h1,h2,by rw [h3]; exact k _ _ (s1.trans s2) (.bl _)⟩
  ·cases q
 ·cases q
end
end
end
section
open Classical
noncomputable section
instance:Inhabited D:=⟨.non⟩
theorem Gu {a:KI} {xs ys:List V} (h:Rd H a (.lst xs)) (h':Rd H a (.lst ys)):xs=ys:=by
 rcases h with h | ⟨o,h⟩ <;> rcases h' with h' | ⟨o',h'⟩ <;> rw [h] at h' <;> cases h' <;> rfl
def fe:Nat→D→D→Bool
 | _,.int _,.int _=>true
 | _,.bl _,.bl _=>true
 | _,.str _,.str _=>true
 | _,.non,.non=>true
 | n+1,.lst xs,.lst ys=>decide (xs.length≠ys.length) || (Oc xs ys).all fun p=>fe n p.1 p.2
 | n+1,.tup xs,.tup ys=>decide (xs.length=ys.length)&&(Oc xs ys).all fun p=>fe n p.1 p.2
 | _,_,_=>false
theorem Bj {xs ys:List D} {j:Nat} {a b:D} {p:D×D→Bool} (h:(Oc xs ys).all p=true) (e1:xs[j]?=some a) (e2:ys[j]?=some b):p (a,b)=true :=
 Ml.mp h _ (LI (i:=j) (List.getElem?_zip_eq_some.mpr ⟨e1,e2⟩))
inductive Cm:Nat→D→D→Prop
 | int {n:Nat} (a b:Int):Cm n (.int a) (.int b)
 | bl {n:Nat} (a b:Bool):Cm n (.bl a) (.bl b)
 | str {n:Nat} (a b:LV):Cm n (.str a) (.str b)
 | non {n:Nat}:Cm n .non .non
 | lst {n:Nat} {xs ys:List D} (h:xs.length=ys.length→(Oc xs ys).all (fun p=>fe n p.1 p.2)=true):Cm (n+1) (.lst xs) (.lst ys)
 | tup {n:Nat} {xs ys:List D} (hl:xs.length=ys.length) (h:(Oc xs ys).all (fun p=>fe n p.1 p.2)=true):Cm (n+1) (.tup xs) (.tup ys)
theorem lG {e:D} (hc:fe n d e=true):Cm n d e:=by
 unfold fe at hc
 split at hc
 ·exact .int _ _
 ·exact .bl _ _
 ·exact .str _ _
 ·exact .non
 ·exact .lst fun hl=>by simpa [hl] using hc
 ·rw [Nb] at hc; exact .tup (of_decide_eq_true hc.1) hc.2
 ·cases hc
theorem Is.ky {v:V} {a:Int} (i:Is K H Z v (.int a)):v=.int a:=by cases i; rfl
theorem Is.sL {v:V} {a:Bool} (i:Is K H Z v (.bl a)):v=.bl a:=by cases i; rfl
theorem Is.nj {v:V} {a:LV} (i:Is K H Z v (.str a)):v=.str a:=by cases i; rfl
theorem Is.rn {v:V} (i:Is K H Z v .non):v=.non:=by cases i; rfl
theorem Is.jK {v:V} (i:Is K H Z v (.lst ds)):∃ a vs,v=.ref a∧¬ Z a∧Rd H a (.lst vs)∧vs.length≤KH∧IsL K H Z vs ds:=by
 cases i with | lst hz h hl r=>exact ⟨_,_,rfl,hz,h,hl,r⟩
theorem Is.nh {v:V} (i:Is K H Z v (.tup ds)):∃ a vs,v=.ref a∧¬ Z a∧H a=some (.tup vs)∧vs.length≤KH∧IsL K H Z vs ds:=by
 cases i with | tup hz h hl r=>exact ⟨_,_,rfl,hz,h,hl,r⟩
theorem Is.inj {Z':KI→Prop}:∀ (n:Nat) {v:V} {d e:D},fe n d e=true→Is K H Z v d→Is K H Z' v e→d=e:=by
 intro n
 induction n using Q3 with | ind n ih=>?_
 have lists:∀ {m:Nat},m<n→∀ {vs:List V} {ds es:List D},(Oc ds es).all (fun p=>fe m p.1 p.2)=true→IsL K H Z vs ds→IsL K H Z' vs es→ds=es:=by
  intro m hm vs ds es hc r r'
  have l1:=r.length
  have l2:=r'.length
  refine MN (by omega) fun k h1 h2=>?_
  obtain ⟨v,e1,i1⟩:=r.get (Kv h1)
  obtain ⟨v',e2,i2⟩:=r'.get (Kv h2)
  rw [e1] at e2
  cases e2
  exact ih m hm (Bj hc (Kv h1) (Kv h2)) i1 i2
 intro v d e hc i j
 cases lG hc with
 | int=>have h:=i.ky; rw [j.ky] at h; cases h; rfl
 | bl=>have h:=i.sL; rw [j.sL] at h; cases h; rfl
 | str=>have h:=i.nj; rw [j.nj] at h; cases h; rfl
 | non=>rfl
 | lst h =>
  obtain ⟨p,xs,rfl,z1,h1,l1,g1⟩:=i.jK
  obtain ⟨q,ys,e,z2,h2,l2,g2⟩:=j.jK
  cases e
  have e:=Gu h1 h2
  subst e
  rw [lists (Nu _) (h (by have:=g1.length; have:=g2.length; omega)) g1 g2]
 | tup hl h =>
  obtain ⟨p,xs,rfl,z1,h1,l1,g1⟩:=i.nh
  obtain ⟨q,ys,e,z2,h2,l2,g2⟩:=j.nh
  cases e
  rw [h1] at h2
  cases h2
  rw [lists (Nu _) h g1 g2]
section
variable {X:Cx} {pins:List (KI×Nv)} {σ:L2.St} {H:Hp} {s:KJ}
theorem uk (xs ys:List D):decide (D.lst xs=D.lst ys)=decide (xs=ys):=by
 rw [LY,decide_eq_true_iff,decide_eq_true_iff]
 exact ⟨fun h=>D.lst.inj h,fun h=>by rw [h]⟩
theorem uj (xs ys:List D):decide (D.tup xs=D.tup ys)=decide (xs=ys):=by
 rw [LY,decide_eq_true_iff,decide_eq_true_iff]
 exact ⟨fun h=>D.tup.inj h,fun h=>by rw [h]⟩
theorem lp (a b:Int):decide (D.int a=D.int b)=(a==b):=by
 rw [LY,decide_eq_true_iff,beq_iff_eq]
 exact ⟨fun h=>D.int.inj h,fun h=>by rw [h]⟩
theorem um (a b:Bool):decide (D.bl a=D.bl b)=(a==b):=by
 rw [LY,decide_eq_true_iff,beq_iff_eq]
 exact ⟨fun h=>D.bl.inj h,fun h=>by rw [h]⟩
theorem oN (a b:LV):decide (D.str a=D.str b)=(a==b):=by
 rw [LY,decide_eq_true_iff,beq_iff_eq]
 exact ⟨fun h=>D.str.inj h,fun h=>by rw [h]⟩
theorem yH {l b:KI} {us ws:List KD} {ns ms:List D} (p1:s.heap.IsTuple l us.toArray) (p2:s.heap.IsTuple b ws.toArray) (hl:us.length=ns.length) (hl2:ws.length=ms.length) (hs:ns.length=ms.length) (hu:A.units<OT)
 (h:∀ (j:Nat) (u v:KD) (a b:D),us[j]?=some u→ws[j]?=some v→ns[j]?=some a→ms[j]?=some b→NJ A.in1 s u v (decide (a=b))) :
 SeqAt.RcAt A s (.ref l) (.ref b) (decide (ns=ms)):=by
 have q:=SeqAt.RcAt.tuples (e:=fun j=>decide (ns.getD j default=ms.getD j default)) p1 p2 hu (ip hl hl2 h)
 have e:((KW (min us.toArray.size ws.toArray.size)).all fun j=>decide (ns.getD j default=ms.getD j default))=decide (ns=ms):=by
  rw [KQ,KQ,hl,hl2,← hs,Si]; exact fI default hs
 have e2:(us.toArray.size==ws.toArray.size)=true:=by simp; omega
 rw [e,e2,RQ] at q
 exact q
theorem z5 {l b:KI} {us ws:List KD} {ns ms:List D} (p1:s.heap.IsTuple l us.toArray) (p2:s.heap.IsTuple b ws.toArray) (hl:us.length=ns.length) (hl2:ws.length=ms.length) (hs:ns.length=ms.length) (hu:A.units<OT)
 (h:∀ (j:Nat) (u v:KD) (a b:D),us[j]?=some u→ws[j]?=some v→ns[j]?=some a→ms[j]?=some b→NJ A.in1 s u v (decide (a=b))) :
 Tv A s (.ref l) (.ref b) (!decide (ns=ms)):=by
 have q:=SeqAt.RcNeAt.tuples (e:=fun j=>decide (ns.getD j default=ms.getD j default)) p1 p2 hu (ip hl hl2 h)
 have e:((KW (min us.toArray.size ws.toArray.size)).all fun j=>decide (ns.getD j default=ms.getD j default))=decide (ns=ms):=by
  rw [KQ,KQ,hl,hl2,← hs,Si]; exact fI default hs
 have e2:(us.toArray.size==ws.toArray.size)=true:=by simp; omega
 rw [e,e2,RQ] at q
 exact q
theorem in1_units:A.in1.units=A.units+1:=rfl
theorem gY {xs ys:List V} {us ws:List KD} {es:List D} (hc:(Oc ds es).all (fun p=>fe n p.1 p.2)=true) (r1:Vals xs us) (r2:Vals ys ws) (g1:IsL K H No xs ds) (g2:IsL K H No ys es)
 (ih:∀ {v w:V} {d e:D} {u x:KD},RelV v u→RelV w x→Is K H No v d→Is K H No w e→fe n d e=true→NJ A s u x (decide (d=e))) :
 ∀ (j:Nat) (u v:KD) (a b:D),us[j]?=some u→ws[j]?=some v→ds[j]?=some a→es[j]?=some b→NJ A s u v (decide (a=b)):=by
 intro j u v a b e1 e2 e3 e4
 obtain ⟨x,f1,i1⟩:=g1.get e3
 obtain ⟨y,f2,i2⟩:=g2.get e4
 obtain ⟨u',q1,k1⟩:=r1.get f1
 obtain ⟨v',q2,k2⟩:=r2.get f2
 rw [e1] at q1; cases q1
 rw [e2] at q2; cases q2
 exact ih k1 k2 i1 i2 (Bj hc e3 e4)
theorem oM (I:Inv X pins σ H s):∀ (n:Nat) {A:L4},A.units+n<OT→∀ {v w:V} {d e:D} {u x:KD},RelV v u→RelV w x→Is K H No v d→Is K H No w e→fe n d e=true→NJ A s u x (decide (d=e)):=by
 intro n
 induction n using Q3 with | ind n ih=>?_
 intro A hu v w d e u x r1 r2 i1 i2 hc
 have hc0:=hc
 cases lG hc with
 | int a b=>rw [i1.ky] at r1; rw [i2.ky] at r2; obtain ⟨t,rfl⟩:=r1; obtain ⟨t',rfl⟩:=r2; rw [lp]; exact OL a t b t'
 | bl a b=>rw [i1.sL] at r1; rw [i2.sL] at r2; cases r1; cases r2; rw [um]; exact Rk a b
 | str a b=>rw [i1.nj] at r1; rw [i2.nj] at r2; obtain ⟨t,rfl⟩:=r1; obtain ⟨t',rfl⟩:=r2; rw [oN]; exact R0 a t b t'
 | non=>rw [i1.rn] at r1; rw [i2.rn] at r2; cases r1; cases r2; rw [decide_eq_true rfl]; exact Pr _
 | @lst n ds es h =>
  have j1:=i1
  have j2:=i2
  obtain ⟨p,xs,rfl,z1,h1,l1,g1⟩:=i1.jK
  obtain ⟨q,ys,rfl,z2,h2,l2,g2⟩:=i2.jK
  cases r1
  cases r2
  by_cases hpq:p=q
  ·subst hpq
   rw [decide_eq_true (Is.inj _ hc0 j1 j2)]
   exact Pr _
  ·obtain ⟨_,us,m1,k1,n1,o1⟩:=I.kT h1
   obtain ⟨_,ws,m2,k2,n2,o2⟩:=I.kT h2
   rw [uk]
   have e1:=g1.length
   have e2:=g2.length
   refine R5 hpq ?_
   by_cases hl:ds.length=es.length
   ·exact pG ⟨_,o1,rfl,_,rfl⟩ ⟨_,o2,rfl,_,rfl⟩ (by omega) (by omega) (by omega) (gY (h hl) k1 k2 g1 g2 (ih n (Nu _) (by rw [in1_units]; omega)))
   ·have q:=OH (A:=A) (s:=s) (items:=us.toArray) (items2:=ws.toArray) ⟨_,o1,rfl,_,rfl⟩ ⟨_,o2,rfl,_,rfl⟩ (by simp; omega) (by omega)
    have e:decide (ds=es)=false:=decide_eq_false fun z=>hl (by rw [z])
    rw [e]
    exact q
 | @tup n ds es hl h =>
  have j1:=i1
  have j2:=i2
  obtain ⟨p,xs,rfl,z1,h1,l1,g1⟩:=i1.nh
  obtain ⟨q,ys,rfl,z2,h2,l2,g2⟩:=i2.nh
  cases r1
  cases r2
  by_cases hpq:p=q
  ·subst hpq
   rw [decide_eq_true (Is.inj _ hc0 j1 j2)]
   exact Pr _
  ·obtain ⟨us,k1,o1,_⟩:=I.tuple (xs:=xs) (.inl (.inl h1))
   obtain ⟨ws,k2,o2,_⟩:=I.tuple (xs:=ys) (.inl (.inl h2))
   rw [uj]
   have e1:=g1.length
   have e2:=g2.length
   have n1:=k1.length
   have n2:=k2.length
   exact R5 hpq (yH o1 o2 (by omega) (by omega) hl (by omega) (gY h k1 k2 g1 g2 (ih n (Nu _) (by rw [in1_units]; omega))))
def Gw (K:KC) (neg:Bool):R2:=fun x y H Q=>∃ d e,Is K H No x d∧Is K H No y e∧fe 20 d e=true∧Q (.bl (if neg=true then !decide (d=e) else decide (d=e))) H
theorem eQ (hu:X.A.units+64<OT):oR X (Nj .Eq) (Gw K false):=by
 intro pins s σ H x y v u Q I rx ry h
 obtain ⟨d,e,i1,i2,hc,h⟩:=h
 rw [if_neg KU] at h
 cases lG hc with
 | int a b=>obtain rfl:=i1.ky; obtain rfl:=i2.ky; exact yO pins s σ H _ _ v u Q I rx ry ⟨rfl,by rw [show decide (V.int a=V.int b)=decide (D.int a=D.int b) from decide_eq_decide.mpr ⟨fun q=>by cases q; rfl,fun q=>by cases q; rfl⟩]; exact h⟩
 | bl a b=>obtain rfl:=i1.sL; obtain rfl:=i2.sL; exact yO pins s σ H _ _ v u Q I rx ry ⟨rfl,by rw [show decide (V.bl a=V.bl b)=decide (D.bl a=D.bl b) from decide_eq_decide.mpr ⟨fun q=>by cases q; rfl,fun q=>by cases q; rfl⟩]; exact h⟩
 | str a b=>obtain rfl:=i1.nj; obtain rfl:=i2.nj; exact yO pins s σ H _ _ v u Q I rx ry ⟨rfl,by rw [show decide (V.str a=V.str b)=decide (D.str a=D.str b) from decide_eq_decide.mpr ⟨fun q=>by cases q; rfl,fun q=>by cases q; rfl⟩]; exact h⟩
 | non=>obtain rfl:=i1.rn; obtain rfl:=i2.rn; exact yO pins s σ H _ _ v u Q I rx ry ⟨rfl,by rw [show decide (V.non=V.non)=decide (D.non=D.non) from decide_eq_decide.mpr ⟨fun q=>rfl,fun q=>rfl⟩]; exact h⟩
 | @lst n ds es hh =>
  obtain ⟨p,xs,rfl,z1,h1,l1,g1⟩:=i1.jK
  obtain ⟨q,ys,rfl,z2,h2,l2,g2⟩:=i2.jK
  cases rx
  cases ry
  obtain ⟨_,us,m1,k1,n1,o1⟩:=I.kT h1
  obtain ⟨_,ws,m2,k2,n2,o2⟩:=I.kT h2
  rw [uk] at h
  have e1:=g1.length
  have e2:=g2.length
  by_cases hl:ds.length=es.length
  ·exact pG ⟨_,o1,rfl,_,rfl⟩ ⟨_,o2,rfl,_,rfl⟩ (by omega) (by omega) (by omega) (gY (hh hl) k1 k2 g1 g2 (oM I 19 (by rw [in1_units]; omega))) X.prog X.w X.xe _ ⟨.bl _,H,I,rfl,h⟩
  ·have q:=OH (A:=X.A) (s:=s) (items:=us.toArray) (items2:=ws.toArray) ⟨_,o1,rfl,_,rfl⟩ ⟨_,o2,rfl,_,rfl⟩ (by simp; omega) (by omega)
   have e:decide (ds=es)=false:=decide_eq_false fun z=>hl (by rw [z])
   rw [e] at h
   exact q X.prog X.w X.xe _ ⟨.bl _,H,I,rfl,h⟩
 | @tup n ds es hl hh =>
  obtain ⟨p,xs,rfl,z1,h1,l1,g1⟩:=i1.nh
  obtain ⟨q,ys,rfl,z2,h2,l2,g2⟩:=i2.nh
  cases rx
  cases ry
  obtain ⟨us,k1,o1,_⟩:=I.tuple (xs:=xs) (.inl (.inl h1))
  obtain ⟨ws,k2,o2,_⟩:=I.tuple (xs:=ys) (.inl (.inl h2))
  rw [uj] at h
  have e1:=g1.length
  have e2:=g2.length
  have n1:=k1.length
  have n2:=k2.length
  exact yH o1 o2 (by omega) (by omega) hl (by omega) (gY hh k1 k2 g1 g2 (oM I 19 (by rw [in1_units]; omega))) X.prog X.w X.xe _ ⟨.bl _,H,I,rfl,h⟩
theorem GP (hu:X.A.units+64<OT):oR X (Nj .NotEq) (Gw K true):=by
 intro pins s σ H x y v u Q I rx ry h
 obtain ⟨d,e,i1,i2,hc,h⟩:=h
 rw [if_pos rfl] at h
 cases lG hc with
 | int a b=>obtain rfl:=i1.ky; obtain rfl:=i2.ky; exact yN pins s σ H _ _ v u Q I rx ry ⟨rfl,by rw [show decide (V.int a=V.int b)=decide (D.int a=D.int b) from decide_eq_decide.mpr ⟨fun q=>by cases q; rfl,fun q=>by cases q; rfl⟩]; exact h⟩
 | bl a b=>obtain rfl:=i1.sL; obtain rfl:=i2.sL; exact yN pins s σ H _ _ v u Q I rx ry ⟨rfl,by rw [show decide (V.bl a=V.bl b)=decide (D.bl a=D.bl b) from decide_eq_decide.mpr ⟨fun q=>by cases q; rfl,fun q=>by cases q; rfl⟩]; exact h⟩
 | str a b=>obtain rfl:=i1.nj; obtain rfl:=i2.nj; exact yN pins s σ H _ _ v u Q I rx ry ⟨rfl,by rw [show decide (V.str a=V.str b)=decide (D.str a=D.str b) from decide_eq_decide.mpr ⟨fun q=>by cases q; rfl,fun q=>by cases q; rfl⟩]; exact h⟩
 | non=>obtain rfl:=i1.rn; obtain rfl:=i2.rn; exact yN pins s σ H _ _ v u Q I rx ry ⟨rfl,by rw [show decide (V.non=V.non)=decide (D.non=D.non) from decide_eq_decide.mpr ⟨fun q=>rfl,fun q=>rfl⟩]; exact h⟩
 | @lst n ds es hh =>
  obtain ⟨p,xs,rfl,z1,h1,l1,g1⟩:=i1.jK
  obtain ⟨q,ys,rfl,z2,h2,l2,g2⟩:=i2.jK
  cases rx
  cases ry
  obtain ⟨_,us,m1,k1,n1,o1⟩:=I.kT h1
  obtain ⟨_,ws,m2,k2,n2,o2⟩:=I.kT h2
  rw [uk] at h
  have e1:=g1.length
  have e2:=g2.length
  by_cases hl:ds.length=es.length
  ·exact tF ⟨_,o1,rfl,_,rfl⟩ ⟨_,o2,rfl,_,rfl⟩ (by omega) (by omega) (by omega) (gY (hh hl) k1 k2 g1 g2 (oM I 19 (by rw [in1_units]; omega))) X.prog X.w X.xe _ ⟨.bl _,H,I,rfl,h⟩
  ·have q:=PY (A:=X.A) (s:=s) (items:=us.toArray) (items2:=ws.toArray) ⟨_,o1,rfl,_,rfl⟩ ⟨_,o2,rfl,_,rfl⟩ (by simp; omega) (by omega)
   have e:decide (ds=es)=false:=decide_eq_false fun z=>hl (by rw [z])
   rw [e] at h
   exact q X.prog X.w X.xe _ ⟨.bl _,H,I,rfl,h⟩
 | @tup n ds es hl hh =>
  obtain ⟨p,xs,rfl,z1,h1,l1,g1⟩:=i1.nh
  obtain ⟨q,ys,rfl,z2,h2,l2,g2⟩:=i2.nh
  cases rx
  cases ry
  obtain ⟨us,k1,o1,_⟩:=I.tuple (xs:=xs) (.inl (.inl h1))
  obtain ⟨ws,k2,o2,_⟩:=I.tuple (xs:=ys) (.inl (.inl h2))
  rw [uj] at h
  have e1:=g1.length
  have e2:=g2.length
  have n1:=k1.length
  have n2:=k2.length
  exact z5 o1 o2 (by omega) (by omega) hl (by omega) (gY hh k1 k2 g1 g2 (oM I 19 (by rw [in1_units]; omega))) X.prog X.w X.xe _ ⟨.bl _,H,I,rfl,h⟩
end
section
variable {ta tb:TE} {a b:DE}
noncomputable def oO (neg:Bool) (a b:DE):DE:=fun ρ=>match a ρ with
 | some d=>(match b ρ with
  | some e=>if fe 20 d e=true then some (.bl (if neg=true then !decide (d=e) else decide (d=e))) else none
  | none=>none)
 | none=>none
theorem gc [bD] (ha:aO K ta a) (hb:aO K tb b):af K (nT (Gw K neg) ta tb) (oO neg a b):=fun {B Z os ρ σ H Q d} f q k=>by
 unfold oO at q
 split at q
 ·rename_i x e1
  split at q
  ·rename_i y e2
   by_cases c:fe 20 x y=true
   ·rw [if_pos c] at q
    cases q
    exact ha f e1 fun v H1 s1 i1=>hb (f.grow s1) e2 fun u H2 s2 i2=>⟨x,y,i1.same s2,i2,c,k _ _ (s1.trans s2) (.bl _)⟩
   ·rw [if_neg c] at q; cases q
  ·cases q
 ·cases q
end
end
end
end VL
namespace L2
variable {es:List Mv} {t:uH} {n:Nat} {pos:Qq}
open PySem PySem.Spec PyProof.Rows
section
variable {X:Cx}
noncomputable def EC (K:KC) (n:Nat) (t:uH):TG:=fun v σ H Q=>IL K n t v σ H Q∨IM K n t v σ H Q
theorem GH {k:Nat} (hc:X.calm=true) (h:HG X es t)
 (hn:(M3 es X.env).length=n:=by rfl) (hst:(M3 es X.env).findIdx? (·.1)=none:=by rfl):PG X (.Tuple es k pos) (EC X.K n t):=by
 intro pins s σ H v u Q I r hw
 rcases hw with hw | hw
 ·exact GG hc h hn hst pins s σ H v u Q I r hw
 ·exact GI hc h hn hst pins s σ H v u Q I r hw
theorem gq {K:KC} {k:Nat} (hK:X.K=K) (hc:X.calm=true) (h:HG X es t)
 (hn:(M3 es X.env).length=n:=by rfl) (hst:(M3 es X.env).findIdx? (·.1)=none:=by rfl):PG X (.Tuple es k pos) (EC K n t):=by
 subst hK
 exact GH hc h hn hst
end
end L2
namespace VL
variable {wi:TI} {m:Bool} {T:KI→Prop} {p:KI} {vs:List V} {ds:List D} {tl:TE} {a:DE} {lo:Int} {n:Nat} {d:D} {ρ:aF} {Z:KI→Prop} {os:Own} {σ:L2.St} {u:uH}
open PySem L2
section
open Classical
noncomputable section
variable [bD] {K:KC}
def FT (K:KC) (t:TE) (e:DE):Prop:=∀ {B:Hp} {Z:KI→Prop} {os:Own} {ρ:aF} {σ:L2.St} {H:Hp} {Q:VK} {d:D},Fr K B Z os ρ σ H→e ρ=some d→(∀ v H',aL H H'→Is K B No v d→Q v H')→t σ H Q
noncomputable def sf (i:Nat):DE:=fun ρ=>match ρ.getD i .un with
 | .bo d=>some d
 | _=>none
theorem Gj (i:Nat):FT K (mf i) (sf i):=fun {B Z os ρ σ H Q d} f q k=>by
 have s:=f.sl i
 unfold sf at q
 cases e:ρ.getD i .un with
 | bo d' =>
  rw [e] at q s
  cases q
  obtain ⟨_,u,hu,i⟩:=s
  exact ⟨u,join_some hu,k u H (aL.refl _) i⟩
 | _=>rw [e] at q; cases q
def ER (K:KC) (m:Bool) (Bx H:Hp) (T:KI→Prop) (x:V) (d:D):Prop:=match m with
 | true=>Is K H T x d
 | false=>Is K Bx No x d
structure Walk (K:KC) (m:Bool) (Bx:Hp) (J:It) (H1:Hp) (T:KI→Prop) (ds:List D):Prop where
 len:ds.length≤KH
 go:∀ (i:Nat) (d:D) (H2:Hp) (T2:KI→Prop),Kp T H1 T2 H2→aL Bx H2→(∀ a,T2 a→∃ o,H2 a=some o)→ds[i]?=some d→J.go i H2∧∀ x H3,J.ye i H2 x H3→aL H2 H3∧ER K m Bx H3 T2 x d
 stop:∀ (i:Nat) (H2:Hp) (T2:KI→Prop),Kp T H1 T2 H2→aL Bx H2→ds.length=i→J.stop i H2
def g7 (K:KC) (m:Bool) (wi:TI) (e:aF→Option (List D)):Prop:=∀ {B:Hp} {Z:KI→Prop} {os:Own} {ρ:aF} {σ:L2.St} {H:Hp} {R:It→Hp→Prop} {ds:List D},Fr K B Z os ρ σ H→e ρ=some ds→(∀ J H1,aL H H1→Walk K m B J H1 (bS Z os) ds→R J H1)→wi σ H R
def zq (K:KC) (m:Bool) (wi:TI) (e:aF→Option (List D)):Prop:=∀ {B:Hp} {Z:KI→Prop} {os:Own} {ρ:aF} {σ:L2.St} {H:Hp} {R:It→Hp→Prop} {ds:List D},Fr K B Z os ρ σ H→e ρ=some ds→(∀ J H1,aL H H1→Walk K m H1 J H1 (bS Z os) ds→R J H1)→wi σ H R
theorem g7.c {e:aF→Option (List D)} (h:g7 K true wi e):zq K true wi e:=fun f q k=>h f q fun J H1 s w=>k J H1 s ⟨w.len,fun i d H2 T2 kp sm hd e=>w.go i d H2 T2 kp ((f.keep.trans s).trans sm) hd e,fun i H2 T2 kp sm hl=>w.stop i H2 T2 kp ((f.keep.trans s).trans sm) hl⟩
theorem Rd.same {H H':Hp} {a:KI} {u:HO} (h:Rd H a u) (s:aL H H'):Rd H' a u:=by
 rcases h with h | ⟨o,h⟩
 ·exact .inl (s _ _ h)
 ·exact .inr ⟨o,s _ _ h⟩
theorem lW {Bx H1:Hp} (hl:ds.length≤KH) (hd0:∀ H2 T2,Kp T H1 T2 H2→aL Bx H2→dA K H2 p vs) (hn:vs.length=ds.length)
 (hi:∀ H2 T2 (i:Nat) v d,Kp T H1 T2 H2→aL Bx H2→vs[i]?=some v→ds[i]?=some d→ER K m Bx H2 T2 v d):Walk K m Bx (Ji K p) H1 T ds:=by
 refine ⟨hl,fun i d H2 T2 kp sb hd e=>?_,fun i H2 T2 kp sb hi=>⟨vs,hd0 H2 T2 kp sb,by omega⟩⟩
 have hr2:=hd0 H2 T2 kp sb
 have hi':i<vs.length:=by rw [hn]; exact (Lj.mp e).1
 have e1:vs[i]?=some vs[i]:=Kv hi'
 refine ⟨⟨vs,_,hr2,e1⟩,fun x H3 ⟨e3,hx⟩=>?_⟩
 subst e3
 have:=hx vs hr2
 rw [e1] at this
 cases this
 exact ⟨aL.refl _,hi _ T2 i _ d kp sb e1 e⟩
theorem jf (ha:af K tl a):g7 K true (vC K tl) (iG a):=fun {B Z os ρ σ H R ds} f q k=>by
 obtain ⟨d,q,ed⟩:=jb q
 refine ha f q fun v H1 s1 i1=>?_
 obtain ⟨p,vs,rfl,hl,hn,hr⟩:=i1.seq ed
 refine ⟨p,rfl,⟨vs,(hr H1 _ Kp.refl).1⟩,k _ _ s1 (lW (vs:=vs) (by omega) (fun H2 T2 kp _=>(hr H2 T2 kp).1) hn fun H2 T2 i v d kp _ e1 e2=>?_)⟩
 obtain ⟨v',f1,i2⟩:=(hr H2 T2 kp).2.get e2
 rw [e1] at f1
 cases f1
 exact i2
theorem cQ (ha:aO K tl a):zq K false (vC K tl) (iG a):=fun {B Z os ρ σ H R ds} f q k=>by
 obtain ⟨d,q,ed⟩:=jb q
 refine ha f q fun v H1 s1 i1=>?_
 obtain ⟨p,vs,rfl,hl,hn,hr⟩:=i1.seq ed
 refine ⟨p,rfl,⟨vs,(hr H1 _ Kp.refl).1⟩,k _ _ s1 (lW (vs:=vs) (by omega) (fun H2 T2 kp sb=>(hr H2 No (Kp.same sb)).1) hn fun H2 T2 i v d kp sb e1 e2=>?_)⟩
 obtain ⟨v',f1,i2⟩:=(hr H1 No Kp.refl).2.get e2
 rw [e1] at f1
 cases f1
 exact i2
def wq (lo:Int) (n:Nat):List D:=(KW n).map fun (i:Nat)=>.int (lo+(i:Int))
theorem oj:(wq lo n).length=n:=by unfold wq; rw [Kw,K7]
theorem yj {i:Nat} (h:(wq lo n)[i]?=some d):i<n∧d=.int (lo+i):=by
 unfold wq at h
 rw [KO] at h
 by_cases hi:i<n
 ·rw [M8 hi] at h; cases h; exact ⟨hi,rfl⟩
 ·rw [Mf (by rw [K7]; omega)] at h; cases h
theorem oW {Bx H1:Hp} (hn:n≤KH):Walk K m Bx (IX lo n) H1 T (wq lo n):=by
 refine ⟨by rw [oj]; exact hn,fun i d H2 T2 kp _ hd e=>?_,fun i H2 T2 kp _ hi=>by rw [oj] at hi; exact PO hi⟩
 obtain ⟨hi,rfl⟩:=yj e
 refine ⟨hi,fun x H3 ⟨e3,ex⟩=>?_⟩
 subst e3 ex
 cases m
 ·exact ⟨aL.refl _,.int _⟩
 ·exact ⟨aL.refl _,.int _⟩
noncomputable def iq (a:DE):aF→Option (List D):=fun ρ=>match a ρ with
 | some (.int j)=>if -(2 ^ 62)≤j∧j.toNat≤KH then some (wq 0 j.toNat) else none
 | _=>none
noncomputable def C4 (a b:DE):aF→Option (List D):=fun ρ=>match a ρ with
 | some (.int i)=>(match b ρ with
  | some (.int j)=>if -(2 ^ 62)≤i∧i<2 ^ 62∧-(2 ^ 62)≤j∧j<2 ^ 62∧(j-i).toNat≤KH then some (wq i (j-i).toNat) else none
  | _=>none)
 | _=>none
theorem dh {ta:TE} (ha:aO K ta a):g7 K true (FD (cf ta eC)) (iq a):=fun {B Z os ρ σ H R ds} f q k=>by
 unfold iq at q
 split at q
 ·rename_i j e
  by_cases c:-(2 ^ 62)≤j∧j.toNat≤KH
  ·rw [if_pos c] at q
   cases q
   have hs:KH=16777216:=Lv
   exact ha f e fun v H1 s1 i1=>⟨j,by rw [i1.isInt],c.1,by omega,k _ _ s1 (oW c.2)⟩
  ·rw [if_neg c] at q; cases q
 ·cases q
theorem zI {ta tb:TE} {b:DE} (ha:aO K ta a) (hb:aO K tb b):g7 K true (FC (cf ta (cf tb eC))) (C4 a b):=fun {B Z os ρ σ H R ds} f q k=>by
 unfold C4 at q
 split at q
 ·rename_i i e
  split at q
  ·rename_i j e2
   by_cases c:-(2 ^ 62)≤i∧i<2 ^ 62∧-(2 ^ 62)≤j∧j<2 ^ 62∧(j-i).toNat≤KH
   ·rw [if_pos c] at q
    cases q
    exact ha f e fun v H1 s1 i1=>hb (f.grow s1) e2 fun u H2 s2 i2=>⟨i,j,by rw [i1.isInt,i2.isInt],⟨c.1,c.2.1,c.2.2.1,c.2.2.2.1⟩,k _ _ (s1.trans s2) (oW c.2.2.2.2)⟩
   ·rw [if_neg c] at q; cases q
  ·cases q
 ·cases q
def xV (ds:List D):List D:=ds.mapIdx fun i d=>.tup [.int i,d]
theorem uh {i:Nat} (h:(xV ds)[i]?=some d):∃ e,ds[i]?=some e∧d=.tup [.int i,e]:=by
 unfold xV at h
 rw [List.getElem?_mapIdx] at h
 cases e:ds[i]? with
 | none=>rw [e] at h; cases h
 | some x=>rw [e] at h; cases h; exact ⟨x,rfl,rfl⟩
noncomputable def DJ (a:DE):aF→Option (List D):=fun ρ=>match iG a ρ with
 | some ds=>some (xV ds)
 | none=>none
theorem zC {Bx H1:Hp} (hl:ds.length≤KH) (hd0:∀ H2 T2,Kp T H1 T2 H2→aL Bx H2→dA K H2 p vs∧IsL K H2 T2 vs ds):Walk K true Bx (Jj K p) H1 T (xV ds):=by
 have hlen:(xV ds).length=ds.length:=by unfold xV; rw [OP]
 refine ⟨by rw [hlen]; exact hl,fun i d H2 T2 kp sb hd e=>?_,fun i H2 T2 kp sb hi=>?_⟩
 ·obtain ⟨x,ex,rfl⟩:=uh e
  obtain ⟨hr2,r2⟩:=hd0 H2 T2 kp sb
  obtain ⟨v,e1,i2⟩:=r2.get ex
  refine ⟨⟨vs,v,hr2,e1⟩,fun y H3 hy=>?_⟩
  obtain ⟨t,w,ey,nt,hw,e3⟩:=hy
  subst e3 ey
  have:=hw vs hr2
  rw [e1] at this
  cases this
  refine ⟨bG nt,show Is K _ T2 (.ref t) (.tup [.int i,x]) from .tup (fun z=>?_) aC (by show 2≤KH; decide) ((IsL.cons (.int _) (.one i2)).same (bG nt))⟩
  obtain ⟨o,q⟩:=hd t z
  rw [nt] at q; cases q
 ·obtain ⟨hr2,r2⟩:=hd0 H2 T2 kp sb
  exact ⟨vs,hr2,by rw [r2.length,← hlen]; exact PO hi⟩
theorem C9 (h:DJ a ρ=some ds):∃ es,iG a ρ=some es∧ds=xV es:=by
 unfold DJ at h
 split at h
 ·rename_i es e; exact ⟨es,e,(Lz h).symm⟩
 ·cases h
theorem oo (ha:af K tl a):g7 K true (CD K tl) (DJ a):=fun {B Z os ρ σ H R ds} f q k=>by
 obtain ⟨es,e,rfl⟩:=C9 q
 obtain ⟨d,e,ed⟩:=jb e
 refine ha f e fun v H1 s1 i1=>?_
 obtain ⟨p,vs,rfl,hl,hn,hr⟩:=i1.seq ed
 exact ⟨p,rfl,⟨vs,(hr H1 _ Kp.refl).1⟩,k _ _ s1 (zC (by omega) fun H2 T2 kp _=>hr H2 T2 kp)⟩
abbrev DG:=D→aF→Option aF
abbrev HM:=List D→aF→Option aF
def we (K:KC) (m:Bool) (g:TG) (e:DG):Prop:=∀ {B:Hp} {Z:KI→Prop} {os:Own} {ρ:aF} {σ:L2.St} {H:Hp} {Q:L2.St→Hp→Prop} {v:V} {d:D} {ρ':aF},Fr K B Z os ρ σ H→ER K m B H (bS Z os) v d→e d ρ=some ρ' →
 (∀ os' σ',Fr K B Z os' ρ' σ' H→Kp (bS Z os) H (bS Z os') H→Q σ' H)→g v σ H Q
def Ka (K:KC) (m:Bool) (Bx H:Hp) (T:KI→Prop) (vs:List V) (ds:List D):Prop:=match m with
 | true=>IsL K H T vs ds
 | false=>IsL K Bx No vs ds
def zr (K:KC) (m:Bool) (g:uH) (e:HM):Prop:=∀ {B:Hp} {Z:KI→Prop} {os:Own} {ρ:aF} {σ:L2.St} {H:Hp} {Q:L2.St→Hp→Prop} {vs:List V} {ds:List D} {ρ':aF},Fr K B Z os ρ σ H→Ka K m B H (bS Z os) vs ds→e ds ρ=some ρ' →
 (∀ os' σ',Fr K B Z os' ρ' σ' H→Kp (bS Z os) H (bS Z os') H→Q σ' H)→g vs σ H Q
def Bd (m:Bool) (d:D):Sl:=match m with
 | true=>.pu d
 | false=>.bo d
noncomputable def gN (m:Bool) (i:Nat):DG:=fun d ρ=>some (ρ.set i (Bd m d))
theorem Fr.Gy {B H:Hp} (f:Fr K B Z os ρ σ H) (i:Nat) {v:V} (h:ER K m B H (bS Z os) v d) :
 ∃ os',Fr K B Z os' (ρ.set i (Bd m d)) (σ.set i (some v)) H∧Kp (bS Z os) H (bS Z os') H:=by
 by_cases hi:i < ρ.length
 ·cases m with
  | true=>exact ⟨_,f.put hi h⟩
  | false=>exact ⟨_,f.step (s:=.bo d) (v:=some v) hi (fun a u e _=>e) (fun a ha=>let ⟨xs,e⟩:=(f.sl i).ui ha; ⟨_,e⟩) Mc (fun a h=>by cases h) ⟨rfl,v,rfl,h⟩⟩
 ·have e1:ρ.set i (Bd m d)=ρ:=Qm (by omega)
  have e2:σ.set i (some v)=σ:=Qm (by rw [f.len]; omega)
  rw [e1,e2]
  exact ⟨os,f,Kp.refl⟩
theorem aD (i:Nat):we K m (jO i) (gN m i):=fun {B Z os ρ σ H Q v d ρ'} f h q k=>by
 cases q
 obtain ⟨os',f',kp⟩:=f.Gy i h
 exact k os' _ f' kp
def jN:HM:=fun ds ρ=>match ds with
 | []=>some ρ
 | _=>none
def cC (e:DG) (r:HM):HM:=fun ds ρ=>match ds with
 | d::t=>(match e d ρ with
  | some ρ'=>r t ρ'
  | none=>none)
 | []=>none
theorem gf:zr K m Hi jN:=fun {B Z os ρ σ H Q vs ds ρ'} f h q k=>by
 cases ds with
 | nil =>
  cases q
  have e:vs=[]:=by cases m <;> cases h <;> rfl
  exact ⟨e,k os σ f Kp.refl⟩
 | cons d t=>cases q
theorem bF {g:TG} {e:DG} {r:HM} (hg:we K m g e) (hr:zr K m u r):zr K m (CM g u) (cC e r):=fun {B Z os ρ σ H Q vs ds ρ'} f h q k=>by
 cases ds with
 | nil=>cases q
 | cons d t =>
  have q:(match e d ρ with | some ρ'=>r t ρ' | none=>none)=some ρ':=q
  split at q
  ·rename_i ρ1 e1
   obtain ⟨v,vt,rfl,h1,h2⟩:∃ v vt,vs=v::vt∧ER K m B H (bS Z os) v d∧Ka K m B H (bS Z os) vt t:=by
    cases m with
    | true=>cases h with | cons a b=>exact ⟨_,_,rfl,a,b⟩
    | false=>cases h with | cons a b=>exact ⟨_,_,rfl,a,b⟩
   refine ⟨v,vt,rfl,hg f h1 e1 fun os1 σ1 f1 k1=>hr f1 ?_ q fun os2 σ2 f2 k2=>k os2 σ2 f2 (k1.trans k2)⟩
   cases m with
   | true=>exact IsL.kp k1 h2
   | false=>exact h2
  ·cases q
noncomputable def DI (n:Nat) (r:HM):DG:=fun d ρ=>match d with
 | .tup ds=>if ds.length=n then r ds ρ else none
 | .lst ds=>if ds.length=n then r ds ρ else none
 | _=>none
theorem nA {r:HM} (hr:zr K m u r):we K m (EC K n u) (DI n r):=fun {B Z os ρ σ H Q v d ρ'} f h q k=>by
 cases d with
 | tup ds =>
  have q:(if ds.length=n then r ds ρ else none)=some ρ':=q
  by_cases c:ds.length=n
  ·rw [if_pos c] at q
   cases m with
   | true =>
    obtain ⟨p,vs,rfl,hz,hr',hl,g⟩:=Is.isTup h
    exact .inl ⟨p,vs,rfl,.inl (.inl hr'),by rw [g.length]; exact c,hr f g q k⟩
   | false =>
    obtain ⟨p,vs,rfl,hz,hr',hl,g⟩:=Is.isTup h
    exact .inl ⟨p,vs,rfl,.inl (.inl (f.keep _ _ hr')),by rw [g.length]; exact c,hr f g q k⟩
  ·rw [if_neg c] at q; cases q
 | lst ds =>
  have q:(if ds.length=n then r ds ρ else none)=some ρ':=q
  by_cases c:ds.length=n
  ·rw [if_pos c] at q
   cases m with
   | true =>
    obtain ⟨p,vs,rfl,hz,hr',hl,g⟩:=Is.p8 h
    exact .inr ⟨p,vs,rfl,.inl hr',by rw [g.length]; exact c,hr f g q k⟩
   | false =>
    obtain ⟨p,vs,rfl,hz,hr',hl,g⟩:=Is.p8 h
    exact .inr ⟨p,vs,rfl,.inl (Rd.same hr' f.keep),by rw [g.length]; exact c,hr f g q k⟩
  ·rw [if_neg c] at q; cases q
 | _=>cases q
theorem Fr.Bc {B H:Hp} (f:Fr K B Z os ρ σ H):∀ a,bS Z os a→∃ o,H a=some o:=by
 rintro a (z | ⟨i,z⟩)
 ·exact f.DL a z
 ·obtain ⟨xs,e⟩:=(f.sl i).ui z
  exact ⟨_,e⟩
theorem Fr.zt {B H:Hp} (f:Fr K B Z os ρ σ H):ZT (bS Z os) H:=⟨f.Bc,f.kA⟩
def view:Sl→Sl
 | .pu d=>.pu d
 | .bo d=>.bo d
 | .ol ds=>.bo (.lst ds)
 | .om rows=>.bo (.lst (rows.map D.lst))
 | .od kvs=>.bo (.dct kvs)
 | .pm _ _ rows=>.bo (.lst (rows.map D.lst))
 | .pd _ kvs=>.bo (.dct kvs)
 | .un=>.un
def r0 (k:Nat) (cs:List Nat) (ρ:aF):aF:=Lr k .un++cs.map fun i=>view (ρ.getD i .un)
def s0 (k:Nat) (cs:List Nat) (σ:L2.St):L2.St:=Lr k none++cs.map fun i=>(σ[i]?).join
theorem zo {B H1 H:Hp} {Dl:KI} {o:HO} (f:Fr K B Z os ρ σ H1) (hD:H1 Dl=none) (s:aL H1 H) (hd:H Dl=some o) (k:Nat) (cs:List Nat) :
    Fr K H1 (fun a=>a=Dl∨bS Z os a) (fun _=>[]) (r0 k cs ρ) (s0 k cs σ) H where
  keep:=s
  DL:=fun a z=>by
    rcases z with rfl | z
    · exact ⟨o,hd⟩
    · obtain ⟨u,e⟩:=f.Bc a z
      exact ⟨u,s _ _ e⟩
  len:=by unfold r0 s0; simp
  nd:=fun _=>Mc
  dj:=fun _ _ _ h=>by cases h
  tab:=f.kA
  new:=fun _ _ h=>by cases h
  sl:=fun j=>by
    have kp:Kp (bS Z os) H1 (bS (fun a=>a=Dl∨bS Z os a) fun _=>[]) H:=fun a u e z=>by
      refine ⟨s _ _ e,?_⟩
      rintro ((rfl | q) | ⟨_,q⟩)
      · rw [hD] at e; cases e
      · exact z q
      · cases q
    unfold r0 s0
    rw [Ku]
    by_cases hj:j<k
    · rw [LK (by simpa using hj),LK (by simpa using hj),Mg,if_pos hj]
      exact rfl
    · rw [Ln (by simpa using hj),Ln (by simpa using hj),LR,LR,KO,KO]
      cases e:cs[j-k]? with
      | none=>exact rfl
      | some i =>
        have h:=f.sl i
        show rj K _ _ _ _ (view (ρ.getD i .un)) ((σ[i]?).join)
        cases e2:ρ.getD i .un with
        | un=>exact rfl
        | pu d =>
          rw [e2] at h
          obtain ⟨_,u,hu,i1⟩:=h
          exact ⟨rfl,u,hu,i1.kp kp⟩
        | bo d =>
          rw [e2] at h
          obtain ⟨_,u,hu,i1⟩:=h
          exact ⟨rfl,u,hu,i1.same f.keep⟩
        | ol ds =>
          rw [e2] at h
          obtain ⟨a,vs,_,hu,hH,hl,i1⟩:=h
          exact ⟨rfl,_,hu,.lst (fun z=>z) (.inl hH) hl i1.all⟩
        | om rows =>
          rw [e2] at h
          obtain ⟨a,ps,_,hu,hH,hl,i1⟩:=h
          exact ⟨rfl,_,hu,.lst (fun z=>z) (.inl hH) (by rw [Kw]; exact hl) (h8 i1)⟩
        | od kvs =>
          rw [e2] at h
          obtain ⟨a,_,hu,hH,hl⟩:=h
          exact ⟨rfl,_,hu,.dct (fun z=>z) (.inl hH) hl⟩
        | pm a ps rows =>
          rw [e2] at h
          obtain ⟨_,hu,hH,hl,i1⟩:=h
          exact ⟨rfl,_,hu,.lst (fun z=>z) (.inl hH) (by rw [Kw]; exact hl) (h8 i1)⟩
        | pd a kvs =>
          rw [e2] at h
          obtain ⟨_,hu,hH,hl⟩:=h
          exact ⟨rfl,_,hu,.dct (fun z=>z) (.inl hH) hl⟩
def kh (g:DG) (t:aF→Option Bool) (e:DE) (ρ0:aF):List D→Option (List D)
  | []=>some []
  | d::ds=>match g d ρ0 with
    | none=>none
    | some ρ1=>match t ρ1 with
      | none=>none
      | some false=>kh g t e ρ0 ds
      | some true=>match e ρ1 with
        | none=>none
        | some y=>match kh g t e ρ0 ds with
          | none=>none
          | some ys=>some (y::ys)
noncomputable def bA (k:Nat) (cs:List Nat) (it:aF→Option (List D)) (g:DG) (t:aF→Option Bool) (e:DE):aF→Option (List D):=fun ρ=>match it ρ with
 | some ds=>kh g t e (r0 k cs ρ) ds
 | none=>none
theorem bU {k:Nat} {cs:List Nat} {g:TG} {tt:TT} {te:TE} {it:aF→Option (List D)} {gd:DG} {td:aF→Option Bool} {ed:DE} (hw:zq K m wi it) (hg:we K m g gd) (ht:jI K tt td) (he:af K te ed) :
 ck K (nr wi g tt te (s0 k cs)) (bA k cs it gd td ed):=fun {B Z os ρ σ H Q ds} f q kk=>by
 unfold bA at q
 split at q
 ·rename_i xs e0
  refine hw f e0 fun J H1 s1 W Dl hD=>?_
  have f1:=f.grow s1
  have sD:∀ {H2:Hp} {ys:List V},aL H1 H2→aL H1 (upd H2 Dl (.lst ys)):=fun {H2 ys} s a o e=>by
   rw [av (aV e hD)]; exact s _ _ e
  refine ⟨fun i m ys H2=>m=xs.length-i∧i≤xs.length∧aL H1 H2∧H2 Dl=some (.lst ys)∧ys.length≤i∧∃ done rest,IsL K H2 (fun a=>a=Dl∨bS Z os a) ys done∧kh gd td ed (r0 k cs ρ) (xs.drop i)=some rest∧done++rest=ds,
   ⟨_,rfl,LL _,sD (aL.refl _),aC,Lg _,[],ds,.nil,q,rfl⟩,?_⟩
  rintro i mm ys H2 ⟨rfl,hi,s2,eD,hly,done,rest,il,q2,ed2⟩
  have kp12:Kp (bS Z os) H1 (fun a=>a=Dl∨bS Z os a) H2:=fun a u e z=>⟨s2 _ _ e,fun w=>w.elim (aV e hD) z⟩
  by_cases hlt:i<xs.length
  ·have ex:xs[i]?=some xs[i]:=Kv hlt
   have ef:=zo f1 hD s2 eD k cs
   obtain ⟨go,yl⟩:=W.go i xs[i] H2 _ kp12 s2 (fun a z=>ef.DL a z) ex
   refine .inr ⟨go,fun x H3 hy=>?_⟩
   obtain ⟨s3,er⟩:=yl x H3 hy
   have eD3:=s3 _ _ eD
   have s13:=s2.trans s3
   have ef3:=zo f1 hD s13 eD3 k cs
   rw [Lq hlt] at q2
   unfold kh at q2
   have er':ER K m H1 H3 (bS (fun a=>a=Dl∨bS Z os a) fun _=>[]) x xs[i]:=by
    cases m with
    | false=>exact er
    | true=>exact Is.kp (Kp.less fun a z=>z.elim id fun ⟨_,w⟩=>by cases w) er
   split at q2
   ·cases q2
   ·rename_i ρ1 e1
    refine hg ef3 er' e1 fun os1 σ1 fr1 k1=>?_
    split at q2
    ·cases q2
    ·rename_i e2
     refine ht fr1 e2 fun H4 s4=>qW ⟨_,by omega,rfl,hlt,s13.trans s4,s4 _ _ eD3,by omega,done,rest,(il.same s3).same s4,q2,ed2⟩
    ·rename_i e2
     refine ht fr1 e2 fun H4 s4=>t4 ?_
     split at q2
     ·cases q2
     ·rename_i y e3
      split at q2
      ·cases q2
      ·rename_i rs e4
       cases q2
       refine he (fr1.grow s4) e3 fun v H5 s5 i5=>?_
       have s35:=s4.trans s5
       have eD5:=s35 _ _ eD3
       have hl:=W.len
       have kp5:∀ (zs:List V),Kp (fun a=>a=Dl∨bS Z os a) H5 (fun a=>a=Dl∨bS Z os a) (upd H5 Dl (.lst zs)):=fun zs a u e z=>⟨by rw [av (fun w=>z (.inl w))]; exact e,z⟩
       have i5':Is K H5 (fun a=>a=Dl∨bS Z os a) v y:=i5.kp (Kp.less fun a z=>.inl z)
       refine ⟨eD5,by omega,_,by omega,rfl,hlt,sD (s13.trans s35),aC,by rw [K0,Me]; omega,done++[y],rs,?_,e4,by rw [Lx]; exact ed2⟩
       exact ((il.same s3).same s35 |>.kp (kp5 _)).append (.one (i5'.kp (kp5 _)))
  ·have e:i=xs.length:=by omega
   subst e
   rw [Pe] at q2
   cases q2
   rw [Mb] at ed2
   subst ed2
   have hl:=W.len
   exact .inl ⟨W.stop _ H2 _ kp12 s2 rfl,eD,kk Dl ys H2 (s1.trans s2) (aL.free s1 hD) eD (by omega) il⟩
 ·cases q
inductive Fm where
 | v | l | m | x (E:XK) (C:KI)
def E3 (fr:Fm) (K:KC) (B H:Hp) (Z:KI→Prop) (v:V) (d:D):Prop:=match fr with
 | .v=>Is K H Z v d
 | .l=>(∃ p vs ds,v=.ref p∧d=.lst ds∧B p=none∧H p=some (.lst vs)∧vs.length≤KH∧IsL K H (fun a=>a=p∨Z a) vs ds)∨∃ p kvs,v=.ref p∧d=.dct kvs∧B p=none∧H p=some (.dK (kvs.map rb))∧kvs.length≤KH
 | .m=>∃ p ps rows,v=.ref p∧d=.lst (rows.map D.lst)∧B p=none∧(∀ a∈ps,B a=none)∧(p::ps).Nodup∧H p=some (.lst (ps.map V.ref))∧ps.length≤KH∧MZ (fun q ds=>∃ vs,H q=some (.lst vs)∧vs.length≤KH∧IsL K H (fun a=>(a=p∨a∈ps)∨Z a) vs ds) ps rows
 | .x _ _=>Is K H Z v d
theorem va {H:Hp} {Z T:KI→Prop} (hT:∀ a,Z a→T a):∀ {ps:List KI} {rows:List (List D)},(∀ p∈ps,¬ Z p)→MZ (fun p ds=>∃ vs,H p=some (.lst vs)∧vs.length≤KH∧IsL K H T vs ds) ps rows→IsL K H Z (ps.map V.ref) (rows.map D.lst)
 | _,_,_,.nil=>.nil
 | _,_,hz,.cons ⟨vs,h,hl,r⟩ t=>.cons (.lst (hz _ Ky) (.inl h) hl (r.kp (Kp.less hT))) (va hT (fun p hp=>hz p (Kx _ hp)) t)
theorem E3.is {fr:Fm} {B H:Hp} {v:V} (hz:∀ a,Z a→∃ o,B a=some o) (h:E3 fr K B H Z v d):Is K H Z v d:=by
 have nz:∀ {p:KI},B p=none→¬ Z p:=fun {p} e z=>by obtain ⟨o,q⟩:=hz p z; rw [e] at q; cases q
 cases fr with
 | v=>exact h
 | x E C=>exact h
 | l =>
  rcases h with ⟨p,vs,ds,rfl,rfl,hb,hh,hl,r⟩ | ⟨p,kvs,rfl,rfl,hb,hh,hl⟩
  ·exact .lst (nz hb) (.inl hh) hl (r.kp (Kp.less fun a z=>.inr z))
  ·exact .dct (nz hb) (.inl hh) hl
 | m =>
  obtain ⟨p,ps,rows,rfl,rfl,hb,hbs,_,hh,hl,r⟩:=h
  exact .lst (nz hb) (.inl hh) (by rw [Kw]; exact hl) (va (fun a z=>.inr z) (fun q hq=>nz (hbs q hq)) r)
def nu (fr:Fm) (K:KC) (ms:List Bool) (F:List D→Option D):Sp:=fun vs H Q _=>∃ (Z:KI→Prop) (ds:List D) (d:D),ZT Z H∧Args K H Z ms vs ds∧F ds=some d∧∀ v H',aL H H'→E3 fr K H H' Z v d→Q v H'
noncomputable def bX (F:List D→Option D) (es:aF→Option (List D)):DE:=fun ρ=>match es ρ with
 | some ds=>F ds
 | none=>none
theorem aY {fr:Fm} {ms:List Bool} {F:List D→Option D} {t:TA} {es:aF→Option (List D)} {E:XK} (ha:wg K ms t es):af K (Fj (nu fr K ms F) [] E t) (bX F es):=fun {B Z os ρ σ H Q d} f q k=>by
 unfold bX at q
 split at q
 ·rename_i ds e
  refine ha f e fun vs H1 s1 a=>?_
  show nu fr K ms F (vs++[]) H1 Q E
  rw [Mb]
  exact ⟨bS Z os,ds,d,(f.grow s1).zt,a,q,fun v H2 s2 i=>k v H2 (s1.trans s2) (i.is (f.grow s1).Bc)⟩
 ·cases q
end
end
end VL
namespace L2
open PySem PySem.Spec PyProof.Rows
section
variable {X:Cx}
theorem CL:HH X (BW X.K):=by
 intro pins s σ H x y v u Q I rx ry h
 obtain ⟨p,xs,i,z,rfl,rfl,hq,he,q⟩:=h
 cases rx
 obtain ⟨t,rfl⟩:=ry
 obtain ⟨its,r,pl,hz⟩:=I.list hq
 obtain ⟨j,h1,h2,h3,h4,h5⟩:=oP he
 obtain ⟨w,ew,rw'⟩:=r.get h2
 have hl:=r.length
 have hn:=j5
 have fin:EP X pins σ Q w s:=⟨z,H,I,rw',q⟩
 by_cases h0:0≤i
 ·have hj:i.toNat=j:=by
   rw [Ri h0 h5] at h1
   exact Lz h1
  exact wpAny_getItem_list pl.isList h0 (by omega) (by rw [hj]; simpa using ew) fin
 ·have hj:(i+(its.toArray.size:Int)).toNat=j:=by
   rw [QG (by omega) h4] at h1
   rw [KQ,← hl]
   exact Lz h1
  exact QI pl.isList (by omega) (by rw [KQ] <;> omega) (by omega) (by rw [hj]; simpa using ew) fin
theorem AL {K:KC} (h:X.K=K):HH X (BW K):=by subst h; exact CL
end
end L2
namespace VL
variable {Z:KI→Prop} {os:Own} {H:Hp} {ta:TE} {a:DE} {tc:TT} {t:TG} {σ:L2.St} {ρ:aF} {ds:List D} {tb:TS}
open PySem L2
section
open Classical
noncomputable section
variable [bD] {K:KC}
inductive Res where
 | nx (ρ:aF) | rt (d:D) | bk (ρ:aF) | ct (ρ:aF) | no
variable {fr:Fm}
abbrev DS:=aF→Res
def kl (fr:Fm) (K:KC) (B:Hp) (Z:KI→Prop) (os:Own) (H:Hp) (E:Ends):Res→Prop
 | .nx ρ'=>∀ os' σ' H',Fr K B Z os' ρ' σ' H'→Kp (bS Z os) H (bS Z os') H'→E.nx σ' H'
 | .bk ρ'=>∀ os' σ' H',Fr K B Z os' ρ' σ' H'→Kp (bS Z os) H (bS Z os') H'→E.bk σ' H'
 | .ct ρ'=>∀ os' σ' H',Fr K B Z os' ρ' σ' H'→Kp (bS Z os) H (bS Z os') H'→E.ct σ' H'
 | .rt d=>match fr with
  | .x E0 C=>∀ H',aL B H'→E0 (.ref C) none H'
  | fr=>∀ v H',aL B H'→E3 fr K B H' Z v d→E.rt v H'
 | .no=>False
def dD (fr:Fm) (K:KC) (t:TS) (s:DS):Prop:=∀ {B:Hp} {Z:KI→Prop} {os:Own} {ρ:aF} {σ:L2.St} {H:Hp} {E:Ends},Fr K B Z os ρ σ H→kl fr K B Z os H E (s ρ)→t E σ H
theorem kl.kp {B:Hp} {os1:Own} {H1:Hp} {E:Ends} {r:Res} (k:Kp (bS Z os) H (bS Z os1) H1) (p:kl fr K B Z os H E r):kl fr K B Z os1 H1 E r:=by
 cases r with
 | nx ρ'=>exact fun os' σ' H' f k'=>p os' σ' H' f (k.trans k')
 | bk ρ'=>exact fun os' σ' H' f k'=>p os' σ' H' f (k.trans k')
 | ct ρ'=>exact fun os' σ' H' f k'=>p os' σ' H' f (k.trans k')
 | rt d=>exact p
 | no=>exact p
@[irreducible] noncomputable def fC:DS:=fun ρ=>.nx ρ
theorem dF:dD fr K Fg fC:=fun f p=>by unfold fC at p; exact p _ _ _ f Kp.refl
@[irreducible] noncomputable def aU (s u:DS):DS:=fun ρ=>match s ρ with
 | .nx ρ'=>u ρ'
 | r=>r
theorem au {t u:TS} {s w:DS} (h1:dD fr K t s) (h2:dD fr K u w):dD fr K (Ia t u) (aU s w):=fun {B Z os ρ σ H E} f p=>by
 refine h1 f ?_
 unfold aU at p
 cases e:s ρ with
 | nx ρ'=>rw [e] at p; exact fun os' σ' H' f' k=>h2 f' (p.kp k)
 | bk ρ'=>rw [e] at p; exact p
 | ct ρ'=>rw [e] at p; exact p
 | rt d=>rw [e] at p; exact p
 | no=>rw [e] at p; exact p
@[irreducible] noncomputable def dy (a:DE):DS:=fun ρ=>match a ρ with
 | some d=>.rt d
 | none=>.no
theorem bx (h:af K ta a):dD .v K (Gb ta) (dy a):=fun {B Z os ρ σ H E} f p=>by
 unfold dy at p
 cases e:a ρ with
 | none=>rw [e] at p; exact p.elim
 | some d=>rw [e] at p; exact h f e fun v H1 s1 i1=>p v H1 (f.keep.trans s1) (i1.kp (Kp.less fun a z=>.inl z))
@[irreducible] noncomputable def tw (c:aF→Option Bool) (s u:DS):DS:=fun ρ=>match c ρ with
 | some true=>s ρ
 | some false=>u ρ
 | none=>.no
theorem gR {t u:TS} {c:aF→Option Bool} {s w:DS} (hc:jI K tc c) (h1:dD fr K t s) (h2:dD fr K u w):dD fr K (Ie tc t u) (tw c s w):=fun {B Z os ρ σ H E} f p=>by
 unfold tw at p
 split at p
 ·rename_i e
  exact hc f e fun H1 s1=>t4 (h1 (f.grow s1) (p.kp (Kp.same s1)))
 ·rename_i e
  exact hc f e fun H1 s1=>qW (h2 (f.grow s1) (p.kp (Kp.same s1)))
 ·exact p.elim
@[irreducible] noncomputable def cX (i:Nat) (a:DE):DS:=fun ρ=>match a ρ with
 | some d=>.nx (ρ.set i (.pu d))
 | none=>.no
theorem bC {i:Nat} (h:af K ta a):dD fr K (uS ta (jO i)) (cX i a):=fun {B Z os ρ σ H E} f p=>by
 unfold cX at p
 cases e:a ρ with
 | none=>rw [e] at p; exact p.elim
 | some d =>
  rw [e] at p
  refine h f e fun v H1 s1 i1=>?_
  obtain ⟨os',f',k⟩:=(f.grow s1).Gy (m:=true) i i1
  exact p os' _ _ f' ((Kp.same s1).trans k)
theorem oq {i:Nat} (h:af K ta a):dD fr K (rq ta i) (cX i a):=bC (i:=i) h
@[irreducible] noncomputable def Iq (a:DE) (g:DG):DS:=fun ρ=>match a ρ with
 | some d=>(match g d ρ with
  | some ρ'=>.nx ρ'
  | none=>.no)
 | none=>.no
theorem Im {g:DG} (h:af K ta a) (hg:we K true t g):dD fr K (uS ta t) (Iq a g):=fun {B Z os ρ σ H E} f p=>by
 unfold Iq at p
 split at p
 ·rename_i d e
  split at p
  ·rename_i ρ' e2
   exact h f e fun v H1 s1 i1=>hg (f.grow s1) i1 e2 fun os' σ' f' k=>p os' σ' _ f' ((Kp.same s1).trans k)
  ·exact p.elim
 ·exact p.elim
@[irreducible] noncomputable def gU (i:Nat) (a:aF→Option (List D)):DS:=fun ρ=>match a ρ with
 | some ds=>if i < ρ.length then .nx (ρ.set i (.ol ds)) else .no
 | none=>.no
theorem jg {i:Nat} {a:aF→Option (List D)} (h:ck K ta a):dD fr K (uS ta (jO i)) (gU i a):=fun {B Z os ρ σ H E} f p=>by
 unfold gU at p
 split at p
 ·rename_i ds e
  by_cases hi:i < ρ.length
  ·rw [if_pos hi] at p
   refine h f e fun x vs H1 s1 hx hx1 hl i1=>?_
   have st:=f.step (H':=H1) (i:=i) hi (o:=[x]) (s:=.ol ds) (v:=some (.ref x)) (fun a u e _=>s1 _ _ e) (fun a ha=>let ⟨xs,e⟩:=(f.sl i).ui ha; ⟨_,s1 _ _ e⟩) (by simp) (fun a ha=>by rw [Kz.mp ha]; exact .inr hx)
    ⟨x,vs,rfl,rfl,hx1,hl,i1.kp (Kp.less fun a z=>?_)⟩
   ·exact p _ _ _ st.1 st.2
   ·rcases z with z | ⟨j,z⟩
    ·exact .inr (.inl z)
    ·by_cases hj:j=i
     ·subst hj; rw [br] at z; exact .inl (Kz.mp z)
     ·rw [bZ hj] at z; exact .inr (.inr ⟨j,z⟩)
  ·rw [if_neg hi] at p; exact p.elim
 ·exact p.elim
theorem o9 {i:Nat} {a:aF→Option (List D)} (h:ck K ta a):dD fr K (rq ta i) (gU i a):=jg (i:=i) h
def jr (i:Nat) (ρ:aF):aF:=match ρ.getD i .un with
 | .ol ds=>ρ.set i (.pu (.lst ds))
 | .om rows=>ρ.set i (.pu (.lst (rows.map D.lst)))
 | .od kvs=>ρ.set i (.pu (.dct kvs))
 | _=>ρ
theorem gT {i:Nat} {v:V} (h:(σ[i]?).join=some v):σ.set i (some v)=σ:=by
 have e:=join_some h
 refine O1 fun j=>?_
 by_cases hj:i=j
 ·subst hj
  rw [Mw (Lj.mp e).1,e]
 ·rw [MF hj]
theorem jq {i:Nat} {s:Sl} (h:ρ.getD i .un=s) (hs:s≠.un):i < ρ.length:=by
 by_cases hi:i < ρ.length
 ·exact hi
 ·rw [Ku,Mf (by omega)] at h
  exact absurd h.symm hs
theorem Fr.freeze {B:Hp} (f:Fr K B Z os ρ σ H) (i:Nat):∃ os',Fr K B Z os' (jr i ρ) σ H∧Kp (bS Z os) H (bS Z os') H:=by
 unfold jr
 have less:∀ a,bS Z (iL os i []) a→bS Z os a:=by
  rintro a (z | ⟨j,z⟩)
  ·exact .inl z
  ·by_cases hj:j=i
   ·subst hj; rw [br] at z; cases z
   ·rw [bZ hj] at z; exact .inr ⟨j,z⟩
 cases e:ρ.getD i .un with
 | ol ds =>
  have s:=f.sl i
  rw [e] at s
  obtain ⟨a,vs,eo,hu,hH,hl,i1⟩:=s
  have hi:=jq e (by intro z; cases z)
  have st:=f.step (H':=H) (i:=i) hi (o:=[]) (s:=.pu (.lst ds)) (v:=some (.ref a)) (fun a u e _=>e) (fun a ha=>let ⟨xs,e⟩:=(f.sl i).ui ha; ⟨_,e⟩) Mc (fun a h=>by cases h)
   ⟨rfl,_,rfl,.lst (fun z=>?_) (.inl hH) hl (i1.kp (Kp.less less))⟩
  ·rw [gT hu] at st
   exact ⟨_,st⟩
  ·rcases z with z | ⟨j,z⟩
   ·exact (f.new i a (by rw [eo]; exact Kz.mpr rfl)).2 z
   ·by_cases hj:j=i
    ·subst hj; rw [br] at z; cases z
    ·rw [bZ hj] at z; exact hj (f.dj j i a z (by rw [eo]; exact Kz.mpr rfl))
 | od kvs =>
  have s:=f.sl i
  rw [e] at s
  obtain ⟨a,eo,hu,hH,hl⟩:=s
  have hi:=jq e (by intro z; cases z)
  have st:=f.step (H':=H) (i:=i) hi (o:=[]) (s:=.pu (.dct kvs)) (v:=some (.ref a)) (fun a u e _=>e) (fun a ha=>let ⟨xs,e⟩:=(f.sl i).ui ha; ⟨_,e⟩) Mc (fun a h=>by cases h)
   ⟨rfl,_,rfl,.dct (fun z=>?_) (.inl hH) hl⟩
  ·rw [gT hu] at st
   exact ⟨_,st⟩
  ·rcases z with z | ⟨j,z⟩
   ·exact (f.new i a (by rw [eo]; exact Kz.mpr rfl)).2 z
   ·by_cases hj:j=i
    ·subst hj; rw [br] at z; cases z
    ·rw [bZ hj] at z; exact hj (f.dj j i a z (by rw [eo]; exact Kz.mpr rfl))
 | om rows =>
  have s:=f.sl i
  rw [e] at s
  obtain ⟨a,ps,eo,hu,hH,hl,i1⟩:=s
  have hi:=jq e (by intro z; cases z)
  have out:∀ b,b∈os i→¬ bS Z (iL os i []) b:=by
   rintro b hb (z | ⟨j,z⟩)
   ·exact (f.new i b hb).2 z
   ·by_cases hj:j=i
    ·subst hj; rw [br] at z; cases z
    ·rw [bZ hj] at z; exact hj (f.dj j i b z hb)
  have rowsI:∀ {ps:List KI} {rows:List (List D)},(∀ p∈ps,p∈os i)→MZ (fun p ds=>∃ vs,H p=some (.lst vs)∧vs.length≤KH∧IsL K H (bS Z os) vs ds) ps rows→IsL K H (bS Z (iL os i [])) (ps.map V.ref) (rows.map D.lst):=by
   intro ps rows hp r
   induction r with
   | nil=>exact .nil
   | cons h _ ih =>
    obtain ⟨vs,q,hv,j⟩:=h
    exact .cons (.lst (out _ (hp _ Ky)) (.inl q) hv (j.kp (Kp.less less))) (ih fun p h=>hp p (Kx _ h))
  have st:=f.step (H':=H) (i:=i) hi (o:=[]) (s:=.pu (.lst (rows.map D.lst))) (v:=some (.ref a)) (fun a u e _=>e) (fun a ha=>let ⟨xs,e⟩:=(f.sl i).ui ha; ⟨_,e⟩) Mc (fun a h=>by cases h)
   ⟨rfl,_,rfl,.lst (out a (by rw [eo]; exact Ky)) (.inl hH) (by rw [Kw]; exact hl) (rowsI (fun p hp=>by rw [eo]; exact Kx _ hp) i1)⟩
  rw [gT hu] at st
  exact ⟨_,st⟩
 | un=>exact ⟨os,f,Kp.refl⟩
 | pu d=>exact ⟨os,f,Kp.refl⟩
 | bo d=>exact ⟨os,f,Kp.refl⟩
 | pm _ _ _=>exact ⟨os,f,Kp.refl⟩
 | pd _ _=>exact ⟨os,f,Kp.refl⟩
@[irreducible] noncomputable def tx (i:Nat) (s:DS):DS:=fun ρ=>s (jr i ρ)
theorem pe {t:TS} {s:DS} (i:Nat) (h:dD fr K t s):dD fr K t (tx i s):=fun {B Z os ρ σ H E} f p=>by
 obtain ⟨os',f',k⟩:=f.freeze i
 unfold tx at p
 exact h f' (kl.kp k p)
theorem Fr.GY {B:Hp} (f:Fr K B Z os ρ σ H) {i:Nat} {a:KI} {ds':List D} {vs':List V} (e:ρ.getD i .un=.ol ds) (hu:(σ[i]?).join=some (.ref a)) (hl:vs'.length≤KH) (h:IsL K H (bS Z os) vs' ds') :
 ∃ os',Fr K B Z os' (ρ.set i (.ol ds')) σ (upd H a (.lst vs'))∧Kp (bS Z os) H (bS Z os') (upd H a (.lst vs')):=by
 have s:=f.sl i
 rw [e] at s
 obtain ⟨b,vs,eo,hu',hH,_,_⟩:=s
 rw [hu] at hu'
 cases hu'
 have hi:=jq e (by intro z; cases z)
 have ha:a∈os i:=by rw [eo]; exact Kz.mpr rfl
 have st:=f.step (H':=upd H a (.lst vs')) (i:=i) hi (o:=[a]) (s:=.ol ds') (v:=some (.ref a)) (fun b u e n=>by rw [av (fun z=>n (by rw [z]; exact ha))]; exact e) (fun b hb=>?_) (by simp) (fun b hb=>by rw [Kz.mp hb]; exact .inl ha)
  ⟨a,vs',rfl,rfl,aC,hl,h.kp fun b u e z=>⟨?_,fun q=>z ?_⟩⟩
 ·rw [gT hu] at st
  exact ⟨_,st⟩
 ·rw [eo] at hb; rw [Kz.mp hb]; exact ⟨_,aC⟩
 ·rw [av (fun w=>z (.inr ⟨i,by rw [w]; exact ha⟩))]; exact e
 ·rcases q with q | ⟨j,q⟩
  ·exact .inl q
  ·by_cases hj:j=i
   ·subst hj; rw [br] at q; exact .inr ⟨j,by rw [Kz.mp q]; exact ha⟩
   ·rw [bZ hj] at q; exact .inr ⟨j,q⟩
theorem Cd {B:Hp} (f:Fr K B Z os ρ σ H) {i:Nat} (e:ρ.getD i .un=.ol ds):∃ a vs,(σ[i]?).join=some (.ref a)∧H a=some (.lst vs)∧vs.length≤KH∧IsL K H (bS Z os) vs ds:=by
 have s:=f.sl i
 rw [e] at s
 obtain ⟨b,vs,eo,hu',hH,hl,r⟩:=s
 exact ⟨b,vs,hu',hH,hl,r⟩
@[irreducible] noncomputable def xk (i:Nat) (a:DE):DS:=fun ρ=>match ρ.getD i .un with
 | .ol ds=>(match a ρ with
  | some d=>if ds.length<KH then .nx (ρ.set i (.ol (ds++[d]))) else .no
  | none=>.no)
 | _=>.no
theorem wX {i:Nat} (h:af K ta a):dD fr K (uQ (Ij K "list" oC (mf i) (cf ta eC))) (xk i a):=fun {B Z os ρ σ H E} f p=>by
 unfold xk at p
 split at p
 ·rename_i ds e
  split at p
  ·rename_i d e2
   by_cases hz:ds.length<KH
   ·rw [if_pos hz] at p
    obtain ⟨x,vs,hu,hH,hl,r⟩:=Cd f e
    refine ⟨_,join_some hu,.inl ⟨rfl,_,dA.of hH⟩,h f e2 fun v H1 s1 i1=>?_⟩
    have f1:=f.grow s1
    have r1:=r.same s1
    have hlen:vs.length<KH:=by rw [r.length]; exact hz
    obtain ⟨os',f',k⟩:=f1.GY (vs':=vs++[v]) (ds':=ds++[d]) e hu (by rw [K0,Me]; omega) (r1.append (.one i1))
    exact ⟨x,vs,v,rfl,rfl,s1 _ _ hH,hlen,p os' _ _ f' ((Kp.same s1).trans k)⟩
   ·rw [if_neg hz] at p; exact p.elim
  ·exact p.elim
 ·exact p.elim
@[irreducible] noncomputable def xj (i:Nat) (a:DE):DS:=fun ρ=>match ρ.getD i .un with
 | .ol ds=>(match a ρ with
  | some (.lst es)=>if ds.length+es.length≤KH then .nx (ρ.set i (.ol (ds++es))) else .no
  | _=>.no)
 | _=>.no
theorem wW {i:Nat} (h:af K ta a):dD fr K (uQ (Ij K "list" Fw (mf i) (cf ta eC))) (xj i a):=fun {B Z os ρ σ H E} f p=>by
 unfold xj at p
 split at p
 ·rename_i ds e
  split at p
  ·rename_i es e2
   by_cases hz:ds.length+es.length≤KH
   ·rw [if_pos hz] at p
    obtain ⟨x,vs,hu,hH,hl,r⟩:=Cd f e
    refine ⟨_,join_some hu,.inl ⟨rfl,_,dA.of hH⟩,h f e2 fun v H1 s1 i1=>?_⟩
    obtain ⟨b,us,rfl,_,hb,_,r2⟩:=i1.p8
    have f1:=f.grow s1
    have r1:=r.same s1
    have hlen:vs.length+us.length≤KH:=by rw [r.length,r2.length]; exact hz
    obtain ⟨os',f',k⟩:=f1.GY (vs':=vs++us) (ds':=ds++es) e hu (by rw [K0]; exact hlen) (r1.append r2)
    exact ⟨x,b,vs,us,rfl,rfl,s1 _ _ hH,hb,hlen,p os' _ _ f' ((Kp.same s1).trans k)⟩
   ·rw [if_neg hz] at p; exact p.elim
  ·exact p.elim
 ·exact p.elim
@[irreducible] noncomputable def xi (i:Nat) (b a:DE):DS:=fun ρ=>match ρ.getD i .un with
 | .ol ds=>(match a ρ with
  | some d=>(match b ρ with
   | some (.int n)=>(match ixN ds.length n with
    | some j=>.nx (ρ.set i (.ol (ds.set j d)))
    | none=>.no)
   | _=>.no)
  | none=>.no)
 | _=>.no
theorem wV {i:Nat} {tb:TE} {b:DE} (ha:af K ta a) (hb:aO K tb b):dD fr K (uS ta (Hh (mf i) tb yI)) (xi i b a):=fun {B Z os ρ σ H E} f p=>by
 unfold xi at p
 split at p
 ·rename_i ds e
  split at p
  ·rename_i d e2
   split at p
   ·rename_i n e3
    split at p
    ·rename_i j e4
     obtain ⟨x,vs,hu,hH,hl,r⟩:=Cd f e
     refine ha f e2 fun v H1 s1 i1=>⟨_,join_some hu,hb (f.grow s1) e3 fun w H2 s2 i2=>?_⟩
     have s12:=s1.trans s2
     have f1:=f.grow s12
     have r1:=r.same s12
     obtain ⟨os',f',k⟩:=f1.GY (vs':=vs.set j v) (ds':=ds.set j d) e hu (by rw [MC]; exact hl) (r1.set (i1.same s2) j)
     exact ⟨x,vs,n,j,rfl,i2.isInt,s12 _ _ hH,by rw [r.length]; exact e4,p os' _ _ f' ((Kp.same s12).trans k)⟩
    ·exact p.elim
   ·exact p.elim
  ·exact p.elim
 ·exact p.elim
@[irreducible] noncomputable def BK (g:Int→Int→Int) (i:Nat) (a:DE):DS:=fun ρ=>match ag i ρ with
 | some (.int x)=>(match a ρ with
  | some (.int y)=>.nx (ρ.set i (.pu (.int (g x y))))
  | _=>.no)
 | _=>.no
theorem Gh {i:Nat} {g:Int→Int→Int} (ha:aO K ta a):dD fr K (Ik i ta (JA g)) (BK g i a):=fun {B Z os ρ σ H E} f p=>by
 unfold BK at p
 split at p
 ·rename_i x e
  split at p
  ·rename_i y e2
   have q:=ae i f (Q:=fun v H'=>v=.int x∧H'=H) e
   obtain ⟨u,hu,ix⟩:∃ u,σ[i]?=some (some u)∧u=.int x:=by
    have s:=f.sl i
    unfold ag at e
    cases e0:ρ.getD i .un with
    | un=>rw [e0] at e; cases e
    | pu d=>rw [e0] at e s; cases e; obtain ⟨_,u,hu,i1⟩:=s; exact ⟨u,join_some hu,i1.isInt⟩
    | bo d=>rw [e0] at e s; cases e; obtain ⟨_,u,hu,i1⟩:=s; exact ⟨u,join_some hu,i1.isInt⟩
    | ol d=>rw [e0] at e; cases e
    | om d=>rw [e0] at e; cases e
    | od d=>rw [e0] at e; cases e
    | pm _ _ d=>rw [e0] at e; cases e
    | pd _ d=>rw [e0] at e; cases e
   refine ⟨u,hu,ha f e2 fun v H1 s1 i1=>⟨x,y,ix,i1.isInt,?_⟩⟩
   obtain ⟨os',f',k⟩:=(f.grow s1).Gy (m:=true) i (v:=.int (g x y)) (d:=.int (g x y)) (.int _)
   exact p os' _ _ f' ((Kp.same s1).trans k)
  ·exact p.elim
 ·exact p.elim
def t7 (g:DG) (b:DS):List D→DS
 | [],ρ=>.nx ρ
 | d::ds,ρ=>match g d ρ with
  | none=>.no
  | some ρ1=>match b ρ1 with
   | .nx ρ2=>t7 g b ds ρ2
   | .ct ρ2=>t7 g b ds ρ2
   | .bk ρ2=>.nx ρ2
   | .rt d=>.rt d
   | .no=>.no
@[irreducible] noncomputable def mz (it:aF→Option (List D)) (g:DG) (b:DS):DS:=fun ρ=>match it ρ with
 | some ds=>t7 g b ds ρ
 | none=>.no
theorem hJ {m:Bool} {wi:TI} {it:aF→Option (List D)} {g:DG} {b:DS} (hw:g7 K m wi it) (hg:we K m t g) (hb:dD fr K tb b):dD fr K (Ig wi t tb) (mz it g b):=fun {B Z os ρ σ H E} f p=>by
 unfold mz at p
 split at p
 ·rename_i ds e0
  refine hw f e0 fun J H1 s1 W=>?_
  refine ⟨fun i m σ' H'=>∃ os' ρ',m=ds.length-i∧i≤ds.length∧Fr K B Z os' ρ' σ' H'∧Kp (bS Z os) H1 (bS Z os') H'∧kl fr K B Z os H1 E (t7 g b (ds.drop i) ρ'),⟨_,os,ρ,rfl,LL _,f.grow s1,Kp.refl,kl.kp (Kp.same s1) p⟩,?_⟩
  rintro i mm σ2 H2 ⟨os2,ρ2,rfl,hi,f2,k2,p2⟩
  by_cases hlt:i<ds.length
  ·have ex:ds[i]?=some ds[i]:=Kv hlt
   obtain ⟨go,yl⟩:=W.go i ds[i] H2 _ k2 f2.keep f2.Bc ex
   rw [Lq hlt] at p2
   refine .inr ⟨go,fun σ' H'=>∃ os' ρ',Fr K B Z os' ρ' σ' H'∧Kp (bS Z os) H1 (bS Z os') H'∧kl fr K B Z os H1 E (t7 g b (ds.drop (i+1)) ρ'),fun σ' H' ⟨os',ρ',h1,h2,h3⟩=>⟨_,by omega,os',ρ',rfl,hlt,h1,h2,h3⟩,fun x H3 hy=>?_⟩
   obtain ⟨s3,er⟩:=yl x H3 hy
   unfold t7 at p2
   split at p2
   ·exact p2.elim
   ·rename_i ρ1 e1
    have er':ER K m B H3 (bS Z os2) x ds[i]:=er
    refine hg (f2.grow s3) er' e1 fun os3 σ3 f3 k3=>hb f3 ?_
    have k13:Kp (bS Z os) H1 (bS Z os3) H3:=(k2.trans (Kp.same s3)).trans k3
    split at p2
    ·rename_i ρ4 e4
     rw [e4]
     exact fun os' σ' H' f' k'=>⟨os',_,f',k13.trans k',p2⟩
    ·rename_i ρ4 e4
     rw [e4]
     exact fun os' σ' H' f' k'=>⟨os',_,f',k13.trans k',p2⟩
    ·rename_i ρ4 e4
     rw [e4]
     exact fun os' σ' H' f' k'=>p2 os' σ' H' f' (k13.trans k')
    ·rename_i d e4
     rw [e4]
     exact p2
    ·exact p2.elim
  ·have e:i=ds.length:=by omega
   subst e
   rw [Pe] at p2
   exact .inl ⟨W.stop _ H2 _ k2 f2.keep rfl,p2 os2 σ2 H2 f2 k2⟩
 ·exact p.elim
def jW (c:aF→Option Bool) (b:DS):Nat→DS
 | 0,ρ=>match c ρ with
  | some false=>.nx ρ
  | _=>.no
 | n+1,ρ=>match c ρ with
  | some false=>.nx ρ
  | some true=>(match b ρ with
   | .nx ρ'=>jW c b n ρ'
   | .ct ρ'=>jW c b n ρ'
   | .bk ρ'=>.nx ρ'
   | .rt d=>.rt d
   | .no=>.no)
  | none=>.no
@[irreducible] noncomputable def my (c:aF→Option Bool) (b:DS):DS:=fun ρ=>if h:∃ n,jW c b n ρ≠.no then jW c b h.choose ρ else .no
theorem oV {c:aF→Option Bool} {b:DS}:∀ {n:Nat} {ρ:aF},jW c b n ρ≠.no→jW c b (n+1) ρ=jW c b n ρ
 | 0,ρ,h=>by
  unfold jW at h ⊢
  split at h
  ·rename_i e; rw [e]
  ·exact absurd rfl h
 | n+1,ρ,h=>by
  have e1:jW c b (n+1+1) ρ=(match c ρ with | some false=>.nx ρ | some true=>(match b ρ with | .nx ρ'=>jW c b (n+1) ρ' | .ct ρ'=>jW c b (n+1) ρ' | .bk ρ'=>.nx ρ' | .rt d=>.rt d | .no=>.no) | none=>.no):=rfl
  have e2:jW c b (n+1) ρ=(match c ρ with | some false=>.nx ρ | some true=>(match b ρ with | .nx ρ'=>jW c b n ρ' | .ct ρ'=>jW c b n ρ' | .bk ρ'=>.nx ρ' | .rt d=>.rt d | .no=>.no) | none=>.no):=rfl
  rw [e1]
  rw [e2] at h ⊢
  cases e3:c ρ with
  | none=>rfl
  | some x =>
   rw [e3] at h
   cases x with
   | false=>rfl
   | true =>
    cases e4:b ρ with
    | nx ρ'=>rw [e4] at h; exact oV h
    | ct ρ'=>rw [e4] at h; exact oV h
    | _=>rfl
theorem wG {c:aF→Option Bool} {b:DS} {n k:Nat} (h:jW c b n ρ≠.no):jW c b (n+k) ρ=jW c b n ρ:=by
 induction k with
 | zero=>rfl
 | succ k ih=>rw [← Nat.add_assoc,oV (by rw [ih]; exact h),ih]
theorem zZ {c:aF→Option Bool} {b:DS} {n:Nat} {r:Res} (h:jW c b n ρ=r) (hr:r≠.no):my c b ρ=r:=by
 have ex:∃ n,jW c b n ρ≠.no:=⟨n,by rw [h]; exact hr⟩
 unfold my
 rw [dif_pos ex]
 have q:=ex.choose_spec
 generalize ex.choose=m at q
 have e1:=wG (k:=n) q
 have e2:=wG (k:=m) (show jW c b n ρ≠.no by rw [h]; exact hr)
 rw [Nat.add_comm] at e2
 rw [← e1,e2,h]
theorem BB {c:aF→Option Bool} {b:DS} (hc:jI K tc c) (hb:dD fr K tb b):dD fr K (Bv tc tb) (my c b):=fun {B Z os ρ σ H E} f p=>by
 unfold my at p
 by_cases ex:∃ n,jW c b n ρ≠.no
 ·rw [dif_pos ex] at p
  generalize ex.choose=n0 at p
  refine ⟨fun m σ' H'=>∃ os' ρ',Fr K B Z os' ρ' σ' H'∧Kp (bS Z os) H (bS Z os') H'∧kl fr K B Z os H E (jW c b m ρ'),⟨n0,os,ρ,f,Kp.refl,p⟩,?_⟩
  rintro m σ2 H2 ⟨os2,ρ2,f2,k2,p2⟩
  cases m with
  | zero =>
   unfold jW at p2
   split at p2
   ·rename_i e
    exact hc f2 e fun H3 s3=>qW (p2 os2 σ2 H3 (f2.grow s3) (k2.trans (Kp.same s3)))
   ·exact p2.elim
  | succ m =>
   have p2:kl fr K B Z os H E (match c ρ2 with | some false=>.nx ρ2 | some true=>(match b ρ2 with | .nx ρ'=>jW c b m ρ' | .ct ρ'=>jW c b m ρ' | .bk ρ'=>.nx ρ' | .rt d=>.rt d | .no=>.no) | none=>.no):=p2
   cases e:c ρ2 with
   | none=>rw [e] at p2; exact p2.elim
   | some x =>
    rw [e] at p2
    cases x with
    | false=>exact hc f2 e fun H3 s3=>qW (p2 os2 σ2 H3 (f2.grow s3) (k2.trans (Kp.same s3)))
    | true =>
     refine hc f2 e fun H3 s3=>t4 ⟨fun σ' H'=>∃ os' ρ',Fr K B Z os' ρ' σ' H'∧Kp (bS Z os) H (bS Z os') H'∧kl fr K B Z os H E (jW c b m ρ'),fun σ' H' h=>⟨m,Nu _,h⟩,hb (f2.grow s3) ?_⟩
     have k3:=k2.trans (Kp.same s3)
     cases e4:b ρ2 with
     | nx ρ'=>rw [e4] at p2; exact fun os' σ' H' f' k'=>⟨os',_,f',k3.trans k',p2⟩
     | ct ρ'=>rw [e4] at p2; exact fun os' σ' H' f' k'=>⟨os',_,f',k3.trans k',p2⟩
     | bk ρ'=>rw [e4] at p2; exact fun os' σ' H' f' k'=>p2 os' σ' H' f' (k3.trans k')
     | rt d=>rw [e4] at p2; exact p2
     | no=>rw [e4] at p2; exact p2.elim
 ·rw [dif_neg ex] at p; exact p.elim
def jL (n:Nat) (ms:List Bool) (ds:List D):aF:=List.zipWith Bd ms ds++Lr (n-ds.length) .un
@[irreducible] def cw (n:Nat) (ms:List Bool) (b:DS) (ds:List D):Option D:=match b (jL n ms ds) with
 | .rt d=>some d
 | .nx _=>some .non
 | _=>none
@[irreducible] def z0 (n:Nat) (ms:List Bool) (b:DS) (ds:List D):Option D:=match b (jL n ms ds) with
 | .rt d=>some d
 | _=>none
theorem yr {N:List LV} {ms:List Bool} {vs:List V} (hz:ZT Z H) (h:Args K H Z ms vs ds):Fr K H Z (fun _=>[]) (jL N.length ms ds) (L2.start N vs) H where
 keep:=aL.refl _
 DL:=hz.1
 tab:=hz.2
 len:=by
  unfold jL L2.start
  have:=h.len
  simp only [K0,Kw,LR,Pz]
  omega
 nd:=fun _=>Mc
 dj:=fun _ _ _ h=>by cases h
 new:=fun _ _ h=>by cases h
 sl:=fun j=>by
  have hl:=h.len
  have key:∀ {ms:List Bool} {vs:List V} {ds:List D} (j:Nat),Args K H Z ms vs ds→j<ms.length→rj K H H (bS Z fun _=>[]) [] (((List.zipWith Bd ms ds)[j]?).getD .un) ((vs.map some)[j]?.join):=by
   intro ms vs ds j h
   induction h generalizing j with
   | nil=>intro hj; simp at hj
   | own i _ ih =>
    intro hj
    cases j with
    | zero=>exact ⟨rfl,_,rfl,i.kp (Kp.less fun a z=>z.elim id fun ⟨_,w⟩=>by cases w)⟩
    | succ j=>exact ih j (by simpa using hj)
   | any i _ ih =>
    intro hj
    cases j with
    | zero=>exact ⟨rfl,_,rfl,i⟩
    | succ j=>exact ih j (by simpa using hj)
  unfold jL L2.start
  rw [Ku]
  by_cases hj:j<ms.length
  ·rw [LK (by rw [Pz]; omega),LK (by rw [Kw]; omega)]
   exact key j h hj
  ·rw [Ln (by rw [Pz]; omega),Mg]
   split <;> exact rfl
theorem eA.tO {P:L0} {w:L9} {mg:LV→Option KD} {base:ME} {x qual:LV} {st:NZ} {f:KI} {fd:LX} {N ps:List LV} {k:Nat} (F:eA K x qual st f fd) (S:aZ N ps (aB st)) (ms:List Bool) (hms:ms.length=ps.length) (b:DS)
 (hbody:∀ (cdv:KD) (A:L4) (outer:List SU) (s:KJ) (H:Hp) (E:XK),fg k (A.deeper (RG qual (aB st) s.heap.objs.size f cdv)) →
  ∃ t,wt (ur jJ P w K mg base N qual (aB st) f cdv A outer s H E).Fy (fK st) t∧dD .v K t b):df P w K mg base jJ (k+1) f fd ps (nu .v K ms (cw N.length ms b)):=by
 refine F.ok S (fun vs H Q E h=>?_) (fun cdv A outer s H vs Q E hr h=>?_)
 ·obtain ⟨Z,ds,d,hz,a,_⟩:=h
  rw [a.len.1,hms]
 ·obtain ⟨Z,ds,d,hz,a,e,k⟩:=h
  obtain ⟨t,h1,h2⟩:=hbody cdv A outer s H E hr
  refine ⟨t,h1,h2 (yr hz a) ?_⟩
  unfold cw at e
  split at e
  ·rename_i d' e1
   cases e
   rw [e1]
   exact fun v H' s' i=>k v H' s' i
  ·rename_i ρ e1
   cases e
   rw [e1]
   exact fun os' σ' H' f' _=>k _ H' f'.keep .non
  ·cases e
end
end
end VL
namespace L2
variable {cl:List (LV×KI)} {scope:NW} {zs:List LV} {u:uH} {K:KC} {tl:TE}
open PySem PySem.Spec PyProof.Rows
section
open VL (s0)
section
variable {X:Cx}
inductive SubL (X:Cx):List (LV×KI)→Prop
 | nil:SubL X []
 | cons {z:LV} {c:KI} {r:List (LV×KI)}:X.env.cells.lookup z=some c→SubL X r→SubL X ((z,c)::r)
theorem SubL.sub (h:SubL X cl):∀ x c,cl.lookup x=some c→X.env.cells.lookup x=some c:=by
 induction h with
 | nil=>intro x c e; cases e
 | @cons z c r h _ ih =>
  intro x c' e
  rw [NS] at e
  cases q:x==z with
  | true=>rw [q] at e; cases e; rw [eq_of_beq q]; exact h
  | false=>rw [q] at e; exact ih x c' e
inductive oe (X:Cx) (scope:NW) (cl:List (LV×KI)):List Nat→List LV→Prop
 | nil:oe X scope cl [] []
 | cons {i:Nat} {z:LV} {c:KI} {is:List Nat} {zs:List LV}:X.N[i]?=some z→(X.env.scope.names.lookup z=some .cell∨X.env.scope.names.lookup z=some .free)→cl.lookup z=some c →
  ((relabel scope X.env).names.lookup z=some .cell∨(relabel scope X.env).names.lookup z=some .free)→oe X scope cl is zs→oe X scope cl (i::is) (z::zs)
theorem oe.get {is:List Nat} (h:oe X scope cl is zs):∀ (j:Nat) (z:LV),zs[j]?=some z→∃ i c,is[j]?=some i∧X.N[i]?=some z∧(X.env.scope.names.lookup z=some .cell∨X.env.scope.names.lookup z=some .free)∧cl.lookup z=some c ∧
 ((relabel scope X.env).names.lookup z=some .cell∨(relabel scope X.env).names.lookup z=some .free):=by
 induction h with
 | nil=>intro j z e; simp at e
 | cons h1 h2 h3 h4 _ ih =>
  intro j z e
  cases j with
  | zero=>cases e; exact ⟨_,_,rfl,h1,h2,h3,h4⟩
  | succ j=>exact ih j z (by simpa using e)
theorem oe.len {is:List Nat} (h:oe X scope cl is zs):is.length=zs.length:=by
 induction h with
 | nil=>rfl
 | cons _ _ _ _ _ ih=>simp [ih]
def E6 (k:Nat) (g:TG):Prop:=∀ x σ H (Q:St→Hp→Prop),g x σ H Q→∃ σ2 H2,Q σ2 H2∧σ2.length=σ.length∧(∀ j,k≤j→σ2[j]?=σ[j]?)∧∀ Q':St→Hp→Prop,Q' σ2 H2→g x σ H Q'
def E5 (k:Nat) (g:uH):Prop:=∀ x σ H (Q:St→Hp→Prop),g x σ H Q→∃ σ2 H2,Q σ2 H2∧σ2.length=σ.length∧(∀ j,k≤j→σ2[j]?=σ[j]?)∧∀ Q':St→Hp→Prop,Q' σ2 H2→g x σ H Q'
theorem aS {k i:Nat} (h:i<k):E6 k (jO i):=fun x σ H Q q=>⟨_,_,q,MC,fun j hj=>by rw [MF (by omega)],fun _ z=>z⟩
theorem pW {k:Nat}:E5 k Hi:=fun x σ H Q q=>⟨_,_,q.2,rfl,fun _ _=>rfl,fun _ z=>⟨q.1,z⟩⟩
theorem lows_cons {t:TG} {k:Nat} (h1:E6 k t) (h2:E5 k u):E5 k (CM t u):=fun x σ H Q q=>by
 obtain ⟨v,r,e,q⟩:=q
 obtain ⟨σ1,H1,q1,l1,k1,g1⟩:=h1 _ _ _ _ q
 obtain ⟨σ2,H2,q2,l2,k2,g2⟩:=h2 _ _ _ _ q1
 exact ⟨σ2,H2,q2,l2.trans l1,fun j hj=>(k2 j hj).trans (k1 j hj),fun Q' z=>⟨v,r,e,g1 _ (g2 Q' z)⟩⟩
theorem tU {k n:Nat} (h:E5 k u):E6 k (EC K n u):=fun x σ H Q q=>by
 rcases q with ⟨a,xs,e,hs,hl,q⟩ | ⟨a,xs,e,hs,hl,q⟩
 ·obtain ⟨σ1,H1,q1,l1,k1,g1⟩:=h _ _ _ _ q
  exact ⟨σ1,H1,q1,l1,k1,fun Q' z=>.inl ⟨a,xs,e,hs,hl,g1 Q' z⟩⟩
 ·obtain ⟨σ1,H1,q1,l1,k1,g1⟩:=h _ _ _ _ q
  exact ⟨σ1,H1,q1,l1,k1,fun Q' z=>.inr ⟨a,xs,e,hs,hl,g1 Q' z⟩⟩
theorem E6.keep {k:Nat} {g:TG} {cs:List Nat} (h:E6 k g) (σ:St):zx g (s0 k cs σ):=fun x H Q q=>by
 obtain ⟨σ1,H1,q1,l1,k1,g1⟩:=h _ _ _ _ q
 refine g1 _ ⟨q1,l1,fun j v e=>?_⟩
 by_cases hj:j<k
 ·unfold s0 at e
  rw [LK (by simpa using hj),Mg,if_pos hj] at e; cases e
 ·rw [k1 j (by omega)]; exact e
variable {tg elt iter c:Mv} {scope:NW} {cl:List (LV×KI)} {ts zs:List LV} {is:List Nat} {k:Nat} {g:TG} {tt:TT} {te:TE} {wi:TI} {pos:Qq}
theorem bH {l:Mv} (h:X.K=K) (hl:PE X l tl):PI X tg l (vC K tl):=by subst h; exact Eg hl
theorem kM {l:Mv} {elts:List Mv} {x1} {tpos p pos:Qq} (h:X.K=K) (hg:Gl X "enumerate") (hm:X.mg "enumerate" = none) (hl:PE X l tl) (hs:Mi [l] X.env=[(false,eval l X.env)]:=by rfl):PI X (.Tuple elts x1 tpos) (.Call (.Name "enumerate" p) [l] [] pos) (CD K tl):=by subst h; exact Eh hg hm hl hs
end
end
end L2
namespace VL
open PySem L2
def BD [bD] (K:KC):Sp:=fun vs H Q _=>∃ (a:KI) (ns:List Int),vs=[.ref a]∧dA K H a (ns.map V.int)∧ns.length≤63∧(∀ m∈ns,MQ m≤1048576)∧qL H∧∀ H',Q (.bl true) H'
theorem zS [bD] {K:KC} {F:List D→Option D} (ht:∀ ns:List Int,ns.length≤63→(∀ m∈ns,MQ m≤1048576)→F [.scr ns]=some (.bl true)) {vs:List V} {H:Hp} {Q:VK} {E:XK} (h:BD K vs H Q E):nu .v K [false] F vs H Q E:=by
 obtain ⟨a,ns,rfl,hS,hl,hb,htab,k⟩:=h
 have hz:ns.length≤KH:=LF hl (by decide)
 refine ⟨No,[.scr ns],.bl true,⟨fun a z=>z.elim,htab⟩,.any ?_ .nil,ht ns hl hb,fun v H' s i=>by cases i; exact k H'⟩
 rcases hS with hS | hS
 ·exact .scr (fun z=>z) hS hz
 ·exact .scrK hS hz
end VL
namespace L2
open PySem PySem.Spec PyProof.Rows
section
variable {X:Cx} {K:KC}
def Bt:V→Option Bool
 | .bl b=>some b
 | .int i=>some (i != 0)
 | _=>none
theorem Et {s:KJ} {h':ME} {o:Nv} (hk:∀ b x,b∉[s.heap.objs.size]→(s.heap.push o).get? b=some x→h'.get? b=some x):∀ b x,s.heap.get? b=some x→h'.get? b=some x :=
 fun b x e=>hk b x (fun hm=>by rw [Kz.mp hm] at e; exact LP _ (K1 e)) (KN _ e)
theorem Jq (bs:List Bool):((KW bs.length).all fun i=>(bs[i]?).getD true)=bs.all id:=by
 rw [LY,Ml,Ml]
 constructor
 ·intro h x hx
  obtain ⟨i,hi⟩:=Mp hx
  have:=h i (Lw.mpr (Lj.mp hi).1)
  rw [hi] at this
  exact this
 ·intro h i hi
  have:=Lw.mp hi
  rw [Kv this]
  exact h _ (Nd this)
def Js (K:KC) (f:List Bool→Bool):List V→Hp→VK→Prop:=fun xs H Q=>∃ (p:KI) (vs:List V) (bs:List Bool),xs=[.ref p]∧dA K H p vs∧vs.map Bt=bs.map some∧Q (.bl (f bs)) H
theorem Ga {vs:List V} {us:List KD} {bs:List Bool} (r:Vals vs us) (h:vs.map Bt=bs.map some) {i:Nat} {u:KD} (e:us[i]?=some u):∃ b,bs[i]?=some b∧∀ {prog:L0} {w:L9} {A:L4} {s':KJ} {Q:Bool→KJ→Prop} {E:KD→KJ→Prop},Q b s'→Lh (model prog w) A (truthy u) Q E s':=by
 have hi:i<vs.length:=by rw [r.length]; exact (Lj.mp e).1
 have e1:vs[i]?=some vs[i]:=Kv hi
 obtain ⟨u',e2,ru⟩:=r.get e1
 rw [e] at e2
 cases e2
 have e3:(bs.map some)[i]?=some (Bt vs[i]):=by rw [← h,KO,e1]; rfl
 rw [KO] at e3
 cases e4:bs[i]? with
 | none=>rw [e4] at e3; cases e3
 | some b =>
  rw [e4] at e3
  have e5:some b=Bt vs[i]:=Lz e3
  refine ⟨b,rfl,fun {prog w A s' Q E} q=>?_⟩
  cases e6:vs[i] with
  | bl c =>
   rw [e6] at e5 ru
   cases e5
   cases ru
   exact MR q
  | int n =>
   rw [e6] at e5 ru
   have e5:some b=some (n != 0):=e5
   cases e5
   obtain ⟨t,rfl⟩:=ru
   exact RY q
  | _=>rw [e6] at e5; cases e5
theorem A5 (hc:X.calm=true) (hK:X.K=K):cP X (.builtin "all") (Js K fun bs=>bs.all id):=by
 subst hK
 intro pins s σ H xs us Q I r h
 obtain ⟨p,vs,bs,rfl,hq,hb,q⟩:=h
 obtain ⟨u,rfl,rx⟩:=vals1 r
 cases rx
 obtain ⟨its,r',pl,hz⟩:=I.list hq
 have hl:=pl.isList
 have hlt:p<s.heap.objs.size:=by obtain ⟨_,e,_⟩:=hl; exact K1 e
 refine call_all_walk (P8 hl ?_)
 refine ⟨s.heap.objs.size,[s.heap.objs.size,p],[s.heap.objs.size],its.toArray.size,_,_,fun i=>(bs[i]?).getD true,rfl,Walks.list (A:=X.A.in1) (I.ok.hd hc) _ p (Lm hlt) its.toArray,
  ⟨⟨_,LD _ rfl,rfl,rfl⟩,hl.push _⟩,fun i v s' Q' E' hP hQ=>?_,fun h' tk hk=>?_⟩
 ·obtain ⟨b,e,k⟩:=Ga r' hb (i:=i) (u:=v) (by simpa using hP)
  simp only [e,Option.getD_some] at hQ
  exact k hQ
 ·have e:((KW its.toArray.size).all fun i=>(bs[i]?).getD true)=bs.all id:=by
   have:its.length=bs.length:=by
    have:=congrArg SF hb
    rw [Kw,Kw] at this
    rw [← r'.length]; exact this
   rw [KQ,this]; exact Jq bs
  rw [e]
  exact ⟨.bl _,H,I.kept (t':=tk) (Et hk),rfl,q⟩
theorem xZ (hc:X.calm=true) (hK:X.K=K):cP X (.builtin "min") (fun xs H Q=>∃ (p:KI) (ns:List Int),xs=[.ref p]∧dA K H p (ns.map V.int)∧ns≠[]∧∀ M,M∈ns→(∀ a,a∈ns→M≤a)→Q (.int M) H):=by
 subst hK
 intro pins s σ H xs us Q I r h
 obtain ⟨p,ns,rfl,hq,hne,q⟩:=h
 obtain ⟨u,rfl,rx⟩:=vals1 r
 cases rx
 obtain ⟨its,r',pl,hz⟩:=I.list hq
 have hi:=intsAre_of r'
 obtain ⟨ys,e⟩:=hi.allInts.items
 have hns:ns=ys.toList.map (·.1):=by
  rw [← hi.numsOf,← Qj,← e]
 have hsz:0<ys.size:=by
  have h3:=RE.mpr hne
  rw [hns,Kw,KR] at h3
  exact h3
 have hl:=pl.isList
 rw [e] at hl
 refine min_intList (I.ok.hd hc) hl hsz fun v h' tk hv hk=>?_
 obtain ⟨t,rfl⟩:=Rm hv
 obtain ⟨h1,h2⟩:=argBest_lt (S3 ys) (ys.size-1)
 refine ⟨.int _,H,I.kept hk,⟨t,rfl⟩,q _ ?_ fun a ha=>?_⟩
 ·rw [hns,Rn]; exact Ro (by rw [Kw,KR]; omega)
 ·rw [hns] at ha
  obtain ⟨j,hj,rfl⟩:=mem_getD ha
  rw [Kw,KR] at hj
  rw [← Rn]; exact h2 j (by omega)
end
end L2
namespace VL
variable {x:Bool} {it:aF→Option (List D)} {F:List D→Option D} {neg:Bool} {n:Nat} {ns:List Int} {cs:List Nat} {el:DE} {ms:List Bool} {P:D→Prop}
open PySem L2
section
open Classical
noncomputable section
section
variable [bD] {K:KC} {ta tb tc:TE} {a b c:DE}
def nS:List D→Option (List Bool)
 | []=>some []
 | .bl b::r=>(nS r).map (b::·)
 | .int i::r=>(nS r).map ((i != 0)::·)
 | _=>none
theorem sP {H:Hp} {Z:KI→Prop}:∀ {vs:List V} {ds:List D} {bs:List Bool},IsL K H Z vs ds→nS ds=some bs→vs.map Bt=bs.map some
 | _,[],_,.nil,e=>by cases e; rfl
 | _,d::r,bs,.cons h t,e=>by
  unfold nS at e
  split at e
  ·rename_i q; cases q
  ·rename_i b r' q
   cases q
   cases q:nS r with
   | none=>rw [q] at e; cases e
   | some cs=>rw [q] at e; cases e; rw [Ld,Ld,sP t q,h.sL]; rfl
  ·rename_i b r' q
   cases q
   cases q:nS r with
   | none=>rw [q] at e; cases e
   | some cs=>rw [q] at e; cases e; rw [Ld,Ld,sP t q,h.ky]; rfl
  ·cases e
theorem yk:∀ (bs:List Bool),nS (bs.map D.bl)=some bs
 | []=>rfl
 | b::r=>by show (nS (r.map D.bl)).map (b::·)=_; rw [yk r]; rfl
def J3 (g:List Bool→Bool):D→Option D
 | .lst ds=>(nS ds).map fun bs=>.bl (g bs)
 | _=>none
theorem Ip {g:List Bool→Bool} (ha:aO K ta a):af K (uR (Js K g) (cf ta eC)) (gz (J3 g) a):=by
 refine rG (fun {H v d e Q} h q=>?_) ha
 cases h with
 | lst hz h hl r =>
  rename_i p vs ds
  have q:(nS ds).map (fun bs=>D.bl (g bs))=some e:=q
  cases q1:nS ds with
  | none=>rw [q1] at q; cases q
  | some bs =>
   rw [q1] at q
   cases q
   exact ⟨rfl,fun k=>⟨p,vs,bs,rfl,.inl h,sP r q1,k⟩⟩
 | _=>cases q
def HA:D→Option D:=J3 fun bs=>bs.all id
theorem Gp (ha:aO K ta a):af K (uR (Js K fun bs=>bs.all id) (cf ta eC)) (gz HA a):=Ip ha
def minD:D→Option D:=ofInts fun ns=>match ns with
 | []=>none
 | x::r=>some (.int (xC x r))
theorem Gm (ha:aO K ta a):af K (uR (fun xs H Q=>∃ (p:KI) (ns:List Int),xs=[.ref p]∧dA K H p (ns.map V.int)∧ns≠[]∧∀ M,M∈ns→(∀ a,a∈ns→M≤a)→Q (.int M) H) (cf ta eC)) (gz minD a):=by
 refine rG (fun h q=>?_) ha
 obtain ⟨ns,rfl,e⟩:=iP q
 obtain ⟨p,rfl,r⟩:=h.ints
 cases ns with
 | nil=>cases e
 | cons x t =>
  cases e
  refine ⟨rfl,fun k=>⟨p,x::t,rfl,.inl r,by simp,fun M h1 h2=>?_⟩⟩
  rw [Ci h1 h2 (gX t x).1 (gX t x).2]
  exact k
end
end
end
section
open Classical
noncomputable section
instance (priority:=low) noTabs:bD:=⟨[]⟩
structure Wk where
 nx:aF→Prop
 rt:D→Prop
 bk:aF→Prop:=fun _=>False
 ct:aF→Prop:=fun _=>False
@[irreducible] def Wp (s:DS) (ρ:aF) (W:Wk):Prop:=match s ρ with
 | .nx ρ'=>W.nx ρ'
 | .rt d=>W.rt d
 | .bk ρ'=>W.bk ρ'
 | .ct ρ'=>W.ct ρ'
 | .no=>False
section
variable {s u b:DS} {ρ:aF} {W:Wk} {i:Nat} {a e k:DE} {d:D} {c:aF→Option Bool} {es:aF→Option (List D)} {ds:List D} {g:DG}
theorem wp_seq (h:Wp s ρ { W with nx:=fun ρ'=>Wp u ρ' W }):Wp (aU s u) ρ W:=by
 unfold Wp aU at *
 cases e:s ρ <;> rw [e] at h <;> exact h
theorem fX (h:W.nx ρ):Wp fC ρ W:=by unfold Wp fC; exact h
theorem bW (h:a ρ=some d) (k:W.rt d):Wp (dy a) ρ W:=by unfold Wp dy; rw [h]; exact k
theorem yg (h:c ρ=some x) (ht:x=true→Wp s ρ W) (hf:x=false→Wp u ρ W):Wp (tw c s u) ρ W:=by
 unfold Wp tw at *
 rw [h]
 cases x
 ·exact hf rfl
 ·exact ht rfl
theorem jV {p:Prop} {_:Decidable p} (h:c ρ=some (decide p)) (ht:p→Wp s ρ W) (hf:¬ p→Wp u ρ W):Wp (tw c s u) ρ W:=by
 refine yg h (fun q=>ht (of_decide_eq_true q)) fun q=>hf (of_decide_eq_false q)
theorem oU (h:c ρ=some false) (ht:Wp u ρ W):Wp (tw c s u) ρ W:=yg h (fun q=>by cases q) fun _=>ht
theorem bY (h:a ρ=some d) (k:W.nx (ρ.set i (.pu d))):Wp (cX i a) ρ W:=by unfold Wp cX; rw [h]; exact k
theorem g8 (h:es ρ=some ds) (hi:i < ρ.length) (k:W.nx (ρ.set i (.ol ds))):Wp (gU i es) ρ W:=by unfold Wp gU; rw [h]; simp only [if_pos hi]; exact k
theorem HX {ρ':aF} (h:a ρ=some d) (hg:g d ρ=some ρ') (k:W.nx ρ'):Wp (Iq a g) ρ W:=by unfold Wp Iq; rw [h]; simp only [hg]; exact k
theorem wy (h:Wp s (jr i ρ) W):Wp (tx i s) ρ W:=by unfold Wp tx at *; exact h
theorem wB (h0:ρ.getD i .un=.ol ds) (h:a ρ=some d) (hl:ds.length<KH) (k:W.nx (ρ.set i (.ol (ds++[d])))):Wp (xk i a) ρ W:=by unfold Wp xk; rw [h0]; simp only [h,if_pos hl]; exact k
theorem wA {es:List D} (h0:ρ.getD i .un=.ol ds) (h:a ρ=some (.lst es)) (hl:ds.length+es.length≤KH) (k:W.nx (ρ.set i (.ol (ds++es)))):Wp (xj i a) ρ W:=by unfold Wp xj; rw [h0]; simp only [h,if_pos hl]; exact k
theorem wx {n:Int} {j:Nat} (h0:ρ.getD i .un=.ol ds) (h1:a ρ=some d) (h:e ρ=some (.int n)) (hj:ixN ds.length n=some j) (k:W.nx (ρ.set i (.ol (ds.set j d)))):Wp (xi i e a) ρ W:=by
 unfold Wp xi; rw [h0]; simp only [h,h1,hj]; exact k
theorem Bn {f:Int→Int→Int} {x y:Int} (h0:ag i ρ=some (.int x)) (h:a ρ=some (.int y)) (k:W.nx (ρ.set i (.pu (.int (f x y))))):Wp (BK f i a) ρ W:=by
 unfold Wp BK; rw [h0]; simp only [h]; exact k
theorem g9 (h:it ρ=some ds) (I:Nat→aF→Prop) (h0:I 0 ρ)
 (hs:∀ (j:Nat) (d:D) (ρ:aF),ds[j]?=some d→I j ρ→∃ ρ1,g d ρ=some ρ1∧Wp b ρ1 { W with nx:=I (j+1),ct:=I (j+1),bk:=W.nx })
 (he:∀ ρ,I ds.length ρ→W.nx ρ):Wp (mz it g b) ρ W:=by
 have key:∀ (n j:Nat) (ρ:aF),n=ds.length-j→j≤ds.length→I j ρ→Wp (fun ρ=>t7 g b (ds.drop j) ρ) ρ W:=by
  intro n
  induction n with
  | zero =>
   intro j ρ hn hj hI
   have e:j=ds.length:=by omega
   subst e
   unfold Wp
   simp only [Pe,t7]
   exact he ρ hI
  | succ n ih =>
   intro j ρ hn hj hI
   have hlt:j<ds.length:=by omega
   obtain ⟨ρ1,e1,w1⟩:=hs j ds[j] ρ (Kv hlt) hI
   unfold Wp
   dsimp only
   rw [Lq hlt]
   unfold t7
   rw [e1]
   unfold Wp at w1
   dsimp only
   cases e2:b ρ1 with
   | nx ρ2=>rw [e2] at w1; have q:=ih (j+1) ρ2 (by omega) hlt w1; unfold Wp at q; exact q
   | ct ρ2=>rw [e2] at w1; have q:=ih (j+1) ρ2 (by omega) hlt w1; unfold Wp at q; exact q
   | bk ρ2=>rw [e2] at w1; exact w1
   | rt d=>rw [e2] at w1; exact w1
   | no=>rw [e2] at w1; exact w1
 have:=key _ 0 ρ rfl (LL _) h0
 unfold Wp at this
 unfold Wp mz
 rw [h]
 exact this
theorem Bl (I:Nat→aF→Prop) (n:Nat) (h0:I n ρ) (hs:∀ n ρ,I n ρ→∃ x,c ρ=some x∧(x=true→Wp b ρ { W with nx:=fun ρ'=>∃ m,m<n∧I m ρ',ct:=fun ρ'=>∃ m,m<n∧I m ρ',bk:=W.nx })∧(x=false→W.nx ρ)):Wp (my c b) ρ W:=by
 have key:∀ n ρ,I n ρ→∃ r,jW c b (n+1) ρ=r∧r≠.no∧(match r with | .nx ρ'=>W.nx ρ' | .rt d=>W.rt d | .bk ρ'=>W.bk ρ' | .ct ρ'=>W.ct ρ' | .no=>False):=by
  intro n
  induction n using Q3 with
  | _ n ih =>
   intro ρ hI
   obtain ⟨x,ec,ht,hf⟩:=hs n ρ hI
   have un:jW c b (n+1) ρ=(match c ρ with | some false=>Res.nx ρ | some true=>(match b ρ with | .nx ρ'=>jW c b n ρ' | .ct ρ'=>jW c b n ρ' | .bk ρ'=>.nx ρ' | .rt d=>.rt d | .no=>.no) | none=>.no):=rfl
   rw [un,ec]
   cases x with
   | false=>exact ⟨.nx ρ,rfl,(fun z=>by cases z),hf rfl⟩
   | true =>
    have w:=ht rfl
    unfold Wp at w
    have step:∀ ρ',(∃ m,m<n∧I m ρ')→∃ r,jW c b n ρ'=r∧r≠.no∧(match r with | .nx ρ'=>W.nx ρ' | .rt d=>W.rt d | .bk ρ'=>W.bk ρ' | .ct ρ'=>W.ct ρ' | .no=>False):=by
     rintro ρ' ⟨m,hm,hI'⟩
     obtain ⟨r,e,hr,q⟩:=ih m hm ρ' hI'
     refine ⟨r,?_,hr,q⟩
     obtain ⟨k,rfl⟩:∃ k,n=m+1+k:=⟨n-m-1,by omega⟩
     rw [wG (by rw [e]; exact hr),e]
    cases eb:b ρ with
    | nx ρ'=>rw [eb] at w; exact step ρ' w
    | ct ρ'=>rw [eb] at w; exact step ρ' w
    | bk ρ'=>rw [eb] at w; exact ⟨.nx ρ',rfl,(fun z=>by cases z),w⟩
    | rt d=>rw [eb] at w; exact ⟨.rt d,rfl,(fun z=>by cases z),w⟩
    | no=>rw [eb] at w; exact w.elim
 obtain ⟨r,e,hr,q⟩:=key n ρ h0
 unfold Wp
 rw [zZ e hr]
 exact q
end
section
variable {ρ:aF} {a b c:DE} {i j k:Int} {d e:D} {es:aF→Option (List D)} {ds:List D}
theorem j9 (ha:a ρ=some (.int i)) (hb:b ρ=some (.int j)):ke a b ρ=some (.int (i+j)):=by unfold ke nN; rw [ha,hb]
theorem uc (ha:a ρ=some (.int i)) (hb:b ρ=some (.int j)):AR a b ρ=some (.int (i-j)):=by unfold AR nN; rw [ha,hb]
theorem qr (ha:a ρ=some (.int i)) (hb:b ρ=some (.int j)) (h:Rc i j):m3 a b ρ=some (.int (i*j)):=by unfold m3 nN; rw [ha,hb]; exact t6 h
theorem EM (ha:a ρ=some (.int i)) (hb:b ρ=some (.int j)) (h:0<j∧j.natAbs.log2<9000):qE a b ρ=some (.int (i / j)):=by unfold qE nN; rw [ha,hb]; exact t6 (C:=fun _ j=>0<j∧j.natAbs.log2<9000) h
theorem Hn (ha:a ρ=some (.int i)) (hb:b ρ=some (.int j)) (h:0<j):jF a b ρ=some (.int (i % j)):=by unfold jF nN; rw [ha,hb]; exact t6 (C:=fun _ j=>0<j) h
theorem CQ (ha:a ρ=some (.int i)) (hb:b ρ=some (.int j)) (h:E9 i j):C5 a b ρ=some (.int (i ^ j.toNat)):=by unfold C5 nN; rw [ha,hb]; exact t6 h
theorem vK (ha:a ρ=some (.int i)) (hb:b ρ=some (.int j)):AV a b ρ=some (.bl (decide (i<j))):=by unfold AV nN; rw [ha,hb]
theorem CV (ha:a ρ=some (.int i)) (hb:b ρ=some (.int j)):Ht a b ρ=some (.bl (decide (j<i))):=by unfold Ht nN; rw [ha,hb]
theorem FL (ha:a ρ=some (.int i)) (hb:b ρ=some (.int j)):Hu a b ρ=some (.bl (decide (j≤i))):=by unfold Hu nN; rw [ha,hb]
theorem xT (ha:a ρ=some (.int i)):rf a ρ=some (.int (-i)):=by unfold rf; rw [ha]
theorem zc (ha:a ρ=some (.int i)) (hb:b ρ=some (.int j)):zh a b ρ=some (.int (max i j)):=by
 have e:(if j > i then j else i)=max i j:=by split <;> omega
 unfold zh nN; rw [ha,hb,← e]
theorem EK (ha:a ρ=some (.int i)) (hb:b ρ=some (.int j)):zg a b ρ=some (.int (min i j)):=by
 have e:(if j<i then j else i)=min i j:=by split <;> omega
 unfold zg nN; rw [ha,hb,← e]
theorem mT (ha:a ρ=some (.bl x)):dT a ρ=some x:=by unfold dT; rw [ha]
theorem j8 (ha:a ρ=some d) (h:DR d=some x):qC a ρ=some x:=by unfold qC; rw [ha]; exact h
theorem CS {p:aF→Option Bool} (ha:p ρ=some x):vP p ρ=some (!x):=by unfold vP; rw [ha]
theorem xU {p q:aF→Option Bool} {y:Bool} (ha:p ρ=some x) (hb:x=true→q ρ=some y):Dc p q ρ=some (x&&y):=by
 unfold Dc; rw [ha]; cases x
 ·rfl
 ·rw [hb rfl]; rfl
theorem FK {p q:aF→Option Bool} {y:Bool} (ha:p ρ=some x) (hb:x=false→q ρ=some y):Bf p q ρ=some (x || y):=by
 unfold Bf; rw [ha]; cases x
 ·rw [hb rfl]; rfl
 ·rfl
theorem js {y:Bool} (ha:a ρ=some (.bl x)) (hb:x=true→b ρ=some (.bl y)):lE a b ρ=some (.bl (x&&y)):=by
 unfold lE; rw [ha]; cases x
 ·rfl
 ·rw [hb rfl]; rfl
theorem Hl {y:Bool} (ha:a ρ=some (.bl x)) (hb:x=false→b ρ=some (.bl y)):C6 a b ρ=some (.bl (x || y)):=by
 unfold C6; rw [ha]; cases x
 ·rw [hb rfl]; rfl
 ·rfl
theorem EI (ha:a ρ=some (.bl x)):sh a ρ=some (.bl (!x)):=by unfold sh; rw [ha]
theorem lh (ha:a ρ=some d) (h:d.jC=true):gw a ρ=some d:=by unfold gw; rw [ha]; exact if_pos h
theorem bJ (h:es ρ=some ds):cc es ρ=some (.lst ds):=by unfold cc; rw [h]; rfl
theorem xS (h:es ρ=some ds):xW es ρ=some (.tup ds):=by unfold xW; rw [h]; rfl
theorem aE (h:a ρ=some d) (h2:es ρ=some ds):ax a es ρ=some (d::ds):=by unfold ax; rw [h,h2]
theorem cm (ha:a ρ=some d) (hb:b ρ=some (.int i)) (h:Cy d i=some e):dt a b ρ=some e:=by unfold dt; rw [ha,hb]; exact h
theorem d8 {g:D→Option D} (ha:a ρ=some d) (h:g d=some e):gz g a ρ=some e:=by unfold gz; rw [ha]; exact h
theorem cA (h:es ρ=some ds) (h2:F ds=some d):bX F es ρ=some d:=by unfold bX; rw [h]; exact h2
theorem CY (ha:a ρ=some d) (hb:b ρ=some e) (h:fe 20 d e=true):oO neg a b ρ=some (.bl (if neg=true then !decide (d=e) else decide (d=e))):=by unfold oO; rw [ha,hb]; exact if_pos h
theorem CW (ha:a ρ=some (.int i)) (hb:b ρ=some (.int j)):oO neg a b ρ=some (.bl (if neg=true then !decide (i=j) else decide (i=j))):=by
 rw [CY ha hb rfl]
 have e:decide (D.int i=D.int j)=decide (i=j):=by rw [lp]; rw [LY]; simp
 rw [e]
theorem qt (ha:a ρ=some (.int i)) (hb:b ρ=some (.int j)):oO false a b ρ=some (.bl (decide (i=j))):=CW (neg:=false) ha hb
theorem CT (ha:a ρ=some (.int i)) (hb:b ρ=some (.int j)):oO true a b ρ=some (.bl (decide (i≠j))):=by
 rw [CW (neg:=true) ha hb,if_pos rfl]
 congr 2
 rw [LY]
 simp
theorem mU {d:D} (ha:a ρ=some d) (hb:b ρ=some d) (h:fe 20 d d=true):oO false a b ρ=some (.bl true):=by
 rw [CY ha hb h,if_neg KU,decide_eq_true rfl]
theorem De (xs ys:List Int):fe (n+1) (.lst (xs.map D.int)) (.lst (ys.map D.int))=true:=by
 show (decide _ || (Oc (xs.map D.int) (ys.map D.int)).all fun p=>fe n p.1 p.2)=true
 rw [SK]
 refine .inr (Ml.mpr fun q hq=>?_)
 obtain ⟨a,b⟩:=q
 obtain ⟨h1,h2⟩:=Oa hq
 obtain ⟨x,_,rfl⟩:=K5.mp h1
 obtain ⟨y,_,rfl⟩:=K5.mp h2
 cases n <;> rfl
theorem da (ha:a ρ=some d) (h:G4 d=some ds):iG a ρ=some ds:=by unfold iG; rw [ha]; exact h
theorem ud (ha:a ρ=some (.int i)) (h:-(2 ^ 62)≤i∧i.toNat≤KH):iq a ρ=some (wq 0 i.toNat):=by unfold iq; rw [ha]; exact if_pos h
theorem Hj (ha:a ρ=some (.int i)) (hb:b ρ=some (.int j)) (h:-(2 ^ 62)≤i∧i<2 ^ 62∧-(2 ^ 62)≤j∧j<2 ^ 62∧(j-i).toNat≤KH):C4 a b ρ=some (wq i (j-i).toNat):=by unfold C4; rw [ha,hb]; exact if_pos h
theorem CP (h:es ρ=some ds) (hb:b ρ=some (.int i)) (hc:-(2 ^ 63)≤i∧i<2 ^ 63∧ds.length*i.toNat≤KH):AS es b ρ=some (Lr i.toNat ds).flatten:=by unfold AS; rw [h,hb]; exact if_pos hc
theorem uf (h:es ρ=some ds) (hf:kZ ds=true):qg es ρ=some ds:=by unfold qg; rw [h]; exact if_pos hf
theorem ue (h:a ρ=some d) (hl:G4 d=some ds):rg a ρ=some ds:=by
 unfold rg; rw [h]
 cases d with
 | lst xs=>exact hl
 | scr ns=>exact hl
 | _=>cases hl
theorem ug {xs ys:List D} (ha:a ρ=some (.lst xs)) (hb:b ρ=some (.lst ys)) (h:xs.length+ys.length≤KH):m4 a b ρ=some (xs++ys):=by unfold m4; rw [ha,hb]; exact if_pos h
theorem CU (ha:a ρ=some (.int i)) (hb:b ρ=some (.lst (ns.map D.int))):HR neg a b ρ=some (.bl (if neg=true then !decide (i∈ns) else decide (i∈ns))):=by
 unfold HR; rw [ha,hb]; dsimp only [HP]; rw [dR]; rfl
theorem EN {k:Nat} {g:DG} {t:aF→Option Bool} (h:it ρ=some ds) (p:D→Bool) (f:D→D)
 (hs:∀ d∈ds,∃ ρ1,g d (r0 k cs ρ)=some ρ1∧t ρ1=some (p d)∧(p d=true→el ρ1=some (f d))):bA k cs it g t el ρ=some ((ds.filter p).map f):=by
 unfold bA
 rw [h]
 dsimp only
 clear h
 induction ds with
 | nil=>rfl
 | cons x xs ih =>
  obtain ⟨ρ1,e1,e2,e3⟩:=hs x Ky
  have ih:=ih fun d hd=>hs d (Kx _ hd)
  unfold kh
  rw [e1]
  dsimp only
  rw [e2]
  cases hp:p x with
  | false =>
   dsimp only
   rw [ih,NT (by simp [hp])]
  | true =>
   dsimp only
   rw [e3 hp,ih,Nl hp]
   rfl
theorem C1 {k:Nat} {g:DG} (h:it ρ=some ds) (f:D→D)
 (hs:∀ d∈ds,∃ ρ1,g d (r0 k cs ρ)=some ρ1∧el ρ1=some (f d)):bA k cs it g bP el ρ=some (ds.map f):=by
 have:=EN (ρ:=ρ) (k:=k) (cs:=cs) (it:=it) (g:=g) (t:=bP) (el:=el) h (fun _=>true) f fun d hd=>let ⟨ρ1,e1,e2⟩:=hs d hd; ⟨ρ1,e1,rfl,fun _=>e2⟩
 rw [this,PB.mpr fun _ _=>rfl]
theorem BO {b:DS} {ds:List D} (h:Wp b (jL n ms ds) { nx:=fun _=>P .non,rt:=P }):∃ d,cw n ms b ds=some d∧P d:=by
 unfold Wp at h
 unfold cw
 cases e:b (jL n ms ds) with
 | nx ρ=>rw [e] at h; exact ⟨_,rfl,h⟩
 | rt d=>rw [e] at h; exact ⟨_,rfl,h⟩
 | bk ρ=>rw [e] at h; exact h.elim
 | ct ρ=>rw [e] at h; exact h.elim
 | no=>rw [e] at h; exact h.elim
theorem run_eq {b:DS} {ds:List D} {d:D} (h:Wp b (jL n ms ds) { nx:=fun _=>D.non=d,rt:=fun x=>x=d }):cw n ms b ds=some d:=by
 obtain ⟨x,e,rfl⟩:=BO (P:=fun x=>x=d) h
 exact e
theorem kJ {b:DS} (hF:F=cw n ms b) {ds:List D} (h:Wp b (jL n ms ds) { nx:=fun _=>P .non,rt:=P }):∃ d,F ds=some d∧P d:=by rw [hF]; exact BO h
theorem cU {b:DS} (hF:F=cw n ms b) {ds:List D} {d:D} (h:Wp b (jL n ms ds) { nx:=fun _=>D.non=d,rt:=fun x=>x=d }):F ds=some d:=by rw [hF]; exact run_eq h
theorem CC {i j:Int} (h:(-(2 ^ 64)<i∧i<2 ^ 64)∨(-(2 ^ 64)<j∧j<2 ^ 64)):Rc i j:=HN.ok h
theorem Jz {i:Int} (h0:0≤i) (h1:i<ns.length):Cy (.lst (ns.map D.int)) i=some (.int (ns.getD i.toNat 0)):=by
 show iF (ns.map D.int) i=_
 unfold iF ixN
 rw [if_pos h0,Kw,if_pos h1]
 show (ns.map D.int)[i.toNat]?=_
 have hi:i.toNat<ns.length:=by omega
 rw [KO,Kv hi,Ku,Kv hi]
 rfl
theorem Kh {i:Int} (h0:0≤i) (h1:i<ns.length):Cy (.scr ns) i=some (.int (ns.getD i.toNat 0)):=by
 show (iF ns i).map D.int=_
 unfold iF ixN
 rw [if_pos h0,if_pos h1]
 have hi:i.toNat<ns.length:=by omega
 show (ns[i.toNat]?).map D.int=_
 rw [Kv hi,Ku,Kv hi]
 rfl
theorem fS {i:Int} (h0:0≤i) (h1:i<n):ixN n i=some i.toNat:=by unfold ixN; rw [if_pos h0,if_pos h1]
end
end
end
end VL
namespace L2
open PySem PySem.Spec PyProof.Rows
section
variable {X:Cx} {K:KC}
theorem x6 (hc:X.calm=true) (h:X.K=K):yd X (.builtin "max") ["default"] (fun xs zs H Q=>∃ (p:KI) (ns:List Int) (d:V),xs=[.ref p]∧zs=[d]∧dA K H p (ns.map V.int)∧(ns=[]→Q d H)∧∀ M,M∈ns→(∀ a,a∈ns→a≤M)→Q (.int M) H):=by subst h; exact A0 hc
end
end L2
namespace VL
variable {ρ:aF} {d:D} {α:Type} {cs:List Nat} {it:aF→Option (List D)} {el:DE} {n:Nat}
open PySem L2
section
open Classical
noncomputable section
section
variable [bD] {K:KC} {ta tb tc:TE} {a b c:DE}
noncomputable def vQ (g:Int→List Int→Int) (a b:DE):DE:=fun ρ=>match a ρ with
 | some (.lst ds)=>(match b ρ with
  | some d=>(match cT ds with
   | some []=>some d
   | some (x::r)=>some (.int (g x r))
   | none=>none)
  | none=>none)
 | _=>none
theorem AU {g:Int→List Int→Int} (h:vQ g a b ρ=some d):∃ ns e,a ρ=some (.lst (ns.map D.int))∧b ρ=some e∧((ns=[]∧d=e)∨∃ x r,ns=x::r∧d=.int (g x r)):=by
 unfold vQ at h
 split at h
 ·rename_i ds e1
  split at h
  ·rename_i e e2
   cases q:cT ds with
   | none=>rw [q] at h; cases h
   | some ns =>
    rw [q] at h
    rw [de q] at e1
    cases ns with
    | nil=>cases h; exact ⟨[],_,e1,e2,.inl ⟨rfl,rfl⟩⟩
    | cons x r=>cases h; exact ⟨x::r,_,e1,e2,.inr ⟨x,r,rfl,rfl⟩⟩
  ·cases h
 ·cases h
theorem D5 (ha:aO K ta a) (hb:af K tb b):af K (Ii (fun xs zs H Q=>∃ (p:KI) (ns:List Int) (d:V),xs=[.ref p]∧zs=[d]∧dA K H p (ns.map V.int)∧(ns=[]→Q d H)∧∀ M,M∈ns→(∀ a,a∈ns→a≤M)→Q (.int M) H) (cf ta eC) (cf tb eC)) (vQ nY a b):=fun {B Z os ρ σ H Q d} f q k=>by
 obtain ⟨ns,e,e1,e2,h⟩:=AU q
 refine ha f e1 fun v H1 s1 i1=>hb (f.grow s1) e2 fun u H2 s2 i2=>?_
 obtain ⟨p,rfl,rd⟩:=(i1.same s2).ints
 have s12:=s1.trans s2
 refine ⟨p,ns,u,rfl,rfl,.inl rd,fun z=>?_,fun M h1 h2=>?_⟩
 ·rcases h with ⟨_,rfl⟩ | ⟨x,r,rfl,rfl⟩
  ·exact k _ _ s12 i2
  ·cases z
 ·rcases h with ⟨rfl,_⟩ | ⟨x,r,rfl,rfl⟩
  ·cases h1
  ·rw [iQ h1 h2 (aQ r x).1 (aQ r x).2]
   exact k _ _ s12 (.int _)
theorem EJ {g:Int→List Int→Int} (ha:a ρ=some (.lst [])) (hb:b ρ=some d):vQ g a b ρ=some d:=by unfold vQ; rw [ha,hb]; rfl
theorem Hm {g:Int→List Int→Int} {x:Int} {r:List Int} (ha:a ρ=some (.lst ((x::r).map D.int))) (hb:b ρ=some d):vQ g a b ρ=some (.int (g x r)):=by
 unfold vQ; rw [ha,hb]; dsimp only; rw [dR]
theorem JF {j:Int} (h0:0<j) (h1:j<2 ^ 64):0<j∧j.natAbs.log2<9000:=by
 refine ⟨h0,(Nat.log2_lt (by omega)).mpr (Lc (m:=2 ^ 64) (by omega) (Nat.pow_le_pow_right (by decide) (by decide)))⟩
theorem i6 {k:Nat} {g:DG} {t:aF→Option Bool} (emb:α→D) {xs:List α} (h:it ρ=some (xs.map emb)) (p:α→Bool) (f:α→D)
 (hs:∀ x∈xs,∃ ρ1,g (emb x) (r0 k cs ρ)=some ρ1∧t ρ1=some (p x)∧(p x=true→el ρ1=some (f x))):bA k cs it g t el ρ=some ((xs.filter p).map f):=by
 unfold bA
 rw [h]
 dsimp only
 clear h
 induction xs with
 | nil=>rfl
 | cons x r ih =>
  obtain ⟨ρ1,e1,e2,e3⟩:=hs x Ky
  have ih:=ih fun d hd=>hs d (Kx _ hd)
  rw [Ld]
  unfold kh
  rw [e1]
  dsimp only
  rw [e2]
  cases hp:p x with
  | false =>
   dsimp only
   rw [ih,NT (by simp [hp])]
  | true =>
   dsimp only
   rw [e3 hp,ih,Nl hp]
   rfl
theorem cG {k:Nat} {g:DG} (emb:α→D) {xs:List α} (h:it ρ=some (xs.map emb)) (f:α→D)
 (hs:∀ x∈xs,∃ ρ1,g (emb x) (r0 k cs ρ)=some ρ1∧el ρ1=some (f x)):bA k cs it g bP el ρ=some (xs.map f):=by
 have:=i6 (ρ:=ρ) (k:=k) (cs:=cs) (it:=it) (g:=g) (t:=bP) (el:=el) emb h (fun _=>true) f fun d hd=>let ⟨ρ1,e1,e2⟩:=hs d hd; ⟨ρ1,e1,rfl,fun _=>e2⟩
 rw [this,PB.mpr fun _ _=>rfl]
theorem EU {xs ys:List D} (h:∀ x∈xs,∀ y∈ys,fe n x y=true):fe (n+1) (.lst xs) (.lst ys)=true:=by
 show (decide _ || (Oc xs ys).all fun p=>fe n p.1 p.2)=true
 rw [SK]
 refine .inr (Ml.mpr fun q hq=>?_)
 obtain ⟨a,b⟩:=q
 obtain ⟨h1,h2⟩:=Oa hq
 exact h a h1 b h2
theorem vS (T S:List (List Int)):fe (n+2) (.lst (T.map fun r=>.lst (r.map D.int))) (.lst (S.map fun r=>.lst (r.map D.int)))=true:=by
 refine EU fun x hx y hy=>?_
 obtain ⟨a,_,rfl⟩:=K5.mp hx
 obtain ⟨b,_,rfl⟩:=K5.mp hy
 exact De a b
theorem rB (ns:List Int):uT (.lst (ns.map D.int))=some (.int ns.sum):=ig _ ns
theorem rV (x:Int) (r:List Int):maxD (.lst ((x::r).map D.int))=some (.int (nY x r)):=ig _ (x::r)
end
end
end
end VL
namespace L2
variable {scope:NW} {cl:List (LV×KI)} {pins:List (KI×Nv)} {fp:List KI} {x:LV}
open PySem PySem.Spec PyProof.Rows
section
open VL (s0)
theorem qV {M:RN} {A:L4} {E:KD→KJ→Prop} {s:KJ} {globals:KI} {qual:LV} {outer:SU} {Q:SU→KJ→Prop}
 (hQ:Q { scope,locals:=s.heap.objs.size,globals,cells:=Mt (s.heap.objs.size+1) scope.names cl,qual,func:=none,code:=outer.code,frame:=outer.frame,builtins:=outer.builtins } { s with heap:=Qw (s.heap.push { cls:=.type "dict", data:=.dict #[] }) scope.names }) :
 Lh M A (Rq scope globals cl [] qual none .none (some outer)) Q E s:=by
 simp only [Rq,R1,if_true]
 refine KG (wpAny_alloc ?_)
 refine KG (wpAny_layCells _ (fun name kind cells=>by cases hkc:kind==RS <;> simp [hkc]) _ _ _ _ ?_)
 rw [show ({ s with heap:=s.heap.push { cls:=.type "dict", data:=.dict #[] } }:KJ).heap.objs.size=s.heap.objs.size+1 from Ov ..]
 rw [S9]
 exact KG (Lp (Lp hQ))
theorem ja:∀ (names:List (LV×Qu)) (h:ME) (acc:List (LV×KI)) (x:LV) (c:KI),(Mt h.objs.size names acc).lookup x=some c→((Qw h names).IsCell c none∧h.objs.size≤c)∨acc.lookup x=some c
 | [],_,_,_,_,e=>.inr e
 | (name,kind)::r,h,acc,x,c,e=>by
  unfold Mt at e
  unfold Qw
  split at e
  ·rename_i hk
   rw [if_pos hk]
   rcases ja r (h.push { cls:=.type "cell", data:=.cell none }) ((name,h.objs.size)::acc) x c (by rw [Ov]; exact e) with ⟨q1,q2⟩ | q
   ·rw [Ov] at q2
    exact .inl ⟨q1,by omega⟩
   ·rw [NS] at q
    cases hb:x==name with
    | true =>
     rw [hb] at q
     cases q
     exact .inl ⟨⟨_,Q4 _ _ _ _ (LD _ rfl),rfl⟩,Lg _⟩
    | false=>rw [hb] at q; exact .inr q
  ·rename_i hk
   rw [if_neg hk]
   exact ja r h acc x c e
theorem m7:∀ (names:List (LV×Qu)) (n:Nat) (acc:List (LV×KI)),(∀ x y c,acc.lookup x=some c→acc.lookup y=some c→x=y)→(∀ x c,acc.lookup x=some c→c<n)→∀ x y c,(Mt n names acc).lookup x=some c→(Mt n names acc).lookup y=some c→x=y
 | [],_,_,hi,_=>hi
 | (name,kind)::r,n,acc,hi,hb=>by
  unfold Mt
  split
  ·refine m7 r (n+1) ((name,n)::acc) (fun x y c h1 h2=>?_) fun x c h=>?_
   ·rw [NS] at h1 h2
    cases e1:x==name with
    | true =>
     cases e2:y==name with
     | true=>rw [eq_of_beq e1,eq_of_beq e2]
     | false =>
      rw [e1] at h1; rw [e2] at h2
      cases h1
      exact absurd (hb _ _ h2) (LP _)
    | false =>
     cases e2:y==name with
     | true =>
      rw [e1] at h1; rw [e2] at h2
      cases h2
      exact absurd (hb _ _ h1) (LP _)
     | false=>rw [e1] at h1; rw [e2] at h2; exact hi x y c h1 h2
   ·rw [NS] at h
    cases e1:x==name with
    | true=>rw [e1] at h; cases h; exact Nu _
    | false=>rw [e1] at h; exact L6 (hb _ _ h)
  ·exact m7 r n acc hi hb
theorem m6:∀ (names:List (LV×Qu)) (n:Nat) (acc:List (LV×KI)) (x:LV),(names.all fun y=>!(y.2==.cell) || !(y.1==x))=true→(Mt n names acc).lookup x=acc.lookup x
 | [],_,_,_,_=>rfl
 | (name,kind)::r,n,acc,x,h=>by
  have h:((!(kind==.cell) || !(name==x))&&r.all fun y=>!(y.2==.cell) || !(y.1==x))=true:=h
  obtain ⟨h1,h2⟩:=(Nb _ _).mp h
  unfold Mt
  split
  ·rename_i hk
   rw [m6 r _ _ x h2,NS]
   have:(x==name)=false:=by
    rw [hk] at h1
    have h1:(name==x)=false:=by simpa using h1
    rw [beq_eq_false_iff_ne] at h1 ⊢
    exact fun z=>h1 z.symm
   rw [this]
  ·exact m6 r _ _ x h2
def aI (X:Cx) (N':List LV) (scope:NW) (cl:List (LV×KI)) (C:KI) (s3:KJ) (H3:Hp) (fp:List KI) (pins:List (KI×Nv)):Cx :=
 { X with N:=N',s₀:=s3,H₀:=H3,env:=Ow scope (Mt (C+1) scope.names cl) C X.env,outer:=X.stack,stack:=X.stack,ex:=fp,fn:=fun x=>scope.names.lookup x==some .cell,pn:=X.pn++pins,xe:=fun _ _=>False }
structure iy (X:Cx) (N':List LV) (scope:NW) (cl:List (LV×KI)) (σ σ0:St):Prop where
 sub:∀ x c,cl.lookup x=some c→X.env.cells.lookup x=some c
 vals:∀ (j:Nat) (x:LV) (v:V),N'[j]?=some x→σ0[j]?=some (some v)→∃ (i:Nat) (c:KI),X.N[i]?=some x∧σ[i]?=some (some v)∧HB X.env.scope x∧X.env.kindOf x≠some .local∧cl.lookup x=some c ∧
  ((relabel scope X.env).names.lookup x=some .cell∨(relabel scope X.env).names.lookup x=some .free)
 Jm:∀ (j:Nat) (x:LV) (v:V),N'[j]?=some x→σ0[j]?=some (some v)→(scope.names.all fun y=>!(y.2==.cell) || !(y.1==x))=true
 has:∀ x,((relabel scope X.env).names.lookup x=some .cell∨(relabel scope X.env).names.lookup x=some .free)→scope.names.lookup x=some .cell∨(cl.lookup x).isSome=true
 out:∀ x c,(scope.names.lookup x==some .cell)=true→¬ cl.lookup x=some c
 len:σ0.length=N'.length
section
variable {X:Cx} {tg elt iter:Mv} {ifs:List Mv} {scope:NW} {cl:List (LV×KI)} {N':List LV} {σ0:St→St} {g:TG} {tt:TT} {te:TE}
theorem nO {pos:Qq} {σ:St} {H1:Hp} {s2:KJ} {it:KI} {tn:Nat→ME→Prop} {J:It} {Q:VK} {RR:KD→KI→Tu→KJ→Prop}
 (hc:X.calm=true) (hkind:scope.kind=.function)
 (I:Inv X pins σ H1 s2) (T:Turn X.prog X.w X.K tg J fp it tn) (st:tn 0 s2.heap) (hfp:∀ b∈fp,wm X pins H1 b) (fr:iy X N' scope cl σ (σ0 σ)) (hk:zx g (σ0 σ))
 (hg:∀ C s3 H3 fp pins,PG (aI X N' scope cl C s3 H3 fp pins) tg g)
 (ht:∀ C s3 H3 fp pins (pl:List (KI×Nv)) (s:KJ) (σ:St) (H:Hp) (Q:Bool→Hp→Prop),Inv (aI X N' scope cl C s3 H3 fp pins) pl σ H s→tt σ H Q →
  Lh (model X.prog X.w) X.A (forIn ifs true fun c r=>if r=true then do let ok ← QC c (Ow scope (Mt (C+1) scope.names cl) C X.env) (eval c (Ow scope (Mt (C+1) scope.names cl) C X.env)); pure (LN ok) else pure (LN r)) (TP (aI X N' scope cl C s3 H3 fp pins) pl σ Q) (fun _ _=>False) s)
 (he:∀ C s3 H3 fp pins,PE (aI X N' scope cl C s3 H3 fp pins) elt te) (hw:FP J g tt te (σ0 σ) H1 Q)
 (hRR:∀ D C s' H' m,Inv X pins σ H' s'→s'.heap.Ns C m→H' C=none→C≠X.env.locals→X.s₀.heap.objs.size≤C→(∀ x c,X.env.cells.lookup x=some c→c≠C)→(∀ p∈X.pn++pins,p.1≠C)→Q (.ref D) H'→RR (.ref D) C (.ok .next) s') :
 Lh (model X.prog X.w) X.A (newList []) (fun acc s₃=>Lh (model X.prog X.w) X.A (Rq scope X.env.globals cl [] X.env.qual none .none (some X.env)) (fun cenv s₄ =>
  PJ (model X.prog X.w) X.A (.compStart (.ListComp elt [⟨tg,iter,ifs,0⟩] scope pos) 0 (.ref it) acc { cenv with scope:=relabel scope X.env }) (RR acc cenv.locals) s₄) X.xe s₃) X.xe s2:=by
 refine wpAny_newObj_type (hd:=by size_fits) (qV ?_)
 dsimp only
 have I3:Inv X pins σ (upd H1 s2.heap.objs.size (.lst [])) { s2 with heap:=s2.heap.push { cls:=.type "list", dict:=none,data:=.seq ([]:List KD).toArray } }:=I.G5 (t':=s2.toks) (its:=[]) (ys:=[]) .nil (LL _)
 obtain ⟨W,⟨m0,w0⟩,turn⟩:=hw s2.heap.objs.size I.fresh
 have hfpo:=T.obj 0 _ st
 have fpl:∀ b∈fp,b<s2.heap.objs.size:=fun b hb=>by
  obtain ⟨o,e,_⟩:=hfpo b hb
  exact K1 e
 have fD:∀ b∈fp,upd H1 s2.heap.objs.size (.lst []) b=none:=fun b hb=>by
  rw [av (Lm (fpl b hb))]
  exact (hfp b hb).1
 generalize hs3:({ s2 with heap:=s2.heap.push { cls:=.type "list", dict:=none,data:=.seq ([]:List KD).toArray } }:KJ)=s3 at I3
 have es3:s3.heap=s2.heap.push { cls:=.type "list", dict:=none,data:=.seq ([]:List KD).toArray }:=by rw [← hs3]
 have st3:tn 0 s3.heap:=T.keep _ _ _ st fun b hb o e=>by rw [es3]; exact KN _ e
 rw [← es3]
 have sz3:s2.heap.objs.size<s3.heap.objs.size:=by rw [es3,Ov]; exact Nu _
 generalize upd H1 s2.heap.objs.size (.lst [])=H3 at I3 fD w0
 have hns₁:(Qw (s3.heap.push { cls:=.type "dict", data:=.dict #[] }) scope.names).Ns s3.heap.objs.size (fun _=>none):=(Heap.Ns.new s3.heap (.type "dict")).keeps (Q4 _ _)
 have old:∀ b o,s3.heap.get? b=some o→(Qw (s3.heap.push { cls:=.type "dict", data:=.dict #[] }) scope.names).get? b=some o:=fun b o e=>Q4 _ _ b o (KN _ e)
 have cnew:=fun x c (e:(Mt (s3.heap.objs.size+1) scope.names cl).lookup x=some c)=>ja scope.names (s3.heap.push { cls:=.type "dict", data:=.dict #[] }) cl x c (by rw [Ov]; exact e)
 rw [Ov] at cnew
 have below:∀ x c,cl.lookup x=some c→c<s3.heap.objs.size:=fun x c e=>by
  obtain ⟨v,o,ho,_⟩:=I3.cell x c (fr.sub x c e)
  exact K1 ho
 generalize Qw (s3.heap.push { cls:=.type "dict", data:=.dict #[] }) scope.names=h₁ at hns₁ old cnew
 have fpl3:∀ b∈fp,b<s3.heap.objs.size:=fun b hb=>QK (fpl b hb) sz3
 have Fp:∀ b∈fp,b∉Be X.stack:=fun b hb z=>by
  rcases KP.mp (I3.o7 b z) with e | e
  ·exact (hfp b hb).2.1 e
  ·exact (hfp b hb).2.2.1 e
 have ok:(aI X N' scope cl s3.heap.objs.size s3 H3 fp pins).Ok:=by
  refine ⟨I3.ok.mod,hkind,I3.ok.glob,I3.ok.blt,Lg _,m7 scope.names _ cl (fun x y c h1 h2=>I3.ok.inj x y c (fr.sub x c h1) (fr.sub y c h2)) (fun x c e=>L6 (below x c e)),fun x h=>?has,fun x c h e=>?cab,I3.ok.hd,I3.ok.frames,.inl rfl,
   fun b hb=>⟨Lm (fpl3 b hb),fun x c e=>?exf⟩,I3.bs,LF I3.ok.zm I3.sz,fun b o e hb=>?noex,fun b hb=>Fp b hb,I3.stack,I3.sR⟩
  case has=>exact Qi.mp (OX scope.names _ cl (fr.has x h))
  case cab =>
   rcases cnew x c e with ⟨_,q⟩ | q
   ·exact LF (Qc _) q
   ·exact absurd q (fr.out x c h)
  case exf =>
   rcases cnew x c e with ⟨_,q⟩ | q
   ·intro z
    have l1:=fpl3 b hb
    rw [← z] at l1
    exact absurd (Lc l1 (LF (Qc _) q)) (LP _)
   ·exact (hfp b hb).2.2.2.2.1 x c (fr.sub x c q)
  case noex =>
   rcases (hfp b hb).2.2.2.1 with z | z
   ·exact I3.ok.noex b o e z
   ·have l1:b<X.base.objs.size:=K1 e
    have l2:X.base.objs.size≤X.s₀.heap.objs.size:=I3.ok.zm
    have l3:X.s₀.heap.objs.size≤b:=z
    exact absurd (Lc l1 (LF l2 l3)) (LP _)
 have lt3:X.env.locals<s3.heap.objs.size:=I3.lt
 have start:Inv (aI X N' scope cl s3.heap.objs.size s3 H3 fp pins) [] (σ0 σ) H3 { s3 with heap:=h₁ }:=by
  refine ⟨ok,rfl,I3.bare,Un.kept old,⟨_,hns₁,fun j x v e1 e2 _=>?_⟩,fun x c e=>?_,I3.cu.fresh (Lg _),fun x c e=>?fc,fun p hp=>?_,I3.cu.kept old,fr.len⟩
  case fc =>
   rcases cnew x c e with ⟨_,q⟩ | q
   ·exact I3.cu.fresh (by omega)
   ·exact I3.g6 x c (fr.sub x c q)
  ·obtain ⟨i,c,q1,q2,q3,q4,q5,q6⟩:=fr.vals j x v e1 e2
   obtain ⟨m,hn,hl⟩:=I3.loc
   obtain ⟨u,r,l⟩:=hl i x v q1 q2 q3
   refine ⟨u,r,.inr ⟨q6,c,(m6 scope.names _ cl x (fr.Jm j x v e1 e2)).trans q5,?_⟩⟩
   rcases l with ⟨k,_⟩ | ⟨_,c',e',z⟩
   ·exact absurd k q4
   ·rw [fr.sub x c q5] at e'
    cases e'
    obtain ⟨o,ho,hd⟩:=z
    exact ⟨o,old _ _ ho,hd⟩
  ·rcases cnew x c e with ⟨q,_⟩ | q
   ·exact ⟨_,q⟩
   ·obtain ⟨v,o,ho,hd⟩:=I3.cell x c (fr.sub x c q)
    exact ⟨v,o,old _ _ ho,hd⟩
  ·have hp':p∈X.pn++pins:=by simpa [aI] using hp
   obtain ⟨e,n,ne,nf,d⟩:=I3.pin p hp'
   refine ⟨old _ _ e,n,Lm (K1 e),fun z=>?_,d⟩
   rcases KP.mp (I3.o7 p.1 z) with q | q
   ·exact ne q
   ·exact nf q
 have hst₁:tn 0 h₁:=T.keep _ _ _ st3 fun b _ o e=>old b o e
 have fpok:∀ {H':Hp},(∀ b∈fp,H' b=none)→∀ b∈fp,wm (aI X N' scope cl s3.heap.objs.size s3 H3 fp pins) [] H' b:=fun {H'} hn b hb =>
  ⟨hn b hb,Lm (fpl3 b hb),Fp b hb,.inl hb,fun x c e=>by
   rcases cnew x c e with ⟨_,q⟩ | q
   ·intro z
    have l1:=fpl3 b hb
    rw [← z] at l1
    exact absurd (Lc l1 (LF (Qc _) q)) (LP _)
   ·exact (hfp b hb).2.2.2.2.1 x c (fr.sub x c q),fun p hp=>(hfp b hb).2.2.2.2.2 p (by simpa [aI] using hp)⟩
 have loop:PJ (model X.prog X.w) X.A (.compLoop (.ListComp elt [⟨tg,iter,ifs,0⟩] scope pos) 0 (.ref it) (.ref s2.heap.objs.size) (Ow scope (Mt (s3.heap.objs.size+1) scope.names cl) s3.heap.objs.size X.env)) (RR (.ref s2.heap.objs.size) s3.heap.objs.size) { s3 with heap:=h₁ }:=by
  refine uu (fun n s'=>∃ i ys H',Inv (aI X N' scope cl s3.heap.objs.size s3 H3 fp pins) [] (σ0 σ) H' s'∧tn i s'.heap∧(∀ b∈fp,H' b=none)∧W i n ys H') ?_ m0 ⟨0,[],H3,start,hst₁,fD,w0⟩
  rintro n s4 ⟨i,ys,H4,I4,st4,fr4,w4⟩
  rcases turn i n ys H4 w4 with ⟨stop,eD,q⟩ | ⟨go,step⟩
  ·refine cD (T.done (aI X N' scope cl s3.heap.objs.size s3 H3 fp pins) rfl rfl rfl hc i [] s4 _ H4 _ I4 (fpok fr4) st4 stop) fun r s5 ⟨hr,I5⟩=>?_
   subst hr
   obtain ⟨m5,n5,_⟩:=I5.loc
   have J5:Inv X pins σ H4 s5:=I3.FQ I5.os I5.base I5.cu I5.bare fun b hb=>⟨(hfp b hb).2.2.2.1,(hfp b hb).2.1,(hfp b hb).2.2.2.2.1,(hfp b hb).2.2.2.2.2⟩
   exact hRR _ _ s5 H4 m5 J5 n5 I5.free (Ng lt3) I3.sz (fun x c e z=>by
    obtain ⟨v,o,ho,_⟩:=I3.cell x c e
    exact absurd (K1 ho) (by rw [z]; exact LP _)) (fun p hp z=>by
    have e:=(I3.pin p hp).1
    exact absurd (K1 e) (by rw [z]; exact LP _)) q
  ·refine cD (T.item (aI X N' scope cl s3.heap.objs.size s3 H3 fp pins) rfl rfl rfl hc i [] s4 _ H4 _ I4 (fpok fr4) st4 go) fun r s5 ⟨u,hr,h5⟩=>?_
   subst hr
   refine cD h5 fun _ s6 ⟨x,H6,I6,r6,y6,st6,fr6⟩=>?_
   have I6':=I6.pinned (fpok fr6) (T.obj _ _ st6)
   refine cD (hg _ _ _ _ _ _ s6 _ H6 x u _ I6' r6 (hk _ _ _ (step x H6 y6))) fun _ s7 ⟨σ7,H7,I7,q7,l7,k7⟩=>?_
   have again:∀ {s8:KJ} {H8:Hp} {m:Nat} {zs:List V},Inv (aI X N' scope cl s3.heap.objs.size s3 H3 fp pins) ([]++pH fp s6.heap) σ7 H8 s8→m<n→W (i+1) m zs H8 →
    ∃ m,m<n∧∃ i ys H',Inv (aI X N' scope cl s3.heap.objs.size s3 H3 fp pins) [] (σ0 σ) H' s8∧tn i s8.heap∧(∀ b∈fp,H' b=none)∧W i m ys H':=fun {s8 H8 m zs} I8 hm w8=>by
    refine ⟨m,hm,i+1,zs,H8,(Inv.dZ I8).weak l7.symm k7,T.keep _ _ _ st6 fun b hb o e=>(I8.pin (b,o) (KA _ (KA _ (ij hb e)))).1,fun b hb=>?_,w8⟩
    obtain ⟨o,e,d⟩:=T.obj _ _ st6 b hb
    exact (I8.pin (b,o) (KA _ (KA _ (ij hb e)))).2.1
   refine cD (ht _ _ _ _ _ _ s7 σ7 H7 _ I7 q7) fun c s8 ⟨H8,I8,q8⟩=>?_
   cases c with
   | false =>
    rw [if_neg KU] at q8 ⊢
    obtain ⟨m',hm,w8⟩:=q8
    exact again I8 hm w8
   | true =>
    rw [if_pos rfl] at q8 ⊢
    refine cD (he _ _ _ _ _ _ s8 σ7 H8 _ I8 q8) fun v s9 ⟨y,H9,I9,r9,e9,z9,m',hm,w9⟩=>?_
    exact cD (dq _ s9 σ7 H9 (.ref s2.heap.objs.size) [y] (.ref s2.heap.objs.size) [v] (fun _ H'=>H'=upd H9 s2.heap.objs.size (.lst (ys++[y]))) I9 rfl (.cons r9 .nil) ⟨_,ys,y,rfl,rfl,e9,z9,rfl⟩)
     fun _ s10 ⟨_,H10,I10,_,e10⟩=>by subst e10; exact again I10 hm w9
 subst hs3
 exact codeAny_compStart_list loop (T.self _ 0 _ _ _ hst₁ loop)
variable {pos:Qq} {wi:TI}
theorem rR (hc:X.calm=true) (hi:PI X tg iter wi) (fr:∀ σ:St,σ.length=X.N.length→iy X N' scope cl σ (σ0 σ)) (hk:∀ σ,zx g (σ0 σ))
 (hg:∀ C s3 H3 fp pins,PG (aI X N' scope cl C s3 H3 fp pins) tg g)
 (ht:∀ C s3 H3 fp pins (pl:List (KI×Nv)) (s:KJ) (σ:St) (H:Hp) (Q:Bool→Hp→Prop),Inv (aI X N' scope cl C s3 H3 fp pins) pl σ H s→tt σ H Q →
  Lh (model X.prog X.w) X.A (forIn ifs true fun c r=>if r=true then do let ok ← QC c (Ow scope (Mt (C+1) scope.names cl) C X.env) (eval c (Ow scope (Mt (C+1) scope.names cl) C X.env)); pure (LN ok) else pure (LN r)) (TP (aI X N' scope cl C s3 H3 fp pins) pl σ Q) (fun _ _=>False) s)
 (he:∀ C s3 H3 fp pins,PE (aI X N' scope cl C s3 H3 fp pins) elt te)
 (hclos:OQ scope X.env=pure cl) (hkind:scope.kind=.function) (hnames:∀ y∈scope.names,y.2=.local→scope.names.lookup y.1=some .local)
 (hs:∀ x,Nk iter X.env x=pure x):PE X (.ListComp elt [⟨tg,iter,ifs,0⟩] scope pos) (nr wi g tt te σ0):=by
 intro pins s σ H Q I h
 rw [eval_ListComp]
 refine Qn (use:=none) rfl hs hclos hkind hnames (cD (hi pins s σ H _ I h) fun v s1 h1=>cD h1 fun itv s2 h2=>?_)
 obtain ⟨it,fp,tn,J,H2,e,I2,T,st2,f2,q⟩:=h2
 subst e
 refine nO (RR:=fun acc C=>compPost (model X.prog X.w) X.A X.xe none (EP X pins σ Q) acc C) hc hkind I2 T st2 f2 (fr σ I.len) (hk σ) hg ht he q ?_
 intro D C s' H' m I' hn hC h1 h2 h3 h4 q'
 refine ⟨m,hn,fun h'' hs''=>⟨.ref D,H',?_,rfl,q'⟩⟩
 exact I'.turned (t':=s'.toks) (fun b o hb e=>hs''.extBut b o hb e) hC h1 (.inr h2) h3 h4
theorem rP {i:Nat} {pos' spos:Qq} (hN:X.N.Nodup) (hi':X.N[i]?=some x) (hx:Loc X.env.scope x) (hf:X.fn x=true∨X.env.scope.names.lookup x=some .local)
 (hc:X.calm=true) (hi:PI X tg iter wi) (fr:∀ σ:St,σ.length=X.N.length→iy X N' scope cl σ (σ0 σ)) (hk:∀ σ,zx g (σ0 σ))
 (hg:∀ C s3 H3 fp pins,PG (aI X N' scope cl C s3 H3 fp pins) tg g)
 (ht:∀ C s3 H3 fp pins (pl:List (KI×Nv)) (s:KJ) (σ:St) (H:Hp) (Q:Bool→Hp→Prop),Inv (aI X N' scope cl C s3 H3 fp pins) pl σ H s→tt σ H Q →
  Lh (model X.prog X.w) X.A (forIn ifs true fun c r=>if r=true then do let ok ← QC c (Ow scope (Mt (C+1) scope.names cl) C X.env) (eval c (Ow scope (Mt (C+1) scope.names cl) C X.env)); pure (LN ok) else pure (LN r)) (TP (aI X N' scope cl C s3 H3 fp pins) pl σ Q) (fun _ _=>False) s)
 (he:∀ C s3 H3 fp pins,PE (aI X N' scope cl C s3 H3 fp pins) elt te)
 (hclos:OQ scope X.env=pure cl) (hkind:scope.kind=.function) (hnames:∀ y∈scope.names,y.2=.local→scope.names.lookup y.1=some .local)
 (hs:∀ x,Nk iter X.env x=pure x) (hsw:Qt (.ListComp elt [⟨tg,iter,ifs,0⟩] scope pos) (some (.Name x pos')) spos.line X.env=pure true) :
 PS X (.Assign [.Name x pos'] (.ListComp elt [⟨tg,iter,ifs,0⟩] scope pos) spos) (rq (nr wi g tt te σ0) i):=by
 intro pins s σ H D I h
 rw [exec_Assign_Name_used _ _ _ _ hsw]
 refine KG (OG (KG ?_))
 show Lh _ X.A (do let _ ← comprehension (.ListComp elt [⟨tg,iter,ifs,0⟩] scope pos) scope X.env _ (newList []) false (eval iter X.env) (some (assign (.Name x pos') X.env))) _ _ s
 refine KG (L7 (Qn (Q:=fun _ s'=>SP X pins D .next s') (use:=some (assign (.Name x pos') X.env)) rfl hs hclos hkind hnames (cD (hi pins s σ H _ I h) fun v s1 h1=>cD h1 fun itv s2 h2=>?_))
  (fun _ s' hq=>Lp (Lp hq)) fun _ _ e=>e)
 obtain ⟨it,fp,tn,J,H2,e,I2,T,st2,f2,q⟩:=h2
 subst e
 refine nO (RR:=fun acc C=>compPost (model X.prog X.w) X.A X.xe (some (assign (.Name x pos') X.env)) (fun _ s'=>SP X pins D .next s') acc C) hc hkind I2 T st2 f2 (fr σ I.len) (hk σ) hg ht he q ?_
 intro Dl C s' H' m I' hn hC h1 h2 h3 h4 q'
 show Lh _ _ (assign (.Name x pos') X.env (.ref Dl)) _ _ s'
 refine wpAny_assign_Name (rC (v:=.ref Dl) I' hN hi' hx rfl (fun s'' I'' ⟨a,hsb,ha⟩=>?_) hf)
 have hne:C≠a:=by
  rcases ha with rfl | ha
  ·exact h1
  ·exact MY (h3 x a ha)
 refine ⟨m,hn.sameBut hsb hne,fun h'' hs''=>⟨_,H',?_,q'⟩⟩
 exact I''.turned (t':=s''.toks) (fun b o hb e=>hs''.extBut b o hb e) hC h1 (.inr h2) h3 h4
theorem iy.many {is:List Nat} {ts zs:List LV} {k:Nat} {σ:St} (hk:ts.length=k) (hs:SubL X cl) (hc:oe X scope cl is zs)
 (ha:((relabel scope X.env).names.all fun y=>!(y.2==.cell || y.2==.free) || zs.contains y.1 || (scope.names.lookup y.1==some .cell))=true)
 (ho:(zs.all fun z=>scope.names.all fun y=>!(y.2==.cell) || !(y.1==z))=true) (hcl:(scope.names.all fun y=>!(y.2==.cell) || (cl.lookup y.1).isNone)=true):iy X (ts++zs) scope cl σ (s0 k is σ):=by
 have vals:∀ (j:Nat) (x:LV) (v:V),(ts++zs)[j]?=some x→(s0 k is σ)[j]?=some (some v)→x∈zs∧∃ (i:Nat) (c:KI),X.N[i]?=some x∧σ[i]?=some (some v)∧HB X.env.scope x∧X.env.kindOf x≠some .local∧cl.lookup x=some c ∧
  ((relabel scope X.env).names.lookup x=some .cell∨(relabel scope X.env).names.lookup x=some .free):=fun j x v e1 e2=>by
  unfold s0 at e2
  by_cases hj:j<k
  ·rw [LK (by simpa using hj),Mg,if_pos hj] at e2; cases e2
  ·rw [Ln (by simpa using hj),LR,KO] at e2
   rw [Ln (by omega),hk] at e1
   obtain ⟨i,c,f1,f2,f3,f4,f5⟩:=hc.get _ _ e1
   rw [f1] at e2
   have e3:(σ[i]?).join=some v:=Lz e2
   refine ⟨LI e1,i,c,f2,VL.join_some e3,?_,?_,f4,f5⟩
   ·rcases f3 with q | q
    ·exact .inr (.inl q)
    ·exact .inr (.inr q)
   ·intro w
    have w:X.env.scope.names.lookup x=some .local:=w
    rcases f3 with q | q <;> rw [q] at w <;> cases w
 refine ⟨hs.sub,fun j x v e1 e2=>(vals j x v e1 e2).2,fun j x v e1 e2=>Ml.mp ho x (vals j x v e1 e2).1,fun x h=>?_,fun x c h e=>?_,by unfold s0; rw [K0,K0,LR,Kw,hk,hc.len]⟩
 ·have key:∀ kd,(relabel scope X.env).names.lookup x=some kd→(kd==RS || kd==Tj)=true→x∈zs∨scope.names.lookup x=some .cell:=fun kd e q=>by
   have m:=Ml.mp ha _ (MP e)
   rw [q] at m
   have m':zs.contains x=true∨(scope.names.lookup x==some .cell)=true:=by simpa using m
   rcases m' with m' | m'
   ·exact .inl (Q8.mp m')
   ·exact .inr (eq_of_beq m')
  have mem:x∈zs∨scope.names.lookup x=some .cell:=by
   rcases h with h | h
   ·exact key _ h rfl
   ·exact key _ h rfl
  rcases mem with mem | mem
  ·obtain ⟨j,hj⟩:=Mp mem
   obtain ⟨i,c,_,_,_,f4,_⟩:=hc.get j x hj
   exact .inr (by rw [f4]; rfl)
  ·exact .inl mem
 ·have m:=Ml.mp hcl _ (MP (eq_of_beq h))
  rw [e] at m
  simp at m
variable {c:Mv} {ts zs:List LV} {is:List Nat} {k:Nat}
theorem yn:∀ C s3 H3 fp pins (pl:List (KI×Nv)) (s:KJ) (σ:St) (H:Hp) (Q:Bool→Hp→Prop),Inv (aI X N' scope cl C s3 H3 fp pins) pl σ H s→yo σ H Q →
 Lh (model X.prog X.w) X.A (forIn ([]:List Mv) true fun c r=>if r=true then do let ok ← QC c (Ow scope (Mt (C+1) scope.names cl) C X.env) (eval c (Ow scope (Mt (C+1) scope.names cl) C X.env)); pure (LN ok) else pure (LN r)) (TP (aI X N' scope cl C s3 H3 fp pins) pl σ Q) (fun _ _=>False) s :=
 fun _ _ _ _ _ _ _ _ H _ I h=>wpAny_tests_nil ⟨H,I,h⟩
theorem ym (ht:∀ C s3 H3 fp pins,PT (aI X N' scope cl C s3 H3 fp pins) c tt):∀ C s3 H3 fp pins (pl:List (KI×Nv)) (s:KJ) (σ:St) (H:Hp) (Q:Bool→Hp→Prop),Inv (aI X N' scope cl C s3 H3 fp pins) pl σ H s→tt σ H Q →
 Lh (model X.prog X.w) X.A (forIn [c] true fun c r=>if r=true then do let ok ← QC c (Ow scope (Mt (C+1) scope.names cl) C X.env) (eval c (Ow scope (Mt (C+1) scope.names cl) C X.env)); pure (LN ok) else pure (LN r)) (TP (aI X N' scope cl C s3 H3 fp pins) pl σ Q) (fun _ _=>False) s :=
 fun C s3 H3 fp pins pl s σ H Q I h=>wpAny_tests_one (ht C s3 H3 fp pins pl s σ H Q I h)
theorem gL (hc:X.calm=true) (hi:PI X tg iter wi) (hk:ts.length=k) (hs:SubL X cl) (hcp:oe X scope cl is zs) (ha:((relabel scope X.env).names.all fun y=>!(y.2==.cell || y.2==.free) || zs.contains y.1 || (scope.names.lookup y.1==some .cell))=true)
 (ho:(zs.all fun z=>scope.names.all fun y=>!(y.2==.cell) || !(y.1==z))=true) (hcl:(scope.names.all fun y=>!(y.2==.cell) || (cl.lookup y.1).isNone)=true) (hl:E6 k g)
 (hg:∀ C s3 H3 fp pins,PG (aI X (ts++zs) scope cl C s3 H3 fp pins) tg g) (he:∀ C s3 H3 fp pins,PE (aI X (ts++zs) scope cl C s3 H3 fp pins) elt te)
 (hclos:OQ scope X.env=pure cl) (hkind:scope.kind=.function) (hnames:∀ y∈scope.names,y.2=.local→scope.names.lookup y.1=some .local)
 (hf:∀ x,Nk iter X.env x=pure x:=by intro _; rfl):PE X (.ListComp elt [⟨tg,iter,[],0⟩] scope pos) (nr wi g yo te (s0 k is)) :=
 rR hc hi (fun _ _=>iy.many hk hs hcp ha ho hcl) (fun σ=>hl.keep σ) hg yn he hclos hkind hnames hf
theorem xr (hc:X.calm=true) (hi:PI X tg iter wi) (hk:ts.length=k) (hs:SubL X cl) (hcp:oe X scope cl is zs) (ha:((relabel scope X.env).names.all fun y=>!(y.2==.cell || y.2==.free) || zs.contains y.1 || (scope.names.lookup y.1==some .cell))=true)
 (ho:(zs.all fun z=>scope.names.all fun y=>!(y.2==.cell) || !(y.1==z))=true) (hcl:(scope.names.all fun y=>!(y.2==.cell) || (cl.lookup y.1).isNone)=true) (hl:E6 k g)
 (hg:∀ C s3 H3 fp pins,PG (aI X (ts++zs) scope cl C s3 H3 fp pins) tg g) (ht:∀ C s3 H3 fp pins,PT (aI X (ts++zs) scope cl C s3 H3 fp pins) c tt) (he:∀ C s3 H3 fp pins,PE (aI X (ts++zs) scope cl C s3 H3 fp pins) elt te)
 (hclos:OQ scope X.env=pure cl) (hkind:scope.kind=.function) (hnames:∀ y∈scope.names,y.2=.local→scope.names.lookup y.1=some .local)
 (hf:∀ x,Nk iter X.env x=pure x:=by intro _; rfl):PE X (.ListComp elt [⟨tg,iter,[c],0⟩] scope pos) (nr wi g tt te (s0 k is)) :=
 rR hc hi (fun _ _=>iy.many hk hs hcp ha ho hcl) (fun σ=>hl.keep σ) hg (ym ht) he hclos hkind hnames hf
theorem iM {i:Nat} {pos' spos:Qq} (hN:X.N.Nodup) (hi':X.N[i]?=some x) (hxl:X.env.scope.names.lookup x=some .local) (hc:X.calm=true) (hi:PI X tg iter wi) (hk:ts.length=k) (hs:SubL X cl) (hcp:oe X scope cl is zs) (ha:((relabel scope X.env).names.all fun y=>!(y.2==.cell || y.2==.free) || zs.contains y.1 || (scope.names.lookup y.1==some .cell))=true)
 (ho:(zs.all fun z=>scope.names.all fun y=>!(y.2==.cell) || !(y.1==z))=true) (hcl:(scope.names.all fun y=>!(y.2==.cell) || (cl.lookup y.1).isNone)=true) (hl:E6 k g)
 (hg:∀ C s3 H3 fp pins,PG (aI X (ts++zs) scope cl C s3 H3 fp pins) tg g) (he:∀ C s3 H3 fp pins,PE (aI X (ts++zs) scope cl C s3 H3 fp pins) elt te)
 (hclos:OQ scope X.env=pure cl) (hkind:scope.kind=.function) (hnames:∀ y∈scope.names,y.2=.local→scope.names.lookup y.1=some .local)
 (hf:∀ x,Nk iter X.env x=pure x:=by intro _; rfl) (hsw:Qt (.ListComp elt [⟨tg,iter,[],0⟩] scope pos) (some (.Name x pos')) spos.line X.env=pure true:=by rfl):PS X (.Assign [.Name x pos'] (.ListComp elt [⟨tg,iter,[],0⟩] scope pos) spos) (rq (nr wi g yo te (s0 k is)) i) :=
 rP hN hi' (.inl hxl) (.inr hxl) hc hi (fun _ _=>iy.many hk hs hcp ha ho hcl) (fun σ=>hl.keep σ) hg yn he hclos hkind hnames hf hsw
theorem Gz {i:Nat} {pos' spos:Qq} (hN:X.N.Nodup) (hi':X.N[i]?=some x) (hxl:X.env.scope.names.lookup x=some .local) (hc:X.calm=true) (hi:PI X tg iter wi) (hk:ts.length=k) (hs:SubL X cl) (hcp:oe X scope cl is zs) (ha:((relabel scope X.env).names.all fun y=>!(y.2==.cell || y.2==.free) || zs.contains y.1 || (scope.names.lookup y.1==some .cell))=true)
 (ho:(zs.all fun z=>scope.names.all fun y=>!(y.2==.cell) || !(y.1==z))=true) (hcl:(scope.names.all fun y=>!(y.2==.cell) || (cl.lookup y.1).isNone)=true) (hl:E6 k g)
 (hg:∀ C s3 H3 fp pins,PG (aI X (ts++zs) scope cl C s3 H3 fp pins) tg g) (ht:∀ C s3 H3 fp pins,PT (aI X (ts++zs) scope cl C s3 H3 fp pins) c tt) (he:∀ C s3 H3 fp pins,PE (aI X (ts++zs) scope cl C s3 H3 fp pins) elt te)
 (hclos:OQ scope X.env=pure cl) (hkind:scope.kind=.function) (hnames:∀ y∈scope.names,y.2=.local→scope.names.lookup y.1=some .local)
 (hf:∀ x,Nk iter X.env x=pure x:=by intro _; rfl) (hsw:Qt (.ListComp elt [⟨tg,iter,[c],0⟩] scope pos) (some (.Name x pos')) spos.line X.env=pure true:=by rfl):PS X (.Assign [.Name x pos'] (.ListComp elt [⟨tg,iter,[c],0⟩] scope pos) spos) (rq (nr wi g tt te (s0 k is)) i) :=
 rP hN hi' (.inl hxl) (.inr hxl) hc hi (fun _ _=>iy.many hk hs hcp ha ho hcl) (fun σ=>hl.keep σ) hg (ym ht) he hclos hkind hnames hf hsw
end
end
theorem fq {X:Cx} {N':List LV} {i:Nat} {y:LV} {py:Qq} {C:KI} {s3:KJ} {H3:Hp} (nd:N'.Nodup) (hi:N'[i]?=some y)
 (hx:Loc (relabel scope X.env) y) (hf:(scope.names.lookup y==some .cell)=true∨(relabel scope X.env).names.lookup y=some .local):PG (aI X N' scope cl C s3 H3 fp pins) (.Name y py) (jO i):=bV nd hi hx hf
end L2
namespace VL
variable {ta:TE} {a:aF→Option (List (List D))} {Z:KI→Prop} {os:Own} {ρ:aF} {σ:L2.St} {rows:List (List D)} {r:Nat} {ps:List KI} {ds':List D} {vs':List V} {n:Int} {ds:List D} {cs:List Nat} {it:aF→Option (List D)} {α:Type} {el:aF→Option (List D)}
open PySem L2
section
open Classical
noncomputable section
variable [bD] {K:KC} {fr:Fm}
def E2 (K:KC) (t:TE) (e:aF→Option (List (List D))):Prop:=∀ {B:Hp} {Z:KI→Prop} {os:Own} {ρ:aF} {σ:L2.St} {H:Hp} {Q:VK} {rows:List (List D)},Fr K B Z os ρ σ H→e ρ=some rows →
 (∀ x ps H',aL H H'→H x=none→(∀ a∈ps,H a=none)→(x::ps).Nodup→H' x=some (.lst (ps.map V.ref))→ps.length≤KH→MZ (fun q ds=>∃ vs,H' q=some (.lst vs)∧vs.length≤KH∧IsL K H' (fun a=>(a=x∨a∈ps)∨bS Z os a) vs ds) ps rows→Q (.ref x) H')→t σ H Q
def rL (rows:List (List D)):D:=.lst (rows.map D.lst)
@[irreducible] noncomputable def kI (i:Nat) (a:aF→Option (List (List D))):DS:=fun ρ=>match a ρ with
 | some rows=>if i < ρ.length then .nx (ρ.set i (.om rows)) else .no
 | none=>.no
theorem sW {i:Nat} (h:E2 K ta a):dD fr K (uS ta (jO i)) (kI i a):=fun {B Z os ρ σ H E} f p=>by
 unfold kI at p
 split at p
 ·rename_i rows e
  by_cases hi:i < ρ.length
  ·rw [if_pos hi] at p
   refine h f e fun x ps H1 s1 hx hps hn hH hl r=>?_
   have st:=f.step (H':=H1) (i:=i) hi (o:=x::ps) (s:=.om rows) (v:=some (.ref x)) (fun a u e _=>s1 _ _ e) (fun a ha=>let ⟨xs,e⟩:=(f.sl i).ui ha; ⟨_,s1 _ _ e⟩) hn (fun a ha=>?_)
    ⟨x,ps,rfl,rfl,hH,hl,Paired.mono r fun q ds _ ⟨vs,h1,h2,h3⟩=>⟨vs,h1,h2,h3.kp (Kp.less fun a z=>?_)⟩⟩
   ·exact p _ _ _ st.1 st.2
   ·rcases KP.mp ha with rfl | ha
    ·exact .inr hx
    ·exact .inr (hps a ha)
   ·rcases z with z | ⟨j,z⟩
    ·exact .inr (.inl z)
    ·by_cases hj:j=i
     ·subst hj; rw [br] at z; exact .inl (KP.mp z)
     ·rw [bZ hj] at z; exact .inr (.inr ⟨j,z⟩)
  ·rw [if_neg hi] at p; exact p.elim
 ·exact p.elim
theorem uV {i:Nat} (h:E2 K ta a):dD fr K (rq ta i) (kI i a):=sW (i:=i) h
theorem Paired.setAt {α β:Type} {F G:α→β→Prop} {p:α} {y:β}:∀ {ps:List α} {rows:List β} {r:Nat},MZ F ps rows→ps.Nodup→(∀ q ds,q≠p→F q ds→G q ds)→ps[r]?=some p→G p y→MZ G ps (rows.set r y)
 | _,_,0,.cons h t,hn,hf,e,g=>by
  cases e
  exact .cons g (Paired.mono t fun q ds hq h=>hf q ds (fun z=>(La.mp hn).1 (z ▸ hq)) h)
 | _,_,r+1,.cons h t,hn,hf,e,g=>by
  have e':=show _=some p by simpa using e
  exact .cons (hf _ _ (fun z=>(La.mp hn).1 (z ▸ LI e')) h) (Paired.setAt t (La.mp hn).2 hf e' g)
theorem Paired.xO {α β:Type} {F:α→β→Prop}:∀ {ps:List α} {rows:List β} {r:Nat} {y:β},MZ F ps rows→rows[r]?=some y→∃ p,ps[r]?=some p∧F p y
 | _,_,0,_,.cons h _,e=>by cases e; exact ⟨_,rfl,h⟩
 | _,_,r+1,_,.cons _ t,e=>by
  obtain ⟨p,e1,h⟩:=Paired.xO (r:=r) t (by simpa using e)
  exact ⟨p,by simpa using e1,h⟩
theorem Cc {B H:Hp} (f:Fr K B Z os ρ σ H) {i:Nat} (e:ρ.getD i .un=.om rows) :
 ∃ a ps,os i=a::ps∧(σ[i]?).join=some (.ref a)∧H a=some (.lst (ps.map V.ref))∧ps.length≤KH∧ps.length=rows.length∧MZ (fun p ds=>∃ vs,H p=some (.lst vs)∧vs.length≤KH∧IsL K H (bS Z os) vs ds) ps rows:=by
 have s:=f.sl i
 rw [e] at s
 obtain ⟨a,ps,h1,h2,h3,h4,h5⟩:=s
 exact ⟨a,ps,h1,h2,h3,h4,MT h5,h5⟩
theorem Fr.IE {B H:Hp} (f:Fr K B Z os ρ σ H) {i:Nat} {a p:KI} (e:ρ.getD i .un=.om rows) (eo:os i=a::ps) (hu:(σ[i]?).join=some (.ref a)) (hr:ps[r]?=some p) (hl:vs'.length≤KH) (h:IsL K H (bS Z os) vs' ds') :
 Fr K B Z (iL os i (a::ps)) (ρ.set i (.om (rows.set r ds'))) σ (upd H p (.lst vs'))∧Kp (bS Z os) H (bS Z (iL os i (a::ps))) (upd H p (.lst vs')):=by
 have s:=f.sl i
 rw [e] at s
 obtain ⟨b,qs,eo',hu',hH,hlp,i1⟩:=s
 rw [eo] at eo'
 cases eo'
 have hi:=jq e (by intro z; cases z)
 have hn:=f.nd i
 rw [eo] at hn
 have hp:p∈ps:=LI hr
 have hpo:p∈os i:=by rw [eo]; exact Kx _ hp
 have hap:a≠p:=fun z=>(La.mp hn).1 (z ▸ hp)
 have tt:bS Z (iL os i (a::ps))=bS Z os:=by
  funext c
  apply propext
  constructor
  ·rintro (z | ⟨j,z⟩)
   ·exact .inl z
   ·by_cases hj:j=i
    ·subst hj; rw [br] at z; exact .inr ⟨j,by rw [eo]; exact z⟩
    ·rw [bZ hj] at z; exact .inr ⟨j,z⟩
  ·rintro (z | ⟨j,z⟩)
   ·exact .inl z
   ·by_cases hj:j=i
    ·subst hj; exact .inr ⟨j,by rw [br,← eo]; exact z⟩
    ·exact .inr ⟨j,by rw [bZ hj]; exact z⟩
 have kp:Kp (bS Z os) H (bS Z os) (upd H p (.lst vs')):=fun b u e z=>⟨by rw [av (fun w=>z (.inr ⟨i,by rw [w]; exact hpo⟩))]; exact e,z⟩
 have st:=f.step (H':=upd H p (.lst vs')) (i:=i) hi (o:=a::ps) (s:=.om (rows.set r ds')) (v:=some (.ref a)) (fun b u e n=>by rw [av (fun z=>n (by rw [z]; exact hpo))]; exact e) (fun b hb=>?_) hn (fun b hb=>by rw [← eo] at hb; exact .inl hb)
  ⟨a,ps,rfl,rfl,by rw [av hap]; exact hH,hlp,?_⟩
 ·rw [gT hu'] at st
  exact st
 ·by_cases hb':b=p
  ·rw [hb']; exact ⟨_,aC⟩
  ·rw [av hb']; obtain ⟨xs,e⟩:=(f.sl i).ui hb; exact ⟨_,e⟩
 ·rw [tt]
  exact Paired.setAt i1 (La.mp hn).2 (fun q ds hq ⟨vs,h1,h2,h3⟩=>⟨vs,by rw [av hq]; exact h1,h2,h3.kp kp⟩) hr ⟨vs',aC,hl,h.kp kp⟩
theorem Fr.GZ {B H:Hp} (f:Fr K B Z os ρ σ H) {i:Nat} {a p:KI} (e:ρ.getD i .un=.om rows) (eo:os i=a::ps) (hu:(σ[i]?).join=some (.ref a)) (hr:ps[r]?=some p) (hl:vs'.length≤KH) (h:IsL K H (bS Z os) vs' ds') :
 ∃ os',Fr K B Z os' (ρ.set i (.om (rows.set r ds'))) σ (upd H p (.lst vs'))∧Kp (bS Z os) H (bS Z os') (upd H p (.lst vs')):=⟨_,f.IE e eo hu hr hl h⟩
theorem xl {B H:Hp} (f:Fr K B Z os ρ σ H) {i:Nat} (e:ρ.getD i .un=.om rows) (hn:ixN rows.length n=some r) (hd:rows[r]?=some ds) :
 ∃ a ps p vs,os i=a::ps∧(σ[i]?).join=some (.ref a)∧H a=some (.lst (ps.map V.ref))∧iF (ps.map V.ref) n=some (V.ref p)∧ps[r]?=some p∧H p=some (.lst vs)∧vs.length≤KH∧IsL K H (bS Z os) vs ds:=by
 obtain ⟨a,ps,h1,h2,h3,h4,h5,h6⟩:=Cc f e
 obtain ⟨p,e1,vs,g1,g2,g3⟩:=Paired.xO h6 hd
 refine ⟨a,ps,p,vs,h1,h2,h3,?_,e1,g1,g2,g3⟩
 unfold iF
 rw [Kw,h5,hn]
 show (ps.map V.ref)[r]?=_
 rw [KO,e1]
 rfl
@[irreducible] noncomputable def rH (i:Nat) (b c a:DE):DS:=fun ρ=>match ρ.getD i .un with
  | .om rows=>(match a ρ with
    | some d=>(match b ρ with
      | some (.int n)=>(match ixN rows.length n with
        | some r=>(match rows[r]? with
          | some ds=>(match c ρ with
            | some (.int m)=>(match ixN ds.length m with
              | some j=>.nx (ρ.set i (.om (rows.set r (ds.set j d))))
              | none=>.no)
            | _=>.no)
          | none=>.no)
        | none=>.no)
      | _=>.no)
    | none=>.no)
  | _=>.no
theorem yt {i:Nat} {tb tc:TE} {a b c:DE} (ha:af K ta a) (hb:aO K tb b) (hc:aO K tc c):dD fr K (uS ta (Hh (nT (Fv K) (mf i) tb) tc yI)) (rH i b c a):=fun {B Z os ρ σ H E} f p=>by
 unfold rH at p
 split at p
 ·rename_i rows e
  split at p
  ·rename_i d e1
   split at p
   ·rename_i n e2
    split at p
    ·rename_i r e3
     split at p
     ·rename_i ds e4
      split at p
      ·rename_i m e5
       split at p
       ·rename_i j e6
        obtain ⟨x,ps,q,vs,eo,hu,hH,hat,hr,hq,hl,il⟩:=xl f e e3 e4
        refine ha f e1 fun v H1 s1 i1=>⟨_,join_some hu,hb (f.grow s1) e2 fun w H2 s2 i2=>?_⟩
        have s12:=s1.trans s2
        refine .inl ⟨x,ps.map V.ref,n,.ref q,rfl,i2.isInt,dA.of (s12 _ _ hH),hat,hc (f.grow s12) e5 fun u H3 s3 i3=>?_⟩
        have s13:=s12.trans s3
        have f3:=f.grow s13
        obtain ⟨os',f',k⟩:=f3.GZ (vs':=vs.set j v) (ds':=ds.set j d) e eo hu hr (by rw [MC]; exact hl) ((il.same s13).set ((i1.same s2).same s3) j)
        exact ⟨q,vs,m,j,rfl,i3.isInt,s13 _ _ hq,by rw [il.length]; exact e6,p os' _ _ f' ((Kp.same s13).trans k)⟩
       ·exact p.elim
      ·exact p.elim
     ·exact p.elim
    ·exact p.elim
   ·exact p.elim
  ·exact p.elim
 ·exact p.elim
@[irreducible] noncomputable def u9 (g:Int→Int→Int) (i:Nat) (b c a:DE):DS:=fun ρ=>match ρ.getD i .un with
  | .om rows => (match b ρ with
    | some (.int n)=>(match ixN rows.length n with
      | some r=>(match rows[r]? with
        | some ds=>(match c ρ with
          | some (.int m)=>(match ixN ds.length m with
            | some j=>(match ds[j]? with
              | some (.int x)=>(match a ρ with
                | some (.int y)=>.nx (ρ.set i (.om (rows.set r (ds.set j (.int (g x y))))))
                | _=>.no)
              | _=>.no)
            | none=>.no)
          | _=>.no)
        | none=>.no)
      | none=>.no)
    | _=>.no)
  | _=>.no
theorem D1 {i:Nat} {g:Int→Int→Int} {tb tc:TE} {a b c:DE} (hb:aO K tb b) (hc:aO K tc c) (ha:aO K ta a):dD fr K (Fl (nT (Fv K) (mf i) tb) tc ta (BW K) (JA g) yI) (u9 g i b c a):=fun {B Z os ρ σ H E} f p=>by
 unfold u9 at p
 split at p
 ·rename_i rows e
  split at p
  ·rename_i n e2
   split at p
   ·rename_i r e3
    split at p
    ·rename_i ds e4
     split at p
     ·rename_i m e5
      split at p
      ·rename_i j e6
       split at p
       ·rename_i z e7
        split at p
        ·rename_i y e8
         obtain ⟨x,ps,q,vs,eo,hu,hH,hat,hr,hq,hl,il⟩:=xl f e e3 e4
         refine ⟨_,join_some hu,hb f e2 fun w H2 s2 i2=>.inl ⟨x,ps.map V.ref,n,.ref q,rfl,i2.isInt,dA.of (s2 _ _ hH),hat,hc (f.grow s2) e5 fun u H3 s3 i3=>?_⟩⟩
         have s13:=s2.trans s3
         obtain ⟨v,ev,iv⟩:=il.get e7
         refine ⟨q,vs,m,v,rfl,i3.isInt,dA.of (s13 _ _ hq),?_,ha (f.grow s13) e8 fun u' H4 s4 i4=>⟨z,y,iv.isInt,i4.isInt,?_⟩⟩
         ·unfold iF; rw [il.length,e6]; exact ev
         ·have s14:=s13.trans s4
          have f4:=f.grow s14
          obtain ⟨os',f',k⟩:=f4.GZ (vs':=vs.set j (.int (g z y))) (ds':=ds.set j (.int (g z y))) e eo hu hr (by rw [MC]; exact hl) ((il.same s14).set (.int _) j)
          exact ⟨q,vs,m,j,rfl,i3.isInt,s14 _ _ hq,by rw [il.length]; exact e6,p os' _ _ f' ((Kp.same s14).trans k)⟩
        ·exact p.elim
       ·exact p.elim
      ·exact p.elim
     ·exact p.elim
    ·exact p.elim
   ·exact p.elim
  ·exact p.elim
 ·exact p.elim
end
end
section
open Classical
noncomputable section
variable [bD] {K:KC} {fr:Fm}
theorem vY {B H1 H:Hp} {W:KI→Prop} (f:Fr K B Z os ρ σ H1) (s:aL H1 H) (hw:∀ a,W a→∃ o,H a=some o) (hk:Kp (bS Z os) H1 W H) (k:Nat) (cs:List Nat) :
    Fr K H1 W (fun _=>[]) (r0 k cs ρ) (s0 k cs σ) H where
  keep:=s
  DL:=hw
  tab:=f.kA
  len:=by unfold r0 s0; simp
  nd:=fun _=>Mc
  dj:=fun _ _ _ h=>by cases h
  new:=fun _ _ h=>by cases h
  sl:=fun j=>by
    have kp:Kp (bS Z os) H1 (bS W fun _=>[]) H:=fun a u e z=>⟨(hk a u e z).1,fun q=>q.elim (hk a u e z).2 fun ⟨_,q⟩=>by cases q⟩
    unfold r0 s0
    rw [Ku]
    by_cases hj:j<k
    · rw [LK (by simpa using hj),LK (by simpa using hj),Mg,if_pos hj]
      exact rfl
    · rw [Ln (by simpa using hj),Ln (by simpa using hj),LR,LR,KO,KO]
      cases e:cs[j-k]? with
      | none=>exact rfl
      | some i =>
        have h:=f.sl i
        show rj K _ _ _ _ (view (ρ.getD i .un)) ((σ[i]?).join)
        cases e2:ρ.getD i .un with
        | un=>exact rfl
        | pu d =>
          rw [e2] at h
          obtain ⟨_,u,hu,i1⟩:=h
          exact ⟨rfl,u,hu,i1.kp kp⟩
        | bo d =>
          rw [e2] at h
          obtain ⟨_,u,hu,i1⟩:=h
          exact ⟨rfl,u,hu,i1.same f.keep⟩
        | ol ds =>
          rw [e2] at h
          obtain ⟨a,vs,_,hu,hH,hl,i1⟩:=h
          exact ⟨rfl,_,hu,.lst (fun z=>z) (.inl hH) hl i1.all⟩
        | om rows =>
          rw [e2] at h
          obtain ⟨a,ps,_,hu,hH,hl,i1⟩:=h
          exact ⟨rfl,_,hu,.lst (fun z=>z) (.inl hH) (by rw [Kw]; exact hl) (h8 i1)⟩
        | od kvs =>
          rw [e2] at h
          obtain ⟨a,_,hu,hH,hl⟩:=h
          exact ⟨rfl,_,hu,.dct (fun z=>z) (.inl hH) hl⟩
        | pm a ps rows =>
          rw [e2] at h
          obtain ⟨_,hu,hH,hl,i1⟩:=h
          exact ⟨rfl,_,hu,.lst (fun z=>z) (.inl hH) (by rw [Kw]; exact hl) (h8 i1)⟩
        | pd a kvs =>
          rw [e2] at h
          obtain ⟨_,hu,hH,hl⟩:=h
          exact ⟨rfl,_,hu,.dct (fun z=>z) (.inl hH) hl⟩
def ir (g:DG) (t:aF→Option Bool) (e:aF→Option (List D)) (ρ0:aF):List D→Option (List (List D))
  | []=>some []
  | d::ds=>match g d ρ0 with
    | none=>none
    | some ρ1=>match t ρ1 with
      | none=>none
      | some false=>ir g t e ρ0 ds
      | some true=>match e ρ1 with
        | none=>none
        | some y=>match ir g t e ρ0 ds with
          | none=>none
          | some ys=>some (y::ys)
noncomputable def kc (k:Nat) (cs:List Nat) (it:aF→Option (List D)) (g:DG) (t:aF→Option Bool) (e:aF→Option (List D)):aF→Option (List (List D)):=fun ρ=>match it ρ with
 | some ds=>ir g t e (r0 k cs ρ) ds
 | none=>none
theorem yw {m:Bool} {k:Nat} {wi:TI} {g:TG} {tt:TT} {te:TE} {gd:DG} {td:aF→Option Bool} {ed:aF→Option (List D)} (hw:zq K m wi it) (hg:we K m g gd) (ht:jI K tt td) (he:ck K te ed) :
 E2 K (nr wi g tt te (s0 k cs)) (kc k cs it gd td ed):=fun {B Z os ρ σ H Q ds} f q kk=>by
 unfold kc at q
 split at q
 ·rename_i xs e0
  refine hw f e0 fun J H1 s1 W Dl hD=>?_
  have f1:=f.grow s1
  have sD:∀ {H2:Hp} {ys:List V},aL H1 H2→aL H1 (upd H2 Dl (.lst ys)):=fun {H2 ys} s a o e=>by
   rw [av (aV e hD)]; exact s _ _ e
  let ZZ:List KI→KI→Prop:=fun ps a=>(a=Dl∨a∈ps)∨bS Z os a
  refine ⟨fun i m ys H2=>m=xs.length-i∧i≤xs.length∧aL H1 H2∧H2 Dl=some (.lst ys)∧ys.length≤i∧∃ ps done rest,ys=ps.map V.ref∧(∀ a∈ps,H1 a=none)∧(Dl::ps).Nodup∧MZ (fun q ds=>∃ vs,H2 q=some (.lst vs)∧vs.length≤KH∧IsL K H2 (ZZ ps) vs ds) ps done∧ir gd td ed (r0 k cs ρ) (xs.drop i)=some rest∧done++rest=ds,
   ⟨_,rfl,LL _,sD (aL.refl _),aC,Lg _,[],[],ds,rfl,(fun a h=>by cases h),(by simp),.nil,q,rfl⟩,?_⟩
  rintro i mm ys H2 ⟨rfl,hi,s2,eD,hly,ps,done,rest,rfl,hps,hnd,il,q2,ed2⟩
  have zin2:∀ a,ZZ ps a→∃ o,H2 a=some o:=by
   rintro a ((rfl | z) | z)
   ·exact ⟨_,eD⟩
   ·obtain ⟨_,vs,h,_⟩:=Paired.any il z
    exact ⟨_,h⟩
   ·obtain ⟨u,e⟩:=f1.Bc a z
    exact ⟨u,s2 _ _ e⟩
  have kp12:Kp (bS Z os) H1 (ZZ ps) H2:=fun a u e z=>⟨s2 _ _ e,fun w=>by
   rcases w with (rfl | w) | w
   ·rw [hD] at e; cases e
   ·rw [hps a w] at e; cases e
   ·exact z w⟩
  by_cases hlt:i<xs.length
  ·have ex:xs[i]?=some xs[i]:=Kv hlt
   obtain ⟨go,yl⟩:=W.go i xs[i] H2 _ kp12 s2 zin2 ex
   refine .inr ⟨go,fun x H3 hy=>?_⟩
   obtain ⟨s3,er⟩:=yl x H3 hy
   have eD3:=s3 _ _ eD
   have s13:=s2.trans s3
   have kp13:Kp (bS Z os) H1 (ZZ ps) H3:=kp12.trans (Kp.same s3)
   have ef3:=vY f1 s13 (fun a z=>let ⟨o,e⟩:=zin2 a z; ⟨o,s3 _ _ e⟩) kp13 k cs
   rw [Lq hlt] at q2
   unfold ir at q2
   have er':ER K m H1 H3 (bS (ZZ ps) fun _=>[]) x xs[i]:=by
    cases m with
    | false=>exact er
    | true=>exact Is.kp (Kp.less fun a z=>z.elim id fun ⟨_,w⟩=>by cases w) er
   have il3:∀ {H':Hp},aL H2 H'→MZ (fun q ds=>∃ vs,H' q=some (.lst vs)∧vs.length≤KH∧IsL K H' (ZZ ps) vs ds) ps done:=fun {H'} s=>Paired.mono il fun q ds _ ⟨vs,h1,h2,h3⟩=>⟨vs,s _ _ h1,h2,h3.same s⟩
   split at q2
   ·cases q2
   ·rename_i ρ1 e1
    refine hg ef3 er' e1 fun os1 σ1 fr1 k1=>?_
    split at q2
    ·cases q2
    ·rename_i e2
     refine ht fr1 e2 fun H4 s4=>qW ⟨_,by omega,rfl,hlt,s13.trans s4,s4 _ _ eD3,by omega,ps,done,rest,rfl,hps,hnd,il3 (s3.trans s4),q2,ed2⟩
    ·rename_i e2
     refine ht fr1 e2 fun H4 s4=>t4 ?_
     split at q2
     ·cases q2
     ·rename_i y e3
      split at q2
      ·cases q2
      ·rename_i rs e4
       cases q2
       refine he (fr1.grow s4) e3 fun x2 vs2 H5 s5 hx2 hH5 hl5 i5=>?_
       have s35:=s4.trans s5
       have s25:=s3.trans s35
       have eD5:=s35 _ _ eD3
       have hl:=W.len
       have hx3:H3 x2=none:=aL.free s4 hx2
       have hxD:x2≠Dl:=fun z=>by rw [z,eD3] at hx3; cases hx3
       have hxps:x2∉ps:=fun z=>by
        obtain ⟨o,e⟩:=zin2 x2 (.inl (.inr z))
        rw [s3 _ _ e] at hx3; cases hx3
       have hxt:¬ bS Z os x2:=fun z=>by
        obtain ⟨o,e⟩:=zin2 x2 (.inr z)
        rw [s3 _ _ e] at hx3; cases hx3
       have sub:∀ a,ZZ (ps++[x2]) a→a=x2∨ZZ ps a:=by
        rintro a ((rfl | z) | z)
        ·exact .inr (.inl (.inl rfl))
        ·rcases KS.mp z with z | z
         ·exact .inr (.inl (.inr z))
         ·exact .inl (Kz.mp z)
        ·exact .inr (.inr z)
       have sup:∀ a,a=x2∨ZZ ps a→ZZ (ps++[x2]) a:=by
        rintro a (rfl | (rfl | z) | z)
        ·exact .inl (.inr (by simp))
        ·exact .inl (.inl rfl)
        ·exact .inl (.inr (K3 _ z))
        ·exact .inr z
       have kp5:∀ (zs:List V),Kp (ZZ ps) H2 (ZZ (ps++[x2])) (upd H5 Dl (.lst zs)):=fun zs a u e z=>⟨by rw [av (fun w=>z (.inl (.inl w)))]; exact s25 _ _ e,fun w=>by
        rcases sub a w with rfl | w
        ·rw [s3 _ _ e] at hx3; cases hx3
        ·exact z w⟩
       have kp6:∀ (zs:List V),Kp (ZZ (ps++[x2])) H5 (ZZ (ps++[x2])) (upd H5 Dl (.lst zs)):=fun zs a u e z=>⟨by rw [av (fun w=>z (.inl (.inl w)))]; exact e,z⟩
       refine ⟨eD5,by rw [Kw] at hly ⊢; omega,_,by omega,rfl,hlt,sD (s13.trans s35),aC,by rw [K0,Me]; omega,ps++[x2],done++[y],rs,by rw [Li]; rfl,fun a ha=>?_,?_,?_,e4,by rw [Lx]; exact ed2⟩
       ·rcases KS.mp ha with ha | ha
        ·exact hps a ha
        ·rw [Kz.mp ha]; exact aL.free s13 hx3
       ·rw [← NU,Oi]
        refine ⟨hnd,by simp,fun a h1 b h2=>?_⟩
        rw [Kz.mp h2]
        rintro rfl
        rcases KP.mp h1 with z | z
        ·exact hxD z
        ·exact hxps z
       ·refine Paired.append (Paired.mono il fun q ds hq ⟨vs,h1,h2,h3⟩=>⟨vs,?_,h2,h3.kp (kp5 _)⟩) (.cons ⟨vs2,?_,hl5,?_⟩ .nil)
        ·rw [av (fun z=>by rw [z] at hq; exact (La.mp hnd).1 hq)]; exact s25 _ _ h1
        ·rw [av hxD]; exact hH5
        ·exact (i5.kp (Kp.less fun a z=>by
          rcases sub a z with z | z
          ·exact .inl z
          ·exact .inr (.inl z)):IsL K H5 (ZZ (ps++[x2])) vs2 y).kp (kp6 _)
  ·have e:i=xs.length:=by omega
   subst e
   rw [Pe] at q2
   cases q2
   rw [Mb] at ed2
   subst ed2
   have hl:=W.len
   rw [Kw] at hly
   exact .inl ⟨W.stop _ H2 _ kp12 s2 rfl,eD,kk Dl ps H2 (s1.trans s2) (aL.free s1 hD) (fun a ha=>aL.free s1 (hps a ha)) hnd eD (by omega) il⟩
 ·cases q
@[irreducible] noncomputable def rJ (i:Nat) (b a:DE):DS:=fun ρ=>match ρ.getD i .un with
 | .om rows=>(match b ρ with
  | some (.int n)=>(match ixN rows.length n with
   | some r=>(match rows[r]? with
    | some ds=>(match a ρ with
     | some d=>if ds.length<KH then .nx (ρ.set i (.om (rows.set r (ds++[d])))) else .no
     | none=>.no)
    | none=>.no)
   | none=>.no)
  | _=>.no)
 | _=>.no
theorem yu {i:Nat} {tb:TE} {a b:DE} (hb:aO K tb b) (ha:af K ta a):dD fr K (uQ (Ij K "list" oC (nT (Fv K) (mf i) tb) (cf ta eC))) (rJ i b a):=fun {B Z os ρ σ H E} f p=>by
 unfold rJ at p
 split at p
 ·rename_i rows e
  split at p
  ·rename_i n e2
   split at p
   ·rename_i r e3
    split at p
    ·rename_i ds e4
     split at p
     ·rename_i d e5
      by_cases hz:ds.length<KH
      ·rw [if_pos hz] at p
       obtain ⟨x,ps,q,vs,eo,hu,hH,hat,hr,hq,hl,il⟩:=xl f e e3 e4
       refine ⟨_,join_some hu,hb f e2 fun w H2 s2 i2=>.inl ⟨x,ps.map V.ref,n,.ref q,rfl,i2.isInt,dA.of (s2 _ _ hH),hat,.inl ⟨rfl,_,dA.of (s2 _ _ hq)⟩,ha (f.grow s2) e5 fun v H3 s3 i3=>?_⟩⟩
       have s13:=s2.trans s3
       have f3:=f.grow s13
       have hlen:vs.length<KH:=by rw [il.length]; exact hz
       obtain ⟨os',f',k⟩:=f3.GZ (vs':=vs++[v]) (ds':=ds++[d]) e eo hu hr (by rw [K0,Me]; omega) ((il.same s13).append (.one i3))
       exact ⟨q,vs,v,rfl,rfl,s13 _ _ hq,hlen,p os' _ _ f' ((Kp.same s13).trans k)⟩
      ·rw [if_neg hz] at p; exact p.elim
     ·exact p.elim
    ·exact p.elim
   ·exact p.elim
  ·exact p.elim
 ·exact p.elim
section
variable {s u b:DS} {ρ:aF} {W:Wk} {i:Nat} {a e k c:DE} {d:D} {rows:List (List D)} {ds:List D}
theorem og {es:aF→Option (List (List D))} (h:es ρ=some rows) (hi:i < ρ.length) (k:W.nx (ρ.set i (.om rows))):Wp (kI i es) ρ W:=by unfold Wp kI; rw [h]; simp only [if_pos hi]; exact k
theorem yf {m:Int} {j:Nat} (h0:ρ.getD i .un=.om rows) (h1:a ρ=some d) (h2:e ρ=some (.int n)) (h3:ixN rows.length n=some r) (h4:rows[r]?=some ds) (h5:c ρ=some (.int m)) (h6:ixN ds.length m=some j) (k:W.nx (ρ.set i (.om (rows.set r (ds.set j d))))):Wp (rH i e c a) ρ W:=by
 unfold Wp rH; rw [h0]; simp only [h1,h2,h3,h4,h5,h6]; exact k
theorem DN {g:Int→Int→Int} {m x y:Int} {j:Nat} (h0:ρ.getD i .un=.om rows) (h2:e ρ=some (.int n)) (h3:ixN rows.length n=some r) (h4:rows[r]?=some ds) (h5:c ρ=some (.int m)) (h6:ixN ds.length m=some j) (h7:ds[j]?=some (.int x)) (h1:a ρ=some (.int y)) (k:W.nx (ρ.set i (.om (rows.set r (ds.set j (.int (g x y))))))):Wp (u9 g i e c a) ρ W:=by
 unfold Wp u9; rw [h0]; simp only [h1,h2,h3,h4,h5,h6,h7]; exact k
theorem yh (h0:ρ.getD i .un=.om rows) (h2:e ρ=some (.int n)) (h3:ixN rows.length n=some r) (h4:rows[r]?=some ds) (h1:a ρ=some d) (h5:ds.length<KH) (k:W.nx (ρ.set i (.om (rows.set r (ds++[d]))))):Wp (rJ i e a) ρ W:=by
 unfold Wp rJ; rw [h0]; simp only [h1,h2,h3,h4,if_pos h5]; exact k
theorem C0 {k:Nat} {g:DG} {t:aF→Option Bool} (emb:α→D) {xs:List α} (h:it ρ=some (xs.map emb)) (p:α→Bool) (f:α→List D)
 (hs:∀ x∈xs,∃ ρ1,g (emb x) (r0 k cs ρ)=some ρ1∧t ρ1=some (p x)∧(p x=true→el ρ1=some (f x))):kc k cs it g t el ρ=some ((xs.filter p).map f):=by
 unfold kc
 rw [h]
 show ir g t el (r0 k cs ρ) (xs.map emb)=_
 clear h
 induction xs with
 | nil=>rfl
 | cons x r ih =>
  obtain ⟨ρ1,e1,e2,e3⟩:=hs x Ky
  rw [Ld]
  unfold ir
  rw [e1]
  dsimp only
  rw [e2]
  have q:=ih fun y hy=>hs y (Kx _ hy)
  cases hp:p x with
  | false=>rw [NT (by rw [hp]; exact KU)]; exact q
  | true =>
   rw [Nl hp,Ld]
   dsimp only
   rw [e3 hp]
   dsimp only
   rw [q]
theorem r8 {k:Nat} {g:DG} (emb:α→D) {xs:List α} (h:it ρ=some (xs.map emb)) (f:α→List D)
 (hs:∀ x∈xs,∃ ρ1,g (emb x) (r0 k cs ρ)=some ρ1∧el ρ1=some (f x)):kc k cs it g bP el ρ=some (xs.map f):=by
 have:=C0 (k:=k) (cs:=cs) (g:=g) (t:=bP) (el:=el) emb h (fun _=>true) f fun x hx=>let ⟨ρ1,e1,e2⟩:=hs x hx; ⟨ρ1,e1,rfl,fun _=>e2⟩
 rw [this,PB.mpr fun _ _=>rfl]
end
theorem D9 {F:List D→Option D} {n:Nat} {ms:List Bool} {b:DS} (hF:F=z0 n ms b) {d:D} (h:Wp b (jL n ms ds) { nx:=fun _=>False,rt:=fun x=>x=d }):F ds=some d:=by
 rw [hF]
 unfold z0
 unfold Wp at h
 cases e:b (jL n ms ds) with
 | rt x=>rw [e] at h; show some x=some d; rw [show x=d from h]
 | nx ρ=>rw [e] at h; exact h.elim
 | bk ρ=>rw [e] at h; exact h.elim
 | ct ρ=>rw [e] at h; exact h.elim
 | no=>rw [e] at h; exact h.elim
end
end
section
open Classical
noncomputable section
variable [bD] {K:KC} {fr:Fm}
inductive Puts (K:KC):List (TE×TE)→List (DE×DE)→Prop
 | nil:Puts K [] []
 | cons {tc ta:TE} {c a:DE} {l:List (TE×TE)} {l':List (DE×DE)} (ha:af K ta a) (hc:aO K tc c) (r:Puts K l l'):Puts K ((tc,ta)::l) ((c,a)::l')
end
end
end VL
namespace L2
open PySem PySem.Spec PyProof.Rows
structure Ks (fr ch:List KI) (h h':ME):Prop where
 keep:∀ b o,b∉fr→b∉ch→h.get? b=some o→h'.get? b=some o
 slot:∀ b o,b∉ch→h.get? b=some o→∃ sl,h'.get? b=some { o with slots:=sl }
structure Out (X:Cx) (pins:List (KI×Nv)) (H:Hp) (b:KI):Prop where
 h:H b=none
 s0:X.s₀.heap.get? b=none
 loc:b≠X.env.locals
 cell:∀ x c,X.env.cells.lookup x=some c→c≠b
 pin:∀ p∈X.pn++pins,p.1≠b
section
variable {P:L0} {w:L9} {H:Hp} {h:ME} {a:KI} {o:HO}
theorem bQ.live (x:bQ P w H h a o):∃ u,h.get? a=some u:=by
 cases o with
 | lst xs=>obtain ⟨_,_,_,_,e⟩:=x; exact ⟨_,e⟩
 | tup xs=>obtain ⟨_,_,_,ob,e,_⟩:=x; exact ⟨_,e⟩
 | dK kvs=>obtain ⟨_,_,_,_,o,_,_,e,_⟩:=x; exact ⟨_,e⟩
 | dT kvs=>obtain ⟨_,_,_,_,o,_,_,e,_⟩:=x; exact ⟨_,e⟩
 | set S n=>obtain ⟨o,_,_,_,e,_⟩:=x; exact ⟨_,e⟩
 | ins C dx fs=>obtain ⟨_,_,_,e,_⟩:=x; exact ⟨_,e⟩
 | own y=>exact x
 | xd fs=>obtain ⟨_,⟨_,_,_,e,_⟩,_⟩:=x; exact ⟨_,e⟩
 | BQ lo hi=>obtain ⟨_,_,_,e⟩:=x; exact ⟨_,e⟩
 | jr ob u=>obtain ⟨e,_⟩:=x; exact ⟨_,e⟩
 | tbl ps=>obtain ⟨_,_,_,_,e,_⟩:=x; exact ⟨_,e⟩
 | met f y=>exact ⟨_,show h.get? a=some _ from x⟩
 | ext φ=>obtain ⟨_,e,_⟩:=x; exact e
end
structure Kj (X:Cx):Prop where
 Fp:X.stack=X.env::X.outer
 fr:X.env.frame=some X.env.locals
 ex:X.ex=[]
section
variable {X:Cx} {pins:List (KI×Nv)} {σ:St} {H:Hp} {s:KJ} {a:KI} {u:HO}
theorem Inv.Fc (I:Inv X pins σ H s) (o:Out X pins H a) (ob:bQ X.prog X.w (upd H a u) s.heap a u):Inv X pins σ (upd H a u) s:=by
 have ne:∀ b v,H b=some v→b≠a:=fun b v q z=>by rw [z,o.h] at q; cases q
 refine ⟨I.ok,I.os,I.bare,⟨I.base.keep,I.base.slot,fun b v q n hx=>?_,I.base.there,fun b xs q=>?_,fun b v xs q=>?_,fun b ps q=>?_⟩,I.loc,I.cell,?_,fun x c e=>?_,fun p hp=>?_,fun b v q=>?_,I.len⟩
 ·rw [av (fun z=>by rw [z,o.s0] at q; cases q)]; exact I.base.free b v q n hx
 ·have r:=I.base.sO b xs q; rw [av (ne b _ r)]; exact r
 ·have r:=I.base.q9 b v xs q; rw [av (ne b _ r)]; exact r
 ·obtain ⟨m,r⟩:=I.base.qQ b ps q; exact ⟨m,by rw [av (ne b _ r)]; exact r⟩
 ·rw [av (MY o.loc)]; exact I.free
 ·rw [av (o.cell x c e)]; exact I.g6 x c e
 ·obtain ⟨e,n,r⟩:=I.pin p hp
  exact ⟨e,by rw [av (o.pin p hp)]; exact n,r⟩
 ·by_cases hb:b=a
  ·subst hb; rw [aC] at q; cases q; exact ob
  ·rw [av hb] at q
   exact (I.cu b v q).qR (fun c y _ r=>r) (fun c r=>by rw [av (ne c _ r)]; exact r) (fun c xs r=>by rw [av (ne c _ r)]; exact r) fun c o u r=>by rw [av (ne c _ r)]; exact r
end
structure Km (K:KC) (C:KI):Prop where
 ga:M4 K (.ref C) "__getattribute__" = some (some (.builtin "BaseException.__getattribute__"))
 gk:M4 K (.ref C) "__getattr__" = some none
 hd:Sd K C=true
 ca:M4 K (.ref C) "__class__" = some (some (.builtin "object.__class__"))
 sp:OW K (.builtin "object.__class__") "__get__" = some (some (.builtin "getset_descriptor.__get__"))
 tk:QZ K (.builtin "object.__class__")=some true
 mro:Qh K C (.type "object")=some true
 Ko:Qh K C (.type "BaseException")=some true
inductive qN (X:Cx):List Mv→List TE→Prop
 | nil:qN X [] []
 | text {x:LV} {j p es ts} (hx:x.length≤1000) (h:qN X es ts):qN X (.Constant (.str x) j p::es) ts
 | val {e:Mv} {p es ts} {t:TE} (he:PE X e t) (h:qN X es ts):qN X (.FormattedValue e (-1) none p::es) (t::ts)
end L2
namespace VL
variable {a:aF→Option (List D)}
open PySem L2
section
open Classical
noncomputable section
variable [bD] {K:KC}
variable {E:XK} {C:KI}
inductive HD (K:KC):List TE→List DE→Prop
 | nil:HD K [] []
 | cons {t ts a as} (h:aO K t a) (r:HD K ts as):HD K (t::ts) (a::as)
theorem bG {H:Hp} {a:KI} {o:HO} (h:H a=none):aL H (upd H a o):=fun b u e=>by rw [av (aV e h)]; exact e
variable {iv ie:Nat}
end
end
section
open Classical
noncomputable section
variable [bD] {K:KC} {fr:Fm}
noncomputable def C7:aF→Option (List (List D)):=fun _=>some []
theorem BF:E2 K (Gd eC) C7:=fun {B Z os ρ σ H Q rows} f q k=>by
 cases q
 exact ⟨LL _,fun p hp=>k p [] _ (bG hp) hp (fun _ z=>nomatch z) (La.mpr ⟨(fun z=>by cases z),Mc⟩) aC (LL _) .nil⟩
@[irreducible] noncomputable def pC (i:Nat) (a:aF→Option (List D)):DS:=fun ρ=>match ρ.getD i .un with
 | .om rows=>(match a ρ with
  | some ds=>if rows.length<KH then .nx (ρ.set i (.om (rows++[ds]))) else .no
  | none=>.no)
 | _=>.no
theorem sX {i:Nat} {ta:TE} (ha:ck K ta a):dD fr K (uQ (Ij K "list" oC (mf i) (cf ta eC))) (pC i a):=fun {B Z os ρ σ H E} f p=>by
 unfold pC at p
 split at p
 case h_2=>exact p.elim
 case h_1 rows e =>
  split at p
  case h_2=>exact p.elim
  case h_1 ds e1 =>
   by_cases hz:rows.length<KH
   ·rw [if_pos hz] at p
    obtain ⟨o,ps,eo,hu,hH,hl,hln,pr⟩:=Cc f e
    refine ⟨_,join_some hu,.inl ⟨rfl,_,dA.of hH⟩,ha f e1 fun x vs H1 s1 hx hx1 hlv iv=>?_⟩
    have hi:=jq e (by intro z; cases z)
    have hn:=f.nd i
    rw [eo] at hn
    have hxo:x∉o::ps:=fun z=>by
     obtain ⟨xs,q⟩:=(f.sl i).ui (by rw [eo]; exact z)
     rw [hx] at q; cases q
    have hxo1:o≠x:=fun z=>hxo (by rw [z]; exact Ky)
    have hoi:o∈os i:=by rw [eo]; exact Ky
    have sub:∀ c,bS Z (iL os i (o::(ps++[x]))) c→c=x∨bS Z os c:=by
     rintro c (z | ⟨j,z⟩)
     ·exact .inr (.inl z)
     ·by_cases hj:j=i
      ·subst hj
       rw [br] at z
       rcases KP.mp z with z | z
       ·exact .inr (.inr ⟨j,by rw [z]; exact hoi⟩)
       ·rcases KS.mp z with z | z
        ·exact .inr (.inr ⟨j,by rw [eo]; exact Kx _ z⟩)
        ·exact .inl (Kz.mp z)
      ·rw [bZ hj] at z; exact .inr (.inr ⟨j,z⟩)
    have kp:Kp (bS Z os) H (bS Z (iL os i (o::(ps++[x])))) (upd H1 o (.lst ((ps++[x]).map V.ref))):=fun c u q z=>by
     refine ⟨by rw [av (fun w=>z (.inr ⟨i,by rw [w]; exact hoi⟩))]; exact s1 _ _ q,fun w=>?_⟩
     rcases sub c w with rfl | w
     ·rw [hx] at q; cases q
     ·exact z w
    have kpx:Kp (fun c=>c=x∨bS Z os c) H1 (bS Z (iL os i (o::(ps++[x])))) (upd H1 o (.lst ((ps++[x]).map V.ref))):=fun c u q z=>by
     refine ⟨by rw [av (fun w=>z (.inr (.inr ⟨i,by rw [w]; exact hoi⟩)))]; exact q,fun w=>z (sub c w)⟩
    have hpo:∀ q∈ps,o≠q:=fun q hq z=>(La.mp hn).1 (by rw [z]; exact hq)
    have st:=f.step (H':=upd H1 o (.lst ((ps++[x]).map V.ref))) (i:=i) hi (o:=o::(ps++[x])) (s:=.om (rows++[ds])) (v:=some (.ref o)) (fun c u q nn=>by rw [av (fun z=>nn (by rw [z]; exact hoi))]; exact s1 _ _ q) (fun c hc=>?_)
     (La.mpr ⟨fun z=>?_,?_⟩) (fun c hc=>?_)
     ⟨o,ps++[x],rfl,rfl,aC,by rw [K0,Me]; omega,Paired.append (Paired.mono pr fun q ds' hq ⟨us,h1,h2,h3⟩=>⟨us,by rw [av (MY (hpo q hq))]; exact s1 _ _ h1,h2,h3.kp kp⟩) (.cons ⟨vs,by rw [av (MY hxo1)]; exact hx1,hlv,iv.kp kpx⟩ .nil)⟩
    ·rw [gT hu] at st
     refine ⟨o,ps.map V.ref,.ref x,rfl,rfl,s1 _ _ hH,by rw [Kw,hln]; exact hz,?_⟩
     have em:ps.map V.ref++[V.ref x]=(ps++[x]).map V.ref:=by rw [Li]; rfl
     rw [em]
     exact p _ _ _ st.1 st.2
    ·by_cases hc':c=o
     ·rw [hc']; exact ⟨_,aC⟩
     ·obtain ⟨xs,q⟩:=(f.sl i).ui hc
      exact ⟨_,by rw [av hc']; exact s1 _ _ q⟩
    ·rcases KS.mp z with z | z
     ·exact (La.mp hn).1 z
     ·exact hxo1 (Kz.mp z)
    ·exact Oi.mpr ⟨(La.mp hn).2,La.mpr ⟨(fun z=>by cases z),Mc⟩,fun a ha b hb z=>by
      rw [Kz.mp hb] at z
      exact hxo (Kx _ (by rw [← z]; exact ha))⟩
    ·rcases KP.mp hc with z | z
     ·exact .inl (by rw [z]; exact hoi)
     ·rcases KS.mp z with z | z
      ·exact .inl (by rw [eo]; exact Kx _ z)
      ·exact .inr (by rw [Kz.mp z]; exact hx)
   ·rw [if_neg hz] at p; exact p.elim
theorem oh {i:Nat} {ρ:aF} {rows:List (List D)} {ds:List D} {W:Wk} (h0:ρ.getD i .un=.om rows) (h:a ρ=some ds) (hl:rows.length<KH) (k:W.nx (ρ.set i (.om (rows++[ds])))):Wp (pC i a) ρ W:=by
 unfold Wp pC; rw [h0]; simp only [h,if_pos hl]; exact k
end
end
end VL
namespace rh
open PySem PySem.W PyProof.Rows
section
variable {lt:Nat→Nat→Bool} {N:Nat}
structure Ord (lt:Nat→Nat→Bool):Prop where
 tr:∀ a b c,lt b a=false→lt c b=false→lt c a=false
 as:∀ a b,lt a b=true→lt b a=false
abbrev g (p:Array Nat) (i:Nat):Nat:=p.getD i 0
def Up (lt:Nat→Nat→Bool) (p:Array Nat) (k:Nat):Prop:=∀ i j,i≤j→j<k→lt (g p j) (g p i)=false
def Dn (lt:Nat→Nat→Bool) (p:Array Nat) (k:Nat):Prop:=∀ i j,i≤j→j<k→lt (g p i) (g p j)=false
end
end rh
namespace L2
open PySem PySem.Spec PyProof.Rows
def lexLt:List Int→List Int→Bool
 | [],[]=>false
 | [],_::_=>true
 | _::_,[]=>false
 | x::xs,y::ys=>if x=y then lexLt xs ys else decide (x<y)
theorem tZ:∀ a b:List Int,lexLt a b=true→lexLt b a=false
 | [],[],h=>by cases h
 | [],_::_,_=>rfl
 | _::_,[],h=>by cases h
 | x::xs,y::ys,h=>by
  unfold lexLt at h ⊢
  by_cases c:x=y
  ·subst c; rw [if_pos rfl] at h ⊢; exact tZ xs ys h
  ·rw [if_neg c] at h
   rw [if_neg (MY c)]
   have:=of_decide_eq_true h
   exact decide_eq_false (by omega)
theorem tX:∀ a b c:List Int,lexLt b a=false→lexLt c b=false→lexLt c a=false
 | [],[],[],_,_=>rfl
 | [],[],_::_,_,_=>rfl
 | [],_::_,[],_,h=>by cases h
 | [],_::_,_::_,_,_=>rfl
 | _::_,[],_,h,_=>by cases h
 | _::_,_::_,[],_,h=>by cases h
 | x::xs,y::ys,z::zs,h1,h2=>by
  unfold lexLt at h1 h2 ⊢
  by_cases c1:y=x
  ·subst c1
   rw [if_pos rfl] at h1
   by_cases c2:z=y
   ·subst c2; rw [if_pos rfl] at h2 ⊢; exact tX xs ys zs h1 h2
   ·rw [if_neg c2] at h2 ⊢; exact h2
  ·rw [if_neg c1] at h1
   have k1:=of_decide_eq_false h1
   by_cases c2:z=y
   ·subst c2
    rw [if_neg c1]
    exact h1
   ·rw [if_neg c2] at h2
    have k2:=of_decide_eq_false h2
    rw [if_neg (by omega)]
    exact decide_eq_false (by omega)
theorem tY (f:Nat→List Int):rh.Ord fun i j=>lexLt (f i) (f j):=⟨fun a b c h1 h2=>tX _ _ _ h1 h2,fun a b h=>tZ _ _ h⟩
theorem xH:∀ a b:List Int,lexLt a b=false→lexLt b a=false→a=b
 | [],[],_,_=>rfl
 | [],_::_,h,_=>by cases h
 | _::_,[],_,h=>by cases h
 | x::xs,y::ys,h1,h2=>by
  unfold lexLt at h1 h2
  by_cases c:x=y
  ·subst c; rw [if_pos rfl] at h1 h2; rw [xH xs ys h1 h2]
  ·rw [if_neg c] at h1
   rw [if_neg (MY c)] at h2
   have:=of_decide_eq_false h1
   have:=of_decide_eq_false h2
   omega
def HC (H:Hp) (ps:List KI) (zs:List (List Int)):Prop:=MZ (fun p z=>z≠[]∧H p=some (.tup (z.map V.int))) ps zs
theorem qb {prog:L0} {w:L9} {A:L4} {Q:Bool→KJ→Prop} {s:KJ}:∀ {x y:List Int} {us vs:List KD} (i:Nat),OA us x→OA vs y→Q (lexLt x y) s→PySem.W.KatLex prog w A true (decide (x.length<y.length)) Q (us.zip vs) i s
 | [],[],_,_,_,.nil,.nil,h=>Q5 h
 | [],_::_,_,_,_,.nil,.cons _ _ _,h=>Q5 h
 | _::_,[],_,_,_,.cons _ _ _,.nil,h=>Q5 h
 | x::xs,y::ys,_,_,i,.cons _ t r1,.cons _ u r2,h=>by
  refine PySem.W.kat_cons (wpAny_eqBool_int ?_)
  unfold lexLt at h
  have el:decide ((x::xs).length<(y::ys).length)=decide (xs.length<ys.length):=by rw [Lo,Lo]; congr 1; apply propext; omega
  by_cases c:x=y
  ·subst c
   rw [if_pos rfl] at h
   rw [beq_self_eq_true,el]
   exact PySem.W.kat_yes (qb (i+1) r1 r2 h)
  ·rw [if_neg c] at h
   have e:(x==y)=false:=by simp [c]
   rw [e]
   refine PySem.W.kat_no ?_
   cases i with
   | zero=>exact oneLt_int h
   | succ i=>exact PySem.W.kat_one _ _ (RH h)
variable {X:Cx}
theorem rp {pins:List (KI×Nv)} {σ:St} {H:Hp} {s:KJ} (I:Inv X pins σ H s) {p:KI} {z:List Int} (h:H p=some (.tup (z.map V.int))):∃ (o:Nv) (us:List KD) (n:Nat),s.heap.get? p=some o∧o.cls=.type "tuple" ∧ o.data=.seq us.toArray n∧OA us z:=by
 obtain ⟨_,its,rv,o,h1,h2,n,h3⟩:=(show bQ X.prog X.w H s.heap p (.tup (z.map V.int)) from I.cu p _ h)
 exact ⟨o,its,n,h1,h2,h3,intsAre_of rv⟩
theorem tE {ps:List KI}:∀ {us:List KD},Vals (ps.map V.ref) us→us=ps.map LM:=by
 induction ps with
 | nil=>intro us r; cases r; rfl
 | cons p ps ih=>intro us r; cases r with | cons h r=>cases (show _=LM p from h); rw [ih r]; rfl
theorem rm:∀ ps:List KI,Vals (ps.map V.ref) (ps.map LM)
 | []=>.nil
 | _::ps=>.cons rfl (rm ps)
theorem p6 {h:ME}:∀ {ps:List KI},(∀ p∈ps,∃ (o:Nv) (us:List KD) (n:Nat) (x:Int) (t:Tw) (r:List KD),h.get? p=some o∧o.cls=.type "tuple" ∧ o.data=.seq us.toArray n∧us=.int x t::r)→∃ fs,PySem.W.KatTups h (ps.map LM) fs∧fs.length=ps.length∧∀ f∈fs,∃ (x:Int) (t:Tw),f=.int x t
 | [],_=>⟨[],.nil,rfl,fun _ z=>nomatch z⟩
 | p::ps,hp=>by
  obtain ⟨fs,k,hl,hf⟩:=p6 (ps:=ps) fun q hq=>hp q (Kx _ hq)
  obtain ⟨o,us,n,x,t,r,h1,h2,h3,rfl⟩:=hp p Ky
  refine ⟨.int x t::fs,.cons h1 h2 h3 (by simp) k,by simp [hl],fun f hm=>?_⟩
  rcases KP.mp hm with rfl | hm
  ·exact ⟨x,t,rfl⟩
  ·exact hf f hm
section
open PySem.W
variable {prog:L0} {w:L9} {A:L4} {E:KD→KJ→Prop} {s:KJ} {a:KI} {n:Nat} {vs:List KD}
theorem BE {P:Tq→KJ→Prop} (hn:vs.length<2) (ho:s.heap.get? a=some (Ll "list" vs.toArray n))
 (k:∀ h' c,(∀ b o,b≠a→s.heap.get? b=some o→h'.get? b=some o)→h'.get? a=some (Ll "list" vs.toArray c)→P (.done (.ret .none)) { s with heap:=h' }) :
 Lh (model prog w) A (NF.«list.sort» ⟨[.ref a],[]⟩) P E s:=by
 have z:KH=16777216:=Lv
 have lt:a<s.heap.objs.size:=K1 ho
 obtain ⟨e,o1⟩:∃ e,(s.heap.update a (Lu fun _=>(#[]:Array KD))).get? a=some (Ll "list" #[] e):=⟨_,M9 ho fun _=>#[]⟩
 rw [list_sort_plain]
 refine KG (O2 ho rfl (KG (Nh ho rfl (KG (OU o1 rfl (KG (P2 (KG (NM (Ma ?_) (LL _))) (by show vs.length≤_; omega))))) (by rw [KQ]; omega) (LL _))))
 dsimp only
 rw [if_pos (show vs.toArray.size<2 by rw [KQ]; omega),if_pos (show vs.toArray.size<2 by rw [KQ]; omega)]
 have o2:(((s.heap.update a (Lu fun x=>#[])).push { cls:=QA "tuple", data:=Sj vs.toArray }).push { cls:=QA "list", data:=Sj #[] }).get? a=some (Ll "list" #[] e):=KN _ (KN _ o1)
 refine KG (Lp (KG (m:=StateT.run (pure ()) _) (Lp (KG (OU o2 rfl ?_)))))
 have em:Tr (fun x=>x.snd) (LJ (R3 general' (vs.toArray.zip vs.toArray) #[] 7 none))=vs.toArray:=by
  show Tr (fun x=>x.snd) (vs.toArray.zip vs.toArray)=vs.toArray
  apply Qx.mp
  rw [Qy,Sy,Sz]
  exact Lg _
 refine KG (Nh o2 rfl ?_ (LL _) (by rw [em,KQ]; omega))
 show Lh _ _ (if (e != e)=true then _ else _) _ _ _
 rw [bne_self_eq_false,if_neg KU]
 rw [em]
 obtain ⟨c,o3⟩:∃ c,((((s.heap.update a (Lu fun x=>#[])).push { cls:=QA "tuple", data:=Sj vs.toArray }).push { cls:=QA "list", data:=Sj #[] }).update a (Lu fun _=>vs.toArray)).get? a=some (Ll "list" vs.toArray c):=⟨_,M9 o2 fun _=>vs.toArray⟩
 refine Lp (k _ c (fun b o hb q=>?_) o3)
 rw [L8 _ _ (MY hb)]
 exact KN _ (KN _ (by rw [L8 _ _ (MY hb)]; exact q))
theorem wY {l:KI} {Q:KD→KJ→Prop} (hl:s.heap.IsList l vs.toArray) (hn:vs.length<2)
 (k:∀ h' D c,s.heap.objs.size≤D→(∀ b o,s.heap.get? b=some o→h'.get? b=some o)→h'.get? D=some (Ll "list" vs.toArray c)→Q (.ref D) { s with heap:=h' }) :
 Lh (model prog w) A (call (.builtin "sorted") [.ref l]) Q E s:=by
 have z:KH=16777216:=Lv
 refine P5 Rr QL QM (args_sorted1 _) ?_
 unfold NF.«sorted»
 refine KG (m:=R6 "sorted" 1 1 _) (Lp (KG (QN hl (KG (NM ?_ (by omega))) (by omega))))
 generalize hg:(s.heap.push (Ll "list" #[] 0)).update s.heap.objs.size (Lu fun x=>x++vs.toArray)=g
 have gs:g.objs.size=s.heap.objs.size+1:=by rw [← hg,Nf,OR]
 have kg:∀ b o,s.heap.get? b=some o→g.get? b=some o:=fun b o q=>by
  have hb:b<s.heap.objs.size:=K1 q
  rw [← hg,L8 _ _ (Ng hb)]
  exact KN _ q
 have oD:(g.push (Ll "list" vs.toArray 0)).get? g.objs.size=some (Ll "list" vs.toArray 0):=LD g rfl
 dsimp only
 refine KG (Ma (wpAny_call_entry P4 ⟨_,oD,rfl⟩ Pu (BE (s:={ s with heap:=g.push (Ll "list" vs.toArray 0) }) hn oD fun h' c kp hD=>?_) (args_list_sort _)))
 refine ⟨_,rfl,Lp ⟨_,rfl,k h' g.objs.size c (by omega) (fun b o q=>kp b o (Lm (by rw [gs]; exact L6 (K1 q))) (KN _ (kg b o q))) hD⟩⟩
end
theorem vU {K:KC} (hK:X.K=K):cP X (.builtin "sorted") (fun xs H Q=>∃ a vs,xs=[.ref a]∧dA K H a vs∧vs.length<2∧∀ D,H D=none→Q (.ref D) (upd H D (.lst vs))):=by
 subst hK
 intro pins s σ H xs us Q I r h
 obtain ⟨a,vs,rfl,hq,hn,q⟩:=h
 cases r with
 | cons r1 r =>
  cases r
  cases (show _=LM a from r1)
  obtain ⟨its,rv,pl,hz⟩:=I.list hq
  refine wY pl.isList (by rw [← rv.length]; exact hn) fun h' D c hD kp oD=>?_
  exact ⟨.ref D,upd H D (.lst vs),I.laid (t':=s.toks) kp hD ⟨hz,its,c,rv,oD⟩,rfl,q D (I.cu.fresh hD)⟩
def gS (zs:List (List Int)):List (List Int):=zs.mergeSort fun a b=>!lexLt b a
theorem eF (zs:List (List Int)):(gS zs).Perm zs:=RI _ _
theorem ot (zs:List (List Int)):(gS zs).Pairwise fun a b=>lexLt b a=false:=by
 have h:=Qz (le:=fun a b=>!lexLt b a) (fun a b c h1 h2=>by
  rw [Sk] at h1 h2 ⊢
  exact tX _ _ _ h1 h2) (fun a b=>by
  cases e:lexLt b a with
  | false=>rfl
  | true=>simp [tZ _ _ e]) zs
 exact h.imp fun h=>by simpa using h
theorem rE {xs zs:List (List Int)} (p:xs.Perm zs) (h:xs.Pairwise fun a b=>lexLt b a=false):xs=gS zs :=
 Qo (fun a b _ _ h1 h2=>xH a b h2 h1) h (ot zs) (p.trans (eF zs).symm)
def Gv (K:KC):List V→Hp→VK→Prop:=fun xs H Q=>∃ a vs,xs=[.ref a]∧dA K H a vs∧vs.length<2∧∀ D,H D=none→Q (.ref D) (upd H D (.lst vs))
end L2
namespace VL
open PySem L2
section
open Classical
noncomputable section
variable [bD] {K:KC}
def zG (z:List Int):D:=.tup (z.map D.int)
theorem j4:∀ {a b:List Int},a.map D.int=b.map D.int→a=b
 | [],[],_=>rfl
 | [],_::_,h=>by cases h
 | _::_,[],h=>by cases h
 | x::a,y::b,h=>by
  injection h with h1 h2
  injection h1 with h1
  rw [h1,j4 h2]
theorem Bs (a b:List Int) (h:zG a=zG b):a=b:=by
 unfold zG at h
 injection h with h
 exact j4 h
theorem range_getD (zs:List (List Int)):(KW zs.length).map (fun i=>zs.getD i [])=zs:=by
 refine MN (by simp) fun i h1 h2=>?_
 simp [h2]
def t3 (z:Int×Int×Int):D:=.tup [.int z.1,.int z.2.1,.int z.2.2]
end
end
end VL
namespace L2
open PySem PySem.Spec PyProof.Rows
theorem zH {a b:Int} {t u:Tw} {c:KD} (l:List KD) (h:Qr l):Qr (l++[.int a t,.int b u,c]):=by
 fun_induction Qr l with
 | case1=>trivial
 | case2 x t y u z rest ih=>exact ih h
 | case3=>exact h.elim
variable {pos:Qq}
theorem x9 {a b:Int} {t u:Tw} {c v:KD} (l:List KD) (h:Qr l) (e:Qs pos (l++[.int a t,.int b u,c])=some v):Qs pos l=some v∨v=c:=by
 fun_induction Qr l with
 | case1 =>
  simp only [Nm,Qs] at e
  split at e
  ·cases e; exact .inr rfl
  ·cases e
 | case2 x t y u z rest ih =>
  simp only [NU,Qs] at e ⊢
  split at e
  ·rename_i q; rw [if_pos q]; exact .inl e
  ·rename_i q; rw [if_neg q]; exact ih h e
 | case3=>exact h.elim
def fk (mg:LV→Option KD) (base:ME):Prop:=∃ bm ob,mg "__builtins__" = some (.ref bm)∧bm≠PR∧base.get? bm=some ob∧ob.cls=.type "module" ∧ ob.dict=some PR∧ob.data=.plain
structure FU (X:Cx) (c P:KI):Prop where
 code:X.env.code=.ref c
 hd:Pf X.K c P=true
 bm:fk X.mg X.base
abbrev j6 (q:LV) (params:Pa) (body:Mv) (scope:NW) (cl:List (LV×KI)) (mg:LV→Option KD) (c:KI) (ct:KD):Nv:=PySem.W.kla_obj "<lambda>" q params body scope cl ((mg "__name__").getD .none) c ct
def lJ (mg:LV→Option KD) (H:Hp) (q:LV) (params:Pa) (body:Mv) (scope:NW) (cl:List (LV×KI)) (o:Nv):Prop :=
 ∃ c ct oc u vs t,o=j6 q params body scope cl mg c ct∧H c=some (.jr oc u)∧oc.data=.fields vs∧vs[1]?=some (.str q t)
variable {X:Cx} {pins:List (KI×Nv)} {σ:St} {H:Hp} {q:LV} {params:Pa} {body:Mv} {scope:NW} {cl:List (LV×KI)}
theorem Cu {s:KJ} {c P:KI} {ps:Array KD} {t:Tw} (lo:FU X c P) (I:Inv X pins σ H s)
 (hP:H P=some (.tbl ps)) (h0:ps[0]?=some (.str q t)) (hq:X.env.qual ++ "<lambda>" = q) (hcl:OQ scope X.env=pure cl) (hdef:defaultsOf params X.env=([],[])) :
 Lh (model X.prog X.w) X.A (eval (.Lambda params body scope pos) X.env) (fun v s'=>∃ f o H',v=.ref f∧Inv X (pins++[(f,o)]) σ H' s'∧(∀ b u,H b=some u→H' b=some u)∧(∀ p∈X.pn++pins,p.1≠f)∧X.s₀.heap.objs.size≤f∧lJ X.mg H' q params body scope cl o) X.xe s:=by
 refine PySem.W.kla_eval hdef ?_
 obtain ⟨q',t',qs,e0,e1,e2,e3⟩:=(show bQ X.prog X.w H s.heap P (.tbl ps) from I.cu P _ hP)
 rw [h0] at e0
 cases e0
 have hg:s.heap.Ns Lf X.mg:=I.mod.glob.keeps I.bk
 have hgP:Lf≠P:=fun z=>by
  obtain ⟨o,es,ep,e,_⟩:=I.mod.glob
  have:=(I.bs _ _ e).2
  rw [z,hP] at this; cases this
 obtain ⟨bm,ob,b1,b2,b3,b4,b5,b6⟩:=lo.bm
 have nG:bm≠Lf:=fun z=>by
  obtain ⟨o,es,ep,e,hd,_⟩:=I.mod.glob
  rw [z,e] at b3; cases b3; rw [hd] at b6; cases b6
 have nB:bm≠P:=fun z=>by
  have:=(I.bs _ _ b3).2
  rw [z,hP] at this; cases this
 have hb:s.heap.BuiltinsAt X.mg P:=⟨bm,ob,b1,b2,nG,nB,I.bk _ _ b3,b4,b5,b6⟩
 have C:=(RJ I.mod.Jd lo.hd).keeps I.bk
 have Ls:X.env.locals<s.heap.objs.size:=I.lt
 have fsl:∀ b∈X.fs,b<s.heap.objs.size:=fun b hb=>by
  obtain ⟨_,o,ho,_⟩:=I.ok.mN.mem hb
  exact Lc (K1 ho) I.sz
 rw [hq]
 cases hf:Qs pos qs.toList with
 | none =>
  refine PySem.W.kla_makeFunction (mg:=X.mg) hcl I.ok.glob hg lo.code C e1 e2 hf hgP hb fun c' ctv h' tk hx hge hlt hrec htb=>?_
  have hc:H c'=none:=I.cu.fresh hge
  have hcP:c'≠P:=fun z=>by rw [z,hP] at hc; cases hc
  have ge:s.heap.objs.size≤h'.objs.size:=LF hge (M0 hlt)
  have kp:∀ b u,b≠P→s.heap.get? b=some u→(h'.push (j6 q params body scope cl X.mg c' ctv)).get? b=some u:=fun b u hb e=>KN _ (hx b u hb e)
  have nP:∀ b,H b=none→b≠P:=fun b e z=>by rw [z,hP] at e; cases e
  obtain ⟨c2,oc,vs,t2,z1,z2,z3,z4⟩:=hrec
  cases z1
  have up:∀ b u,H b=some u→upd H c' (.jr oc (.own P)) b=some u:=fun b u e=>by rw [av (aV e hc)]; exact e
  have I1:Inv X pins σ (upd H c' (.jr oc (.own P))) { s with heap:=h'.push (j6 q params body scope cl X.mg c' ctv),gens:=s.gens,drawn:=s.drawn,toks:=tk }:=by
   refine I.step (ch:=[]) (fun _ z=>nomatch z) (fun b o _ _ _ e n=>kp b o (nP b n) e) (fun b o _ _ _ e n=>⟨o.slots,kp b o (nP b n) e⟩) (fun b o _ e n=>?_) (fun b o _ e=>?_) (fun b xs e=>up _ _ e) (fun b o u e=>up _ _ e) (fun b ps' e=>⟨#[],by rw [up _ _ e]; simp⟩) (fun m hm=>?_) (fun b u e=>?_) I.bare
   ·rw [av (Lm (Lc (K1 e) hge))]; exact n
   ·by_cases z:b=P
    ·subst z; exact ⟨_,KN _ htb⟩
    ·exact ⟨o,kp b o z e⟩
   ·exact (hm.extBut hx fun z=>by have:=I.free; rw [z,hP] at this; cases this).push _
   ·by_cases z:b=c'
    ·subst z
     rw [aC] at e
     cases e
     exact ⟨KN _ z2,oc,KN _ z2⟩
    ·rw [av z] at e
     by_cases z2:b=P
     ·subst z2
      rw [hP] at e
      cases e
      refine ⟨q,t,qs++#[Su pos.line,Su pos.col,.ref c'],h0,KN _ htb,?_,fun pos' v ev=>?_⟩
      ·rw [LZ]; exact zH _ e2
      ·rw [LZ] at ev
       rcases x9 _ e2 ev with ev | rfl
       ·obtain ⟨c3,o,u,vs,t2,y1,y2,y3⟩:=e3 pos' v ev
        exact ⟨c3,o,u,vs,t2,y1,up _ _ y2,y3⟩
       ·exact ⟨c',oc,_,vs,t2,rfl,aC,z3,z4⟩
     ·refine (I.cu b u e).qR (fun x v hxv ex=>kp x v ?_ ex) (fun x ex=>up _ _ ex) (fun x xs ex=>up _ _ ex) fun x o u ex=>up _ _ ex
      rcases hxv with rfl | hxv
      ·exact z2
      ·exact fun w=>by rw [w,hP] at hxv; cases hxv
  have fz:∀ b o,s.heap.get? b=some o→b≠h'.objs.size:=fun b o e=>Lm (Lc (K1 e) ge)
  refine ⟨h'.objs.size,j6 q params body scope cl X.mg c' ctv,upd H c' (.jr oc (.own P)),rfl,I1.ic fun p hp=>?_,up,fun p hp z=>?_,LF I.sz ge,c',ctv,oc,.own P,vs,t2,rfl,aC,z3,z4⟩
  ·rcases KS.mp hp with hp | hp
   ·exact I1.pin p (KA _ hp)
   ·cases Kz.mp hp
    refine ⟨LD _ rfl,?_,Ng (Lc Ls ge),fun z=>absurd (Lc (fsl _ z) ge) (LP _),fun v z=>by cases z⟩
    show upd H c' (.jr oc (.own P)) h'.objs.size=none
    rw [av (Ng hlt)]
    exact I.cu.fresh ge
  ·exact fz _ _ (I.pin p hp).1 z
 | some cv =>
  obtain ⟨c',oc,u,vs,t2,rfl,hown,z3,z4⟩:=e3 pos cv hf
  refine PySem.W.kla_makeFunctionHit (mg:=X.mg) hcl I.ok.glob hg lo.code C e1 e2 hf hb fun ctv h' tk hk hsz=>?_
  have kp:∀ b u,s.heap.get? b=some u→(h'.push (j6 q params body scope cl X.mg c' ctv)).get? b=some u:=fun b u e=>KN _ (hk b u e)
  have I1:Inv X pins σ H { s with heap:=h'.push (j6 q params body scope cl X.mg c' ctv),toks:=tk }:=I.kept kp
  refine ⟨h'.objs.size,j6 q params body scope cl X.mg c' ctv,H,rfl,I1.ic fun p hp=>?_,fun _ _ e=>e,fun p hp z=>?_,LF I.sz hsz,c',ctv,oc,u,vs,t2,rfl,hown,z3,z4⟩
  ·rcases KS.mp hp with hp | hp
   ·exact I1.pin p (KA _ hp)
   ·cases Kz.mp hp
    exact ⟨LD _ rfl,I.cu.fresh hsz,Ng (Lc Ls hsz),fun z=>absurd (Lc (fsl _ z) hsz) (LP _),fun v z=>by cases z⟩
  ·exact absurd z (Lm (Lc (K1 (I.pin p hp).1) hsz))
structure iw (X:Cx) (x:LV) (zs:List LV) (is:List Nat) (scope:NW) (cl:List (LV×KI)):Prop where
 par:scope.names.lookup x=some .local
 sub:∀ y c,cl.lookup y=some c→X.env.cells.lookup y=some c
 JY:∀ (j:Nat) (z:LV),zs[j]?=some z→∃ i c,is[j]?=some i∧X.N[i]?=some z∧(X.env.scope.names.lookup z=some .cell∨X.env.scope.names.lookup z=some .free)∧cl.lookup z=some c∧scope.names.lookup z=some .free
 has:∀ y,(scope.names.lookup y=some .cell∨scope.names.lookup y=some .free)→∃ c,cl.lookup y=some c
 len:is.length=zs.length
 tQ:∀ y∈scope.names,y.2≠.cell
 kind:scope.kind=.function
 co:scope.isCoroutine=false
 gen:scope.isGenerator=false
inductive wk (X:Cx) (scope:NW) (cl:List (LV×KI)):List Nat→List LV→Prop
 | nil:wk X scope cl [] []
 | cons {i:Nat} {z:LV} {c:KI} {is:List Nat} {zs:List LV}:X.N[i]?=some z→(X.env.scope.names.lookup z=some .cell∨X.env.scope.names.lookup z=some .free)→cl.lookup z=some c→scope.names.lookup z=some .free→wk X scope cl is zs→wk X scope cl (i::is) (z::zs)
variable {zs:List LV}
theorem wk.get {is:List Nat} (h:wk X scope cl is zs):∀ (j:Nat) (z:LV),zs[j]?=some z→∃ i c,is[j]?=some i∧X.N[i]?=some z∧(X.env.scope.names.lookup z=some .cell∨X.env.scope.names.lookup z=some .free)∧cl.lookup z=some c∧scope.names.lookup z=some .free:=by
 induction h with
 | nil=>intro j z e; simp at e
 | cons h1 h2 h3 h4 _ ih =>
  intro j z e
  cases j with
  | zero=>cases e; exact ⟨_,_,rfl,h1,h2,h3,h4⟩
  | succ j=>exact ih j z (by simpa using e)
theorem wk.len {is:List Nat} (h:wk X scope cl is zs):is.length=zs.length:=by
 induction h with
 | nil=>rfl
 | cons _ _ _ _ _ ih=>simp [ih]
variable {x:LV}
theorem iw.many {is:List Nat} (hs:SubL X cl) (hc:wk X scope cl is zs) (ha:(scope.names.all fun y=>!(y.2==.cell || y.2==.free) || zs.contains y.1)=true) (par:scope.names.lookup x=some .local)
 (tQ:∀ y∈scope.names,y.2≠.cell) (kind:scope.kind=.function) (co:scope.isCoroutine=false) (gen:scope.isGenerator=false):iw X x zs is scope cl where
 par:=par
 sub:=hs.sub
 JY:=hc.get
 has:=fun y h=>by
  have key:∀ kd,scope.names.lookup y=some kd→(kd==RS || kd==Tj)=true→y∈zs:=fun kd e q=>by
   have m:=Ml.mp ha _ (MP e)
   rw [q] at m
   have:zs.contains y=true:=by simpa using m
   exact Q8.mp this
  have mem:y∈zs:=by
   rcases h with h | h
   ·exact key _ h rfl
   ·exact key _ h rfl
  obtain ⟨j,hj⟩:=Mp mem
  obtain ⟨i,c,_,_,_,f4,_⟩:=hc.get j y hj
  exact ⟨c,f4⟩
 len:=hc.len
 tQ:=tQ
 kind:=kind
 co:=co
 gen:=gen
abbrev xI (q:LV) (scope:NW) (L:KI) (f c:KI) (cl:List (LV×KI)):SU:=newEnv scope L Lf cl (q ++ ".<locals>.") (some f) (.ref c) none PR
def kW (X:Cx) (N':List LV) (q:LV) (scope:NW) (cl:List (LV×KI)) (f c:KI) (A:L4) (s:KJ) (H:Hp) (pins:List (KI×Nv)):Cx :=
 { X with A:=A.deeper (xI q scope s.heap.objs.size f c cl),N:=N',s₀:=s,H₀:=H,env:=xI q scope s.heap.objs.size f c cl,outer:=X.stack,stack:=xI q scope s.heap.objs.size f c cl::X.stack,ex:=[],fn:=fun _=>false,calm:=true,pn:=X.pn++pins,xe:=fun _ _=>False }
theorem Cv {s:KJ} {f:KI} {o:Nv} {A:L4} {is:List Nat} {te:TE} {v:V} {u:KD} {Q:VK}
 (I:Inv X pins σ H s) (L:lJ X.mg H q params body scope cl o) (hf:(f,o)∈X.pn++pins) (fr:iw X x zs is scope cl) (hA:A.frames=some X.stack) (hh:A.handled=none) (hroom:A.depth<NQ)
 (hb:∀ (c:KI) (ct u:KD),PV (Ox "<lambda>" q params body scope cl ((X.mg "__name__").getD .none) (.ref c) ct) ⟨[u],[]⟩=pure [(x,u)])
 (he:∀ f c s H pins,PE (kW X (x::zs) q scope cl f c A s H pins) body te) (rv:RelV v u) (h:te (some v::is.map fun i=>(σ[i]?).join) H Q) :
 Lh (model X.prog X.w) A (call (.ref f) [u]) (fun r s'=>(∃ y H',Inv X pins σ H' s'∧RelV y r∧Q y H')∧∀ m,s.heap.Ns X.env.locals m→s'.heap.Ns X.env.locals m) (fun _ _=>False) s:=by
 obtain ⟨c,ct,oc,w',vs,t,rfl,hc,hd,h1⟩:=L
 have ho:=(I.pin _ hf).1
 have hcd:s.heap.CodeRec (.ref c) q:=⟨c,oc,vs,t,rfl,(show bQ X.prog X.w H s.heap c (.jr oc w') from I.cu c _ hc).1,hd,h1⟩
 refine SX (QE (PySem.W.kla_callFunE (R:=fun r s'=>∃ u,r=.ok (.ret u)∧(∃ y H',Inv X pins σ H' s'∧RelV y u∧Q y H')∧∀ m,s.heap.Ns X.env.locals m→s'.heap.Ns X.env.locals m) hroom ho rfl fr.co fr.gen rfl hcd ?_) fun r s' hq=>?_)
 ·rw [hb]
  refine Lp (wpAny_newFunctionEnv fr.tQ (fun y hy=>?_) (fun h₁ hns hsb=>⟨?_,PySem.W.kla_codeExpr ?_⟩) fr.kind)
  ·cases Kz.mp hy
   exact fr.par
  ·have old:∀ b o,s.heap.get? b=some o→h₁.get? b=some o:=fun b o e=>hsb.extBut b o (Lm (K1 e)) (KN _ e)
   exact I.nolimit.keeps old
  ·have old:∀ b o,s.heap.get? b=some o→h₁.get? b=some o:=fun b o e=>hsb.extBut b o (Lm (K1 e)) (KN _ e)
   have noA:∀ b:KI,b∉([]:List KI):=fun b=>by simp
   have start:Inv (kW X (x::zs) q scope cl f c A s H pins) [] (some v::is.map fun i=>(σ[i]?).join) H { s with heap:=h₁,toks:=s.toks+1 }:=by
    refine ⟨⟨I.ok.mod,fr.kind,rfl,rfl,Lg _,fun y z c h1 h2=>I.ok.inj y z c (fr.sub y c h1) (fr.sub z c h2),fun y hy=>fr.has y hy,fun y c h _=>(by cases h),fun _=>hh,Rg hA,.inr ⟨rfl,rfl⟩,fun b z=>absurd z (noA b),I.bs,LF I.ok.zm I.sz,fun b _ _=>noA b,fun b z=>absurd z (noA b),I.stack,I.sR⟩,
     rfl,I.bare,Un.kept old,⟨_,hns,fun j y v' e1 e2 _=>?_⟩,fun y c e=>?_,I.cu.fresh (Lg _),fun y c e=>I.g6 y c (fr.sub y c e),fun p hp=>?_,I.cu.kept old,?_⟩
    ·cases j with
     | zero =>
      cases e1
      cases e2
      exact ⟨u,rv,.inl ⟨fr.par,by simp⟩⟩
     | succ j =>
      have e1:zs[j]?=some y:=by simpa [kW] using e1
      have e2:(is.map fun i=>(σ[i]?).join)[j]?=some (some v'):=by simpa using e2
      obtain ⟨i,c2,f1,f2,f3,f4,f5⟩:=fr.JY j y e1
      rw [KO,f1] at e2
      have e3:(σ[i]?).join=some v':=Lz e2
      obtain ⟨m,hn,hl⟩:=I.loc
      obtain ⟨u2,r2,l⟩:=hl i y v' f2 (VL.join_some e3) (by rcases f3 with z | z; exact .inr (.inl z); exact .inr (.inr z))
      refine ⟨u2,r2,.inr ⟨.inr f5,c2,f4,?_⟩⟩
      rcases l with ⟨k,_⟩ | ⟨_,c',e',z⟩
      ·have k:X.env.scope.names.lookup y=some .local:=k
       rcases f3 with z | z <;> rw [z] at k <;> cases k
      ·rw [fr.sub y c2 f4] at e'
       cases e'
       obtain ⟨o,ho,hd⟩:=z
       exact ⟨o,old _ _ ho,hd⟩
    ·obtain ⟨v,o,ho,hd⟩:=I.cell y c (fr.sub y c e)
     exact ⟨v,o,old _ _ ho,hd⟩
    ·have hp':p∈X.pn++pins:=by simpa [kW] using hp
     obtain ⟨e,n,ne,nf,d⟩:=I.pin p hp'
     refine ⟨old _ _ e,n,Lm (K1 e),fun z=>?_,d⟩
     rcases KP.mp (I.o7 p.1 z) with q | q
     ·exact ne q
     ·exact nf q
    ·show _=(x::zs).length
     rw [Lo,Kw,Lo,fr.len]
   refine L7 (he f c s H pins [] _ _ H _ start h) (fun r s' hq=>?_) fun _ _ z=>z.elim
   obtain ⟨y,H',J,ry,qy⟩:=hq
   refine ⟨r,rfl,⟨y,H',I.FQ J.os J.base J.cu J.bare (fun b z=>absurd z (noA b)),ry,qy⟩,fun m hm=>?_⟩
   obtain ⟨o,es,ep,e1,e2⟩:=hm
   obtain ⟨sl,e3⟩:=J.base.any (b:=X.env.locals) e1 I.free (noA _)
   exact ⟨_,es,ep,e3,e2⟩
 ·obtain ⟨u,rfl,hq⟩:=hq
  exact hq
end L2
namespace Tm
open PySem PyProof.Rows
variable {vs:List KD} {n:Nat} {P:Fin→KJ→Prop} {f:KD}
theorem B2 {α:Type} (d:α) {l m:List α} (p:m.Perm l):∃ q:List Nat,q.Perm (KW l.length)∧m=q.map fun i=>l.getD i d:=by
 induction p with
 | nil=>exact ⟨[],.refl _,rfl⟩
 | @cons x m l _ ih =>
  obtain ⟨q,hq,e⟩:=ih
  refine ⟨0::q.map Nat.succ,?_,?_⟩
  ·rw [Lo,O3]
   exact .cons 0 (hq.map _)
  ·rw [Ld,K6,e]
   rfl
 | swap x y l =>
  refine ⟨1::0::(KW l.length).map fun i=>i+2,?_,?_⟩
  ·rw [Lo,Lo,O3,O3,Ld,K6]
   exact .swap 0 1 _
  ·have e:(KW l.length).map (fun i=>l.getD i d)=l:=by
    refine O1 fun i=>?_
    rw [KO]
    by_cases c:i<l.length
    ·rw [M8 c,QY,Ku,Kv c]
     rfl
    ·rw [Mf (by rw [K7]; omega),Mf (by omega)]
     rfl
   rw [Ld,Ld,K6]
   show y::x::l=y::x::(KW l.length).map fun i=>l.getD i d
   rw [e]
 | @trans m k l _ _ ih1 ih2 =>
  obtain ⟨q1,h1,e1⟩:=ih1
  obtain ⟨q2,h2,e2⟩:=ih2
  have hk:k.length=q2.length:=by rw [e2,Kw]
  refine ⟨q1.map fun i=>q2.getD i 0,?_,?_⟩
  ·refine (h1.map _).trans ?_
   have e:(KW k.length).map (fun i=>q2.getD i 0)=q2:=by
    refine O1 fun i=>?_
    rw [KO]
    by_cases c:i<q2.length
    ·rw [M8 (by omega),QY,Ku,Kv c]
     rfl
    ·rw [Mf (by rw [K7]; omega),Mf (by omega)]
     rfl
   rw [e]
   exact h2
  ·rw [e1,K6]
   refine LH fun i hi=>?_
   have hi:i<q2.length:=by
    have:=Lw.mp (h1.mem_iff.mp hi)
    omega
   show k.getD i d=l.getD (q2.getD i 0) d
   rw [e2,Ku,KO,Kv hi,Ku (l:=q2),Kv hi]
   rfl
section
variable {prog:L0} {w:L9} {A:L4} {E:KD→KJ→Prop} {s:KJ}
structure DB (prog:L0) (w:L9) (A:L4) (s:KJ) (κ:MU) (ks:List KD) (lt:Nat→Nat→Bool):Prop where
 o:rh.Ord lt
 v:∀ i j,i<ks.length→j<ks.length→ks.getD i .none=ks.getD j .none→∀ k,lt i k=lt j k∧lt k i=lt k j
 ask:∀ i j (C:Bool→KJ→Prop),i<ks.length→j<ks.length→C (lt i j) s→Lh (model prog w) A (keyLt' κ (ks.getD i .none) (ks.getD j .none)) C (fun _ _=>False) s
open Classical in
noncomputable def DD (ks:List KD) (x:Lb):Nat:=if h:∃ i,i<ks.length∧ks.getD i .none=x.1 then h.choose else 0
theorem tI {ks:List KD} {x:Lb} (h:∃ i,i<ks.length∧ks.getD i .none=x.1):DD ks x<ks.length∧ks.getD (DD ks x) .none=x.1:=by
 unfold DD
 rw [dif_pos h]
 exact h.choose_spec
theorem rK {κ:MU} {ks:List KD} {lt:Nat→Nat→Bool} (a:DB prog w A s κ ks lt) (hl:ks.length=vs.length) (h2:2≤vs.length) {Q:Unit×MW→KJ→Prop}
 (h:∀ (st':MW) (p:List Nat),p.Perm (KW vs.length)→(p.Pairwise fun i j=>lt j i=false)→(LJ st').map (·.2)=(p.map fun i=>vs.getD i .none).toArray→Pm st'=none→Q ((),st') s) :
 Lh (model prog w) A (sortRuns'.run (R3 κ (ks.toArray.zip vs.toArray) #[] 7 none)) Q E s:=by
 have ez:(ks.toArray.zip vs.toArray).toList=ks.zip vs:=by simp
 have esz:(ks.toArray.zip vs.toArray).size=vs.length:=by rw [← KR,ez,SN]; omega
 have zlen:(ks.zip vs).length=vs.length:=by rw [SN]; omega
 have zat:∀ i,i<vs.length→(ks.zip vs).getD i (.none,.none)=(ks.getD i .none,vs.getD i .none):=fun i hi=>by
  rw [Ku,Kv (by omega),Ku,Kv (show i<ks.length by omega),Ku,Kv hi]
  simp
 have cmp:fG (model prog w) A E s κ (fun x=>∃ i,i<ks.length∧ks.getD i .none=x.1) (fun x y=>lt (DD ks x) (DD ks y)):=fun {x y Q st} gx gy hk hq=>by
  obtain ⟨x1,x2⟩:=tI gx
  obtain ⟨y1,y2⟩:=tI gy
  rw [lt'_eq]
  refine KY (O0 ?_)
  rw [hk,← x2,← y2]
  refine KY (Qv (RT (L7 (a.ask _ _ (fun b s'=>s'=s∧b=lt (DD ks x) (DD ks y)) x1 y1 ⟨rfl,rfl⟩) (fun b s' z=>?_) fun _ _ z=>z.elim)))
  obtain ⟨rfl,rfl⟩:=z
  exact ⟨rfl,K4 hq⟩
 refine L7 (Bo (κ:=κ) (a₀:=ks.toArray.zip vs.toArray) (st:=R3 κ (ks.toArray.zip vs.toArray) #[] 7 none) (Q:=fun _ st'=>(LJ st').Perm (ks.toArray.zip vs.toArray)∧Pm st'=none∧Up (fun x y=>lt (DD ks x) (DD ks y)) (LJ st') 0 (ks.toArray.zip vs.toArray).size)
  cmp ⟨fun x y=>a.o.as _ _,fun x y z=>a.o.tr _ _ _⟩ (fun x hx=>?_) ⟨Array.Perm.refl _,rfl,rfl⟩ rfl (by omega) fun st' b1 b2 b3=>⟨b1,b2,b3⟩) ?_ fun _ _ e=>e
 ·rw [ez] at hx
  have:=(Oa (a:=x.1) (b:=x.2) hx).1
  obtain ⟨i,hi,e⟩:=PD this
  exact ⟨i,hi,by rw [Ku,Kv hi]; exact e⟩
 ·rintro ⟨⟨⟩,st'⟩ s' ⟨rfl,hp,hf,hu⟩
  have hp':=Nw.mp hp
  rw [ez] at hp'
  obtain ⟨p,pm,ep⟩:=B2 ((.none,.none):Lb) hp'
  rw [zlen] at pm
  have plt:∀ i∈p,i<vs.length:=fun i hi=>Lw.mp (pm.mem_iff.mp hi)
  have plen:p.length=vs.length:=by rw [pm.length_eq,K7]
  refine h st' p pm ?_ ?_ hf
  ·rw [OD]
   intro i j hi hj hij
   have u:=hu i j (LL _) (by omega) (by omega)
   unfold Le at u
   have gat:∀ i (hi:i<p.length),gk (LJ st') i=(ks.getD p[i] .none,vs.getD p[i] .none):=fun i hi=>by
    unfold gk
    rw [← Ms,ep,KO,Kv hi]
    exact zat _ (plt _ (Nd hi))
   rw [gat i hi,gat j hj] at u
   have bi:=plt _ (Nd hi)
   have bj:=plt _ (Nd hj)
   obtain ⟨c1,c2⟩:=tI (ks:=ks) (x:=(ks.getD p[i] .none,vs.getD p[i] .none)) ⟨p[i],by omega,rfl⟩
   obtain ⟨d1,d2⟩:=tI (ks:=ks) (x:=(ks.getD p[j] .none,vs.getD p[j] .none)) ⟨p[j],by omega,rfl⟩
   have e1:=(a.v _ _ d1 (by omega) d2 (DD ks (ks.getD p[i] .none,vs.getD p[i] .none))).1
   have e2:=(a.v _ _ c1 (by omega) c2 p[j]).2
   rw [← e2,← e1]
   exact u
  ·apply Qx.mp
   rw [Qy,ep,K6]
   refine LH fun i hi=>?_
   show ((ks.zip vs).getD i (.none,.none)).2=_
   rw [zat i (plt i hi)]
theorem tW {a:KI} {P:Fin→KJ→Prop} {lt:Nat→Nat→Bool} (ho:s.heap.get? a=some (Ll "list" vs.toArray n)) (h2:2≤vs.length) (hb:vs.length≤100000)
 (hk:∀ g:ME,(∀ b o,b≠a→s.heap.get? b=some o→g.get? b=some o)→∃ κ,(∀ Q':MU→KJ→Prop,Q' κ { s with heap:=g }→Lh (model prog w) A (Sm vs.toArray) Q' (fun _ _=>False) { s with heap:=g })∧DB prog w A { s with heap:=g } κ vs lt)
 (h:∀ p:List Nat,p.Perm (KW vs.length)→(p.Pairwise fun i j=>lt j i=false)→P (.done (.ret .none)) { s with heap:=sortedHeap s.heap a vs (p.map fun i=>vs.getD i .none).toArray }):Lh (model prog w) A (NF.«list.sort» ⟨[.ref a],[]⟩) P E s:=by
 have hline:KH=16777216:=Lv
 have lt0:a<s.heap.objs.size:=K1 ho
 have hsz:vs.toArray.size=vs.length:=by simp
 rw [list_sort_plain]
 refine KG (O2 ho rfl ?_)
 refine KG (Nh ho rfl ?_ (hsz:=by rw [hsz]; omega))
 obtain ⟨c,hc⟩:∃ c,(s.heap.update a (Lu fun _=>#[])).get? a=some (Ll "list" #[] c):=⟨_,M9 ho (fun _=>#[])⟩
 refine KG (OU hc rfl ?_)
 refine KG (P2 ?_)
 refine KG (NM ?_)
 refine Ma ?_
 have ne1:a≠((s.heap.update a (Lu fun _=>#[])).push (Ll "tuple" vs.toArray 0)).objs.size:=by rw [OR,Nf]; exact Lm (L6 lt0)
 have ne2:a≠(s.heap.update a (Lu fun _=>#[])).objs.size:=by rw [Nf]; exact Lm lt0
 have hc2:(((s.heap.update a (Lu fun _=>#[])).push (Ll "tuple" vs.toArray 0)).push (Ll "list" #[] 0)).get? a=some (Ll "list" #[] c):=by
  rw [O4 _ _ _ ne1,O4 _ _ _ ne2]
  exact hc
 obtain ⟨κ,kind,asks⟩:=hk (((s.heap.update a (Lu fun _=>#[])).push (Ll "tuple" vs.toArray 0)).push (Ll "list" #[] 0)) fun b o q e=>by
  refine KN _ (KN _ ?_)
  rw [OE _ _ _ _ q]
  exact e
 show Lh (model prog w) A _ P E { s with heap:=((s.heap.update a (Lu fun _=>#[])).push (Ll "tuple" vs.toArray 0)).push (Ll "list" #[] 0) }
 dsimp only
 rw [if_neg (by omega),if_neg (by omega)]
 refine KG (L7 (kind (fun k s'=>k=κ∧s'={ s with heap:=((s.heap.update a (Lu fun _=>#[])).push (Ll "tuple" vs.toArray 0)).push (Ll "list" #[] 0) }) ⟨rfl,rfl⟩) (fun k s' z=>?_) fun _ _ z=>z.elim)
 obtain ⟨rfl,rfl⟩:=z
 refine KG (rK asks rfl h2 fun st' p pm up eo hf=>?_)
 dsimp only
 refine KG (OU hc2 rfl ?_)
 rw [eo]
 refine KG (Nh hc2 rfl ?_ (hsz2:=by rw [KQ,Kw,pm.length_eq,K7]; omega))
 rw [hf]
 simp only [bne_self_eq_false,MI,if_false]
 exact Lp (h p pm up)
theorem zT {l:KI} {Q:KD→KJ→Prop} {lt:Nat→Nat→Bool} (hl:s.heap.IsList l vs.toArray) (h2:2≤vs.length) (hb:vs.length≤100000)
 (hk:∀ g:ME,(∀ b o,s.heap.get? b=some o→g.get? b=some o)→∃ κ,(∀ Q':MU→KJ→Prop,Q' κ { s with heap:=g }→Lh (model prog w) A.in1.in1 (Sm vs.toArray) Q' (fun _ _=>False) { s with heap:=g })∧DB prog w A.in1.in1 { s with heap:=g } κ vs lt)
 (h:∀ (p:List Nat) (g:ME) (D:KI) (c:Nat),p.Perm (KW vs.length)→(p.Pairwise fun i j=>lt j i=false)→s.heap.objs.size≤D→g.get? D=some (Ll "list" (p.map fun i=>vs.getD i .none).toArray c)→(∀ b o,s.heap.get? b=some o→g.get? b=some o)→Q (.ref D) { s with heap:=g }) :
 Lh (model prog w) A (call (.builtin "sorted") [.ref l]) Q E s:=by
 have hline:KH=16777216:=Lv
 refine P5 Rr QL QM (args_sorted1 _) ?_
 unfold NF.«sorted»
 refine KG (m:=R6 "sorted" 1 1 _) (Lp ?_)
 refine KG (QN hl ?_ (by omega))
 refine KG (NM ?_ (by omega))
 have hsz:((s.heap.push (Ll "list" #[] 0)).update s.heap.objs.size (Lu (·++vs.toArray))).objs.size=s.heap.objs.size+1:=(Nf ..).trans (OR ..)
 have kp:∀ b o,s.heap.get? b=some o→((s.heap.push (Ll "list" #[] 0)).update s.heap.objs.size (Lu (·++vs.toArray))).get? b=some o:=fun b o e=>by
  rw [OE _ _ _ _ (Lm (K1 e))]
  exact KN _ e
 generalize (s.heap.push (Ll "list" #[] 0)).update s.heap.objs.size (Lu (·++vs.toArray))=g0 at hsz kp
 have low:∀ {b o},s.heap.get? b=some o→b<g0.objs.size:=fun {b o} e=>by rw [hsz]; exact L6 (K1 e)
 have hD:(g0.push (Ll "list" vs.toArray 0)).get? g0.objs.size=some (Ll "list" vs.toArray 0):=LD _ rfl
 show Lh _ _ _ _ _ { s with heap:=g0.push (Ll "list" vs.toArray 0) }
 refine KG (Ma (wpAny_call_entry P4 ⟨_,hD,rfl⟩ Pu (tW (s:={ s with heap:=g0.push (Ll "list" vs.toArray 0) }) (lt:=lt) hD h2 hb (fun g k=>hk g fun b o e=>k b o ?_ (KN _ (kp b o e))) fun p pm up=>⟨_,rfl,?_⟩) (args_list_sort _)))
 ·exact Lm (low e)
 obtain ⟨c,hc⟩:=sortedHeap_at (out:=(p.map fun i=>vs.getD i .none).toArray) hD
 exact Lp ⟨_,rfl,h p _ g0.objs.size c pm up (by omega) hc fun b o e=>(sortedHeap_old (Lm (low e)) (by rw [OR]; exact L6 (low e))).trans (KN _ (kp b o e))⟩
end
section
open PySem.W
variable {prog:L0} {w:L9} {A:L4} {E:KD→KJ→Prop} {s:KJ} {h₀:ME} {L:KI} {m:LV→Option KD} {news:List (KI×Nv)} {ks vs:List KD} {kS a:KI}
theorem DV {st:MW} {e e1:Nat} {out:List KD} (eo:(LJ st).map (·.2)=out.toArray) (lo:out.length≤100000) (lk:ks.length≤100000) (hf:Pm st=none) (h:SA h₀ L m kS a ks e e1 out (fun s'=>P (.done (.ret .none)) s') s):Lh (model prog w) A (ksk_tail a false e1 (.ref kS) st) P E s:=by
 have hline:KH=16777216:=Lv
 obtain ⟨nw,g,F1,N1,U1,k1⟩:=h
 obtain ⟨p1,q1,rfl,eg,a1,b1⟩:=U1.split
 obtain ⟨x1,x2,x3⟩:=N1 (kS,Ll "list" ks.toArray e) (KA _ Ky)
 have sb:=Nq s.heap kS (Lu fun _=>(#[]:Array KD))
 obtain ⟨c,hc⟩:∃ c,(s.heap.update kS (Lu fun _=>(#[]:Array KD))).get? kS=some (Ll "list" #[] c):=⟨_,M9 x1 fun _=>#[]⟩
 obtain ⟨nw2,g2,F2,N2,U2,k2⟩:=k1 _ c (Ta F1 sb x2 x3) (by rw [eg]; exact Tb N1 a1 b1 sb hc)
 obtain ⟨p2,q2,rfl,eg2,a2,b2⟩:=U2.split
 obtain ⟨y1,y2,y3⟩:=N2 (a,Ll "list" #[] e1) (KA _ Ky)
 generalize hg:s.heap.update kS (Lu fun _=>(#[]:Array KD))=g3 at sb hc F2 N2 y1 k2
 have sb2:=Nq g3 a (Lu fun _=>out.toArray)
 obtain ⟨c2,hc2⟩:∃ c2,(g3.update a (Lu fun _=>out.toArray)).get? a=some (Ll "list" out.toArray c2):=⟨_,M9 y1 fun _=>out.toArray⟩
 unfold ksk_tail
 dsimp only
 rw [eo]
 refine KG (Nh x1 rfl ?_ (by rw [KQ]; omega) (LL _))
 rw [hg]
 refine KG (Qb ?_)
 refine KG (OU y1 rfl ?_)
 simp only [MI,if_false]
 refine KG (Nh y1 rfl ?_ (LL _) (by rw [KQ]; omega))
 rw [hf]
 simp only [bne_self_eq_false,MI,if_false]
 exact Lp (k2 _ c2 (Ta F2 sb2 y2 y3) (by rw [eg2]; exact Tb N2 a2 b2 sb2 hc2))
def zy (prog:L0) (w:L9) (A:L4) (h₀:ME) (L:KI) (m:LV→Option KD) (kS a:KI) (vs:List KD) (e1:Nat) (C:KJ→Prop) (ks:List KD) (e:Nat) (s:KJ):Prop :=
 ∃ (κ:MU) (lt:Nat→Nat→Bool),(∀ Q':MU→KJ→Prop,Q' κ s→Lh (model prog w) A (Sm ks.toArray) Q' (fun _ _=>False) s)∧DB prog w A s κ ks lt ∧
  ∀ p:List Nat,p.Perm (KW vs.length)→(p.Pairwise fun i j=>lt j i=false)→SA h₀ L m kS a ks e e1 (p.map fun i=>vs.getD i .none) C s
theorem Hr {e e1:Nat} (hl:ks.length=vs.length) (h2:2≤vs.length) (hb:vs.length≤100000) (h:zy prog w A h₀ L m kS a vs e1 (fun s'=>P (.done (.ret .none)) s') ks e s):Lh (model prog w) A (ksk_end a false vs.toArray e1 (.ref kS) ks.toArray) P E s:=by
 obtain ⟨κ,lt,kind,asks,fin⟩:=h
 have hsz:vs.toArray.size=vs.length:=by simp
 unfold ksk_end
 dsimp only
 simp only [MI,if_false]
 rw [if_neg (by omega),if_neg (by omega)]
 refine KG (L7 (kind (fun k s'=>k=κ∧s'=s) ⟨rfl,rfl⟩) (fun k s' z=>?_) fun _ _ z=>z.elim)
 obtain ⟨rfl,rfl⟩:=z
 refine KG (rK asks hl h2 fun st' p pm up eo hf=>?_)
 exact DV eo (by rw [Kw,pm.length_eq,K7]; exact hb) (by omega) hf (fin p pm up)
theorem za {f:KD} {Fn:List KD→Nat→KJ→Prop} {n:Nat} {body:KD→PUnit→Sem (ForInStep PUnit)}
 (hb:∀ x ks e (s:KJ) (C:KD→Nat→KJ→Prop),SF ks<n→Lh (model prog w) A (call f [x]) (KatBack h₀ L m kS ks e C) (fun _ _=>False) s →
  Lh (model prog w) A (body x ⟨⟩) (fun r s'=>r=.yield ⟨⟩∧∃ k c,s'.heap.get? kS=some (Ll "list" (ks++[k]).toArray c)∧C k c s') E s):∀ (r:List KD) {ks:List KD} {e:Nat} {s:KJ},ks.length+r.length=n →
  s.heap.get? kS=some (Ll "list" ks.toArray e)→QO prog w A h₀ L m kS f Fn r ks e s →
  Lh (model prog w) A (forIn r PUnit.unit body) (fun _ s'=>∃ ks e,s'.heap.get? kS=some (Ll "list" ks.toArray e)∧ks.length=n∧Fn ks e s') E s
 | [],ks,e,s,hl,o,h=>by
  rw [S9]
  exact Lp ⟨ks,e,o,by simpa using hl,h⟩
 | x::r,ks,e,s,hl,o,h=>by
  have hl':ks.length+(r.length+1)=n:=hl
  rw [List.forIn_cons]
  refine KG (L7 (hb x ks e s (fun k c s'=>QO prog w A h₀ L m kS f Fn r (ks++[k]) c s') (by omega) h) (fun q s' z=>?_) fun _ _ z=>z)
  obtain ⟨rfl,k,c,o',z⟩:=z
  exact za hb r (by rw [K0,Me]; omega) o' z
theorem Ea {e1:Nat} (o:s.heap.get? kS=some (Ll "list" #[] 0)) (h2:2≤vs.length) (hb:vs.length≤100000) (h:QO prog w A h₀ L m kS f (zy prog w A h₀ L m kS a vs e1 fun s'=>P (.done (.ret .none)) s') vs [] 0 s):Lh (model prog w) A (Tc a f false vs.toArray e1 (.ref kS)) P E s:=by
 have hline:KH=16777216:=Lv
 unfold Tc
 refine KG (N4 ?_)
 simp only [R7]
 refine KG (L7 (za (n:=vs.length) (fun x ks e s' C lk hx=>?_) vs (by simp) o h) (fun _ s' z=>?_) fun _ _ z=>z)
 ·refine KG (RT (L7 hx (fun k s1 z=>?_) fun _ _ z=>z.elim))
  obtain ⟨nw,g,F1,N1,U1,c⟩:=z
  obtain ⟨p1,q1,rfl,eg,a1,b1⟩:=U1.split
  obtain ⟨x1,x2,x3⟩:=N1 (kS,Ll "list" ks.toArray e) (KA _ Ky)
  have sb:=Nq s1.heap kS (Lu (·.push k))
  obtain ⟨c2,hc2⟩:∃ c2,(s1.heap.update kS (Lu (·.push k))).get? kS=some (Ll "list" (ks++[k]).toArray c2):=⟨_,by rw [show (ks++[k]).toArray=ks.toArray.push k by simp]; exact M9 x1 (·.push k)⟩
  try dsimp only
  refine KG (Nh x1 rfl ?_ (by rw [KQ]; omega) (by rw [MV,KQ]; omega))
  exact Lp ⟨rfl,k,c2,hc2,c _ c2 (Ta F1 sb x2 x3) (by rw [eg]; exact Tb N1 a1 b1 sb hc2)⟩
 ·obtain ⟨ks,e,o',hl,fin⟩:=z
  try dsimp only
  refine KG (O2 o' rfl ?_)
  exact Hr hl h2 hb fin
theorem Cw (F:Fr h₀ L s.heap m) (N:Ss h₀ L s.heap news) (ho:s.heap.get? a=some (Ll "list" vs.toArray n)) (haL:a≠L) (ha0:h₀.get? a=none) (hna:∀ p∈news,p.1≠a) (h2:2≤vs.length) (hb:vs.length≤100000)
 (h:∀ kS e1 h',Fr h₀ L h' m→Ss h₀ L h' ((kS,Ll "list" #[] 0)::(a,Ll "list" #[] e1)::news)→a<kS→QO prog w A h₀ L m kS f (zy prog w A h₀ L m kS a vs e1 fun s'=>P (.done (.ret .none)) s') vs [] 0 { s with heap:=h' }) :
 Lh (model prog w) A (Rt a f false) P E s:=by
 have hline:KH=16777216:=Lv
 have lt0:a<s.heap.objs.size:=K1 ho
 have sb:=Nq s.heap a (Lu fun _=>(#[]:Array KD))
 obtain ⟨c,hc⟩:∃ c,(s.heap.update a (Lu fun _=>(#[]:Array KD))).get? a=some (Ll "list" #[] c):=⟨_,M9 ho fun _=>#[]⟩
 have Fa:=Ta F sb haL ha0
 have Na:=kas_news N sb hna
 have hsz:(s.heap.update a (Lu fun _=>(#[]:Array KD))).objs.size=s.heap.objs.size:=Nf ..
 unfold Rt
 refine KG (O2 ho rfl ?_)
 refine KG (Nh ho rfl ?_ (by rw [KQ]; omega) (LL _))
 generalize s.heap.update a (Lu fun _=>(#[]:Array KD))=g0 at sb hc Fa Na hsz
 refine KG (OU hc rfl ?_)
 refine KG (P2 ?_ (by show vs.length≤_; omega))
 refine KG (NM ?_ (LL _))
 refine Ma ?_
 have Fb:=Fa.push (Ll "tuple" vs.toArray 0)
 have hb1:(g0.push (Ll "tuple" vs.toArray 0)).objs.size=s.heap.objs.size+1:=by rw [OR,hsz]
 have keep:∀ b o,g0.get? b=some o→((g0.push (Ll "tuple" vs.toArray 0)).push (Ll "list" #[] 0)).get? b=some o:=fun b o q=>KN _ (KN _ q)
 have lL:=Fb.ns.lt
 have atS:((g0.push (Ll "tuple" vs.toArray 0)).push (Ll "list" #[] 0)).get? (g0.push (Ll "tuple" vs.toArray 0)).objs.size=some (Ll "list" #[] 0):=LD _ rfl
 refine Ea (s:={ s with heap:=(g0.push (Ll "tuple" vs.toArray 0)).push (Ll "list" #[] 0) }) atS h2 hb (h _ c _ (Fb.push _) (fun q hq=>?_) (by rw [hb1]; exact L6 lt0))
 rcases KP.mp hq with rfl | hq
 ·exact ⟨atS,Ng lL,MX (LF F.above (M0 lL))⟩
 ·rcases KP.mp hq with rfl | hq
  ·exact ⟨keep _ _ hc,haL,ha0⟩
  ·exact ⟨keep _ _ (Na q hq).1,(Na q hq).2⟩
theorem wZ {l:KI} {kw:List (LV×KD)} {Q:KD→KJ→Prop} (F:Fr h₀ L s.heap m) (N:Ss h₀ L s.heap news) (hl:s.heap.IsList l vs.toArray) (h2:2≤vs.length) (hb:vs.length≤100000) (ha1:Pc "sorted" ⟨[.ref l],kw⟩) (ha2:∀ x,Pc "list.sort" ⟨[.ref x],kw⟩) (ht:∀ x,NF.«list.sort» ⟨[.ref x],kw⟩=Rt x f false)
 (h:∀ D kS e1 h',Fr h₀ L h' m→Ss h₀ L h' ((kS,Ll "list" #[] 0)::(D,Ll "list" #[] e1)::news)→D<kS→(∀ q∈news,q.1<D)→QO prog w A.in1.in1 h₀ L m kS f (zy prog w A.in1.in1 h₀ L m kS D vs e1 fun s4=>Q (.ref D) s4) vs [] 0 { s with heap:=h' }) :
 Lh (model prog w) A (call (.builtin "sorted") [.ref l] kw) Q E s:=by
 have hline:KH=16777216:=Lv
 refine QP Rr QL QM ha1 ?_
 unfold NF.«sorted»
 refine KG (m:=R6 "sorted" 1 1 _) (Lp ?_)
 refine KG (QN hl ?_ (by omega))
 refine KG (NM ?_ (by omega))
 have hsz:((s.heap.push (Ll "list" #[] 0)).update s.heap.objs.size (Lu (·++vs.toArray))).objs.size=s.heap.objs.size+1:=(Nf ..).trans (OR ..)
 have kp:∀ b o,s.heap.get? b=some o→((s.heap.push (Ll "list" #[] 0)).update s.heap.objs.size (Lu (·++vs.toArray))).get? b=some o:=fun b o e=>by
  rw [OE _ _ _ _ (Lm (K1 e))]
  exact KN _ e
 generalize (s.heap.push (Ll "list" #[] 0)).update s.heap.objs.size (Lu (·++vs.toArray))=g0 at hsz kp
 have low:∀ {b},b<s.heap.objs.size→b<g0.objs.size:=fun {b} e=>by rw [hsz]; exact L6 e
 have kp2:∀ b o,s.heap.get? b=some o→(g0.push (Ll "list" vs.toArray 0)).get? b=some o:=fun b o e=>KN _ (kp b o e)
 have hD:(g0.push (Ll "list" vs.toArray 0)).get? g0.objs.size=some (Ll "list" vs.toArray 0):=LD _ rfl
 have lL:L<s.heap.objs.size:=F.ns.lt
 show Lh _ _ _ _ _ { s with heap:=g0.push (Ll "list" vs.toArray 0) }
 refine KG (Ma (RK P4 ⟨_,hD,rfl⟩ Pu ?body (ha2 _)))
 have e0:=ht g0.objs.size
 show Lh (model prog w) A.in1.in1 (NF.«list.sort» ⟨[.ref g0.objs.size],kw⟩) _ _ _
 rw [e0]
 refine Cw (s:={ s with heap:=g0.push (Ll "list" vs.toArray 0) }) (F.kept kp2) (N.grown kp2) hD (Ng (low lL)) (MX (LF F.above (M0 (low lL)))) (fun q hq=>Lm (low (K1 (N q hq).1))) h2 hb fun kS e1 h' F' N' l0=>?_
 refine kat_keys_mono (h _ kS e1 h' F' N' l0 fun q hq=>low (K1 (N q hq).1)) fun ks e s' _ z=>?_
 obtain ⟨κ,lt,kind,asks,fin⟩:=z
 exact ⟨κ,lt,kind,asks,fun p pm up=>(fin p pm up).mono fun s4 hq=>⟨_,rfl,Lp ⟨_,rfl,hq⟩⟩⟩
end
end Tm
namespace L2
variable {o:Nv}
open PySem PySem.Spec PyProof.Rows
section
variable {X:Cx} {pins:List (KI×Nv)} {σ:St} {H:Hp} {s:KJ} {m:LV→Option KD} {h':ME} {kS:KI} {ok:Nv}
theorem Inv.JE (I:Inv X pins σ H s) (hm:s.heap.Ns X.env.locals m):Fr X.base X.env.locals s.heap m:=⟨hm,I.bk,LF I.ok.zm I.ok.above⟩
theorem AD (F':Fr X.base X.env.locals h' m) (N':Ss X.base X.env.locals h' ((kS,o)::rest X.base s.heap X.env.locals kS)) (I:Inv X pins σ H s):∀ b v,b≠X.env.locals→b≠kS→s.heap.get? b=some v→h'.get? b=some v:=fun b v hb hk q=>by
 cases e:X.base.get? b with
 | some y =>
  have e1:=I.bk b y e
  rw [q] at e1
  cases e1
  exact F'.keep b v e
 | none=>exact (N' (b,v) (Kx _ (LC.mpr ⟨cZ hb e q,by simpa using hk⟩))).1
theorem Inv.pF {t':Nat} (I:Inv X pins σ H s) (hm:s.heap.Ns X.env.locals m) (F':Fr X.base X.env.locals h' m) (N':Ss X.base X.env.locals h' ((kS,o)::rest X.base s.heap X.env.locals kS))
 (h0:H kS=none) (h1:X.s₀.heap.objs.size≤kS) (h2:kS≠X.env.locals) (h3:∀ x c,X.env.cells.lookup x=some c→c≠kS) (h4:∀ p∈X.pn++pins,p.1≠kS):Inv X pins σ H { s with heap:=h',toks:=t' }:=by
 have keep:=AD F' N' I
 refine I.step (g':=s.gens) (d':=s.drawn) (ch:=[kS]) (fun b hb=>?_) (fun b v q1 _ q2 q _=>keep b v q1 (fun z=>q2 (by rw [z]; exact Kz.mpr rfl)) q) (fun b v q1 _ q2 q _=>⟨v.slots,keep b v q1 (fun z=>q2 (by rw [z]; exact Kz.mpr rfl)) q⟩) (fun _ _ _ _ n=>n) (fun b v hb q=>?_) (fun _ _ q=>q) (fun _ _ _ q=>q) (fun b ps q=>⟨#[],by rw [q]; simp⟩) (fun m' hm'=>?_) (fun b w q=>?_) I.bare
 ·rw [Kz.mp hb]; exact ⟨.inr h1,h2,h3,h4⟩
 ·by_cases hL:b=X.env.locals
  ·subst hL
   obtain ⟨o2,_,_,e2,_⟩:=F'.ns
   exact ⟨o2,e2⟩
  ·exact ⟨v,keep b v hL (fun z=>hb (by rw [z]; exact Kz.mpr rfl)) q⟩
 ·have e1:=hm'.eq_nsMap
  have e2:=hm.eq_nsMap
  rw [e1,← e2]
  exact F'.ns
 ·have nL:∀ b w,H b=some w→b≠X.env.locals:=fun b w q z=>by rw [z,I.free] at q; cases q
  have nK:∀ b w,H b=some w→b≠kS:=fun b w q z=>by rw [z,h0] at q; cases q
  refine (I.cu b w q).qR (fun c y hc r=>keep c y ?_ ?_ r) (fun _ r=>r) fun _ _ r=>r
  ·rcases hc with rfl | hc
   ·exact nL _ _ q
   ·exact nL _ _ hc
  ·rcases hc with rfl | hc
   ·exact nK _ _ q
   ·exact nK _ _ hc
end
def DA (H H':Hp):Prop:=∀ b u,H b=some u→H' b=some u
variable {H:Hp}
theorem lJ.grow {mg:LV→Option KD} {H':Hp} {q:LV} {params:Pa} {body:Mv} {scope:NW} {cl:List (LV×KI)} (L:lJ mg H q params body scope cl o) (g:DA H H'):lJ mg H' q params body scope cl o:=by
 obtain ⟨c,ct,oc,u,vs,t,e1,e2,e3⟩:=L
 exact ⟨c,ct,oc,u,vs,t,e1,g _ _ e2,e3⟩
variable {vs:List V} {Q:VK} {kw:List (LV×KD)} {a:KI} {P:Tq→KJ→Prop} {f:KD}
def kX (te:TE) (fs:List (Option V)) (Fin:List V→Hp→Prop):List V→List V→Hp→Prop
 | [],ks,H=>Fin ks H
 | v::r,ks,H=>te (some v::fs) H fun k H'=>DA H H'∧kX te fs Fin r (ks++[k]) H'
section
variable {X:Cx} {pins:List (KI×Nv)} {σ:St} {m:LV→Option KD} {kS f:KI} {o:Nv} {q:LV} {params:Pa} {body:Mv} {scope:NW} {cl:List (LV×KI)} {A:L4} {x:LV} {zs:List LV} {is:List Nat} {te:TE} {Fin:List V→Hp→Prop}
theorem pY (fr:iw X x zs is scope cl) (hA:A.frames=some X.stack) (hh:A.handled=none) (hroom:A.depth<NQ)
 (hb:∀ (c:KI) (ct u:KD),PV (Ox "<lambda>" q params body scope cl ((X.mg "__name__").getD .none) (.ref c) ct) ⟨[u],[]⟩=pure [(x,u)])
 (he:∀ f c s H pins,PE (kW X (x::zs) q scope cl f c A s H pins) body te) (hf:(f,o)∈pins) (h1:X.s₀.heap.objs.size≤kS) (h4:∀ p∈X.pn++pins,p.1≠kS):∀ {r:List V} {rv:List KD} {ks:List V} {kvs:List KD} {e:Nat} {H:Hp} {s:KJ},
 Vals r rv→Vals ks kvs→Inv X (pins++[(kS,Ll "list" kvs.toArray e)]) σ H s→s.heap.Ns X.env.locals m→lJ X.mg H q params body scope cl o→kX te (is.map fun i=>(σ[i]?).join) Fin r ks H →
 PySem.W.KatKeys X.prog X.w A X.base X.env.locals m kS (.ref f) (fun kvs' e' s'=>∃ ks' H',Inv X (pins++[(kS,Ll "list" kvs'.toArray e')]) σ H' s'∧s'.heap.Ns X.env.locals m∧Vals ks' kvs'∧Fin ks' H') rv kvs e s
 | [],_,ks,kvs,e,H,s,.nil,rk,I,hm,L,h=>TH ⟨ks,H,I,hm,rk,h⟩
 | v::r,_,ks,kvs,e,H,s,.cons rv1 rv,rk,I,hm,L,h=>by
  refine TC (L7 (Cv I L (KA _ (K3 _ hf)) fr hA hh hroom hb he rv1 h) (fun k s' hq=>?_) fun _ _ z=>z)
  obtain ⟨⟨y,H',J,ry,g,hk⟩,hns⟩:=hq
  have hm':=hns m hm
  obtain ⟨p1,p2,p3,p4,p5⟩:=J.pin (kS,Ll "list" kvs.toArray e) (KA _ (KA _ (Kz.mpr rfl)))
  have hbase:X.base.get? kS=none:=by
   cases eb:X.base.get? kS with
   | none=>rfl
   | some y=>exact absurd (Lc (K1 eb) (LF J.ok.zm h1)) (LP _)
  refine Tx (J.JE hm') (kQ p3 hbase p1) (.head fun p hp=>by simpa using (LC.mp hp).2) fun h2 c F2 N2=>?_
  have J0:Inv X pins σ H' s':=J.dZ
  have cells:∀ x c,X.env.cells.lookup x=some c→c≠kS:=fun x c e z=>by
   obtain ⟨v,o,ho,hd⟩:=J.cell x c e
   rw [z,p1] at ho
   cases ho
   exact p5 v hd
  have J1:Inv X pins σ H' { s' with heap:=h2,toks:=s'.toks }:=J0.pF hm' F2 N2 p2 h1 p3 cells h4
  have J2:Inv X (pins++[(kS,Ll "list" (kvs++[k]).toArray c)]) σ H' { s' with heap:=h2,toks:=s'.toks }:=J1.ic fun p hp=>by
   rcases KS.mp hp with hp | hp
   ·exact J1.pin p (KA _ hp)
   ·cases Kz.mp hp
    exact ⟨(N2 _ Ky).1,p2,p3,p4,fun v z=>by cases z⟩
  exact pY fr hA hh hroom hb he hf h1 h4 rv (rk.append (.cons ry .nil)) J2 F2.ns (L.grow g) hk
structure Nil (X:Cx) (pins:List (KI×Nv)) (H:Hp) (b:KI):Prop where
 h:H b=none
 cell:∀ x c,X.env.cells.lookup x=some c→c≠b
 pin:∀ p∈X.pn++pins,p.1≠b
 fs:b∉X.fs
theorem Inv.nil {s:KJ} (I:Inv X pins σ H s) {b:KI} (e:s.heap.get? b=none):Nil X pins H b where
 h:=by
  cases q:H b with
  | none=>rfl
  | some o=>obtain ⟨u,hu⟩:=(I.cu b o q).live; rw [e] at hu; cases hu
 cell:=fun x c q z=>by
  obtain ⟨v,o,ho,_⟩:=I.cell x c q
  rw [z,e] at ho; cases ho
 pin:=fun p hp z=>by
  have:=(I.pin p hp).1
  rw [z,e] at this; cases this
 fs:=fun z=>by
  obtain ⟨_,o,ho,_⟩:=I.ok.mN.mem z
  obtain ⟨o',h'⟩:=I.base.there b o ho fun hx=>I.ok.CO b hx z
  rw [e] at h'; cases h'
theorem uL {xs:List V} {us:List KD} (h:Vals xs us):∀ {l:List Nat},(∀ i∈l,i<xs.length)→Vals (l.map fun i=>xs.getD i .non) (l.map fun i=>us.getD i MO)
 | [],_=>.nil
 | i::l,hl=>by
  have hi:=hl i Ky
  obtain ⟨w,ew,rw'⟩:=h.get (Kv hi)
  refine .cons ?_ (uL h fun j hj=>hl j (Kx _ hj))
  have ev:xs.getD i .non=xs[i]:=by rw [Ku,Kv hi]; rfl
  have eu:us.getD i MO=w:=by rw [Ku,ew]; rfl
  show RelV (xs.getD i .non) (us.getD i MO)
  rw [ev,eu]
  exact rw'
def IY (X:Cx) (b:Bool) (vs:List V) (Q:VK) (ks:List V) (H:Hp):Prop:=∃ lt:Nat→Nat→Bool,rh.Ord lt ∧
 (∀ (pins:List (KI×Nv)) (σ:St) (s:KJ) (kvs:List KD),Inv X pins σ H s→Vals ks kvs→2≤kvs.length→∃ κ,(∀ Q':MU→KJ→Prop,Q' κ s→Lh (model X.prog X.w) X.A.in1.in1 (Sm (N9 kvs)) Q' (fun _ _=>False) s) ∧
  ∀ i j (C:Bool→KJ→Prop),i<kvs.length→j<kvs.length→C (lt i j) s→SO X.prog X.w X.A.in1.in1 κ (O5 b kvs) i j C s) ∧
 ∀ p:List Nat,p.Perm (KW ks.length)→(p.Pairwise fun i j=>lt j i=false)→∀ D,H D=none→Q (.ref D) (upd H D (.lst (O5 b (p.map fun i=>(O5 b vs).getD i .non))))
def wo (vs:List V) (Q:VK) (ks:List V) (H:Hp):Prop:=∃ (ps:List KI) (kz:List (List Int)),ks=ps.map V.ref∧HC H ps kz ∧
 ∀ idx:List Nat,idx.Perm (KW kz.length)→(idx.Pairwise fun i j=>lexLt (kz.getD j []) (kz.getD i [])=false)→∀ D,H D=none→Q (.ref D) (upd H D (.lst (idx.map fun i=>vs.getD i .non)))
theorem vB {us:List KD} {y z:List Int} (a:OA us y) (b:OA us z):y=z:=by
 induction a generalizing z with
 | nil=>cases b; rfl
 | cons x t _ ih=>cases b with | cons x' t' r=>rw [ih r]
theorem Br {ps:List KI} {kz:List (List Int)} {s:KJ} {kvs:List KD} (tz:HC H ps kz) (J:Inv X pins σ H s) (rk:Vals (ps.map V.ref) kvs) (h2:2≤kvs.length):∃ κ,(∀ Q':MU→KJ→Prop,Q' κ s→Lh (model X.prog X.w) X.A.in1.in1 (Sm (N9 kvs)) Q' (fun _ _=>False) s)∧Tm.DB X.prog X.w X.A.in1.in1 s κ kvs fun i j=>lexLt (kz.getD i []) (kz.getD j []):=by
 have hlp:ps.length=kz.length:=MT tz
 have ek:=tE rk
 subst ek
 rw [Kw] at h2
 have it:∀ i,i<kz.length→∃ p z o us n,ps[i]?=some p∧kz[i]?=some z∧z≠[]∧s.heap.get? p=some o∧o.cls=.type "tuple" ∧ o.data=.seq us.toArray n∧OA us z:=fun i hi=>by
  obtain ⟨p,e1,g1,g2⟩:=VL.Paired.xO tz (Kv hi)
  obtain ⟨o,us,n,k1,k2,k3,k4⟩:=rp J g2
  exact ⟨p,_,o,us,n,e1,Kv hi,g1,k1,k2,k3,k4⟩
 obtain ⟨fs,kt,fl,ff⟩:=p6 (h:=s.heap) (ps:=ps) fun p hp=>by
  obtain ⟨i,hi,rfl⟩:=Oy.mp hp
  obtain ⟨p',z,o,us,n,e1,e2,g1,k1,k2,k3,k4⟩:=it i (by omega)
  rw [Kv hi] at e1
  cases e1
  cases k4 with
  | nil=>exact absurd rfl g1
  | cons x t r=>exact ⟨o,_,n,x,t,_,k1,k2,k3,rfl⟩
 have gat:∀ i p,ps[i]?=some p→(ps.map LM).getD i MO=.ref p:=fun i p e=>by rw [Ku,KO,e]; rfl
 refine ⟨_,fun Q' hq=>SD (T:=.type "int") kt (by omega) (fun v hv=>?_) (by decide) hq,tY fun i=>kz.getD i [],fun i j hi hj e=>?_,fun i j C hi hj hC=>?_⟩
 ·obtain ⟨x,t,rfl⟩:=ff v hv
  exact Q9 rfl
 ·rw [Kw] at hi hj
  obtain ⟨p,z,o,us,n,e1,e2,g1,k1,k2,k3,k4⟩:=it i (by omega)
  obtain ⟨p',z',o',us',n',e1',e2',g1',k1',k2',k3',k4'⟩:=it j (by omega)
  rw [gat i p e1,gat j p' e1'] at e
  cases e
  rw [k1] at k1'
  cases k1'
  rw [k3] at k3'
  have eu:us=us':=by
   injection k3' with q _
   exact SE q
  subst eu
  have ez:z=z':=vB k4 k4'
  have zi:kz.getD i []=z:=by rw [Ku,e2]; rfl
  have zj:kz.getD j []=z':=by rw [Ku,e2']; rfl
  intro k
  rw [zi,zj,ez]
  exact ⟨rfl,rfl⟩
 ·rw [Kw] at hi hj
  obtain ⟨p,z,o,us,n,e1,e2,g1,k1,k2,k3,k4⟩:=it i (by omega)
  obtain ⟨p',z',o',us',n',e1',e2',g1',k1',k2',k3',k4'⟩:=it j (by omega)
  have ei:(ps.map LM).getD i MO=.ref p:=by rw [Ku,KO,e1]; rfl
  have ej:(ps.map LM).getD j MO=.ref p':=by rw [Ku,KO,e1']; rfl
  have zi:kz.getD i []=z:=by rw [Ku,e2]; rfl
  have zj:kz.getD j []=z':=by rw [Ku,e2']; rfl
  show Lh _ _ (keyLt' _ ((ps.map LM).getD i MO) ((ps.map LM).getD j MO)) _ _ _
  rw [ei,ej]
  rw [zi,zj] at hC
  refine Td k1 k3 k1' k3' ?_
  have l1:=NV k4
  have l2:=NV k4'
  have lx:=qb (prog:=X.prog) (w:=X.w) (A:=X.A.in1.in1) (s:=s) 0 k4 k4' hC
  rw [← l1,← l2] at lx
  exact lx
theorem wo.g {ks:List V} (h:wo vs Q ks H):IY X false vs Q ks H:=by
 obtain ⟨ps,kz,rfl,tz,qf⟩:=h
 have hlp:ps.length=kz.length:=MT tz
 refine ⟨fun i j=>lexLt (kz.getD i []) (kz.getD j []),tY fun i=>kz.getD i [],fun pins σ s kvs J rk h2=>?_,fun p pm up D hD=>qf p (by rw [Kw,hlp] at pm; exact pm) up D hD⟩
 have ek:=tE rk
 subst ek
 rw [Kw] at h2
 have it:∀ i,i<kz.length→∃ p z o us n,ps[i]?=some p∧kz[i]?=some z∧z≠[]∧s.heap.get? p=some o∧o.cls=.type "tuple" ∧ o.data=.seq us.toArray n∧OA us z:=fun i hi=>by
  obtain ⟨p,e1,g1,g2⟩:=VL.Paired.xO tz (Kv hi)
  obtain ⟨o,us,n,k1,k2,k3,k4⟩:=rp J g2
  exact ⟨p,_,o,us,n,e1,Kv hi,g1,k1,k2,k3,k4⟩
 obtain ⟨fs,kt,fl,ff⟩:=p6 (h:=s.heap) (ps:=ps) fun p hp=>by
  obtain ⟨i,hi,rfl⟩:=Oy.mp hp
  obtain ⟨p',z,o,us,n,e1,e2,g1,k1,k2,k3,k4⟩:=it i (by omega)
  rw [Kv hi] at e1
  cases e1
  cases k4 with
  | nil=>exact absurd rfl g1
  | cons x t r=>exact ⟨o,_,n,x,t,_,k1,k2,k3,rfl⟩
 refine ⟨_,fun Q' hq=>SD (T:=.type "int") kt (by omega) (fun v hv=>?_) (by decide) hq,fun i j C hi hj hC=>?_⟩
 ·obtain ⟨x,t,rfl⟩:=ff v hv
  exact Q9 rfl
 ·rw [Kw] at hi hj
  obtain ⟨p,z,o,us,n,e1,e2,g1,k1,k2,k3,k4⟩:=it i (by omega)
  obtain ⟨p',z',o',us',n',e1',e2',g1',k1',k2',k3',k4'⟩:=it j (by omega)
  have ei:(ps.map LM).getD i MO=.ref p:=by rw [Ku,KO,e1]; rfl
  have ej:(ps.map LM).getD j MO=.ref p':=by rw [Ku,KO,e1']; rfl
  have zi:kz.getD i []=z:=by rw [Ku,e2]; rfl
  have zj:kz.getD j []=z':=by rw [Ku,e2']; rfl
  unfold SO
  show Lh _ _ (keyLt' _ ((ps.map LM).getD i MO) ((ps.map LM).getD j MO)) _ _ _
  rw [ei,ej]
  dsimp only at hC
  rw [zi,zj] at hC
  refine Td k1 k3 k1' k3' ?_
  have l1:=NV k4
  have l2:=NV k4'
  have lx:=qb (prog:=X.prog) (w:=X.w) (A:=X.A.in1.in1) (s:=s) 0 k4 k4' hC
  rw [← l1,← l2] at lx
  exact lx
theorem zV {s:KJ} (I:Inv X (pins++[(f,o)]) σ H s) (hff:∀ p∈X.pn++pins,p.1≠f) (hf0:X.s₀.heap.objs.size≤f) (L:lJ X.mg H q params body scope cl o)
 (fr:iw X x zs is scope cl) (hh:X.A.handled=none) (hroom:X.A.in1.in1.depth<NQ) (hA:X.A.in1.in1.frames=some X.stack) (hh2:X.A.in1.in1.handled=none)
 (hb:∀ (c:KI) (ct u:KD),PV (Ox "<lambda>" q params body scope cl ((X.mg "__name__").getD .none) (.ref c) ct) ⟨[u],[]⟩=pure [(x,u)])
 (he:∀ f c s H pins,PE (kW X (x::zs) q scope cl f c X.A.in1.in1 s H pins) body te)
 (hq:dA X.K H a vs) (h2:2≤vs.length) (h64:vs.length<800) (h:kX te (is.map fun i=>(σ[i]?).join) Fin vs [] H) (hg:∀ ks H,ks.length=vs.length→Fin ks H→wo vs Q ks H)
 (ha1:Pc "sorted" ⟨[.ref a],kw⟩) (ha2:∀ x,Pc "list.sort" ⟨[.ref x],kw⟩) (ht:∀ x,NF.«list.sort» ⟨[.ref x],kw⟩=O9 x (.ref f) false) :
 Lh (model X.prog X.w) X.A (call (.builtin "sorted") [.ref a] kw) (EP X pins σ Q) X.xe s:=by
 obtain ⟨its,rv,pl,_⟩:=I.list hq
 have hlv:its.length=vs.length:=rv.length.symm
 obtain ⟨m,F⟩:=I.fr
 have fin:(f,o)∈jv X.base s.heap X.env.locals:=by
  obtain ⟨p1,p2,p3,p4,p5⟩:=I.pin (f,o) (KA _ (KA _ (Kz.mpr rfl)))
  refine cZ p3 ?_ p1
  cases eb:X.base.get? f with
  | none=>rfl
  | some y=>exact absurd (Lc (K1 eb) (LF I.ok.zm hf0)) (LP _)
 refine Tm.wZ (vs:=its) (f:=.ref f) F (pP (h:=s.heap)) pl.isList (by omega) (by omega) ha1 ha2 ht fun D kS e1 h' F' N' hDk hlt=>?_
 have nK:=N' _ Ky
 have nD:=N' _ (Kx _ Ky)
 have fD:f<D:=hlt _ fin
 have gD:s.heap.get? D=none:=by
  cases e:s.heap.get? D with
  | none=>rfl
  | some o=>exact absurd (hlt (D,o) (cZ nD.2.1 nD.2.2 e)) (LP _)
 have gK:s.heap.get? kS=none:=by
  cases e:s.heap.get? kS with
  | none=>rfl
  | some o=>exact absurd (QK hDk (hlt (kS,o) (cZ nK.2.1 nK.2.2 e))) (LP _)
 have s0D:X.s₀.heap.objs.size≤D:=LF hf0 (M0 fD)
 have s0K:X.s₀.heap.objs.size≤kS:=LF s0D (M0 hDk)
 have zD:=I.nil gD
 have zK:=I.nil gK
 have N2:Ss X.base X.env.locals h' ((kS,Ll "list" #[] 0)::rest X.base s.heap X.env.locals kS):=fun p hp=>by
  rcases KP.mp hp with rfl | hp
  ·exact nK
  ·exact N' p (Kx _ (Kx _ (LC.mp hp).1))
 have I1:Inv X (pins++[(f,o)]) σ H { s with heap:=h',toks:=s.toks }:=I.pF F.ns F' N2 zK.h s0K nK.2.1 zK.cell zK.pin
 have I2:Inv X ((pins++[(f,o),(D,Ll "list" #[] e1)])++[(kS,Ll "list" ([]:List KD).toArray 0)]) σ H { s with heap:=h',toks:=s.toks }:=I1.ic fun p hp=>by
  rcases KS.mp hp with hp | hp
  ·rcases KS.mp hp with hp | hp
   ·exact I1.pin p (KA _ (K3 _ hp))
   ·rcases KP.mp hp with rfl | hp
    ·exact I1.pin _ (KA _ (KA _ (Kz.mpr rfl)))
    ·cases Kz.mp hp
     exact ⟨nD.1,zD.h,nD.2.1,zD.fs,fun v z=>by cases z⟩
  ·cases Kz.mp hp
   exact ⟨nK.1,zK.h,nK.2.1,zK.fs,fun v z=>by cases z⟩
 have h4:∀ p∈X.pn++(pins++[(f,o),(D,Ll "list" #[] e1)]),p.1≠kS:=fun p hp=>by
  rcases KS.mp hp with hp | hp
  ·exact zK.pin p (K3 _ hp)
  ·rcases KS.mp hp with hp | hp
   ·exact zK.pin p (KA _ (K3 _ hp))
   ·rcases KP.mp hp with rfl | hp
    ·exact zK.pin _ (KA _ (KA _ (Kz.mpr rfl)))
    ·cases Kz.mp hp
     exact Lm hDk
 refine Ra (pY fr hA hh2 hroom hb he (KA _ Ky) s0K h4 rv .nil I2 F'.ns L h) fun kvs e3 s3 hl3 hfin=>?_
 obtain ⟨ks,H3,J,hm3,rk,fin⟩:=hfin
 have hl3:kvs.length=vs.length:=by rw [hl3,Mm]; omega
 have hlz:=rk.length
 obtain ⟨ps,kz,rfl,tz,qf⟩:=hg _ _ (by omega) fin
 have hlp:ps.length=kz.length:=MT tz
 obtain ⟨κ,kind,asks⟩:=Br tz J rk (by omega)
 refine ⟨κ,_,kind,asks,fun p pm upw=>?_⟩
 have hlk:its.length=kvs.length:=by omega
 rw [hlk] at pm
 have hlen:p.length=kvs.length:=by rw [pm.length_eq,K7]
 have lt_:∀ i∈p,i<kvs.length:=fun i hi=>Lw.mp (pm.mem_iff.mp hi)
 obtain ⟨p1,p2,p3,p4,p5⟩:=J.pin (kS,Ll "list" kvs.toArray e3) (KA _ (KA _ (Kz.mpr rfl)))
 refine Ru (J.JE hm3) (kQ p3 nK.2.2 p1) (.head oB) fun h5 c5 F5 N5=>?_
 have cells:∀ x c,X.env.cells.lookup x=some c→c≠kS:=fun x c e z=>by
  obtain ⟨v,o,ho,hd⟩:=J.cell x c e
  rw [z,p1] at ho
  cases ho
  exact p5 v hd
 have J5:Inv X (pins++[(f,o),(D,Ll "list" #[] e1)]) σ H3 { s3 with heap:=h5,toks:=s3.toks }:=(Inv.dZ J).pF hm3 F5 N5 p2 s0K p3 cells h4
 obtain ⟨d1,d2,d3,d4,d5⟩:=J5.pin (D,Ll "list" #[] e1) (KA _ (KA _ (Kx _ (Kz.mpr rfl))))
 refine Rv F5 (kQ d3 nD.2.2 d1) (.head oB) fun h6 c6 F6 N6=>?_
 have J6:Inv X pins σ H3 { s3 with heap:=h5,toks:=s3.toks }:=J5.dZ
 have cellsD:∀ x c,X.env.cells.lookup x=some c→c≠D:=fun x c e z=>by
  obtain ⟨v,o,ho,hd⟩:=J5.cell x c e
  rw [z,d1] at ho
  cases ho
  exact d5 v hd
 have pinD:∀ p∈X.pn++pins,p.1≠D:=fun p hp=>by
  refine zD.pin p ?_
  rcases KS.mp hp with hp | hp
  ·exact K3 _ hp
  ·exact KA _ (K3 _ hp)
 have J7:Inv X pins σ H3 { s3 with heap:=h6,toks:=s3.toks }:=J6.pF F5.ns F6 N6 d2 s0D d3 cellsD pinD
 have out:Out X pins H3 D:=⟨d2,MX s0D,d3,cellsD,pinD⟩
 have rvs:=uL rv (l:=p) fun i hi=>by have:=lt_ i hi; omega
 refine ⟨.ref D,upd H3 D (.lst (p.map fun i=>vs.getD i .non)),J7.Fc out ?_,rfl,qf p ?_ upw D d2⟩
 ·refine ⟨by rw [Kw,hlen]; have:=Lv; omega,_,c6,rvs,?_⟩
  exact (N6 _ Ky).1
 ·rw [Kw] at hlz
  rw [← hlp,hlz]
  exact pm
end
section
open PySem.Calls
section
open PySem.W
variable {prog:L0} {w:L9} {A:L4} {E:KD→KJ→Prop} {s:KJ} {h₀:ME} {L kS a:KI} {m:LV→Option KD} {news:List (KI×Nv)} {vs:List KD}
theorem lg {α:Type} (b:Bool) {l:List α} (h:l.length<2):katRev b l=l:=by
 cases b with
 | false=>rfl
 | true =>
  match l,h with
  | [],_=>rfl
  | [_],_=>rfl
  | _::_::_,h=>exact absurd h (by simp only [Lo]; omega)
theorem EG {b:Bool} {e e1:Nat} {ks:List KD} (hl:ks.length=vs.length) (h2:vs.length<2)
 (h:SA h₀ L m kS a ks e e1 vs (fun s3=>P (.done (.ret .none)) s3) s):Lh (model prog w) A (ksk_end a b vs.toArray e1 (.ref kS) (N9 ks)) P E s:=by
 have step:∀ t:Sem Tq,Lh (model prog w) A t P E s→Lh (model prog w) A (if b=true then (do let _ ← rule "list.sort.reverse"; t) else t) P E s:=by
  intro t ht
  split
  ·exact KG (N4 ht)
  ·exact ht
 have hn2:vs.toArray.size<2:=by rw [KQ]; omega
 unfold ksk_end
 try dsimp only
 refine step _ ?_
 rw [if_pos hn2,if_pos hn2,kat_pairs b hl,lg b h2,lg b (show ks.length<2 by omega)]
 refine KG (Lp (KG (m:=StateT.run (pure ()) _) (Lp ?_)))
 have h':SA h₀ L m kS a ks e e1 (katRev b vs) (fun s3=>P (.done (.ret .none)) s3) s:=by rw [lg b h2]; exact h
 refine kat_tail (b:=b) (out:=vs) ?_ (by omega) (by omega) rfl h'
 show Tr (fun x=>x.snd) ((N9 ks).zip vs.toArray)=vs.toArray
 apply Qx.mp
 rw [Qy,Sy,Sz]
 exact PO hl.symm
theorem CN {b:Bool} {e1:Nat} (hk:s.heap.get? kS=some (Ll "list" #[] 0)) (h2:vs.length<2)
 (h:QO prog w A h₀ L m kS f (fun ks e s'=>SA h₀ L m kS a ks e e1 vs (fun s4=>P (.done (.ret .none)) s4) s') vs [] 0 s) :
 Lh (model prog w) A (Tc a f b vs.toArray e1 (.ref kS)) P E s:=by
 unfold Tc
 refine KG (N4 ?_)
 first
  | rw [R7]
  | (rw [← R8]; simp only [List.toList_toArray])
  | rw [← R8]
 refine KG (L7 (kat_fold (show vs.length<64 by omega) (fun x ks e s' C hz hx=>?_) vs [] 0 s (by simp) hk h) (fun _ s' hd=>?_) fun _ _ x=>x)
 ·refine KG (RT (L7 hx (fun k s'' hk=>?_) fun _ _ hF=>hF.elim))
  obtain ⟨news',g,F',N',U,c⟩:=hk
  obtain ⟨pre,post,e0,hg,x1,x2⟩:=U.split
  rw [e0] at N'
  have nk:=N' (kS,Ll "list" (N9 ks) e) (KA _ (.head _))
  have s1:=Nq s''.heap kS (Lu (·.push k))
  have ea:(N9 ks).push k=N9 (ks++[k]):=by simp
  obtain ⟨c2,hc2⟩:∃ c2,(s''.heap.update kS (Lu (·.push k))).get? kS=some (Ll "list" (N9 (ks++[k])) c2):=⟨_,by rw [← ea]; exact M9 nk.1 (·.push k)⟩
  try dsimp only
  refine KG (Nh nk.1 rfl ?_ (by rw [KQ,Lv]; omega) (LF (PO (MV ..)) (by rw [KQ,Lv]; omega)))
  exact Lp ⟨rfl,k,c2,hc2,c _ c2 (Ta F' s1 nk.2.1 nk.2.2) (by rw [hg]; exact Tb N' x1 x2 s1 hc2)⟩
 ·obtain ⟨ks,e,hk',hl,fin⟩:=hd
  try dsimp only
  refine KG (O2 hk' rfl ?_)
  exact EG hl h2 fin
theorem AN {b:Bool} {n:Nat} (F:Fr h₀ L s.heap m) (N:Ss h₀ L s.heap news) (ho:s.heap.get? a=some (Ll "list" vs.toArray n)) (haL:a≠L) (ha0:h₀.get? a=none) (hna:∀ p∈news,p.1≠a)
 (h2:vs.length<2)
 (h:∀ kS e1 h',Fr h₀ L h' m→Ss h₀ L h' ((kS,Ll "list" #[] 0)::(a,Ll "list" #[] e1)::news)→a<kS→(∀ q∈news,q.1<kS) →
  QO prog w A h₀ L m kS f (fun ks e s'=>SA h₀ L m kS a ks e e1 vs (fun s4=>P (.done (.ret .none)) s4) s') vs [] 0 { s with heap:=h' }) :
 Lh (model prog w) A (Rt a f b) P E s:=by
 have ha:a<s.heap.objs.size:=K1 ho
 have s1:=Nq s.heap a (Lu fun _=>(#[]:Array KD))
 obtain ⟨e1,ho1⟩:∃ e1,(s.heap.update a (Lu fun _=>(#[]:Array KD))).get? a=some (Ll "list" #[] e1):=⟨_,M9 ho fun _=>#[]⟩
 have F1:=Ta F s1 haL ha0
 have N1:=kas_news N s1 hna
 have hkS:((s.heap.update a (Lu fun _=>(#[]:Array KD))).push (Ll "tuple" vs.toArray 0)).objs.size=s.heap.objs.size+1:=by rw [OR,Nf]
 have hLk:L<((s.heap.update a (Lu fun _=>(#[]:Array KD))).push (Ll "tuple" vs.toArray 0)).objs.size:=(F1.push _).ns.lt
 unfold Rt
 refine KG (O2 ho rfl ?_)
 refine KG (Nh ho rfl ?_ (by rw [KQ,Lv]; omega) (LL _))
 refine KG (OU ho1 rfl ?_)
 refine KG (P2 ?_ (by show vs.length≤_; rw [Lv]; omega))
 refine KG (NM ?_ (LL _))
 refine Ma ?_
 refine CN (s:={ s with heap:=((s.heap.update a (Lu fun _=>(#[]:Array KD))).push (Ll "tuple" vs.toArray 0)).push (Ll "list" #[] 0) }) (kS:=((s.heap.update a (Lu fun _=>(#[]:Array KD))).push (Ll "tuple" vs.toArray 0)).objs.size)
  (LD _ rfl) h2 (h _ e1 _ ((F1.push _).push _) (fun p hp=>?_) (by rw [hkS]; exact L6 ha) fun q hq=>by rw [hkS]; exact L6 (K1 (N q hq).1))
 rcases KP.mp hp with rfl | hp
 ·exact ⟨LD _ rfl,Ng hLk,MX (LF F.above (M0 hLk))⟩
 ·rcases KP.mp hp with rfl | hp
  ·exact ⟨KN _ (KN _ ho1),haL,ha0⟩
  ·exact ⟨KN _ (KN _ (N1 p hp).1),(N1 p hp).2⟩
theorem vI {l:KI} {b:Bool} {Q:KD→KJ→Prop} (F:Fr h₀ L s.heap m) (N:Ss h₀ L s.heap news) (hl:s.heap.IsList l vs.toArray) (h2:vs.length<2)
 (ha1:Pc "sorted" ⟨[.ref l],kw⟩) (ha2:∀ x,Pc "list.sort" ⟨[.ref x],kw⟩) (ht:∀ x,NF.«list.sort» ⟨[.ref x],kw⟩=Rt x f b)
 (h:∀ D kS e1 h',Fr h₀ L h' m→Ss h₀ L h' ((kS,Ll "list" #[] 0)::(D,Ll "list" #[] e1)::news)→D<kS→(∀ q∈news,q.1<D) →
  QO prog w A.in1.in1 h₀ L m kS f (fun ks e s'=>SA h₀ L m kS D ks e e1 vs (fun s4=>Q (.ref D) s4) s') vs [] 0 { s with heap:=h' }) :
 Lh (model prog w) A (call (.builtin "sorted") [.ref l] kw) Q E s:=by
 refine QP Rr QL QM ha1 ?_
 unfold NF.«sorted»
 refine KG (m:=R6 "sorted" 1 1 _) (Lp ?_)
 refine KG (QN hl ?_ (by rw [Lv]; omega))
 refine KG (NM ?_ (by rw [Lv]; omega))
 have hsz:((s.heap.push (Ll "list" #[] 0)).update s.heap.objs.size (Lu (·++vs.toArray))).objs.size=s.heap.objs.size+1:=by
  rw [Nf,OR]
 have hoL:(((s.heap.push (Ll "list" #[] 0)).update s.heap.objs.size (Lu (·++vs.toArray))).push (Ll "list" vs.toArray 0)).get? (s.heap.objs.size+1)=some (Ll "list" vs.toArray 0):=by
  rw [← hsz]; exact LD _ rfl
 have keep:∀ b o,s.heap.get? b=some o→(((s.heap.push (Ll "list" #[] 0)).update s.heap.objs.size (Lu (·++vs.toArray))).push (Ll "list" vs.toArray 0)).get? b=some o:=fun b o q=>by
  have hlt:b<s.heap.objs.size:=K1 q
  rw [O4 _ _ _ (by rw [hsz]; exact Lm (L6 hlt)),OE _ _ _ _ (Lm hlt),O4 _ _ _ (Lm hlt)]
  exact q
 have hL:L<s.heap.objs.size:=F.ns.lt
 show Lh _ _ _ _ _ { s with heap:=((s.heap.push (Ll "list" #[] 0)).update s.heap.objs.size (Lu (·++vs.toArray))).push (Ll "list" vs.toArray 0) }
 rw [hsz]
 refine KG (Ma (RK P4 ⟨_,hoL,rfl⟩ Pu ?body (ha2 _)))
 case body =>
  have ht':=ht (s.heap.objs.size+1)
  show Lh (model prog w) A.in1.in1 (NF.«list.sort» ⟨[.ref (s.heap.objs.size+1)],kw⟩) _ _ _
  rw [ht']
  refine AN (s:={ s with heap:=((s.heap.push (Ll "list" #[] 0)).update s.heap.objs.size (Lu (·++vs.toArray))).push (Ll "list" vs.toArray 0) })
   (F.kept keep) (N.grown keep) hoL (Ng (L6 hL)) (MX (LF F.above (Nat.le_succ_of_le (M0 hL))))
   (fun p hp=>Lm (L6 (K1 (N p hp).1))) h2 fun kS e1 h' F' N' l0 l1=>?_
  refine kat_keys_mono (h _ kS e1 h' F' N' l0 fun q hq=>L6 (K1 (N q hq).1)) fun ks e s' hl' hd=>?_
  exact hd.mono fun s4 hq=>⟨_,rfl,Lp ⟨_,rfl,hq⟩⟩
end
section
variable {X:Cx} {pins:List (KI×Nv)} {σ:St} {m:LV→Option KD} {kS f:KI} {o:Nv} {q:LV} {params:Pa} {body:Mv} {scope:NW} {cl:List (LV×KI)} {A:L4} {x:LV} {zs:List LV} {is:List Nat} {te:TE} {Fin:List V→Hp→Prop}
theorem zW {b:Bool} {s:KJ} (I:Inv X (pins++[(f,o)]) σ H s) (hff:∀ p∈X.pn++pins,p.1≠f) (hf0:X.s₀.heap.objs.size≤f) (L:lJ X.mg H q params body scope cl o)
 (fr:iw X x zs is scope cl) (hh:X.A.handled=none) (hroom:X.A.in1.in1.depth<NQ) (hA:X.A.in1.in1.frames=some X.stack) (hh2:X.A.in1.in1.handled=none)
 (hb:∀ (c:KI) (ct u:KD),PV (Ox "<lambda>" q params body scope cl ((X.mg "__name__").getD .none) (.ref c) ct) ⟨[u],[]⟩=pure [(x,u)])
 (he:∀ f c s H pins,PE (kW X (x::zs) q scope cl f c X.A.in1.in1 s H pins) body te)
 (hq:dA X.K H a vs) (h2:vs.length<2) (h:kX te (is.map fun i=>(σ[i]?).join) Fin vs [] H) (hg:∀ ks H,ks.length=vs.length→Fin ks H→IY X b vs Q ks H)
 (ha1:Pc "sorted" ⟨[.ref a],kw⟩) (ha2:∀ x,Pc "list.sort" ⟨[.ref x],kw⟩) (ht:∀ x,NF.«list.sort» ⟨[.ref x],kw⟩=O9 x (.ref f) b) :
 Lh (model X.prog X.w) X.A (call (.builtin "sorted") [.ref a] kw) (EP X pins σ Q) X.xe s:=by
 obtain ⟨its,rv,pl,_⟩:=I.list hq
 have hlv:its.length=vs.length:=rv.length.symm
 obtain ⟨m,F⟩:=I.fr
 have fin:(f,o)∈jv X.base s.heap X.env.locals:=by
  obtain ⟨p1,p2,p3,p4,p5⟩:=I.pin (f,o) (KA _ (KA _ (Kz.mpr rfl)))
  refine cZ p3 ?_ p1
  cases eb:X.base.get? f with
  | none=>rfl
  | some y=>exact absurd (Lc (K1 eb) (LF I.ok.zm hf0)) (LP _)
 refine vI (b:=b) (vs:=its) (f:=.ref f) F (pP (h:=s.heap)) pl.isList (by omega) ha1 ha2 ht fun D kS e1 h' F' N' hDk hlt=>?_
 have nK:=N' _ Ky
 have nD:=N' _ (Kx _ Ky)
 have fD:f<D:=hlt _ fin
 have gD:s.heap.get? D=none:=by
  cases e:s.heap.get? D with
  | none=>rfl
  | some o=>exact absurd (hlt (D,o) (cZ nD.2.1 nD.2.2 e)) (LP _)
 have gK:s.heap.get? kS=none:=by
  cases e:s.heap.get? kS with
  | none=>rfl
  | some o=>exact absurd (QK hDk (hlt (kS,o) (cZ nK.2.1 nK.2.2 e))) (LP _)
 have s0D:X.s₀.heap.objs.size≤D:=LF hf0 (M0 fD)
 have s0K:X.s₀.heap.objs.size≤kS:=LF s0D (M0 hDk)
 have zD:=I.nil gD
 have zK:=I.nil gK
 have N2:Ss X.base X.env.locals h' ((kS,Ll "list" #[] 0)::rest X.base s.heap X.env.locals kS):=fun p hp=>by
  rcases KP.mp hp with rfl | hp
  ·exact nK
  ·exact N' p (Kx _ (Kx _ (LC.mp hp).1))
 have I1:Inv X (pins++[(f,o)]) σ H { s with heap:=h',toks:=s.toks }:=I.pF F.ns F' N2 zK.h s0K nK.2.1 zK.cell zK.pin
 have I2:Inv X ((pins++[(f,o),(D,Ll "list" #[] e1)])++[(kS,Ll "list" ([]:List KD).toArray 0)]) σ H { s with heap:=h',toks:=s.toks }:=I1.ic fun p hp=>by
  rcases KS.mp hp with hp | hp
  ·rcases KS.mp hp with hp | hp
   ·exact I1.pin p (KA _ (K3 _ hp))
   ·rcases KP.mp hp with rfl | hp
    ·exact I1.pin _ (KA _ (KA _ (Kz.mpr rfl)))
    ·cases Kz.mp hp
     exact ⟨nD.1,zD.h,nD.2.1,zD.fs,fun v z=>by cases z⟩
  ·cases Kz.mp hp
   exact ⟨nK.1,zK.h,nK.2.1,zK.fs,fun v z=>by cases z⟩
 have h4:∀ p∈X.pn++(pins++[(f,o),(D,Ll "list" #[] e1)]),p.1≠kS:=fun p hp=>by
  rcases KS.mp hp with hp | hp
  ·exact zK.pin p (K3 _ hp)
  ·rcases KS.mp hp with hp | hp
   ·exact zK.pin p (KA _ (K3 _ hp))
   ·rcases KP.mp hp with rfl | hp
    ·exact zK.pin _ (KA _ (KA _ (Kz.mpr rfl)))
    ·cases Kz.mp hp
     exact Lm hDk
 refine Ra (pY fr hA hh2 hroom hb he (KA _ Ky) s0K h4 rv .nil I2 F'.ns L h) fun kvs e3 s3 hl3 hfin=>?_
 obtain ⟨ks,H3,J,hm3,rk,fin⟩:=hfin
 have hl3:kvs.length=vs.length:=by rw [hl3,Mm]; omega
 have hlz:=rk.length
 obtain ⟨lt,ord,ask,qf⟩:=hg _ _ (by omega) fin
 obtain ⟨p1,p2,p3,p4,p5⟩:=J.pin (kS,Ll "list" kvs.toArray e3) (KA _ (KA _ (Kz.mpr rfl)))
 refine Ru (J.JE hm3) (kQ p3 nK.2.2 p1) (.head oB) fun h5 c5 F5 N5=>?_
 have cells:∀ x c,X.env.cells.lookup x=some c→c≠kS:=fun x c e z=>by
  obtain ⟨v,o,ho,hd⟩:=J.cell x c e
  rw [z,p1] at ho
  cases ho
  exact p5 v hd
 have J5:Inv X (pins++[(f,o),(D,Ll "list" #[] e1)]) σ H3 { s3 with heap:=h5,toks:=s3.toks }:=(Inv.dZ J).pF hm3 F5 N5 p2 s0K p3 cells h4
 obtain ⟨d1,d2,d3,d4,d5⟩:=J5.pin (D,Ll "list" #[] e1) (KA _ (KA _ (Kx _ (Kz.mpr rfl))))
 refine Rv F5 (kQ d3 nD.2.2 d1) (.head oB) fun h6 c6 F6 N6=>?_
 have J6:Inv X pins σ H3 { s3 with heap:=h5,toks:=s3.toks }:=J5.dZ
 have cellsD:∀ x c,X.env.cells.lookup x=some c→c≠D:=fun x c e z=>by
  obtain ⟨v,o,ho,hd⟩:=J5.cell x c e
  rw [z,d1] at ho
  cases ho
  exact d5 v hd
 have pinD:∀ p∈X.pn++pins,p.1≠D:=fun p hp=>by
  refine zD.pin p ?_
  rcases KS.mp hp with hp | hp
  ·exact K3 _ hp
  ·exact KA _ (K3 _ hp)
 have J7:Inv X pins σ H3 { s3 with heap:=h6,toks:=s3.toks }:=J6.pF F5.ns F6 N6 d2 s0D d3 cellsD pinD
 have out:Out X pins H3 D:=⟨d2,MX s0D,d3,cellsD,pinD⟩
 have er:O5 b ((KW ks.length).map fun i=>(O5 b vs).getD i V.non)=vs:=by
  have e:(KW ks.length).map (fun i=>vs.getD i V.non)=vs:=by
   rw [hlz,hl3]
   refine MN (by simp) fun i h1 h2=>?_
   simp [h2]
  rw [lg b h2,e,lg b h2]
 refine ⟨.ref D,upd H3 D (.lst vs),J7.Fc out ?_,rfl,?_⟩
 ·refine ⟨by have:=Lv; omega,its,c6,rv,?_⟩
  exact (N6 _ Ky).1
 ·have:=qf (KW ks.length) (P0 _) ?_ D d2
  ·rw [er] at this; exact this
  ·have hn:ks.length<2:=by omega
   match ks.length,hn with
   | 0,_=>exact .nil
   | 1,_=>exact .cons (fun _ h=>by cases h) .nil
   | n+2,h=>exact absurd h (by omega)
theorem zU {s:KJ} {k:Nat} (I:Inv X (pins++[(f,o)]) σ H s) (hff:∀ p∈X.pn++pins,p.1≠f) (hf0:X.s₀.heap.objs.size≤f) (L:lJ X.mg H q params body scope cl o)
 (fr:iw X x zs is scope cl) (hr:fg k X.A) (hc:X.calm=true)
 (hb:∀ (c:KI) (ct u:KD),PV (Ox "<lambda>" q params body scope cl ((X.mg "__name__").getD .none) (.ref c) ct) ⟨[u],[]⟩=pure [(x,u)])
 (he:∀ f c s H pins,PE (kW X (x::zs) q scope cl f c X.A.in1.in1 s H pins) body te)
 (hq:dA X.K H a vs) (h64:vs.length<800) (h:kX te (is.map fun i=>(σ[i]?).join) Fin vs [] H) (hg:∀ ks H,ks.length=vs.length→Fin ks H→wo vs Q ks H)
 (ha1:Pc "sorted" ⟨[.ref a],kw⟩) (ha2:∀ x,Pc "list.sort" ⟨[.ref x],kw⟩) (ht:∀ x,NF.«list.sort» ⟨[.ref x],kw⟩=O9 x (.ref f) false) :
 Lh (model X.prog X.w) X.A (call (.builtin "sorted") [.ref a] kw) (EP X pins σ Q) X.xe s:=by
 have room:X.A.in1.in1.depth<NQ:=by
  have:=hr.dp
  show X.A.depth < _
  omega
 have hh:=I.ok.hd hc
 by_cases h2:2≤vs.length
 ·exact zV I hff hf0 L fr hh room I.ok.frames hh hb he hq h2 h64 h hg ha1 ha2 ht
 ·exact zW I hff hf0 L fr hh room I.ok.frames hh hb he hq (by omega) h (fun ks H hl z=>(hg ks H hl z).g) ha1 ha2 ht
def Bw (K:KC) (P:KI) (q:LV) (tl te:TE) (is:List Nat):TE:=fun σ H Q=>tl σ H fun v H1=>∃ (a:KI) (vs:List V) (ps:Array KD) (t:Tw),v=.ref a∧dA K H1 a vs∧vs.length<800∧H1 P=some (.tbl ps)∧ps[0]?=some (.str q t) ∧
 ∀ H2,DA H1 H2→kX te (is.map fun i=>(σ[i]?).join) (wo vs Q) vs [] H2
theorem B3 {K:KC} {c P:KI} {l:Mv} {tl:TE} {p lpos kpos cpos:Qq} {k:Nat} (hK:X.K=K) (lo:FU X c P) (hr:fg k X.A) (hc:X.calm=true) (hg:Gl X "sorted") (hm:X.mg "sorted" = none) (hl:PE X l tl) (fr:iw X x zs is scope cl)
 (hq:X.env.qual ++ "<lambda>" = q) (hcl:OQ scope X.env=pure cl)
 (he:∀ f c s H pins,PE (kW X (x::zs) q scope cl f c X.A.in1.in1 s H pins) body te)
 (hdef:defaultsOf params X.env=([],[]):=by rfl)
 (hb:∀ (c:KI) (ct u:KD),PV (Ox "<lambda>" q params body scope cl ((X.mg "__name__").getD .none) (.ref c) ct) ⟨[u],[]⟩=pure [(x,u)]:=by intro _ _ _; rfl)
 (hst:Mi [l] X.env=[(false,eval l X.env)]:=by rfl) (hv:Md "sorted" = some (.builtin "sorted"):=by rfl) :
 PE X (.Call (.Name "sorted" p) [l] [⟨some "key", .Lambda params body scope lpos,kpos⟩] cpos) (Bw K P q tl te is):=by
 subst hK
 intro pins s σ H Q I h
 refine N3 (iR I hg hm hv ?_ (by decide) (by decide))
 refine Qk (e:=l) (rest:=[]) ?_ (by rw [hst]; rfl) (by rw [hst]; rfl) rfl rfl
 have ha:=aa hl aj (hs:=by rw [hst]; rfl)
 refine cD (ha cpos pins s σ H (fun xs H1=>match xs with
  | [v]=>∃ (a:KI) (vs:List V) (ps:Array KD) (t:Tw),v=.ref a∧dA X.K H1 a vs∧vs.length<800∧H1 P=some (.tbl ps)∧ps[0]?=some (.str q t)∧∀ H2,DA H1 H2→kX te (is.map fun i=>(σ[i]?).join) (wo vs Q) vs [] H2
  | _=>False) I h) fun us s1 ⟨vs0,H1,I1,r1,q1⟩=>?_
 match vs0,q1 with
 | [v],q1 =>
 obtain ⟨a,vs,ps,t,rfl,hsq,h64,hP,h0,hw⟩:=q1
 cases r1 with
 | cons r1 r2 =>
 cases r2
 cases (show _=LM a from r1)
 show Lh _ _ (evalAll [(do let v ← eval (.Lambda params body scope lpos) X.env; SS cpos; pure v)]) _ _ s1
 refine RZ (KG (cD (Cu lo I1 hP h0 hq hcl hdef) fun u s2 ⟨f,o,H2,eu,I2,gr,pf,s0f,L⟩=>KG (OG (Lp (wpAny_evalAll_nil ?_)))))
 subst eu
 have hs2:dA X.K H2 a vs:=by
  rcases hsq with (z | ⟨o,z⟩) | z
  ·exact .inl (.inl (gr _ _ z))
  ·exact .inl (.inr ⟨o,gr _ _ z⟩)
  ·exact .inr z
 exact zU I2 pf s0f L fr hr hc hb he hs2 h64 (hw H2 gr) (fun _ _ hl h=>h) (PyProof.Rows.ksk_s1 _ _) (fun _=>PyProof.Rows.ksk_l1 _ _) (fun x=>PyProof.Rows.ksk_t1 f x)
end
end
end L2
namespace VL
open PySem L2
section
open Classical
noncomputable section
variable [bD] {K:KC}
def kR (cs:List Nat) (ρ:aF) (d:D):aF:=(r0 1 cs ρ).set 0 (.pu d)
theorem yY {H:Hp} {T:KI→Prop} {vs:List V} {ds:List D} (h:IsL K H T vs ds):∀ {idx:List Nat},(∀ i∈idx,i<ds.length)→IsL K H T (idx.map fun i=>vs.getD i .non) (idx.map fun i=>ds.getD i .non)
 | [],_=>.nil
 | i::idx,hl=>by
  have hi:=hl i Ky
  obtain ⟨v,e1,i1⟩:=h.get (Kv hi)
  refine .cons ?_ (yY h fun j hj=>hl j (Kx _ hj))
  have ev:vs.getD i .non=v:=by rw [Ku,e1]; rfl
  have ed:ds.getD i .non=ds[i]:=by rw [Ku,Kv hi]; rfl
  show Is K H T (vs.getD i .non) (ds.getD i .non)
  rw [ev,ed]
  exact i1
end
end
end VL
namespace L2
open PySem PySem.Spec PyProof.Rows
def kA (ts:List (KI×LV)):Hp:=fun b=>(ts.lookup b).map fun q=>.tbl #[.str q 0]
variable {K:KC} {x:LV}
theorem Ax {P:L0} {w:L9} {mg mb:LV→Option KD} {CX:Bi} {k:Nat} {fa a:KI} {fd:LX} {sp:Sp} {s₁:KJ} {vs:List KD} {ns:List Int} (ts:List (KI×LV))
 (KX:K.In s₁.heap) (hns:s₁.heap.Ns Lf mg) (hb:s₁.heap.Ns PR mb) (hbb:∀ x:LV,x ≠ "__name__" → mb x=Md x) (hlim:s₁.heap.NoLimit) (hg:s₁.gens=#[]) (hbm:fk mg s₁.heap)
 (hts:∀ p q,ts.lookup p=some q→s₁.heap.get? p=some (Rw #[])∧K.lookup p=none∧∃ c,PySem.W.CodeHd s₁.heap c p)
 (ha:s₁.heap.get? a=some { cls:=.type "list", data:=.seq vs.toArray }) (hi:OA vs ns) (hl:ns.length≤KH) (hr:fg k Sn)
 (F:∀ base:ME,K.In base→base.Ns Lf mg→fk mg base→df P w K mg base CX k fa fd [x] sp) (hbind:∀ (s:KJ) (u:KD),RB s fd ⟨[u],[]⟩ [(x,u)])
 (hsp:∀ H:Hp,(∀ p q,ts.lookup p=some q→H p=some (.tbl #[.str q 0]))→dA K H a (ns.map V.int)→sp [.ref a] H (fun v _=>v=.bl true) fun _ _ _=>False)
 (hCX:∀ H e s',CX [] H s₁ (fun _ _ _=>False) e s'→False) :
 PJ (model P w) Sn (.call (.ref fa) ⟨[.ref a],[]⟩) (fun r s'=>r=.ok (.ret (.bool true))∧OldK s₁.heap s'.heap∧s'.os=s₁.os∧QB s'.gens) s₁:=by
 have rv:=lX hi
 have lenV:=hi.length
 have naT:ts.lookup a=none:=by
  cases e:ts.lookup a with
  | none=>rfl
  | some q=>have:=(hts a q e).1; rw [ha] at this; cases this
 have core:∀ H:Hp,(∀ b,b≠a→H b=kA ts b)→(H a=none∨∃ o xs,H a=some (.jr o (.lst xs)))→dA K H a (ns.map V.int)→ko P w H s₁.heap→(H a≠none→K.lookup a=none) →
  PJ (model P w) Sn (.call (.ref fa) ⟨[.ref a],[]⟩) (fun r s'=>r=.ok (.ret (.bool true))∧OldK s₁.heap s'.heap∧s'.os=s₁.os∧QB s'.gens) s₁:=by
  intro H hH hO hS cu hK
  have tabs:∀ p q,ts.lookup p=some q→H p=some (.tbl #[.str q 0]):=fun p q e=>by
   rw [hH p (fun z=>by rw [z,naT] at e; cases e)]
   unfold kA
   rw [e]; rfl
  have isT:∀ b u,H b=some u→b≠a→∃ q,ts.lookup b=some q:=fun b u e hb=>by
   rw [hH b hb] at e
   unfold kA at e
   cases z:ts.lookup b with
   | none=>rw [z] at e; cases e
   | some q=>exact ⟨q,rfl⟩
  have base_of:∀ {b:KI} {o:Nv},s₁.heap.get? b=some o→H b=none→(qY s₁.heap H).get? b=some o:=fun e n=>CI e n
  have none_of:∀ {b:KI} {o:Nv},s₁.heap.get? b=some o→o.cls≠.none→(∀ xs n,o.data≠.seq xs n)→H b=none:=fun {b o} e hc hd=>by
   cases q:H b with
   | none=>rfl
   | some u =>
    by_cases hba:b=a
    ·subst hba
     rw [ha] at e; cases e
     exact absurd rfl (hd _ _)
    ·obtain ⟨q',z⟩:=isT b u q hba
     have:=(hts b q' z).1
     rw [e] at this
     cases this
     exact absurd rfl hc
  have noA:∀ {b:KI} {o:Nv} {es:Array DictEntry} {ep:Nat},s₁.heap.get? b=some o→o.data=.dict es ep→H b=none:=fun {b o es ep} e d=>by
   cases q:H b with
   | none=>rfl
   | some u =>
    by_cases hba:b=a
    ·subst hba
     rw [ha] at e; cases e
     have d':Sj vs.toArray _=Data.dict es ep:=d
     cases d'
    ·obtain ⟨q',z⟩:=isT b u q hba
     have:=(hts b q' z).1
     rw [e] at this
     cases this
     cases d
  have nsK:∀ {b:KI} {m:LV→Option KD},s₁.heap.Ns b m→(qY s₁.heap H).Ns b m:=fun {b m} ⟨o,es,ep,e,d,r⟩=>⟨o,es,ep,base_of e (noA e d),d,r⟩
  have hKb:K.In (qY s₁.heap H):=fun b o e=>base_of (KX b o e) (by
   cases q:H b with
   | none=>rfl
   | some u =>
    by_cases hba:b=a
    ·subst hba
     rw [hK (by rw [q]; simp)] at e; cases e
    ·obtain ⟨q',z⟩:=isT b u q hba
     rw [(hts b q' z).2.1] at e; cases e)
  have hBm:fk mg (qY s₁.heap H):=by
   obtain ⟨bm,ob,b1,b2,b3,b4,b5,b6⟩:=hbm
   exact ⟨bm,ob,b1,b2,base_of b3 (none_of b3 (by rw [b4]; exact nofun) fun xs n z=>by rw [b6] at z; cases z),b4,b5,b6⟩
  have hM:Mod K mg (qY s₁.heap H):=⟨hKb,nsK hns,⟨mb,nsK hb,hbb⟩,let ⟨mc,h1,h2⟩:=hlim; ⟨mc,nsK h1,h2⟩⟩
  have e0:E8 P w K mg (qY s₁.heap H) Sn [] s₁ H:=⟨rfl,hM,fun b o e=>Em e,PO (AK _ _),trivial,fun b hb=>absurd (show b∈([]:List KI) from hb) (by simp),cu,.of_eq hg⟩
  refine QE ((F _ hKb (nsK hns) hBm).run Sn [] s₁ H ⟨[.ref a],[]⟩ [.ref a] [.ref a] _ _ hr e0 (hbind s₁ (.ref a)) (.cons rfl .nil) (hsp H tabs hS)) fun r s' h=>?_
  cases r with
  | error e=>exact (hCX H e s' h).elim
  | ok fl =>
   cases fl with
   | next=>exact N0 h
   | brk=>exact N0 h
   | cont=>exact N0 h
   | ret u =>
    obtain ⟨v,H',os,bare,un,hok',r',q⟩:=h
    have q':v=.bl true:=q
    subst q'
    obtain rfl:u=RW true:=r'
    have kept:∀ b o,s₁.heap.get? b=some o→ts.lookup b=none→s'.heap.get? b=some o:=fun b o e hn=>by
     cases q:H b with
     | none=>exact un.keep b o e q (by intro z; exact absurd (show b∈([]:List KI) from z) (by simp)) (by simp)
     | some u =>
      by_cases hba:b=a
      ·subst hba
       rcases hO with z | ⟨ob,xs,z⟩
       ·rw [q] at z; cases z
       ·have z2:=un.q9 b ob _ z
        obtain ⟨e1,_⟩:=cu b _ z
        obtain ⟨e2,_⟩:=hok' b _ z2
        rw [e] at e1; cases e1
        exact e2
      ·obtain ⟨q',z⟩:=isT b u q hba
       rw [hn] at z; cases z
    refine ⟨rfl,⟨fun b o e=>?_,fun b o e=>un.there b o e (by simp)⟩,os,bare⟩
    cases ht:ts.lookup b with
    | none=>exact .inl (kept b o e ht)
    | some q =>
     obtain ⟨t1,t2,c,t3⟩:=hts b q ht
     rw [e] at t1
     cases t1
     obtain ⟨more,e2⟩:=un.qQ b _ (tabs b q ht)
     obtain ⟨q2,tk,qs,_,e3,_⟩:=(show bQ P w H' s'.heap b (.tbl _) from hok' b _ e2)
     exact .inr (.inl ⟨(t3.tab e).isCodeTable,rfl,#[],qs,rfl,by rw [Array.empty_append]; exact e3⟩)
 have tabOk:∀ H:Hp,(∀ b,b≠a→H b=kA ts b)→∀ b u,b≠a→H b=some u→bQ P w H s₁.heap b u:=fun H hH b u hb e=>by
  rw [hH b hb] at e
  unfold kA at e
  cases z:ts.lookup b with
  | none=>rw [z] at e; cases e
  | some q =>
   rw [z] at e
   cases e
   exact ⟨q,0,#[],rfl,(hts b q z).1,trivial,fun pos v ev=>by cases ev⟩
 cases hk:K.lookup a with
 | some o =>
  have e:=KX a o hk
  rw [ha] at e
  cases e
  have hHa:kA ts a=none:=by unfold kA; rw [naT]; rfl
  refine core (kA ts) (fun _ _=>rfl) (.inl hHa) (.inr ⟨_,vs.toArray,_,hk,rfl,rfl,rfl,by rw [KQ,lenV]; exact hl,by simpa using rv⟩) (fun b u z=>?_) fun z=>absurd hHa z
  exact tabOk _ (fun _ _=>rfl) b u (fun w=>by rw [w,hHa] at z; cases z) z
 | none =>
  refine core (fun b=>if b=a then some (.jr { cls:=.type "list", data:=.seq vs.toArray } (.lst (ns.map V.int))) else kA ts b) (fun b hb=>if_neg hb) (.inr ⟨_,_,if_pos rfl⟩) (.inl (.inr ⟨{ cls:=.type "list", data:=.seq vs.toArray },if_pos rfl⟩)) (fun b u z=>?_) fun _=>hk
  by_cases hba:b=a
  ·have z':=(if_pos hba).symm.trans z
   cases z'
   subst hba
   exact ⟨ha,by rw [Kw]; exact hl,vs,_,rv,ha⟩
  ·exact tabOk _ (fun b hb=>if_neg hb) b u hba z
theorem Bp {l:SQ} {n k:Nat} {q:L0} {loose:List LV} {XP:(LV→Option KD)→ME→Prop} {YP:L9→ME→Prop} {d:DefRec} {K:Params→KC} {CX:L9→Bi} {sp:L9→Sp} (ts:List (KI×LV))
 (hn:l.most=some n) (hn2:n≤KH) (hdf:d.params.defaults=[]) (hr:fg k Sn)
 (hY:∀ (w:L9) (h:ME),YP w h→(K w.params).In h)
 (hT:∀ (w:L9) (h:ME),YP w h→∀ p q,ts.lookup p=some q→h.get? p=some (Rw #[]))
 (hN:∀ (w:L9) p q,ts.lookup p=some q→(K w.params).lookup p=none∧∃ c,Pf (K w.params) c p=true)
 (F:∀ (w:L9) (mg:LV→Option KD) (fa:KI) (h:ME),(K w.params).In h→h.Ns Lf mg→mg d.name=some (.ref fa) →
  ∃ fd:LX,(∀ (s:KJ) (u:KD),RB s fd ⟨[u],[]⟩ [(x,u)]) ∧
   ∀ base:ME,(K w.params).In base→base.Ns Lf mg→fk mg base→df l.prog w (K w.params) mg base (CX w) k fa fd [x] (sp w))
 (hsp:∀ (w:L9) (H:Hp) (a:KI) (ns:List Int),ns.length≤n→(∀ m∈ns,MQ m≤1048576)→(∀ p q,ts.lookup p=some q→H p=some (.tbl #[.str q 0]))→dA (K w.params) H a (ns.map V.int)→sp w [.ref a] H (fun v _=>v=.bl true) fun _ _ _=>False)
 (hCX:∀ (w:L9) (H:Hp) (s:KJ) (e:KD) (s':KJ),CX w [] H s (fun _ _ _=>False) e s'→False) :
 Tn q loose XP YP l.row.toRowW d [] (fun f vs=>PySem.call f vs):=by
 intro w s₀ s₁ mg mb G Y fa o pm cd doc dV kV ho hd hcd hD hmg hg args vals as hpre hlay hrd hwl hlo
 obtain rfl:dV=.none:=PySem.W.Dflts.none hD hdf
 obtain rfl:kV=.none:=PySem.W.Dflts.noKw hD
 obtain ⟨a,vs,ns,rfl,rfl,hobj,hints,hlen⟩:=JS.zX hn hpre hwl
 have KX:=hY w _ Y
 obtain ⟨fd,hb,hF⟩:=F w mg fa _ KX G.T.g hmg
 refine PySem.W.enter_call (QE (Ax ts KX G.T.g G.T.b G.T.builtins G.T.nolimit hg G.T.bmain (fun p q e=>⟨hT w _ Y p q e,(hN w p q e).1,let ⟨c,h⟩:=(hN w p q e).2; ⟨c,RJ KX h⟩⟩) hobj hints (LF hlen hn2) hr hF hb (fun H hO hS=>hsp w H a ns hlen (vZ hlay) hO hS) fun H e s'=>hCX w H s₁ e s') fun r s' hq=>?_)
 obtain ⟨rfl,h2,h3,h4⟩:=hq
 exact ⟨.inl ⟨.bool true,.bool true,[],rfl,fun _=>rfl,.bool true,JS.z7 l _,fun _=>⟨Qe,fun _ hm=>(nomatch hm)⟩⟩,h2,h3,h4⟩
theorem eA.Kd {P:L0} {w:L9} {mg:LV→Option KD} {base:ME} {qual:LV} {st:NZ} {f:KI} {fd:LX} {N ps:List LV} {k:Nat} {sp:Sp} (F:eA K x qual st f fd) (S:aZ N ps (aB st)) (len:∀ vs H Q E,sp vs H Q E→vs.length=ps.length)
 (hbody:∀ (cdv:KD),fd.code=cdv→∀ (A:L4) (outer:List SU) (s:KJ) (H:Hp) (vs:List V) (Q:VK) (E:XK),fg k (A.deeper (QF qual (aB st) s.heap.objs.size f cdv))→sp vs H Q E →
  ∃ t,wt (ur jJ P w K mg base N qual (aB st) f cdv A outer s H E).Fy (fK st) t∧t { nx:=fun _ H'=>Q .non H',rt:=Q } (start N vs) H):df P w K mg base jJ (k+1) f fd ps sp:=by
 obtain ⟨oc,od,kV,doc,pm,an,cdv,ct,osl,rfl,lk,hcd⟩:=F.ex
 refine FH lk hcd S len fun A outer s H vs Q E hr hsp=>?_
 obtain ⟨t,h,q⟩:=hbody cdv rfl A outer s H vs Q E hr hsp
 exact ⟨t,h.Fy,q⟩
end L2
namespace PySem.SeqAt
open AutoSeq1 (wpAny_loadPart')
section
open MeetsSeq MeetsSeq2 MeetsSeq3
def Bb (A:L4) (s:KJ) (y x:KD) (b:Bool):Prop :=
 ∀ (prog:L0) (w:L9) (E:KD→KJ→Prop) (Q:KD→KJ→Prop),Q (.bool b) s→Lh (model prog w) A (SG .Lt y x) Q E s
def fE (e l:Nat→Bool) (fin:Bool):Nat→Nat→Bool
 | 0,_=>fin
 | k+1,i=>if e i=true then fE e l fin k (i+1) else l i
theorem Ar (l b:KI) (items items2:Array KD) (n n2:Nat) (dd dd2:Option KI) (sl sl2:Array (Option KD)) (e lt:Nat→Bool) (k:Nat) :
 ∀ i:Nat,i≤min items.size items2.size→min items.size items2.size-i=k→Meets (NF.«list.__eq__.loop» ⟨[.ref l,.ref b,Su i,Su 0],[]⟩)
  (fun A R s=>s.heap.get? l=some { cls:=.type "list", dict:=dd,data:=.seq items n,slots:=sl }∧s.heap.get? b=some { cls:=.type "list", dict:=dd2,data:=.seq items2 n2,slots:=sl2 } ∧
   (∀ j (h1:j<items.size) (h2:j<items2.size),EqAt A.in1 s items[j] items2[j] (e j))∧(∀ j (h1:j<items.size) (h2:j<items2.size),e j=false→Bb A.in1 s items[j] items2[j] (lt j)) ∧
   R (.ok (.ret (.bool (fE e lt (decide (items.size<items2.size)) k i)))) s):=by
 induction k with
 | zero =>
  intro i hi hk prog w A R s h
  obtain ⟨hp,g,d,tk,os⟩:=s; obtain ⟨hl,hb,he,hlt,h⟩:=h
  wp_walk using LG hl,LG hb
  by_cases hc:items.size≤i
  ·have hi1:items[((i:Nat):Int).toNat]?=none:=by simp; omega
   rw [hi1]
   wp_walk using LG hl,LG hb
   exact h
  ·have hi2:items2[((i:Nat):Int).toNat]?=none:=by simp; omega
   have hi1:items[((i:Nat):Int).toNat]?=some (items[i]'(by omega)):=by simp
   rw [hi1,hi2]
   wp_walk using LG hl,LG hb
   exact h
 | succ k ih =>
  intro i hi hk prog w A R s h
  obtain ⟨hp,g,d,tk,os⟩:=s; obtain ⟨hl,hb,he,hlt,h⟩:=h
  wp_walk using LG hl,LG hb
  have hlt1:i<items.size:=by omega
  have hlt2:i<items2.size:=by omega
  have hi1:items[((i:Nat):Int).toNat]?=some items[i]:=by simp [hlt1]
  have hi2:items2[((i:Nat):Int).toNat]?=some items2[i]:=by simp [hlt2]
  have hc:((i:Int)+1)=((i+1:Nat):Int):=by push_cast; rfl
  unfold fE at h
  rw [hi1,hi2]
  refine KG (he i hlt1 hlt2 prog w _ _ ?_)
  cases hb':e i with
  | true =>
   rw [hb',if_pos rfl] at h
   wp_walk
   rw [hc]
   exact ⟨NL plain_eq_loop _,Nn entry_eq_loop (by
    rw [MG plain_eq_loop _]
    exact ih (i+1) (by omega) (by omega) prog w A R _ ⟨hl,hb,he,hlt,h⟩)⟩
  | false =>
   rw [hb',if_neg KU] at h
   wp_walk using LG hl,LG hb
   rw [hi1,hi2]
   dsimp only
   refine KG (hlt i hlt1 hlt2 hb' prog w _ _ ?_)
   wp_walk
   exact h
theorem Au (l b:KI) (items items2:Array KD) (n n2:Nat) (dd dd2:Option KI) (sl sl2:Array (Option KD)) (e lt:Nat→Bool) :
 Meets (NF.«list.__lt__» ⟨[.ref l,.ref b],[]⟩)
  (fun A R s=>s.heap.get? l=some { cls:=.type "list", dict:=dd,data:=.seq items n,slots:=sl }∧s.heap.get? b=some { cls:=.type "list", dict:=dd2,data:=.seq items2 n2,slots:=sl2 } ∧
   (∀ j (h1:j<items.size) (h2:j<items2.size),EqAt A.in1 s items[j] items2[j] (e j))∧(∀ j (h1:j<items.size) (h2:j<items2.size),e j=false→Bb A.in1 s items[j] items2[j] (lt j)) ∧
   R (.ok (.ret (.bool (fE e lt (decide (items.size<items2.size)) (min items.size items2.size) 0)))) s):=by
 intro prog w A R s h
 obtain ⟨hp,g,d,tk,os⟩:=s; obtain ⟨hl,hb,he,hlt,h⟩:=h
 have f3:=QQ
 wp_walk using LG hl,LG hb
 exact ⟨NL plain_eq_loop _,Nn entry_eq_loop (by
  rw [MG plain_eq_loop _]
  exact Ar l b items items2 n n2 dd dd2 sl sl2 e lt _ 0 (LL _) rfl prog w A R _ ⟨hl,hb,he,hlt,h⟩)⟩
section
variable {A:L4} {s:KJ}
theorem Bb.ints (a b:Int) (t u:Tw):Bb A s (.int a t) (.int b u) (decide (a<b)):=fun prog w E Q h=>RH h
end
end
end PySem.SeqAt
namespace VL
open PySem L2
section
open Classical
noncomputable section
variable {K:KC}
def Ek:Nat→D→D→Bool
 | _,.int _,.int _=>true
 | n+1,.lst xs,.lst ys=>(Oc xs ys).all fun p=>fe n p.1 p.2&&Ek n p.1 p.2
 | n+1,.tup xs,.tup ys=>(Oc xs ys).all fun p=>fe n p.1 p.2&&Ek n p.1 p.2
 | _,_,_=>false
section
variable {X:Cx} {pins:List (KI×Nv)} {σ:L2.St} {H:Hp} {s:KJ}
inductive Om:Nat→D→D→Prop
 | int {n:Nat} (a b:Int):Om n (.int a) (.int b)
 | lst {n:Nat} {xs ys:List D} (h:(Oc xs ys).all (fun p=>fe n p.1 p.2&&Ek n p.1 p.2)=true):Om (n+1) (.lst xs) (.lst ys)
 | tup {n:Nat} {xs ys:List D} (h:(Oc xs ys).all (fun p=>fe n p.1 p.2&&Ek n p.1 p.2)=true):Om (n+1) (.tup xs) (.tup ys)
end
end
end
end VL
namespace PySem.SeqAt
theorem xu {prog:L0} {w:L9} {A:L4} {E:KD→KJ→Prop} {Q:Bool→KJ→Prop} {s:KJ} {l b:KI} {items items2:Array KD} {e lt:Nat→Bool} (hl:s.heap.IsList l items) (hb:s.heap.IsList b items2) (hu:A.units<OT)
 (he:∀ j (h1:j<items.size) (h2:j<items2.size),EqAt A.in1 s items[j] items2[j] (e j)) (hlt:∀ j (h1:j<items.size) (h2:j<items2.size),e j=false→Bb A.in1 s items[j] items2[j] (lt j)) (h:Q (fE e lt (decide (items.size<items2.size)) (min items.size items2.size) 0) s) :
 Lh (model prog w) A (PyProof.Rows.oneLt' true (.ref l) (.ref b)) Q E s:=by
 obtain ⟨⟨cls,dd,data,sl⟩,ho,hc,n,hd⟩:=id hl
 obtain ⟨⟨cls2,dd2,data2,sl2⟩,ho2,hc2,n2,hd2⟩:=id hb
 simp only at hc hd hc2 hd2
 subst hc hd hc2 hd2
 rw [PyProof.Rows.oneLt'_eq]
 simp only [if_true]
 refine KG (wpAny_cRoomFor hu ?_)
 refine KG (wpAny_callSpecialIfBound?_slot ⟨_,ho,rfl⟩ F.slot_list_lt (QJ F.slot_list_lt ⟨_,ho,rfl⟩ F.entry_list_lt (F.args_list_lt_2 _ _) (Au l b items items2 n n2 dd dd2 sl sl2 e lt) ⟨ho,ho2,he,hlt,?_⟩))
 exact MR h
end PySem.SeqAt
namespace L2
open PySem PySem.Spec PyProof.Rows
theorem nJ (ds es:List Int):∀ k i,i≤min ds.length es.length→min ds.length es.length-i=k→SeqAt.fE (fun j=>ds.getD j 0==es.getD j 0) (fun j=>decide (ds.getD j 0<es.getD j 0)) (decide (ds.length<es.length)) k i=lexLt (ds.drop i) (es.drop i)
 | 0,i,hi,hk=>by
  unfold SeqAt.fE
  by_cases h1:ds.length≤es.length
  ·have e1:ds.drop i=[]:=Nt (by omega)
   rw [e1]
   by_cases h2:ds.length<es.length
   ·rw [Lq (show i<es.length by omega),decide_eq_true h2]; rfl
   ·have e2:es.drop i=[]:=Nt (by omega)
    rw [e2,decide_eq_false h2]; rfl
  ·have e2:es.drop i=[]:=Nt (by omega)
   rw [e2,Lq (show i<ds.length by omega),decide_eq_false (by omega)]; rfl
 | k+1,i,hi,hk=>by
  have h1:i<ds.length:=by omega
  have h2:i<es.length:=by omega
  unfold SeqAt.fE
  rw [Lq h1,Lq h2,nJ ds es k (i+1) (by omega) (by omega)]
  have g1:ds.getD i 0=ds[i]:=by rw [Ku,Kv h1]; rfl
  have g2:es.getD i 0=es[i]:=by rw [Ku,Kv h2]; rfl
  rw [g1,g2]
  show _=if ds[i]=es[i] then lexLt (ds.drop (i+1)) (es.drop (i+1)) else decide (ds[i]<es[i])
  by_cases c:ds[i]=es[i]
  ·rw [if_pos c,if_pos (by simpa using c)]
  ·rw [if_neg c,if_neg (by simpa using c)]
def IW (H:Hp) (ps:List KI) (zs:List (List Int)):Prop:=MZ (fun p z=>Rd H p (.lst (z.map V.int))) ps zs
def BV (K:KC):List V→Hp→VK→Prop:=fun xs H Q=>∃ (a:KI) (ps:List KI) (zs:List (List Int)),xs=[.ref a]∧dA K H a (ps.map V.ref)∧IW H ps zs∧2≤zs.length∧zs.length<800 ∧
 ∀ idx:List Nat,idx.Perm (KW zs.length)→(idx.Pairwise fun i j=>lexLt (zs.getD j []) (zs.getD i [])=false)→∀ D,H D=none→Q (.ref D) (upd H D (.lst (idx.map fun i=>V.ref (ps.getD i 0))))
variable {X:Cx} {K:KC}
theorem xY {k:Nat} (hK:X.K=K) (hx:X.ex=[]) (hr:fg k X.A):cP X (.builtin "sorted") (BV K):=by
 subst hK
 intro pins s σ H xs us Q I r h
 obtain ⟨a,ps,zs,rfl,hq,tz,h2,h64,q⟩:=h
 cases r with
 | cons r1 r =>
  cases r
  cases (show _=LM a from r1)
  obtain ⟨its,rv,pl,_⟩:=I.list hq
  have ei:=tE rv
  subst ei
  have hl:ps.length=zs.length:=MT tz
  have at_:∀ i,i<zs.length→∃ p z,ps[i]?=some p∧zs[i]?=some z∧Rd H p (.lst (z.map V.int)):=fun i hi=>by
   obtain ⟨p,e1,g1⟩:=VL.Paired.xO tz (Kv hi)
   exact ⟨p,_,e1,Kv hi,g1⟩
  have eqz:∀ {p:KI} {y z:List Int},Rd H p (.lst (y.map V.int))→Rd H p (.lst (z.map V.int))→y=z:=fun {p y z} a b=>by
   obtain ⟨_,us,n,k1,_,o1⟩:=I.kT a
   obtain ⟨_,us',n',k1',_,o1'⟩:=I.kT b
   rw [o1] at o1'
   have eu:us=us':=by
    injection o1' with q
    injection q with _ _ q
    injection q with q _
    exact SE q
   subst eu
   exact vB (intsAre_of k1) (intsAre_of k1')
  have it:∀ (h':ME),(∀ b o,s.heap.get? b=some o→h'.get? b=some o)→∀ i,i<zs.length→∃ p z us n,ps[i]?=some p∧zs[i]?=some z∧h'.get? p=some { cls:=.type "list", data:=.seq us.toArray n }∧OA us z:=fun h' kp i hi=>by
   obtain ⟨p,z,e1,e2,g⟩:=at_ i hi
   obtain ⟨_,us,n,k1,_,o1⟩:=I.kT g
   exact ⟨p,z,us,n,e1,e2,kp _ _ o1,intsAre_of k1⟩
  have gat:∀ i p,ps[i]?=some p→(ps.map LM).getD i MO=.ref p:=fun i p e=>by rw [Ku,KO,e]; rfl
  have zat:∀ i z,zs[i]?=some z→zs.getD i []=z:=fun i z e=>by rw [Ku,e]; rfl
  have hline:KH=16777216:=Lv
  refine Tm.zT (vs:=ps.map LM) (lt:=fun i j=>lexLt (zs.getD i []) (zs.getD j [])) pl.isList (by rw [Kw]; omega) (by rw [Kw]; omega) (fun g kp=>⟨oneType',fun Q' hq=>PySem.W.kas_kind (T:=.type "list") (by rw [Kw]; omega) (fun v hv=>?_) (by decide) (by decide) hq,tY fun i=>zs.getD i [],fun i j hi hj e=>?_,fun i j C hi hj hC=>?_⟩) fun p g D c pm up big hD kp=>?_
  ·obtain ⟨p,hp,rfl⟩:=K5.mp hv
   obtain ⟨i,hi,rfl⟩:=Oy.mp hp
   obtain ⟨p',z,us,n,e1,e2,o1,_⟩:=it g kp i (by omega)
   rw [Kv hi] at e1
   cases e1
   exact (PySem.W.Looks.ld o1).andThen PySem.W.Looks.now
  ·rw [Kw] at hi hj
   obtain ⟨p,z,e1,e2,r1⟩:=at_ i (by omega)
   obtain ⟨p',z',e1',e2',r1'⟩:=at_ j (by omega)
   rw [gat i p e1,gat j p' e1'] at e
   cases e
   intro k
   rw [zat i z e2,zat j z' e2',eqz r1 r1']
   exact ⟨rfl,rfl⟩
  ·rw [Kw] at hi hj
   obtain ⟨p,z,us,n,e1,e2,k1,k4⟩:=it g kp i (by omega)
   obtain ⟨p',z',us',n',e1',e2',k1',k4'⟩:=it g kp j (by omega)
   rw [gat i p e1,gat j p' e1']
   rw [zat i z e2,zat j z' e2'] at hC
   have l1:=NV k4
   have l2:=NV k4'
   rw [PyProof.Rows.keyLt'_oneType]
   have iat:∀ {us:List KD} {z:List Int},OA us z→∀ j (h:j<us.toArray.size),∃ t,us.toArray[j]=.int (z.getD j 0) t:=fun {us z} k j h=>by
    have rk:=lX k
    have hj:j<z.length:=by rw [KQ] at h; have:=NV k; omega
    have e:(z.map V.int)[j]?=some (.int (z.getD j 0)):=by rw [KO,Ku,Kv hj]; rfl
    obtain ⟨u,eu,t,rfl⟩:=rk.get e
    refine ⟨t,?_⟩
    have:us[j]?=some us[j]:=Kv (by simpa using h)
    rw [this] at eu
    simpa using eu
   refine SeqAt.xu (items:=us.toArray) (items2:=us'.toArray) (e:=fun j=>z.getD j 0==z'.getD j 0) (lt:=fun j=>decide (z.getD j 0<z'.getD j 0)) ⟨_,k1,rfl,_,rfl⟩ ⟨_,k1',rfl,_,rfl⟩ (by have:=hr.un; show X.A.units+1+1 < _; omega) (fun j h1 h2=>?_) (fun j h1 h2 _=>?_) ?_
   ·obtain ⟨t,e⟩:=iat k4 j h1
    obtain ⟨t',e'⟩:=iat k4' j h2
    rw [e,e']
    exact OL _ t _ t'
   ·obtain ⟨t,e⟩:=iat k4 j h1
    obtain ⟨t',e'⟩:=iat k4' j h2
    rw [e,e']
    exact SeqAt.Bb.ints _ _ t t'
   ·rw [KQ,KQ,l1,l2,nJ z z' (min z.length z'.length) 0 (LL _) rfl]
    exact hC
  ·rw [Kw,hl] at pm
   have lt_:∀ i∈p,i<zs.length:=fun i hi=>Lw.mp (pm.mem_iff.mp hi)
   have hlen:p.length=zs.length:=by rw [pm.length_eq,K7]
   have eo:(p.map fun i=>(ps.map LM).getD i MO)=(p.map fun i=>ps.getD i 0).map LM:=by
    rw [K6]
    refine LH fun i hi=>?_
    have h1:i<ps.length:=by rw [hl]; exact lt_ i hi
    rw [gat i _ (Kv h1)]
    show _=LM (ps.getD i 0)
    rw [Ku,Kv h1]
    rfl
   have ev:(p.map fun i=>V.ref (ps.getD i 0))=(p.map fun i=>ps.getD i 0).map V.ref:=by rw [K6]; rfl
   rw [eo] at hD
   have I3:=I.laid (a:=D) (o:=.lst (p.map fun i=>V.ref (ps.getD i 0))) (t':=s.toks) kp big ⟨by rw [Kw,hlen]; omega,(p.map fun i=>ps.getD i 0).map LM,c,by rw [ev]; exact rm _,hD⟩
   exact ⟨.ref D,_,I3,rfl,q p pm up D (I.cu.fresh big)⟩
def BU (K:KC):List V→Hp→VK→Prop:=fun xs H Q=>BV K xs H Q∨Gv K xs H Q
theorem sk {k:Nat} (hK:X.K=K) (hx:X.ex=[]) (hr:fg k X.A):cP X (.builtin "sorted") (BU K):=cP.or (xY hK hx hr) (vU hK)
end L2
namespace VL
variable {a:DE} {ρ:aF} {zs:List (List Int)} {idx:List Nat} {ta:TE} {α:Type} {cs:List Nat}
open PySem L2
section
open Classical
noncomputable section
variable [bD] {K:KC}
def ft (z:List Int):D:=.lst (z.map D.int)
omit [bD] in
theorem Cp (a b:List Int) (h:ft a=ft b):a=b:=by
 unfold ft at h
 injection h with h
 exact j4 h
noncomputable def lz (a:DE):aF→Option (List D):=fun ρ=>match iG a ρ with
 | some ds=>if h:∃ zs:List (List Int),ds=zs.map ft∧zs.length<800 then some ((gS h.choose).map ft) else none
 | none=>none
omit [bD] in
theorem vO (e:iG a ρ=some (zs.map ft)) (hl:zs.length<800):lz a ρ=some ((gS zs).map ft):=by
 have h:∃ zs':List (List Int),zs.map ft=zs'.map ft∧zs'.length<800:=⟨zs,rfl,hl⟩
 unfold lz
 rw [e]
 show (if h:∃ zs':List (List Int),zs.map ft=zs'.map ft∧zs'.length<800 then some ((gS h.choose).map ft) else none)=_
 rw [dif_pos h,← (List.map_inj_right Cp).mp h.choose_spec.1]
omit [bD] in
theorem qD {ds:List D} (q:lz a ρ=some ds):∃ zs,iG a ρ=some (zs.map ft)∧zs.length<800∧ds=(gS zs).map ft:=by
 unfold lz at q
 split at q
 ·rename_i es e
  split at q
  ·rename_i h
   cases q
   exact ⟨h.choose,by rw [e]; exact congrArg some h.choose_spec.1,h.choose_spec.2,rfl⟩
  ·cases q
 ·cases q
theorem p7 {H:Hp} {T:KI→Prop}:∀ {zs:List (List Int)} {vs:List V},IsL K H T vs (zs.map ft)→∃ ps:List KI,vs=ps.map V.ref∧IW H ps zs
 | [],_,.nil=>⟨[],rfl,.nil⟩
 | z::zs,_,.cons h r=>by
  obtain ⟨ps,rfl,hp⟩:=p7 r
  obtain ⟨p,us,rfl,hz,hr,hl,i⟩:=(show Is K H T _ (.lst (z.map D.int)) from h).p8
  have e:=IsL.ints i
  subst e
  exact ⟨p::ps,rfl,.cons hr hp⟩
omit [bD] in
theorem uW (pm:idx.Perm (KW zs.length)) (up:idx.Pairwise fun i j=>L2.lexLt (zs.getD j []) (zs.getD i [])=false):idx.map (fun i=>zs.getD i [])=gS zs:=by
 refine rE ?_ ?_
 ·have:=pm.map fun i=>zs.getD i []
  rw [range_getD] at this
  exact this
 ·exact MS.mpr up
omit [bD] in
theorem uX (h:¬ 2≤zs.length):zs=gS zs:=by
 refine rE (P0 _) ?_
 match zs,h with
 | [],_=>exact .nil
 | [z],_=>exact .cons (fun _ h=>by cases h) .nil
 | _::_::_,h=>exact absurd (by simp) h
theorem rY {H:Hp} {T:KI→Prop} {ps:List KI} (il:IsL K H T (ps.map V.ref) (zs.map ft)) (hi:∀ i∈idx,i<zs.length):IsL K H T (idx.map fun i=>V.ref (ps.getD i 0)) ((idx.map fun i=>zs.getD i []).map ft):=by
 have hl:=il.length
 rw [Kw,Kw] at hl
 have:=yY il (idx:=idx) (fun i h=>by rw [Kw]; exact hi i h)
 have e1:(idx.map fun i=>(ps.map V.ref).getD i .non)=idx.map fun i=>V.ref (ps.getD i 0):=LH fun i h=>by
  have:=hi i h
  rw [Ku,KO,Kv (by omega),Ku,Kv (by omega)]; rfl
 have e2:(idx.map fun i=>(zs.map ft).getD i .non)=(idx.map fun i=>zs.getD i []).map ft:=by
  rw [K6]
  exact LH fun i h=>by
   have:=hi i h
   show (zs.map ft).getD i .non=ft (zs.getD i [])
   rw [Ku,KO,Kv (by omega),Ku,Kv (by omega)]; rfl
 rw [e1,e2] at this
 exact this
theorem D7 (ha:af K ta a):ck K (uR (BU K) (cf ta eC)) (lz a):=fun {B Z os ρ σ H Q ds} f q k=>by
 obtain ⟨zs,e,hl,rfl⟩:=qD q
 obtain ⟨d,e,ed⟩:=jb e
 refine ha f e fun v H1 s1 i1=>?_
 obtain ⟨p,vs,rfl,hlv,hn,hr⟩:=i1.seq ed
 obtain ⟨hq,il⟩:=hr H1 _ Kp.refl
 obtain ⟨ps,rfl,hp⟩:=p7 il
 have hpl:ps.length=zs.length:=MT hp
 have hs:KH=16777216:=Lv
 by_cases h2:2≤zs.length
 ·refine .inl ⟨p,ps,zs,rfl,hq,hp,h2,hl,fun idx pm up D hD=>?_⟩
  have lt_:∀ i∈idx,i<zs.length:=fun i hi=>Lw.mp (pm.mem_iff.mp hi)
  have il2:=rY il lt_
  rw [uW pm up] at il2
  refine k D _ _ (s1.trans (bG hD)) (aL.free s1 hD) aC ?_ (il2.kp (iS hD))
  rw [Kw,pm.length_eq,K7]; omega
 ·refine .inr ⟨p,ps.map V.ref,rfl,hq,by rw [Kw,hpl]; omega,fun D hD=>?_⟩
  rw [← uX h2] at k
  exact k D _ _ (s1.trans (bG hD)) (aL.free s1 hD) aC (by rw [Kw,hpl]; omega) (il.kp (iS hD))
theorem DX (ha:FT K ta a):g7 K false (vC K (uR (BU K) (cf ta eC))) (lz a):=fun {B Z os ρ σ H R ds} f q k=>by
 obtain ⟨zs,e,hl,rfl⟩:=qD q
 obtain ⟨d,e,ed⟩:=jb e
 refine ha f e fun v H1 s1 i1=>?_
 obtain ⟨p,vs,rfl,hlv,hn,hr⟩:=i1.seq ed
 obtain ⟨hqB,ilB⟩:=hr B No Kp.refl
 obtain ⟨hq,il⟩:=hr H1 No (Kp.same (f.keep.trans s1))
 obtain ⟨ps,rfl,hp⟩:=p7 il
 have hpl:ps.length=zs.length:=MT hp
 have hs:KH=16777216:=Lv
 have f1:=f.grow s1
 have new:∀ (D:KI) (vs':List V),H1 D=none→IsL K B No vs' ((gS zs).map ft)→∃ q,V.ref D=.ref q∧(∃ xs,dA K (upd H1 D (.lst vs')) q xs)∧R (Ji K q) (upd H1 D (.lst vs')):=fun D vs' hD il'=>by
  have nt:¬ bS Z os D:=fun z=>by obtain ⟨o,e⟩:=f1.Bc D z; rw [hD] at e; cases e
  have hln:vs'.length=((gS zs).map ft).length:=il'.length
  refine ⟨D,rfl,⟨vs',dA.of aC⟩,k _ _ (s1.trans (bG hD)) (lW (vs:=vs') (by rw [Kw,(eF zs).length_eq]; omega) (fun H2 T2 kp sb=>?_) hln fun H2 T2 i v d kp sb e1 e2=>?_)⟩
  ·exact dA.of (kp D _ aC nt).1
  ·obtain ⟨v',g1,i2⟩:=il'.get e2
   rw [e1] at g1
   cases g1
   exact i2
 by_cases h2:2≤zs.length
 ·refine .inl ⟨p,ps,zs,rfl,hq,hp,h2,hl,fun idx pm up D hD=>?_⟩
  have lt_:∀ i∈idx,i<zs.length:=fun i hi=>Lw.mp (pm.mem_iff.mp hi)
  have il2:=rY ilB lt_
  rw [uW pm up] at il2
  exact new D _ hD il2
 ·refine .inr ⟨p,ps.map V.ref,rfl,hq,by rw [Kw,hpl]; omega,fun D hD=>?_⟩
  refine new D _ hD ?_
  rw [← uX h2]
  exact ilB
end
end
section
open Classical
noncomputable section
variable [bD] {K:KC}
def Je (cs:List Nat) (ρ:aF) (d:D):aF:=(r0 1 cs ρ).set 0 (.bo d)
def qS {α:Type} (kf:α→List Int) (xs:List α):List α:=xs.mergeSort fun x y=>!L2.lexLt (kf y) (kf x)
omit [bD] in
theorem mq (kf:α→List Int) (xs:List α):(qS kf xs).Perm xs:=RI _ _
omit [bD] in
theorem yv (kf:α→List Int) (xs:List α):(qS kf xs).Pairwise fun a b=>L2.lexLt (kf b) (kf a)=false:=by
 have h:=Qz (le:=fun x y=>!L2.lexLt (kf y) (kf x)) (fun a b c h1 h2=>by
  rw [Sk] at h1 h2 ⊢
  exact tX _ _ _ h1 h2) (fun a b=>by
  cases e:L2.lexLt (kf b) (kf a) with
  | false=>rfl
  | true=>simp [tZ _ _ e]) xs
 exact h.imp fun h=>by simpa using h
omit [bD] in
theorem yQ {α:Type} {kf:α→List Int}:∀ {xs:List α},(xs.map kf).Nodup→∀ {a b:α},a∈xs→b∈xs→kf a=kf b→a=b
 | d::ds,h,a,b,ha,hb,e=>by
  rw [Ld] at h
  obtain ⟨h1,h2⟩:=La.mp h
  rcases KP.mp ha with ea | ha2
  ·rcases KP.mp hb with eb | hb2
   ·rw [ea,eb]
   ·exact absurd (show kf d∈ds.map kf from K5.mpr ⟨b,hb2,by rw [← e,ea]⟩) h1
  ·rcases KP.mp hb with eb | hb2
   ·exact absurd (show kf d∈ds.map kf from K5.mpr ⟨a,ha2,by rw [e,eb]⟩) h1
   ·exact yQ h2 ha2 hb2 e
omit [bD] in
theorem mn {kf kg:α→List Int} {xs ds:List α} (hk:∀ d∈ds,kf d=kg d) (hn:(ds.map kf).Nodup) (p:xs.Perm ds) (h:xs.Pairwise fun a b=>L2.lexLt (kg b) (kg a)=false):xs=qS kf ds:=by
 refine Qo (le:=fun a b=>L2.lexLt (kf b) (kf a)=false) (fun a b ha hb h1 h2=>yQ hn (p.mem_iff.mp ha) ((mq kf ds).mem_iff.mp hb) (xH _ _ h2 h1)) ?_ (yv kf ds) (p.trans (mq kf ds).symm)
 refine NN (fun {a b} ha hb z=>?_) h
 rw [hk a (p.mem_iff.mp ha),hk b (p.mem_iff.mp hb)]
 exact z
@[irreducible] noncomputable def pB (i:Nat) (cs:List Nat) (e:DE):DS:=fun ρ=>match ρ.getD i .un with
 | .om rows=>if h:∃ kf:List D→List Int,(∀ r∈rows,e (Je cs ρ (.lst r))=some (zG (kf r))∧kf r≠[])∧(rows.map kf).Nodup∧rows.length<800 then .rt (rL (qS h.choose rows)) else .no
 | _=>.no
omit [bD] in
theorem Bm {i:Nat} {e:DE} {rows:List (List D)} {W:Wk} (kf:List D→List Int) (h0:ρ.getD i .un=.om rows) (hk:∀ r∈rows,e (Je cs ρ (.lst r))=some (zG (kf r))∧kf r≠[]) (hn:(rows.map kf).Nodup) (hl:rows.length<800) (k:W.rt (rL (qS kf rows))):Wp (pB i cs e) ρ W:=by
 have hh:∃ kf:List D→List Int,(∀ r∈rows,e (Je cs ρ (.lst r))=some (zG (kf r))∧kf r≠[])∧(rows.map kf).Nodup∧rows.length<800:=⟨kf,hk,hn,hl⟩
 have es:qS hh.choose rows=qS kf rows:=by
  refine mn (kg:=hh.choose) (fun d hd=>?_) hn (mq _ _) (yv _ _)
  have h1:=(hk d hd).1
  rw [(hh.choose_spec.1 d hd).1] at h1
  exact (Bs _ _ (Lz h1)).symm
 unfold Wp pB
 rw [h0]
 dsimp only
 rw [dif_pos hh,es]
 exact k
theorem BC {P:KI} {q:LV} {i:Nat} {te:TE} {e:DE} (hP:(P,q)∈bD.ts) (he:af K te e):dD .m K (Gb (Bw K P q (mf i) te cs)) (pB i cs e):=fun {B Z os ρ σ H E} f p=>by
 unfold pB at p
 split at p
 ·rename_i rows e0
  split at p
  ·rename_i hh
   obtain ⟨hk,hn,hl⟩:=hh.choose_spec
   generalize hh.choose=kf at *
   obtain ⟨a,ps,eo,hu,hH,hls,hpl,pr⟩:=Cc f e0
   have hs:KH=16777216:=Lv
   obtain ⟨t,eP⟩:=f.kA _ hP
   refine ⟨_,join_some hu,a,ps.map V.ref,_,t,rfl,dA.of hH,by rw [Kw]; omega,eP,rfl,fun H2 gr=>?_⟩
   have hnd:=f.nd i
   rw [eo] at hnd
   obtain ⟨hna,hnp⟩:=La.mp hnd
   have hin:∀ q∈ps,q∈os i:=fun q hq=>by rw [eo]; exact Kx _ hq
   have key:∀ (r:List KI) (rr dd:List (List D)) (pk:List KI) (H3:Hp),aL H H3→MZ (fun p ds=>∃ vs,H p=some (.lst vs)∧vs.length≤KH∧IsL K H (bS Z os) vs ds) r rr→dd++rr=rows→HC H3 pk (dd.map kf)→kX te (cs.map fun i=>(σ[i]?).join) (wo (ps.map V.ref) E.rt) (r.map V.ref) (pk.map V.ref) H3:=by
    intro r
    induction r with
    | nil =>
     intro rr dd pk H3 s3 pr3 hd tz
     cases pr3
     rw [Mb] at hd
     subst hd
     refine ⟨pk,dd.map kf,rfl,tz,fun idx pm up Dn hD=>?_⟩
     rw [Kw] at pm
     have lt_:∀ i∈idx,i<dd.length:=fun i hi=>Lw.mp (pm.mem_iff.mp hi)
     have er:∀ {α:Type} (l:List α) (d:α),(KW l.length).map (fun i=>l.getD i d)=l:=fun l d=>by
      refine MN (by simp) fun i h1 h2=>?_
      simp [h2]
     have ex:idx.map (fun i=>dd.getD i [])=qS kf dd:=by
      refine mn (kg:=kf) (fun _ _=>rfl) hn ?_ ?_
      ·have:=pm.map fun i=>dd.getD i []
       rw [er] at this
       exact this
      ·rw [MS]
       refine NN (fun {i j} hi hj z=>?_) up
       have gi:∀ i,i<dd.length→(dd.map kf).getD i []=kf (dd.getD i []):=fun i hi=>by
        rw [Ku,KO,Kv hi,Ku,Kv hi]; rfl
       rw [gi _ (lt_ i hi),gi _ (lt_ j hj)] at z
       exact z
     have ep:(idx.map fun i=>(ps.map V.ref).getD i .non)=(idx.map fun i=>ps.getD i 0).map V.ref:=by
      rw [K6]
      exact LH fun i hi=>by
       have:=lt_ i hi
       show (ps.map V.ref).getD i .non=V.ref (ps.getD i 0)
       rw [Ku,KO,Kv (by omega),Ku,Kv (by omega)]; rfl
     have pp:(idx.map fun i=>ps.getD i 0).Perm ps:=by
      have:=pm.map fun i=>ps.getD i 0
      rw [← hpl,er] at this
      exact this
     have hHD:H Dn=none:=aL.free s3 hD
     have hBD:B Dn=none:=aL.free f.keep hHD
     have hDp:Dn∉idx.map fun i=>ps.getD i 0:=fun z=>by
      have:=pp.mem_iff.mp z
      obtain ⟨j,hj,e'⟩:=Oy.mp this
      obtain ⟨x',ex0,vs',hv,_⟩:=VL.Paired.xO pr (Kv (show j<dd.length by omega))
      rw [Kv hj,e'] at ex0
      rw [← Lz ex0] at hv
      rw [hHD] at hv; cases hv
     refine p _ _ (f.keep.trans (s3.trans (bG hD))) ⟨Dn,idx.map fun i=>ps.getD i 0,qS kf dd,rfl,rfl,hBD,fun x hx=>(f.new i x (hin x (pp.mem_iff.mp hx))).1,La.mpr ⟨hDp,pp.nodup_iff.mpr hnp⟩,by rw [ep]; exact aC,by rw [pp.length_eq]; exact hls,?_⟩
     rw [← ex]
     have pick:∀ (l:List Nat),(∀ i∈l,i<dd.length)→MZ (fun x ds=>∃ vs,upd H3 Dn (.lst (idx.map fun i=>(ps.map V.ref).getD i .non)) x=some (.lst vs)∧vs.length≤KH∧IsL K (upd H3 Dn (.lst (idx.map fun i=>(ps.map V.ref).getD i .non))) (fun b=>(b=Dn∨b∈idx.map fun i=>ps.getD i 0)∨Z b) vs ds) (l.map fun i=>ps.getD i 0) (l.map fun i=>dd.getD i []):=by
      intro l
      induction l with
      | nil=>intro _; exact .nil
      | cons j l ih =>
       intro hl'
       have hj:=hl' j Ky
       obtain ⟨x,ex',vs,h1,h2,h3⟩:=VL.Paired.xO pr (Kv hj)
       refine .cons ?_ (ih fun i hi=>hl' i (Kx _ hi))
       have e1:ps.getD j 0=x:=by rw [Ku,ex']; rfl
       have e2:dd.getD j []=dd[j]:=by rw [Ku,Kv hj]; rfl
       dsimp only
       rw [e1,e2]
       have kp:Kp (bS Z os) H (fun b=>(b=Dn∨b∈idx.map fun i=>ps.getD i 0)∨Z b) (upd H3 Dn (.lst (idx.map fun i=>(ps.map V.ref).getD i .non))):=fun b o hb nb=>by
        have nD:b≠Dn:=fun z=>by rw [z,hHD] at hb; cases hb
        refine ⟨by rw [av nD]; exact s3 _ _ hb,fun z=>?_⟩
        rcases z with (z | z) | z
        ·exact nD z
        ·exact nb (.inr ⟨i,hin b (pp.mem_iff.mp z)⟩)
        ·exact nb (.inl z)
       have nx:x≠Dn:=fun z=>by rw [z,hHD] at h1; cases h1
       exact ⟨vs,by rw [av nx]; exact s3 _ _ h1,h2,h3.kp kp⟩
     exact pick idx lt_
    | cons x r ih =>
     intro rr dd pk H3 s3 pr3 hd tz
     cases pr3 with
     | @cons _ d _ rr' g pr' =>
      obtain ⟨vs,h1,h2,h3⟩:=g
      have hdm:d∈rows:=by rw [← hd]; exact KA _ Ky
      have ef:=vY (k:=1) (cs:=cs) f s3 (W:=bS Z os) (fun a z=>let ⟨o,e⟩:=f.Bc a z; ⟨o,s3 _ _ e⟩) (Kp.same s3)
      have hg:we K false (jO 0) (gN false 0):=aD 0
      have er:ER K false H H3 (bS (bS Z os) fun _=>[]) (.ref x) (.lst d):=.lst (fun z=>z) (.inl h1) h2 (h3.kp (Kp.less fun _ z=>z.elim))
      refine hg (Q:=fun σ2 H2=>te σ2 H2 fun k H'=>DA H3 H'∧kX te (cs.map fun i=>(σ[i]?).join) (wo (ps.map V.ref) E.rt) (r.map V.ref) (pk.map V.ref++[k]) H') ef er (show gN false 0 (.lst d) (r0 1 cs ρ)=some (Je cs ρ (.lst d)) from rfl) fun os1 σ1 fr1 _=>?_
      refine he fr1 (hk d hdm).1 fun u H4 s4 i4=>⟨s4,?_⟩
      obtain ⟨p4,us,rfl,_,hr4,_,iu⟩:=(show Is K H4 _ u (.tup ((kf d).map D.int)) from i4).isTup
      have eu:=IsL.ints iu
      subst eu
      have em:pk.map V.ref++[V.ref p4]=(pk++[p4]).map V.ref:=by rw [Li]; rfl
      rw [em]
      refine ih rr' (dd++[d]) (pk++[p4]) H4 (s3.trans s4) pr' (by rw [Lx]; exact hd) ?_
      rw [Li]
      exact Paired.append (Paired.mono tz fun p z _ hz=>⟨hz.1,s4 _ _ hz.2⟩) (.cons ⟨(hk d hdm).2,hr4⟩ .nil)
   exact key ps rows [] [] H2 gr pr rfl .nil
  ·exact p.elim
 ·exact p.elim
end
end
section
open Classical
noncomputable section
variable [bD] {K:KC}
theorem eA.Jt {fr:Fm} {P:L0} {w:L9} {mg:LV→Option KD} {base:ME} {x qual:LV} {st:NZ} {f:KI} {fd:LX} {N ps:List LV} {k:Nat} (F:eA K x qual st f fd) (S:aZ N ps (aB st)) (ms:List Bool) (hms:ms.length=ps.length) (b:DS)
 (hbody:∀ (cdv:KD),fd.code=cdv→∀ (A:L4) (outer:List SU) (s:KJ) (H:Hp) (E:XK),fg k (A.deeper (RG qual (aB st) s.heap.objs.size f cdv)) →
  ∃ t,wt (ur jJ P w K mg base N qual (aB st) f cdv A outer s H E).Fy (fK st) t∧dD fr K t b) (hfr:∀ E C,fr≠.x E C:=by intro _ _ h; cases h):df P w K mg base jJ (k+1) f fd ps (nu fr K ms (z0 N.length ms b)):=by
 refine L2.eA.Kd F S (fun vs H Q E h=>?_) (fun cdv hcd A outer s H vs Q E hr h=>?_)
 ·obtain ⟨Z,ds,d,hz,a,_⟩:=h
  rw [a.len.1,hms]
 ·obtain ⟨Z,ds,d,hz,a,e,k⟩:=h
  obtain ⟨t,h1,h2⟩:=hbody cdv hcd A outer s H E hr
  refine ⟨t,h1,h2 (yr hz a) ?_⟩
  unfold z0 at e
  split at e
  ·rename_i d' e1
   cases e
   rw [e1]
   cases fr with
   | v=>exact fun v H' s' i=>k v H' s' i
   | l=>exact fun v H' s' i=>k v H' s' i
   | m=>exact fun v H' s' i=>k v H' s' i
   | x E0 C=>exact absurd rfl (hfr E0 C)
  ·cases e
end
end
end VL
namespace L2
open PySem PySem.Spec PyProof.Rows VL
def Rs (xs:Array Nat):Prop:=xs.toList.Pairwise (· < ·)
structure Ki (led:Bool) (t:SetTable):Prop where
 led:t.led=led
 up:Rs t.place
structure Once (val:Nat→Int) (i:Nat) (ks:List Int):Prop where
 nd:ks.Nodup
 mem:∀ x,x∈ks↔∃ j,j<i∧val j=x
 len:ks.length≤i
end L2
namespace VL
variable {kvs:List (Int×Int)}
open PySem L2
section
open Classical
noncomputable section
variable [bD] {K:KC}
omit [bD] in
end
end
section
open Classical
noncomputable section
variable [bD] {K:KC} {fr:Fm}
def getZ (kvs:List (Int×Int)) (k:Int):Option Int:=(kvs.find? fun p=>decide (p.1=k)).map (·.2)
def jD (kvs:List (Int×Int)) (k v:Int):List (Int×Int):=if kvs.any (fun p=>decide (p.1=k)) then kvs.map fun p=>if p.1=k then (p.1,v) else p else kvs++[(k,v)]
omit [bD] in
theorem oi (k:Int):∀ kvs:List (Int×Int),L2.lY (kvs.map rb) (.inl k)=(getZ kvs k).map V.int
 | []=>rfl
 | p::r=>by
  rw [Ld]
  by_cases e:p.1=k
  ·rw [L2.iH (show (rb p).1=.inl k by show Oh p.1=_; rw [e])]
   unfold getZ
   rw [List.find?_cons_of_pos (by simpa using e)]
   rfl
  ·rw [L2.iI (show ¬ (rb p).1=.inl k from fun z=>e (Pj z)),oi k r]
   unfold getZ
   rw [List.find?_cons_of_neg (by simpa using e)]
theorem Is.II {H:Hp} {Z:KI→Prop} {v:V} (h:Is K H Z v (.dct kvs)):∃ a,v=.ref a∧Rd H a (.dK (kvs.map rb))∧kvs.length≤KH:=by
 cases h with
 | dct hz h hl=>exact ⟨_,rfl,h,hl⟩
noncomputable def lD (a b:DE):DE:=fun ρ=>match a ρ,b ρ with
 | some (.dct kvs),some (.int k)=>(getZ kvs k).map D.int
 | _,_=>none
omit [bD] in
theorem EL {a b:DE} {ρ:aF} {k v:Int} (ha:a ρ=some (.dct kvs)) (hb:b ρ=some (.int k)) (h:getZ kvs k=some v):lD a b ρ=some (.int v):=by unfold lD; rw [ha,hb]; dsimp only; rw [h]; rfl
theorem yA {ta tb:TE} {a b:DE} (ha:aO K ta a) (hb:aO K tb b):af K (Fh ta tb) (lD a b):=fun {B Z os ρ σ H Q d} f q k=>by
 unfold lD at q
 split at q
 ·rename_i kvs i e1 e2
  obtain ⟨v,ev,rfl⟩:=LO.mp q
  refine ha f e1 fun w H1 s1 i1=>hb (f.grow s1) e2 fun u H2 s2 i2=>?_
  cases (i2.isInt)
  obtain ⟨x,rfl,rd,_⟩:=(i1.same s2).II
  refine ⟨x,.int v,rfl,.inl ⟨_,.inl i,rd,rfl,?_⟩,k _ _ (s1.trans s2) (.int _)⟩
  rw [oi,ev]; rfl
 ·cases q
end
end
section
open Classical
noncomputable section
variable [bD] {K:KC} {fr:Fm}
theorem zp (k:Int):∀ kvs:List (Int×Int),((kvs.map rb).any fun kv=>decide (kv.1=Oh k))=kvs.any fun p=>decide (p.1=k)
 | []=>rfl
 | p::r=>by
  rw [Ld,Od,Od,zp k r]
  have e:decide ((rb p).1=Oh k)=decide (p.1=k):=by
   rw [LY,decide_eq_true_iff,decide_eq_true_iff]
   exact ⟨fun h=>Pj h,fun h=>by show Oh p.1=_; rw [h]⟩
  rw [e]
omit [bD] in
theorem yJ (kvs:List (Int×Int)) (k v:Int):L2.putK (kvs.map rb) (.inl k) (.int v)=(jD kvs k v).map rb:=by
 unfold L2.putK jD
 rw [zp]
 split
 ·rw [K6,K6]
  refine LH fun p _=>?_
  show (if (rb p).1=Oh k then ((rb p).1,V.int v) else rb p)=rb (if p.1=k then (p.1,v) else p)
  by_cases e:p.1=k
  ·rw [if_pos e,if_pos (by show Oh p.1=_; rw [e])]; rfl
  ·rw [if_neg e,if_neg (show ¬ (rb p).1=Oh k from fun z=>e (Pj z))]
 ·rw [Li]; rfl
omit [bD] in
theorem vd (kvs:List (Int×Int)) (k v:Int):(jD kvs k v).length≤kvs.length+1:=by
 unfold jD
 split
 ·rw [Kw]; omega
 ·rw [K0,Me]; omega
end
end
section
open Classical
noncomputable section
variable [bD] {K:KC}
def Jn:List D→Option (List Int)
 | []=>some []
 | .int n::r=>(Jn r).map (n::·)
 | _=>none
omit [bD] in
end
end
end VL
namespace L2
open PySem PySem.Spec PyProof.Rows VL
structure Kq (K:KC) (C:KI):Prop where
 makes:SI K C=true
 init:M4 K (.ref C) "__init__" = some (some (.builtin "object.__init__"))
 kp:Oj K (.ref C)=true
section
variable {X:Cx}
inductive HJ (X:Cx) (m:LV):List (KI×Sp)→Prop
 | nil:HJ X m []
 | cons {C f:KI} {fd:LX} {ps:List LV} {sp:Sp} {k:Nat} {tbl:List (KI×Sp)} (c:IZ X.K C) (hm:Meth X.K C m f) (F:df X.prog X.w X.K X.mg X.base jJ k f fd ps sp) (hr:fg k X.A) (hb:Binds X.K fd ps []) (r:HJ X m tbl):HJ X m ((C,sp)::tbl)
structure JR (K:KC) (C:KI):Prop where
 cl:IZ K C
 ha:M4 K (.ref C) "__class__" = some (some (.builtin "object.__class__"))
 hn:OW K (.builtin "object.__class__") "__get__" = some (some (.builtin "getset_descriptor.__get__"))
 JB:QZ K (.builtin "object.__class__")=some true
 hm:Qh K C (.type "object")=some true
end
end L2
namespace VL
open PySem L2
section
open Classical
noncomputable section
variable [bD] {K:KC} {ta tb:TE} {a b:DE}
inductive KTab (K:KC) (c:KI):List (KI×Bool)→Prop
 | nil:KTab K c []
 | cons {C:KI} {b:Bool} {r:List (KI×Bool)} (k:JR K C) (e:Ol K (.ref C) (.ref c)=some b) (h:KTab K c r):KTab K c ((C,b)::r)
end
end
end VL
namespace PySem.SeqAt
open AutoSeq1 (wpAny_loadPart')
section
open MeetsSeq MeetsSeq2 MeetsSeq3
def uE (A:L4) (s:KJ) (y x:KD) (b:Bool):Prop :=
 ∀ (prog:L0) (w:L9) (E:KD→KJ→Prop) (Q:KD→KJ→Prop),Q (.bool b) s→Lh (model prog w) A (SG .LtE y x) Q E s
theorem Aw (l b:KI) (items items2:Array KD) (n n2:Nat) (dd dd2:Option KI) (sl sl2:Array (Option KD)) (e lt:Nat→Bool) (k:Nat) :
 ∀ i:Nat,i≤min items.size items2.size→min items.size items2.size-i=k→Meets (NF.«list.__eq__.loop» ⟨[.ref l,.ref b,Su i,Su 1],[]⟩)
  (fun A R s=>s.heap.get? l=some { cls:=.type "list", dict:=dd,data:=.seq items n,slots:=sl }∧s.heap.get? b=some { cls:=.type "list", dict:=dd2,data:=.seq items2 n2,slots:=sl2 } ∧
   (∀ j (h1:j<items.size) (h2:j<items2.size),EqAt A.in1 s items[j] items2[j] (e j))∧(∀ j (h1:j<items.size) (h2:j<items2.size),e j=false→uE A.in1 s items[j] items2[j] (lt j)) ∧
   R (.ok (.ret (.bool (fE e lt (decide (items.size≤items2.size)) k i)))) s):=by
 induction k with
 | zero =>
  intro i hi hk prog w A R s h
  obtain ⟨hp,g,d,tk,os⟩:=s; obtain ⟨hl,hb,he,hlt,h⟩:=h
  wp_walk using LG hl,LG hb
  by_cases hc:items.size≤i
  ·have hi1:items[((i:Nat):Int).toNat]?=none:=by simp; omega
   rw [hi1]
   wp_walk using LG hl,LG hb
   exact h
  ·have hi2:items2[((i:Nat):Int).toNat]?=none:=by simp; omega
   have hi1:items[((i:Nat):Int).toNat]?=some (items[i]'(by omega)):=by simp
   rw [hi1,hi2]
   wp_walk using LG hl,LG hb
   exact h
 | succ k ih =>
  intro i hi hk prog w A R s h
  obtain ⟨hp,g,d,tk,os⟩:=s; obtain ⟨hl,hb,he,hlt,h⟩:=h
  wp_walk using LG hl,LG hb
  have hlt1:i<items.size:=by omega
  have hlt2:i<items2.size:=by omega
  have hi1:items[((i:Nat):Int).toNat]?=some items[i]:=by simp [hlt1]
  have hi2:items2[((i:Nat):Int).toNat]?=some items2[i]:=by simp [hlt2]
  have hc:((i:Int)+1)=((i+1:Nat):Int):=by push_cast; rfl
  unfold fE at h
  rw [hi1,hi2]
  refine KG (he i hlt1 hlt2 prog w _ _ ?_)
  cases hb':e i with
  | true =>
   rw [hb',if_pos rfl] at h
   wp_walk
   rw [hc]
   exact ⟨NL plain_eq_loop _,Nn entry_eq_loop (by
    rw [MG plain_eq_loop _]
    exact ih (i+1) (by omega) (by omega) prog w A R _ ⟨hl,hb,he,hlt,h⟩)⟩
  | false =>
   rw [hb',if_neg KU] at h
   wp_walk using LG hl,LG hb
   rw [hi1,hi2]
   dsimp only
   refine KG (hlt i hlt1 hlt2 hb' prog w _ _ ?_)
   wp_walk
   exact h
theorem Av (l b:KI) (items items2:Array KD) (n n2:Nat) (dd dd2:Option KI) (sl sl2:Array (Option KD)) (e lt:Nat→Bool) :
 Meets (NF.«list.__le__» ⟨[.ref l,.ref b],[]⟩)
  (fun A R s=>s.heap.get? l=some { cls:=.type "list", dict:=dd,data:=.seq items n,slots:=sl }∧s.heap.get? b=some { cls:=.type "list", dict:=dd2,data:=.seq items2 n2,slots:=sl2 } ∧
   (∀ j (h1:j<items.size) (h2:j<items2.size),EqAt A.in1 s items[j] items2[j] (e j))∧(∀ j (h1:j<items.size) (h2:j<items2.size),e j=false→uE A.in1 s items[j] items2[j] (lt j)) ∧
   R (.ok (.ret (.bool (fE e lt (decide (items.size≤items2.size)) (min items.size items2.size) 0)))) s):=by
 intro prog w A R s h
 obtain ⟨hp,g,d,tk,os⟩:=s; obtain ⟨hl,hb,he,hlt,h⟩:=h
 have f3:=QQ
 wp_walk using LG hl,LG hb
 exact ⟨NL plain_eq_loop _,Nn entry_eq_loop (by
  rw [MG plain_eq_loop _]
  exact Aw l b items items2 n n2 dd dd2 sl sl2 e lt _ 0 (LL _) rfl prog w A R _ ⟨hl,hb,he,hlt,h⟩)⟩
section
variable {A:L4} {s:KJ}
theorem uE.lists {l b:KI} {items items2:Array KD} {e lt:Nat→Bool} (hl:s.heap.IsList l items) (hb:s.heap.IsList b items2) (hu:A.units<OT)
 (he:∀ j (h1:j<items.size) (h2:j<items2.size),EqAt A.in1 s items[j] items2[j] (e j)) (hlt:∀ j (h1:j<items.size) (h2:j<items2.size),e j=false→uE A.in1 s items[j] items2[j] (lt j)):uE A s (.ref l) (.ref b) (fE e lt (decide (items.size≤items2.size)) (min items.size items2.size) 0):=fun prog w E Q h=>by
 obtain ⟨⟨cls,dd,data,sl⟩,ho,hc,n,hd⟩:=id hl
 obtain ⟨⟨cls2,dd2,data2,sl2⟩,ho2,hc2,n2,hd2⟩:=id hb
 simp only at hc hd hc2 hd2
 subst hc hd hc2 hd2
 exact richCompare_meets_room (op:=.LtE) ⟨_,ho,rfl⟩ ⟨_,ho2,rfl⟩ F.slot_list_le F.entry_list_le (F.args_list_le_2 _ _) (Av l b items items2 n n2 dd dd2 sl sl2 e lt)
  ⟨ho,ho2,he,hlt,show RW (fE e lt (decide (items.size≤items2.size)) (min items.size items2.size) 0)≠Value.notImplemented∧Q (.bool (fE e lt (decide (items.size≤items2.size)) (min items.size items2.size) 0)) s from ⟨(fun x=>nomatch x),h⟩⟩ hu
theorem uE.ints (a b:Int) (t u:Tw):uE A s (.int a t) (.int b u) (decide (a≤b)):=fun prog w E Q h=>PyProof.Rows.le_int h
end
end
end PySem.SeqAt
namespace VL
open PySem L2
section
open Classical
noncomputable section
variable [bD] {K:KC} {ta tb:TE} {a b:DE}
def lexLe:List Int→List Int→Bool
 | [],_=>true
 | _::_,[]=>false
 | x::xs,y::ys=>if x=y then lexLe xs ys else decide (x≤y)
omit [bD] in
theorem Cs {ns ms:List Int} (hl:ns.length=ms.length):∀ (k i:Nat),i+k=ns.length→SeqAt.fE (fun j=>ns.getD j 0==ms.getD j 0) (fun j=>decide (ns.getD j 0≤ms.getD j 0)) true k i=lexLe (ns.drop i) (ms.drop i):=by
 intro k
 induction k with
 | zero =>
  intro i h
  rw [Nt (show ns.length≤i by omega)]
  rfl
 | succ k ih =>
  intro i h
  have h1:i<ns.length:=by omega
  have h2:i<ms.length:=by omega
  have e1:ns.getD i 0=ns[i]:=by rw [Ku,Kv h1]; rfl
  have e2:ms.getD i 0=ms[i]:=by rw [Ku,Kv h2]; rfl
  rw [Lq h1,Lq h2]
  unfold SeqAt.fE lexLe
  rw [ih (i+1) (by omega),e1,e2]
  by_cases c:ns[i]=ms[i]
  ·rw [if_pos (beq_iff_eq.mpr c),if_pos c]
  ·rw [if_neg (fun z=>c (beq_iff_eq.mp z)),if_neg c]
end
end
end VL
namespace L2
open PySem PySem.Spec PyProof.Rows VL
def Iw:R2:=fun x y H Q=>∃ p q ns ms,x=.ref p∧y=.ref q∧Rd H p (.lst (ns.map V.int))∧Rd H q (.lst (ms.map V.int))∧ns.length=ms.length∧Q (.bl (lexLe ns ms)) H
theorem GQ {X:Cx} (hu:X.A.units+64<OT):oR X (Nj .LtE) Iw:=by
 intro pins s σ H x y v u Q I rx ry h
 obtain ⟨p,q,ns,ms,rfl,rfl,h1,h2,hl,h⟩:=h
 cases rx
 cases ry
 obtain ⟨_,us,m1,k1,n1,o1⟩:=I.kT h1
 obtain ⟨_,ws,m2,k2,n2,o2⟩:=I.kT h2
 rw [Kw] at n1 n2
 have it:∀ {ns:List Int} {us:List KD},Vals (ns.map V.int) us→∀ j (h:j<us.toArray.size),∃ t,us.toArray[j]=.int (ns.getD j 0) t:=fun {ns us} k j h=>by
  have hj:j<ns.length:=by have:=k.length; rw [Kw] at this; rw [KQ] at h; omega
  obtain ⟨u,q1,t,e⟩:=k.get (show (ns.map V.int)[j]?=some (.int (ns.getD j 0)) by rw [KO,Ku,Kv hj]; rfl)
  refine ⟨t,?_⟩
  rw [← e]
  rw [KQ] at h
  rw [Kv h] at q1
  simpa using q1
 have L:=SeqAt.uE.lists (A:=X.A) (s:=s) (l:=p) (b:=q) (items:=us.toArray) (items2:=ws.toArray) (e:=fun j=>ns.getD j 0==ms.getD j 0) (lt:=fun j=>decide (ns.getD j 0≤ms.getD j 0)) ⟨_,o1,rfl,_,rfl⟩ ⟨_,o2,rfl,_,rfl⟩ (by omega) (fun j a b=>by
  obtain ⟨t1,e1⟩:=it k1 j a
  obtain ⟨t2,e2⟩:=it k2 j b
  rw [e1,e2]
  exact OL _ _ _ _) fun j a b _=>by
  obtain ⟨t1,e1⟩:=it k1 j a
  obtain ⟨t2,e2⟩:=it k2 j b
  rw [e1,e2]
  exact SeqAt.uE.ints _ _ _ _
 have e1:us.toArray.size=ns.length:=by rw [KQ]; omega
 have e2:ws.toArray.size=ms.length:=by rw [KQ]; omega
 rw [e1,e2,← hl,Si,decide_eq_true (Lg _),Cs hl ns.length 0 (by omega)] at L
 exact L X.prog X.w X.xe _ ⟨.bl _,H,I,rfl,h⟩
end L2
namespace VL
open PySem L2
section
open Classical
noncomputable section
variable [bD] {K:KC} {ta tb:TE} {a b:DE}
noncomputable def C8 (a b:DE):DE:=fun ρ=>match a ρ with
 | some (.lst xs)=>(match b ρ with
  | some (.lst ys)=>(match cT xs with
   | some ns=>(match cT ys with
    | some ms=>if ns.length=ms.length then some (.bl (lexLe ns ms)) else none
    | none=>none)
   | none=>none)
  | _=>none)
 | _=>none
theorem Ho {ρ:aF} {ns ms:List Int} (ha:a ρ=some (.lst (ns.map D.int))) (hb:b ρ=some (.lst (ms.map D.int))) (h:ns.length=ms.length):C8 a b ρ=some (.bl (lexLe ns ms)):=by
 unfold C8
 rw [ha,hb]
 dsimp only
 rw [dR,dR]
 exact if_pos h
theorem Gn (ha:aO K ta a) (hb:aO K tb b):af K (nT Iw ta tb) (C8 a b):=fun {B Z os ρ σ H Q d} f q k=>by
  unfold C8 at q
  split at q
  · rename_i xs e1
    split at q
    · rename_i ys e2
      split at q
      · rename_i ns e3
        split at q
        · rename_i ms e4
          split at q
          · rename_i hl
            cases q
            refine ha f e1 fun v H1 s1 i1=>hb (f.grow s1) e2 fun u H2 s2 i2=>?_
            obtain ⟨p,vs,rfl,_,h1,l1,g1⟩:=(i1.kp (Kp.same s2)).jK
            obtain ⟨q,ws,rfl,_,h2,l2,g2⟩:=i2.jK
            have x1:=de e3
            have x2:=de e4
            subst x1
            subst x2
            have y1:=IsL.ints g1
            have y2:=IsL.ints g2
            subst y1
            subst y2
            exact ⟨p,q,ns,ms,rfl,rfl,h1,h2,hl,k _ _ (s1.trans s2) (.bl _)⟩
          · cases q
        · cases q
      · cases q
    · cases q
  · cases q
end
end
end VL
set_option maxHeartbeats 4000000
namespace My
variable {A:List Int} {x:Int} {off:Int→List Int} {R:Int} {n:Nat} {h:Nat} {H:Int} {a:DE} {t:Int} {ds:List D} {d:D} {m:Nat} {j:Nat} {xs:List Int} {T:List (List Int)} {ρ:aF} {α:Type} {p:Int×Int} {E:Int}
open PySem L2 VL
section
def top (i:Nat):NZ:=PySem.Challenge.pw_leastfloor_k23_whole_open_plan.main.body.getD i (.Pass ⟨0,0,0,0⟩)
noncomputable abbrev oy:NZ:=top 1
noncomputable abbrev hZ:NZ:=top 2
noncomputable abbrev kD:NZ:=top 3
noncomputable abbrev d6:NZ:=top 4
noncomputable abbrev kE:NZ:=top 5
noncomputable abbrev dH:NZ:=top 6
noncomputable abbrev fO:NZ:=top 7
noncomputable abbrev dI:NZ:=top 8
noncomputable abbrev kH:NZ:=top 14
noncomputable abbrev jo:NZ:=top 15
noncomputable abbrev gh:NZ:=top 17
noncomputable abbrev jj:NZ:=top 19
noncomputable abbrev gm:NZ:=top 20
noncomputable abbrev jl:NZ:=top 21
noncomputable abbrev gj:NZ:=top 22
noncomputable abbrev kG:NZ:=top 23
noncomputable abbrev jm:NZ:=top 24
noncomputable abbrev jk:NZ:=top 25
noncomputable abbrev kF:NZ:=top 26
noncomputable abbrev oA:NZ:=top 27
noncomputable abbrev dm:NZ:=top 28
noncomputable abbrev yB:NZ:=top 29
theorem pz:aZ ["table", "benches", "columns"] ["table"] (aB oy):=⟨rfl,rfl,rfl,by decide +kernel,rfl,by decide +kernel,by decide +kernel⟩
theorem nC:aZ ["table", "sums"] ["table"] (aB hZ):=⟨rfl,rfl,rfl,by decide +kernel,rfl,by decide +kernel,by decide +kernel⟩
theorem di:aZ ["table", "left", "rest", "told", "pairs", "hours", "hand", "bench"] ["table"] (aB kD):=⟨rfl,rfl,rfl,by decide +kernel,rfl,by decide +kernel,by decide +kernel⟩
theorem dG:aZ ["left", "rest", "takers", "benches", "pairs"] ["left", "rest"] (aB d6):=⟨rfl,rfl,rfl,by decide +kernel,rfl,by decide +kernel,by decide +kernel⟩
theorem dk:aZ ["left", "rest", "sums", "hands", "benches", "told", "hand", "load", "bench"] ["left", "rest"] (aB kE):=⟨rfl,rfl,rfl,by decide +kernel,rfl,by decide +kernel,by decide +kernel⟩
theorem eK:aZ ["offered", "takers", "taker"] ["offered"] (aB dH):=⟨rfl,rfl,rfl,by decide +kernel,rfl,by decide +kernel,by decide +kernel⟩
theorem iK:aZ ["offered", "taker", "takers", "asked", "thing"] ["offered", "taker", "takers", "asked"] (aB fO):=⟨rfl,rfl,rfl,by decide +kernel,rfl,by decide +kernel,by decide +kernel⟩
theorem cF:aZ ["left", "rest", "pairs", "sums", "hands", "benches", "bounds"] ["left", "rest", "pairs"] (aB dI):=⟨rfl,rfl,rfl,by decide +kernel,rfl,by decide +kernel,by decide +kernel⟩
theorem mx:aZ ["rows", "fewest", "row"] ["rows"] (aB kH):=⟨rfl,rfl,rfl,by decide +kernel,rfl,by decide +kernel,by decide +kernel⟩
theorem xh:aZ ["row", "later"] ["row", "later"] (aB jo):=⟨rfl,rfl,rfl,by decide +kernel,rfl,by decide +kernel,by decide +kernel⟩
theorem cK:aZ ["table", "rows", "begin", "hours", "pairs", "end"] ["table"] (aB gh):=⟨rfl,rfl,rfl,by decide +kernel,rfl,by decide +kernel,by decide +kernel⟩
theorem xf:aZ ["_law_found"] ["_law_found"] (aB jj):=⟨rfl,rfl,rfl,by decide +kernel,rfl,by decide +kernel,by decide +kernel⟩
theorem tu:aZ ["_law_script", "_law_k"] ["_law_script", "_law_k"] (aB gm):=⟨rfl,rfl,rfl,by decide +kernel,rfl,by decide +kernel,by decide +kernel⟩
theorem pA:aZ ["_law_cell", "_law_k", "_law_number"] ["_law_cell", "_law_k"] (aB jl):=⟨rfl,rfl,rfl,by decide +kernel,rfl,by decide +kernel,by decide +kernel⟩
theorem hV:aZ ["_law_script", "_law_numbers_here", "_law_k"] ["_law_script"] (aB gj):=⟨rfl,rfl,rfl,by decide +kernel,rfl,by decide +kernel,by decide +kernel⟩
theorem zY:aZ ["_law_cell"] ["_law_cell"] (aB kG):=⟨rfl,rfl,rfl,by decide +kernel,rfl,by decide +kernel,by decide +kernel⟩
theorem xg:aZ ["_law_number", "_law_mode"] ["_law_number", "_law_mode"] (aB jm):=⟨rfl,rfl,rfl,by decide +kernel,rfl,by decide +kernel,by decide +kernel⟩
theorem cB:aZ ["_law_script", "_law_numbers_here", "_law_cell", "_law_hands", "_law_many", "_law_table_here", "_law_hand", "_law_row", "_law_bench", "_law_idle"] ["_law_script"] (aB jk):=⟨rfl,rfl,rfl,by decide +kernel,rfl,by decide +kernel,by decide +kernel⟩
theorem mw:aZ ["_law_table_here", "_law_hands", "_law_many"] ["_law_table_here"] (aB kF):=⟨rfl,rfl,rfl,by decide +kernel,rfl,by decide +kernel,by decide +kernel⟩
theorem u7:aZ ["_law_table_here", "_law_found"] ["_law_table_here"] (aB oA):=⟨rfl,rfl,rfl,by decide +kernel,rfl,by decide +kernel,by decide +kernel⟩
theorem aM:aZ ["_law_table_here", "_law_rows", "_law_done", "_law_last", "_law_hands", "_law_ahead", "_law_row", "_law_bench", "_law_hand", "_law_begin", "_law_end_here"] ["_law_table_here", "_law_rows"] (aB dm):=⟨rfl,rfl,rfl,by decide +kernel,rfl,by decide +kernel,by decide +kernel⟩
theorem xc:aZ ["_law_script", "_law_table_here", "_law_handed"] ["_law_script"] (aB yB):=⟨rfl,rfl,rfl,by decide +kernel,rfl,by decide +kernel,by decide +kernel⟩
set_option genInjectivity false in
set_option genSizeOf false in
structure Jl where
 t8:KI
 uo:LX
 j7:KI
 ka:LX
 ql:KI
 qw:LX
 fT:KI
 fU:LX
 qm:KI
 qz:LX
 fu:KI
 fA:LX
 qk:KI
 qv:LX
 fv:KI
 fB:LX
 qq:KI
 lu:LX
 mS:KI
 mZ:LX
 iX:KI
 i7:LX
 mO:KI
 mV:LX
 iZ:KI
 i9:LX
 mQ:KI
 mX:LX
 iY:KI
 i8:LX
 qp:KI
 qB:LX
 mR:KI
 mY:LX
 mP:KI
 mW:LX
 qo:KI
 qA:LX
 t9:KI
 uq:LX
 eS:KI
 eU:LX
 vJ:KI
 se:LX
 vy:KI
 vh:KI
structure Txt [bD] (K:KC) (mg:LV→Option KD) (a:Jl):Prop where
 dN:eA K "loads" "loads" oy a.t8 a.uo
 uB:Binds K a.uo ["table"] []
 tT:mg "loads" = some (.ref a.t8)
 dg:eA K "open_end" "open_end" hZ a.j7 a.ka
 x8:Binds K a.ka ["table"] []
 xG:mg "open_end" = some (.ref a.j7)
 d9:eA K "phases" "phases" kD a.ql a.qw
 Dp:Binds K a.qw ["table"] []
 Cj:mg "phases" = some (.ref a.ql)
 bR:eA K "urgent_pairs" "urgent_pairs" d6 a.fT a.fU
 qJ:Binds K a.fU ["left", "rest"] []
 pU:mg "urgent_pairs" = some (.ref a.fT)
 fh:eA K "offers" "offers" kE a.qm a.qz
 Dq:Binds K a.qz ["left", "rest"] []
 Ck:mg "offers" = some (.ref a.qm)
 bb:eA K "taker_of_each" "taker_of_each" dH a.fu a.fA
 n8:Binds K a.fA ["offered"] []
 nZ:mg "taker_of_each" = some (.ref a.fu)
 qO:eA K "take_one" "take_one" fO a.qk a.qv
 qK:Binds K a.qv ["offered", "taker", "takers", "asked"] []
 pV:mg "take_one" = some (.ref a.qk)
 bB:eA K "longest_hours" "longest_hours" dI a.fv a.fB
 n9:Binds K a.fB ["left", "rest", "pairs"] []
 n4:mg "longest_hours" = some (.ref a.fv)
 ee:eA K "joined" "joined" kH a.qq a.lu
 Ds:Binds K a.lu ["rows"] []
 Co:mg "joined" = some (.ref a.qq)
 dW:eA K "goes_on" "goes_on" jo a.mS a.mZ
 A9:Binds K a.mZ ["row", "later"] []
 Aq:mg "goes_on" = some (.ref a.mS)
 cI:eA K "open_plan" "open_plan" gh a.iX a.i7
 wa:Binds K a.i7 ["table"] []
 vu:mg "open_plan" = some (.ref a.iX)
 du:eA K "_law_whole" "_law_whole" jj a.mO a.mV
 A6:Binds K a.mV ["_law_found"] []
 Am:mg "_law_whole" = some (.ref a.mO)
 bp:eA K "_law_cell_at" "_law_cell_at" gm a.iZ a.i9
 gB:Binds K a.i9 ["_law_script", "_law_k"] []
 gu:mg "_law_cell_at" = some (.ref a.iZ)
 cy:eA K "_law_mixed" "_law_mixed" jl a.mQ a.mX
 m9:Binds K a.mX ["_law_cell", "_law_k"] []
 mI:mg "_law_mixed" = some (.ref a.mQ)
 cJ:eA K "_law_numbers" "_law_numbers" gj a.iY a.i8
 wc:Binds K a.i8 ["_law_script"] []
 vw:mg "_law_numbers" = some (.ref a.iY)
 dE:eA K "_law_size" "_law_size" kG a.qp a.qB
 wb:Binds K a.qB ["_law_cell"] []
 vv:mg "_law_size" = some (.ref a.qp)
 dU:eA K "_law_hours" "_law_hours" jm a.mR a.mY
 A8:Binds K a.mY ["_law_number", "_law_mode"] []
 Ao:mg "_law_hours" = some (.ref a.mR)
 dS:eA K "_law_table" "_law_table" jk a.mP a.mW
 A7:Binds K a.mW ["_law_script"] []
 An:mg "_law_table" = some (.ref a.mP)
 fi:eA K "_law_sums" "_law_sums" kF a.qo a.qA
 Dr:Binds K a.qA ["_law_table_here"] []
 Cn:mg "_law_sums" = some (.ref a.qo)
 gE:eA K "_law_end" "_law_end" oA a.t9 a.uq
 E1:Binds K a.uq ["_law_table_here"] []
 Eo:mg "_law_end" = some (.ref a.t9)
 bu:eA K "_law_is_open_plan" "_law_is_open_plan" dm a.eS a.eU
 nc:Binds K a.eU ["_law_table_here", "_law_rows"] []
 mJ:mg "_law_is_open_plan" = some (.ref a.eS)
 sH:eA K "law" "law" yB a.vJ a.se
 JZ:Binds K a.se ["_law_script"] []
 JX:mg "law" = some (.ref a.vJ)
 AE:a.lu.code=.ref a.vy
 Az:Pf K a.vy a.vh=true
 Ay:(a.vh,("joined.<locals>.<lambda>" : LV))∈bD.ts
 z_all:mg "all" = none
 z_bool:mg "bool" = none
 z_enumerate:mg "enumerate" = none
 z_int:mg "int" = none
 z_isinstance:mg "isinstance" = none
 z_len:mg "len" = none
 z_list:mg "list" = none
 z_max:mg "max" = none
 z_min:mg "min" = none
 z_range:mg "range" = none
 z_sorted:mg "sorted" = none
 z_sum:mg "sum" = none
 c_BEGIN:∃ t,mg "BEGIN" = some (.int 2 t)
 c_BENCH:∃ t,mg "BENCH" = some (.int 0 t)
 c_END:∃ t,mg "END" = some (.int 3 t)
 c_WORK:∃ t,mg "WORK" = some (.int 1 t)
noncomputable section
theorem Bz (x0:D):jL 3 [false] [x0]=[.bo x0,.un,.un]:=rfl
noncomputable def oS:DS:=(aU (cX 1 (Jg (qC (ag 0)) (gz gM (dt (ag 0) (dC (.int 0)))) (dC (.int 0))))
 (aU (cX 2 (cc (bA 1 [0] (iq (ag 1)) (gN true 0) bP (gz uT (cc (bA 1 [0] (iG (ag 1)) (gN false 0) bP (gw (dt (ag 0) (ag 1)))))))))
 (dy (xW (ax (cc (bA 1 [] (iG (ag 0)) (gN false 0) bP (gz uT (ag 0)))) (ax (aG 2) bK))))))
@[irreducible] noncomputable def dN:List D→Option D:=cw 3 [false] oS
theorem nQ:dN=cw 3 [false] oS:=by unfold dN; rfl
theorem uU (x0:D):jL 2 [false] [x0]=[.bo x0,.un]:=rfl
noncomputable def iz:DS:=(aU (cX 1 (bX dN (ax (ag 0) bK)))
 (dy (vQ nY (cc (m4 (dt (aG 1) (dC (.int 0))) (dt (aG 1) (dC (.int 1))))) (dC (.int 0)))))
@[irreducible] noncomputable def dg:List D→Option D:=cw 2 [false] iz
theorem je:dg=cw 2 [false] iz:=by unfold dg; rfl
theorem mj (x0 x1 x2:D):jL 7 [false,false,false] [x0,x1,x2]=[.bo x0,.bo x1,.bo x2,.un,.un,.un,.un]:=rfl
noncomputable def dO:DS:=(aU (cX 3 (bX dN (ax (ag 0) bK)))
 (aU (cX 4 (cc (bA 1 [] (iG (ag 2)) (gN false 0) bP (gw (dt (ag 0) (dC (.int 0)))))))
 (aU (cX 5 (cc (bA 1 [] (iG (ag 2)) (gN false 0) bP (gw (dt (ag 0) (dC (.int 1)))))))
 (aU (gU 6 (bA 1 [0] (iG (ag 2)) (gN false 0) bP (gw (dt (dt (ag 1) (dt (ag 0) (dC (.int 0)))) (dt (ag 0) (dC (.int 1)))))))
 (aU (xj 6 (cc (bA 2 [4,1] (DJ (dt (aG 3) (dC (.int 0)))) (DI 2 (cC (gN true 0) (cC (gN true 1) jN))) (dT (HR true (ag 0) (ag 2))) (AR (ag 3) (ag 1)))))
 (aU (xj 6 (cc (bA 2 [5,1] (DJ (dt (aG 3) (dC (.int 1)))) (DI 2 (cC (gN true 0) (cC (gN true 1) jN))) (dT (HR true (ag 0) (ag 2))) (AR (ag 3) (ag 1)))))
 (dy (gz minD (ag 6)))))))))
@[irreducible] noncomputable def bB:List D→Option D:=cw 7 [false,false,false] dO
theorem fF:bB=cw 7 [false,false,false] dO:=by unfold bB; rfl
theorem zM (x0 x1:D):jL 9 [false,false] [x0,x1]=[.bo x0,.bo x1,.un,.un,.un,.un,.un,.un,.un]:=rfl
noncomputable def lS:DS:=(aU (cX 2 (bX dN (ax (ag 0) bK)))
 (aU (cX 3 (gz gM (dt (ag 2) (dC (.int 0)))))
 (aU (cX 4 (gz gM (dt (ag 2) (dC (.int 1)))))
 (aU (kI 5 C7)
 (aU (mz (DJ (dt (aG 2) (dC (.int 0)))) (DI 2 (cC (gN true 6) (cC (gN true 7) jN)))
 (aU (pC 5 (bA 1 [0,6] (iq (ag 4)) (gN true 0) (dT (Ht (dt (dt (ag 1) (ag 2)) (ag 0)) (dC (.int 0)))) (aG 0)))
 (tw (dT (AV (ag 7) (ag 1)))
 (rJ 5 (ag 6) (ke (ag 4) (ag 6)))
  fC)))
 (aU (mz (DJ (dt (aG 2) (dC (.int 1)))) (DI 2 (cC (gN true 8) (cC (gN true 7) jN)))
 (aU (pC 5 (bA 1 [4] (iq (ag 3)) (gN true 0) bP (ke (ag 1) (ag 0))))
 (tw (dT (AV (ag 7) (ag 1)))
 (rJ 5 (ke (ag 3) (ag 8)) (aG 8))
  fC)))
  (tx 5 (dy (aG 5)))))))))
@[irreducible] noncomputable def fh:List D→Option D:=cw 9 [false,false] lS
theorem lM:fh=cw 9 [false,false] lS:=by unfold fh; rfl
theorem kY (kvs:List (Int×Int)) (k v j:Int):getZ (jD kvs k v) j=if j=k then some v else getZ kvs j:=by
 have hm:∀ l:List (Int×Int),getZ (l.map fun p=>if p.1=k then (p.1,v) else p) j=if j=k then (getZ l j).map (fun _=>v) else getZ l j:=by
  intro l
  induction l with
  | nil=>unfold getZ; split <;> rfl
  | cons p r ih =>
   unfold getZ at ih ⊢
   rw [Ld,MM,MM]
   have e1:(if p.1=k then (p.1,v) else p).1=p.1:=by split <;> rfl
   rw [e1]
   by_cases c:p.1=j
   ·rw [decide_eq_true c]
    by_cases d:j=k
    ·rw [if_pos d,if_pos (c.trans d)]; rfl
    ·rw [if_neg d,if_neg (fun z=>d (c.symm.trans z))]
   ·rw [decide_eq_false c]
    exact ih
 have ha:∀ l:List (Int×Int),getZ (l++[(k,v)]) j=(match getZ l j with | some u=>some u | none=>if j=k then some v else none):=by
  intro l
  induction l with
  | nil =>
   show (([(k,v)]:List (Int×Int)).find? _).map _=if j=k then some v else none
   rw [MM]
   by_cases c:k=j
   ·rw [decide_eq_true c,if_pos c.symm]; rfl
   ·rw [decide_eq_false c,if_neg (fun z=>c z.symm)]; rfl
  | cons p r ih =>
   unfold getZ at ih ⊢
   rw [NU,MM,MM]
   by_cases c:p.1=j
   ·rw [decide_eq_true c]; rfl
   ·rw [decide_eq_false c]; exact ih
 unfold jD
 by_cases c:kvs.any (fun p=>decide (p.1=k))=true
 ·rw [if_pos c,hm]
  by_cases d:j=k
  ·rw [if_pos d,if_pos d]
   obtain ⟨p,hp,e⟩:=Pd.mp c
   have e:=of_decide_eq_true e
   cases q:getZ kvs j with
   | some u=>rfl
   | none =>
    unfold getZ at q
    rw [QR,R9] at q
    exact absurd (decide_eq_true (e.trans d.symm)) (q p hp)
  ·rw [if_neg d,if_neg d]
 ·rw [if_neg c,ha]
  by_cases d:j=k
  ·rw [if_pos d,if_pos d]
   have:getZ kvs j=none:=by
    unfold getZ
    rw [QR,R9]
    intro p hp e
    exact c (Pd.mpr ⟨p,hp,decide_eq_true ((of_decide_eq_true e).trans d)⟩)
   rw [this]
  ·rw [if_neg d,if_neg d]
   cases getZ kvs j <;> rfl
abbrev Tk:=List (Int×Int)
def takeL (rc:Int→Tk→List Int→Option (Bool×Tk×List Int)) (x:Int):List Int→Tk→List Int→Option (Bool×Tk×List Int)
 | [],T,A=>some (false,T,A)
 | t::ts,T,A=>if t∈A then takeL rc x ts T A else match getZ T t with
  | none=>some (true,jD T t x,A++[t])
  | some u=>match rc u T (A++[t]) with
   | some (true,T1,A1)=>some (true,jD T1 t x,A1)
   | some (false,T1,A1)=>takeL rc x ts T1 A1
   | none=>none
def takeO (off:Int→List Int):Nat→Int→Tk→List Int→Option (Bool×Tk×List Int)
 | 0,_,_,_=>none
 | n+1,x,T,A=>takeL (takeO off n) x (off x) T A
structure Pre (T:Tk) (A:List Int) (x:Int):Prop where
 inj:∀ s t u,s∉A→t∉A→getZ T s=some u→getZ T t=some u→s=t
 new:∀ t,t∉A→getZ T t≠some x
structure Jh (off:Int→List Int) (T:Tk) (A:List Int) (x:Int) (T':Tk):Prop where
 same:∀ t∈A,getZ T' t=getZ T t
 inj:∀ s t u,s∉A→t∉A→getZ T' s=some u→getZ T' t=some u→s=t
 has:∃ t,t∉A∧getZ T' t=some x
 BQ:∀ u t,t∉A→getZ T' t=some u→u=x∨∃ s,s∉A∧getZ T s=some u
 Gr:∀ u s,s∉A→getZ T s=some u→∃ t,t∉A∧getZ T' t=some u
 ra:∀ t u,getZ T' t=some u→getZ T t=some u∨t∈off u
 ui:∀ t,getZ T t≠none→getZ T' t≠none
structure kl (off:Int→List Int) (V:List Int) (ts:List Int) (T:Tk) (A:List Int) (x:Int) (b:Bool) (T':Tk) (A':List Int):Prop where
 sub:∀ t∈A,t∈A'
 nd:A'.Nodup
 yZ:∀ t∈A',t∈V
 Ep:b=false→T'=T∧(∀ t∈ts,t∈A')∧∀ t∈A',t∉A→∃ u,getZ T t=some u∧∀ s∈off u,s∈A'
 I0:b=true→Jh off T A x T'
theorem Pre.more {T:Tk} {B:List Int} (h:Pre T A x) (s:∀ t∈A,t∈B):Pre T B x:=⟨fun a b u ha hb=>h.inj a b u (fun z=>ha (s a z)) fun z=>hb (s b z),fun t ht=>h.new t fun z=>ht (s t z)⟩
theorem Jh.less {T T':Tk} {B:List Int} (p:Pre T A x) (s:∀ t∈A,t∈B) (w:Jh off T B x T'):Jh off T A x T':=by
 refine ⟨fun t ht=>w.same t (s t ht),?_,?_,?_,?_,w.ra,w.ui⟩
 ·intro a b u ha hb ea eb
  by_cases ca:a∈B
  ·rw [w.same a ca] at ea
   by_cases cb:b∈B
   ·rw [w.same b cb] at eb
    exact p.inj a b u ha hb ea eb
   ·rcases w.BQ u b cb eb with q | ⟨r,hr,q⟩
    ·rw [q] at ea
     exact absurd ea (p.new a ha)
    ·have:=p.inj a r u ha (fun z=>hr (s r z)) ea q
     rw [this] at ca
     exact absurd ca hr
  ·by_cases cb:b∈B
   ·rw [w.same b cb] at eb
    rcases w.BQ u a ca ea with q | ⟨r,hr,q⟩
    ·rw [q] at eb
     exact absurd eb (p.new b hb)
    ·have:=p.inj b r u hb (fun z=>hr (s r z)) eb q
     rw [this] at cb
     exact absurd cb hr
   ·exact w.inj a b u ca cb ea eb
 ·obtain ⟨t,ht,e⟩:=w.has
  exact ⟨t,fun z=>ht (s t z),e⟩
 ·intro u t ht e
  by_cases c:t∈B
  ·rw [w.same t c] at e
   exact .inr ⟨t,ht,e⟩
  ·rcases w.BQ u t c e with q | ⟨r,hr,q⟩
   ·exact .inl q
   ·exact .inr ⟨r,fun z=>hr (s r z),q⟩
 ·intro u t ht e
  by_cases c:t∈B
  ·exact ⟨t,ht,by rw [w.same t c]; exact e⟩
  ·obtain ⟨r,hr,q⟩:=w.Gr u t c e
   exact ⟨r,fun z=>hr (s r z),q⟩
theorem mH:∀ {A V:List Int},A.Nodup→(∀ t∈A,t∈V)→A.length≤V.length
 | [],V,_,_=>LL _
 | a::A,V,h,s=>by
  obtain ⟨h1,h2⟩:=La.mp h
  have ha:=s a Ky
  have ih:=mH (V:=V.erase a) h2 fun t ht=>(Po (fun z:t=a=>h1 (z ▸ ht))).mpr (s t (Kx _ ht))
  have:=Qp ha
  have:0<V.length:=QS ha
  rw [Lo]
  omega
theorem o4 {off:Int→List Int} {V:List Int} (hoff:∀ x t,t∈off x→t∈V) {rc:Int→Tk→List Int→Option (Bool×Tk×List Int)} {n:Nat}
 (hrc:∀ (x:Int) (T:Tk) (A:List Int),A.Nodup→(∀ t∈A,t∈V)→V.length<n+A.length→Pre T A x→∃ b T' A',rc x T A=some (b,T',A')∧kl off V (off x) T A x b T' A') (x:Int) :
 ∀ (ts:List Int) (T:Tk) (A:List Int),(∀ t∈ts,t∈off x)→A.Nodup→(∀ t∈A,t∈V)→V.length<n+1+A.length→Pre T A x→∃ b T' A',takeL rc x ts T A=some (b,T',A')∧kl off V ts T A x b T' A'
 | [],T,A,_,nd,iv,_,_=>⟨false,T,A,rfl,fun t h=>h,nd,iv,fun _=>⟨rfl,fun t h=>(by cases h),fun t h1 h2=>absurd h1 h2⟩,fun h=>by cases h⟩
 | t::ts,T,A,hts,nd,iv,hf,p=>by
  have hts':∀ s∈ts,s∈off x:=fun s hs=>hts s (Kx _ hs)
  by_cases c:t∈A
  ·obtain ⟨b,T',A',e,q⟩:=o4 hoff hrc x ts T A hts' nd iv hf p
   refine ⟨b,T',A',?_,q.sub,q.nd,q.yZ,fun h=>?_,q.I0⟩
   ·unfold takeL
    rw [if_pos c]
    exact e
   ·obtain ⟨h1,h2,h3⟩:=q.Ep h
    exact ⟨h1,fun s hs=>(KP.mp hs).elim (fun z=>z ▸ q.sub t c) (h2 s),h3⟩
  ·have tV:t∈V:=hoff x t (hts t Ky)
   have nd1:(A++[t]).Nodup:=Oi.mpr ⟨nd,by simp,fun a ha b hb=>by
    rw [Kz.mp hb]
    exact fun z=>c (z ▸ ha)⟩
   have iv1:∀ s∈A++[t],s∈V:=fun s hs=>(KS.mp hs).elim (iv s) fun z=>by rw [Kz.mp z]; exact tV
   have sb1:∀ s∈A,s∈A++[t]:=fun s hs=>K3 _ hs
   have Bc:t∈A++[t]:=KA _ Ky
   cases g:getZ T t with
   | none =>
    refine ⟨true,jD T t x,A++[t],?_,sb1,nd1,iv1,(fun h=>by cases h),fun _=>?_⟩
    ·unfold takeL
     rw [if_neg c,g]
    ·have gp:∀ s,getZ (jD T t x) s=if s=t then some x else getZ T s:=fun s=>kY T t x s
     refine ⟨fun s hs=>?_,fun a b u ha hb ea eb=>?_,⟨t,c,?_⟩,fun u s hs e=>?_,fun u s hs e=>⟨s,hs,?_⟩,fun s u e=>?_,fun s hs=>?_⟩
     ·rw [gp,if_neg (fun z:s=t=>c (z ▸ hs))]
     ·rw [gp] at ea eb
      split at ea <;> split at eb
      ·rename_i z1 z2; rw [z1,z2]
      ·cases ea; exact absurd eb (p.new b hb)
      ·cases eb; exact absurd ea (p.new a ha)
      ·exact p.inj a b u ha hb ea eb
     ·rw [gp,if_pos rfl]
     ·rw [gp] at e
      split at e
      ·cases e; exact .inl rfl
      ·exact .inr ⟨s,hs,e⟩
     ·rw [gp,if_neg (fun z=>by rw [z,g] at e; cases e)]
      exact e
     ·rw [gp] at e
      split at e
      ·rename_i z
       cases e
       rw [z]
       exact .inr (hts t Ky)
      ·exact .inl e
     ·rw [gp]
      split
      ·simp
      ·exact hs
   | some u =>
    have p1:Pre T (A++[t]) u:=⟨(p.more sb1).inj,fun s hs e=>hs (by rw [p.inj s t u (fun z=>hs (sb1 s z)) c e g]; exact Bc)⟩
    obtain ⟨b,T1,A1,e,q⟩:=hrc u T (A++[t]) nd1 iv1 (by rw [K0,Me]; omega) p1
    cases b with
    | true =>
     have w:=q.I0 rfl
     refine ⟨true,jD T1 t x,A1,?_,fun s hs=>q.sub s (sb1 s hs),q.nd,q.yZ,(fun h=>by cases h),fun _=>?_⟩
     ·unfold takeL
      rw [if_neg c,g]
      dsimp only
      rw [e]
     ·have gp:∀ s,getZ (jD T1 t x) s=if s=t then some x else getZ T1 s:=fun s=>kY T1 t x s
      have out:∀ s,s∉A→s≠t→s∉A++[t]:=fun s h1 h2 z=>(KS.mp z).elim h1 fun z=>h2 (Kz.mp z)
      have notx:∀ s,s∉A→s≠t→getZ T1 s≠some x:=fun s h1 h2 z=>by
       rcases w.BQ x s (out s h1 h2) z with r | ⟨r,hr,r2⟩
       ·rw [← r] at g
        exact p.new t c g
       ·exact p.new r (fun z=>hr (sb1 r z)) r2
      refine ⟨fun s hs=>?_,fun a b v ha hb ea eb=>?_,⟨t,c,by rw [gp,if_pos rfl]⟩,fun v s hs ev=>?_,fun v s hs ev=>?_,fun s v ev=>?_,fun s hs=>?_⟩
      ·rw [gp,if_neg (fun z:s=t=>c (z ▸ hs)),w.same s (sb1 s hs)]
      ·rw [gp] at ea eb
       split at ea <;> split at eb
       ·rename_i z1 z2; rw [z1,z2]
       ·rename_i z1 z2; cases ea; exact absurd eb (notx b hb z2)
       ·rename_i z1 z2; cases eb; exact absurd ea (notx a ha z1)
       ·rename_i z1 z2; exact w.inj a b v (out a ha z1) (out b hb z2) ea eb
      ·rw [gp] at ev
       split at ev
       ·cases ev; exact .inl rfl
       ·rename_i z
        rcases w.BQ v s (out s hs z) ev with r | ⟨r,hr,r2⟩
        ·exact .inr ⟨t,c,by rw [r]; exact g⟩
        ·exact .inr ⟨r,fun z=>hr (sb1 r z),r2⟩
      ·by_cases z:s=t
       ·rw [z,g] at ev
        cases ev
        obtain ⟨r,hr,r2⟩:=w.has
        exact ⟨r,fun z=>hr (sb1 r z),by rw [gp,if_neg (fun z:r=t=>hr (z ▸ Bc))]; exact r2⟩
       ·obtain ⟨r,hr,r2⟩:=w.Gr v s (out s hs z) ev
        exact ⟨r,fun z=>hr (sb1 r z),by rw [gp,if_neg (fun z:r=t=>hr (z ▸ Bc))]; exact r2⟩
      ·rw [gp] at ev
       split at ev
       ·rename_i z
        cases ev
        rw [z]
        exact .inr (hts t Ky)
       ·exact w.ra s v ev
      ·rw [gp]
       split
       ·simp
       ·exact w.ui s hs
    | false =>
     obtain ⟨h1,h2,h3⟩:=q.Ep rfl
     subst h1
     have sA:∀ s∈A,s∈A1:=fun s hs=>q.sub s (sb1 s hs)
     have hl:A.length≤A1.length:=mH nd sA
     obtain ⟨b,T',A',e2,q2⟩:=o4 hoff hrc x ts T1 A1 hts' q.nd q.yZ (by omega) (p.more sA)
     refine ⟨b,T',A',?_,fun s hs=>q2.sub s (sA s hs),q2.nd,q2.yZ,fun h=>?_,fun h=>(q2.I0 h).less p sA⟩
     ·conv=>lhs; unfold takeL
      rw [if_neg c,g]
      dsimp only
      rw [e]
      exact e2
     ·obtain ⟨k1,k2,k3⟩:=q2.Ep h
      refine ⟨k1,fun s hs=>(KP.mp hs).elim (fun z=>by rw [z]; exact q2.sub t (q.sub t Bc)) (k2 s),fun s hs hn=>?_⟩
      by_cases z:s∈A1
      ·by_cases z2:s∈A++[t]
       ·have:s=t:=(KS.mp z2).elim (fun z=>absurd z hn) fun z=>Kz.mp z
        subst this
        exact ⟨u,g,fun r hr=>q2.sub r (h2 r hr)⟩
       ·obtain ⟨v,hv,hv2⟩:=h3 s z z2
        exact ⟨v,hv,fun r hr=>q2.sub r (hv2 r hr)⟩
      ·exact k3 s hs z
theorem uP {off:Int→List Int} {V:List Int} (hoff:∀ x t,t∈off x→t∈V):∀ (n:Nat) (x:Int) (T:Tk) (A:List Int),A.Nodup→(∀ t∈A,t∈V)→V.length<n+A.length→Pre T A x→∃ b T' A',takeO off n x T A=some (b,T',A')∧kl off V (off x) T A x b T' A'
 | 0,x,T,A,nd,iv,hf,p=>by
  have:=mH nd iv
  omega
 | n+1,x,T,A,nd,iv,hf,p=>o4 hoff (uP hoff n) x (off x) T A (fun t h=>h) nd iv hf p
def cE (l:List Int) (f:Int→Int):Int:=(l.map f).sum
theorem yx (f:Int→Int):cE [] f=0:=rfl
theorem bf (a:Int) (l:List Int) (f:Int→Int):cE (a::l) f=f a+cE l f:=by unfold cE; rw [Ld,Oe]
theorem rF (f:Int→Int) {a:Int}:∀ {V:List Int},a∈V→cE V f=f a+cE (V.erase a) f
 | [],h=>by cases h
 | b::V,h=>by
  by_cases c:b=a
  ·subst c
   rw [List.erase_cons_head,bf]
  ·rw [List.erase_cons_tail (by simpa using c),bf,bf,rF f ((KP.mp h).resolve_left fun z=>c z.symm)]
   omega
theorem dQ {f:Int→Int}:∀ {V:List Int},(∀ t∈V,0≤f t)→0≤cE V f
 | [],_=>Mh _
 | a::V,h=>by
  rw [bf]
  have:=h a Ky
  have:=dQ (V:=V) fun t ht=>h t (Kx _ ht)
  omega
theorem ou {f:Int→Int}:∀ {A V:List Int},A.Nodup→(∀ t∈A,t∈V)→(∀ t∈V,0≤f t)→cE A f≤cE V f
 | [],V,_,_,h=>dQ h
 | a::A,V,nd,s,h=>by
  obtain ⟨h1,h2⟩:=La.mp nd
  rw [bf,rF f (s a Ky)]
  have:=ou (V:=V.erase a) h2 (fun t ht=>(Po (fun z:t=a=>h1 (z ▸ ht))).mpr (s t (Kx _ ht))) fun t ht=>h t (List.mem_of_mem_erase ht)
  omega
theorem uY {f:Int→Int} {p:Int→Bool}:∀ {V:List Int},(∀ t∈V,p t=false→f t=0)→cE V f=cE (V.filter p) f
 | [],_=>rfl
 | a::V,h=>by
  have ih:=uY (V:=V) fun t ht=>h t (Kx _ ht)
  rw [bf,ih,List.filter_cons]
  split
  ·rw [bf]
  ·rename_i c
   rw [h a Ky (Bool.eq_false_iff.mpr c)]
   omega
theorem ow (f g:Int→Int):∀ l:List Int,cE l (fun t=>f t+g t)=cE l f+cE l g
 | []=>rfl
 | a::l=>by rw [bf,bf,bf,ow f g l]; omega
theorem eI (c:Int):∀ l:List Int,cE l (fun _=>c)=l.length*c
 | []=>by show (0:Int)=((0:Nat):Int)*c; omega
 | a::l=>by
  rw [bf,eI c l,Lo,SR,Int.add_mul]
  omega
theorem uZ (w:Int→Int→Int) (A:List Int):∀ U:List Int,cE U (fun u=>cE A fun t=>w u t)=cE A (fun t=>cE U fun u=>w u t)
 | []=>by
  show 0=cE A fun t=>0
  rw [eI,Int.mul_zero]
 | a::U=>by
  rw [bf,uZ w A U,← ow]
  rfl
theorem bT {f g:Int→Int}:∀ {l:List Int},(∀ t∈l,f t=g t)→cE l f=cE l g
 | [],_=>rfl
 | a::l,h=>by rw [bf,bf,h a Ky,bT fun t ht=>h t (Kx _ ht)]
theorem eG {f g:Int→Int}:∀ {l:List Int},(∀ t∈l,f t≤g t)→cE l f≤cE l g
 | [],_=>Mh _
 | a::l,h=>by
  rw [bf,bf]
  have:=h a Ky
  have:=eG (l:=l) fun t ht=>h t (Kx _ ht)
  omega
structure HL (off:Int→List Int) (X V:List Int) (w:Int→Int→Int) (R:Int):Prop where
 pos:0<R
 Kn:X.Nodup
 Kf:V.Nodup
 w0:∀ u t,0≤w u t
 sup:∀ u t,u∈X→t∈V→0<w u t→t∈off u
 row:∀ u∈X,cE V (fun t=>w u t)=R
 col:∀ t∈V,cE X (fun u=>w u t)=R
theorem xB {X V:List Int} {w:Int→Int→Int} (e:HL off X V w R) {T:Tk} (hx:x∈X) (hT:∀ t u,getZ T t=some u→u∈X) (p:Pre T [] x) (nd:A.Nodup) (iv:∀ t∈A,t∈V)
 (hox:∀ t∈off x,t∈A) (hA:∀ t∈A,∃ u,getZ T t=some u∧∀ s∈off u,s∈A):False:=by
 let U:List Int:=x::A.map fun t=>(getZ T t).getD 0
 have own:∀ t∈A,getZ T t=some ((getZ T t).getD 0):=fun t ht=>by
  obtain ⟨u,hu,_⟩:=hA t ht
  rw [hu]; rfl
 have ndU:U.Nodup:=by
  refine La.mpr ⟨fun z=>?_,?_⟩
  ·obtain ⟨t,ht,e1⟩:=K5.mp z
   have:=own t ht
   rw [e1] at this
   exact p.new t (by simp) this
  ·have:∀ A:List Int,A.Nodup→(∀ t∈A,getZ T t=some ((getZ T t).getD 0))→(A.map fun t=>(getZ T t).getD 0).Nodup:=by
    intro A
    induction A with
    | nil=>intro _ _; exact Mc
    | cons a A ih =>
     intro nd own
     obtain ⟨h1,h2⟩:=La.mp nd
     refine La.mpr ⟨fun z=>?_,ih h2 fun t ht=>own t (Kx _ ht)⟩
     obtain ⟨t,ht,e1⟩:=K5.mp z
     have o1:=own a Ky
     have o2:=own t (Kx _ ht)
     rw [e1] at o2
     have:=p.inj t a _ (by simp) (by simp) o2 o1
     exact h1 (this ▸ ht)
   exact this A nd own
 have UX:∀ u∈U,u∈X:=fun u hu=>by
  rcases KP.mp hu with z | z
  ·rw [z]; exact hx
  ·obtain ⟨t,ht,e1⟩:=K5.mp z
   have:=own t ht
   rw [e1] at this
   exact hT t u this
 have offU:∀ u∈U,∀ t∈off u,t∈A:=fun u hu=>by
  rcases KP.mp hu with z | z
  ·rw [z]; exact hox
  ·obtain ⟨t,ht,e1⟩:=K5.mp z
   obtain ⟨v,hv,hv2⟩:=hA t ht
   rw [hv] at e1
   have:v=u:=e1
   rw [← this]
   exact hv2
 have iE:∀ u∈U,R≤cE A fun t=>w u t:=fun u hu=>by
  rw [← e.row u (UX u hu),uY (p:=fun t=>decide (t∈A))]
  ·refine ou (e.Kf.filter _) (fun t ht=>?_) fun t _=>e.w0 u t
   exact of_decide_eq_true (LC.mp ht).2
  ·intro t ht c
   have c:=of_decide_eq_false c
   have h0:=e.w0 u t
   by_cases z:0<w u t
   ·exact absurd (offU u hu t (e.sup u t (UX u hu) ht z)) c
   ·omega
 have h1:cE U (fun _=>R)≤cE U fun u=>cE A fun t=>w u t:=eG iE
 rw [uZ,eI] at h1
 have h2:cE A (fun t=>cE U fun u=>w u t)≤cE A fun _=>R:=eG fun t ht=>by
  rw [← e.col t (iv t ht)]
  exact ou ndU UX fun u _=>e.w0 u t
 rw [eI] at h2
 have hl:U.length=A.length+1:=by show (x::A.map _).length=_; rw [Lo,Kw]
 rw [hl,SR,Int.add_mul] at h1
 have:=e.pos
 omega
def d0 (off:Int→List Int) (n:Nat):List Int→Tk→Option Tk
 | [],T=>some T
 | x::xs,T=>match takeO off n x T [] with
  | some (_,T',_)=>d0 off n xs T'
  | none=>none
structure HK (off:Int→List Int) (X:List Int) (D:Int→Prop) (T:Tk):Prop where
 inj:∀ s t u,getZ T s=some u→getZ T t=some u→s=t
 ra:∀ t u,getZ T t=some u→t∈off u
 own:∀ t u,getZ T t=some u→D u
 all:∀ u,D u→∃ t,getZ T t=some u
theorem o5 {off:Int→List Int} {X V:List Int} {w:Int→Int→Int} {R:Int} (e:HL off X V w R) (hoff:∀ x t,t∈off x→t∈V) {n:Nat} (hn:V.length<n):∀ (xs:List Int) (D:Int→Prop) (T:Tk),(∀ x∈xs,x∈X∧¬ D x)→xs.Nodup→(∀ u,D u→u∈X)→HK off X D T→∃ T',d0 off n xs T=some T'∧HK off X (fun u=>D u∨u∈xs) T'
 | [],D,T,_,_,_,f=>⟨T,rfl,f.inj,f.ra,fun t u h=>.inl (f.own t u h),fun u h=>f.all u (h.resolve_right (by simp))⟩
 | x::xs,D,T,hx,nd,hD,f=>by
  obtain ⟨h1,h2⟩:=La.mp nd
  obtain ⟨xX,xD⟩:=hx x Ky
  have p:Pre T [] x:=⟨fun s t u _ _=>f.inj s t u,fun t _ z=>xD (f.own t x z)⟩
  obtain ⟨b,T',A',et,q⟩:=uP hoff n x T [] Mc (by simp) (by simpa using hn) p
  cases b with
  | false =>
   obtain ⟨k1,k2,k3⟩:=q.Ep rfl
   exact (xB e xX (fun t u h=>hD u (f.own t u h)) p q.nd q.yZ k2 fun t ht=>k3 t ht (by simp)).elim
  | true =>
   have W:=q.I0 rfl
   have f':HK off X (fun u=>D u∨u=x) T':=by
    refine ⟨fun s t u=>W.inj s t u (by simp) (by simp),fun t u h=>(W.ra t u h).elim (f.ra t u) id,fun t u h=>?_,fun u h=>?_⟩
    ·rcases W.BQ u t (by simp) h with z | ⟨s,_,z⟩
     ·exact .inr z
     ·exact .inl (f.own s u z)
    ·rcases h with h | h
     ·obtain ⟨s,hs⟩:=f.all u h
      obtain ⟨t,_,ht⟩:=W.Gr u s (by simp) hs
      exact ⟨t,ht⟩
     ·obtain ⟨t,_,ht⟩:=W.has
      exact ⟨t,by rw [h]; exact ht⟩
   obtain ⟨T2,e2,f2⟩:=o5 e hoff hn xs (fun u=>D u∨u=x) T' (fun y hy=>⟨(hx y (Kx _ hy)).1,fun z=>z.elim (hx y (Kx _ hy)).2 fun z=>h1 (z ▸ hy)⟩) h2 (fun u h=>h.elim (hD u) fun z=>z ▸ xX) f'
   refine ⟨T2,by unfold d0; rw [et]; exact e2,f2.inj,f2.ra,fun t u h=>?_,fun u h=>f2.all u ?_⟩
   ·rcases f2.own t u h with (z | z) | z
    ·exact .inl z
    ·exact .inr (z ▸ Ky)
    ·exact .inr (Kx _ z)
   ·rcases h with z | z
    ·exact .inl (.inl z)
    ·rcases KP.mp z with z | z
     ·exact .inl (.inr z)
     ·exact .inr z
def bE (n:Nat):List Int:=(KW n).map Int.ofNat
theorem aq:x∈bE n↔0≤x∧x<n:=by
 unfold bE
 rw [K5]
 constructor
 ·rintro ⟨k,hk,rfl⟩
  have:=Lw.mp hk
  exact ⟨Int.natCast_nonneg k,by show (k:Int)<n; omega⟩
 ·rintro ⟨h0,h1⟩
  exact ⟨x.toNat,Lw.mpr (by omega),by show ((x.toNat:Nat):Int)=x; omega⟩
theorem cR (n:Nat):(bE n).Nodup:=by
 unfold bE
 refine List.Pairwise.map _ (fun a b h z=>h (by cases z; rfl)) Pg
theorem fH (n:Nat):(bE n).length=n:=by unfold bE; rw [Kw,K7]
theorem yG (a b:Nat):bE (a+b)=bE a++(bE b).map fun x=>(a:Int)+x:=by
 unfold bE
 rw [List.range_add,Li,K6,K6]
 rfl
theorem sZ (f:Int→Int):∀ a b:List Int,cE (a++b) f=cE a f+cE b f
 | [],b=>by rw [Nm,yx]; omega
 | x::a,b=>by rw [NU,bf,bf,sZ f a b]; omega
theorem yy (f:Int→Int) (g:Int→Int) (l:List Int):cE (l.map g) f=cE l fun x=>f (g x):=by
 unfold cE
 rw [K6]
 rfl
theorem hU {c u:Int}:∀ {l:List Int},l.Nodup→u∈l→cE l (fun i=>if i=u then c else 0)=c
 | [],_,h=>by cases h
 | a::l,nd,h=>by
  obtain ⟨h1,h2⟩:=La.mp nd
  rw [bf]
  by_cases e:a=u
  ·subst e
   rw [if_pos rfl]
   have:cE l (fun i=>if i=a then c else 0)=cE l fun _=>0:=bT fun t ht=>if_neg fun z:t=a=>h1 (z ▸ ht)
   rw [this,eI,Int.mul_zero,QT]
  ·rw [if_neg e,hU h2 ((KP.mp h).resolve_left fun z=>e z.symm),QU]
section
variable (h b:Nat) (l:Int→Int→Int) (R:Int)
def dn (i:Int):Int:=cE (bE b) fun j=>l i j
def dX (j:Int):Int:=cE (bE h) fun i=>l i j
def sJ (u t:Int):Int :=
 if 0≤u∧u<h then (if 0≤t∧t<b then l u t else if t=b+u then R-dn b l u else 0)
 else if (h:Int)≤u∧u<h+b then (if (b:Int)≤t∧t<b+h then l (t-b) (u-h) else if t=u-h then R-dX h l (u-h) else 0)
 else 0
def qU (u:Int):List Int :=
 if 0≤u∧u<h then (bE b).filter (fun t=>decide (0<l u t))++(if dn b l u<R then [(b:Int)+u] else [])
 else if (h:Int)≤u∧u<h+b then ((bE h).map fun i=>(b:Int)+i)++(if dX h l (u-h)<R then [u-h] else [])
 else []
structure Fits:Prop where
 pos:∀ i j,0≤l i j
 row:∀ i,i∈bE h→dn b l i≤R
 col:∀ j,j∈bE b→dX h l j≤R
end
theorem tP {b:Nat} {l:Int→Int→Int} (u t:Int) (ht:t∈qU h b l R u):t∈bE (b+h):=by
 rw [aq]
 unfold qU at ht
 split at ht
 ·rename_i c
  rcases KS.mp ht with z | z
  ·have:=aq.mp (LC.mp z).1
   omega
  ·split at z
   ·rw [Kz.mp z]; omega
   ·cases z
 ·split at ht
  ·rename_i c
   rcases KS.mp ht with z | z
   ·obtain ⟨i,hi,rfl⟩:=K5.mp z
    have:=aq.mp hi
    omega
   ·split at z
    ·rw [Kz.mp z]; omega
    ·cases z
  ·cases ht
theorem JG {b:Nat} {l:Int→Int→Int} (f:Fits h b l R) (hR:0<R):HL (qU h b l R) (bE (h+b)) (bE (b+h)) (sJ h b l R) R:=by
 refine ⟨hR,cR _,cR _,fun u t=>?_,fun u t hu ht hw=>?_,fun u hu=>?_,fun t ht=>?_⟩
 ·unfold sJ
  split
  ·rename_i c
   split
   ·exact f.pos _ _
   ·split
    ·have:=f.row u (aq.mpr c); omega
    ·exact Mh _
  ·split
   ·rename_i c
    split
    ·exact f.pos _ _
    ·split
     ·have:=f.col (u-h) (aq.mpr (by omega)); omega
     ·exact Mh _
   ·exact Mh _
 ·unfold sJ at hw
  unfold qU
  split at hw
  ·rename_i c
   rw [if_pos c]
   split at hw
   ·rename_i d
    exact K3 _ (LC.mpr ⟨aq.mpr d,decide_eq_true hw⟩)
   ·split at hw
    ·rename_i d
     rw [if_pos (by omega),d]
     exact KA _ Ky
    ·omega
  ·rename_i c
   rw [if_neg c]
   split at hw
   ·rename_i c2
    rw [if_pos c2]
    split at hw
    ·rename_i d
     exact K3 _ (K5.mpr ⟨t-b,aq.mpr (by omega),by omega⟩)
    ·split at hw
     ·rename_i d
      rw [if_pos (by omega),d]
      exact KA _ Ky
     ·omega
   ·omega
 ·have hu:=aq.mp hu
  rw [yG,sZ,yy]
  by_cases c:0≤u∧u<h
  ·have e1:cE (bE b) (fun t=>sJ h b l R u t)=dn b l u:=bT fun t ht=>by
    unfold sJ
    rw [if_pos c,if_pos (aq.mp ht)]
   have e2:cE (bE h) (fun i=>sJ h b l R u ((b:Int)+i))=cE (bE h) (fun i=>if i=u then R-dn b l u else 0):=bT fun i hi=>by
    have:=aq.mp hi
    unfold sJ
    rw [if_pos c,if_neg (by omega)]
    by_cases z:i=u
    ·rw [if_pos z,if_pos (by omega)]
    ·rw [if_neg z,if_neg (by omega)]
   rw [e1,e2,hU (cR _) (aq.mpr c)]
   omega
  ·have c2:(h:Int)≤u∧u<h+b:=by omega
   have e1:cE (bE b) (fun t=>sJ h b l R u t)=cE (bE b) (fun t=>if t=u-h then R-dX h l (u-h) else 0):=bT fun t ht=>by
    have:=aq.mp ht
    unfold sJ
    rw [if_neg c,if_pos c2,if_neg (by omega)]
   have e2:cE (bE h) (fun i=>sJ h b l R u ((b:Int)+i))=dX h l (u-h):=bT fun i hi=>by
    have:=aq.mp hi
    unfold sJ
    rw [if_neg c,if_pos c2,if_pos (by omega),show (b:Int)+i-b=i by omega]
   rw [e1,e2,hU (cR _) (aq.mpr (by omega))]
   omega
 ·have ht:=aq.mp ht
  rw [yG,sZ,yy]
  by_cases c:0≤t∧t<b
  ·have e1:cE (bE h) (fun u=>sJ h b l R u t)=dX h l t:=bT fun u hu=>by
    unfold sJ
    rw [if_pos (aq.mp hu),if_pos c]
   have e2:cE (bE b) (fun j=>sJ h b l R ((h:Int)+j) t)=cE (bE b) (fun j=>if j=t then R-dX h l t else 0):=bT fun j hj=>by
    have:=aq.mp hj
    unfold sJ
    rw [if_neg (by omega),if_pos (by omega),if_neg (by omega),show (h:Int)+j-h=j by omega]
    by_cases z:j=t
    ·rw [if_pos z,if_pos z.symm,z]
    ·rw [if_neg z,if_neg (fun w=>z w.symm)]
   rw [e1,e2,hU (cR _) (aq.mpr c)]
   omega
  ·have e1:cE (bE h) (fun u=>sJ h b l R u t)=cE (bE h) (fun u=>if u=t-b then R-dn b l (t-b) else 0):=bT fun u hu=>by
    unfold sJ
    rw [if_pos (aq.mp hu),if_neg c]
    by_cases z:u=t-b
    ·rw [if_pos z,if_pos (by omega),z]
    ·rw [if_neg z,if_neg (by omega)]
   have e2:cE (bE b) (fun j=>sJ h b l R ((h:Int)+j) t)=dn b l (t-b):=bT fun j hj=>by
    have:=aq.mp hj
    unfold sJ
    rw [if_neg (by omega),if_pos (by omega),if_pos (by omega),show (h:Int)+j-h=j by omega]
   rw [e1,e2,hU (cR _) (aq.mpr (by omega))]
   omega
def FR (t:Int):Key×V:=(.inl t,.bl true)
def Fd (T:Tk):HO:=.dK (T.map rb)
def HS (A:List Int):HO:=.dK (A.map FR)
def iU (H:Hp) (p q:KI) (T:Tk) (A:List Int):Hp:=upd (upd H p (Fd T)) q (HS A)
theorem uN {H:Hp} {a:KI} {o:HO} (e:H a=some o):upd H a o=H:=by
 funext x
 unfold upd
 split
 ·rename_i z; rw [z]; exact e.symm
 ·rfl
theorem sM {H:Hp} {a:KI} {o o':HO}:upd (upd H a o) a o'=upd H a o':=by
 funext x
 unfold upd
 split <;> rfl
theorem Bq {H:Hp} {a b:KI} {o o':HO} (h:a≠b):upd (upd H a o) b o'=upd (upd H b o') a o:=by
 funext x
 unfold upd
 split
 ·rename_i z
  rw [if_neg (fun w=>h (w.symm.trans z))]
 ·rfl
theorem CH {H:Hp} {p q:KI} {T:Tk} (e1:H p=some (Fd T)) (e2:H q=some (HS A)):iU H p q T A=H:=by
 unfold iU
 rw [uN e1,uN e2]
theorem FE {H:Hp} {p q:KI} {T:Tk} (h:p≠q):iU H p q T A p=some (Fd T):=by
 unfold iU
 rw [av h]
 exact aC
theorem IJ {H:Hp} {p q:KI} {T:Tk}:iU H p q T A q=some (HS A):=aC
theorem FF {H:Hp} {p q a:KI} {T:Tk} (h1:a≠p) (h2:a≠q):iU H p q T A a=H a:=by
 unfold iU
 rw [av h2,av h1]
theorem vD {H:Hp} {p q:KI} {T:Tk} {A':List Int}:upd (iU H p q T A) q (HS A')=iU H p q T A':=sM
theorem qe {H:Hp} {p q:KI} {T T':Tk} (h:p≠q):upd (iU H p q T A) p (Fd T')=iU H p q T' A:=by
 unfold iU
 rw [Bq (MY h),sM]
theorem Ez {H:Hp} {p q:KI} {T T':Tk} {A':List Int} (h:p≠q):iU (iU H p q T A) p q T' A'=iU H p q T' A':=by
 show upd (upd (iU H p q T A) p (Fd T')) q (HS A')=_
 rw [qe h]
 exact vD
theorem hE {off:Int→List Int}:∀ (n:Nat) (x:Int) (T:Tk) (A:List Int) (b:Bool) (T':Tk) (A':List Int),takeO off n x T A=some (b,T',A')→(b=false→T'=T)∧T'.length≤T.length+n
 | 0,x,T,A,b,T',A',e=>by cases e
 | n+1,x,T,A,b,T',A',e=>by
  have key:∀ (ts:List Int) (T:Tk) (A:List Int),takeL (takeO off n) x ts T A=some (b,T',A')→(b=false→T'=T)∧T'.length≤T.length+(n+1):=by
   intro ts
   induction ts with
   | nil=>intro T A e; cases e; exact ⟨fun _=>rfl,by omega⟩
   | cons t ts ih =>
    intro T A e
    unfold takeL at e
    split at e
    ·exact ih T A e
    ·split at e
     ·cases e
      exact ⟨fun z=>(by cases z),by have:=vd T t x; omega⟩
     ·rename_i u _
      split at e
      ·rename_i T1 A1 e1
       cases e
       have:=(hE n u T _ _ _ _ e1).2
       exact ⟨fun z=>(by cases z),by have:=vd T1 t x; omega⟩
      ·rename_i T1 A1 e1
       have:=(hE n u T _ _ _ _ e1).1 rfl
       subst this
       exact ih _ _ e
      ·cases e
  exact key (off x) T A e
def Dy (H:Hp) (po:KI) (off:Int→List Int) (m:Nat):Prop:=∃ as:List KI,as.length=m∧m≤1000∧Rd H po (.lst (as.map V.ref))∧∀ (x:Nat) (a:KI),as[x]?=some a→Rd H a (.lst ((off (x:Int)).map V.int))∧(off (x:Int)).length≤1000
def Jp (n:Nat):Sp:=fun vs H Q _=>∃ (po p q:KI) (off:Int→List Int) (m:Nat) (W:List Int) (x:Int) (T:Tk) (A:List Int) (b:Bool) (T':Tk) (A':List Int),
 vs=[.ref po,.int x,.ref p,.ref q]∧Dy H po off m∧H p=some (Fd T)∧H q=some (HS A)∧p≠q∧0≤x∧x<m∧(∀ t u,getZ T t=some u→0≤u∧u<m)∧T.length+n≤1000∧A.Nodup∧(∀ t∈A,t∈W)∧(∀ x t,t∈off x→t∈W)∧W.length≤1000 ∧
 takeO off n x T A=some (b,T',A')∧Q (.bl b) (iU H p q T' A')
def me:List D→Option (List (List Int))
 | []=>some []
 | .lst ds::r=>(match cT ds,me r with
  | some x,some y=>some (x::y)
  | _,_=>none)
 | _=>none
theorem oX:∀ (R:List (List Int)),me (R.map fun r=>D.lst (r.map D.int))=some R
 | []=>rfl
 | r::R=>by
  rw [Ld]
  unfold me
  rw [dR,oX R]
theorem nq:∀ {ds:List D} {R:List (List Int)},me ds=some R→ds=R.map fun r=>D.lst (r.map D.int)
 | [],R,h=>by cases h; rfl
 | d::ds,R,h=>by
  unfold me at h
  split at h
  ·rename_i e; cases e
  ·rename_i a b c e
   cases e
   split at h
   ·rename_i x y e1 e2
    cases h
    rw [Ld,← de e1,← nq e2]
   ·cases h
  ·cases h
def eE (R:List (List Int)) (x:Int):List Int:=if 0≤x then R.getD x.toNat [] else []
theorem Ah {R:List (List Int)} (h:t∈eE R x):∃ r∈R,t∈r:=by
 unfold eE at h
 split at h
 ·rw [Ku] at h
  cases e:R[x.toNat]? with
  | none=>rw [e] at h; cases h
  | some r=>rw [e] at h; exact ⟨r,LI e,h⟩
 ·cases h
def zw (R:List (List Int)):Prop:=R.length≤50∧(∀ r∈R,r.length≤1000)∧∃ W:List Int,W.length≤1000∧∀ r∈R,∀ t∈r,t∈W
open Classical in
@[irreducible] noncomputable def bb (ds:List D):Option D:=match ds with
 | [.lst xs]=>(match me xs with
  | some R=>if zw R then (d0 (eE R) 14 (bE R.length) []).map D.dct else none
  | none=>none)
 | _=>none
theorem uF (h:bb ds=some d):∃ R T,ds=[.lst (R.map fun r=>D.lst (r.map D.int))]∧zw R∧d0 (eE R) 14 (bE R.length) []=some T∧d=.dct T:=by
 unfold bb at h
 split at h
 ·rename_i xs
  split at h
  ·rename_i R e
   split at h
   ·rename_i ok
    obtain ⟨T,e2,e3⟩:=LO.mp h
    exact ⟨R,T,by rw [← nq e],ok,e2,e3.symm⟩
   ·cases h
  ·cases h
 ·cases h
theorem yb {R:List (List Int)} {T:Tk} (ok:zw R) (e:d0 (eE R) 14 (bE R.length) []=some T):bb [.lst (R.map fun r=>D.lst (r.map D.int))]=some (.dct T):=by
 unfold bb
 dsimp only
 rw [oX]
 dsimp only
 rw [if_pos ok,e]
 rfl
theorem jX {off:Int→List Int}:∀ (n:Nat) (x:Int) (T:Tk) (A:List Int) (b:Bool) (T':Tk) (A':List Int),takeO off n x T A=some (b,T',A')→∀ t u,getZ T' t=some u→u=x∨∃ s,getZ T s=some u
  | 0,x,T,A,b,T',A',e=>by cases e
  | n+1,x,T,A,b,T',A',e=>by
    have key:∀ (ts:List Int) (T:Tk) (A:List Int),takeL (takeO off n) x ts T A=some (b,T',A')→∀ t u,getZ T' t=some u→u=x∨∃ s,getZ T s=some u:=by
      intro ts
      induction ts with
      | nil=>intro T A e; cases e; exact fun t u h=>.inr ⟨t,h⟩
      | cons t ts ih =>
        intro T A e
        unfold takeL at e
        split at e
        · exact ih T A e
        · split at e
          · cases e
            intro s u h
            rw [kY] at h
            split at h
            · cases h; exact .inl rfl
            · exact .inr ⟨s,h⟩
          · rename_i v hv
            split at e
            · rename_i T1 A1 e1
              cases e
              intro s u h
              rw [kY] at h
              split at h
              · cases h; exact .inl rfl
              · rcases jX n v T _ _ _ _ e1 s u h with z | z
                · exact .inr ⟨t,by rw [z]; exact hv⟩
                · exact .inr z
            · rename_i T1 A1 e1
              intro s u h
              rcases ih _ _ e s u h with z | ⟨r,z⟩
              · exact .inl z
              · rcases jX n v T _ _ _ _ e1 r u z with z | z
                · exact .inr ⟨t,by rw [z]; exact hv⟩
                · exact .inr z
            · cases e
    exact key (off x) T A e
theorem BS {i:Nat} (h:i<m):(bE m).drop i=(i:Int)::(bE m).drop (i+1):=by
 unfold bE
 rw [← To,← To,Lq (by rw [K7]; exact h),OS]
 rfl
theorem nU (x0 x1:D):jL 5 [false,false] [x0,x1]=[.bo x0,.bo x1,.un,.un,.un]:=rfl
noncomputable def en:DS:=(aU (cX 2 (bX bb (ax (bX fh (ax (ag 0) (ax (ag 1) bK))) bK)))
 (aU (cX 3 (gz gM (dt (ag 0) (dC (.int 0)))))
 (aU (cX 4 (cc (bA 1 [2,0] (iq (ag 3)) (gN true 0) (dT (AV (lD (ag 1) (ag 0)) (gz gM (ag 2)))) (cc (ax (lD (ag 1) (ag 0)) (ax (aG 0) bK))))))
 (dy (cc (lz (aG 4)))))))
@[irreducible] noncomputable def bR:List D→Option D:=cw 5 [false,false] en
theorem fV:bR=cw 5 [false,false] en:=by unfold bR; rfl
theorem zL (x0:D):jL 8 [false] [x0]=[.bo x0,.un,.un,.un,.un,.un,.un,.un]:=rfl
noncomputable def lR:DS:=(aU (kI 1 (kc 1 [] (iG (ag 0)) (gN false 0) bP (qg (rg (ag 0)))))
 (aU (cX 2 (bX dg (ax (ag 0) bK)))
 (aU (gU 3 bK)
 (aU (my (dT (Ht (ag 2) (dC (.int 0))))
 (aU (cX 4 (bX bR (ax (ag 1) (ax (ag 2) bK))))
 (aU (cX 5 (bX bB (ax (ag 1) (ax (ag 2) (ax (ag 4) bK)))))
 (aU (mz (iG (aG 4)) (DI 2 (cC (gN true 6) (cC (gN true 7) jN)))
 (u9 (fun x y=>x-y) 1 (ag 6) (ag 7) (ag 5)))
 (aU (BK (fun x y=>x-y) 2 (ag 5))
 (xk 3 (cc (ax (aG 5) (ax (aG 4) bK)))))))))
  (tx 3 (dy (aG 3)))))))
@[irreducible] noncomputable def d9:List D→Option D:=cw 8 [false] lR
theorem lK:d9=cw 8 [false] lR:=by unfold d9; rfl
theorem wU (x0 x1:D):jL 2 [false,false] [x0,x1]=[.bo x0,.bo x1]:=rfl
noncomputable def jB:DS:=(dy (lE (oO false (dt (ag 0) (dC (.int 0))) (dt (ag 1) (dC (.int 0)))) (lE (oO false (dt (ag 0) (dC (.int 1))) (dt (ag 1) (dC (.int 1)))) (oO false (dt (ag 0) (dC (.int 3))) (dt (ag 1) (dC (.int 2)))))))
@[irreducible] noncomputable def dW:List D→Option D:=cw 2 [false,false] jB
theorem jU:dW=cw 2 [false,false] jB:=by unfold dW; rfl
theorem zP (x0:D):jL 3 [false] [x0]=[.bo x0,.un,.un]:=rfl
noncomputable def lV:DS:=(aU (kI 1 C7)
 (aU (mz (lz (sf 0)) (gN false 2)
 (tw (Dc (qC (ag 1)) (qC (bX dW (ax (dt (ag 1) (rf (dC (.int 1)))) (ax (ag 2) bK)))))
 (rH 1 (rf (dC (.int 1))) (dC (.int 3)) (gw (dt (ag 2) (dC (.int 3)))))
 (pC 1 (qg (rg (ag 2))))))
 (pB 1 [] (xW (ax (gw (dt (ag 0) (dC (.int 2)))) (ax (gw (dt (ag 0) (dC (.int 0)))) bK))))))
@[irreducible] noncomputable def ee:List D→Option D:=z0 3 [false] lV
theorem lQ:ee=z0 3 [false] lV:=by unfold ee; rfl
theorem sS (x0:D):jL 6 [false] [x0]=[.bo x0,.un,.un,.un,.un,.un]:=rfl
noncomputable def gF:DS:=(aU (gU 1 bK)
 (aU (cX 2 (dC (.int 0)))
 (aU (mz (iG (bX d9 (ax (ag 0) bK))) (DI 2 (cC (gN true 3) (cC (gN true 4) jN)))
 (aU (cX 5 (ke (ag 2) (ag 3)))
 (aU (xj 1 (cc (bA 2 [2,5] (iG (aG 4)) (DI 2 (cC (gN true 0) (cC (gN true 1) jN))) bP (cc (ax (aG 1) (ax (aG 0) (ax (aG 2) (ax (aG 3) bK))))))))
 (cX 2 (aG 5)))))
 (dy (bX ee (ax (ag 1) bK))))))
@[irreducible] noncomputable def cI:List D→Option D:=cw 6 [false] gF
theorem iA:cI=cw 6 [false] gF:=by unfold cI; rfl
theorem wN (x0:D):jL 1 [false] [x0]=[.bo x0]:=rfl
noncomputable def jx:DS:=(dy (lE (AW "int" (ag 0)) (sh (AW "bool" (ag 0)))))
@[irreducible] noncomputable def du:List D→Option D:=cw 1 [false] jx
theorem jQ:du=cw 1 [false] jx:=by unfold du; rfl
theorem sV (x0 x1:D):jL 2 [false,false] [x0,x1]=[.bo x0,.bo x1]:=rfl
noncomputable def gH:DS:=(aU (tw (dT (AV (ag 1) (gz gM (ag 0))))
 (dy (gw (dt (ag 0) (ag 1))))
      fC)
 (dy (dC (.int 0))))
@[irreducible] noncomputable def bp:List D→Option D:=cw 2 [false,false] gH
theorem iC:bp=cw 2 [false,false] gH:=by unfold bp; rfl
theorem wQ (x0 x1:D):jL 3 [false,false] [x0,x1]=[.bo x0,.bo x1,.un]:=rfl
noncomputable def jz:DS:=(aU (cX 2 (jF (ke (ke (m3 (ag 0) (dC (.int 48271))) (m3 (m3 (ag 1) (ag 1)) (dC (.int 69621)))) (dC (.int 3))) (dC (.int 2147483647))))
 (dy (jF (m3 (ag 2) (ag 2)) (dC (.int 2147483629)))))
@[irreducible] noncomputable def cy:List D→Option D:=cw 3 [false,false] jz
theorem jS:cy=cw 3 [false,false] jz:=by unfold cy; rfl
theorem sU (x0:D):jL 3 [false] [x0]=[.bo x0,.un,.un]:=rfl
noncomputable def gG:DS:=(aU (gU 1 (bA 1 [0] (iq (dC (.int 36))) (gN true 0) bP (bX cy (ax (bX bp (ax (ag 1) (ax (dC (.int 2)) bK))) (ax (ke (dC (.int 90)) (ag 0)) bK)))))
 (aU (mz (C4 (dC (.int 3)) (zg (dC (.int 63)) (gz gM (ag 0)))) (gN true 2)
 (xi 1 (jF (ag 2) (dC (.int 36))) (bX cy (ax (ke (dt (ag 1) (jF (ag 2) (dC (.int 36)))) (dt (ag 0) (ag 2))) (ax (ag 2) bK)))))
  (tx 1 (dy (aG 1)))))
@[irreducible] noncomputable def cJ:List D→Option D:=cw 3 [false] gG
theorem iB:cJ=cw 3 [false] gG:=by unfold cJ; rfl
theorem zO (x0:D):jL 1 [false] [x0]=[.bo x0]:=rfl
noncomputable def lU:DS:=(aU (tw (dT (oO false (jF (ag 0) (dC (.int 3))) (dC (.int 1))))
 (dy (dC (.int 6)))
      fC)
 (dy (jF (qE (ag 0) (dC (.int 3))) (dC (.int 7)))))
@[irreducible] noncomputable def dE:List D→Option D:=cw 1 [false] lU
theorem lO:dE=cw 1 [false] lU:=by unfold dE; rfl
theorem wR (x0 x1:D):jL 2 [false,false] [x0,x1]=[.bo x0,.bo x1]:=rfl
noncomputable def jA:DS:=(aU (tw (dT (oO false (ag 1) (dC (.int 0))))
 (dy (jF (ag 0) (dC (.int 6))))
      fC)
 (aU (tw (dT (oO false (ag 1) (dC (.int 1))))
 (dy (m3 (jF (qE (ag 0) (dC (.int 6))) (dC (.int 9))) (gz intD (AV (jF (ag 0) (dC (.int 6))) (dC (.int 2))))))
      fC)
 (aU (tw (dT (oO false (ag 1) (dC (.int 2))))
 (dy (ke (m3 (ag 0) (C5 (dC (.int 10)) (dC (.int 40)))) (bX cy (ax (ag 0) (ax (dC (.int 5)) bK)))))
      fC)
 (dy (m3 (jF (ag 0) (dC (.int 2))) (C5 (dC (.int 10)) (dC (.int 49))))))))
@[irreducible] noncomputable def dU:List D→Option D:=cw 2 [false,false] jA
theorem jT:dU=cw 2 [false,false] jA:=by unfold dU; rfl
theorem wO (x0:D):jL 10 [false] [x0]=[.bo x0,.un,.un,.un,.un,.un,.un,.un,.un,.un]:=rfl
noncomputable def jy:DS:=(aU (cX 1 (bX cJ (ax (ag 0) bK)))
 (aU (cX 2 (bX bp (ax (ag 0) (ax (dC (.int 2)) bK))))
 (aU (cX 3 (bX dE (ax (bX bp (ax (ag 0) (ax (dC (.int 0)) bK))) bK)))
 (aU (cX 4 (m3 (bX dE (ax (bX bp (ax (ag 0) (ax (dC (.int 1)) bK))) bK)) (gz intD (Ht (ag 3) (dC (.int 0))))))
 (aU (gU 5 bK)
 (aU (mz (iq (ag 3)) (gN true 6)
 (aU (gU 7 bK)
 (aU (mz (iq (ag 4)) (gN true 8)
 (aU (cX 9 (C6 (oO false (ag 6) (jF (qE (ag 2) (dC (.int 4))) (dC (.int 12)))) (oO false (ag 8) (jF (qE (ag 2) (dC (.int 48))) (dC (.int 12))))))
 (xk 7 (m3 (bX dU (ax (dt (ag 1) (ke (m3 (dC (.int 6)) (ag 6)) (ag 8))) (ax (jF (ag 2) (dC (.int 4))) bK))) (gz intD (sh (ag 9)))))))
  (tx 7 (xk 5 (aG 7))))))
  (tx 5 (dy (aG 5)))))))))
@[irreducible] noncomputable def dS:List D→Option D:=cw 10 [false] jy
theorem jR:dS=cw 10 [false] jy:=by unfold dS; rfl
theorem zN (x0:D):jL 3 [false] [x0]=[.bo x0,.un,.un]:=rfl
noncomputable def lT:DS:=(aU (cX 1 (cc (bA 1 [] (iG (ag 0)) (gN false 0) bP (gz uT (ag 0)))))
 (aU (cX 2 (gz maxD (cc (m4 (cc (bA 1 [] (iG (ag 0)) (gN false 0) bP (gz gM (ag 0)))) (cc (ax (dC (.int 0)) bK))))))
 (dy (xW (ax (aG 1) (ax (cc (bA 1 [0] (iq (ag 2)) (gN true 0) bP (gz uT (cc (bA 1 [0] (iG (ag 1)) (gN false 0) bP (gw (dt (ag 0) (ag 1)))))))) bK))))))
@[irreducible] noncomputable def fi:List D→Option D:=cw 3 [false] lT
theorem lN:fi=cw 3 [false] lT:=by unfold fi; rfl
theorem BA (x0:D):jL 2 [false] [x0]=[.bo x0,.un]:=rfl
noncomputable def oT:DS:=(aU (cX 1 (bX fi (ax (ag 0) bK)))
 (dy (gz maxD (cc (m4 (cc (m4 (dt (aG 1) (dC (.int 0))) (dt (aG 1) (dC (.int 1))))) (cc (ax (dC (.int 0)) bK)))))))
@[irreducible] noncomputable def gE:List D→Option D:=cw 2 [false] oT
theorem nR:gE=cw 2 [false] oT:=by unfold gE; rfl
theorem kB (x0 x1:D):jL 11 [false,true] [x0,x1]=[.bo x0,.pu x1,.un,.un,.un,.un,.un,.un,.un,.un,.un]:=rfl
noncomputable def dw:DS:=(aU (tw (vP (qC (AW "list" (ag 1))))
 (dy (dC (.bl false)))
      fC)
 (aU (kI 2 (kc 1 [] (iG (ag 0)) (gN false 0) bP (AS (ax (dC (.int 0)) bK) (gz gM (ag 0)))))
 (aU (gU 3 (bA 1 [] (iq (dC (.int 6))) (gN true 0) bP (cc (ax (rf (dC (.int 1))) (ax (rf (dC (.int 1))) bK)))))
 (aU (gU 4 (AS (ax (dC (.int 0)) bK) (dC (.int 6))))
 (aU (cX 5 (cc (ax (rf (dC (.int 1))) (ax (rf (dC (.int 1))) bK))))
 (aU (mz (iG (aG 1)) (gN true 6)
 (aU (tw (Bf (vP (qC (AW "list" (ag 6)))) (Bf (dT (oO true (gz gM (ag 6)) (dC (.int 4)))) (vP (qC (gz HA (cc (bA 1 [] (iG (aG 6)) (gN true 0) bP (bX du (ax (ag 0) bK)))))))))
 (dy (dC (.bl false)))
      fC)
 (aU (Iq (aG 6) (DI 4 (cC (gN true 7) (cC (gN true 8) (cC (gN true 9) (cC (gN true 10) jN))))))
 (aU (tw (Bf (dT (AV (ag 8) (dC (.int 0)))) (Bf (dT (Hu (ag 8) (gz gM (ag 0)))) (Bf (dT (AV (ag 7) (dC (.int 0)))) (dT (Hu (ag 7) (gz gM (dt (ag 0) (dC (.int 0)))))))))
 (dy (dC (.bl false)))
      fC)
 (aU (tw (Bf (dT (C8 (cc (ax (aG 9) (ax (aG 7) bK))) (ag 5))) (Bf (dT (Hu (ag 9) (ag 10))) (dT (AV (ag 9) (zh (dt (dt (ag 3) (ag 7)) (dC (.int 1))) (dt (ag 4) (ag 8)))))))
 (dy (dC (.bl false)))
      fC)
 (aU (tw (dT (oO false (dt (ag 3) (ag 7)) (cc (ax (aG 8) (ax (aG 9) bK)))))
 (dy (dC (.bl false)))
      fC)
 (aU (cX 5 (cc (ax (aG 9) (ax (aG 7) bK))))
 (aU (xi 3 (ag 7) (cc (ax (aG 8) (ax (aG 10) bK))))
 (aU (xi 4 (ag 8) (aG 10))
 (rH 2 (ag 8) (ag 7) (AR (ke (dt (dt (ag 2) (ag 8)) (ag 7)) (ag 10)) (ag 9))))))))))))
 (dy (lE (oO false (ag 2) (ag 0)) (oO false (gz maxD (ag 4)) (bX gE (ax (ag 0) bK)))))))))))
@[irreducible] noncomputable def bu:List D→Option D:=cw 11 [false,true] dw
theorem fj:bu=cw 11 [false,true] dw:=by unfold bu; rfl
theorem Gf (x0:D):jL 3 [false] [x0]=[.bo x0,.un,.un]:=rfl
noncomputable def zz:DS:=(aU (cX 1 (bX dS (ax (ag 0) bK)))
 (aU (cX 2 (cc (bA 1 [] (iG (aG 1)) (gN true 0) bP (cc (rg (aG 0))))))
 (dy (lE (bX bu (ax (ag 1) (ax (bX cI (ax (ag 2) bK)) bK))) (oO false (ag 2) (ag 1))))))
@[irreducible] noncomputable def sH:List D→Option D:=cw 3 [false] zz
theorem sG:sH=cw 3 [false] zz:=by unfold sH; rfl
end
section
variable [bD] {P:L0} {w:L9} {K:KC} {mg:LV→Option KD} {base:ME} {ad:Jl}
theorem pL (T:Txt K mg ad) (hbm:fk mg base):df P w K mg base jJ 1 ad.t8 ad.uo ["table"] (nu .v K [false] dN):=by
 rw [nQ]
 exact eA.tO (N:=["table", "benches", "columns"]) T.dN pz [false] rfl oS fun cdv A outer s H E hr=>⟨_,
 (ai (ba (i:=1) pz.nd rfl (Lk rfl) (B5 (eL (K:=K) rfl (pv 0) (fun _=>rfl)) (aJ (cg (K:=K) rfl) rfl T.z_len eV (aa (aX (aA (K:=K) rfl) (pv 0) ao (fun _ _=>rfl)) aj)) ao))
 (ai (iM (i:=2) pz.nd rfl rfl rfl (cS rfl T.z_range (aa (pv 1) aj)) (ts:=["bench"]) (zs:=["table"]) (k:=1) (is:=[0]) rfl (.cons rfl .nil) (.cons rfl (Lk rfl) rfl (by first | exact Lk rfl | exact L3 rfl) .nil) rfl rfl rfl (aS (by decide)) (fun _ _ _ _ _=>(fq (i:=0) (by decide +kernel) rfl (L3 rfl) (Lk rfl))) (fun _ _ _ _ _=>(aJ (jt (K:=K) rfl rfl) rfl T.z_sum ux (aa (gL rfl (bH (K:=K) rfl (pv 1)) (ts:=["row"]) (zs:=["bench"]) (k:=1) (is:=[0]) rfl (.cons rfl .nil) (.cons rfl (by first | exact Lk rfl | exact L3 rfl) rfl (by first | exact Lk rfl | exact L3 rfl) .nil) rfl rfl rfl (aS (by decide)) (fun _ _ _ _ _=>(fq (i:=0) (by decide +kernel) rfl (Lk rfl) (L3 rfl))) (fun _ _ _ _ _=>(aX (aA (K:=K) rfl) (pv 0) (pv 1) (fun _ _=>rfl))) rfl rfl (by decide +kernel)) aj))) rfl rfl (by decide +kernel))
 (ay (bh (xq (aa (gL rfl (bH (K:=K) rfl (pv 0)) (ts:=["row"]) (zs:=[]) (k:=1) (is:=[]) rfl .nil .nil rfl rfl rfl (aS (by decide)) (fun _ _ _ _ _=>(fq (i:=0) (by decide +kernel) rfl (Lk rfl) (L3 rfl))) (fun _ _ _ _ _=>(aJ (jt (K:=K) rfl rfl) rfl T.z_sum ux (aa (pv 0) aj))) rfl rfl (by decide +kernel)) (aa (pv 2) aj))))))),
 (au (bC (Io (mi (K:=K) (ae 0)) (fm (bO (ae 0) (af.b ak))) ak))
 (au (oq (ck.l (bU (m:=true) (k:=1) (cs:=[0]) (g7.c (dh (ae 1))) (aD 0) cn (tf (af.b (ck.l (bU (m:=false) (k:=1) (cs:=[0]) (cQ (ae 1)) (aD 0) cn (aO.i (bO (ae 0) (ae 1))))))))))
 (bx (w5 (n:=2) (bq (ck.l (bU (m:=false) (k:=1) (cs:=[]) (cQ (ae 0)) (aD 0) cn (tf (ae 0)))) (bq (aN 2) aH)) (by decide)))))⟩
theorem vi (T:Txt K mg ad) (hbm:fk mg base):df P w K mg base jJ 2 ad.j7 ad.ka ["table"] (nu .v K [false] dg):=by
 rw [je]
 exact eA.tO (N:=["table", "sums"]) T.dg nC [false] rfl iz fun cdv A outer s H E hr=>⟨_,
 (ai (ba (i:=1) nC.nd rfl (Lk rfl) (aT (pL T hbm) (hr.mono (by decide)) rfl T.tT T.dN.kp T.uB .nil cq (aa (pv 0) aj)))
 (ay (bh (Aa (x6 (K:=K) rfl rfl) rfl T.z_max qI (aa (aW oF (aX (aA (K:=K) rfl) (pv 1) ao (fun _ _=>rfl)) (aX (aA (K:=K) rfl) (pv 1) ao (fun _ _=>rfl))) aj) (Ee ao GC))))),
 (au (bC (aY (aP (ae 0) aH)))
 (bx (D5 (af.b (ck.l (tq (ny (aN 1) (af.b ak)) (ny (aN 1) (af.b ak))))) ak)))⟩
theorem mE (T:Txt K mg ad) (hbm:fk mg base):df P w K mg base jJ 2 ad.fv ad.fB ["left", "rest", "pairs"] (nu .v K [false,false,false] bB):=by
 rw [fF]
 exact eA.tO (N:=["left", "rest", "pairs", "sums", "hands", "benches", "bounds"]) T.bB cF [false,false,false] rfl dO fun cdv A outer s H E hr=>⟨_,
 (ai (ba (i:=3) cF.nd rfl (Lk rfl) (aT (pL T hbm) (hr.mono (by decide)) rfl T.tT T.dN.kp T.uB .nil cq (aa (pv 0) aj)))
 (ai (ba (i:=4) cF.nd rfl (L3 rfl) (gL rfl (bH (K:=K) rfl (pv 2)) (ts:=["pair"]) (zs:=[]) (k:=1) (is:=[]) rfl .nil .nil rfl rfl rfl (aS (by decide)) (fun _ _ _ _ _=>(fq (i:=0) (by decide +kernel) rfl (Lk rfl) (L3 rfl))) (fun _ _ _ _ _=>(aX (aA (K:=K) rfl) (pv 0) ao (fun _ _=>rfl))) rfl rfl (by decide +kernel)))
 (ai (ba (i:=5) cF.nd rfl (L3 rfl) (gL rfl (bH (K:=K) rfl (pv 2)) (ts:=["pair"]) (zs:=[]) (k:=1) (is:=[]) rfl .nil .nil rfl rfl rfl (aS (by decide)) (fun _ _ _ _ _=>(fq (i:=0) (by decide +kernel) rfl (Lk rfl) (L3 rfl))) (fun _ _ _ _ _=>(aX (aA (K:=K) rfl) (pv 0) ao (fun _ _=>rfl))) rfl rfl (by decide +kernel)))
 (ai (iM (i:=6) cF.nd rfl rfl rfl (bH (K:=K) rfl (pv 2)) (ts:=["pair"]) (zs:=["left"]) (k:=1) (is:=[0]) rfl (.cons rfl .nil) (.cons rfl (Lk rfl) rfl (by first | exact Lk rfl | exact L3 rfl) .nil) rfl rfl rfl (aS (by decide)) (fun _ _ _ _ _=>(fq (i:=0) (by decide +kernel) rfl (Lk rfl) (L3 rfl))) (fun _ _ _ _ _=>(aX (aA (K:=K) rfl) (aX (aA (K:=K) rfl) (pv 1) (aX (aA (K:=K) rfl) (pv 0) ao (fun _ _=>rfl)) (fun _ _=>rfl)) (aX (aA (K:=K) rfl) (pv 0) ao (fun _ _=>rfl)) (fun _ _=>rfl))) rfl rfl (by decide +kernel))
 (ai (dJ (iO LU OI OJ tR (pv 6) (aa (xr rfl (kM (K:=K) rfl rfl T.z_enumerate (aX (aA (K:=K) rfl) (pv 3) ao (fun _ _=>rfl))) (ts:=["hand", "load"]) (zs:=["hands", "rest"]) (k:=2) (is:=[4,1]) rfl (.cons rfl (.cons rfl .nil)) (.cons rfl (Lk rfl) rfl (by first | exact Lk rfl | exact L3 rfl) (.cons rfl (Lk rfl) rfl (by first | exact Lk rfl | exact L3 rfl) .nil)) rfl rfl rfl (tU (lows_cons (aS (by decide)) (lows_cons (aS (by decide)) pW))) (fun _ _ _ _ _=>(gq (K:=K) rfl rfl (bI (fq (i:=0) (by decide +kernel) rfl (Lk rfl) (L3 rfl)) (bI (fq (i:=1) (by decide +kernel) rfl (Lk rfl) (L3 rfl)) gn)))) (fun _ _ _ _ _=>(bM (jM (K:=K) rfl) (pv 0) (pv 2) (by with_unfolding_all rfl))) (fun _ _ _ _ _=>(aW xt (pv 3) (pv 1))) rfl rfl (by decide +kernel)) aj)))
 (ai (dJ (iO LU OI OJ tR (pv 6) (aa (xr rfl (kM (K:=K) rfl rfl T.z_enumerate (aX (aA (K:=K) rfl) (pv 3) ao (fun _ _=>rfl))) (ts:=["bench", "load"]) (zs:=["benches", "rest"]) (k:=2) (is:=[5,1]) rfl (.cons rfl (.cons rfl .nil)) (.cons rfl (Lk rfl) rfl (by first | exact Lk rfl | exact L3 rfl) (.cons rfl (Lk rfl) rfl (by first | exact Lk rfl | exact L3 rfl) .nil)) rfl rfl rfl (tU (lows_cons (aS (by decide)) (lows_cons (aS (by decide)) pW))) (fun _ _ _ _ _=>(gq (K:=K) rfl rfl (bI (fq (i:=0) (by decide +kernel) rfl (Lk rfl) (L3 rfl)) (bI (fq (i:=1) (by decide +kernel) rfl (Lk rfl) (L3 rfl)) gn)))) (fun _ _ _ _ _=>(bM (jM (K:=K) rfl) (pv 0) (pv 2) (by with_unfolding_all rfl))) (fun _ _ _ _ _=>(aW xt (pv 3) (pv 1))) rfl rfl (by decide +kernel)) aj)))
 (ay (bh (aJ (xZ (K:=K) rfl rfl) rfl T.z_min Dk (aa (pv 6) aj)))))))))),
 (au (bC (aY (aP (ae 0) aH)))
 (au (bC (ck.l (bU (m:=false) (k:=1) (cs:=[]) (cQ (ae 2)) (aD 0) cn (aO.i (bO (ae 0) (af.b ak))))))
 (au (bC (ck.l (bU (m:=false) (k:=1) (cs:=[]) (cQ (ae 2)) (aD 0) cn (aO.i (bO (ae 0) (af.b ak))))))
 (au (o9 (bU (m:=false) (k:=1) (cs:=[0]) (cQ (ae 2)) (aD 0) cn (aO.i (bO (bO (ae 1) (bO (ae 0) (af.b ak))) (bO (ae 0) (af.b ak))))))
 (au (wW (ck.l (bU (m:=true) (k:=2) (cs:=[4,1]) (g7.c (oo (ny (aN 3) (af.b ak)))) (nA (bF (aD 0) (bF (aD 1) gf))) (bL (af.b (Fq (neg:=true) (ae 0) (ae 2)))) (xa (ae 3) (ae 1)))))
 (au (wW (ck.l (bU (m:=true) (k:=2) (cs:=[5,1]) (g7.c (oo (ny (aN 3) (af.b ak)))) (nA (bF (aD 0) (bF (aD 1) gf))) (bL (af.b (Fq (neg:=true) (ae 0) (ae 2)))) (xa (ae 3) (ae 1)))))
 (bx (Gm (ae 6)))))))))⟩
theorem Ae (T:Txt K mg ad) (hbm:fk mg base):df P w K mg base jJ 2 ad.qm ad.qz ["left", "rest"] (nu .v K [false,false] fh):=by
 rw [lM]
 exact eA.tO (N:=["left", "rest", "sums", "hands", "benches", "told", "hand", "load", "bench"]) T.fh dk [false,false] rfl lS fun cdv A outer s H E hr=>⟨_,
 (ai (ba (i:=2) dk.nd rfl (Lk rfl) (aT (pL T hbm) (hr.mono (by decide)) rfl T.tT T.dN.kp T.uB .nil cq (aa (pv 0) aj)))
 (ai (ba (i:=3) dk.nd rfl (Lk rfl) (aJ (cg (K:=K) rfl) rfl T.z_len eV (aa (aX (aA (K:=K) rfl) (pv 2) ao (fun _ _=>rfl)) aj)))
 (ai (ba (i:=4) dk.nd rfl (L3 rfl) (aJ (cg (K:=K) rfl) rfl T.z_len eV (aa (aX (aA (K:=K) rfl) (pv 2) ao (fun _ _=>rfl)) aj)))
 (ai (ba (i:=5) dk.nd rfl (Lk rfl) (cN aj))
 (ai (fQ MD rfl (kM (K:=K) rfl rfl T.z_enumerate (aX (aA (K:=K) rfl) (pv 2) ao (fun _ _=>rfl))) (gq (K:=K) rfl rfl (bI (bV (i:=6) dk.nd rfl (L3 rfl)) (bI (bV (i:=7) dk.nd rfl (Lk rfl)) gn)))
 (ai (dJ (iO LU Mq Mr dq (pv 5) (aa (xr rfl (cS rfl T.z_range (aa (pv 4) aj)) (ts:=["bench"]) (zs:=["left", "hand"]) (k:=1) (is:=[0,6]) rfl (.cons rfl (.cons rfl .nil)) (.cons rfl (Lk rfl) rfl (by first | exact Lk rfl | exact L3 rfl) (.cons rfl (Lk rfl) rfl (by first | exact Lk rfl | exact L3 rfl) .nil)) rfl rfl rfl (aS (by decide)) (fun _ _ _ _ _=>(fq (i:=0) (by decide +kernel) rfl (Lk rfl) (L3 rfl))) (fun _ _ _ _ _=>(bM Ca (aX (aA (K:=K) rfl) (aX (aA (K:=K) rfl) (pv 1) (pv 2) (fun _ _=>rfl)) (pv 0) (fun _ _=>rfl)) ao (bz _))) (fun _ _ _ _ _=>(pv 0)) rfl rfl (by decide +kernel)) aj)))
 (ay (fP (bM nI (pv 7) (pv 1) (bz _))
 (ay (dJ (iO LU Mq Mr dq (aX (aA (K:=K) rfl) (pv 5) (pv 6) (fun _ _=>rfl)) (aa (aW fR (pv 4) (pv 6)) aj))))
 cV))))
 (ai (fQ MD rfl (kM (K:=K) rfl rfl T.z_enumerate (aX (aA (K:=K) rfl) (pv 2) ao (fun _ _=>rfl))) (gq (K:=K) rfl rfl (bI (bV (i:=8) dk.nd rfl (Lk rfl)) (bI (bV (i:=7) dk.nd rfl (Lk rfl)) gn)))
 (ai (dJ (iO LU Mq Mr dq (pv 5) (aa (gL rfl (cS rfl T.z_range (aa (pv 3) aj)) (ts:=["hand"]) (zs:=["benches"]) (k:=1) (is:=[4]) rfl (.cons rfl .nil) (.cons rfl (Lk rfl) rfl (by first | exact Lk rfl | exact L3 rfl) .nil) rfl rfl rfl (aS (by decide)) (fun _ _ _ _ _=>(fq (i:=0) (by decide +kernel) rfl (Lk rfl) (L3 rfl))) (fun _ _ _ _ _=>(aW fR (pv 1) (pv 0))) rfl rfl (by decide +kernel)) aj)))
 (ay (fP (bM nI (pv 7) (pv 1) (bz _))
 (ay (dJ (iO LU Mq Mr dq (aX (aA (K:=K) rfl) (pv 5) (aW fR (pv 3) (pv 8)) (fun _ _=>rfl)) (aa (pv 8) aj))))
 cV))))
 (ay (bh (pv 5))))))))),
 (au (bC (aY (aP (ae 0) aH)))
 (au (bC (fm (bO (ae 2) (af.b ak))))
 (au (bC (fm (bO (ae 2) (af.b ak))))
 (au (sW BF)
 (au (hJ (m:=true) (oo (ny (aN 2) (af.b ak))) (nA (bF (aD 6) (bF (aD 7) gf)))
 (au (sX (bU (m:=true) (k:=1) (cs:=[0,6]) (g7.c (dh (ae 4))) (aD 0) (bL (af.b (BH (bO (bO (ae 1) (ae 2)) (ae 0)) (af.b ak)))) (aN 0)))
 (gR (bL (af.b (nv (ae 7) (ae 1))))
 (yu (ae 6) (fN (ae 4) (ae 6)))
 dF)))
 (au (hJ (m:=true) (oo (ny (aN 2) (af.b ak))) (nA (bF (aD 8) (bF (aD 7) gf)))
 (au (sX (bU (m:=true) (k:=1) (cs:=[4]) (g7.c (dh (ae 3))) (aD 0) cn (fN (ae 1) (ae 0))))
 (gR (bL (af.b (nv (ae 7) (ae 1))))
 (yu (af.b (fN (ae 3) (ae 8))) (aN 8))
 dF)))
 (pe 5 (bx (aN 5)))))))))⟩
theorem oZ {off:Int→List Int} {W:List Int} (hoff:∀ x t,t∈off x→t∈W):∀ (n:Nat) (x:Int) (T:Tk) (A:List Int) (b:Bool) (T':Tk) (A':List Int),takeO off n x T A=some (b,T',A')→A.Nodup→(∀ t∈A,t∈W)→A'.Nodup∧∀ t∈A',t∈W
 | 0,x,T,A,b,T',A',e,_,_=>by cases e
 | n+1,x,T,A,b,T',A',e,nd,iv=>by
  have key:∀ (ts:List Int) (T:Tk) (A:List Int),(∀ t∈ts,t∈W)→takeL (takeO off n) x ts T A=some (b,T',A')→A.Nodup→(∀ t∈A,t∈W)→A'.Nodup∧∀ t∈A',t∈W:=by
   intro ts
   induction ts with
   | nil=>intro T A _ e nd iv; cases e; exact ⟨nd,iv⟩
   | cons t ts ih =>
    intro T A hts e nd iv
    have hts':∀ t∈ts,t∈W:=fun s hs=>hts s (Kx _ hs)
    unfold takeL at e
    split at e
    ·exact ih T A hts' e nd iv
    ·rename_i c
     have nd2:(A++[t]).Nodup:=Oi.mpr ⟨nd,by simp,fun a ha b hb=>by
      rw [Kz.mp hb]
      exact fun z=>c (z ▸ ha)⟩
     have iv2:∀ s∈A++[t],s∈W:=fun s hs=>(KS.mp hs).elim (iv s) fun z=>by rw [Kz.mp z]; exact hts t Ky
     split at e
     ·cases e; exact ⟨nd2,iv2⟩
     ·split at e
      ·rename_i T1 A1 e1
       cases e
       exact oZ hoff n _ T _ _ _ _ e1 nd2 iv2
      ·rename_i T1 A1 e1
       obtain ⟨h1,h2⟩:=oZ hoff n _ T _ _ _ _ e1 nd2 iv2
       exact ih _ _ hts' e h1 h2
      ·cases e
  exact key (off x) T A (hoff x) e nd iv
theorem yi (k:Int):∀ A:List Int,L2.lY (A.map FR) (.inl k)=if k∈A then some (.bl true) else none
 | []=>by rw [if_neg (by simp)]; rfl
 | p::r=>by
  rw [Ld]
  by_cases e:p=k
  ·rw [L2.iH (show (FR p).1=.inl k by show Oh p=_; rw [e]),if_pos (by rw [e]; exact Ky)]
   rfl
  ·rw [L2.iI (show ¬ (FR p).1=.inl k from fun z=>e (Pj z)),yi k r]
   by_cases c:k∈r
   ·rw [if_pos c,if_pos (Kx _ c)]
   ·rw [if_neg c,if_neg (fun z=>(KP.mp z).elim (fun w=>e w.symm) c)]
theorem Ec (h:t∉A):L2.putK (A.map FR) (.inl t) (.bl true)=(A++[t]).map FR:=by
 unfold L2.putK
 rw [if_neg,Li]
 ·rfl
 ·intro z
  obtain ⟨p,hp,e⟩:=Pd.mp z
  obtain ⟨a,ha,rfl⟩:=K5.mp hp
  have:=Pj (of_decide_eq_true e)
  exact h (this ▸ ha)
theorem yP {f:KI} {fd:LX} (F:eA K "take_one" "take_one" fO f fd) (hb:Binds K fd ["offered", "taker", "takers", "asked"] []) (hm:mg "take_one" = some (.ref f)):∀ n:Nat,n≤30→df P w K mg base jJ (n+1) f fd ["offered", "taker", "takers", "asked"] (Jp n)
  | 0,_=>eA.ok (N:=["offered", "taker", "takers", "asked", "thing"]) F iK (fun vs H Q E h=>by
      obtain ⟨po,p,q,off,m,W,x,T,A,b,T',A',rfl,_⟩:=h
      rfl) fun cdv A outer s H vs Q E hr h=>by
      obtain ⟨po,p,q,off,m,W,x,T,A,b,T',A',_,_,_,_,_,_,_,_,_,_,_,_,_,e,_⟩:=h
      cases e
  | n+1,hn=>eA.ok (N:=["offered", "taker", "takers", "asked", "thing"]) F iK (fun vs H Q E h=>by
      obtain ⟨po,p,q,off,m,W,x,T,A,b,T',A',rfl,_⟩:=h
      rfl) fun cdv A outer s H vs Q E hr h=>by
      have ih:=yP F hb hm n (by omega)
      refine ⟨_,(ai (fQ MD rfl (bH (K:=K) rfl (aX (aA (K:=K) rfl) (pv 0) (pv 1) (fun _ _=>rfl))) (bV (i:=4) iK.nd rfl (Lk rfl))
 (ai (fP (BZ (GK (qc hr) (pv 4) (pv 3))) (ay ve) cV)
 (ai (yL (qc hr) (pv 3) (pv 4) nF rfl)
 (ay (fP (PW.pt (nE (BZ (Ab (qc hr) (pv 4) (pv 2))) (tH (eL (K:=K) rfl (aT ih hr rfl hm F.kp hb .nil cq (aa (pv 0) (aa (tJ (qc hr) (pv 2) (pv 4) (fun _ _=>rfl)) (aa (pv 2) (aa (pv 3) aj))))) (fun _=>rfl)))))
 (ai (yL (qc hr) (pv 2) (pv 4) (pv 1) rfl) (ay (bh nF))) cV)))))
 (ay (bh nF))),?_⟩
      obtain ⟨po,p,q,off,m,W,x,T,A,b,T',A',rfl,ho,hp,hq,hne,x0,xm,hT,hTl,nd,iv,hoff,hWl,e,hQ⟩:=h
      obtain ⟨as,al,m1,hpo,hrow⟩:=ho
      have hxa:as[x.toNat]?=some as[x.toNat]:=Kv (by omega)
      generalize as[x.toNat]=a at hxa
      obtain ⟨ha,hal⟩:=hrow _ a hxa
      rw [show ((x.toNat:Nat):Int)=x by omega] at ha hal
      have np:∀ {c:KI} {xs:List V},Rd H c (.lst xs)→c≠p∧c≠q:=fun {c xs} hc=>by
        constructor
        · intro z
          rcases hc with hc | ⟨o,hc⟩ <;> (rw [z,hp] at hc; cases hc)
        · intro z
          rcases hc with hc | ⟨o,hc⟩ <;> (rw [z,hq] at hc; cases hc)
      have hlst:∀ (T:Tk) (A:List Int) {c:KI} {xs:List V},Rd H c (.lst xs)→Rd (iU H p q T A) c (.lst xs):=fun T A c xs hc=>by
        have e:=FF (H:=H) (T:=T) (A:=A) (np hc).1 (np hc).2
        unfold Rd at hc ⊢
        rw [e]
        exact hc
      refine ⟨_,rfl,_,rfl,.inl ⟨po,as.map V.ref,x,.ref a,rfl,rfl,(.inl hpo),?_,a,rfl,⟨_,(.inl ha)⟩,?_⟩⟩
      · unfold iF
        rw [fS x0 (by rw [Kw]; omega)]
        show (as.map V.ref)[x.toNat]?=_
        rw [KO,hxa]
        rfl
      refine ⟨fun i mm σ' H'=>∃ (A1:List Int) (v4:Option V),mm=(off x).length-i∧i≤(off x).length∧σ'=[some (.ref po),some (.int x),some (.ref p),some (.ref q),v4]∧H'=iU H p q T A1∧A1.Nodup∧(∀ t∈A1,t∈W)∧takeL (takeO off n) x ((off x).drop i) T A1=some (b,T',A'),⟨_,A,none,rfl,LL _,rfl,(CH hp hq).symm,nd,iv,e⟩,?_⟩
      rintro i mm σ2 H2 ⟨A1,v4,rfl,hi,rfl,rfl,nd1,iv1,e1⟩
      by_cases hlt:i<(off x).length
      · refine .inr ⟨⟨_,.int (off x)[i],(.inl (hlst T A1 ha)),by rw [KO,Kv hlt]; rfl⟩,fun σ' H'=>∃ (A1:List Int) (v4:Option V),σ'=[some (.ref po),some (.int x),some (.ref p),some (.ref q),v4]∧H'=iU H p q T A1∧A1.Nodup∧(∀ t∈A1,t∈W)∧takeL (takeO off n) x ((off x).drop (i+1)) T A1=some (b,T',A'),fun σ' H' ⟨A2,v4,h1,h2,h3,h4,h5⟩=>⟨_,by omega,A2,v4,rfl,hlt,h1,h2,h3,h4,h5⟩,?_⟩
        rintro y H3 ⟨rfl,hy⟩
        have hy:=hy _ ((.inl (hlst T A1 ha)))
        rw [KO,Kv hlt] at hy
        cases hy
        rw [Lq hlt] at e1
        have htW:(off x)[i]∈W:=hoff x _ (Nd hlt)
        generalize (off x)[i]=t at e1 htW
        unfold takeL at e1
        dsimp only [jO,K2,KZ]
        have hq1:∀ A1:List Int,iU H p q T A1 q=some (.dK (A1.map FR)):=fun A1=>IJ
        have hp1:∀ (T:Tk) (A1:List Int),iU H p q T A1 p=some (.dK (T.map rb)):=fun T A1=>FE hne
        have hA1:=mH nd1 iv1
        have hline:=Lv
        refine ⟨_,rfl,_,rfl,q,_,rfl,ng.k (k:=.inl t) (hq1 A1),_,rfl,?_⟩
        rw [yi]
        by_cases c:t∈A1
        · rw [if_pos c] at e1 ⊢
          exact ⟨A1,_,rfl,rfl,nd1,iv1,e1⟩
        rw [if_neg c] at e1 ⊢
        refine ⟨_,rfl,_,rfl,q,_,rfl,yc.k (k:=.inl t) (v:=.bl true) (hq1 A1) (by rw [Kw]; omega),?_⟩
        rw [Ec c,show upd (iU H p q T A1) q (.dK ((A1++[t]).map FR))=iU H p q T (A1++[t]) from vD]
        have nd2:(A1++[t]).Nodup:=Oi.mpr ⟨nd1,by simp,fun a ha b hb=>by
          rw [Kz.mp hb]
          exact fun z=>c (z ▸ ha)⟩
        have iv2:∀ s∈A1++[t],s∈W:=fun s hs=>(KS.mp hs).elim (iv1 s) fun z=>by rw [Kz.mp z]; exact htW
        refine ⟨_,rfl,_,rfl,p,_,rfl,ng.k (k:=.inl t) (hp1 T (A1++[t])),_,rfl,?_⟩
        rw [oi]
        cases g:getZ T t with
        | none =>
          rw [g] at e1
          cases e1
          refine ⟨_,rfl,_,rfl,_,rfl,p,_,rfl,yc.k (k:=.inl t) (v:=.int x) (hp1 T (A1++[t])) (by rw [Kw]; omega),?_⟩
          rw [yJ,show upd (iU H p q T (A1++[t])) p (.dK ((jD T t x).map rb))=iU H p q (jD T t x) (A1++[t]) from qe hne]
          exact hQ
        | some u =>
          rw [g] at e1
          dsimp only at e1
          have hu:=hT t u g
          have hG:ng (iU H p q T (A1++[t])) p (.int t) (some (.int u)):=by
            have:=ng.k (k:=.inl t) (hp1 T (A1++[t]))
            rw [oi,g] at this
            exact this
          have hO:Dy (iU H p q T (A1++[t])) po off m:=⟨as,al,m1,hlst _ _ hpo,fun y c hc=>⟨hlst _ _ (hrow y c hc).1,(hrow y c hc).2⟩⟩
          obtain ⟨b1,T1,A2,e2⟩:∃ b1 T1 A2,takeO off n u T (A1++[t])=some (b1,T1,A2):=by
            cases z:takeO off n u T (A1++[t]) with
            | none=>rw [z] at e1; cases e1
            | some r=>exact ⟨r.1,r.2.1,r.2.2,rfl⟩
          obtain ⟨k1,k2⟩:=hE n u T _ _ _ _ e2
          obtain ⟨k3,k4⟩:=oZ hoff n u T _ _ _ _ e2 nd2 iv2
          rw [e2] at e1
          refine ⟨_,rfl,_,rfl,_,rfl,p,_,rfl,hG,_,rfl,_,rfl,?_⟩
          refine ⟨po,p,q,off,m,W,u,T,A1++[t],b1,T1,A2,rfl,hO,hp1 T _,hq1 _,hne,hu.1,hu.2,hT,by omega,nd2,iv2,hoff,hWl,e2,b1,rfl,?_⟩
          rw [Ez hne]
          cases b1 with
          | true =>
            cases e1
            refine ⟨_,rfl,_,rfl,_,rfl,p,_,rfl,yc.k (k:=.inl t) (v:=.int x) (hp1 T1 A') (by rw [Kw]; omega),?_⟩
            rw [yJ,show upd (iU H p q T1 A') p (.dK ((jD T1 t x).map rb))=iU H p q (jD T1 t x) A' from qe hne]
            exact hQ
          | false =>
            have:=k1 rfl
            subst this
            exact ⟨A2,_,rfl,rfl,k3,k4,e1⟩
      · refine .inl ⟨⟨_,(.inl (hlst T A1 ha)),by rw [Kw]; omega⟩,?_⟩
        have:(off x).drop i=[]:=N8 (by omega)
        rw [this] at e1
        cases e1
        exact hQ
theorem mD (T:Txt K mg ad) (hbm:fk mg base):df P w K mg base jJ 16 ad.fu ad.fA ["offered"] (nu .l K [false] bb) :=
  eA.ok (N:=["offered", "takers", "taker"]) T.bb eK (fun vs H Q E h=>by
    obtain ⟨Z,ds,d,hz,a,_⟩:=h
    rw [a.len.1]
    rfl) fun cdv A outer s H vs Q E hr h=>by
    refine ⟨_,(ai (ba (i:=1) eK.nd rfl (Lk rfl) vg)
 (ai (fQ MD rfl (cS rfl T.z_range (aa (aJ (cg (K:=K) rfl) rfl T.z_len eV (aa (pv 0) aj)) aj)) (bV (i:=2) eK.nd rfl (Lk rfl))
 (ay (dJ (aT (yP T.qO T.qK T.pV 14 (by decide)) (hr.mono (by decide)) rfl T.pV T.qO.kp T.qK .nil cq (aa (pv 0) (aa (pv 2) (aa (pv 1) (aa vg aj))))))))
 (ay (bh (pv 1))))),?_⟩
    obtain ⟨Z,ds,d,hz,ar,hF,hQ⟩:=h
    obtain ⟨R,T2,rfl,ok,eT,rfl⟩:=uF hF
    obtain ⟨hR,hrl,W,hW,hRW⟩:=ok
    obtain ⟨v,rfl,iv⟩:∃ v,vs=[v]∧Is K H No v (.lst (R.map fun r=>D.lst (r.map D.int))):=by
      cases ar with
      | any i r=>cases r; exact ⟨_,rfl,i⟩
    cases iv with
    | @lst po us _ hz1 hpo hl il =>
    have hline:=Lv
    have hul:us.length=R.length:=by rw [il.length,Kw]
    have hrow:∀ (x:Nat) (u:V),us[x]?=some u→∃ a,u=.ref a∧Rd H a (.lst ((eE R (x:Int)).map V.int))∧(eE R (x:Int)).length≤1000:=by
      intro x u hu
      obtain ⟨d,hd,i1⟩:=il.JC hu
      rw [KO] at hd
      obtain ⟨r,hr,rfl⟩:=LO.mp hd
      have eo:eE R (x:Int)=r:=by
        unfold eE
        rw [if_pos (by omega),Mu,Ku,hr]
        rfl
      rw [eo]
      cases i1 with
      | lst hz2 iU hl2 il2 =>
        rw [IsL.ints il2] at iU
        exact ⟨_,rfl,iU,hrl r (LI hr)⟩
    have has:∃ as:List KI,us=as.map V.ref:=by
      have:∀ l:List V,(∀ u∈l,∃ a,u=V.ref a)→∃ as:List KI,l=as.map V.ref:=by
        intro l
        induction l with
        | nil=>intro _; exact ⟨[],rfl⟩
        | cons u l ih =>
          intro h
          obtain ⟨a,rfl⟩:=h u Ky
          obtain ⟨as,rfl⟩:=ih fun u hu=>h u (Kx _ hu)
          exact ⟨a::as,rfl⟩
      refine this us fun u hu=>?_
      obtain ⟨x,hx⟩:=Mp hu
      obtain ⟨a,e,_⟩:=hrow x u hx
      exact ⟨a,e⟩
    obtain ⟨as,rfl⟩:=has
    rw [Kw] at hul
    have hO:∀ {H':Hp},aL H H'→Dy H' po (eE R) R.length:=fun {H'} s=>by
      have rd:∀ {a:KI} {o:HO},Rd H a o→Rd H' a o:=fun {a o} h=>h.elim (fun h=>.inl (s _ _ h)) fun ⟨q,h⟩=>.inr ⟨q,s _ _ h⟩
      refine ⟨as,hul,by omega,rd hpo,fun x a hx=>?_⟩
      obtain ⟨b,e,h1,h2⟩:=hrow x (.ref a) (by rw [KO,hx]; rfl)
      cases e
      exact ⟨rd h1,h2⟩
    have hoff:∀ x t,t∈eE R x→t∈W:=fun x t h=>let ⟨r,hr,ht⟩:=Ah h; hRW r hr t ht
    intro p hp
    have hs1:aL H (upd H p (.dK [])):=L2.bG hp
    have rd:∀ {H':Hp} {a:KI} {o:HO},aL H H'→Rd H a o→Rd H' a o:=fun {H' a o} s h=>h.elim (fun h=>.inl (s _ _ h)) fun ⟨q,h⟩=>.inr ⟨q,s _ _ h⟩
    refine ⟨_,rfl,.ref po,R.length,rfl,.inl ⟨_,.inl (rd hs1 hpo),by rw [Kw,hul]⟩,(R.length:Int),rfl,by omega,by omega,?_⟩
    rw [Mu]
    refine ⟨fun i m σ' H'=>∃ (T1:Tk) (v2:Option V),m=R.length-i∧i≤R.length∧σ'=[some (.ref po),some (.ref p),v2]∧aL H H'∧H' p=some (Fd T1)∧T1.length≤14*i∧(∀ t u,getZ T1 t=some u→0≤u∧u<R.length)∧d0 (eE R) 14 ((bE R.length).drop i) T1=some T2,
      ⟨_,[],none,rfl,LL _,rfl,hs1,aC,LL _,(fun t u z=>by cases z),eT⟩,?_⟩
    rintro i mm σ2 H2 ⟨T1,v2,rfl,hi,rfl,s2,hp2',hl2,hv2,e2⟩
    by_cases hlt:i<R.length
    · refine .inr ⟨hlt,fun σ' H'=>∃ (T1:Tk) (v2:Option V),σ'=[some (.ref po),some (.ref p),v2]∧aL H H'∧H' p=some (Fd T1)∧T1.length≤14*(i+1)∧(∀ t u,getZ T1 t=some u→0≤u∧u<R.length)∧d0 (eE R) 14 ((bE R.length).drop (i+1)) T1=some T2,fun σ' H' ⟨T3,v3,h1,h2,h3,h4,h5,h6⟩=>⟨_,by omega,T3,v3,rfl,hlt,h1,h2,h3,h4,h5,h6⟩,?_⟩
      rintro y H3 ⟨rfl,rfl⟩
      rw [show (0:Int)+(i:Int)=(i:Int) by omega]
      rw [BS hlt] at e2
      unfold d0 at e2
      split at e2
      · rename_i b T' A' e3
        refine ⟨_,rfl,_,rfl,_,rfl,fun q hq=>?_⟩
        have hpq:p≠q:=fun z=>by rw [z,hq] at hp2'; cases hp2'
        have s3:aL H3 (upd H3 q (.dK [])):=L2.bG hq
        refine ⟨po,p,q,eE R,R.length,W,(i:Int),T1,[],b,T',A',rfl,hO (s2.trans s3),s3 _ _ hp2',aC,hpq,by omega,by omega,hv2,by omega,Mc,(fun t h=>by cases h),hoff,hW,e3,?_⟩
        have:=(hE 14 _ T1 _ _ _ _ e3).2
        refine ⟨T',_,rfl,fun a u e=>?_,FE hpq,by omega,fun t u hu=>?_,e2⟩
        · rw [FF (fun z=>by rw [z,hp] at e; cases e) (fun z=>by have:=s2 _ _ e; rw [z,hq] at this; cases this)]
          exact s3 _ _ (s2 _ _ e)
        · rcases jX 14 _ T1 _ _ _ _ e3 t u hu with z | ⟨r,z⟩
          · rw [z]; exact ⟨by omega,by omega⟩
          · exact hv2 r u z
      · cases e2
    · have:(bE R.length).drop i=[]:=N8 (by rw [fH]; omega)
      rw [this] at e2
      cases e2
      exact .inl ⟨by show R.length≤i; omega,_,rfl,hQ _ _ s2 (.inr ⟨p,T2,rfl,rfl,hp,hp2',by omega⟩)⟩
theorem nX (T:Txt K mg ad) (hbm:fk mg base):df P w K mg base jJ 17 ad.fT ad.fU ["left", "rest"] (nu .v K [false,false] bR):=by
 rw [fV]
 exact eA.tO (N:=["left", "rest", "takers", "benches", "pairs"]) T.bR dG [false,false] rfl en fun cdv A outer s H E hr=>⟨_,
 (ai (ba (i:=2) dG.nd rfl (L3 rfl) (aT (mD T hbm) (hr.mono (by decide)) rfl T.nZ T.bb.kp T.n8 .nil cq (aa (aT (Ae T hbm) (hr.mono (by decide)) rfl T.Ck T.fh.kp T.Dq .nil cq (aa (pv 0) (aa (pv 1) aj))) aj)))
 (ai (ba (i:=3) dG.nd rfl (Lk rfl) (aJ (cg (K:=K) rfl) rfl T.z_len eV (aa (aX (aA (K:=K) rfl) (pv 0) ao (fun _ _=>rfl)) aj)))
 (ai (Gz (i:=4) dG.nd rfl rfl rfl (cS rfl T.z_range (aa (pv 3) aj)) (ts:=["bench"]) (zs:=["takers", "left"]) (k:=1) (is:=[2,0]) rfl (.cons rfl (.cons rfl .nil)) (.cons rfl (Lk rfl) rfl (by first | exact Lk rfl | exact L3 rfl) (.cons rfl (Lk rfl) rfl (by first | exact Lk rfl | exact L3 rfl) .nil)) rfl rfl rfl (aS (by decide)) (fun _ _ _ _ _=>(fq (i:=0) (by decide +kernel) rfl (Lk rfl) (L3 rfl))) (fun _ _ _ _ _=>(bM nI (tJ (qc hr) (pv 1) (pv 0) (fun _ _=>rfl)) (aJ (cg (K:=K) rfl) rfl T.z_len eV (aa (pv 2) aj)) (bz _))) (fun _ _ _ _ _=>(cN (aa (tJ (qc hr) (pv 1) (pv 0) (fun _ _=>rfl)) (aa (pv 0) aj)))) rfl rfl (by decide +kernel))
 (ay (bh (aJ (sk (K:=K) rfl rfl hr) rfl T.z_sorted sq (aa (pv 4) aj))))))),
 (au (bC (aY (aP (af.b (aY (aP (ae 0) (aP (ae 1) aH)))) aH)))
 (au (bC (fm (bO (ae 0) (af.b ak))))
 (au (oq (ck.l (bU (m:=true) (k:=1) (cs:=[2,0]) (g7.c (dh (ae 3))) (aD 0) (bL (af.b (nv (af.b (yA (ae 1) (ae 0))) (af.b (fm (ae 2)))))) (ck.l (cY (n:=2) (bq (yA (ae 1) (ae 0)) (bq (aN 0) aH)) (by decide))))))
 (bx (ck.l (D7 (aN 4)))))))⟩
theorem Ad (T:Txt K mg ad) (hbm:fk mg base):df P w K mg base jJ 18 ad.ql ad.qw ["table"] (nu .v K [false] d9):=by
 rw [lK]
 exact eA.tO (N:=["table", "left", "rest", "told", "pairs", "hours", "hand", "bench"]) T.d9 di [false] rfl lR fun cdv A outer s H E hr=>⟨_,
 (ai (iM (i:=1) di.nd rfl rfl rfl (bH (K:=K) rfl (pv 0)) (ts:=["row"]) (zs:=[]) (k:=1) (is:=[]) rfl .nil .nil rfl rfl rfl (aS (by decide)) (fun _ _ _ _ _=>(fq (i:=0) (by decide +kernel) rfl (Lk rfl) (L3 rfl))) (fun _ _ _ _ _=>(fL (gO (K:=K) rfl) rfl T.z_list lH (aa (pv 0) aj))) rfl rfl (by decide +kernel))
 (ai (ba (i:=2) di.nd rfl (Lk rfl) (aT (vi T hbm) (hr.mono (by decide)) rfl T.xG T.dg.kp T.x8 .nil cq (aa (pv 0) aj)))
 (ai (ba (i:=3) di.nd rfl (Lk rfl) (cN aj))
 (ai (B0 MD (bM Ca (pv 2) ao (bz _))
 (ai (ba (i:=4) di.nd rfl (Lk rfl) (aT (nX T hbm) (hr.mono (by decide)) rfl T.pU T.bR.kp T.qJ .nil cq (aa (pv 1) (aa (pv 2) aj))))
 (ai (ba (i:=5) di.nd rfl (Lk rfl) (aT (mE T hbm) (hr.mono (by decide)) rfl T.n4 T.bB.kp T.n9 .nil cq (aa (pv 1) (aa (pv 2) (aa (pv 4) aj)))))
 (ai (fQ MD rfl (bH (K:=K) rfl (pv 4)) (gq (K:=K) rfl rfl (bI (bV (i:=6) di.nd rfl (Lk rfl)) (bI (bV (i:=7) di.nd rfl (Lk rfl)) gn)))
 (ay (Ed (aX (aA (K:=K) rfl) (pv 1) (pv 6) (fun _ _=>rfl)) (pv 7) (AL (K:=K) rfl) (pv 5) CA set_list)))
 (ai (GA (i:=2) di.nd rfl (Lk rfl) (pv 5) CA)
 (ay (dJ (iO LU Mq Mr dq (pv 3) (aa (cN (aa (pv 5) (aa (pv 4) aj))) aj)))))))))
 (ay (bh (pv 3))))))),
 (au (uV (yw (m:=false) (k:=1) (cs:=[]) (cQ (ae 0)) (aD 0) cn (u4 (ae 0))))
 (au (bC (aY (aP (ae 0) aH)))
 (au (jg (cY (n:=0) aH (by decide)))
 (au (BB (bL (af.b (BH (ae 2) (af.b ak))))
 (au (bC (aY (aP (ae 1) (aP (ae 2) aH))))
 (au (bC (aY (aP (ae 1) (aP (ae 2) (aP (ae 4) aH)))))
 (au (hJ (m:=true) (jf (aN 4)) (nA (bF (aD 6) (bF (aD 7) gf)))
 (D1 (ae 6) (ae 7) (ae 5)))
 (au (Gh (ae 5))
 (wX (ck.l (cY (n:=2) (bq (aN 5) (bq (aN 4) aH)) (by decide)))))))))
 (pe 3 (bx (aN 3)))))))⟩
theorem xA (T:Txt K mg ad) (hbm:fk mg base):df P w K mg base jJ 1 ad.mS ad.mZ ["row", "later"] (nu .v K [false,false] dW):=by
 rw [jU]
 exact eA.tO (N:=["row", "later"]) T.dW xh [false,false] rfl jB fun cdv A outer s H E hr=>⟨_,
 (ay (bh (pK (eY (eQ (K:=K) hr.units) (aX (aA (K:=K) rfl) (pv 0) (dB rfl T.c_BENCH) (fun _ _=>rfl)) (aX (aA (K:=K) rfl) (pv 1) (dB rfl T.c_BENCH) (fun _ _=>rfl)) (bz _)) (pK (eY (eQ (K:=K) hr.units) (aX (aA (K:=K) rfl) (pv 0) (dB rfl T.c_WORK) (fun _ _=>rfl)) (aX (aA (K:=K) rfl) (pv 1) (dB rfl T.c_WORK) (fun _ _=>rfl)) (bz _)) (pJ (eY (eQ (K:=K) hr.units) (aX (aA (K:=K) rfl) (pv 0) (dB rfl T.c_END) (fun _ _=>rfl)) (aX (aA (K:=K) rfl) (pv 1) (dB rfl T.c_BEGIN) (fun _ _=>rfl)) (bz _))))))),
 (bx (kC (af.b (gc (neg:=false) (bO (ae 0) (af.b ak)) (bO (ae 1) (af.b ak)))) (kC (af.b (gc (neg:=false) (bO (ae 0) (af.b ak)) (bO (ae 1) (af.b ak)))) (gc (neg:=false) (bO (ae 0) (af.b ak)) (bO (ae 1) (af.b ak))))))⟩
theorem Ag (T:Txt K mg ad) (hbm:fk mg base):df P w K mg base jJ 2 ad.qq ad.lu ["rows"] (nu .m K [false] ee):=by
 rw [lQ]
 exact eA.Jt (N:=["rows", "fewest", "row"]) T.ee mx [false] rfl lV fun cdv hcd A outer s H E hr=>⟨_,
 (ai (ba (i:=1) mx.nd rfl (Lk rfl) (cN aj))
 (ai (fQ MD rfl (bH (K:=K) rfl (aJ (sk (K:=K) rfl rfl hr) rfl T.z_sorted sq (aa (pv 0) aj))) (bV (i:=2) mx.nd rfl (Lk rfl))
 (ay (fP (PW.pt (Gx (eL (K:=K) rfl (pv 1) (fun _=>rfl)) (Eb (eL (K:=K) rfl (aT (xA T hbm) (hr.mono (by decide)) rfl T.Aq T.dW.kp T.A9 .nil cq (aa (aX (aA (K:=K) rfl) (pv 1) (rQ md ao) (fun _ _=>rfl)) (aa (pv 2) aj))) (fun _=>rfl)))))
 (ay (mB (aX (aA (K:=K) rfl) (pv 2) (dB rfl T.c_END) (fun _ _=>rfl)) (pI (aX (aA (K:=K) rfl) (pv 1) (rQ md ao) (fun _ _=>rfl)) (dB rfl T.c_END) set_list)))
 (ay (dJ (iO LU Mq Mr dq (pv 1) (aa (fL (gO (K:=K) rfl) rfl T.z_list lH (aa (pv 2) aj)) aj)))))))
 (ay (bh (B3 (K:=K) (x := "each") (zs:=[]) (is:=[]) (q := "joined.<locals>.<lambda>") rfl ⟨hcd.symm.trans T.AE,T.Az,hbm⟩ hr rfl rfl T.z_sorted (pv 1) (iw.many .nil .nil (by decide +kernel) rfl (by decide +kernel) rfl rfl rfl) (by first | rfl | decide +kernel) rfl (fun _ _ _ _ _=>(xq (aa (aX (aA (K:=K) rfl) (pv 0) (dB rfl T.c_BEGIN) (fun _ _=>rfl)) (aa (aX (aA (K:=K) rfl) (pv 0) (dB rfl T.c_BENCH) (fun _ _=>rfl)) aj))))))))),
 (au (sW BF)
 (au (hJ (m:=false) (DX (Gj 0)) (aD 2)
 (gR (Gg (mi (K:=K) (ae 1)) (mi (K:=K) (af.b (aY (aP (bO (ae 1) (af.b (mv (af.b ak)))) (aP (ae 2) aH))))))
 (yt (aO.i (bO (ae 2) (af.b ak))) (af.b (mv (af.b ak))) (af.b ak))
 (sX (u4 (ae 2)))))
 (BC (i:=1) (cs:=[]) T.Ay (w5 (n:=2) (bq (aO.i (bO (ae 0) (af.b ak))) (bq (aO.i (bO (ae 0) (af.b ak))) aH)) (by decide)))))⟩
theorem tM (T:Txt K mg ad) (hbm:fk mg base):df P w K mg base jJ 19 ad.iX ad.i7 ["table"] (nu .v K [false] cI):=by
 rw [iA]
 exact eA.tO (N:=["table", "rows", "begin", "hours", "pairs", "end"]) T.cI cK [false] rfl gF fun cdv A outer s H E hr=>⟨_,
 (ai (ba (i:=1) cK.nd rfl (Lk rfl) (cN aj))
 (ai (ba (i:=2) cK.nd rfl (L3 rfl) ao)
 (ai (fQ MD rfl (bH (K:=K) rfl (aT (Ad T hbm) (hr.mono (by decide)) rfl T.Cj T.d9.kp T.Dp .nil cq (aa (pv 0) aj))) (gq (K:=K) rfl rfl (bI (bV (i:=3) cK.nd rfl (Lk rfl)) (bI (bV (i:=4) cK.nd rfl (Lk rfl)) gn)))
 (ai (ba (i:=5) cK.nd rfl (L3 rfl) (aW fR (pv 2) (pv 3)))
 (ai (dJ (iO LU OI OJ tR (pv 1) (aa (gL rfl (bH (K:=K) rfl (pv 4)) (ts:=["hand", "bench"]) (zs:=["begin", "end"]) (k:=2) (is:=[2,5]) rfl (.cons rfl (.cons rfl .nil)) (.cons rfl (Lk rfl) rfl (by first | exact Lk rfl | exact L3 rfl) (.cons rfl (Lk rfl) rfl (by first | exact Lk rfl | exact L3 rfl) .nil)) rfl rfl rfl (tU (lows_cons (aS (by decide)) (lows_cons (aS (by decide)) pW))) (fun _ _ _ _ _=>(gq (K:=K) rfl rfl (bI (fq (i:=0) (by decide +kernel) rfl (Lk rfl) (L3 rfl)) (bI (fq (i:=1) (by decide +kernel) rfl (Lk rfl) (L3 rfl)) gn)))) (fun _ _ _ _ _=>(cN (aa (pv 1) (aa (pv 0) (aa (pv 2) (aa (pv 3) aj)))))) rfl rfl (by decide +kernel)) aj)))
 (ay (ba (i:=2) cK.nd rfl (L3 rfl) (pv 5))))))
 (ay (bh (aT (Ag T hbm) (hr.mono (by decide)) rfl T.Co T.ee.kp T.Ds .nil cq (aa (pv 1) aj))))))),
 (au (jg (cY (n:=0) aH (by decide)))
 (au (bC ak)
 (au (hJ (m:=true) (jf (aY (aP (ae 0) aH))) (nA (bF (aD 3) (bF (aD 4) gf)))
 (au (bC (fN (ae 2) (ae 3)))
 (au (wW (ck.l (bU (m:=true) (k:=2) (cs:=[2,5]) (g7.c (jf (aN 4))) (nA (bF (aD 0) (bF (aD 1) gf))) cn (ck.l (cY (n:=4) (bq (aN 1) (bq (aN 0) (bq (aN 2) (bq (aN 3) aH)))) (by decide))))))
 (bC (aN 5)))))
 (bx (aY (aP (ae 1) aH))))))⟩
theorem xv (T:Txt K mg ad) (hbm:fk mg base):df P w K mg base jJ 1 ad.mO ad.mV ["_law_found"] (nu .v K [false] du):=by
 rw [jQ]
 exact eA.tO (N:=["_law_found"]) T.du xf [false] rfl jx fun cdv A outer s H E hr=>⟨_,
 (ay (bh (pK (aJ (ju (K:=K) rfl) rfl T.z_isinstance fb (aa (pv 0) (aa (oE (v:=.ty "int") rfl T.z_int uy rfl) aj))) (pJ (B4 (aJ (ju (K:=K) rfl) rfl T.z_isinstance fb (aa (pv 0) (aa (oE (v:=.ty "bool") rfl T.z_bool EX rfl) aj)))))))),
 (bx (kC (af.b (tj (n := "int") (ae 0))) (yz (af.b (tj (n := "bool") (ae 0))))))⟩
theorem fJ (T:Txt K mg ad) (hbm:fk mg base):df P w K mg base jJ 1 ad.iZ ad.i9 ["_law_script", "_law_k"] (nu .v K [false,false] bp):=by
 rw [iC]
 exact eA.tO (N:=["_law_script", "_law_k"]) T.bp tu [false,false] rfl gH fun cdv A outer s H E hr=>⟨_,
 (ai (fP (bM nI (pv 1) (aJ (cg (K:=K) rfl) rfl T.z_len eV (aa (pv 0) aj)) (bz _))
 (ay (bh (aX (aA (K:=K) rfl) (pv 0) (pv 1) (fun _ _=>rfl))))
 cV)
 (ay (bh ao))),
 (au (gR (bL (af.b (nv (ae 1) (af.b (fm (ae 0))))))
 (bx (aO.i (bO (ae 0) (ae 1))))
 dF)
 (bx ak))⟩
theorem jZ (T:Txt K mg ad) (hbm:fk mg base):df P w K mg base jJ 1 ad.mQ ad.mX ["_law_cell", "_law_k"] (nu .v K [false,false] cy):=by
 rw [jS]
 exact eA.tO (N:=["_law_cell", "_law_k", "_law_number"]) T.cy pA [false,false] rfl jz fun cdv A outer s H E hr=>⟨_,
 (ai (ba (i:=2) pA.nd rfl (Lk rfl) (aW eO (aW fR (aW fR (aW eZ (pv 0) ao) (aW eZ (aW eZ (pv 1) (pv 1)) ao)) ao) ao))
 (ay (bh (aW eO (aW eZ (pv 2) (pv 2)) ao)))),
 (au (bC (eJ (af.b (fN (af.b (fN (af.b (gJ (ae 0) (af.b ak))) (af.b (gJ (af.b (gJ (ae 1) (ae 1))) (af.b ak))))) (af.b ak))) (af.b ak)))
 (bx (eJ (af.b (gJ (ae 2) (ae 2))) (af.b ak))))⟩
theorem tN (T:Txt K mg ad) (hbm:fk mg base):df P w K mg base jJ 2 ad.iY ad.i8 ["_law_script"] (nu .v K [false] cJ):=by
 rw [iB]
 exact eA.tO (N:=["_law_script", "_law_numbers_here", "_law_k"]) T.cJ hV [false] rfl gG fun cdv A outer s H E hr=>⟨_,
 (ai (iM (i:=1) hV.nd rfl rfl rfl (cS rfl T.z_range (aa ao aj)) (ts:=["_law_k"]) (zs:=["_law_script"]) (k:=1) (is:=[0]) rfl (.cons rfl .nil) (.cons rfl (Lk rfl) rfl (by first | exact Lk rfl | exact L3 rfl) .nil) rfl rfl rfl (aS (by decide)) (fun _ _ _ _ _=>(fq (i:=0) (by decide +kernel) rfl (Lk rfl) (L3 rfl))) (fun _ _ _ _ _=>(aT (jZ T hbm) (hr.mono (by decide)) rfl T.mI T.cy.kp T.m9 .nil cq (aa (aT (fJ T hbm) (hr.mono (by decide)) rfl T.gu T.bp.kp T.gB .nil cq (aa (pv 1) (aa ao aj))) (aa (aW fR ao (pv 0)) aj)))) rfl rfl (by decide +kernel))
 (ai (fQ MD rfl (z8 rfl T.z_range (aa ao (aa (aJ (AZ rfl) rfl T.z_min Dk (aa ao (aa (aJ (cg (K:=K) rfl) rfl T.z_len eV (aa (pv 0) aj)) aj))) aj))) (bV (i:=2) hV.nd rfl (Lk rfl))
 (ay (mB (aT (jZ T hbm) (hr.mono (by decide)) rfl T.mI T.cy.kp T.m9 .nil cq (aa (aW fR (aX (aA (K:=K) rfl) (pv 1) (aW eO (pv 2) ao) (fun _ _=>rfl)) (aX (aA (K:=K) rfl) (pv 0) (pv 2) (fun _ _=>rfl))) (aa (pv 2) aj))) (pI (pv 1) (aW eO (pv 2) ao) set_list))))
 (ay (bh (pv 1))))),
 (au (o9 (bU (m:=true) (k:=1) (cs:=[0]) (g7.c (dh (af.b ak))) (aD 0) cn (aY (aP (af.b (aY (aP (ae 1) (aP (af.b ak) aH)))) (aP (af.b (fN (af.b ak) (ae 0))) aH)))))
 (au (hJ (m:=true) (zI (af.b ak) (af.b (D4 (af.b ak) (af.b (fm (ae 0)))))) (aD 2)
 (wV (aY (aP (af.b (fN (bO (ae 1) (af.b (eJ (ae 2) (af.b ak)))) (bO (ae 0) (ae 2)))) (aP (ae 2) aH))) (af.b (eJ (ae 2) (af.b ak)))))
 (pe 1 (bx (aN 1)))))⟩
theorem rS (T:Txt K mg ad) (hbm:fk mg base):df P w K mg base jJ 1 ad.qp ad.qB ["_law_cell"] (nu .v K [false] dE):=by
 rw [lO]
 exact eA.tO (N:=["_law_cell"]) T.dE zY [false] rfl lU fun cdv A outer s H E hr=>⟨_,
 (ai (fP (bM (eQ (K:=K) hr.units) (aW eO (pv 0) ao) ao (bz _))
 (ay (bh ao))
 cV)
 (ay (bh (aW eO (aW kO (pv 0) ao) ao)))),
 (au (gR (bL (af.b (gc (neg:=false) (af.b (eJ (ae 0) (af.b ak))) (af.b ak))))
 (bx ak)
 dF)
 (bx (eJ (af.b (ox (ae 0) (af.b ak))) (af.b ak))))⟩
theorem xx (T:Txt K mg ad) (hbm:fk mg base):df P w K mg base jJ 2 ad.mR ad.mY ["_law_number", "_law_mode"] (nu .v K [false,false] dU):=by
 rw [jT]
 exact eA.tO (N:=["_law_number", "_law_mode"]) T.dU xg [false,false] rfl jA fun cdv A outer s H E hr=>⟨_,
 (ai (fP (bM (eQ (K:=K) hr.units) (pv 1) ao (bz _))
 (ay (bh (aW eO (pv 0) ao)))
 cV)
 (ai (fP (bM (eQ (K:=K) hr.units) (pv 1) ao (bz _))
 (ay (bh (aW eZ (aW eO (aW kO (pv 0) ao) ao) (fL m8 rfl T.z_int uy (aa (eY nI (aW eO (pv 0) ao) ao (bz _)) aj)))))
 cV)
 (ai (fP (bM (eQ (K:=K) hr.units) (pv 1) ao (bz _))
 (ay (bh (aW fR (aW eZ (pv 0) (aW B9 ao ao)) (aT (jZ T hbm) (hr.mono (by decide)) rfl T.mI T.cy.kp T.m9 .nil cq (aa (pv 0) (aa ao aj))))))
 cV)
 (ay (bh (aW eZ (aW eO (pv 0) ao) (aW B9 ao ao))))))),
 (au (gR (bL (af.b (gc (neg:=false) (ae 1) (af.b ak))))
 (bx (eJ (ae 0) (af.b ak)))
 dF)
 (au (gR (bL (af.b (gc (neg:=false) (ae 1) (af.b ak))))
 (bx (gJ (af.b (eJ (af.b (ox (ae 0) (af.b ak))) (af.b ak))) (af.b (tp (af.b (nv (af.b (eJ (ae 0) (af.b ak))) (af.b ak)))))))
 dF)
 (au (gR (bL (af.b (gc (neg:=false) (ae 1) (af.b ak))))
 (bx (fN (af.b (gJ (ae 0) (af.b (BG (af.b ak) (af.b ak))))) (af.b (aY (aP (ae 0) (aP (af.b ak) aH))))))
 dF)
 (bx (gJ (af.b (eJ (ae 0) (af.b ak))) (af.b (BG (af.b ak) (af.b ak))))))))⟩
theorem xw (T:Txt K mg ad) (hbm:fk mg base):df P w K mg base jJ 3 ad.mP ad.mW ["_law_script"] (nu .v K [false] dS):=by
 rw [jR]
 exact eA.tO (N:=["_law_script", "_law_numbers_here", "_law_cell", "_law_hands", "_law_many", "_law_table_here", "_law_hand", "_law_row", "_law_bench", "_law_idle"]) T.dS cB [false] rfl jy fun cdv A outer s H E hr=>⟨_,
 (ai (ba (i:=1) cB.nd rfl (Lk rfl) (aT (tN T hbm) (hr.mono (by decide)) rfl T.vw T.cJ.kp T.wc .nil cq (aa (pv 0) aj)))
 (ai (ba (i:=2) cB.nd rfl (Lk rfl) (aT (fJ T hbm) (hr.mono (by decide)) rfl T.gu T.bp.kp T.gB .nil cq (aa (pv 0) (aa ao aj))))
 (ai (ba (i:=3) cB.nd rfl (Lk rfl) (aT (rS T hbm) (hr.mono (by decide)) rfl T.vv T.dE.kp T.wb .nil cq (aa (aT (fJ T hbm) (hr.mono (by decide)) rfl T.gu T.bp.kp T.gB .nil cq (aa (pv 0) (aa ao aj))) aj)))
 (ai (ba (i:=4) cB.nd rfl (Lk rfl) (aW eZ (aT (rS T hbm) (hr.mono (by decide)) rfl T.vv T.dE.kp T.wb .nil cq (aa (aT (fJ T hbm) (hr.mono (by decide)) rfl T.gu T.bp.kp T.gB .nil cq (aa (pv 0) (aa ao aj))) aj)) (fL m8 rfl T.z_int uy (aa (eY Ca (pv 3) ao (bz _)) aj))))
 (ai (ba (i:=5) cB.nd rfl (Lk rfl) (cN aj))
 (ai (fQ MD rfl (cS rfl T.z_range (aa (pv 3) aj)) (bV (i:=6) cB.nd rfl (Lk rfl))
 (ai (ba (i:=7) cB.nd rfl (Lk rfl) (cN aj))
 (ai (fQ MD rfl (cS rfl T.z_range (aa (pv 4) aj)) (bV (i:=8) cB.nd rfl (Lk rfl))
 (ai (ba (i:=9) cB.nd rfl (Lk rfl) (IA (eY (eQ (K:=K) hr.units) (pv 6) (aW eO (aW kO (pv 2) ao) ao) (bz _)) (pJ (eY (eQ (K:=K) hr.units) (pv 8) (aW eO (aW kO (pv 2) ao) ao) (bz _)))))
 (ay (dJ (iO LU Mq Mr dq (pv 7) (aa (aW eZ (aT (xx T hbm) (hr.mono (by decide)) rfl T.Ao T.dU.kp T.A8 .nil cq (aa (aX (aA (K:=K) rfl) (pv 1) (aW fR (aW eZ ao (pv 6)) (pv 8)) (fun _ _=>rfl)) (aa (aW eO (pv 2) ao) aj))) (fL m8 rfl T.z_int uy (aa (B4 (pv 9)) aj))) aj))))))
 (ay (dJ (iO LU Mq Mr dq (pv 5) (aa (pv 7) aj)))))))
 (ay (bh (pv 5))))))))),
 (au (bC (aY (aP (ae 0) aH)))
 (au (bC (aY (aP (ae 0) (aP (af.b ak) aH))))
 (au (bC (aY (aP (af.b (aY (aP (ae 0) (aP (af.b ak) aH)))) aH)))
 (au (bC (gJ (af.b (aY (aP (af.b (aY (aP (ae 0) (aP (af.b ak) aH)))) aH))) (af.b (tp (af.b (BH (ae 3) (af.b ak)))))))
 (au (jg (cY (n:=0) aH (by decide)))
 (au (hJ (m:=true) (dh (ae 3)) (aD 6)
 (au (jg (cY (n:=0) aH (by decide)))
 (au (hJ (m:=true) (dh (ae 4)) (aD 8)
 (au (bC (Gk (af.b (gc (neg:=false) (ae 6) (af.b (eJ (af.b (ox (ae 2) (af.b ak))) (af.b ak))))) (gc (neg:=false) (ae 8) (af.b (eJ (af.b (ox (ae 2) (af.b ak))) (af.b ak))))))
 (wX (gJ (af.b (aY (aP (bO (ae 1) (af.b (fN (af.b (gJ (af.b ak) (ae 6))) (ae 8)))) (aP (af.b (eJ (ae 2) (af.b ak))) aH)))) (af.b (tp (af.b (yz (ae 9)))))))))
 (pe 7 (wX (aN 7))))))
 (pe 5 (bx (aN 5)))))))))⟩
theorem Af (T:Txt K mg ad) (hbm:fk mg base):df P w K mg base jJ 1 ad.qo ad.qA ["_law_table_here"] (nu .v K [false] fi):=by
 rw [lN]
 exact eA.tO (N:=["_law_table_here", "_law_hands", "_law_many"]) T.fi mw [false] rfl lT fun cdv A outer s H E hr=>⟨_,
 (ai (iM (i:=1) mw.nd rfl rfl rfl (bH (K:=K) rfl (pv 0)) (ts:=["_law_row"]) (zs:=[]) (k:=1) (is:=[]) rfl .nil .nil rfl rfl rfl (aS (by decide)) (fun _ _ _ _ _=>(fq (i:=0) (by decide +kernel) rfl (Lk rfl) (L3 rfl))) (fun _ _ _ _ _=>(aJ (jt (K:=K) rfl rfl) rfl T.z_sum ux (aa (pv 0) aj))) rfl rfl (by decide +kernel))
 (ai (ba (i:=2) mw.nd rfl (Lk rfl) (aJ (kj (K:=K) rfl rfl) rfl T.z_max qI (aa (aW oF (gL rfl (bH (K:=K) rfl (pv 0)) (ts:=["_law_row"]) (zs:=[]) (k:=1) (is:=[]) rfl .nil .nil rfl rfl rfl (aS (by decide)) (fun _ _ _ _ _=>(fq (i:=0) (by decide +kernel) rfl (Lk rfl) (L3 rfl))) (fun _ _ _ _ _=>(aJ (cg (K:=K) rfl) rfl T.z_len eV (aa (pv 0) aj))) rfl rfl (by decide +kernel)) (cN (aa ao aj))) aj)))
 (ay (bh (xq (aa (pv 1) (aa (gL rfl (cS rfl T.z_range (aa (pv 2) aj)) (ts:=["_law_bench"]) (zs:=["_law_table_here"]) (k:=1) (is:=[0]) rfl (.cons rfl .nil) (.cons rfl (Lk rfl) rfl (by first | exact Lk rfl | exact L3 rfl) .nil) rfl rfl rfl (aS (by decide)) (fun _ _ _ _ _=>(fq (i:=0) (by decide +kernel) rfl (L3 rfl) (Lk rfl))) (fun _ _ _ _ _=>(aJ (jt (K:=K) rfl rfl) rfl T.z_sum ux (aa (gL rfl (bH (K:=K) rfl (pv 1)) (ts:=["_law_row"]) (zs:=["_law_bench"]) (k:=1) (is:=[0]) rfl (.cons rfl .nil) (.cons rfl (by first | exact Lk rfl | exact L3 rfl) rfl (by first | exact Lk rfl | exact L3 rfl) .nil) rfl rfl rfl (aS (by decide)) (fun _ _ _ _ _=>(fq (i:=0) (by decide +kernel) rfl (Lk rfl) (L3 rfl))) (fun _ _ _ _ _=>(aX (aA (K:=K) rfl) (pv 0) (pv 1) (fun _ _=>rfl))) rfl rfl (by decide +kernel)) aj))) rfl rfl (by decide +kernel)) aj))))))),
 (au (oq (ck.l (bU (m:=false) (k:=1) (cs:=[]) (cQ (ae 0)) (aD 0) cn (tf (ae 0)))))
 (au (bC (xb (af.b (ck.l (tq (ck.l (bU (m:=false) (k:=1) (cs:=[]) (cQ (ae 0)) (aD 0) cn (fm (ae 0)))) (ck.l (cY (n:=1) (bq ak aH) (by decide))))))))
 (bx (w5 (n:=2) (bq (aN 1) (bq (ck.l (bU (m:=true) (k:=1) (cs:=[0]) (g7.c (dh (ae 2))) (aD 0) cn (tf (af.b (ck.l (bU (m:=false) (k:=1) (cs:=[0]) (cQ (ae 1)) (aD 0) cn (aO.i (bO (ae 0) (ae 1))))))))) aH)) (by decide)))))⟩
theorem Ce (T:Txt K mg ad) (hbm:fk mg base):df P w K mg base jJ 2 ad.t9 ad.uq ["_law_table_here"] (nu .v K [false] gE):=by
 rw [nR]
 exact eA.tO (N:=["_law_table_here", "_law_found"]) T.gE u7 [false] rfl oT fun cdv A outer s H E hr=>⟨_,
 (ai (ba (i:=1) u7.nd rfl (Lk rfl) (aT (Af T hbm) (hr.mono (by decide)) rfl T.Cn T.fi.kp T.Dr .nil cq (aa (pv 0) aj)))
 (ay (bh (aJ (kj (K:=K) rfl rfl) rfl T.z_max qI (aa (aW oF (aW oF (aX (aA (K:=K) rfl) (pv 1) ao (fun _ _=>rfl)) (aX (aA (K:=K) rfl) (pv 1) ao (fun _ _=>rfl))) (cN (aa ao aj))) aj))))),
 (au (bC (aY (aP (ae 0) aH)))
 (bx (xb (af.b (ck.l (tq (ck.l (tq (ny (aN 1) (af.b ak)) (ny (aN 1) (af.b ak)))) (ck.l (cY (n:=1) (bq ak aH) (by decide)))))))))⟩
theorem kP (T:Txt K mg ad) (hbm:fk mg base):df P w K mg base jJ 3 ad.eS ad.eU ["_law_table_here", "_law_rows"] (nu .v K [false,true] bu):=by
 rw [fj]
 exact eA.tO (N:=["_law_table_here", "_law_rows", "_law_done", "_law_last", "_law_hands", "_law_ahead", "_law_row", "_law_bench", "_law_hand", "_law_begin", "_law_end_here"]) T.bu aM [false,true] rfl dw fun cdv A outer s H E hr=>⟨_,
 (ai (fP (xn (eL (K:=K) rfl (aJ (ju (K:=K) rfl) rfl T.z_isinstance fb (aa (pv 1) (aa (oE (v:=.ty "list") rfl T.z_list lH rfl) aj))) (fun _=>rfl)))
 (ay (bh nF))
 cV)
 (ai (iM (i:=2) aM.nd rfl rfl rfl (bH (K:=K) rfl (pv 0)) (ts:=["_law_row"]) (zs:=[]) (k:=1) (is:=[]) rfl .nil .nil rfl rfl rfl (aS (by decide)) (fun _ _ _ _ _=>(fq (i:=0) (by decide +kernel) rfl (Lk rfl) (L3 rfl))) (fun _ _ _ _ _=>(aW B8 (cN (aa ao aj)) (aJ (cg (K:=K) rfl) rfl T.z_len eV (aa (pv 0) aj)))) rfl rfl (by decide +kernel))
 (ai (iM (i:=3) aM.nd rfl rfl rfl (cS rfl T.z_range (aa ao aj)) (ts:=["_law_k"]) (zs:=[]) (k:=1) (is:=[]) rfl .nil .nil rfl rfl rfl (aS (by decide)) (fun _ _ _ _ _=>(fq (i:=0) (by decide +kernel) rfl (Lk rfl) (L3 rfl))) (fun _ _ _ _ _=>(cN (aa (rQ md ao) (aa (rQ md ao) aj)))) rfl rfl (by decide +kernel))
 (ai (ba (i:=4) aM.nd rfl (Lk rfl) (aW B8 (cN (aa ao aj)) ao))
 (ai (ba (i:=5) aM.nd rfl (Lk rfl) (cN (aa (rQ md ao) (aa (rQ md ao) aj))))
 (ai (fQ MD rfl (bH (K:=K) rfl (pv 1)) (bV (i:=6) aM.nd rfl (Lk rfl))
 (ai (fP (PW.pt (nE (xn (eL (K:=K) rfl (aJ (ju (K:=K) rfl) rfl T.z_isinstance fb (aa (pv 6) (aa (oE (v:=.ty "list") rfl T.z_list lH rfl) aj))) (fun _=>rfl))) (nE (bM (GP (K:=K) hr.units) (aJ (cg (K:=K) rfl) rfl T.z_len eV (aa (pv 6) aj)) ao (bz _)) (tH (xn (eL (K:=K) rfl (aJ (A5 (K:=K) rfl rfl) rfl T.z_all Hx (aa (gL rfl (bH (K:=K) rfl (pv 6)) (ts:=["_law_one"]) (zs:=[]) (k:=1) (is:=[]) rfl .nil .nil rfl rfl rfl (aS (by decide)) (fun _ _ _ _ _=>(fq (i:=0) (by decide +kernel) rfl (Lk rfl) (L3 rfl))) (fun _ _ _ _ _=>(aT (xv T hbm) (hr.mono (by decide)) rfl T.Am T.du.kp T.A6 .nil cq (aa (pv 0) aj))) rfl rfl (by decide +kernel)) aj)) (fun _=>rfl)))))))
 (ay (bh nF))
 cV)
 (ai (mB (pv 6) (gq (K:=K) rfl rfl (bI (bV (i:=7) aM.nd rfl (Lk rfl)) (bI (bV (i:=8) aM.nd rfl (Lk rfl)) (bI (bV (i:=9) aM.nd rfl (Lk rfl)) (bI (bV (i:=10) aM.nd rfl (Lk rfl)) gn))))))
 (ai (fP (PW.pt (nE (bM nI (pv 8) ao (bz _)) (nE (bM Cb (pv 8) (aJ (cg (K:=K) rfl) rfl T.z_len eV (aa (pv 0) aj)) (bz _)) (nE (bM nI (pv 7) ao (bz _)) (tH (bM Cb (pv 7) (aJ (cg (K:=K) rfl) rfl T.z_len eV (aa (aX (aA (K:=K) rfl) (pv 0) ao (fun _ _=>rfl)) aj)) (bz _)))))))
 (ay (bh nF))
 cV)
 (ai (fP (PW.pt (nE (bM (GQ hr.units) (cN (aa (pv 9) (aa (pv 7) aj))) (pv 5) (bz _)) (nE (bM Cb (pv 9) (pv 10) (bz _)) (tH (bM nI (pv 9) (aJ (A3 rfl) rfl T.z_max qI (aa (aX (aA (K:=K) rfl) (aX (aA (K:=K) rfl) (pv 3) (pv 7) (fun _ _=>rfl)) ao (fun _ _=>rfl)) (aa (aX (aA (K:=K) rfl) (pv 4) (pv 8) (fun _ _=>rfl)) aj))) (bz _))))))
 (ay (bh nF))
 cV)
 (ai (fP (bM (eQ (K:=K) hr.units) (aX (aA (K:=K) rfl) (pv 3) (pv 7) (fun _ _=>rfl)) (cN (aa (pv 8) (aa (pv 9) aj))) (bz _))
 (ay (bh nF))
 cV)
 (ai (ba (i:=5) aM.nd rfl (Lk rfl) (cN (aa (pv 9) (aa (pv 7) aj))))
 (ai (mB (cN (aa (pv 8) (aa (pv 10) aj))) (pI (pv 3) (pv 7) set_list))
 (ai (mB (pv 10) (pI (pv 4) (pv 8) set_list))
 (ay (mB (aW xt (aW fR (aX (aA (K:=K) rfl) (aX (aA (K:=K) rfl) (pv 2) (pv 8) (fun _ _=>rfl)) (pv 7) (fun _ _=>rfl)) (pv 10)) (pv 9)) (pI (aX (aA (K:=K) rfl) (pv 2) (pv 8) (fun _ _=>rfl)) (pv 7) set_list))))))))))))
 (ay (bh (pK (eY (eQ (K:=K) hr.units) (pv 2) (pv 0) (bz _)) (pJ (eY (eQ (K:=K) hr.units) (aJ (kj (K:=K) rfl rfl) rfl T.z_max qI (aa (pv 4) aj)) (aT (Ce T hbm) (hr.mono (by decide)) rfl T.Eo T.gE.kp T.E1 .nil cq (aa (pv 0) aj)) (bz _)))))))))))),
 (au (gR (wL (mi (K:=K) (af.b (tj (n := "list") (ae 1)))))
 (bx u0)
 dF)
 (au (uV (yw (m:=false) (k:=1) (cs:=[]) (cQ (ae 0)) (aD 0) cn (BJ (cY (n:=1) (bq ak aH) (by decide)) (af.b (fm (ae 0))))))
 (au (o9 (bU (m:=true) (k:=1) (cs:=[]) (g7.c (dh (af.b ak))) (aD 0) cn (ck.l (cY (n:=2) (bq (mv (af.b ak)) (bq (mv (af.b ak)) aH)) (by decide)))))
 (au (jg (BJ (cY (n:=1) (bq ak aH) (by decide)) (af.b ak)))
 (au (bC (ck.l (cY (n:=2) (bq (mv (af.b ak)) (bq (mv (af.b ak)) aH)) (by decide))))
 (au (hJ (m:=true) (jf (aN 1)) (aD 6)
 (au (gR (o8 (wL (mi (K:=K) (af.b (tj (n := "list") (ae 6))))) (o8 (bL (af.b (gc (neg:=true) (af.b (fm (ae 6))) (af.b ak)))) (wL (mi (K:=K) (af.b (Gp (af.b (ck.l (bU (m:=true) (k:=1) (cs:=[]) (g7.c (jf (aN 6))) (aD 0) cn (aY (aP (ae 0) aH)))))))))))
 (bx u0)
 dF)
 (au (Im (aN 6) (nA (bF (aD 7) (bF (aD 8) (bF (aD 9) (bF (aD 10) gf))))))
 (au (gR (o8 (bL (af.b (nv (ae 8) (af.b ak)))) (o8 (bL (af.b (BI (ae 8) (af.b (fm (ae 0)))))) (o8 (bL (af.b (nv (ae 7) (af.b ak)))) (bL (af.b (BI (ae 7) (af.b (fm (bO (ae 0) (af.b ak))))))))))
 (bx u0)
 dF)
 (au (gR (o8 (bL (af.b (Gn (af.b (ck.l (cY (n:=2) (bq (aN 9) (bq (aN 7) aH)) (by decide)))) (ae 5)))) (o8 (bL (af.b (BI (ae 9) (ae 10)))) (bL (af.b (nv (ae 9) (af.b (D6 (bO (bO (ae 3) (ae 7)) (af.b ak)) (bO (ae 4) (ae 8)))))))))
 (bx u0)
 dF)
 (au (gR (bL (af.b (gc (neg:=false) (bO (ae 3) (ae 7)) (af.b (ck.l (cY (n:=2) (bq (aN 8) (bq (aN 9) aH)) (by decide)))))))
 (bx u0)
 dF)
 (au (bC (ck.l (cY (n:=2) (bq (aN 9) (bq (aN 7) aH)) (by decide))))
 (au (wV (ck.l (cY (n:=2) (bq (aN 8) (bq (aN 10) aH)) (by decide))) (ae 7))
 (au (wV (aN 10) (ae 8))
 (yt (xa (af.b (fN (bO (bO (ae 2) (ae 8)) (ae 7)) (ae 10))) (ae 9)) (ae 8) (ae 7)))))))))))
 (bx (kC (af.b (gc (neg:=false) (ae 2) (ae 0))) (gc (neg:=false) (af.b (xb (ae 4))) (af.b (aY (aP (ae 0) aH))))))))))))⟩
theorem GS (T:Txt K mg ad) (hbm:fk mg base):df P w K mg base jJ 20 ad.vJ ad.se ["_law_script"] (nu .v K [false] sH):=by
 rw [sG]
 exact eA.tO (N:=["_law_script", "_law_table_here", "_law_handed"]) T.sH xc [false] rfl zz fun cdv A outer s H E hr=>⟨_,
 (ai (ba (i:=1) xc.nd rfl (Lk rfl) (aT (xw T hbm) (hr.mono (by decide)) rfl T.An T.dS.kp T.A7 .nil cq (aa (pv 0) aj)))
 (ai (iM (i:=2) xc.nd rfl rfl rfl (bH (K:=K) rfl (pv 1)) (ts:=["_law_row"]) (zs:=[]) (k:=1) (is:=[]) rfl .nil .nil rfl rfl rfl (aS (by decide)) (fun _ _ _ _ _=>(fq (i:=0) (by decide +kernel) rfl (Lk rfl) (L3 rfl))) (fun _ _ _ _ _=>(fL (gO (K:=K) rfl) rfl T.z_list lH (aa (pv 0) aj))) rfl rfl (by decide +kernel))
 (ay (bh (pK (aT (kP T hbm) (hr.mono (by decide)) rfl T.mJ T.bu.kp T.nc .nil cq (aa (pv 1) (aa (aT (tM T hbm) (hr.mono (by decide)) rfl T.vu T.cI.kp T.wa .nil cq (aa (pv 2) aj)) aj))) (pJ (eY (eQ (K:=K) hr.units) (pv 2) (pv 1) (bz _)))))))),
 (au (bC (aY (aP (ae 0) aH)))
 (au (oq (ck.l (bU (m:=true) (k:=1) (cs:=[]) (g7.c (jf (aN 1))) (aD 0) cn (ck.l (D8 (aN 0))))))
 (bx (kC (af.b (aY (aP (ae 1) (bq (aY (aP (ae 2) aH)) aH)))) (gc (neg:=false) (ae 2) (ae 1))))))⟩
end
local macro_rules | `(tactic| walk_at "sd")=>`(tactic| first | assumption | omega | decide | (simp only [List.length_map,List.length_cons,List.length_nil]; omega) | ((with_reducible apply And.intro) <;> walk_at "sd"))
local macro_rules | `(tactic| walk_at "fn")=>`(tactic| assumption)
local macro_rules | `(tactic| walk_at "ix")=>`(tactic| first | exact Kh (by omega) (by omega) | exact Jz (by omega) (by omega) | exact ix2I _ _ _ | exact ix3I _ _ _ _ | exact ix4I _ _ _ _ _ | rfl)
local macro_rules | `(tactic| walk_at "ev")=>`(tactic| first
 | ((with_reducible first | apply j9 | apply uc | apply vK | apply ev_le | apply CV | apply FL | apply zc | apply EK | apply aE | apply qt | apply CT); (· walk_at "ev"); (· walk_at "ev"))
 | ((with_reducible first | apply xT | apply mT | apply CS | apply EI | apply bJ | apply xS | apply ev_oSome); (· walk_at "ev"))
 | ((with_reducible first | apply j8 | apply lh | apply d8 | apply da | apply ue); (· walk_at "ev"); (· rfl))
 | ((with_reducible first | apply xU | apply FK | apply js | apply Hl); (· walk_at "ev"); (· intro _; walk_at "ev"))
 | ((with_reducible first | show ag _ _=_ | show aG _ _=_ | show sf _ _=_ | show dC _ _=_ | show bK _=_ | show IC _=_ | show bP _=_); rfl)
 | ((with_reducible apply cm); (· walk_at "ev"); (· walk_at "ev"); (· walk_at "ix"))
 | ((with_reducible apply cA); (· walk_at "ev"); (· walk_at "fn"))
 | ((with_reducible first | apply ev_chain | apply ev_sl); (· walk_at "ev"); (· walk_at "ev"); (· walk_at "ev"))
 | ((with_reducible apply qr); (· walk_at "ev"); (· walk_at "ev"); (· first | assumption | (apply CC; omega)))
 | ((with_reducible apply EM); (· walk_at "ev"); (· walk_at "ev"); (· first | exact JF (by omega) (by omega) | walk_at "sd"))
 | ((with_reducible first | apply Hn | apply Hj); (· walk_at "ev"); (· walk_at "ev"); (· walk_at "sd"))
 | ((with_reducible apply ud); (· walk_at "ev"); (· walk_at "sd"))
 | ((with_reducible apply CP); (· walk_at "ev"); (· walk_at "ev"); (· simp only [Lo,Mm]; walk_at "sd")))
local macro_rules | `(tactic| walk_at "st")=>`(tactic| dsimp only [List.set_cons_succ,List.set_cons_zero])
local macro_rules | `(tactic| walk_at "go")=>`(tactic| ((try dsimp only); walk_at "go1"))
local macro_rules | `(tactic| walk_at "go1")=>`(tactic| first
 | ((with_reducible apply wp_seq); walk_at "go")
 | ((with_reducible apply wy); dsimp only [jr,PF,OF,K2,KZ]; walk_at "go")
 | ((with_reducible apply bY); (· walk_at "ev"); walk_at "st"; walk_at "go")
 | ((with_reducible apply g8); (· walk_at "ev"); (· simp only [Lo,Mm]; omega); walk_at "st"; walk_at "go")
 | ((with_reducible apply Bn); (· rfl); (· walk_at "ev"); walk_at "st"; walk_at "go")
 | ((with_reducible apply fX); (try dsimp only); walk_at "go")
 | skip)
theorem EW (ns:List Int) (k:Int) (h:0≤k):bp [.scr ns,.int k]=some (.int (ns.getD k.toNat 0)):=by
 refine cU iC ?_
 rw [sV]
 unfold gH
 walk_at "go"
 refine jV (by walk_at "ev") (fun c=>?_) fun c=>?_
 ·refine bW (by walk_at "ev") rfl
 ·walk_at "go"
  refine bW (by walk_at "ev") ?_
  rw [Ku,Mf (by omega)]
  rfl
def j3 (c k:Int):Int:=(c*48271+k*k*69621+3) % 2147483647*((c*48271+k*k*69621+3) % 2147483647) % 2147483629
theorem mixed (c k:Int) (h0:0≤k) (h:k<2 ^ 31):cy [.int c,.int k]=some (.int (j3 c k)):=by
 refine cU jS ?_
 rw [wQ]
 unfold jz
 have hk:k*k<2 ^ 64:=by
  have:=Te (a:=k) (b:=k) (c:=2 ^ 31) (d:=2 ^ 31) (by omega) (by omega) h0 (by omega)
  omega
 have hk0:0≤k*k:=O6 h0 h0
 walk_at "go"
 refine bW (by walk_at "ev") ?_
 rfl
theorem rT (c k:Int):0≤j3 c k:=Int.emod_nonneg _ (by decide)
local macro_rules | `(tactic| walk_at "fn")=>`(tactic| first | exact EW _ _ (by omega) | exact mixed _ _ (by omega) (by omega))
theorem sN {lo:Int} (h:(wq lo n)[j]?=some d):j<n∧d=.int (lo+j):=yj h
theorem rZ {k:Nat} {v:Int} (h:j<xs.length):(xs.set j v).getD k 0=if k=j then v else xs.getD k 0:=by
 rw [Ku,So,Ku]
 by_cases c:j=k
 ·subst c
  rw [if_pos rfl,if_pos h,if_pos rfl]
  rfl
 ·rw [if_neg c,if_neg (MY c)]
theorem u6 (xs:List Int) (j:Nat) (v:Int):(xs.map D.int).set j (.int v)=(xs.set j v).map D.int:=by rw [QV]
theorem mem_getD {p:List Int} {k:Nat} (hk:k<p.length):p.getD k 0∈p:=by rw [Ku,Kv hk]; exact Nd hk
def aK (T:List (List Int)):D:=.lst (T.map fun r=>.lst (r.map D.int))
theorem En (ns:List Int) (hl:ns.length≤63):∃ xs:List Int,cJ [.scr ns]=some (.lst (xs.map D.int))∧xs.length=36∧∀ x∈xs,0≤x∧x<2147483629:=by
 have hline:KH=16777216:=Lv
 have mb:∀ c k,0≤j3 c k∧j3 c k<2147483629:=fun c k=>⟨rT c k,Int.emod_lt_of_pos _ (by decide)⟩
 obtain ⟨d,e,xs,rfl,h1,h2⟩:=kJ iB (ds:=[.scr ns]) (P:=fun d=>∃ xs:List Int,d=.lst (xs.map D.int)∧xs.length=36∧∀ x∈xs,0≤x∧x<2147483629) (by
  rw [sU]
  unfold gG
  walk_at "go"
  refine g8 (ds:=((KW 36).map fun (i:Nat)=>j3 (ns.getD (2:Int).toNat 0) (90+(0+(i:Int)))).map D.int) ?_ (by show 1<3; decide) ?_
  ·rw [C1 (by walk_at "ev") (fun d=>match d with | .int k=>.int (j3 (ns.getD (2:Int).toNat 0) (90+k)) | d=>d) ?_]
   ·unfold wq
    rw [K6,K6]
    rfl
   ·intro d hd
    obtain ⟨i,hi⟩:=Mp hd
    obtain ⟨h1,rfl⟩:=sN hi
    exact ⟨_,rfl,by walk_at "ev"⟩
  walk_at "st"
  generalize hx0:((KW 36).map fun (i:Nat)=>j3 (ns.getD (2:Int).toNat 0) (90+(0+(i:Int))))=xs0
  have hx:xs0.length=36∧∀ x∈xs0,0≤x∧x<2147483629:=by
   rw [← hx0]
   refine ⟨by simp,fun x hx=>?_⟩
   obtain ⟨i,_,rfl⟩:=K5.mp hx
   exact mb _ _
  clear hx0
  walk_at "go"
  refine g9 (by walk_at "ev") (fun j ρ=>∃ xs v2,(xs.length=36∧∀ x∈xs,0≤x∧x<2147483629)∧ρ=[.bo (.scr ns),.ol (xs.map D.int),v2]) ⟨xs0,.un,hx,rfl⟩ ?_ ?_
  ·rintro j d ρ hd ⟨xs,v2,hx,rfl⟩
   obtain ⟨hj,rfl⟩:=sN hd
   refine ⟨_,rfl,?_⟩
   dsimp only [gN,Bd,K2,KZ]
   have hx1:=hx.1
   refine wx rfl (by walk_at "ev") (by walk_at "ev") (fS (by omega) (by rw [Kw]; omega)) ?_
   dsimp only [K2,KZ]
   rw [u6]
   refine ⟨_,_,⟨by rw [MC]; exact hx1,fun x hm=>?_⟩,rfl⟩
   rcases P6 hm with h | rfl
   ·exact hx.2 x h
   ·exact mb _ _
  ·rintro ρ ⟨xs,v2,hx,rfl⟩
   walk_at "go"
   exact bW (by walk_at "ev") ⟨xs,rfl,hx⟩)
 exact ⟨xs,e,h1,h2⟩
theorem size (c:Int):∃ m:Int,dE [.int c]=some (.int m)∧0≤m∧m≤6:=by
 obtain ⟨d,e,m,rfl,h1⟩:=kJ lO (ds:=[.int c]) (P:=fun d=>∃ m:Int,d=.int m∧0≤m∧m≤6) (by
  rw [zO]
  unfold lU
  walk_at "go"
  refine jV (by walk_at "ev") (fun c=>bW (by walk_at "ev") ⟨_,rfl,by omega,by omega⟩) fun c=>?_
  walk_at "go"
  exact bW (by walk_at "ev") ⟨_,rfl,by omega,by omega⟩)
 exact ⟨m,e,h1⟩
theorem IK (x m:Int) (h0:0≤x) (h1:x<2147483629):∃ h:Int,dU [.int x,.int m]=some (.int h)∧0≤h:=by
 obtain ⟨d,e,m,rfl,h1⟩:=kJ jT (ds:=[.int x,.int m]) (P:=fun d=>∃ m:Int,d=.int m∧0≤m) (by
  rw [wR]
  unfold jA
  walk_at "go"
  refine jV (by walk_at "ev") (fun c=>bW (by walk_at "ev") ⟨_,rfl,by omega⟩) fun c=>?_
  walk_at "go"
  refine jV (by walk_at "ev") (fun c=>?_) fun c=>?_
  ·refine bW (qr (by walk_at "ev") (by walk_at "ev") (CC (.inl ⟨by omega,by omega⟩))) ⟨_,rfl,O6 (by omega) (by split <;> omega)⟩
  walk_at "go"
  refine jV (by walk_at "ev") (fun c=>?_) fun c=>?_
  ·refine bW (j9 (qr (by walk_at "ev") (CQ rfl rfl ⟨by decide,by decide,by decide⟩) (CC (.inl ⟨by omega,by omega⟩))) (by walk_at "ev")) ⟨_,rfl,Tf (O6 (by omega) (by decide)) (rT _ _)⟩
  walk_at "go"
  exact bW (qr (by walk_at "ev") (CQ rfl rfl ⟨by decide,by decide,by decide⟩) (CC (.inl ⟨by omega,by omega⟩))) ⟨_,rfl,O6 (by omega) (by decide)⟩)
 exact ⟨m,e,h1⟩
structure Tab (T:List (List Int)) (m:Nat):Prop where
 len:T.length≤6
 DC:∀ r∈T,r.length=m
 EH:m≤6
 nn:∀ r∈T,∀ x∈r,0≤x
theorem table (ns:List Int) (hl:ns.length≤63):∃ (T:List (List Int)) (m:Nat),dS [.scr ns]=some (aK T)∧Tab T m:=by
  have hline:KH=16777216:=Lv
  obtain ⟨xs,ex,hx1,hx2⟩:=En ns hl
  obtain ⟨hd,eh,hh0,hh1⟩:=size (ns.getD (0:Int).toNat 0)
  obtain ⟨bn,eb,hb0,hb1⟩:=size (ns.getD (1:Int).toNat 0)
  obtain ⟨d,e,T,m,rfl,hT⟩:=kJ jR (ds:=[.scr ns]) (P:=fun d=>∃ (T:List (List Int)) (m:Nat),d=aK T∧Tab T m) (by
    rw [wO]
    unfold jy
    walk_at "go"
    generalize hM:bn*_=M
    have hm:0≤M∧M≤6:=by
      rw [← hM]; split <;> omega
    clear hM
    generalize ns.getD (2:Int).toNat 0=c
    refine g9 (by walk_at "ev") (fun j ρ=>∃ (T:List (List Int)) (v6 v7 v8 v9:Sl),T.length=j∧(∀ r∈T,r.length=M.toNat)∧(∀ r∈T,∀ x∈r,0≤x)∧ρ=[.bo (.scr ns),.pu (.lst (xs.map D.int)),.pu (.int c),.pu (.int hd),.pu (.int M),.ol (T.map fun r=>.lst (r.map D.int)),v6,v7,v8,v9])
      ⟨[],_,_,_,_,rfl,by simp,by simp,rfl⟩ ?_ ?_
    · rintro j d ρ hd' ⟨T,v6,v7,v8,v9,hT1,hT2,hT3,rfl⟩
      obtain ⟨hj,rfl⟩:=sN hd'
      refine ⟨_,rfl,?_⟩
      dsimp only [gN,Bd,K2,KZ]
      walk_at "go"
      refine g9 (by walk_at "ev") (fun i ρ=>∃ (r:List Int) (v8 v9:Sl),r.length=i∧(∀ x∈r,0≤x)∧ρ=[.bo (.scr ns),.pu (.lst (xs.map D.int)),.pu (.int c),.pu (.int hd),.pu (.int M),.ol (T.map fun r=>.lst (r.map D.int)),.pu (.int (0+(j:Int))),.ol (r.map D.int),v8,v9])
        ⟨[],_,_,rfl,by simp,rfl⟩ ?_ ?_
      · rintro i d ρ hd2 ⟨r,v8,v9,hr1,hr2,rfl⟩
        obtain ⟨hi,rfl⟩:=sN hd2
        refine ⟨_,rfl,?_⟩
        dsimp only [gN,Bd,K2,KZ]
        walk_at "go"
        have hk:(6*(0+(j:Int))+(0+(i:Int))).toNat<xs.length:=by omega
        obtain ⟨h,e2,hh⟩:=IK (xs.getD (6*(0+(j:Int))+(0+(i:Int))).toNat 0) (c % 4) (hx2 _ (mem_getD hk)).1 (hx2 _ (mem_getD hk)).2
        refine wB rfl (qr (cA (by walk_at "ev") e2) (d8 (by walk_at "ev") rfl) (CC (.inr ⟨by split <;> omega,by split <;> omega⟩))) (by rw [Kw]; omega) ?_
        dsimp only [K2,KZ]
        refine ⟨r++[_],_,_,by rw [K0,hr1]; rfl,fun x hm=>?_,by rw [Li]; rfl⟩
        rcases KS.mp hm with h | h
        · exact hr2 x h
        · rw [Kz.mp h]
          exact O6 hh (by split <;> omega)
      · rintro ρ ⟨r,v8,v9,hr1,hr2,rfl⟩
        rw [oj] at hr1
        walk_at "go"
        refine wB rfl (by walk_at "ev") (by rw [Kw]; omega) ?_
        dsimp only [K2,KZ]
        refine ⟨T++[r],_,_,_,_,by rw [K0,hT1]; rfl,fun x hm=>?_,fun x hm=>?_,by rw [Li]; rfl⟩
        · rcases KS.mp hm with h | h
          · exact hT2 x h
          · rw [Kz.mp h]; exact hr1
        · rcases KS.mp hm with h | h
          · exact hT3 x h
          · rw [Kz.mp h]; exact hr2
    · rintro ρ ⟨T,v6,v7,v8,v9,hT1,hT2,hT3,rfl⟩
      rw [oj] at hT1
      walk_at "go"
      exact bW (by walk_at "ev") ⟨T,M.toNat,rfl,⟨by omega,hT2,by omega,hT3⟩⟩)
  exact ⟨T,m,e,hT⟩
theorem Eu (x:D) (xs:List D):Cy (.lst (x::xs)) 0=some x:=by
 show iF (x::xs) 0=_
 unfold iF ixN
 rw [if_pos (Mh 0),if_pos (by rw [Lo]; omega)]
 rfl
def dY (T:List (List Int)):Nat:=match T with
 | []=>0
 | r::_=>r.length
def IS (T:List (List Int)) (j:Nat):Int:=(T.map fun r=>r.getD j 0).sum
def cols (T:List (List Int)):List Int:=(KW (dY T)).map (IS T)
def cH (T:List (List Int)):List Int:=T.map Tg
theorem Tab.w (h:Tab T m):∀ r∈T,r.length=dY T:=by
 intro r hr
 cases T with
 | nil=>cases hr
 | cons a b=>rw [h.DC r hr]; exact (h.DC a Ky).symm
theorem Tab.w6 (h:Tab T m):dY T≤6:=by
 cases T with
 | nil=>exact LL _
 | cons a b=>show a.length≤6; rw [h.DC a Ky]; exact h.EH
theorem zk (hT:∀ r∈T,r.length=dY T) (h6:dY T≤1000) {it:aF→Option (List D)} (i:Nat) (h:it ρ=some (wq 0 (dY T))) (ht:ag 0 [view (ρ.getD i .un)]=some (aK T)) :
 bA 1 [i] it (gN true 0) bP (gz uT (cc (bA 1 [0] (iG (ag 1)) (gN false 0) bP (gw (dt (ag 0) (ag 1)))))) ρ=some ((cols T).map D.int):=by
 have e:wq 0 (dY T)=(KW (dY T)).map fun (j:Nat)=>D.int (0+(j:Int)):=rfl
 rw [e] at h
 rw [cG (fun (j:Nat)=>D.int (0+(j:Int))) h (fun j=>D.int (IS T j)) ?_]
 ·unfold cols
  rw [K6]
  rfl
 ·intro j hj
  have hj:=Lw.mp hj
  refine ⟨_,rfl,?_⟩
  dsimp only [gN,Bd,r0,Lr,Ld,NC,List.append,NU,Nm,KZ]
  refine d8 (bJ (cG (fun r=>D.lst (r.map D.int)) (da (d:=aK T) ?_ rfl) (fun (r:List Int)=>D.int (r.getD j 0)) ?_)) ?_
  ·exact ht
  ·intro r hr
   have hl:=hT r hr
   refine ⟨_,rfl,?_⟩
   dsimp only [gN,Bd,r0,Lr,Ld,NC,List.append,NU,Nm,KZ,OF,view]
   have ej:(0+(j:Int)).toNat=j:=by omega
   have:=Jz (ns:=r) (i:=0+(j:Int)) (by omega) (by omega)
   rw [ej] at this
   exact lh (cm rfl rfl this) rfl
  ·have e2:(T.map fun r=>D.int (r.getD j 0))=(T.map fun r=>r.getD j 0).map D.int:=by rw [K6]; rfl
   rw [e2]
   exact rB _
theorem yF (ha:a ρ=some (aK T)):bA 1 [] (iG a) (gN false 0) bP (gz uT (ag 0)) ρ=some ((cH T).map D.int):=by
 rw [cG (fun r=>D.lst (r.map D.int)) (da ha rfl) (fun (r:List Int)=>D.int r.sum) fun r _=>⟨_,rfl,d8 rfl (rB _)⟩]
 unfold cH
 rw [K6]
 rfl
theorem Cr (hT:∀ r∈T,r.length=dY T) (h6:dY T≤1000):dN [aK T]=some (.tup [.lst ((cH T).map D.int),.lst ((cols T).map D.int)]):=by
 have hline:KH=16777216:=Lv
 refine cU nQ ?_
 rw [Bz]
 unfold oS
 have e1:Jg (qC (ag 0)) (gz gM (dt (ag 0) (dC (.int 0)))) (dC (.int 0)) [.bo (aK T),.un,.un]=some (.int (dY T:Nat)):=by
  cases T with
  | nil=>rfl
  | cons a b =>
   have e3:gz gM (dt (ag 0) (dC (.int 0))) [.bo (aK (a::b)),.un,.un]=some (.int (a.length:Nat)):=by
    refine d8 (cm rfl rfl (Eu _ _)) ?_
    show some (D.int ((a.map D.int).length:Nat))=_
    rw [Kw]
   exact e3
 refine wp_seq (bY e1 ?_)
 walk_at "go"
 have ew:((dY T:Nat):Int).toNat=dY T:=by omega
 have e2:iq (ag 1) [.bo (aK T),.pu (.int (dY T:Nat)),.un]=some (wq 0 (dY T)):=by
  have:=ud (ρ:=[.bo (aK T),.pu (.int (dY T:Nat)),.un]) (a:=ag 1) (i:=(dY T:Nat)) rfl ⟨by omega,by omega⟩
  rw [ew] at this
  exact this
 refine bY (bJ (zk hT h6 0 e2 rfl)) ?_
 walk_at "go"
 exact bW (xS (aE (bJ (yF rfl)) (aE rfl rfl))) rfl
theorem wK:∀ (xs:List Int),(∀ x∈xs,0≤x)→0≤xs.sum
 | [],_=>Mh _
 | x::r,h=>by rw [Oe]; exact Tf (h x Ky) (wK r fun y hy=>h y (Kx _ hy))
theorem DY (hn:∀ r∈T,∀ x∈r,0≤x):∀ x∈cH T++cols T,0≤x:=by
 intro x hx
 rcases KS.mp hx with h | h
 ·obtain ⟨r,hr,rfl⟩:=K5.mp h
  exact wK r (hn r hr)
 ·obtain ⟨j,_,rfl⟩:=K5.mp h
  refine wK _ fun y hy=>?_
  obtain ⟨r,hr,rfl⟩:=K5.mp hy
  rw [Ku]
  cases e:r[j]? with
  | none=>exact Mh _
  | some z=>exact hn r hr z (LI e)
theorem whole (x:Int):du [.int x]=some (.bl true):=by
 refine cU jQ ?_
 rw [wN]
 unfold jx
 exact bW (js (x:=true) (y:=true) rfl fun _=>rfl) rfl
def dP (T:List (List Int)):Int:=nY 0 (cH T++cols T)
theorem Ak {y:Int} {r s:List Int} (h:∀ a,a∈x::r↔a∈y::s):nY x r=nY y s :=
 iQ (ns:=x::r) (aQ r x).1 (aQ r x).2 ((h _).mpr (aQ s y).1) fun a ha=>(aQ s y).2 a ((h a).mp ha)
theorem B7 (hT:∀ r∈T,r.length=dY T) (h6:dY T≤1000) (hl:T.length≤1000) (hn:∀ r∈T,∀ x∈r,0≤x):dg [aK T]=some (.int (dP T)):=by
 have hline:KH=16777216:=Lv
 have e1:=Cr hT h6
 refine cU je ?_
 rw [uU]
 unfold iz
 walk_at "go"
 have lr:(cH T).length=T.length:=Kw ..
 have lc:(cols T).length=dY T:=by unfold cols; simp
 have e2:∀ ρ:aF,ρ=[.bo (aK T),.pu (.tup [.lst ((cH T).map D.int),.lst ((cols T).map D.int)])]→cc (m4 (dt (aG 1) (dC (.int 0))) (dt (aG 1) (dC (.int 1)))) ρ=some (.lst ((cH T++cols T).map D.int)):=by
  rintro ρ rfl
  rw [Li]
  exact bJ (ug (cm rfl rfl rfl) (cm rfl rfl rfl) (by rw [Kw,Kw]; omega))
 cases e3:cH T++cols T with
 | nil =>
  refine bW (EJ (by rw [e2 _ rfl,e3]; rfl) rfl) ?_
  unfold dP
  rw [e3]
  rfl
 | cons x r =>
  refine bW (Hm (by rw [e2 _ rfl,e3]) rfl) ?_
  have hx:0≤x:=by
   have:x∈cH T++cols T:=by rw [e3]; exact Ky
   exact DY hn x this
  unfold dP
  rw [e3]
  congr 1
  refine iQ (ns:=0::x::r) (Kx _ (aQ r x).1) (fun a ha=>?_) (aQ (x::r) 0).1 (aQ (x::r) 0).2
  rcases KP.mp ha with rfl | ha
  ·exact Int.le_trans hx ((aQ r x).2 x Ky)
  ·exact (aQ r x).2 a ha
theorem G7 (hT:∀ r∈T,r.length=dY T) (h6:dY T≤1000) (hl:T.length≤1000):fi [aK T]=some (.tup [.lst ((cH T).map D.int),.lst ((cols T).map D.int)]):=by
 have hline:KH=16777216:=Lv
 refine cU lN ?_
 rw [zN]
 unfold lT
 refine wp_seq (bY (bJ (yF rfl)) ?_)
 walk_at "go"
 have e1:gz maxD (cc (m4 (cc (bA 1 [] (iG (ag 0)) (gN false 0) bP (gz gM (ag 0)))) (cc (ax (dC (.int 0)) bK)))) [.bo (aK T),.pu (.lst ((cH T).map D.int)),.un]=some (.int (dY T:Nat)):=by
  have e2:bA 1 [] (iG (ag 0)) (gN false 0) bP (gz gM (ag 0)) [.bo (aK T),.pu (.lst ((cH T).map D.int)),.un]=some ((T.map fun (r:List Int)=>(r.length:Int)).map D.int):=by
   rw [cG (fun (r:List Int)=>D.lst (r.map D.int)) (da (d:=aK T) rfl rfl) (fun (r:List Int)=>D.int (r.length:Nat)) fun (r:List Int) _=>⟨_,rfl,d8 rfl (by show some (D.int ((r.map D.int).length:Nat))=_; rw [Kw])⟩]
   rw [K6]
   rfl
  refine d8 (bJ (ug (bJ e2) rfl (by simp; omega))) ?_
  have e3:(T.map fun (r:List Int)=>(r.length:Int)).map D.int++[D.int 0]=((T.map fun (r:List Int)=>(r.length:Int))++[0]).map D.int:=by rw [Li]; rfl
  rw [e3]
  cases T with
  | nil=>rfl
  | cons a b =>
   show maxD (.lst (((a.length:Int)::((b.map fun (r:List Int)=>(r.length:Int))++[0])).map D.int))=_
   rw [rV]
   congr 2
   refine iQ (aQ _ _).1 (aQ _ _).2 (show ((dY (a::b):Nat):Int)∈_ from Ky) fun x hx=>?_
   rcases KP.mp hx with rfl | hx
   ·exact Mh _
   ·rcases KS.mp hx with hx | hx
    ·obtain ⟨r,hr,rfl⟩:=K5.mp hx
     rw [hT r (Kx _ hr)]
     exact Mh _
    ·rw [Kz.mp hx]; omega
 refine bY e1 ?_
 walk_at "go"
 have ew:((dY T:Nat):Int).toNat=dY T:=by omega
 have e2:iq (ag 2) [.bo (aK T),.pu (.lst ((cH T).map D.int)),.pu (.int (dY T:Nat))]=some (wq 0 (dY T)):=by
  have:=ud (ρ:=[.bo (aK T),.pu (.lst ((cH T).map D.int)),.pu (.int (dY T:Nat))]) (a:=ag 2) (i:=(dY T:Nat)) rfl ⟨by omega,by omega⟩
  rw [ew] at this
  exact this
 exact bW (xS (aE rfl (aE (bJ (zk hT h6 0 e2 rfl)) rfl))) rfl
theorem IG (hT:∀ r∈T,r.length=dY T) (h6:dY T≤1000) (hl:T.length≤1000):gE [aK T]=some (.int (dP T)):=by
 have hline:KH=16777216:=Lv
 have e1:=G7 hT h6 hl
 refine cU nR ?_
 rw [BA]
 unfold oT
 walk_at "go"
 have lr:(cH T).length=T.length:=Kw ..
 have lc:(cols T).length=dY T:=by unfold cols; simp
 have e2:cc (m4 (cc (m4 (dt (aG 1) (dC (.int 0))) (dt (aG 1) (dC (.int 1))))) (cc (ax (dC (.int 0)) bK))) [.bo (aK T),.pu (.tup [.lst ((cH T).map D.int),.lst ((cols T).map D.int)])]=some (.lst ((cH T++cols T++[0]).map D.int)):=by
  rw [Li,Li]
  exact bJ (ug (bJ (ug (cm rfl rfl rfl) (cm rfl rfl rfl) (by rw [Kw,Kw]; omega))) rfl (by simp; omega))
 have e3:maxD (.lst ((cH T++cols T++[0]).map D.int))=some (.int (dP T)):=by
  unfold dP
  cases e4:cH T++cols T with
  | nil=>rfl
  | cons x r =>
   show maxD (.lst ((x::(r++[0])).map D.int))=_
   rw [rV]
   congr 2
   exact Ak fun a=>by simp; constructor <;> (rintro (h | h | h) <;> simp [h])
 exact bW (d8 e2 e3) rfl
theorem ET (ha:a ρ=some (aK T)):cc (bA 1 [] (iG a) (gN true 0) bP (cc (rg (aG 0)))) ρ=some (aK T):=by
 refine bJ ?_
 rw [cG (fun r=>D.lst (r.map D.int)) (da ha rfl) (fun (r:List Int)=>D.lst (r.map D.int)) fun r _=>⟨_,rfl,rfl⟩]
theorem zB (ha:a ρ=some (.lst (xs.map D.int))):gz HA (cc (bA 1 [] (iG a) (gN true 0) bP (bX du (ax (ag 0) bK)))) ρ=some (.bl true):=by
 refine d8 (bJ (cG D.int (da ha rfl) (fun _=>.bl true) fun x _=>⟨_,rfl,cA (aE rfl rfl) (whole x)⟩)) ?_
 have:(xs.map fun _=>D.bl true)=(xs.map fun _=>true).map D.bl:=by rw [K6]; rfl
 rw [this]
 show (nS _).map _=_
 rw [yk]
 show some (D.bl ((xs.map fun _=>true).all id))=_
 rw [Sh]
 congr 2
 rw [Ml]
 intro x _
 rfl
structure Match (h b:Nat) (l:Int→Int→Int) (R:Int) (T:Tk):Prop where
 own:∀ j,j∈bE b→∃ u,getZ T j=some u∧((u∈bE h∧0<l u j)∨(u=h+j∧dX h l j<R))
 inj:∀ s t u,getZ T s=some u→getZ T t=some u→s=t
 free:∀ i,i∈bE h→(∃ j,j∈bE b∧getZ T j=some i)∨dn b l i<R
theorem matched {b:Nat} {l:Int→Int→Int} (f:Fits h b l R) (hR:0<R) (hn:b+h<n):∃ T,d0 (qU h b l R) n (bE (h+b)) []=some T∧Match h b l R T:=by
 have E:=JG f hR
 obtain ⟨T,e,F⟩:=o5 E tP (n:=n) (by rw [fH]; exact hn) (bE (h+b)) (fun _=>False) [] (fun x hx=>⟨hx,fun z=>z⟩) (cR _) (fun u z=>z.elim) ⟨fun s t u z=>(by cases z),fun t u z=>(by cases z),fun t u z=>(by cases z),fun u z=>z.elim⟩
 refine ⟨T,e,?_⟩
 have hX:∀ u,u∈bE (h+b)→∃ t,getZ T t=some u:=fun u hu=>F.all u (.inr hu)
 have inX:∀ t u,getZ T t=some u→u∈bE (h+b):=fun t u z=>(F.own t u z).resolve_left fun z=>z
 have yZ:∀ t u,getZ T t=some u→t∈bE (b+h):=fun t u z=>tP u t (F.ra t u z)
 /- every thing is taken -/
 have every:∀ t,t∈bE (b+h)→∃ u,getZ T t=some u:=by
  intro t0 ht0
  refine Classical.byContradiction fun no=>?_
  have pick:∀ xs:List Int,xs.Nodup→(∀ u∈xs,u∈bE (h+b))→∃ ts:List Int,ts.length=xs.length∧ts.Nodup∧(∀ t∈ts,∃ u∈xs,getZ T t=some u):=by
   intro xs
   induction xs with
   | nil=>intro _ _; exact ⟨[],rfl,Mc,fun t z=>by cases z⟩
   | cons x xs ih =>
    intro nd hx
    obtain ⟨h1,h2⟩:=La.mp nd
    obtain ⟨ts,e1,e2,e3⟩:=ih h2 fun u hu=>hx u (Kx _ hu)
    obtain ⟨t,ht⟩:=hX x (hx x Ky)
    refine ⟨t::ts,by rw [Lo,Lo,e1],La.mpr ⟨fun z=>?_,e2⟩,fun s hs=>?_⟩
    ·obtain ⟨u,hu,q⟩:=e3 t z
     rw [ht] at q
     cases q
     exact h1 hu
    ·rcases KP.mp hs with z | z
     ·exact ⟨x,Ky,by rw [z]; exact ht⟩
     ·obtain ⟨u,hu,q⟩:=e3 s z
      exact ⟨u,Kx _ hu,q⟩
  obtain ⟨ts,e1,e2,e3⟩:=pick (bE (h+b)) (cR _) fun u hu=>hu
  have sub:∀ t∈ts,t∈(bE (b+h)).erase t0:=fun t ht=>by
   obtain ⟨u,_,q⟩:=e3 t ht
   exact (Po (fun z:t=t0=>no ⟨u,by rw [← z]; exact q⟩)).mpr (yZ t u q)
  have:=mH e2 sub
  rw [e1,Qp ht0,fH,fH] at this
  have:0<(bE (b+h)).length:=QS ht0
  rw [fH] at this
  omega
 refine ⟨fun j hj=>?_,F.inj,fun i hi=>?_⟩
 ·have hj':=aq.mp hj
  obtain ⟨u,hu⟩:=every j (aq.mpr (by omega))
  refine ⟨u,hu,?_⟩
  have ed:=F.ra j u hu
  unfold qU at ed
  split at ed
  ·rename_i c
   refine .inl ⟨aq.mpr c,?_⟩
   rcases KS.mp ed with z | z
   ·exact of_decide_eq_true (LC.mp z).2
   ·split at z
    ·have:=Kz.mp z
     omega
    ·cases z
  ·split at ed
   ·rename_i c
    rcases KS.mp ed with z | z
    ·obtain ⟨i,hi,q⟩:=K5.mp z
     have:=aq.mp hi
     omega
    ·split at z
     ·rename_i d
      have z:=Kz.mp z
      exact .inr ⟨by omega,by rw [z]; exact d⟩
     ·cases z
   ·cases ed
 ·have hi':=aq.mp hi
  obtain ⟨t,ht⟩:=hX i (aq.mpr (by omega))
  by_cases c:t<b
  ·have:=aq.mp (yZ t i ht)
   exact .inl ⟨t,aq.mpr (by omega),ht⟩
  ·have ed:=F.ra t i ht
   unfold qU at ed
   rw [if_pos hi'] at ed
   rcases KS.mp ed with z | z
   ·have:=aq.mp (LC.mp z).1
    omega
   ·split at z
    ·rename_i d; exact .inr d
    ·cases z
theorem ph {f g:Int→Int} {a:Int}:∀ {l:List Int},(∀ t∈l,f t≤g t)→a∈l→f a<g a→cE l f<cE l g
 | [],_,h,_=>by cases h
 | x::l,hle,h,hlt=>by
  rw [bf,bf]
  have h1:=hle x Ky
  have h2:=eG (l:=l) fun t ht=>hle t (Kx _ ht)
  rcases KP.mp h with z | z
  ·subst z; omega
  ·have:=ph (l:=l) (fun t ht=>hle t (Kx _ ht)) z hlt
   omega
section
open Classical
def Sel (h b:Nat) (T:Tk) (i j:Int):Prop:=j∈bE b∧i∈bE h∧getZ T j=some i
noncomputable def after (h b:Nat) (l:Int→Int→Int) (T:Tk) (H:Int) (i j:Int):Int:=if Sel h b T i j then l i j-H else l i j
noncomputable def loose (h b:Nat) (l:Int→Int→Int) (R:Int):Int:=cE (bE h) (fun i=>cE (bE b) fun j=>if 0<l i j then 1 else 0)+cE (bE h) (fun i=>if dn b l i<R then 1 else 0)+cE (bE b) (fun j=>if dX h l j<R then 1 else 0)
structure uD (h b:Nat) (l:Int→Int→Int) (R:Int) (T:Tk) (H:Int):Prop where
 pair:∀ i j,Sel h b T i j→H≤l i j
 hand:∀ i,i∈bE h→(∀ j,¬ Sel h b T i j)→H≤R-dn b l i
 IT:∀ j,j∈bE b→(∀ i,¬ Sel h b T i j)→H≤R-dX h l j
 at_:(∃ i j,Sel h b T i j∧H=l i j)∨(∃ i,i∈bE h∧(∀ j,¬ Sel h b T i j)∧H=R-dn b l i)∨∃ j,j∈bE b∧(∀ i,¬ Sel h b T i j)∧H=R-dX h l j
theorem uD.ge {b:Nat} {l:Int→Int→Int} {T:Tk} (m:Match h b l R T) (g:uD h b l R T H):1≤H:=by
 rcases g.at_ with ⟨i,j,s,e⟩ | ⟨i,hi,n,e⟩ | ⟨j,hj,n,e⟩
 ·obtain ⟨u,hu,q⟩:=m.own j s.1
  rw [s.2.2] at hu
  cases hu
  have hi:=aq.mp s.2.1
  rcases q with q | q
  ·have:=q.2; omega
  ·have:=aq.mp s.1; omega
 ·rcases m.free i hi with ⟨j,hj,q⟩ | q
  ·exact absurd ⟨hj,hi,q⟩ (n j)
  ·omega
 ·obtain ⟨u,hu,q⟩:=m.own j hj
  rcases q with q | q
  ·exact absurd ⟨hj,q.1,hu⟩ (n u)
  ·omega
theorem rM {b:Nat} {l:Int→Int→Int} {T:Tk} (inj:∀ s t u,getZ T s=some u→getZ T t=some u→s=t) {i j0:Int} (s:Sel h b T i j0):dn b (after h b l T H) i=dn b l i-H:=by
 have e:dn b (after h b l T H) i=cE (bE b) fun j=>l i j+(if j=j0 then -H else 0):=bT fun j hj=>by
  unfold after
  by_cases c:j=j0
  ·rw [if_pos c,c,if_pos s]; omega
  ·rw [if_neg c,if_neg (fun z=>c (inj j j0 i z.2.2 s.2.2))]; omega
 rw [e,ow,hU (cR _) s.1]
 rfl
theorem jY {b:Nat} {l:Int→Int→Int} {T:Tk} {i:Int} (n:∀ j,¬ Sel h b T i j):dn b (after h b l T H) i=dn b l i:=bT fun j hj=>if_neg (n j)
theorem sj {b:Nat} {l:Int→Int→Int} {T:Tk} {i0 j:Int} (s:Sel h b T i0 j):dX h (after h b l T H) j=dX h l j-H:=by
 have e:dX h (after h b l T H) j=cE (bE h) fun i=>l i j+(if i=i0 then -H else 0):=bT fun i hi=>by
  unfold after
  by_cases c:i=i0
  ·rw [if_pos c,c,if_pos s]; omega
  ·rw [if_neg c,if_neg (fun z=>c (by have:=z.2.2.symm.trans s.2.2; cases this; rfl))]; omega
 rw [e,ow,hU (cR _) s.2.1]
 rfl
theorem ki {b:Nat} {l:Int→Int→Int} {T:Tk} {j:Int} (n:∀ i,¬ Sel h b T i j):dX h (after h b l T H) j=dX h l j:=bT fun i hi=>if_neg (n i)
theorem xp {b:Nat} {l:Int→Int→Int} {T:Tk} (f:Fits h b l R) (m:Match h b l R T) (g:uD h b l R T H):Fits h b (after h b l T H) (R-H):=by
 refine ⟨fun i j=>?_,fun i hi=>?_,fun j hj=>?_⟩
 ·unfold after
  split
  ·rename_i s; have:=g.pair i j s; omega
  ·exact f.pos i j
 ·by_cases c:∃ j,Sel h b T i j
  ·obtain ⟨j,s⟩:=c
   rw [rM m.inj s]
   have:=f.row i hi
   omega
  ·have n:∀ j,¬ Sel h b T i j:=fun j z=>c ⟨j,z⟩
   rw [jY n]
   have:=g.hand i hi n
   omega
 ·by_cases c:∃ i,Sel h b T i j
  ·obtain ⟨i,s⟩:=c
   rw [sj s]
   have:=f.col j hj
   omega
  ·have n:∀ i,¬ Sel h b T i j:=fun i z=>c ⟨i,z⟩
   rw [ki n]
   have:=g.IT j hj n
   omega
theorem vf {b:Nat} {l:Int→Int→Int} {T:Tk} (m:Match h b l R T) (g:uD h b l R T H):loose h b (after h b l T H) (R-H)<loose h b l R:=by
 have hH:=g.ge m
 have c1:∀ i j,(if 0<after h b l T H i j then (1:Int) else 0)≤if 0<l i j then 1 else 0:=fun i j=>by
  unfold after
  split <;> split <;> (try omega) <;> rename_i x y <;> (try split at x) <;> omega
 have c2:∀ i∈bE h,(if dn b (after h b l T H) i<R-H then (1:Int) else 0)≤if dn b l i<R then 1 else 0:=fun i hi=>by
  by_cases c:∃ j,Sel h b T i j
  ·obtain ⟨j,s⟩:=c
   rw [rM m.inj s]
   split <;> split <;> omega
  ·rw [jY fun j z=>c ⟨j,z⟩]
   split <;> split <;> omega
 have c3:∀ j∈bE b,(if dX h (after h b l T H) j<R-H then (1:Int) else 0)≤if dX h l j<R then 1 else 0:=fun j hj=>by
  by_cases c:∃ i,Sel h b T i j
  ·obtain ⟨i,s⟩:=c
   rw [sj s]
   split <;> split <;> omega
  ·rw [ki fun i z=>c ⟨i,z⟩]
   split <;> split <;> omega
 have s1:cE (bE h) (fun i=>cE (bE b) fun j=>if 0<after h b l T H i j then 1 else 0)≤cE (bE h) (fun i=>cE (bE b) fun j=>if 0<l i j then 1 else 0):=eG fun i _=>eG fun j _=>c1 i j
 have s2:=eG c2
 have s3:=eG c3
 unfold loose
 rcases g.at_ with ⟨i,j,s,e⟩ | ⟨i,hi,n,e⟩ | ⟨j,hj,n,e⟩
 ·have:cE (bE h) (fun i=>cE (bE b) fun j=>if 0<after h b l T H i j then 1 else 0)<cE (bE h) (fun i=>cE (bE b) fun j=>if 0<l i j then 1 else 0):=by
   refine ph (a:=i) (fun i _=>eG fun j _=>c1 i j) s.2.1 (ph (a:=j) (fun j _=>c1 i j) s.1 ?_)
   unfold after
   rw [if_pos s,if_neg (by omega),if_pos (by omega)]
   omega
  omega
 ·have:=ph (a:=i) c2 hi (by
   rw [jY n,if_neg (by omega),if_pos (by omega)]
   omega)
  omega
 ·have:=ph (a:=j) c3 hj (by
   rw [ki n,if_neg (by omega),if_pos (by omega)]
   omega)
  omega
end
theorem xM {p:Prop} [Decidable p]:(if p then (1:Int) else 0)≤1:=by split <;> omega
theorem Cq (h b:Nat) (l:Int→Int→Int) (R:Int):loose h b l R≤h*b+h+b:=by
 have e1:cE (bE h) (fun i=>cE (bE b) fun j=>if 0<l i j then 1 else 0)≤cE (bE h) fun _=>(b:Int):=eG fun i _=>by
  have:=eG (l:=bE b) (f:=fun j=>if 0<l i j then (1:Int) else 0) (g:=fun _=>1) fun j _=>xM
  rw [eI,fH] at this
  omega
 have e2:=eG (l:=bE h) (f:=fun i=>if dn b l i<R then (1:Int) else 0) (g:=fun _=>1) fun j _=>xM
 have e3:=eG (l:=bE b) (f:=fun j=>if dX h l j<R then (1:Int) else 0) (g:=fun _=>1) fun j _=>xM
 rw [eI,fH] at e1 e2 e3
 unfold loose
 omega
theorem pX (h b:Nat) (l:Int→Int→Int) (R:Int):0≤loose h b l R:=by
 unfold loose
 have n:∀ {p:Prop} [Decidable p],(0:Int)≤if p then 1 else 0:=by intro p _; split <;> omega
 have e1:0≤cE (bE h) (fun i=>cE (bE b) fun j=>if 0<l i j then (1:Int) else 0):=dQ fun i _=>dQ fun j _=>n
 have e2:0≤cE (bE h) (fun i=>if dn b l i<R then (1:Int) else 0):=dQ fun i _=>n
 have e3:0≤cE (bE b) (fun j=>if dX h l j<R then (1:Int) else 0):=dQ fun i _=>n
 omega
theorem Aj {b:Nat} {l:Int→Int→Int} (f:Fits h b l 0) {i j:Int} (hi:i∈bE h) (hj:j∈bE b):l i j=0:=by
 have h1:=f.row i hi
 have h2:=f.pos i j
 have h3:l i j≤dn b l i:=by
  have:=ou (A:=[j]) (V:=bE b) (f:=fun j=>l i j) (by simp) (fun t ht=>by rw [Kz.mp ht]; exact hj) fun t _=>f.pos i t
  rw [bf,yx] at this
  unfold dn
  omega
 omega
abbrev Mx:=List (List Int)
def cO (T:Mx) (i j:Int):Int:=if 0≤i∧0≤j then (T.getD i.toNat []).getD j.toNat 0 else 0
structure Wd (T:Mx) (h b:Nat):Prop where
 len:T.length=h
 DC:∀ r∈T,r.length=b
theorem gA (T:Mx) (i j:Nat):cO T i j=(T.getD i []).getD j 0:=by
 unfold cO
 rw [if_pos ⟨by omega,by omega⟩,Mu,Mu]
theorem kL (n:Nat) (f:Int→α):(bE n).map f=(KW n).map fun (k:Nat)=>f (k:Int):=by
 unfold bE
 rw [K6]
 rfl
theorem mM {T:Mx} {i:Nat} (h:i<T.length):T.getD i []∈T:=by
 rw [Ku,Kv h]
 exact Nd h
theorem Wd.row {T:Mx} {b:Nat} (w:Wd T h b) {i:Nat} (hi:i<h):(T.getD i []).length=b:=w.DC _ (mM (by rw [w.len]; exact hi))
theorem Wd.out {T:Mx} {b:Nat} (w:Wd T h b) {i j:Int} (n:¬ (i∈bE h∧j∈bE b)):cO T i j=0:=by
 unfold cO
 split
 ·rename_i c
  by_cases hi:i<h
  ·have hj:¬ j<b:=fun hj=>n ⟨aq.mpr ⟨c.1,hi⟩,aq.mpr ⟨c.2,hj⟩⟩
   have:=w.row (i:=i.toNat) (by omega)
   rw [Ku (l:=T.getD i.toNat []),Mf (by omega)]
   rfl
  ·have:=w.len
   rw [Ku (l:=T),Mf (by omega)]
   rfl
 ·rfl
theorem list_range (l:List Int) (h:l.length=n):(KW n).map (fun k=>l.getD k 0)=l:=by
 refine MN (by rw [Kw,K7,h]) fun k h1 h2=>?_
 rw [OB,OS,Ku,Kv h2]
 rfl
theorem kK {T:Mx} {b:Nat} (w:Wd T h b) {i:Nat} (hi:i<h):dn b (cO T) i=(T.getD i []).sum:=by
 unfold dn cE
 rw [kL]
 conv=>rhs; rw [← list_range (T.getD i []) (w.row hi)]
 exact congrArg Tg (LH fun k _=>gA T i k)
theorem lF {T:Mx} {b:Nat} (w:Wd T h b) (j:Nat):dX h (cO T) j=(T.map fun r=>r.getD j 0).sum:=by
 unfold dX cE
 rw [kL]
 congr 1
 refine MN (by rw [Kw,Kw,K7,w.len]) fun k h1 h2=>?_
 rw [Kw] at h2
 rw [OB,OB,OS,gA,Ku (l:=T),Kv h2]
 rfl
theorem GX {T U:Mx} {b:Nat} (w:Wd T h b) (v:Wd U h b) (e:∀ i j:Nat,i<h→j<b→cO T i j=cO U i j):T=U:=by
 refine MN (by rw [w.len,v.len]) fun i h1 h2=>?_
 have hi:i<h:=by rw [← w.len]; exact h1
 have e1:T.getD i []=T[i]:=by rw [Ku,Kv h1]; rfl
 have e2:U.getD i []=U[i]:=by rw [Ku,Kv h2]; rfl
 have l1:=w.row hi
 have l2:=v.row hi
 rw [e1] at l1
 rw [e2] at l2
 refine MN (by rw [l1,l2]) fun j g1 g2=>?_
 have:=e i j hi (by omega)
 rw [gA,gA,e1,e2,Ku,Ku,Kv g1,Kv g2] at this
 exact this
def wH (T:Mx) (i j:Nat) (v:Int):Mx:=T.set i ((T.getD i []).set j v)
theorem Wd.wH {T:Mx} {h b:Nat} (w:Wd T h b) {i j:Nat} {v:Int} (hi:i<h):Wd (wH T i j v) h b:=by
 refine ⟨by unfold My.wH; rw [MC,w.len],fun r hr=>?_⟩
 unfold My.wH at hr
 rcases P6 hr with z | z
 ·exact w.DC r z
 ·rw [z,MC]; exact w.row hi
theorem zl {T:Mx} {b:Nat} (w:Wd T h b) {i:Nat} {v:Int} (hi:i<h) (hj:j<b) (i' j':Nat):cO (wH T i j v) i' j'=if i'=i∧j'=j then v else cO T i' j':=by
 rw [gA,gA]
 unfold wH
 have hl:=w.len
 have hr:=w.row hi
 by_cases c:i'=i
 ·subst c
  rw [Ku (l:=T.set _ _),Mw (by omega)]
  show ((T.getD i' []).set j v).getD j' 0=_
  by_cases d:j'=j
  ·subst d
   rw [if_pos ⟨rfl,rfl⟩,Ku,Mw (by omega)]
   rfl
  ·rw [if_neg (fun z=>d z.2),Ku,MF (MY d),← Ku]
 ·rw [if_neg (fun z=>c z.1),Ku (l:=T.set _ _),MF (MY c),← Ku]
abbrev jP:=List (Int×Int)
def jc (g:Int):Mx→jP→Mx
 | T,[]=>T
 | T,p::P=>jc g (wH T p.1.toNat p.2.toNat (cO T p.1 p.2+g)) P
def Jk (h b:Nat) (P:jP):Prop:=∀ p∈P,p.1∈bE h∧p.2∈bE b
theorem oQ {h b:Nat} {g:Int}:∀ {P:jP} {T:Mx},Wd T h b→Jk h b P→P.Nodup→Wd (jc g T P) h b∧∀ i j:Nat,cO (jc g T P) i j=cO T i j+if ((i:Int),(j:Int))∈P then g else 0
 | [],T,w,_,_=>⟨w,fun i j=>by rw [if_neg (by simp),QT]; rfl⟩
 | p::P,T,w,hp,nd=>by
  obtain ⟨h1,h2⟩:=La.mp nd
  obtain ⟨p1,p2⟩:=hp p Ky
  have p1:=aq.mp p1
  have p2:=aq.mp p2
  have w1:Wd (wH T p.1.toNat p.2.toNat (cO T p.1 p.2+g)) h b:=w.wH (by omega)
  obtain ⟨k1,k2⟩:=oQ (g:=g) (P:=P) w1 (fun q hq=>hp q (Kx _ hq)) h2
  refine ⟨k1,fun i j=>?_⟩
  show cO (jc g (wH T p.1.toNat p.2.toNat (cO T p.1 p.2+g)) P) i j=_
  rw [k2 i j,zl w (by omega) (by omega)]
  by_cases c:i=p.1.toNat∧j=p.2.toNat
  ·have e:((i:Int),(j:Int))=p:=TF (by show (i:Int)=p.1; omega) (by show (j:Int)=p.2; omega)
   rw [if_pos c,e,if_neg h1,if_pos Ky]
   have e1:(i:Int)=p.1:=by omega
   have e2:(j:Int)=p.2:=by omega
   rw [e1,e2]
   omega
  ·have e:((i:Int),(j:Int))≠p:=fun z=>c ⟨by rw [← z]; rfl,by rw [← z]; rfl⟩
   rw [if_neg c]
   by_cases d:((i:Int),(j:Int))∈P
   ·rw [if_pos d,if_pos (Kx _ d)]
   ·rw [if_neg d,if_neg (fun z=>(KP.mp z).elim e d)]
abbrev km:=List (Int×jP)
structure fW (h b:Nat) (q:Int×jP):Prop where
 ge:1≤q.1
 DF:Jk h b q.2
 n1:(q.2.map (·.1)).Nodup
 n2:(q.2.map (·.2)).Nodup
theorem mF {α β:Type} {f:α→β}:∀ {l:List α},(l.map f).Nodup→l.Nodup
 | [],_=>Mc
 | a::l,h=>by
  rw [Ld] at h
  obtain ⟨h1,h2⟩:=La.mp h
  exact La.mpr ⟨fun z=>h1 (List.mem_map_of_mem z),mF h2⟩
theorem mG {α β:Type} {f:α→β}:∀ {l:List α},(∀ a∈l,∀ c∈l,f a=f c→a=c)→l.Nodup→(l.map f).Nodup
 | [],_,_=>Mc
 | a::l,h,n=>by
  obtain ⟨h1,h2⟩:=La.mp n
  rw [Ld]
  refine La.mpr ⟨fun z=>?_,mG (fun x hx y hy=>h x (Kx _ hx) y (Kx _ hy)) h2⟩
  obtain ⟨c,hc,e⟩:=K5.mp z
  rw [h a Ky c (Kx _ hc) e.symm] at h1
  exact h1 hc
theorem fW.nd {b:Nat} {q:Int×jP} (k:fW h b q):q.2.Nodup:=mF k.n1
def gQ (i j:Nat) (tl:km):Int:=(tl.map fun q=>if ((i:Int),(j:Int))∈q.2 then q.1 else 0).sum
theorem By (i j:Nat) (tl:km) (q:Int×jP):gQ i j (tl++[q])=gQ i j tl+if ((i:Int),(j:Int))∈q.2 then q.1 else 0:=by
 unfold gQ
 rw [Li,Pw]
 simp
def Kg (M:Mx) (tl:km):Mx:=tl.foldl (fun M q=>jc q.1 M q.2) M
def uO (T:Tk) (j:Nat):Int:=(getZ T (j:Int)).getD 0
def jE (h b:Nat) (T:Tk):jP:=((KW b).filter fun (j:Nat)=>decide (uO T j<h)).map fun (j:Nat)=>(uO T j,(j:Int))
theorem iN {b:Nat} {l:Int→Int→Int} {T:Tk} (m:Match h b l R T) (i j:Int):(i,j)∈jE h b T↔Sel h b T i j:=by
 unfold jE
 rw [K5]
 constructor
 ·rintro ⟨k,hk,e⟩
  obtain ⟨h1,h2⟩:=LC.mp hk
  have h1:=Lw.mp h1
  have h2:=of_decide_eq_true h2
  have e1:uO T k=i:=congrArg Prod.fst e
  have e2:(k:Int)=j:=congrArg Prod.snd e
  subst e2
  have hj:(k:Int)∈bE b:=aq.mpr ⟨by omega,by omega⟩
  obtain ⟨u,hu,q⟩:=m.own k hj
  have eu:uO T k=u:=by unfold uO; rw [hu]; rfl
  rw [eu] at h2 e1
  subst e1
  refine ⟨hj,?_,hu⟩
  rcases q with q | q
  ·exact q.1
  ·omega
 ·rintro ⟨hj,hi,e⟩
  have h1:=aq.mp hj
  have h2:=aq.mp hi
  have ek:((j.toNat:Nat):Int)=j:=by omega
  have et:uO T j.toNat=i:=by unfold uO; rw [ek,e]; rfl
  exact ⟨j.toNat,LC.mpr ⟨Lw.mpr (by omega),decide_eq_true (by rw [et]; exact h2.2)⟩,by rw [et,ek]⟩
theorem yM (h b:Nat) (T:Tk):((jE h b T).map (·.2)).Nodup:=by
 unfold jE
 rw [K6]
 exact mG (fun a _ c _ e=>by have:(a:Int)=(c:Int):=e; omega) (Pg.filter _)
theorem xo {b:Nat} {l:Int→Int→Int} {T:Tk} (m:Match h b l R T) (g:uD h b l R T H) {P:jP} (pm:P.Perm (jE h b T)):fW h b (H,P):=by
 have mem:∀ p∈P,Sel h b T p.1 p.2:=fun p hp=>(iN m p.1 p.2).mp (pm.mem_iff.mp hp)
 refine ⟨g.ge m,fun p hp=>⟨(mem p hp).2.1,(mem p hp).1⟩,?_,((pm.map (·.2)).nodup_iff).mpr (yM h b T)⟩
 refine mG (fun a ha c hc e=>?_) (pm.nodup_iff.mpr (mF (yM h b T)))
 have s1:=mem a ha
 have s2:=mem c hc
 have e:a.1=c.1:=e
 exact TF e (m.inj a.2 c.2 a.1 s1.2.2 (by rw [e]; exact s2.2.2))
theorem AY {b:Nat} {T:Mx} (w:Wd T h b) {X:Tk} (m:Match h b (cO T) R X) (g:uD h b (cO T) R X H) {P:jP} (pm:P.Perm (jE h b X)):cO (jc (-H) T P)=after h b (cO T) X H:=by
 have k:=xo m g pm
 obtain ⟨w1,e1⟩:=oQ (g:=-H) w k.DF k.nd
 funext i j
 by_cases c:i∈bE h∧j∈bE b
 ·have ci:=aq.mp c.1
  have cj:=aq.mp c.2
  have q:=e1 i.toNat j.toNat
  rw [show ((i.toNat:Nat):Int)=i by omega,show ((j.toNat:Nat):Int)=j by omega] at q
  rw [q]
  unfold after
  by_cases s:Sel h b X i j
  ·rw [if_pos s,if_pos (pm.mem_iff.mpr ((iN m i j).mpr s))]; omega
  ·rw [if_neg s,if_neg (fun z=>s ((iN m i j).mp (pm.mem_iff.mp z)))]; omega
 ·rw [w1.out c]
  unfold after
  rw [if_neg (fun s=>c ⟨s.2.1,s.1⟩),w.out c]
def vX (h b:Nat) (l:Int→Int→Int) (R:Int) (P:jP):List Int :=
 P.map (fun p=>l p.1 p.2)++((KW h).filter fun (i:Nat)=>!decide ((i:Int)∈P.map (·.1))).map (fun (i:Nat)=>R-dn b l (i:Int))++((KW b).filter fun (j:Nat)=>!decide ((j:Int)∈P.map (·.2))).map (fun (j:Nat)=>R-dX h l (j:Int))
theorem Er {b:Nat} {l:Int→Int→Int} {X:Tk} (m:Match h b l R X) {P:jP} (pm:P.Perm (jE h b X)) {M:Int} (hM:M∈vX h b l R P) (hle:∀ x∈vX h b l R P,M≤x):uD h b l R X M:=by
 have mem:∀ i j,(i,j)∈P↔Sel h b X i j:=fun i j=>pm.mem_iff.trans (iN m i j)
 have hh:∀ i:Int,i∈bE h→((∀ j,¬ Sel h b X i j)↔i∉P.map (·.1)):=fun i _=>by
  constructor
  ·intro n z
   obtain ⟨p,hp,e⟩:=K5.mp z
   exact n p.2 ((mem i p.2).mp (by rw [← e]; exact hp))
  ·intro n j s
   exact n (K5.mpr ⟨(i,j),(mem i j).mpr s,rfl⟩)
 have hb:∀ j:Int,j∈bE b→((∀ i,¬ Sel h b X i j)↔j∉P.map (·.2)):=fun j _=>by
  constructor
  ·intro n z
   obtain ⟨p,hp,e⟩:=K5.mp z
   exact n p.1 ((mem p.1 j).mp (by rw [← e]; exact hp))
  ·intro n i s
   exact n (K5.mpr ⟨(i,j),(mem i j).mpr s,rfl⟩)
 unfold vX at hM hle
 refine ⟨fun i j s=>?_,fun i hi n=>?_,fun j hj n=>?_,?_⟩
 ·exact hle _ (K3 _ (K3 _ (K5.mpr ⟨(i,j),(mem i j).mpr s,rfl⟩)))
 ·have hi':=aq.mp hi
  have e:((i.toNat:Nat):Int)=i:=by omega
  exact hle _ (K3 _ (KA _ (K5.mpr ⟨i.toNat,LC.mpr ⟨Lw.mpr (by omega),by rw [e,decide_eq_false ((hh i hi).mp n)]; rfl⟩,by rw [e]⟩)))
 ·have hj':=aq.mp hj
  have e:((j.toNat:Nat):Int)=j:=by omega
  exact hle _ (KA _ (K5.mpr ⟨j.toNat,LC.mpr ⟨Lw.mpr (by omega),by rw [e,decide_eq_false ((hb j hj).mp n)]; rfl⟩,by rw [e]⟩))
 ·rcases KS.mp hM with z | z
  ·rcases KS.mp z with z | z
   ·obtain ⟨p,hp,e⟩:=K5.mp z
    exact .inl ⟨p.1,p.2,(mem p.1 p.2).mp hp,e.symm⟩
   ·obtain ⟨k,hk,e⟩:=K5.mp z
    obtain ⟨k1,k2⟩:=LC.mp hk
    have k1:=Lw.mp k1
    have hi:(k:Int)∈bE h:=aq.mpr ⟨by omega,by omega⟩
    refine .inr (.inl ⟨k,hi,(hh k hi).mpr ?_,e.symm⟩)
    intro z
    rw [decide_eq_true z] at k2
    cases k2
  ·obtain ⟨k,hk,e⟩:=K5.mp z
   obtain ⟨k1,k2⟩:=LC.mp hk
   have k1:=Lw.mp k1
   have hj:(k:Int)∈bE b:=aq.mpr ⟨by omega,by omega⟩
   refine .inr (.inr ⟨k,hj,(hb k hj).mpr ?_,e.symm⟩)
   intro z
   rw [decide_eq_true z] at k2
   cases k2
theorem EY {b:Nat} {l:Int→Int→Int} {P:jP} (hh:0<h):vX h b l R P≠[]:=by
 intro e
 unfold vX at e
 rw [QW,QW] at e
 have e1:=RL.mp e.1.1
 have e2:=RL.mp e.1.2
 rw [e1] at e2
 have:(0:Nat)∈(KW h).filter fun (i:Nat)=>!decide ((i:Int)∈([]:jP).map (·.1)):=LC.mpr ⟨Lw.mpr hh,by simp⟩
 rw [e2] at this
 cases this
def iE (T:Mx) (b:Nat) (R:Int) (i:Nat):List Int:=((KW b).filter fun (j:Nat)=>decide (0<cO T i j)).map Int.ofNat++if (T.getD i []).sum<R then [(b:Int)+i] else []
def nW (T:Mx) (b:Nat) (R:Int) (j:Nat):List Int:=(KW T.length).map (fun (i:Nat)=>(b:Int)+i)++if (T.map fun r=>r.getD j 0).sum<R then [(j:Int)] else []
def pM (T:Mx) (b:Nat) (R:Int):List (List Int):=(KW T.length).map (iE T b R)++(KW b).map (nW T b R)
theorem vj (T:Mx) (b:Nat) (R:Int):(pM T b R).length=T.length+b:=by unfold pM; rw [K0,Kw,Kw,K7,K7]
theorem pN {T:Mx} {b:Nat} (w:Wd T h b):eE (pM T b R)=qU h b (cO T) R:=by
 funext x
 have hl:=w.len
 unfold eE qU pM
 by_cases c:0≤x
 ·rw [if_pos c,Ku]
  have ex:((x.toNat:Nat):Int)=x:=by omega
  by_cases d:x<h
  ·rw [if_pos ⟨c,d⟩,LK (by rw [Kw,K7]; omega),KO,M8 (by omega)]
   show iE T b R x.toNat=_
   unfold iE
   have rs:=kK w (i:=x.toNat) (by omega)
   rw [ex] at rs
   rw [rs,ex]
   congr 1
   unfold bE
   rw [List.filter_map]
   rfl
  ·rw [if_neg (fun z=>d z.2),Ln (by rw [Kw,K7]; omega),Kw,K7,KO]
   by_cases d2:x<h+b
   ·rw [if_pos ⟨by omega,d2⟩,M8 (by omega)]
    show nW T b R (x.toNat-T.length)=_
    unfold nW
    have cs:=lF w (x.toNat-T.length)
    have e3:((x.toNat-T.length:Nat):Int)=x-h:=by omega
    rw [e3] at cs
    rw [cs,e3,kL,hl]
   ·rw [if_neg (fun z=>d2 z.2),Mf (by rw [K7]; omega)]
    rfl
 ·rw [if_neg c,if_neg (fun z=>c z.1),if_neg (fun z=>by omega)]
theorem El {T:Mx} {b:Nat} (w:Wd T h b) (h6:h≤6) (b6:b≤6):zw (pM T b R):=by
 have hl:=w.len
 have hin:∀ r∈pM T b R,∃ x:Nat,r=eE (pM T b R) x:=fun r hr=>by
  obtain ⟨x,hx⟩:=Mp hr
  refine ⟨x,?_⟩
  unfold eE
  rw [if_pos (by omega),Mu,Ku,hx]
  rfl
 refine ⟨by rw [vj]; omega,fun r hr=>?_,bE (b+h),by rw [fH]; omega,fun r hr t ht=>?_⟩
 ·unfold pM at hr
  rcases KS.mp hr with z | z
  ·obtain ⟨i,_,rfl⟩:=K5.mp z
   unfold iE
   have:=NA (fun (j:Nat)=>decide (0<cO T i j)) (KW b)
   rw [K7] at this
   rw [K0,Kw]
   split <;> simp <;> omega
  ·obtain ⟨j,_,rfl⟩:=K5.mp z
   unfold nW
   rw [K0,Kw,K7]
   split <;> simp <;> omega
 ·obtain ⟨x,e⟩:=hin r hr
  rw [e,pN w] at ht
  exact tP _ t ht
theorem CZ (h:iG a ρ=some ds):DJ a ρ=some (xV ds):=by unfold DJ; rw [h]
theorem kU (xs:List Int):gM (.lst (xs.map D.int))=some (.int (xs.length:Int)):=by show some (D.int ((xs.map D.int).length:Nat))=_; rw [Kw]
theorem Jf {xs:List D} {a:Nat} (h:xs[a]?=some d):Cy (.lst xs) (a:Int)=some d:=by
 have hl:=(Lj.mp h).1
 show iF xs (a:Int)=some d
 unfold iF
 rw [fS (by omega) (by omega),Mu]
 exact h
theorem tD {T:Mx} {i:Nat} (h:i<T.length):(T.map fun r=>D.lst (r.map D.int))[i]?=some (.lst ((T.getD i []).map D.int)):=by
 rw [KO,Kv h,Ku,Kv h]
 rfl
theorem uv {T:Mx} {b:Nat} (w:Wd T h b) {i:Nat} (hi:i<h) (hj:j<b) {x y z:DE} (hx:x ρ=some (aK T)) (hy:y ρ=some (.int (i:Int))) (hz:z ρ=some (.int (j:Int))):dt (dt x y) z ρ=some (.int (cO T i j)):=by
 have hl:=w.len
 have hr:=w.row hi
 rw [gA]
 refine cm (cm hx hy (Jf (tD (by omega)))) hz ?_
 have:=Jz (ns:=T.getD i []) (i:=(j:Int)) (by omega) (by omega)
 rw [Mu] at this
 exact this
theorem BR (h:a ρ=some (.int (n:Int))) (hn:n≤1000):iq a ρ=some ((KW n).map fun (k:Nat)=>D.int (k:Int)):=by
 have hline:KH=16777216:=Lv
 rw [ud h ⟨by omega,by omega⟩,Mu]
 unfold wq
 congr 1
 exact LH fun k _=>by rw [QU]
theorem BP {T:Mx} {k:Nat} (h:(cH T)[k]?=some x):k<T.length∧x=(T.getD k []).sum:=by
 unfold cH at h
 rw [KO] at h
 obtain ⟨r,hr,rfl⟩:=LO.mp h
 refine ⟨(Lj.mp hr).1,?_⟩
 rw [Ku,hr]
 rfl
theorem Dd {T:Mx} {k:Nat} (h:(cols T)[k]?=some x):k<dY T∧x=(T.map fun r=>r.getD k 0).sum:=by
 unfold cols at h
 rw [KO] at h
 obtain ⟨r,hr,rfl⟩:=LO.mp h
 have hk:=(Lj.mp hr).1
 rw [K7] at hk
 rw [M8 hk] at hr
 cases hr
 exact ⟨hk,rfl⟩
theorem qG (T:Mx):(cols T).length=dY T:=by unfold cols; rw [Kw,K7]
theorem pE (T:Mx):(cH T).length=T.length:=Kw ..
theorem h9 (n:Nat) (f:Nat→α):(KW (n+1)).map f=(KW n).map f++[f n]:=by rw [List.range_succ,Li]; rfl
theorem u5 {l:List α} {x y:α} (h:l.length=n):(l++[x]).set n y=l++[y]:=by
 subst h
 rw [O8 _ _ (Lg _),PN]
 rfl
theorem vF {l:List α} {x:α} (h:l.length=n):(l++[x])[n]?=some x:=by
 subst h
 rw [Ln (Lg _),PN]
 rfl
theorem GU {T:Mx} {b:Nat} (w:Wd T h b) (hb:dY T=b) (h6:h≤6) (b6:b≤6):fh [aK T,.int R]=some (aK (pM T b R)):=by
 have hline:KH=16777216:=Lv
 have hl:=w.len
 have e1:=Cr (T:=T) (fun r hr=>by rw [hb]; exact w.DC r hr) (by omega)
 refine cU lM ?_
 rw [zM]
 unfold lS
 refine wp_seq (bY (cA (aE rfl rfl) e1) ?_)
 dsimp only [K2,KZ]
 refine wp_seq (bY (d:=.int (h:Int)) (d8 (cm rfl rfl rfl) (by rw [kU,pE,hl])) ?_)
 dsimp only [K2,KZ]
 refine wp_seq (bY (d:=.int (b:Int)) (d8 (cm rfl rfl rfl) (by rw [kU,qG,hb])) ?_)
 dsimp only [K2,KZ]
 refine wp_seq (og (rows:=[]) rfl (by show 5<9; decide) ?_)
 dsimp only [K2,KZ]
 generalize hS:D.tup [.lst ((cH T).map D.int),.lst ((cols T).map D.int)]=S
 have s0:∀ ρ:aF,aG 2 ρ=some S→dt (aG 2) (dC (.int 0)) ρ=some (.lst ((cH T).map D.int)):=fun ρ h=>cm h rfl (by rw [← hS]; rfl)
 have s1:∀ ρ:aF,aG 2 ρ=some S→dt (aG 2) (dC (.int 1)) ρ=some (.lst ((cols T).map D.int)):=fun ρ h=>cm h rfl (by rw [← hS]; rfl)
 refine wp_seq (g9 (ds:=xV ((cH T).map D.int)) (CZ (da (s0 _ rfl) rfl)) (fun k ρ=>∃ v6 v7 v8:Sl,ρ=[.bo (aK T),.bo (.int R),.pu S,.pu (.int (h:Int)),.pu (.int (b:Int)),.om ((KW k).map fun i=>(iE T b R i).map D.int),v6,v7,v8]) ⟨_,_,_,rfl⟩ ?_ ?_)
 ·rintro k d ρ hd ⟨v6,v7,v8,rfl⟩
  obtain ⟨e,he,rfl⟩:=uh hd
  rw [KO] at he
  obtain ⟨x,hx,rfl⟩:=LO.mp he
  obtain ⟨hk,ex⟩:=BP hx
  refine ⟨[.bo (aK T),.bo (.int R),.pu S,.pu (.int (h:Int)),.pu (.int (b:Int)),.om ((KW k).map fun i=>(iE T b R i).map D.int),.pu (.int (k:Int)),.pu (.int x),v8],rfl,?_⟩
  have ec:bA 1 [0,6] (iq (ag 4)) (gN true 0) (dT (Ht (dt (dt (ag 1) (ag 2)) (ag 0)) (dC (.int 0)))) (aG 0) [.bo (aK T),.bo (.int R),.pu S,.pu (.int (h:Int)),.pu (.int (b:Int)),.om ((KW k).map fun i=>(iE T b R i).map D.int),.pu (.int (k:Int)),.pu (.int x),v8]=some (((KW b).filter fun (j:Nat)=>decide (0<cO T k j)).map fun (j:Nat)=>D.int (j:Int)) :=
   i6 (fun (j:Nat)=>D.int (j:Int)) (BR rfl (by omega)) (fun (j:Nat)=>decide (0<cO T k j)) (fun (j:Nat)=>D.int (j:Int)) fun j hj=>by
    have hj:=Lw.mp hj
    refine ⟨[.pu (.int (j:Int)),.bo (aK T),.pu (.int (k:Int))],rfl,mT (CV (uv w (by omega) hj rfl rfl rfl) rfl),fun _=>rfl⟩
  refine wp_seq (oh rfl ec (by rw [Kw,K7]; omega) ?_)
  dsimp only [K2,KZ]
  have hlen:((KW k).map fun i=>(iE T b R i).map D.int).length=k:=by rw [Kw,K7]
  refine jV (mT (vK rfl rfl)) (fun c=>?_) fun c=>fX ⟨.pu (.int (k:Int)),.pu (.int x),v8,?_⟩
  ·refine yh (n:=(k:Int)) rfl rfl (by rw [K0,hlen]; exact fS (by omega) (by simp; omega)) (by rw [Mu]; exact vF hlen) (j9 rfl rfl) ?_ ⟨.pu (.int (k:Int)),.pu (.int x),v8,?_⟩
   ·have:=NA (fun (j:Nat)=>decide (0<cO T k j)) (KW b)
    rw [K7] at this
    rw [Kw]; omega
   ·dsimp only [K2,KZ]
    rw [Mu,u5 hlen,h9]
    have:(iE T b R k).map D.int=(((KW b).filter fun (j:Nat)=>decide (0<cO T k j)).map fun (j:Nat)=>D.int (j:Int))++[D.int ((b:Int)+(k:Int))]:=by
     unfold iE
     rw [if_pos (by rw [← ex]; exact c),Li,K6]
     rfl
    rw [this]
  ·rw [h9]
   have:(iE T b R k).map D.int=(((KW b).filter fun (j:Nat)=>decide (0<cO T k j)).map fun (j:Nat)=>D.int (j:Int)):=by
    unfold iE
    rw [if_neg (by rw [← ex]; exact c),Mb,K6]
    rfl
   rw [this]
 rintro ρ ⟨v6,v7,v8,rfl⟩
 have hen:(xV ((cH T).map D.int)).length=h:=by unfold xV; rw [OP,Kw,pE,hl]
 rw [hen]
 refine wp_seq (g9 (ds:=xV ((cols T).map D.int)) (CZ (da (s1 _ rfl) rfl)) (fun k ρ=>∃ v6 v7 v8:Sl,ρ=[.bo (aK T),.bo (.int R),.pu S,.pu (.int (h:Int)),.pu (.int (b:Int)),.om (((KW h).map fun i=>(iE T b R i).map D.int)++(KW k).map fun i=>(nW T b R i).map D.int),v6,v7,v8]) ⟨_,_,_,by rw [List.range_zero,NC,Mb]⟩ ?_ ?_)
 ·rintro k d ρ hd ⟨v6,v7,v8,rfl⟩
  obtain ⟨e,he,rfl⟩:=uh hd
  rw [KO] at he
  obtain ⟨x,hx,rfl⟩:=LO.mp he
  obtain ⟨hk,ex⟩:=Dd hx
  rw [hb] at hk
  refine ⟨[.bo (aK T),.bo (.int R),.pu S,.pu (.int (h:Int)),.pu (.int (b:Int)),.om (((KW h).map fun i=>(iE T b R i).map D.int)++(KW k).map fun i=>(nW T b R i).map D.int),v6,.pu (.int x),.pu (.int (k:Int))],rfl,?_⟩
  have ec:bA 1 [4] (iq (ag 3)) (gN true 0) bP (ke (ag 1) (ag 0)) [.bo (aK T),.bo (.int R),.pu S,.pu (.int (h:Int)),.pu (.int (b:Int)),.om (((KW h).map fun i=>(iE T b R i).map D.int)++(KW k).map fun i=>(nW T b R i).map D.int),v6,.pu (.int x),.pu (.int (k:Int))]=some ((KW h).map fun (i:Nat)=>D.int ((b:Int)+(i:Int))) :=
   cG (fun (j:Nat)=>D.int (j:Int)) (BR rfl (by omega)) (fun (i:Nat)=>D.int ((b:Int)+(i:Int))) fun i _=>⟨[.pu (.int (i:Int)),.pu (.int (b:Int))],rfl,j9 rfl rfl⟩
  have hlen:(((KW h).map fun i=>(iE T b R i).map D.int)++(KW k).map fun i=>(nW T b R i).map D.int).length=h+k:=by rw [K0,Kw,K7,Kw,K7]
  refine wp_seq (oh rfl ec (by rw [hlen]; omega) ?_)
  dsimp only [K2,KZ]
  refine jV (mT (vK rfl rfl)) (fun c=>?_) fun c=>fX ⟨v6,.pu (.int x),.pu (.int (k:Int)),?_⟩
  ·have et:(((h:Int)+(k:Int)).toNat)=h+k:=by omega
   refine yh (n:=(h:Int)+(k:Int)) rfl (j9 rfl rfl) (by rw [K0,hlen]; exact fS (by omega) (by simp; omega)) (by rw [et]; exact vF hlen) rfl ?_ ⟨v6,.pu (.int x),.pu (.int (k:Int)),?_⟩
   ·rw [Kw,K7]; omega
   ·dsimp only [K2,KZ]
    rw [et,u5 hlen,h9,Lx]
    have:(nW T b R k).map D.int=((KW h).map fun (i:Nat)=>D.int ((b:Int)+(i:Int)))++[D.int (k:Int)]:=by
     unfold nW
     rw [if_pos (by rw [← ex]; exact c),Li,K6,hl]
     rfl
    rw [this]
  ·rw [h9,Lx]
   have:(nW T b R k).map D.int=(KW h).map fun (i:Nat)=>D.int ((b:Int)+(i:Int)):=by
    unfold nW
    rw [if_neg (by rw [← ex]; exact c),Mb,K6,hl]
    rfl
   rw [this]
 rintro ρ ⟨v6,v7,v8,rfl⟩
 have hen2:(xV ((cols T).map D.int)).length=b:=by unfold xV; rw [OP,Kw,qG,hb]
 rw [hen2]
 refine wy ?_
 dsimp only [jr,PF,OF,K2,KZ]
 refine bW rfl ?_
 unfold aK pM
 rw [hl,Li,Li,K6,K6,K6,K6]
 rfl
def kr (p:Int×Int):D:=ft [p.1,p.2]
def qT (P:jP):D:=.lst (P.map kr)
theorem zQ (Q:jP):∃ P:jP,P.Perm Q∧gS (Q.map fun p=>[p.1,p.2])=P.map fun p=>[p.1,p.2]:=by
 have pm:=eF (Q.map fun p=>[p.1,p.2])
 refine ⟨(gS (Q.map fun p=>[p.1,p.2])).map fun z=>(z.getD 0 0,z.getD 1 0),?_,?_⟩
 ·have:=pm.map fun z=>(z.getD 0 0,z.getD 1 0)
  rw [K6] at this
  have e:Q.map ((fun z:List Int=>(z.getD 0 0,z.getD 1 0))∘fun p:Int×Int=>[p.1,p.2])=Q:=by
   conv=>rhs; rw [← Qg Q]
   exact LH fun p _=>rfl
  rw [e] at this
  exact this
 ·rw [K6]
  conv=>lhs; rw [← Qg (gS _)]
  refine LH fun z hz=>?_
  obtain ⟨p,_,rfl⟩:=K5.mp (pm.mem_iff.mp hz)
  rfl
theorem FW {T:Mx} {b:Nat} (w:Wd T h b) (hb:dY T=b) (h0:0<h) (h6:h≤6) (b6:b≤6) {X:Tk} (eX:d0 (qU h b (cO T) R) 14 (bE (h+b)) []=some X) (m:Match h b (cO T) R X) :
 ∃ P:jP,bR [aK T,.int R]=some (qT P)∧P.Perm (jE h b X):=by
 have hline:KH=16777216:=Lv
 have hl:=w.len
 have e1:=GU (R:=R) w hb h6 b6
 have e2:bb [aK (pM T b R)]=some (.dct X):=yb (El w h6 b6) (by rw [pN w,vj,hl]; exact eX)
 obtain ⟨P,pm,es⟩:=zQ (jE h b X)
 refine ⟨P,?_,pm⟩
 refine cU fV ?_
 rw [nU]
 unfold en
 refine wp_seq (bY (cA (aE (cA (aE rfl (aE rfl rfl)) e1) rfl) e2) ?_)
 dsimp only [K2,KZ]
 have er:(T.getD 0 []).length=b:=w.row h0
 refine wp_seq (bY (d:=.int (b:Int)) (d8 (cm rfl rfl (by have:=Jf (tD (T:=T) (i:=0) (by omega)); exact this)) (by rw [kU,er])) ?_)
 dsimp only [K2,KZ]
 have ec:bA 1 [2,0] (iq (ag 3)) (gN true 0) (dT (AV (lD (ag 1) (ag 0)) (gz gM (ag 2)))) (cc (ax (lD (ag 1) (ag 0)) (ax (aG 0) bK))) [.bo (aK T),.bo (.int R),.pu (.dct X),.pu (.int (b:Int)),.un]=some (((KW b).filter fun (j:Nat)=>decide (uO X j<h)).map fun (j:Nat)=>kr (uO X j,(j:Int))) :=
  i6 (fun (j:Nat)=>D.int (j:Int)) (BR rfl (by omega)) (fun (j:Nat)=>decide (uO X j<h)) (fun (j:Nat)=>kr (uO X j,(j:Int))) fun j hj=>by
   have hj:=Lw.mp hj
   obtain ⟨u,hu,_⟩:=m.own (j:Int) (aq.mpr ⟨by omega,by omega⟩)
   have eu:uO X j=u:=by unfold uO; rw [hu]; rfl
   rw [eu]
   have eg:∀ ρ:aF,ag 1 ρ=some (.dct X)→ag 0 ρ=some (.int (j:Int))→lD (ag 1) (ag 0) ρ=some (.int u):=fun ρ h1 h2=>EL h1 h2 hu
   refine ⟨[.pu (.int (j:Int)),.pu (.dct X),.bo (aK T)],rfl,mT (vK (eg _ rfl rfl) (d8 rfl ?_)),fun _=>bJ (aE (eg _ rfl rfl) (aE rfl rfl))⟩
   show some (D.int ((T.map fun r=>D.lst (r.map D.int)).length:Nat))=_
   rw [Kw,hl]
 refine wp_seq (bY (bJ ec) ?_)
 dsimp only [K2,KZ]
 have ez:(((KW b).filter fun (j:Nat)=>decide (uO X j<h)).map fun (j:Nat)=>kr (uO X j,(j:Int)))=((jE h b X).map fun p=>[p.1,p.2]).map ft:=by
  unfold jE
  rw [K6,K6]
  rfl
 rw [ez]
 have ln:(jE h b X).length≤b:=by
  have:=NA (fun (j:Nat)=>decide (uO X j<h)) (KW b)
  rw [K7] at this
  unfold jE
  rw [Kw]
  exact this
 refine bW (bJ (vO (da rfl rfl) (by rw [Kw]; omega))) ?_
 rw [es,K6]
 rfl
theorem zd {α:Type} (ha:a ρ=some (.lst (xs.map D.int))):DJ a ρ=some ((KW xs.length).map fun (i:Nat)=>D.tup [.int (i:Int),.int (xs.getD i 0)]):=by
 rw [CZ (da ha rfl)]
 congr 1
 unfold xV
 refine MN (by rw [OP,Kw,Kw,K7]) fun k h1 h2=>?_
 rw [Kw,K7] at h2
 rw [List.getElem_mapIdx,OB,OB,OS,Ku,Kv h2]
 rfl
theorem longest {T:Mx} {b:Nat} (w:Wd T h b) (hb:dY T=b) (h0:0<h) (h6:h≤6) (b6:b≤6) {X:Tk} (m:Match h b (cO T) R X) {P:jP} (pm:P.Perm (jE h b X)) :
 ∃ M:Int,bB [aK T,.int R,qT P]=some (.int M)∧uD h b (cO T) R X M:=by
 have hline:KH=16777216:=Lv
 have hl:=w.len
 have e1:=Cr (T:=T) (fun r hr=>by rw [hb]; exact w.DC r hr) (by omega)
 have DF:Jk h b P:=fun p hp=>by
  have:=(iN m p.1 p.2).mp (pm.mem_iff.mp hp)
  exact ⟨this.2.1,this.1⟩
 have lP:P.length≤6:=by
  have:=pm.length_eq
  have:=NA (fun (j:Nat)=>decide (uO X j<h)) (KW b)
  rw [K7] at this
  unfold jE at *
  rw [Kw] at *
  omega
 obtain ⟨x,r,eB⟩:∃ x r,vX h b (cO T) R P=x::r:=by
  cases e:vX h b (cO T) R P with
  | nil=>exact absurd e (EY h0)
  | cons x r=>exact ⟨x,r,rfl⟩
 refine ⟨xC x r,?_,Er m pm (by rw [eB]; exact (gX r x).1) fun y hy=>(gX r x).2 y (by rw [← eB]; exact hy)⟩
 refine cU fF ?_
 rw [mj]
 unfold dO
 refine wp_seq (bY (cA (aE rfl rfl) e1) ?_)
 dsimp only [K2,KZ]
 generalize hS:D.tup [.lst ((cH T).map D.int),.lst ((cols T).map D.int)]=S
 have s0:∀ ρ:aF,aG 3 ρ=some S→dt (aG 3) (dC (.int 0)) ρ=some (.lst ((cH T).map D.int)):=fun ρ h=>cm h rfl (by rw [← hS]; rfl)
 have s1:∀ ρ:aF,aG 3 ρ=some S→dt (aG 3) (dC (.int 1)) ρ=some (.lst ((cols T).map D.int)):=fun ρ h=>cm h rfl (by rw [← hS]; rfl)
 have hw:∀ ρ:aF,ag 2 ρ=some (qT P)→iG (ag 2) ρ=some (P.map kr):=fun ρ h=>da h rfl
 refine wp_seq (bY (d:=.lst ((P.map (·.1)).map D.int)) (bJ ?_) ?_)
 ·rw [cG kr (hw _ rfl) (fun p=>D.int p.1) fun p _=>⟨[.bo (kr p)],rfl,lh (cm rfl rfl rfl) rfl⟩,K6]
  rfl
 dsimp only [K2,KZ]
 refine wp_seq (bY (d:=.lst ((P.map (·.2)).map D.int)) (bJ ?_) ?_)
 ·rw [cG kr (hw _ rfl) (fun p=>D.int p.2) fun p _=>⟨[.bo (kr p)],rfl,lh (cm rfl rfl rfl) rfl⟩,K6]
  rfl
 dsimp only [K2,KZ]
 refine wp_seq (g8 (ds:=(P.map fun p=>cO T p.1 p.2).map D.int) ?_ (by show 6<7; decide) ?_)
 ·rw [cG kr (hw _ rfl) (fun p=>D.int (cO T p.1 p.2)) fun p hp=>⟨[.bo (kr p),.bo (aK T)],rfl,lh ?_ rfl⟩,K6]
  ·rfl
  ·obtain ⟨p1,p2⟩:=DF p hp
   have p1:=aq.mp p1
   have p2:=aq.mp p2
   have a1:((p.1.toNat:Nat):Int)=p.1:=by omega
   have a2:((p.2.toNat:Nat):Int)=p.2:=by omega
   have:=uv w (i:=p.1.toNat) (j:=p.2.toNat) (by omega) (by omega) (ρ:=[.bo (kr p),.bo (aK T)]) (x:=ag 1) (y:=dt (ag 0) (dC (.int 0))) (z:=dt (ag 0) (dC (.int 1))) rfl (by rw [a1]; exact cm rfl rfl rfl) (by rw [a2]; exact cm rfl rfl rfl)
   rw [a1,a2] at this
   exact this
 dsimp only [K2,KZ]
 have lb:∀ (n:Nat) (p:Nat→Bool) (f:Nat→Int),n≤6→(((KW n).filter p).map fun i=>D.int (f i)).length≤6:=fun n p f hn=>by
  have:=NA p (KW n)
  rw [K7] at this
  rw [Kw]; omega
 refine wp_seq (wA rfl (es:=((KW h).filter fun (i:Nat)=>!decide ((i:Int)∈P.map (·.1))).map fun (i:Nat)=>D.int (R-dn b (cO T) (i:Int))) (bJ ?_) ?_ ?_)
 ·rw [i6 (fun (i:Nat)=>D.tup [.int (i:Int),.int ((cH T).getD i 0)]) (by rw [zd (α:=Nat) (s0 _ rfl),pE,hl]) (fun (i:Nat)=>!decide ((i:Int)∈P.map (·.1))) (fun (i:Nat)=>D.int (R-dn b (cO T) (i:Int))) fun i hi=>?_]
  have hi:=Lw.mp hi
  refine ⟨[.pu (.int (i:Int)),.pu (.int ((cH T).getD i 0)),.pu (.lst ((P.map (·.1)).map D.int)),.bo (.int R)],rfl,mT (CU (neg:=true) rfl rfl),fun _=>?_⟩
  have:(cH T).getD i 0=dn b (cO T) (i:Int):=by
   rw [kK w hi]
   unfold cH
   rw [Ku,KO,Kv (by omega),Ku,Kv (by omega)]
   rfl
  rw [this]
  exact uc rfl rfl
 ·have:=lb h (fun (i:Nat)=>!decide ((i:Int)∈P.map (·.1))) (fun i=>R-dn b (cO T) (i:Int)) h6
  rw [Kw,Kw]; omega
 dsimp only [K2,KZ]
 refine wp_seq (wA rfl (es:=((KW b).filter fun (j:Nat)=>!decide ((j:Int)∈P.map (·.2))).map fun (j:Nat)=>D.int (R-dX h (cO T) (j:Int))) (bJ ?_) ?_ ?_)
 ·rw [i6 (fun (i:Nat)=>D.tup [.int (i:Int),.int ((cols T).getD i 0)]) (by rw [zd (α:=Nat) (s1 _ rfl),qG,hb]) (fun (i:Nat)=>!decide ((i:Int)∈P.map (·.2))) (fun (i:Nat)=>D.int (R-dX h (cO T) (i:Int))) fun i hi=>?_]
  have hi:=Lw.mp hi
  refine ⟨[.pu (.int (i:Int)),.pu (.int ((cols T).getD i 0)),.pu (.lst ((P.map (·.2)).map D.int)),.bo (.int R)],rfl,mT (CU (neg:=true) rfl rfl),fun _=>?_⟩
  have:(cols T).getD i 0=dX h (cO T) (i:Int):=by
   rw [lF w i]
   unfold cols
   rw [Ku,KO,M8 (by omega)]
   rfl
  rw [this]
  exact uc rfl rfl
 ·have h1:=lb h (fun (i:Nat)=>!decide ((i:Int)∈P.map (·.1))) (fun i=>R-dn b (cO T) (i:Int)) h6
  have h2:=lb b (fun (i:Nat)=>!decide ((i:Int)∈P.map (·.2))) (fun i=>R-dX h (cO T) (i:Int)) b6
  rw [K0,Kw,Kw]; omega
 dsimp only [K2,KZ]
 refine bW (d8 (e:=.int (xC x r)) rfl ?_) rfl
 have:(P.map fun p=>cO T p.1 p.2).map D.int++((KW h).filter fun (i:Nat)=>!decide ((i:Int)∈P.map (·.1))).map (fun (i:Nat)=>D.int (R-dn b (cO T) (i:Int)))++((KW b).filter fun (j:Nat)=>!decide ((j:Int)∈P.map (·.2))).map (fun (j:Nat)=>D.int (R-dX h (cO T) (j:Int)))=(x::r).map D.int:=by
  rw [← eB]
  unfold vX
  rw [Li,Li,K6 (l:=List.filter _ _),K6 (l:=List.filter _ _)]
  rfl
 rw [this]
 exact ig _ (x::r)
theorem AM (ns:List Int):kZ (ns.map D.int)=true:=by unfold kZ; rw [Sh]; exact Ml.mpr fun _ _=>rfl
def uG (T:Mx):List (List D):=T.map fun r=>r.map D.int
theorem Cg (T:Mx):D.lst ((uG T).map D.lst)=aK T:=by
 unfold uG aK
 rw [K6]
 rfl
theorem yS {T:Mx} {i:Nat} (h:i<T.length):(uG T)[i]?=some ((T.getD i []).map D.int):=by
 unfold uG
 rw [KO,Kv h,Ku,Kv h]
 rfl
theorem Cf (T:Mx) (i j:Nat) (v:Int):(uG T).set i (((T.getD i []).map D.int).set j (.int v))=uG (wH T i j v):=by
 unfold uG wH
 rw [QV,QV]
theorem yR (T:Mx):(uG T).length=T.length:=Kw ..
theorem sF (g:Int):∀ (P:jP) (T:Mx) (p:Int×Int),jc g T (P++[p])=wH (jc g T P) p.1.toNat p.2.toNat (cO (jc g T P) p.1 p.2+g)
 | [],T,p=>rfl
 | q::P,T,p=>sF g P _ p
theorem take_snoc {l:List α} {k:Nat} {x:α} (h:l[k]?=some x):l.take (k+1)=l.take k++[x]:=by
 rw [Qf,h]
 rfl
def GF (q:Int×jP):D:=.lst [.int q.1,qT q.2]
theorem FV {T:Mx} {b:Nat} (w:Wd T h b) (h0:0<h):dY T=b:=by
 cases T with
 | nil=>have:=w.len; simp at this; omega
 | cons a r=>exact w.DC a Ky
theorem Hw (T:Mx) (h1:0≤p.1) (h2:0≤p.2):cO T p.1 p.2=(T.getD p.1.toNat []).getD p.2.toNat 0:=by
 unfold cO
 rw [if_pos ⟨h1,h2⟩]
structure ya (T0:Mx) (h b:Nat) (top:Int) (T:Mx) (R:Int) (tl:km):Prop where
 w:Wd T h b
 f:Fits h b (cO T) R
 r0:0≤R
 nz:0<R→0<h
 ok:∀ q∈tl,fW h b q
 sum:(tl.map (·.1)).sum+R=top
 cells:∀ i j:Nat,i<h→j<b→gQ i j tl+cO T i j=cO T0 i j
 EH:loose h b (cO T) R+tl.length≤h*b+h+b
theorem ya.next {T0:Mx} {b:Nat} {top:Int} {T:Mx} {tl:km} (v:ya T0 h b top T R tl) (hR:0<R) {X:Tk} (m:Match h b (cO T) R X) (g:uD h b (cO T) R X H) {P:jP} (pm:P.Perm (jE h b X)) :
 ya T0 h b top (jc (-H) T P) (R-H) (tl++[(H,P)])∧loose h b (cO (jc (-H) T P)) (R-H)<loose h b (cO T) R:=by
 have k:=xo m g pm
 obtain ⟨w1,e1⟩:=oQ (g:=-H) v.w k.DF k.nd
 have e2:=AY v.w m g pm
 have f1:=xp v.f m g
 have l1:=vf m g
 rw [← e2] at f1 l1
 have h0:=v.nz hR
 refine ⟨⟨w1,f1,?_,fun _=>h0,?_,?_,fun i j hi hj=>?_,?_⟩,l1⟩
 ·have r:=f1.row 0 (aq.mpr ⟨Mh _,by omega⟩)
  have:0≤dn b (cO (jc (-H) T P)) 0:=dQ fun j _=>f1.pos 0 j
  omega
 ·intro q hq
  rcases KS.mp hq with z | z
  ·exact v.ok q z
  ·rw [Kz.mp z]; exact k
 ·have:=v.sum
  rw [Li,Pw]
  simp only [Ld,NC,Oe,List.sum_nil]
  omega
 ·have:=v.cells i j hi hj
  rw [By,e1 i j]
  dsimp only
  split <;> omega
 ·have:=v.EH
  rw [K0,Me]
  omega
theorem ya.first {T0:Mx} (t:Tab T0 m):ya T0 T0.length (dY T0) (dP T0) T0 (dP T0) []:=by
 have hw:=t.w
 have w:Wd T0 T0.length (dY T0):=⟨rfl,hw⟩
 have le:∀ x∈cH T0++cols T0,x≤dP T0:=fun x hx=>(aQ (cH T0++cols T0) 0).2 x (Kx _ hx)
 refine ⟨w,⟨fun i j=>?_,fun i hi=>?_,fun j hj=>?_⟩,(aQ (cH T0++cols T0) 0).2 0 Ky,fun z=>?_,fun q hq=>(by cases hq),?_,fun i j _ _=>?_,?_⟩
 ·by_cases c:i∈bE T0.length∧j∈bE (dY T0)
  ·have ci:=aq.mp c.1
   have cj:=aq.mp c.2
   have:=w.row (i:=i.toNat) (by omega)
   unfold cO
   rw [if_pos ⟨ci.1,cj.1⟩]
   refine t.nn _ (mM (T:=T0) (i:=i.toNat) (by omega)) _ ?_
   generalize hr:T0.getD i.toNat []=r at *
   rw [Ku,Kv (show j.toNat<r.length by omega)]
   exact Nd _
  ·rw [w.out c]; exact Mh _
 ·have hi:=aq.mp hi
  have e:((i.toNat:Nat):Int)=i:=by omega
  have:=kK w (i:=i.toNat) (by omega)
  rw [e] at this
  rw [this]
  exact le _ (K3 _ (K5.mpr ⟨_,mM (by omega),rfl⟩))
 ·have hj:=aq.mp hj
  have e:((j.toNat:Nat):Int)=j:=by omega
  have:=lF w j.toNat
  rw [e] at this
  rw [this]
  exact le _ (KA _ (K5.mpr ⟨j.toNat,Lw.mpr (by omega),rfl⟩))
 ·cases T0 with
  | nil=>exact absurd z (by decide)
  | cons a r=>exact Nat.succ_pos _
 ·show 0+dP T0=_; omega
 ·show 0+_=_; omega
 ·have:=Cq T0.length (dY T0) (cO T0) (dP T0)
  show _+((0:Nat):Int)≤_
  omega
theorem zJ {b:Nat} {T:Mx} {P:jP} (w:Wd T h b) (DF:Jk h b P) (nd:P.Nodup) {k:Nat} (hk:P[k]?=some p) :
 Wd (jc H T (P.take k)) h b∧p.1∈bE h∧p.2∈bE b:=by
 have hp:=DF p (LI hk)
 refine ⟨(oQ (g:=H) w (fun q hq=>DF q (L5 hq)) (nd.sublist (Sg _ _))).1,hp⟩
theorem GD {T0:Mx} (t:Tab T0 m):∃ tl:km,d9 [aK T0]=some (.lst (tl.map GF))∧(∀ q∈tl,fW T0.length (dY T0) q)∧tl.length≤48∧(tl.map (·.1)).sum=dP T0∧∀ i j:Nat,i<T0.length→j<dY T0→gQ i j tl=cO T0 i j:=by
  have hline:KH=16777216:=Lv
  have hw:=t.w
  have b6:=t.w6
  have h6:=t.len
  generalize hh:T0.length=h
  generalize hb:dY T0=b
  rw [hh] at h6
  rw [hb] at b6
  have hb48:(h:Int)*b+h+b≤48:=by
    have:(h:Int)*b≤6*6:=Te (by omega) (by omega) (by omega) (by omega)
    omega
  have v0:=ya.first t
  rw [hh,hb] at v0
  have e1:=B7 hw (by omega) (by omega) t.nn
  obtain ⟨d,e,tl,rfl,h1,h2,h3,h4⟩:=kJ lK (ds:=[aK T0]) (P:=fun d=>∃ tl:km,d=.lst (tl.map GF)∧(∀ q∈tl,fW h b q)∧tl.length≤48∧(tl.map (·.1)).sum=dP T0∧∀ i j:Nat,i<h→j<b→gQ i j tl=cO T0 i j) (by
    rw [zL]
    unfold lR
    refine wp_seq (og (rows:=uG T0) (r8 (fun r=>D.lst (r.map D.int)) (da rfl rfl) (fun (r:List Int)=>r.map D.int) fun r _=>⟨[.bo (.lst (r.map D.int))],rfl,uf (ue rfl rfl) (AM r)⟩) (by show 1<8; decide) ?_)
    dsimp only [K2,KZ]
    refine wp_seq (bY (cA (aE rfl rfl) e1) ?_)
    dsimp only [K2,KZ]
    refine wp_seq (g8 (ds:=[]) rfl (by show 3<8; decide) ?_)
    dsimp only [K2,KZ]
    refine wp_seq (Bl (fun n ρ=>∃ (T:Mx) (R:Int) (tl:km) (v4 v5 v6 v7:Sl),ya T0 h b (dP T0) T R tl∧n=(loose h b (cO T) R).toNat∧ρ=[.bo (aK T0),.om (uG T),.pu (.int R),.ol (tl.map GF),v4,v5,v6,v7]) _ ⟨T0,dP T0,[],_,_,_,_,v0,rfl,rfl⟩ ?_)
    rintro n ρ ⟨T,R,tl,v4,v5,v6,v7,v,hn,rfl⟩
    refine ⟨decide (0<R),mT (CV rfl rfl),fun x=>?_,fun x=>?_⟩
    · have hR:0<R:=of_decide_eq_true x
      have h0:=v.nz hR
      have w:=v.w
      have hl:=w.len
      have hwd:=FV w h0
      obtain ⟨X,eX,m⟩:=matched v.f hR (n:=14) (by omega)
      obtain ⟨P,eP,pm⟩:=FW w hwd h0 h6 b6 eX m
      obtain ⟨H,eH,g⟩:=longest w hwd h0 h6 b6 m pm
      have k:=xo m g pm
      obtain ⟨v',lf⟩:=v.next hR m g pm
      have eT:∀ (a b c d e f:Sl),ag 1 [.bo (aK T0),.om (uG T),a,b,c,d,e,f]=some (aK T):=fun a b c d e f=>congrArg some (Cg T)
      refine wp_seq (bY (cA (aE (eT ..) (aE rfl rfl)) eP) ?_)
      dsimp only [K2,KZ]
      refine wp_seq (bY (cA (aE (eT ..) (aE rfl (aE rfl rfl))) eH) ?_)
      dsimp only [K2,KZ]
      refine wp_seq (g9 (ds:=P.map kr) (da rfl rfl) (fun j ρ=>∃ v6 v7:Sl,ρ=[.bo (aK T0),.om (uG (jc (-H) T (P.take j))),.pu (.int R),.ol (tl.map GF),.pu (qT P),.pu (.int H),v6,v7]) ⟨_,_,rfl⟩ ?_ ?_)
      · rintro j d ρ hd ⟨v6,v7,rfl⟩
        rw [KO] at hd
        obtain ⟨p,hp,rfl⟩:=LO.mp hd
        obtain ⟨w2,p1,p2⟩:=zJ (P:=P) (H:=-H) w k.DF k.nd hp
        have p1:=aq.mp p1
        have p2:=aq.mp p2
        have hl2:=w2.len
        have hr2:=w2.row (i:=p.1.toNat) (by omega)
        refine ⟨[.bo (aK T0),.om (uG (jc (-H) T (P.take j))),.pu (.int R),.ol (tl.map GF),.pu (qT P),.pu (.int H),.pu (.int p.1),.pu (.int p.2)],rfl,?_⟩
        refine DN rfl rfl (fS p1.1 (by rw [yR]; omega)) (yS (by omega)) rfl (fS p2.1 (by rw [Kw]; omega)) (x:=cO (jc (-H) T (P.take j)) p.1 p.2) ?_ rfl ⟨.pu (.int p.1),.pu (.int p.2),?_⟩
        · rw [KO,Kv (by omega),Hw _ p1.1 p2.1,Ku (l:=List.getD _ _ _),Kv (by omega)]
          rfl
        · dsimp only [K2,KZ]
          rw [Cf,take_snoc hp,sF]
          rfl
      · rintro ρ ⟨v6,v7,rfl⟩
        rw [Kw,OC]
        refine wp_seq (Bn rfl rfl ?_)
        dsimp only [K2,KZ]
        have:=v.EH
        have:=pX h b (cO T) R
        have:=pX h b (cO (jc (-H) T P)) (R-H)
        refine wB rfl (bJ (aE rfl (aE rfl rfl))) (by rw [Kw]; omega) ?_
        refine ⟨_,?_,_,_,tl++[(H,P)],.pu (qT P),.pu (.int H),v6,v7,v',rfl,?_⟩
        · rw [hn]; omega
        · dsimp only [K2,KZ]
          rw [Li]
          rfl
    · have hR:¬ 0<R:=of_decide_eq_false x
      have r0:=v.r0
      have eR:R=0:=by omega
      subst eR
      refine wy ?_
      dsimp only [jr,PF,OF,K2,KZ]
      have:=v.EH
      have:=pX h b (cO T) 0
      have hs:=v.sum
      refine bW rfl ⟨tl,rfl,v.ok,by omega,by omega,fun i j hi hj=>?_⟩
      have c:=v.cells i j hi hj
      have:=Aj v.f (i:=(i:Int)) (j:=(j:Int)) (aq.mpr ⟨by omega,by omega⟩) (aq.mpr ⟨by omega,by omega⟩)
      omega)
  exact ⟨tl,e,h1,h2,h3,h4⟩
abbrev R4:=Int×Int×Int×Int
namespace R4
abbrev b (r:R4):Int:=r.1
abbrev w (r:R4):Int:=r.2.1
abbrev s (r:R4):Int:=r.2.2.1
abbrev e (r:R4):Int:=r.2.2.2
end R4
def Dj (x y:R4):Prop:=x.b=y.b→x.e≤y.s∨y.e≤x.s
structure Ap (rs:List R4):Prop where
 pos:∀ r∈rs,r.s<r.e
 dj:rs.Pairwise Dj
def Nx (x y:R4):Prop:=y.b=x.b∧y.w=x.w∧y.s=x.e
instance (x y:R4):Decidable (Nx x y):=by unfold Nx; infer_instance
def Dz (x y:R4):Prop:=x.b<y.b∨(x.b=y.b∧(x.w<y.w∨(x.w=y.w∧(x.s<y.s∨(x.s=y.s∧x.e≤y.e)))))
theorem Dj.symm {x y:R4} (h:Dj x y):Dj y x:=fun q=>(h q.symm).symm
theorem Ap.perm {rs ss:List R4} (h:Ap rs) (p:ss.Perm rs):Ap ss:=⟨fun r hr=>h.pos r (p.mem_iff.mp hr),(p.pairwise_iff fun h=>Dj.symm h).mpr h.dj⟩
theorem BX {α:Type} {R:α→α→Prop} (sy:∀ x y,R x y→R y x):∀ {l:List α},l.Pairwise R→∀ {x y:α},x∈l→y∈l→x=y∨R x y
 | a::l,h,x,y,hx,hy=>by
  obtain ⟨h1,h2⟩:=Mz.mp h
  rcases KP.mp hx with ex | hx <;> rcases KP.mp hy with ey | hy
  ·exact .inl (ex.trans ey.symm)
  ·exact .inr (ex ▸ h1 y hy)
  ·exact .inr (ey ▸ sy _ _ (h1 x hx))
  ·exact BX sy h2 hx hy
theorem Ap.two {rs:List R4} (h:Ap rs) {x y:R4} (hx:x∈rs) (hy:y∈rs) (eb:x.b=y.b) (es:x.s=y.s):x=y:=by
 have h1:=h.pos x hx
 have h2:=h.pos y hy
 rcases BX (fun _ _ q=>Dj.symm q) h.dj hx hy with q | q
 ·exact q
 ·rcases q eb with q | q <;> omega
inductive Fi (rs:List R4):R4→Int→Prop
 | stop {x:R4}:(∀ q∈rs,¬ Nx x q)→Fi rs x x.e
 | step {x q:R4} {E:Int}:q∈rs→Nx x q→Fi rs q E→Fi rs x E
theorem Fi.uniq {rs:List R4} (h:Ap rs) {x:R4} {F:Int} (a:Fi rs x E) (c:Fi rs x F):E=F:=by
 induction a with
 | stop h0 =>
  cases c with
  | stop=>rfl
  | step hq hn _=>exact absurd hn (h0 _ hq)
 | step hq hn _ ih =>
  cases c with
  | stop h0=>exact absurd hn (h0 _ hq)
  | step hq' hn' c' =>
   have:=h.two hq hq' (by have:=hn.1; have:=hn'.1; omega) (by have:=hn.2.2; have:=hn'.2.2; omega)
   subst this
   exact ih c'
theorem Fi.perm {rs ss:List R4} (p:rs.Perm ss) {x:R4} (a:Fi rs x E):Fi ss x E:=by
 induction a with
 | stop h0=>exact .stop fun q hq=>h0 q (p.mem_iff.mpr hq)
 | step hq hn _ ih=>exact .step (p.mem_iff.mp hq) hn ih
def Bg (rs:List R4) (x:R4):Prop:=∀ q∈rs,¬ Nx q x
instance (rs:List R4) (x:R4):Decidable (Bg rs x):=by unfold Bg; infer_instance
def bg (rs:List R4) (x:R4):Bool:=decide (Bg rs x)
open Classical in
noncomputable def fin (rs:List R4) (x:R4):Int:=if h:∃ E,Fi rs x E then h.choose else 0
theorem qj {rs:List R4} (h:Ap rs) {x:R4} (a:Fi rs x E):fin rs x=E:=by
 have hh:∃ E,Fi rs x E:=⟨E,a⟩
 unfold fin
 rw [dif_pos hh]
 exact Fi.uniq h hh.choose_spec a
def iD (x:R4) (E:Int):R4:=(x.b,x.w,x.s,E)
def ik:List R4→List R4
 | []=>[]
 | x::xs=>match ik xs with
  | []=>[x]
  | y::ys=>if Nx x y then iD x y.e::ys else x::y::ys
theorem vE (x:R4) (xs:List R4):∃ E ys,ik (x::xs)=iD x E::ys:=by
 show ∃ E ys,(match ik xs with | []=>[x] | y::ys=>if Nx x y then iD x y.e::ys else x::y::ys)=_
 split
 ·exact ⟨x.e,[],rfl⟩
 ·rename_i y ys _
  split
  ·exact ⟨_,_,rfl⟩
  ·exact ⟨x.e,_,rfl⟩
def Fz (x:R4):List R4→List R4
 | []=>[x]
 | y::ys=>if Nx x y then Fz (iD x y.e) ys else x::Fz y ys
theorem Hg (x y:R4) (h:Nx x y) (T:List R4):ik (iD x y.e::T)=ik (x::y::T):=by
 have e1:ik (x::y::T)=match ik (y::T) with | []=>[x] | z::ys=>if Nx x z then iD x z.e::ys else x::z::ys:=rfl
 have e2:ik (y::T)=match ik T with | []=>[y] | z::ys=>if Nx y z then iD y z.e::ys else y::z::ys:=rfl
 have e3:ik (iD x y.e::T)=match ik T with | []=>[iD x y.e] | z::ys=>if Nx (iD x y.e) z then iD (iD x y.e) z.e::ys else iD x y.e::z::ys:=rfl
 rw [e3,e1,e2]
 cases ik T with
 | nil=>exact (if_pos h).symm
 | cons z ys =>
  by_cases c:Nx y z
  ·have c':Nx (iD x y.e) z:=⟨c.1.trans h.1,c.2.1.trans h.2.1,c.2.2⟩
   simp only []
   rw [if_pos c,if_pos c']
   exact (if_pos (show Nx x (iD y z.e) from h)).symm
  ·have c':¬ Nx (iD x y.e) z:=fun q=>c ⟨q.1.trans h.1.symm,q.2.1.trans h.2.1.symm,q.2.2⟩
   simp only []
   rw [if_neg c,if_neg c']
   exact (if_pos h).symm
theorem tS:∀ (T:List R4) (x:R4),Fz x T=ik (x::T)
 | [],x=>rfl
 | y::T,x=>by
  by_cases h:Nx x y
  ·rw [Fz,if_pos h,tS T,Hg x y h]
  ·rw [Fz,if_neg h,tS T]
   obtain ⟨E,ys,e⟩:=vE y T
   show _=match ik (y::T) with | []=>[x] | z::ys=>if Nx x z then iD x z.e::ys else x::z::ys
   rw [e]
   exact (if_neg (show ¬ Nx x (iD y E) from h)).symm
theorem xN {S:List R4} (ap:Ap S) (so:S.Pairwise Dz):∀ (T P:List R4) (x:R4),S=P++x::T→Fi S x (fin S x)∧ik (x::T)=iD x (fin S x)::(T.filter (bg S)).map fun r=>iD r (fin S r)
 | [],P,x,e=>by
  have st:∀ q∈S,¬ Nx x q:=fun q hq hn=>by
   have hx:x∈S:=by rw [e]; simp
   have p1:=ap.pos x hx
   rw [e] at hq so
   have hq':q∈P∨q=x:=by simpa using hq
   rcases hq' with hq' | hq'
   ·have:=(K8.mp so).2.2 q hq' x (by simp)
    unfold Dz at this; obtain ⟨n1,n2,n3⟩:=hn; omega
   ·subst hq'; have:=hn.2.2; omega
  have f:=Fi.stop st
  rw [qj ap f]
  exact ⟨f,rfl⟩
 | y::T,P,x,e=>by
  obtain ⟨fy,ih⟩:=xN ap so T (P++[x]) y (by rw [e]; simp)
  have hx:x∈S:=by rw [e]; simp
  have hy:y∈S:=by rw [e]; simp
  have px:=ap.pos x hx
  have py:=ap.pos y hy
  have so':=so
  rw [e] at so'
  obtain ⟨soP,soT,soPT⟩:=K8.mp so'
  obtain ⟨sx,sT⟩:=Mz.mp soT
  obtain ⟨sy,_⟩:=Mz.mp sT
  have mem:∀ q∈S,q∈P∨q=x∨q=y∨q∈T:=fun q hq=>by rw [e] at hq; simpa using hq
  have djxy:Dj x y:=by
   have:=ap.dj
   rw [e] at this
   exact (Mz.mp (K8.mp this).2.1).1 y (by simp)
  have xy:=sx y (by simp)
  have nxt:∀ q∈S,Nx x q→q=y:=fun q hq hn=>by
   have pq:=ap.pos q hq
   obtain ⟨n1,n2,n3⟩:=hn
   rcases mem q hq with h | h | h | h
   ·have:=soPT q h x (by simp)
    unfold Dz at this; omega
   ·subst h; omega
   ·exact h
   ·have yq:=sy q h
    unfold Dz at xy yq
    have eb:x.b=y.b:=by omega
    refine ap.two hq hy (by omega) ?_
    rcases djxy eb with d | d <;> omega
  have prv:∀ q∈S,Nx q y→q=x:=fun q hq hn=>by
   have pq:=ap.pos q hq
   obtain ⟨n1,n2,n3⟩:=hn
   rcases mem q hq with h | h | h | h
   ·have qx:=soPT q h x (by simp)
    unfold Dz at xy qx
    have eb:q.b=x.b:=by omega
    rcases BX (fun _ _ q=>Dj.symm q) ap.dj hq hx with z | z
    ·exact z
    ·rcases z eb with d | d
     ·rcases djxy (by omega) with d2 | d2 <;> omega
     ·omega
   ·exact h
   ·subst h; omega
   ·have:=sy q h
    unfold Dz at this; omega
  have eg:ik (x::y::T)=if Nx x y then iD x (fin S y)::(T.filter (bg S)).map (fun r=>iD r (fin S r)) else x::iD y (fin S y)::(T.filter (bg S)).map fun r=>iD r (fin S r):=by
   show (match ik (y::T) with | []=>[x] | z::ys=>if Nx x z then iD x z.e::ys else x::z::ys)=_
   rw [ih]; rfl
  rw [eg]
  by_cases h:Nx x y
  ·have fx:Fi S x (fin S y):=.step hy h fy
   rw [if_pos h,qj ap fx,NT]
   ·exact ⟨fx,rfl⟩
   ·unfold bg; rw [decide_eq_true_iff]; exact fun z=>z x hx h
  ·have fx:Fi S x x.e:=.stop fun q hq hn=>h (nxt q hq hn ▸ hn)
   rw [if_neg h,qj ap fx,Nl]
   ·exact ⟨fx,rfl⟩
   ·unfold bg; rw [decide_eq_true_iff]; exact fun q hq hn=>h (prv q hq hn ▸ hn)
theorem EA {S:List R4} (ap:Ap S) (so:S.Pairwise Dz):ik S=(S.filter (bg S)).map fun r=>iD r (fin S r):=by
 cases S with
 | nil=>rfl
 | cons x T =>
  obtain ⟨_,h⟩:=xN ap so T [] x rfl
  rw [h,Nl]
  ·rfl
  ·unfold bg; rw [decide_eq_true_iff]
   intro q hq hn
   have p1:=ap.pos q hq
   have p2:=ap.pos x (by simp)
   rcases KP.mp hq with z | z
   ·subst z; have:=hn.2.2; omega
   ·have:=(Mz.mp so).1 q z
    unfold Dz at this; obtain ⟨n1,n2,n3⟩:=hn; omega
abbrev gW (r:R4):List D:=[.int r.b,.int r.w,.int r.s,.int r.e]
abbrev fo (r:R4):D:=.lst (gW r)
def zR (r:R4):List Int:=[r.b,r.w,r.s,r.e]
theorem EB (x y:R4):dW [fo x,fo y]=some (.bl (decide (Nx x y))):=by
 refine cU jU ?_
 rw [wU]
 unfold jB
 have e:∀ a b:Int,oO false (dC (.int a)) (dC (.int b)) []=some (.bl (decide (a=b))):=fun a b=>qt rfl rfl
 refine bW (js (qt (cm rfl rfl rfl) (cm rfl rfl rfl)) fun _=>js (qt (cm rfl rfl rfl) (cm rfl rfl rfl)) fun _=>qt (cm rfl rfl rfl) (cm rfl rfl rfl)) ?_
 refine congrArg D.bl ?_
 rw [LY]
 simp only [Nb,decide_eq_true_iff]
 unfold Nx
 constructor
 ·rintro ⟨h1,h2,h3⟩; exact ⟨h1.symm,h2.symm,h3.symm⟩
 ·rintro ⟨h1,h2,h3⟩; exact ⟨h1.symm,h2.symm,h3.symm⟩
def Ja (z:List Int):R4:=(z.getD 0 0,z.getD 1 0,z.getD 2 0,z.getD 3 0)
theorem HY (r:R4):Ja (zR r)=r:=rfl
noncomputable def s4 (rs:List R4):List R4:=(gS (rs.map zR)).map Ja
theorem Iu (rs:List R4):(s4 rs).map zR=gS (rs.map zR):=by
 unfold s4
 rw [K6]
 conv=>rhs; rw [← Qg (gS (rs.map zR))]
 refine LH fun z hz=>?_
 obtain ⟨r,_,rfl⟩:=K5.mp ((eF _).mem_iff.mp hz)
 rfl
theorem cL (rs:List R4):(s4 rs).Perm rs:=by
 have:=(eF (rs.map zR)).map Ja
 rw [K6,show (Ja∘zR)=id from funext HY,Qg] at this
 exact this
theorem Jx {x y:R4} (h:L2.lexLt (zR y) (zR x)=false):Dz x y:=by
 unfold zR at h
 simp only [L2.lexLt] at h
 unfold Dz
 split at h
 ·split at h
  ·split at h
   ·split at h
    ·omega
    ·have:=of_decide_eq_false h; omega
   ·have:=of_decide_eq_false h; omega
  ·have:=of_decide_eq_false h; omega
 ·have:=of_decide_eq_false h; omega
theorem Fs (rs:List R4):(s4 rs).Pairwise Dz:=by
 have h:=ot (rs.map zR)
 rw [← Iu,MS] at h
 exact h.imp fun h=>Jx h
def yp (acc:List R4) (r:R4):List R4:=match acc.getLast? with
 | some x=>if Nx x r then acc.dropLast++[iD x r.e] else acc++[r]
 | none=>acc++[r]
theorem sQ (acc:List R4) (x r:R4):yp (acc++[x]) r=if Nx x r then acc++[iD x r.e] else acc++[x]++[r]:=by
 unfold yp
 rw [List.getLast?_concat]
 simp only [List.dropLast_concat]
theorem qh:∀ (T acc:List R4) (x:R4),T.foldl yp (acc++[x])=acc++Fz x T
 | [],acc,x=>rfl
 | y::T,acc,x=>by
  rw [Pt,sQ]
  by_cases h:Nx x y
  ·rw [if_pos h,qh T,Fz,if_pos h]
  ·rw [if_neg h,qh T,Fz,if_neg h,Lx]; rfl
theorem vH (S:List R4):S.foldl yp []=ik S:=by
 cases S with
 | nil=>rfl
 | cons x T =>
  have:=qh T [] x
  rw [tS] at this
  exact this
theorem D0 (acc:List R4) (r:R4):(yp acc r).length≤acc.length+1:=by
 unfold yp
 split
 ·split
  ·simp
  ·simp
 ·simp
theorem qi:∀ (T acc:List R4),(T.foldl yp acc).length≤acc.length+T.length
 | [],acc=>by simp
 | r::T,acc=>by
  have h1:=qi T (yp acc r)
  have h2:=D0 acc r
  rw [Pt,Lo]; omega
theorem FI (r:R4):kZ (gW r)=true:=rfl
def kR (l:List D):List Int:=match l with
 | [.int b,.int _,.int s,.int _]=>[s,b]
 | _=>[]
noncomputable def jn (rs:List R4):List (List D):=qS kR ((ik (s4 rs)).map gW)
theorem AF {rs:List R4} (hl:rs.length<800) (hn:(((ik (s4 rs)).map gW).map kR).Nodup):ee [.lst (rs.map fo)]=some (rL (jn rs)):=by
 refine D9 lQ ?_
 rw [zP]
 unfold lV
 have hs:KH=16777216:=Lv
 refine wp_seq (og (rows:=(([]:List R4).map gW)) rfl (by simp only [Lo,Mm]; omega) ?_)
 walk_at "st"
 have esrt:lz (sf 0) [.bo (.lst (rs.map fo)),.om (([]:List R4).map gW),.un]=some ((s4 rs).map fo):=by
  have:=vO (a:=sf 0) (ρ:=[.bo (.lst (rs.map fo)),.om (([]:List R4).map gW),.un]) (zs:=rs.map zR) (by
   rw [K6]; rfl) (by rw [Kw]; exact hl)
  rw [this,← Iu,K6]; rfl
 have hsl:(s4 rs).length<800:=by rw [(cL rs).length_eq]; exact hl
 refine wp_seq (g9 esrt (fun j ρ=>∃ v2:Sl,ρ=[.bo (.lst (rs.map fo)),.om ((((s4 rs).take j).foldl yp []).map gW),v2]) ⟨_,rfl⟩ ?_ ?_)
 ·rintro j d ρ hd ⟨v2,rfl⟩
  rw [KO] at hd
  obtain ⟨r,hr,rfl⟩:=LO.mp hd
  refine ⟨_,rfl,?_⟩
  dsimp only [gN,Bd,K2,KZ]
  have tk:((s4 rs).take (j+1)).foldl yp []=yp (((s4 rs).take j).foldl yp []) r:=by rw [Rx,hr]; simp [List.foldl_append]
  have al:(((s4 rs).take j).foldl yp []).length<800:=by
   have h1:=qi ((s4 rs).take j) []
   have h2:=List.length_take_le j (s4 rs)
   have h3:((s4 rs).take j).length≤(s4 rs).length:=Ry j (s4 rs)
   simp only [Mm] at h1; omega
  rw [tk]
  generalize ((s4 rs).take j).foldl yp []=acc at al
  rcases List.eq_nil_or_concat acc with rfl | ⟨init,x,rfl⟩
  ·refine yg (x:=false) (xU (x:=false) (y:=false) (j8 (d:=.lst []) rfl rfl) fun z=>by cases z) (fun z=>by cases z) fun _=>?_
   refine oh rfl (uf (ue rfl rfl) (FI r)) (by simp; omega) ?_
   exact ⟨_,rfl⟩
  ·rw [List.concat_eq_append] at *
   have hL:((init++[x]).map gW).length=init.length+1:=by simp
   have t1:DR (rL ((init++[x]).map gW))=some true:=by
    show some (!(((init++[x]).map gW).map D.lst).isEmpty)=_
    simp
   have ixl:ixN (init.length+1) (-1)=some init.length:=by
    unfold ixN
    rw [if_neg (by omega),if_pos (by omega)]
    exact congrArg some (by omega)
   have ix:Cy (rL ((init++[x]).map gW)) (-1)=some (fo x):=by
    show iF (((init++[x]).map gW).map D.lst) (-1)=_
    unfold iF
    rw [Kw,hL,ixl]
    simp
   refine yg (xU (j8 rfl t1) fun _=>j8 (cA (aE (cm rfl rfl ix) (aE rfl rfl)) (EB x r)) rfl) (fun h=>?_) fun h=>?_
   ·have h:Nx x r:=by simpa using h
    refine yf (r:=init.length) (j:=3) (ds:=gW x) (n:=-1) (m:=3) (d:=.int r.e) rfl rfl rfl ?_ ?_ rfl rfl ?_
    ·rw [hL]; exact ixl
    ·rw [Li,Ln (by simp)]; simp
    ·refine ⟨.bo (fo r),?_⟩
     rw [sQ,if_pos h,Li,O8 _ _ (by simp)]
     simp only [Kw,PN,Li,Ld,NC,KZ]
     rfl
   ·have h:¬ Nx x r:=by simpa using h
    refine oh rfl (uf (ue rfl rfl) (FI r)) (by simp only [hL]; simp at al; omega) ?_
    refine ⟨.bo (fo r),?_⟩
    rw [sQ,if_neg h,Li (l₁:=init++[x])]
    rfl
 ·rintro ρ ⟨v2,rfl⟩
  rw [Kw,OC,vH]
  have hg:(ik (s4 rs)).length<800:=by
   rw [← vH]
   have:=qi (s4 rs) []
   simp only [Mm] at this; omega
  refine Bm kR rfl (fun l hl'=>?_) hn (by rw [Kw]; exact hg) rfl
  obtain ⟨r,_,rfl⟩:=K5.mp hl'
  exact ⟨rfl,by intro z; cases z⟩
theorem FJ {rs:List R4} (ap:Ap rs) {r:R4} (h:r∈rs):Fi rs r (fin rs r):=by
 have ap2:=ap.perm (cL rs)
 obtain ⟨P,T,e⟩:=List.append_of_mem ((cL rs).mem_iff.mpr h)
 have f:=Fi.perm (cL rs) (xN ap2 (Fs rs) T P r e).1
 rw [qj ap f]
 exact f
theorem EZ {rs ss:List R4} (p:ss.Perm rs) (r:R4):bg ss r=bg rs r:=by
 unfold bg
 rw [LY,decide_eq_true_iff,decide_eq_true_iff]
 exact ⟨fun h q hq=>h q (p.mem_iff.mpr hq),fun h q hq=>h q (p.mem_iff.mp hq)⟩
noncomputable def Hz (rs:List R4):List R4:=rs.filter (bg rs)
noncomputable def full (rs:List R4) (r:R4):R4:=iD r (fin rs r)
theorem t5 {rs:List R4} (ap:Ap rs):ik (s4 rs)=((s4 rs).filter (bg rs)).map (full rs):=by
 have ap2:=ap.perm (cL rs)
 rw [EA ap2 (Fs rs),show bg (s4 rs)=bg rs from funext fun r=>EZ (cL rs) r]
 refine LH fun r hr=>?_
 have hm:=(cL rs).mem_iff.mp ((LC.mp hr).1)
 exact congrArg (iD r) (qj ap2 (Fi.perm (cL rs).symm (FJ ap hm)))
def dz (r:R4):List Int:=[r.s,r.b,r.w,r.e]
def HZ (z:List Int):R4:=(z.getD 1 0,z.getD 2 0,z.getD 0 0,z.getD 3 0)
noncomputable def out (rs:List R4):List R4:=(gS ((Hz rs).map fun r=>dz (full rs r))).map HZ
theorem B6 (rs:List R4):gS ((Hz rs).map fun r=>dz (full rs r))=(out rs).map dz:=by
 unfold out
 rw [K6]
 conv=>lhs; rw [← Qg (gS _)]
 refine LH fun z hz=>?_
 obtain ⟨r,_,rfl⟩:=K5.mp ((eF _).mem_iff.mp hz)
 rfl
theorem kN (rs:List R4):(out rs).Perm ((Hz rs).map (full rs)):=by
 have:=(eF ((Hz rs).map fun r=>dz (full rs r))).map HZ
 rw [K6] at this
 exact this
theorem Es {x y:R4} (h:L2.lexLt (dz y) (dz x)=false):L2.lexLt (kR (gW y)) (kR (gW x))=false:=by
 show L2.lexLt [y.s,y.b] [x.s,x.b]=false
 unfold dz at h
 simp only [L2.lexLt] at h ⊢
 split at h
 ·rename_i e
  rw [if_pos e]
  split at h
  ·rename_i e2; rw [if_pos e2]
  ·rename_i e2; rw [if_neg e2]; exact h
 ·rename_i e
  rw [if_neg e]; exact h
theorem yW {rs:List R4} (ap:Ap rs) {l:List R4} (hl:l.Nodup) (hm:∀ r∈l,r∈rs):(((l.map (full rs)).map gW).map kR).Nodup:=by
 rw [K6,K6]
 refine MS.mpr (NN (fun {x y} hx hy ne e=>ne ?_) hl)
 have e:[x.s,x.b]=[y.s,y.b]:=e
 injection e with e1 e2
 injection e2 with e2 _
 exact ap.two (hm x hx) (hm y hy) e2 e1
theorem Ap.nodup {rs:List R4} (ap:Ap rs):rs.Nodup:=by
 refine NN (fun {x y} hx hy d e=>?_) ap.dj
 subst e
 have:=ap.pos x hx
 rcases d rfl with h | h <;> omega
theorem Hc {rs:List R4} (ap:Ap rs):jn rs=(out rs).map gW:=by
 unfold jn
 have p0:((s4 rs).filter (bg rs)).Perm (Hz rs):=(cL rs).filter _
 have nd:(((ik (s4 rs)).map gW).map kR).Nodup:=by
  rw [t5 ap]
  exact yW ap (Sa RM (ap.perm (cL rs)).nodup) fun r hr=>(cL rs).mem_iff.mp ((LC.mp hr).1)
 refine (mn (kg:=kR) (fun _ _=>rfl) nd ?_ ?_).symm
 ·rw [t5 ap]
  exact ((kN rs).trans (p0.map _).symm).map gW
 ·have h:=ot ((Hz rs).map fun r=>dz (full rs r))
  rw [B6,MS] at h
  rw [MS]
  exact h.imp fun h=>Es h
theorem joined {rs:List R4} (ap:Ap rs) (hl:rs.length<800):ee [.lst (rs.map fo)]=some (.lst ((out rs).map fo)):=by
 rw [AF hl,Hc ap]
 ·unfold rL; rw [K6]; rfl
 ·rw [t5 ap]
  exact yW ap (Sa RM (ap.perm (cL rs)).nodup) fun r hr=>(cL rs).mem_iff.mp ((LC.mp hr).1)
def SM {α:Type} (l:List α) (f:α→Int):Int:=(l.map f).sum
theorem bN (x:α) (l:List α) (f:α→Int):SM (x::l) f=f x+SM l f:=by unfold SM; rw [Ld,Oe]
theorem HE (l m:List α) (f:α→Int):SM (l++m) f=SM l f+SM m f:=by unfold SM; rw [Li,Pw]
theorem jd {l:List α} {f g:α→Int} (h:∀ x∈l,f x=g x):SM l f=SM l g:=by unfold SM; rw [LH h]
theorem jw {α:Type}:∀ l:List α,SM l (fun _=>0)=0
 | []=>rfl
 | x::l=>by rw [bN,jw l]; rfl
theorem zu {l m:List α} (p:l.Perm m) (f:α→Int):SM l f=SM m f:=by
 induction p with
 | nil=>rfl
 | cons x _ ih=>rw [bN,bN,ih]
 | swap x y l=>rw [bN,bN,bN,bN]; omega
 | trans _ _ a b=>exact a.trans b
theorem DU {l:List α} {x:α} (f:α→Int) (h:l[j]?=some x):SM (l.take (j+1)) f=SM (l.take j) f+f x:=by
 unfold SM
 rw [Rx,h]
 simp
def Hk (k:R4→Int) (x y:R4):Prop:=k x=k y→x.e≤y.s∨y.e≤x.s
theorem Hk.symm {k:R4→Int} {x y:R4} (h:Hk k x y):Hk k y x:=fun e=>(h e.symm).symm
theorem fM (x:R4) (xs:List R4):(ik xs=[]∧ik (x::xs)=[x])∨∃ y ys,ik xs=y::ys∧((Nx x y∧ik (x::xs)=iD x y.e::ys)∨(¬ Nx x y∧ik (x::xs)=x::y::ys)):=by
 have e:ik (x::xs)=match ik xs with | []=>[x] | y::ys=>if Nx x y then iD x y.e::ys else x::y::ys:=rfl
 rw [e]
 cases ik xs with
 | nil=>exact .inl ⟨rfl,rfl⟩
 | cons y ys =>
  refine .inr ⟨y,ys,rfl,?_⟩
  by_cases c:Nx x y
  ·exact .inl ⟨c,if_pos c⟩
  ·exact .inr ⟨c,if_neg c⟩
theorem oI:∀ {S:List R4},(∀ q∈S,q.s<q.e)→∀ z∈ik S,z.s<z.e
 | [],_,z,hz=>by cases hz
 | x::xs,h,z,hz=>by
  have ih:=oI (S:=xs) fun q hq=>h q (Kx _ hq)
  have hx:=h x Ky
  rcases fM x xs with ⟨_,e⟩ | ⟨y,ys,e0,⟨n,e⟩ | ⟨n,e⟩⟩
  ·rw [e] at hz
   rw [Kz.mp hz]
   exact hx
  ·rw [e] at hz
   rw [e0] at ih
   rcases KP.mp hz with q | q
   ·have:=ih y Ky
    have:=n.2.2
    rw [q]
    show x.s<y.e
    omega
   ·exact ih z (Kx _ q)
  ·rw [e] at hz
   rw [e0] at ih
   rcases KP.mp hz with q | q
   ·rw [q]
    exact hx
   ·exact ih z q
theorem y8:∀ {S:List R4},∀ z∈ik S,(∃ q∈S,z.b=q.b∧z.w=q.w∧z.s=q.s)∧∃ q∈S,z.e=q.e
 | [],z,hz=>by cases hz
 | x::xs,z,hz=>by
  have ih:=y8 (S:=xs)
  have lift:∀ {z:R4},((∃ q∈xs,z.b=q.b∧z.w=q.w∧z.s=q.s)∧∃ q∈xs,z.e=q.e)→(∃ q∈x::xs,z.b=q.b∧z.w=q.w∧z.s=q.s)∧∃ q∈x::xs,z.e=q.e:=fun {z} h=>by
   obtain ⟨⟨q,hq,e⟩,q',hq',e'⟩:=h
   exact ⟨⟨q,Kx _ hq,e⟩,q',Kx _ hq',e'⟩
  have own:(∃ q∈x::xs,x.b=q.b∧x.w=q.w∧x.s=q.s)∧∃ q∈x::xs,x.e=q.e:=⟨⟨x,Ky,rfl,rfl,rfl⟩,x,Ky,rfl⟩
  rcases fM x xs with ⟨_,e⟩ | ⟨y,ys,e0,⟨n,e⟩ | ⟨n,e⟩⟩
  ·rw [e] at hz
   rw [Kz.mp hz]
   exact own
  ·rw [e] at hz
   rw [e0] at ih
   rcases KP.mp hz with q | q
   ·rw [q]
    obtain ⟨_,q',hq',e'⟩:=ih y Ky
    exact ⟨own.1,q',Kx _ hq',e'⟩
   ·exact lift (ih z (Kx _ q))
  ·rw [e] at hz
   rw [e0] at ih
   rcases KP.mp hz with q | q
   ·rw [q]
    exact own
   ·exact lift (ih z q)
theorem y4:∀ {S:List R4},(∀ q∈S,q.s<q.e)→∀ q∈S,∃ z∈ik S,q.e≤z.e
 | [],_,q,hq=>by cases hq
 | x::xs,h,q,hq=>by
  have ih:=y4 (S:=xs) fun q hq=>h q (Kx _ hq)
  have ps:=oI (S:=xs) fun q hq=>h q (Kx _ hq)
  rcases fM x xs with ⟨e0,e⟩ | ⟨y,ys,e0,⟨n,e⟩ | ⟨n,e⟩⟩
  ·rw [e]
   rcases KP.mp hq with z | z
   ·exact ⟨x,Kz.mpr rfl,by rw [z]; exact Mh _⟩
   ·obtain ⟨w,hw,_⟩:=ih q z
    rw [e0] at hw
    cases hw
  ·rw [e]
   rw [e0] at ih ps
   have py:=ps y Ky
   have:=n.2.2
   rcases KP.mp hq with z | z
   ·exact ⟨iD x y.e,Ky,by rw [z]; show x.e≤y.e; omega⟩
   ·obtain ⟨w,hw,hl⟩:=ih q z
    rcases KP.mp hw with hw | hw
    ·exact ⟨iD x y.e,Ky,by rw [hw] at hl; exact hl⟩
    ·exact ⟨w,Kx _ hw,hl⟩
  ·rw [e]
   rw [e0] at ih
   rcases KP.mp hq with z | z
   ·exact ⟨x,Ky,by rw [z]; exact Mh _⟩
   ·obtain ⟨w,hw,hl⟩:=ih q z
    exact ⟨w,Kx _ hw,hl⟩
section
variable {k:R4→Int} (hk:∀ r E,k (iD r E)=k r) (kn:∀ {x y:R4},Nx x y→k x=k y)
include hk kn
theorem CK {x:R4} (hx:x.s<x.e):∀ {S:List R4},(∀ q∈S,Hk k x q)→∀ z∈ik S,Hk k x z
 | [],_,z,hz=>by cases hz
 | q::qs,h,z,hz=>by
  have ih:=CK hx (S:=qs) fun p hp=>h p (Kx _ hp)
  have hq:=h q Ky
  rcases fM q qs with ⟨_,e⟩ | ⟨y,ys,e0,⟨n,e⟩ | ⟨n,e⟩⟩
  ·rw [e] at hz
   rw [Kz.mp hz]
   exact hq
  ·rw [e] at hz
   rw [e0] at ih
   rcases KP.mp hz with w | w
   ·rw [w]
    intro e1
    rw [hk] at e1
    have a:=hq e1
    have c:=ih y Ky (e1.trans (kn n))
    have:=n.2.2
    show x.e≤q.s∨y.e≤x.s
    omega
   ·exact ih z (Kx _ w)
  ·rw [e] at hz
   rw [e0] at ih
   rcases KP.mp hz with w | w
   ·rw [w]
    exact hq
   ·exact ih z w
theorem CJ:∀ {S:List R4},(∀ q∈S,q.s<q.e)→S.Pairwise (Hk k)→(ik S).Pairwise (Hk k)
 | [],_,_=>.nil
 | x::xs,h,p=>by
  obtain ⟨p1,p2⟩:=Mz.mp p
  have hx:=h x Ky
  have ps:=oI (S:=xs) fun q hq=>h q (Kx _ hq)
  have ih:=CJ (fun q hq=>h q (Kx _ hq)) p2
  have hd:=CK hk kn hx p1
  rcases fM x xs with ⟨_,e⟩ | ⟨y,ys,e0,⟨n,e⟩ | ⟨n,e⟩⟩
  ·rw [e]
   exact List.pairwise_singleton _ _
  ·rw [e]
   rw [e0] at ih hd ps
   obtain ⟨i1,i2⟩:=Mz.mp ih
   refine Mz.mpr ⟨fun z hz e1=>?_,i2⟩
   rw [hk] at e1
   have a:=hd z (Kx _ hz) e1
   have c:=i1 z hz ((kn n).symm.trans e1)
   have:=ps z (Kx _ hz)
   have:=n.2.2
   show y.e≤z.s∨z.e≤x.s
   omega
  ·rw [e]
   rw [e0] at ih hd
   exact Mz.mpr ⟨hd,ih⟩
end
theorem y7 {f:R4→Int} (hf:∀ x y,Nx x y→f (iD x y.e)=f x+f y):∀ S:List R4,SM (ik S) f=SM S f
 | []=>rfl
 | x::xs=>by
  have ih:=y7 hf xs
  rw [bN,← ih]
  rcases fM x xs with ⟨e0,e⟩ | ⟨y,ys,e0,⟨n,e⟩ | ⟨n,e⟩⟩
  ·rw [e,e0,bN]
  ·rw [e,e0,bN,bN,hf x y n]
   omega
  ·rw [e,e0,bN]
theorem Ej {rs:List R4} (ap:Ap rs):(out rs).Perm (ik (s4 rs)):=by
 rw [t5 ap]
 exact (kN rs).trans ((((cL rs).filter _).map _).symm)
theorem EF {rs:List R4} {x:R4} (h:Fi rs x E):∃ q,(q=x∨q∈rs)∧q.b=x.b∧q.w=x.w∧q.e=E:=by
 induction h with
 | stop _=>exact ⟨_,.inl rfl,rfl,rfl,rfl⟩
 | @step x q E hq n _ ih =>
  obtain ⟨p,hp,e1,e2,e3⟩:=ih
  refine ⟨p,?_,e1.trans n.1,e2.trans n.2.1,e3⟩
  rcases hp with z | z
  ·exact .inr (by rw [z]; exact hq)
  ·exact .inr z
theorem GN {rs:List R4} (ap:Ap rs) {x y:R4} (hx:x∈out rs) (hy:y∈out rs):¬ Nx x y:=fun n=>by
 obtain ⟨p,hp,rfl⟩:=K5.mp ((kN rs).mem_iff.mp hx)
 obtain ⟨q,hq,rfl⟩:=K5.mp ((kN rs).mem_iff.mp hy)
 obtain ⟨hp1,_⟩:=LC.mp hp
 obtain ⟨hq1,hq2⟩:=LC.mp hq
 obtain ⟨l,hl,e1,e2,e3⟩:=EF (FJ ap hp1)
 have hl:l∈rs:=by
  rcases hl with z | z
  ·rw [z]
   exact hp1
  ·exact z
 unfold bg at hq2
 exact of_decide_eq_true hq2 l hl ⟨n.1.trans e1.symm,n.2.1.trans e2.symm,n.2.2.trans e3.symm⟩
def HW (x y:R4):Prop:=x.s<y.s∨(x.s=y.s∧x.b≤y.b)
theorem GL (L:List R4):(out L).Pairwise HW:=by
 have h:=ot ((Hz L).map fun r=>dz (full L r))
 rw [B6,MS] at h
 refine h.imp fun {x y} z=>?_
 unfold dz at z
 simp only [L2.lexLt] at z
 unfold HW
 split at z
 ·split at z
  ·omega
  ·have:=of_decide_eq_false z; omega
 ·have:=of_decide_eq_false z; omega
def nV:Int→km→List R4
 | _,[]=>[]
 | s,q::tl=>(q.2.map fun p=>(p.2,p.1,s,s+q.1))++nV (s+q.1) tl
def qd (tl:km):Int:=(tl.map (·.1)).sum
theorem iT (q:Int×jP) (tl:km):qd (q::tl)=q.1+qd tl:=by unfold qd; rw [Ld,Oe]
section
variable {h b:Nat}
theorem CG:∀ {tl:km},(∀ q∈tl,fW h b q)→0≤qd tl
 | [],_=>Mh _
 | q::tl,k=>by
  have:=(k q Ky).ge
  have:=CG fun x hx=>k x (Kx _ hx)
  rw [iT]
  omega
theorem BM {s:Int} {q:Int×jP} {r:R4} (hr:r∈q.2.map fun p=>((p.2,p.1,s,s+q.1):R4)):(r.w,r.b)∈q.2∧r.s=s∧r.e=s+q.1:=by
 obtain ⟨p,hp,rfl⟩:=K5.mp hr
 exact ⟨hp,rfl,rfl⟩
theorem pD:∀ {tl:km} {s:Int},(∀ q∈tl,fW h b q)→∀ r∈nV s tl,r.w∈bE h∧r.b∈bE b∧s≤r.s∧r.s<r.e∧r.e≤s+qd tl
 | [],_,_,r,hr=>by cases hr
 | q::tl,s,k,r,hr=>by
  have kq:=k q Ky
  have kt:=fun x (hx:x∈tl)=>k x (Kx _ hx)
  have g:=kq.ge
  have n0:=CG kt
  rw [iT]
  rcases KS.mp hr with z | z
  ·obtain ⟨m,e1,e2⟩:=BM z
   have i:=kq.DF _ m
   exact ⟨i.1,i.2,by omega,by omega,by omega⟩
  ·obtain ⟨a1,a2,a3,a4,a5⟩:=pD kt r z
   exact ⟨a1,a2,by omega,a4,by omega⟩
theorem yD {k:R4→Int} (hkk:∀ q:Int×jP,fW h b q→∀ s:Int,(q.2.map fun p=>k (p.2,p.1,s,s+q.1)).Nodup):∀ {tl:km} {s:Int},(∀ q∈tl,fW h b q)→(nV s tl).Pairwise (Hk k)
 | [],_,_=>.nil
 | q::tl,s,kk=>by
  have kq:=kk q Ky
  have kt:=fun x (hx:x∈tl)=>kk x (Kx _ hx)
  refine K8.mpr ⟨?_,yD hkk kt,fun x hx y hy _=>.inl ?_⟩
  ·rw [MS]
   have:=hkk q kq s
   exact (MS.mp this).imp fun {a c} ne e=>absurd e ne
  ·have e:=(BM hx).2.2
   have:=(pD kt y hy).2.2.1
   omega
theorem BL (i j:Nat):∀ {tl:km} {s:Int},(∀ q∈tl,fW h b q)→SM (nV s tl) (fun r=>if r.w=(i:Int)∧r.b=(j:Int) then r.e-r.s else 0)=gQ i j tl
  | [],_,_=>rfl
  | q::tl,s,k=>by
    have kq:=k q Ky
    have kt:=fun x (hx:x∈tl)=>k x (Kx _ hx)
    show SM (_++nV (s+q.1) tl) _=_
    rw [HE,BL i j kt]
    have e:SM (q.2.map fun p=>((p.2,p.1,s,s+q.1):R4)) (fun r:R4=>if r.w=(i:Int)∧r.b=(j:Int) then r.e-r.s else 0)=if ((i:Int),(j:Int))∈q.2 then q.1 else 0:=by
      have nd:=kq.nd
      generalize q.2=P at nd
      induction P with
      | nil=>rfl
      | cons p P ih =>
        obtain ⟨n1,n2⟩:=La.mp nd
        rw [Ld,bN,ih n2]
        show (if p.1=(i:Int)∧p.2=(j:Int) then s+q.1-s else 0)+_=_
        by_cases c:p.1=(i:Int)∧p.2=(j:Int)
        · have ep:p=((i:Int),(j:Int)):=TF c.1 c.2
          rw [if_pos c,if_neg (by rw [← ep]; exact n1),if_pos (by rw [ep]; exact Ky)]
          omega
        · rw [if_neg c]
          by_cases d:((i:Int),(j:Int))∈P
          · rw [if_pos d,if_pos (Kx _ d)]
            omega
          · rw [if_neg d,if_neg fun z=>(KP.mp z).elim (fun w=>c (by rw [← w]; exact ⟨rfl,rfl⟩)) d]
            omega
    rw [e]
    unfold gQ
    rw [Ld,Oe]
theorem B1 {q:Int×jP} (k:fW h b q):q.2.length≤b:=by
 have:=mH k.n2 (V:=bE b) fun x hx=>by obtain ⟨p,hp,rfl⟩:=K5.mp hx; exact (k.DF p hp).2
 rw [Kw,fH] at this
 exact this
theorem BN:∀ {tl:km} {s:Int},(∀ q∈tl,fW h b q)→(nV s tl).length≤b*tl.length
 | [],_,_=>LL _
 | q::tl,s,k=>by
  have a:=B1 (k q Ky)
  have c:=BN (s:=s+q.1) fun x hx=>k x (Kx _ hx)
  show (_++nV (s+q.1) tl).length≤_
  rw [K0,Kw,Lo,Nat.mul_add,Nat.mul_one]
  omega
theorem Ft {tl:km} {s:Int} (k:∀ q∈tl,fW h b q):Ap (nV s tl):=⟨fun r hr=>(pD k r hr).2.2.2.1,yD (k:=R4.b) (fun q kq _=>kq.n2) k⟩
structure Op (h b:Nat) (tl:km) (Q:List R4):Prop where
 all:∀ r∈Q,r.w∈bE h∧r.b∈bE b∧0≤r.s∧r.s<r.e∧r.e≤qd tl
 bj:Q.Pairwise (Hk R4.b)
 wj:Q.Pairwise (Hk R4.w)
 no:∀ x∈Q,∀ y∈Q,¬ Nx x y
 up:Q.Pairwise HW
 sum:∀ i j:Nat,SM Q (fun r=>if r.w=(i:Int)∧r.b=(j:Int) then r.e-r.s else 0)=gQ i j tl
 top:∀ r∈nV 0 tl,∃ z∈Q,r.e≤z.e
theorem op {tl:km} (k:∀ q∈tl,fW h b q):Op h b tl (out (nV 0 tl)):=by
 have ap:=Ft (s:=0) k
 have pg:=Ej ap
 have p4:=cL (nV 0 tl)
 have pos:∀ q∈s4 (nV 0 tl),q.s<q.e:=fun q hq=>ap.pos q (p4.mem_iff.mp hq)
 have pw:∀ {k':R4→Int},(∀ r E,k' (iD r E)=k' r)→(∀ {x y:R4},Nx x y→k' x=k' y)→(nV 0 tl).Pairwise (Hk k')→(out (nV 0 tl)).Pairwise (Hk k'):=fun {k'} h1 h2 h3=>(pg.pairwise_iff fun h=>Hk.symm h).mpr (CJ h1 h2 pos ((p4.pairwise_iff fun h=>Hk.symm h).mpr h3))
 refine ⟨fun r hr=>?_,pw (fun _ _=>rfl) (fun n=>n.1.symm) (yD (k:=R4.b) (fun q kq _=>kq.n2) k),pw (fun _ _=>rfl) (fun n=>n.2.1.symm) (yD (k:=R4.w) (fun q kq _=>kq.n1) k),fun x hx y hy=>GN ap hx hy,GL _,fun i j=>?_,fun r hr=>?_⟩
 ·have hg:=pg.mem_iff.mp hr
  obtain ⟨⟨q,hq,e1,e2,e3⟩,q',hq',e4⟩:=y8 r hg
  have a:=pD k q (p4.mem_iff.mp hq)
  have a':=pD k q' (p4.mem_iff.mp hq')
  rw [e1,e2]
  exact ⟨a.1,a.2.1,by omega,oI pos r hg,by omega⟩
 ·rw [zu pg,y7 (fun x y n=>?_),zu p4,BL i j k]
  obtain ⟨n1,n2,n3⟩:=n
  show (if x.w=(i:Int)∧x.b=(j:Int) then y.e-x.s else 0)=_
  by_cases c:x.w=(i:Int)∧x.b=(j:Int)
  ·rw [if_pos c,if_pos c,if_pos (by omega)]
   omega
  ·rw [if_neg c,if_neg c,if_neg (by omega)]
   omega
 ·obtain ⟨z,hz,hl⟩:=y4 pos r (p4.mem_iff.mpr hr)
  exact ⟨z,pg.mem_iff.mpr hz,hl⟩
end
theorem Dx (l:List α) (f g:α→Int):SM l (fun x=>f x+g x)=SM l f+SM l g:=by
 induction l with
 | nil=>rfl
 | cons x l ih=>rw [bN,bN,bN,ih]; omega
theorem tL {p:Nat→Prop} [DecidablePred p] {H:Int} (hH:0≤H):∀ {l:List Nat},l.Nodup→(∀ x∈l,∀ y∈l,p x→p y→x=y)→SM l (fun x=>if p x then H else 0)≤H
 | [],_,_=>hH
 | x::l,nd,u=>by
  obtain ⟨n1,n2⟩:=La.mp nd
  rw [bN]
  by_cases c:p x
  ·rw [if_pos c,jd (g:=fun _=>0) fun y hy=>if_neg fun z=>n1 (by rw [u x Ky y (Kx _ hy) c z]; exact hy),jw]
   omega
  ·rw [if_neg c,QU]
   exact tL hH n2 fun a ha c hc=>u a (Kx _ ha) c (Kx _ hc)
def DH (tl:km):Int:=SM tl fun q=>if q.2=[] then 0 else q.1
theorem rA (i j:Nat) (q:Int×jP) (tl:km):gQ i j (q::tl)=(if ((i:Int),(j:Int))∈q.2 then q.1 else 0)+gQ i j tl:=by
 unfold gQ
 rw [Ld,Oe]
section
variable {h b:Nat}
theorem ED {P:jP} (n:(P.map (·.1)).Nodup) {q:Int×Int} (hp:p∈P) (hq:q∈P) (e:p.1=q.1):p=q:=by
 induction P with
 | nil=>cases hp
 | cons x P ih =>
  rw [Ld] at n
  obtain ⟨n1,n2⟩:=La.mp n
  rcases KP.mp hp with a | a <;> rcases KP.mp hq with c | c
  ·rw [a,c]
  ·exact absurd (K5.mpr ⟨q,c,by rw [← e,a]⟩) n1
  ·exact absurd (K5.mpr ⟨p,a,by rw [e,c]⟩) n1
  ·exact ih n2 a c
theorem D2 {P:jP} (n:(P.map (·.2)).Nodup) {q:Int×Int} (hp:p∈P) (hq:q∈P) (e:p.2=q.2):p=q:=by
 induction P with
 | nil=>cases hp
 | cons x P ih =>
  rw [Ld] at n
  obtain ⟨n1,n2⟩:=La.mp n
  rcases KP.mp hp with a | a <;> rcases KP.mp hq with c | c
  ·rw [a,c]
  ·exact absurd (K5.mpr ⟨q,c,by rw [← e,a]⟩) n1
  ·exact absurd (K5.mpr ⟨p,a,by rw [e,c]⟩) n1
  ·exact ih n2 a c
theorem vV (i n:Nat):∀ {tl:km},(∀ q∈tl,fW h b q)→SM (KW n) (fun j=>gQ i j tl)≤DH tl
 | [],_=>by
  show SM (KW n) (fun _=>0)≤0
  rw [jw]
  exact Mh _
 | q::tl,k=>by
  have kq:=k q Ky
  have g:=kq.ge
  have ih:=vV i n fun x hx=>k x (Kx _ hx)
  rw [jd (g:=fun j:Nat=>(if ((i:Int),(j:Int))∈q.2 then q.1 else 0)+gQ i j tl) fun j _=>rA i j q tl,Dx]
  unfold DH at *
  rw [bN]
  by_cases c:q.2=[]
  ·rw [if_pos c,jd (g:=fun _=>0) fun j _=>if_neg (by rw [c]; exact NR),jw]
   omega
  ·rw [if_neg c]
   have:=tL (p:=fun j:Nat=>((i:Int),(j:Int))∈q.2) (H:=q.1) (by omega) (Pg (n:=n)) fun x _ y _ hx hy=>by
    have:=congrArg Prod.snd (ED kq.n1 hx hy rfl)
    have:(x:Int)=(y:Int):=this
    omega
   omega
theorem vW (j n:Nat):∀ {tl:km},(∀ q∈tl,fW h b q)→SM (KW n) (fun i=>gQ i j tl)≤DH tl
 | [],_=>by
  show SM (KW n) (fun _=>0)≤0
  rw [jw]
  exact Mh _
 | q::tl,k=>by
  have kq:=k q Ky
  have g:=kq.ge
  have ih:=vW j n fun x hx=>k x (Kx _ hx)
  rw [jd (g:=fun i:Nat=>(if ((i:Int),(j:Int))∈q.2 then q.1 else 0)+gQ i j tl) fun i _=>rA i j q tl,Dx]
  unfold DH at *
  rw [bN]
  by_cases c:q.2=[]
  ·rw [if_pos c,jd (g:=fun _=>0) fun j _=>if_neg (by rw [c]; exact NR),jw]
   omega
  ·rw [if_neg c]
   have:=tL (p:=fun i:Nat=>((i:Int),(j:Int))∈q.2) (H:=q.1) (by omega) (Pg (n:=n)) fun x _ y _ hx hy=>by
    have:=congrArg Prod.fst (D2 kq.n2 hx hy rfl)
    have:(x:Int)=(y:Int):=this
    omega
   omega
theorem yE:∀ {tl:km} {s:Int},(∀ q∈tl,fW h b q)→qd tl≤DH tl→tl≠[]→∃ r∈nV s tl,r.e=s+qd tl
 | [],_,_,_,n=>absurd rfl n
 | q::tl,s,k,hl,_=>by
  have kq:=k q Ky
  have kt:=fun x (hx:x∈tl)=>k x (Kx _ hx)
  have g:=kq.ge
  have el:∀ t:km,(∀ q∈t,fW h b q)→DH t≤qd t:=by
   intro t
   induction t with
   | nil=>intro _; exact Mh _
   | cons x t ih =>
    intro kk
    have:=ih fun y hy=>kk y (Kx _ hy)
    have:=(kk x Ky).ge
    unfold DH at *
    rw [bN,iT]
    split <;> omega
  have eN:DH (q::tl)=(if q.2=[] then 0 else q.1)+DH tl:=bN _ _ _
  rw [iT] at hl ⊢
  rw [eN] at hl
  have et:=el tl kt
  have ne:q.2≠[]:=fun z=>by
   rw [if_pos z] at hl
   omega
  rw [if_neg ne] at hl
  by_cases c:tl=[]
  ·obtain ⟨p,hp⟩:=List.exists_mem_of_ne_nil _ ne
   refine ⟨(p.2,p.1,s,s+q.1),K3 _ (K5.mpr ⟨p,hp,rfl⟩),?_⟩
   rw [c]
   show s+q.1=s+(q.1+0)
   omega
  ·obtain ⟨r,hr,e⟩:=yE (s:=s+q.1) kt (by omega) c
   exact ⟨r,KA _ hr,by omega⟩
end
theorem DT {T0:Mx} (t:Tab T0 m) {tl:km} (ok:∀ q∈tl,fW T0.length (dY T0) q) (sum:qd tl=dP T0) (cells:∀ i j:Nat,i<T0.length→j<dY T0→gQ i j tl=cO T0 i j) (h0:0<dP T0):∃ r∈nV 0 tl,r.e=dP T0:=by
 have w0:Wd T0 T0.length (dY T0):=⟨rfl,t.w⟩
 have hN:dP T0≤DH tl:=by
  have:=(aQ (cH T0++cols T0) 0).1
  have hm:dP T0∈cH T0++cols T0:=by
   rcases KP.mp this with z | z
   ·have:dP T0=0:=z
    omega
   ·exact z
  rcases KS.mp hm with z | z
  ·obtain ⟨r,hr,e⟩:=K5.mp z
   obtain ⟨i,hi,ei⟩:=PD hr
   have e1:=kK w0 hi
   have e2:dn (dY T0) (cO T0) i=SM (KW (dY T0)) fun j=>gQ i j tl:=by
    unfold dn cE SM
    rw [kL]
    exact congrArg Tg (LH fun j hj=>(cells i j hi (Lw.mp hj)).symm)
   have e3:(T0.getD i []).sum=dP T0:=by
    rw [Ku,Kv hi,ei]
    exact e
   have:=vV i (dY T0) ok
   omega
  ·obtain ⟨j,hj,e⟩:=K5.mp z
   have hj:=Lw.mp hj
   have e1:=lF w0 j
   have e2:dX T0.length (cO T0) j=SM (KW T0.length) fun i=>gQ i j tl:=by
    unfold dX cE SM
    rw [kL]
    exact congrArg Tg (LH fun i hi=>(cells i j (Lw.mp hi) hj).symm)
   have e3:(T0.map fun r=>r.getD j 0).sum=dP T0:=e
   have:=vW j T0.length ok
   omega
 obtain ⟨r,hr,e⟩:=yE (s:=0) ok (by omega) fun z=>by
  rw [z] at sum
  have:qd ([]:km)=0:=rfl
  omega
 exact ⟨r,hr,by omega⟩
theorem CF (tl:km) (q:Int×jP):qd (tl++[q])=qd tl+q.1:=by
 unfold qd
 rw [Li,Pw]
 simp
theorem yC (q:Int×jP):∀ (tl:km) (s:Int),nV s (tl++[q])=nV s tl++q.2.map fun p=>(p.2,p.1,s+qd tl,s+qd tl+q.1)
 | [],s=>by
  show (q.2.map fun p=>((p.2,p.1,s,s+q.1):R4))++[]=[]++q.2.map fun p=>(p.2,p.1,s+0,s+0+q.1)
  rw [Mb,Nm,QT]
 | x::tl,s=>by
  show _++nV (s+x.1) (tl++[q])=(_++nV (s+x.1) tl)++_
  rw [yC q tl,Lx,iT]
  have e:s+x.1+qd tl=s+(x.1+qd tl):=by omega
  rw [e]
theorem Ac {T0:Mx} (t:Tab T0 m) {tl:km} (e:d9 [aK T0]=some (.lst (tl.map GF))) (ok:∀ q∈tl,fW T0.length (dY T0) q) (EH:tl.length≤48):cI [aK T0]=some (.lst ((out (nV 0 tl)).map fo)):=by
 have hline:KH=16777216:=Lv
 have b6:=t.w6
 have len:∀ j,(nV 0 (tl.take j)).length≤288:=fun j=>by
  have h1:=BN (s:=0) (tl:=tl.take j) fun q hq=>ok q (L5 hq)
  have h2:(tl.take j).length≤48:=LF (Ry j tl) EH
  have h3:=Nat.mul_le_mul b6 h2
  omega
 refine cU iA ?_
 rw [sS]
 unfold gF
 refine wp_seq (g8 (ds:=(nV 0 (tl.take 0)).map fo) rfl (by simp only [Lo,Mm]; omega) ?_)
 walk_at "st"
 refine wp_seq (bY (d:=.int (qd (tl.take 0))) rfl ?_)
 walk_at "st"
 refine wp_seq (g9 (ds:=tl.map GF) (da (cA (aE rfl rfl) e) rfl) (fun j ρ=>∃ v3 v4 v5:Sl,ρ=[.bo (aK T0),.ol ((nV 0 (tl.take j)).map fo),.pu (.int (qd (tl.take j))),v3,v4,v5]) ⟨_,_,_,rfl⟩ ?_ ?_)
 ·rintro j d ρ hd ⟨v3,v4,v5,rfl⟩
  rw [KO] at hd
  obtain ⟨q,hq,rfl⟩:=LO.mp hd
  have kq:=ok q (LI hq)
  have lq:=B1 kq
  have lj:=len j
  refine ⟨[.bo (aK T0),.ol ((nV 0 (tl.take j)).map fo),.pu (.int (qd (tl.take j))),.pu (.int q.1),.pu (qT q.2),v5],rfl,?_⟩
  rw [take_snoc hq,yC,CF]
  generalize qd (tl.take j)=B
  refine wp_seq (bY (j9 rfl rfl) ?_)
  walk_at "st"
  have e1:∀ ρ:aF,aG 4 ρ=some (qT q.2)→ρ.getD 2 .un=.pu (.int B)→ρ.getD 5 .un=.pu (.int (B+q.1))→cc (bA 2 [2,5] (iG (aG 4)) (DI 2 (cC (gN true 0) (cC (gN true 1) jN))) bP (cc (ax (aG 1) (ax (aG 0) (ax (aG 2) (ax (aG 3) bK)))))) ρ=some (.lst ((q.2.map fun p=>((p.2,p.1,0+B,0+B+q.1):R4)).map fo)):=fun ρ q4 q2 q5=>by
   rw [QU,K6]
   refine bJ (cG kr (da q4 rfl) (fun p=>fo (p.2,p.1,B,B+q.1)) fun p _=>?_)
   unfold r0
   rw [Ld,Ld,NC,q2,q5]
   exact ⟨_,rfl,bJ (aE rfl (aE rfl (aE rfl (aE rfl rfl))))⟩
  refine wp_seq (wA rfl (e1 _ rfl rfl rfl) (by rw [Kw,Kw,Kw]; omega) ?_)
  walk_at "st"
  refine bY rfl ⟨.pu (.int q.1),.pu (qT q.2),.pu (.int (B+q.1)),?_⟩
  rw [Li]
  rfl
 ·rintro ρ ⟨v3,v4,v5,rfl⟩
  rw [Kw,OC]
  have l0:=len tl.length
  rw [OC] at l0
  exact bW (cA (aE rfl rfl) (joined (Ft ok) (by omega))) rfl
section
variable {a b:DE} {ρ:aF} {i j:Int}
theorem GO {p q:aF→Option Bool} (ha:p ρ=some false) (hb:q ρ=some false):Bf p q ρ=some false:=FK (x:=false) (y:=false) ha fun _=>hb
theorem GV {p:aF→Option Bool} (ha:p ρ=some true):vP p ρ=some false:=CS (x:=true) ha
theorem Jw (ha:a ρ=some (.int i)) (hb:b ρ=some (.int j)) (h:j≤i):dT (AV a b) ρ=some false:=by rw [mT (vK ha hb),decide_eq_false (by omega)]
theorem JD (ha:a ρ=some (.int i)) (hb:b ρ=some (.int j)) (h:i<j):dT (Hu a b) ρ=some false:=by rw [mT (FL ha hb),decide_eq_false (by omega)]
theorem Ke (ha:a ρ=some (.int i)) (hb:b ρ=some (.int i)):dT (oO true a b) ρ=some false:=by rw [mT (CT ha hb),decide_eq_false (by omega)]
end
theorem tG {R:α→α→Prop} {l:List α} {y:α} (h:l.Pairwise R) (hy:l[j]?=some y):∀ x∈l.take j,R x y:=fun x hx=>by
 have hj:=(Lj.mp hy).1
 have ed:l=l.take j++y::l.drop (j+1):=by
  rw [← (Lj.mp hy).2,← Lq hj,LS]
 rw [ed] at h
 exact (K8.mp h).2.2 x hx y Ky
theorem Bu {l:List α} {y:α} (hy:l[j]?=some y):y∈l.take (j+1)∧∀ x∈l.take j,x∈l.take (j+1):=by
 rw [Rx,hy]
 exact ⟨KA _ (by simp),fun x hx=>K3 _ hx⟩
theorem IH {xs:List D} {i:Int} {a:Nat} (e:i=(a:Int)) (h:xs[a]?=some d):Cy (.lst xs) i=some d:=by rw [e]; exact Jf h
theorem GB {S:List (Int×Int)} (h:j<S.length):(S.map kr)[j]?=some (kr (S.getD j (0,0))):=by
 rw [KO,Ku,Kv h]; rfl
theorem int_at {L:List Int} {i:Nat} (h:i<L.length):(L.map D.int)[i]?=some (.int (L.getD i 0)):=by
 rw [KO,Ku,Kv h]; rfl
def wu (T:Mx):Mx:=T.map fun r=>Lr r.length 0
theorem DM {T:Mx} {b:Nat} (w:Wd T h b):Wd (wu T) h b:=by
 refine ⟨by unfold wu; rw [Kw,w.len],fun r hr=>?_⟩
 obtain ⟨s,hs,rfl⟩:=K5.mp hr
 rw [LR,w.DC s hs]
theorem Bk (T:Mx) (i j:Nat):cO (wu T) i j=0:=by
 rw [gA]
 unfold wu
 rw [Ku (l:=List.map _ _),KO]
 cases T[i]? with
 | none=>rfl
 | some r =>
  show (Lr r.length 0).getD j 0=0
  rw [Ku,Mg]
  split <;> rfl
def fw (i j:Nat) (r:R4):Int:=if r.w=(i:Int)∧r.b=(j:Int) then r.e-r.s else 0
theorem D3 {fr:List Int} (h:fr.length=6) (le:∀ x∈fr,x≤t) (hm:t∈fr):maxD (.lst (fr.map D.int))=some (.int t):=by
 cases fr with
 | nil=>cases hm
 | cons x r =>
  have e:maxD (.lst ((x::r).map D.int))=some (.int (nY x r)):=ig _ (x::r)
  rw [e]
  have s:=aQ r x
  have a:=le _ s.1
  have c:=s.2 t hm
  exact congrArg (fun z=>some (D.int z)) (by omega)
theorem Ex {T0:Mx} (t:Tab T0 m) {tl:km} (ok:∀ q∈tl,fW T0.length (dY T0) q) (sum:qd tl=dP T0) (cells:∀ i j:Nat,i<T0.length→j<dY T0→gQ i j tl=cO T0 i j) {Q:List R4} (P:Op T0.length (dY T0) tl Q):bu [aK T0,.lst (Q.map fo)]=some (.bl true):=by
 have hline:KH=16777216:=Lv
 have hw:=t.w
 have b6:=t.w6
 have h6:=t.len
 have w0:Wd T0 T0.length (dY T0):=⟨rfl,hw⟩
 have e1:=IG hw (by omega) (by omega)
 have wz:=DM w0
 have el:gM (aK T0)=some (.int (T0.length:Int)):=by
  show some (D.int ((T0.map fun r=>D.lst (r.map D.int)).length:Nat))=_
  rw [Kw]
 refine cU fj ?_
 rw [kB]
 unfold dw
 refine wp_seq (oU (GV (j8 (d:=.bl true) rfl rfl)) (fX ?_))
 refine wp_seq (og (rows:=uG (wu T0)) ?_ (by simp only [Lo,Mm]; omega) ?_)
 ·rw [r8 (fun r=>D.lst (r.map D.int)) (da rfl rfl) (fun (r:List Int)=>(Lr r.length (0:Int)).map D.int) fun r hr=>⟨[.bo (.lst (r.map D.int))],rfl,?_⟩]
  ·unfold uG wu
   rw [K6]
   rfl
  ·have hr':=hw r hr
   rw [CP (i:=(r.length:Int)) rfl (d8 rfl (kU r)) ⟨by omega,by omega,by simp; omega⟩,Mu]
   congr 1
   rw [List.map_replicate]
   exact List.flatten_replicate_singleton
 walk_at "st"
 refine wp_seq (g8 (ds:=(Lr 6 ((-1,-1):Int×Int)).map kr) rfl (by simp only [Lo,Mm]; omega) ?_)
 walk_at "st"
 refine wp_seq (g8 (ds:=(Lr 6 (0:Int)).map D.int) rfl (by simp only [Lo,Mm]; omega) ?_)
 walk_at "st"
 refine wp_seq (bY (d:=kr (-1,-1)) (bJ (aE (xT rfl) (aE (xT rfl) rfl))) ?_)
 walk_at "st"
 refine wp_seq (g9 (ds:=Q.map fo) (da rfl rfl) (fun j ρ=>∃ (M:Mx) (ls:List (Int×Int)) (fr:List Int) (ah:Int×Int) (v6 v7 v8 v9 v10:Sl),Wd M T0.length (dY T0)∧(∀ i k:Nat,i<T0.length→k<dY T0→cO M i k=SM (Q.take j) (fw i k))∧ls.length=6∧fr.length=6∧(∀ c,c<6→ls.getD c (0,0)=(-1,-1)∨∃ r∈Q.take j,r.b=(c:Int)∧ls.getD c (0,0)=(r.w,r.e))∧(∀ i,i<6→fr.getD i 0=0∨∃ r∈Q.take j,r.w=(i:Int)∧fr.getD i 0=r.e)∧(∀ r∈Q.take j,r.e≤fr.getD r.w.toNat 0)∧(ah=(-1,-1)∨∃ r∈Q.take j,ah=(r.s,r.b))∧ρ=[.bo (aK T0),.pu (.lst (Q.map fo)),.om (uG M),.ol (ls.map kr),.ol (fr.map D.int),.pu (kr ah),v6,v7,v8,v9,v10]) ⟨wu T0,Lr 6 (-1,-1),Lr 6 0,(-1,-1),_,_,_,_,_,wz,fun i k _ _=>Bk T0 i k,LR,LR,fun c hc=>.inl (by rw [Ku,Mg,if_pos hc]; rfl),fun i hi=>.inl (by rw [Ku,Mg,if_pos hi]; rfl),(fun r hr=>by cases hr),.inl rfl,rfl⟩ ?_ ?_)
 ·rintro j d ρ hd ⟨M,ls,fr,ah,v6,v7,v8,v9,v10,wM,cM,hll,hfl,hls,hfr,hle,hah,rfl⟩
  rw [KO] at hd
  obtain ⟨r,hr,rfl⟩:=LO.mp hd
  obtain ⟨aw,ab,a1,a2,a3⟩:=P.all r (LI hr)
  have aw:=aq.mp aw
  have ab:=aq.mp ab
  have pu:=tG P.up hr
  have pb:=tG P.bj hr
  have pw:=tG P.wj hr
  have no:∀ x∈Q.take j,¬ Nx x r:=fun x hx=>P.no x (L5 hx) r (LI hr)
  have pos:∀ x∈Q.take j,x.s<x.e∧0≤x.w:=fun x hx=>by
   obtain ⟨q1,_,_,q2,_⟩:=P.all x (L5 hx)
   exact ⟨q2,(aq.mp q1).1⟩
  obtain ⟨c,hc⟩:∃ c:Nat,r.b=(c:Int):=⟨r.b.toNat,by omega⟩
  obtain ⟨i,hi⟩:∃ i:Nat,r.w=(i:Int):=⟨r.w.toNat,by omega⟩
  have hcb:c<dY T0:=by omega
  have hih:i<T0.length:=by omega
  have hl0:0<T0.length:=by omega
  obtain ⟨tm,tk⟩:=Bu hr
  refine ⟨[.bo (aK T0),.pu (.lst (Q.map fo)),.om (uG M),.ol (ls.map kr),.ol (fr.map D.int),.pu (kr ah),.pu (fo r),v7,v8,v9,v10],rfl,?_⟩
  refine wp_seq (oU (GO (GV (j8 (d:=.bl true) rfl rfl)) (GO (Ke (i:=4) (d8 rfl rfl) rfl) (GV (j8 (zB (xs:=zR r) rfl) rfl)))) (fX ?_))
  refine wp_seq (HX (d:=fo r) rfl rfl ?_)
  dsimp only [gN,Bd,K2,KZ]
  have ew:Cy (aK T0) 0=some (.lst ((T0.getD 0 []).map D.int)):=Jf (tD (T:=T0) (i:=0) hl0)
  refine wp_seq (oU (GO (Jw rfl rfl aw.1) (GO (JD rfl (d8 rfl el) aw.2) (GO (Jw rfl rfl ab.1) (JD rfl (d8 (cm rfl rfl ew) (kU _)) (by rw [w0.row hl0]; exact ab.2))))) (fX ?_))
  have exL:∀ ρ:aF,ag 3 ρ=some (.lst (ls.map kr))→ag 7 ρ=some (.int r.b)→dt (ag 3) (ag 7) ρ=some (kr (ls.getD c (0,0))):=fun ρ q1 q2=>cm q1 q2 (IH (a:=c) hc (GB (by omega)))
  have hlb:(ls.getD c (0,0)).2≤r.s∧((ls.getD c (0,0)).1=r.w→(ls.getD c (0,0)).2≠r.s):=by
   rcases hls c (by omega) with z | ⟨x,hx,z1,z2⟩
   ·rw [z]
    show -1≤r.s∧((-1:Int)=r.w→(-1:Int)≠r.s)
    omega
   ·rw [z2]
    show x.e≤r.s∧(x.w=r.w→x.e≠r.s)
    have q1:=pu x hx
    have q2:=pb x hx (by show x.b=r.b; omega)
    have q3:=pos x hx
    unfold HW at q1
    exact ⟨by omega,fun w1 w2=>no x hx ⟨by omega,w1.symm,w2.symm⟩⟩
  have hfw:fr.getD i 0≤r.s:=by
   rcases hfr i (by omega) with z | ⟨x,hx,z1,z2⟩
   ·omega
   ·rw [z2]
    have q1:=pu x hx
    have q2:=pw x hx (by show x.w=r.w; omega)
    have q3:=pos x hx
    unfold HW at q1
    omega
  have hlx:lexLe [r.s,r.b] [ah.1,ah.2]=false:=by
   unfold lexLe
   rcases hah with z | ⟨x,hx,z⟩
   ·rw [z]
    show (if r.s=-1 then _ else decide (r.s≤-1))=false
    rw [if_neg (by omega)]
    exact decide_eq_false (by omega)
   ·rw [z]
    have q1:=pu x hx
    have q2:=pb x hx
    have q3:=pos x hx
    unfold HW at q1
    show (if r.s=x.s then lexLe [r.b] [x.b] else decide (r.s≤x.s))=false
    by_cases e:r.s=x.s
    ·rw [if_pos e]
     show (if r.b=x.b then _ else decide (r.b≤x.b))=false
     have:r.b≠x.b:=fun w=>by
      have:=q2 w.symm
      omega
     rw [if_neg this]
     exact decide_eq_false (by omega)
    ·rw [if_neg e]
     exact decide_eq_false (by omega)
  refine wp_seq (oU (GO ?_ (GO (JD rfl rfl a2) (Jw rfl (zc (cm (exL _ rfl rfl) rfl rfl) (cm rfl rfl (IH (a:=i) hi (int_at (by omega))))) (by omega)))) (fX ?_))
  ·rw [mT (Ho (ns:=[r.s,r.b]) (ms:=[ah.1,ah.2]) rfl rfl rfl),hlx]
  refine wp_seq (oU ?_ (fX ?_))
  ·have ne:kr (ls.getD c (0,0))≠D.lst [.int r.w,.int r.s]:=fun w=>by
    have w:D.lst [.int (ls.getD c (0,0)).1,.int (ls.getD c (0,0)).2]=D.lst [.int r.w,.int r.s]:=w
    injection w with w
    injection w with w1 w2
    injection w1 with w1
    injection w2 with w2 _
    injection w2 with w2
    exact hlb.2 w1 w2
   rw [mT (CY (neg:=false) (exL _ rfl rfl) (bJ (aE rfl (aE rfl rfl))) rfl)]
   simp only [MI,if_false,ne,decide_false]
  refine wp_seq (bY (d:=kr (r.s,r.b)) (bJ (aE rfl (aE rfl rfl))) ?_)
  walk_at "st"
  refine wp_seq (wx (n:=r.b) (j:=c) (d:=kr (r.w,r.e)) rfl (bJ (aE rfl (aE rfl rfl))) rfl (by rw [Kw,hc,hll,fS (by omega) (by omega)]; simp) ?_)
  walk_at "st"
  refine wp_seq (wx (n:=r.w) (j:=i) (d:=.int r.e) rfl rfl rfl (by rw [Kw,hi,hfl,fS (by omega) (by omega)]; simp) ?_)
  walk_at "st"
  have hlM:=wM.len
  have hrM:=wM.row (i:=i) hih
  have ecell:∀ (v3 v4 v5 v6:Sl),dt (dt (ag 2) (ag 8)) (ag 7) [.bo (aK T0),.pu (.lst (Q.map fo)),.om (uG M),v3,v4,v5,v6,.pu (.int r.b),.pu (.int r.w),.pu (.int r.s),.pu (.int r.e)]=some (.int (cO M i c)):=fun v3 v4 v5 v6=>uv wM hih hcb (congrArg some (Cg M)) (by rw [← hi]; rfl) (by rw [← hc]; rfl)
  refine yf (n:=r.w) (m:=r.b) (r:=i) (j:=c) (ds:=(M.getD i []).map D.int) (d:=.int (cO M i c+r.e-r.s)) rfl (uc (j9 (ecell ..) rfl) rfl) rfl (by rw [yR,hi,fS (by omega) (by omega)]; simp) (yS (by omega)) rfl (by rw [Kw,hc,fS (by omega) (by omega)]; simp) ?_
  walk_at "st"
  refine ⟨wH M i c (cO M i c+r.e-r.s),ls.set c (r.w,r.e),fr.set i r.e,(r.s,r.b),_,_,_,_,_,wM.wH hih,fun i' k' hi' hk'=>?_,by rw [MC]; exact hll,by rw [MC]; exact hfl,fun c' hc'=>?_,fun i' hi'=>?_,fun x hx=>?_,.inr ⟨r,tm,rfl⟩,by rw [Cf,u6,show (ls.map kr).set c (kr (r.w,r.e))=(ls.set c (r.w,r.e)).map kr from QV.symm]⟩
  ·rw [zl wM hih hcb,DU _ hr,← cM i' k' hi' hk']
   unfold fw
   by_cases q:i'=i∧k'=c
   ·rw [if_pos q,if_pos (by omega),q.1,q.2]
    omega
   ·rw [if_neg q,if_neg (by omega),QT]
  ·rw [Ku,So]
   by_cases q:c=c'
   ·subst q
    rw [if_pos rfl,if_pos (by omega)]
    exact .inr ⟨r,tm,hc,rfl⟩
   ·rw [if_neg q,← Ku]
    rcases hls c' hc' with z | ⟨x,hx,z⟩
    ·exact .inl z
    ·exact .inr ⟨x,tk x hx,z⟩
  ·rw [rZ (by omega)]
   by_cases q:i'=i
   ·subst q
    rw [if_pos rfl]
    exact .inr ⟨r,tm,hi,rfl⟩
   ·rw [if_neg q]
    rcases hfr i' hi' with z | ⟨x,hx,z⟩
    ·exact .inl z
    ·exact .inr ⟨x,tk x hx,z⟩
  ·rw [rZ (by omega)]
   rw [take_snoc hr] at hx
   rcases KS.mp hx with z | z
   ·have l:=hle x z
    by_cases q:x.w.toNat=i
    ·rw [if_pos q]
     rw [q] at l
     omega
    ·rw [if_neg q]
     exact l
   ·rw [Kz.mp z,if_pos (by omega)]
    exact Mh _
 ·rintro ρ ⟨M,ls,fr,ah,v6,v7,v8,v9,v10,wM,cM,hll,hfl,hls,hfr,hle,hah,rfl⟩
  rw [Kw,OC] at *
  have eM:M=T0:=GX wM w0 fun i j hi hj=>by
   rw [cM i j hi hj,← cells i j hi hj]
   exact P.sum i j
  have hup:∀ x∈fr,x≤dP T0:=fun x hx=>by
   obtain ⟨i,hi,e⟩:=PD hx
   have eg:fr.getD i 0=x:=by
    rw [Ku,Kv hi,e]
    rfl
   have t0:0≤dP T0:=(aQ (cH T0++cols T0) 0).2 0 Ky
   rcases hfr i (by omega) with z | ⟨r,hr,_,z⟩
   ·omega
   ·have:=(P.all r hr).2.2.2.2
    omega
  have htop:dP T0∈fr:=by
   have t0:0≤dP T0:=(aQ (cH T0++cols T0) 0).2 0 Ky
   by_cases c:0<dP T0
   ·obtain ⟨r,hr,e⟩:=DT t ok sum cells c
    obtain ⟨z,hz,hl⟩:=P.top r hr
    have az:=P.all z hz
    have aw:=aq.mp az.1
    have l:=hle z hz
    have hm:fr.getD z.w.toNat 0∈fr:=mem_getD (by omega)
    have u:=hup _ hm
    have:fr.getD z.w.toNat 0=dP T0:=by omega
    rw [this] at hm
    exact hm
   ·have hm:fr.getD 0 0∈fr:=mem_getD (by omega)
    have u:=hup _ hm
    have:fr.getD 0 0=dP T0:=by
     rcases hfr 0 (by omega) with z | ⟨r,hr,_,z⟩
     ·omega
     ·have:=(P.all r hr).2.2
      omega
    rw [this] at hm
    exact hm
  rw [eM]
  exact bW (js (x:=true) (y:=true) (mU (d:=aK T0) (congrArg some (Cg T0)) rfl (vS T0 T0)) fun _=>mU (d8 rfl (D3 hfl hup htop)) (cA (aE rfl rfl) e1) rfl) rfl
theorem Ct (ns:List Int) (hl:ns.length≤63) (hb:∀ m∈ns,MQ m≤1048576):sH [.scr ns]=some (.bl true):=by
 obtain ⟨T,m,e,hT⟩:=table ns hl
 obtain ⟨tl,e1,h1,h2,h3,h4⟩:=GD hT
 have e2:=Ac hT e1 h1 h2
 have e3:=Ex hT h1 h3 h4 (op h1)
 refine cU sG ?_
 rw [Gf]
 unfold zz
 refine wp_seq (bY (cA (aE rfl rfl) e) ?_)
 dsimp only [K2,KZ]
 refine wp_seq (bY (ET rfl) ?_)
 dsimp only [K2,KZ]
 exact bW (js (x:=true) (y:=true) (cA (aE rfl (aE (cA (aE rfl rfl) e2) rfl)) e3) fun _=>mU rfl rfl (vS T T)) rfl
instance (priority:=high) tabsI:bD:=⟨[((62:KI),("joined.<locals>.<lambda>" : LV))]⟩
abbrev LkF (K:KC) (f:KI) (oc:KD) (od:Option KI) (n q:LV) (s:NZ) (kV dc pm:KD) (an:Option KI) (cd ct:KD) (sl:Array (Option KD)):Prop:=K.lookup f=some ⟨oc,od,.func (Oz n q (ll s) (fK s) (aB s) .none kV dc pm an cd ct),sl⟩
set_option autoImplicit true in
set_option relaxedAutoImplicit true in
open PySem.W in
theorem all_mk {K:Frag} {h:ME} {mg:LV→Option KD} {fa:KI} (X:K.In h) (G:h.Ns Lf mg) (hfa:mg "law" = some (.ref fa))
 (a0:Og K Lf "loads" = some (some (.ref f0))) (l0:LkF K f0 oc0 od0 "loads" "loads" oy kV0 dc0 pm0 an0 cd0 ct0 sl0) (c0:NO K cd0 "loads" = true) (k0:NP K (.ref f0)=true)
 (a1:Og K Lf "open_end" = some (some (.ref f1))) (l1:LkF K f1 oc1 od1 "open_end" "open_end" hZ kV1 dc1 pm1 an1 cd1 ct1 sl1) (c1:NO K cd1 "open_end" = true) (k1:NP K (.ref f1)=true)
 (a2:Og K Lf "phases" = some (some (.ref f2))) (l2:LkF K f2 oc2 od2 "phases" "phases" kD kV2 dc2 pm2 an2 cd2 ct2 sl2) (c2:NO K cd2 "phases" = true) (k2:NP K (.ref f2)=true)
 (a3:Og K Lf "urgent_pairs" = some (some (.ref f3))) (l3:LkF K f3 oc3 od3 "urgent_pairs" "urgent_pairs" d6 kV3 dc3 pm3 an3 cd3 ct3 sl3) (c3:NO K cd3 "urgent_pairs" = true) (k3:NP K (.ref f3)=true)
 (a4:Og K Lf "offers" = some (some (.ref f4))) (l4:LkF K f4 oc4 od4 "offers" "offers" kE kV4 dc4 pm4 an4 cd4 ct4 sl4) (c4:NO K cd4 "offers" = true) (k4:NP K (.ref f4)=true)
 (a5:Og K Lf "taker_of_each" = some (some (.ref f5))) (l5:LkF K f5 oc5 od5 "taker_of_each" "taker_of_each" dH kV5 dc5 pm5 an5 cd5 ct5 sl5) (c5:NO K cd5 "taker_of_each" = true) (k5:NP K (.ref f5)=true)
 (a6:Og K Lf "take_one" = some (some (.ref f6))) (l6:LkF K f6 oc6 od6 "take_one" "take_one" fO kV6 dc6 pm6 an6 cd6 ct6 sl6) (c6:NO K cd6 "take_one" = true) (k6:NP K (.ref f6)=true)
 (a7:Og K Lf "longest_hours" = some (some (.ref f7))) (l7:LkF K f7 oc7 od7 "longest_hours" "longest_hours" dI kV7 dc7 pm7 an7 cd7 ct7 sl7) (c7:NO K cd7 "longest_hours" = true) (k7:NP K (.ref f7)=true)
 (a8:Og K Lf "joined" = some (some (.ref f8))) (l8:LkF K f8 oc8 od8 "joined" "joined" kH kV8 dc8 pm8 an8 cd8 ct8 sl8) (c8:NO K cd8 "joined" = true) (k8:NP K (.ref f8)=true)
 (a9:Og K Lf "goes_on" = some (some (.ref f9))) (l9:LkF K f9 oc9 od9 "goes_on" "goes_on" jo kV9 dc9 pm9 an9 cd9 ct9 sl9) (c9:NO K cd9 "goes_on" = true) (k9:NP K (.ref f9)=true)
 (a10:Og K Lf "open_plan" = some (some (.ref f10))) (l10:LkF K f10 oc10 od10 "open_plan" "open_plan" gh kV10 dc10 pm10 an10 cd10 ct10 sl10) (c10:NO K cd10 "open_plan" = true) (k10:NP K (.ref f10)=true)
 (a11:Og K Lf "_law_whole" = some (some (.ref f11))) (l11:LkF K f11 oc11 od11 "_law_whole" "_law_whole" jj kV11 dc11 pm11 an11 cd11 ct11 sl11) (c11:NO K cd11 "_law_whole" = true) (k11:NP K (.ref f11)=true)
 (a12:Og K Lf "_law_cell_at" = some (some (.ref f12))) (l12:LkF K f12 oc12 od12 "_law_cell_at" "_law_cell_at" gm kV12 dc12 pm12 an12 cd12 ct12 sl12) (c12:NO K cd12 "_law_cell_at" = true) (k12:NP K (.ref f12)=true)
 (a13:Og K Lf "_law_mixed" = some (some (.ref f13))) (l13:LkF K f13 oc13 od13 "_law_mixed" "_law_mixed" jl kV13 dc13 pm13 an13 cd13 ct13 sl13) (c13:NO K cd13 "_law_mixed" = true) (k13:NP K (.ref f13)=true)
 (a14:Og K Lf "_law_numbers" = some (some (.ref f14))) (l14:LkF K f14 oc14 od14 "_law_numbers" "_law_numbers" gj kV14 dc14 pm14 an14 cd14 ct14 sl14) (c14:NO K cd14 "_law_numbers" = true) (k14:NP K (.ref f14)=true)
 (a15:Og K Lf "_law_size" = some (some (.ref f15))) (l15:LkF K f15 oc15 od15 "_law_size" "_law_size" kG kV15 dc15 pm15 an15 cd15 ct15 sl15) (c15:NO K cd15 "_law_size" = true) (k15:NP K (.ref f15)=true)
 (a16:Og K Lf "_law_hours" = some (some (.ref f16))) (l16:LkF K f16 oc16 od16 "_law_hours" "_law_hours" jm kV16 dc16 pm16 an16 cd16 ct16 sl16) (c16:NO K cd16 "_law_hours" = true) (k16:NP K (.ref f16)=true)
 (a17:Og K Lf "_law_table" = some (some (.ref f17))) (l17:LkF K f17 oc17 od17 "_law_table" "_law_table" jk kV17 dc17 pm17 an17 cd17 ct17 sl17) (c17:NO K cd17 "_law_table" = true) (k17:NP K (.ref f17)=true)
 (a18:Og K Lf "_law_sums" = some (some (.ref f18))) (l18:LkF K f18 oc18 od18 "_law_sums" "_law_sums" kF kV18 dc18 pm18 an18 cd18 ct18 sl18) (c18:NO K cd18 "_law_sums" = true) (k18:NP K (.ref f18)=true)
 (a19:Og K Lf "_law_end" = some (some (.ref f19))) (l19:LkF K f19 oc19 od19 "_law_end" "_law_end" oA kV19 dc19 pm19 an19 cd19 ct19 sl19) (c19:NO K cd19 "_law_end" = true) (k19:NP K (.ref f19)=true)
 (a20:Og K Lf "_law_is_open_plan" = some (some (.ref f20))) (l20:LkF K f20 oc20 od20 "_law_is_open_plan" "_law_is_open_plan" dm kV20 dc20 pm20 an20 cd20 ct20 sl20) (c20:NO K cd20 "_law_is_open_plan" = true) (k20:NP K (.ref f20)=true)
 (a21:Og K Lf "law" = some (some (.ref f21))) (l21:LkF K f21 oc21 od21 "law" "law" yB kV21 dc21 pm21 an21 cd21 ct21 sl21) (c21:NO K cd21 "law" = true) (k21:NP K (.ref f21)=true)
 (z_all:Og K Lf "all" = some none)
 (z_bool:Og K Lf "bool" = some none)
 (z_enumerate:Og K Lf "enumerate" = some none)
 (z_int:Og K Lf "int" = some none)
 (z_isinstance:Og K Lf "isinstance" = some none)
 (z_len:Og K Lf "len" = some none)
 (z_list:Og K Lf "list" = some none)
 (z_max:Og K Lf "max" = some none)
 (z_min:Og K Lf "min" = some none)
 (z_range:Og K Lf "range" = some none)
 (z_sorted:Og K Lf "sorted" = some none)
 (z_sum:Og K Lf "sum" = some none)
 (c_BEGIN:Og K Lf "BEGIN" = some (some (.int 2 t_BEGIN)))
 (c_BENCH:Og K Lf "BENCH" = some (some (.int 0 t_BENCH)))
 (c_END:Og K Lf "END" = some (some (.int 3 t_END)))
 (c_WORK:Og K Lf "WORK" = some (some (.int 1 t_WORK)))
 (e_joined:cd8=.ref 66) (h_joined:codeHdIn K 66 62=true) (tb_joined:((62:KI),("joined.<locals>.<lambda>" : LV))∈bD.ts) :
 ∃ a:Jl,Txt K mg a∧a.vJ=fa∧∀ (s:KJ) (v:KD),RB s a.se ⟨[v],[]⟩ [("_law_script", v)]:=by
 have e:=hfa.symm.trans (NX X G a21)
 cases e
 have F0:=cx (st:=oy) l0 c0 k0
 have F1:=cx (st:=hZ) l1 c1 k1
 have F2:=cx (st:=kD) l2 c2 k2
 have F3:=cx (st:=d6) l3 c3 k3
 have F4:=cx (st:=kE) l4 c4 k4
 have F5:=cx (st:=dH) l5 c5 k5
 have F6:=cx (st:=fO) l6 c6 k6
 have F7:=cx (st:=dI) l7 c7 k7
 have F8:=cx (st:=kH) l8 c8 k8
 have F9:=cx (st:=jo) l9 c9 k9
 have F10:=cx (st:=gh) l10 c10 k10
 have F11:=cx (st:=jj) l11 c11 k11
 have F12:=cx (st:=gm) l12 c12 k12
 have F13:=cx (st:=jl) l13 c13 k13
 have F14:=cx (st:=gj) l14 c14 k14
 have F15:=cx (st:=kG) l15 c15 k15
 have F16:=cx (st:=jm) l16 c16 k16
 have F17:=cx (st:=jk) l17 c17 k17
 have F18:=cx (st:=kF) l18 c18 k18
 have F19:=cx (st:=oA) l19 c19 k19
 have F20:=cx (st:=dm) l20 c20 k20
 have F21:=cx (st:=yB) l21 c21 k21
 have b0:=F0.binds (ps:=["table"]) fun _ _ _ _ _ _ us hl=>match us,hl with | [_],_=>rfl
 have b1:=F1.binds (ps:=["table"]) fun _ _ _ _ _ _ us hl=>match us,hl with | [_],_=>rfl
 have b2:=F2.binds (ps:=["table"]) fun _ _ _ _ _ _ us hl=>match us,hl with | [_],_=>rfl
 have b3:=F3.binds (ps:=["left", "rest"]) fun _ _ _ _ _ _ us hl=>match us,hl with | [_,_],_=>rfl
 have b4:=F4.binds (ps:=["left", "rest"]) fun _ _ _ _ _ _ us hl=>match us,hl with | [_,_],_=>rfl
 have b5:=F5.binds (ps:=["offered"]) fun _ _ _ _ _ _ us hl=>match us,hl with | [_],_=>rfl
 have b6:=F6.binds (ps:=["offered", "taker", "takers", "asked"]) fun _ _ _ _ _ _ us hl=>match us,hl with | [_,_,_,_],_=>rfl
 have b7:=F7.binds (ps:=["left", "rest", "pairs"]) fun _ _ _ _ _ _ us hl=>match us,hl with | [_,_,_],_=>rfl
 have b8:=F8.binds (ps:=["rows"]) fun _ _ _ _ _ _ us hl=>match us,hl with | [_],_=>rfl
 have b9:=F9.binds (ps:=["row", "later"]) fun _ _ _ _ _ _ us hl=>match us,hl with | [_,_],_=>rfl
 have b10:=F10.binds (ps:=["table"]) fun _ _ _ _ _ _ us hl=>match us,hl with | [_],_=>rfl
 have b11:=F11.binds (ps:=["_law_found"]) fun _ _ _ _ _ _ us hl=>match us,hl with | [_],_=>rfl
 have b12:=F12.binds (ps:=["_law_script", "_law_k"]) fun _ _ _ _ _ _ us hl=>match us,hl with | [_,_],_=>rfl
 have b13:=F13.binds (ps:=["_law_cell", "_law_k"]) fun _ _ _ _ _ _ us hl=>match us,hl with | [_,_],_=>rfl
 have b14:=F14.binds (ps:=["_law_script"]) fun _ _ _ _ _ _ us hl=>match us,hl with | [_],_=>rfl
 have b15:=F15.binds (ps:=["_law_cell"]) fun _ _ _ _ _ _ us hl=>match us,hl with | [_],_=>rfl
 have b16:=F16.binds (ps:=["_law_number", "_law_mode"]) fun _ _ _ _ _ _ us hl=>match us,hl with | [_,_],_=>rfl
 have b17:=F17.binds (ps:=["_law_script"]) fun _ _ _ _ _ _ us hl=>match us,hl with | [_],_=>rfl
 have b18:=F18.binds (ps:=["_law_table_here"]) fun _ _ _ _ _ _ us hl=>match us,hl with | [_],_=>rfl
 have b19:=F19.binds (ps:=["_law_table_here"]) fun _ _ _ _ _ _ us hl=>match us,hl with | [_],_=>rfl
 have b20:=F20.binds (ps:=["_law_table_here", "_law_rows"]) fun _ _ _ _ _ _ us hl=>match us,hl with | [_,_],_=>rfl
 have b21:=F21.binds (ps:=["_law_script"]) fun _ _ _ _ _ _ us hl=>match us,hl with | [_],_=>rfl
 exact ⟨⟨f0,_,f1,_,f2,_,f3,_,f4,_,f5,_,f6,_,f7,_,f8,_,f9,_,f10,_,f11,_,f12,_,f13,_,f14,_,f15,_,f16,_,f17,_,f18,_,f19,_,f20,_,f21,_,66,62⟩,⟨F0,b0,NX X G a0,F1,b1,NX X G a1,F2,b2,NX X G a2,F3,b3,NX X G a3,F4,b4,NX X G a4,F5,b5,NX X G a5,F6,b6,NX X G a6,F7,b7,NX X G a7,F8,b8,NX X G a8,F9,b9,NX X G a9,F10,b10,NX X G a10,F11,b11,NX X G a11,F12,b12,NX X G a12,F13,b13,NX X G a13,F14,b14,NX X G a14,F15,b15,NX X G a15,F16,b16,NX X G a16,F17,b17,NX X G a17,F18,b18,NX X G a18,F19,b19,NX X G a19,F20,b20,NX X G a20,F21,b21,NX X G a21,e_joined,h_joined,tb_joined,Ny X G z_all,Ny X G z_bool,Ny X G z_enumerate,Ny X G z_int,Ny X G z_isinstance,Ny X G z_len,Ny X G z_list,Ny X G z_max,Ny X G z_min,Ny X G z_range,Ny X G z_sorted,Ny X G z_sum,⟨_,NX X G c_BEGIN⟩,⟨_,NX X G c_BENCH⟩,⟨_,NX X G c_END⟩,⟨_,NX X G c_WORK⟩⟩,rfl,fun s v=>.of_eq rfl⟩
theorem mK {p:KI} {q:LV}:∀ {l:List (KI×LV)},l.lookup p=some q→(p,q)∈l
 | [],h=>by cases h
 | (a,b)::l,h=>by
  rw [NS] at h
  cases e:p==a with
  | true=>rw [e] at h; cases h; rw [beq_iff_eq.mp e]; exact Ky
  | false=>rw [e] at h; exact Kx _ (mK h)
theorem walk {l:SQ} {q:L0} {loose:List LV} {XP:(LV→Option KD)→ME→Prop} {YP:L9→ME→Prop} {d:DefRec} {K:Params→KC} (hn:l.most=some 63) (hdf:d.params.defaults=[])
 (hY:∀ (w:L9) (h:ME),YP w h→(K w.params).In h) (hT0:∀ (w:L9) (h:ME),YP w h→h.get? 62=some (Rw #[])) (hN0:∀ w:L9,(K w.params).lookup 62=none) (hC0:∀ w:L9,Pf (K w.params) 66 62=true)
 (F:∀ (w:L9) (mg:LV→Option KD) (fa:KI) (h:ME),(K w.params).In h→h.Ns Lf mg→mg d.name=some (.ref fa)→∃ a:Jl,Txt (K w.params) mg a∧a.vJ=fa∧∀ (s:KJ) (v:KD),RB s a.se ⟨[v],[]⟩ [("_law_script", v)]) :
 Tn q loose XP YP l.row.toRowW d [] (fun f vs=>PySem.call f vs) :=
 L2.Bp (n:=63) (k:=20) (x := "_law_script") (CX:=fun _=>jJ) (sp:=fun w=>BD (K w.params)) [((62:KI),("joined.<locals>.<lambda>" : LV))] hn (by decide) hdf ⟨rfl,by decide,by decide⟩ hY
  (fun w h Y p q e=>by
   have m:=mK e; simp only [KP,Tp,NR,or_false] at m; rcases m with ⟨rfl,_⟩
   ·exact hT0 w h Y)
  (fun w p q e=>by
   have m:=mK e; simp only [KP,Tp,NR,or_false] at m; rcases m with ⟨rfl,_⟩
   ·exact ⟨hN0 w,66,hC0 w⟩)
  (fun w mg fa h KX G e=>by
   obtain ⟨a,T,rfl,hb⟩:=F w mg fa h KX G e
   exact ⟨a.se,hb,fun base kb nb bm=>(GS T bm).imp fun vs H Q E h=>zS Ct h⟩)
  (fun _ H a ns hl hbits ht hS=>⟨a,ns,rfl,hS,hl,hbits,(fun p hp=>by
   have m:p∈([((62:KI),("joined.<locals>.<lambda>" : LV))]:List (KI×LV)):=hp
   simp only [KP,NR,or_false] at m
   rcases m with rfl
   ·exact ⟨0,ht _ _ (by first | rfl | simp)⟩),fun _=>rfl⟩) fun _ _ _ _ _ z=>z
end
end My
namespace PySem.W.Fast
theorem tw16827720009876832894:True:=⟨⟩
theorem tw16556319261428921450:True:=⟨⟩
theorem tw16799211837008637216:True:=⟨⟩
theorem tw6154831327420066081:True:=⟨⟩
theorem tw5302313552534585025:True:=⟨⟩
theorem tw4073082143554702114:True:=⟨⟩
theorem tw4929313876836698820:True:=⟨⟩
theorem tw418217193172294661:True:=⟨⟩
theorem tw18149825809355011877:True:=⟨⟩
theorem tw16684427547833956006:True:=⟨⟩
theorem tw1040281459358414375:True:=⟨⟩
theorem tw13520011159014624969:True:=⟨⟩
theorem tw10527774291029249130:True:=⟨⟩
theorem tw15505554226512552331:True:=⟨⟩
theorem tw10418954859879189387:True:=⟨⟩
theorem tw12385780868822223181:True:=⟨⟩
theorem tw12211616949319569197:True:=⟨⟩
theorem tw5484713149758246127:True:=⟨⟩
theorem tw14961241229524299665:True:=⟨⟩
theorem tw7545170495782621394:True:=⟨⟩
theorem tw15851647563368760659:True:=⟨⟩
theorem tw1417952459638450163:True:=⟨⟩
theorem tw11733517918954034964:True:=⟨⟩
theorem tw11230506620722485302:True:=⟨⟩
theorem tw6051794810008522297:True:=⟨⟩
theorem tw8526896554494832281:True:=⟨⟩
theorem tw3352460139304382170:True:=⟨⟩
theorem tw6733145345188572219:True:=⟨⟩
theorem tw12614992008597370363:True:=⟨⟩
theorem tw11523900879590598523:True:=⟨⟩
theorem tw4089538579414794492:True:=⟨⟩
theorem tw2460528477507173852:True:=⟨⟩
theorem tw15812527959077000188:True:=⟨⟩
theorem tw8373691311958789469:True:=⟨⟩
theorem tw1626307291859484734:True:=⟨⟩
theorem tw9784797033361436862:True:=⟨⟩
theorem tw15327531338236907422:True:=⟨⟩
end PySem.W.Fast
open PySem PySem.W PyProof.Rows
set_option maxRecDepth 100000 in
set_option maxHeartbeats 0 in
theorem PySem.Challenge.cw_leastfloor_k23_whole_open_plan_holds : PySem.Challenge.rw_leastfloor_k23_whole_open_plan.Holds := by
  w_on; o_law; k_head; (case hw => w_witness2)
  k_fill
  refine My.walk (l := PySem.Challenge.rw_leastfloor_k23_whole_open_plan) rfl rfl (fun w h Y => by first | exact PySem.W.kIn_of Y | exact PySem.W.km_in_of Y) (fun w h Y => PySem.W.km_tabs_of Y _ (by k_mem)) (fun w => by kernel_rfl) (fun w => by kernel_rfl) ?F
  case F =>
    intro w mg fa h KX G hmg
    refine' My.all_mk KX G hmg ?a0 ?l0 ?c0 ?k0 ?a1 ?l1 ?c1 ?k1 ?a2 ?l2 ?c2 ?k2 ?a3 ?l3 ?c3 ?k3 ?a4 ?l4 ?c4 ?k4 ?a5 ?l5 ?c5 ?k5 ?a6 ?l6 ?c6 ?k6 ?a7 ?l7 ?c7 ?k7 ?a8 ?l8 ?c8 ?k8 ?a9 ?l9 ?c9 ?k9 ?a10 ?l10 ?c10 ?k10 ?a11 ?l11 ?c11 ?k11 ?a12 ?l12 ?c12 ?k12 ?a13 ?l13 ?c13 ?k13 ?a14 ?l14 ?c14 ?k14 ?a15 ?l15 ?c15 ?k15 ?a16 ?l16 ?c16 ?k16 ?a17 ?l17 ?c17 ?k17 ?a18 ?l18 ?c18 ?k18 ?a19 ?l19 ?c19 ?k19 ?a20 ?l20 ?c20 ?k20 ?a21 ?l21 ?c21 ?k21 ?z_all ?z_bool ?z_enumerate ?z_int ?z_isinstance ?z_len ?z_list ?z_max ?z_min ?z_range ?z_sorted ?z_sum ?c_BEGIN ?c_BENCH ?c_END ?c_WORK ?e_joined ?h_joined ?tb_joined
    all_goals try unfold My.LkF
    case a0|l0|c0|k0|a1|l1|c1|k1|a2|l2|c2|k2|a3|l3|c3|k3|a4|l4|c4|k4|a5|l5|c5|k5|a6|l6|c6|k6|a7|l7|c7|k7|a8|l8|c8|k8|a9|l9|c9|k9 => k_is
    case a10|l10|c10|k10|a11|l11|c11|k11|a12|l12|c12|k12|a13|l13|c13|k13|a14|l14|c14|k14|a15|l15|c15|k15|a16|l16|c16|k16|a17|l17|c17|k17|a18|l18|c18|k18|a19|l19|c19|k19 => k_is
    case a20|l20|c20|k20|a21|l21|c21|k21|z_all|z_bool|z_enumerate|z_int|z_isinstance|z_len|z_list|z_max|z_min|z_range|z_sorted|z_sum|c_BEGIN|c_BENCH|c_END|c_WORK => k_is
    case e_joined => rfl
    case h_joined => kernel_rfl
    case tb_joined => exact List.mem_cons_self
#print axioms PySem.Challenge.cw_leastfloor_k23_whole_open_plan_holds
