import PyProof.Rows.All
import Wide.All
import OpenK.AllK
import Wide.FinOn
import Lean
import PyProof.EqAt
import PyProof.EqKinds
import PyProof.TupleCall
import PySem.Challenge.RW_leastfloor_k25_whole_open_floors_turned
set_option compiler.extract_closed false
set_option genSizeOfSpec false
set_option Elab.async false
set_option linter.all false
set_option maxRecDepth 100000
set_option hygiene false
set_option hygiene true
set_option hygiene false
local macro_rules|`(‹0›)=>`((fun _ _ _ _ _=>(eA (i:=0) (by decide +kernel) rfl (OR rfl) (O7 rfl))))
local macro_rules|`(‹1›)=>`((by first | exact OR rfl | exact O7 rfl))
local macro_rules|`(‹2›)=>`((by decide +kernel))
local macro_rules|`(‹3›)=>`((model X.prog X.w))
local macro_rules|`(‹4›)=>`(s.heap.objs.size)
local macro_rules|`(‹5›)=>`((aU X N' scope cl C s3 H3 fp pins))
local macro_rules|`(‹6›)=>`((dC (.int 0)))
local macro_rules|`(‹7›)=>`(((relabel scope X.env).names.lookup x=some .cell∨(relabel scope X.env).names.lookup x=some .free))
local macro_rules|`(‹8›)=>`((aF (bw (K:=K) rfl) rfl T.z_len cN (aa (pv 0) ag)))
local macro_rules|`(‹9›)=>`((Rq scope (PD (C+1) scope.names cl) C X.env))
local macro_rules|`(‹10›)=>`((model prog w))
local macro_rules|`(‹11›)=>`((by decide))
local macro_rules|`(‹12›)=>`((aU X N' scope cl s3.heap.objs.size s3 H3 fp pins))
local macro_rules|`(‹13›)=>`((R5 "<lambda>" q params body scope cl ((X.mg "__name__").getD .none) (.ref c) ct))
local macro_rules|`(‹14›)=>`((pW gJ P w K mg base N qual (aB st) f cdv A outer s H E))
local macro_rules|`(‹15›)=>`((aU X (ts++zs) scope cl C s3 H3 fp pins))
local macro_rules|`(‹16›)=>`((X.env.scope.names.lookup z=some .cell∨X.env.scope.names.lookup z=some .free))
local macro_rules|`(‹17›)=>`((dC (.int 1)))
local macro_rules|`(‹18›)=>`((relabel scope X.env))
local macro_rules|`(‹19›)=>`((ba rfl rfl rfl))
local macro_rules|`(‹20›)=>`((((N4 h).map fun i=>(jO T b R i).map D.int)++(N4 k).map fun i=>(pR T b R i).map D.int))
local macro_rules|`(‹21›)=>`(((s.heap.update a (OW fun _=>#[])).push (OS "tuple" vs.toArray 0)))
local macro_rules|`(‹22›)=>`(X.s₀.heap.objs.size)
local macro_rules|`(‹23›)=>`((bY (dC (.bl false))))
local macro_rules|`(‹24›)=>`((c8 (K:=K) hr.units))
local macro_rules|`(‹25›)=>`((bJ 1 [0] (fH (ai 1)) (gN false 0) bM (gv (bZ (ai 0) (ai 1)))))
local macro_rules|`(‹26›)=>`((bS I q (by simp)))
local macro_rules|`(‹27›)=>`((gu e lt (decide (items.size≤items2.size)) (min items.size items2.size) 0))
local macro_rules|`(‹28›)=>`((ns.getD j default=ms.getD j default))
local macro_rules|`(‹29›)=>`(X.env.locals)
local macro_rules|`(‹30›)=>`((aa (ic (v:=.ty "list") rfl T.z_list fe rfl) ag))
local macro_rules|`(‹31›)=>`((.lst (hs.map D.int)))
local macro_rules|`(‹32›)=>`((.ListComp elt [⟨tg,iter,ifs,0⟩] scope pos))
local macro_rules|`(‹33›)=>`(((cm T).map D.int))
local macro_rules|`(‹34›)=>`((cB (hl pins s1 σ H1 _ I1 q1) fun vl s2 ⟨l,H2,I2,pl,q2⟩=>cB (hu pins s2 σ H2 _ I2 q2) fun vu s3 ⟨u,H3,I3,pu,q3⟩=>cB (hw pins s3 σ H3 _ I3 q3) fun vw s4 ⟨w,H4,I4,pw,q4⟩=>?_))
local macro_rules|`(‹35›)=>`((OS "list" vs.toArray 0))
local macro_rules|`(‹36›)=>`((Dg 2 (b8 (gN true 0) (b8 (gN true 1) iS))))
local macro_rules|`(‹37›)=>`((.builtin "object.__class__"))
local macro_rules|`(‹38›)=>`(((cols T).map D.int))
local macro_rules|`(‹39›)=>`((x==("__debug__" : OX)))
local macro_rules|`(‹40›)=>`((dm (bq (K:=K) rfl (fP (js T hbm) (T.F 15 rfl) hr (aa (pX K (pv 0) aj) ag)) (fun _=>rfl))))
local macro_rules|`(‹41›)=>`((ps.map V.ref))
local macro_rules|`(‹42›)=>`((bF.l (bP (m:=false) (k:=1) (cs:=[0]) (cV (ae 1)) (aH 0) bU (a0.i (a9 (ae 0) (ae 1))))))
local macro_rules|`(‹43›)=>`((ns.map V.int))
local macro_rules|`(‹44›)=>`((cB (he pins s σ H _ I h) fun v s1 ⟨x,H1,I1,r1,q1⟩=>?_))
local macro_rules|`(‹45›)=>`((au rfl rfl))
local macro_rules|`(‹46›)=>`((aF (bw (K:=K) rfl) rfl T.z_len cN (aa (pX K (pv 0) aj) ag)))
local macro_rules|`(‹47›)=>`((s1.trans s2))
local macro_rules|`(‹48›)=>`((s.heap.push { cls:=.type "range", data:=.fields #[.int lo t,.int hi u,.int 1 v] }))
local macro_rules|`(‹49›)=>`((min (a₀.size-lo) mr))
local macro_rules|`(‹50›)=>`(["_law_table_here", "_law_rows", "_law_done", "_law_last", "_law_hands", "_law_ahead", "_law_row", "_law_bench", "_law_hand", "_law_begin", "_law_end_here"])
local macro_rules|`(‹51›)=>`((((N4 b).filter fun (j:Nat)=>decide (0<cI T k j)).map fun (j:Nat)=>D.int (j:Int)))
local macro_rules|`(‹52›)=>`((EP X pins σ Q))
local macro_rules|`(‹53›)=>`((fun _ _ _ _ _=>(fO (K:=K) rfl rfl (bI (eA (i:=0) ‹2› rfl (OR rfl) (O7 rfl)) (bI (eA (i:=1) ‹2› rfl (OR rfl) (O7 rfl)) fN)))))
local macro_rules|`(‹54›)=>`((.cons rfl (OR rfl) rfl ‹1› .nil))
local macro_rules|`(‹55›)=>`((eY rfl (bx (K:=K) rfl (pv 1)) (ts:=["_law_row"]) (zs:=["_law_bench"]) (k:=1) (is:=[0]) rfl (.cons rfl .nil) (.cons rfl ‹1› rfl ‹1› .nil) rfl rfl rfl (aV ‹11›) ‹0› (fun _ _ _ _ _=>(pX K (pv 0) (pv 1))) rfl rfl ‹2›))
local macro_rules|`(‹56›)=>`((bZ (ai 0) ‹6›))
local macro_rules|`(‹57›)=>`((eY rfl (bx (K:=K) rfl (pv 2)) (ts:=["pair"]) (zs:=[]) (k:=1) (is:=[]) rfl .nil .nil rfl rfl rfl (aV ‹11›) ‹0› (fun _ _ _ _ _=>(pX K (pv 0) aj)) rfl rfl ‹2›))
local macro_rules|`(‹58›)=>`((qi (lows_cons (aV ‹11›) (lows_cons (aV ‹11›) m6))))
local macro_rules|`(‹59›)=>`((bQ (n:=0) ay ‹11›))
local macro_rules|`(tactic|show 0)=>`(tactic|(obtain ⟨p,xs,rfl,z1,h1,l1,g1⟩:=i1.lI;obtain ⟨q,ys,rfl,z2,h2,l2,g2⟩:=i2.lI;cases rx;cases ry;obtain ⟨_,us,m1,k1,n1,o1⟩:=I.m4 h1;obtain ⟨_,ws,m2,k2,n2,o2⟩:=I.m4 h2;rw [vY] at h;have e1:=g1.length;have e2:=g2.length;by_cases hl:ds.length=es.length))
local macro_rules|`(tactic|show 1)=>`(tactic|(exact p.elim))
local macro_rules|`(tactic|show 2)=>`(tactic|(rename_i xs e0;refine hw f e0 fun J H1 s1 W Dl hD=>?_;have f1:=f.grow s1;have sD:∀ {H2:Hp} {ys:List V},aW H1 H2→aW H1 (upd H2 Dl (.lst ys)):=fun {H2 ys} s a o e=>by rw [aG (bA e hD)]; exact s _ _ e))
local macro_rules|`(tactic|show 3)=>`(tactic|(rw [hns] at ha;obtain ⟨j,hj,rfl⟩:=mem_getD ha;rw [NH,N3] at hj;rw [← UY]; exact h2 j (by lia)))
local macro_rules|`(tactic|show 4)=>`(tactic|(rw [if_neg q1];have g:=fun c=>r.go (c:=c) ⟨m',by simp at q1; lia,h2⟩ hsz;exact g7 (P:=fun p=>Ul M A E s p R st) (Oi (g _ ⟨_,_,_,rfl⟩).1) (Oi (g _ ⟨_,_,_,rfl⟩).2)))
local macro_rules|`(tactic|show 5)=>`(tactic|(by_cases hj:j=i))
set_option hygiene true
noncomputable section
open Array renaming length_toList→N3,getElem?_eq_getElem→Ov,toList_append→Pc,getElem?_toList→PB,size_push→Qj,perm_iff_toList_perm→QB,toList_push→QM,size_append→R1,toList_reverse→Su,toList_setIfInBounds→Tb,toList_inj→TX,toList_map→TY,toList_modify→Vg,toList_zip→V2
open Bool renaming false_ne_true→N8,eq_iff_iff→Pa,false_eq_true→PY,and_eq_true→Qb,not_eq_true'→Tx,and_true→Vm,or_eq_true→Wf
open Break.runK renaming match_1→S9
open Classical renaming byContradiction→Ti
open False renaming elim→Q6
open ForInStep renaming yield→Py,done→WA
open Int renaming le_refl→O6,toNat_natCast→Pq,add_zero→R8,mul_nonneg→R9,zero_add→SS,le_trans→SU,add_mul→Tz,ediv_eq_zero_of_lt→Uw,emod_lt_of_pos→Vz,one_mul→Wc,natCast_add→Wi,emod_nonneg→Wj,mul_le_mul→WE,add_nonneg→WG
open List renaming getD_eq_getElem?_getD→NF,getElem?_eq_getElem→NG,length_map→NH,mem_cons_of_mem→NI,mem_cons_self→NJ,mem_singleton→NL,mem_append_right→NQ,getElem?_map→NR,mem_cons→NU,set_cons_zero→NV,mem_map→NW,set_cons_succ→NX,size_toArray→NY,mem_append→NZ,map_map→N0,range→N4,length_append→N7,length_range→Oc,map_append→Od,getElem?_eq_some_iff→Oe,nodup_cons→Of,mem_append_left→Ol,pairwise_append→Oo,map_cons→Oq,mem_range→Ow,getElem?_append_right→Ox,length_cons→Oy,replicate→Oz,drop_eq_getElem_cons→OB,map_congr_left→OC,mem_of_getElem?→OF,append_assoc→OG,mem_filter→OJ,getElem?_eq_none→OL,getElem?_append_left→OM,length_replicate→OQ,append_nil→OT,take_append_drop→OY,mem_of_mem_take→O5,nodup_nil→O8,length_take→O9,length_set→Pb,getElem?_replicate→Pg,length_drop→Ph,all_eq_true→Pj,pairwise_map→Pk,length_singleton→Pl,length_nil→Pm,getElem?_of_mem→Pp,take_of_length_le→Pz,getElem_mem→PF,getElem?_set_ne→PH,getElem?_set_self→PJ,pairwise_cons→PL,ext_getElem→PN,getElem?_range→PR,mem_of_mem_drop→PZ,find?_cons→P1,sum_cons→P8,take_length→Qc,filterMap_cons→Qh,replicate_succ→Qi,length_filter_le→Qk,not_mem_nil→Qm,getElem?_take_of_lt→Qn,drop_drop→Qp,filter_cons_of_pos→Qr,nil_append→Qt,map_eq_nil_iff→Qv,drop_of_length_le→Qx,sum_append→QG,map_nil→QI,flatten_cons→QK,length_pos_iff→QT,zip→QX,lookup_cons→QY,filter_cons_of_neg→QZ,cons_append→Q0,getElem?_drop→Q8,drop_eq_nil_of_le→Q9,length_mapIdx→Ra,of_mem_zip→Rb,any_cons→Rf,perm_append_comm→Rg,ext_getElem?→Ri,nodup_append→Rj,map_id→Rr,getElem_map→Rv,pairwise_iff_getElem→Rw,length_zipWith→Rx,filter_eq_self→Ry,getD_cons_zero→RA,mem_filterMap→RK,getElem_range→RS,pairwise_mergeSort→RU,length_eq_zero_iff→RV,drop_zero→RZ,take_take→R3,range_succ_eq_map→R6,flatten_replicate_singleton→Sa,set_append_right→Sd,any_eq_true→Sh,drop_length→Si,nodup_range→Sj,eq_nil_of_length_eq_zero→Sr,mem_iff_getElem→Sw,mem_erase_of_ne→Sx,length_take_le'→Sy,foldl_cons→SE,reverse_append→SF,mergeSort_perm→SG,getElem_of_mem→SH,getD_cons_succ→SJ,take_zero→Ta,take_succ→Tf,mem_or_eq_of_mem_set→Th,take_add_one→Tw,set_eq_of_length_le→TL,length_erase_of_mem→TN,pairwise_singleton→T4,sum→T5,all_map→Um,length_pos_of_mem→Ut,map_set→Uu,append_eq_nil_iff→Uv,contains_iff_mem→UK,drop_take→U5,filter→U9,filter_sublist→Vj,all_cons→Vk,find?_eq_none→Vy,map_replicate→VB,take_sublist→VG,zipWith→VJ,getElem?_set→VS,foldl_append→VT,map_snd_zip→V3,toArray_inj→V4,length→V6,length_zip→Wg,range_succ→Wl,foldl→Wx,forIn_nil→WB,take_add→WJ,map_drop→WM
open List.Nodup renaming sublist→VA
open List.Pairwise renaming imp_of_mem→PQ,nil→Tv
open List.Perm renaming append_left→QD,eq_of_pairwise→RE,append_right→R0,trans→UB,refl→U4
open Nat renaming le_refl→N9,lt_of_lt_of_le→Ot,ne_of_lt→OE,le_trans→ON,zero_le→O1,lt_irrefl→Pe,lt_succ_of_lt→Qg,lt_succ_self→Qy,ne_of_gt→QH,le_of_lt→Q5,min_eq_left→RJ,sub_self→SR,le_succ→Tt,le_of_eq→Uo,strongRecOn→UC,not_lt_zero→UH,mul_le_mul→Va,lt_trans→VH,min_self→VI
open Ne renaming symm→P9
open Option renaming map_eq_some_iff→OH,map_some→RH,isSome_map→Tu,isSome_iff_exists→TC,map_eq_none_iff→Us,isSome_some→Vv,getD_none→VY,none→WW
open Option.some renaming inj→OD
open Or renaming inl→OR,inr→O7
open Prod renaming fst→WH,ext→WZ,snd→W0
open Prod.mk renaming injEq→WN
open PyProof.Rows renaming wpS_bind→Oa,wpS_pure→Oi,Keyed→Oj,pendingOf→OI,seqObj→OS,arrOf→OV,SortSt→Pu,wpS_forRange→PV,SortKind→P7,callWith_type1→Qw,get?_update_seq→QF,wpS_modify→QQ,listUpdate_at→QR,envOfC→QU,wpS_mono→QW,elem'→Rc,IntsAre→RI,slot_tuple_getitem→RM,setPending→RP,subscriptTail→Sm,wpS_get→Sn,failedOf→Ss,seqEpoch_at→Sv,size_push'→Tc,callWith_kw→TJ,reverseSlice'→TK,AllBare→T9,envOfC→Ud,Subscript_→Ue,subscriptTail_builtinR→Uh,wpS→Ul,listItems_at→Uq,entry_list_sort→UG,ksk_tree→UL,gallopOf→U0,wpS_lift→U3,slot_list_sort→U8,lt_int→Vh,plain_sorted→VN,entry_sorted→VO,collect_list→VP,kind_sorted→Wa,tail_any→Wv,keyKind'→WD,News→WV
open PyProof.Rows.IntsAre renaming length→R7
open PyProof.Rows.SortSt renaming mk'→Vw
open PySem renaming sizeLine→NM,Value→NN,wpAny_bind→NO,Addr→NP,Shared→NS,wpAny_pure→Oh,wpAny→Ou,sizeLine_eq→OA,wpAny_loadPart'→OP,mainGlobals→OU,Str→OX,Around→O3,Program→O4,World→Pf,starEach→Pn,bootBuiltins→Pr,Expr→Pt,wpAny_holding→Pw,wpAny_mono→Px,cellsFrom→PD,Heap→PM,Paired→PU,mem_of_lookup→P2,wpAny_truthy_bool→P5,FuncData→P6,compareOp→Qa,assignEach→Qe,Stmt→Qo,foldedSetIterable→Qq,codeAny_builtin→Qu,Obj→Qz,bindArgs→QA,wpAny_passesOwn→QE,sliceBounds→QJ,wpAny_newObj_type→QL,plainId_quiet→QP,Scope→Q3,sysModules→Q4,wpAny_Call_Name_kw→Q7,recursionLimit→Rn,keywordEach→Ro,compEnvC→Rq,Builtin→Ru,wpAny_standAt→RB,wpAny_newList→RD,backTo→RL,tupleKind_room_in1→RO,closureFor→RQ,cLine→RT,wpAny_tryCatch→RY,Arguments→Se,wpAny_rule→Sg,behindInMarks→Sk,binaryOp→Sq,wpAny_execs_nil→Sz,letOwnedTupleGo→SA,codeAny→SN,swapsWith→SV,builtinsNs→SX,Pos→SY,backToKw→S1,wpAny_seqItems→S8,getItem→Tn,wpAny_pyIter_list→To,Keyword→Tp,slot_list_getitem→Tq,argBest→Tr,wpAny_letGo→Ts,wpAny_getItem_list_slice→TF,nums_intItems→TH,wpAny_comprehension_free→TM,TriplesOk→TQ,codeAmong→TR,NameKind→TU,pushCells→TV,wpAny_call_entry→TZ,isTrue→Ua,wpAny_pyNext_list_item→Ub,codeAny_mono→Uc,seqIndex_neg→Ug,wpAny_getItem_list_neg→Ui,call_meets→Uj,argsOk→Uk,wpAny_updateSeq→UA,pushCells_keeps→UD,wpAny_isTrue_Compare1→UI,wpAny_pyNext_list_end→UJ,Model→UM,wpAny_loadName_local→UN,IntMulOk→UO,seqIndex_of→UR,subscripted→US,intItems→UU,intItems_at→UW,numAt_eq→UY,getD_mem→UZ,newFunctionEnv→U6,wpAny_newTuple→U7,tupleKind→Vc,BindsTo→Vd,valueAt→Ve,wpAny_loadName_cell→Vf,attributeBase→Vl,pyNext→Vr,wpAny_evalAll_cons→Vt,callerA→VR,rawInt→VW,slicePick→VZ,seqItems?→V1,Env→V5,wpAny_Slice→V7,richCompare→V8,atKey→V9,wpAny_field→Wb,standAt→Wm,wpAny_Name→Wo,Operator→Wq,wpAny_call→Ws,bindL→Wt,bindC→Wu,typeIs_int→Ww,numAt→Wy,checkCount→WC,Tok→WO,Within→WQ,Result→WS
open PySem.Around renaming under_plainId→PX,frames_deeper→UQ
open PySem.AutoSeq1 renaming sub_list_list→Ur
open PySem.Bind renaming checkArgs→Wz
open PySem.Builtin.Builtins renaming bindParams→SQ
open PySem.Builtin.Int renaming intBits→P4
open PySem.Builtin.List renaming listTooLong→QO
open PySem.Builtin.Slice renaming sliceApplied→Te
open PySem.Builtin.Tuple renaming tupleExact→QS
open PySem.Calls renaming Name_function_global→S0,call_function_entry→Tg
open PySem.Data renaming seq→VM
open PySem.F renaming plainAttrs_list→OO,slot_list_append→OZ,type_list_append→O0,plain_max_loop→Ql,slot_list_extend→RF,type_list_extend→RG,entry_max_loop→Sf
open PySem.Heap renaming get?_push_of_some→NT,lt_size→Ob,get?_push_size→OK,get?_update_other→Po,size_update→Q1,get?_none_of_le→Rk,size_push→Rp,get?_update_self→Sb,get?_update_ne→SI,SameBut→SK,get?_push_ne→VQ
open PySem.Heap.IsSliceOf renaming new→S3
open PySem.Heap.SameBut renaming update→Rz
open PySem.NameKind renaming cell→Vn,free→WK
open PySem.Obj renaming mapSeq→OW
open PySem.P renaming truthy_int→Vs
open PySem.Paired renaming length→Qd,snoc→WX
open PySem.PassesOwn renaming never→Pd
open PySem.SeqAt renaming EqAt→QN,RcNeAt→WT
open PySem.SeqAt.EqAt renaming int_int→RN,same→SD,bool_bool→UT,int_str→Vo,str_int→Vp,str_str→Vu,of_refs→Vx
open PySem.SeqAt.RcAt renaming lists_lengths→RC
open PySem.SeqAt.RcNeAt renaming lists_lengths→S4
open PySem.Value renaming ref→O2,none→Qs,type→T8,bool→Vq,int→VU,str→VV,isStrOf→WI
open PySem.W renaming Frag→NK,kia_one→P0,findIn→Qf,mg_none_of→QC,keepIn→QV,codeHdIn→Q2,kitOne→Rl,fnOf→Rt,specialIn→RW,cellsFrom_some→RX,kla_fn→R5,codeIn→S2,tabObj→Td,methodObj→Tj,mroIn→TB,instObj→Ux,takesIn→Uy,kat_nil→UE,lookIn→UP,codeHd_of_K→Vi,nsIn→VC,hasDictIn→VD,kitx_list→VE,kitx_dict→VF,plainGet→VX,makesIn→We,OpenLaw→Wh,KatKeys→Wn,WalkO→WL,isFn→WR
open PySem.W.KatBack renaming intro→WU
open PySem.W.KatKeys renaming cons→WY,nil→W2
open PySem.W.WData renaming weight→SO,int→SW,weightAll→Uz,layableAll→V0
open Sum renaming inl→Rh,inr→Vb
open Sum.inl renaming inj→So
open True renaming intro→Rm
namespace L2
open PySem PySem.Spec PyProof.Rows
abbrev Key:=Sum Int OX
def uc:Key→NN→Bool
 | .inl k,v=>Value.isInt k v
 | .inr x,v=>WI x v
def Mz (w:Pf):Key→Int
 | .inl k=>hashInt k
 | .inr x=>hashStr w x
theorem cP:∀ {k:Key} {v:NN},uc k v=true→(∃ i t,k=Rh i∧v=VU i t)∨(∃ x t,k=Vb x∧v=VV x t)
 | .inl i,v,h=>by obtain ⟨t,e⟩:=Value.isInt_shape (k:=i) (v:=v) h;exact .inl ⟨i,t,rfl,e⟩
 | .inr x,v,h=>by obtain ⟨t,e⟩:=Value.isStrOf_shape (x:=x) (v:=v) h;exact .inr ⟨x,t,rfl,e⟩
theorem C2 (i:Int) (t:WO):uc (.inl i) (.int i t)=true:=by simp [uc,Value.isInt]
theorem C1 (x:OX) (t:WO):uc (.inr x) (.str x t)=true:=by simp [uc,WI]
theorem JU (a b:Int):decide ((Rh a:Key)=Rh b)=(a==b):=by
 by_cases e:a=b
 ·subst e; simp
 ·have h:¬ (Rh a:Key)=Rh b:=fun q=>e (So q);rw [decide_eq_false h];exact (beq_eq_false_iff_ne.mpr e).symm
theorem JR (a b:OX):decide ((Vb a:Key)=Vb b)=decide (a=b):=by
 by_cases e:a=b
 ·subst e; simp
 ·have h:¬ (Vb a:Key)=Vb b:=fun q=>e (Sum.inr.inj q);rw [decide_eq_false h,decide_eq_false e]
theorem JT (a:Int) (b:OX):decide ((Rh a:Key)=Vb b)=false:=decide_eq_false (fun q=>nomatch q)
theorem JS (a:OX) (b:Int):decide ((Vb a:Key)=Rh b)=false:=decide_eq_false (fun q=>nomatch q)
noncomputable def dq (prog:O4) (w:Pf):PySem.KeyKind prog w Key where
 is:=uc
 hash:=Mz w
 inj:=fun v a b ha hb=>by
  rcases cP ha with ⟨i,t,rfl,rfl⟩ | ⟨x,t,rfl,rfl⟩
  ·rcases cP hb with ⟨j,u,rfl,e⟩ | ⟨y,u,rfl,e⟩
   ·injection e with e1 _; rw [e1]
   ·exact nomatch e
  ·rcases cP hb with ⟨j,u,rfl,e⟩ | ⟨y,u,rfl,e⟩
   ·exact nomatch e
   ·injection e with e1 _; rw [e1]
 byValue:=fun k v h=>by rcases cP h with ⟨i,t,rfl,rfl⟩ | ⟨x,t,rfl,rfl⟩ <;> rfl
 pyHash:=fun hv h=>by
  rcases cP hv with ⟨i,t,rfl,rfl⟩ | ⟨x,t,rfl,rfl⟩
  ·exact wpAny_pyHash_int h
  ·exact wpAny_pyHash_str h
 eqBool:=fun hu hv h=>by
  rcases cP hu with ⟨i,t,rfl,rfl⟩ | ⟨x,t,rfl,rfl⟩
  ·rcases cP hv with ⟨j,u,rfl,rfl⟩ | ⟨y,u,rfl,rfl⟩
   ·rw [JU] at h; exact wpAny_eqBool_int h
   ·rw [JT] at h; exact Vo i t y u _ _ _ _ h
  ·rcases cP hv with ⟨j,u,rfl,rfl⟩ | ⟨y,u,rfl,rfl⟩
   ·rw [JS] at h; exact Vp x t j u _ _ _ _ h
   ·rw [JR] at h; exact wpAny_eqBool_str h
 «strs»:=fun k x t v h=>by
  rcases cP h with ⟨i,u,rfl,e⟩ | ⟨y,u,rfl,e⟩
  ·exact nomatch e
  ·injection e with e1 _;subst e1;cases v <;> rfl
theorem xT (prog:O4) (w:Pf) (i:Int) (t:WO):(dq prog w).is (.inl i) (.int i t)=true:=C2 i t
theorem xS (prog:O4) (w:Pf) (x:OX) (t:WO):(dq prog w).is (.inr x) (.str x t)=true:=C1 x t
inductive V where
 | non | bl (b:Bool) | int (i:Int) | str (x:OX) | byt (b:Array UInt8) | flt (b:UInt64) | ref (a:NP) | ty (n:String)
 deriving DecidableEq
noncomputable def RelV:V→NN→Prop
 | .non,u=>u=Qs
 | .bl b,u=>u=Vq b
 | .int i,u=>∃ t,u=VU i t
 | .str x,u=>∃ t,u=VV x t
 | .byt b,u=>∃ t,u=Value.bytes b t
 | .flt b,u=>∃ t,u=Value.float b t
 | .ref a,u=>u=O2 a
 | .ty n,u=>u=T8 n
abbrev Vals:List V→List NN→Prop:=PU RelV
theorem Vals.length {xs:List V} {us:List NN} (r:Vals xs us):xs.length=us.length:=Qd r
theorem Vals.get:∀ {xs:List V} {us:List NN} {i:Nat} {x:V},Vals xs us→xs[i]?=some x→∃ u,us[i]?=some u∧RelV x u
 | _,_,_,_,.nil,e=>by simp at e
 | _,_,0,_,.cons r _,e=>by simp at e; subst e; exact ⟨_,rfl,r⟩
 | _,_,i+1,x,.cons _ t,e=>by obtain ⟨u,h1,h2⟩:=Vals.get (i:=i) (x:=x) t (by simpa using e);exact ⟨u,by simpa using h1,h2⟩
theorem Vals.set {x:V} {u:NN} (r:RelV x u):∀ {xs:List V} {us:List NN} (i:Nat),Vals xs us→Vals (xs.set i x) (us.set i u)
 | _,_,_,.nil=>.nil
 | _,_,0,.cons _ t=>.cons r t
 | _,_,i+1,.cons q t=>.cons q (Vals.set r i t)
theorem Vals.append:∀ {xs ys:List V} {us ws:List NN},Vals xs us→Vals ys ws→Vals (xs++ys) (us++ws)
 | _,_,_,_,.nil,s=>s
 | _,_,_,_,.cons r t,s=>.cons r (Vals.append t s)
theorem Vals.take:∀ {xs:List V} {us:List NN} (n:Nat),Vals xs us→Vals (xs.take n) (us.take n)
 | _,_,0,_=>.nil
 | _,_,_+1,.nil=>.nil
 | _,_,n+1,.cons r t=>.cons r (Vals.take n t)
theorem Vals.drop:∀ {xs:List V} {us:List NN} (n:Nat),Vals xs us→Vals (xs.drop n) (us.drop n)
 | _,_,0,r=>r
 | _,_,_+1,.nil=>.nil
 | _,_,n+1,.cons _ t=>Vals.drop n t
def si:Option V→Option NN→Prop
 | some v,some u=>RelV v u
 | none,none=>True
 | _,_=>False
def KV {κ:Type}:List (κ×V)→List (κ×NN)→Prop:=PU fun (p:κ×V) (q:κ×NN)=>p.1=q.1∧RelV p.2 q.2
def kV:Key→V
 | .inl i=>.int i
 | .inr x=>.str x
inductive HO where
 | lst (xs:List V)
 | tup (xs:List V)
 | dK (kvs:List (Key×V)) | dT (kvs:List (List Key×V))
 | set (S:Int→Bool) (n:Nat)
 | ins (C dx:NP) (fs:List (OX×V))
 | own (x:NP)
 | xd (fs:List (OX×V))
 | met (f x:NP)
 | Ey (lo hi:Int)
 | kZ (o:Qz) (u:HO)
 | tbl (ps:Array NN)
 | ext (φ:PM→Prop)
abbrev Hp:=NP→Option HO
def upd (H:Hp) (a:NP) (o:HO):Hp:=fun b=>if b=a then some o else H b
variable {H:Hp} {a:NP}
theorem aN {o:HO}:upd H a o a=some o:=by unfold upd; rw [if_pos rfl]
theorem aG {b:NP} {o:HO} (h:b≠a):upd H a o b=H b:=by unfold upd; rw [if_neg h]
theorem uH {o u:HO}:upd (upd H a o) a u=upd H a u:=by funext b; unfold upd; split <;> rfl
theorem Lx {b:NP} {o u:HO} (h:H a=some o) (h':H b=some u) (d:o≠u):a≠b:=by intro e; subst e; rw [h] at h'; exact d (OD h')
theorem bA {b:NP} {o:HO} (h:H a=some o) (h':H b=none):a≠b:=by intro e; subst e; rw [h] at h'; cases h'
section
variable (P:O4) (w:Pf)
noncomputable def cn (H:Hp) (h:PM) (a:NP):HO→Prop
 | .lst xs=>xs.length≤NM∧∃ (its:List NN) (n:Nat),Vals xs its∧h.get? a=some { cls:=.type "list", data:=.seq its.toArray n }
 | .tup xs=>xs.length≤NM∧∃ its:List NN,Vals xs its∧IsTup h a its.toArray
 | .dK kvs=>kvs.length≤NM∧(a==Q4)=false∧∃ vs,KV kvs vs∧h.DictOf (dq P w) a vs
 | .dT kvs=>kvs.length≤NM∧(a==Q4)=false∧∃ xs:List (List Key×NP×NN),
  PU (fun (p:List Key×V) (q:List Key×NP×NN)=>p.1=q.1∧H q.2.1=some (.tup (p.1.map kV))∧RelV p.2 q.2.2) kvs xs ∧
  ∃ o es ep,h.get? a=some o∧o.ExactDict∧o.data=.dict es ep∧es.toList=xs.map (entryOfKey (Vc (dq P w)))∧(xs.map (·.1)).Nodup
 | .set S n=>h.SetOf (intKind P w) a S n
 | .ins C dx fs=>H dx=some (.own a)∧fs.length≤1000∧dx≠a∧h.get? a=some (Ux C dx) ∧
  ∃ mA,h.Ns1 dx mA∧(∀ f,si (fs.lookup f) (mA f))∧WQ mA (fs.map (·.1))
 | .own _=>∃ o,h.get? a=some o
 | .xd fs=>∃ mA,h.Ns1 a mA∧∀ f,si (fs.lookup f) (mA f)
 | .Ey lo hi=>∃ t u v,h.get? a=some { cls:=.type "range", data:=.fields #[.int lo t,.int hi u,.int 1 v] }
 | .kZ o u=>h.get? a=some o∧cn H h a u
 | .tbl ps=>∃ (q:OX) (t:WO) (qs:Array NN),ps[0]?=some (.str q t)∧h.get? a=some { cls:=.none,data:=.fields qs }∧TQ qs.toList ∧
  ∀ pos v,TR pos qs.toList=some v→∃ c o u vs t,v=.ref c∧H c=some (.kZ o u)∧o.data=.fields vs∧vs[1]?=some (.str q t)
 | .met f x=>h.get? a=some (Tj (.ref f) (.ref x))
 | .ext φ=>φ h∧(∃ o,h.get? a=some o)∧∀ h1 h2:PM,φ h1→(∀ o,h1.get? a=some o→h2.get? a=some o)→φ h2
def mK (H:Hp) (h:PM):Prop:=∀ a o,H a=some o→cn P w H h a o
end
section
variable {P:O4} {w:Pf} {H H':Hp} {h h':PM} {a:NP} {o:HO}
theorem cn.lt (x:cn P w H h a o):a<h.objs.size:=by
 cases o with
 | lst xs=>obtain ⟨_,_,_,_,e⟩:=x; exact Ob e
 | tup xs=>obtain ⟨_,_,_,p⟩:=x; exact p.lt
 | dK kvs=>obtain ⟨_,_,_,_,o,_,_,e,_⟩:=x; exact Ob e
 | dT kvs=>obtain ⟨_,_,_,_,o,_,_,e,_⟩:=x; exact Ob e
 | set S n=>obtain ⟨o,_,_,_,e,_⟩:=x; exact Ob e
 | ins C dx fs=>obtain ⟨_,_,_,e,_⟩:=x; exact Ob e
 | own y=>obtain ⟨_,e⟩:=x; exact Ob e
 | xd fs=>obtain ⟨_,⟨_,_,_,e,_⟩,_⟩:=x; exact Ob e
 | Ey lo hi=>obtain ⟨_,_,_,e⟩:=x; exact Ob e
 | kZ ob u=>obtain ⟨e,_⟩:=x; exact Ob e
 | tbl ps=>obtain ⟨_,_,_,_,e,_⟩:=x; exact Ob e
 | met f y=>exact Ob (show h.get? a=some _ from x)
 | ext φ=>obtain ⟨_,⟨_,e⟩,_⟩:=x; exact Ob e
theorem Paired.JE {α β:Type} {F G:α→β→Prop}:∀ {l₁:List α} {l₂:List β},PU F l₁ l₂→(∀ a b,F a b→G a b)→PU G l₁ l₂
 | _,_,.nil,_=>.nil
 | _,_,.cons r t,f=>.cons (f _ _ r) (Paired.JE t f)
theorem cn.sv (x:cn P w H h a o) (k:∀ b u,(b=a∨H b=some (.own a))→h.get? b=some u→h'.get? b=some u)
 (ho:∀ b,H b=some (.own a)→H' b=some (.own a)) (ht:∀ b xs,H b=some (.tup xs)→H' b=some (.tup xs)) (hz:∀ b o u,H b=some (.kZ o u)→H' b=some (.kZ o u):=by first | exact fun _ _ _ q=>q | (intro b o u q; rw [aG (bA q (by assumption))]; exact q)):cn P w H' h' a o:=by
 induction o with
 | lst xs=>obtain ⟨z,its,n,r,e⟩:=x; exact ⟨z,its,n,r,k _ _ (.inl rfl) e⟩
 | tup xs=>obtain ⟨z,its,r,ob,e,c⟩:=x; exact ⟨z,its,r,ob,k _ _ (.inl rfl) e,c⟩
 | dK kvs=>obtain ⟨z,y,vs,r,ob,es,ep,e,c⟩:=x; exact ⟨z,y,vs,r,ob,es,ep,k _ _ (.inl rfl) e,c⟩
 | dT kvs =>obtain ⟨z,y,xs,r,ob,es,ep,e,c⟩:=x;exact ⟨z,y,xs,Paired.JE r fun p q z=>⟨z.1,ht _ _ z.2.1,z.2.2⟩,ob,es,ep,k _ _ (.inl rfl) e,c⟩
 | set S n=>obtain ⟨ob,es,ep,t,e,c⟩:=x; exact ⟨ob,es,ep,t,k _ _ (.inl rfl) e,c⟩
 | ins C dx fs =>obtain ⟨d,z,ne,e,mA,⟨od,es,ep,e2,c⟩,r⟩:=x;exact ⟨ho _ d,z,ne,k _ _ (.inl rfl) e,mA,⟨od,es,ep,k _ _ (.inr d) e2,c⟩,r⟩
 | own y=>obtain ⟨ob,e⟩:=x; exact ⟨ob,k _ _ (.inl rfl) e⟩
 | xd fs=>obtain ⟨mA,⟨od,es,ep,e,c⟩,r⟩:=x; exact ⟨mA,⟨od,es,ep,k _ _ (.inl rfl) e,c⟩,r⟩
 | Ey lo hi=>obtain ⟨t,u,v,e⟩:=x; exact ⟨t,u,v,k _ _ (.inl rfl) e⟩
 | kZ ob u ih=>obtain ⟨e,q⟩:=x; exact ⟨k _ _ (.inl rfl) e,ih q⟩
 | tbl ps =>obtain ⟨q,t,qs,h0,h1,h2,h3⟩:=x;refine ⟨q,t,qs,h0,k _ _ (.inl rfl) h1,h2,fun pos v e=>?_⟩;obtain ⟨c,o,u,vs,t2,e1,e2,e3⟩:=h3 pos v e;exact ⟨c,o,u,vs,t2,e1,hz _ _ _ e2,e3⟩
 | met f y =>have e:h.get? a=some (Tj (.ref f) (.ref y)):=x;show h'.get? a=some (Tj (.ref f) (.ref y));exact k a _ (.inl rfl) e
 | ext φ=>obtain ⟨p,⟨o,e⟩,st⟩:=x; exact ⟨st _ _ p fun o q=>k _ _ (.inl rfl) q,⟨o,k _ _ (.inl rfl) e⟩,st⟩
theorem mK.lt (x:mK P w H h) (e:H a=some o):a<h.objs.size:=(x a o e).lt
theorem mK.fresh (x:mK P w H h) (e:h.objs.size≤a):H a=none:=by
 cases q:H a with
 | none=>rfl
 | some u=>exact absurd (Ot (x.lt q) e) (Pe _)
theorem mK.kept (x:mK P w H h) (k:∀ b u,h.get? b=some u→h'.get? b=some u):mK P w H h':=fun a o e =>(x a o e).sv (fun b u _ q=>k b u q) (fun _ q=>q) fun _ _ q=>q
theorem mK.laid (x:mK P w H h) (k:∀ b u,h.get? b=some u→h'.get? b=some u) (hp:h.objs.size≤a) (new:cn P w (upd H a o) h' a o):mK P w (upd H a o) h':=fun b u e=>by
 have hn:=x.fresh hp;by_cases hb:b=a
 ·subst hb; rw [aN] at e; cases e; exact new
 ·rw [aG hb] at e;exact (x b u e).sv (fun c v _ q=>k c v q) (fun c q=>by rw [aG (bA q hn)]; exact q) fun c xs q=>by rw [aG (bA q hn)]; exact q
end
def Rd (H:Hp) (a:NP) (u:HO):Prop:=H a=some u∨∃ o,H a=some (.kZ o u)
variable {P:O4} {h:PM}
theorem Rd.ok {w:Pf} {u:HO} (r:Rd H a u) (x:mK P w H h):cn P w H h a u:=by
 rcases r with r | ⟨o,r⟩
 ·exact x a u r
 ·obtain ⟨_,q⟩:=x a _ r;exact q
def LP:Option HO→Prop
 | some (.lst _)=>True
 | some (.dK _)=>True
 | some (.dT _)=>True
 | some (.set _ _)=>True
 | some (.ins _ _ _)=>True
 | some (.ext _)=>True
 | _=>False
section
variable {P:O4} {w:Pf} {H:Hp} {h h':PM} {x e:NP} {o':HO}
theorem mK.write (ok:mK P w H h) (mu:LP (H x)) (he:e=x∨H e=some (.own x)) (k:∀ b u,b≠e→h.get? b=some u→h'.get? b=some u) (heo:∃ u,h'.get? e=some u)
 (new:cn P w (upd H x o') h' x o'):mK P w (upd H x o') h':=fun b u q=>by
 have nown:∀ c y,H c=some (.own y)→c≠x:=fun c y r z=>by subst z; rw [r] at mu; exact mu
 have ntup:∀ c xs,H c=some (.tup xs)→c≠x:=fun c xs r z=>by subst z; rw [r] at mu; exact mu
 have nfrz:∀ c o u,H c=some (.kZ o u)→c≠x:=fun c o u r z=>by subst z; rw [r] at mu; exact mu
 by_cases hb:b=x
 ·subst hb; rw [aN] at q; cases q; exact new
 ·rw [aG hb] at q;by_cases hbe:b=e
  ·have q':H b=some (.own x):=by
    rcases he with z | z
    ·exact absurd (hbe.trans z) hb
    ·rw [hbe]; exact z
   rw [q] at q'; cases q';obtain ⟨v,hv⟩:=heo;exact ⟨v,by rw [hbe]; exact hv⟩
  ·refine (ok b u q).sv (fun c v hc r=>k c v ?_ r) (fun c r=>by rw [aG (nown c b r)]; exact r) (fun c xs r=>by rw [aG (ntup c xs r)]; exact r) fun c o u r=>by rw [aG (nfrz c o u r)]; exact r
   rcases hc with rfl | hc
   ·exact hbe
   ·rintro rfl;rcases he with z | z
    ·exact nown c b hc z
    ·rw [hc] at z; cases z; exact hb rfl
end
structure Un (fs ex:List NP) (H H':Hp) (h h':PM):Prop where
 keep:∀ b o,h.get? b=some o→H b=none→b∉fs→b∉ex→h'.get? b=some o
 slot:∀ b o,h.get? b=some o→H b=none→b∈fs→b∉ex→∃ sl,h'.get? b=some { o with slots:=sl }
 free:∀ b o,h.get? b=some o→H b=none→b∉ex→H' b=none
 there:∀ b o,h.get? b=some o→b∉ex→∃ o',h'.get? b=some o'
 uK:∀ b xs,H b=some (.tup xs)→H' b=some (.tup xs)
 sX:∀ b o u,H b=some (.kZ o u)→H' b=some (.kZ o u)
 sq:∀ b ps,H b=some (.tbl ps)→∃ more,H' b=some (.tbl (ps++more))
section
variable {fs fs' ex ex':List NP} {H H1 H2:Hp} {h h1 h2 h':PM} {a x e:NP} {o:HO}
theorem Un.any (u:Un fs ex H H1 h h1) {b:NP} {ob:Qz} (q:h.get? b=some ob) (n:H b=none) (hx:b∉ex):∃ sl,h1.get? b=some { ob with slots:=sl }:=by
 by_cases hb:b∈fs
 ·exact u.slot b ob q n hb hx
 ·exact ⟨ob.slots,u.keep b ob q n hb hx⟩
theorem Un.kept (k:∀ b u,h.get? b=some u→h'.get? b=some u):Un fs ex H H h h' :=
 ⟨fun b ob q _ _ _=>k b ob q,fun b ob q _ _ _=>⟨ob.slots,k b ob q⟩,fun _ _ _ n _=>n,fun b ob q _=>⟨ob,k b ob q⟩,fun _ _ q=>q,fun _ _ _ q=>q,fun _ ps q=>⟨#[],by rw [q]; simp⟩⟩
theorem Un.refl:Un fs ex H H h h:=Un.kept fun _ _ q=>q
theorem Un.laid (k:∀ b u,h.get? b=some u→h'.get? b=some u) (hp:h.objs.size≤a) (hn:H a=none):Un fs ex H (upd H a o) h h' where
 keep:=fun b u q _ _ _=>k b u q
 slot:=fun b u q _ _ _=>⟨u.slots,k b u q⟩
 free:=fun b u q n _=>by rw [aG (OE (Ot (Ob q) hp))]; exact n
 there:=fun b u q _=>⟨u,k b u q⟩
 uK:=fun b xs q=>by rw [aG (bA q hn)]; exact q
 sX:=fun b u xs q=>by rw [aG (bA q hn)]; exact q
 sq:=fun b ps q=>⟨#[],by rw [aG (bA q hn),q]; simp⟩
theorem Un.write (mu:LP (H x)) (he:e=x∨H e=some (.own x)) (k:∀ b u,b≠e→h.get? b=some u→h'.get? b=some u) (heo:∃ u,h'.get? e=some u):Un fs ex H (upd H x o) h h':=by
 have hx:∀ b,H b=none→b≠x:=fun b n z=>by subst z; rw [n] at mu; exact mu
 have hb:∀ b,H b=none→b≠e:=fun b n z=>by
  subst z;rcases he with r | r
  ·exact hx b n r
  ·rw [n] at r; cases r
 have hm:∀ b u,H b=some u→¬ LP (some u)→b≠x:=fun b u q nm z=>by subst z; rw [q] at mu; exact nm mu
 refine ⟨fun b u q n _ _=>k b u (hb b n) q,fun b u q n _ _=>⟨u.slots,k b u (hb b n) q⟩,fun b u q n _=>by rw [aG (hx b n)]; exact n,fun b u q _=>?_,
  fun b xs q=>by rw [aG (hm b _ q fun z=>z)]; exact q,fun b u xs q=>by rw [aG (hm b _ q fun z=>z)]; exact q,fun b ps q=>⟨#[],by rw [aG (hm b _ q fun z=>z),q]; simp⟩⟩
 by_cases hbe:b=e
 ·subst hbe; exact heo
 ·exact ⟨u,k b u hbe q⟩
end
def LX (h:PM) (H:Hp):List NP:=(N4 h.objs.size).filter fun a=>(H a).isSome
def sW (h:PM) (H:Hp):PM:=PySem.W.hideAll h (LX h H)
theorem Dd (h:PM) (H:Hp):(sW h H).objs.size=h.objs.size:=PySem.W.hideAll_size _ _
variable {o:Qz}
theorem Fh {b:NP} (e:h.get? b=some o) (n:H b=none):(sW h H).get? b=some o :=
 PySem.W.hideAll_get _ e fun hm=>by have q:(H b).isSome=true:=(OJ.mp hm).2;rw [n] at q; simp at q
theorem GX {b:NP} (e:(sW h H).get? b=some o):h.get? b=some o∧H b=none:=by
 have e':h.get? b=some o:=PySem.W.of_hideAll (LX h H) e;refine ⟨e',?_⟩;cases q:H b with
 | none=>rfl
 | some x =>have hm:b∈LX h H:=OJ.mpr ⟨Ow.mpr (Ob e'),by simp [q]⟩;have z:(sW h H).get? b=none:=PySem.W.hideAll_none (LX h H) hm;rw [z] at e; cases e
def nE (g h:PM) (L:NP):List (NP×Qz):=(N4 h.objs.size).filterMap fun a=>if a=L∨(g.get? a).isSome=true then none else (h.get? a).map fun o=>(a,o)
variable {L:NP}
theorem ik {g:PM} (h1:a≠L) (h2:g.get? a=none) (h3:h.get? a=some o):(a,o)∈nE g h L :=
 RK.mpr ⟨a,Ow.mpr (Ob h3),by simp [h1,h2,h3]⟩
variable {p:NP×Qz}
theorem rp {g:PM} (hp:p∈nE g h L):p.1≠L∧g.get? p.1=none∧h.get? p.1=some p.2:=by
 obtain ⟨b,_,e⟩:=RK.mp hp;split at e
 ·cases e
 ·rename_i hn;cases q:h.get? b with
  | none=>rw [q] at e; simp at e
  | some u =>
   rw [q] at e;simp only [RH,Option.some.injEq] at e;subst e;refine ⟨fun z=>hn (.inl z),?_,q⟩;show g.get? b=none;cases r:g.get? b with
   | none=>rfl
   | some v=>exact (hn (.inr (by simp [r]))).elim
def rest (g h:PM) (L d:NP):List (NP×Qz):=(nE g h L).filter fun p=>decide (p.1≠d)
theorem Ba {g:PM} {d:NP}:∀ p∈rest g h L d,p.1≠d:=fun p hp=>of_decide_eq_true (OJ.mp hp).2
theorem xQ {g:PM}:WV g L h (nE g h L):=fun p hp=>let ⟨a,b,c⟩:=rp hp; ⟨c,a,b⟩
theorem vF {g:PM} {d:NP} (h1:d≠L) (h2:g.get? d=none) (h3:h.get? d=some o):WV g L h ((d,o)::rest g h L d):=fun p hp=>by
 rcases NU.mp hp with rfl | hp
 ·exact ⟨h3,h1,h2⟩
 ·exact xQ p (OJ.mp hp).1
structure Mod (K:NK) (mg:OX→Option NN) (base:PM):Prop where
 L0:K.In base
 glob:base.Ns OU mg
 blt:∃ mb,base.Ns SX mb∧∀ x:OX,x ≠ "__name__" → mb x=Pr x
 nolimit:base.NoLimit
structure Cx where
 prog:O4
 w:Pf
 K:NK
 mg:OX→Option NN
 base:PM
 A:O3
 N:List OX
 s₀:NS
 H₀:Hp
 env:V5
 outer:List V5
 stack:List V5
 ex:List NP
 fn:OX→Bool
 calm:Bool
 pn:List (NP×Qz)
 xe:NN→NS→Prop
def DD (l:List V5):List NP:=l.filterMap (·.frame)
abbrev Cx.fs (X:Cx):List NP:=DD X.outer
def Kz (sc:Q3) (x:OX):Prop:=sc.names.lookup x=some .local∨sc.names.lookup x=some .cell∨sc.names.lookup x=some .free
def Loc (sc:Q3) (x:OX):Prop:=sc.names.lookup x=some .local∨sc.names.lookup x=some .cell
def Look (env:V5) (h:PM) (m:OX→Option NN) (x:OX) (u:NN):Prop :=
 (env.kindOf x=some .local∧m x=some u)∨((env.kindOf x=some .cell∨env.kindOf x=some .free)∧∃ c,env.cells.lookup x=some c∧h.IsCell c (some u))
structure Cx.Ok (X:Cx):Prop where
 mod:Mod X.K X.mg X.base
 kind:X.env.scope.kind=.function
 glob:X.env.globals=OU
 blt:X.env.builtins=SX
 above:‹22›≤‹29›
 inj:∀ x y c,X.env.cells.lookup x=some c→X.env.cells.lookup y=some c→x=y
 has:∀ x,(X.env.kindOf x=some .cell∨X.env.kindOf x=some .free)→∃ c,X.env.cells.lookup x=some c
 cab:∀ x c,X.fn x=true→X.env.cells.lookup x=some c→‹22›≤c
 hd:X.calm=true→X.A.handled=none
 frames:X.A.frames=some X.stack
 HV:X.stack=X.outer∨(X.stack=X.env::X.outer∧X.env.frame=some ‹29›)
 exf:∀ b∈X.ex,b≠‹29›∧∀ x c,X.env.cells.lookup x=some c→c≠b
 bs:∀ b o,X.base.get? b=some o→X.s₀.heap.get? b=some o∧X.H₀ b=none
 Dy:X.base.objs.size≤‹22›
 noex:∀ b o,X.base.get? b=some o→b∉X.ex
 Fq:∀ b∈X.ex,b∉X.fs
 oR:X.s₀.heap.FunFrames X.base X.outer
 KU:∀ b∈X.fs,X.H₀ b=none
variable {t':Nat} {ch:List NP} {it:NP} {x:OX} {M:UM} {A:O3} {E:NN→NS→Prop} {u:NN} {Q:Unit→NS→Prop}
structure Inv (X:Cx) (pins:List (NP×Qz)) (σ:List (Option V)) (H:Hp) (s:NS):Prop where
 ok:X.Ok
 os:s.os=X.s₀.os
 bare:T9 s.gens
 base:Un X.fs X.ex X.H₀ H X.s₀.heap s.heap
 loc:∃ m,s.heap.Ns ‹29› m∧∀ (i:Nat) (x:OX) (v:V),X.N[i]?=some x→σ[i]?=some (some v)→Kz X.env.scope x→∃ u,RelV v u∧Look X.env s.heap m x u
 cell:∀ x c,X.env.cells.lookup x=some c→∃ v,s.heap.IsCell c v
 free:H ‹29›=none
 iU:∀ x c,X.env.cells.lookup x=some c→H c=none
 pin:∀ p∈X.pn++pins,s.heap.get? p.1=some p.2∧H p.1=none∧p.1≠‹29›∧p.1∉X.fs∧∀ v,p.2.data≠.cell v
 cG:mK X.prog X.w H s.heap
 len:σ.length=X.N.length
section
variable {X:Cx} {pins:List (NP×Qz)} {σ:List (Option V)} {H H':Hp} {s:NS} {h':PM}
theorem Cx.Ok.Ms (ok:X.Ok) {b:NP} (e:X.base.get? b=some o):b∉X.fs:=fun hb=>by have:=(ok.oR.mem hb).1;rw [e] at this; cases this
theorem Inv.bs (I:Inv X pins σ H s):∀ b o,X.base.get? b=some o→s.heap.get? b=some o∧H b=none:=fun b o e =>⟨I.base.keep b o (I.ok.bs b o e).1 (I.ok.bs b o e).2 (I.ok.Ms e) (I.ok.noex b o e),I.base.free b o (I.ok.bs b o e).1 (I.ok.bs b o e).2 (I.ok.noex b o e)⟩
theorem Inv.bk (I:Inv X pins σ H s):∀ b o,X.base.get? b=some o→s.heap.get? b=some o:=fun b o e=>(I.bs b o e).1
theorem Inv.mod (I:Inv X pins σ H s):Mod X.K X.mg X.base:=I.ok.mod
theorem Inv.ya (I:Inv X pins σ H s):X.K.In s.heap:=I.ok.mod.L0.keeps I.bk
theorem Inv.nolimit (I:Inv X pins σ H s):s.heap.NoLimit:=I.ok.mod.nolimit.keeps I.bk
theorem Inv.fr (I:Inv X pins σ H s):∃ m,Fr X.base ‹29› s.heap m :=
 let ⟨m,hn,_⟩:=I.loc
 ⟨m,hn,I.bk,ON I.ok.Dy I.ok.above⟩
theorem Inv.lt (I:Inv X pins σ H s):‹29›<s.heap.objs.size:=let ⟨_,hn,_⟩:=I.loc; hn.lt
theorem Inv.sz (I:Inv X pins σ H s):‹22›≤s.heap.objs.size:=ON I.ok.above (Q5 I.lt)
theorem Inv.Mr (I:Inv X pins σ H s) (h:‹4›≤a):a∉X.fs:=fun hb=>by obtain ⟨_,o,ho,_⟩:=I.ok.oR.mem hb;exact absurd (Ot (Ob ho) (ON I.sz h)) (Pe _)
theorem Inv.Kt (I:Inv X pins σ H s):∀ x c,X.env.cells.lookup x=some c→c≠X.env.locals:=fun x c e z=>by obtain ⟨v,o,ho,hd⟩:=I.cell x c e;obtain ⟨m,⟨o',es,ep,ho',hd',_⟩,_⟩:=I.loc;rw [z,ho'] at ho; cases ho; rw [hd'] at hd; cases hd
theorem Inv.oR (I:Inv X pins σ H s):s.heap.FunFrames X.base X.outer:=by
 have all:∀ (l:List V5),(∀ b∈DD l,b∈X.fs)→X.s₀.heap.FunFrames X.base l→s.heap.FunFrames X.base l:=by
  intro l;induction l with
  | nil=>intro _ _; trivial
  | cons env r ih =>intro hs hl;obtain ⟨hk,⟨L,o,hf,hn,ho,hd⟩,hr⟩:=hl;have hL:L∈X.fs:=hs L (by unfold DD; rw [Qh,hf]; exact NJ);obtain ⟨sl,e⟩:=I.base.slot L o ho (I.ok.KU L hL) hL fun z=>I.ok.Fq L z hL;exact ⟨hk,⟨L,_,hf,hn,e,hd⟩,ih (fun b hb=>hs b (by unfold DD; rw [Qh,hf]; exact NI _ hb)) hr⟩
 exact all X.outer (fun _ hb=>hb) I.ok.oR
theorem Inv.stack (I:Inv X pins σ H s):s.heap.FunFrames X.base X.stack:=by
 rcases I.ok.HV with e | ⟨e,hf⟩
 ·rw [e]; exact I.oR
 ·rw [e];obtain ⟨m,hn,_⟩:=I.loc;refine .cons (by rw [I.ok.kind]; decide) hf hn ?_ I.oR;exact Rk (ON I.ok.Dy I.ok.above)
theorem Inv.qK (I:Inv X pins σ H s):∀ b∈DD X.stack,b∈X.env.locals::X.fs:=fun b hb=>by
 rcases I.ok.HV with e | ⟨e,hf⟩
 ·rw [e] at hb; exact NI _ hb
 ·rw [e] at hb;unfold DD at hb;rw [Qh,hf] at hb;exact hb
theorem Inv.uQ (I:Inv X pins σ H s):∀ b∈DD X.stack,H b=none:=fun b hb=>by
 rcases NU.mp (I.qK b hb) with e | hb
 ·rw [e]; exact I.free
 ·obtain ⟨_,o,ho,_⟩:=I.ok.oR.mem hb;exact I.base.free b o ho (I.ok.KU b hb) fun z=>I.ok.Fq b z hb
theorem Inv.step {g':Array GenState} {t':Nat} {d':Drawn} {ch:List NP} (I:Inv X pins σ H s)
 (hch:∀ b∈ch,(b∈X.ex∨‹22›≤b)∧b≠‹29›∧(∀ x c,X.env.cells.lookup x=some c→c≠b)∧∀ p∈X.pn++pins,p.1≠b)
 (keep:∀ b o,b≠‹29›→b∉X.fs→b∉ch→s.heap.get? b=some o→H b=none→h'.get? b=some o)
 (slot:∀ b o,b≠‹29›→b∈X.fs→b∉ch→s.heap.get? b=some o→H b=none→∃ sl,h'.get? b=some { o with slots:=sl }) (free:∀ b o,b∉ch→s.heap.get? b=some o→H b=none→H' b=none)
 (there:∀ b o,b∉ch→s.heap.get? b=some o→∃ o',h'.get? b=some o')
 (uK:∀ b xs,H b=some (.tup xs)→H' b=some (.tup xs)) (sX:∀ b o u,H b=some (.kZ o u)→H' b=some (.kZ o u)) (sq:∀ b ps,H b=some (.tbl ps)→∃ more,H' b=some (.tbl (ps++more)))
 (ns:∀ m,s.heap.Ns ‹29› m→h'.Ns ‹29› m) (cG:mK X.prog X.w H' h') (hg:T9 g') :
 Inv X pins σ H' { s with heap:=h',gens:=g',drawn:=d',toks:=t' }:=by
 have neL:∀ b o,X.s₀.heap.get? b=some o→b≠X.env.locals:=fun b o e=>OE (Ot (Ob e) I.ok.above)
 have neC:∀ b o,X.s₀.heap.get? b=some o→b∉X.ex→b∉ch:=fun b o e hx hb=>by
  rcases (hch b hb).1 with z | z
  ·exact hx z
  ·exact absurd (Ot (Ob e) z) (Pe _)
 have cellK:∀ x c,X.env.cells.lookup x=some c→∀ v,s.heap.IsCell c v→h'.IsCell c v:=fun x c e v ⟨o,ho,hd⟩=>by
  have nch:c∉ch:=fun z=>(hch c z).2.2.1 x c e rfl;by_cases hc:c∈X.fs
  ·obtain ⟨sl,q⟩:=slot c o (I.Kt x c e) hc nch ho (I.iU x c e);exact ⟨_,q,hd⟩
  ·exact ⟨o,keep c o (I.Kt x c e) hc nch ho (I.iU x c e),hd⟩
 refine ⟨I.ok,I.os,hg,⟨fun b o e n hb hx=>?_,fun b o e n hb hx=>?_,fun b o e n hx=>?_,fun b o e hx=>?_,fun b xs e=>uK b xs (I.base.uK b xs e),fun b o xs e=>sX b o xs (I.base.sX b o xs e),fun b ps e=>?_⟩,?_,fun x c e=>?_,?_,fun x c e=>?_,fun p hp=>?_,cG,I.len⟩
 ·exact keep b o (neL b o e) hb (neC b o e hx) (I.base.keep b o e n hb hx) (I.base.free b o e n hx)
 ·obtain ⟨sl,e1⟩:=I.base.slot b o e n hb hx;obtain ⟨sl',e2⟩:=slot b _ (neL b o e) hb (neC b o e hx) e1 (I.base.free b o e n hx);exact ⟨sl',e2⟩
 ·obtain ⟨o',e1⟩:=I.base.there b o e hx;exact free b o' (neC b o e hx) e1 (I.base.free b o e n hx)
 ·obtain ⟨o',e1⟩:=I.base.there b o e hx;exact there b o' (neC b o e hx) e1
 ·obtain ⟨m1,e1⟩:=I.base.sq b ps e;obtain ⟨m2,e2⟩:=sq b _ e1;exact ⟨m1++m2,by rw [e2,Array.append_assoc]⟩
 ·obtain ⟨m,hn,hl⟩:=I.loc;refine ⟨m,ns m hn,fun i x v e1 e2 e3=>?_⟩;obtain ⟨u,r,l⟩:=hl i x v e1 e2 e3;refine ⟨u,r,?_⟩;rcases l with l | ⟨k,c,e,z⟩
  ·exact .inl l
  ·exact .inr ⟨k,c,e,cellK x c e _ z⟩
 ·obtain ⟨v,z⟩:=I.cell x c e;exact ⟨v,cellK x c e v z⟩
 ·obtain ⟨m,⟨o,_,_,ho,_⟩,_⟩:=I.loc;exact free _ o (fun z=>(hch _ z).2.1 rfl) ho I.free
 ·obtain ⟨v,o,ho,hd⟩:=I.cell x c e;exact free c o (fun z=>(hch c z).2.2.1 x c e rfl) ho (I.iU x c e)
 ·obtain ⟨e,n,ne,nf,d⟩:=I.pin p hp;have nch:p.1∉ch:=fun z=>(hch p.1 z).2.2.2 p hp rfl;exact ⟨keep p.1 p.2 ne nf nch e n,free p.1 p.2 nch e n,ne,nf,d⟩
theorem Inv.un (I:Inv X pins σ H s) (u:Un X.fs [] H H' s.heap h') (cG:mK X.prog X.w H' h'):Inv X pins σ H' { s with heap:=h',toks:=t' }:=by obtain ⟨m,⟨o,es,ep,ho,r⟩,_⟩:=id I.loc;obtain ⟨sl,hL⟩:=u.any ho I.free (by simp);exact I.step (g':=s.gens) (d':=s.drawn) (ch:=[]) (fun _ z=>nomatch z) (fun b o _ hb _ e n=>u.keep b o e n hb (by simp)) (fun b o _ hb _ e n=>u.slot b o e n hb (by simp)) (fun b o _ e n=>u.free b o e n (by simp)) (fun b o _ e=>u.there b o e (by simp)) u.uK u.sX u.sq (fun m' hm=>by obtain ⟨o',es',ep',ho',r'⟩:=hm;rw [ho] at ho'; cases ho';exact ⟨_,es',ep',hL,r'⟩) cG I.bare
theorem Inv.call {g':Array GenState} {d':Drawn} (I:Inv X pins σ H s) (u:Un (DD X.stack) ch H H' s.heap h') (cG:mK X.prog X.w H' h') (hg:T9 g')
 (hch:∀ b∈ch,(b∈X.ex∨‹22›≤b)∧b≠‹29›∧(∀ x c,X.env.cells.lookup x=some c→c≠b)∧∀ p∈X.pn++pins,p.1≠b) :
 Inv X pins σ H' { s with heap:=h',gens:=g',drawn:=d',toks:=t' }:=by
 obtain ⟨m,⟨o,es,ep,ho,r⟩,_⟩:=id I.loc;obtain ⟨sl,hL⟩:=u.any ho I.free fun z=>(hch _ z).2.1 rfl;exact I.step (ch:=ch) hch (fun b o hL hb hc e n=>u.keep b o e n (fun z=>(NU.mp (I.qK b z)).elim hL hb) hc) (fun b o _ _ hc e n=>u.any e n hc) (fun b o hc e n=>u.free b o e n hc) (fun b o hc e=>u.there b o e hc) u.uK u.sX u.sq (fun m' hm=>by obtain ⟨o',es',ep',ho',r'⟩:=hm;rw [ho] at ho'; cases ho';exact ⟨_,es',ep',hL,r'⟩) cG hg
theorem Inv.turned (I:Inv X pins σ H s) (k:∀ b o,b≠it→s.heap.get? b=some o→h'.get? b=some o) (hn:H it=none) (hL:it≠‹29›)
 (h1:it∈X.ex∨‹22›≤it) (h2:∀ x c,X.env.cells.lookup x=some c→c≠it) (h3:∀ p∈X.pn++pins,p.1≠it):Inv X pins σ H { s with heap:=h',toks:=t' }:=by
 have nit:∀ b u,H b=some u→b≠it:=fun b u e z=>by rw [z,hn] at e; cases e
 refine I.step (g':=s.gens) (d':=s.drawn) (ch:=[it]) (fun b hb=>?_) (fun b o _ _ hc e _=>k b o (fun z=>hc (by simp [z])) e) (fun b o _ _ hc e _=>⟨o.slots,k b o (fun z=>hc (by simp [z])) e⟩) (fun _ _ _ _ n=>n)
  (fun b o hc e=>⟨o,k b o (fun z=>hc (by simp [z])) e⟩) (fun _ _ e=>e) (fun _ _ _ e=>e) (fun b ps e=>⟨#[],by rw [e]; simp⟩) (fun m hm=>?_) (fun b u e=>?_) I.bare
 ·have e:b=it:=by simpa using hb
  subst e;exact ⟨h1,hL,h2,h3⟩
 ·obtain ⟨o,es,ep,ho,r⟩:=hm;exact ⟨o,es,ep,k _ o (P9 hL) ho,r⟩
 ·refine (I.cG b u e).sv (fun c v hc q=>k c v ?_ q) (fun _ q=>q) fun _ _ q=>q;rcases hc with z | z
  ·rw [z]; exact nit b u e
  ·exact nit c _ z
theorem Inv.tok (I:Inv X pins σ H s) (t:Nat):Inv X pins σ H { s with toks:=t }:=I.un (h':=s.heap) (t':=t) Un.refl I.cG
theorem Inv.kept {t':Nat} (I:Inv X pins σ H s) (k:∀ b u,s.heap.get? b=some u→h'.get? b=some u):Inv X pins σ H { s with heap:=h',toks:=t' }:=I.un (Un.kept k) (I.cG.kept k)
theorem Inv.laid {a:NP} {o:HO} {t':Nat} (I:Inv X pins σ H s) (k:∀ b u,s.heap.get? b=some u→h'.get? b=some u) (hp:‹4›≤a) (new:cn X.prog X.w (upd H a o) h' a o) :
 Inv X pins σ (upd H a o) { s with heap:=h',toks:=t' }:=I.un (Un.laid k hp (I.cG.fresh hp)) (I.cG.laid k hp new)
theorem Inv.write {x e:NP} {o:HO} {t':Nat} (I:Inv X pins σ H s) (mu:LP (H x)) (he:e=x∨H e=some (.own x)) (k:∀ b u,b≠e→s.heap.get? b=some u→h'.get? b=some u) (heo:∃ u,h'.get? e=some u)
 (new:cn X.prog X.w (upd H x o) h' x o):Inv X pins σ (upd H x o) { s with heap:=h',toks:=t' }:=I.un (Un.write mu he k heo) (I.cG.write mu he k heo new)
theorem Inv.weak {σ':List (Option V)} (I:Inv X pins σ H s) (hl:σ'.length=σ.length) (w:∀ (i:Nat) v,σ'[i]?=some (some v)→σ[i]?=some (some v)):Inv X pins σ' H s :=
 ⟨I.ok,I.os,I.bare,I.base,let ⟨m,hn,hl'⟩:=I.loc; ⟨m,hn,fun i x v e1 e2 e3=>hl' i x v e1 (w i v e2) e3⟩,I.cell,I.free,I.iU,I.pin,I.cG,hl.trans I.len⟩
theorem Inv.kW {pins':List (NP×Qz)} (I:Inv X pins σ H s) (h:∀ p∈pins',s.heap.get? p.1=some p.2∧H p.1=none∧p.1≠‹29›∧p.1∉X.fs∧∀ v,p.2.data≠.cell v):Inv X pins' σ H s :=
 ⟨I.ok,I.os,I.bare,I.base,I.loc,I.cell,I.free,I.iU,fun p hp=>(NZ.mp hp).elim (fun z=>I.pin p (Ol _ z)) (h p),I.cG,I.len⟩
theorem xP {N:List OX} (hN:N.Nodup) {i j:Nat} (a:N[i]?=some x) (b:N[j]?=some x):i=j:=by obtain ⟨h1,e1⟩:=Oe.mp a;obtain ⟨h2,e2⟩:=Oe.mp b;exact (List.getElem_inj hN).mp (e1.trans e2.symm)
theorem tK {i:Nat} {v:V} (I:Inv X pins σ H s) (hN:X.N.Nodup) (hi:X.N[i]?=some x) (hx:Loc X.env.scope x) (r:RelV v u)
 (h:∀ s',Inv X pins (σ.set i (some v)) H s'→(∃ a,SK a s.heap s'.heap∧(a=‹29›∨X.env.cells.lookup x=some a))→Q () s') (hf:X.fn x=true∨X.env.scope.names.lookup x=some .local:=by first | exact .inl rfl | exact .inr rfl | assumption):Ou M A (storeName X.env x u) Q E s:=by
 obtain ⟨m,hn,hl⟩:=id I.loc;have hcls:(X.env.scope.kind==.class || (X.env.scope.kind==.module&&‹29› != X.env.globals))=false:=by rw [I.ok.kind]; rfl
 have hiσ:i < σ.length:=by rw [I.len]; exact (Oe.mp hi).1
 have Kt:=I.Kt
 have tracked:∀ {a:NP} {h':PM},(∃ o,s.heap.get? a=some o∧H a=none)→SK a s.heap h'→mK X.prog X.w H h':=fun {a h'} ha hs b ob e=>by
  obtain ⟨_,_,hfree⟩:=ha;refine (I.cG b ob e).sv (fun c w' hc q=>(hs.2 c ?_).trans q) (fun _ q=>q) fun _ _ q=>q;rintro rfl;rcases hc with rfl | hc
  ·rw [hfree] at e; cases e
  ·rw [hfree] at hc; cases hc
 rcases hx with hk | hk
 ·refine wpAny_storeName_local hk hn (fun h' hn' hs=>?_) hcls;obtain ⟨oL,_,_,hoL,_⟩:=id hn;refine h _ ⟨I.ok,I.os,I.bare,⟨fun b o e n hb hx=>?_,fun b o e n hb hx=>?_,I.base.free,fun b o e hx=>?_,I.base.uK,I.base.sX,I.base.sq⟩,⟨_,hn',fun j y v' e1 e2 e3=>?_⟩,fun y c e=>?_,I.free,I.iU,fun p hp=>?_,tracked ⟨oL,hoL,I.free⟩ hs,by simpa using I.len⟩ ⟨_,hs,.inl rfl⟩
  ·exact (hs.2 b (OE (Ot (Ob e) I.ok.above))).trans (I.base.keep b o e n hb hx)
  ·obtain ⟨sl,e1⟩:=I.base.slot b o e n hb hx;exact ⟨sl,(hs.2 b (OE (Ot (Ob e) I.ok.above))).trans e1⟩
  ·obtain ⟨o',e1⟩:=I.base.there b o e hx;exact ⟨o',(hs.2 b (OE (Ot (Ob e) I.ok.above))).trans e1⟩
  ·show 5
   ·subst hj;rw [hi] at e1; cases e1;rw [PJ hiσ] at e2;cases e2;exact ⟨u,r,.inl ⟨hk,by simp⟩⟩
   ·rw [PH (P9 hj)] at e2;obtain ⟨u',r',q⟩:=hl j y v' e1 e2 e3;refine ⟨u',r',?_⟩;rcases q with ⟨k,e⟩ | ⟨k,c,e,z⟩
    ·refine .inl ⟨k,?_⟩;have:y≠x:=fun e=>hj (xP hN e1 (e ▸ hi));simp [this,e]
    ·exact .inr ⟨k,c,e,z.sameBut hs (Kt y c e)⟩
  ·obtain ⟨w',z⟩:=I.cell y c e;exact ⟨w',z.sameBut hs (Kt y c e)⟩
  ·obtain ⟨e,n,ne,nf,d⟩:=I.pin p hp;exact ⟨(hs.2 p.1 ne).trans e,n,ne,nf,d⟩
 ·have hfn:X.fn x=true:=by
   rcases hf with z | z
   ·exact z
   ·rw [z] at hk; cases hk
  obtain ⟨c,hc⟩:=I.ok.has x (.inl hk);obtain ⟨w',z⟩:=I.cell x c hc;refine wpAny_storeName_cell I.ok.kind hk hc z (fun h' hc' hs=>?_);obtain ⟨oc,hoc,hocd⟩:=id z;refine h { s with heap:=h' } ⟨I.ok,I.os,I.bare,⟨fun b o e n hb hx=>?_,fun b o e n hb hx=>?_,I.base.free,fun b o e hx=>?_,I.base.uK,I.base.sX,I.base.sq⟩,⟨m,hn.sameBut hs (P9 (Kt x c hc)),fun j y v' e1 e2 e3=>?_⟩,fun y c' e=>?_,I.free,I.iU,fun p hp=>?_,tracked ⟨oc,hoc,I.iU x c hc⟩ hs,by simpa using I.len⟩ ⟨c,hs,.inr hc⟩
  ·exact (hs.2 b (OE (Ot (Ob e) (I.ok.cab x c hfn hc)))).trans (I.base.keep b o e n hb hx)
  ·obtain ⟨sl,e1⟩:=I.base.slot b o e n hb hx;exact ⟨sl,(hs.2 b (OE (Ot (Ob e) (I.ok.cab x c hfn hc)))).trans e1⟩
  ·obtain ⟨o',e1⟩:=I.base.there b o e hx;exact ⟨o',(hs.2 b (OE (Ot (Ob e) (I.ok.cab x c hfn hc)))).trans e1⟩
  ·show 5
   ·subst hj;rw [hi] at e1; cases e1;rw [PJ hiσ] at e2;cases e2;exact ⟨u,r,.inr ⟨.inl hk,c,hc,hc'⟩⟩
   ·rw [PH (P9 hj)] at e2;obtain ⟨u',r',q⟩:=hl j y v' e1 e2 e3;refine ⟨u',r',?_⟩;rcases q with q | ⟨k,c',e,z'⟩
    ·exact .inl q
    ·refine .inr ⟨k,c',e,z'.sameBut hs ?_⟩;rintro rfl;exact hj (xP hN e1 (I.ok.inj _ _ _ e hc ▸ hi))
  ·by_cases hcc:c'=c
   ·subst hcc; exact ⟨_,hc'⟩
   ·obtain ⟨w2,z2⟩:=I.cell y c' e;exact ⟨w2,z2.sameBut hs hcc⟩
  ·obtain ⟨e,n,ne,nf,d⟩:=I.pin p hp;refine ⟨(hs.2 p.1 ?_).trans e,n,ne,nf,d⟩;intro q;rw [q,hoc] at e;have q':oc=p.2:=OD e;exact d w' (by rw [← q']; exact hocd)
theorem qJ {i:Nat} {v:V} (I:Inv X pins σ H s) (hN:X.N.Nodup) (hi:X.N[i]?=some x) (hx:Loc X.env.scope x) (r:RelV v u)
 (h:∀ s',Inv X pins (σ.set i (some v)) H s'→Q () s') (hf:X.fn x=true∨X.env.scope.names.lookup x=some .local:=by first | exact .inl rfl | exact .inr rfl | assumption):Ou M A (storeName X.env x u) Q E s :=
 tK I hN hi hx r (fun s' I' _=>h s' I') hf
theorem Inv.ID {s':NS} (I:Inv X pins σ H s) (ho:s'.os=s.os) (u:Un (DD X.stack) ch H H' s.heap s'.heap) (cG:mK X.prog X.w H' s'.heap) (hg:T9 s'.gens)
 (hch:∀ b∈ch,(b∈X.ex∨‹22›≤b)∧b≠‹29›∧(∀ x c,X.env.cells.lookup x=some c→c≠b)∧∀ p∈X.pn++pins,p.1≠b):Inv X pins σ H' s':=by
 obtain ⟨h',g',d',t',o'⟩:=s';have e:o'=s.os:=ho;subst e;exact I.call (g':=g') (t':=t') (d':=d') u cG hg hch
end
abbrev XK:=NN→Option NP→Hp→Prop
abbrev St:=List (Option V)
abbrev VK:=V→Hp→Prop
abbrev TE:=St→Hp→VK→Prop
abbrev TT:=St→Hp→(Bool→Hp→Prop)→Prop
abbrev TA:=St→Hp→(List V→Hp→Prop)→Prop
structure Ends where
 nx:St→Hp→Prop
 rt:VK
 bk:St→Hp→Prop:=fun _ _=>False
 ct:St→Hp→Prop:=fun _ _=>False
abbrev TS:=Ends→St→Hp→Prop
def EP (X:Cx) (pins:List (NP×Qz)) (σ:St) (Q:VK) (u:NN) (s':NS):Prop:=∃ v H',Inv X pins σ H' s'∧RelV v u∧Q v H'
def TP (X:Cx) (pins:List (NP×Qz)) (σ:St) (Q:Bool→Hp→Prop) (b:Bool) (s':NS):Prop:=∃ H',Inv X pins σ H' s'∧Q b H'
def AP (X:Cx) (pins:List (NP×Qz)) (σ:St) (Q:List V→Hp→Prop) (us:List NN) (s':NS):Prop:=∃ vs H',Inv X pins σ H' s'∧Vals vs us∧Q vs H'
noncomputable def SP (X:Cx) (pins:List (NP×Qz)) (D:Ends) (f:Flow) (s':NS):Prop :=
 match f with
 | .next=>∃ σ' H',Inv X pins σ' H' s'∧D.nx σ' H'
 | .brk=>∃ σ' H',Inv X pins σ' H' s'∧D.bk σ' H'
 | .cont=>∃ σ' H',Inv X pins σ' H' s'∧D.ct σ' H'
 | .ret u=>∃ v σ' H',Inv X pins σ' H' s'∧RelV v u∧D.rt v H'
def PE (X:Cx) (e:Pt) (t:TE):Prop :=
 ∀ (pins:List (NP×Qz)) (s:NS) (σ:St) (H:Hp) (Q:VK),Inv X pins σ H s→t σ H Q→Ou ‹3› X.A (eval e X.env) ‹52› X.xe s
def PT (X:Cx) (e:Pt) (t:TT):Prop :=
 ∀ (pins:List (NP×Qz)) (s:NS) (σ:St) (H:Hp) (Q:Bool→Hp→Prop),Inv X pins σ H s→t σ H Q→Ou ‹3› X.A (Ua e X.env (eval e X.env)) (TP X pins σ Q) X.xe s
def PW (X:Cx) (e:Pt) (t:TT):Prop :=
 ∀ (whole:Sem NN) (pins:List (NP×Qz)) (s:NS) (σ:St) (H:Hp) (Q:Bool→Hp→Prop),Inv X pins σ H s→t σ H Q→Ou ‹3› X.A (Ua e X.env whole) (TP X pins σ Q) X.xe s
variable {X:Cx}
theorem PW.pt {e:Pt} {t:TT} (h:PW X e t):PT X e t:=h _
noncomputable def PA (X:Cx) (es:List Pt) (t:TA):Prop :=
 ∀ (pos:SY) (pins:List (NP×Qz)) (s:NS) (σ:St) (H:Hp) (Q:List V→Hp→Prop),Inv X pins σ H s→t σ H Q→Ou ‹3› X.A (spliced (RL pos (Pn es X.env))) (AP X pins σ Q) X.xe s
def PS (X:Cx) (st:Qo) (t:TS):Prop :=
 ∀ (pins:List (NP×Qz)) (s:NS) (σ:St) (H:Hp) (D:Ends),Inv X pins σ H s→t D σ H→Ou ‹3› X.A (exec st X.env) (SP X pins D) X.xe s
def wq (X:Cx) (st:List Qo) (t:TS):Prop :=
 ∀ (pins:List (NP×Qz)) (s:NS) (σ:St) (H:Hp) (D:Ends),Inv X pins σ H s→t D σ H→Ou ‹3› X.A (execs st X.env) (SP X pins D) X.xe s
variable {pos:SY} {pins:List (NP×Qz)} {σ:St} {t:TE}
theorem cB {α:Type} {t:Sem α} {Q Q':α→NS→Prop} {s:NS} (h:Ou M A t Q E s) (hQ:∀ a s,Q a s→Q' a s):Ou M A t Q' E s:=Px h hQ fun _ _ x=>x
section
variable {X:Cx}
def lC (i:Nat):TE:=fun σ H Q=>∃ v,σ[i]?=some (some v)∧Q v H
def tC (v:V):TE:=fun _ H Q=>Q v H
theorem Js {i:Nat} (hN:X.N[i]?=some x) (hv:Kz X.env.scope x) (hd:‹39›=false:=by decide) (hcd:(x==("__classdict__" : OX))=false:=by decide):PE X (.Name x pos) (lC i):=by
 intro pins s σ H Q I h;obtain ⟨v,e,h⟩:=h;obtain ⟨m,hn,hl⟩:=I.loc;obtain ⟨u,r,l⟩:=hl i x v hN e hv;have fin:EP X pins σ Q u s:=⟨v,H,I,r,h⟩
 rcases l with ⟨hk,hm⟩ | ⟨hk,c,hc,hcell⟩
 ·exact Wo (UN I.ok.kind hk hn hm fin) hd
 ·rcases hk with hk | hk
  ·exact Wo (Vf I.ok.kind hk hc hcell fin) hd
  ·exact Wo (wpAny_loadName_free I.ok.kind hk hc hcell fin hcd) hd
theorem aj {i j pos}:PE X (.Constant (.int i) j pos) (tC (.int i)):=fun _ _ _ H _ I h=>wpAny_Constant_int ⟨.int i,H,I.tok _,⟨_,rfl⟩,h⟩
theorem dy {b j pos}:PE X (.Constant (.bool b) j pos) (tC (.bl b)):=fun _ _ _ H _ I h=>Constant_bool ⟨.bl b,H,I,rfl,h⟩
def Gl (X:Cx) (x:OX):Prop:=X.env.kindOf x=some .globalImplicit
theorem Bv {s:NS} {Q:NN→NS→Prop} (I:Inv X pins σ H s) (hg:Gl X x) (hm:X.mg x=some u) (h:Q u s)
 (hd:‹39›=false:=by decide):Ou ‹3› X.A (eval (.Name x pos) X.env) Q E s :=
 S0 I.ok.kind hg (Calls.loadGlobal_global (by rw [I.ok.glob]; exact I.mod.glob.keeps I.bk) hm h) hd
theorem km {s:NS} {Q:NN→NS→Prop} (I:Inv X pins σ H s) (hg:Gl X x) (hm:X.mg x=none) (hv:Pr x=some u) (h:Q u s)
 (hn:x ≠ "__name__" := by decide) (hd:‹39›=false:=by decide):Ou ‹3› X.A (eval (.Name x pos) X.env) Q E s:=by
 obtain ⟨mb,h1,h2⟩:=I.mod.blt;exact S0 I.ok.kind hg (Calls.loadGlobal_builtin (by rw [I.ok.glob]; exact I.mod.glob.keeps I.bk) hm (by rw [I.ok.blt]; exact h1.keeps I.bk) ((h2 x hn).trans hv) h) hd
theorem GS {v:V} (hg:Gl X x) (hm:X.mg x=some u) (r:RelV v u) (hd:‹39›=false:=by decide):PE X (.Name x pos) (tC v) :=
 fun _ _ _ H _ I h=>Bv I hg hm ⟨v,H,I,r,h⟩ hd
theorem ic {v:V} (hg:Gl X x) (hm:X.mg x=none) (hv:Pr x=some u) (r:RelV v u) (hn:x ≠ "__name__" := by decide) (hd:‹39›=false:=by decide):PE X (.Name x pos) (tC v) :=
 fun _ _ _ H _ I h=>km I hg hm hv ⟨v,H,I,r,h⟩ hn hd
variable {a b:Pt} {ta tb:TE} {pos:SY}
noncomputable def PC (X:Cx) (op:CmpOp) (a b:Pt) (t:TE):Prop :=
 ∀ (pins:List (NP×Qz)) (s:NS) (σ:St) (H:Hp) (Q:VK),Inv X pins σ H s→t σ H Q →
  Ou ‹3› X.A (eval a X.env) (fun v s₁=>Ou ‹3› X.A (eval b X.env) (fun u s₂=>Ou ‹3› X.A (Qa op v u) ‹52› X.xe s₂) X.xe s₁) X.xe s
def tB (t:TE):TT:=fun σ H Q=>t σ H fun x H1=>∃ c,x=.bl c∧Q c H1
theorem EG {op:CmpOp} (h:PC X op a b t) (h1:Sk op b=false:=by first | exact nobehind _ ‹11› ‹11› | rfl):PT X (.Compare a [op] [b] pos) (tB t):=by intro pins s σ H Q I hw;refine UI (cB (h pins s σ H _ I hw) fun v s1 h1=>cB h1 fun u s2 h2=>cB h2 fun c s3 ⟨x,H1,I1,r1,q1⟩=>?_) h1;obtain ⟨d,rfl,q⟩:=q1;cases r1;exact P5 ⟨H1,I1,q⟩
variable {tA tB':TT} {rest:List Pt}
def Lc (t u:TT):TT:=fun σ H Q=>t σ H fun c H1=>if c=true then u σ H1 Q else Q false H1
def Mg (t u:TT):TT:=fun σ H Q=>t σ H fun c H1=>if c=true then Q true H1 else u σ H1 Q
def IQ (t:TT):TT:=fun σ H Q=>t σ H fun c H1=>Q (!c) H1
theorem vk (ha:PT X a tA):PW X (.BoolOp .And [a] pos) tA:=by
 intro wh pins s σ H Q I h;refine isTrue_and (cB (ha pins s σ H Q I h) fun c s1 e=>?_);cases c with
 | true=>exact isTrue_and_nil e
 | false=>exact e
theorem jl (ha:PT X a tA):PW X (.BoolOp .Or [a] pos) tA:=by
 intro wh pins s σ H Q I h;refine isTrue_or (cB (ha pins s σ H Q I h) fun c s1 e=>?_);cases c with
 | false=>exact isTrue_or_nil e
 | true=>exact e
theorem zz (ha:PT X a tA) (hb:PW X (.BoolOp .And (b::rest) pos) tB'):PW X (.BoolOp .And (a::b::rest) pos) (Lc tA tB'):=by
 intro wh pins s σ H Q I h;refine isTrue_and (cB (ha pins s σ H _ I h) fun c s1 ⟨H1,I1,q1⟩=>?_);cases c with
 | true=>exact hb wh pins s1 σ H1 Q I1 q1
 | false=>exact ⟨H1,I1,q1⟩
theorem fW (ha:PT X a tA) (hb:PW X (.BoolOp .Or (b::rest) pos) tB'):PW X (.BoolOp .Or (a::b::rest) pos) (Mg tA tB'):=by
 intro wh pins s σ H Q I h;refine isTrue_or (cB (ha pins s σ H _ I h) fun c s1 ⟨H1,I1,q1⟩=>?_);cases c with
 | true=>exact ⟨H1,I1,q1⟩
 | false=>exact hb wh pins s1 σ H1 Q I1 q1
theorem dm (ha:PT X a tA):PT X (.UnaryOp .Not a pos) (IQ tA):=by intro pins s σ H Q I h;exact isTrue_not (ha pins s σ H (fun c H1=>Q (!c) H1) I h)
def HU (ta tb:TE):TE:=fun σ H Q=>ta σ H fun x H1=>∃ c,x=.bl c∧if c=true then tb σ H1 Q else Q (.bl false) H1
def K6 (ta tb:TE):TE:=fun σ H Q=>ta σ H fun x H1=>∃ c,x=.bl c∧if c=true then Q (.bl true) H1 else tb σ H1 Q
def HP (ta:TE):TE:=fun σ H Q=>ta σ H fun x H1=>∃ c,x=.bl c∧Q (.bl (!c)) H1
theorem kc {op} (h:PE X a t):PE X (.BoolOp op [a] pos) t:=fun pins s σ H Q I hw=>BoolOp_one (h pins s σ H Q I hw)
theorem jq (ha:PE X a ta) (hb:PE X (.BoolOp .And (b::rest) pos) tb):PE X (.BoolOp .And (a::b::rest) pos) (HU ta tb):=by
 intro pins s σ H Q I h;refine BoolOp_and (cB (ha pins s σ H _ I h) fun v s1 ⟨x,H1,I1,r1,q1⟩=>?_);obtain ⟨c,rfl,q1⟩:=q1;cases r1;refine P5 ?_;cases c with
 | true=>exact hb pins s1 σ H1 Q I1 q1
 | false=>exact ⟨.bl false,H1,I1,rfl,q1⟩
theorem Ic (ha:PE X a ta) (hb:PE X (.BoolOp .Or (b::rest) pos) tb):PE X (.BoolOp .Or (a::b::rest) pos) (K6 ta tb):=by
 intro pins s σ H Q I h;refine BoolOp_or (cB (ha pins s σ H _ I h) fun v s1 ⟨x,H1,I1,r1,q1⟩=>?_);obtain ⟨c,rfl,q1⟩:=q1;cases r1;refine P5 ?_;cases c with
 | false=>exact hb pins s1 σ H1 Q I1 q1
 | true=>exact ⟨.bl true,H1,I1,rfl,q1⟩
theorem EL (ha:PE X a ta):PE X (.UnaryOp .Not a pos) (HP ta):=by intro pins s σ H Q I h;refine UnaryOp_ (cB (ha pins s σ H _ I h) fun v s1 ⟨x,H1,I1,r1,q1⟩=>?_);obtain ⟨c,rfl,q1⟩:=q1;cases r1;exact not_of (P5 ⟨.bl (!c),H1,I1,rfl,q1⟩)
def M3 (t:TT) (ta tb:TE):TE:=fun σ H Q=>t σ H fun c H1=>if c=true then ta σ H1 Q else tb σ H1 Q
theorem EM {c:Pt} (hc:PT X c tA) (ha:PE X a ta) (hb:PE X b tb):PE X (.IfExp c a b pos) (M3 tA ta tb):=by
 intro pins s σ H Q I h;refine wpAny_IfExp (cB (hc pins s σ H _ I h) fun d s1 ⟨H1,I1,q1⟩=>?_);cases d with
 | true=>exact ha pins s1 σ H1 Q I1 q1
 | false=>exact hb pins s1 σ H1 Q I1 q1
end
noncomputable def dQ (K:NK) (H:Hp) (a:NP) (xs:List V):Prop :=
 Rd H a (.lst xs) ∨
  ∃ (o:Qz) (its:Array NN) (n:Nat),K.lookup a=some o∧o.cls=.type "list" ∧ o.dict=none∧o.data=.seq its n∧its.size≤NM∧Vals xs its.toList
def FU (K:NK) (H:Hp) (a:NP) (xs:List V):Prop :=
 Rd H a (.tup xs) ∨
  ∃ (o:Qz) (its:Array NN) (n:Nat),K.lookup a=some o∧o.cls=.type "tuple" ∧ o.data=.seq its n∧its.size≤NM∧Vals xs its.toList
noncomputable def MQ:NN→Option V
 | .none=>some .non
 | .bool b=>some (.bl b)
 | .int i _=>some (.int i)
 | .str x _=>some (.str x)
 | .bytes b _=>some (.byt b)
 | .float b _=>some (.flt b)
 | .ref a=>some (.ref a)
 | .type n=>some (.ty n)
 | _=>none
theorem RelV.abs {x:V} (r:RelV x u):MQ u=some x:=by
 cases x with
 | non=>cases r; rfl
 | bl _=>cases r; rfl
 | int _=>obtain ⟨t,rfl⟩:=r; rfl
 | str _=>obtain ⟨t,rfl⟩:=r; rfl
 | byt _=>obtain ⟨t,rfl⟩:=r; rfl
 | flt _=>obtain ⟨t,rfl⟩:=r; rfl
 | ref _=>cases r; rfl
 | ty _=>cases r; rfl
theorem RelV.inj {x y:V} {u:NN} (r:RelV x u) (q:RelV y u):x=y:=OD (r.abs.symm.trans q.abs)
variable {K:NK}
theorem Vals.inj:∀ {xs ys:List V} {us:List NN},Vals xs us→Vals ys us→xs=ys
 | _,_,_,.nil,.nil=>rfl
 | _,_,_,.cons r t,.cons r' t'=>by rw [r.inj r',Vals.inj t t']
section
variable {X:Cx} {pins:List (NP×Qz)} {σ:St} {H:Hp} {s:NS} {a:NP} {xs ys:List V}
theorem dQ.of (h:H a=some (.lst xs)):dQ K H a xs:=.inl (.inl h)
theorem Inv.list (I:Inv X pins σ H s) (h:dQ X.K H a xs):∃ its:List NN,Vals xs its∧PlainL s.heap a its.toArray∧xs.length≤NM:=by
 rcases h with h | ⟨o,its,n,hk,hc,hd,hs,hz,r⟩
 ·obtain ⟨z,its,n,r,e⟩:=h.ok I.cG;exact ⟨its,r,⟨_,n,e,rfl,rfl,rfl⟩,z⟩
 ·refine ⟨its.toList,r,⟨o,n,I.ya a o hk,hc,hd,by simpa using hs⟩,?_⟩;have e:=r.length;simp only [N3] at e;lia
theorem Inv.tuple (I:Inv X pins σ H s) (h:FU X.K H a xs):∃ its:List NN,Vals xs its∧IsTup s.heap a its.toArray∧xs.length≤NM:=by
 rcases h with h | ⟨o,its,n,hk,hc,hs,hz,r⟩
 ·obtain ⟨z,its,r,p⟩:=h.ok I.cG;exact ⟨its,r,p,z⟩
 ·refine ⟨its.toList,r,⟨o,I.ya a o hk,hc,n,by simpa using hs⟩,?_⟩;have e:=r.length;simp only [N3] at e;lia
theorem Inv.xZ (I:Inv X pins σ H s) (h:dQ X.K H a xs) (h':dQ X.K H a ys):xs=ys:=by
 obtain ⟨its,r,⟨o,n,e,_,_,d⟩,_⟩:=I.list h;obtain ⟨its',r',⟨o',n',e',_,_,d'⟩,_⟩:=I.list h';rw [e] at e'; cases e';rw [d] at d';injection d' with d1 _;have:its=its':=by simpa using congrArg Array.toList d1
 subst this;exact r.inj r'
end
abbrev Cx.sk (X:Cx) (E:NN→NS→Prop):Cx:={ X with xe:=E }
abbrev Cx.EW (X:Cx):Cx:=X.sk fun _ _=>False
theorem Cx.Ok.sk {X:Cx} (ok:X.Ok) (E:NN→NS→Prop):(X.sk E).Ok :=
 ⟨ok.mod,ok.kind,ok.glob,ok.blt,ok.above,ok.inj,ok.has,ok.cab,ok.hd,ok.frames,ok.HV,ok.exf,ok.bs,ok.Dy,ok.noex,ok.Fq,ok.oR,ok.KU⟩
variable {tc:TT}
theorem Cx.Ok.jX (ok:(X.sk E).Ok):X.Ok :=
 ⟨ok.mod,ok.kind,ok.glob,ok.blt,ok.above,ok.inj,ok.has,ok.cab,ok.hd,ok.frames,ok.HV,ok.exf,ok.bs,ok.Dy,ok.noex,ok.Fq,ok.oR,ok.KU⟩
section
variable {X:Cx} {pins:List (NP×Qz)} {σ:St} {H:Hp} {s:NS} {E:NN→NS→Prop}
theorem Inv.sk (I:Inv X pins σ H s) (E:NN→NS→Prop):Inv (X.sk E) pins σ H s:=⟨I.ok.sk E,I.os,I.bare,I.base,I.loc,I.cell,I.free,I.iU,I.pin,I.cG,I.len⟩
theorem Inv.jX (I:Inv (X.sk E) pins σ H s):Inv X pins σ H s:=⟨I.ok.jX,I.os,I.bare,I.base,I.loc,I.cell,I.free,I.iU,I.pin,I.cG,I.len⟩
theorem SP.jX {D:Ends} {f:Flow} {s':NS} (h:SP (X.sk E) pins D f s'):SP X pins D f s':=by
 cases f with
 | next=>obtain ⟨σ',H',I,q⟩:=h; exact ⟨σ',H',I.jX,q⟩
 | brk=>obtain ⟨σ',H',I,q⟩:=h; exact ⟨σ',H',I.jX,q⟩
 | cont=>obtain ⟨σ',H',I,q⟩:=h; exact ⟨σ',H',I.jX,q⟩
 | ret u=>obtain ⟨v,σ',H',I,r,q⟩:=h; exact ⟨v,σ',H',I.jX,r,q⟩
theorem wq.EW {st:List Qo} {t:TS} (h:wq X.EW st t):wq X st t:=fun pins s σ H D I hw =>Px (h pins s σ H D (I.sk _) hw) (fun _ _ q=>q.jX) fun _ _ z=>Q6 z
end
section
variable {X:Cx} {st:Qo} {rest:List Qo} {t u:TS} {e:Pt} {te:TE} {pos:SY}
def D1:TS:=fun D σ H=>D.nx σ H
def IP (t u:TS):TS:=fun D σ H=>t { D with nx:=u D } σ H
theorem bh:wq X [] D1:=fun _ _ σ H _ I h=>Sz ⟨σ,H,I,h⟩
theorem af (h1:PS X st t) (h2:wq X rest u):wq X (st::rest) (IP t u):=by
 intro pins s σ H D I h;refine wpAny_execs_cons (cB (h1 pins s σ H { D with nx:=u D } I h) fun f s1 q=>?_);cases f with
 | next =>obtain ⟨σ',H',I',q⟩:=q;exact h2 pins s1 σ' H' D I' q
 | ret v=>exact q
 | brk=>exact q
 | cont=>exact q
theorem ax (h1:PS X st t):wq X [st] t:=by
 intro pins s σ H D I h;refine wpAny_execs_cons (cB (h1 pins s σ H D I h) fun f s1 q=>?_);cases f with
 | next=>exact Sz q
 | ret v=>exact q
 | brk=>exact q
 | cont=>exact q
def K8:TS:=fun D σ H=>D.ct σ H
theorem xA:PS X (.Continue pos) K8:=fun _ _ σ H _ I h=>wpAny_Continue ⟨σ,H,I,h⟩
theorem Inv.quiet {s:NS} (I:Inv X pins σ H s):interactive X.env=false:=by simp [interactive,I.ok.kind]
def wQ (te:TE):TS:=fun D σ H=>te σ H fun _ H1=>D.nx σ H1
theorem cU (he:PE X e te) (hs:SV e none pos.line X.env=pure false:=by rfl):PS X (.Expr e pos) (wQ te):=by intro pins s σ H D I h;exact wpAny_Expr_any (cB (he pins s σ H _ I h) fun v s1 ⟨x,H1,I1,r1,q1⟩=>⟨σ,H1,I1,q1⟩) I.quiet hs
def D0 (te:TE):TS:=fun D σ H=>te σ H D.rt
theorem aM (he:PE X e te):PS X (.Return (some e) pos) (D0 te):=by intro pins s σ H D I h;exact wpAny_Return_some (cB (he pins s σ H _ I h) fun v s1 ⟨x,H1,I1,r1,q1⟩=>⟨x,σ,H1,I1,r1,q1⟩)
def IT (c:TT) (t u:TS):TS:=fun D σ H=>c σ H fun b H1=>if b=true then t D σ H1 else u D σ H1
theorem cu {c:Pt} {a b:List Qo} (hc:PT X c tc) (ha:wq X a t) (hb:wq X b u):PS X (.If c a b pos) (IT tc t u):=by
 intro pins s σ H D I h;refine wpAny_If (cB (hc pins s σ H _ I h) fun d s1 ⟨H1,I1,q1⟩=>?_);cases d with
 | true=>exact ha pins s1 σ H1 D I1 q1
 | false=>exact hb pins s1 σ H1 D I1 q1
def D2:TS:=fun _ _ _=>False
theorem EH:PS X st D2:=fun _ _ _ _ _ _ h=>h.elim
end
abbrev TG:=V→St→Hp→(St→Hp→Prop)→Prop
abbrev wA:=List V→St→Hp→(St→Hp→Prop)→Prop
noncomputable def PG (X:Cx) (target:Pt) (t:TG):Prop :=
 ∀ (pins:List (NP×Qz)) (s:NS) (σ:St) (H:Hp) (v:V) (u:NN) (Q:St→Hp→Prop),Inv X pins σ H s→RelV v u→t v σ H Q →
  Ou ‹3› X.A (assign target X.env u) (fun _ s'=>∃ σ' H',Inv X pins σ' H' s'∧Q σ' H') X.xe s
noncomputable def KG (X:Cx) (ts:List Pt) (t:wA):Prop :=
 ∀ (pins:List (NP×Qz)) (s:NS) (σ:St) (H:Hp) (vs:List V) (us:List NN) (Q:St→Hp→Prop),Inv X pins σ H s→Vals vs us→t vs σ H Q →
  Ou ‹3› X.A (assignInOrder ((Qe ts X.env).map (·.2)) us) (fun _ s'=>∃ σ' H',Inv X pins σ' H' s'∧Q σ' H') X.xe s
abbrev FR:=V→V→V→Hp→(Hp→Prop)→Prop
noncomputable def KD (X:Cx) (t:FR):Prop :=
 ∀ (pins:List (NP×Qz)) (s:NS) (σ:St) (H:Hp) (o i v:V) (ov iv u:NN) (Q:Hp→Prop),Inv X pins σ H s→RelV o ov→RelV i iv→RelV v u→t o i v H Q →
  Ou ‹3› X.A (setItem ov iv u) (fun _ s'=>∃ H',Inv X pins σ H' s'∧Q H') X.xe s
abbrev KY:=V→V→Hp→VK→Prop
variable {es:List Pt} {n:Nat} {tg:Pt} {te:TE} {pos':SY} {body:List Qo} {tb:TS}
noncomputable def L8 (X:Cx) (op:Wq) (t:KY):Prop :=
 ∀ (pins:List (NP×Qz)) (s:NS) (σ:St) (H:Hp) (x y:V) (v u:NN) (Q:VK),Inv X pins σ H s→RelV x v→RelV y u→t x y H Q →
  Ou ‹3› X.A (inplaceOp op v u) ‹52› X.xe s
section
variable {X:Cx} {pos:SY}
def iT (i:Nat):TG:=fun v σ H Q=>Q (σ.set i (some v)) H
theorem Bk {i:Nat} (hN:X.N.Nodup) (hi:X.N[i]?=some x) (hx:Loc X.env.scope x) (hf:X.fn x=true∨X.env.scope.names.lookup x=some .local:=by first | exact .inl rfl | exact .inr rfl | assumption):PG X (.Name x pos) (iT i):=by intro pins s σ H v u Q I r h;exact wpAny_assign_Name (qJ I hN hi hx r (fun s' I'=>⟨_,H,I',h⟩) hf)
def Ka:wA:=fun vs σ H Q=>vs=[]∧Q σ H
def Fp (t:TG) (u:wA):wA:=fun vs σ H Q=>∃ v r,vs=v::r∧t v σ H fun σ' H'=>u r σ' H' Q
theorem fN:KG X [] Ka:=by intro pins s σ H vs us Q I r h;obtain ⟨e,h⟩:=h;subst e;cases r;exact assignInOrder_nil ⟨σ,H,I,h⟩
theorem bI {e:Pt} {t:TG} {u:wA} (h1:PG X e t) (h2:KG X es u)
 (hs:(Qe (e::es) X.env).map (·.2)=assign e X.env::(Qe es X.env).map (·.2):=by rfl):KG X (e::es) (Fp t u):=by
 intro pins s σ H vs us Q I r h;obtain ⟨v,vr,e1,h⟩:=h;subst e1;cases r with
 | cons r rr =>rw [hs];refine assignInOrder_cons (cB (h1 pins s σ H _ _ _ I r h) fun _ s1 ⟨σ1,H1,I1,q1⟩=>?_);exact h2 pins s1 σ1 H1 _ _ Q I1 rr q1
def LH (K:NK) (n:Nat) (t:wA):TG:=fun v σ H Q=>∃ a xs,v=.ref a∧FU K H a xs∧xs.length=n∧t xs σ H Q
theorem Jp {k:Nat} {t:wA} (hc:X.calm=true) (h:KG X es t)
 (hn:(Qe es X.env).length=n:=by rfl) (hst:(Qe es X.env).findIdx? (·.1)=none:=by rfl):PG X (.Tuple es k pos) (LH X.K n t):=by
 intro pins s σ H v u Q I r hw;obtain ⟨a,xs,e1,hq,hl,hw⟩:=hw;subst e1;cases r;obtain ⟨its,rv,ht,hz⟩:=I.tuple hq;refine assign_Tuple_tuple (I.ok.hd hc) ht (by simp [hn,← hl,rv.length]) hst fun h' hx=>?_;have I1:Inv X pins σ H { s with heap:=h' }:=I.kept (t':=s.toks) fun b o e=>hx b o (OE (Ob e)) e;exact h pins _ σ H xs _ Q I1 (by simpa using rv) hw
def Hc (to ti:TE) (t:FR):TG:=fun v σ H Q=>to σ H fun o H1=>ti σ H1 fun i H2=>t o i v H2 fun H3=>Q σ H3
theorem oJ {o i:Pt} {to ti:TE} {t:FR} (ho:PE X o to) (hi:PE X i ti) (hs:KD X t)
 (ha:∀ v,assign (.Subscript o i pos) X.env v=(do
  let ov ← holding [v] (eval o X.env)
  let iv ← holding [v,ov] (eval i X.env)
  Wm pos
  holding [v,ov,iv] (setItem ov iv v)
  release [v,ov,iv] []):=by intro _; rfl):PG X (.Subscript o i pos) (Hc to ti t):=by
 intro pins s σ H v u Q I r h;rw [ha];refine NO (Pw (cB (ho pins s σ H _ I h) fun ov s1 ⟨x,H1,I1,r1,q1⟩=>?_));refine NO (Pw (cB (hi pins s1 σ H1 _ I1 q1) fun iv s2 ⟨y,H2,I2,r2,q2⟩=>?_));refine NO (RB (NO (Pw (cB (hs pins s2 σ H2 x y v ov iv u _ I2 r1 r2 r q2) fun _ s3 ⟨H3,I3,q3⟩=>?_))));exact wpAny_release ⟨σ,H3,I3,q3⟩
def su (te:TE) (g:TG):TS:=fun D σ H=>te σ H fun x H1=>g x σ H1 D.nx
theorem me {e:Pt} {g:TG} (he:PE X e te) (hg:PG X tg g) (hs:swapsWithSole [tg] e pos.line X.env=pure false:=by rfl) (hw:swappedStores [tg] e X.env=pure none:=by rfl)
 (h1:(Qe [tg] X.env).map (·.2)=[assign tg X.env]:=by rfl):PS X (.Assign [tg] e pos) (su te g):=by
 intro pins s σ H D I h;refine wpAny_Assign_stores ‹44› hs hw;rw [h1];exact cB (hg pins s1 σ H1 x v _ I1 r1 q1) fun _ s2 q=>q
theorem Jk {i:Nat} {e:Pt} (hN:X.N.Nodup) (hi:X.N[i]?=some x) (hx:Loc X.env.scope x) (he:PE X e te) (hs:SV e (some (.Name x pos')) pos.line X.env=pure false:=by rfl) (hf:X.fn x=true∨X.env.scope.names.lookup x=some .local:=by first | exact .inl rfl | exact .inr rfl | assumption) :
 PS X (.Assign [.Name x pos'] e pos) (su te (iT i)):=by
 intro pins s σ H D I h;refine wpAny_Assign_Name (cB (he pins s σ H _ I h) fun v s1 ⟨y,H1,I1,r1,q1⟩=>?_) hs;exact qJ I1 hN hi hx r1 (fun s2 I2=>⟨_,H1,I2,q1⟩) hf
def Lb (i:Nat) (te:TE) (ti:KY):TS:=fun D σ H=>∃ x,σ[i]?=some (some x)∧te σ H fun y H1=>ti x y H1 fun z H2=>D.nx (σ.set i (some z)) H2
theorem zA {i:Nat} {e:Pt} {op:Wq} {ti:KY} (hN:X.N.Nodup) (hi:X.N[i]?=some x) (hx:Loc X.env.scope x) (he:PE X e te) (ho:L8 X op ti) (hf:X.fn x=true∨X.env.scope.names.lookup x=some .local:=by first | exact .inl rfl | exact .inr rfl | assumption) :
 PS X (.AugAssign (.Name x pos') op e pos) (Lb i te ti):=by
 intro pins s σ H D I h;obtain ⟨v,e1,h⟩:=h;obtain ⟨m,hn,hl⟩:=I.loc;have vis:Kz X.env.scope x:=by rcases hx with k | k; exact .inl k; exact .inr (.inl k)
 obtain ⟨u,r,l⟩:=hl i x v hi e1 vis;refine wpAny_AugAssign_Name ?_;have go:Ou ‹3› X.A (eval e X.env) (fun w s₂=>Ou ‹3› X.A (inplaceOp op u w) (fun r s₃=>Ou ‹3› X.A (storeName X.env x r) (fun _=>SP X pins D .next) X.xe s₃) X.xe s₂) X.xe s:=by refine cB (he pins s σ H _ I h) fun w s1 ⟨y,H1,I1,r1,q1⟩=>?_;refine cB (ho pins s1 σ H1 v y u w _ I1 r r1 q1) fun z s2 ⟨zv,H2,I2,r2,q2⟩=>?_;exact qJ I2 hN hi hx r2 (fun s3 I3=>⟨_,H2,I3,q2⟩) hf
 rcases l with ⟨hk,hm⟩ | ⟨hk,c,hc,hcell⟩
 ·exact UN I.ok.kind hk hn hm go
 ·rcases hk with hk | hk
  ·exact Vf I.ok.kind hk hc hcell go
  ·rcases hx with k | k
   ·have:X.env.scope.names.lookup x=some .free:=hk;rw [k] at this; cases this
   ·have:X.env.scope.names.lookup x=some .free:=hk;rw [k] at this; cases this
def HR (to ti te:TE) (tget:V→V→Hp→VK→Prop) (tip:KY) (tset:FR):TS:=fun D σ H=>to σ H fun o H1=>ti σ H1 fun i H2=>tget o i H2 fun x H3=>te σ H3 fun y H4=>tip x y H4 fun z H5=>tset o i z H5 fun H6=>D.nx σ H6
noncomputable def KI (X:Cx) (t:V→V→Hp→VK→Prop):Prop :=
 ∀ (pins:List (NP×Qz)) (s:NS) (σ:St) (H:Hp) (o i:V) (ov iv:NN) (Q:VK),Inv X pins σ H s→RelV o ov→RelV i iv→t o i H Q →
  Ou ‹3› X.A (Tn ov iv) ‹52› X.xe s
theorem GK {o i e:Pt} {to ti:TE} {tget:V→V→Hp→VK→Prop} {tip:KY} {tset:FR} {op:Wq} {tpos:SY} (ho:PE X o to) (hi:PE X i ti) (hg:KI X tget) (he:PE X e te) (hp:L8 X op tip) (hs:KD X tset)
 (ha:∀ ov iv new,augStore i ov iv new=(do holding [new,ov,iv] (setItem ov iv new); release [new,ov,iv] []; pure .next):=by intros; rfl):PS X (.AugAssign (.Subscript o i tpos) op e pos) (HR to ti te tget tip tset):=by
 intro pins s σ H D I h;refine wpAny_AugAssign_SubscriptAny (cB (ho pins s σ H _ I h) fun ov s1 ⟨x1,H1,I1,r1,q1⟩=>?_) ha;refine cB (hi pins s1 σ H1 _ I1 q1) fun iv s2 ⟨x2,H2,I2,r2,q2⟩=>?_;refine cB (hg pins s2 σ H2 x1 x2 ov iv _ I2 r1 r2 q2) fun old s3 ⟨x3,H3,I3,r3,q3⟩=>?_;refine cB (he pins s3 σ H3 _ I3 q3) fun v s4 ⟨x4,H4,I4,r4,q4⟩=>?_;refine cB (hp pins s4 σ H4 x3 x4 old v _ I4 r3 r4 q4) fun new s5 ⟨x5,H5,I5,r5,q5⟩=>?_;exact cB (hs pins s5 σ H5 x1 x2 x5 ov iv new _ I5 r1 r2 r5 q5) fun _ s6 ⟨H6,I6,q6⟩=>⟨σ,H6,I6,q6⟩
def L4 (f:Int→Int→Int):KY:=fun x y H Q=>∃ i j,x=.int i∧y=.int j∧Q (.int (f i j)) H
theorem J3:L8 X .Add (L4 fun i j=>i+j):=by intro pins s σ H x y v u Q I r1 r2 h;obtain ⟨i,j,e1,e2,q⟩:=h;subst e1; subst e2;obtain ⟨t,rfl⟩:=r1;obtain ⟨t',rfl⟩:=r2;exact iadd_int ⟨.int _,H,I.tok _,⟨_,rfl⟩,q⟩
theorem zY:L8 X .Sub (L4 fun i j=>i-j):=by intro pins s σ H x y v u Q I r1 r2 h;obtain ⟨i,j,e1,e2,q⟩:=h;subst e1; subst e2;obtain ⟨t,rfl⟩:=r1;obtain ⟨t',rfl⟩:=r2;exact isub_int ⟨.int _,H,I.tok _,⟨_,rfl⟩,q⟩
end
section
variable {X:Cx} {pos:SY}
noncomputable def DZ (c:TT) (tb:TS):TS:=fun D σ H=>∃ W:Nat→St→Hp→Prop,(∃ m,W m σ H)∧∀ m σ H,W m σ H →
 c σ H fun b H1=>if b=true then ∃ N:St→Hp→Prop,(∀ σ' H',N σ' H'→∃ m',m'<m∧W m' σ' H')∧tb { D with nx:=N,ct:=N,bk:=D.nx } σ H1 else D.nx σ H1
theorem xx {c:Pt} (hp:PassesOwn ‹3› X.A X.env X.xe) (hc:PT X c tc) (hb:wq X body tb):PS X (.While c body [] pos) (DZ tc tb):=by
 intro pins s σ H D I h;obtain ⟨W,⟨m0,w0⟩,turn⟩:=h;refine wpAny_While (codeAny_whileLoop (fun n s'=>∃ σ' H',Inv X pins σ' H' s'∧W n σ' H') ?_ m0 ⟨σ,H,I,w0⟩);rintro n s1 ⟨σ1,H1,I1,w1⟩;refine QE hp (cB (hc pins s1 σ1 H1 _ I1 (turn n σ1 H1 w1)) fun b s2 ⟨H2,I2,q2⟩=>?_);cases b with
 | true =>
  obtain ⟨N,hN,q2⟩:=q2;rw [if_pos rfl];refine QE hp (cB (hb pins s2 σ1 H2 _ I2 q2) fun f s3 q3=>?_);cases f with
  | next =>obtain ⟨σ3,H3,I3,n3⟩:=q3;obtain ⟨m',hm,w3⟩:=hN σ3 H3 n3;exact ⟨m',hm,σ3,H3,I3,w3⟩
  | cont =>obtain ⟨σ3,H3,I3,n3⟩:=q3;obtain ⟨m',hm,w3⟩:=hN σ3 H3 n3;exact ⟨m',hm,σ3,H3,I3,w3⟩
  | brk=>exact q3
  | ret v=>exact q3
 | false =>rw [if_neg N8];exact Sz ⟨σ1,H2,I2,q2⟩
end
structure It where
 go:Nat→Hp→Prop
 LU:Nat→Hp→V→Hp→Prop
 stop:Nat→Hp→Prop
def yJ (X:Cx) (pins:List (NP×Qz)) (H:Hp) (b:NP):Prop :=
 H b=none∧b≠‹29›∧b∉X.fs∧(b∈X.ex∨‹22›≤b)∧(∀ x c,X.env.cells.lookup x=some c→c≠b)∧∀ p∈X.pn++pins,p.1≠b
theorem Inv.Hf {H':Hp} {s:NS} {b:NP} (I:Inv X pins σ H s) (hb:‹4›≤b) (hn:H' b=none):yJ X pins H' b:=by
 refine ⟨hn,QH (Ot I.lt hb),I.Mr hb,.inr (ON I.sz hb),fun x c e z=>?_,fun p hp z=>?_⟩
 ·obtain ⟨v,q⟩:=I.cell x c e;exact absurd (Ot q.lt (by rw [z]; exact hb)) (Pe _)
 ·exact absurd (Ot (Ob (I.pin p hp).1) (by rw [z]; exact hb)) (Pe _)
structure Turn (P:O4) (w:Pf) (K:NK) (tg:Pt) (J:It) (fp:List NP) (it:NP) (tn:Nat→PM→Prop):Prop where
 mem:it∈fp
 obj:∀ i h,tn i h→∀ b∈fp,∃ o,h.get? b=some o∧∀ v,o.data≠.cell v
 keep:∀ i h h',tn i h→(∀ b∈fp,∀ o,h.get? b=some o→h'.get? b=some o)→tn i h'
 item:∀ (X:Cx),X.prog=P→X.w=w→X.K=K→X.calm=true→∀ (i:Nat) (pins:List (NP×Qz)) (s:NS) (σ:St) (H:Hp) (E:NN→NS→Prop),Inv X pins σ H s→(∀ b∈fp,yJ X pins H b)→tn i s.heap→J.go i H →
  Ou (model P w) X.A (Vr (.ref it)) (fun r s1=>∃ u,r=some u ∧
   Ou (model P w) X.A (SA tg (.ref it) u) (fun _ s2=>∃ x H',Inv X pins σ H' s2∧RelV x u∧J.LU i H x H'∧tn (i+1) s2.heap∧∀ b∈fp,H' b=none) E s1) E s
 done:∀ (X:Cx),X.prog=P→X.w=w→X.K=K→X.calm=true→∀ (i:Nat) (pins:List (NP×Qz)) (s:NS) (σ:St) (H:Hp) (E:NN→NS→Prop),Inv X pins σ H s→(∀ b∈fp,yJ X pins H b)→tn i s.heap→J.stop i H →
  Ou (model P w) X.A (Vr (.ref it)) (fun r s1=>r=none∧Inv X pins σ H s1) E s
 self:∀ (A:O3) (i:Nat) (s:NS) (Q:NN→NS→Prop) (E:NN→NS→Prop),tn i s.heap→Q (.ref it) s→Ou (model P w) A (pyIter (.ref it)) Q E s
abbrev TI:=St→Hp→(It→Hp→Prop)→Prop
noncomputable def Nf (X:Cx) (pins:List (NP×Qz)) (σ:St) (tg:Pt) (R:It→Hp→Prop) (itv:NN) (s2:NS):Prop :=
 ∃ (it:NP) (fp:List NP) (tn:Nat→PM→Prop) (J:It) (H':Hp),itv=.ref it∧Inv X pins σ H' s2∧Turn X.prog X.w X.K tg J fp it tn∧tn 0 s2.heap∧(∀ b∈fp,yJ X pins H' b)∧R J H'
noncomputable def PI (X:Cx) (tg iter:Pt) (wi:TI):Prop :=
 ∀ (pins:List (NP×Qz)) (s:NS) (σ:St) (H:Hp) (R:It→Hp→Prop),Inv X pins σ H s→wi σ H R →
  Ou ‹3› X.A (eval iter X.env) (fun v s1=>Ou ‹3› X.A (pyIter v) (Nf X pins σ tg R) X.xe s1) X.xe s
theorem Ir {s:NS} {n:String} {vs:Array NN} (ho:s.heap.get? it=some o) (hc:o.cls=.type n) (hd:o.data=.fields vs)
    (hn:["enumerate", "zip", "dict_itemiterator", "dict_reverseitemiterator", "odict_iterator", "itertools.zip_longest", "itertools.pairwise"].contains n=false) (hQ:Q () s):Ou M A (SA tg (.ref it) u) Q E s:=by
  unfold SA
  cases tg <;> first
    | exact Oh hQ
    | (cases u <;> first
        | exact Oh hQ
        | (refine wpAny_bind (wpAny_load ho ?_)
           rw [hc,hd];show Ou M A (if (["enumerate", "zip", "dict_itemiterator", "dict_reverseitemiterator", "odict_iterator", "itertools.zip_longest", "itertools.pairwise"].contains n&&vs[0]?==some (VW _))=true then _ else _) Q E s;rw [if_neg (by intro h; rw [hn,Bool.false_and] at h; cases h)];exact Oh hQ))
def L9 (K:NK) (a:NP):It :=
 ⟨fun i H=>∃ xs x,dQ K H a xs∧xs[i]?=some x,fun i H x H'=>H'=H∧∀ xs,dQ K H a xs→xs[i]?=some x,fun i H=>∃ xs,dQ K H a xs∧xs.length≤i⟩
def LR (lo:Int) (n:Nat):It:=⟨fun i _=>i<n,fun i H x H'=>H'=H∧x=.int (lo+i),fun i _=>n≤i⟩
theorem B4 {w:Pf} (a it:NP):Turn P w K tg (L9 K a) [it] it (fun i h=>h.IsListIter it a i) where
 mem:=by simp
 obj:=fun i h st b hb=>by
  have e:b=it:=by simpa using hb
  subst e;obtain ⟨o,e,c,d⟩:=st;exact ⟨o,e,fun v z=>by rw [d] at z; cases z⟩
 keep:=fun i h h' st k=>st.at fun o e=>k it (by simp) o e
 item:=by intro X hP hw hK hc i pins s σ H E I hf st hg;subst hP hw hK;obtain ⟨xs,x,hq,hx⟩:=hg;obtain ⟨its,rv,p,hz⟩:=I.list hq;obtain ⟨u,hu,ru⟩:=rv.get hx;obtain ⟨f0,f1,f2,f3,f4,f5⟩:=hf it (by simp);refine Ub st p.isList (x:=u) (by simpa using hu) fun h' st' sb=>?_;have I1:Inv X pins σ H { s with heap:=h' }:=I.turned (t':=s.toks) (fun b o hb e=>(sb.2 b hb).trans e) f0 f1 f3 f4 f5;obtain ⟨o,e,c,d⟩:=id st';exact ⟨u,rfl,Ir (s:={ s with heap:=h' }) e c d ‹11› ⟨x,H,I1,ru,⟨rfl,fun ys hy=>by rw [I.xZ hy hq]; exact hx⟩,st',fun b hb=>(hf b hb).1⟩⟩
 done:=by intro X hP hw hK hc i pins s σ H E I hf st hg;subst hP hw hK;obtain ⟨xs,hq,hx⟩:=hg;obtain ⟨its,rv,p,hz⟩:=I.list hq;obtain ⟨f0,f1,f2,f3,f4,f5⟩:=hf it (by simp);have hl:=rv.length;exact UJ (I.ok.hd hc) st p.isList (by simp; lia) fun h' eb=>⟨rfl,I.turned (t':=s.toks) (fun b o hb e=>eb b o hb e) f0 f1 f3 f4 f5⟩
 self:=fun _ _ _ _ _ st h=>wpAny_pyIter_listiter st h
variable {ta:TA} {fp:List NP}
theorem yU {w:Pf} (it:NP) (lo:Int) (n:Nat):Turn P w K tg (LR lo n) [it] it (fun i h=>IsRangeIter h it (lo+(i:Nat)*1) ((n:Int)-(i:Nat)) 1) where
 mem:=by simp
 obj:=fun i h st b hb=>by
  have e:b=it:=by simpa using hb
  subst e;exact ⟨_,st,fun v z=>by have z':Data.fields _=Data.cell v:=z;cases z'⟩
 keep:=fun i h h' st k=>k it (by simp) _ st
 item:=by intro X hP hw hK hc i pins s σ H E I hf st hg;subst hP hw hK;obtain ⟨f0,f1,f2,f3,f4,f5⟩:=hf it (by simp);have W:=Walks.range (prog:=X.prog) (w:=X.w) (I.ok.hd hc) it lo 1 n;refine W.item i s _ _ hg st fun v h' tk hv st' kk=>?_;obtain ⟨t,rfl⟩:=hv;have I1:Inv X pins σ H { s with heap:=h',toks:=tk }:=I.turned (fun b o hb e=>kk b o (by simpa using hb) e) f0 f1 f3 f4 f5;refine ⟨_,rfl,Ir (s:={ s with heap:=h',toks:=tk }) (n := "range_iterator") st' rfl rfl ‹11› ⟨.int (lo+i),H,I1,⟨t,?_⟩,⟨rfl,rfl⟩,st',fun b hb=>(hf b hb).1⟩⟩;rw [Int.mul_one]
 done:=by intro X hP hw hK hc i pins s σ H E I hf st hg;subst hP hw hK;obtain ⟨f0,f1,f2,f3,f4,f5⟩:=hf it (by simp);exact wpAny_pyNext_range_end (I.ok.hd hc) st (by have:n≤i:=hg; lia) fun h' eb=>⟨rfl,I.turned (t':=s.toks) (fun b o hb e=>eb b o hb e) f0 f1 f3 f4 f5⟩
 self:=fun _ _ _ _ _ st h=>wpAny_pyIter_rangeiter st h
section
variable {X:Cx} {tg:Pt}
def yd (K:NK) (tl:TE):TI:=fun σ H R=>tl σ H fun x H1=>∃ a,x=.ref a∧(∃ xs,dQ K H1 a xs)∧R (L9 K a) H1
theorem GO {l:Pt} {tl:TE} (hl:PE X l tl):PI X tg l (yd X.K tl):=by
 intro pins s σ H R I h;refine cB (hl pins s σ H _ I h) fun v s1 ⟨x,H1,I1,r1,q1⟩=>?_;obtain ⟨a,e,⟨xs,hq⟩,q⟩:=q1;subst e;cases r1;obtain ⟨its,rv,p,hz⟩:=I1.list hq;refine To p.isList ?_;refine ⟨s1.heap.objs.size,[s1.heap.objs.size],_,_,H1,rfl,I1.kept (t':=s1.toks) fun b o e=>NT _ e,B4 a _,⟨_,OK _ rfl,rfl,rfl⟩,fun b hb=>?_,q⟩;have e:b=s1.heap.objs.size:=by simpa using hb
 subst e;exact I1.Hf (N9 _) (I1.cG.fresh (N9 _))
theorem xu {s:NS} {R:It→Hp→Prop} {lo hi:Int} {t u v:WO} {tk:Nat} (I:Inv X pins σ H s) (h1:-(2 ^ 62)≤lo) (h2:lo<2 ^ 62) (h3:-(2 ^ 62)≤hi) (h4:hi<2 ^ 62)
 (q:R (LR lo (hi-lo).toNat) H):Ou ‹3› X.A (pyIter (.ref ‹4›)) (Nf X pins σ tg R) E { s with heap:=s.heap.push { cls:=.type "range", data:=.fields #[.int lo t,.int hi u,.int 1 v] },toks:=tk }:=by
 refine wpAny_pyIter_range (IsRange.new ..) (small_one h1 h2 h3 h4) ?_;have I1:Inv X pins σ H { s with heap:=s.heap.push { cls:=.type "range", data:=.fields #[.int lo t,.int hi u,.int 1 v] },toks:=tk }:=I.kept fun b o e=>NT _ e
 refine ⟨‹48›.objs.size,[‹48›.objs.size],_,_,H,rfl,
  I1.kept (t':=tk) fun b o e=>NT _ e,yU _ lo (hi-lo).toNat,?_,fun b hb=>?_,q⟩
 ·have e1:lo+((0:Nat):Int)*1=lo:=by simp
  have e2:(((hi-lo).toNat:Nat):Int)-((0:Nat):Int)=Builtin.Range.rangeSize lo hi 1:=by rw [rangeSize_one]; split <;> lia
  show IsRangeIter _ _ (lo+((0:Nat):Int)*1) ((((hi-lo).toNat:Nat):Int)-((0:Nat):Int)) 1;rw [e1,e2];exact OK _ rfl
 ·have e:b=‹48›.objs.size:=by simpa using hb
  subst e;exact I1.Hf (N9 _) (I1.cG.fresh (N9 _))
def Im (ta:TA):TI:=fun σ H R=>ta σ H fun vs H1=>∃ j:Int,vs=[.int j]∧-(2 ^ 62)≤j∧j<2 ^ 62∧R (LR 0 j.toNat) H1
def Il (ta:TA):TI:=fun σ H R=>ta σ H fun vs H1=>∃ i j:Int,vs=[.int i,.int j]∧(-(2 ^ 62)≤i∧i<2 ^ 62∧-(2 ^ 62)≤j∧j<2 ^ 62)∧R (LR i (j-i).toNat) H1
theorem cY {a:Pt} {p:SY} (hg:Gl X "range") (hm:X.mg "range" = none) (ha:PA X [a] ta) (hs:Pn [a] X.env=[(false,eval a X.env)]:=by rfl):PI X tg (.Call (.Name "range" p) [a] [] pos) (Im ta):=by
 intro pins s σ H R I h;refine Call_ (km I hg hm boot_range (Qw (cB (ha pos pins s σ H _ I h) fun us s1 ⟨vs,H1,I1,r1,q1⟩=>?_) hs rfl));obtain ⟨j,e,q1,q2,q⟩:=q1;subst e;cases r1 with
 | cons r rr =>cases rr;obtain ⟨t,rfl⟩:=r;exact call_range_1 (xu I1 (by lia) (by lia) q1 q2 (by simpa using q))
theorem CF {a b:Pt} {p:SY} (hg:Gl X "range") (hm:X.mg "range" = none) (ha:PA X [a,b] ta) (hs:Pn [a,b] X.env=[(false,eval a X.env),(false,eval b X.env)]:=by rfl) (hs2:Pn [b] X.env=[(false,eval b X.env)]:=by rfl) :
 PI X tg (.Call (.Name "range" p) [a,b] [] pos) (Il ta):=by
 intro pins s σ H R I h;refine Call_ (km I hg hm boot_range (Qw (cB (ha pos pins s σ H _ I h) fun us s1 ⟨vs,H1,I1,r1,q1⟩=>?_) (by rw [hs,hs2]) (by rw [hs2]; rfl)));obtain ⟨i,j,e,⟨q1,q2,q3,q4⟩,q⟩:=q1;subst e;cases r1 with
 | cons r rr =>
  cases rr with
  | cons r' rr =>cases rr;obtain ⟨t,rfl⟩:=r;obtain ⟨t',rfl⟩:=r';exact call_range_2 (xu I1 q1 q2 q3 q4 q)
noncomputable def K7 (wi:TI) (g:TG) (tb:TS):TS:=fun D σ H=>wi σ H fun J H1=>∃ W:Nat→Nat→St→Hp→Prop,(∃ m,W 0 m σ H1)∧∀ i m σ H,W i m σ H →
 (J.stop i H∧D.nx σ H)∨(J.go i H∧∃ N:St→Hp→Prop,(∀ σ' H',N σ' H'→∃ m',m'<m∧W (i+1) m' σ' H')∧∀ x H',J.LU i H x H'→g x σ H' fun σ2 H2=>tb { D with nx:=N,ct:=N,bk:=D.nx } σ2 H2)
def rg (fp:List NP) (h:PM):List (NP×Qz):=fp.filterMap fun b=>(h.get? b).map fun o=>(b,o)
theorem jt {b:NP} (hb:b∈fp) (e:h.get? b=some o):(b,o)∈rg fp h:=RK.mpr ⟨b,hb,by rw [e]; rfl⟩
theorem CN (hp:p∈rg fp h):p.1∈fp∧h.get? p.1=some p.2:=by
 obtain ⟨b,hb,e⟩:=RK.mp hp;cases q:h.get? b with
 | none=>rw [q] at e; cases e
 | some o =>rw [q] at e;have e':(b,o)=p:=OD e;subst e';exact ⟨hb,q⟩
theorem Inv.pinned {s:NS} (I:Inv X pins σ H s) (hf:∀ b∈fp,yJ X pins H b) (ho:∀ b∈fp,∃ o,s.heap.get? b=some o∧∀ v,o.data≠.cell v):Inv X (pins++rg fp s.heap) σ H s :=
 I.kW fun p hp=>(NZ.mp hp).elim (fun z=>I.pin p (NQ _ z)) fun z=>by obtain ⟨hb,e⟩:=CN z;obtain ⟨f0,f1,f2,_⟩:=hf p.1 hb;obtain ⟨o,e',d⟩:=ho p.1 hb;rw [e] at e'; cases e';exact ⟨e,f0,f1,f2,d⟩
theorem Inv.gR {pl:List (NP×Qz)} {s:NS} (I:Inv X (pins++pl) σ H s):Inv X pins σ H s:=I.kW fun p hp=>I.pin p (NQ _ (Ol _ hp))
theorem ee {iter:Pt} {wi:TI} {g:TG} (hp:PassesOwn ‹3› X.A X.env X.xe) (hc:X.calm=true) (hi:PI X tg iter wi) (hg:PG X tg g) (hb:wq X body tb)
 (hs:∀ x,Qq iter X.env x=pure x:=by intro _; rfl):PS X (.For tg iter body [] pos) (K7 wi g tb):=by
 intro pins s σ H D I h;refine wpAny_For (cB (hi pins s σ H _ I h) fun v s1 h1=>cB h1 fun itv s2 h2=>?_) hs;obtain ⟨it,fp,tn,J,H2,e,I2,T,cz,f2,W,⟨m0,w0⟩,turn⟩:=h2;subst e;have stat:∀ {H':Hp},(∀ b∈fp,H' b=none)→∀ b∈fp,yJ X pins H' b:=fun hn b hb=>⟨hn b hb,(f2 b hb).2⟩
 refine codeAny_forLoop_any (fun n s'=>∃ i σ' H',Inv X pins σ' H' s'∧tn i s'.heap∧(∀ b∈fp,H' b=none)∧W i n σ' H') ?_ m0 ⟨0,σ,H2,I2,cz,fun b hb=>(f2 b hb).1,w0⟩;rintro n s3 ⟨i,σ3,H3,I3,st3,fr3,w3⟩;rcases turn i n σ3 H3 w3 with ⟨stop,qn⟩ | ⟨go,N,hN,step⟩
 ·refine QE hp (cB (T.done X rfl rfl rfl hc i pins s3 σ3 H3 X.xe I3 (stat fr3) st3 stop) fun r s4 ⟨hr,I4⟩=>?_);subst hr;exact Sz ⟨σ3,H3,I4,qn⟩
 ·refine QE hp (cB (T.item X rfl rfl rfl hc i pins s3 σ3 H3 X.xe I3 (stat fr3) st3 go) fun r s4 ⟨u,hr,h4⟩=>?_);subst hr;refine QE hp (cB h4 fun _ s5 ⟨x,H5,I5,r5,y5,st5,fr5⟩=>?_);have I5':=I5.pinned (stat fr5) (T.obj _ _ st5);refine QE hp (cB (hg _ s5 σ3 H5 x u _ I5' r5 (step x H5 y5)) fun _ s6 ⟨σ6,H6,I6,q6⟩=>?_);refine QE hp (cB (hb _ s6 σ6 H6 _ I6 q6) fun f s7 q7=>?_);have again:∀ {σ7:St} {H7:Hp},Inv X (pins++rg fp s5.heap) σ7 H7 s7→N σ7 H7→∃ m,m<n∧∃ i σ' H',Inv X pins σ' H' s7∧tn i s7.heap∧(∀ b∈fp,H' b=none)∧W i m σ' H':=fun {σ7 H7} I7 n7=>by obtain ⟨m',hm,w7⟩:=hN σ7 H7 n7;refine ⟨m',hm,i+1,σ7,H7,I7.gR,T.keep _ _ _ st5 fun b hb o e=>(I7.pin (b,o) (NQ _ (NQ _ (jt hb e)))).1,fun b hb=>?_,w7⟩;obtain ⟨o,e,d⟩:=T.obj _ _ st5 b hb;exact (I7.pin (b,o) (NQ _ (NQ _ (jt hb e)))).2.1
  cases f with
  | next=>obtain ⟨σ7,H7,I7,n7⟩:=q7; exact again I7 n7
  | cont=>obtain ⟨σ7,H7,I7,n7⟩:=q7; exact again I7 n7
  | brk=>obtain ⟨σ7,H7,I7,q7⟩:=q7; exact ⟨σ7,H7,I7.gR,q7⟩
  | ret v=>obtain ⟨x7,σ7,H7,I7,r7,q7⟩:=q7; exact ⟨x7,σ7,H7,I7.gR,r7,q7⟩
end
abbrev R2:=V→V→Hp→VK→Prop
noncomputable def o6 (X:Cx) (f:NN→NN→Sem NN) (r:R2):Prop :=
 ∀ (pins:List (NP×Qz)) (s:NS) (σ:St) (H:Hp) (x y:V) (v u:NN) (Q:VK),Inv X pins σ H s→RelV x v→RelV y u→r x y H Q →
  Ou ‹3› X.A (f v u) ‹52› X.xe s
noncomputable def MR (X:Cx) (f:NN→Sem NN) (r:V→Hp→VK→Prop):Prop :=
 ∀ (pins:List (NP×Qz)) (s:NS) (σ:St) (H:Hp) (x:V) (v:NN) (Q:VK),Inv X pins σ H s→RelV x v→r x H Q →
  Ou ‹3› X.A (f v) ‹52› X.xe s
noncomputable def de (X:Cx) (f:NN) (r:List V→Hp→VK→Prop):Prop :=
 ∀ (pins:List (NP×Qz)) (s:NS) (σ:St) (H:Hp) (xs:List V) (us:List NN) (Q:VK),Inv X pins σ H s→Vals xs us→r xs H Q →
  Ou ‹3› X.A (call f us) ‹52› X.xe s
noncomputable def MS (X:Cx) (r:V→Hp→(Bool→Hp→Prop)→Prop):Prop :=
 ∀ (pins:List (NP×Qz)) (s:NS) (σ:St) (H:Hp) (x:V) (v:NN) (Q:Bool→Hp→Prop),Inv X pins σ H s→RelV x v→r x H Q →
  Ou ‹3› X.A (truthy v) (TP X pins σ Q) X.xe s
def nW (r:R2) (ta tb:TE):TE:=fun σ H Q=>ta σ H fun x H1=>tb σ H1 fun y H2=>r x y H2 Q
def MZ (r:V→Hp→VK→Prop) (ta:TE):TE:=fun σ H Q=>ta σ H fun x H1=>r x H1 Q
def rI (C:Int→Int→Prop) (g:Int→Int→V):R2:=fun x y H Q=>∃ i j,x=.int i∧y=.int j∧C i j∧Q (g i j) H
def zy (g:Int→Int→V):R2:=fun x y H Q=>∃ i j,x=.int i∧y=.int j∧Q (g i j) H
variable {r:R2} {f:NN→NN→Sem NN}
def rU (g:Int→V):V→Hp→VK→Prop:=fun x H Q=>∃ i,x=.int i∧Q (g i) H
section
variable {X:Cx} {a b c:Pt} {ta tb tc:TE} {pos:SY}
theorem Kw (ha:PE X a ta) (hb:PE X b tb) {s:NS} {R:V→V→Hp→Prop} (I:Inv X pins σ H s)
 (h:ta σ H fun x H1=>tb σ H1 fun y H2=>R x y H2) {Q:NN→NS→Prop} {f:NN→NN→Sem NN}
 (hf:∀ v u s2 x y H2,Inv X pins σ H2 s2→RelV x v→RelV y u→R x y H2→Ou ‹3› X.A (f v u) Q X.xe s2) :
 Ou ‹3› X.A (eval a X.env) (fun v s₁=>Ou ‹3› X.A (eval b X.env) (fun u s₂=>Ou ‹3› X.A (f v u) Q X.xe s₂) X.xe s₁) X.xe s:=by
 refine cB (ha pins s σ H _ I h) fun v s1 ⟨x,H1,I1,r1,q1⟩=>?_;refine cB (hb pins s1 σ H1 _ I1 q1) fun u s2 ⟨y,H2,I2,r2,q2⟩=>?_;exact hf v u s2 x y H2 I2 r1 r2 q2
theorem a7 {op:Wq} (ho:o6 X (Sq op) r) (ha:PE X a ta) (hb:PE X b tb):PE X (.BinOp a op b pos) (nW r ta tb):=by intro pins s σ H Q I h;exact wpAny_BinOp (Kw ha hb I h fun v u s2 x y H2 I2 rx ry q=>ho pins s2 σ H2 x y v u Q I2 rx ry q)
theorem mX {op:UnaryOp} {r:V→Hp→VK→Prop} (ho:MR X (unaryOp op) r) (ha:PE X a ta):PE X (.UnaryOp op a pos) (MZ r ta):=by intro pins s σ H Q I h;exact UnaryOp_ (cB (ha pins s σ H _ I h) fun v s1 ⟨x,H1,I1,r1,q1⟩=>ho pins s1 σ H1 x v Q I1 r1 q1)
theorem LY {C:Int→Int→Prop} {g:Int→Int→Int}
 (rule:∀ (i j:Int) (t u:WO) (s:NS) (Q:NN→NS→Prop) (E:NN→NS→Prop),C i j→Q (.int (g i j) s.toks) { s with toks:=s.toks+1 }→Ou ‹3› X.A (f (.int i t) (.int j u)) Q E s) :
 o6 X f (rI C fun i j=>.int (g i j)):=by
 intro pins s σ H x y v u Q I rx ry h;obtain ⟨i,j,rfl,rfl,hc,q⟩:=h;obtain ⟨t,rfl⟩:=rx;obtain ⟨t',rfl⟩:=ry;exact rule i j t t' s _ _ hc ⟨.int (g i j),H,I.tok _,⟨_,rfl⟩,q⟩
theorem Lw {g:Int→Int→Int}
 (rule:∀ (i j:Int) (t u:WO) (s:NS) (Q:NN→NS→Prop) (E:NN→NS→Prop),Q (.int (g i j) s.toks) { s with toks:=s.toks+1 }→Ou ‹3› X.A (f (.int i t) (.int j u)) Q E s) :
 o6 X f (zy fun i j=>.int (g i j)):=by
 intro pins s σ H x y v u Q I rx ry h;obtain ⟨i,j,rfl,rfl,q⟩:=h;obtain ⟨t,rfl⟩:=rx;obtain ⟨t',rfl⟩:=ry;exact rule i j t t' s _ _ ⟨.int (g i j),H,I.tok _,⟨_,rfl⟩,q⟩
theorem GV {g:Int→Int→Bool}
 (rule:∀ (i j:Int) (t u:WO) (s:NS) (Q:NN→NS→Prop) (E:NN→NS→Prop),Q (.bool (g i j)) s→Ou ‹3› X.A (f (.int i t) (.int j u)) Q E s) :
 o6 X f (zy fun i j=>.bl (g i j)):=by
 intro pins s σ H x y v u Q I rx ry h;obtain ⟨i,j,rfl,rfl,q⟩:=h;obtain ⟨t,rfl⟩:=rx;obtain ⟨t',rfl⟩:=ry;exact rule i j t t' s _ _ ⟨.bl (g i j),H,I,rfl,q⟩
def HI (i j:Int):Prop:=0≤j∧j≤1000000∧i.natAbs<2 ^ 64
def KR (i j:Int):Prop:=(-(2 ^ 64)<i∧i<2 ^ 64)∨(-(2 ^ 64)<j∧j<2 ^ 64)
theorem KR.ok {i j:Int} (h:KR i j):UO i j:=by
 rcases h with ⟨h1,h2⟩ | ⟨h1,h2⟩
 ·exact .of_left (intBits_le_64 h1 h2)
 ·exact .of_right (intBits_le_64 h1 h2)
theorem eC:o6 X (Sq .Add) (zy fun i j=>.int (i+j)):=Lw fun _ _ _ _ _ _ _ q=>add_int q
theorem vy:o6 X (Sq .Sub) (zy fun i j=>.int (i-j)):=Lw fun _ _ _ _ _ _ _ q=>sub_int q
theorem eZ:o6 X (Sq .Mod) (rI (fun _ j=>0<j) fun i j=>.int (i % j)):=LY fun i j _ _ _ _ _ hc q=>by have h1:(0:Int)<j:=hc;exact mod_int' (by lia) (by rw [Int.fmod_eq_emod_of_nonneg i (by lia)]; exact q)
theorem ES:o6 X (Sq .Pow) (rI HI fun i j=>.int (i ^ j.toNat)):=LY fun _ _ _ _ _ _ _ hc q=>pow_int_small hc.1 hc.2.1 hc.2.2 q
theorem Me {f:NN→Sem NN} {g:Int→Int}
 (rule:∀ (i:Int) (t:WO) (s:NS) (Q:NN→NS→Prop) (E:NN→NS→Prop),Q (.int (g i) s.toks) { s with toks:=s.toks+1 }→Ou ‹3› X.A (f (.int i t)) Q E s) :
 MR X f (rU fun i=>.int (g i)):=by
 intro pins s σ H x v Q I rx h;obtain ⟨i,rfl,q⟩:=h;obtain ⟨t,rfl⟩:=rx;exact rule i t s _ _ ⟨.int (g i),H,I.tok _,⟨_,rfl⟩,q⟩
theorem jb:MR X (unaryOp .USub) (rU fun i=>.int (-i)):=Me fun _ _ _ _ _ q=>neg_int q
end
noncomputable def lD:V→V→Bool
 | .non,.non=>true | .non,.int _=>true | .int _,.non=>true | .non,.bl _=>true | .bl _,.non=>true | .non,.str _=>true | .str _,.non=>true
 | .int _,.int _=>true | .bl _,.bl _=>true | .str _,.str _=>true | .byt _,.byt _=>true
 | .int _,.str _=>true | .str _,.int _=>true | .bl _,.str _=>true | .str _,.bl _=>true
 | _,_=>false
def Nk:R2:=fun x y H Q=>lD x y=true∧Q (.bl (decide (x=y))) H
def Nj:R2:=fun x y H Q=>lD x y=true∧Q (.bl (!decide (x=y))) H
theorem nj {i j:Int}:decide (V.int i=V.int j)=(i==j):=by rw [Pa];simp
theorem vZ {i j:Bool}:decide (V.bl i=V.bl j)=(i==j):=by rw [Pa];simp
theorem qr {i j:OX}:decide (V.str i=V.str j)=(i==j):=by rw [Pa];simp
variable {us:List NN}
theorem BL {i j:Array UInt8}:decide (V.byt i=V.byt j)=(i.toList==j.toList):=by rw [Pa];cases i;cases j;simp
section
variable {X:Cx} {a b c:Pt} {ta tb tc:TE} {pos:SY}
theorem bS {s:NS} {Q:VK} {k k':Bool} (I:Inv X pins σ H s) (q:Q (.bl k) H) (e:k=k'):EP X pins σ Q (.bool k') s:=by subst e;exact ⟨.bl k,H,I,rfl,q⟩
theorem Bn:o6 X (Qa .Eq) Nk:=by
 intro pins s σ H x y v u Q I rx ry h;obtain ⟨hs,q⟩:=h;cases x with
 | non =>
  cases rx;cases y with
  | non=>cases ry; exact PySem.EqNone.eq_none_none ‹26›
  | bl j=>cases ry; exact PySem.EqNone.eq_none_bool ‹26›
  | int j=>obtain ⟨t',rfl⟩:=ry; exact PySem.EqNone.eq_none_int ‹26›
  | str j=>obtain ⟨t',rfl⟩:=ry; exact PySem.EqNone.eq_none_str ‹26›
  | _=>exact absurd (show false=true from hs) N8
 | bl i =>
  cases rx;cases y with
  | non=>cases ry; exact PySem.EqNone.eq_bool_none ‹26›
  | bl j=>cases ry; exact eq_bool (bS I q vZ)
  | str j=>obtain ⟨t',rfl⟩:=ry; exact PySem.EqMixed.eq_bool_str ‹26›
  | _=>exact absurd (show false=true from hs) N8
 | int i =>
  obtain ⟨t,rfl⟩:=rx;cases y with
  | non=>cases ry; exact PySem.EqNone.eq_int_none ‹26›
  | int j=>obtain ⟨t',rfl⟩:=ry; exact eq_int (bS I q nj)
  | str j=>obtain ⟨t',rfl⟩:=ry; exact PySem.EqMixed.eq_int_str ‹26›
  | _=>exact absurd (show false=true from hs) N8
 | str i =>
  obtain ⟨t,rfl⟩:=rx;cases y with
  | non=>cases ry; exact PySem.EqNone.eq_str_none ‹26›
  | bl j=>cases ry; exact PySem.EqMixed.eq_str_bool ‹26›
  | int j=>obtain ⟨t',rfl⟩:=ry; exact PySem.EqMixed.eq_str_int ‹26›
  | str j=>obtain ⟨t',rfl⟩:=ry; exact eq_str (bS I q qr)
  | _=>exact absurd (show false=true from hs) N8
 | byt i =>
  obtain ⟨t,rfl⟩:=rx;cases y with
  | byt j=>obtain ⟨t',rfl⟩:=ry; exact PySem.W.eq_bytes (bS I q BL)
  | _=>exact absurd (show false=true from hs) N8
 | _=>cases y <;> exact absurd (show false=true from hs) N8
theorem Bm:o6 X (Qa .NotEq) Nj:=by
 intro pins s σ H x y v u Q I rx ry h;obtain ⟨hs,q⟩:=h;cases x with
 | non =>
  cases rx;cases y with
  | non=>cases ry; exact PySem.EqNone.ne_none_none ‹26›
  | bl j=>cases ry; exact PySem.EqNone.ne_none_bool ‹26›
  | int j=>obtain ⟨t',rfl⟩:=ry; exact PySem.EqNone.ne_none_int ‹26›
  | str j=>obtain ⟨t',rfl⟩:=ry; exact PySem.EqNone.ne_none_str ‹26›
  | _=>exact absurd (show false=true from hs) N8
 | bl i =>
  cases rx;cases y with
  | non=>cases ry; exact PySem.EqNone.ne_bool_none ‹26›
  | bl j=>cases ry; exact ne_bool (bS I q (congrArg not vZ))
  | str j=>obtain ⟨t',rfl⟩:=ry; exact PySem.EqMixed.ne_bool_str ‹26›
  | _=>exact absurd (show false=true from hs) N8
 | int i =>
  obtain ⟨t,rfl⟩:=rx;cases y with
  | non=>cases ry; exact PySem.EqNone.ne_int_none ‹26›
  | int j=>obtain ⟨t',rfl⟩:=ry; exact ne_int (bS I q (congrArg not nj))
  | str j=>obtain ⟨t',rfl⟩:=ry; exact PySem.EqMixed.ne_int_str ‹26›
  | _=>exact absurd (show false=true from hs) N8
 | str i =>
  obtain ⟨t,rfl⟩:=rx;cases y with
  | non=>cases ry; exact PySem.EqNone.ne_str_none ‹26›
  | bl j=>cases ry; exact PySem.EqMixed.ne_str_bool ‹26›
  | int j=>obtain ⟨t',rfl⟩:=ry; exact PySem.EqMixed.ne_str_int ‹26›
  | str j=>obtain ⟨t',rfl⟩:=ry; exact ne_str (bS I q (congrArg not qr))
  | _=>exact absurd (show false=true from hs) N8
 | byt i =>
  obtain ⟨t,rfl⟩:=rx;cases y with
  | byt j=>obtain ⟨t',rfl⟩:=ry; exact PySem.W.ne_bytes (bS I q (congrArg not BL))
  | _=>exact absurd (show false=true from hs) N8
 | _=>cases y <;> exact absurd (show false=true from hs) N8
theorem jH:o6 X (Qa .Lt) (zy fun i j=>.bl (decide (i<j))):=GV fun _ _ _ _ _ _ _ q=>lt_int q
theorem Ie:o6 X (Qa .LtE) (zy fun i j=>.bl (decide (i≤j))):=GV fun _ _ _ _ _ _ _ q=>le_int q
theorem xI:o6 X (Qa .Gt) (zy fun i j=>.bl (decide (j<i))):=GV fun _ _ _ _ _ _ _ q=>gt_int q
theorem ET:o6 X (Qa .GtE) (zy fun i j=>.bl (decide (j≤i))):=GV fun _ _ _ _ _ _ _ q=>ge_int q
theorem aT (b:Pt) {op:CmpOp} (h:op≠.In:=by decide) (h2:op≠.NotIn:=by decide):Sk op b=false:=by
 have e1:(op==CmpOp.In)=false:=by cases op <;> first | rfl | exact absurd rfl h
 have e2:(op==CmpOp.NotIn)=false:=by cases op <;> first | rfl | exact absurd rfl h2
 cases b <;> simp [Sk,e1,e2]
theorem cO {op:CmpOp} (ho:o6 X (Qa op) r) (ha:PE X a ta) (hb:PE X b tb) (hm:Sk op b=false):PE X (.Compare a [op] [b] pos) (nW r ta tb):=by intro pins s σ H Q I h;exact wpAny_Compare1 (Kw ha hb I h fun v u s2 x y H2 I2 rx ry q=>ho pins s2 σ H2 x y v u Q I2 rx ry q) hm
def HL (t:TE):TT:=fun σ H Q=>t σ H fun x H'=>∃ k,x=.bl k∧Q k H'
theorem aZ {op:CmpOp} (ho:o6 X (Qa op) r) (ha:PE X a ta) (hb:PE X b tb) (hm:Sk op b=false):PT X (.Compare a [op] [b] pos) (HL (nW r ta tb)):=by intro pins s σ H Q I h;refine UI (cB (ha pins s σ H _ I h) fun v s1 ⟨x,H1,I1,r1,q1⟩=>cB (hb pins s1 σ H1 _ I1 q1) fun u s2 ⟨y,H2,I2,r2,q2⟩ =>cB (ho pins s2 σ H2 x y v u _ I2 r1 r2 q2) fun c s3 ⟨z,H3,I3,r3,k,e,q3⟩=>?_) hm;subst e;cases r3;exact P5 ⟨H3,I3,q3⟩
noncomputable def DA (K:NK) (x:V) (H:Hp) (k:Bool):Prop :=
 match x with
 | .non=>k=false
 | .bl b=>k=b
 | .int i=>k=(i != 0)
 | .str y=>y.length≤NM∧k=((y.length:Int) != 0)
 | .byt y=>y.size≤NM∧k=((y.size:Int) != 0)
 | .ref p=>(∃ xs,dQ K H p xs∧k=!xs.isEmpty)∨(∃ xs,FU K H p xs∧k=!xs.isEmpty)∨∃ kvs,H p=some (.dK kvs)∧k=!kvs.isEmpty
 | _=>False
theorem zX {κ:Type} {kvs:List (κ×V)} {vs:List (κ×NN)} (r:KV kvs vs):(!vs.isEmpty)=!kvs.isEmpty:=by cases r <;> rfl
theorem rK {xs:List V} {its:List NN} (r:Vals xs its):(!its.toArray.isEmpty)=!xs.isEmpty:=by cases r <;> simp
theorem mw:(NM:Nat)<2 ^ 63:=by rw [OA]; decide
theorem IK:MS X (fun x H Q=>∃ k,DA X.K x H k∧Q k H):=by
 intro pins s σ H x v Q I rx h;obtain ⟨k,e,q⟩:=h;have hl:=mw;have hs:NM=16777216:=OA;cases x with
 | non =>cases rx;have e':k=false:=e;subst e';exact truthy_none ⟨H,I,q⟩
 | bl b =>cases rx;have e':k=b:=e;subst e';exact P5 ⟨H,I,q⟩
 | int i =>obtain ⟨t,rfl⟩:=rx;have e':k=(i != 0):=e;subst e';exact Vs ⟨H,I,q⟩
 | str y =>obtain ⟨t,rfl⟩:=rx;obtain ⟨hy,e'⟩:y.length≤NM∧k=((y.length:Int) != 0):=e;subst e';exact PySem.P.truthy_str (by lia) ⟨H,I.tok _,q⟩
 | byt y =>obtain ⟨t,rfl⟩:=rx;obtain ⟨hy,e'⟩:y.size≤NM∧k=((y.size:Int) != 0):=e;subst e';exact PySem.W.truthy_bytes (by lia) ⟨H,I.tok _,q⟩
 | ref p =>
  cases rx;have e':(∃ xs,dQ X.K H p xs∧k=!xs.isEmpty)∨(∃ xs,FU X.K H p xs∧k=!xs.isEmpty)∨∃ kvs,H p=some (.dK kvs)∧k=!kvs.isEmpty:=e;rcases e' with ⟨xs,hx,e'⟩ | ⟨xs,hx,e'⟩ | ⟨kvs,hx,e'⟩
  ·subst e';obtain ⟨its,r,pl,hz⟩:=I.list hx;have hlen:=r.length;exact wpAny_truthy_list pl.isList (by simp only [NY]; lia) ⟨H,I.tok _,by rw [rK r]; exact q⟩
  ·subst e';obtain ⟨its,r,pl,hz⟩:=I.tuple hx;have hlen:=r.length;exact truthy_tuple pl (by simp only [NY]; lia) ⟨H,I.tok _,by rw [rK r]; exact q⟩
  ·subst e';obtain ⟨hz,hS,vs,r,m⟩:kvs.length≤NM∧(p==Q4)=false∧∃ vs,KV kvs vs∧s.heap.DictOf (dq X.prog X.w) p vs:=I.cG p _ hx;have hlen:kvs.length=vs.length:=Qd r;exact wpAny_truthy_dict hS m (by lia) ⟨H,I.tok _,by rw [zX r]; exact q⟩
 | _=>exact (show False from e).elim
theorem EF (ha:PE X a ta) (he:∀ whole,Ua a X.env whole=(do let v ← whole; Wm a.pos; holding [v] (truthy v))) :
 PT X a (fun σ H Q=>ta σ H fun x H'=>∃ k,DA X.K x H' k∧Q k H'):=by
 intro pins s σ H Q I h;exact isTrue_plain (cB (ha pins s σ H _ I h) fun v s1 ⟨x,H1,I1,r1,q1⟩=>IK pins s1 σ H1 x v Q I1 r1 q1) (he _)
theorem vals1 {x:V} (r:Vals [x] us):∃ u,us=[u]∧RelV x u:=by
 cases r with
 | cons r1 r2=>cases r2; exact ⟨_,rfl,r1⟩
theorem vals2 {x y:V} (r:Vals [x,y] us):∃ u w',us=[u,w']∧RelV x u∧RelV y w':=by
 cases r with
 | cons r1 r2 =>
  cases r2 with
  | cons r3 r4=>cases r4; exact ⟨_,_,rfl,r1,r3⟩
theorem ur (hc:X.calm=true):de X (.builtin "max") (fun xs H Q=>∃ i j,xs=[.int i,.int j]∧Q (.int (if j > i then j else i)) H):=by
 intro pins s σ H xs us Q I r h;obtain ⟨i,j,rfl,q⟩:=h;obtain ⟨u,w',rfl,⟨t,rfl⟩,⟨t',rfl⟩⟩:=vals2 r;refine max_two_ints (I.ok.hd hc) fun h' tk k=>⟨_,H,I.kept k,?_,q⟩
 by_cases hj:j > i
 ·rw [if_pos hj,if_pos hj]; exact ⟨_,rfl⟩
 ·rw [if_neg hj,if_neg hj]; exact ⟨_,rfl⟩
theorem uq (hc:X.calm=true):de X (.builtin "min") (fun xs H Q=>∃ i j,xs=[.int i,.int j]∧Q (.int (if j<i then j else i)) H):=by
 intro pins s σ H xs us Q I r h;obtain ⟨i,j,rfl,q⟩:=h;obtain ⟨u,w',rfl,⟨t,rfl⟩,⟨t',rfl⟩⟩:=vals2 r;refine min_two_ints (I.ok.hd hc) fun h' tk k=>⟨_,H,I.kept k,?_,q⟩
 by_cases hj:j<i
 ·rw [if_pos hj,if_pos hj]; exact ⟨_,rfl⟩
 ·rw [if_neg hj,if_neg hj]; exact ⟨_,rfl⟩
theorem o4:de X (.type "int") (fun xs H Q=>(∃ i,xs=[.int i]∧Q (.int i) H)∨∃ k,xs=[.bl k]∧Q (.int (if k then 1 else 0)) H):=by
 intro pins s σ H xs us Q I r h;rcases h with ⟨i,rfl,q⟩ | ⟨k,rfl,q⟩
 ·obtain ⟨u,rfl,t,rfl⟩:=vals1 r;exact call_int_int ⟨.int i,H,I,⟨_,rfl⟩,q⟩
 ·obtain ⟨u,rfl,r1⟩:=vals1 r;cases r1;exact call_int_bool ⟨.int (if k then 1 else 0),H,I.tok _,⟨_,rfl⟩,q⟩
noncomputable def HG (K:NK) (x:V) (H:Hp) (n:Nat):Prop :=
 match x with
 | .str y=>y.length≤NM∧n=y.length
 | .byt y=>y.size≤NM∧n=y.size
 | .ref p=>(∃ xs,dQ K H p xs∧n=xs.length)∨∃ xs,FU K H p xs∧n=xs.length
 | _=>False
theorem FN:de X (.builtin "len") (fun xs H Q=>∃ x n,xs=[x]∧HG X.K x H n∧Q (.int n) H):=by
 intro pins s σ H xs us Q I r h;obtain ⟨x,n,rfl,e,q⟩:=h;obtain ⟨u,rfl,rx⟩:=vals1 r;have hl:=mw;have hs:NM=16777216:=OA;cases x with
 | str y =>obtain ⟨t,rfl⟩:=rx;obtain ⟨hy,e'⟩:y.length≤NM∧n=y.length:=e;subst e';exact len_str (by lia) ⟨.int _,H,I.tok _,⟨_,rfl⟩,q⟩
 | byt y =>obtain ⟨t,rfl⟩:=rx;obtain ⟨hy,e'⟩:y.size≤NM∧n=y.size:=e;subst e';exact PySem.W.len_bytes (by lia) ⟨.int _,H,I.tok _,⟨_,rfl⟩,q⟩
 | ref p =>
  cases rx;have e':(∃ xs,dQ X.K H p xs∧n=xs.length)∨∃ xs,FU X.K H p xs∧n=xs.length:=e;rcases e' with ⟨xs,hx,e'⟩ | ⟨xs,hx,e'⟩
  ·subst e';obtain ⟨its,r',pl,hz⟩:=I.list hx;have hlen:=r'.length;exact Calls.call_len_list pl.isList (by simp only [NY]; lia) ⟨.int xs.length,H,I.tok _,⟨_,by simp only [NY]; rw [hlen]⟩,q⟩
  ·subst e';obtain ⟨its,r',pl,hz⟩:=I.tuple hx;have hlen:=r'.length;exact len_tuple pl (by simp only [NY]; lia) ⟨.int xs.length,H,I.tok _,⟨_,by simp only [NY]; rw [hlen]⟩,q⟩
 | _=>exact (show False from e).elim
end
structure KJ (h:PM) (x dx C:NP) (mA:OX→Option NN):Prop where
 obj:h.get? x=some (Ux C dx)
 ns:h.Ns1 dx mA
 ne:dx≠x
variable {mA:OX→Option NN}
theorem CS {dx:NP} (n:h.Ns1 dx mA):∃ od,h.get? dx=some od∧∀ name,UP name od=some (mA name):=by
 obtain ⟨o,es,ep,ho,hd,hk,_,hm⟩:=n;refine ⟨o,ho,fun name=>?_⟩;have e:=hm name;unfold nsFind findBy at e;rw [← Array.find?_toList] at e;unfold UP;rw [hd];dsimp only;split
 ·rename_i y q;rw [q] at e;exact congrArg some e
 ·rename_i q;rw [q] at e;have a:es.toList.any (·.refKey)=false:=by rw [List.any_eq_false];intro y hy;obtain ⟨z,t,hkey⟩:=hk y (Array.mem_toList_iff.mp hy);simp [DictEntry.refKey,hkey]
  have a':¬ es.toList.any (·.refKey)=true:=by rw [a]; exact N8
  rw [if_neg a'];exact congrArg some e
theorem KJ.look {x dx C:NP} (I:KJ h x dx C mA):∃ od,PySem.W.InstAt h x (Ux C dx) C (some od)∧∀ name,UP name od=some (mA name) :=
 let ⟨od,ho,hl⟩:=CS I.ns
 ⟨od,⟨I.obj,rfl,rfl,ho⟩,hl⟩
theorem si.some_of {v:V} {o:Option NN} (r:si (some v) o):∃ u,o=some u∧RelV v u:=by
 cases o with
 | none=>exact (show False from r).elim
 | some u=>exact ⟨u,rfl,r⟩
section
variable {P:O4} {w:Pf} {H H':Hp} {h h':PM} {a C dx:NP} {fs fs':List (OX×V)}
theorem G8 (cG:mK P w H h) (e:H a=some (.ins C dx fs)):∃ mA,KJ h a dx C mA∧(∀ f,si (fs.lookup f) (mA f))∧WQ mA (fs.map (·.1))∧fs.length≤1000∧H dx=some (.own a):=by
 obtain ⟨d,z,ne,ob,mA,n,r,q⟩:=(show cn P w H h a (.ins C dx fs) from cG a _ e)
 exact ⟨mA,⟨ob,n,ne⟩,r,q,z,d⟩
end
structure LS (K:NK) (C:NP):Prop where
 pg:VX K C Str.empty=true
 hd:VD K C=true
 po:PySem.W.plainOver K C=true
 sa:Qf K (.ref C) "__setattr__" = some (some (.builtin "object.__setattr__"))
theorem LS.get {C:NP} (c:LS K C) (f:OX):VX K C f=true:=c.pg
structure ND (K:NK) (C:NP) (f:OX) (v:V) (u:NN):Prop where
 at_:Qf K (.ref C) f=some (some u)
 rel:RelV v u
 get:RW K u "__get__" = some none
 cp:PySem.W.copiedNames.contains f=false
structure Meth (K:NK) (C:NP) (m:OX) (f:NP):Prop where
 at_:Qf K (.ref C) m=some (some (.ref f))
 fn:WR K (.ref f)=true
 kp:QV K (.ref f)=true
section
variable {X:Cx} {pins:List (NP×Qz)} {σ:St} {H:Hp} {s:NS} {A:O3} {E:NN→NS→Prop} {Q:NN→NS→Prop} {c:NN} {b:Bool}
inductive lH (K:NK) (H:Hp):V→NN→Prop where
 | non:lH K H .non (.type "NoneType")
 | bl (x:Bool):lH K H (.bl x) (.type "bool")
 | int (i:Int):lH K H (.int i) (.type "int")
 | str (x:OX):lH K H (.str x) (.type "str")
 | flt (x:UInt64):lH K H (.flt x) (.type "float")
 | lst {a:NP} {xs:List V} (e:H a=some (.lst xs)):lH K H (.ref a) (.type "list")
 | kZ {a:NP} {o:Qz} {xs:List V} (e:H a=some (.kZ o (.lst xs))):lH K H (.ref a) (.type "list")
 | tup {a:NP} {xs:List V} (e:H a=some (.tup xs)):lH K H (.ref a) (.type "tuple")
 | dK {a:NP} {kvs:List (Key×V)} (e:H a=some (.dK kvs)):lH K H (.ref a) (.type "dict")
 | dT {a:NP} {kvs:List (List Key×V)} (e:H a=some (.dT kvs)):lH K H (.ref a) (.type "dict")
 | ins {a C dx:NP} {fs:List (OX×V)} (e:H a=some (.ins C dx fs)) (cl:LS K C) (ha:Qf K (.ref C) "__class__" = some (some ‹37›))
  (hn:RW K ‹37› "__get__" = some (some (.builtin "getset_descriptor.__get__"))) (MD:Uy K ‹37›=some true)
  (hm:TB K C (.type "object")=some true):lH K H (.ref a) (.ref C)
theorem C7 {x:V} {t:NN} (I:Inv X pins σ H s) (rx:RelV x u) (ty:lH X.K H x t) (e:Rl X.K t c=some b) (h:∀ tk,Q (.bool b) { s with toks:=tk }) :
 Ou ‹3› A (call (.builtin "isinstance") [u,c]) Q E s:=by
 cases ty with
 | non=>cases (show u=Qs from rx); exact P0 PySem.W.kitx_none I.ya Rm e (fun z=>nomatch z) h
 | bl y=>cases (show u=Vq y from rx); exact P0 PySem.W.kitx_bool I.ya Rm e (fun z=>nomatch z) h
 | int i=>obtain ⟨t,q⟩:=(show ∃ t,u=VU i t from rx); cases q; exact P0 PySem.W.kitx_int I.ya Rm e (fun z=>nomatch z) h
 | str y=>obtain ⟨t,q⟩:=(show ∃ t,u=VV y t from rx); cases q; exact P0 PySem.W.kitx_str I.ya Rm e (fun z=>nomatch z) h
 | flt y=>obtain ⟨t,q⟩:=(show ∃ t,u=Value.float y t from rx); cases q; exact P0 PySem.W.kitx_float I.ya Rm e (fun z=>nomatch z) h
 | @lst a xs ea =>
  cases (show u=O2 a from rx);obtain ⟨_,_,n,_,h1⟩:=(show cn X.prog X.w H s.heap a (.lst xs) from I.cG a _ ea)
  exact P0 VE I.ya ⟨_,h1,rfl⟩ e (fun z=>nomatch z) h
 | @kZ a ob xs ea =>
  cases (show u=O2 a from rx);obtain ⟨_,_,_,n,_,h1⟩:=(show cn X.prog X.w H s.heap a (.kZ ob (.lst xs)) from I.cG a _ ea)
  exact P0 VE I.ya ⟨_,h1,rfl⟩ e (fun z=>nomatch z) h
 | @tup a xs ea =>
  cases (show u=O2 a from rx);obtain ⟨_,_,_,p⟩:=(show cn X.prog X.w H s.heap a (.tup xs) from I.cG a _ ea)
  obtain ⟨o,h1,h2,_⟩:=p;exact P0 PySem.W.kitx_tuple I.ya ⟨o,h1,h2⟩ e (fun z=>nomatch z) h
 | @dK a kvs ea =>
  cases (show u=O2 a from rx);obtain ⟨_,_,vs,_,p⟩:=(show cn X.prog X.w H s.heap a (.dK kvs) from I.cG a _ ea)
  obtain ⟨o,es,ep,h1,h2,_⟩:=p;exact P0 VF I.ya ⟨o,h1,h2.1⟩ e (fun z=>nomatch z) h
 | @dT a kvs ea =>
  cases (show u=O2 a from rx);obtain ⟨_,_,xs,_,o,es,ep,h1,h2,_⟩:=(show cn X.prog X.w H s.heap a (.dT kvs) from I.cG a _ ea)
  exact P0 VF I.ya ⟨o,h1,h2.1⟩ e (fun z=>nomatch z) h
 | @ins a C dx fs ea cl ha hn MD hm =>cases (show u=O2 a from rx);obtain ⟨mA,O,_⟩:=G8 I.cG ea;obtain ⟨od,J,_⟩:=O.look;exact P0 (PySem.W.kitx_own (cl.get _) cl.hd ha hn MD hm) I.ya J e (fun z=>nomatch z) h
end
structure eQ (k:Nat) (A:O3):Prop where
 hd:A.handled=none
 dp:A.depth+3*k+5<Rn
 un:A.units+16*k+200<RT
theorem eQ.mono {j k:Nat} (r:eQ k A) (h:j≤k):eQ j A:=⟨r.hd,by have:=r.dp; lia,by have:=r.un; lia⟩
theorem eQ.deeper {k:Nat} {A:O3} (r:eQ (k+1) A) (env:V5):eQ k (A.deeper env) :=
 ⟨r.hd,by have:=r.dp; show A.depth+1+3*k+5 < _; lia,by have:=r.un; show A.units+3+16*k+200 < _; lia⟩
theorem eQ.depth {k:Nat} {A:O3} (r:eQ k A):A.depth<Rn:=by have:=r.dp; lia
theorem eQ.units {k:Nat} {A:O3} (r:eQ k A):A.units+64<RT:=by have:=r.un; lia
def ft:TA:=fun _ H Q=>Q [] H
def cx (ta:TE) (tr:TA):TA:=fun σ H Q=>ta σ H fun x H1=>tr σ H1 fun xs H2=>Q (x::xs) H2
section
variable {X:Cx} {e:Pt} {es:List Pt} {te:TE} {t:TA} {pos:SY}
theorem ag:PA X [] ft:=fun _ _ _ _ H Q I h=>Calls.spliced_nil ⟨[],H,I,.nil,h⟩
theorem aa (ha:PE X e te) (hr:PA X es t) (hs:Pn (e::es) X.env=(false,eval e X.env)::Pn es X.env:=by rfl):PA X (e::es) (cx te t):=by intro pos pins s σ H Q I h;rw [hs];show Ou _ _ (spliced ((false,eval e X.env)::RL pos (Pn es X.env))) _ _ s;refine Calls.spliced_cons (cB (ha pins s σ H _ I h) fun u s1 ⟨x,H1,I1,r1,q1⟩=>?_);exact cB (hr pos pins s1 σ H1 _ I1 q1) fun us s2 ⟨xs,H2,I2,r2,q2⟩=>⟨x::xs,H2,I2,.cons r1 r2,q2⟩
def K4 (t:TA):TE:=fun σ H Q=>t σ H fun xs H1=>xs.length≤NM∧∀ p,H1 p=none→Q (.ref p) (upd H1 p (.tup xs))
def IS (t:TA):TE:=fun σ H Q=>t σ H fun xs H1=>xs.length≤NM∧∀ p,H1 p=none→Q (.ref p) (upd H1 p (.lst xs))
theorem vq {x1} (h:PA X es t):PE X (.Tuple es x1 pos) (K4 t):=by intro pins s σ H Q I hq;refine wpAny_Tuple_spliced (cB (h pos pins s σ H _ I hq) fun us s1 ⟨xs,H1,I1,r,z,q⟩=>⟨by rw [← r.length]; exact z,?_⟩);have hf:H1 s1.heap.objs.size=none:=I1.cG.fresh (N9 _);refine ⟨.ref s1.heap.objs.size,upd H1 s1.heap.objs.size (.tup xs),I1.laid (t':=s1.toks) (fun b u e=>NT _ e) (N9 _) ?_,rfl,q _ hf⟩;exact ⟨z,us,r,⟨_,OK _ rfl,rfl,_,rfl⟩⟩
theorem bK (h:PA X es t):PE X (.List es pos) (IS t):=by intro pins s σ H Q I hq;refine wpAny_List_spliced (cB (h pos pins s σ H _ I hq) fun us s1 ⟨xs,H1,I1,r,z,q⟩=>⟨by rw [← r.length]; exact z,?_⟩);have hf:H1 s1.heap.objs.size=none:=I1.cG.fresh (N9 _);refine ⟨.ref s1.heap.objs.size,upd H1 s1.heap.objs.size (.lst xs),I1.laid (t':=s1.toks) (fun b u e=>NT _ e) (N9 _) ?_,rfl,q _ hf⟩;exact ⟨z,us,0,r,OK _ rfl⟩
end
abbrev Sp:=List V→Hp→VK→XK→Prop
abbrev DF:=List V5→Hp→NS→XK→NN→NS→Prop
structure HH (P:O4) (w:Pf) (K:NK) (mg:OX→Option NN) (base:PM) (A:O3) (outer:List V5) (s:NS) (H:Hp):Prop where
 frames:A.frames=some outer
 mod:Mod K mg base
 bs:∀ b o,base.get? b=some o→s.heap.get? b=some o∧H b=none
 Dy:base.objs.size≤‹4›
 oR:s.heap.FunFrames base outer
 KU:∀ b∈DD outer,H b=none
 cG:mK P w H s.heap
 bare:T9 s.gens
def CE (outer:List V5) (P:O4) (w:Pf) (H:Hp) (s:NS) (Q:VK) (u:NN) (s':NS):Prop :=
 ∃ v H',s'.os=s.os∧T9 s'.gens∧Un (DD outer) [] H H' s.heap s'.heap∧mK P w H' s'.heap∧RelV v u∧Q v H'
def CR (CX:DF) (outer:List V5) (P:O4) (w:Pf) (H:Hp) (s:NS) (Q:VK) (E:XK) (r:WS) (s':NS):Prop :=
 match r with
 | .ok (.ret u)=>CE outer P w H s Q u s'
 | .ok _=>False
 | .error e=>CX outer H s E e s'
structure cE (P:O4) (w:Pf) (K:NK) (mg:OX→Option NN) (base:PM) (CX:DF) (k:Nat) (f:NP) (fd:P6) (ps:List OX) (sp:Sp):Prop where
 len:∀ vs H Q E,sp vs H Q E→vs.length=ps.length
 run:∀ (A:O3) (outer:List V5) (s:NS) (H:Hp) (args:Args) (us:List NN) (vs:List V) (Q:VK) (E:XK),eQ k A→HH P w K mg base A outer s H→Vd s fd args (ps.zip us)→Vals vs us→sp vs H Q E →
  SN (model P w) A (.call (.ref f) args) (CR CX outer P w H s Q E) s
variable {mg:OX→Option NN} {base:PM} {CX:DF} {fd:P6} {ps:List OX}
theorem cE.imp {w:Pf} {k:Nat} {f:NP} {sp sp':Sp} (F:cE P w K mg base CX k f fd ps sp)
 (h:∀ vs H Q E,sp' vs H Q E→sp vs H Q E):cE P w K mg base CX k f fd ps sp' :=
 ⟨fun vs H Q E q=>F.len vs H Q E (h _ _ _ _ q),fun A outer s H args us vs Q E hr he hb hv hs=>F.run A outer s H args us vs Q E hr he hb hv (h _ _ _ _ hs)⟩
section
variable {X:Cx} {pins:List (NP×Qz)} {σ:St} {H:Hp} {s s':NS}
theorem Inv.MK (I:Inv X pins σ H s):HH X.prog X.w X.K X.mg X.base X.A X.stack s H :=
 ⟨I.ok.frames,I.ok.mod,I.bs,ON I.ok.Dy I.sz,I.stack,I.uQ,I.cG,I.bare⟩
theorem Inv.after {Q:VK} (I:Inv X pins σ H s) (h:CE X.stack X.prog X.w H s Q u s'):EP X pins σ Q u s':=by obtain ⟨v,H',os,bare,un,cG,r,q⟩:=h;obtain ⟨hh,g,d,t,os'⟩:=s';obtain rfl:os'=s.os:=os;exact ⟨v,H',I.call (h':=hh) (g':=g) (d':=d) (t':=t) (ch:=[]) un cG bare (fun b z=>absurd z (by simp)),r,q⟩
end
def AN (sp:Sp) (dvs:List V) (E:XK) (t:TA):TE:=fun σ H Q=>t σ H fun vs H1=>sp (vs++dvs) H1 Q E
def Binds (K:NK) (fd:P6) (ps:List OX) (ds:List NN):Prop :=
 ∀ (s:NS) (us:List NN),K.In s.heap→(us++ds).length=ps.length→Vd s fd ⟨us,[]⟩ (ps.zip (us++ds))
theorem Binds.all (h:∀ us:List NN,us.length=ps.length→QA fd ⟨us,[]⟩=pure (ps.zip us)):Binds K fd ps []:=fun s us _ hl=>by rw [OT] at hl ⊢;exact .of_eq (h us hl)
variable {vs:List V}
def Passes (CX:DF) (X:Cx) (E:XK):Prop:=∀ (pins:List (NP×Qz)) (σ:St) (H:Hp) (s:NS) (e:NN) (s':NS),Inv X pins σ H s→CX X.stack H s E e s'→X.xe e s'
section
variable {X:Cx} {CX:DF} {k:Nat} {f C:NP} {fd:P6} {ps:List OX} {sp:Sp} {dvs:List V} {ds:List NN} {E:XK} {x m:OX} {p pos apos:SY} {e o:Pt} {es:List Pt} {ta:TE} {t:TA}
theorem Jc {s:NS} {Q:VK} (F:cE X.prog X.w X.K X.mg X.base CX k f fd ps sp) (hr:eQ k X.A) (hb:Binds X.K fd ps ds) (hd:Vals dvs ds) (hx:Passes CX X E)
 (I:Inv X pins σ H s) (r:Vals vs us) (h:sp (vs++dvs) H Q E):Ou ‹3› X.A (call (.ref f) us) ‹52› X.xe s:=by
 have r2:Vals (vs++dvs) (us++ds):=r.append hd;have hl:(us++ds).length=ps.length:=by rw [← r2.length]; exact F.len _ _ _ _ h
 refine Ws (Uc (F.run X.A X.stack s H ⟨us,[]⟩ (us++ds) (vs++dvs) Q E hr I.MK (hb s us I.ya hl) r2 h) fun r s' hq=>?_);cases r with
 | error e=>exact hx pins σ H s e s' I hq
 | ok fl =>
  cases fl with
  | ret u=>exact I.after hq
  | next=>exact Q6 hq
  | brk=>exact Q6 hq
  | cont=>exact Q6 hq
theorem vx (F:cE X.prog X.w X.K X.mg X.base CX k f fd ps sp) (hr:eQ k X.A) (hg:Gl X x) (hm:X.mg x=some (.ref f)) (hk:QV X.K (.ref f)=true) (hb:Binds X.K fd ps ds) (hd:Vals dvs ds) (hx:Passes CX X E)
 (ha:PA X (e::es) t) (hdb:‹39›=false:=by decide) (he:Pn (e::es) X.env=(false,eval e X.env)::Pn es X.env:=by rfl) (hpl:(RL pos (Pn es X.env)).any (·.1)=false:=by rfl) :
 PE X (.Call (.Name x p) (e::es) [] pos) (AN sp dvs E t):=by
 intro pins s σ H Q I h;refine Q7 (Bv I hg hm ?_ hdb);refine PySem.W.callWith_K (h₀:=X.base) I.ok.mod.L0 hk (cB (ha pos pins s σ H _ I h) fun us s1 ⟨vs,H1,I1,r,q⟩=>⟨I1.ya,?_⟩) he hpl;exact Jc F hr hb hd hx I1 r q
structure Mk (K:NK) (C f:NP):Prop where
 makes:We K C=true
 init:Qf K (.ref C) "__init__" = some (some (.ref f))
 fn:WR K (.ref f)=true
 kp:QV K (.ref C)=true
end
noncomputable def PK (X:Cx) (kws:List Tp) (t:TA):Prop :=
 ∀ (pos:SY) (pins:List (NP×Qz)) (s:NS) (σ:St) (H:Hp) (Q:List V→Hp→Prop),Inv X pins σ H s→t σ H Q→Ou ‹3› X.A (evalAll ((S1 pos (Ro kws X.env)).map (·.2))) (AP X pins σ Q) X.xe s
section
variable {X:Cx} {CX:DF} {k:Nat} {f C:NP} {fd:P6} {ps ks:List OX} {sp:Sp} {E:XK} {x m:OX} {p pos apos kpos:SY} {e o:Pt} {es:List Pt} {kws:List Tp} {te ta:TE} {t tk:TA} {nm:Option OX}
theorem Jn:PK X [] ft:=fun _ _ _ _ H Q I h=>wpAny_evalAll_nil ⟨[],H,I,.nil,h⟩
theorem GL (ha:PE X e te) (hr:PK X kws t):PK X (⟨nm,e,kpos⟩::kws) (cx te t):=by intro pos pins s σ H Q I h;show Ou _ _ (evalAll ((do let v ← eval e X.env; Wm pos; pure v)::(S1 pos (Ro kws X.env)).map (·.2))) _ _ s;refine Vt (NO (cB (ha pins s σ H _ I h) fun u s1 ⟨x,H1,I1,r1,q1⟩=>NO (RB (Oh ?_))));exact cB (hr pos pins s1 σ H1 _ I1 q1) fun us s2 ⟨xs,H2,I2,r2,q2⟩=>⟨x::xs,H2,I2,.cons r1 r2,q2⟩
structure MU (K:NK) (fd:P6) (ps ks:List OX) (g:List NN→List NN→List NN) (gV:List V→List V→List V):Prop where
 to:∀ (s:NS) (us ws:List NN),K.In s.heap→(g us ws).length=ps.length→Vd s fd ⟨us,ks.zip ws⟩ (ps.zip (g us ws))
 rel:∀ {vs:List V} {us:List NN} {zs:List V} {ws:List NN},Vals vs us→Vals zs ws→Vals (gV vs zs) (g us ws)
variable {g:List NN→List NN→List NN} {gV:List V→List V→List V}
end
structure aR (N P:List OX) (sc:Q3):Prop where
 kind:sc.kind=.function
 co:sc.isCoroutine=false
 gen:sc.isGenerator=false
 nd:N.Nodup
 pre:N.take P.length=P
 par:∀ x∈P,sc.names.lookup x=some .local∨sc.names.lookup x=some .cell
 JA:∀ y∈sc.names,y.2≠.free
theorem uv {kindOf:OX→Option TU} {x:OX}:∀ {binds:List (OX×NN)} {m:OX→Option NN},(∀ v,(x,v)∉binds)→Wt kindOf binds m x=m x
 | [],_,_=>rfl
 | (n,v)::r,m,h=>by
  unfold Wt;rw [uv fun w hw=>h w (NI _ hw)];split
  ·have:x≠n:=by rintro rfl; exact h v NJ
   simp [this]
  ·rfl
theorem ux {kindOf:OX→Option TU} {x:OX}:∀ {binds:List (OX×NN)} {m:OX→Option NN},(∀ v,(x,v)∉binds)→Wu kindOf binds m x=m x
 | [],_,_=>rfl
 | (n,v)::r,m,h=>by
  unfold Wu;rw [ux fun w hw=>h w (NI _ hw)];split
  ·rfl
  ·have:x≠n:=by rintro rfl; exact h v NJ
   simp [this]
theorem uw {kindOf:OX→Option TU} {x:OX} {v:NN}:∀ {P:List OX} {vs:List NN} {i:Nat} {m:OX→Option NN},P.Nodup→P[i]?=some x→vs[i]?=some v→kindOf x=some .local →
 Wt kindOf (P.zip vs) m x=some v
 | [],_,_,_,_,h,_,_=>by simp at h
 | _::_,[],_,_,_,_,h,_=>by simp at h
 | p::P,w::vs,0,m,nd,h1,h2,hk=>by simp at h1 h2; subst h1; subst h2;show Wt kindOf ((p,w)::P.zip vs) m p=_;unfold Wt;rw [uv fun v hv=>(Of.mp nd).1 (Rb hv).1,if_pos hk];simp
 | p::P,w::vs,i+1,m,nd,h1,h2,hk=>by show Wt kindOf ((p,w)::P.zip vs) m x=_;unfold Wt;exact uw (i:=i) (Of.mp nd).2 (by simpa using h1) (by simpa using h2) hk
theorem uA {kindOf:OX→Option TU} {x:OX} {v:NN}:∀ {P:List OX} {vs:List NN} {i:Nat} {m:OX→Option NN},P.Nodup→P[i]?=some x→vs[i]?=some v→kindOf x≠some .local →
 Wu kindOf (P.zip vs) m x=some v
 | [],_,_,_,_,h,_,_=>by simp at h
 | _::_,[],_,_,_,_,h,_=>by simp at h
 | p::P,w::vs,0,m,nd,h1,h2,hk=>by simp at h1 h2; subst h1; subst h2;show Wu kindOf ((p,w)::P.zip vs) m p=_;unfold Wu;rw [ux fun v hv=>(Of.mp nd).1 (Rb hv).1,if_neg hk];simp
 | p::P,w::vs,i+1,m,nd,h1,h2,hk=>by show Wu kindOf ((p,w)::P.zip vs) m x=_;unfold Wu;exact uA (i:=i) (Of.mp nd).2 (by simpa using h1) (by simpa using h2) hk
def start (N:List OX) (vs:List V):St:=vs.map some++Oz (N.length-vs.length) none
noncomputable def pW (CX:DF) (P:O4) (w:Pf) (K:NK) (mg:OX→Option NN) (base:PM) (N:List OX) (qual:OX) (scope:Q3) (f:NP) (cd:NN) (A:O3) (outer:List V5) (s:NS) (H:Hp) (E:XK):Cx where
 prog:=P
 w:=w
 K:=K
 mg:=mg
 base:=base
 A:=A.deeper (Ud qual scope ‹4› f cd)
 N:=N
 s₀:=s
 H₀:=H
 env:=Ud qual scope ‹4› f cd
 outer:=outer
 stack:=Ud qual scope ‹4› f cd::outer
 ex:=[]
 calm:=true
 fn:=fun _=>true
 pn:=[]
 xe:=fun e s'=>Ou (model P w) (A.deeper (Ud qual scope ‹4› f cd)) (leaving (Ud qual scope ‹4› f cd) e) (fun _ s''=>CX outer H s E e s'') (fun e' s''=>CX outer H s E e' s'') s'
theorem yB {sc:Q3} (h:sc.names.lookup x=some .cell):∃ c,(PD n sc.names []).lookup x=some c:=by have q:=RX sc.names n [] (.inl h);exact TC.mp q
variable {scope:Q3}
theorem C9 {w:Pf} {N:List OX} {qual:OX} {f:NP} {cd:NN} {outer:List V5} {s s1:NS} {E:XK}
 (S:aR N ps scope) (hd:A.handled=none) (e0:HH P w K mg base A outer s H) (hl:vs.length=ps.length) (r:Vals vs us)
 (x:InCallC s ‹4› (Wt (Ud qual scope ‹4› f cd).kindOf (ps.zip us) fun _=>none) (PD (‹4›+1) scope.names []) (Wu (Ud qual scope ‹4› f cd).kindOf (ps.zip us) fun _=>none) s1) :
 Inv (pW CX P w K mg base N qual scope f cd A outer s H E) [] (start N vs) H s1:=by
 have hpl:ps.length≤N.length:=by have:=congrArg V6 S.pre; rw [O9] at this; lia
 obtain ⟨h1,tk,rfl,hk⟩:=x.done;have noA:∀ b:NP,b∉(pW CX P w K mg base N qual scope f cd A outer s H E).ex:=fun b z=>absurd (show b∈([]:List NP) from z) (by simp)
 refine ⟨⟨e0.mod,S.kind,rfl,rfl,N9 _,fun y z c h1 h2=>?_,fun y hy=>?_,fun y c _ h=>?_,fun _=>hd,UQ e0.frames,.inr ⟨rfl,rfl⟩,fun b z=>absurd z (noA b),e0.bs,e0.Dy,fun b _ _=>noA b,fun b z=>absurd z (noA b),e0.oR,e0.KU⟩,
  rfl,e0.bare,Un.kept hk,⟨_,x.toInCall.ns,fun i y v h1 h2 h3=>?_⟩,fun y c h=>⟨_,x.cell y c h⟩,e0.cG.fresh (N9 _),fun y c h=>?_,fun p hp=>absurd (show p∈([]:List (NP×Qz)) from hp) (by simp),e0.cG.kept hk,?_⟩
 ·exact name_of_addr x.apart (P2 h1) (P2 h2)
 ·have hy:scope.names.lookup y=some .cell∨scope.names.lookup y=some .free:=hy;rcases hy with hy | hy
  ·exact yB hy
  ·exact absurd rfl (S.JA _ (P2 hy))
 ·exact Q5 (x.above y c (P2 h))
 ·have hi:i<vs.length:=by
   unfold start at h2;by_cases hi:i<vs.length
   ·exact hi
   ·rw [Ox (by simpa using hi)] at h2;rw [Pg] at h2;split at h2 <;> cases h2
  have ha:vs[i]?=some v:=by
   unfold start at h2;rw [OM (by simpa using hi),NR] at h2;cases e:vs[i]? with
   | none=>rw [e] at h2; cases h2
   | some a=>rw [e] at h2; cases h2; rfl
  obtain ⟨u,hu,rv⟩:=r.get ha;have hp:ps[i]?=some y:=by rw [← S.pre,Qn (by lia)]; exact h1
  have ndP:ps.Nodup:=by rw [← S.pre]; exact S.nd.sublist (VG _ _)
  refine ⟨u,rv,?_⟩;rcases S.par y (OF hp) with k | k
  ·exact .inl ⟨k,uw ndP hp hu k⟩
  ·obtain ⟨c,e⟩:=yB (n:=‹4›+1) k;refine .inr ⟨.inl k,c,e,?_⟩;have q:=x.cell y c e;rw [uA ndP hp hu (by show scope.names.lookup y≠_; rw [k]; decide)] at q;exact q
 ·exact e0.cG.fresh (Q5 (x.above y c (P2 h)))
 ·unfold start;show _=N.length;rw [N7,NH,OQ];lia
theorem Iu {w:Pf} {k:Nat} {f:NP} {name qual:OX} {params:Se} {dV kV doc pm cdv ct oc:NN} {an od:Option NP}
 {osl:Array (Option NN)} {N ps:List OX} {sp:Sp} (lk:K.lookup f=some ⟨oc,od,.func (Rt name qual params body scope dV kV doc pm an cdv ct),osl⟩) (hcd:S2 K cdv qual=true) (S:aR N ps scope)
 (len:∀ vs H Q E,sp vs H Q E→vs.length=ps.length)
 (hbody:∀ (A:O3) (outer:List V5) (s:NS) (H:Hp) (vs:List V) (Q:VK) (E:XK),eQ k (A.deeper (Ud qual scope ‹4› f cdv))→sp vs H Q E →
  ∃ t,wq (pW CX P w K mg base N qual scope f cdv A outer s H E) body t∧t { nx:=fun _ H'=>Q .non H',rt:=Q } (start N vs) H) :
 cE P w K mg base CX (k+1) f (Rt name qual params body scope dV kV doc pm an cdv ct) ps sp:=by
 refine ⟨len,fun A outer s H args us vs Q E hr e0 hb r hsp=>?_⟩;have hl:=len _ _ _ _ hsp;have KX:K.In s.heap:=e0.mod.L0.keeps fun b o e=>(e0.bs b o e).1;have lim:s.heap.NoLimit:=e0.mod.nolimit.keeps fun b o e=>(e0.bs b o e).1
 have hkind:∀ y∈ps.zip us,scope.names.lookup y.1=some .local∨(scope.names.lookup y.1=some .cell∧((PD (‹4›+1) scope.names []).lookup y.1).isSome=true):=fun ⟨n,v⟩ hy=>by
  rcases S.par n (Rb hy).1 with q | q
  ·exact .inl q
  ·exact .inr ⟨q,RX _ _ _ (.inl q)⟩
 refine codeAny_call_function hr.depth (KX _ _ lk) rfl S.co S.gen rfl (PySem.W.codeRec_of KX hcd) (hb _ _ _ _ ?_);refine wpAny_newFunctionEnv_cells S.kind hkind fun env he s1 x=>?_;subst he;refine ⟨lim.keeps x.toInCall.keep,codeAny_func ?_⟩;obtain ⟨t,ht,hq⟩:=hbody A outer s H vs Q E (hr.deeper _) hsp;have I:Inv (pW CX P w K mg base N qual scope f cdv A outer s H E) [] (start N vs) H s1:=C9 S hr.hd e0 hl r x;refine Px (ht [] s1 (start N vs) H _ I hq) (fun fl s' hs=>?_) fun e s' hs=>hs
 have fin:∀ {σ':St} {H':Hp} {v:V} {u:NN},Inv (pW CX P w K mg base N qual scope f cdv A outer s H E) [] σ' H' s'→RelV v u→Q v H'→CE outer P w H s Q u s' :=
  fun {σ' H' v u} J rv q=>⟨v,H',J.os,J.bare,J.base,J.cG,rv,q⟩
 cases fl with
 | ret u =>obtain ⟨v,σ',H',J,rv,q⟩:=hs;exact fin J rv q
 | next =>obtain ⟨σ',H',J,q⟩:=hs;exact fin (v:=V.non) (u:=Qs) J rfl q
 | brk =>obtain ⟨_,_,_,q⟩:=hs;exact Q6 q
 | cont =>obtain ⟨_,_,_,q⟩:=hs;exact Q6 q
section
variable {X:Cx} {x:OX} {p pos:SY} {e:Pt} {es:List Pt} {t:TA} {id T:String} {r:List V→Hp→VK→Prop}
def yL (r:List V→Hp→VK→Prop) (t:TA):TE:=fun σ H Q=>t σ H fun vs H1=>r vs H1 Q
theorem aF (hc:de X (.builtin id) r) (hg:Gl X x) (hm:X.mg x=none) (hv:Pr x=some (.builtin id)) (ha:PA X (e::es) t) (hn:x ≠ "__name__" := by decide) (hdb:‹39›=false:=by decide)
 (he:Pn (e::es) X.env=(false,eval e X.env)::Pn es X.env:=by rfl) (hpl:(RL pos (Pn es X.env)).any (·.1)=false:=by rfl):PE X (.Call (.Name x p) (e::es) [] pos) (yL r t):=by
 intro pins s σ H Q I h;refine Q7 (km I hg hm hv ?_ hn hdb);exact PyProof.Rows.callWith_builtin1 (cB (ha pos pins s σ H _ I h) fun us s1 ⟨vs,H1,I1,r1,q1⟩=>hc pins s1 σ H1 vs us Q I1 r1 q1) he hpl
theorem eG (hc:de X (.type T) r) (hg:Gl X x) (hm:X.mg x=none) (hv:Pr x=some (.type T)) (ha:PA X (e::es) t) (hn:x ≠ "__name__" := by decide) (hdb:‹39›=false:=by decide)
 (he:Pn (e::es) X.env=(false,eval e X.env)::Pn es X.env:=by rfl) (hpl:(RL pos (Pn es X.env)).any (·.1)=false:=by rfl):PE X (.Call (.Name x p) (e::es) [] pos) (yL r t):=by
 intro pins s σ H Q I h;refine Q7 (km I hg hm hv ?_ hn hdb);exact Qw (cB (ha pos pins s σ H _ I h) fun us s1 ⟨vs,H1,I1,r1,q1⟩=>hc pins s1 σ H1 vs us Q I1 r1 q1) he hpl
end
end L2
namespace HT
open PySem PyProof.Rows
def lexLt:List Int→List Int→Bool
 | [],[]=>false
 | [],_::_=>true
 | _::_,[]=>false
 | x::xs,y::ys=>if x=y then lexLt xs ys else decide (x<y)
section
variable {prog:O4} {w:Pf} {A:O3} {E:NN→NS→Prop} {s:NS}
def wy (n d:Nat):Option Int→Nat
 | none=>d
 | some v=>if v<0 then (v+(n:Int)).toNat else min v.toNat n
end
end HT
namespace L2
open PySem PySem.Spec PyProof.Rows
abbrev TO:=St→Hp→(Option Int→Hp→Prop)→Prop
noncomputable def PO (X:Cx) (e:Option Pt) (t:TO):Prop :=
 ∀ (pins:List (NP×Qz)) (s:NS) (σ:St) (H:Hp) (Q:Option Int→Hp→Prop),Inv X pins σ H s→t σ H Q →
  Ou ‹3› X.A (evalPart e X.env) (fun u s'=>∃ o H',Inv X pins σ H' s'∧IsPart u o∧Q o H') X.xe s
def AM:TO:=fun _ H Q=>Q none H
def HN (t:TE):TO:=fun σ H Q=>t σ H fun x H1=>∃ i,x=.int i∧Q (some i) H1
theorem intsAre_of {ns:List Int}:∀ {us:List NN},Vals ‹43› us→RI us ns:=by
 induction ns with
 | nil=>intro us r; rw [QI] at r; cases r; exact .nil
 | cons n ns ih =>
  intro us r;rw [Oq] at r;cases r with
  | cons r1 r2 =>obtain ⟨t,e⟩:=r1;subst e;exact .cons n t (ih r2)
section
variable {X:Cx} {e:Pt} {te:TE} {lo hi:Option Pt} {tl th:TO} {pos p2:SY}
theorem jo:PO X none AM:=by intro pins s σ H Q I h;rw [evalPart_none];exact Oh ⟨none,H,I,.none,h⟩
theorem kU (h:PE X e te):PO X (some e) (HN te):=by intro pins s σ H Q I hw;rw [evalPart_some];refine cB (h pins s σ H _ I hw) fun u s1 ⟨x,H1,I1,r1,q1⟩=>?_;obtain ⟨i,rfl,q⟩:=q1;obtain ⟨t,rfl⟩:=r1;exact ⟨some i,H1,I1,.int i t,q⟩
noncomputable def MT (X:Cx) (r:V→Option Int→Option Int→Hp→VK→Prop):Prop :=
 ∀ (pins:List (NP×Qz)) (s:NS) (σ:St) (H:Hp) (x:V) (v vl vu:NN) (lo hi:Option Int) (sl:NP) (Q:VK),Inv X pins σ H s→RelV x v→s.heap.IsSliceOf sl vl vu .none→IsPart vl lo→IsPart vu hi→r x lo hi H Q →
  ∃ T id,typeLookup (.type T) "__getitem__" = pure (some (.builtin id))∧s.TypeIs v T∧Ou ‹3› X.A (Tn v (.ref sl)) ‹52› X.xe s
def M0 (r:V→Option Int→Option Int→Hp→VK→Prop) (te:TE) (tl th:TO):TE:=fun σ H Q=>te σ H fun x H1=>tl σ H1 fun l H2=>th σ H2 fun u H3=>r x l u H3 Q
theorem xG {r:V→Option Int→Option Int→Hp→VK→Prop} (hr:MT X r) (he:PE X e te) (hl:PO X lo tl) (hu:PO X hi th):PE X (.Subscript e (.Slice lo hi none p2) pos) (M0 r te tl th):=by intro pins s σ H Q I h;refine Ue ‹44›;refine V7 (cB (hl pins s1 σ H1 _ I1 q1) fun vl s2 ⟨l,H2,I2,pl,q2⟩=>cB (hu pins s2 σ H2 _ I2 q2) fun vu s3 ⟨u,H3,I3,pu,q3⟩=>?_);rw [evalPart_none];refine Oh ?_;have I4:Inv X pins σ H3 { s3 with heap:=s3.heap.push { cls:=.type "slice", data:=.fields #[vl,vu,.none] } }:=I3.kept (t':=s3.toks) fun b ob q=>NT _ q;obtain ⟨T,id,hT,ht,hg⟩:=hr pins { s3 with heap:=s3.heap.push { cls:=.type "slice", data:=.fields #[vl,vu,.none] } } σ H3 x v vl vu l u s3.heap.objs.size Q I4 r1 (S3 ..) pl pu q3;show Ou ‹3› X.A (Sm e (.Slice lo hi none p2) v (.ref s3.heap.objs.size)) ‹52› X.xe { s3 with heap:=s3.heap.push { cls:=.type "slice", data:=.fields #[vl,vu,.none] } };exact Wv (ops:=[.ref s3.heap.objs.size,v]) ht hT hg (by with_unfolding_all rfl)
def Ds (xs:List V) (lo hi:Option Int):List V:=(xs.drop (HT.wy xs.length 0 lo)).take (HT.wy xs.length xs.length hi-HT.wy xs.length 0 lo)
theorem pH (xs:List V) (lo hi:Option Int):(Ds xs lo hi).length≤xs.length:=by unfold Ds;rw [O9,Ph];lia
end
def ixN (n:Nat) (i:Int):Option Nat:=if 0≤i then (if i<n then some i.toNat else none) else if -(n:Int)≤i then some (i+n).toNat else none
def jR {α:Type} (xs:List α) (i:Int):Option α:=(ixN xs.length i).bind fun j=>xs[j]?
variable {n:Nat}
theorem By {i:Int} {j:Nat} (h:ixN n i=some j):seqIndex? i n=some j∧j<n∧-(n:Int)≤i∧i<n:=by
 unfold ixN at h;by_cases h0:0≤i
 ·rw [if_pos h0] at h;by_cases h1:i<n
  ·rw [if_pos h1] at h;have e:i.toNat=j:=OD h;exact ⟨by rw [UR h0 h1,e],by lia,by lia,h1⟩
  ·rw [if_neg h1] at h; cases h
 ·rw [if_neg h0] at h;by_cases h1:-(n:Int)≤i
  ·rw [if_pos h1] at h;have e:(i+n).toNat=j:=OD h;exact ⟨by rw [Ug (by lia) h1,e],by lia,h1,by lia⟩
  ·rw [if_neg h1] at h; cases h
variable {α:Type}
theorem qu {xs:List α} {i:Int} {v:α} (h:jR xs i=some v):∃ j,seqIndex? i xs.length=some j∧xs[j]?=some v∧j<xs.length∧-(xs.length:Int)≤i∧i<xs.length:=by
 unfold jR at h;cases e:ixN xs.length i with
 | none=>rw [e] at h; cases h
 | some j =>rw [e] at h;obtain ⟨h1,h2,h3,h4⟩:=By e;exact ⟨j,h1,h,h2,h3,h4⟩
def BW (b:Pt):Prop:=∀ o i,US b false o i=operate [o,i] (Tn o i)
noncomputable def Ga (X:Cx) (r:R2):Prop :=
 ∀ (value slice:Pt) (pins:List (NP×Qz)) (s:NS) (σ:St) (H:Hp) (x y:V) (v u:NN) (Q:VK),Inv X pins σ H s→RelV x v→RelV y u→r x y H Q →
  US slice false v u=operate [v,u] (Tn v u)→Ou ‹3› X.A (Sm value slice v u) ‹52› X.xe s
variable {pins:List (NP×Qz)} {σ:St} {H:Hp} {its:List NN}
noncomputable def Nu (X:Cx) (id:String) (r:V→List V→Hp→VK→Prop):Prop :=
 ∀ (pins:List (NP×Qz)) (s:NS) (σ:St) (H:Hp) (x:V) (xs:List V) (v:NN) (us:List NN) (Q:VK),Inv X pins σ H s→RelV x v→Vals xs us→r x xs H Q →
  Ou ‹3› X.A (call (.builtin id) (v::us)) ‹52› X.xe s
section
variable {X:Cx} {a b:Pt} {ta tb:TE} {pos:SY}
theorem Ga.or {r r':R2} (h:Ga X r) (h':Ga X r'):Ga X (fun x y H Q=>r x y H Q∨r' x y H Q):=by
 intro value slice pins s σ H x y v u Q I rx ry q hs;rcases q with q | q
 ·exact h value slice pins s σ H x y v u Q I rx ry q hs
 ·exact h' value slice pins s σ H x y v u Q I rx ry q hs
theorem Lv {r:R2} (hr:Ga X r) (ha:PE X a ta) (hb:PE X b tb) (hs:BW b):PE X (.Subscript a b pos) (nW r ta tb):=by intro pins s σ H Q I h;exact Ue (Kw ha hb I h fun v u s2 x y H2 I2 rx ry q=>hr a b pins s2 σ H2 x y v u Q I2 rx ry q (hs _ _))
def ED (K:NK):R2:=fun x y H Q=>∃ p xs i v,x=.ref p∧y=.int i∧dQ K H p xs∧jR xs i=some v∧Q v H
def Lp (K:NK):R2:=fun x y H Q=>∃ p xs i v,x=.ref p∧y=.int i∧FU K H p xs∧jR xs i=some v∧Q v H
def Lq:R2:=fun x y H Q=>∃ z i c,x=.str z∧y=.int i∧z.length≤NM∧jR z.cps.toList i=some c∧Q (.str ⟨#[c]⟩) H
theorem G6:Ga X (ED X.K):=by
 intro value slice pins s σ H x y v u Q I rx ry h hs;obtain ⟨p,xs,i,z,rfl,rfl,hq,he,q⟩:=h;cases rx;obtain ⟨t,rfl⟩:=ry;obtain ⟨its,r,pl,hz⟩:=I.list hq;obtain ⟨j,h1,h2,h3,h4,h5⟩:=qu he;obtain ⟨w,ew,rw'⟩:=r.get h2;have hl:=r.length;have hn:=mw;have fin:EP X pins σ Q w s:=⟨z,H,I,rw',q⟩
 by_cases h0:0≤i
 ·have hj:i.toNat=j:=by rw [UR h0 h5] at h1;exact OD h1
  exact item_listR pl.isList h0 (by lia) (by rw [hj]; simpa using ew) fin hs
 ·have hj:(i+(its.toArray.size:Int)).toNat=j:=by rw [Ug (by lia) h4] at h1;rw [NY,← hl];exact OD h1
  exact Uh (x:=w) pl.isList.typeIs Tq.lookup
   (Ui (Q:=fun r s'=>r=w∧EP X pins σ Q r s') pl.isList (by lia) (by rw [NY] <;> lia) (by lia) (by rw [hj]; simpa using ew) ⟨rfl,fin⟩) hs
theorem JX:Ga X (Lp X.K):=by
 intro value slice pins s σ H x y v u Q I rx ry h hs;obtain ⟨p,xs,i,z,rfl,rfl,hq,he,q⟩:=h;cases rx;obtain ⟨t,rfl⟩:=ry;obtain ⟨its,r,pl,hz⟩:=I.tuple hq;obtain ⟨j,h1,h2,h3,h4,h5⟩:=qu he;obtain ⟨w,ew,rw'⟩:=r.get h2;have hl:=r.length;have hn:=mw;have fin:EP X pins σ Q w s:=⟨z,H,I,rw',q⟩
 exact Uh (x:=w) pl.typeIs RM.lookup
  (getItem_tuple (j:=j) (Q:=fun r s'=>r=w∧EP X pins σ Q r s') pl (by lia) (by lia) (by rw [NY,← hl]; exact h1) (by simpa using ew) ⟨rfl,fin⟩) hs
theorem JY:Ga X Lq:=by
 intro value slice pins s σ H x y v u Q I rx ry h hs;obtain ⟨z,i,c,rfl,rfl,hz,he,q⟩:=h;obtain ⟨t,rfl⟩:=rx;obtain ⟨t',rfl⟩:=ry;obtain ⟨j,h1,h2,h3,h4,h5⟩:=qu he;have hl:z.cps.toList.length=z.length:=by simp [Str.length]
 rw [hl] at h1 h4 h5;have hn:=mw;exact Wv (typeIs_str s z t) slot_str_getitem.lookup (getItem_str (c:=c) (by have e1:decide (i < -(2 ^ 63:Int))=false:=decide_eq_false (by lia);have e2:decide (i ≥ 2 ^ 63)=false:=decide_eq_false (by lia);rw [e1,e2,Bool.or_false]) (by rw [h1]; simpa using h2) ⟨.str ⟨#[c]⟩,H,I.tok _,⟨_,rfl⟩,q⟩) hs
def F3 (K:NK):R2:=fun x y H Q=>ED K x y H Q∨Lp K x y H Q∨Lq x y H Q
theorem JZ:Ga X (F3 X.K):=G6.or (JX.or JY)
theorem zU (its:List NN) (n j:Nat) (u:NN):OW (·.setIfInBounds j u) { cls:=.type "list", data:=.seq its.toArray n }={ cls:=.type "list", data:=.seq (its.set j u).toArray n }:=by simp [OW]
theorem Inv.lst {pins:List (NP×Qz)} {σ:St} {H:Hp} {s:NS} {p:NP} {xs:List V} (I:Inv X pins σ H s) (h:H p=some (.lst xs)) :
 ∃ (its:List NN) (n:Nat),Vals xs its∧s.heap.get? p=some { cls:=.type "list", data:=.seq its.toArray n }∧xs.length≤NM:=by
 obtain ⟨z,its,n,r,e⟩:=I.cG p _ h;exact ⟨its,n,r,e,z⟩
theorem Inv.JF {s:NS} {p:NP} {xs ys:List V} {its':List NN} {n':Nat} {f:Qz→Qz} (I:Inv X pins σ H s) (h:H p=some (.lst xs))
 (ho:s.heap.get? p=some { cls:=.type "list", data:=.seq its.toArray n }) (hf:f { cls:=.type "list", data:=.seq its.toArray n }={ cls:=.type "list", data:=.seq its'.toArray n' }) (r:Vals ys its') (hz:ys.length≤NM) (t:Nat) :
 Inv X pins σ (upd H p (.lst ys)) { s with heap:=s.heap.update p f,toks:=t }:=by
 have e:(s.heap.update p f).get? p=some { cls:=.type "list", data:=.seq its'.toArray n' }:=by rw [Sb f ho (by rw [hf] <;> rfl),hf]
 refine I.write (x:=p) (e:=p) (by rw [h]; trivial) (.inl rfl) (fun b u hb q=>(Po _ _ (P9 hb)).trans q) ⟨_,e⟩ ?_;exact ⟨hz,its',n',r,e⟩
def xv:V→V→V→Hp→(Hp→Prop)→Prop:=fun o i v H Q=>∃ p xs k j,o=.ref p∧i=.int k∧H p=some (.lst xs)∧ixN xs.length k=some j∧Q (upd H p (.lst (xs.set j v)))
theorem set_list:KD X xv:=by
 intro pins s σ H o i v ov iv u Q I ro ri rv h;obtain ⟨p,xs,k,j,rfl,rfl,hp,hj,q⟩:=h;cases ro;obtain ⟨t,rfl⟩:=ri;obtain ⟨its,n,r,ho,hz⟩:=I.lst hp;obtain ⟨h1,h2,h3,h4⟩:=By hj;have hl:=r.length;have hn:=mw
 have I':Inv X pins σ (upd H p (.lst (xs.set j v))) { s with heap:=s.heap.update p (OW (·.setIfInBounds j u)) } :=
  I.JF hp ho (zU its n j u) (r.set rv j) (by rw [Pb]; exact hz) s.toks
 by_cases h0:0≤k
 ·have hk:k.toNat=j:=by rw [UR h0 h4] at h1;exact OD h1
  exact PySem.W.ki_setAt ho h0 (by lia) (by rw [NY,← hl]; exact h4) (by rw [hk]; exact ⟨_,I',q⟩)
 ·have hk:(k+(its.toArray.size:Int)).toNat=j:=by rw [Ug (by lia) h3] at h1;rw [NY,← hl];exact OD h1
  exact PySem.W.ki_setBack ho (by lia) (by rw [NY,← hl]; exact h3) (by lia) (by rw [hk]; exact ⟨_,I',q⟩)
theorem uY (lo hi:Option Int) (n:Nat):(QJ lo hi none n).1=((HT.wy n 0 lo:Nat):Int)∧(QJ lo hi none n).2.1=((HT.wy n n hi:Nat):Int)∧(QJ lo hi none n).2.2=1:=by
 refine ⟨?_,?_,rfl⟩
 ·cases lo with
  | none=>simp [QJ,HT.wy]
  | some i =>
   simp only [QJ,HT.wy,VY,show (1:Int) > 0 by decide,if_true];by_cases h:i<0
   ·simp only [h,if_true] <;> lia
   ·simp only [h,if_false] <;> lia
 ·cases hi with
  | none=>simp [QJ,HT.wy]
  | some i =>
   simp only [QJ,HT.wy,VY,show (1:Int) > 0 by decide,if_true];by_cases h:i<0
   ·simp only [h,if_true] <;> lia
   ·simp only [h,if_false] <;> lia
theorem sG (its:List NN) (lo hi:Option Int):VZ its.toArray lo hi none=((its.drop (HT.wy its.length 0 lo)).take (HT.wy its.length its.length hi-HT.wy its.length 0 lo)).toArray:=by obtain ⟨h1,h2,h3⟩:=uY lo hi its.toArray.size;unfold VZ;rw [h1,h2,h3];simp only [sliceRange_one,pick_run,NY] <;> rfl
def Jh (K:NK):V→Option Int→Option Int→Hp→VK→Prop:=fun x lo hi H Q=>∃ a xs,x=.ref a∧dQ K H a xs∧∀ p,H p=none→Q (.ref p) (upd H p (.lst (Ds xs lo hi)))
theorem Gx:MT X (Jh X.K):=by intro pins s σ H x v vl vu lo hi sl Q I rx hs pl pu h;obtain ⟨a,xs,rfl,hx,q⟩:=h;cases rx;obtain ⟨its,r,ht,hz⟩:=I.list hx;have hlen:=r.length;refine ⟨"list", _,Tq.lookup,ht.isList.typeIs,?_⟩;refine TF ht.isList hs pl pu .none (by simp) ?_ (by rw [NY] <;> lia);rw [sG,← hlen];refine ⟨.ref ‹4›,_,I.laid (t':=s.toks) (o:=.lst (Ds xs lo hi)) (fun b ob q=>NT _ q) (N9 _) ?_,rfl,q _ (I.cG.fresh (N9 _))⟩;exact ⟨ON (pH xs lo hi) hz,_,0,(r.drop (HT.wy xs.length 0 lo)).take (HT.wy xs.length xs.length hi-HT.wy xs.length 0 lo),OK _ rfl⟩
def ku:V→Bool
 | .non=>true
 | .bl _=>true
 | .int _=>true
 | .str _=>true
 | _=>false
def Iz:V→V→Bool
 | .non,.non=>true
 | .bl a,.bl b=>a==b
 | .bl a,.int b=>(if a then 1 else 0)==b
 | .int a,.bl b=>a==(if b then 1 else 0)
 | .int a,.int b=>a==b
 | .str a,.str b=>a==b
 | _,_=>false
theorem Kl {A:O3} {s:NS} {y x:V} {u v:NN} (ry:RelV y u) (rx:RelV x v) (fy:ku y=true) (fx:ku x=true):QN A s u v (Iz y x):=by
 cases y with
 | non =>
  cases ry;cases x with
  | non=>cases rx; exact SD _
  | bl b=>cases rx; exact SeqAt.EqAt.none_bool b
  | int b=>obtain ⟨t,rfl⟩:=rx; exact SeqAt.EqAt.none_int b t
  | str b=>obtain ⟨t,rfl⟩:=rx; exact SeqAt.EqAt.none_str b t
  | _=>exact absurd (show false=true from fx) N8
 | bl a =>
  cases ry;cases x with
  | non=>cases rx; exact SeqAt.EqAt.bool_none a
  | bl b=>cases rx; exact UT a b
  | int b=>obtain ⟨t,rfl⟩:=rx; exact SeqAt.EqAt.bool_int a b t
  | str b=>obtain ⟨t,rfl⟩:=rx; exact SeqAt.EqAt.bool_str a b t
  | _=>exact absurd (show false=true from fx) N8
 | int a =>
  obtain ⟨t',rfl⟩:=ry;cases x with
  | non=>cases rx; exact SeqAt.EqAt.int_none a t'
  | bl b=>cases rx; exact SeqAt.EqAt.int_bool a t' b
  | int b=>obtain ⟨t,rfl⟩:=rx; exact RN a t' b t
  | str b=>obtain ⟨t,rfl⟩:=rx; exact Vo a t' b t
  | _=>exact absurd (show false=true from fx) N8
 | str a =>
  obtain ⟨t',rfl⟩:=ry;cases x with
  | non=>cases rx; exact SeqAt.EqAt.str_none a t'
  | bl b=>cases rx; exact SeqAt.EqAt.str_bool a t' b
  | int b=>obtain ⟨t,rfl⟩:=rx; exact Vp a t' b t
  | str b=>obtain ⟨t,rfl⟩:=rx; exact Vu a t' b t
  | _=>exact absurd (show false=true from fx) N8
 | _=>exact absurd (show false=true from fy) N8
def Ae (x:V) (u:NN):Bool:=match u with
 | .none=>Iz .non x
 | .bool b=>Iz (.bl b) x
 | .int i _=>Iz (.int i) x
 | .str z _=>Iz (.str z) x
 | _=>false
theorem FC {x y:V} {u:NN} (r:RelV y u) (f:ku y=true):Ae x u=Iz y x:=by
 cases y with
 | non=>cases r; rfl
 | bl b=>cases r; rfl
 | int i=>obtain ⟨t,rfl⟩:=r; rfl
 | str z=>obtain ⟨t,rfl⟩:=r; rfl
 | _=>exact absurd (show false=true from f) N8
theorem nC {x:V}:∀ {xs:List V} {us:List NN},Vals xs us→xs.all ku=true→us.any (Ae x)=xs.any fun y=>Iz y x
 | _,_,.nil,_=>rfl
 | y::xs,u::us,.cons r t,f=>by rw [Vk,Qb] at f;rw [Rf,Rf,FC r f.1,nC t f.2]
theorem kj {A:O3} {s:NS} {x:V} {v:NN} (rx:RelV x v) (fx:ku x=true):∀ {xs:List V} {us:List NN},Vals xs us→xs.all ku=true→∀ u∈us,QN A s u v (Ae x u)
 | _,_,.nil,_=>fun u hu=>by cases hu
 | y::xs,u::us,.cons r t,f=>fun u' hu=>by
  rw [Vk,Qb] at f;rcases NU.mp hu with rfl | hu
  ·rw [FC r f.1]; exact Kl r rx f.1 fx
  ·exact kj rx fx t f.2 u' hu
def Bz (x:V) (xs:List V):Bool:=xs.any fun y=>Iz y x
def Lr (K:NK) (neg:Bool):R2:=fun x y H Q=>∃ p xs,y=.ref p∧(dQ K H p xs∨FU K H p xs)∧ku x=true∧xs.all ku=true∧Q (.bl (if neg then !Bz x xs else Bz x xs)) H
theorem CJ:o6 X (Qa .In) (Lr X.K false):=by
 intro pins s σ H x y v u Q I rx ry h;obtain ⟨p,xs,rfl,hq,fx,fs,q⟩:=h;cases ry;rcases hq with hq | hq
 ·obtain ⟨its,r,pl,hz⟩:=I.list hq;refine SeqAt.in_listAt (Ae x) pl.isList (fun w hw=>kj rx fx r fs w (by simpa using hw)) ⟨.bl _,H,I,rfl,?_⟩;rw [show its.toArray.any (Ae x)=its.any (Ae x) by simp,nC r fs];exact q
 ·obtain ⟨its,r,pl,hz⟩:=I.tuple hq;refine SeqAt.in_tupleAt (Ae x) pl (fun w hw=>kj rx fx r fs w (by simpa using hw)) ⟨.bl _,H,I,rfl,?_⟩;rw [show its.toArray.any (Ae x)=its.any (Ae x) by simp,nC r fs];exact q
theorem vz:o6 X (Qa .NotIn) (Lr X.K true):=by
 intro pins s σ H x y v u Q I rx ry h;obtain ⟨p,xs,rfl,hq,fx,fs,q⟩:=h;cases ry;rcases hq with hq | hq
 ·obtain ⟨its,r,pl,hz⟩:=I.list hq;refine SeqAt.notIn_listAt (Ae x) pl.isList (fun w hw=>kj rx fx r fs w (by simpa using hw)) ⟨.bl _,H,I,rfl,?_⟩;rw [show its.toArray.any (Ae x)=its.any (Ae x) by simp,nC r fs];exact q
 ·obtain ⟨its,r,pl,hz⟩:=I.tuple hq;refine SeqAt.notIn_tupleAt (Ae x) pl (fun w hw=>kj rx fx r fs w (by simpa using hw)) ⟨.bl _,H,I,rfl,?_⟩;rw [show its.toArray.any (Ae x)=its.any (Ae x) by simp,nC r fs];exact q
theorem de.or {f:NN} {r r':List V→Hp→VK→Prop} (h:de X f r) (h':de X f r'):de X f (fun xs H Q=>r xs H Q∨r' xs H Q):=by
 intro pins s σ H xs us Q I rs q;rcases q with q | q
 ·exact h pins s σ H xs us Q I rs q
 ·exact h' pins s σ H xs us Q I rs q
theorem wd:de X (.type "list") (fun xs H Q=>∃ p ys,xs=[.ref p]∧(dQ X.K H p ys∨FU X.K H p ys)∧∀ l,H l=none→Q (.ref l) (upd H l (.lst ys))):=by
 intro pins s σ H xs us Q I r h;obtain ⟨p,ys,rfl,hq,q⟩:=h;obtain ⟨u,rfl,rx⟩:=vals1 r;cases rx
 have fin:∀ (its:List NN),Vals ys its→ys.length≤NM→∀ (h':PM) (c':Nat),(∀ b o',s.heap.get? b=some o'→h'.get? b=some o') →
  h'.get? ‹4›=some { cls:=.type "list", dict:=none,data:=.seq its.toArray c',slots:=#[] }→EP X pins σ Q (.ref ‹4›) { s with heap:=h' }:=fun its r' hz h' c' kp e =>
  ⟨.ref ‹4›,_,I.laid (t':=s.toks) kp (N9 _) (show cn X.prog X.w _ h' _ (.lst ys) from ⟨hz,its,c',r',e⟩),rfl,q _ (I.cG.fresh (N9 _))⟩
 rcases hq with hq | hq
 ·obtain ⟨its,r',pl,hz⟩:=I.list hq;have hlen:=r'.length;obtain ⟨o,ho,hc,n,hd⟩:=pl.isList;exact call_list_seq p (.inl rfl) ho hc hd (fun h' c' kp e=>fin its r' hz h' c' kp e) (by simp only [NY] <;> lia)
 ·obtain ⟨its,r',pl,hz⟩:=I.tuple hq;have hlen:=r'.length;obtain ⟨o,ho,hc,n,hd⟩:=pl;exact call_list_seq p (.inr rfl) ho hc hd (fun h' c' kp e=>fin its r' hz h' c' kp e) (by simp only [NY] <;> lia)
noncomputable def MY (K:NK) (T:String) (x:V) (H:Hp):Prop:=match x with
 | .str _=>T = "str"
 | .int _=>T = "int"
 | .ref p=>(T = "list" ∧ ∃ xs,dQ K H p xs)∨(T = "tuple" ∧ ∃ o,K.lookup p=some o∧o.cls=.type "tuple" ∧ o.dict=none) ∨
  (T = "dict" ∧ ((∃ kvs,H p=some (.dK kvs))∨∃ kvs,H p=some (.dT kvs)))∨(T = "set" ∧ ∃ S n,H p=some (.set S n))
 | _=>False
theorem IJ {s:NS} {T:String} {x:V} {v:NN} (I:Inv X pins σ H s) (r:RelV x v) (ty:MY X.K T x H) :
 s.TypeIs v T∧∀ a,v=.ref a→∃ ob,s.heap.get? a=some ob∧ob.dict=none:=by
 cases x with
 | str z =>obtain ⟨t,rfl⟩:=r;cases (show T = "str" from ty);exact ⟨typeIs_str s z t,fun _ e=>nomatch e⟩
 | int i =>obtain ⟨t,rfl⟩:=r;cases (show T = "int" from ty);exact ⟨Ww s i t,fun _ e=>nomatch e⟩
 | ref p =>
  cases r;rcases ty with ⟨rfl,xs,hq⟩ | ⟨rfl,o,hk,hc,hd⟩ | ⟨rfl,hk⟩ | ⟨rfl,S,n,hk⟩
  ·obtain ⟨its,_,pl,_⟩:=I.list hq;refine ⟨pl.isList.typeIs,fun a e=>?_⟩;cases e;obtain ⟨o,n,e,c,hd,_⟩:=pl;exact ⟨o,e,hd⟩
  ·refine ⟨⟨o,I.ya p o hk,hc⟩,fun a e=>?_⟩;cases e;exact ⟨o,I.ya _ o hk,hd⟩
  ·have z:∃ o,s.heap.get? p=some o∧o.ExactDict:=by
    rcases hk with ⟨kvs,hk⟩ | ⟨kvs,hk⟩
    ·obtain ⟨_,_,_,_,o,_,_,e,ex,_⟩:=I.cG p _ hk;exact ⟨o,e,ex⟩
    ·obtain ⟨_,_,_,_,o,_,_,e,ex,_⟩:=I.cG p _ hk;exact ⟨o,e,ex⟩
   obtain ⟨o,e,ex⟩:=z;refine ⟨⟨o,e,ex.1⟩,fun a e2=>?_⟩;cases e2;exact ⟨o,e,ex.2.1⟩
  ·obtain ⟨o,_,_,_,e,ex,_⟩:=I.cG p _ hk;refine ⟨⟨o,e,ex.1⟩,fun a e2=>?_⟩;cases e2;exact ⟨o,e,ex.2.1⟩
 | _=>exact Q6 ty
def La (K:NK) (T:String) (r:V→List V→Hp→VK→Prop) (to:TE) (t:TA):TE:=fun σ H Q=>to σ H fun x H1=>MY K T x H1∧t σ H1 fun xs H2=>r x xs H2 Q
variable {o e:Pt} {es:List Pt} {to:TE} {t:TA} {name:OX} {apos cpos:SY} {T id:String} {r:V→List V→Hp→VK→Prop}
theorem gY (pa:PlainAttrs T) (slot:Slot T name id) (hty:typeOf (.builtin id)=pure (.type "method_descriptor")) (hm:Nu X id r) (ho:PE X o to) (ha:PA X (e::es) t)
 (hbase:Vl o name X.env (eval o X.env)=eval o X.env:=by rfl)
 (hfew:((RL cpos (Pn (e::es) X.env)).all (fun x=>!x.1)&&(S1 cpos (Ro [] X.env)).all (fun x=>x.1.isSome)
  && decide ((e::es).length+([]:List Tp).length+(if ([]:List Tp).isEmpty then 0 else 1)<30))=true:=by rfl)
 (hline:(apos.endLine==cpos.line)=true:=by rfl) (hs:Pn (e::es) X.env=(false,eval e X.env)::Pn es X.env:=by rfl) (hplain:(RL cpos (Pn es X.env)).any (·.1)=false:=by rfl) :
 PE X (.Call (.Attribute o name apos) (e::es) [] cpos) (La X.K T r to t):=by
 intro pins s σ H Q I h;refine wpAny_Call_method_late hbase hfew hline rfl (cB (ho pins s σ H _ I h) fun v s1 ⟨x,H1,I1,r1,ty,q1⟩=>?_);obtain ⟨h1,h2⟩:=IJ I1 r1 ty;refine ⟨T,id,pa,slot,hty,h1,h2,?_⟩;have hA:=ha cpos pins s1 σ H1 _ I1 q1;rw [hs] at hA ⊢;refine Calls.callWith_builtin (by show (false || (RL cpos (Pn es X.env)).any (·.1))=false; rw [hplain] <;> rfl) (Calls.evalArgs_plain ?_);exact cB hA fun us s2 ⟨vs,H2,I2,r2,q2⟩=>hm pins s2 σ H2 x vs v us Q I2 r1 r2 q2
end
noncomputable def Ng (X:Cx) (id:String) (r:V→List V→Hp→VK→Prop):Prop :=
 ∀ (pins:List (NP×Qz)) (s:NS) (σ:St) (H:Hp) (x:V) (xs:List V) (v:NN) (us:List NN) (Q:VK),Inv X pins σ H s→RelV x v→Vals xs us→r x xs H Q →
  Ou ‹3› X.A (call (.builtin id) (v::us)) ‹52› X.xe s
theorem Vals.one:∀ {x:V} {us:List NN},Vals [x] us→∃ u,us=[u]∧RelV x u
 | _,_,.cons r .nil=>⟨_,rfl,r⟩
theorem Vals.rep {xs:List V} {us:List NN} (h:Vals xs us):∀ k:Nat,Vals (Oz k xs).flatten (Oz k us).flatten
 | 0=>.nil
 | k+1=>by rw [Qi,Qi,QK,QK];exact Vals.append h (Vals.rep h k)
theorem foldl_rep (its:List NN):∀ (k:Nat) (acc:List NN),
 Wx (fun x1 x2=>x1++x2) acc.toArray (Oz k its.toArray)=(acc++(Oz k its).flatten).toArray
 | 0,acc=>by simp
 | k+1,acc=>by
  have e:acc.toArray++its.toArray=(acc++its).toArray:=by simp
  have e2:(acc++its)++(Oz k its).flatten=acc++(Oz (k+1) its).flatten:=by rw [Qi,QK,OG]
  rw [← e2,← foldl_rep its k (acc++its),← e,Qi,SE]
section
variable {X:Cx} {pins:List (NP×Qz)} {σ:St} {H:Hp} {s:NS} {l b:NP} {xs ys zs:List V}
theorem Inv.Ly {its':List NN} {f:Array NN→Array NN} {t':Nat} (I:Inv X pins σ H s) (hH:H l=some (.lst xs))
 (e:s.heap.get? l=some { cls:=.type "list", data:=.seq its.toArray n }) (hf:f its.toArray=its'.toArray) (hv:Vals ys its') (hz:ys.length≤NM) :
 Inv X pins σ (upd H l (.lst ys)) { s with heap:=s.heap.update l (OW f),toks:=t' }:=by
 have q:=PySem.IsL.update e f;rw [hf] at q;refine I.write (x:=l) (e:=l) (by rw [hH]; exact trivial) (.inl rfl) (fun b' u hb hu=>(Po s.heap (OW f) (P9 hb)).trans hu) ⟨_,q⟩ ?_;exact ⟨hz,its',_,hv,q⟩
theorem Inv.JM {t':Nat} (I:Inv X pins σ H s) (hv:Vals ys its) (hz:ys.length≤NM) :
 Inv X pins σ (upd H ‹4› (.lst ys)) { s with heap:=s.heap.push { cls:=.type "list", data:=.seq its.toArray },toks:=t' } :=
 I.laid (fun _ _ q=>NT _ q) (N9 _) ⟨hz,its,0,hv,OK _ rfl⟩
theorem Inv.fresh (I:Inv X pins σ H s):H ‹4›=none:=I.cG.fresh (N9 _)
theorem Inv.JG (I:Inv X pins σ H s) (hH:H l=some (.lst xs)):xs.length≤NM∧∃ (its:List NN) (n:Nat),Vals xs its∧xs.length=its.length∧s.heap.get? l=some { cls:=.type "list", data:=.seq its.toArray n }:=by obtain ⟨z,its,n,r,e⟩:=I.cG l _ hH;exact ⟨z,its,n,r,r.length,e⟩
theorem xN (h:n≤NM):QO n=false:=by unfold QO;exact decide_eq_false (by lia)
end
section
variable {X:Cx}
def qg:V→List V→Hp→VK→Prop:=fun x vs H Q=>∃ l xs y,x=.ref l∧vs=[y]∧H l=some (.lst xs)∧xs.length<NM∧Q .non (upd H l (.lst (xs++[y])))
theorem cD:Ng X "list.append" qg:=by intro pins s σ H x vs v us Q I rx rv h;obtain ⟨l,xs,y,rfl,rfl,hH,hz,q⟩:=h;cases rx;obtain ⟨u,rfl,ru⟩:=rv.one;obtain ⟨z,its,n,r,hl,e⟩:=I.JG hH;refine Uj F.slot_list_append ⟨_,e,rfl⟩ F.entry_list_append (F.args_list_append_2 _ _) (PySem.list_append l its.toArray n u (by rw [NY]; lia)) ⟨e,?_⟩;refine ⟨.non,_,I.Ly (its':=its++[u]) hH e (by simp) (r.append (.cons ru .nil)) ?_,rfl,q⟩;rw [N7,Pl];lia
def Ln:R2:=fun x y H Q=>∃ l k xs,x=.ref l∧y=.int k∧H l=some (.lst xs)∧-(2 ^ 63)≤k∧k<2 ^ 63∧xs.length*k.toNat≤NM ∧
 ∀ p,H p=none→Q (.ref p) (upd H p (.lst (Oz k.toNat xs).flatten))
theorem len_rep (xs:List α) (k:Nat):(Oz k xs).flatten.length=k*xs.length:=by
 induction k with
 | zero=>simp
 | succ k ih=>rw [Qi,QK,N7,ih,Nat.succ_mul,Nat.add_comm]
theorem zH:o6 X (Sq .Mult) Ln:=by
 intro pins s σ H x y v u Q I rx ry h;obtain ⟨l,k,xs,rfl,rfl,hH,h1,h2,hz,q⟩:=h;cases rx;obtain ⟨t,rfl⟩:=ry;obtain ⟨z,its,n,r,hl,e⟩:=I.JG hH;have hlen:its.toArray.size*k.toNat≤NM:=by rw [NY,← hl]; exact hz
 have hcap:¬ its.toArray.size*k.toNat > (2 ^ 63-1) / 8:=by
  have:(NM:Nat)≤(2 ^ 63-1) / 8:=by decide
  lia
 have hfit:¬ (!Builtin.List.listFitsIndex k)=true:=by rw [fitsIndex_both h1 h2];exact N8
 have hlong:¬ QO (its.toArray.size*k.toNat)=true:=by rw [xN hlen];exact N8
 have hnew:Wx (fun x1 x2=>x1++x2) #[] (Oz (if its.toArray.isEmpty=true then 0 else k.toNat) its.toArray)=(Oz k.toNat its).flatten.toArray:=by
  have f0:∀ m:Nat,Wx (fun x1 x2=>x1++x2) #[] (Oz m its.toArray)=(Oz m its).flatten.toArray:=fun m=>by have:=foldl_rep its m [];rw [Qt] at this;exact this
  rw [f0];cases its with
  | nil=>simp
  | cons a r'=>rw [if_neg (by simp)]
 refine wpAny_binaryOp_repeat_ref (T := "list") (U := "int") ‹11› ⟨_,e,rfl⟩ (fun s'=>Ww s' k t) noFill_list_mul F.fills_int_mul F.slot_int_rmul repeat_list F.slot_int_index.lookup
  (Uj F.slot_int_rmul (Ww s k t) F.entry_int_rmul (F.args_int_rmul_2 _ _) (int___rmul___int_list k t l its.toArray n)
   ⟨e,rfl,⟨_,e,rfl⟩,Uj F.slot_list_mul ⟨_,e,rfl⟩ F.entry_list_mul (F.args_list_mul_2 _ _) (AutoListH.list___mul___list_int_3 l its.toArray n k t hfit hcap hlong) ⟨e,?_⟩⟩)
 rw [hnew];exact ⟨.ref _,_,I.JM (t':=s.toks) (r.rep k.toNat) (by rw [len_rep,Nat.mul_comm]; exact hz),rfl,q _ I.fresh⟩
end
end L2
namespace MX
open PySem PySem.W PySem.Calls PyProof.Rows
variable {P:Params} {h:PM}
theorem pV:∀ (ns:List Int) (vs:List NN),WellAll P h vs (ns.map SW)→RI vs ns:=by
 intro ns;induction ns with
 | nil =>intro vs w;rw [QI] at w;cases w;exact .nil
 | cons n ns ih =>
  intro vs w;rw [Oq] at w;cases w with
  | cons a b =>cases a;exact .cons _ _ (ih _ b)
theorem Co {l:OpenLaw} {n:Nat} (hn:l.most=some n) {args:List WData} {vals:List NN}
 (hpre:l.row.toRowW.claim.pre args=true) (hwl:WellAll P h vals args) :
 ∃ a vs ns,vals=[O2 a]∧args=[WData.list (ns.map SW)]∧h.get? a=some { cls:=.type "list", data:=.seq vs.toArray }∧RI vs ns∧ns.length≤n:=by
 have hsh:WShape.hasAll [] args [.list .int]=true:=(pre_splitW hpre).1;have hc:l.pre.holds [] { args:=args }=true:=(pre_splitW hpre).2;obtain ⟨d,r,rfl,h1,h2⟩:=hasAllW_cons hsh;obtain rfl:=hasAllW_nil h2;obtain ⟨xs,rfl,h3⟩:=hasW_list h1;obtain ⟨ns,rfl⟩:=items_int h3
 have hlen:ns.length≤n:=by
  unfold OpenLaw.pre at hc;have h4:(WTm.not (.lt (.lit (.int (n:Int))) (.len (.arg 0)))).holds [] { args:=[.list (ns.map .int)] }=true:=by have h4:=(holds_andW hc).1;rw [hn] at h4;exact h4
  have h5:=condW_of h4 (w_not (w_lt w_lit (w_len_list (w_arg rfl))));rw [NH] at h5;refine Nat.le_of_not_lt fun q=>?_;have q':(n:Int)<((ns.length:Nat):Int):=by lia
  first
   | (rw [decide_eq_true q'] at h5; exact absurd h5 ‹11›)
   | (simp at h5; lia)
 cases hwl with
 | cons w1 w2 =>
  cases w2;cases w1 with
  | list ho hall=>exact ⟨_,_,ns,rfl,rfl,ho,pV ns _ hall,hlen⟩
theorem CD (l:OpenLaw) (args:List WData):l.row.toRowW.claim.post args (.bool true) args=true :=
 postW_of (r:=l.row.toRowW) (X:=(true==true))
  (show WShape.has [] (.bool true) .bool=true by first | rfl | decide | simp [WShape.has,WShape.arms,WShape.armsAll])
  (show (WTm.eq .res (.lit (.bool true))).value [] { args:=args,res:=some (.bool true),after:=args }=some (.bool (true==true)) from w_eq_bool (w_res rfl) w_lit) rfl
section
variable {prog:O4} {w:Pf} {A:O3} {E:NN→NS→Prop} {s:NS} {K:Frag}
def ledger (h:PM) (L d:NP):List (NP×Qz):=(N4 h.objs.size).filterMap fun a=>if a=L∨a=d then none else (h.get? a).map fun o=>(a,o)
end
end MX
namespace L2
open PySem PySem.Spec PyProof.Rows
theorem n8:∀ {vs:List NN} {ns:List Int},RI vs ns→Vals ‹43› vs
 | _,_,.nil=>.nil
 | _,_,.cons n t h=>.cons ⟨t,rfl⟩ (n8 h)
abbrev NB {K:NK} {h:PM} (_:K.In h):NK:=K
def nh (s:Qo):Se:=match s with
 | .FunctionDef _ a _ _ _ _ _ _ _ _=>a
 | _=>{ posonlyargs:=[],args:=[],vararg:=none,kwonlyargs:=[],kw_defaults:=[],kwarg:=none,defaults:=[] }
def dZ (s:Qo):List Qo:=match s with
 | .FunctionDef _ _ b _ _ _ _ _ _ _=>b
 | _=>[]
def aB (s:Qo):Q3:=match s with
 | .FunctionDef _ _ _ _ _ _ sc _ _ _=>sc
 | _=>{ kind:=.function,names:=[],isGenerator:=false,isCoroutine:=false }
abbrev gJ:DF:=fun _ _ _ _ _ _=>False
abbrev E0:XK:=fun _ _ _=>False
variable {X:Cx}
theorem EN:Passes gJ X E0:=fun _ _ _ _ _ _ _ h=>h.elim
variable {x:OX} {st:Qo} {f:NP}
structure gm (K:NK) (x qual:OX) (st:Qo) (f:NP) (fd:P6):Prop where
 ex:∃ (oc:NN) (od:Option NP) (kV doc pm:NN) (an:Option NP) (cdv ct:NN) (osl:Array (Option NN)),
  fd=Rt x qual (nh st) (dZ st) (aB st) .none kV doc pm an cdv ct∧K.lookup f=some ⟨oc,od,.func fd,osl⟩∧S2 K cdv qual=true
 kp:QV K (.ref f)=true
section
variable {P:O4} {w:Pf} {K:NK} {mg:OX→Option NN} {base:PM}
theorem gm.ok {qual:OX} {fd:P6} {N ps:List OX} {k:Nat} {sp:Sp} (F:gm K x qual st f fd) (S:aR N ps (aB st)) (len:∀ vs H Q E,sp vs H Q E→vs.length=ps.length)
 (hbody:∀ (cdv:NN) (A:O3) (outer:List V5) (s:NS) (H:Hp) (vs:List V) (Q:VK) (E:XK),eQ k (A.deeper (Ud qual (aB st) ‹4› f cdv))→sp vs H Q E →
  ∃ t,wq ‹14›.EW (dZ st) t∧t { nx:=fun _ H'=>Q .non H',rt:=Q } (start N vs) H):cE P w K mg base gJ (k+1) f fd ps sp:=by
 obtain ⟨oc,od,kV,doc,pm,an,cdv,ct,osl,rfl,lk,hcd⟩:=F.ex;refine Iu lk hcd S len fun A outer s H vs Q E hr hsp=>?_;obtain ⟨t,h,q⟩:=hbody cdv A outer s H vs Q E hr hsp;exact ⟨t,h.EW,q⟩
theorem Kb {qual:OX} {oc:NN} {od an:Option NP} {osl:Array (Option NN)} {kV doc pm cdv ct:NN} (l:K.lookup f=some ⟨oc,od,.func (Rt x qual (nh st) (dZ st) (aB st) .none kV doc pm an cdv ct),osl⟩)
 (c:S2 K cdv qual=true) (k:QV K (.ref f)=true):gm K x qual st f (Rt x qual (nh st) (dZ st) (aB st) .none kV doc pm an cdv ct):=⟨⟨oc,od,kV,doc,pm,an,cdv,ct,osl,rfl,l,c⟩,k⟩
end
variable {A:O3} {pos:SY}
theorem rM {k:Nat} (hr:eQ k A):A.units+1<RT:=Nat.lt_of_le_of_lt (Nat.add_le_add_left (by decide:1≤64) _) hr.units
section
variable {X:Cx}
theorem pv (i:Nat) (hN:X.N[i]?=some x:=by rfl) (hv:Kz X.env.scope x:=by first | exact OR rfl | exact O7 (OR rfl) | exact O7 (O7 rfl)) (hd:‹39›=false:=by decide)
 (hcd:(x==("__classdict__" : OX))=false:=by decide):PE X (.Name x pos) (lC i):=Js hN hv hd hcd
end
theorem pU {A B:Prop} (h:B):if false=true then A else B:=by rw [if_neg N8];exact h
theorem vN {A B:Prop} (h:A):if true=true then A else B:=by rw [if_pos rfl];exact h
def aW (H H':Hp):Prop:=∀ b o,H b=some o→H' b=some o
theorem aW.refl (H:Hp):aW H H:=fun _ _ h=>h
theorem aW.trans {H H1 H2:Hp} (a:aW H H1) (b:aW H1 H2):aW H H2:=fun c o h=>b c o (a c o h)
variable {H:Hp} {H':Hp} {α:Type}
theorem aW.free (e:aW H H') {l:NP} (h:H' l=WW):H l=WW:=by
 cases q:H l with
 | none=>rfl
 | some o =>rw [e l o q] at h;cases h
section
variable {X:Cx}
theorem fQ:o6 X (Sq .Mult) (rI UO fun i j=>.int (i*j)):=LY fun _ _ _ _ _ _ _ hc q=>mul_int q hc
theorem iN:o6 X (Sq .FloorDiv) (rI (fun _ j=>0<j∧j.natAbs.log2<9000) fun i j=>.int (i / j)):=LY fun i j _ _ _ _ _ hc q=>by have h1:(0:Int)<j:=hc.1;exact floordiv_int (by lia) (by rw [Int.fdiv_eq_ediv_of_nonneg i (by lia)]; exact q) (.inl (PyProof.noPylong_of_log2 hc.2))
theorem FL (hc:X.calm=true):de X (.builtin "sum") (fun xs H Q=>∃ (p:NP) (ns:List Int),xs=[.ref p]∧dQ X.K H p ‹43›∧Q (.int ns.sum) H):=by
 intro pins s σ H xs us Q I r h;obtain ⟨p,ns,rfl,hq,q⟩:=h;obtain ⟨u,rfl,rx⟩:=vals1 r;cases rx;obtain ⟨its,r',pl,hz⟩:=I.list hq;have hi:=intsAre_of r';obtain ⟨ys,hx⟩:=hi.allInts.items;have hl':s.heap.IsList p (UU ys):=hx ▸ pl.isList;refine sum_intListG (I.ok.hd hc) hl' fun h' tk t' hk=>?_;have e1:ns=ys.toList.map (·.1):=by rw [← TH,← hx];exact (show numsOf its.toArray.toList=ns from hi.numsOf).symm
 have e2:preSum (Wy ys) ys.size=ns.sum:=by rw [preSum_eq,Pz (by simp),e1]
 rw [e2];exact ⟨.int ns.sum,H,I.kept hk,⟨_,rfl⟩,q⟩
theorem Dv (hc:X.calm=true):de X (.builtin "max") (fun xs H Q=>∃ (p:NP) (ns:List Int),xs=[.ref p]∧dQ X.K H p ‹43›∧ns≠[]∧∀ M,M∈ns→(∀ a,a∈ns→a≤M)→Q (.int M) H):=by
 intro pins s σ H xs us Q I r h;obtain ⟨p,ns,rfl,hq,hne,q⟩:=h;obtain ⟨u,rfl,rx⟩:=vals1 r;cases rx;obtain ⟨its,r',pl,hz⟩:=I.list hq;have hi:=intsAre_of r';obtain ⟨ys,e⟩:=hi.allInts.items;have hns:ns=ys.toList.map (·.1):=by rw [← hi.numsOf,← TH,← e]
 have hsz:0<ys.size:=by have h3:=QT.mpr hne;rw [hns,NH,N3] at h3;exact h3
 have hl:=pl.isList;rw [e] at hl;refine max_intList (I.ok.hd hc) hl hsz fun v h' tk hv hk=>?_;obtain ⟨t,rfl⟩:=UW hv;obtain ⟨h1,h2⟩:=argBest_gt (Wy ys) (ys.size-1);refine ⟨.int _,H,I.kept hk,⟨t,rfl⟩,q _ ?_ fun a ha=>?_⟩
 ·rw [hns,UY]; exact UZ (by rw [NH,N3]; lia)
 ·show 3
theorem FO:de X (.builtin "isinstance") (fun xs H Q=>∃ x n t b,xs=[x,.ty n]∧lH X.K H x t∧Rl X.K t (.type n)=some b∧Q (.bl b) H):=by intro pins s σ H xs us Q I r h;obtain ⟨x,n,t,b,rfl,ty,e,q⟩:=h;obtain ⟨u,w',rfl,rx,ry⟩:=vals2 r;cases ry;exact C7 I rx ty e fun tk=>⟨.bl b,H,I.tok _,rfl,q⟩
theorem gF [DecidableEq α] {ns ms:List α} (d:α) (h:ns.length=ms.length):((N4 ns.length).all fun j=>decide (ns.getD j d=ms.getD j d))=decide (ns=ms):=by
 rw [Pa,Pj,decide_eq_true_iff];constructor
 ·intro H;refine PN h fun i h1 h2=>?_;have:=of_decide_eq_true (H i (Ow.mpr h1));rw [NF,NF,NG h1,NG h2] at this;exact this
 ·rintro rfl i _;simp
theorem jv [DecidableEq α] {s:NS} {us ws:List NN} {ns ms:List α} {d:α} (hl:us.length=ns.length) (hl2:ws.length=ms.length)
 (h:∀ (j:Nat) (u v:NN) (a b:α),us[j]?=some u→ws[j]?=some v→ns[j]?=some a→ms[j]?=some b→QN A s u v (decide (a=b))) :
 ∀ j (h1:j<us.toArray.size) (h2:j<ws.toArray.size),QN A s us.toArray[j] ws.toArray[j] (decide (ns.getD j d=ms.getD j d)):=by
 intro j h1 h2;have h1':j<us.length:=by simpa using h1
 have h2':j<ws.length:=by simpa using h2
 have q:=h j us[j] ws[j] ns[j] ms[j] (NG h1') (NG h2') (NG (by lia)) (NG (by lia));have e1:ns.getD j d=ns[j]:=by rw [NF,NG (by lia)]; rfl
 have e2:ms.getD j d=ms[j]:=by rw [NF,NG (by lia)]; rfl
 rw [e1,e2];simpa using q
theorem rb [DecidableEq α] [Inhabited α] {s:NS} {l b:NP} {us ws:List NN} {ns ms:List α} (p1:s.heap.IsList l us.toArray) (p2:s.heap.IsList b ws.toArray) (hl:us.length=ns.length) (hl2:ws.length=ms.length) (hu:A.units<RT)
 (h:∀ (j:Nat) (u v:NN) (a b:α),us[j]?=some u→ws[j]?=some v→ns[j]?=some a→ms[j]?=some b→QN A.in1 s u v (decide (a=b))) :
 SeqAt.RcAt A s (.ref l) (.ref b) (decide (ns=ms)):=by
 by_cases hs:ns.length=ms.length
 ·have q:=SeqAt.RcAt.lists (e:=fun j=>decide ‹28›) p1 p2 (by simp; lia) hu (jv hl hl2 h);have e:((N4 us.toArray.size).all fun j=>decide ‹28›)=decide (ns=ms):=by rw [NY,hl]; exact gF default hs
  rw [e] at q;exact q
 ·have q:=RC p1 p2 (by simp; lia) hu;have e:decide (ns=ms)=false:=decide_eq_false fun z=>hs (by rw [z]);rw [e];exact q
theorem vi [DecidableEq α] [Inhabited α] {s:NS} {l b:NP} {us ws:List NN} {ns ms:List α} (p1:s.heap.IsList l us.toArray) (p2:s.heap.IsList b ws.toArray) (hl:us.length=ns.length) (hl2:ws.length=ms.length) (hu:A.units<RT)
 (h:∀ (j:Nat) (u v:NN) (a b:α),us[j]?=some u→ws[j]?=some v→ns[j]?=some a→ms[j]?=some b→QN A.in1 s u v (decide (a=b))) :
 WT A s (.ref l) (.ref b) (!decide (ns=ms)):=by
 by_cases hs:ns.length=ms.length
 ·have q:=SeqAt.RcNeAt.lists (e:=fun j=>decide ‹28›) p1 p2 (by simp; lia) hu (jv hl hl2 h);have e:((N4 us.toArray.size).all fun j=>decide ‹28›)=decide (ns=ms):=by rw [NY,hl]; exact gF default hs
  rw [e] at q;exact q
 ·have q:=S4 p1 p2 (by simp; lia) hu;have e:decide (ns=ms)=false:=decide_eq_false fun z=>hs (by rw [z]);rw [e];exact q
end
open PySem.W in
theorem yG {ns:List Int} (h:V0 [WData.list (ns.map SW)]=true):∀ n∈ns,P4 n≤1048576:=by
 have w:SO (.list (ns.map SW))≤2 ^ 20:=by unfold V0 WData.layable at h;simp only [Vk,List.all_nil,Vm,Qb,decide_eq_true_eq] at h;exact h.2
 have key:∀ (ms:List Int),∀ n∈ms,P4 n≤Uz (ms.map SW):=by
  intro ms;induction ms with
  | nil=>intro n hn; cases hn
  | cons m ms ih =>
   intro n hn;rw [Oq,Uz];rcases NU.mp hn with rfl | hn
   ·have e:SO (.int n)=P4 n:=by simp [SO,P4]
    lia
   ·have:=ih n hn;lia
 intro n hn;have q:=key ns n hn;have e:SO (.list (ns.map SW))=Uz (ns.map SW):=by simp [SO]
 rw [e] at w;exact ON q w
structure Nh (X:Cx) (N':List OX) (scope:Q3) (cl:List (OX×NP)) (σ σ0:St):Prop where
 sub:∀ x c,cl.lookup x=some c→X.env.cells.lookup x=some c
 vals:∀ (j:Nat) (x:OX) (v:V),N'[j]?=some x→σ0[j]?=some (some v)→∃ (i:Nat) (c:NP),X.N[i]?=some x∧σ[i]?=some (some v)∧Kz X.env.scope x∧X.env.kindOf x≠some .local∧cl.lookup x=some c ∧
  ‹7›
 has:∀ x,‹7›→∃ c,cl.lookup x=some c
 len:σ0.length=N'.length
section
variable {prog:O4} {w:Pf} {A:O3} {R:WS→NS→Prop} {s:NS}
theorem wb {elt target iter:Pt} {ifs:List Pt} {scope:Q3} {pos:SY} {it acc:NN} {env:V5} (I:Nat→NS→Prop)
 (turn:∀ n s,I n s→Ou ‹10› A (Vr it) (fun r s₁=>match r with
  | none=>R (.ok .next) s₁
  | some v=>Ou ‹10› A (SA target it v) (fun _ s₀=>Ou ‹10› A (assign target env v) (fun _ s₂ =>
   Ou ‹10› A (forIn ifs true fun c r=>if r=true then do let ok ← Ua c env (eval c env); pure (Py ok) else pure (Py r)) (fun ok s₃ =>
    if ok=true then Ou ‹10› A (eval elt env) (fun x s₄ =>Ou ‹10› A (call (.builtin "list.append") [acc,x]) (fun _ s₅=>∃ m,m<n∧I m s₅) (fun _ _=>False) s₄) (fun _ _=>False) s₃
    else ∃ m,m<n∧I m s₃) (fun _ _=>False) s₂) (fun _ _=>False) s₀) (fun _ _=>False) s₁) (fun _ _=>False) s)
 (n:Nat) (h:I n s) :
 SN ‹10› A (.compLoop (.ListComp elt [⟨target,iter,ifs,0⟩] scope pos) 0 it acc env) R s:=by
 refine codeAny_loop rfl I (fun n s hI=>?_) n h;show Ou _ A ((compTurn (.ListComp elt [⟨target,iter,ifs,0⟩] scope pos) 0 it acc env).onRaise (fun x=>do noteFrame x env; theTreesLotGoes x)) _ _ s;refine wpAny_noted ?_;rw [compTurn_list];refine NO (RB (NO (Px (turn n s hI) (fun r s₁ h₁=>?_) fun _ _ h'=>h'.elim)));cases r with
 | none=>exact Oh h₁
 | some v =>
  refine NO (Px h₁ (fun _ s₀ h₀=>?_) fun _ _ h'=>h'.elim);refine NO (Px h₀ (fun _ s₂ h₂=>NO (Px h₂ (fun ok s₃ h₃=>?_) fun _ _ h'=>h'.elim)) fun _ _ h'=>h'.elim);cases ok with
  | false=>exact Oh ⟨rfl,h₃⟩
  | true =>exact NO (NO (Px h₃ (fun x s₄ h₄=>NO (Px h₄ (fun _ s₅ h₅=>Oh (Oh ⟨rfl,h₅⟩)) fun _ _ h'=>h'.elim)) fun _ _ h'=>h'.elim))
end
noncomputable def IC (J:It) (g:TG) (tt:TT) (te:TE) (σ0:St) (H1:Hp) (Q:VK):Prop:=∀ D,H1 D=none→∃ W:Nat→Nat→List V→Hp→Prop,(∃ m,W 0 m [] (upd H1 D (.lst []))) ∧
 ∀ i m ys H,W i m ys H→(J.stop i H∧H D=some (.lst ys)∧Q (.ref D) H) ∨
  (J.go i H∧∀ x H',J.LU i H x H'→g x σ0 H' fun σ2 H2=>tt σ2 H2 fun c H3 =>
   if c=true then te σ2 H3 fun v H4=>H4 D=some (.lst ys)∧ys.length<NM∧∃ m',m'<m∧W (i+1) m' (ys++[v]) (upd H4 D (.lst (ys++[v])))
   else ∃ m',m'<m∧W (i+1) m' ys H3)
variable {id:String} {es:List Pt} {Q:NN→NS→Prop}
def BY (g:TG) (σ0:St):Prop:=∀ x H (Q:St→Hp→Prop),g x σ0 H Q→g x σ0 H fun σ2 H2=>Q σ2 H2∧σ2.length=σ0.length∧∀ (j:Nat) v,σ0[j]?=some (some v)→σ2[j]?=some (some v)
section
variable {X:Cx} {tg elt iter:Pt} {ifs:List Pt} {scope:Q3} {cl:List (OX×NP)} {N':List OX} {σ0:St→St} {g:TG} {tt:TT} {te:TE}
def ph (wi:TI) (g:TG) (tt:TT) (te:TE) (σ0:St→St):TE:=fun σ H Q=>wi σ H fun J H1=>IC J g tt te (σ0 σ) H1 Q
def AL:TT:=fun _ H Q=>Q true H
variable {pos:SY} {wi:TI}
def tH (t:TE) (i:Nat):TS:=fun D σ H=>t σ H fun x H1=>D.nx (σ.set i (some x)) H1
end
section
variable {X:Cx}
noncomputable def Aw (X:Cx) (f:NN) (ks:List OX) (r:List V→List V→Hp→VK→Prop):Prop :=
 ∀ (pins:List (NP×Qz)) (s:NS) (σ:St) (H:Hp) (xs zs:List V) (us ws:List NN) (Q:VK),Inv X pins σ H s→Vals xs us→Vals zs ws→r xs zs H Q →
  Ou ‹3› X.A (call f us (ks.zip ws)) ‹52› X.xe s
def K9 (r:List V→List V→Hp→VK→Prop) (t tk:TA):TE:=fun σ H Q=>t σ H fun vs H1=>tk σ H1 fun zs H2=>r vs zs H2 Q
theorem CG {p:SY} {e:Pt} {kws:List Tp} {ks:List OX} {t tk:TA} {r:List V→List V→Hp→VK→Prop} (hc:Aw X (.builtin id) ks r) (hg:Gl X x) (hm:X.mg x=none) (hv:Pr x=some (.builtin id)) (ha:PA X (e::es) t) (hk:PK X kws tk)
 (hks:(S1 pos (Ro kws X.env)).filterMap (·.1)=ks:=by rfl) (hn:x ≠ "__name__" := by decide) (hdb:‹39›=false:=by decide)
 (he:RL pos (Pn (e::es) X.env)=(false,eval e X.env)::RL pos (Pn es X.env):=by rfl) (hpl:(RL pos (Pn (e::es) X.env)).any (·.1)=false:=by rfl)
 (hall:(S1 pos (Ro kws X.env)).all (·.1.isSome)=true:=by rfl) (hkw:(S1 pos (Ro kws X.env)).any (·.1.isNone)=false:=by rfl):PE X (.Call (.Name x p) (e::es) kws pos) (K9 r t tk):=by
 intro pins s σ H Q I h;refine Q7 (km I hg hm hv ?_ hn hdb);refine TJ (cB (ha pos pins s σ H _ I h) fun us s1 ⟨vs,H1,I1,r1,q1⟩=>?_) he hpl hall hkw;refine cB (hk pos pins s1 σ H1 _ I1 q1) fun ws s2 ⟨zs,H2,I2,r2,q2⟩=>?_;rw [hks];exact hc pins s2 σ H2 vs zs us ws Q I2 r1 r2 q2
end
section
variable {prog:O4} {w:Pf} {A:O3} {R:WS→NS→Prop} {I:NP} {fp wr:List NP} {n:Nat} {P:Nat→NN→Prop} {St:Nat→PM→Prop} {kw:List (OX×NN)}
theorem CP (W:Walks prog w A.in1 I fp wr n P St) (bt:Nat→Nat→Bool) (hcmp:CmpOf prog w A.in1 .Gt P bt) (S:NP) (hSf:S∉fp) :
 ∀ (k j:Nat) (s:NS) (vb:NN) (c:Nat),n-(j+1)=k→j+1≤n→St (j+1) s.heap→P (Tr bt j) vb →
 s.heap.get? S=some { cls:=.type "list", dict:=none,data:=.seq #[vb,vb] c,slots:=#[] } →
 (∀ v h' tk,P (Tr bt (n-1)) v→(∀ b o,b∉wr→b≠S→s.heap.get? b=some o→h'.get? b=some o)→R (.ok (.ret v)) { s with heap:=h',toks:=tk }) →
 SN ‹10› A (.builtin "max.loop" ⟨[.ref I,.none,.ref S],kw⟩) R s:=by
 have hSw:S∉wr:=fun h=>hSf (W.sub _ h);have hname:(toString "max" ++ toString ".loop" : String) = "max.loop" := by decide
 intro k;induction k with
 | zero =>
  intro j s vb c hk hj hst hPb hS hR;have hin:j+1=n:=by lia
  refine Qu Sf ?_;rw [PX Ql _];show Ou _ A.in1 (V1 (.ref S) >>= _) _ _ s;refine NO (S8 hS rfl ?_);show Ou _ A.in1 (tryCatch (Vr (.ref I)) _ >>= _) _ _ s;refine NO (RY (W.done s _ _ (hin ▸ hst) fun h' tk hk'=>?_));have hS':=hk' S _ hSw hS;show Ou _ A.in1 (updateSeq S (fun _=>#[]) >>= _) _ _ _;refine NO ?_;refine UA hS' rfl (NO (Ts (Oh ?_)));refine hR vb _ tk (by rw [← hin]; exact hPb) fun b o hbw hbS e=>(Po _ _ (P9 hbS)).trans (hk' b o hbw e)
 | succ k ih =>
  intro j s vb c hk hj hst hPb hS hR;have hlt:j+1<n:=by lia
  refine Qu Sf ?_;rw [PX Ql _];show Ou _ A.in1 (V1 (.ref S) >>= _) _ _ s;refine NO (S8 hS rfl ?_);show Ou _ A.in1 (tryCatch (Vr (.ref I)) _ >>= _) _ _ s;refine NO (RY (W.item (j+1) s _ _ hlt hst fun v h' tk hP hst' hk'=>?_));have hS':=hk' S _ hSw hS;show Ou _ A.in1 (tryCatch (holding [v,v] (V8 .Gt v vb >>= _)) _ >>= _) _ _ _;refine NO (RY (Pw (NO (hcmp (j+1) (Tr bt j) v vb _ _ _ hP hPb ?_))));refine NO (Pw (P5 ?_));refine NO (Ts (Oh ?_));cases hb:bt (j+1) (Tr bt j) with
  | true =>
   simp only [if_true];refine NO ?_;refine UA hS' rfl (NO (Ts ?_));rw [hname]
   refine Oh ⟨QP Ql _,ih (j+1) _ v _ (by lia) hlt (W.frame _ _ _ hst' fun b hbf o e=>?_) (by simp only [Tr,hb,if_true]; exact hP) (Sb _ hS' rfl)
    fun v' h'' tk'' hP' hk''=>?_⟩
   ·exact (Po _ _ (fun h:S=b=>hSf (by rw [h]; exact hbf))).trans e
   ·exact hR v' h'' tk'' hP' fun b o hbw hbS e=>hk'' b o hbw hbS ((Po _ _ (P9 hbS)).trans (hk' b o hbw e))
  | false =>simp only [PY,if_false];refine NO (Ts ?_);rw [hname];refine Oh ⟨QP Ql _,ih (j+1) _ vb c (by lia) hlt hst' (by simp only [Tr,hb,PY,if_false]; exact hPb) hS' fun v' h'' tk'' hP' hk''=>?_⟩;exact hR v' h'' tk'' hP' fun b o hbw hbS e=>hk'' b o hbw hbS (hk' b o hbw e)
theorem zT (W:Walks prog w A.in1 I fp wr n P St) (bt:Nat→Nat→Bool) (hcmp:CmpOf prog w A.in1 .Gt P bt) (S:NP) (hSf:S∉fp) (hn:0<n) {s:NS} {c:Nat} (hst:St 0 s.heap)
 (hS:s.heap.get? S=some { cls:=.type "list", dict:=none,data:=.seq #[] c,slots:=#[] })
 (hR:∀ v h' tk,P (Tr bt (n-1)) v→(∀ b o,b∉wr→b≠S→s.heap.get? b=some o→h'.get? b=some o)→R (.ok (.ret v)) { s with heap:=h',toks:=tk }) :
 SN ‹10› A (.builtin "max.loop" ⟨[.ref I,.none,.ref S],kw⟩) R s:=by
 have hSw:S∉wr:=fun h=>hSf (W.sub _ h);have hname:(toString "max" ++ toString ".loop" : String) = "max.loop" := by decide
 refine Qu Sf ?_;rw [PX Ql _];show Ou _ A.in1 (V1 (.ref S) >>= _) _ _ s;refine NO (S8 hS rfl ?_);show Ou _ A.in1 (tryCatch (Vr (.ref I)) _ >>= _) _ _ s;refine NO (RY (W.item 0 s _ _ hn hst fun v h' tk hP hst' hk'=>?_));have hS':=hk' S _ hSw hS;show Ou _ A.in1 (updateSeq S (fun _=>#[v,v]) >>= _) _ _ _;refine NO ?_;refine UA hS' rfl ?_;rw [hname];refine Oh ⟨QP Ql _,CP W bt hcmp S hSf _ 0 _ v _ rfl hn (W.frame _ _ _ hst' fun b hbf o e=>?_) hP (Sb _ hS' rfl) fun v' h'' tk'' hP' hk''=>?_⟩
 ·exact (Po _ _ (fun h:S=b=>hSf (by rw [h]; exact hbf))).trans e
 ·exact hR v' h'' tk'' hP' fun b o hbw hbS e=>hk'' b o hbw hbS ((Po _ _ (P9 hbS)).trans (hk' b o hbw e))
theorem maxD_empty (W:Walks prog w A.in1 I fp wr n P St) (S:NP) (hSf:S∉fp) (hn:n=0) {s:NS} {c:Nat} {d:NN} (hst:St 0 s.heap)
 (hS:s.heap.get? S=some { cls:=.type "list", dict:=none,data:=.seq #[] c,slots:=#[] })
 (hR:∀ h' tk,(∀ b o,b∉wr→s.heap.get? b=some o→h'.get? b=some o)→R (.ok (.ret d)) { s with heap:=h',toks:=tk }) :
 SN ‹10› A (.builtin "max.loop" ⟨[.ref I,.none,.ref S],[("default", d)]⟩) R s:=by
 have hSw:S∉wr:=fun h=>hSf (W.sub _ h);refine Qu Sf ?_;rw [PX Ql _];show Ou _ A.in1 (V1 (.ref S) >>= _) _ _ s;refine NO (S8 hS rfl ?_);show Ou _ A.in1 (tryCatch (Vr (.ref I)) _ >>= _) _ _ s;subst hn;refine NO (RY (W.done s _ _ hst fun h' tk hk'=>?_));show Ou _ A.in1 (rule _ >>= _) _ _ _;exact NO (Sg (Oh (hR h' tk hk')))
end
section
variable {prog:O4} {w:Pf} {A:O3} {E:NN→NS→Prop} {s:NS}
theorem Dz (a d:NN):Uk "max" ⟨[a],[("default", d)]⟩:=by unfold Uk; kernel_rfl
theorem lG {b:Ru} {args:List NN} {kw:List (OX×NN)} (hk:builtinKind id=none) (hp:plainId id=true)
 (hb:entryFor table id=some b) (ha:Uk id ⟨args,kw⟩)
 (hc:Ou ‹10› A.in1 (b ⟨args,kw⟩) (fun fin s'=>match fin with
  | .done f=>(match (Except.ok f:WS) with | .ok (.ret v)=>Q v s' | .ok _=>False | .error e=>E e s')
  | .again c'=>c'.quiet=true∧SN ‹10› A c' (fun r s'=>match r with | .ok (.ret v)=>Q v s' | .ok _=>False | .error e=>E e s') s') E s) :
 Ou ‹10› A (call (.builtin id) args kw) Q E s:=by
 refine Ws (codeAny_call_builtin hp hb ?_);simp only [checkBuiltinCall,hk];cases hsig:Manifest.signature? id with
 | none=>exact Oh hc
 | some sig =>simp only [Uk,hsig] at ha;have h2:Wz id sig ⟨args,kw⟩=pure ():=ha;show Ou _ A.in1 (Wz id sig ⟨args,kw⟩) _ _ s;rw [h2]; exact Oh hc
theorem sd {x d:NN}
 (h:Ou ‹10› A.in1 (pyIter x) (fun it s₂=>∃ I fp wr n P St bt,it=.ref I∧Walks prog w A.in1 I fp wr n P St∧St 0 s₂.heap∧(∀ b∈fp,b<s₂.heap.objs.size)∧CmpOf prog w A.in1 .Gt P bt ∧
  (0<n→∀ v h' tk,P (Tr bt (n-1)) v→(∀ b o,b∉wr→s₂.heap.get? b=some o→h'.get? b=some o)→Q v { s₂ with heap:=h',toks:=tk }) ∧
  (n=0→∀ h' tk,(∀ b o,b∉wr→s₂.heap.get? b=some o→h'.get? b=some o)→Q d { s₂ with heap:=h',toks:=tk })) E s) :
 Ou ‹10› A (call (.builtin "max") [x] [("default", d)]) Q E s:=by
 have hname:(toString "max" ++ toString ".loop" : String) = "max.loop" := by decide
 refine lG F.kind_max F.plain_max F.entry_max (Dz _ _) ?_;show Ou _ A.in1 (SQ "max" ["key", "default"] 0 ⟨[],[("default", d)]⟩ >>= _) _ _ s;refine NO (wpAny_of_eq (show SQ "max" ["key", "default"] 0 ⟨[],[("default", d)]⟩=pure [none,some d] from by with_unfolding_all rfl) ?_);refine NO (Oh ?_);refine NO (Px h (fun it s₂ h₂=>?_) fun _ _ e=>e);obtain ⟨I,fp,wr,n,P,St,bt,rfl,W,hst,hfp,hcmp,hQ1,hQ0⟩:=h₂;refine NO (QL ?_);have hSf:s₂.heap.objs.size∉fp:=fun hm=>Pe _ (hfp _ hm);rw [hname];refine Oh ⟨QP Ql _,?_⟩;have hst':St 0 (s₂.heap.push { cls:=.type "list", data:=.seq #[] }):=W.frame _ _ _ hst fun b _ o e=>NT _ e;rcases Nat.eq_zero_or_pos n with hn | hn
 ·exact maxD_empty W s₂.heap.objs.size hSf hn hst' (OK _ rfl) fun h' tk hk=>hQ0 hn h' tk fun b o hbw e=>hk b o hbw (NT _ e)
 ·exact zT W bt hcmp s₂.heap.objs.size hSf hn hst' (OK _ rfl) fun v h' tk hP hk=>hQ1 hn v h' tk hP fun b o hbw e=>hk b o hbw (OE (Ob e)) (NT _ e)
end
section
variable {X:Cx}
theorem Du (hc:X.calm=true):Aw X (.builtin "max") ["default"] (fun xs zs H Q=>∃ (p:NP) (ns:List Int) (d:V),xs=[.ref p]∧zs=[d]∧dQ X.K H p ‹43›∧(ns=[]→Q d H)∧∀ M,M∈ns→(∀ a,a∈ns→a≤M)→Q (.int M) H):=by
 intro pins s σ H xs zs us ws Q I r rz h;obtain ⟨p,ns,d,rfl,rfl,hq,q0,q1⟩:=h;obtain ⟨u,rfl,rx⟩:=vals1 r;obtain ⟨dv,rfl,rd⟩:=vals1 rz;cases rx;obtain ⟨its,r',pl,hz⟩:=I.list hq;have hi:=intsAre_of r';obtain ⟨ys,e⟩:=hi.allInts.items;have hns:ns=ys.toList.map (·.1):=by rw [← hi.numsOf,← TH,← e]
 have hl:=pl.isList;rw [e] at hl;refine sd (iter_intList hl fun s₂ e st hfp hlI=>?_);subst e;refine ⟨_,_,_,_,_,_,_,rfl,Walks.list (A:=X.A.in1) (I.ok.hd hc) _ p hlI (UU ys),st,hfp,CmpOf.ints_gt (Wy ys) (fun _ _=>UW),fun hn v h' tk hP hk=>?_,fun hn h' tk hk=>?_⟩
 ·obtain ⟨t,rfl⟩:=UW (by simpa [UU] using hP);have hsz:0<ys.size:=by simpa [UU] using hn
  obtain ⟨h1,h2⟩:=argBest_gt (Wy ys) (ys.size-1);refine ⟨.int _,H,I.kept (old_kept hk),⟨t,?_⟩,q1 (Wy ys (Tr (fun i j=>decide (Wy ys i > Wy ys j)) (ys.size-1))) ?_ fun a ha=>?_⟩
  ·simp [UU]
  ·rw [hns,UY]; exact UZ (by rw [NH,N3]; lia)
  ·show 3
 ·have hz':ys.size=0:=by simpa [UU] using hn
  have hn':ns=[]:=by rw [hns]; exact Sr (by rw [NH,N3]; exact hz')
  exact ⟨d,H,I.kept (old_kept hk),rd,q0 hn'⟩
end
section
variable {X:Cx}
theorem dR {i:Int} (hg:Gl X x) (hm:∃ t,X.mg x=some (.int i t)) (hd:‹39›=false:=by decide):PE X (.Name x pos) (tC (.int i)):=by obtain ⟨t,e⟩:=hm;exact GS hg e ⟨t,rfl⟩ hd
end
theorem cN:Pr "len" = some (.builtin "len"):=by decide +kernel
theorem mI:Pr "max" = some (.builtin "max"):=by decide +kernel
theorem Ao:Pr "min" = some (.builtin "min"):=by decide +kernel
theorem se:Pr "sum" = some (.builtin "sum"):=by decide +kernel
theorem cC:Pr "isinstance" = some (.builtin "isinstance"):=by decide +kernel
theorem uu:Pr "sorted" = some (.builtin "sorted"):=by decide +kernel
theorem Kv:Pr "all" = some (.builtin "all"):=by decide +kernel
theorem we:Pr "int" = some (.type "int"):=by decide +kernel
theorem Hv:Pr "bool" = some (.type "bool"):=by decide +kernel
theorem fe:Pr "list" = some (.type "list"):=by decide +kernel
theorem wg:Pr "enumerate" = some (.type "enumerate"):=by decide +kernel
variable {a:NP}
theorem bO {o:HO} (h:H a=none):aW H (upd H a o):=fun b u e=>by rw [aG (bA e h)];exact e
theorem Paired.mono {α β:Type} {F G:α→β→Prop}:∀ {as:List α} {bs:List β},PU F as bs→(∀ a b,a∈as→F a b→G a b)→PU G as bs
 | _,_,.nil,_=>.nil
 | _,_,.cons r t,h=>.cons (h _ _ NJ r) (Paired.mono t fun a b m=>h a b (NI _ m))
theorem Paired.append {α β:Type} {F:α→β→Prop}:∀ {as cs:List α} {bs ds:List β},PU F as bs→PU F cs ds→PU F (as++cs) (bs++ds)
 | _,_,_,_,.nil,s=>s
 | _,_,_,_,.cons r t,s=>.cons r (Paired.append t s)
theorem Paired.take {α β:Type} {F:α→β→Prop}:∀ (n:Nat) {as:List α} {bs:List β},PU F as bs→PU F (as.take n) (bs.take n)
 | 0,_,_,_=>.nil
 | _+1,_,_,.nil=>.nil
 | n+1,_,_,.cons r t=>.cons r (Paired.take n t)
theorem Paired.drop {α β:Type} {F:α→β→Prop}:∀ (n:Nat) {as:List α} {bs:List β},PU F as bs→PU F (as.drop n) (bs.drop n)
 | 0,_,_,h=>h
 | _+1,_,_,.nil=>.nil
 | n+1,_,_,.cons _ t=>Paired.drop n t
section
variable {X:Cx} {K:NK}
theorem xb (h:X.K=K):MT X (Jh K):=by subst h; exact Gx
theorem rj (h:X.K=K):o6 X (Qa .In) (Lr K false):=by subst h; exact CJ
theorem lM (h:X.K=K):o6 X (Qa .NotIn) (Lr K true):=by subst h; exact vz
theorem dS (h:X.K=K):de X (.type "list") (fun xs H Q=>∃ p ys,xs=[.ref p]∧(dQ K H p ys∨FU K H p ys)∧∀ l,H l=none→Q (.ref l) (upd H l (.lst ys))):=by subst h; exact wd
theorem eI (h:X.K=K):de X (.builtin "isinstance") (fun xs H Q=>∃ x n t b,xs=[x,.ty n]∧lH K H x t∧Rl K t (.type n)=some b∧Q (.bl b) H):=by subst h; exact FO
theorem bq {a:Pt} {ta:TE} (h:X.K=K) (ha:PE X a ta) (he:∀ whole,Ua a X.env whole=(do let v ← whole; Wm a.pos; holding [v] (truthy v))) :
 PT X a (fun σ H Q=>ta σ H fun x H'=>∃ k,DA K x H' k∧Q k H'):=by subst h; exact EF ha he
end
noncomputable def Ma (K:NK) (a:NP):It :=
 ⟨fun i H=>∃ xs x,dQ K H a xs∧xs[i]?=some x,fun i H x H'=>∃ (t:NP) (v:V),x=.ref t∧H t=none∧(∀ xs,dQ K H a xs→xs[i]?=some v)∧H'=upd H t (.tup [.int i,v]),fun i H=>∃ xs,dQ K H a xs∧xs.length≤i⟩
variable {P:O4} {elts:List Pt} {t:NP} {items:Array NN} {env:V5} {o:Option V} {y:V} {u:NN}
theorem B5 {w:Pf} {K:NK} {x1} (a e it:NP) (hne:e≠it) :
 Turn P w K (.Tuple elts x1 pos) (Ma K a) [e,it] e (fun i h=>(∃ old,IsEnum h e it (i:Nat) old)∧h.IsListIter it a i) where
 mem:=by simp
 obj:=fun i h st b hb=>by
  obtain ⟨⟨old,he⟩,hit⟩:=st;have hb':b=e∨b=it:=by simpa using hb
  rcases hb' with rfl | rfl
  ·exact ⟨_,he,fun v z=>by have z':Data.fields _=Data.cell v:=z;cases z'⟩
  ·obtain ⟨o,ho,c,d⟩:=hit;exact ⟨o,ho,fun v z=>by rw [d] at z; cases z⟩
 keep:=fun i h h' st k=>by obtain ⟨⟨old,he⟩,hit⟩:=st;exact ⟨⟨old,k e (by simp) _ he⟩,hit.at fun o e=>k it (by simp) o e⟩
 item:=by
  intro X hP hw hK hc i pins s σ H E I hf st hg;subst hP hw hK;obtain ⟨⟨old,he⟩,hit⟩:=st;obtain ⟨xs,x,hq,hx⟩:=hg;obtain ⟨its,rv,p,hz⟩:=I.list hq;obtain ⟨u,hu,ru⟩:=rv.get hx;obtain ⟨f0,f1,f2,f3,f4,f5⟩:=hf e (by simp);obtain ⟨g0,g1,g2,g3,g4,g5⟩:=hf it (by simp);refine wpAny_pyNext_enum_item he hit p.isList (x:=u) (by simpa using hu) hne fun h₁ heo hit₁ ht₁ hz₁ hk₁=>⟨_,rfl,?_⟩
  refine wpAny_letOwnedTupleGo_enum heo fun h₂ he₂ hs₂=>?_;replace hs₂:SK e h₁ h₂:=hs₂;have hlt:e<s.heap.objs.size:=Ob he;have hilt:it<s.heap.objs.size:=by obtain ⟨o,ho,_⟩:=id hit; exact Ob ho
  have k₂:∀ b o,b∉[e,it]→s.heap.get? b=some o→h₂.get? b=some o:=fun b o hb q=>by have b1:b≠e:=fun z=>hb (by simp [z]);have b2:b≠it:=fun z=>hb (by simp [z]);exact hs₂.extBut b o b1 (hk₁ b o b1 b2 q)
  have nit:∀ b u',H b=some u'→b∉[e,it]:=fun b u' q z=>by
   have z':b=e∨b=it:=by simpa using z
   rcases z' with rfl | rfl
   ·rw [f0] at q; cases q
   ·rw [g0] at q; cases q
  have I1:Inv X pins σ H { s with heap:=h₂,toks:=s.toks+1 }:=by
   refine I.step (g':=s.gens) (d':=s.drawn) (ch:=[e,it]) (fun b hb=>?_) (fun b o _ _ hc' q _=>k₂ b o hc' q) (fun b o _ _ hc' q _=>⟨o.slots,k₂ b o hc' q⟩) (fun _ _ _ _ n=>n)
    (fun b o hc' q=>⟨o,k₂ b o hc' q⟩) (fun _ _ q=>q) (fun _ _ _ q=>q) (fun b ps q=>⟨#[],by rw [q]; simp⟩) (fun m hm=>?_) (fun b u' q=>?_) I.bare
   ·have z':b=e∨b=it:=by simpa using hb
    rcases z' with rfl | rfl
    ·exact ⟨f3,f1,f4,f5⟩
    ·exact ⟨g3,g1,g4,g5⟩
   ·obtain ⟨o,es,ep,ho,r⟩:=hm
    exact ⟨o,es,ep,k₂ _ o (fun z=>by
     have z':‹29›=e∨‹29›=it:=by simpa using z
     rcases z' with z' | z'
     ·exact f1 z'.symm
     ·exact g1 z'.symm) ho,r⟩
   ·refine (I.cG b u' q).sv (fun c v hc' q'=>k₂ c v ?_ q') (fun _ q'=>q') fun _ _ q'=>q';rcases hc' with z | z
    ·rw [z]; exact nit b u' q
    ·exact nit c _ z
  have nH:H ‹4›=none:=I.fresh;have tup₂:h₂.get? ‹4›=some { cls:=.type "tuple", data:=.seq #[.int i s.toks,u] }:=hs₂.extBut _ _ (QH hlt) ht₁
  have I2:Inv X pins σ (upd H ‹4› (.tup [.int i,x])) { s with heap:=h₂,toks:=s.toks+1 }:=by
   have ob:cn X.prog X.w (upd H ‹4› (.tup [.int i,x])) h₂ ‹4› (.tup [.int i,x]) :=
    ⟨by simp only [Oy,Pm]; rw [OA]; decide,[.int i s.toks,u],.cons ⟨_,rfl⟩ (.cons ru .nil),⟨_,tup₂,rfl,_,rfl⟩⟩
   have hk:mK X.prog X.w (upd H ‹4› (.tup [.int i,x])) h₂:=fun b u' q=>by
    by_cases hb:b=‹4›
    ·subst hb; rw [aN] at q; cases q; exact ob
    ·rw [aG hb] at q;exact (I1.cG b u' q).sv (fun c v _ q'=>q') (fun c q'=>by rw [aG (bA q' nH)]; exact q') fun c xs' q'=>by rw [aG (bA q' nH)]; exact q'
   refine I.step (g':=s.gens) (d':=s.drawn) (ch:=[e,it]) (fun b hb=>?_) (fun b o _ _ hc' q _=>k₂ b o hc' q) (fun b o _ _ hc' q _=>⟨o.slots,k₂ b o hc' q⟩) (fun b o _ q n=>by rw [aG (OE (Ob q))]; exact n)
    (fun b o hc' q=>⟨o,k₂ b o hc' q⟩) (fun b xs' q=>by rw [aG (bA q nH)]; exact q) (fun b o u' q=>by rw [aG (bA q nH)]; exact q) (fun b ps q=>⟨#[],by rw [aG (bA q nH),q]; simp⟩) (fun m hm=>?_) hk I.bare
   ·have z':b=e∨b=it:=by simpa using hb
    rcases z' with rfl | rfl
    ·exact ⟨f3,f1,f4,f5⟩
    ·exact ⟨g3,g1,g4,g5⟩
   ·obtain ⟨o,es,ep,ho,r⟩:=hm
    exact ⟨o,es,ep,k₂ _ o (fun z=>by
     have z':‹29›=e∨‹29›=it:=by simpa using z
     rcases z' with z' | z'
     ·exact f1 z'.symm
     ·exact g1 z'.symm) ho,r⟩
  refine ⟨.ref ‹4›,_,I2,rfl,⟨_,x,rfl,nH,fun ys hy=>by rw [I.xZ hy hq]; exact hx,rfl⟩,⟨⟨u,?_⟩,hit₁.extBut hs₂.extBut (P9 hne)⟩,fun b hb=>?_⟩
  ·have e1:((i+1:Nat):Int)=(i:Int)+1:=by push_cast; rfl
   rw [e1];exact he₂
  ·have z':b=e∨b=it:=by simpa using hb
   rcases z' with rfl | rfl
   ·rw [aG (OE hlt)]; exact f0
   ·rw [aG (OE hilt)]; exact g0
 done:=by intro X hP hw hK hc i pins s σ H E I hf st hg;subst hP hw hK;obtain ⟨⟨old,he⟩,hit⟩:=st;obtain ⟨xs,hq,hx⟩:=hg;obtain ⟨its,rv,p,hz⟩:=I.list hq;obtain ⟨g0,g1,g2,g3,g4,g5⟩:=hf it (by simp);have hl:=rv.length;exact wpAny_pyNext_enum_end (I.ok.hd hc) he hit p.isList (by simp; lia) fun h' eb=>⟨rfl,I.turned (t':=s.toks) (fun b o hb e=>eb b o hb e) g0 g1 g3 g4 g5⟩
 self:=fun _ _ _ _ _ st h=>by obtain ⟨⟨old,he⟩,_⟩:=st;exact wpAny_pyIter_enum he h
section
variable {X:Cx}
def BA (K:NK) (tl:TE):TI:=fun σ H R=>tl σ H fun x H1=>∃ a,x=.ref a∧(∃ xs,dQ K H1 a xs)∧R (Ma K a) H1
theorem GP {l:Pt} {tl:TE} {x1} {tpos p:SY} (hg:Gl X "enumerate") (hm:X.mg "enumerate" = none) (hl:PE X l tl) (hs:Pn [l] X.env=[(false,eval l X.env)]:=by rfl):PI X (.Tuple elts x1 tpos) (.Call (.Name "enumerate" p) [l] [] pos) (BA X.K tl):=by
 intro pins s σ H R I h;have ha:PA X [l] (cx tl ft):=aa hl ag hs;refine Call_ (km I hg hm wg (Qw (cB (ha pos pins s σ H (fun vs H1=>match vs with | [x]=>∃ a,x=.ref a∧(∃ xs,dQ X.K H1 a xs)∧R (Ma X.K a) H1 | _=>False) I h) fun us s1 ⟨vs,H1,I1,r1,q1⟩=>?_) hs rfl))
 ·match vs,r1,q1 with
  | [x],r1,q1 =>
  obtain ⟨a,rfl,⟨xs,hq⟩,q⟩:=q1;obtain ⟨u,rfl,ru⟩:=vals1 r1;cases ru;obtain ⟨its,rv,pl,hz⟩:=I1.list hq;refine call_enumerate_list pl.isList fun h' he hit hz' hk=>?_;refine wpAny_pyIter_enum he ?_;have I2:Inv X pins σ H1 { s1 with heap:=h' }:=I1.kept (t':=s1.toks) hk;refine ⟨s1.heap.objs.size+1,[s1.heap.objs.size+1,s1.heap.objs.size],_,_,H1,rfl,I2,B5 a _ _ (Nat.succ_ne_self _),⟨⟨_,he⟩,hit⟩,fun b hb=>?_,q⟩;have z':b=s1.heap.objs.size+1∨b=s1.heap.objs.size:=by simpa using hb
  rcases z' with rfl | rfl
  ·exact I1.Hf (Tt _) (I1.cG.fresh (Tt _))
  ·exact I1.Hf (N9 _) (I1.cG.fresh (N9 _))
end
section
variable {prog:O4} {w:Pf} {A:O3} {E:NN→NS→Prop}
theorem ui {it t:NP} {items:Array NN} (hne:t≠it):∀ (n i:Nat) (s:NS) (Q:List NN→NS→Prop),s.heap.IsListIter it t i→s.heap.IsList t items→i+n≤items.size →
 (∀ h',h'.IsListIter it t (i+n)→SK it s.heap h'→Q ((items.toList.drop i).take n) { s with heap:=h' })→Ou ‹10› A (draw (.ref it) n) Q E s
 | 0,i,s,Q,hit,_,_,hQ=>by show Ou _ _ (pure []) Q E s;exact Oh (by simpa using hQ s.heap hit (Heap.SameBut.refl ..))
 | n+1,i,s,Q,hit,ht,hle,hQ=>by
  have hlt:i<items.size:=by lia
  show Ou _ _ (Vr (.ref it) >>= _) Q E s;refine NO (Ub hit ht (x:=items[i]) (by simp [hlt]) fun h₁ hit₁ hs₁=>?_);refine NO (Pw (ui hne n (i+1) _ _ hit₁ (ht.extBut hs₁.extBut hne) (by lia) fun h₂ hit₂ hs₂=>Oh ?_));have hd:items.toList.drop i=items[i]::items.toList.drop (i+1):=by simp [OB,hlt]
  have:=hQ h₂ (by rw [show i+(n+1)=i+1+n by lia]; exact hit₂) (hs₁.trans hs₂);rw [hd,List.take_succ_cons] at this;exact this
theorem oi {s:NS} {Q:List NN→NS→Prop} (hh:A.handled=none) (ht:s.heap.IsList t items)
 (hQ:∀ h',Heap.ExtBut ‹4› s.heap h'→Q items.toList { s with heap:=h' }):Ou ‹10› A (unpackItems (.ref t) items.size none) Q E s:=by
 have hlt:t≠s.heap.objs.size:=by obtain ⟨o,ho,_⟩:=ht; exact OE (Ob ho)
 unfold unpackItems;refine NO ?_
 ·unfold notIterableAtAll;refine NO (wpAny_specialOf ht.typeIs F.slot_list_iter.lookup ?_);refine Oh ?_;simp only [PY,if_false];refine NO (Pw (To ht ?_));refine NO (Pw (ui hlt items.size 0 _ _ ⟨_,OK _ rfl,rfl,rfl⟩ (ht.push _) (by lia) fun h₁ hit₁ hs₁=>?_));have hall:List.take items.size (List.drop 0 items.toList)=items.toList:=by rw [RZ]; exact Pz (by simp)
  rw [hall];rw [if_neg (by simp)];have ht₁:h₁.IsList t items:=(ht.push _).extBut hs₁.extBut hlt;refine NO (Pw (UJ hh hit₁ ht₁ (by simp) fun h₂ he₂=>?_));simp only [Option.isSome_none,PY,if_false];refine Oh (hQ h₂ fun b o hb e=>he₂ b o hb (hs₁.extBut b o hb (NT _ e)))
theorem nA {s:NS} {x1} {pos:SY} {Q:Unit→NS→Prop} (hh:A.handled=none) (ht:s.heap.IsList t items)
 (hn:(Qe elts env).length=items.size) (hstar:(Qe elts env).findIdx? (·.1)=none)
 (h:∀ h',Heap.ExtBut ‹4› s.heap h'→Ou ‹10› A (assignInOrder ((Qe elts env).map (·.2)) items.toList) Q E { s with heap:=h' }) :
 Ou ‹10› A (assign (.Tuple elts x1 pos) env (.ref t)) Q E s:=by
 rw [arm_assign_Tuple];refine NO (RB ?_);unfold unpack;rw [hn,hstar];exact NO (Pw (oi hh ht h))
end
section
variable {X:Cx} {pos:SY}
def LI (K:NK) (n:Nat) (t:wA):TG:=fun v σ H Q=>∃ a xs,v=.ref a∧dQ K H a xs∧xs.length=n∧t xs σ H Q
theorem Jr {k:Nat} {t:wA} {n:Nat} (hc:X.calm=true) (h:KG X es t)
 (hn:(Qe es X.env).length=n:=by rfl) (hst:(Qe es X.env).findIdx? (·.1)=none:=by rfl):PG X (.Tuple es k pos) (LI X.K n t):=by
 intro pins s σ H v u Q I r hw;obtain ⟨a,xs,e1,hq,hl,hw⟩:=hw;subst e1;cases r;obtain ⟨its,rv,ht,hz⟩:=I.list hq;refine nA (I.ok.hd hc) ht.isList (by simp [hn,← hl,rv.length]) hst fun h' hx=>?_;have I1:Inv X pins σ H { s with heap:=h' }:=I.kept (t':=s.toks) fun b o e=>hx b o (OE (Ob e)) e;exact h pins _ σ H xs _ Q I1 (by simpa using rv) hw
end
section
variable {κ:Type} [DecidableEq κ]
def n9 (kvs:List (κ×V)) (k:κ):Option V:=(kvs.find? fun kv=>decide (kv.1=k)).map (·.2)
def putK (kvs:List (κ×V)) (k:κ) (v:V):List (κ×V) :=
 if (kvs.any fun kv=>decide (kv.1=k))=true then kvs.map (fun kv=>if kv.1=k then (kv.1,v) else kv) else kvs++[(k,v)]
theorem jV {p:κ×V} {r:List (κ×V)} {k:κ} (e:p.1=k):n9 (p::r) k=some p.2:=by simp [n9,P1,e]
theorem jW {p:κ×V} {r:List (κ×V)} {k:κ} (e:¬ p.1=k):n9 (p::r) k=n9 r k:=by simp [n9,P1,e]
theorem wH (k:κ):∀ kvs:List (κ×V),(kvs.any fun kv=>decide (kv.1=k))=(n9 kvs k).isSome
 | []=>rfl
 | p::r=>by
  rw [Rf];by_cases e:p.1=k
  ·simp only [jV e,decide_eq_true e,Bool.true_or,Vv]
  ·rw [jW e,decide_eq_false e,Bool.false_or]; exact wH k r
theorem pD (kvs:List (κ×V)) (k:κ) (v:V):(putK kvs k v).length≤kvs.length+1:=by
 unfold putK;split
 ·rw [NH]; lia
 ·rw [N7,Oy,Pm]; lia
theorem si.iQ {u:Option NN} (r:si o u):o.isSome=u.isSome:=by
 cases o with
 | none=>cases u with
  | none=>rfl
  | some _=>exact (show False from r).elim
 | some _=>cases u with
  | none=>exact (show False from r).elim
  | some _=>rfl
theorem KV.val {kvs:List (κ×V)} {vs:List (κ×NN)} (r:KV kvs vs) (k:κ):si (n9 kvs k) (Ve vs k):=by
 unfold KV at r;induction r with
 | nil=>exact Rm
 | @cons p q ps qs h t ih =>
  obtain ⟨h1,h2⟩:=h;by_cases e:p.1=k
  ·have e':q.1=k:=h1.symm.trans e;have b:Ve (q::qs) k=some q.2:=by simp [Ve,P1,e']
   rw [jV e,b]; exact h2
  ·have e':¬ q.1=k:=fun z=>e (h1.trans z);have b:Ve (q::qs) k=Ve qs k:=by simp [Ve,P1,e']
   rw [jW e,b]; exact ih
theorem KV.any {kvs:List (κ×V)} {vs:List (κ×NN)} (r:KV kvs vs) (k:κ):(kvs.any fun kv=>decide (kv.1=k))=vs.any fun kv=>decide (kv.1=k):=by
 unfold KV at r;induction r with
 | nil=>rfl
 | cons h t ih=>rw [Rf,Rf,ih,h.1]
theorem KV.Je {kvs:List (κ×V)} {vs:List (κ×NN)} (r:KV kvs vs) (k:κ) (ry:RelV y u) :
 KV (kvs.map fun kv=>if kv.1=k then (kv.1,y) else kv) (vs.map fun kv=>if kv.1=k then (kv.1,u) else kv):=by
 unfold KV at r ⊢;induction r with
 | nil=>exact .nil
 | @cons p q ps qs h t ih =>
  rw [Oq,Oq];refine .cons ?_ ih;obtain ⟨h1,h2⟩:=h;by_cases e:p.1=k
  ·rw [if_pos e,if_pos (h1.symm.trans e)]; exact ⟨h1,ry⟩
  ·rw [if_neg e,if_neg (fun z=>e (h1.trans z))]; exact ⟨h1,h2⟩
theorem KV.put {kvs:List (κ×V)} {vs:List (κ×NN)} (r:KV kvs vs) (k:κ) (ry:RelV y u):KV (putK kvs k y) (stored vs k u):=by
 unfold putK stored;rw [r.any k];by_cases e:(vs.any fun kv=>decide (kv.1=k))=true
 ·rw [if_pos e,if_pos e]; exact r.Je k ry
 ·rw [if_neg e,if_neg e]; exact WX r ⟨rfl,ry⟩
theorem KV.length {kvs:List (κ×V)} {vs:List (κ×NN)} (r:KV kvs vs):kvs.length=vs.length:=Qd r
end
theorem x9 {w:Pf} {k:Key} (r:RelV (kV k) u):(dq P w).is k u=true:=by
 cases k with
 | inl i=>obtain ⟨t,e⟩:=(show ∃ t,u=VU i t from r); subst e; exact xT P w i t
 | inr x=>obtain ⟨t,e⟩:=(show ∃ t,u=VV x t from r); subst e; exact xS P w x t
theorem ud {P:O4} {w:Pf}:∀ {ks:List Key} {us:List NN},Vals (ks.map kV) us→ItemsAre (dq P w) ks us
 | [],_,r=>by rw [QI] at r; cases r; exact .nil
 | k::ks,_,r=>by
  rw [Oq] at r;cases r with
  | cons h t=>exact .cons (x9 h) (ud t)
abbrev KT (H:Hp):List (List Key×V)→List (List Key×NP×NN)→Prop:=PU fun p q=>p.1=q.1∧H q.2.1=some (.tup (p.1.map kV))∧RelV p.2 q.2.2
variable {kvs:List (List Key×V)} {xs:List (List Key×NP×NN)}
theorem KT.val (r:KT H kvs xs) (k:List Key):si (n9 kvs k) ((V9 xs k).map (·.2)):=by
 induction r with
 | nil=>exact Rm
 | @cons p q ps qs h t ih =>
  obtain ⟨h1,_,h2⟩:=h;by_cases e:p.1=k
  ·have e':q.1=k:=h1.symm.trans e;have b:V9 (q::qs) k=some q.2:=by simp [V9,P1,e']
   rw [jV e,b]; exact h2
  ·have e':¬ q.1=k:=fun z=>e (h1.trans z);have b:V9 (q::qs) k=V9 qs k:=by simp [V9,P1,e']
   rw [jW e,b]; exact ih
theorem KT.Je (r:KT H kvs xs) (k:List Key) (ry:RelV y u) :
 KT H (kvs.map fun kv=>if kv.1=k then (kv.1,y) else kv) (xs.map (putAt k u)):=by
 induction r with
 | nil=>exact .nil
 | @cons p q ps qs h t ih =>
  rw [Oq,Oq];refine .cons ?_ ih;obtain ⟨h1,h2,h3⟩:=h;unfold putAt;by_cases e:p.1=k
  ·rw [if_pos e,if_pos (h1.symm.trans e)]; exact ⟨h1,h2,ry⟩
  ·rw [if_neg e,if_neg (fun z=>e (h1.trans z))]; exact ⟨h1,h2,h3⟩
theorem KT.put (r:KT H kvs xs) (k:List Key) {b:NP} (hb:H b=some (.tup (k.map kV))) (ry:RelV y u) :
 KT H (putK kvs k y) (storedH xs k b u):=by
 have e:(kvs.any fun kv=>decide (kv.1=k))=(V9 xs k).isSome:=by rw [wH,(r.val k).iQ,Tu]
 unfold putK storedH;rw [e];by_cases q:(V9 xs k).isSome=true
 ·rw [if_pos q,if_pos q]; exact r.Je k ry
 ·rw [if_neg q,if_neg q]; exact WX r ⟨rfl,hb,ry⟩
theorem KT.keeps (r:KT H kvs xs) (ht:∀ b ys,H b=some (.tup ys)→H' b=some (.tup ys)):KT H' kvs xs :=
 Paired.JE r fun _ _ z=>⟨z.1,ht _ _ z.2.1,z.2.2⟩
section
variable {P:O4} {w:Pf} {H:Hp} {h:PM} {a:NP}
theorem HZ {u:HO} (ok:mK P w H h) (e:Rd H a u):cn P w H h a u:=e.ok ok
theorem ym {kvs:List (Key×V)} (ok:mK P w H h) (e:Rd H a (.dK kvs)):kvs.length≤NM∧(a==Q4)=false∧∃ vs,KV kvs vs∧h.DictOf (dq P w) a vs :=
 show cn P w H h a (.dK kvs) from HZ ok e
theorem LK {kvs:List (Key×V)} (ok:mK P w H h) (e:H a=some (.dK kvs)):kvs.length≤NM∧(a==Q4)=false∧∃ vs,KV kvs vs∧h.DictOf (dq P w) a vs:=ym ok (.inl e)
theorem rG {ks:List Key} (ok:mK P w H h) (e:H a=some (.tup (ks.map kV))):(Vc (dq P w)).is h ks a:=by
 obtain ⟨_,its,r,o,h1,h2,n,h3⟩:=(show cn P w H h a (.tup (ks.map kV)) from ok a _ e)
 exact ⟨o,its.toArray,n,h1,h2,h3,by simpa using ud r⟩
theorem yk (ok:mK P w H h) (e:Rd H a (.dT kvs)):kvs.length≤NM∧(a==Q4)=false ∧
 ∃ xs,KT H kvs xs∧h.DictOfH (Vc (dq P w)) a xs:=by
 obtain ⟨z,y,xs,r,o,es,ep,h1,h2,h3,h4,h5⟩:=(show cn P w H h a (.dT kvs) from HZ ok e)
 refine ⟨z,y,xs,r,o,es,ep,h1,h2,h3,h4,fun x hx=>?_,h5⟩
 have all:∀ {l:List (List Key×V)} {m:List (List Key×NP×NN)},KT H l m→∀ x∈m,(Vc (dq P w)).is h x.1 x.2.1:=by
  intro l m q;induction q with
  | nil=>intro x hx; exact nomatch hx
  | @cons p q ps qs hq t ih =>
   intro x hx;rcases NU.mp hx with e | hx
   ·subst e;exact rG ok (by rw [← hq.1]; exact hq.2.1)
   ·exact ih x hx
 exact all r x hx
theorem LJ (ok:mK P w H h) (e:H a=some (.dT kvs)):kvs.length≤NM∧(a==Q4)=false ∧
 ∃ xs,KT H kvs xs∧h.DictOfH (Vc (dq P w)) a xs:=yk ok (.inl e)
end
def o7 (H:Hp) (a:NP) (y:V) (r:Option V):Prop :=
 (∃ kvs k,Rd H a (.dK kvs)∧y=kV k∧r=n9 kvs k)∨∃ kvs k b,Rd H a (.dT kvs)∧y=.ref b∧H b=some (.tup (k.map kV))∧r=n9 kvs k
noncomputable def Av (H:Hp) (a:NP) (y v:V) (H':Hp):Prop :=
 (∃ kvs k,H a=some (.dK kvs)∧y=kV k∧kvs.length<NM∧H'=upd H a (.dK (putK kvs k v))) ∨
 ∃ kvs k b,H a=some (.dT kvs)∧y=.ref b∧H b=some (.tup (k.map kV))∧kvs.length<NM∧H'=upd H a (.dT (putK kvs k v))
theorem o7.k {H:Hp} {a:NP} {kvs:List (Key×V)} {k:Key} (e:H a=some (.dK kvs)):o7 H a (kV k) (n9 kvs k):=.inl ⟨kvs,k,.inl e,rfl,rfl⟩
variable {h':PM}
theorem Av.k {H:Hp} {a:NP} {kvs:List (Key×V)} {k:Key} {v:V} (e:H a=some (.dK kvs)) (hl:kvs.length<NM):Av H a (kV k) v (upd H a (.dK (putK kvs k v))):=.inl ⟨kvs,k,e,rfl,hl,rfl⟩
section
variable {X:Cx} {pins:List (NP×Qz)} {σ:St} {H:Hp} {s:NS} {a:NP} {y v:V} {u r:NN} {o:Option V} {A:O3} {E:NN→NS→Prop}
theorem Inv.big (I:Inv X pins σ H s):Q4<s.heap.objs.size:=by have h:OU<s.heap.objs.size:=(I.mod.glob.keeps I.bk).lt;exact VH ‹11› h
theorem Di (hu:A.units+1<RT) (I:Inv X pins σ H s) (g:o7 H a y (some v)) (ry:RelV y u) (h:∀ w' s',Inv X pins σ H s'→RelV v w'→Q w' s') :
 Ou ‹3› A (Tn (.ref a) u) Q E s:=by
 rcases g with ⟨kvs,k,e,ey,l⟩ | ⟨kvs,k,b,e,ey,eb,l⟩
 ·subst ey;obtain ⟨z,hd,vs,rel,dd⟩:=ym I.cG e;obtain ⟨w',hw,rw'⟩:=si.some_of (v:=v) (o:=Ve vs k) (by rw [l]; exact rel.val k);exact wpAny_getItem_of (x9 ry) dd.mapOf hw (h w' _ (I.tok _) rw')
 ·subst ey;cases (show u=O2 b from ry);obtain ⟨z,hd,xs,rel,dd⟩:=yk I.cG e;obtain ⟨w',hw,rw'⟩:=si.some_of (v:=v) (o:=(V9 xs k).map (·.2)) (by rw [l]; exact rel.val k);obtain ⟨p,hp,jI⟩:=OH.mp hw;refine wpAny_getItem_heap (RO hu) (rG I.cG eb) dd hp ?_;rw [jI];exact h w' _ (I.tok _) rw'
theorem MP (hu:A.units+1<RT) (I:Inv X pins σ H s) (g:o7 H a y o) (ry:RelV y u) (h:∀ s',Inv X pins σ H s'→Q (.bool o.isSome) s') :
 Ou ‹3› A (Qa .In u (.ref a)) Q E s:=by
 rcases g with ⟨kvs,k,e,ey,l⟩ | ⟨kvs,k,b,e,ey,eb,l⟩
 ·subst ey;obtain ⟨z,hd,vs,rel,dd⟩:=ym I.cG e;refine wpAny_in_of (x9 ry) hd dd.mapOf ?_;rw [← (rel.val k).iQ,← l];exact h _ (I.tok _)
 ·subst ey;cases (show u=O2 b from ry);obtain ⟨z,hd,xs,rel,dd⟩:=yk I.cG e;refine wpAny_in_heap (RO hu) (rG I.cG eb) hd dd ?_;have q:=(rel.val k).iQ;rw [Tu] at q;rw [← q,← l];exact h _ (I.tok _)
theorem Hq (hu:A.units+1<RT) (I:Inv X pins σ H s) (g:o7 H a y o) (ry:RelV y u) (h:∀ s',Inv X pins σ H s'→Q (.bool (!o.isSome)) s') :
 Ou ‹3› A (Qa .NotIn u (.ref a)) Q E s:=by
 rcases g with ⟨kvs,k,e,ey,l⟩ | ⟨kvs,k,b,e,ey,eb,l⟩
 ·subst ey;obtain ⟨z,hd,vs,rel,dd⟩:=ym I.cG e;refine wpAny_notIn_of (x9 ry) hd dd.mapOf ?_;rw [← (rel.val k).iQ,← l];exact h _ (I.tok _)
 ·subst ey;cases (show u=O2 b from ry);obtain ⟨z,hd,xs,rel,dd⟩:=yk I.cG e;refine wpAny_notIn_heap (RO hu) (rG I.cG eb) hd dd ?_;have q:=(rel.val k).iQ;rw [Tu] at q;rw [← q,← l];exact h _ (I.tok _)
theorem BM {t':Nat} {ob:HO} (I:Inv X pins σ H s) (mu:LP (H a)) (hs:SK a s.heap h') (he:∃ q,h'.get? a=some q) (new:cn X.prog X.w (upd H a ob) h' a ob) :
 Inv X pins σ (upd H a ob) { s with heap:=h',toks:=t' } :=
 I.write (x:=a) (e:=a) mu (.inl rfl) (fun b q hb z=>(hs.2 b hb).trans z) he new
theorem Ko {w:Pf} {kvs:List (Key×V)} {vs:List (Key×NN)} (z:kvs.length≤NM) (hd:(a==Q4)=false) (rel:KV kvs vs) (dd:h'.DictOf (dq P w) a vs) :
 cn P w H' h' a (.dK kvs):=⟨z,hd,vs,rel,dd⟩
theorem Dh {Q:Unit→NS→Prop} (hu:A.units+1<RT) (I:Inv X pins σ H s) (g:Av H a y v H') (ry:RelV y u) (rv:RelV v r) (h:∀ s',Inv X pins σ H' s'→Q () s') :
 Ou ‹3› A (setItem (.ref a) u r) Q E s:=by
 rcases g with ⟨kvs,k,e,ey,l,eH⟩ | ⟨kvs,k,b,e,ey,eb,l,eH⟩
 ·subst ey eH;obtain ⟨z,hd,vs,rel,dd⟩:=LK I.cG e;have hz:vs.length≤NM:=by rw [← rel.length]; exact z
  have hl:(putK kvs k v).length≤NM:=by have:=pD kvs k v; lia
  refine wpAny_setItem_pairs (hsz:=hz) (x9 ry) dd fun h' dd' hs=>h _ ?_;have he:∃ q,h'.get? a=some q:=let ⟨q,_,_,hq,_⟩:=dd'; ⟨q,hq⟩
  exact BM I (by rw [e]; exact Rm) hs he (Ko hl hd (rel.put k rv) dd')
 ·subst ey eH;cases (show u=O2 b from ry);obtain ⟨z,hd,xs,rel,dd⟩:=LJ I.cG e;have hz:xs.length≤NM:=by rw [← Qd rel]; exact z
  have hl:(putK kvs k v).length≤NM:=by have:=pD kvs k v; lia
  refine wpAny_setItem_heap (hsz:=hz) (RO hu) (rG I.cG eb) dd fun h' dd' hs=>h _ ?_;obtain ⟨q,es,ep,hq,h2,h3,h4,_,h5⟩:=dd';refine BM I (by rw [e]; exact Rm) hs ⟨q,hq⟩ ⟨hl,hd,_,(rel.put k eb rv).keeps fun c ys ec=>?_,q,es,ep,hq,h2,h3,h4,h5⟩;rw [aG (Lx ec e (fun z=>nomatch z))];exact ec
end
def LO (i:Pt):Prop:=∀ ov iv,US i false ov iv=operate [ov,iv] (Tn ov iv)
theorem Gq {prog:O4} {w:Pf} {E:NN→NS→Prop} {s:NS} {value slice:Pt} {T:String}
 (hl:typeLookup (.type T) "__getitem__" = pure (some (.builtin id))) (hs:LO slice)
 (h:Ou ‹10› A (eval value env) (fun o s₁=>Ou ‹10› A (eval slice env) (fun i s₂=>s₂.TypeIs o T∧Ou ‹10› A (Tn o i) Q E s₂) E s₁) E s) :
 Ou ‹10› A (eval (.Subscript value slice pos) env) Q E s:=by
 refine Ue (Px h (fun o s₁ h₁=>Px h₁ (fun i s₂ h₂=>?_) fun _ _ x=>x) fun _ _ x=>x);obtain ⟨hT,h₂⟩:=h₂;unfold Sm;refine NO ?_;rw [getitemInPython_of_ne hT.not_modules];refine NO (wpAny_specialOf hT hl ?_);have fin:Ou ‹10› A (US slice false o i) (fun r s₃=>Ou ‹10› A (letTemporaryGo value o r >>= fun _=>pure r) Q E s₃) E s₂:=by rw [hs o i];exact wpAny_operating (Px h₂ (fun r s₃ h₃=>NO (wpAny_letTemporaryGo (Oh h₃))) fun _ _ x=>x)
 first
  | exact Oh (NO fin)
  | exact NO (Oh (NO fin))
  | exact NO fin
theorem yn {pins:List (NP×Qz)} {σ:St} {s:NS} (I:Inv X pins σ H s) (g:o7 H a y o):s.TypeIs (.ref a) "dict" := by
 rcases g with ⟨kvs,k,e,_,_⟩ | ⟨kvs,k,b,e,_,_,_⟩
 ·obtain ⟨_,_,vs,_,dd⟩:=ym I.cG e;exact dd.typeIs
 ·obtain ⟨_,_,xs,_,dd⟩:=yk I.cG e;exact dd.typeIs
def HQ (td ty:TE):TE:=fun σ H Q=>td σ H fun x H1=>ty σ H1 fun y H2=>∃ a v,x=.ref a∧o7 H2 a y (some v)∧Q v H2
def Mh (ty td:TE):TE:=fun σ H Q=>ty σ H fun y H1=>td σ H1 fun x H2=>∃ a o,x=.ref a∧o7 H2 a y o∧Q (.bl o.isSome) H2
def Gm (ty td:TE):TE:=fun σ H Q=>ty σ H fun y H1=>td σ H1 fun x H2=>∃ a o,x=.ref a∧o7 H2 a y o∧Q (.bl (!o.isSome)) H2
def Lk (td ty tv:TE):TS:=fun D σ H=>tv σ H fun v H1=>td σ H1 fun x H2=>ty σ H2 fun y H3=>∃ a H4,x=.ref a∧Av H3 a y v H4∧D.nx σ H4
section
variable {X:Cx} {o i e value:Pt} {pos pos' tpos:SY} {td ty tv:TE}
theorem vv (hu:X.A.units+1<RT) (ho:PE X o td) (hi:PE X i ty) (hs:LO i):PE X (.Subscript o i pos) (HQ td ty):=by intro pins s σ H Q I h;refine Gq PySem.F.slot_dict_getitem.lookup hs (cB (ho pins s σ H _ I h) fun u s1 ⟨x,H1,I1,rx,q1⟩=>cB (hi pins s1 σ H1 _ I1 q1) fun iv s2 ⟨y,H2,I2,ry,a,v,ex,g,q2⟩=>?_);subst ex;obtain rfl:u=O2 a:=rx;exact ⟨yn I2 g,Di hu I2 g ry fun w' s3 I3 rw'=>⟨v,H2,I3,rw',q2⟩⟩
theorem Jt (hu:X.A.units+1<RT) (hi:PE X i ty) (ho:PE X o td):PC X .In i o (Mh ty td):=by intro pins s σ H Q I h;refine cB (hi pins s σ H _ I h) fun iv s1 ⟨y,H1,I1,ry,q1⟩=>cB (ho pins s1 σ H1 _ I1 q1) fun u s2 ⟨x,H2,I2,rx,a,ov,ex,g,q2⟩=>?_;subst ex;obtain rfl:u=O2 a:=rx;exact MP hu I2 g ry fun s3 I3=>⟨.bl ov.isSome,H2,I3,rfl,q2⟩
theorem CH (hu:X.A.units+1<RT) (hi:PE X i ty) (ho:PE X o td):PC X .NotIn i o (Gm ty td):=by intro pins s σ H Q I h;refine cB (hi pins s σ H _ I h) fun iv s1 ⟨y,H1,I1,ry,q1⟩=>cB (ho pins s1 σ H1 _ I1 q1) fun u s2 ⟨x,H2,I2,rx,a,ov,ex,g,q2⟩=>?_;subst ex;obtain rfl:u=O2 a:=rx;exact Hq hu I2 g ry fun s3 I3=>⟨.bl (!ov.isSome),H2,I3,rfl,q2⟩
theorem Bh (hu:X.A.units+1<RT) (ho:PE X o td) (hi:PE X i ty) (hv:PE X value tv) (hs:SV value (some (.Subscript o i pos')) pos.line X.env=pure false) :
 PS X (.Assign [.Subscript o i pos'] value pos) (Lk td ty tv):=by
 intro pins s σ H D I h;refine wpAny_Assign_Subscript (cB (hv pins s σ H _ I h) fun r s1 ⟨v,H1,I1,rv,q1⟩=>cB (ho pins s1 σ H1 _ I1 q1) fun u s2 ⟨x,H2,I2,rx,q2⟩=>cB (hi pins s2 σ H2 _ I2 q2) fun iv s3 ⟨y,H3,I3,ry,a,H4,ex,g,q3⟩=>?_) hs;subst ex;obtain rfl:u=O2 a:=rx;exact Dh hu I3 g ry rv fun s4 I4=>⟨σ,H4,I4,q3⟩
end
theorem FD {w:Pf} (h:PM) (hb:Q4<h.objs.size):cn P w H (h.push { cls:=.type "dict", data:=.dict #[] }) h.objs.size (.dK []) :=
 ⟨O1 _,beq_eq_false_iff_ne.mpr (P9 (OE hb)),[],.nil,Heap.DictOf.new h⟩
def IU:TE:=fun _ H Q=>∀ p,H p=none→Q (.ref p) (upd H p (.dK []))
section
variable {X:Cx} {pos:SY}
theorem xH:PE X (.Dict [] [] pos) IU:=fun pins s σ H Q I h =>wpAny_Dict_empty ⟨.ref ‹4›,_,I.laid (a:=‹4›) (o:=.dK []) (t':=s.toks) (fun _ _ q=>NT _ q) (N9 _) (FD s.heap I.big),rfl,h _ (I.cG.fresh (N9 _))⟩
end
structure M1 (X:Cx) (o:Pt) (m:OX) (apos:SY) (e:Pt) (cpos:SY):Prop where
 base:Vl o m X.env (eval o X.env)=eval o X.env
 F8:((RL cpos (Pn [e] X.env)).all (fun x=>!x.1)&&(S1 cpos (Ro [] X.env)).all (fun x=>x.1.isSome)
  && decide (([e]:List Pt).length+([]:List Tp).length+(if ([]:List Tp).isEmpty then 0 else 1)<30))=true
 line:(apos.endLine==cpos.line)=true
 trees:RL cpos (Pn [e] X.env)=[(false,eval e X.env)]
structure M2 (X:Cx) (o:Pt) (m:OX) (apos:SY) (e f:Pt) (cpos:SY):Prop where
 base:Vl o m X.env (eval o X.env)=eval o X.env
 F8:((RL cpos (Pn [e,f] X.env)).all (fun x=>!x.1)&&(S1 cpos (Ro [] X.env)).all (fun x=>x.1.isSome)
  && decide (([e,f]:List Pt).length+([]:List Tp).length+(if ([]:List Tp).isEmpty then 0 else 1)<30))=true
 line:(apos.endLine==cpos.line)=true
 trees:RL cpos (Pn [e,f] X.env)=[(false,eval e X.env),(false,eval f X.env)]
end L2
namespace Tm
open PySem PyProof.Rows
def gH:Bool→Keyed→Array Keyed→Nat→Nat→Nat→StateT SortSt Sem (Option Nat):=sortPriv% PySem.Builtin.gallop
def rA:Array Keyed→Array Keyed→StateT SortSt Sem (Array Keyed):=sortPriv% PySem.Builtin.mergeLo
def rB:Array Keyed→Array Keyed→StateT SortSt Sem (Array Keyed):=sortPriv% PySem.Builtin.mergeHi
abbrev setG (st:Pu) (g:Nat):Pu:=Vw (kindOf st) (OV st) (OI st) g (Ss st)
def iH (g:Nat):StateT Pu Sem Unit:=modify fun s=>setG s g
variable {arr:Array Oj} {x:Oj} {st:Pu} {left:Bool} {key:Oj} {Q:Option Bool→Pu→Prop} {a:Array Oj}
theorem z7 (left:Bool) (key:Oj) (arr:Array Oj) (base n hint:Nat):gH left key arr base n hint=(do
 let beyond (i:Nat):StateT Pu Sem (Option Bool):=do
  let x ← Rc arr (base+i)
  if left then lt' x key else return (← lt' key x).map (!·)
 let mut lastofs:=0
 let mut ofs:=1
 let mut lo:=0
 let mut hi:=0
 let some right ← beyond hint | return none
 if right then
  let maxofs:=n-hint
  for _ in [0:n] do
   if ofs ≥ maxofs then break
   let some more ← beyond (hint+ofs) | return none
   if !more then break
   lastofs:=ofs
   ofs:=2*ofs+1
  lo:=hint+lastofs+1
  hi:=hint+min ofs maxofs
 else
  let maxofs:=hint+1
  for _ in [0:n] do
   if ofs ≥ maxofs then break
   let some found ← beyond (hint-ofs) | return none
   if found then break
   lastofs:=ofs
   ofs:=2*ofs+1
  lo:=hint+1-min ofs maxofs
  hi:=hint-lastofs
 for _ in [0:n] do
  if lo ≥ hi then break
  let m:=lo+(hi-lo) / 2
  let some more ← beyond m | return none
  if more then lo:=m+1 else hi:=m
 return some hi):=rfl
section
variable {M:UM} {A:O3} {E:NN→NS→Prop} {s:NS} {κ:P7} {G:Oj→Prop} {C:Oj→Oj→Bool}
noncomputable def eJ (M:UM) (A:O3) (E:NN→NS→Prop) (s:NS) (κ:P7) (G:Oj→Prop) (C:Oj→Oj→Bool):Prop :=
 ∀ {x y:Oj} {Q:Option Bool→Pu→Prop} {st:Pu},G x→G y→kindOf st=κ→Q (some (C x y)) st→Ul M A E s (lt' x y) Q st
structure Nt (C:Oj→Oj→Bool):Prop where
 as:∀ x y,C x y=true→C y x=false
 tr:∀ x y z,C y x=false→C z y=false→C z x=false
theorem bE {i:Nat} {Q:Oj→Pu→Prop} (e:arr[i]?=some x) (h:Q x st):Ul M A E s (Rc arr i) Q st:=by rw [elem'_eq,e];exact Oi h
def Aq (left:Bool) (key:Oj) (C:Oj→Oj→Bool) (x:Oj):Bool:=if left=true then C x key else !(C key x)
theorem yR (hC:eJ M A E s κ G C) {i:Nat} (hk:kindOf st=κ) (gk:G key) (e:arr[i]?=some x) (gx:G x) (h:Q (some (Aq left key C x)) st) :
 Ul M A E s (do let x ← Rc arr i; if left=true then lt' x key else do let r ← lt' key x; pure (r.map (!·))) Q st:=by
 refine Oa (bE e ?_);unfold Aq at h;cases left with
 | true=>exact hC gx gk hk h
 | false=>exact Oa (hC gk gx hk (Oi h))
theorem yP (hC:eJ M A E s κ G C) {base n hint:Nat} {Q:Option Nat→SortSt→Prop} (hk:kindOf st=κ) (gk:G key) (B:Nat→Bool)
    (hb:∀ i,i<n→∃ x,arr[base+i]?=some x∧G x∧Aq left key C x=B i) (mono:∀ i j,i≤j→j<n→B j=true→B i=true) (hh:hint<n)
    (h:∀ k,k≤n→(∀ i,i<k→B i=true)→(∀ i,k≤i→i<n→B i=false)→Q (some k) st):Ul M A E s (gH left key arr base n hint) Q st:=by
  have ask:∀ (i:Nat) (Q:Option Bool→Pu→Prop),i<n→Q (some (B i)) st→Ul M A E s (do let x ← Rc arr (base+i); if left=true then lt' x key else do let r ← lt' key x; pure (r.map (!·))) Q st:=fun i Q hi q=>by obtain ⟨x,e,gx,eb⟩:=hb i hi;exact yR hC hk gk e gx (by rw [eb]; exact q)
  have monoF:∀ i j,i≤j→j<n→B i=false→B j=false:=fun i j hij hj e=>by
    cases q:B j with
    | false=>rfl
    | true=>rw [mono i j hij hj q] at e; cases e
  rw [z7];dsimp only;refine Oa (ask hint _ hh ?_);dsimp only;cases hB:B hint with
  | true =>
    rw [if_pos rfl]
    refine Oa (QW (PV (I:=fun x c st'=>st'=st∧∃ la ofs,c=(none,la,ofs)∧x+1≤ofs∧la<ofs∧la<n-hint∧B (hint+la)=true)
      (Q:=fun c st'=>st'=st∧∃ la ofs,c=(none,la,ofs)∧la<ofs∧la<n-hint∧B (hint+la)=true∧(n-hint≤ofs∨(ofs<n-hint∧B (hint+ofs)=false))) ?step ?fin ⟨rfl,0,1,rfl,by lia,by lia,by lia,hB⟩) ?post)
    case fin =>rintro c st' ⟨rfl,la,ofs,rfl,a1,a2,a3,a4⟩;exact ⟨rfl,la,ofs,rfl,a2,a3,a4,.inl (by lia)⟩
    case post =>
      rintro c st' ⟨rfl,la,ofs,rfl,a2,a3,a4,a5⟩;dsimp only
      have hhi:∀ i,hint+min ofs (n-hint)≤i→i<n→B i=false:=fun i h1 h2=>by
        rcases a5 with a5 | ⟨a5,a6⟩
        · lia
        · exact monoF _ i (by lia) h2 a6
      refine Oa (QW (PV (I:=fun x c st''=>st''=st'∧∃ lo hi,c=(none,lo,hi)∧lo≤hi∧hi≤n∧hi-lo≤n-x∧(∀ i,i<lo→B i=true)∧(∀ i,hi≤i→i<n→B i=false))
        (Q:=fun c st''=>st''=st'∧∃ lo hi,c=(none,lo,hi)∧lo=hi∧hi≤n∧(∀ i,i<lo→B i=true)∧(∀ i,hi≤i→i<n→B i=false)) ?step2 ?fin2 ⟨rfl,hint+la+1,hint+min ofs (n-hint),rfl,by lia,by lia,by lia,fun i hi=>mono i _ (by lia) (by lia) a4,hhi⟩) ?post2)
      case fin2 =>rintro c st'' ⟨rfl,lo,hi,rfl,a1,a2,a3,a4,a5⟩;exact ⟨rfl,lo,hi,rfl,by lia,a2,a4,a5⟩
      case post2 =>rintro c st'' ⟨rfl,lo,hi,rfl,rfl,a2,a4,a5⟩;exact Oi (h lo a2 a4 a5)
      case step2 =>
        rintro x c st'' _ hx ⟨rfl,lo,hi,rfl,a1,a2,a3,a4,a5⟩;dsimp only;by_cases c:lo ≥ hi
        · rw [if_pos c];exact Oi ⟨rfl,lo,hi,rfl,by lia,a2,a4,a5⟩
        · rw [if_neg c];refine Oa (ask _ _ (by lia) ?_);dsimp only;cases q:B (lo+(hi-lo) / 2) with
          | true =>rw [if_pos rfl];exact Oi ⟨rfl,_,_,rfl,by lia,a2,by lia,fun i hi'=>mono i _ (by lia) (by lia) q,a5⟩
          | false =>rw [if_neg N8];exact Oi ⟨rfl,_,_,rfl,by lia,by lia,by lia,a4,fun i h1 h2=>monoF _ i h1 h2 q⟩
    case step =>
      rintro x c st' _ hx ⟨rfl,la,ofs,rfl,a1,a2,a3,a4⟩;dsimp only;by_cases c:ofs ≥ n-hint
      · rw [if_pos c];exact Oi ⟨rfl,la,ofs,rfl,a2,a3,a4,.inl c⟩
      · rw [if_neg c];refine Oa (ask _ _ (by lia) ?_);dsimp only;cases q:B (hint+ofs) with
        | true =>rw [if_neg ‹11›];exact Oi ⟨rfl,_,_,rfl,by lia,by lia,by lia,q⟩
        | false =>rw [if_pos ‹11›];exact Oi ⟨rfl,_,_,rfl,a2,a3,a4,.inr ⟨by lia,q⟩⟩
  | false =>
    rw [if_neg N8]
    refine Oa (QW (PV (I:=fun x c st'=>st'=st∧∃ la ofs,c=(none,la,ofs)∧x+1≤ofs∧la<ofs∧la<hint+1∧B (hint-la)=false)
      (Q:=fun c st'=>st'=st∧∃ la ofs,c=(none,la,ofs)∧la<ofs∧la<hint+1∧B (hint-la)=false∧(hint+1≤ofs∨(ofs<hint+1∧B (hint-ofs)=true))) ?step ?fin ⟨rfl,0,1,rfl,by lia,by lia,by lia,hB⟩) ?post)
    case fin =>rintro c st' ⟨rfl,la,ofs,rfl,a1,a2,a3,a4⟩;exact ⟨rfl,la,ofs,rfl,a2,a3,a4,.inl (by lia)⟩
    case post =>
      rintro c st' ⟨rfl,la,ofs,rfl,a2,a3,a4,a5⟩;dsimp only
      have hlo:∀ i,i<hint+1-min ofs (hint+1)→B i=true:=fun i hi=>by
        rcases a5 with a5 | ⟨a5,a6⟩
        · lia
        · exact mono i _ (by lia) (by lia) a6
      refine Oa (QW (PV (I:=fun x c st''=>st''=st'∧∃ lo hi,c=(none,lo,hi)∧lo≤hi∧hi≤n∧hi-lo≤n-x∧(∀ i,i<lo→B i=true)∧(∀ i,hi≤i→i<n→B i=false))
        (Q:=fun c st''=>st''=st'∧∃ lo hi,c=(none,lo,hi)∧lo=hi∧hi≤n∧(∀ i,i<lo→B i=true)∧(∀ i,hi≤i→i<n→B i=false)) ?step2 ?fin2 ⟨rfl,hint+1-min ofs (hint+1),hint-la,rfl,by lia,by lia,by lia,hlo,fun i h1 h2=>monoF _ i h1 h2 a4⟩) ?post2)
      case fin2 =>rintro c st'' ⟨rfl,lo,hi,rfl,a1,a2,a3,a4,a5⟩;exact ⟨rfl,lo,hi,rfl,by lia,a2,a4,a5⟩
      case post2 =>rintro c st'' ⟨rfl,lo,hi,rfl,rfl,a2,a4,a5⟩;exact Oi (h lo a2 a4 a5)
      case step2 =>
        rintro x c st'' _ hx ⟨rfl,lo,hi,rfl,a1,a2,a3,a4,a5⟩;dsimp only;by_cases c:lo ≥ hi
        · rw [if_pos c];exact Oi ⟨rfl,lo,hi,rfl,by lia,a2,a4,a5⟩
        · rw [if_neg c];refine Oa (ask _ _ (by lia) ?_);dsimp only;cases q:B (lo+(hi-lo) / 2) with
          | true =>rw [if_pos rfl];exact Oi ⟨rfl,_,_,rfl,by lia,a2,by lia,fun i hi'=>mono i _ (by lia) (by lia) q,a5⟩
          | false =>rw [if_neg N8];exact Oi ⟨rfl,_,_,rfl,by lia,by lia,by lia,a4,fun i h1 h2=>monoF _ i h1 h2 q⟩
    case step =>
      rintro x c st' _ hx ⟨rfl,la,ofs,rfl,a1,a2,a3,a4⟩;dsimp only;by_cases c:ofs ≥ hint+1
      · rw [if_pos c];exact Oi ⟨rfl,la,ofs,rfl,a2,a3,a4,.inl c⟩
      · rw [if_neg c];refine Oa (ask _ _ (by lia) ?_);dsimp only;cases q:B (hint-ofs) with
        | true =>rw [if_pos rfl];exact Oi ⟨rfl,_,_,rfl,a2,a3,a4,.inr ⟨by lia,q⟩⟩
        | false =>rw [if_neg N8];exact Oi ⟨rfl,_,_,rfl,by lia,by lia,by lia,q⟩
end
section pure
variable {α:Type} {C:α→α→Bool}
structure gj (C:α→α→Bool):Prop where
 as:∀ x y,C x y=true→C y x=false
 tr:∀ x y z,C y x=false→C z y=false→C z x=false
def Le (C:α→α→Bool) (x y:α):Prop:=C y x=false
abbrev uB (C:α→α→Bool) (l:List α):Prop:=l.Pairwise (Le C)
structure ML (C:α→α→Bool) (L out A B:List α):Prop where
 so:uB C out
 oa:∀ x∈out,∀ y∈A,Le C x y
 ob:∀ x∈out,∀ y∈B,Le C x y
 pm:(out++(A++B)).Perm L
 sa:uB C A
 sb:uB C B
theorem ML.len {L out A B:List α} (h:ML C L out A B):out.length+A.length+B.length=L.length:=by have:=h.pm.length_eq;rw [N7,N7] at this;lia
theorem ML.Hu {L out X A B:List α} (h:ML C L out (X++A) B) (hx:∀ x∈X,∀ y∈B,Le C x y):ML C L (out++X) A B:=by
 obtain ⟨s1,s2,s3⟩:=Oo.mp h.sa;refine ⟨Oo.mpr ⟨h.so,s1,fun x hx y hy=>h.oa x hx y (Ol _ hy)⟩,fun x hx' y hy=>?_,fun x hx' y hy=>?_,?_,s2,h.sb⟩
 ·rcases NZ.mp hx' with z | z
  ·exact h.oa x z y (NQ _ hy)
  ·exact s3 x z y hy
 ·rcases NZ.mp hx' with z | z
  ·exact h.ob x z y hy
  ·exact hx x z y hy
 ·have:=h.pm;rw [OG] at this;rw [OG];exact this
theorem ML.Ht {L out X A B:List α} (h:ML C L out A (X++B)) (hx:∀ x∈X,∀ y∈A,Le C x y):ML C L (out++X) A B:=by
 obtain ⟨s1,s2,s3⟩:=Oo.mp h.sb;refine ⟨Oo.mpr ⟨h.so,s1,fun x hx y hy=>h.ob x hx y (Ol _ hy)⟩,fun x hx' y hy=>?_,fun x hx' y hy=>?_,?_,h.sa,s2⟩
 ·rcases NZ.mp hx' with z | z
  ·exact h.oa x z y hy
  ·exact hx x z y hy
 ·rcases NZ.mp hx' with z | z
  ·exact h.ob x z y (NQ _ hy)
  ·exact s3 x z y hy
 ·refine UB ?_ h.pm;rw [OG];refine QD out ?_;rw [← OG,← OG];exact R0 _ Rg
def Done (C:α→α→Bool) (L r:List α):Prop:=uB C r∧r.Perm L
theorem ML.MO {L out A B:List α} (h:ML C L out A B) (hB:B=[]):Done C L (out++A++B):=by subst hB;rw [OT];refine ⟨Oo.mpr ⟨h.so,h.sa,h.oa⟩,?_⟩;have:=h.pm;rw [OT] at this;exact this
theorem ML.MN {L out A B:List α} (h:ML C L out A B) (hA:A=[]):Done C L (out++A++B):=by subst hA;rw [OT];exact ⟨Oo.mpr ⟨h.so,h.sb,h.ob⟩,h.pm⟩
theorem ML.MM {L out A B:List α} (h:ML C L out A B) (hl:∀ y∈B,∀ x∈A,Le C y x):Done C L (out++B++A):=by
 refine ⟨Oo.mpr ⟨Oo.mpr ⟨h.so,h.sb,h.ob⟩,h.sa,fun x hx y hy=>?_⟩,?_⟩
 ·rcases NZ.mp hx with z | z
  ·exact h.oa x z y hy
  ·exact hl x z y hy
 ·refine UB ?_ h.pm;rw [OG];exact QD out Rg
theorem le_of_lt (o:gj C) {x y:α} (h:C x y=true):Le C x y:=o.as x y h
theorem le_head (o:gj C) {x y:α} {l:List α} (h:Le C x y) (s:uB C (y::l)):∀ z∈y::l,Le C x z:=fun z hz=>by
 rcases NU.mp hz with rfl | hz
 ·exact h
 ·exact o.tr x y z h ((PL.mp s).1 z hz)
end pure
section
variable {C:Oj→Oj→Bool}
theorem le_refl (o:gj C) (x:Oj):Le C x x:=by
 unfold Le;cases h:C x x with
 | false=>rfl
 | true=>rw [o.as x x h] at h; cases h
theorem uV (o:gj C) {l:List Oj} (s:uB C l) {i j:Nat} {y:Oj} (hij:i≤j) (hx:l[i]?=some x) (hy:l[j]?=some y):Le C x y:=by
 by_cases c:i=j
 ·subst c;rw [hx] at hy;cases hy;exact le_refl o x
 ·obtain ⟨hi,rfl⟩:=Oe.mp hx;obtain ⟨hj,rfl⟩:=Oe.mp hy;exact Rw.mp s i j hi hj (by lia)
theorem FP (o:gj C) {y:Oj} (h:Le C x y) (e:Aq left key C y=true):Aq left key C x=true:=by
 unfold Aq at *;cases left with
 | true =>
  rw [if_pos rfl] at *;cases q:C x key with
  | true=>rfl
  | false =>have:C y key=false:=o.tr key x y q h;rw [this] at e; cases e
 | false =>
  rw [if_neg N8] at *;have e:C key y=false:=by simpa using e
  have:C key x=false:=o.tr x y key h e;rw [this]; rfl
variable {M:UM} {A:O3} {E:NN→NS→Prop} {s:NS} {κ:P7} {G:Oj→Prop}
theorem kN (hC:eJ M A E s κ G C) (o:gj C) {base n hint:Nat} {Q:Option Nat→Pu→Prop} {seg:List Oj} (hk:kindOf st=κ) (gk:G key) (hs:seg=(arr.toList.drop base).take n) (hl:seg.length=n) (sr:uB C seg) (gs:∀ x∈seg,G x) (hh:hint<n)
 (h:∀ k,k≤n→(∀ x∈seg.take k,Aq left key C x=true)→(∀ x∈seg.drop k,Aq left key C x=false)→Q (some k) st):Ul M A E s (gH left key arr base n hint) Q st:=by
 have at_:∀ i,i<n→∃ x,seg[i]?=some x∧arr[base+i]?=some x:=fun i hi=>by have e:seg[i]?=some seg[i]:=NG (by lia);refine ⟨seg[i],e,?_⟩;rw [← e,hs,Qn hi,Q8,PB]
 refine yP hC hk gk (fun i=>match seg[i]? with | some x=>Aq left key C x | none=>false) (fun i hi=>?_) (fun i j hij hj e=>?_) hh fun k hk2 h1 h2=>h k hk2 (fun x hx=>?_) fun x hx=>?_
 ·obtain ⟨x,e1,e2⟩:=at_ i hi;exact ⟨x,e2,gs x (OF e1),by rw [e1]⟩
 ·obtain ⟨x,e1,_⟩:=at_ i (by lia);obtain ⟨y,e2,_⟩:=at_ j hj;rw [e1];rw [e2] at e;exact FP o (uV o sr hij e1 e2) e
 ·obtain ⟨i,hi⟩:=Pp hx;have hlt:=(Oe.mp hi).1;rw [O9] at hlt;rw [Qn (by lia)] at hi;have:=h1 i (by lia);rw [hi] at this;exact this
 ·obtain ⟨i,hi⟩:=Pp hx;have hlt:=(Oe.mp hi).1;rw [Ph] at hlt;rw [Q8] at hi;have:=h2 (k+i) (by lia) (by lia);rw [hi] at this;exact this
theorem ext_toList (a:Array Oj) (i j:Nat):(a.extract i j).toList=(a.toList.drop i).take (j-i):=by rw [Array.toList_extract,List.extract_eq_take_drop]
theorem qk (a:Array Oj) (i:Nat):(a.extract i a.size).toList=a.toList.drop i:=by rw [ext_toList,Pz (by rw [Ph,N3]; exact N9 _)]
theorem fT {i:Nat} (h:i<a.size):a.toList.drop i=a[i]::a.toList.drop (i+1):=by rw [OB (by rw [N3]; exact h),Array.getElem_toList]
theorem rW (l:List Oj) (i k:Nat):l.drop i=(l.drop i).take k++l.drop (i+k):=by rw [← Qp,OY]
structure MA (C:Oj→Oj→Bool) (a b out:Array Oj) (ia ib:Nat):Prop where
 ml:ML C (a.toList++b.toList) out.toList (a.toList.drop ia) (b.toList.drop ib)
 la:ia≤a.size
 lb:ib≤b.size
theorem MA.len {a b out:Array Oj} {ia ib:Nat} (h:MA C a b out ia ib):out.size+(a.size-ia)+(b.size-ib)=a.size+b.size:=by have:=h.ml.len;rw [Ph,Ph,N7,N3,N3,N3] at this;exact this
theorem MA.tX {b out:Array Oj} {ia ib:Nat} (h:MA C a b out ia ib) (hi:ia<a.size) (hx:∀ y∈b.toList.drop ib,Le C a[ia] y):MA C a b (out.push a[ia]) (ia+1) ib:=by refine ⟨?_,by lia,h.lb⟩;rw [QM];have m:=h.ml;rw [fT hi] at m;exact ML.Hu (X:=[a[ia]]) m fun x hx'=>by rw [NL.mp hx']; exact hx
theorem MA.tW {b out:Array Oj} {ia ib:Nat} (h:MA C a b out ia ib) (hi:ib<b.size) (hx:∀ y∈a.toList.drop ia,Le C b[ib] y):MA C a b (out.push b[ib]) ia (ib+1):=by refine ⟨?_,h.la,by lia⟩;rw [QM];have m:=h.ml;rw [fT hi] at m;exact ML.Ht (X:=[b[ib]]) m fun x hx'=>by rw [NL.mp hx']; exact hx
theorem MA.Hu {a b out:Array Oj} {ia ib k:Nat} (h:MA C a b out ia ib) (hk:k≤a.size-ia) (hx:∀ x∈(a.toList.drop ia).take k,∀ y∈b.toList.drop ib,Le C x y):MA C a b (out++a.extract ia (ia+k)) (ia+k) ib:=by have:=h.la;refine ⟨?_,by lia,h.lb⟩;rw [Pc,ext_toList,show ia+k-ia=k by lia];have m:=h.ml;rw [rW a.toList ia k] at m;exact ML.Hu m hx
theorem MA.Ht {a b out:Array Oj} {ia ib k:Nat} (h:MA C a b out ia ib) (hk:k≤b.size-ib) (hx:∀ x∈(b.toList.drop ib).take k,∀ y∈a.toList.drop ia,Le C x y):MA C a b (out++b.extract ib (ib+k)) ia (ib+k):=by have:=h.lb;refine ⟨?_,h.la,by lia⟩;rw [Pc,ext_toList,show ib+k-ib=k by lia];have m:=h.ml;rw [rW b.toList ib k] at m;exact ML.Ht m hx
abbrev Dn (C:Oj→Oj→Bool) (a b r:Array Oj):Prop:=Done C (a.toList++b.toList) r.toList
theorem MA.done {b out:Array Oj} {ia ib:Nat} (h:MA C a b out ia ib) (e:ia=a.size∨ib=b.size):Dn C a b (out++a.extract ia a.size++b.extract ib b.size):=by
 unfold Dn;rw [Pc,Pc,qk,qk];rcases e with e | e
 ·exact h.ml.MN (Q9 (by rw [N3]; lia))
 ·exact h.ml.MO (Q9 (by rw [N3]; lia))
theorem MA.last {b out:Array Oj} {ia ib:Nat} (h:MA C a b out ia ib) (e:ia+1=a.size) (hl:∀ y∈b.toList,∀ x∈a.toList.drop (a.size-1),Le C y x):Dn C a b (out++b.extract ib b.size++a.extract ia a.size):=by unfold Dn;rw [Pc,Pc,qk,qk];exact h.ml.MM fun y hy x hx=>hl y (PZ hy) x (by rw [show a.size-1=ia by lia]; exact hx)
end
abbrev SM:=StateT Pu Sem
section
variable {α β γ:Type}
abbrev S5 (α β γ:Type):=Option (Array Oj)×α×β×γ×Nat
abbrev S6 (α β γ:Type):=Option (Array Oj)×α×β×γ×Nat×Nat
abbrev S7 (α β γ:Type):=Option (Array Oj)×α×β×γ×Nat×Nat×Nat
noncomputable def mO (N:Nat) (fA:Nat→α→β→γ→Nat→Nat→SM (ForInStep (S6 α β γ))) (fG:α→β→γ→Nat→Nat→Nat→SM (ForInStep (S7 α β γ))) (c:S5 α β γ):SM (ForInStep (S5 α β γ)):=do
 let d ← forIn [0:N] ((none,c.2.1,c.2.2.1,c.2.2.2.1,0,0):S6 α β γ) fun _ d=>fA c.2.2.2.2 d.2.1 d.2.2.1 d.2.2.2.1 d.2.2.2.2.1 d.2.2.2.2.2
 S9 (fun _=>SM (ForInStep (S5 α β γ))) d.1 (fun r=>pure (.done (some r,d.2.1,d.2.2.1,d.2.2.2.1,c.2.2.2.2))) fun _=>do
  rule "list.sort.gallop"
  let e ← forIn [0:N] ((none,d.2.1,d.2.2.1,d.2.2.2.1,c.2.2.2.2+1,d.2.2.2.2.1,d.2.2.2.2.2):S7 α β γ) fun _ c =>
   if c.2.2.2.2.1 > 1 then do iH (c.2.2.2.2.1-1); fG c.2.1 c.2.2.1 c.2.2.2.1 (c.2.2.2.2.1-1) c.2.2.2.2.2.1 c.2.2.2.2.2.2
   else do iH c.2.2.2.2.1; fG c.2.1 c.2.2.1 c.2.2.2.1 c.2.2.2.2.1 c.2.2.2.2.2.1 c.2.2.2.2.2.2
  S9 (fun _=>SM (ForInStep (S5 α β γ))) e.1 (fun r=>pure (.done (some r,e.2.1,e.2.2.1,e.2.2.2.1,e.2.2.2.2.1))) fun _=>do
   iH (e.2.2.2.2.1+1)
   pure (.yield (none,e.2.1,e.2.2.1,e.2.2.2.1,e.2.2.2.2.1+1))
noncomputable def mM (N:Nat) (fA:Nat→α→β→γ→Nat→Nat→SM (ForInStep (S6 α β γ))) (fG:α→β→γ→Nat→Nat→Nat→SM (ForInStep (S7 α β γ))) (x:α) (y:β) (z:γ):SM (Array Oj):=do
 let st ← get
 let c ← forIn [0:N] ((none,x,y,z,U0 st):S5 α β γ) fun _ c=>mO N fA fG c
 S9 (fun _=>SM (Array Oj)) c.1 pure fun _=>unsupported "internal:list.sort.merge-bound"
def T6 (r:Option (Array Oj)) (x:α) (y:β) (z:γ) (c:S6 α β γ):Prop:=∃ ac bc,c=(r,x,y,z,ac,bc)
def T7 (r:Option (Array Oj)) (x:α) (y:β) (z:γ) (c:S7 α β γ):Prop:=∃ mg ac bc,c=(r,x,y,z,mg,ac,bc)
structure Rs {σ:Type} (D:Array Oj→Prop) (K:α→β→γ→Prop) (sz:α→β→γ→Nat) (T:Option (Array Oj)→α→β→γ→σ→Prop) (n:Nat) (st:Pu) (R:ForInStep σ→Pu→Prop):Prop where
 ret:∀ {r x y z c},D r→T (some r) x y z c→R (.done c) st
 go:∀ {x y z c},K x y z→n≤sz x y z→T none x y z c→R (.done c) st∧R (.yield c) st
variable {M:UM} {A:O3} {E:NN→NS→Prop} {s:NS} {κ:P7}
theorem g7 {σ:Type} {c:Prop} [Decidable c] {P:σ→Prop} {x y:σ} (h1:P x) (h2:P y):P (if c then x else y):=by
 by_cases q:c
 ·rw [if_pos q]; exact h1
 ·rw [if_neg q]; exact h2
theorem DO {D:Array Oj→Prop} {K:α→β→γ→Prop} {sz:α→β→γ→Nat} {N:Nat} {fA:Nat→α→β→γ→Nat→Nat→SM (ForInStep (S6 α β γ))} {fG:α→β→γ→Nat→Nat→Nat→SM (ForInStep (S7 α β γ))}
 (hA:∀ {mg x y z ac bc st R},kindOf st=κ→K x y z→Rs D K sz T6 (sz x y z+1) st R→Ul M A E s (fA mg x y z ac bc) R st)
 (hG:∀ {mg x y z ac bc st R},kindOf st=κ→K x y z→Rs D K sz T7 (sz x y z) st R→Ul M A E s (fG x y z mg ac bc) R st)
 (hN:∀ {x y z},K x y z→sz x y z≤N) {Q:Array Oj→Pu→Prop} {st:Pu} (hk:kindOf st=κ) {x:α} {y:β} {z:γ} (k:K x y z) (h1:1≤sz x y z) (h:∀ r g,D r→Q r (setG st g)):Ul M A E s (mM N fA fG x y z) Q st:=by
 refine Oa (Sn ?_)
 refine Oa (QW (PV
  (I:=fun n (c:S5 α β γ) st'=>(∃ g,st'=setG st g)∧∃ x y z mg,c=(none,x,y,z,mg)∧K x y z∧n+1≤sz x y z)
  (Q:=fun (c:S5 α β γ) st'=>(∃ g,st'=setG st g)∧∃ r d,c=(some r,d)∧D r) ?step ?fin ⟨⟨U0 st,rfl⟩,_,_,_,_,rfl,k,h1⟩) ?post)
 case fin =>rintro c st' ⟨_,x,y,z,mg,rfl,k,h3⟩;have:=hN k;lia
 case post =>rintro c st' ⟨⟨g,rfl⟩,r,d,rfl,h2⟩;exact Oi (h _ _ h2)
 case step =>
  rintro n c st' _ hn ⟨⟨g,rfl⟩,x,y,z,mg,rfl,k,h3⟩
  refine Oa (QW (PV
   (I:=fun i (c:S6 α β γ) st'=>st'=setG st g∧∃ x' y' z' ac bc,c=(none,x',y',z',ac,bc)∧K x' y' z'∧sz x y z+i≤sz x' y' z')
   (Q:=fun (c:S6 α β γ) st'=>st'=setG st g∧((∃ r d,c=(some r,d)∧D r)∨∃ x' y' z' ac bc,c=(none,x',y',z',ac,bc)∧K x' y' z'∧sz x y z+1≤sz x' y' z'))
   ?step1 ?fin1 ⟨rfl,_,_,_,_,_,rfl,k,N9 _⟩) ?post1)
  case fin1 =>rintro c st' ⟨rfl,x',y',z',ac,bc,rfl,k',h4⟩;exact ⟨rfl,.inr ⟨_,_,_,_,_,rfl,k',by lia⟩⟩
  case step1 =>
   rintro i c st' _ hi ⟨rfl,x',y',z',ac,bc,rfl,k',h4⟩;refine hA hk k' ⟨fun d t=>?_,fun d l t=>?_⟩
   ·obtain ⟨_,_,rfl⟩:=t;exact ⟨rfl,.inl ⟨_,_,rfl,d⟩⟩
   ·obtain ⟨_,_,rfl⟩:=t;have l:sz x' y' z'+1≤_:=l;exact ⟨⟨rfl,.inr ⟨_,_,_,_,_,rfl,d,by lia⟩⟩,rfl,_,_,_,_,_,rfl,d,by lia⟩
  case post1 =>
   rintro c st' ⟨rfl,⟨r,d,rfl,h2⟩ | ⟨x',y',z',ac,bc,rfl,k',h4⟩⟩
   ·exact Oi ⟨⟨g,rfl⟩,_,_,rfl,h2⟩
   refine Oa (U3 (Sg ⟨rfl,?_⟩))
   refine Oa (QW (PV
    (I:=fun i (c:S7 α β γ) st'=>(∃ g,st'=setG st g)∧∃ x'' y'' z'' mg ac bc,c=(none,x'',y'',z'',mg,ac,bc)∧K x'' y'' z''∧sz x' y' z'≤sz x'' y'' z'')
    (Q:=fun (c:S7 α β γ) st'=>(∃ g,st'=setG st g)∧((∃ r d,c=(some r,d)∧D r)∨∃ x'' y'' z'' mg ac bc,c=(none,x'',y'',z'',mg,ac,bc)∧K x'' y'' z''∧sz x' y' z'≤sz x'' y'' z''))
    ?step2 ?fin2 ⟨⟨g,rfl⟩,_,_,_,_,_,_,rfl,k',N9 _⟩) ?post2)
   case fin2 =>rintro c st' ⟨hg,h2⟩;exact ⟨hg,.inr h2⟩
   case post2 =>
    rintro c st' ⟨⟨g2,rfl⟩,⟨r,d,rfl,h2⟩ | ⟨x'',y'',z'',mg,ac,bc,rfl,k'',h5⟩⟩
    ·exact Oi ⟨⟨g2,rfl⟩,_,_,rfl,h2⟩
    ·exact Oa (QQ (Oi ⟨⟨_,rfl⟩,_,_,_,_,rfl,k'',(show n+1+1≤sz x'' y'' z'' by lia)⟩))
   case step2 =>rintro i c st' _ hi ⟨⟨g2,rfl⟩,x'',y'',z'',mg,ac,bc,rfl,k'',h5⟩;refine (g7 (P:=fun p=>Ul M A E s p _ _) ?_ ?_) <;> exact Oa (QQ (hG hk k'' ⟨fun d ⟨_,_,_,e⟩=>e ▸ ⟨⟨_,rfl⟩,.inl ⟨_,_,rfl,d⟩⟩,fun d l ⟨_,_,_,e⟩=>e ▸ ⟨⟨⟨_,rfl⟩,.inr ⟨_,_,_,_,_,_,rfl,d,ON h5 l⟩⟩,⟨_,rfl⟩,_,_,_,_,_,_,rfl,d,ON h5 l⟩⟩))
end
section
variable (a b out:Array Oj) (ia ib:Nat)
abbrev X7:=S7 (Array Oj) Nat Nat
abbrev X6:=S6 (Array Oj) Nat Nat
def Ii:=out++a.extract ia a.size++b.extract ib b.size
def LZ:=out++b.extract ib b.size++a.extract ia a.size
noncomputable def Mu (mg k k1:Nat):SM (ForInStep X7):=do
 let x ← Rc a ia
 if (ia+1+1==a.size)=true then pure (.done (some (LZ a b (out.push x) (ia+1) ib),out.push x,ia+1,ib,mg,k,k1))
 else if (decide (k<7)&&decide (k1<7))=true then pure (.done (none,out.push x,ia+1,ib,mg,k,k1))
 else pure (.yield (none,out.push x,ia+1,ib,mg,k,k1))
noncomputable def Mv (mg k bc:Nat):SM (ForInStep X7):=do
 let y ← Rc b ib
 if (ib+1==b.size)=true then pure (.done (some (Ii a b (out.push y) ia (ib+1)),out.push y,ia,ib+1,mg,k,bc))
 else do
  let x ← Rc a ia
  match ← gH true x b (ib+1) (b.size-(ib+1)) 0 with
  | some k1 =>
   if k1 > 0 then
    if (ib+1+k1==b.size)=true then pure (.done (some (Ii a b (out.push y++b.extract (ib+1) (ib+1+k1)) ia (ib+1+k1)),out.push y++b.extract (ib+1) (ib+1+k1),ia,ib+1+k1,mg,k,k1))
    else Mu a b (out.push y++b.extract (ib+1) (ib+1+k1)) ia (ib+1+k1) mg k k1
   else Mu a b (out.push y) ia (ib+1) mg k k1
  | _=>pure (.done (some (Ii a b (out.push y) ia (ib+1)),out.push y,ia,ib+1,mg,k,bc))
noncomputable def M6 (mg ac bc:Nat):SM (ForInStep X7):=do
 let y ← Rc b ib
 match ← gH false y a ia (a.size-ia) 0 with
 | some k =>
  if k > 0 then
   if (ia+k+1==a.size)=true then pure (.done (some (LZ a b (out++a.extract ia (ia+k)) (ia+k) ib),out++a.extract ia (ia+k),ia+k,ib,mg,k,bc))
   else if (ia+k==a.size)=true then pure (.done (some (Ii a b (out++a.extract ia (ia+k)) (ia+k) ib),out++a.extract ia (ia+k),ia+k,ib,mg,k,bc))
   else Mv a b (out++a.extract ia (ia+k)) (ia+k) ib mg k bc
  else Mv a b out ia ib mg k bc
 | _=>pure (.done (some (Ii a b out ia ib),out,ia,ib,mg,ac,bc))
noncomputable def M7 (mg:Nat) (out:Array Oj) (ia ib ac bc:Nat):SM (ForInStep X6):=do
 let y ← Rc b ib
 let x ← Rc a ia
 match ← lt' y x with
 | some w =>
  if w=true then do
   let y ← Rc b ib
   if (ib+1==b.size)=true then pure (.done (some (Ii a b (out.push y) ia (ib+1)),out.push y,ia,ib+1,0,bc+1))
   else if bc+1 ≥ mg then pure (.done (none,out.push y,ia,ib+1,0,bc+1))
   else pure (.yield (none,out.push y,ia,ib+1,0,bc+1))
  else do
   let x ← Rc a ia
   if (ia+1+1==a.size)=true then pure (.done (some (LZ a b (out.push x) (ia+1) ib),out.push x,ia+1,ib,ac+1,0))
   else if ac+1 ≥ mg then pure (.done (none,out.push x,ia+1,ib,ac+1,0))
   else pure (.yield (none,out.push x,ia+1,ib,ac+1,0))
 | _=>pure (.done (some (Ii a b out ia ib),out,ia,ib,ac,bc))
theorem xU:rA a b=(do
 rule "list.sort.merge-lo"
 let y ← Rc b 0
 if (1==b.size)=true then pure (Ii a b #[y] 0 1)
 else if (0+1==a.size)=true then pure (LZ a b #[y] 0 1)
 else mM (a.size+b.size) (M7 a b) (M6 a b) #[y] 0 1):=rfl
end
section
variable {M:UM} {A:O3} {E:NN→NS→Prop} {s:NS} {κ:P7} {G:Oj→Prop} {C:Oj→Oj→Bool} {a b out:Array Oj} {ia ib mg k k1 ac bc n:Nat} {st:Pu}
structure F9 (G:Oj→Prop) (C:Oj→Oj→Bool) (a b:Array Oj):Prop where
 ga:∀ x∈a.toList,G x
 gb:∀ x∈b.toList,G x
 sa:uB C a.toList
 sb:uB C b.toList
 fst:∀ (h:0<b.size),∀ x∈a.toList,Le C b[0] x
 lst:∀ y∈b.toList,∀ x∈a.toList.drop (a.size-1),Le C y x
def KL (C:Oj→Oj→Bool) (a b out:Array Oj) (ia ib:Nat):Prop:=MA C a b out ia ib∧ia+1<a.size∧ib<b.size
def sL (out:Array Oj) (_ _:Nat):Nat:=out.size
theorem Br (t:F9 G C a b) (m:MA C a b out ia ib) (h1:ia+1<a.size) (h2:ib<b.size) (hx:∀ y∈b.toList.drop ib,Le C (a[ia]'(by lia)) y) {R:ForInStep X7→Pu→Prop} (r:Rs (Dn C a b) (KL C a b) sL T7 n st R) (hn:n≤out.size+1) :
 Ul M A E s (Mu a b out ia ib mg k k1) R st:=by
 refine Oa (bE (x:=a[ia]'(by lia)) (Ov (by lia)) ?_);have m':=m.tX (by lia) hx;have hsz:n≤(out.push (a[ia]'(by lia))).size:=by rw [Qj]; exact hn
 by_cases q1:(ia+1+1==a.size)=true
 ·rw [if_pos q1];exact Oi (r.ret (m'.last (by simpa using q1) t.lst) ⟨_,_,_,rfl⟩)
 show 4
theorem Bs (hC:eJ M A E s κ G C) (o:gj C) (t:F9 G C a b) (hk:kindOf st=κ) (m:MA C a b out ia ib) (h1:ia+1<a.size) (h2:ib<b.size) (hx:∀ x∈a.toList.drop ia,Le C (b[ib]'h2) x) {R:ForInStep X7→Pu→Prop} (r:Rs (Dn C a b) (KL C a b) sL T7 n st R) (hn:n≤out.size) :
 Ul M A E s (Mv a b out ia ib mg k bc) R st:=by
 refine Oa (bE (x:=b[ib]) (Ov h2) ?_);have m':=m.tW h2 hx;have hsz:(out.push b[ib]).size=out.size+1:=Qj _;by_cases q1:(ib+1==b.size)=true
 ·rw [if_pos q1];exact Oi (r.ret (m'.done (.inr (by simpa using q1))) ⟨_,_,_,rfl⟩)
 rw [if_neg q1];have q1:ib+1<b.size:=by simp at q1; lia
 have hia:ia<a.size:=by lia
 refine Oa (bE (x:=a[ia]) (Ov hia) ?_);have mema:a[ia]∈a.toList:=by simp
 refine Oa (kN hC o (seg:=b.toList.drop (ib+1)) hk (t.ga _ mema) ?_ (by rw [Ph,N3]) m'.ml.sb (fun x hx=>t.gb x (PZ hx)) (by lia) fun k1 hk1 b1 b2=>?_)
 ·rw [Pz (by rw [Ph,N3]; exact N9 _)]
 have b1:∀ y∈(b.toList.drop (ib+1)).take k1,C y a[ia]=true:=b1;have b2:∀ y∈b.toList.drop (ib+1+k1),Le C a[ia] y:=fun y hy=>b2 y (by rw [Qp]; exact hy);dsimp only;have sda:=m'.ml.sa;rw [fT hia] at sda;by_cases q2:k1 > 0
 ·rw [if_pos q2];have m2:=m'.Ht (k:=k1) (by lia) fun y hy x hx=>by rw [fT hia] at hx;exact le_head o (le_of_lt o (b1 y hy)) sda x hx
  by_cases q3:(ib+1+k1==b.size)=true
  ·rw [if_pos q3];exact Oi (r.ret (m2.done (.inr (by simpa using q3))) ⟨_,_,_,rfl⟩)
  rw [if_neg q3];exact Br t m2 h1 (by simp at q3; lia) b2 r (by rw [R1]; lia)
 ·rw [if_neg q2];have e0:k1=0:=by lia
  exact Br t m' h1 q1 (by rw [e0] at b2; exact b2) r (by lia)
theorem JL (hC:eJ M A E s κ G C) (o:gj C) (t:F9 G C a b) (hk:kindOf st=κ) (m:KL C a b out ia ib) {R:ForInStep X7→Pu→Prop} (r:Rs (Dn C a b) (KL C a b) sL T7 out.size st R):Ul M A E s (M6 a b out ia ib mg ac bc) R st:=by
 obtain ⟨m,h1,h2⟩:=m;have memb:b[ib]∈b.toList:=by simp
 refine Oa (bE (x:=b[ib]) (Ov h2) ?_);refine Oa (kN hC o (seg:=a.toList.drop ia) hk (t.gb _ memb) (by rw [Pz (by rw [Ph,N3]; exact N9 _)]) (by rw [Ph,N3]) m.ml.sa (fun x hx=>t.ga x (PZ hx)) (by lia) fun k hk1 b1 b2=>?_);have sdb:=m.ml.sb;rw [fT h2] at sdb;have b1:∀ x∈(a.toList.drop ia).take k,∀ y∈b.toList.drop ib,Le C x y:=fun x hx y hy=>by have:=b1 x hx;unfold Aq at this;rw [fT h2] at hy;exact le_head o (show Le C x b[ib] by unfold Le; simpa using this) sdb y hy
 have b2:∀ x∈a.toList.drop (ia+k),Le C b[ib] x:=fun x hx=>by have:=b2 x (by rw [Qp]; exact hx);unfold Aq at this;exact le_of_lt o (by simpa using this)
 dsimp only;by_cases q0:k > 0
 ·rw [if_pos q0];have m2:=m.Hu hk1 b1;by_cases q1:(ia+k+1==a.size)=true
  ·rw [if_pos q1];exact Oi (r.ret (m2.last (by simpa using q1) t.lst) ⟨_,_,_,rfl⟩)
  rw [if_neg q1];by_cases q2:(ia+k==a.size)=true
  ·rw [if_pos q2];exact Oi (r.ret (m2.done (.inl (by simpa using q2))) ⟨_,_,_,rfl⟩)
  rw [if_neg q2];exact Bs hC o t hk m2 (by simp at q1 q2; have:=m2.la; lia) h2 b2 r (by rw [R1]; lia)
 ·rw [if_neg q0];have e0:k=0:=by lia
  exact Bs hC o t hk m h1 h2 (by rw [e0] at b2; exact b2) r (N9 _)
theorem JK (hC:eJ M A E s κ G C) (o:gj C) (t:F9 G C a b) (hk:kindOf st=κ) (m:KL C a b out ia ib) {R:ForInStep X6→Pu→Prop} (r:Rs (Dn C a b) (KL C a b) sL T6 (out.size+1) st R):Ul M A E s (M7 a b mg out ia ib ac bc) R st:=by
 obtain ⟨m,h1,h2⟩:=m;have ea:a[ia]?=some a[ia]:=Ov (by lia);have eb:b[ib]?=some b[ib]:=Ov (by lia);have mema:a[ia]∈a.toList:=by simp
 have memb:b[ib]∈b.toList:=by simp
 refine Oa (bE eb (Oa (bE ea (Oa (hC (t.gb _ memb) (t.ga _ mema) hk ?_)))));dsimp only;have sda:=m.ml.sa;have sdb:=m.ml.sb;rw [fT (by lia)] at sda sdb;cases w:C b[ib] a[ia] with
 | true =>
  rw [if_pos rfl];refine Oa (bE eb ?_);have m':=m.tW h2 (by rw [fT (show ia<a.size by lia)]; exact le_head o (le_of_lt o w) sda);by_cases q1:(ib+1==b.size)=true
  ·rw [if_pos q1];exact Oi (r.ret (m'.done (.inr (by simpa using q1))) ⟨_,_,rfl⟩)
  rw [if_neg q1];have g:=fun c=>r.go (c:=c) ⟨m',h1,by simp at q1; lia⟩ (by unfold sL; rw [Qj]; exact N9 _);exact g7 (P:=fun p=>Ul M A E s p R st) (Oi (g _ ⟨_,_,rfl⟩).1) (Oi (g _ ⟨_,_,rfl⟩).2)
 | false =>
  rw [if_neg N8];refine Oa (bE ea ?_);have m':=m.tX (by lia) (by rw [fT h2]; exact le_head o w sdb);by_cases q1:(ia+1+1==a.size)=true
  ·rw [if_pos q1];exact Oi (r.ret (m'.last (by simpa using q1) t.lst) ⟨_,_,rfl⟩)
  rw [if_neg q1];have g:=fun c=>r.go (c:=c) ⟨m',by simp at q1; lia,h2⟩ (by unfold sL; rw [Qj]; exact N9 _);exact g7 (P:=fun p=>Ul M A E s p R st) (Oi (g _ ⟨_,_,rfl⟩).1) (Oi (g _ ⟨_,_,rfl⟩).2)
theorem wC (hC:eJ M A E s κ G C) (o:gj C) (t:F9 G C a b) {Q:Array Oj→Pu→Prop} (hk:kindOf st=κ) (ha:0<a.size) (hb:0<b.size)
 (h:∀ r g,Dn C a b r→Q r (setG st g)) :
 Ul M A E s (rA a b) Q st:=by
 rw [xU];refine Oa (U3 (Sg ⟨rfl,?_⟩));refine Oa (bE (x:=b[0]) (Ov hb) ?_)
 have m0:MA C a b #[b[0]] 0 1:=by
  have:MA C a b #[] 0 0:=⟨⟨Tv,fun x hx=>(by cases hx),fun x hx=>(by cases hx),U4 _,t.sa,t.sb⟩,O1 _,O1 _⟩
  exact this.tW hb (t.fst hb)
 by_cases c1:(1==b.size)=true
 ·rw [if_pos c1];exact Oi (h _ (U0 st) (m0.done (.inr (by simpa using c1))))
 rw [if_neg c1];by_cases c2:(0+1==a.size)=true
 ·rw [if_pos c2];exact Oi (h _ (U0 st) (m0.last (by simpa using c2) t.lst))
 rw [if_neg c2];exact DO (sz:=sL) (fun hk m r=>JK hC o t hk m r) (fun hk m r=>JL hC o t hk m r) (fun k=>by have:=k.1.len; unfold sL; lia) hk ⟨m0,by simp at c2; lia,by simp at c1; lia⟩ (N9 _) h
end
section pure
variable {α:Type} {C:α→α→Bool}
structure MH (C:α→α→Bool) (L S A B:List α):Prop where
 so:uB C S
 oa:∀ x∈A,∀ z∈S,Le C x z
 ob:∀ x∈B,∀ z∈S,Le C x z
 pm:((A++B)++S).Perm L
 sa:uB C A
 sb:uB C B
theorem MH.len {L S A B:List α} (h:MH C L S A B):S.length+A.length+B.length=L.length:=by have:=h.pm.length_eq;rw [N7,N7] at this;lia
theorem MH.Hu {L S X A B:List α} (h:MH C L S (A++X) B) (hx:∀ y∈B,∀ x∈X,Le C y x):MH C L (X++S) A B:=by
 obtain ⟨s1,s2,s3⟩:=Oo.mp h.sa;refine ⟨Oo.mpr ⟨s2,h.so,fun x hx z hz=>h.oa x (NQ _ hx) z hz⟩,fun x hx' z hz=>?_,fun y hy z hz=>?_,?_,s1,h.sb⟩
 ·rcases NZ.mp hz with q | q
  ·exact s3 x hx' z q
  ·exact h.oa x (Ol _ hx') z q
 ·rcases NZ.mp hz with q | q
  ·exact hx y hy z q
  ·exact h.ob y hy z q
 ·refine UB ?_ h.pm;rw [← OG];refine R0 S ?_;rw [OG,OG];exact QD A Rg
theorem MH.Ht {L S X A B:List α} (h:MH C L S A (B++X)) (hx:∀ y∈A,∀ x∈X,Le C y x):MH C L (X++S) A B:=by
 obtain ⟨s1,s2,s3⟩:=Oo.mp h.sb;refine ⟨Oo.mpr ⟨s2,h.so,fun x hx z hz=>h.ob x (NQ _ hx) z hz⟩,fun x hx' z hz=>?_,fun y hy z hz=>?_,?_,h.sa,s1⟩
 ·rcases NZ.mp hz with q | q
  ·exact hx x hx' z q
  ·exact h.oa x hx' z q
 ·rcases NZ.mp hz with q | q
  ·exact s3 y hy z q
  ·exact h.ob y (Ol _ hy) z q
 ·have:=h.pm;rw [← OG] at this;rw [← OG];exact this
theorem MH.end_ {L S A B:List α} (h:MH C L S A B) (e:A=[]∨B=[]):Done C L (A++B++S):=by
 refine ⟨Oo.mpr ⟨?_,h.so,fun x hx z hz=>?_⟩,h.pm⟩
 ·rcases e with e | e
  ·subst e; exact h.sb
  ·subst e; rw [OT]; exact h.sa
 ·rcases NZ.mp hx with q | q
  ·exact h.oa x q z hz
  ·exact h.ob x q z hz
theorem MH.first {L S A B:List α} (h:MH C L S A B) (hl:∀ y∈B,∀ x∈A,Le C y x):Done C L (B++A++S):=by
 refine ⟨Oo.mpr ⟨Oo.mpr ⟨h.sb,h.sa,hl⟩,h.so,fun x hx z hz=>?_⟩,?_⟩
 ·rcases NZ.mp hx with q | q
  ·exact h.ob x q z hz
  ·exact h.oa x q z hz
 ·exact (R0 S Rg).trans h.pm
theorem le_last (o:gj C) {x y:α} {l:List α} (h:Le C y x) (s:uB C (l++[y])):∀ z∈l++[y],Le C z x:=fun z hz=>by
 rcases NZ.mp hz with q | q
 ·exact o.tr z y x ((Oo.mp s).2.2 z q y (NL.mpr rfl)) h
 ·rw [NL.mp q]; exact h
end pure
section
variable {C:Oj→Oj→Bool}
structure MB (C:Oj→Oj→Bool) (a b out:Array Oj) (na nb:Nat):Prop where
 mh:MH C (a.toList++b.toList) out.toList.reverse (a.toList.take na) (b.toList.take nb)
 la:na≤a.size
 lb:nb≤b.size
theorem MB.len {a b out:Array Oj} {na nb:Nat} (h:MB C a b out na nb):out.size+na+nb=a.size+b.size:=by have:=h.mh.len;have:=h.la;have:=h.lb;rw [List.length_reverse,O9,O9,N7,N3,N3,N3] at *;lia
theorem h8 {i:Nat} (h:i<a.size):a.toList.take (i+1)=a.toList.take i++[a[i]]:=by rw [Tw,PB,Ov h];rfl
theorem qF (l:List Oj) {i k:Nat} (h:i≤k):l.take k=l.take i++(l.take k).drop i:=by
 have:l.take i=(l.take k).take i:=by rw [R3,RJ h]
 rw [this,OY]
theorem MB.tX {b out:Array Oj} {na nb:Nat} (h:MB C a b out (na+1) nb) (hi:na<a.size) (hx:∀ y∈b.toList.take nb,Le C y a[na]):MB C a b (out.push a[na]) na nb:=by refine ⟨?_,by lia,h.lb⟩;rw [QM,SF];have m:=h.mh;rw [h8 hi] at m;exact MH.Hu (X:=[a[na]]) m fun y hy x hx'=>by rw [NL.mp hx']; exact hx y hy
theorem MB.tW {b out:Array Oj} {na nb:Nat} (h:MB C a b out na (nb+1)) (hi:nb<b.size) (hx:∀ y∈a.toList.take na,Le C y b[nb]):MB C a b (out.push b[nb]) na nb:=by refine ⟨?_,h.la,by lia⟩;rw [QM,SF];have m:=h.mh;rw [h8 hi] at m;exact MH.Ht (X:=[b[nb]]) m fun y hy x hx'=>by rw [NL.mp hx']; exact hx y hy
theorem BI (a out:Array Oj) (i j:Nat) (h:j≤a.size):(out++(a.extract i j).reverse).toList.reverse=(a.toList.take j).drop i++out.toList.reverse:=by rw [Pc,SF,Su,List.reverse_reverse,ext_toList,U5]
theorem MB.Hu {a b out:Array Oj} {na nb k:Nat} (h:MB C a b out na nb) (hk:k≤na) (hx:∀ y∈b.toList.take nb,∀ x∈(a.toList.take na).drop k,Le C y x):MB C a b (out++(a.extract k na).reverse) k nb:=by have:=h.la;refine ⟨?_,by lia,h.lb⟩;rw [BI _ _ _ _ h.la];have m:=h.mh;rw [qF a.toList hk] at m;exact MH.Hu m hx
theorem MB.Ht {a b out:Array Oj} {na nb k:Nat} (h:MB C a b out na nb) (hk:k≤nb) (hx:∀ y∈a.toList.take na,∀ x∈(b.toList.take nb).drop k,Le C y x):MB C a b (out++(b.extract k nb).reverse) na k:=by have:=h.lb;refine ⟨?_,h.la,by lia⟩;rw [BI _ _ _ _ h.lb];have m:=h.mh;rw [qF b.toList hk] at m;exact MH.Ht m hx
theorem ql (a:Array Oj) (i:Nat):(a.extract 0 i).toList=a.toList.take i:=by rw [ext_toList,RZ,Nat.sub_zero]
theorem MB.done {b out:Array Oj} {na nb:Nat} (h:MB C a b out na nb) (e:na=0∨nb=0):Dn C a b (a.extract 0 na++b.extract 0 nb++out.reverse):=by unfold Dn;rw [Pc,Pc,ql,ql,Su];exact h.mh.end_ (e.imp (fun e=>by rw [e]; rfl) fun e=>by rw [e]; rfl)
theorem MB.first {a b out:Array Oj} {na nb:Nat} (h:MB C a b out na nb) (e:nb=1) (hb:0<b.size) (hl:∀ x∈a.toList,Le C b[0] x):Dn C a b (b.extract 0 nb++a.extract 0 na++out.reverse):=by unfold Dn;rw [Pc,Pc,ql,ql,Su];refine h.mh.first fun y hy x hx=>?_;rw [e,h8 hb,Ta,Qt] at hy;rw [NL.mp hy];exact hl x (O5 hx)
end
section
variable (a b:Array Oj) (na nb:Nat) (out:Array Oj)
abbrev Y7:=S7 Nat Nat (Array Oj)
abbrev Y6:=S6 Nat Nat (Array Oj)
def Iq:=a.extract 0 na++b.extract 0 nb++out.reverse
def L5:=b.extract 0 nb++a.extract 0 na++out.reverse
noncomputable def ME (mg k k1:Nat):SM (ForInStep Y7):=do
 let x ← Rc a (na-1)
 if (na-1==0)=true then pure (.done (some (Iq a b (na-1) nb (out.push x)),na-1,nb,out.push x,mg,k,k1))
 else if (decide (k<7)&&decide (k1<7))=true then pure (.done (none,na-1,nb,out.push x,mg,k,k1))
 else pure (.yield (none,na-1,nb,out.push x,mg,k,k1))
noncomputable def MF (mg k bc:Nat):SM (ForInStep Y7):=do
 let y ← Rc b (nb-1)
 if (nb-1==1)=true then pure (.done (some (L5 a b na (nb-1) (out.push y)),na,nb-1,out.push y,mg,k,bc))
 else do
  let x ← Rc a (na-1)
  match ← gH true x b 0 (nb-1) (nb-1-1) with
  | some k1 =>
   if nb-1-k1 > 0 then
    if (k1==1)=true then pure (.done (some (L5 a b na k1 (out.push y++(b.extract k1 (nb-1)).reverse)),na,k1,out.push y++(b.extract k1 (nb-1)).reverse,mg,k,nb-1-k1))
    else if (k1==0)=true then pure (.done (some (Iq a b na k1 (out.push y++(b.extract k1 (nb-1)).reverse)),na,k1,out.push y++(b.extract k1 (nb-1)).reverse,mg,k,nb-1-k1))
    else ME a b na k1 (out.push y++(b.extract k1 (nb-1)).reverse) mg k (nb-1-k1)
   else ME a b na (nb-1) (out.push y) mg k (nb-1-k1)
  | _=>pure (.done (some (Iq a b na (nb-1) (out.push y)),na,nb-1,out.push y,mg,k,bc))
noncomputable def M8 (mg ac bc:Nat):SM (ForInStep Y7):=do
 let y ← Rc b (nb-1)
 match ← gH false y a 0 na (na-1) with
 | some k =>
  if na-k > 0 then
   if (k==0)=true then pure (.done (some (Iq a b k nb (out++(a.extract k na).reverse)),k,nb,out++(a.extract k na).reverse,mg,na-k,bc))
   else MF a b k nb (out++(a.extract k na).reverse) mg (na-k) bc
  else MF a b na nb out mg (na-k) bc
 | _=>pure (.done (some (Iq a b na nb out),na,nb,out,mg,ac,bc))
noncomputable def M9 (mg na nb:Nat) (out:Array Oj) (ac bc:Nat):SM (ForInStep Y6):=do
 let y ← Rc b (nb-1)
 let x ← Rc a (na-1)
 match ← lt' y x with
 | some w =>
  if w=true then do
   let x ← Rc a (na-1)
   if (na-1==0)=true then pure (.done (some (Iq a b (na-1) nb (out.push x)),na-1,nb,out.push x,ac+1,0))
   else if ac+1 ≥ mg then pure (.done (none,na-1,nb,out.push x,ac+1,0))
   else pure (.yield (none,na-1,nb,out.push x,ac+1,0))
  else do
   let y ← Rc b (nb-1)
   if (nb-1==1)=true then pure (.done (some (L5 a b na (nb-1) (out.push y)),na,nb-1,out.push y,0,bc+1))
   else if bc+1 ≥ mg then pure (.done (none,na,nb-1,out.push y,0,bc+1))
   else pure (.yield (none,na,nb-1,out.push y,0,bc+1))
 | _=>pure (.done (some (Iq a b na nb out),na,nb,out,ac,bc))
theorem xV:rB a b=(do
 rule "list.sort.merge-hi"
 let x ← Rc a (a.size-1)
 if (a.size-1==0)=true then pure (Iq a b (a.size-1) b.size #[x])
 else if (b.size==1)=true then pure (L5 a b (a.size-1) b.size #[x])
 else mM (a.size+b.size) (M9 a b) (M8 a b) (a.size-1) b.size #[x]):=rfl
end
section
variable {M:UM} {A:O3} {E:NN→NS→Prop} {s:NS} {κ:P7} {G:Oj→Prop} {C:Oj→Oj→Bool} {a b out:Array Oj} {na nb mg k k1 ac bc n:Nat} {st:Pu}
def KH (C:Oj→Oj→Bool) (a b:Array Oj) (na nb:Nat) (out:Array Oj):Prop:=MB C a b out na nb∧0<na∧1<nb
def sH (_ _:Nat) (out:Array Oj):Nat:=out.size
theorem uN (o:gj C) {n:Nat} (h0:0<n) (h:n-1<a.size) (sr:uB C (a.toList.take n)):∀ x∈a.toList.take n,Le C x a[n-1]:=by
 obtain ⟨n,rfl⟩:∃ k,n=k+1:=⟨n-1,by lia⟩
 have h':n<a.size:=h;rw [h8 h'] at sr ⊢;exact le_last o (le_refl o _) sr
theorem BB (m:MB C a b out na nb) (h1:0<na) (h2:1<nb) (hx:∀ (h:na-1<a.size),∀ y∈b.toList.take nb,Le C y a[na-1]) {R:ForInStep Y7→Pu→Prop} (r:Rs (Dn C a b) (KH C a b) sH T7 n st R) (hn:n≤out.size+1) :
 Ul M A E s (ME a b na nb out mg k k1) R st:=by
 have la:=m.la;obtain ⟨na,rfl⟩:∃ n,na=n+1:=⟨na-1,by lia⟩
 have hna:na<a.size:=by lia
 refine Oa (bE (x:=a[na]) (Ov hna) ?_);have m':=m.tX hna (hx hna);have hsz:n≤(out.push a[na]).size:=by rw [Qj]; exact hn
 by_cases q1:(na+1-1==0)=true
 ·rw [if_pos q1];exact Oi (r.ret (m'.done (.inl (by simpa using q1))) ⟨_,_,_,rfl⟩)
 show 4
theorem BC (hC:eJ M A E s κ G C) (o:gj C) (t:F9 G C a b) (hb0:0<b.size) (hk:kindOf st=κ) (m:MB C a b out na nb) (h1:0<na) (h2:1<nb) (hx:∀ (h:nb-1<b.size),∀ x∈a.toList.take na,Le C x b[nb-1]) {R:ForInStep Y7→Pu→Prop} (r:Rs (Dn C a b) (KH C a b) sH T7 n st R) (hn:n≤out.size) :
 Ul M A E s (MF a b na nb out mg k bc) R st:=by
 have la:=m.la;have lb:=m.lb;obtain ⟨nb,rfl⟩:∃ n,nb=n+1:=⟨nb-1,by lia⟩
 have hnb:nb<b.size:=by lia
 refine Oa (bE (x:=b[nb]) (Ov hnb) ?_);rw [Nat.add_sub_cancel] at *;have m':=m.tW hnb (hx hnb);have hsz:(out.push b[nb]).size=out.size+1:=Qj _;by_cases q1:(nb==1)=true
 ·rw [if_pos q1];exact Oi (r.ret (m'.first (by simpa using q1) hb0 (t.fst hb0)) ⟨_,_,_,rfl⟩)
 rw [if_neg q1];have q1:1<nb:=by simp at q1; lia
 have hna:na-1<a.size:=by lia
 refine Oa (bE (x:=a[na-1]) (Ov hna) ?_);have mema:a[na-1]∈a.toList:=by simp
 refine Oa (kN hC o (seg:=b.toList.take nb) hk (t.ga _ mema) (by rw [RZ]) (by rw [O9,N3]; lia) m'.mh.sb (fun x hx=>t.gb x (O5 hx)) (by lia) fun k1 hk1 b1 b2=>?_);have b1:∀ y∈b.toList.take k1,Le C y a[na-1]:=fun y hy=>le_of_lt o (b1 y (by rw [R3,RJ hk1]; exact hy));have b2:∀ y∈(b.toList.take nb).drop k1,Le C a[na-1] y:=b2;dsimp only;by_cases q2:nb-k1 > 0
 ·rw [if_pos q2];have m2:=m'.Ht (k:=k1) (by lia) fun x hx y hy=>o.tr x a[na-1] y (uN o h1 hna m'.mh.sa x hx) (b2 y hy);by_cases q3:(k1==1)=true
  ·rw [if_pos q3];exact Oi (r.ret (m2.first (by simpa using q3) hb0 (t.fst hb0)) ⟨_,_,_,rfl⟩)
  rw [if_neg q3];by_cases q4:(k1==0)=true
  ·rw [if_pos q4];exact Oi (r.ret (m2.done (.inr (by simpa using q4))) ⟨_,_,_,rfl⟩)
  rw [if_neg q4];exact BB m2 h1 (by simp at q3 q4; lia) (fun _=>b1) r (by rw [R1]; lia)
 ·rw [if_neg q2];have e0:k1=nb:=by lia
  exact BB m' h1 q1 (fun _=>by rw [e0] at b1; exact b1) r (by lia)
theorem J8 (hC:eJ M A E s κ G C) (o:gj C) (t:F9 G C a b) (hb:0<b.size) (hk:kindOf st=κ) (m:KH C a b na nb out) {R:ForInStep Y7→Pu→Prop} (r:Rs (Dn C a b) (KH C a b) sH T7 out.size st R):Ul M A E s (M8 a b na nb out mg ac bc) R st:=by
 obtain ⟨m,h1,h2⟩:=m;have la:=m.la;have lb:=m.lb;have hnb:nb-1<b.size:=by lia
 have memb:b[nb-1]∈b.toList:=by simp
 refine Oa (bE (x:=b[nb-1]) (Ov hnb) ?_);refine Oa (kN hC o (seg:=a.toList.take na) hk (t.gb _ memb) (by rw [RZ]) (by rw [O9,N3]; lia) m.mh.sa (fun x hx=>t.ga x (O5 hx)) (by lia) fun k hk1 b1 b2=>?_);have lb2:∀ x∈b.toList.take nb,Le C x b[nb-1]:=uN o (by lia) hnb m.mh.sb;have b1:∀ x∈a.toList.take k,Le C x b[nb-1]:=fun x hx=>by have:=b1 x (by rw [R3,RJ hk1]; exact hx);unfold Aq at this;unfold Le;simpa using this
 have b2:∀ y∈b.toList.take nb,∀ x∈(a.toList.take na).drop k,Le C y x:=fun y hy x hx=>by have:=b2 x hx;unfold Aq at this;exact o.tr y b[nb-1] x (lb2 y hy) (le_of_lt o (by simpa using this))
 dsimp only;by_cases q0:na-k > 0
 ·rw [if_pos q0];have m2:=m.Hu (by lia) b2;by_cases q1:(k==0)=true
  ·rw [if_pos q1];exact Oi (r.ret (m2.done (.inl (by simpa using q1))) ⟨_,_,_,rfl⟩)
  rw [if_neg q1];exact BC hC o t hb hk m2 (by simp at q1; lia) h2 (fun _=>b1) r (by rw [R1]; lia)
 ·rw [if_neg q0];have e0:k=na:=by lia
  exact BC hC o t hb hk m h1 h2 (fun _=>by rw [e0] at b1; exact b1) r (N9 _)
theorem J4 (hC:eJ M A E s κ G C) (o:gj C) (t:F9 G C a b) (hb:0<b.size) (hk:kindOf st=κ) (m:KH C a b na nb out) {R:ForInStep Y6→Pu→Prop} (r:Rs (Dn C a b) (KH C a b) sH T6 (out.size+1) st R):Ul M A E s (M9 a b mg na nb out ac bc) R st:=by
 obtain ⟨m,h1,h2⟩:=m;have la:=m.la;have lb:=m.lb;obtain ⟨na,rfl⟩:∃ n,na=n+1:=⟨na-1,by lia⟩
 obtain ⟨nb,rfl⟩:∃ n,nb=n+1:=⟨nb-1,by lia⟩
 have hna:na<a.size:=by lia
 have hnb:nb<b.size:=by lia
 have ea:a[na]?=some a[na]:=Ov hna;have eb:b[nb]?=some b[nb]:=Ov hnb;have mema:a[na]∈a.toList:=by simp
 have memb:b[nb]∈b.toList:=by simp
 refine Oa (bE eb (Oa (bE ea (Oa (hC (t.gb _ memb) (t.ga _ mema) hk ?_)))));dsimp only;have sda:=m.mh.sa;have sdb:=m.mh.sb;rw [h8 hna] at sda;rw [h8 hnb] at sdb;cases w:C b[nb] a[na] with
 | true =>
  rw [if_pos rfl];refine Oa (bE ea ?_);have m':=m.tX hna (by rw [h8 hnb]; exact le_last o (le_of_lt o w) sdb);by_cases q1:(na+1-1==0)=true
  ·rw [if_pos q1];exact Oi (r.ret (m'.done (.inl (by simpa using q1))) ⟨_,_,rfl⟩)
  rw [if_neg q1];have g:=fun c=>r.go (c:=c) ⟨m',by simp at q1; lia,h2⟩ (by unfold sH; rw [Qj]; exact N9 _);exact g7 (P:=fun p=>Ul M A E s p R st) (Oi (g _ ⟨_,_,rfl⟩).1) (Oi (g _ ⟨_,_,rfl⟩).2)
 | false =>
  rw [if_neg N8];refine Oa (bE eb ?_);have m':=m.tW hnb (by rw [h8 hna]; exact le_last o w sda);by_cases q1:(nb+1-1==1)=true
  ·rw [if_pos q1];exact Oi (r.ret (m'.first (by simpa using q1) hb (t.fst hb)) ⟨_,_,rfl⟩)
  rw [if_neg q1];have g:=fun c=>r.go (c:=c) ⟨m',h1,by simp at q1; lia⟩ (by unfold sH; rw [Qj]; exact N9 _);exact g7 (P:=fun p=>Ul M A E s p R st) (Oi (g _ ⟨_,_,rfl⟩).1) (Oi (g _ ⟨_,_,rfl⟩).2)
theorem wD (hC:eJ M A E s κ G C) (o:gj C) (t:F9 G C a b) {Q:Array Oj→Pu→Prop} (hk:kindOf st=κ) (ha:0<a.size) (hb:0<b.size)
 (h:∀ r g,Dn C a b r→Q r (setG st g)) :
 Ul M A E s (rB a b) Q st:=by
 rw [xV];refine Oa (U3 (Sg ⟨rfl,?_⟩));have hl:a.size-1<a.size:=by lia
 refine Oa (bE (x:=a[a.size-1]) (Ov hl) ?_)
 have m0:MB C a b #[a[a.size-1]] (a.size-1) b.size:=by
  have:MB C a b #[] (a.size-1+1) b.size:=by refine ⟨?_,by lia,N9 _⟩;rw [Pz (by rw [N3]; lia),Pz (by rw [N3]; exact N9 _)];exact ⟨Tv,fun x _ z hz=>(by cases hz),fun x _ z hz=>(by cases hz),(by rw [show ((#[]:Array Oj).toList.reverse)=[] from rfl,OT]),t.sa,t.sb⟩
  refine this.tX hl fun y hy=>t.lst y (O5 hy) _ ?_;rw [fT hl];exact NJ
 by_cases c1:(a.size-1==0)=true
 ·rw [if_pos c1];exact Oi (h _ (U0 st) (m0.done (.inl (by simpa using c1))))
 rw [if_neg c1];by_cases c2:(b.size==1)=true
 ·rw [if_pos c2];exact Oi (h _ (U0 st) (m0.first (by simpa using c2) hb (t.fst hb)))
 rw [if_neg c2];exact DO (sz:=sH) (fun hk m r=>J4 hC o t hb hk m r) (fun hk m r=>J8 hC o t hb hk m r) (fun k=>by have:=k.1.len; unfold sH; lia) hk ⟨m0,by simp at c1; lia,by simp at c2; lia⟩ (N9 _) h
end
def gk (xs:Array Oj) (i:Nat):Oj:=xs[i]?.getD (.none,.none)
variable {xs:Array Oj}
theorem iw {i:Nat} (h:i<xs.size):xs[i]?=some (gk xs i):=by unfold gk;rw [Ov h];rfl
theorem ko {ys:Array Oj} {i j:Nat} (h:xs[i]?=ys[j]?):gk xs i=gk ys j:=by unfold gk; rw [h]
theorem oQ {src d:Nat} (hs:src<xs.size) (hd:d≤src) (k:Nat):gk (bubble xs src d) k=if k=src-d then gk xs src else if src-d<k∧k≤src then gk xs (k-1) else gk xs k:=by
 have e:=getElem?_bubble hs d hd k;by_cases h1:k=src-d
 ·rw [if_pos h1] at e ⊢; exact ko e
 ·rw [if_neg h1] at e ⊢;by_cases h2:src-d<k∧k≤src
  ·rw [if_pos h2] at e ⊢; exact ko e
  ·rw [if_neg h2] at e ⊢; exact ko e
theorem dM {i j:Nat} (hj:j≤xs.size) (k:Nat):gk (mirror xs i j ((j-i) / 2)) k=if i≤k∧k<j then gk xs (i+j-1-k) else gk xs k:=by
 have e:=getElem?_mirror_all (i:=i) hj k;by_cases h1:i≤k∧k<j
 ·rw [if_pos h1] at e ⊢; exact ko e
 ·rw [if_neg h1] at e ⊢; exact ko e
def Up (C:Oj→Oj→Bool) (xs:Array Oj) (lo hi:Nat):Prop:=∀ i j,lo≤i→i≤j→j<hi→Le C (gk xs i) (gk xs j)
def Dw (C:Oj→Oj→Bool) (xs:Array Oj) (lo hi:Nat):Prop:=∀ i j,lo≤i→i≤j→j<hi→Le C (gk xs j) (gk xs i)
structure SB (κ:P7) (a₀:Array Oj) (st:Pu):Prop where
 perm:(OV st).Perm a₀
 kind:kindOf st=κ
 failed:Ss st=none
theorem SB.size {κ:P7} {a₀:Array Oj} {st:Pu} (h:SB κ a₀ st):(OV st).size=a₀.size:=h.perm.size_eq
theorem SB.setArr {κ:P7} {a₀:Array Oj} {st:Pu} (h:SB κ a₀ st) {xs:Array Oj} (hp:xs.Perm (OV st)):SB κ a₀ (PyProof.Rows.setArr st xs):=⟨hp.trans h.perm,h.kind,h.failed⟩
def Good (G:Oj→Prop) (a₀:Array Oj):Prop:=∀ x∈a₀.toList,G x
theorem SB.good {κ:P7} {a₀:Array Oj} {G:Oj→Prop} (h:SB κ a₀ st) (g:Good G a₀) {i:Nat} (hi:i<a₀.size):G (gk (OV st) i):=by
 have hi':i<(OV st).size:=by rw [h.size]; exact hi
 refine g _ ((QB.mp h.perm).mem_iff.mp ?_);have:=iw hi';rw [← PB] at this;exact OF this
section
variable {M:UM} {A:O3} {E:NN→NS→Prop} {s:NS} {κ:P7} {G:Oj→Prop} {C:Oj→Oj→Bool} {a₀:Array Oj}
theorem mP (hC:eJ M A E s κ G C) (g:Good G a₀) {i j:Nat} (hB:SB κ a₀ st) (hi:i<a₀.size) (hj:j<a₀.size)
 (h:Q (some (C (gk (OV st) i) (gk (OV st) j))) st):Ul M A E s (ltAt' i j) Q st:=by
 rw [ltAt'_eq];refine Oa (Sn ?_);show Ul _ _ _ _ (do let x ← Rc (OV st) i; let y ← Rc (OV st) j; lt' x y) Q st;exact Oa (bE (iw (by rw [hB.size]; exact hi)) (Oa (bE (iw (by rw [hB.size]; exact hj)) (hC (hB.good g hi) (hB.good g hj) hB.kind h))))
theorem yQ (hC:eJ M A E s κ G C) (o:gj C) (g:Good G a₀) {lo n ok:Nat} {Q:Bool→Pu→Prop} (hn:lo+n≤a₀.size) (cG:ok≤n) (hB:SB κ a₀ st) (hs:Up C (OV st) lo (lo+ok))
 (h:∀ xs,SB κ a₀ (setArr st xs)→(∀ k,k<lo∨lo+n≤k→gk xs k=gk (OV st) k)→Up C xs lo (lo+n)→Q true (setArr st xs)):Ul M A E s (binarySort' lo n ok) Q st:=by
 rw [binarySort'_eq]
 refine Oa (QW (PV (I:=fun k c st'=>c=(none,())∧∃ xs,st'=setArr st xs∧SB κ a₀ st'∧(∀ k,k<lo∨lo+n≤k→gk xs k=gk (OV st) k)∧Up C xs lo (lo+min k n))
  (Q:=fun c st'=>c=(none,())∧∃ xs,st'=setArr st xs∧SB κ a₀ st'∧(∀ k,k<lo∨lo+n≤k→gk xs k=gk (OV st) k)∧Up C xs lo (lo+n)) ?step ?fin ?init) ?post)
 case post =>rintro c st' ⟨rfl,xs,rfl,hB',hf,hs'⟩;exact Oi (h xs hB' hf hs')
 case init =>
  refine ⟨rfl,OV st,rfl,hB,fun _ _=>rfl,fun i j h1 hij hj=>?_⟩;by_cases h1:ok=0
  ·have:i=j:=by lia
   subst this; exact le_refl o _
  ·exact hs i j (by lia) hij (by lia)
 case fin =>
  rintro c st' ⟨hc,xs,e,hB',hf,hs'⟩;refine ⟨hc,xs,e,hB',hf,?_⟩
  rwa [show min (max (max ok 1) n) n=n by lia] at hs'
 case step =>
  rintro k c st' hak hkn ⟨rfl,xs,rfl,hB',hf,hs'⟩;rw [show min k n=k by lia] at hs';have hk:lo+k<a₀.size:=by lia
  refine Oa (QW (PV (I:=fun x c st''=>st''=setArr st xs∧∃ l r,c=(none,l,r)∧l≤r∧r≤k∧r-l≤k-x ∧
   (∀ i,i<l→Le C (gk xs (lo+i)) (gk xs (lo+k)))∧(∀ i,r≤i→i<k→Le C (gk xs (lo+k)) (gk xs (lo+i))))
   (Q:=fun c st''=>st''=setArr st xs∧∃ l r,c=(none,l,r)∧l≤k ∧
    (∀ i,i<l→Le C (gk xs (lo+i)) (gk xs (lo+k)))∧(∀ i,l≤i→i<k→Le C (gk xs (lo+k)) (gk xs (lo+i)))) ?istep ?ifin ?iinit) ?ipost)
  case iinit=>exact ⟨rfl,0,k,rfl,by lia,by lia,by lia,fun i hi=>by lia,fun i h1 h2=>by lia⟩
  case ifin =>
   rintro c st'' ⟨rfl,l,r,rfl,hlr,hrk,hm,hlo,hhi⟩;have:l=r:=by lia
   subst this;exact ⟨rfl,l,l,rfl,hrk,hlo,hhi⟩
  case istep =>
   rintro x c st'' _ hxk ⟨rfl,l,r,rfl,hlr,hrk,hm,hlo,hhi⟩;dsimp only;by_cases hge:l ≥ r
   ·rw [if_pos hge];have:l=r:=by lia
    subst this;exact Oi ⟨rfl,l,l,rfl,hrk,hlo,hhi⟩
   ·rw [if_neg hge];refine Oa (mP hC g hB' hk (by lia) ?_);cases w:C (gk (OV (setArr st xs)) (lo+k)) (gk (OV (setArr st xs)) (lo+(l+r) / 2)) with
    | true =>dsimp only;rw [if_pos rfl];refine Oi ⟨rfl,l,(l+r) / 2,rfl,by lia,by lia,by lia,hlo,fun i h1 h2=>?_⟩;exact o.tr _ _ _ (le_of_lt o w) (hs' _ _ (by lia) (by lia) (by lia))
    | false =>dsimp only;rw [if_neg N8];refine Oi ⟨rfl,(l+r) / 2+1,r,rfl,by lia,by lia,by lia,fun i h1=>?_,hhi⟩;exact o.tr _ _ _ (hs' _ _ (by lia) (show lo+i≤lo+(l+r) / 2 by lia) (by lia)) w
  case ipost =>
   rintro c st'' ⟨rfl,l,r,rfl,hlk,hlo,hhi⟩;show Ul _ _ _ _ (do moveDown' (lo+k) (lo+l); pure (Py (none,()))) _ _;rw [moveDown'_eq];have hks:lo+k<(OV (setArr st xs)).size:=by rw [hB'.size]; exact hk
   refine Oa (QQ (Oi ⟨rfl,bubble xs (lo+k) (lo+k-(lo+l)),rfl,hB'.setArr (bubble_perm _ _ _),fun i hi=>?_,?_⟩))
   ·rw [oQ hks (by lia),if_neg (by lia),if_neg (by lia)];exact hf i hi
   rw [show min (k+1) n=k+1 by lia];have hks:lo+k<xs.size:=hks;intro i j hli hij hj;show Le C (gk (bubble xs (lo+k) (lo+k-(lo+l))) i) (gk (bubble xs (lo+k) (lo+k-(lo+l))) j);rw [oQ hks (by lia),oQ hks (by lia),show lo+k-(lo+k-(lo+l))=lo+l by lia];have hlo':∀ i,lo≤i→i<lo+l→Le C (gk xs i) (gk xs (lo+k)):=fun i h1 h2=>by have:=hlo (i-lo) (by lia); rwa [show lo+(i-lo)=i by lia] at this
   have hhi':∀ i,lo+l≤i→i<lo+k→Le C (gk xs (lo+k)) (gk xs i):=fun i h1 h2=>by have:=hhi (i-lo) (by lia) (by lia); rwa [show lo+(i-lo)=i by lia] at this
   repeat' split
   all_goals first
    | (exfalso; lia)
    | exact le_refl o _
    | exact hlo' _ (by lia) (by lia)
    | exact hhi' _ (by lia) (by lia)
    | exact hs' _ _ (by lia) (by lia) (by lia)
end
end Tm
set_option pp.maxSteps 1000000
set_option pp.deepTerms true
namespace Tm
variable {xs:Array Oj} {st:Pu} {Q:Option Nat→Pu→Prop} {lo:Nat} {n:Nat}
open PySem PyProof.Rows
section
variable {M:UM} {A:O3} {E:NN→NS→Prop} {s:NS} {κ:P7} {G:Oj→Prop} {C:Oj→Oj→Bool} {a₀:Array Oj}
theorem Bu (o:gj C) {i j:Nat} (h:i=j):Le C (gk xs i) (gk xs j):=by subst h; exact le_refl o _
structure Run (κ:P7) (a₀:Array Oj) (st:Pu) (lo nrem:Nat) (xs:Array Oj):Prop where
 sb:SB κ a₀ (setArr st xs)
 out:∀ k,k<lo∨lo+nrem≤k→gk xs k=gk (OV st) k
theorem Run.size {st:Pu} {lo nrem:Nat} {xs:Array Oj} (r:Run κ a₀ st lo nrem xs):xs.size=a₀.size:=r.sb.size
theorem Run.mirror {st:Pu} {lo nrem i j:Nat} {xs:Array Oj} (r:Run κ a₀ st lo nrem xs) (hi:lo≤i) (hj:j≤lo+nrem) (hn:lo+nrem≤a₀.size):Run κ a₀ st lo nrem (mirror xs i j ((j-i) / 2)):=by refine ⟨r.sb.setArr (mirror_perm _ _ _ _),fun k hk=>?_⟩;rw [dM (by rw [r.size]; lia),if_neg (by lia)];exact r.out k hk
theorem mN {i j:Nat} {Q:Unit→Pu→Prop} (h:Q () (setArr st (mirror (OV st) i j ((j-i) / 2)))):Ul M A E s (TK i j) Q st:=by rw [reverseSlice'_eq]; exact QQ h
theorem uE (hC:eJ M A E s κ G C) (o:gj C) (g:Good G a₀) {nrem a:Nat} {Q:Option (Option Nat)×Nat→Pu→Prop} (hn:lo+nrem≤a₀.size) (ha:1≤a) (han:a≤nrem) (r:Run κ a₀ st lo nrem xs) (hs:Up C xs lo (lo+a))
 (h:∀ n,a≤n→n≤nrem→Up C xs lo (lo+n)→(n=nrem∨C (gk xs (lo+n)) (gk xs (lo+n-1))=true)→Q (none,n) (setArr st xs)) :
 Ul M A E s (forIn [a:nrem] ((none,a):Option (Option Nat)×Nat) fun _ __s=>do
  let __x ← ltAt' (lo+__s.snd) (lo+__s.snd-1)
  match __x with
  | some smaller=>if smaller=true then pure (WA (none,__s.snd)) else pure (Py (none,__s.snd+1))
  | _=>pure (WA (some none,__s.snd))) Q (setArr st xs):=by
 refine PV (I:=fun x c st'=>st'=setArr st xs∧c=(none,x)∧Up C xs lo (lo+x)) ?step ?fin ⟨rfl,rfl,hs⟩;case fin =>rintro c st' ⟨rfl,rfl,hs'⟩;rw [show max a nrem=nrem by lia] at hs' ⊢;exact h nrem han (N9 _) hs' (.inl rfl)
 case step =>
  rintro x c st' hax hxn ⟨rfl,rfl,hs'⟩;dsimp only;refine Oa (mP hC g r.sb (by lia) (by lia) ?_);cases w:C (gk (OV (setArr st xs)) (lo+x)) (gk (OV (setArr st xs)) (lo+x-1)) with
  | true =>dsimp only;rw [if_pos rfl];exact Oi (h x hax (by lia) hs' (.inr w))
  | false =>
   dsimp only;rw [if_neg N8];refine Oi ⟨rfl,rfl,fun i j hi hij hj=>?_⟩;by_cases hjx:j<lo+x
   ·exact hs' i j hi hij hjx
   ·have hj':j=lo+x:=by lia
    subst hj';by_cases hi':i=lo+x
    ·subst hi'; exact le_refl o _
    ·exact o.tr _ _ _ (hs' i (lo+x-1) hi (by lia) (by lia)) w
noncomputable def IA (lo n nrem:Nat):StateT Pu Sem (Option Nat):=do
 let mut n:=n
 rule "list.sort.descending-run"
 n:=n+1
 let mut neq:=0
 for _ in [n:nrem] do
  let some smaller ← ltAt' (lo+n) (lo+n-1) | return none
  if smaller then
   if neq > 0 then TK (lo+n-(neq+1)) (lo+n)
   neq:=0
  else
   let some larger ← ltAt' (lo+n-1) (lo+n) | return none
   if larger then break
   neq:=neq+1
  n:=n+1
 if neq > 0 then TK (lo+n-(neq+1)) (lo+n)
 TK lo (lo+n)
 for _ in [n:nrem] do
  let some smaller ← ltAt' (lo+n) (lo+n-1) | return none
  if smaller then break
  n:=n+1
 return some n
theorem tD (hC:eJ M A E s κ G C) (o:gj C) (g:Good G a₀) {nrem:Nat} (hn:lo+nrem≤a₀.size) (hnn:n+1≤nrem) (r:Run κ a₀ st lo nrem xs) (hs:Dw C xs lo (lo+(n+1)))
    (h:∀ m ys,Run κ a₀ st lo nrem ys→1≤m→m≤nrem→Up C ys lo (lo+m)→Q (some m) (setArr st ys)):Ul M A E s (IA lo n nrem) Q (setArr st xs):=by
  have tail:∀ (m:Nat) (ys:Array Oj),Run κ a₀ st lo nrem ys→1≤m→m≤nrem→Dw C ys lo (lo+m)→Run κ a₀ st lo nrem (mirror ys lo (lo+m) ((lo+m-lo) / 2))∧Up C (mirror ys lo (lo+m) ((lo+m-lo) / 2)) lo (lo+m):=fun m ys r1 h1 h2 hd=>by
    refine ⟨r1.mirror (N9 _) (by lia) hn,fun i j hi hij hj=>?_⟩;have hsz:lo+m≤ys.size:=by rw [r1.size]; lia
    rw [dM hsz,dM hsz,if_pos (by lia),if_pos (by lia)];exact hd _ _ (by lia) (by lia) (by lia)
  have eqv:∀ (ys:Array Oj) (m q:Nat),Run κ a₀ st lo nrem ys→m≤nrem→q+1≤m→Dw C ys lo (lo+m)→(∀ i j,lo+m-(q+1)≤i→i<lo+m→lo+m-(q+1)≤j→j<lo+m→Le C (gk ys i) (gk ys j))→Dw C (mirror ys (lo+m-(q+1)) (lo+m) ((lo+m-(lo+m-(q+1))) / 2)) lo (lo+m):=fun ys m q r1 h1 h2 hd he i j hi hij hj=>by
    have hsz:lo+m≤ys.size:=by rw [r1.size]; lia
    rw [dM hsz,dM hsz]
    repeat' split
    all_goals first
      | (exfalso; lia)
      | exact he _ _ (by lia) (by lia) (by lia) (by lia)
      | exact hd _ _ (by lia) (by lia) (by lia)
  unfold IA;refine Oa (U3 (Sg ⟨rfl,?_⟩));dsimp only
  refine Oa (QW (PV (I:=fun x (c:Option (Option Nat)×Nat×Nat) st'=>∃ neq ys,c=(none,x,neq)∧st'=setArr st ys∧Run κ a₀ st lo nrem ys∧Dw C ys lo (lo+x)∧neq+1≤x∧(∀ i j,lo+x-(neq+1)≤i→i<lo+x→lo+x-(neq+1)≤j→j<lo+x→Le C (gk ys i) (gk ys j)))
    (Q:=fun (c:Option (Option Nat)×Nat×Nat) st'=>∃ m neq ys,c=(none,m,neq)∧st'=setArr st ys∧Run κ a₀ st lo nrem ys∧1≤m∧m≤nrem∧Dw C ys lo (lo+m)∧neq+1≤m∧(∀ i j,lo+m-(neq+1)≤i→i<lo+m→lo+m-(neq+1)≤j→j<lo+m→Le C (gk ys i) (gk ys j))) ?step ?fin ?init) ?post)
  case init=>exact ⟨0,xs,rfl,rfl,r,hs,by lia,fun i j h1 h2 h3 h4=>Bu o (by lia)⟩
  case fin =>rintro c st' ⟨neq,ys,rfl,rfl,r1,hd,h1,h2⟩;rw [show max (n+1) nrem=nrem by lia] at hd h1 h2 ⊢;exact ⟨nrem,neq,ys,rfl,rfl,r1,by lia,N9 _,hd,h1,h2⟩
  case step =>
    rintro x c st' hax hxn ⟨neq,ys,rfl,rfl,r1,hd,h1,h2⟩;dsimp only;refine Oa (mP hC g r1.sb (by lia) (by lia) ?_)
    have one:∀ (zs:Array Oj) (i j:Nat),lo+(x+1)-(0+1)≤i→i<lo+(x+1)→lo+(x+1)-(0+1)≤j→j<lo+(x+1)→Le C (gk zs i) (gk zs j):=fun zs i j h1 h2 h3 h4=>by
      have:i=j:=by lia
      subst this; exact le_refl o _
    cases w:C (gk (OV (setArr st ys)) (lo+x)) (gk (OV (setArr st ys)) (lo+x-1)) with
    | true =>
      dsimp only;rw [if_pos rfl]
      have grow:∀ zs:Array Oj,Dw C zs lo (lo+x)→gk zs (lo+x)=gk ys (lo+x)→Le C (gk ys (lo+x)) (gk zs (lo+x-1))→Dw C zs lo (lo+(x+1)):=fun zs hz e1 e2 i j hi hij hj=>by
        by_cases hjx:j<lo+x
        · exact hz i j hi hij hjx
        · have hj':j=lo+x:=by lia
          subst hj';by_cases hi':i=lo+x
          · subst hi'; exact le_refl o _
          · rw [e1]; exact o.tr _ _ _ e2 (hz i (lo+x-1) hi (by lia) (by lia))
      have w':C (gk ys (lo+x)) (gk ys (lo+x-1))=true:=w;by_cases hq:neq > 0
      · rw [if_pos hq];refine Oa (mN (Oi ⟨0,_,rfl,rfl,r1.mirror (by lia) (by lia) hn,grow _ (eqv ys x neq r1 (by lia) h1 hd h2) ?_ ?_,by lia,one _⟩))
        · rw [dM (show lo+x≤ys.size by rw [r1.size]; lia),if_neg (by lia)]
        · rw [dM (show lo+x≤ys.size by rw [r1.size]; lia),if_pos (by lia)];exact o.tr _ _ _ (le_of_lt o w') (h2 _ _ (by lia) (by lia) (by lia) (by lia))
      · rw [if_neg hq];exact Oi ⟨0,ys,rfl,rfl,r1,grow ys hd rfl (le_of_lt o w'),by lia,one _⟩
    | false =>
      dsimp only;rw [if_neg N8];refine Oa (mP hC g r1.sb (by lia) (by lia) ?_);cases w2:C (gk (OV (setArr st ys)) (lo+x-1)) (gk (OV (setArr st ys)) (lo+x)) with
      | true =>dsimp only;rw [if_pos rfl];exact Oi ⟨x,neq,ys,rfl,rfl,r1,by lia,by lia,hd,h1,h2⟩
      | false =>
        dsimp only;rw [if_neg N8];have w':Le C (gk ys (lo+x-1)) (gk ys (lo+x)):=w;have w2':Le C (gk ys (lo+x)) (gk ys (lo+x-1)):=w2;refine Oi ⟨neq+1,ys,rfl,rfl,r1,fun i j hi hij hj=>?_,by lia,fun i j a1 a2 a3 a4=>?_⟩
        · by_cases hjx:j<lo+x
          · exact hd i j hi hij hjx
          · have hj':j=lo+x:=by lia
            subst hj';by_cases hi':i=lo+x
            · subst hi'; exact le_refl o _
            · exact o.tr _ _ _ w2' (hd i (lo+x-1) hi (by lia) (by lia))
        · by_cases c1:i=lo+x
          · by_cases c2:j=lo+x
            · rw [c1,c2]; exact le_refl o _
            · rw [c1]; exact o.tr _ _ _ w2' (h2 _ _ (by lia) (by lia) (by lia) (by lia))
          · by_cases c2:j=lo+x
            · rw [c2]; exact o.tr _ _ _ (h2 _ _ (by lia) (by lia) (by lia) (by lia)) w'
            · exact h2 _ _ (by lia) (by lia) (by lia) (by lia)
  case post =>
    rintro c st' ⟨m,neq,ys,rfl,rfl,r1,hm1,hm2,hd,h1,h2⟩;dsimp only;by_cases hq:neq > 0
    · rw [if_pos hq];refine Oa (mN ?_);have r2:=r1.mirror (i:=lo+m-(neq+1)) (j:=lo+m) (by lia) (by lia) hn;obtain ⟨r3,u3⟩:=tail m _ r2 hm1 hm2 (eqv ys m neq r1 hm2 h1 hd h2);refine Oa (mN ?_);exact Oa (uE (st:=st) hC o g hn hm1 hm2 r3 u3 fun k a1 a2 a3 _=>Oi (h k _ r3 (by lia) a2 a3))
    · rw [if_neg hq];obtain ⟨r3,u3⟩:=tail m _ r1 hm1 hm2 hd;refine Oa (mN ?_);exact Oa (uE (st:=st) hC o g hn hm1 hm2 r3 u3 fun k a1 a2 a3 _=>Oi (h k _ r3 (by lia) a2 a3))
theorem B2 (hC:eJ M A E s κ G C) (o:gj C) (g:Good G a₀) {nrem:Nat} (hn:lo+nrem≤a₀.size) (h1:1≤nrem) (hB:SB κ a₀ st)
    (h:∀ m ys,Run κ a₀ st lo nrem ys→1≤m→m≤nrem→Up C ys lo (lo+m)→Q (some m) (setArr st ys)):Ul M A E s (countRun' lo nrem) Q st:=by
  rw [countRun'_eq];dsimp only;have r0:Run κ a₀ st lo nrem (OV st):=⟨hB,fun _ _=>rfl⟩
  have hst:setArr st (OV st)=st:=rfl;refine Oa (uE (st:=st) (xs:=OV st) hC o g hn (N9 1) h1 r0 (fun i j hi hij hj=>Bu o (by lia)) fun n a1 a2 a3 a4=>?_);dsimp only;by_cases hnn:n=nrem
  · rw [if_pos (by simpa using hnn)];exact Oi (h n _ r0 a1 a2 a3)
  rw [if_neg (by simpa using hnn)];have hlt:=a4.resolve_left hnn;by_cases hgt:n > 1
  · rw [if_pos hgt];refine Oa (mP hC g hB (by lia) (by lia) ?_);cases w:C (gk (OV st) lo) (gk (OV st) (lo+n-1)) with
    | true =>dsimp only;rw [if_pos rfl];exact Oi (h n _ r0 a1 a2 a3)
    | false =>
      dsimp only;rw [if_neg N8];have eqv:∀ i j,lo≤i→i<lo+n→lo≤j→j<lo+n→Le C (gk (OV st) i) (gk (OV st) j):=fun i j h1 h2 h3 h4 =>o.tr _ _ _ (a3 i (lo+n-1) h1 (by lia) (by lia)) (o.tr _ _ _ w (a3 lo j (N9 _) h3 h4));refine Oa (mN ?_);have hsz:lo+n≤(OV st).size:=by rw [hB.size]; lia
      refine tD (lo:=lo) (n:=n) hC o g hn (by lia) (r0.mirror (N9 _) (by lia) hn) (fun i j hi hij hj=>?_) h;rw [dM hsz,dM hsz]
      repeat' split
      all_goals first
        | (exfalso; lia)
        | exact eqv _ _ (by lia) (by lia) (by lia) (by lia)
        | exact le_refl o _
        | (have hj':j=lo+n:=by lia
           subst hj';exact o.tr _ _ _ (le_of_lt o hlt) (eqv _ _ (by lia) (by lia) (by lia) (by lia)))
        | (have:i=j:=by lia
           subst this; exact le_refl o _)
  · rw [if_neg hgt];have hn1:n=1:=by lia
    subst hn1;refine tD (lo:=lo) (n:=1) (xs:=OV st) hC o g hn (by lia) r0 (fun i j hi hij hj=>?_) h;by_cases hi':i=j
    · subst hi'; exact le_refl o _
    · have hi0:i=lo:=by lia
      have hj1:j=lo+1:=by lia
      subst hi0; subst hj1;exact le_of_lt o hlt
end
theorem xW (i:Nat):mergeAt' i=(do
 let s ← get
 let (some (sa,na,power),some (sb,nb,_)):=((OI s)[i]?,(OI s)[i+1]?) | unsupported "internal:list.sort.pending"
 set (RP s (((OI s).setIfInBounds i (sa,na+nb,power)).eraseIdxIfInBounds (i+1)))
 let some k ← gH false (← Rc (OV s) sb) (OV s) sa na 0 | return false
 let (sa,na):=(sa+k,na-k)
 if na==0 then return true
 let some nb ← gH true (← Rc (OV s) (sa+na-1)) (OV s) sb nb (nb-1) | return false
 if nb==0 then return true
 let x:=(OV s).extract sa sb
 let y:=(OV s).extract sb (sb+nb)
 let merged ← if na≤nb then rA x y else rB x y
 modify fun s=>setArr s (merged.toList.zipIdx.foldl (fun a (p,j)=>a.setIfInBounds (sa+j) p) (OV s))
 return (Ss (← get)).isNone):=rfl
section
variable {M:UM} {A:O3} {E:NN→NS→Prop} {s:NS} {κ:P7} {G:Oj→Prop} {C:Oj→Oj→Bool} {a₀:Array Oj}
theorem Gd {σ:Type} {x:σ} {Q:PUnit→σ→Prop} {st:σ} (h:Q ⟨⟩ x):Ul M A E s (set x:StateT σ Sem PUnit) Q st:=by unfold Ul; rw [StateT.run_set]; exact Oh ⟨rfl,h⟩
theorem BG (xs:Array Oj) (k:Nat):gk xs k=(xs.toList[k]?).getD (.none,.none):=by unfold gk; rw [PB]
theorem kT {i:Nat} (h:lo+n≤xs.size) (hi:i<n):((xs.toList.drop lo).take n)[i]?=some (gk xs (lo+i)):=by rw [Qn hi,Q8,PB];exact iw (by lia)
theorem kQ (h:lo+n≤xs.size):((xs.toList.drop lo).take n).length=n:=by rw [O9,Ph,N3]; lia
theorem oh (o:gj C) (h:lo+n≤xs.size) (sr:uB C ((xs.toList.drop lo).take n)):Up C xs lo (lo+n):=fun i j hi hij hj=>by have e1:=kT (i:=i-lo) h (by lia);have e2:=kT (i:=j-lo) h (by lia);rw [show lo+(i-lo)=i by lia] at e1;rw [show lo+(j-lo)=j by lia] at e2;exact uV o sr (by lia) e1 e2
theorem tL (h:lo+n≤xs.size) (u:Up C xs lo (lo+n)):uB C ((xs.toList.drop lo).take n):=by refine Rw.mpr fun i j hi hj hij=>?_;rw [kQ h] at hi hj;have e1:=kT (i:=i) h hi;have e2:=kT (i:=j) h hj;rw [NG (by rw [kQ h]; exact hi)] at e1;rw [NG (by rw [kQ h]; exact hj)] at e2;rw [OD e1,OD e2];exact u _ _ (by lia) (by lia) (by lia)
theorem Bf (p:Nat):∀ (l:List Oj) (n:Nat) (xs:Array Oj),p+n+l.length≤xs.size→((l.zipIdx n).foldl (fun a q=>a.setIfInBounds (p+q.2) q.1) xs).toList=xs.toList.take (p+n)++l++xs.toList.drop (p+n+l.length)
 | [],n,xs,_=>by show xs.toList=_;rw [OT,Pm,Nat.add_zero,OY]
 | x::l,n,xs,h=>by
  rw [Oy] at h;rw [List.zipIdx_cons,SE,Bf p l (n+1) _ (by rw [Array.size_setIfInBounds]; lia),Tb];have hl:p+n<xs.toList.length:=by rw [N3]; lia
  rw [show p+(n+1)=p+n+1 by lia,Tw,List.take_set_of_le (N9 _),PJ hl,List.drop_set_of_lt (by lia),Oy];show xs.toList.take (p+n)++[x]++l++_=xs.toList.take (p+n)++(x::l)++_;rw [show p+n+1+l.length=p+n+(l.length+1) by lia];simp
theorem wF (hC:eJ M A E s κ G C) (o:gj C) (g:Good G a₀) {i sa na sb nb pw pw2:Nat} {L1 L2:List (Nat×Nat×Nat)} {Q:Bool→SortSt→Prop} (hB:SB κ a₀ st) (hp:(pendingOf st).toList=L1++(sa,na,pw)::(sb,nb,pw2)::L2) (hi:L1.length=i)
    (hab:sb=sa+na) (hna:0<na) (hnb:0<nb) (hsz:sb+nb≤a₀.size) (ua:Up C (OV st) sa sb) (ub:Up C (OV st) sb (sb+nb))
    (h:∀ st',SB κ a₀ st'→(OI st').toList=L1++(sa,na+nb,pw)::L2→(∀ k,k<sa∨sb+nb≤k→gk (OV st') k=gk (OV st) k)→Up C (OV st') sa (sa+(na+nb))→Q true st'):Ul M A E s (mergeAt' i) Q st:=by
  subst hab;have hs0:=hB.size;generalize hxs:OV st=xs at *;rw [xW];refine Oa (Sn ?_);have e1:(OI st)[i]?=some (sa,na,pw):=by rw [← PB,hp,← hi,Ox (N9 _),SR]; rfl
  have e2:(OI st)[i+1]?=some (sa+na,nb,pw2):=by rw [← PB,hp,← hi,Ox (by lia),show L1.length+1-L1.length=1 by lia]; rfl
  rw [e1,e2];dsimp only;refine Oa (Gd ?_);generalize hst1:RP st (((OI st).setIfInBounds i (sa,na+nb,pw)).eraseIdxIfInBounds (i+1))=st1;have hP:(OI st1).toList=L1++(sa,na+nb,pw)::L2:=by rw [← hst1];show (((OI st).setIfInBounds i (sa,na+nb,pw)).eraseIdxIfInBounds (i+1)).toList=_;rw [Array.toList_eraseIdxIfInBounds,Tb,hp,← hi,Sd _ _ (N9 _),SR,List.eraseIdx_append_of_length_le (by lia),show L1.length+1-L1.length=1 by lia];rfl
  have hA1:OV st1=xs:=by rw [← hst1]; exact hxs
  have hB1:SB κ a₀ st1:=by rw [← hst1]; exact ⟨hB.perm,hB.kind,hB.failed⟩
  have hk1:kindOf st1=κ:=hB1.kind;clear hst1 e1 e2 hp;rw [hxs]
  let sg (lo n:Nat):List Oj:=(xs.toList.drop lo).take n
  have gs:∀ x∈xs.toList,G x:=fun x hx=>g x ((QB.mp (hxs ▸ hB.perm)).mem_iff.mp hx);have sA:=tL (n:=na) (by lia) ua;have sB:=tL (n:=nb) (by lia) ub;have hb0:sa+na<xs.size:=by lia
  have eB:(xs.toList.drop (sa+na)).take nb=gk xs (sa+na)::((xs.toList.drop (sa+na)).take nb).drop 1:=by
    have:=kT (xs:=xs) (lo:=sa+na) (n:=nb) (i:=0) (by lia) hnb;cases q:(xs.toList.drop (sa+na)).take nb with
    | nil=>rw [q] at this; cases this
    | cons a r=>rw [q] at this; rw [show gk xs (sa+na)=a from (OD this).symm]; rfl
  refine Oa (bE (iw hb0) ?_);have gb0:G (gk xs (sa+na)):=gs _ (by have:=iw hb0; rw [← PB] at this; exact OF this);refine Oa (kN hC o (seg:=(xs.toList.drop sa).take na) hk1 gb0 rfl (kQ (by lia)) sA (fun x hx=>gs x (PZ (O5 hx))) hna fun k hk b1 b2=>?_);generalize hLA:(xs.toList.drop sa).take na=LA at *;generalize hLB:(xs.toList.drop (sa+na)).take nb=LB at *;have lA:LA.length=na:=by rw [← hLA]; exact kQ (by lia)
  have lB:LB.length=nb:=by rw [← hLB]; exact kQ (by lia)
  have b1:∀ x∈LA.take k,∀ y∈LB,Le C x y:=fun x hx y hy=>by have:=b1 x hx;unfold Aq at this;rw [eB] at hy sB;exact le_head o (show Le C x _ by unfold Le; simpa using this) sB y hy
  have b2:∀ x∈LA.drop k,Le C (gk xs (sa+na)) x:=fun x hx=>by have:=b2 x hx;unfold Aq at this;exact le_of_lt o (by simpa using this)
  have hsplit:xs.toList=xs.toList.take sa++(LA++(LB++xs.toList.drop (sa+na+nb))):=by
    rw [← hLA,← hLB]
    conv=>lhs; rw [← OY sa xs.toList]
    congr 1
    conv=>lhs; rw [← OY na (xs.toList.drop sa),Qp]
    congr 1
    conv=>lhs; rw [← OY nb (xs.toList.drop (sa+na)),Qp]
  have both:((xs.toList.drop sa).take (na+nb))=LA++LB:=by rw [← hLA,← hLB,WJ,Qp]
  dsimp only;have same:Up C xs sa (sa+(na+nb))→Q true st1:=fun u=>h st1 hB1 hP (fun k _=>by rw [hA1]) (by rw [hA1]; exact u);by_cases q1:(na-k==0)=true
  · rw [if_pos q1];have ek:k=na:=by simp at q1; lia
    refine Oi (same (oh o (by lia) ?_));rw [both];refine Oo.mpr ⟨sA,sB,fun x hx y hy=>b1 x ?_ y hy⟩;rw [ek,Pz (by lia)]; exact hx
  rw [if_neg q1];have q1:0<na-k:=by simp at q1; lia
  have hlast:sa+k+(na-k)-1<xs.size:=by lia
  refine Oa (bE (iw hlast) ?_);have elast:LA[na-1]?=some (gk xs (sa+k+(na-k)-1)):=by have:=kT (xs:=xs) (lo:=sa) (n:=na) (i:=na-1) (by lia) (by lia);rw [hLA] at this;rw [this,show sa+(na-1)=sa+k+(na-k)-1 by lia]
  generalize hal:gk xs (sa+k+(na-k)-1)=al at *;have mal:al∈LA:=OF elast;have gal:G al:=gs _ (by rw [hsplit]; exact NQ _ (Ol _ mal));have toal:∀ x∈LA,Le C x al:=fun x hx=>by obtain ⟨j,hj⟩:=Pp hx;have:=(Oe.mp hj).1;exact uV o sA (by lia) hj elast
  refine Oa (kN hC o (seg:=LB) hk1 gal hLB.symm lB sB (fun x hx=>gs x (by rw [hsplit]; exact NQ _ (NQ _ (Ol _ hx)))) (by lia) fun k2 hk2 d1 d2=>?_);have d1:∀ y∈LB.take k2,Le C y al:=fun y hy=>le_of_lt o (d1 y hy);have d2:∀ y∈LB.drop k2,Le C al y:=d2;dsimp only;by_cases q2:(k2==0)=true
  · rw [if_pos q2];have ek:k2=0:=by simpa using q2
    refine Oi (same (oh o (by lia) ?_));rw [both];refine Oo.mpr ⟨sA,sB,fun x hx y hy=>o.tr x al y (toal x hx) (d2 y ?_)⟩;rw [ek,RZ]; exact hy
  rw [if_neg q2];have q2:0<k2:=by simp at q2; lia
  have ex:(xs.extract (sa+k) (sa+na)).toList=LA.drop k:=by rw [ext_toList,← hLA,U5,Qp,show sa+na-(sa+k)=na-k by lia]
  have ey:(xs.extract (sa+na) (sa+na+k2)).toList=LB.take k2:=by rw [ext_toList,← hLB,R3,RJ hk2,show sa+na+k2-(sa+na)=k2 by lia]
  have lx:(xs.extract (sa+k) (sa+na)).size=na-k:=by rw [← N3,ex,Ph,lA]
  have ly:(xs.extract (sa+na) (sa+na+k2)).size=k2:=by rw [← N3,ey,O9,lB]; lia
  have sA':=sA;rw [← OY k LA] at sA';obtain ⟨sA1,sA2,sA3⟩:=Oo.mp sA';have sB':=sB;rw [← OY k2 LB] at sB';obtain ⟨sB1,sB2,sB3⟩:=Oo.mp sB'
  have t:F9 G C (xs.extract (sa+k) (sa+na)) (xs.extract (sa+na) (sa+na+k2)):=by
    refine ⟨fun x hx=>?_,fun x hx=>?_,by rw [ex]; exact sA2,by rw [ey]; exact sB1,fun h0 x hx=>?_,fun y hy x hx=>?_⟩
    · rw [ex] at hx; exact gs x (by rw [hsplit]; exact NQ _ (Ol _ (PZ hx)))
    · rw [ey] at hx; exact gs x (by rw [hsplit]; exact NQ _ (NQ _ (Ol _ (O5 hx))))
    · rw [ex] at hx;have:(xs.extract (sa+na) (sa+na+k2))[0]=gk xs (sa+na):=by rw [Array.getElem_extract];have:=iw hb0;rw [Ov hb0] at this;exact OD this
      rw [this];exact b2 x hx
    · rw [ey] at hy;rw [ex,lx] at hx;have:x=al:=by obtain ⟨j,hj⟩:=Pp hx;have hlt:=(Oe.mp hj).1;rw [Ph,Ph,lA] at hlt;rw [Q8,Q8,show k+(na-k-1+j)=na-1 by lia,elast] at hj;exact (OD hj).symm
      rw [this];exact d1 y hy
  have fin:∀ (r:Array Oj) (gg:Nat),Dn C (xs.extract (sa+k) (sa+na)) (xs.extract (sa+na) (sa+na+k2)) r→Ul M A E s (do
      modify fun s=>setArr s (r.toList.zipIdx.foldl (fun a (x:Oj×Nat)=>match x with | (p,j)=>a.setIfInBounds (sa+k+j) p) (OV s))
      let x ← get
      pure (Ss x).isNone) Q (setG st1 gg):=fun r gg d=>by
    have d:Done C (LA.drop k++LB.take k2) r.toList:=by have d':=d; unfold Dn at d'; rw [ex,ey] at d'; exact d'
    have lr:r.toList.length=na-k+k2:=by rw [d.2.length_eq,N7,Ph,O9,lA,lB]; lia
    have efold:(r.toList.zipIdx.foldl (fun a (x:Oj×Nat)=>match x with | (p,j)=>a.setIfInBounds (sa+k+j) p) xs).toList=xs.toList.take (sa+k)++r.toList++xs.toList.drop (sa+k+r.toList.length):=by have:=Bf (sa+k) r.toList 0 xs (by lia);rw [Nat.add_zero] at this;exact this
    generalize hys:(r.toList.zipIdx.foldl (fun a (x:Oj×Nat)=>match x with | (p,j)=>a.setIfInBounds (sa+k+j) p) xs)=ys at efold;have t1:xs.toList.take (sa+k)=xs.toList.take sa++LA.take k:=by rw [WJ,← hLA,R3,RJ (by lia)]
    have t2:xs.toList.drop (sa+k+r.toList.length)=LB.drop k2++xs.toList.drop (sa+na+nb):=by
      have e3:xs.toList.drop (sa+na+nb)=(xs.toList.drop (sa+na+k2)).drop (nb-k2):=by rw [Qp,show sa+na+k2+(nb-k2)=sa+na+nb by lia]
      rw [lr,show sa+k+(na-k+k2)=sa+na+k2 by lia,← hLB,U5,Qp,e3,OY]
    have eys:ys.toList=xs.toList.take sa++(LA.take k++(r.toList++(LB.drop k2++xs.toList.drop (sa+na+nb)))):=by rw [efold,t1,t2]; simp
    generalize hPRE:xs.toList.take sa=PRE at *;generalize hRST:xs.toList.drop (sa+na+nb)=RST at *;have lPRE:PRE.length=sa:=by rw [← hPRE,O9,N3]; lia
    have e:LA++(LB++RST)=LA.take k++((LA.drop k++LB.take k2)++(LB.drop k2++RST)):=by rw [OG (LA.drop k),← OG (LB.take k2),OY,← OG (LA.take k),OY]
    have pm:ys.toList.Perm xs.toList:=by rw [eys,hsplit,e];exact QD _ (QD _ (List.Perm.append d.2 (U4 _)))
    have lmid:(LA.take k++(r.toList++LB.drop k2)).length=na+nb:=by rw [N7,N7,O9,Ph,lr,lA,lB]; lia
    have eys2:ys.toList=PRE++((LA.take k++(r.toList++LB.drop k2))++RST):=by rw [eys]; simp
    have exs2:xs.toList=PRE++((LA++LB)++RST):=by rw [hsplit]; simp
    have lys:ys.size=xs.size:=by rw [← N3,← N3]; exact pm.length_eq
    refine Oa (QQ (Oa (Sn (Oi ?_))));show Q (Ss st1).isNone _;rw [hB1.failed];have harr:OV (setG st1 gg)=xs:=hA1;rw [harr,hys];refine h _ ⟨?_,hB1.kind,hB1.failed⟩ hP (fun j hj=>?_) ?_
    · refine (QB.mpr ?_:Array.Perm ys xs).trans (hxs ▸ hB.perm);exact pm
    · show gk ys j=gk xs j;rw [BG,BG,eys2,exs2];rcases hj with hj | hj
      · rw [OM (by lia),OM (by lia)]
      · rw [Ox (by lia),Ox (by lia),Ox (by lia),Ox (by rw [N7]; lia),lmid,N7,lA,lB]
    · show Up C ys sa (sa+(na+nb));refine oh o (by lia) ?_;rw [eys2,List.drop_append_of_le_length (by lia),Qx (by lia),Qt,← lmid,List.take_left']
      · refine Oo.mpr ⟨sA1,Oo.mpr ⟨d.1,sB2,fun x hx y hy=>?_⟩,fun x hx y hy=>?_⟩
        · rcases NZ.mp (d.2.mem_iff.mp hx) with z | z
          · exact o.tr x al y (toal x (PZ z)) (d2 y hy)
          · exact sB3 x z y hy
        · rcases NZ.mp hy with z | z
          · rcases NZ.mp (d.2.mem_iff.mp z) with z | z
            · exact sA3 x hx y z
            · exact b1 x hx y (O5 z)
          · exact b1 x hx y (PZ z)
      · rfl
  by_cases q3:na-k≤k2
  · rw [if_pos q3];refine Oa (wC hC o t hk1 (by lia) (by lia) fun r gg d=>?_);exact fin r gg d
  · rw [if_neg q3];refine Oa (wD hC o t hk1 (by lia) (by lia) fun r gg d=>?_);exact fin r gg d
end
def oH (st:Pu):List (Nat×Nat):=(OI st).toList.map fun q=>(q.1,q.2.1)
def Runs (C:Oj→Oj→Bool) (xs:Array Oj):Nat→List (Nat×Nat)→Nat→Prop
 | a,[],e=>a=e
 | a,q::r,e=>q.1=a∧0<q.2∧Up C xs a (a+q.2)∧Runs C xs (a+q.2) r e
section
variable {C:Oj→Oj→Bool}
theorem Runs.le {xs:Array Oj}:∀ {l:List (Nat×Nat)} {a e:Nat},Runs C xs a l e→a+l.length≤e
 | [],a,e,h=>by have h:a=e:=h; simp; lia
 | q::r,a,e,h=>by have:=Runs.le h.2.2.2;have:=h.2.1;rw [Oy];lia
theorem Runs.app {xs:Array Oj}:∀ {l1 l2:List (Nat×Nat)} {a e:Nat},Runs C xs a (l1++l2) e↔∃ m,Runs C xs a l1 m∧Runs C xs m l2 e
 | [],l2,a,e=>⟨fun h=>⟨a,rfl,h⟩,fun ⟨m,h1,h2⟩=>by have h1:a=m:=h1; subst h1; exact h2⟩
 | q::l1,l2,a,e=>by
  constructor
  ·rintro ⟨h1,h2,h3,h4⟩;obtain ⟨m,k1,k2⟩:=Runs.app.mp h4;exact ⟨m,⟨h1,h2,h3,k1⟩,k2⟩
  ·rintro ⟨m,⟨h1,h2,h3,k1⟩,k2⟩;exact ⟨h1,h2,h3,Runs.app.mpr ⟨m,k1,k2⟩⟩
theorem Up.congr {ys:Array Oj} {hi:Nat} (h:Up C xs lo hi) (e:∀ k,lo≤k→k<hi→gk ys k=gk xs k):Up C ys lo hi:=fun i j hi' hij hj=>by rw [e i hi' (by lia),e j (by lia) hj]; exact h i j hi' hij hj
theorem Runs.congr {xs ys:Array Oj}:∀ {l:List (Nat×Nat)} {a e:Nat},Runs C xs a l e→(∀ k,a≤k→k<e→gk ys k=gk xs k)→Runs C ys a l e
 | [],a,e,h,_=>h
 | q::r,a,e,h,g=>by have:=Runs.le h.2.2.2;exact ⟨h.1,h.2.1,h.2.2.1.congr fun k h1 h2=>g k h1 (by lia),Runs.congr h.2.2.2 fun k h1 h2=>g k (by lia) h2⟩
theorem IZ {α:Type} {l:List α} {i:Nat} (h:i+1<l.length):∃ L1 a b L2,l=L1++a::b::L2∧L1.length=i:=by
 refine ⟨l.take i,l[i],l[i+1],l.drop (i+2),?_,by rw [O9]; lia⟩
 conv=>lhs; rw [← OY i l,OB (by lia),OB (by lia)]
variable {M:UM} {A:O3} {E:NN→NS→Prop} {s:NS} {κ:P7} {G:Oj→Prop} {a₀:Array Oj}
theorem iF (hC:eJ M A E s κ G C) (o:gj C) (g:Good G a₀) {i e:Nat} {Q:Bool→Pu→Prop} (hB:SB κ a₀ st) (hr:Runs C (OV st) 0 (oH st) e) (he:e≤a₀.size) (hi:i+1<(OI st).size)
 (h:∀ st',SB κ a₀ st'→Runs C (OV st') 0 (oH st') e→(∀ k,e≤k→gk (OV st') k=gk (OV st) k)→(OI st').size+1=(OI st).size→Q true st'):Ul M A E s (mergeAt' i) Q st:=by
 obtain ⟨L1,⟨sa,na,pw⟩,⟨sb,nb,pw2⟩,L2,hp,hl⟩:=IZ (l:=(OI st).toList) (i:=i) (by rw [N3]; exact hi);have hr':=hr;unfold oH at hr';rw [hp,Od] at hr';obtain ⟨m,r1,r2⟩:=Runs.app.mp hr';obtain ⟨ea,h1,ua,eb,h2,ub,r3⟩:=r2;have ea:sa=m:=ea;have eb:sb=m+na:=eb;have h1:0<na:=h1;have h2:0<nb:=h2;have ua:Up C (OV st) m (m+na):=ua;have ub:Up C (OV st) (m+na) (m+na+nb):=ub;have r3:Runs C (OV st) (m+na+nb) (L2.map fun q=>(q.1,q.2.1)) e:=r3;have l1:0+(L1.map fun q=>(q.1,q.2.1)).length≤m:=Runs.le r1;have l3:m+na+nb+(L2.map fun q=>(q.1,q.2.1)).length≤e:=Runs.le r3;subst ea;subst eb;refine wF hC o g hB hp hl rfl h1 h2 (by lia) ua ub fun st' hB' hp' ho hu=>h st' hB' ?_ (fun k hk=>ho k (by lia)) ?_
 ·unfold oH;rw [hp',Od];refine Runs.app.mpr ⟨sa,r1.congr fun k a1 a2=>ho k (.inl a2),rfl,?_,hu,?_⟩
  ·show 0<na+nb; lia
  ·show Runs C (OV st') (sa+(na+nb)) _ e;rw [← Nat.add_assoc];exact r3.congr fun k a1 a2=>ho k (.inr a1)
 ·rw [← N3,← N3,hp,hp'];simp; lia
theorem GN (c:Prop) [Decidable c] (h:¬ n≤1):(if c then n-2-1 else n-2)+1<n:=by split <;> lia
theorem rC {α β:Type} (g:α→β) (f:α→α) (h:∀ x,g (f x)=g x) (l:List α) (i:Nat):(l.modify i f).map g=l.map g:=by
 refine Ri fun j=>?_;rw [NR,NR,List.getElem?_modify];cases l[j]? with
 | none=>rfl
 | some x =>
  show some (g (if i=j then f x else x))=some (g x);split
  ·rw [h]
  ·rfl
theorem DN (hC:eJ M A E s κ G C) (o:gj C) (g:Good G a₀) {Q:Unit→SortSt→Prop} (hB:SB κ a₀ st) (hp:pendingOf st=#[]) (h2:2≤a₀.size)
    (h:∀ st',(OV st').Perm a₀→Ss st'=none→Up C (OV st') 0 a₀.size→Q () st'):Ul M A E s sortRuns' Q st:=by
  rw [sortRuns'_eq];refine Oa (Sn ?_);dsimp only;simp only [hB.size];generalize minRun' a₀.size a₀.size 0=mr
  refine Oa (QW (PV
    (I:=fun x (c:Option Unit×Nat) st'=>∃ lo,c=(none,lo)∧SB κ a₀ st'∧Runs C (OV st') 0 (oH st') lo∧lo≤a₀.size∧min x a₀.size≤lo)
    (Q:=fun (c:Option Unit×Nat) st'=>c=(none,a₀.size)∧SB κ a₀ st'∧Runs C (OV st') 0 (oH st') a₀.size) ?step ?fin ?init) ?post)
  case init=>exact ⟨0,rfl,hB,by unfold oH; rw [hp]; rfl,O1 _,by lia⟩
  case fin =>
    rintro c st' ⟨lo,rfl,hB',hr,h1,h3⟩;have:lo=a₀.size:=by lia
    subst this;exact ⟨rfl,hB',hr⟩
  case step =>
    rintro x c st' _ hx ⟨lo,rfl,hB',hr,h1,h3⟩;dsimp only;by_cases c1:lo ≥ a₀.size
    · rw [if_pos c1];have:lo=a₀.size:=by lia
      subst this;exact Oi ⟨rfl,hB',hr⟩
    rw [if_neg c1];refine Oa (B2 hC o g (by lia) (by lia) hB' fun m ys r1 m1 m2 u1=>?_);dsimp only;by_cases c2:m<mr
    · rw [if_pos c2];refine Oa (U3 (Sg ⟨rfl,?_⟩));refine Oa (yQ hC o g (by lia) (by lia) r1.sb u1 fun zs sz oz hz=>?_);rw [if_neg ‹11›];have rz:Run κ a₀ st' lo (a₀.size-lo) zs:=⟨sz,fun k hk=>(oz k (by lia)).trans (r1.out k hk)⟩
      have ho:=rz.out;have hr2:Runs C (OV (setArr st' zs)) 0 (oH (setArr st' zs)) lo:=Runs.congr (l:=oH st') hr fun k _ h2=>ho k (.inl h2);have push:∀ cz:Pu,SB κ a₀ cz→Runs C (OV cz) 0 (oH cz) lo→Up C (OV cz) lo (lo+‹49›)→(∃ lo',((none,lo+‹49›):Option Unit×Nat)=(none,lo')∧SB κ a₀ (RP cz ((OI cz).push (lo,‹49›,0)))∧Runs C (OV (RP cz ((OI cz).push (lo,‹49›,0)))) 0 (oH (RP cz ((OI cz).push (lo,‹49›,0)))) lo'∧lo'≤a₀.size∧min (x+1) a₀.size≤lo'):=fun cz hb hr hu=>by refine ⟨lo+‹49›,rfl,⟨hb.perm,hb.kind,hb.failed⟩,?_,by lia,by lia⟩;unfold oH;show Runs C (OV cz) 0 (((OI cz).push (lo,‹49›,0)).toList.map fun q=>(q.1,q.2.1)) (lo+‹49›);rw [QM,Od];exact Runs.app.mpr ⟨lo,hr,rfl,by show 0<‹49›; lia,hu,rfl⟩
      refine Oa (Sn ?_);cases hb:(OI (setArr st' zs)).back? with
      | none=>exact Oa (QQ (Oi (push _ rz.sb hr2 hz)))
      | some q =>
        obtain ⟨s1,n1,p1⟩:=q;dsimp only
        refine Oa (QW (PV
          (I:=fun y (c:Option Unit×Unit) cz=>c=(none,())∧SB κ a₀ cz∧Runs C (OV cz) 0 (oH cz) lo∧Up C (OV cz) lo (lo+‹49›))
          (Q:=fun (c:Option Unit×Unit) cz=>c=(none,())∧SB κ a₀ cz∧Runs C (OV cz) 0 (oH cz) lo∧Up C (OV cz) lo (lo+‹49›)) ?_ (fun _ _ hh=>hh) ⟨rfl,rz.sb,hr2,hz⟩) ?_)
        · rintro y c cz _ _ ⟨rfl,hb2,hr3,hu⟩;refine Oa (Sn ?_);by_cases q1:(OI cz).size > 1
          · rw [if_pos q1,Ov (show (OI cz).size-2<(OI cz).size by lia)];generalize (OI cz)[(OI cz).size-2]'(show (OI cz).size-2<(OI cz).size by lia)=pq;obtain ⟨p1,p2,p3⟩:=pq;dsimp only;split
            · exact Oi ⟨rfl,hb2,hr3,hu⟩
            · refine Oa (iF hC o g hb2 hr3 h1 (by lia) fun st3 hb3 hr4 ho3 _=>?_);exact Oi ⟨rfl,hb3,hr4,hu.congr fun k a1 a2=>ho3 k a1⟩
          · rw [if_neg q1];exact Oi ⟨rfl,hb2,hr3,hu⟩
        · rintro c cz ⟨rfl,hb2,hr3,hu⟩;dsimp only;refine Oa (QQ (Oa (QQ (Oi (push _ ⟨hb2.perm,hb2.kind,hb2.failed⟩ ?_ hu)))));show Runs C (OV cz) 0 (((OI cz).modify ((OI cz).size-1) _).toList.map fun q=>(q.1,q.2.1)) lo;rw [Vg];refine Eq.mpr (congrArg (fun l=>Runs C (OV cz) 0 l lo) (rC _ _ ?_ _ _)) hr3;intro x;rfl
    · rw [if_neg c2];have rz:=r1;have ho:=rz.out;have hz:=u1;generalize ys=zs at *;have hr2:Runs C (OV (setArr st' zs)) 0 (oH (setArr st' zs)) lo:=Runs.congr (l:=oH st') hr fun k _ h2=>ho k (.inl h2);have push:∀ cz:Pu,SB κ a₀ cz→Runs C (OV cz) 0 (oH cz) lo→Up C (OV cz) lo (lo+m)→(∃ lo',((none,lo+m):Option Unit×Nat)=(none,lo')∧SB κ a₀ (RP cz ((OI cz).push (lo,m,0)))∧Runs C (OV (RP cz ((OI cz).push (lo,m,0)))) 0 (oH (RP cz ((OI cz).push (lo,m,0)))) lo'∧lo'≤a₀.size∧min (x+1) a₀.size≤lo'):=fun cz hb hr hu=>by refine ⟨lo+m,rfl,⟨hb.perm,hb.kind,hb.failed⟩,?_,by lia,by lia⟩;unfold oH;show Runs C (OV cz) 0 (((OI cz).push (lo,m,0)).toList.map fun q=>(q.1,q.2.1)) (lo+m);rw [QM,Od];exact Runs.app.mpr ⟨lo,hr,rfl,by show 0<m; lia,hu,rfl⟩
      refine Oa (Sn ?_);cases hb:(OI (setArr st' zs)).back? with
      | none=>exact Oa (QQ (Oi (push _ rz.sb hr2 hz)))
      | some q =>
        obtain ⟨s1,n1,p1⟩:=q;dsimp only
        refine Oa (QW (PV
          (I:=fun y (c:Option Unit×Unit) cz=>c=(none,())∧SB κ a₀ cz∧Runs C (OV cz) 0 (oH cz) lo∧Up C (OV cz) lo (lo+m))
          (Q:=fun (c:Option Unit×Unit) cz=>c=(none,())∧SB κ a₀ cz∧Runs C (OV cz) 0 (oH cz) lo∧Up C (OV cz) lo (lo+m)) ?_ (fun _ _ hh=>hh) ⟨rfl,rz.sb,hr2,hz⟩) ?_)
        · rintro y c cz _ _ ⟨rfl,hb2,hr3,hu⟩;refine Oa (Sn ?_);by_cases q1:(OI cz).size > 1
          · rw [if_pos q1,Ov (show (OI cz).size-2<(OI cz).size by lia)];generalize (OI cz)[(OI cz).size-2]'(show (OI cz).size-2<(OI cz).size by lia)=pq;obtain ⟨p1,p2,p3⟩:=pq;dsimp only;split
            · exact Oi ⟨rfl,hb2,hr3,hu⟩
            · refine Oa (iF hC o g hb2 hr3 h1 (by lia) fun st3 hb3 hr4 ho3 _=>?_);exact Oi ⟨rfl,hb3,hr4,hu.congr fun k a1 a2=>ho3 k a1⟩
          · rw [if_neg q1];exact Oi ⟨rfl,hb2,hr3,hu⟩
        · rintro c cz ⟨rfl,hb2,hr3,hu⟩;dsimp only;refine Oa (QQ (Oa (QQ (Oi (push _ ⟨hb2.perm,hb2.kind,hb2.failed⟩ ?_ hu)))));show Runs C (OV cz) 0 (((OI cz).modify ((OI cz).size-1) _).toList.map fun q=>(q.1,q.2.1)) lo;rw [Vg];refine Eq.mpr (congrArg (fun l=>Runs C (OV cz) 0 l lo) (rC _ _ ?_ _ _)) hr3;intro x;rfl
  case post =>
    rintro c st' ⟨rfl,hB',hr⟩;dsimp only
    refine Oa (QW (PV
      (I:=fun x (c:Option Unit×Unit) cz=>c=(none,())∧SB κ a₀ cz∧Runs C (OV cz) 0 (oH cz) a₀.size∧(OI cz).size≤max 1 (a₀.size-x))
      (Q:=fun (c:Option Unit×Unit) cz=>c=(none,())∧SB κ a₀ cz∧Runs C (OV cz) 0 (oH cz) a₀.size∧(OI cz).size≤1) ?_ ?_ ⟨rfl,hB',hr,?_⟩) ?_)
    · rintro x c cz _ hx ⟨rfl,hb2,hr3,hl⟩;refine Oa (Sn ?_);by_cases q1:(OI cz).size≤1
      · rw [if_pos q1];exact Oi ⟨rfl,hb2,hr3,q1⟩
      rw [if_neg q1];refine Oa (iF hC o g hb2 hr3 (N9 _) (GN _ q1) fun st3 hb3 hr4 _ hs=>?_);exact Oi ⟨rfl,hb3,hr4,by lia⟩
    · rintro c cz ⟨rfl,hb2,hr3,hl⟩;exact ⟨rfl,hb2,hr3,by lia⟩
    · have:=hr.le;unfold oH at this;rw [NH,N3] at this;lia
    · rintro c cz ⟨rfl,hb2,hr3,hl⟩;refine Oi (h cz hb2.perm hb2.failed ?_);cases hq:oH cz with
      | nil =>rw [hq] at hr3;have:0=a₀.size:=hr3;lia
      | cons q r =>
        have hlen:(oH cz).length=(OI cz).size:=by unfold oH; rw [NH,N3]
        rw [hq,Oy] at hlen;have hr0:r=[]:=Sr (by lia);subst hr0;rw [hq] at hr3;obtain ⟨k1,k2,k3,k4⟩:=hr3;have k4:0+q.2=a₀.size:=k4;rw [k4] at k3;exact k3
end
end Tm
namespace VL
variable {Z:NP→Prop} {H:Hp} {a:NP} {vs:List V} {T:NP→Prop} {o:List NP} {α:Type} {C:Int→Int→Prop}
open PySem L2
section
open Classical
inductive D where
 | non | bl (b:Bool) | int (i:Int) | str (x:OX) | ty (n:String)
 | lst (xs:List D) | tup (xs:List D) | ins (C:NP) | scr (ns:List Int) | dct (kvs:List (Int×Int))
def tf (p:Int×Int):Key×V:=(.inl p.1,.int p.2)
abbrev No:NP→Prop:=fun _=>False
def KL (K:NK) (a:NP) (xs:List V):Prop :=
 ∃ (o:Qz) (its:Array NN) (n:Nat),K.lookup a=some o∧o.cls=.type "list" ∧ o.dict=none∧o.data=.seq its n∧its.size≤NM∧Vals xs its.toList
mutual
inductive Is (K:NK) (H:Hp) (Z:NP→Prop):V→D→Prop
 | non:Is K H Z .non .non
 | bl (b:Bool):Is K H Z (.bl b) (.bl b)
 | int (i:Int):Is K H Z (.int i) (.int i)
 | str (x:OX):Is K H Z (.str x) (.str x)
 | ty (n:String):Is K H Z (.ty n) (.ty n)
 | lst {a:NP} {vs:List V} {ds:List D} (hz:¬ Z a) (h:Rd H a (.lst vs)) (hl:vs.length≤NM) (r:IsL K H Z vs ds):Is K H Z (.ref a) (.lst ds)
 | tup {a:NP} {vs:List V} {ds:List D} (hz:¬ Z a) (h:H a=some (.tup vs)) (hl:vs.length≤NM) (r:IsL K H Z vs ds):Is K H Z (.ref a) (.tup ds)
 | ins {a C dx:NP} (hz:¬ Z a) (h:H a=some (.ins C dx [])):Is K H Z (.ref a) (.ins C)
 | dct {a:NP} {kvs:List (Int×Int)} (hz:¬ Z a) (h:Rd H a (.dK (kvs.map tf))) (hl:kvs.length≤NM):Is K H Z (.ref a) (.dct kvs)
 | scr {a:NP} {ns:List Int} (hz:¬ Z a) (h:Rd H a (.lst ‹43›)) (hl:ns.length≤NM):Is K H Z (.ref a) (.scr ns)
 | scrK {a:NP} {ns:List Int} (h:KL K a ‹43›) (hl:ns.length≤NM):Is K H Z (.ref a) (.scr ns)
inductive IsL (K:NK) (H:Hp) (Z:NP→Prop):List V→List D→Prop
 | nil:IsL K H Z [] []
 | cons {v:V} {d:D} {vs:List V} {ds:List D} (h:Is K H Z v d) (r:IsL K H Z vs ds):IsL K H Z (v::vs) (d::ds)
end
def Kp (Z:NP→Prop) (H:Hp) (Z':NP→Prop) (H':Hp):Prop:=∀ a o,H a=some o→¬ Z a→H' a=some o∧¬ Z' a
theorem Kp.refl:Kp Z H Z H:=fun _ _ h z=>⟨h,z⟩
theorem Kp.trans {Z Z1 Z2:NP→Prop} {H H1 H2:Hp} (a:Kp Z H Z1 H1) (b:Kp Z1 H1 Z2 H2):Kp Z H Z2 H2:=fun c o h z=>b c o (a c o h z).1 (a c o h z).2
theorem Kp.same {H':Hp} (s:aW H H'):Kp Z H Z H':=fun _ _ h z=>⟨s _ _ h,z⟩
theorem Kp.less {Z':NP→Prop} (h:∀ a,Z' a→Z a):Kp Z H Z' H:=fun a _ e z=>⟨e,fun q=>z (h a q)⟩
theorem Rd.kp {Z':NP→Prop} {H':Hp} {u:HO} (k:Kp Z H Z' H') (hz:¬ Z a) (h:Rd H a u):Rd H' a u∧¬ Z' a:=by
 rcases h with h | ⟨o,h⟩
 ·exact ⟨.inl (k _ _ h hz).1,(k _ _ h hz).2⟩
 ·exact ⟨.inr ⟨o,(k _ _ h hz).1⟩,(k _ _ h hz).2⟩
mutual
theorem Is.kp {Z Z':NP→Prop} {H H':Hp} (k:Kp Z H Z' H'):∀ {v:V} {d:D},Is K H Z v d→Is K H' Z' v d
 | _,_,.non=>.non
 | _,_,.bl b=>.bl b
 | _,_,.int b=>.int b
 | _,_,.str b=>.str b
 | _,_,.ty b=>.ty b
 | _,_,.lst hz h hl r=>.lst (Rd.kp k hz h).2 (Rd.kp k hz h).1 hl (IsL.kp k r)
 | _,_,.tup hz h hl r=>.tup (k _ _ h hz).2 (k _ _ h hz).1 hl (IsL.kp k r)
 | _,_,.ins hz h=>.ins (k _ _ h hz).2 (k _ _ h hz).1
 | _,_,.dct hz h hl=>.dct (Rd.kp k hz h).2 (Rd.kp k hz h).1 hl
 | _,_,.scr hz h hl=>.scr (Rd.kp k hz h).2 (Rd.kp k hz h).1 hl
 | _,_,.scrK h hl=>.scrK h hl
theorem IsL.kp {Z Z':NP→Prop} {H H':Hp} (k:Kp Z H Z' H'):∀ {v:List V} {d:List D},IsL K H Z v d→IsL K H' Z' v d
 | _,_,.nil=>.nil
 | _,_,.cons h r=>.cons (Is.kp k h) (IsL.kp k r)
end
theorem Is.same {Z:NP→Prop} {H H':Hp} {v:V} {d:D} (h:Is K H Z v d) (s:aW H H'):Is K H' Z v d:=h.kp (Kp.same s)
theorem IsL.same {Z:NP→Prop} {H H':Hp} {v:List V} {d:List D} (h:IsL K H Z v d) (s:aW H H'):IsL K H' Z v d:=h.kp (Kp.same s)
theorem Is.all {v:V} {d:D} (h:Is K H Z v d):Is K H No v d:=h.kp (Kp.less fun _ z=>z.elim)
theorem IsL.all {v:List V} {d:List D} (h:IsL K H Z v d):IsL K H No v d:=h.kp (Kp.less fun _ z=>z.elim)
def D.lD:D→Bool
 | .lst _=>false
 | .tup _=>false
 | .ins _=>false
 | .scr _=>false
 | .dct _=>false
 | _=>true
theorem Is.lD {Z Z':NP→Prop} {H H':Hp} {v:V} {d:D} (h:Is K H Z v d) (e:d.lD=true):Is K H' Z' v d:=by
 cases h with
 | non=>exact .non
 | bl b=>exact .bl b
 | int b=>exact .int b
 | str b=>exact .str b
 | ty b=>exact .ty b
 | lst _ _ _ _=>cases e
 | tup _ _ _ _=>cases e
 | ins _ _=>cases e
 | dct _ _ _=>cases e
 | scr _ _ _=>cases e
 | scrK _ _=>cases e
section
variable {H:Hp} {Z:NP→Prop}
theorem IsL.paired:∀ {vs:List V} {ds:List D},IsL K H Z vs ds→PU (Is K H Z) vs ds
 | _,_,.nil=>.nil
 | _,_,.cons h r=>.cons h (IsL.paired r)
theorem IsL.of:∀ {vs:List V} {ds:List D},PU (Is K H Z) vs ds→IsL K H Z vs ds
 | _,_,.nil=>.nil
 | _,_,.cons h r=>.cons h (IsL.of r)
theorem IsL.length {vs:List V} {ds:List D} (h:IsL K H Z vs ds):vs.length=ds.length:=Qd h.paired
theorem IsL.get:∀ {vs:List V} {ds:List D} {i:Nat} {d:D},IsL K H Z vs ds→ds[i]?=some d→∃ v,vs[i]?=some v∧Is K H Z v d
 | _,_,0,_,.cons h _,e=>by cases e; exact ⟨_,rfl,h⟩
 | _,_,i+1,_,.cons _ r,e=>by obtain ⟨v,e1,h1⟩:=IsL.get (i:=i) r (by simpa using e);exact ⟨v,by simpa using e1,h1⟩
theorem IsL.MG {ds:List D} {i:Nat} {v:V} (h:IsL K H Z vs ds) (e:vs[i]?=some v):∃ d,ds[i]?=some d∧Is K H Z v d:=by have hi:=(Oe.mp e).1;have hl:=h.length;obtain ⟨v',e1,h1⟩:=h.get (i:=i) (d:=ds[i]'(by lia)) (NG _);rw [e] at e1;cases e1;exact ⟨_,NG (by lia),h1⟩
theorem IsL.append {vs us:List V} {ds es:List D} (a:IsL K H Z vs ds) (b:IsL K H Z us es):IsL K H Z (vs++us) (ds++es):=.of (Paired.append a.paired b.paired)
theorem IsL.take (n:Nat) {vs:List V} {ds:List D} (a:IsL K H Z vs ds):IsL K H Z (vs.take n) (ds.take n):=.of (Paired.take n a.paired)
theorem IsL.drop (n:Nat) {vs:List V} {ds:List D} (a:IsL K H Z vs ds):IsL K H Z (vs.drop n) (ds.drop n):=.of (Paired.drop n a.paired)
theorem IsL.set {v:V} {d:D} (q:Is K H Z v d):∀ {vs:List V} {ds:List D} (n:Nat),IsL K H Z vs ds→IsL K H Z (vs.set n v) (ds.set n d)
 | _,_,_,.nil=>.nil
 | _,_,0,.cons _ r=>.cons q r
 | _,_,n+1,.cons h r=>.cons h (IsL.set q n r)
theorem IsL.one {v:V} {d:D} (q:Is K H Z v d):IsL K H Z [v] [d]:=.cons q .nil
theorem IsL.ints:∀ {vs:List V} {ns:List Int},IsL K H Z vs (ns.map D.int)→vs=ns.map V.int
 | _,[],.nil=>rfl
 | _,n::ns,.cons (.int _) r=>by rw [IsL.ints (ns:=ns) r]; rfl
theorem IsL.ofInts:∀ (ns:List Int),IsL K H Z ‹43› (ns.map D.int)
 | []=>.nil
 | n::ns=>.cons (.int n) (IsL.ofInts ns)
end
inductive Sl where
 | un | pu (d:D) | bo (d:D) | ol (ds:List D) | om (rows:List (List D)) | od (kvs:List (Int×Int))
 | pm (a:NP) (ps:List NP) (rows:List (List D)) | pd (a:NP) (kvs:List (Int×Int))
abbrev aK:=List Sl
abbrev Own:=Nat→List NP
def bW (Z:NP→Prop) (os:Own):NP→Prop:=fun a=>Z a∨∃ i,a∈os i
noncomputable def tu (K:NK) (B H:Hp) (T:NP→Prop) (o:List NP):Sl→Option V→Prop
 | .un,_=>o=[]
 | .pu d,v=>o=[]∧∃ u,v=some u∧Is K H T u d
 | .bo d,v=>o=[]∧∃ u,v=some u∧Is K B No u d
 | .ol ds,v=>∃ a vs,o=[a]∧v=some (.ref a)∧H a=some (.lst vs)∧vs.length≤NM∧IsL K H T vs ds
 | .om rows,v=>∃ a ps,o=a::ps∧v=some (.ref a)∧H a=some (.lst ‹41›)∧ps.length≤NM∧PU (fun p ds=>∃ vs,H p=some (.lst vs)∧vs.length≤NM∧IsL K H T vs ds) ps rows
 | .od kvs,v=>∃ a,o=[a]∧v=some (.ref a)∧H a=some (.dK (kvs.map tf))∧kvs.length≤NM
 | .pm a ps rows,v=>o=a::ps∧v=some (.ref a)∧H a=some (.lst ‹41›)∧ps.length≤NM∧PU (fun p ds=>∃ vs,H p=some (.lst vs)∧vs.length≤NM∧IsL K H T vs ds) ps rows
 | .pd a kvs,v=>o=[a]∧v=some (.ref a)∧H a=some (.dK (kvs.map tf))∧kvs.length≤NM
class bB where
 ts:List (NP×OX)
def sh [bB] (H:Hp):Prop:=∀ p∈bB.ts,∃ t,H p.1=some (.tbl #[.str p.2 t])
theorem sh.same [bB] {H':Hp} (h:sh H) (s:aW H H'):sh H':=fun p hp=>let ⟨t,e⟩:=h p hp; ⟨t,s _ _ e⟩
def ZT [bB] (Z:NP→Prop) (H:Hp):Prop:=(∀ a,Z a→∃ o,H a=some o)∧sh H
structure Fr [bB] (K:NK) (B:Hp) (Z:NP→Prop) (os:Own) (ρ:aK) (σ:St) (H:Hp):Prop where
 keep:aW B H
 DI:∀ a,Z a→∃ o,H a=some o
 len:σ.length=ρ.length
 nd:∀ i,(os i).Nodup
 dj:∀ i j a,a∈os i→a∈os j→i=j
 new:∀ i a,a∈os i→B a=none∧¬ Z a
 sl:∀ i,tu K B H (bW Z os) (os i) (ρ.getD i .un) ((σ[i]?).join)
 tab:sh B
variable [bB]
theorem Fr.l9 {B:Hp} {os:Own} {ρ:aK} {σ:St} (f:Fr K B Z os ρ σ H):sh H:=f.tab.same f.keep
theorem Paired.any {α β:Type} {F:α→β→Prop}:∀ {as:List α} {bs:List β} {a:α},PU F as bs→a∈as→∃ b,F a b
 | _,_,_,.cons r t,h=>by
  rcases NU.mp h with rfl | h
  ·exact ⟨_,r⟩
  ·exact Paired.any t h
theorem tu.sZ {B:Hp} {s:Sl} {v:Option V} (h:tu K B H T o s v) (ha:a∈o):∃ u,H a=some u:=by
 cases s with
 | un=>cases h; cases ha
 | pu d=>obtain ⟨rfl,_⟩:=h; cases ha
 | bo d=>obtain ⟨rfl,_⟩:=h; cases ha
 | ol ds =>obtain ⟨b,vs,rfl,_,e,_⟩:=h;cases NL.mp ha;exact ⟨_,e⟩
 | om rows =>
  obtain ⟨b,ps,rfl,_,e,_,r⟩:=h;rcases NU.mp ha with rfl | ha
  ·exact ⟨_,e⟩
  ·obtain ⟨_,vs,q,_⟩:=Paired.any r ha;exact ⟨_,q⟩
 | od kvs =>obtain ⟨b,rfl,_,e,_⟩:=h;cases NL.mp ha;exact ⟨_,e⟩
 | pm b ps rows =>
  obtain ⟨rfl,_,e,_,r⟩:=h;rcases NU.mp ha with rfl | ha
  ·exact ⟨_,e⟩
  ·obtain ⟨_,vs,q,_⟩:=Paired.any r ha;exact ⟨_,q⟩
 | pd b kvs =>obtain ⟨rfl,_,e,_⟩:=h;cases NL.mp ha;exact ⟨_,e⟩
theorem tu.kp {B B' H H':Hp} {T T':NP→Prop} {o:List NP} {s:Sl} {v:Option V} (h:tu K B H T o s v) (k:Kp T H T' H') (hb:aW B B') (ho:∀ a∈o,∀ u,H a=some u→H' a=some u):tu K B' H' T' o s v:=by
 cases s with
 | un=>exact h
 | pu d=>obtain ⟨e,u,e2,i⟩:=h; exact ⟨e,u,e2,i.kp k⟩
 | bo d=>obtain ⟨e,u,e2,i⟩:=h; exact ⟨e,u,e2,i.same hb⟩
 | ol ds=>obtain ⟨a,vs,rfl,e2,e3,hl,i⟩:=h; exact ⟨a,vs,rfl,e2,ho _ (NL.mpr rfl) _ e3,hl,i.kp k⟩
 | om rows =>obtain ⟨a,ps,rfl,e2,e3,hl,i⟩:=h;exact ⟨a,ps,rfl,e2,ho _ NJ _ e3,hl,Paired.mono i fun p ds hp ⟨vs,q,hv,j⟩=>⟨vs,ho _ (NI _ hp) _ q,hv,j.kp k⟩⟩
 | od kvs=>obtain ⟨a,rfl,e2,e3,hl⟩:=h; exact ⟨a,rfl,e2,ho _ (NL.mpr rfl) _ e3,hl⟩
 | pm a ps rows =>obtain ⟨rfl,e2,e3,hl,i⟩:=h;exact ⟨rfl,e2,ho _ NJ _ e3,hl,Paired.mono i fun p ds hp ⟨vs,q,hv,j⟩=>⟨vs,ho _ (NI _ hp) _ q,hv,j.kp k⟩⟩
 | pd a kvs=>obtain ⟨rfl,e2,e3,hl⟩:=h; exact ⟨rfl,e2,ho _ (NL.mpr rfl) _ e3,hl⟩
section
variable {B H H':Hp} {Z:NP→Prop} {os:Own} {ρ:aK} {σ:St}
theorem Fr.grow (f:Fr K B Z os ρ σ H) (s:aW H H'):Fr K B Z os ρ σ H' where
 keep:=f.keep.trans s
 DI:=fun a z=>let ⟨o,e⟩:=f.DI a z; ⟨o,s _ _ e⟩
 len:=f.len
 nd:=f.nd
 dj:=f.dj
 new:=f.new
 sl:=fun i=>(f.sl i).kp (Kp.same s) (aW.refl _) fun a _ u e=>s _ _ e
 tab:=f.tab
theorem Fr.out (f:Fr K B Z os ρ σ H) {p:NP} (hp:H p=none):¬ bW Z os p:=by
 rintro (z | ⟨i,z⟩)
 ·obtain ⟨o,e⟩:=f.DI p z;rw [hp] at e; cases e
 ·obtain ⟨xs,e⟩:=(f.sl i).sZ z;rw [hp] at e; cases e
def jP (os:Own) (i:Nat) (o:List NP):Own:=fun j=>if j=i then o else os j
theorem bD {os:Own} {i:Nat}:jP os i o i=o:=if_pos rfl
theorem cg {os:Own} {i j:Nat} (h:j≠i):jP os i o j=os j:=if_neg h
theorem dh {l:List α} {i:Nat} {x d:α} (h:i<l.length):(l.set i x).getD i d=x:=by rw [NF,PJ h]; rfl
theorem iy {l:List α} {i j:Nat} {x d:α} (h:j≠i):(l.set i x).getD j d=l.getD j d:=by rw [NF,PH (P9 h),← NF]
theorem Fr.step (f:Fr K B Z os ρ σ H) {i:Nat} (hi:i < ρ.length) {o:List NP} {s:Sl} {v:Option V}
 (hk:∀ a u,H a=some u→a∉os i→H' a=some u) (hs:∀ a,a∈os i→∃ u,H' a=some u) (hn:o.Nodup) (ho:∀ a∈o,a∈os i∨H a=none) (ok:tu K B H' (bW Z (jP os i o)) o s v) :
 Fr K B Z (jP os i o) (ρ.set i s) (σ.set i v) H'∧Kp (bW Z os) H (bW Z (jP os i o)) H':=by
 have no:∀ a u,H a=some u→a∉os i→a∉o:=fun a u e n q=>by
  rcases ho a q with z | z
  ·exact n z
  ·rw [z] at e; cases e
 have kp:Kp (bW Z os) H (bW Z (jP os i o)) H':=fun a u e t=>by
  have ni:a∉os i:=fun q=>t (.inr ⟨i,q⟩);refine ⟨hk a u e ni,?_⟩;rintro (z | ⟨j,z⟩)
  ·exact t (.inl z)
  ·show 5
   ·subst hj; rw [bD] at z; exact no a u e ni z
   ·rw [cg hj] at z; exact t (.inr ⟨j,z⟩)
 refine ⟨⟨fun a u e=>hk a u (f.keep a u e) fun q=>?_,fun a z=>?_,?_,fun j=>?_,fun j k a h1 h2=>?_,fun j a h=>?_,fun j=>?_,f.tab⟩,kp⟩
 ·have:=(f.new i a q).1; rw [e] at this; cases this
 ·obtain ⟨u,e⟩:=f.DI a z;exact ⟨u,hk a u e fun q=>(f.new i a q).2 z⟩
 ·rw [Pb,Pb]; exact f.len
 ·show 5
  ·subst hj; rw [bD]; exact hn
  ·rw [cg hj]; exact f.nd j
 ·have sZ:∀ k,a∈os k→∃ u,H a=some u:=fun k z=>let ⟨xs,e⟩:=(f.sl k).sZ z; ⟨_,e⟩
  show 5
  ·by_cases hk':k=i
   ·rw [hj,hk']
   ·subst hj;rw [bD] at h1; rw [cg hk'] at h2;rcases ho a h1 with z | z
    ·exact f.dj _ _ a z h2
    ·obtain ⟨u,e⟩:=sZ k h2; rw [z] at e; cases e
  ·by_cases hk':k=i
   ·subst hk';rw [cg hj] at h1; rw [bD] at h2;rcases ho a h2 with z | z
    ·exact f.dj _ _ a h1 z
    ·obtain ⟨u,e⟩:=sZ j h1; rw [z] at e; cases e
   ·rw [cg hj] at h1; rw [cg hk'] at h2;exact f.dj _ _ a h1 h2
 ·show 5
  ·subst hj;rw [bD] at h;rcases ho a h with z | z
   ·exact f.new _ a z
   ·exact ⟨aW.free f.keep z,fun q=>f.out z (.inl q)⟩
  ·rw [cg hj] at h; exact f.new j a h
 ·show 5
  ·subst hj;have hσ:j < σ.length:=by rw [f.len]; exact hi
   rw [bD,dh hi,PJ hσ];exact ok
  ·rw [cg hj,iy hj,PH (P9 hj)];exact (f.sl j).kp kp (aW.refl _) fun a ha u e=>hk a u e fun q=>hj (f.dj _ _ a ha q)
theorem Fr.put (f:Fr K B Z os ρ σ H) {i:Nat} (hi:i < ρ.length) {v:V} {d:D} (h:Is K H (bW Z os) v d) :
 Fr K B Z (jP os i []) (ρ.set i (.pu d)) (σ.set i (some v)) H∧Kp (bW Z os) H (bW Z (jP os i [])) H:=by
 refine f.step hi (fun a u e _=>e) (fun a ha=>let ⟨xs,e⟩:=(f.sl i).sZ ha; ⟨_,e⟩) O8 (fun a h=>by cases h) ⟨rfl,v,rfl,h.kp (Kp.less ?_)⟩;rintro a (z | ⟨j,z⟩)
 ·exact .inl z
 ·show 5
  ·subst hj; rw [bD] at z; cases z
  ·rw [cg hj] at z; exact .inr ⟨j,z⟩
end
end
section
open Classical
section
abbrev DE:=aK→Option D
section
variable [bB] {K:NK}
def a0 (K:NK) (t:TE) (e:DE):Prop:=∀ {B:Hp} {Z:NP→Prop} {os:Own} {ρ:aK} {σ:L2.St} {H:Hp} {Q:VK} {d:D},Fr K B Z os ρ σ H→e ρ=some d→(∀ v H',aW H H'→Is K H' No v d→Q v H')→t σ H Q
def aq (K:NK) (t:TE) (e:DE):Prop:=∀ {B:Hp} {Z:NP→Prop} {os:Own} {ρ:aK} {σ:L2.St} {H:Hp} {Q:VK} {d:D},Fr K B Z os ρ σ H→e ρ=some d→(∀ v H',aW H H'→Is K H' (bW Z os) v d→Q v H')→t σ H Q
noncomputable def bF (K:NK) (t:TE) (e:aK→Option (List D)):Prop:=∀ {B:Hp} {Z:NP→Prop} {os:Own} {ρ:aK} {σ:L2.St} {H:Hp} {Q:VK} {ds:List D},Fr K B Z os ρ σ H→e ρ=some ds →
 (∀ p vs H',aW H H'→H p=none→H' p=some (.lst vs)→vs.length≤NM→IsL K H' (fun a=>a=p∨bW Z os a) vs ds→Q (.ref p) H')→t σ H Q
def kE (K:NK) (t:TT) (e:aK→Option Bool):Prop:=∀ {B:Hp} {Z:NP→Prop} {os:Own} {ρ:aK} {σ:L2.St} {H:Hp} {Q:Bool→Hp→Prop} {b:Bool},Fr K B Z os ρ σ H→e ρ=some b→(∀ H',aW H H'→Q b H')→t σ H Q
inductive Args (K:NK) (H:Hp) (T:NP→Prop):List Bool→List V→List D→Prop
 | nil:Args K H T [] [] []
 | own {ms:List Bool} {v:V} {d:D} {vs:List V} {ds:List D}:Is K H T v d→Args K H T ms vs ds→Args K H T (true::ms) (v::vs) (d::ds)
 | any {ms:List Bool} {v:V} {d:D} {vs:List V} {ds:List D}:Is K H No v d→Args K H T ms vs ds→Args K H T (false::ms) (v::vs) (d::ds)
noncomputable def wm (K:NK) (ms:List Bool) (t:TA) (e:aK→Option (List D)):Prop:=∀ {B:Hp} {Z:NP→Prop} {os:Own} {ρ:aK} {σ:L2.St} {H:Hp} {Q:List V→Hp→Prop} {ds:List D},Fr K B Z os ρ σ H→e ρ=some ds→(∀ vs H',aW H H'→Args K H' (bW Z os) ms vs ds→Q vs H')→t σ H Q
theorem Args.len {ms:List Bool} {ds:List D} (a:Args K H T ms vs ds):vs.length=ms.length∧ds.length=ms.length:=by
 induction a with
 | nil=>exact ⟨rfl,rfl⟩
 | own h _ ih=>simp [ih.1,ih.2]
 | any h _ ih=>simp [ih.1,ih.2]
theorem Args.JI {H:Hp} {T:NP→Prop}:∀ {n:Nat} {vs:List V} {ds:List D},Args K H T (Oz n true) vs ds→IsL K H T vs ds
 | 0,_,_,.nil=>.nil
 | _+1,_,_,.own h r=>.cons h r.JI
theorem aq.b {t:TE} {e:DE} (h:aq K t e):a0 K t e:=fun f q k=>h f q fun v H' s i=>k v H' s i.all
theorem bF.i {t:TE} {e:aK→Option (List D)} (h:bF K t e):aq K t (fun ρ=>(e ρ).map D.lst):=fun {B Z os ρ σ H Q d} f q k=>by
 dsimp only at q;cases q1:e ρ with
 | none=>rw [q1] at q; cases q
 | some ds =>rw [q1] at q;cases q;refine h f q1 fun p vs H' s hp hp' hl i=>k _ _ s (.lst (f.out hp) (.inl hp') hl (i.kp (Kp.less fun a z=>.inr z)))
def JJ:D→Option (List D)
 | .lst ds=>some ds
 | .scr ns=>some (ns.map D.int)
 | _=>none
theorem Is.seq {v:V} {d:D} {ds:List D} (h:Is K H Z v d) (e:JJ d=some ds):∃ p vs,v=.ref p∧vs.length≤NM∧vs.length=ds.length∧∀ H' Z',Kp Z H Z' H'→dQ K H' p vs∧IsL K H' Z' vs ds:=by
 cases h with
 | lst hz h hl r=>cases e; exact ⟨_,_,rfl,hl,r.length,fun H' Z' k=>⟨.inl (Rd.kp k hz h).1,r.kp k⟩⟩
 | scr hz h hl=>cases e; exact ⟨_,_,rfl,by rw [NH]; exact hl,by simp,fun H' Z' k=>⟨.inl (Rd.kp k hz h).1,.ofInts _⟩⟩
 | scrK h hl=>cases e; exact ⟨_,_,rfl,by rw [NH]; exact hl,by simp,fun H' Z' k=>⟨.inr h,.ofInts _⟩⟩
 | _=>cases e
def gv (e:DE):DE:=fun ρ=>match e ρ with
 | some d=>if d.lD=true then some d else none
 | none=>none
theorem a0.i {t:TE} {e:DE} (h:a0 K t e):aq K t (gv e):=fun {B Z os ρ σ H Q d} f q k=>by
 unfold gv at q;cases q1:e ρ with
 | none=>rw [q1] at q; cases q
 | some d' =>
  rw [q1] at q;have q':(if d'.lD=true then some d' else none)=some d:=q;by_cases c:d'.lD=true
  ·rw [if_pos c] at q';cases q';exact h f q1 fun v H' s i=>k v H' s (i.lD c)
  ·rw [if_neg c] at q'; cases q'
noncomputable def ai (i:Nat):DE:=fun ρ=>match ρ.getD i .un with
 | .pu d=>some d
 | .bo d=>some d
 | .ol ds=>some (.lst ds)
 | .om rows=>some (.lst (rows.map D.lst))
 | .od kvs=>some (.dct kvs)
 | .pm _ _ rows=>some (.lst (rows.map D.lst))
 | .pd _ kvs=>some (.dct kvs)
 | .un=>none
def aC (i:Nat):DE:=fun ρ=>match ρ.getD i .un with
 | .pu d=>some d
 | _=>none
omit [bB] in
theorem join_some {o:Option (Option α)} {u:α} (h:o.join=some u):o=some (some u):=by
 cases o with
 | none=>cases h
 | some x=>rw [show x=some u from h]
theorem gE {H:Hp} {T:NP→Prop}:∀ {ps:List NP} {rows:List (List D)},PU (fun p ds=>∃ vs,H p=some (.lst vs)∧vs.length≤NM∧IsL K H T vs ds) ps rows→IsL K H No ‹41› (rows.map D.lst)
 | _,_,.nil=>.nil
 | _,_,.cons ⟨vs,e,hl,i⟩ r=>.cons (.lst (fun z=>z) (.inl e) hl i.all) (gE r)
theorem ae (i:Nat):a0 K (lC i) (ai i):=fun {B Z os ρ σ H Q d} f q k=>by
 have s:=f.sl i;unfold ai at q;cases e:ρ.getD i .un with
 | un=>rw [e] at q; cases q
 | pu d' =>rw [e] at q s;cases q;obtain ⟨_,u,hu,i⟩:=s;exact ⟨u,join_some hu,k u H (aW.refl _) i.all⟩
 | bo d' =>rw [e] at q s;cases q;obtain ⟨_,u,hu,i⟩:=s;exact ⟨u,join_some hu,k u H (aW.refl _) (i.same f.keep)⟩
 | ol ds =>rw [e] at q s;cases q;obtain ⟨a,vs,_,hu,hH,hl,i⟩:=s;exact ⟨_,join_some hu,k _ H (aW.refl _) (.lst (fun z=>z) (.inl hH) hl i.all)⟩
 | om rows =>rw [e] at q s;cases q;obtain ⟨a,ps,_,hu,hH,hl,i⟩:=s;exact ⟨_,join_some hu,k _ H (aW.refl _) (.lst (fun z=>z) (.inl hH) (by rw [NH]; exact hl) (gE i))⟩
 | od kvs =>rw [e] at q s;cases q;obtain ⟨a,_,hu,hH,hl⟩:=s;exact ⟨_,join_some hu,k _ H (aW.refl _) (.dct (fun z=>z) (.inl hH) hl)⟩
 | pm a ps rows =>rw [e] at q s;cases q;obtain ⟨_,hu,hH,hl,i⟩:=s;exact ⟨_,join_some hu,k _ H (aW.refl _) (.lst (fun z=>z) (.inl hH) (by rw [NH]; exact hl) (gE i))⟩
 | pd a kvs =>rw [e] at q s;cases q;obtain ⟨_,hu,hH,hl⟩:=s;exact ⟨_,join_some hu,k _ H (aW.refl _) (.dct (fun z=>z) (.inl hH) hl)⟩
theorem aE (i:Nat):aq K (lC i) (aC i):=fun {B Z os ρ σ H Q d} f q k=>by
 have s:=f.sl i;unfold aC at q;cases e:ρ.getD i .un with
 | pu d' =>rw [e] at q s;cases q;obtain ⟨_,u,hu,i⟩:=s;exact ⟨u,join_some hu,k u H (aW.refl _) i⟩
 | _=>rw [e] at q; cases q
def dC (d:D):DE:=fun _=>some d
theorem dk {i:Int}:aq K (tC (.int i)) (dC (.int i)):=fun f q k=>by cases q; exact k _ _ (aW.refl _) (.int i)
theorem fk {i:Bool}:aq K (tC (.bl i)) (dC (.bl i)):=fun f q k=>by cases q; exact k _ _ (aW.refl _) (.bl i)
def nX (f:Int→Int→Option D) (a b:DE):DE:=fun ρ=>match a ρ with
 | some (.int i)=>(match b ρ with
  | some (.int j)=>f i j
  | _=>none)
 | _=>none
theorem nq {f:Int→Int→Option D} {a b:DE} {ρ:aK} {d:D} (h:nX f a b ρ=some d):∃ i j,a ρ=some (.int i)∧b ρ=some (.int j)∧f i j=some d:=by
 unfold nX at h;split at h
 ·rename_i i e1;split at h
  ·rename_i j e2;exact ⟨i,j,e1,e2,h⟩
  ·cases h
 ·cases h
theorem Is.isInt {v:V} {i:Int} (h:Is K H Z v (.int i)):v=.int i:=by cases h; rfl
theorem Is.C8 {v:V} {i:Bool} (h:Is K H Z v (.bl i)):v=.bl i:=by cases h; rfl
variable {ta tb tc:TE} {a b c:DE}
theorem ox {g:Int→Int→V} (gd:Int→Int→D) (hg:∀ i j H Z,Is K H Z (g i j) (gd i j)) (ha:a0 K ta a) (hb:a0 K tb b):aq K (nW (zy g) ta tb) (nX (fun i j=>some (gd i j)) a b):=fun {B Z os ρ σ H Q d} f q k=>by obtain ⟨i,j,e1,e2,e3⟩:=nq q;cases e3;refine ha f e1 fun v H1 s1 i1=>hb (f.grow s1) e2 fun u H2 s2 i2=>?_;exact ⟨i,j,i1.isInt,i2.isInt,k _ _ ‹47› (hg i j _ _)⟩
def gC (C:Int→Int→Prop) (g:Int→Int→D):Int→Int→Option D:=fun i j=>if C i j then some (g i j) else none
theorem vR {g:Int→Int→D} {i j:Int} (h:C i j):gC C g i j=some (g i j):=if_pos h
theorem u4 {g:Int→Int→V} (gd:Int→Int→D) (hg:∀ i j H Z,Is K H Z (g i j) (gd i j)) (ha:a0 K ta a) (hb:a0 K tb b):aq K (nW (rI C g) ta tb) (nX (gC C gd) a b):=fun {B Z os ρ σ H Q d} f q k=>by
 obtain ⟨i,j,e1,e2,e3⟩:=nq q;unfold gC at e3;by_cases c:C i j
 ·rw [if_pos c] at e3;cases e3;refine ha f e1 fun v H1 s1 i1=>hb (f.grow s1) e2 fun u H2 s2 i2=>?_;exact ⟨i,j,i1.isInt,i2.isInt,c,k _ _ ‹47› (hg i j _ _)⟩
 ·rw [if_neg c] at e3; cases e3
def jx:DE→DE→DE:=nX fun i j=>some (.int (i+j))
def Ag:DE→DE→DE:=nX fun i j=>some (.int (i-j))
def oX:DE→DE→DE:=nX (gC UO fun i j=>.int (i*j))
def nu:DE→DE→DE:=nX (gC (fun _ j=>0<j∧j.natAbs.log2<9000) fun i j=>.int (i / j))
def ky:DE→DE→DE:=nX (gC (fun _ j=>0<j) fun i j=>.int (i % j))
def FG:DE→DE→DE:=nX (gC HI fun i j=>.int (i ^ j.toNat))
def yx:DE→DE→DE:=nX fun i j=>some (.bl (decide (i<j)))
def LL:DE→DE→DE:=nX fun i j=>some (.bl (decide (i≤j)))
def Hs:DE→DE→DE:=nX fun i j=>some (.bl (decide (j<i)))
def Kr:DE→DE→DE:=nX fun i j=>some (.bl (decide (j≤i)))
theorem d9 (ha:a0 K ta a) (hb:a0 K tb b):aq K (nW (zy fun i j=>.int (i+j)) ta tb) (jx a b):=ox (fun i j=>.int (i+j)) (fun _ _ _ _=>.int _) ha hb
theorem u0 (ha:a0 K ta a) (hb:a0 K tb b):aq K (nW (zy fun i j=>.int (i-j)) ta tb) (Ag a b):=ox (fun i j=>.int (i-j)) (fun _ _ _ _=>.int _) ha hb
theorem iG (ha:a0 K ta a) (hb:a0 K tb b):aq K (nW (rI UO fun i j=>.int (i*j)) ta tb) (oX a b):=u4 (fun i j=>.int (i*j)) (fun _ _ _ _=>.int _) ha hb
theorem kP (ha:a0 K ta a) (hb:a0 K tb b):aq K (nW (rI (fun _ j=>0<j∧j.natAbs.log2<9000) fun i j=>.int (i / j)) ta tb) (nu a b):=u4 (fun i j=>.int (i / j)) (fun _ _ _ _=>.int _) ha hb
theorem eW (ha:a0 K ta a) (hb:a0 K tb b):aq K (nW (rI (fun _ j=>0<j) fun i j=>.int (i % j)) ta tb) (ky a b):=u4 (fun i j=>.int (i % j)) (fun _ _ _ _=>.int _) ha hb
theorem Ef (ha:a0 K ta a) (hb:a0 K tb b):aq K (nW (rI HI fun i j=>.int (i ^ j.toNat)) ta tb) (FG a b):=u4 (fun i j=>.int (i ^ j.toNat)) (fun _ _ _ _=>.int _) ha hb
theorem jF (ha:a0 K ta a) (hb:a0 K tb b):aq K (nW (zy fun i j=>.bl (decide (i<j))) ta tb) (yx a b):=ox (fun i j=>.bl (decide (i<j))) (fun _ _ _ _=>.bl _) ha hb
theorem HW (ha:a0 K ta a) (hb:a0 K tb b):aq K (nW (zy fun i j=>.bl (decide (i≤j))) ta tb) (LL a b):=ox (fun i j=>.bl (decide (i≤j))) (fun _ _ _ _=>.bl _) ha hb
theorem xc (ha:a0 K ta a) (hb:a0 K tb b):aq K (nW (zy fun i j=>.bl (decide (j<i))) ta tb) (Hs a b):=ox (fun i j=>.bl (decide (j<i))) (fun _ _ _ _=>.bl _) ha hb
theorem Eh (ha:a0 K ta a) (hb:a0 K tb b):aq K (nW (zy fun i j=>.bl (decide (j≤i))) ta tb) (Kr a b):=ox (fun i j=>.bl (decide (j≤i))) (fun _ _ _ _=>.bl _) ha hb
def mE (a:DE):DE:=fun ρ=>match a ρ with
 | some (.int i)=>some (.int (-i))
 | _=>none
theorem jf (ha:a0 K ta a):aq K (MZ (rU fun i=>.int (-i)) ta) (mE a):=fun {B Z os ρ σ H Q d} f q k=>by
 unfold mE at q;split at q
 ·rename_i i e1;cases q;exact ha f e1 fun v H1 s1 i1=>⟨i,i1.isInt,k _ _ s1 (.int _)⟩
 ·cases q
def dT (a:DE):aK→Option Bool:=fun ρ=>match a ρ with
 | some (.bl b)=>some b
 | _=>none
theorem aY (ha:a0 K ta a):kE K (HL ta) (dT a):=fun {B Z os ρ σ H Q d} f q k=>by
 unfold dT at q;split at q
 ·rename_i b e;cases q;exact ha f e fun v H1 s1 i1=>⟨_,i1.C8,k _ s1⟩
 ·cases q
noncomputable def Gg:D→Option Bool
 | .non=>some false
 | .bl b=>some b
 | .int i=>some (i != 0)
 | .str y=>if y.length≤NM then some ((y.length:Int) != 0) else none
 | .lst ds=>some (!ds.isEmpty)
 | .tup ds=>some (!ds.isEmpty)
 | .scr ns=>some (!ns.isEmpty)
 | _=>none
theorem rL {ds:List D} (h:IsL K H Z vs ds):vs.isEmpty=ds.isEmpty:=by cases h <;> rfl
theorem IL {v:V} {d:D} {b:Bool} (h:Is K H Z v d) (e:Gg d=some b):DA K v H b:=by
 cases h with
 | non=>cases e; rfl
 | bl b=>cases e; rfl
 | int i=>cases e; rfl
 | str x =>
  have e:(if x.length≤NM then some ((x.length:Int) != 0) else none)=some b:=e;by_cases c:x.length≤NM
  ·rw [if_pos c] at e; cases e; exact ⟨c,rfl⟩
  ·rw [if_neg c] at e; cases e
 | ty n=>cases e
 | lst hz h hl r=>cases e; exact .inl ⟨_,.inl h,by rw [rL r]⟩
 | tup hz h hl r=>cases e; exact .inr (.inl ⟨_,.inl (.inl h),by rw [rL r]⟩)
 | ins _ _=>cases e
 | dct _ _ _=>cases e
 | scr hz h hl=>cases e; exact .inl ⟨_,.inl h,by cases ‹List Int› <;> rfl⟩
 | scrK h hl=>cases e; exact .inl ⟨_,.inr h,by cases ‹List Int› <;> rfl⟩
def fY (a:DE):aK→Option Bool:=fun ρ=>match a ρ with
 | some d=>Gg d
 | none=>none
theorem cQ (ha:a0 K ta a):kE K (fun σ H Q=>ta σ H fun x H'=>∃ k,DA K x H' k∧Q k H') (fY a):=fun {B Z os ρ σ H Q b} f q k=>by
 unfold fY at q;split at q
 ·rename_i d e;exact ha f e fun v H1 s1 i1=>⟨b,IL i1 q,k _ s1⟩
 ·cases q
variable {tA tB':TT} {x y:aK→Option Bool}
def Aj (x y:aK→Option Bool):aK→Option Bool:=fun ρ=>match x ρ with
 | some true=>y ρ
 | some false=>some false
 | none=>none
def uj (x y:aK→Option Bool):aK→Option Bool:=fun ρ=>match x ρ with
 | some true=>some true
 | some false=>y ρ
 | none=>none
def hV (x:aK→Option Bool):aK→Option Bool:=fun ρ=>match x ρ with
 | some b=>some (!b)
 | none=>none
theorem za (ha:kE K tA x) (hb:kE K tB' y):kE K (Lc tA tB') (Aj x y):=fun {B Z os ρ σ H Q b} f q k=>by
 unfold Aj at q;split at q
 ·rename_i e;exact ha f e fun H1 s1=>vN (hb (f.grow s1) q fun H2 s2=>k _ ‹47›)
 ·rename_i e;cases q;exact ha f e fun H1 s1=>pU (k _ s1)
 ·cases q
theorem gT (ha:kE K tA x) (hb:kE K tB' y):kE K (Mg tA tB') (uj x y):=fun {B Z os ρ σ H Q b} f q k=>by
 unfold uj at q;split at q
 ·rename_i e;cases q;exact ha f e fun H1 s1=>vN (k _ s1)
 ·rename_i e;exact ha f e fun H1 s1=>pU (hb (f.grow s1) q fun H2 s2=>k _ ‹47›)
 ·cases q
theorem du (ha:kE K tA x):kE K (IQ tA) (hV x):=fun {B Z os ρ σ H Q b} f q k=>by
 unfold hV at q;split at q
 ·rename_i c e;cases q;exact ha f e fun H1 s1=>k _ s1
 ·cases q
def bM:aK→Option Bool:=fun _=>some true
theorem bU:kE K AL bM:=fun f q k=>by cases q; exact k _ (aW.refl _)
def iV (a b:DE):DE:=fun ρ=>match a ρ with
 | some (.bl true)=>b ρ
 | some (.bl false)=>some (.bl false)
 | _=>none
def Dm (a b:DE):DE:=fun ρ=>match a ρ with
 | some (.bl true)=>some (.bl true)
 | some (.bl false)=>b ρ
 | _=>none
def uk (a:DE):DE:=fun ρ=>match a ρ with
 | some (.bl c)=>some (.bl (!c))
 | _=>none
theorem gB (ha:a0 K ta a) (hb:aq K tb b):aq K (HU ta tb) (iV a b):=fun {B Z os ρ σ H Q d} f q k=>by
 unfold iV at q;split at q
 ·rename_i e;exact ha f e fun v H1 s1 i1=>⟨true,i1.C8,vN (hb (f.grow s1) q fun v H2 s2=>k _ _ ‹47›)⟩
 ·rename_i e;cases q;exact ha f e fun v H1 s1 i1=>⟨false,i1.C8,pU (k _ _ s1 (.bl _))⟩
 ·cases q
theorem Eg (ha:a0 K ta a) (hb:aq K tb b):aq K (K6 ta tb) (Dm a b):=fun {B Z os ρ σ H Q d} f q k=>by
 unfold Dm at q;split at q
 ·rename_i e;cases q;exact ha f e fun v H1 s1 i1=>⟨true,i1.C8,vN (k _ _ s1 (.bl _))⟩
 ·rename_i e;exact ha f e fun v H1 s1 i1=>⟨false,i1.C8,pU (hb (f.grow s1) q fun v H2 s2=>k _ _ ‹47›)⟩
 ·cases q
theorem AX (ha:a0 K ta a):aq K (HP ta) (uk a):=fun {B Z os ρ σ H Q d} f q k=>by
 unfold uk at q;split at q
 ·rename_i c e;cases q;exact ha f e fun v H1 s1 i1=>⟨c,i1.C8,k _ _ s1 (.bl _)⟩
 ·cases q
def L6 (x:aK→Option Bool) (a b:DE):DE:=fun ρ=>match x ρ with
 | some true=>a ρ
 | some false=>b ρ
 | none=>none
theorem Lg (h:kE K tA x) (ha:aq K ta a) (hb:aq K tb b):aq K (M3 tA ta tb) (L6 x a b):=fun {B Z os ρ σ H Q d} f q k=>by
 unfold L6 at q;split at q
 ·rename_i e;exact h f e fun H1 s1=>vN (ha (f.grow s1) q fun v H2 s2=>k _ _ ‹47›)
 ·rename_i e;exact h f e fun H1 s1=>pU (hb (f.grow s1) q fun v H2 s2=>k _ _ ‹47›)
 ·cases q
end
end
end
end VL
namespace L2
variable {K:NK}
open PySem PySem.Spec PyProof.Rows
section
variable {X:Cx} {pins:List (NP×Qz)} {σ:St} {H:Hp} {s:NS} {l:NP} {xs:List V}
theorem Inv.m4 (I:Inv X pins σ H s) (hH:Rd H l (.lst xs)):xs.length≤NM∧∃ (its:List NN) (n:Nat),Vals xs its∧xs.length=its.length∧s.heap.get? l=some { cls:=.type "list", data:=.seq its.toArray n }:=by obtain ⟨z,its,n,r,e⟩:=hH.ok I.cG;exact ⟨z,its,n,r,r.length,e⟩
def Ib:R2:=fun x y H Q=>∃ l b xs zs,x=.ref l∧y=.ref b∧Rd H l (.lst xs)∧Rd H b (.lst zs)∧xs.length+zs.length≤NM∧∀ p,H p=none→Q (.ref p) (upd H p (.lst (xs++zs)))
theorem kX:o6 X (Sq .Add) Ib:=by
 intro pins s σ H x y v u Q I rx ry h;obtain ⟨l,b,xs,zs,rfl,rfl,hH,hB,hz,q⟩:=h;cases rx;cases ry;obtain ⟨z,its,n,r,hl,e⟩:=I.m4 hH;obtain ⟨z2,its2,n2,r2,hl2,e2⟩:=I.m4 hB;refine PySem.P.add_list e e2 ?_ (by rw [NY,NY]; lia);have ea:its.toArray++its2.toArray=(its++its2).toArray:=by simp
 rw [ea];exact ⟨.ref _,_,I.JM (t':=s.toks) (r.append r2) (by rw [N7]; lia),rfl,q _ I.fresh⟩
def Ia:V→List V→Hp→VK→Prop:=fun x vs H Q=>∃ l b xs zs,x=.ref l∧vs=[.ref b]∧H l=some (.lst xs)∧Rd H b (.lst zs)∧xs.length+zs.length≤NM∧Q .non (upd H l (.lst (xs++zs)))
theorem vI:Ng X "list.extend" Ia:=by
 intro pins s σ H x vs v us Q I rx rv h;obtain ⟨l,b,xs,zs,rfl,rfl,hH,hB,hz,q⟩:=h;cases rx;obtain ⟨u,rfl,ru⟩:=rv.one;cases ru;obtain ⟨z,its,n,r,hl,e⟩:=I.JG hH;obtain ⟨z2,its2,n2,r2,hl2,e2⟩:=I.m4 hB;have hsz:its.toArray.size+its2.toArray.size≤NM:=by rw [NY,NY]; lia
 have hlong:¬ (!its.toArray.isEmpty&&QO (its.toArray.size+its2.toArray.size))=true:=by rw [xN hsz,Bool.and_false];exact N8
 refine Uj F.slot_list_extend ⟨_,e,rfl⟩ F.entry_list_extend (F.args_list_extend_2 _ _)
  (AutoSeq1.list_extend_list_list_0 l its.toArray n b its2.toArray n2 hlong (by rw [NY]; lia) (by lia)) ⟨e,e2,?_⟩
 refine ⟨.non,_,I.Ly (its':=its++its2) hH e (by simp) (r.append r2) ?_,rfl,q⟩;rw [N7];lia
theorem G5 (h:X.K=K):Ga X (F3 K):=by subst h; exact JZ
theorem bw (h:X.K=K):de X (.builtin "len") (fun xs H Q=>∃ x n,xs=[x]∧HG K x H n∧Q (.int n) H):=by subst h; exact FN
theorem iW (hc:X.calm=true) (h:X.K=K):de X (.builtin "sum") (fun xs H Q=>∃ (p:NP) (ns:List Int),xs=[.ref p]∧dQ K H p ‹43›∧Q (.int ns.sum) H):=by subst h; exact FL hc
theorem jz (hc:X.calm=true) (h:X.K=K):de X (.builtin "max") (fun xs H Q=>∃ (p:NP) (ns:List Int),xs=[.ref p]∧dQ K H p ‹43›∧ns≠[]∧∀ M,M∈ns→(∀ a,a∈ns→a≤M)→Q (.int M) H):=by subst h; exact Dv hc
end
end L2
namespace VL
variable {es:aK→Option (List D)} {ρ:aK} {ds:List D} {ms:List Bool} {tr:TA} {H:Hp} {n:Nat} {t:TA} {Z:NP→Prop} {vs:List V} {d:D} {ns:List Int} {Q:VK} {neg:Bool} {A:O3}
open PySem L2
section
open Classical
section
section
variable [bB] {K:NK} {ta tb tc:TE} {a b c:DE}
def ao (a:DE) (es:aK→Option (List D)):aK→Option (List D):=fun ρ=>match a ρ with
 | some d=>(match es ρ with
  | some ds=>some (d::ds)
  | none=>none)
 | none=>none
def aS:aK→Option (List D):=fun _=>some []
theorem jw {a:DE} (h:ao a es ρ=some ds):∃ d r,a ρ=some d∧es ρ=some r∧ds=d::r:=by
 unfold ao at h;split at h
 ·rename_i d e1;split at h
  ·rename_i r e2;exact ⟨d,r,e1,e2,(OD h).symm⟩
  ·cases h
 ·cases h
theorem ay:wm K [] ft aS:=fun f q k=>by cases q; exact k _ _ (aW.refl _) .nil
theorem aQ (ha:aq K ta a) (hr:wm K ms tr es):wm K (true::ms) (cx ta tr) (ao a es):=fun {B Z os ρ σ H Q ds} f q k=>by obtain ⟨d,r,e1,e2,rfl⟩:=jw q;exact ha f e1 fun v H1 s1 i1=>hr (f.grow s1) e2 fun vs H2 s2 i2=>k _ _ ‹47› (.own (i1.same s2) i2)
theorem aD (ha:a0 K ta a) (hr:wm K ms tr es):wm K (false::ms) (cx ta tr) (ao a es):=fun {B Z os ρ σ H Q ds} f q k=>by obtain ⟨d,r,e1,e2,rfl⟩:=jw q;exact ha f e1 fun v H1 s1 i1=>hr (f.grow s1) e2 fun vs H2 s2 i2=>k _ _ ‹47› (.any (i1.same s2) i2)
theorem iI {T:NP→Prop} {p:NP} {o:HO} (hp:H p=none):Kp T H (fun a=>a=p∨T a) (upd H p o):=fun a u e z=>by have hne:a≠p:=bA e hp;exact ⟨by rw [aG hne]; exact e,fun q=>q.elim hne z⟩
theorem bQ (h:wm K (Oz n true) t es) (hn:n≤NM):bF K (IS t) es:=fun {B Z os ρ σ H Q ds} f q k=>by
 refine h f q fun vs H1 s1 a=>?_;have hl:vs.length≤NM:=by have:=a.len.1; rw [OQ] at this; lia
 exact ⟨hl,fun p hp=>k p vs _ (s1.trans (bO hp)) (aW.free s1 hp) aN hl (a.JI.kp (iI hp))⟩
def wa (es:aK→Option (List D)):DE:=fun ρ=>(es ρ).map D.tup
theorem uZ (h:wm K (Oz n true) t es) (hn:n≤NM):aq K (K4 t) (wa es):=fun {B Z os ρ σ H Q d} f q k=>by
 unfold wa at q;cases q1:es ρ with
 | none=>rw [q1] at q; cases q
 | some ds =>
  rw [q1] at q;cases q;refine h f q1 fun vs H1 s1 a=>?_;have hl:vs.length≤NM:=by have:=a.len.1; rw [OQ] at this; lia
  exact ⟨hl,fun p hp=>k _ _ (s1.trans (bO hp)) (.tup ((f.grow s1).out hp) aN hl ((a.JI.kp (iI hp)).kp (Kp.less fun a z=>.inr z)))⟩
def bu (es:aK→Option (List D)):DE:=fun ρ=>(es ρ).map D.lst
theorem bF.l {t:TE} {e:aK→Option (List D)} (h:bF K t e):aq K t (bu e):=h.i
def C6:D→Int→Option D
 | .lst ds,i=>jR ds i
 | .tup ds,i=>jR ds i
 | .scr ns,i=>(jR ns i).map D.int
 | .str z,i=>if z.length≤NM then (jR z.cps.toList i).map fun c=>.str ⟨#[c]⟩ else none
 | _,_=>none
theorem FQ {i:Int} (r:IsL K H Z vs ds) (h:jR ds i=some d):∃ v,jR vs i=some v∧Is K H Z v d:=by
 unfold jR at h ⊢;rw [r.length];cases e:ixN ds.length i with
 | none=>rw [e] at h; cases h
 | some j =>rw [e] at h;obtain ⟨v,e1,i1⟩:=r.get (i:=j) (show ds[j]?=some d from h);exact ⟨v,e1,i1⟩
theorem yH {i:Int} {n:Int} (h:jR ns i=some n):jR ‹43› i=some (.int n):=by
 unfold jR at h ⊢;rw [NH];cases e:ixN ns.length i with
 | none=>rw [e] at h; cases h
 | some j =>rw [e] at h;have h':ns[j]?=some n:=h;show ‹43›[j]?=some (.int n);rw [NR,h'];rfl
theorem Ik {v:V} {e:D} {i:Int} (h:Is K H Z v d) (q:C6 d i=some e) (k:∀ u,Is K H Z u e→Q u H):F3 K v (.int i) H Q:=by
 cases h with
 | lst hz h hl r =>obtain ⟨u,e1,i1⟩:=FQ r (show jR _ i=some e from q);exact .inl ⟨_,_,i,u,rfl,rfl,.inl h,e1,k u i1⟩
 | tup hz h hl r =>obtain ⟨u,e1,i1⟩:=FQ r (show jR _ i=some e from q);exact .inr (.inl ⟨_,_,i,u,rfl,rfl,.inl (.inl h),e1,k u i1⟩)
 | str z =>
  have q:(if z.length≤NM then (jR z.cps.toList i).map fun c=>D.str ⟨#[c]⟩ else none)=some e:=q;by_cases c:z.length≤NM
  ·rw [if_pos c] at q;cases e2:jR z.cps.toList i with
   | none=>rw [e2] at q; cases q
   | some cp =>rw [e2] at q;cases q;exact .inr (.inr ⟨z,i,cp,rfl,rfl,c,e2,k _ (.str _)⟩)
  ·rw [if_neg c] at q; cases q
 | @scr p ns hz h hl =>
  have q:(jR ns i).map D.int=some e:=q;cases e2:jR ns i with
  | none=>rw [e2] at q; cases q
  | some n=>rw [e2] at q; cases q; exact .inl ⟨_,_,i,_,rfl,rfl,.inl h,yH e2,k _ (.int n)⟩
 | @scrK p ns h hl =>
  have q:(jR ns i).map D.int=some e:=q;cases e2:jR ns i with
  | none=>rw [e2] at q; cases q
  | some n=>rw [e2] at q; cases q; exact .inl ⟨_,_,i,_,rfl,rfl,.inr h,yH e2,k _ (.int n)⟩
 | _=>cases q
def bZ (a b:DE):DE:=fun ρ=>match a ρ with
 | some d=>(match b ρ with
  | some (.int i)=>C6 d i
  | _=>none)
 | none=>none
theorem yy (h:bZ a b ρ=some d):∃ e i,a ρ=some e∧b ρ=some (.int i)∧C6 e i=some d:=by
 unfold bZ at h;split at h
 ·rename_i e e1;split at h
  ·rename_i i e2;exact ⟨e,i,e1,e2,h⟩
  ·cases h
 ·cases h
theorem a9 (ha:a0 K ta a) (hb:a0 K tb b):a0 K (nW (F3 K) ta tb) (bZ a b):=fun {B Z os ρ σ H Q d} f q k=>by obtain ⟨e,i,e1,e2,e3⟩:=yy q;refine ha f e1 fun v H1 s1 i1=>hb (f.grow s1) e2 fun u H2 s2 i2=>?_;rw [i2.isInt];exact Ik (i1.same s2) e3 fun w i3=>k _ _ ‹47› i3
theorem gn (ha:aq K ta a) (hb:a0 K tb b):aq K (nW (F3 K) ta tb) (bZ a b):=fun {B Z os ρ σ H Q d} f q k=>by obtain ⟨e,i,e1,e2,e3⟩:=yy q;refine ha f e1 fun v H1 s1 i1=>hb (f.grow s1) e2 fun u H2 s2 i2=>?_;rw [i2.isInt];exact Ik (i1.same s2) e3 fun w i3=>k _ _ ‹47› i3
def D.v:D→V
 | .bl b=>.bl b
 | .int i=>.int i
 | .str x=>.str x
 | .ty n=>.ty n
 | _=>.non
theorem D.v_is (h:d.lD=true):Is K H Z d.v d:=by
 cases d with
 | non=>exact .non
 | bl b=>exact .bl b
 | int b=>exact .int b
 | str b=>exact .str b
 | ty b=>exact .ty b
 | _=>cases h
def fo (g:D→Option D) (a:DE):DE:=fun ρ=>match a ρ with
 | some d=>g d
 | none=>none
theorem tO {r:List V→Hp→VK→Prop} {g:D→Option D} (hg:∀ {H v d e} {Q:VK},Is K H No v d→g d=some e→e.lD=true∧(Q e.v H→r [v] H Q)) (ha:a0 K ta a):aq K (yL r (cx ta ft)) (fo g a):=fun {B Z os ρ σ H Q d} f q k=>by
 unfold fo at q;split at q
 ·rename_i e e1;refine ha f e1 fun v H1 s1 i1=>?_;obtain ⟨hs,hr⟩:=hg (Q:=Q) i1 q;exact hr (k _ _ s1 (D.v_is hs))
 ·cases q
def dJ:D→Option D
 | .lst ds=>some (.int ds.length)
 | .tup ds=>some (.int ds.length)
 | .scr ns=>some (.int ns.length)
 | .str y=>if y.length≤NM then some (.int y.length) else none
 | _=>none
theorem JN {v:V} {e:D} (h:Is K H No v d) (q:dJ d=some e):e.lD=true∧(Q e.v H→∃ x n,[v]=[x]∧HG K x H n∧Q (.int n) H):=by
 cases h with
 | lst hz h hl r=>cases q; exact ⟨rfl,fun k=>⟨_,_,rfl,.inl ⟨_,.inl h,rfl⟩,by rw [r.length]; exact k⟩⟩
 | tup hz h hl r=>cases q; exact ⟨rfl,fun k=>⟨_,_,rfl,.inr ⟨_,.inl (.inl h),rfl⟩,by rw [r.length]; exact k⟩⟩
 | str z =>
  have q:(if z.length≤NM then some (D.int z.length) else none)=some e:=q;by_cases c:z.length≤NM
  ·rw [if_pos c] at q; cases q; exact ⟨rfl,fun k=>⟨_,_,rfl,⟨c,rfl⟩,k⟩⟩
  ·rw [if_neg c] at q; cases q
 | scr hz h hl=>cases q; exact ⟨rfl,fun k=>⟨_,_,rfl,.inl ⟨_,.inl h,rfl⟩,by rw [NH]; exact k⟩⟩
 | scrK h hl=>cases q; exact ⟨rfl,fun k=>⟨_,_,rfl,.inl ⟨_,.inr h,rfl⟩,by rw [NH]; exact k⟩⟩
 | _=>cases q
theorem cR (ha:a0 K ta a):aq K (yL (fun xs H Q=>∃ x n,xs=[x]∧HG K x H n∧Q (.int n) H) (cx ta ft)) (fo dJ a):=tO (fun h q=>JN h q) ha
def dn:List D→Option (List Int)
 | []=>some []
 | .int i::r=>(dn r).map (i::·)
 | _=>none
theorem eE:∀ (ns:List Int),dn (ns.map D.int)=some ns
 | []=>rfl
 | n::ns=>by show (dn (ns.map D.int)).map (n::·)=_; rw [eE ns]; rfl
theorem dA:∀ {ds:List D} {ns:List Int},dn ds=some ns→ds=ns.map D.int
 | [],ns,h=>by cases h; rfl
 | .int i::r,ns,h=>by
  have h:(dn r).map (i::·)=some ns:=h;cases e:dn r with
  | none=>rw [e] at h; cases h
  | some ms=>rw [e] at h; cases h; rw [dA e]; rfl
 | .non::_,_,h=>by cases h
 | .bl _::_,_,h=>by cases h
 | .str _::_,_,h=>by cases h
 | .ty _::_,_,h=>by cases h
 | .lst _::_,_,h=>by cases h
 | .tup _::_,_,h=>by cases h
 | .ins _::_,_,h=>by cases h
 | .dct _::_,_,h=>by cases h
 | .scr _::_,_,h=>by cases h
def ofInts (g:List Int→Option D):D→Option D
 | .lst ds=>(dn ds).bind g
 | _=>none
theorem gZ (g:List Int→Option D) (ns:List Int):ofInts g (.lst (ns.map D.int))=g ns:=by show (dn (ns.map D.int)).bind g=g ns;rw [eE]; rfl
theorem ki {g:List Int→Option D} {e:D} (h:ofInts g d=some e):∃ ns,d=.lst (ns.map D.int)∧g ns=some e:=by
 cases d with
 | lst ds =>
  have h:(dn ds).bind g=some e:=h;cases q:dn ds with
  | none=>rw [q] at h; cases h
  | some ns=>rw [q] at h; exact ⟨ns,by rw [dA q],h⟩
 | _=>cases h
theorem Is.ints {H:Hp} {Z:NP→Prop} {v:V} {ns:List Int} (h:Is K H Z v (.lst (ns.map D.int))):∃ p,v=.ref p∧Rd H p (.lst ‹43›):=by
 generalize e:D.lst (ns.map D.int)=d at h;cases h with
 | lst hz h hl r=>cases e; rw [← r.ints]; exact ⟨_,rfl,h⟩
 | _=>cases e
def uO:D→Option D:=ofInts fun ns=>some (.int ns.sum)
theorem qT (ha:a0 K ta a):aq K (yL (fun xs H Q=>∃ (p:NP) (ns:List Int),xs=[.ref p]∧dQ K H p ‹43›∧Q (.int ns.sum) H) (cx ta ft)) (fo uO a):=by refine tO (fun h q=>?_) ha;obtain ⟨ns,rfl,e⟩:=ki q;cases e;obtain ⟨p,rfl,r⟩:=h.ints;exact ⟨rfl,fun k=>⟨p,ns,rfl,.inl r,k⟩⟩
def m3 (x:Int) (r:List Int):Int:=r.foldl max x
def zS (x:Int) (r:List Int):Int:=r.foldl min x
theorem aX:∀ (r:List Int) (x:Int),m3 x r∈x::r∧∀ a∈x::r,a≤m3 x r
 | [],x=>⟨NJ,fun a h=>by rw [NL.mp h]; exact O6 _⟩
 | y::r,x=>by
  obtain ⟨h1,h2⟩:=aX r (max x y);have e:m3 x (y::r)=m3 (max x y) r:=rfl;rw [e];refine ⟨?_,fun a ha=>?_⟩
  ·rcases NU.mp h1 with q | q
   ·rw [q];rcases Int.le_total x y with z | z
    ·rw [Int.max_eq_right z]; simp
    ·rw [Int.max_eq_left z]; simp
   ·simp [q]
  ·have hm:=h2 (max x y) NJ;rcases NU.mp ha with rfl | ha
   ·lia
   ·rcases NU.mp ha with rfl | ha
    ·lia
    ·exact h2 a (NI _ ha)
theorem iO:∀ (r:List Int) (x:Int),zS x r∈x::r∧∀ a∈x::r,zS x r≤a
 | [],x=>⟨NJ,fun a h=>by rw [NL.mp h]; exact O6 _⟩
 | y::r,x=>by
  obtain ⟨h1,h2⟩:=iO r (min x y);have e:zS x (y::r)=zS (min x y) r:=rfl;rw [e];refine ⟨?_,fun a ha=>?_⟩
  ·rcases NU.mp h1 with q | q
   ·rw [q];rcases Int.le_total x y with z | z
    ·rw [Int.min_eq_left z]; simp
    ·rw [Int.min_eq_right z]; simp
   ·simp [q]
  ·have hm:=h2 (min x y) NJ;rcases NU.mp ha with rfl | ha
   ·lia
   ·rcases NU.mp ha with rfl | ha
    ·lia
    ·exact h2 a (NI _ ha)
theorem kl {M N:Int} (h1:M∈ns) (h2:∀ a∈ns,a≤M) (h3:N∈ns) (h4:∀ a∈ns,a≤N):M=N:=by have:=h2 N h3;have:=h4 M h1;lia
theorem E1 {M N:Int} (h1:M∈ns) (h2:∀ a∈ns,M≤a) (h3:N∈ns) (h4:∀ a∈ns,N≤a):M=N:=by have:=h2 N h3;have:=h4 M h1;lia
def maxD:D→Option D:=ofInts fun ns=>match ns with
 | []=>none
 | x::r=>some (.int (m3 x r))
theorem u5 (ha:a0 K ta a):aq K (yL (fun xs H Q=>∃ (p:NP) (ns:List Int),xs=[.ref p]∧dQ K H p ‹43›∧ns≠[]∧∀ M,M∈ns→(∀ a,a∈ns→a≤M)→Q (.int M) H) (cx ta ft)) (fo maxD a):=by
 refine tO (fun h q=>?_) ha;obtain ⟨ns,rfl,e⟩:=ki q;obtain ⟨p,rfl,r⟩:=h.ints;cases ns with
 | nil=>cases e
 | cons x t =>cases e;refine ⟨rfl,fun k=>⟨p,x::t,rfl,.inl r,by simp,fun M h1 h2=>?_⟩⟩;rw [kl h1 h2 (aX t x).1 (aX t x).2];exact k
def yw:DE→DE→DE:=nX fun i j=>some (.int (if j > i then j else i))
def yv:DE→DE→DE:=nX fun i j=>some (.int (if j<i then j else i))
theorem AZ (ha:a0 K ta a) (hb:a0 K tb b):aq K (yL (fun xs H Q=>∃ i j,xs=[.int i,.int j]∧Q (.int (if j > i then j else i)) H) (cx ta (cx tb ft))) (yw a b):=fun {B Z os ρ σ H Q d} f q k=>by obtain ⟨i,j,e1,e2,e3⟩:=nq q;cases e3;refine ha f e1 fun v H1 s1 i1=>hb (f.grow s1) e2 fun u H2 s2 i2=>⟨i,j,by rw [i1.isInt,i2.isInt],k _ _ ‹47› (.int _)⟩
theorem AY (ha:a0 K ta a) (hb:a0 K tb b):aq K (yL (fun xs H Q=>∃ i j,xs=[.int i,.int j]∧Q (.int (if j<i then j else i)) H) (cx ta (cx tb ft))) (yv a b):=fun {B Z os ρ σ H Q d} f q k=>by obtain ⟨i,j,e1,e2,e3⟩:=nq q;cases e3;refine ha f e1 fun v H1 s1 i1=>hb (f.grow s1) e2 fun u H2 s2 i2=>⟨i,j,by rw [i1.isInt,i2.isInt],k _ _ ‹47› (.int _)⟩
def intD:D→Option D
 | .int i=>some (.int i)
 | .bl b=>some (.int (if b=true then 1 else 0))
 | _=>none
theorem u6 (ha:a0 K ta a):aq K (yL (fun xs H Q=>(∃ i,xs=[.int i]∧Q (.int i) H)∨∃ k,xs=[.bl k]∧Q (.int (if k then 1 else 0)) H) (cx ta ft)) (fo intD a):=by
 refine tO (fun h q=>?_) ha;cases h with
 | int i=>cases q; exact ⟨rfl,fun k=>.inl ⟨i,rfl,k⟩⟩
 | bl b=>cases q; exact ⟨rfl,fun k=>.inr ⟨b,rfl,k⟩⟩
 | _=>cases q
def D.Ge:D→String
 | .non => "NoneType"
 | .bl _ => "bool"
 | .int _ => "int"
 | .str _ => "str"
 | .lst _ => "list"
 | .tup _ => "tuple"
 | .ty _ => "type"
 | .ins _ => "object"
 | .dct _ => "object"
 | .scr _ => "script"
noncomputable def zW:List (String×String×Bool):=[("int", "int", true),("int", "bool", false),("int", "list", false),("int", "tuple", false),("int", "str", false),("bool", "int", true),("bool", "bool", true),("bool", "list", false),("bool", "tuple", false),("list", "list", true),("list", "tuple", false),("list", "int", false),("list", "str", false),("tuple", "tuple", true),("tuple", "list", false),("tuple", "int", false),("str", "str", true),("str", "list", false),("str", "int", false),("NoneType", "int", false),("NoneType", "list", false),("NoneType", "tuple", false)]
def sV (x n:String):Option Bool:=(zW.find? fun t=>decide (t.1=x)&&decide (t.2.1=n)).map fun t=>t.2.2
def tj (n:String) (a:DE):DE:=fun ρ=>match a ρ with
 | some d=>(sV d.Ge n).map D.bl
 | none=>none
theorem Fd {x n:String} {b:Bool} (h:sV x n=some b):Rl K (.type x) (.type n)=some b:=by
 unfold sV at h;obtain ⟨t,e,rfl⟩:=OH.mp h;have hm:=List.mem_of_find?_eq_some e;have hp:=List.find?_some e;rw [Qb,decide_eq_true_iff,decide_eq_true_iff] at hp;obtain ⟨rfl,rfl⟩:=hp;clear e h;revert t;unfold zW
 repeat' (first | exact fun t h=>absurd h Qm | refine List.forall_mem_cons.mpr ⟨?_,?_⟩)
 all_goals first | rfl | with_unfolding_all rfl
theorem Gf {v:V} {n:String} {b:Bool} (h:Is K H No v d) (e:sV d.Ge n=some b):lH K H v (.type d.Ge):=by
 cases h with
 | non=>exact .non
 | bl b=>exact .bl b
 | int b=>exact .int b
 | str b=>exact .str b
 | ty n=>unfold sV at e; simp [D.Ge,zW] at e
 | lst hz h hl r=>rcases h with h | ⟨o,h⟩; exact .lst h; exact .kZ h
 | tup hz h hl r=>exact .tup h
 | ins _ _=>unfold sV at e; simp [D.Ge,zW] at e
 | dct _ _ _=>unfold sV at e; simp [D.Ge,zW] at e
 | scr _ _ _=>unfold sV at e; simp [D.Ge,zW] at e
 | scrK _ _=>unfold sV at e; simp [D.Ge,zW] at e
theorem j3 {n:String} (ha:a0 K ta a):aq K (yL (fun xs H Q=>∃ x n t b,xs=[x,.ty n]∧lH K H x t∧Rl K t (.type n)=some b∧Q (.bl b) H) (cx ta (cx (tC (.ty n)) ft))) (tj n a):=fun {B Z os ρ σ H Q d} f q k=>by
 unfold tj at q;split at q
 ·rename_i e e1;cases q1:sV e.Ge n with
  | none=>rw [q1] at q; cases q
  | some b =>rw [q1] at q;cases q;exact ha f e1 fun v H1 s1 i1=>⟨v,n,_,b,rfl,Gf i1 q1,Fd q1,k _ _ s1 (.bl b)⟩
 ·cases q
def Ak {α:Type} (xs:List α) (lo hi:Option Int):List α:=(xs.drop (HT.wy xs.length 0 lo)).take (HT.wy xs.length xs.length hi-HT.wy xs.length 0 lo)
theorem Ks {lo hi:Option Int} (r:IsL K H Z vs ds):IsL K H Z (Ds vs lo hi) (Ak ds lo hi):=by unfold Ds Ak;rw [r.length];exact (r.drop _).take _
noncomputable def tw (K:NK) (t:TO) (e:aK→Option (Option Int)):Prop:=∀ {B:Hp} {Z:NP→Prop} {os:Own} {ρ:aK} {σ:L2.St} {H:Hp} {Q:Option Int→Hp→Prop} {o:Option Int},Fr K B Z os ρ σ H→e ρ=some o→(∀ H',aW H H'→Q o H')→t σ H Q
def ij:aK→Option (Option Int):=fun _=>some none
def g6 (a:DE):aK→Option (Option Int):=fun ρ=>match a ρ with
 | some (.int i)=>some (some i)
 | _=>none
theorem jd:tw K AM ij:=fun f q k=>by cases q; exact k _ (aW.refl _)
theorem kO (ha:a0 K ta a):tw K (HN ta) (g6 a):=fun {B Z os ρ σ H Q o} f q k=>by
 unfold g6 at q;split at q
 ·rename_i i e;cases q;exact ha f e fun v H1 s1 i1=>⟨i,i1.isInt,k _ s1⟩
 ·cases q
def fH (a:DE):aK→Option (List D):=fun ρ=>match a ρ with
 | some d=>JJ d
 | none=>none
theorem dU {a:DE} (h:fH a ρ=some ds):∃ d,a ρ=some d∧JJ d=some ds:=by
 unfold fH at h;split at h
 ·exact ⟨_,by assumption,h⟩
 ·cases h
noncomputable def Hr (a:DE) (lo hi:aK→Option (Option Int)):aK→Option (List D):=fun ρ=>match fH a ρ with
 | some ds=>(match lo ρ with
  | some l=>(match hi ρ with
   | some h=>some (Ak ds l h)
   | none=>none)
  | none=>none)
 | _=>none
theorem FE {lo hi:aK→Option (Option Int)} (h:Hr a lo hi ρ=some ds):∃ es l u,fH a ρ=some es∧lo ρ=some l∧hi ρ=some u∧ds=Ak es l u:=by
 unfold Hr at h;split at h
 ·rename_i es e1;split at h
  ·rename_i l e2;split at h
   ·rename_i u e3;exact ⟨es,l,u,e1,e2,e3,(OD h).symm⟩
   ·cases h
  ·cases h
 ·cases h
theorem Is.rJ {v:V} (h:Is K H Z v (.lst ds)):∃ p vs,v=.ref p∧¬ Z p∧Rd H p (.lst vs)∧vs.length≤NM∧IsL K H Z vs ds:=by
 cases h with
 | lst hz h hl r=>exact ⟨_,_,rfl,hz,h,hl,r⟩
theorem Is.isTup {v:V} (h:Is K H Z v (.tup ds)):∃ p vs,v=.ref p∧¬ Z p∧H p=some (.tup vs)∧vs.length≤NM∧IsL K H Z vs ds:=by
 cases h with
 | tup hz h hl r=>exact ⟨_,_,rfl,hz,h,hl,r⟩
theorem HX {tl th:TO} {lo hi:aK→Option (Option Int)} (ha:aq K ta a) (hl:tw K tl lo) (hh:tw K th hi):bF K (M0 (Jh K) ta tl th) (Hr a lo hi):=fun {B Z os ρ σ H Q ds} f q k=>by obtain ⟨es,l,u,e1,e2,e3,rfl⟩:=FE q;obtain ⟨d,e1,ed⟩:=dU e1;refine ha f e1 fun v H1 s1 i1=>hl (f.grow s1) e2 fun H2 s2=>hh (f.grow ‹47›) e3 fun H3 s3=>?_;obtain ⟨p,vs,rfl,hn,_,hr⟩:=i1.seq ed;obtain ⟨hr,r⟩:=hr H3 _ (Kp.same (s2.trans s3));have s13:=‹47›.trans s3;exact ⟨p,vs,rfl,hr,fun n hn'=>k n _ _ (s13.trans (bO hn')) (aW.free s13 hn') aN (ON (pH _ _ _) hn) ((Ks r).kp (iI hn'))⟩
def iz (ds:List D):Bool:=ds.all D.lD
theorem IsL.flat {H H':Hp} {Z Z':NP→Prop}:∀ {vs:List V} {ds:List D},IsL K H Z vs ds→iz ds=true→IsL K H' Z' vs ds
 | _,_,.nil,_=>.nil
 | _,_,.cons h r,e=>by have e:=(Qb _ _).mp (show (D.lD _&&iz _)=true from e);exact .cons (h.lD e.1) (r.flat e.2)
def kr (e:aK→Option (List D)):aK→Option (List D):=fun ρ=>match e ρ with
 | some ds=>if iz ds=true then some ds else none
 | none=>none
theorem z8 {e:aK→Option (List D)} (h:kr e ρ=some ds):e ρ=some ds∧iz ds=true:=by
 unfold kr at h;split at h
 ·rename_i es e1;by_cases c:iz es=true
  ·rw [if_pos c] at h; cases h; exact ⟨e1,c⟩
  ·rw [if_neg c] at h; cases h
 ·cases h
def rZ (a:DE):aK→Option (List D):=fun ρ=>match a ρ with
 | some (.tup ds)=>some ds
 | some d=>JJ d
 | _=>none
theorem Dq (h:rZ a ρ=some ds):a ρ=some (.tup ds)∨∃ d,a ρ=some d∧JJ d=some ds:=by
 unfold rZ at h;split at h
 ·rename_i es e; cases h; exact .inl e
 ·rename_i d _ e; exact .inr ⟨d,e,h⟩
 ·cases h
theorem j4 (ha:a0 K ta a):bF K (yL (fun xs H Q=>∃ p ys,xs=[.ref p]∧(dQ K H p ys∨FU K H p ys)∧∀ l,H l=none→Q (.ref l) (upd H l (.lst ys))) (cx ta ft)) (kr (rZ a)):=fun {B Z os ρ σ H Q ds} f q k=>by
 obtain ⟨q,hf⟩:=z8 q;rcases Dq q with e1 | ⟨d,e1,ed⟩
 ·refine ha f e1 fun v H1 s1 i1=>?_;obtain ⟨p,vs,rfl,hz,hr,hn,r⟩:=i1.isTup;exact ⟨p,vs,rfl,.inr (.inl (.inl hr)),fun n hn'=>k n _ _ (s1.trans (bO hn')) (aW.free s1 hn') aN hn (r.flat hf)⟩
 ·refine ha f e1 fun v H1 s1 i1=>?_;obtain ⟨p,vs,rfl,hn,_,hr⟩:=i1.seq ed;obtain ⟨hr,r⟩:=hr H1 _ Kp.refl;exact ⟨p,vs,rfl,.inl hr,fun n hn'=>k n _ _ (s1.trans (bO hn')) (aW.free s1 hn') aN hn (r.flat hf)⟩
def mF (a b:DE):aK→Option (List D):=fun ρ=>match a ρ with
 | some (.lst ds)=>(match b ρ with
  | some (.lst es)=>if ds.length+es.length≤NM then some (ds++es) else none
  | _=>none)
 | _=>none
theorem Dr (h:mF a b ρ=some ds):∃ xs ys,a ρ=some (.lst xs)∧b ρ=some (.lst ys)∧xs.length+ys.length≤NM∧ds=xs++ys:=by
 unfold mF at h;split at h
 ·rename_i xs e1;split at h
  ·rename_i ys e2;by_cases c:xs.length+ys.length≤NM
   ·rw [if_pos c] at h; exact ⟨xs,ys,e1,e2,c,(OD h).symm⟩
   ·rw [if_neg c] at h; cases h
  ·cases h
 ·cases h
theorem oy (ha:aq K ta a) (hb:aq K tb b):bF K (nW Ib ta tb) (mF a b):=fun {B Z os ρ σ H Q ds} f q k=>by
 obtain ⟨xs,ys,e1,e2,hc,rfl⟩:=Dr q;refine ha f e1 fun v H1 s1 i1=>hb (f.grow s1) e2 fun u H2 s2 i2=>?_;obtain ⟨p,vs,rfl,hz,hr,hn,r⟩:=(i1.same s2).rJ;obtain ⟨p2,us,rfl,hz2,hr2,hn2,r2⟩:=i2.rJ;have hl:vs.length+us.length≤NM:=by rw [r.length,r2.length]; exact hc
 have s12:=s1.trans s2;exact ⟨p,p2,vs,us,rfl,rfl,hr,hr2,hl,fun n hn'=>k n _ _ (s12.trans (bO hn')) (aW.free s12 hn') aN (by rw [N7]; exact hl) ((r.append r2).kp (iI hn'))⟩
noncomputable def Ah (a:aK→Option (List D)) (b:DE):aK→Option (List D):=fun ρ=>match a ρ with
 | some ds=>(match b ρ with
  | some (.int n)=>if -(2 ^ 63)≤n∧n<2 ^ 63∧ds.length*n.toNat≤NM then some (Oz n.toNat ds).flatten else none
  | _=>none)
 | none=>none
theorem IsL.rep {H:Hp} {Z:NP→Prop} {vs:List V} {ds:List D} (r:IsL K H Z vs ds):∀ n,IsL K H Z (Oz n vs).flatten (Oz n ds).flatten
 | 0=>.nil
 | n+1=>by rw [Qi,QK,Qi,QK]; exact r.append (r.rep n)
theorem zk {a:aK→Option (List D)} (ha:bF K ta a) (hb:a0 K tb b):bF K (nW Ln ta tb) (Ah a b):=fun {B Z os ρ σ H Q ds} f q k=>by
 unfold Ah at q;split at q
 ·rename_i es e1;split at q
  ·rename_i n e2;by_cases c:-(2 ^ 63)≤n∧n<2 ^ 63∧es.length*n.toNat≤NM
   ·rw [if_pos c] at q;cases q;refine ha f e1 fun p vs H1 s1 hp hp' hl i1=>hb (f.grow s1) e2 fun u H2 s2 i2=>?_;rw [i2.isInt];have i1':=(i1.same s2).kp (Kp.less (Z':=bW Z os) fun a z=>.inr z);have hlen:vs.length*n.toNat≤NM:=by rw [i1.length]; exact c.2.2
    have s12:=s1.trans s2;refine ⟨p,n,vs,rfl,rfl,s2 _ _ hp',c.1,c.2.1,hlen,fun x hx=>k x _ _ (s12.trans (bO hx)) (aW.free s12 hx) aN ?_ ((i1'.rep _).kp (iI hx))⟩;rw [len_rep,Nat.mul_comm]; exact hlen
   ·rw [if_neg c] at q; cases q
  ·cases q
 ·cases q
def KS:D→List D→Option Bool
 | .int i,ds=>(dn ds).map fun ns=>decide (i∈ns)
 | _,_=>none
theorem Dc (k:Int) (hs:List Int):Bz (.int k) (hs.map V.int)=decide (k∈hs):=by
 unfold Bz;rw [List.any_map,Pa,Sh,decide_eq_true_iff];constructor
 ·rintro ⟨x,hx,e⟩;have e':(x==k)=true:=e;rw [← beq_iff_eq.mp e'];exact hx
 ·intro h;exact ⟨k,h,show (k==k)=true from beq_self_eq_true k⟩
theorem Aa (hs:List Int):(hs.map V.int).all ku=true:=by rw [Um,Pj];intro x _;rfl
noncomputable def IB (neg:Bool) (a b:DE):DE:=fun ρ=>match a ρ with
 | some d=>(match b ρ with
  | some (.lst ds)=>(KS d ds).map fun c=>.bl (if neg then !c else c)
  | some (.tup ds)=>(KS d ds).map fun c=>.bl (if neg then !c else c)
  | _=>none)
 | none=>none
theorem Fe {v:V} {c:Bool} (i:Is K H Z v d) (r:IsL K H Z vs ds) (h:KS d ds=some c):ku v=true∧vs.all ku=true∧Bz v vs=c:=by
 cases i with
 | int i =>
  have h:(dn ds).map (fun ns=>decide (i∈ns))=some c:=h;cases e:dn ds with
  | none=>rw [e] at h; cases h
  | some ns =>rw [e] at h;cases h;have e2:=dA e;subst e2;rw [r.ints];exact ⟨rfl,Aa ns,Dc i ns⟩
 | _=>cases h
theorem A0 (ha:a0 K ta a) (hb:a0 K tb b):aq K (nW (Lr K neg) ta tb) (IB neg a b):=fun {B Z os ρ σ H Q d} f q k=>by
 unfold IB at q;split at q
 ·rename_i e e1;split at q
  ·rename_i ds e2;cases q1:KS e ds with
   | none=>rw [q1] at q; cases q
   | some c =>rw [q1] at q;cases q;refine ha f e1 fun v H1 s1 i1=>hb (f.grow s1) e2 fun u H2 s2 i2=>?_;obtain ⟨p,vs,rfl,hz,hr,hn,r⟩:=i2.rJ;obtain ⟨h1,h2,h3⟩:=Fe (i1.same s2) r q1;exact ⟨p,vs,rfl,.inl (.inl hr),h1,h2,by rw [h3]; exact k _ _ ‹47› (.bl _)⟩
  ·rename_i ds e2;cases q1:KS e ds with
   | none=>rw [q1] at q; cases q
   | some c =>rw [q1] at q;cases q;refine ha f e1 fun v H1 s1 i1=>hb (f.grow s1) e2 fun u H2 s2 i2=>?_;obtain ⟨p,vs,rfl,hz,hr,hn,r⟩:=i2.isTup;obtain ⟨h1,h2,h3⟩:=Fe (i1.same s2) r q1;exact ⟨p,vs,rfl,.inr (.inl (.inl hr)),h1,h2,by rw [h3]; exact k _ _ ‹47› (.bl _)⟩
  ·cases q
 ·cases q
end
end
end
section
open Classical
section
instance:Inhabited D:=⟨.non⟩
theorem Jf {a:NP} {xs ys:List V} (h:Rd H a (.lst xs)) (h':Rd H a (.lst ys)):xs=ys:=by rcases h with h | ⟨o,h⟩ <;> rcases h' with h' | ⟨o',h'⟩ <;> rw [h] at h' <;> cases h' <;> rfl
noncomputable def dP:Nat→D→D→Bool
 | _,.int _,.int _=>true
 | _,.bl _,.bl _=>true
 | _,.str _,.str _=>true
 | _,.non,.non=>true
 | n+1,.lst xs,.lst ys=>decide (xs.length≠ys.length) || (QX xs ys).all fun p=>dP n p.1 p.2
 | n+1,.tup xs,.tup ys=>decide (xs.length=ys.length)&&(QX xs ys).all fun p=>dP n p.1 p.2
 | _,_,_=>false
theorem DH {xs ys:List D} {j:Nat} {a b:D} {p:D×D→Bool} (h:(QX xs ys).all p=true) (e1:xs[j]?=some a) (e2:ys[j]?=some b):p (a,b)=true :=
 Pj.mp h _ (OF (i:=j) (List.getElem?_zip_eq_some.mpr ⟨e1,e2⟩))
inductive Cm:Nat→D→D→Prop
 | int {n:Nat} (a b:Int):Cm n (.int a) (.int b)
 | bl {n:Nat} (a b:Bool):Cm n (.bl a) (.bl b)
 | str {n:Nat} (a b:OX):Cm n (.str a) (.str b)
 | non {n:Nat}:Cm n .non .non
 | lst {n:Nat} {xs ys:List D} (h:xs.length=ys.length→(QX xs ys).all (fun p=>dP n p.1 p.2)=true):Cm (n+1) (.lst xs) (.lst ys)
 | tup {n:Nat} {xs ys:List D} (hl:xs.length=ys.length) (h:(QX xs ys).all (fun p=>dP n p.1 p.2)=true):Cm (n+1) (.tup xs) (.tup ys)
theorem ny {e:D} (hc:dP n d e=true):Cm n d e:=by
 unfold dP at hc;split at hc
 ·exact .int _ _
 ·exact .bl _ _
 ·exact .str _ _
 ·exact .non
 ·exact .lst fun hl=>by simpa [hl] using hc
 ·rw [Qb] at hc; exact .tup (of_decide_eq_true hc.1) hc.2
 ·cases hc
theorem Is.mQ {v:V} {a:Int} (i:Is K H Z v (.int a)):v=.int a:=by cases i; rfl
theorem Is.uG {v:V} {a:Bool} (i:Is K H Z v (.bl a)):v=.bl a:=by cases i; rfl
theorem Is.o9 {v:V} {a:OX} (i:Is K H Z v (.str a)):v=.str a:=by cases i; rfl
theorem Is.tG {v:V} (i:Is K H Z v .non):v=.non:=by cases i; rfl
theorem Is.lI {v:V} (i:Is K H Z v (.lst ds)):∃ a vs,v=.ref a∧¬ Z a∧Rd H a (.lst vs)∧vs.length≤NM∧IsL K H Z vs ds:=by cases i with | lst hz h hl r=>exact ⟨_,_,rfl,hz,h,hl,r⟩
theorem Is.o8 {v:V} (i:Is K H Z v (.tup ds)):∃ a vs,v=.ref a∧¬ Z a∧H a=some (.tup vs)∧vs.length≤NM∧IsL K H Z vs ds:=by cases i with | tup hz h hl r=>exact ⟨_,_,rfl,hz,h,hl,r⟩
theorem Is.inj {Z':NP→Prop}:∀ (n:Nat) {v:V} {d e:D},dP n d e=true→Is K H Z v d→Is K H Z' v e→d=e:=by
 intro n;induction n using UC with | ind n ih=>?_
 have lists:∀ {m:Nat},m<n→∀ {vs:List V} {ds es:List D},(QX ds es).all (fun p=>dP m p.1 p.2)=true→IsL K H Z vs ds→IsL K H Z' vs es→ds=es:=by intro m hm vs ds es hc r r';have l1:=r.length;have l2:=r'.length;refine PN (by lia) fun k h1 h2=>?_;obtain ⟨v,e1,i1⟩:=r.get (NG h1);obtain ⟨v',e2,i2⟩:=r'.get (NG h2);rw [e1] at e2;cases e2;exact ih m hm (DH hc (NG h1) (NG h2)) i1 i2
 intro v d e hc i j;cases ny hc with
 | int=>have h:=i.mQ; rw [j.mQ] at h; cases h; rfl
 | bl=>have h:=i.uG; rw [j.uG] at h; cases h; rfl
 | str=>have h:=i.o9; rw [j.o9] at h; cases h; rfl
 | non=>rfl
 | lst h =>obtain ⟨p,xs,rfl,z1,h1,l1,g1⟩:=i.lI;obtain ⟨q,ys,e,z2,h2,l2,g2⟩:=j.lI;cases e;have e:=Jf h1 h2;subst e;rw [lists (Qy _) (h (by have:=g1.length; have:=g2.length; lia)) g1 g2]
 | tup hl h =>obtain ⟨p,xs,rfl,z1,h1,l1,g1⟩:=i.o8;obtain ⟨q,ys,e,z2,h2,l2,g2⟩:=j.o8;cases e;rw [h1] at h2;cases h2;rw [lists (Qy _) h g1 g2]
section
variable {X:Cx} {pins:List (NP×Qz)} {σ:L2.St} {H:Hp} {s:NS}
theorem vY (xs ys:List D):decide (D.lst xs=D.lst ys)=decide (xs=ys):=by rw [Pa,decide_eq_true_iff,decide_eq_true_iff];exact ⟨fun h=>D.lst.inj h,fun h=>by rw [h]⟩
theorem vX (xs ys:List D):decide (D.tup xs=D.tup ys)=decide (xs=ys):=by rw [Pa,decide_eq_true_iff,decide_eq_true_iff];exact ⟨fun h=>D.tup.inj h,fun h=>by rw [h]⟩
theorem nj (a b:Int):decide (D.int a=D.int b)=(a==b):=by rw [Pa,decide_eq_true_iff,beq_iff_eq];exact ⟨fun h=>D.int.inj h,fun h=>by rw [h]⟩
theorem vZ (a b:Bool):decide (D.bl a=D.bl b)=(a==b):=by rw [Pa,decide_eq_true_iff,beq_iff_eq];exact ⟨fun h=>D.bl.inj h,fun h=>by rw [h]⟩
theorem qr (a b:OX):decide (D.str a=D.str b)=(a==b):=by rw [Pa,decide_eq_true_iff,beq_iff_eq];exact ⟨fun h=>D.str.inj h,fun h=>by rw [h]⟩
theorem Bd {l b:NP} {us ws:List NN} {ns ms:List D} (p1:s.heap.IsTuple l us.toArray) (p2:s.heap.IsTuple b ws.toArray) (hl:us.length=ns.length) (hl2:ws.length=ms.length) (hs:ns.length=ms.length) (hu:A.units<RT)
 (h:∀ (j:Nat) (u v:NN) (a b:D),us[j]?=some u→ws[j]?=some v→ns[j]?=some a→ms[j]?=some b→QN A.in1 s u v (decide (a=b))) :
 SeqAt.RcAt A s (.ref l) (.ref b) (decide (ns=ms)):=by
 have q:=SeqAt.RcAt.tuples (e:=fun j=>decide ‹28›) p1 p2 hu (jv hl hl2 h);have e:((N4 (min us.toArray.size ws.toArray.size)).all fun j=>decide ‹28›)=decide (ns=ms):=by rw [NY,NY,hl,hl2,← hs,VI]; exact gF default hs
 have e2:(us.toArray.size==ws.toArray.size)=true:=by simp; lia
 rw [e,e2,Vm] at q;exact q
theorem CB {l b:NP} {us ws:List NN} {ns ms:List D} (p1:s.heap.IsTuple l us.toArray) (p2:s.heap.IsTuple b ws.toArray) (hl:us.length=ns.length) (hl2:ws.length=ms.length) (hs:ns.length=ms.length) (hu:A.units<RT)
 (h:∀ (j:Nat) (u v:NN) (a b:D),us[j]?=some u→ws[j]?=some v→ns[j]?=some a→ms[j]?=some b→QN A.in1 s u v (decide (a=b))) :
 WT A s (.ref l) (.ref b) (!decide (ns=ms)):=by
 have q:=SeqAt.RcNeAt.tuples (e:=fun j=>decide ‹28›) p1 p2 hu (jv hl hl2 h);have e:((N4 (min us.toArray.size ws.toArray.size)).all fun j=>decide ‹28›)=decide (ns=ms):=by rw [NY,NY,hl,hl2,← hs,VI]; exact gF default hs
 have e2:(us.toArray.size==ws.toArray.size)=true:=by simp; lia
 rw [e,e2,Vm] at q;exact q
theorem in1_units:A.in1.units=A.units+1:=rfl
theorem iP {xs ys:List V} {us ws:List NN} {es:List D} (hc:(QX ds es).all (fun p=>dP n p.1 p.2)=true) (r1:Vals xs us) (r2:Vals ys ws) (g1:IsL K H No xs ds) (g2:IsL K H No ys es)
 (ih:∀ {v w:V} {d e:D} {u x:NN},RelV v u→RelV w x→Is K H No v d→Is K H No w e→dP n d e=true→QN A s u x (decide (d=e))) :
 ∀ (j:Nat) (u v:NN) (a b:D),us[j]?=some u→ws[j]?=some v→ds[j]?=some a→es[j]?=some b→QN A s u v (decide (a=b)):=by
 intro j u v a b e1 e2 e3 e4;obtain ⟨x,f1,i1⟩:=g1.get e3;obtain ⟨y,f2,i2⟩:=g2.get e4;obtain ⟨u',q1,k1⟩:=r1.get f1;obtain ⟨v',q2,k2⟩:=r2.get f2;rw [e1] at q1; cases q1;rw [e2] at q2; cases q2;exact ih k1 k2 i1 i2 (DH hc e3 e4)
theorem qo (I:Inv X pins σ H s):∀ (n:Nat) {A:O3},A.units+n<RT→∀ {v w:V} {d e:D} {u x:NN},RelV v u→RelV w x→Is K H No v d→Is K H No w e→dP n d e=true→QN A s u x (decide (d=e)):=by
 intro n;induction n using UC with | ind n ih=>?_
 intro A hu v w d e u x r1 r2 i1 i2 hc;have hc0:=hc;cases ny hc with
 | int a b=>rw [i1.mQ] at r1; rw [i2.mQ] at r2; obtain ⟨t,rfl⟩:=r1; obtain ⟨t',rfl⟩:=r2; rw [nj]; exact RN a t b t'
 | bl a b=>rw [i1.uG] at r1; rw [i2.uG] at r2; cases r1; cases r2; rw [vZ]; exact UT a b
 | str a b=>rw [i1.o9] at r1; rw [i2.o9] at r2; obtain ⟨t,rfl⟩:=r1; obtain ⟨t',rfl⟩:=r2; rw [qr]; exact Vu a t b t'
 | non=>rw [i1.tG] at r1; rw [i2.tG] at r2; cases r1; cases r2; rw [decide_eq_true rfl]; exact SD _
 | @lst n ds es h =>
  have j1:=i1;have j2:=i2;obtain ⟨p,xs,rfl,z1,h1,l1,g1⟩:=i1.lI;obtain ⟨q,ys,rfl,z2,h2,l2,g2⟩:=i2.lI;cases r1;cases r2;by_cases hpq:p=q
  ·subst hpq;rw [decide_eq_true (Is.inj _ hc0 j1 j2)];exact SD _
  ·obtain ⟨_,us,m1,k1,n1,o1⟩:=I.m4 h1;obtain ⟨_,ws,m2,k2,n2,o2⟩:=I.m4 h2;rw [vY];have e1:=g1.length;have e2:=g2.length;refine Vx hpq ?_;by_cases hl:ds.length=es.length
   ·exact rb ⟨_,o1,rfl,_,rfl⟩ ⟨_,o2,rfl,_,rfl⟩ (by lia) (by lia) (by lia) (iP (h hl) k1 k2 g1 g2 (ih n (Qy _) (by rw [in1_units]; lia)))
   ·have q:=RC (A:=A) (s:=s) (items:=us.toArray) (items2:=ws.toArray) ⟨_,o1,rfl,_,rfl⟩ ⟨_,o2,rfl,_,rfl⟩ (by simp; lia) (by lia);have e:decide (ds=es)=false:=decide_eq_false fun z=>hl (by rw [z]);rw [e];exact q
 | @tup n ds es hl h =>
  have j1:=i1;have j2:=i2;obtain ⟨p,xs,rfl,z1,h1,l1,g1⟩:=i1.o8;obtain ⟨q,ys,rfl,z2,h2,l2,g2⟩:=i2.o8;cases r1;cases r2;by_cases hpq:p=q
  ·subst hpq;rw [decide_eq_true (Is.inj _ hc0 j1 j2)];exact SD _
  ·obtain ⟨us,k1,o1,_⟩:=I.tuple (xs:=xs) (.inl (.inl h1));obtain ⟨ws,k2,o2,_⟩:=I.tuple (xs:=ys) (.inl (.inl h2));rw [vX];have e1:=g1.length;have e2:=g2.length;have n1:=k1.length;have n2:=k2.length;exact Vx hpq (Bd o1 o2 (by lia) (by lia) hl (by lia) (iP h k1 k2 g1 g2 (ih n (Qy _) (by rw [in1_units]; lia))))
def Ji (K:NK) (neg:Bool):R2:=fun x y H Q=>∃ d e,Is K H No x d∧Is K H No y e∧dP 20 d e=true∧Q (.bl (if neg=true then !decide (d=e) else decide (d=e))) H
theorem c8 (hu:X.A.units+64<RT):o6 X (Qa .Eq) (Ji K false):=by
 intro pins s σ H x y v u Q I rx ry h;obtain ⟨d,e,i1,i2,hc,h⟩:=h;rw [if_neg N8] at h;cases ny hc with
 | int a b=>obtain rfl:=i1.mQ; obtain rfl:=i2.mQ; exact Bn pins s σ H _ _ v u Q I rx ry ⟨rfl,by rw [show decide (V.int a=V.int b)=decide (D.int a=D.int b) from decide_eq_decide.mpr ⟨fun q=>by cases q; rfl,fun q=>by cases q; rfl⟩]; exact h⟩
 | bl a b=>obtain rfl:=i1.uG; obtain rfl:=i2.uG; exact Bn pins s σ H _ _ v u Q I rx ry ⟨rfl,by rw [show decide (V.bl a=V.bl b)=decide (D.bl a=D.bl b) from decide_eq_decide.mpr ⟨fun q=>by cases q; rfl,fun q=>by cases q; rfl⟩]; exact h⟩
 | str a b=>obtain rfl:=i1.o9; obtain rfl:=i2.o9; exact Bn pins s σ H _ _ v u Q I rx ry ⟨rfl,by rw [show decide (V.str a=V.str b)=decide (D.str a=D.str b) from decide_eq_decide.mpr ⟨fun q=>by cases q; rfl,fun q=>by cases q; rfl⟩]; exact h⟩
 | non=>obtain rfl:=i1.tG; obtain rfl:=i2.tG; exact Bn pins s σ H _ _ v u Q I rx ry ⟨rfl,by rw [show decide (V.non=V.non)=decide (D.non=D.non) from decide_eq_decide.mpr ⟨fun q=>rfl,fun q=>rfl⟩]; exact h⟩
 | @lst n ds es hh =>
  show 0
  ·exact rb ⟨_,o1,rfl,_,rfl⟩ ⟨_,o2,rfl,_,rfl⟩ (by lia) (by lia) (by lia) (iP (hh hl) k1 k2 g1 g2 (qo I 19 (by rw [in1_units]; lia))) X.prog X.w X.xe _ ⟨.bl _,H,I,rfl,h⟩
  ·have q:=RC (A:=X.A) (s:=s) (items:=us.toArray) (items2:=ws.toArray) ⟨_,o1,rfl,_,rfl⟩ ⟨_,o2,rfl,_,rfl⟩ (by simp; lia) (by lia);have e:decide (ds=es)=false:=decide_eq_false fun z=>hl (by rw [z]);rw [e] at h;exact q X.prog X.w X.xe _ ⟨.bl _,H,I,rfl,h⟩
 | @tup n ds es hl hh =>obtain ⟨p,xs,rfl,z1,h1,l1,g1⟩:=i1.o8;obtain ⟨q,ys,rfl,z2,h2,l2,g2⟩:=i2.o8;cases rx;cases ry;obtain ⟨us,k1,o1,_⟩:=I.tuple (xs:=xs) (.inl (.inl h1));obtain ⟨ws,k2,o2,_⟩:=I.tuple (xs:=ys) (.inl (.inl h2));rw [vX] at h;have e1:=g1.length;have e2:=g2.length;have n1:=k1.length;have n2:=k2.length;exact Bd o1 o2 (by lia) (by lia) hl (by lia) (iP hh k1 k2 g1 g2 (qo I 19 (by rw [in1_units]; lia))) X.prog X.w X.xe _ ⟨.bl _,H,I,rfl,h⟩
theorem mi (hu:X.A.units+64<RT):o6 X (Qa .NotEq) (Ji K true):=by
 intro pins s σ H x y v u Q I rx ry h;obtain ⟨d,e,i1,i2,hc,h⟩:=h;rw [if_pos rfl] at h;cases ny hc with
 | int a b=>obtain rfl:=i1.mQ; obtain rfl:=i2.mQ; exact Bm pins s σ H _ _ v u Q I rx ry ⟨rfl,by rw [show decide (V.int a=V.int b)=decide (D.int a=D.int b) from decide_eq_decide.mpr ⟨fun q=>by cases q; rfl,fun q=>by cases q; rfl⟩]; exact h⟩
 | bl a b=>obtain rfl:=i1.uG; obtain rfl:=i2.uG; exact Bm pins s σ H _ _ v u Q I rx ry ⟨rfl,by rw [show decide (V.bl a=V.bl b)=decide (D.bl a=D.bl b) from decide_eq_decide.mpr ⟨fun q=>by cases q; rfl,fun q=>by cases q; rfl⟩]; exact h⟩
 | str a b=>obtain rfl:=i1.o9; obtain rfl:=i2.o9; exact Bm pins s σ H _ _ v u Q I rx ry ⟨rfl,by rw [show decide (V.str a=V.str b)=decide (D.str a=D.str b) from decide_eq_decide.mpr ⟨fun q=>by cases q; rfl,fun q=>by cases q; rfl⟩]; exact h⟩
 | non=>obtain rfl:=i1.tG; obtain rfl:=i2.tG; exact Bm pins s σ H _ _ v u Q I rx ry ⟨rfl,by rw [show decide (V.non=V.non)=decide (D.non=D.non) from decide_eq_decide.mpr ⟨fun q=>rfl,fun q=>rfl⟩]; exact h⟩
 | @lst n ds es hh =>
  show 0
  ·exact vi ⟨_,o1,rfl,_,rfl⟩ ⟨_,o2,rfl,_,rfl⟩ (by lia) (by lia) (by lia) (iP (hh hl) k1 k2 g1 g2 (qo I 19 (by rw [in1_units]; lia))) X.prog X.w X.xe _ ⟨.bl _,H,I,rfl,h⟩
  ·have q:=S4 (A:=X.A) (s:=s) (items:=us.toArray) (items2:=ws.toArray) ⟨_,o1,rfl,_,rfl⟩ ⟨_,o2,rfl,_,rfl⟩ (by simp; lia) (by lia);have e:decide (ds=es)=false:=decide_eq_false fun z=>hl (by rw [z]);rw [e] at h;exact q X.prog X.w X.xe _ ⟨.bl _,H,I,rfl,h⟩
 | @tup n ds es hl hh =>obtain ⟨p,xs,rfl,z1,h1,l1,g1⟩:=i1.o8;obtain ⟨q,ys,rfl,z2,h2,l2,g2⟩:=i2.o8;cases rx;cases ry;obtain ⟨us,k1,o1,_⟩:=I.tuple (xs:=xs) (.inl (.inl h1));obtain ⟨ws,k2,o2,_⟩:=I.tuple (xs:=ys) (.inl (.inl h2));rw [vX] at h;have e1:=g1.length;have e2:=g2.length;have n1:=k1.length;have n2:=k2.length;exact CB o1 o2 (by lia) (by lia) hl (by lia) (iP hh k1 k2 g1 g2 (qo I 19 (by rw [in1_units]; lia))) X.prog X.w X.xe _ ⟨.bl _,H,I,rfl,h⟩
end
section
variable {ta tb:TE} {a b:DE}
def jQ (neg:Bool) (a b:DE):DE:=fun ρ=>match a ρ with
 | some d=>(match b ρ with
  | some e=>if dP 20 d e=true then some (.bl (if neg=true then !decide (d=e) else decide (d=e))) else none
  | none=>none)
 | none=>none
theorem c0 [bB] (ha:a0 K ta a) (hb:a0 K tb b):aq K (nW (Ji K neg) ta tb) (jQ neg a b):=fun {B Z os ρ σ H Q d} f q k=>by
 unfold jQ at q;split at q
 ·rename_i x e1;split at q
  ·rename_i y e2;by_cases c:dP 20 x y=true
   ·rw [if_pos c] at q;cases q;exact ha f e1 fun v H1 s1 i1=>hb (f.grow s1) e2 fun u H2 s2 i2=>⟨x,y,i1.same s2,i2,c,k _ _ ‹47› (.bl _)⟩
   ·rw [if_neg c] at q; cases q
  ·cases q
 ·cases q
end
end
end
end VL
namespace L2
variable {es:List Pt} {t:wA} {n:Nat} {pos:SY}
open PySem PySem.Spec PyProof.Rows
section
variable {X:Cx}
def Hd (K:NK) (n:Nat) (t:wA):TG:=fun v σ H Q=>LH K n t v σ H Q∨LI K n t v σ H Q
theorem Jq {k:Nat} (hc:X.calm=true) (h:KG X es t)
 (hn:(Qe es X.env).length=n:=by rfl) (hst:(Qe es X.env).findIdx? (·.1)=none:=by rfl):PG X (.Tuple es k pos) (Hd X.K n t):=by
 intro pins s σ H v u Q I r hw;rcases hw with hw | hw
 ·exact Jp hc h hn hst pins s σ H v u Q I r hw
 ·exact Jr hc h hn hst pins s σ H v u Q I r hw
theorem fO {K:NK} {k:Nat} (hK:X.K=K) (hc:X.calm=true) (h:KG X es t)
 (hn:(Qe es X.env).length=n:=by rfl) (hst:(Qe es X.env).findIdx? (·.1)=none:=by rfl):PG X (.Tuple es k pos) (Hd K n t):=by
 subst hK;exact Jq hc h hn hst
end
end L2
namespace VL
variable {wi:TI} {m:Bool} {T:NP→Prop} {p:NP} {vs:List V} {ds:List D} {tl:TE} {a:DE} {lo:Int} {n:Nat} {d:D} {ρ:aK} {Z:NP→Prop} {os:Own} {σ:L2.St} {u:wA}
open PySem L2
section
open Classical
section
variable [bB] {K:NK}
def FV (K:NK) (t:TE) (e:DE):Prop:=∀ {B:Hp} {Z:NP→Prop} {os:Own} {ρ:aK} {σ:L2.St} {H:Hp} {Q:VK} {d:D},Fr K B Z os ρ σ H→e ρ=some d→(∀ v H',aW H H'→Is K B No v d→Q v H')→t σ H Q
def rX (i:Nat):DE:=fun ρ=>match ρ.getD i .un with
 | .bo d=>some d
 | _=>none
theorem Ee (i:Nat):FV K (lC i) (rX i):=fun {B Z os ρ σ H Q d} f q k=>by
 have s:=f.sl i;unfold rX at q;cases e:ρ.getD i .un with
 | bo d' =>rw [e] at q s;cases q;obtain ⟨_,u,hu,i⟩:=s;exact ⟨u,join_some hu,k u H (aW.refl _) i⟩
 | _=>rw [e] at q; cases q
def ER (K:NK) (m:Bool) (Bx H:Hp) (T:NP→Prop) (x:V) (d:D):Prop:=match m with
 | true=>Is K H T x d
 | false=>Is K Bx No x d
structure Walk (K:NK) (m:Bool) (Bx:Hp) (J:It) (H1:Hp) (T:NP→Prop) (ds:List D):Prop where
 len:ds.length≤NM
 go:∀ (i:Nat) (d:D) (H2:Hp) (T2:NP→Prop),Kp T H1 T2 H2→aW Bx H2→(∀ a,T2 a→∃ o,H2 a=some o)→ds[i]?=some d→J.go i H2∧∀ x H3,J.LU i H2 x H3→aW H2 H3∧ER K m Bx H3 T2 x d
 stop:∀ (i:Nat) (H2:Hp) (T2:NP→Prop),Kp T H1 T2 H2→aW Bx H2→ds.length=i→J.stop i H2
noncomputable def gh (K:NK) (m:Bool) (wi:TI) (e:aK→Option (List D)):Prop:=∀ {B:Hp} {Z:NP→Prop} {os:Own} {ρ:aK} {σ:L2.St} {H:Hp} {R:It→Hp→Prop} {ds:List D},Fr K B Z os ρ σ H→e ρ=some ds→(∀ J H1,aW H H1→Walk K m B J H1 (bW Z os) ds→R J H1)→wi σ H R
noncomputable def BU (K:NK) (m:Bool) (wi:TI) (e:aK→Option (List D)):Prop:=∀ {B:Hp} {Z:NP→Prop} {os:Own} {ρ:aK} {σ:L2.St} {H:Hp} {R:It→Hp→Prop} {ds:List D},Fr K B Z os ρ σ H→e ρ=some ds→(∀ J H1,aW H H1→Walk K m H1 J H1 (bW Z os) ds→R J H1)→wi σ H R
theorem gh.c {e:aK→Option (List D)} (h:gh K true wi e):BU K true wi e:=fun f q k=>h f q fun J H1 s w=>k J H1 s ⟨w.len,fun i d H2 T2 kp sm hd e=>w.go i d H2 T2 kp ((f.keep.trans s).trans sm) hd e,fun i H2 T2 kp sm hl=>w.stop i H2 T2 kp ((f.keep.trans s).trans sm) hl⟩
theorem Rd.same {H H':Hp} {a:NP} {u:HO} (h:Rd H a u) (s:aW H H'):Rd H' a u:=by
 rcases h with h | ⟨o,h⟩
 ·exact .inl (s _ _ h)
 ·exact .inr ⟨o,s _ _ h⟩
theorem n6 {Bx H1:Hp} (hl:ds.length≤NM) (hd0:∀ H2 T2,Kp T H1 T2 H2→aW Bx H2→dQ K H2 p vs) (hn:vs.length=ds.length)
 (hi:∀ H2 T2 (i:Nat) v d,Kp T H1 T2 H2→aW Bx H2→vs[i]?=some v→ds[i]?=some d→ER K m Bx H2 T2 v d):Walk K m Bx (L9 K p) H1 T ds:=by
 refine ⟨hl,fun i d H2 T2 kp sb hd e=>?_,fun i H2 T2 kp sb hi=>⟨vs,hd0 H2 T2 kp sb,by lia⟩⟩;have hr2:=hd0 H2 T2 kp sb;have hi':i<vs.length:=by rw [hn]; exact (Oe.mp e).1
 have e1:vs[i]?=some vs[i]:=NG hi';refine ⟨⟨vs,_,hr2,e1⟩,fun x H3 ⟨e3,hx⟩=>?_⟩;subst e3;have:=hx vs hr2;rw [e1] at this;cases this;exact ⟨aW.refl _,hi _ T2 i _ d kp sb e1 e⟩
theorem dX (ha:aq K tl a):gh K true (yd K tl) (fH a):=fun {B Z os ρ σ H R ds} f q k=>by obtain ⟨d,q,ed⟩:=dU q;refine ha f q fun v H1 s1 i1=>?_;obtain ⟨p,vs,rfl,hl,hn,hr⟩:=i1.seq ed;refine ⟨p,rfl,⟨vs,(hr H1 _ Kp.refl).1⟩,k _ _ s1 (n6 (vs:=vs) (by lia) (fun H2 T2 kp _=>(hr H2 T2 kp).1) hn fun H2 T2 i v d kp _ e1 e2=>?_)⟩;obtain ⟨v',f1,i2⟩:=(hr H2 T2 kp).2.get e2;rw [e1] at f1;cases f1;exact i2
theorem cV (ha:a0 K tl a):BU K false (yd K tl) (fH a):=fun {B Z os ρ σ H R ds} f q k=>by obtain ⟨d,q,ed⟩:=dU q;refine ha f q fun v H1 s1 i1=>?_;obtain ⟨p,vs,rfl,hl,hn,hr⟩:=i1.seq ed;refine ⟨p,rfl,⟨vs,(hr H1 _ Kp.refl).1⟩,k _ _ s1 (n6 (vs:=vs) (by lia) (fun H2 T2 kp sb=>(hr H2 No (Kp.same sb)).1) hn fun H2 T2 i v d kp sb e1 e2=>?_)⟩;obtain ⟨v',f1,i2⟩:=(hr H1 No Kp.refl).2.get e2;rw [e1] at f1;cases f1;exact i2
def wJ (lo:Int) (n:Nat):List D:=(N4 n).map fun (i:Nat)=>.int (lo+(i:Int))
theorem p6:(wJ lo n).length=n:=by unfold wJ; rw [NH,Oc]
theorem AB {i:Nat} (h:(wJ lo n)[i]?=some d):i<n∧d=.int (lo+i):=by
 unfold wJ at h;rw [NR] at h;by_cases hi:i<n
 ·rw [PR hi] at h; cases h; exact ⟨hi,rfl⟩
 ·rw [OL (by rw [Oc]; lia)] at h; cases h
theorem qC {Bx H1:Hp} (hn:n≤NM):Walk K m Bx (LR lo n) H1 T (wJ lo n):=by
 refine ⟨by rw [p6]; exact hn,fun i d H2 T2 kp _ hd e=>?_,fun i H2 T2 kp _ hi=>by rw [p6] at hi; exact Uo hi⟩;obtain ⟨hi,rfl⟩:=AB e;refine ⟨hi,fun x H3 ⟨e3,ex⟩=>?_⟩;subst e3 ex;cases m
 ·exact ⟨aW.refl _,.int _⟩
 ·exact ⟨aW.refl _,.int _⟩
def iK (a:DE):aK→Option (List D):=fun ρ=>match a ρ with
 | some (.int j)=>if -(2 ^ 62)≤j∧j.toNat≤NM then some (wJ 0 j.toNat) else none
 | _=>none
noncomputable def FF (a b:DE):aK→Option (List D):=fun ρ=>match a ρ with
 | some (.int i)=>(match b ρ with
  | some (.int j)=>if -(2 ^ 62)≤i∧i<2 ^ 62∧-(2 ^ 62)≤j∧j<2 ^ 62∧(j-i).toNat≤NM then some (wJ i (j-i).toNat) else none
  | _=>none)
 | _=>none
theorem df {ta:TE} (ha:a0 K ta a):gh K true (Im (cx ta ft)) (iK a):=fun {B Z os ρ σ H R ds} f q k=>by
 unfold iK at q;split at q
 ·rename_i j e;by_cases c:-(2 ^ 62)≤j∧j.toNat≤NM
  ·rw [if_pos c] at q;cases q;have hs:NM=16777216:=OA;exact ha f e fun v H1 s1 i1=>⟨j,by rw [i1.isInt],c.1,by lia,k _ _ s1 (qC c.2)⟩
  ·rw [if_neg c] at q; cases q
 ·cases q
theorem Ca {ta tb:TE} {b:DE} (ha:a0 K ta a) (hb:a0 K tb b):gh K true (Il (cx ta (cx tb ft))) (FF a b):=fun {B Z os ρ σ H R ds} f q k=>by
 unfold FF at q;split at q
 ·rename_i i e;split at q
  ·rename_i j e2;by_cases c:-(2 ^ 62)≤i∧i<2 ^ 62∧-(2 ^ 62)≤j∧j<2 ^ 62∧(j-i).toNat≤NM
   ·rw [if_pos c] at q;cases q;exact ha f e fun v H1 s1 i1=>hb (f.grow s1) e2 fun u H2 s2 i2=>⟨i,j,by rw [i1.isInt,i2.isInt],⟨c.1,c.2.1,c.2.2.1,c.2.2.2.1⟩,k _ _ ‹47› (qC c.2.2.2.2)⟩
   ·rw [if_neg c] at q; cases q
  ·cases q
 ·cases q
def vW (ds:List D):List D:=ds.mapIdx fun i d=>.tup [.int i,d]
theorem qp {i:Nat} (h:(vW ds)[i]?=some d):∃ e,ds[i]?=some e∧d=.tup [.int i,e]:=by
 unfold vW at h;rw [List.getElem?_mapIdx] at h;cases e:ds[i]? with
 | none=>rw [e] at h; cases h
 | some x=>rw [e] at h; cases h; exact ⟨x,rfl,rfl⟩
def Ai (a:DE):aK→Option (List D):=fun ρ=>match fH a ρ with
 | some ds=>some (vW ds)
 | none=>none
theorem tE {Bx H1:Hp} (hl:ds.length≤NM) (hd0:∀ H2 T2,Kp T H1 T2 H2→aW Bx H2→dQ K H2 p vs∧IsL K H2 T2 vs ds):Walk K true Bx (Ma K p) H1 T (vW ds):=by
 have hlen:(vW ds).length=ds.length:=by unfold vW; rw [Ra]
 refine ⟨by rw [hlen]; exact hl,fun i d H2 T2 kp sb hd e=>?_,fun i H2 T2 kp sb hi=>?_⟩
 ·obtain ⟨x,ex,rfl⟩:=qp e;obtain ⟨hr2,r2⟩:=hd0 H2 T2 kp sb;obtain ⟨v,e1,i2⟩:=r2.get ex;refine ⟨⟨vs,v,hr2,e1⟩,fun y H3 hy=>?_⟩;obtain ⟨t,w,ey,nt,hw,e3⟩:=hy;subst e3 ey;have:=hw vs hr2;rw [e1] at this;cases this;refine ⟨bO nt,show Is K _ T2 (.ref t) (.tup [.int i,x]) from .tup (fun z=>?_) aN (by show 2≤NM; decide) ((IsL.cons (.int _) (.one i2)).same (bO nt))⟩;obtain ⟨o,q⟩:=hd t z;rw [nt] at q; cases q
 ·obtain ⟨hr2,r2⟩:=hd0 H2 T2 kp sb;exact ⟨vs,hr2,by rw [r2.length,← hlen]; exact Uo hi⟩
theorem yz (h:Ai a ρ=some ds):∃ es,fH a ρ=some es∧ds=vW es:=by
 unfold Ai at h;split at h
 ·rename_i es e; exact ⟨es,e,(OD h).symm⟩
 ·cases h
theorem p8 (ha:aq K tl a):gh K true (BA K tl) (Ai a):=fun {B Z os ρ σ H R ds} f q k=>by obtain ⟨es,e,rfl⟩:=yz q;obtain ⟨d,e,ed⟩:=dU e;refine ha f e fun v H1 s1 i1=>?_;obtain ⟨p,vs,rfl,hl,hn,hr⟩:=i1.seq ed;exact ⟨p,rfl,⟨vs,(hr H1 _ Kp.refl).1⟩,k _ _ s1 (tE (by lia) fun H2 T2 kp _=>hr H2 T2 kp)⟩
def mz (a:DE):DE:=fun ρ=>match fH a ρ with
 | some ds=>if iz ds=true then some (.lst ds) else none
 | none=>none
theorem yi (h:Ai (mz a) ρ=some ds):∃ es,fH a ρ=some es∧iz es=true∧ds=vW es:=by
 obtain ⟨es,e,rfl⟩:=yz h;obtain ⟨d,e,ed⟩:=dU e;unfold mz at e;split at e
 ·rename_i fs e2;by_cases c:iz fs=true
  ·rw [if_pos c] at e; cases e; cases ed; exact ⟨_,e2,c,rfl⟩
  ·rw [if_neg c] at e; cases e
 ·cases e
theorem D4 (ha:FV K tl a):gh K true (BA K tl) (Ai (mz a)):=fun {B Z os ρ σ H R ds} f q k=>by obtain ⟨es,e,c,rfl⟩:=yi q;obtain ⟨d,e,ed⟩:=dU e;refine ha f e fun v H1 s1 i1=>?_;obtain ⟨p,vs,rfl,hl,hn,hr⟩:=i1.seq ed;exact ⟨p,rfl,⟨vs,(hr H1 No (Kp.same (f.keep.trans s1))).1⟩,k _ _ s1 (tE (by lia) fun H2 T2 kp sb=>⟨(hr H2 No (Kp.same sb)).1,(hr H2 No (Kp.same sb)).2.flat c⟩)⟩
abbrev DG:=D→aK→Option aK
abbrev KQ:=List D→aK→Option aK
noncomputable def wk (K:NK) (m:Bool) (g:TG) (e:DG):Prop:=∀ {B:Hp} {Z:NP→Prop} {os:Own} {ρ:aK} {σ:L2.St} {H:Hp} {Q:L2.St→Hp→Prop} {v:V} {d:D} {ρ':aK},Fr K B Z os ρ σ H→ER K m B H (bW Z os) v d→e d ρ=some ρ' →
 (∀ os' σ',Fr K B Z os' ρ' σ' H→Kp (bW Z os) H (bW Z os') H→Q σ' H)→g v σ H Q
def Ni (K:NK) (m:Bool) (Bx H:Hp) (T:NP→Prop) (vs:List V) (ds:List D):Prop:=match m with
 | true=>IsL K H T vs ds
 | false=>IsL K Bx No vs ds
noncomputable def BV (K:NK) (m:Bool) (g:wA) (e:KQ):Prop:=∀ {B:Hp} {Z:NP→Prop} {os:Own} {ρ:aK} {σ:L2.St} {H:Hp} {Q:L2.St→Hp→Prop} {vs:List V} {ds:List D} {ρ':aK},Fr K B Z os ρ σ H→Ni K m B H (bW Z os) vs ds→e ds ρ=some ρ' →
 (∀ os' σ',Fr K B Z os' ρ' σ' H→Kp (bW Z os) H (bW Z os') H→Q σ' H)→g vs σ H Q
def zh (m:Bool) (d:D):Sl:=match m with
 | true=>.pu d
 | false=>.bo d
def gN (m:Bool) (i:Nat):DG:=fun d ρ=>some (ρ.set i (zh m d))
theorem Fr.Jj {B H:Hp} (f:Fr K B Z os ρ σ H) (i:Nat) {v:V} (h:ER K m B H (bW Z os) v d) :
 ∃ os',Fr K B Z os' (ρ.set i (zh m d)) (σ.set i (some v)) H∧Kp (bW Z os) H (bW Z os') H:=by
 by_cases hi:i < ρ.length
 ·cases m with
  | true=>exact ⟨_,f.put hi h⟩
  | false=>exact ⟨_,f.step (s:=.bo d) (v:=some v) hi (fun a u e _=>e) (fun a ha=>let ⟨xs,e⟩:=(f.sl i).sZ ha; ⟨_,e⟩) O8 (fun a h=>by cases h) ⟨rfl,v,rfl,h⟩⟩
 ·have e1:ρ.set i (zh m d)=ρ:=TL (by lia);have e2:σ.set i (some v)=σ:=TL (by rw [f.len]; lia);rw [e1,e2];exact ⟨os,f,Kp.refl⟩
theorem aH (i:Nat):wk K m (iT i) (gN m i):=fun {B Z os ρ σ H Q v d ρ'} f h q k=>by cases q;obtain ⟨os',f',kp⟩:=f.Jj i h;exact k os' _ f' kp
def iS:KQ:=fun ds ρ=>match ds with
 | []=>some ρ
 | _=>none
def b8 (e:DG) (r:KQ):KQ:=fun ds ρ=>match ds with
 | d::t=>(match e d ρ with
  | some ρ'=>r t ρ'
  | none=>none)
 | []=>none
theorem fL:BV K m Ka iS:=fun {B Z os ρ σ H Q vs ds ρ'} f h q k=>by
 cases ds with
 | nil =>
  cases q;have e:vs=[]:=by cases m <;> cases h <;> rfl
  exact ⟨e,k os σ f Kp.refl⟩
 | cons d t=>cases q
theorem bH {g:TG} {e:DG} {r:KQ} (hg:wk K m g e) (hr:BV K m u r):BV K m (Fp g u) (b8 e r):=fun {B Z os ρ σ H Q vs ds ρ'} f h q k=>by
 cases ds with
 | nil=>cases q
 | cons d t =>
  have q:(match e d ρ with | some ρ'=>r t ρ' | none=>none)=some ρ':=q;split at q
  ·rename_i ρ1 e1
   obtain ⟨v,vt,rfl,h1,h2⟩:∃ v vt,vs=v::vt∧ER K m B H (bW Z os) v d∧Ni K m B H (bW Z os) vt t:=by
    cases m with
    | true=>cases h with | cons a b=>exact ⟨_,_,rfl,a,b⟩
    | false=>cases h with | cons a b=>exact ⟨_,_,rfl,a,b⟩
   refine ⟨v,vt,rfl,hg f h1 e1 fun os1 σ1 f1 k1=>hr f1 ?_ q fun os2 σ2 f2 k2=>k os2 σ2 f2 (k1.trans k2)⟩;cases m with
   | true=>exact IsL.kp k1 h2
   | false=>exact h2
  ·cases q
def Dg (n:Nat) (r:KQ):DG:=fun d ρ=>match d with
 | .tup ds=>if ds.length=n then r ds ρ else none
 | .lst ds=>if ds.length=n then r ds ρ else none
 | _=>none
theorem lJ {r:KQ} (hr:BV K m u r):wk K m (Hd K n u) (Dg n r):=fun {B Z os ρ σ H Q v d ρ'} f h q k=>by
 cases d with
 | tup ds =>
  have q:(if ds.length=n then r ds ρ else none)=some ρ':=q;by_cases c:ds.length=n
  ·rw [if_pos c] at q;cases m with
   | true =>obtain ⟨p,vs,rfl,hz,hr',hl,g⟩:=Is.isTup h;exact .inl ⟨p,vs,rfl,.inl (.inl hr'),by rw [g.length]; exact c,hr f g q k⟩
   | false =>obtain ⟨p,vs,rfl,hz,hr',hl,g⟩:=Is.isTup h;exact .inl ⟨p,vs,rfl,.inl (.inl (f.keep _ _ hr')),by rw [g.length]; exact c,hr f g q k⟩
  ·rw [if_neg c] at q; cases q
 | lst ds =>
  have q:(if ds.length=n then r ds ρ else none)=some ρ':=q;by_cases c:ds.length=n
  ·rw [if_pos c] at q;cases m with
   | true =>obtain ⟨p,vs,rfl,hz,hr',hl,g⟩:=Is.rJ h;exact .inr ⟨p,vs,rfl,.inl hr',by rw [g.length]; exact c,hr f g q k⟩
   | false =>obtain ⟨p,vs,rfl,hz,hr',hl,g⟩:=Is.rJ h;exact .inr ⟨p,vs,rfl,.inl (Rd.same hr' f.keep),by rw [g.length]; exact c,hr f g q k⟩
  ·rw [if_neg c] at q; cases q
 | _=>cases q
theorem Fr.B9 {B H:Hp} (f:Fr K B Z os ρ σ H):∀ a,bW Z os a→∃ o,H a=some o:=by
 rintro a (z | ⟨i,z⟩)
 ·exact f.DI a z
 ·obtain ⟨xs,e⟩:=(f.sl i).sZ z;exact ⟨_,e⟩
theorem Fr.zt {B H:Hp} (f:Fr K B Z os ρ σ H):ZT (bW Z os) H:=⟨f.B9,f.l9⟩
def view:Sl→Sl
 | .pu d=>.pu d
 | .bo d=>.bo d
 | .ol ds=>.bo (.lst ds)
 | .om rows=>.bo (.lst (rows.map D.lst))
 | .od kvs=>.bo (.dct kvs)
 | .pm _ _ rows=>.bo (.lst (rows.map D.lst))
 | .pd _ kvs=>.bo (.dct kvs)
 | .un=>.un
def r0 (k:Nat) (cs:List Nat) (ρ:aK):aK:=Oz k .un++cs.map fun i=>view (ρ.getD i .un)
def s0 (k:Nat) (cs:List Nat) (σ:L2.St):L2.St:=Oz k none++cs.map fun i=>(σ[i]?).join
theorem BR {B H1 H:Hp} {Dl:NP} {o:HO} (f:Fr K B Z os ρ σ H1) (hD:H1 Dl=none) (s:aW H1 H) (hd:H Dl=some o) (k:Nat) (cs:List Nat) :
    Fr K H1 (fun a=>a=Dl∨bW Z os a) (fun _=>[]) (r0 k cs ρ) (s0 k cs σ) H where
  keep:=s
  DI:=fun a z=>by
    rcases z with rfl | z
    · exact ⟨o,hd⟩
    · obtain ⟨u,e⟩:=f.B9 a z;exact ⟨u,s _ _ e⟩
  len:=by unfold r0 s0; simp
  nd:=fun _=>O8
  dj:=fun _ _ _ h=>by cases h
  tab:=f.l9
  new:=fun _ _ h=>by cases h
  sl:=fun j=>by
    have kp:Kp (bW Z os) H1 (bW (fun a=>a=Dl∨bW Z os a) fun _=>[]) H:=fun a u e z=>by
      refine ⟨s _ _ e,?_⟩;rintro ((rfl | q) | ⟨_,q⟩)
      · rw [hD] at e; cases e
      · exact z q
      · cases q
    unfold r0 s0;rw [NF];by_cases hj:j<k
    · rw [OM (by simpa using hj),OM (by simpa using hj),Pg,if_pos hj];exact rfl
    · rw [Ox (by simpa using hj),Ox (by simpa using hj),OQ,OQ,NR,NR];cases e:cs[j-k]? with
      | none=>exact rfl
      | some i =>
        have h:=f.sl i;show tu K _ _ _ _ (view (ρ.getD i .un)) ((σ[i]?).join);cases e2:ρ.getD i .un with
        | un=>exact rfl
        | pu d =>rw [e2] at h;obtain ⟨_,u,hu,i1⟩:=h;exact ⟨rfl,u,hu,i1.kp kp⟩
        | bo d =>rw [e2] at h;obtain ⟨_,u,hu,i1⟩:=h;exact ⟨rfl,u,hu,i1.same f.keep⟩
        | ol ds =>rw [e2] at h;obtain ⟨a,vs,_,hu,hH,hl,i1⟩:=h;exact ⟨rfl,_,hu,.lst (fun z=>z) (.inl hH) hl i1.all⟩
        | om rows =>rw [e2] at h;obtain ⟨a,ps,_,hu,hH,hl,i1⟩:=h;exact ⟨rfl,_,hu,.lst (fun z=>z) (.inl hH) (by rw [NH]; exact hl) (gE i1)⟩
        | od kvs =>rw [e2] at h;obtain ⟨a,_,hu,hH,hl⟩:=h;exact ⟨rfl,_,hu,.dct (fun z=>z) (.inl hH) hl⟩
        | pm a ps rows =>rw [e2] at h;obtain ⟨_,hu,hH,hl,i1⟩:=h;exact ⟨rfl,_,hu,.lst (fun z=>z) (.inl hH) (by rw [NH]; exact hl) (gE i1)⟩
        | pd a kvs =>rw [e2] at h;obtain ⟨_,hu,hH,hl⟩:=h;exact ⟨rfl,_,hu,.dct (fun z=>z) (.inl hH) hl⟩
noncomputable def mG (g:DG) (t:aK→Option Bool) (e:DE) (ρ0:aK):List D→Option (List D)
 | []=>some []
 | d::ds=>match g d ρ0 with
  | none=>none
  | some ρ1=>match t ρ1 with
   | none=>none
   | some false=>mG g t e ρ0 ds
   | some true=>match e ρ1 with
    | none=>none
    | some y=>match mG g t e ρ0 ds with
     | none=>none
     | some ys=>some (y::ys)
def bJ (k:Nat) (cs:List Nat) (it:aK→Option (List D)) (g:DG) (t:aK→Option Bool) (e:DE):aK→Option (List D):=fun ρ=>match it ρ with
 | some ds=>mG g t e (r0 k cs ρ) ds
 | none=>none
theorem bP {k:Nat} {cs:List Nat} {g:TG} {tt:TT} {te:TE} {it:aK→Option (List D)} {gd:DG} {td:aK→Option Bool} {ed:DE} (hw:BU K m wi it) (hg:wk K m g gd) (ht:kE K tt td) (he:aq K te ed) :
 bF K (ph wi g tt te (s0 k cs)) (bJ k cs it gd td ed):=fun {B Z os ρ σ H Q ds} f q kk=>by
 unfold bJ at q;split at q
 ·show 2
  refine ⟨fun i m ys H2=>m=xs.length-i∧i≤xs.length∧aW H1 H2∧H2 Dl=some (.lst ys)∧ys.length≤i∧∃ done rest,IsL K H2 (fun a=>a=Dl∨bW Z os a) ys done∧mG gd td ed (r0 k cs ρ) (xs.drop i)=some rest∧done++rest=ds,
   ⟨_,rfl,O1 _,sD (aW.refl _),aN,N9 _,[],ds,.nil,q,rfl⟩,?_⟩
  rintro i mm ys H2 ⟨rfl,hi,s2,eD,hly,done,rest,il,q2,ed2⟩;have kp12:Kp (bW Z os) H1 (fun a=>a=Dl∨bW Z os a) H2:=fun a u e z=>⟨s2 _ _ e,fun w=>w.elim (bA e hD) z⟩
  by_cases hlt:i<xs.length
  ·have ex:xs[i]?=some xs[i]:=NG hlt;have ef:=BR f1 hD s2 eD k cs;obtain ⟨go,yl⟩:=W.go i xs[i] H2 _ kp12 s2 (fun a z=>ef.DI a z) ex;refine .inr ⟨go,fun x H3 hy=>?_⟩;obtain ⟨s3,er⟩:=yl x H3 hy;have eD3:=s3 _ _ eD;have s13:=s2.trans s3;have ef3:=BR f1 hD s13 eD3 k cs;rw [OB hlt] at q2;unfold mG at q2
   have er':ER K m H1 H3 (bW (fun a=>a=Dl∨bW Z os a) fun _=>[]) x xs[i]:=by
    cases m with
    | false=>exact er
    | true=>exact Is.kp (Kp.less fun a z=>z.elim id fun ⟨_,w⟩=>by cases w) er
   split at q2
   ·cases q2
   ·rename_i ρ1 e1;refine hg ef3 er' e1 fun os1 σ1 fr1 k1=>?_;split at q2
    ·cases q2
    ·rename_i e2;refine ht fr1 e2 fun H4 s4=>pU ⟨_,by lia,rfl,hlt,s13.trans s4,s4 _ _ eD3,by lia,done,rest,(il.same s3).same s4,q2,ed2⟩
    ·rename_i e2;refine ht fr1 e2 fun H4 s4=>vN ?_;split at q2
     ·cases q2
     ·rename_i y e3;split at q2
      ·cases q2
      ·rename_i rs e4;cases q2;refine he (fr1.grow s4) e3 fun v H5 s5 i5=>?_;have s35:=s4.trans s5;have eD5:=s35 _ _ eD3;have hl:=W.len;have kp5:∀ (zs:List V),Kp (fun a=>a=Dl∨bW Z os a) H5 (fun a=>a=Dl∨bW Z os a) (upd H5 Dl (.lst zs)):=fun zs a u e z=>⟨by rw [aG (fun w=>z (.inl w))]; exact e,z⟩
       have i5':Is K H5 (fun a=>a=Dl∨bW Z os a) v y:=i5.kp (Kp.less fun a z=>.inl z);refine ⟨eD5,by lia,_,by lia,rfl,hlt,sD (s13.trans s35),aN,by rw [N7,Pl]; lia,done++[y],rs,?_,e4,by rw [OG]; exact ed2⟩;exact ((il.same s3).same s35 |>.kp (kp5 _)).append (.one (i5'.kp (kp5 _)))
  ·have e:i=xs.length:=by lia
   subst e;rw [Si] at q2;cases q2;rw [OT] at ed2;subst ed2;have hl:=W.len;exact .inl ⟨W.stop _ H2 _ kp12 s2 rfl,eD,kk Dl ys H2 ‹47› (aW.free s1 hD) eD (by lia) il⟩
 ·cases q
inductive Fm where
 | v | l | m | x (E:XK) (C:NP)
noncomputable def HC (fr:Fm) (K:NK) (B H:Hp) (Z:NP→Prop) (v:V) (d:D):Prop:=match fr with
 | .v=>Is K H Z v d
 | .l=>(∃ p vs ds,v=.ref p∧d=.lst ds∧B p=none∧H p=some (.lst vs)∧vs.length≤NM∧IsL K H (fun a=>a=p∨Z a) vs ds)∨∃ p kvs,v=.ref p∧d=.dct kvs∧B p=none∧H p=some (.dK (kvs.map tf))∧kvs.length≤NM
 | .m=>∃ p ps rows,v=.ref p∧d=.lst (rows.map D.lst)∧B p=none∧(∀ a∈ps,B a=none)∧(p::ps).Nodup∧H p=some (.lst ‹41›)∧ps.length≤NM∧PU (fun q ds=>∃ vs,H q=some (.lst vs)∧vs.length≤NM∧IsL K H (fun a=>(a=p∨a∈ps)∨Z a) vs ds) ps rows
 | .x _ _=>Is K H Z v d
theorem xt {H:Hp} {Z T:NP→Prop} (hT:∀ a,Z a→T a):∀ {ps:List NP} {rows:List (List D)},(∀ p∈ps,¬ Z p)→PU (fun p ds=>∃ vs,H p=some (.lst vs)∧vs.length≤NM∧IsL K H T vs ds) ps rows→IsL K H Z ‹41› (rows.map D.lst)
 | _,_,_,.nil=>.nil
 | _,_,hz,.cons ⟨vs,h,hl,r⟩ t=>.cons (.lst (hz _ NJ) (.inl h) hl (r.kp (Kp.less hT))) (xt hT (fun p hp=>hz p (NI _ hp)) t)
theorem HC.is {fr:Fm} {B H:Hp} {v:V} (hz:∀ a,Z a→∃ o,B a=some o) (h:HC fr K B H Z v d):Is K H Z v d:=by
 have nz:∀ {p:NP},B p=none→¬ Z p:=fun {p} e z=>by obtain ⟨o,q⟩:=hz p z; rw [e] at q; cases q
 cases fr with
 | v=>exact h
 | x E C=>exact h
 | l =>
  rcases h with ⟨p,vs,ds,rfl,rfl,hb,hh,hl,r⟩ | ⟨p,kvs,rfl,rfl,hb,hh,hl⟩
  ·exact .lst (nz hb) (.inl hh) hl (r.kp (Kp.less fun a z=>.inr z))
  ·exact .dct (nz hb) (.inl hh) hl
 | m =>obtain ⟨p,ps,rows,rfl,rfl,hb,hbs,_,hh,hl,r⟩:=h;exact .lst (nz hb) (.inl hh) (by rw [NH]; exact hl) (xt (fun a z=>.inr z) (fun q hq=>nz (hbs q hq)) r)
def jS (fr:Fm) (K:NK) (ms:List Bool) (F:List D→Option D):Sp:=fun vs H Q _=>∃ (Z:NP→Prop) (ds:List D) (d:D),ZT Z H∧Args K H Z ms vs ds∧F ds=some d∧∀ v H',aW H H'→HC fr K H H' Z v d→Q v H'
def bb (F:List D→Option D) (es:aK→Option (List D)):DE:=fun ρ=>match es ρ with
 | some ds=>F ds
 | none=>none
theorem aI {fr:Fm} {ms:List Bool} {F:List D→Option D} {t:TA} {es:aK→Option (List D)} {E:XK} (ha:wm K ms t es):aq K (AN (jS fr K ms F) [] E t) (bb F es):=fun {B Z os ρ σ H Q d} f q k=>by
 unfold bb at q;split at q
 ·rename_i ds e;refine ha f e fun vs H1 s1 a=>?_;show jS fr K ms F (vs++[]) H1 Q E;rw [OT];exact ⟨bW Z os,ds,d,(f.grow s1).zt,a,q,fun v H2 s2 i=>k v H2 ‹47› (i.is (f.grow s1).B9)⟩
 ·cases q
end
end
end VL
namespace L2
open PySem PySem.Spec PyProof.Rows
section
variable {X:Cx}
theorem Fo:KI X (ED X.K):=by
 intro pins s σ H x y v u Q I rx ry h;obtain ⟨p,xs,i,z,rfl,rfl,hq,he,q⟩:=h;cases rx;obtain ⟨t,rfl⟩:=ry;obtain ⟨its,r,pl,hz⟩:=I.list hq;obtain ⟨j,h1,h2,h3,h4,h5⟩:=qu he;obtain ⟨w,ew,rw'⟩:=r.get h2;have hl:=r.length;have hn:=mw;have fin:EP X pins σ Q w s:=⟨z,H,I,rw',q⟩
 by_cases h0:0≤i
 ·have hj:i.toNat=j:=by rw [UR h0 h5] at h1;exact OD h1
  exact wpAny_getItem_list pl.isList h0 (by lia) (by rw [hj]; simpa using ew) fin
 ·have hj:(i+(its.toArray.size:Int)).toNat=j:=by rw [Ug (by lia) h4] at h1;rw [NY,← hl];exact OD h1
  exact Ui pl.isList (by lia) (by rw [NY] <;> lia) (by lia) (by rw [hj]; simpa using ew) fin
theorem De {K:NK} (h:X.K=K):KI X (ED K):=by subst h; exact Fo
end
end L2
namespace VL
variable {Z:NP→Prop} {os:Own} {H:Hp} {ta:TE} {a:DE} {tc:TT} {t:TG} {σ:L2.St} {ρ:aK} {ds:List D} {tb:TS} {P:O4} {mg:OX→Option NN} {base:PM} {st:Qo} {f:NP} {fd:P6}
open PySem L2
section
open Classical
section
variable [bB] {K:NK}
inductive Res where
 | nx (ρ:aK) | rt (d:D) | bk (ρ:aK) | ct (ρ:aK) | no
variable {fr:Fm}
abbrev DS:=aK→Res
noncomputable def mJ (fr:Fm) (K:NK) (B:Hp) (Z:NP→Prop) (os:Own) (H:Hp) (E:Ends):Res→Prop
 | .nx ρ'=>∀ os' σ' H',Fr K B Z os' ρ' σ' H'→Kp (bW Z os) H (bW Z os') H'→E.nx σ' H'
 | .bk ρ'=>∀ os' σ' H',Fr K B Z os' ρ' σ' H'→Kp (bW Z os) H (bW Z os') H'→E.bk σ' H'
 | .ct ρ'=>∀ os' σ' H',Fr K B Z os' ρ' σ' H'→Kp (bW Z os) H (bW Z os') H'→E.ct σ' H'
 | .rt d=>match fr with
  | .x E0 C=>∀ H',aW B H'→E0 (.ref C) none H'
  | fr=>∀ v H',aW B H'→HC fr K B H' Z v d→E.rt v H'
 | .no=>False
def c9 (fr:Fm) (K:NK) (t:TS) (s:DS):Prop:=∀ {B:Hp} {Z:NP→Prop} {os:Own} {ρ:aK} {σ:L2.St} {H:Hp} {E:Ends},Fr K B Z os ρ σ H→mJ fr K B Z os H E (s ρ)→t E σ H
theorem mJ.kp {B:Hp} {os1:Own} {H1:Hp} {E:Ends} {r:Res} (k:Kp (bW Z os) H (bW Z os1) H1) (p:mJ fr K B Z os H E r):mJ fr K B Z os1 H1 E r:=by
 cases r with
 | nx ρ'=>exact fun os' σ' H' f k'=>p os' σ' H' f (k.trans k')
 | bk ρ'=>exact fun os' σ' H' f k'=>p os' σ' H' f (k.trans k')
 | ct ρ'=>exact fun os' σ' H' f k'=>p os' σ' H' f (k.trans k')
 | rt d=>exact p
 | no=>exact p
@[irreducible] def bX:DS:=fun ρ=>.nx ρ
theorem bz:c9 fr K D1 bX:=fun f p=>by unfold bX at p; exact p _ _ _ f Kp.refl
@[irreducible] def Mj:DS:=fun _=>.no
theorem Eb:c9 fr K D2 Mj:=fun f p=>by unfold Mj at p; exact p.elim
@[irreducible] def aL (s u:DS):DS:=fun ρ=>match s ρ with
 | .nx ρ'=>u ρ'
 | r=>r
theorem av {t u:TS} {s w:DS} (h1:c9 fr K t s) (h2:c9 fr K u w):c9 fr K (IP t u) (aL s w):=fun {B Z os ρ σ H E} f p=>by
 refine h1 f ?_;unfold aL at p;cases e:s ρ with
 | nx ρ'=>rw [e] at p; exact fun os' σ' H' f' k=>h2 f' (p.kp k)
 | bk ρ'=>rw [e] at p; exact p
 | ct ρ'=>rw [e] at p; exact p
 | rt d=>rw [e] at p; exact p
 | no=>rw [e] at p; exact p
@[irreducible] def bY (a:DE):DS:=fun ρ=>match a ρ with
 | some d=>.rt d
 | none=>.no
theorem aP (h:aq K ta a):c9 .v K (D0 ta) (bY a):=fun {B Z os ρ σ H E} f p=>by
 unfold bY at p;cases e:a ρ with
 | none=>rw [e] at p; exact p.elim
 | some d=>rw [e] at p; exact h f e fun v H1 s1 i1=>p v H1 (f.keep.trans s1) (i1.kp (Kp.less fun a z=>.inl z))
@[irreducible] def ji (c:aK→Option Bool) (s u:DS):DS:=fun ρ=>match c ρ with
 | some true=>s ρ
 | some false=>u ρ
 | none=>.no
theorem cH {t u:TS} {c:aK→Option Bool} {s w:DS} (hc:kE K tc c) (h1:c9 fr K t s) (h2:c9 fr K u w):c9 fr K (IT tc t u) (ji c s w):=fun {B Z os ρ σ H E} f p=>by
 unfold ji at p;split at p
 ·rename_i e;exact hc f e fun H1 s1=>vN (h1 (f.grow s1) (p.kp (Kp.same s1)))
 ·rename_i e;exact hc f e fun H1 s1=>pU (h2 (f.grow s1) (p.kp (Kp.same s1)))
 ·show 1
@[irreducible] def cy (i:Nat) (a:DE):DS:=fun ρ=>match a ρ with
 | some d=>.nx (ρ.set i (.pu d))
 | none=>.no
theorem bp {i:Nat} (h:aq K ta a):c9 fr K (su ta (iT i)) (cy i a):=fun {B Z os ρ σ H E} f p=>by
 unfold cy at p;cases e:a ρ with
 | none=>rw [e] at p; exact p.elim
 | some d =>rw [e] at p;refine h f e fun v H1 s1 i1=>?_;obtain ⟨os',f',k⟩:=(f.grow s1).Jj (m:=true) i i1;exact p os' _ _ f' ((Kp.same s1).trans k)
theorem qa {i:Nat} (h:aq K ta a):c9 fr K (tH ta i) (cy i a):=bp (i:=i) h
@[irreducible] def Lj (a:DE) (g:DG):DS:=fun ρ=>match a ρ with
 | some d=>(match g d ρ with
  | some ρ'=>.nx ρ'
  | none=>.no)
 | none=>.no
theorem Lf {g:DG} (h:aq K ta a) (hg:wk K true t g):c9 fr K (su ta t) (Lj a g):=fun {B Z os ρ σ H E} f p=>by
 unfold Lj at p;split at p
 ·rename_i d e;split at p
  ·rename_i ρ' e2;exact h f e fun v H1 s1 i1=>hg (f.grow s1) i1 e2 fun os' σ' f' k=>p os' σ' _ f' ((Kp.same s1).trans k)
  ·show 1
 ·show 1
@[irreducible] def gq (i:Nat) (a:aK→Option (List D)):DS:=fun ρ=>match a ρ with
 | some ds=>if i < ρ.length then .nx (ρ.set i (.ol ds)) else .no
 | none=>.no
theorem gA {i:Nat} {a:aK→Option (List D)} (h:bF K ta a):c9 fr K (su ta (iT i)) (gq i a):=fun {B Z os ρ σ H E} f p=>by
 unfold gq at p;split at p
 ·rename_i ds e;by_cases hi:i < ρ.length
  ·rw [if_pos hi] at p;refine h f e fun x vs H1 s1 hx hx1 hl i1=>?_
   have st:=f.step (H':=H1) (i:=i) hi (o:=[x]) (s:=.ol ds) (v:=some (.ref x)) (fun a u e _=>s1 _ _ e) (fun a ha=>let ⟨xs,e⟩:=(f.sl i).sZ ha; ⟨_,s1 _ _ e⟩) (by simp) (fun a ha=>by rw [NL.mp ha]; exact .inr hx)
    ⟨x,vs,rfl,rfl,hx1,hl,i1.kp (Kp.less fun a z=>?_)⟩
   ·exact p _ _ _ st.1 st.2
   ·rcases z with z | ⟨j,z⟩
    ·exact .inr (.inl z)
    ·show 5
     ·subst hj; rw [bD] at z; exact .inl (NL.mp z)
     ·rw [cg hj] at z; exact .inr (.inr ⟨j,z⟩)
  ·rw [if_neg hi] at p; exact p.elim
 ·show 1
theorem qM {i:Nat} {a:aK→Option (List D)} (h:bF K ta a):c9 fr K (tH ta i) (gq i a):=gA (i:=i) h
def kZ (i:Nat) (ρ:aK):aK:=match ρ.getD i .un with
 | .ol ds=>ρ.set i (.pu (.lst ds))
 | .om rows=>ρ.set i (.pu (.lst (rows.map D.lst)))
 | .od kvs=>ρ.set i (.pu (.dct kvs))
 | _=>ρ
theorem gW {i:Nat} {v:V} (h:(σ[i]?).join=some v):σ.set i (some v)=σ:=by
 have e:=join_some h;refine Ri fun j=>?_;by_cases hj:i=j
 ·subst hj;rw [PJ (Oe.mp e).1,e]
 ·rw [PH hj]
theorem fR {i:Nat} {s:Sl} (h:ρ.getD i .un=s) (hs:s≠.un):i < ρ.length:=by
 by_cases hi:i < ρ.length
 ·exact hi
 ·rw [NF,OL (by lia)] at h;exact absurd h.symm hs
theorem Fr.freeze {B:Hp} (f:Fr K B Z os ρ σ H) (i:Nat):∃ os',Fr K B Z os' (kZ i ρ) σ H∧Kp (bW Z os) H (bW Z os') H:=by
 unfold kZ
 have less:∀ a,bW Z (jP os i []) a→bW Z os a:=by
  rintro a (z | ⟨j,z⟩)
  ·exact .inl z
  ·show 5
   ·subst hj; rw [bD] at z; cases z
   ·rw [cg hj] at z; exact .inr ⟨j,z⟩
 cases e:ρ.getD i .un with
 | ol ds =>
  have s:=f.sl i;rw [e] at s;obtain ⟨a,vs,eo,hu,hH,hl,i1⟩:=s;have hi:=fR e (by intro z; cases z)
  have st:=f.step (H':=H) (i:=i) hi (o:=[]) (s:=.pu (.lst ds)) (v:=some (.ref a)) (fun a u e _=>e) (fun a ha=>let ⟨xs,e⟩:=(f.sl i).sZ ha; ⟨_,e⟩) O8 (fun a h=>by cases h)
   ⟨rfl,_,rfl,.lst (fun z=>?_) (.inl hH) hl (i1.kp (Kp.less less))⟩
  ·rw [gW hu] at st;exact ⟨_,st⟩
  ·rcases z with z | ⟨j,z⟩
   ·exact (f.new i a (by rw [eo]; exact NL.mpr rfl)).2 z
   ·show 5
    ·subst hj; rw [bD] at z; cases z
    ·rw [cg hj] at z; exact hj (f.dj j i a z (by rw [eo]; exact NL.mpr rfl))
 | od kvs =>
  have s:=f.sl i;rw [e] at s;obtain ⟨a,eo,hu,hH,hl⟩:=s;have hi:=fR e (by intro z; cases z)
  have st:=f.step (H':=H) (i:=i) hi (o:=[]) (s:=.pu (.dct kvs)) (v:=some (.ref a)) (fun a u e _=>e) (fun a ha=>let ⟨xs,e⟩:=(f.sl i).sZ ha; ⟨_,e⟩) O8 (fun a h=>by cases h)
   ⟨rfl,_,rfl,.dct (fun z=>?_) (.inl hH) hl⟩
  ·rw [gW hu] at st;exact ⟨_,st⟩
  ·rcases z with z | ⟨j,z⟩
   ·exact (f.new i a (by rw [eo]; exact NL.mpr rfl)).2 z
   ·show 5
    ·subst hj; rw [bD] at z; cases z
    ·rw [cg hj] at z; exact hj (f.dj j i a z (by rw [eo]; exact NL.mpr rfl))
 | om rows =>
  have s:=f.sl i;rw [e] at s;obtain ⟨a,ps,eo,hu,hH,hl,i1⟩:=s;have hi:=fR e (by intro z; cases z)
  have out:∀ b,b∈os i→¬ bW Z (jP os i []) b:=by
   rintro b hb (z | ⟨j,z⟩)
   ·exact (f.new i b hb).2 z
   ·show 5
    ·subst hj; rw [bD] at z; cases z
    ·rw [cg hj] at z; exact hj (f.dj j i b z hb)
  have eF:∀ {ps:List NP} {rows:List (List D)},(∀ p∈ps,p∈os i)→PU (fun p ds=>∃ vs,H p=some (.lst vs)∧vs.length≤NM∧IsL K H (bW Z os) vs ds) ps rows→IsL K H (bW Z (jP os i [])) ‹41› (rows.map D.lst):=by
   intro ps rows hp r;induction r with
   | nil=>exact .nil
   | cons h _ ih =>obtain ⟨vs,q,hv,j⟩:=h;exact .cons (.lst (out _ (hp _ NJ)) (.inl q) hv (j.kp (Kp.less less))) (ih fun p h=>hp p (NI _ h))
  have st:=f.step (H':=H) (i:=i) hi (o:=[]) (s:=.pu (.lst (rows.map D.lst))) (v:=some (.ref a)) (fun a u e _=>e) (fun a ha=>let ⟨xs,e⟩:=(f.sl i).sZ ha; ⟨_,e⟩) O8 (fun a h=>by cases h)
   ⟨rfl,_,rfl,.lst (out a (by rw [eo]; exact NJ)) (.inl hH) (by rw [NH]; exact hl) (eF (fun p hp=>by rw [eo]; exact NI _ hp) i1)⟩
  rw [gW hu] at st;exact ⟨_,st⟩
 | un=>exact ⟨os,f,Kp.refl⟩
 | pu d=>exact ⟨os,f,Kp.refl⟩
 | bo d=>exact ⟨os,f,Kp.refl⟩
 | pm _ _ _=>exact ⟨os,f,Kp.refl⟩
 | pd _ _=>exact ⟨os,f,Kp.refl⟩
@[irreducible] def vd (i:Nat) (s:DS):DS:=fun ρ=>s (kZ i ρ)
theorem qO {t:TS} {s:DS} (i:Nat) (h:c9 fr K t s):c9 fr K t (vd i s):=fun {B Z os ρ σ H E} f p=>by obtain ⟨os',f',k⟩:=f.freeze i;unfold vd at p;exact h f' (mJ.kp k p)
theorem Fr.JB {B:Hp} (f:Fr K B Z os ρ σ H) {i:Nat} {a:NP} {ds':List D} {vs':List V} (e:ρ.getD i .un=.ol ds) (hu:(σ[i]?).join=some (.ref a)) (hl:vs'.length≤NM) (h:IsL K H (bW Z os) vs' ds') :
 ∃ os',Fr K B Z os' (ρ.set i (.ol ds')) σ (upd H a (.lst vs'))∧Kp (bW Z os) H (bW Z os') (upd H a (.lst vs')):=by
 have s:=f.sl i;rw [e] at s;obtain ⟨b,vs,eo,hu',hH,_,_⟩:=s;rw [hu] at hu';cases hu';have hi:=fR e (by intro z; cases z);have ha:a∈os i:=by rw [eo]; exact NL.mpr rfl
 have st:=f.step (H':=upd H a (.lst vs')) (i:=i) hi (o:=[a]) (s:=.ol ds') (v:=some (.ref a)) (fun b u e n=>by rw [aG (fun z=>n (by rw [z]; exact ha))]; exact e) (fun b hb=>?_) (by simp) (fun b hb=>by rw [NL.mp hb]; exact .inl ha)
  ⟨a,vs',rfl,rfl,aN,hl,h.kp fun b u e z=>⟨?_,fun q=>z ?_⟩⟩
 ·rw [gW hu] at st;exact ⟨_,st⟩
 ·rw [eo] at hb; rw [NL.mp hb]; exact ⟨_,aN⟩
 ·rw [aG (fun w=>z (.inr ⟨i,by rw [w]; exact ha⟩))]; exact e
 ·rcases q with q | ⟨j,q⟩
  ·exact .inl q
  ·show 5
   ·subst hj; rw [bD] at q; exact .inr ⟨j,by rw [NL.mp q]; exact ha⟩
   ·rw [cg hj] at q; exact .inr ⟨j,q⟩
theorem EU {B:Hp} (f:Fr K B Z os ρ σ H) {i:Nat} (e:ρ.getD i .un=.ol ds):∃ a vs,(σ[i]?).join=some (.ref a)∧H a=some (.lst vs)∧vs.length≤NM∧IsL K H (bW Z os) vs ds:=by have s:=f.sl i;rw [e] at s;obtain ⟨b,vs,eo,hu',hH,hl,r⟩:=s;exact ⟨b,vs,hu',hH,hl,r⟩
@[irreducible] def sN (i:Nat) (a:DE):DS:=fun ρ=>match ρ.getD i .un with
 | .ol ds=>(match a ρ with
  | some d=>if ds.length<NM then .nx (ρ.set i (.ol (ds++[d]))) else .no
  | none=>.no)
 | _=>.no
theorem ot {i:Nat} (h:aq K ta a):c9 fr K (wQ (La K "list" qg (lC i) (cx ta ft))) (sN i a):=fun {B Z os ρ σ H E} f p=>by
 unfold sN at p;split at p
 ·rename_i ds e;split at p
  ·rename_i d e2;by_cases hz:ds.length<NM
   ·rw [if_pos hz] at p;obtain ⟨x,vs,hu,hH,hl,r⟩:=EU f e;refine ⟨_,join_some hu,.inl ⟨rfl,_,dQ.of hH⟩,h f e2 fun v H1 s1 i1=>?_⟩;have f1:=f.grow s1;have r1:=r.same s1;have hlen:vs.length<NM:=by rw [r.length]; exact hz
    obtain ⟨os',f',k⟩:=f1.JB (vs':=vs++[v]) (ds':=ds++[d]) e hu (by rw [N7,Pl]; lia) (r1.append (.one i1));exact ⟨x,vs,v,rfl,rfl,s1 _ _ hH,hlen,p os' _ _ f' ((Kp.same s1).trans k)⟩
   ·rw [if_neg hz] at p; exact p.elim
  ·show 1
 ·show 1
@[irreducible] def zw (i:Nat) (a:DE):DS:=fun ρ=>match ρ.getD i .un with
 | .ol ds=>(match a ρ with
  | some (.lst es)=>if ds.length+es.length≤NM then .nx (ρ.set i (.ol (ds++es))) else .no
  | _=>.no)
 | _=>.no
theorem zc {i:Nat} (h:aq K ta a):c9 fr K (wQ (La K "list" Ia (lC i) (cx ta ft))) (zw i a):=fun {B Z os ρ σ H E} f p=>by
 unfold zw at p;split at p
 ·rename_i ds e;split at p
  ·rename_i es e2;by_cases hz:ds.length+es.length≤NM
   ·rw [if_pos hz] at p;obtain ⟨x,vs,hu,hH,hl,r⟩:=EU f e;refine ⟨_,join_some hu,.inl ⟨rfl,_,dQ.of hH⟩,h f e2 fun v H1 s1 i1=>?_⟩;obtain ⟨b,us,rfl,_,hb,_,r2⟩:=i1.rJ;have f1:=f.grow s1;have r1:=r.same s1;have hlen:vs.length+us.length≤NM:=by rw [r.length,r2.length]; exact hz
    obtain ⟨os',f',k⟩:=f1.JB (vs':=vs++us) (ds':=ds++es) e hu (by rw [N7]; exact hlen) (r1.append r2);exact ⟨x,b,vs,us,rfl,rfl,s1 _ _ hH,hb,hlen,p os' _ _ f' ((Kp.same s1).trans k)⟩
   ·rw [if_neg hz] at p; exact p.elim
  ·show 1
 ·show 1
@[irreducible] noncomputable def zu (i:Nat) (b a:DE):DS:=fun ρ=>match ρ.getD i .un with
 | .ol ds=>(match a ρ with
  | some d=>(match b ρ with
   | some (.int n)=>(match ixN ds.length n with
    | some j=>.nx (ρ.set i (.ol (ds.set j d)))
    | none=>.no)
   | _=>.no)
  | none=>.no)
 | _=>.no
theorem zb {i:Nat} {tb:TE} {b:DE} (ha:aq K ta a) (hb:a0 K tb b):c9 fr K (su ta (Hc (lC i) tb xv)) (zu i b a):=fun {B Z os ρ σ H E} f p=>by
 unfold zu at p;split at p
 ·rename_i ds e;split at p
  ·rename_i d e2;split at p
   ·rename_i n e3;split at p
    ·rename_i j e4;obtain ⟨x,vs,hu,hH,hl,r⟩:=EU f e;refine ha f e2 fun v H1 s1 i1=>⟨_,join_some hu,hb (f.grow s1) e3 fun w H2 s2 i2=>?_⟩
     have s12:=s1.trans s2;have f1:=f.grow s12;have r1:=r.same s12;obtain ⟨os',f',k⟩:=f1.JB (vs':=vs.set j v) (ds':=ds.set j d) e hu (by rw [Pb]; exact hl) (r1.set (i1.same s2) j);exact ⟨x,vs,n,j,rfl,i2.isInt,s12 _ _ hH,by rw [r.length]; exact e4,p os' _ _ f' ((Kp.same s12).trans k)⟩
    ·show 1
   ·show 1
  ·show 1
 ·show 1
@[irreducible] def xp (g:Int→Int→Int) (i:Nat) (a:DE):DS:=fun ρ=>match ai i ρ with
 | some (.int x)=>(match a ρ with
  | some (.int y)=>.nx (ρ.set i (.pu (.int (g x y))))
  | _=>.no)
 | _=>.no
theorem zd {i:Nat} {g:Int→Int→Int} (ha:a0 K ta a):c9 fr K (Lb i ta (L4 g)) (xp g i a):=fun {B Z os ρ σ H E} f p=>by
 unfold xp at p;split at p
 ·rename_i x e;split at p
  ·rename_i y e2;have q:=ae i f (Q:=fun v H'=>v=.int x∧H'=H) e
   obtain ⟨u,hu,ix⟩:∃ u,σ[i]?=some (some u)∧u=.int x:=by
    have s:=f.sl i;unfold ai at e;cases e0:ρ.getD i .un with
    | un=>rw [e0] at e; cases e
    | pu d=>rw [e0] at e s; cases e; obtain ⟨_,u,hu,i1⟩:=s; exact ⟨u,join_some hu,i1.isInt⟩
    | bo d=>rw [e0] at e s; cases e; obtain ⟨_,u,hu,i1⟩:=s; exact ⟨u,join_some hu,i1.isInt⟩
    | ol d=>rw [e0] at e; cases e
    | om d=>rw [e0] at e; cases e
    | od d=>rw [e0] at e; cases e
    | pm _ _ d=>rw [e0] at e; cases e
    | pd _ d=>rw [e0] at e; cases e
   refine ⟨u,hu,ha f e2 fun v H1 s1 i1=>⟨x,y,ix,i1.isInt,?_⟩⟩;obtain ⟨os',f',k⟩:=(f.grow s1).Jj (m:=true) i (v:=.int (g x y)) (d:=.int (g x y)) (.int _);exact p os' _ _ f' ((Kp.same s1).trans k)
  ·show 1
 ·show 1
noncomputable def vS (g:DG) (b:DS):List D→DS
 | [],ρ=>.nx ρ
 | d::ds,ρ=>match g d ρ with
  | none=>.no
  | some ρ1=>match b ρ1 with
   | .nx ρ2=>vS g b ds ρ2
   | .ct ρ2=>vS g b ds ρ2
   | .bk ρ2=>.nx ρ2
   | .rt d=>.rt d
   | .no=>.no
@[irreducible] def j7 (it:aK→Option (List D)) (g:DG) (b:DS):DS:=fun ρ=>match it ρ with
 | some ds=>vS g b ds ρ
 | none=>.no
theorem fu {m:Bool} {wi:TI} {it:aK→Option (List D)} {g:DG} {b:DS} (hw:gh K m wi it) (hg:wk K m t g) (hb:c9 fr K tb b):c9 fr K (K7 wi t tb) (j7 it g b):=fun {B Z os ρ σ H E} f p=>by
 unfold j7 at p;split at p
 ·rename_i ds e0;refine hw f e0 fun J H1 s1 W=>?_;refine ⟨fun i m σ' H'=>∃ os' ρ',m=ds.length-i∧i≤ds.length∧Fr K B Z os' ρ' σ' H'∧Kp (bW Z os) H1 (bW Z os') H'∧mJ fr K B Z os H1 E (vS g b (ds.drop i) ρ'),⟨_,os,ρ,rfl,O1 _,f.grow s1,Kp.refl,mJ.kp (Kp.same s1) p⟩,?_⟩;rintro i mm σ2 H2 ⟨os2,ρ2,rfl,hi,f2,k2,p2⟩;by_cases hlt:i<ds.length
  ·have ex:ds[i]?=some ds[i]:=NG hlt;obtain ⟨go,yl⟩:=W.go i ds[i] H2 _ k2 f2.keep f2.B9 ex;rw [OB hlt] at p2;refine .inr ⟨go,fun σ' H'=>∃ os' ρ',Fr K B Z os' ρ' σ' H'∧Kp (bW Z os) H1 (bW Z os') H'∧mJ fr K B Z os H1 E (vS g b (ds.drop (i+1)) ρ'),fun σ' H' ⟨os',ρ',h1,h2,h3⟩=>⟨_,by lia,os',ρ',rfl,hlt,h1,h2,h3⟩,fun x H3 hy=>?_⟩;obtain ⟨s3,er⟩:=yl x H3 hy;unfold vS at p2;split at p2
   ·exact p2.elim
   ·rename_i ρ1 e1;have er':ER K m B H3 (bW Z os2) x ds[i]:=er;refine hg (f2.grow s3) er' e1 fun os3 σ3 f3 k3=>hb f3 ?_;have k13:Kp (bW Z os) H1 (bW Z os3) H3:=(k2.trans (Kp.same s3)).trans k3;split at p2
    ·rename_i ρ4 e4;rw [e4];exact fun os' σ' H' f' k'=>⟨os',_,f',k13.trans k',p2⟩
    ·rename_i ρ4 e4;rw [e4];exact fun os' σ' H' f' k'=>⟨os',_,f',k13.trans k',p2⟩
    ·rename_i ρ4 e4;rw [e4];exact fun os' σ' H' f' k'=>p2 os' σ' H' f' (k13.trans k')
    ·rename_i d e4;rw [e4];exact p2
    ·exact p2.elim
  ·have e:i=ds.length:=by lia
   subst e;rw [Si] at p2;exact .inl ⟨W.stop _ H2 _ k2 f2.keep rfl,p2 os2 σ2 H2 f2 k2⟩
 ·show 1
noncomputable def l5 (c:aK→Option Bool) (b:DS):Nat→DS
 | 0,ρ=>match c ρ with
  | some false=>.nx ρ
  | _=>.no
 | n+1,ρ=>match c ρ with
  | some false=>.nx ρ
  | some true=>(match b ρ with
   | .nx ρ'=>l5 c b n ρ'
   | .ct ρ'=>l5 c b n ρ'
   | .bk ρ'=>.nx ρ'
   | .rt d=>.rt d
   | .no=>.no)
  | none=>.no
@[irreducible] def ma (c:aK→Option Bool) (b:DS):DS:=fun ρ=>if h:∃ n,l5 c b n ρ≠.no then l5 c b h.choose ρ else .no
theorem qB {c:aK→Option Bool} {b:DS}:∀ {n:Nat} {ρ:aK},l5 c b n ρ≠.no→l5 c b (n+1) ρ=l5 c b n ρ
 | 0,ρ,h=>by
  unfold l5 at h ⊢;split at h
  ·rename_i e; rw [e]
  ·exact absurd rfl h
 | n+1,ρ,h=>by
  have e1:l5 c b (n+1+1) ρ=(match c ρ with | some false=>.nx ρ | some true=>(match b ρ with | .nx ρ'=>l5 c b (n+1) ρ' | .ct ρ'=>l5 c b (n+1) ρ' | .bk ρ'=>.nx ρ' | .rt d=>.rt d | .no=>.no) | none=>.no):=rfl;have e2:l5 c b (n+1) ρ=(match c ρ with | some false=>.nx ρ | some true=>(match b ρ with | .nx ρ'=>l5 c b n ρ' | .ct ρ'=>l5 c b n ρ' | .bk ρ'=>.nx ρ' | .rt d=>.rt d | .no=>.no) | none=>.no):=rfl;rw [e1];rw [e2] at h ⊢;cases e3:c ρ with
  | none=>rfl
  | some x =>
   rw [e3] at h;cases x with
   | false=>rfl
   | true =>
    cases e4:b ρ with
    | nx ρ'=>rw [e4] at h; exact qB h
    | ct ρ'=>rw [e4] at h; exact qB h
    | _=>rfl
theorem yS {c:aK→Option Bool} {b:DS} {n k:Nat} (h:l5 c b n ρ≠.no):l5 c b (n+k) ρ=l5 c b n ρ:=by
 induction k with
 | zero=>rfl
 | succ k ih=>rw [← Nat.add_assoc,qB (by rw [ih]; exact h),ih]
theorem Cy {c:aK→Option Bool} {b:DS} {n:Nat} {r:Res} (h:l5 c b n ρ=r) (hr:r≠.no):ma c b ρ=r:=by
 have ex:∃ n,l5 c b n ρ≠.no:=⟨n,by rw [h]; exact hr⟩
 unfold ma;rw [dif_pos ex];have q:=ex.choose_spec;generalize ex.choose=m at q;have e1:=yS (k:=n) q;have e2:=yS (k:=m) (show l5 c b n ρ≠.no by rw [h]; exact hr);rw [Nat.add_comm] at e2;rw [← e1,e2,h]
theorem wX {c:aK→Option Bool} {b:DS} (hc:kE K tc c) (hb:c9 fr K tb b):c9 fr K (DZ tc tb) (ma c b):=fun {B Z os ρ σ H E} f p=>by
 unfold ma at p;by_cases ex:∃ n,l5 c b n ρ≠.no
 ·rw [dif_pos ex] at p;generalize ex.choose=n0 at p;refine ⟨fun m σ' H'=>∃ os' ρ',Fr K B Z os' ρ' σ' H'∧Kp (bW Z os) H (bW Z os') H'∧mJ fr K B Z os H E (l5 c b m ρ'),⟨n0,os,ρ,f,Kp.refl,p⟩,?_⟩;rintro m σ2 H2 ⟨os2,ρ2,f2,k2,p2⟩;cases m with
  | zero =>
   unfold l5 at p2;split at p2
   ·rename_i e;exact hc f2 e fun H3 s3=>pU (p2 os2 σ2 H3 (f2.grow s3) (k2.trans (Kp.same s3)))
   ·exact p2.elim
  | succ m =>
   have p2:mJ fr K B Z os H E (match c ρ2 with | some false=>.nx ρ2 | some true=>(match b ρ2 with | .nx ρ'=>l5 c b m ρ' | .ct ρ'=>l5 c b m ρ' | .bk ρ'=>.nx ρ' | .rt d=>.rt d | .no=>.no) | none=>.no):=p2;cases e:c ρ2 with
   | none=>rw [e] at p2; exact p2.elim
   | some x =>
    rw [e] at p2;cases x with
    | false=>exact hc f2 e fun H3 s3=>pU (p2 os2 σ2 H3 (f2.grow s3) (k2.trans (Kp.same s3)))
    | true =>
     refine hc f2 e fun H3 s3=>vN ⟨fun σ' H'=>∃ os' ρ',Fr K B Z os' ρ' σ' H'∧Kp (bW Z os) H (bW Z os') H'∧mJ fr K B Z os H E (l5 c b m ρ'),fun σ' H' h=>⟨m,Qy _,h⟩,hb (f2.grow s3) ?_⟩;have k3:=k2.trans (Kp.same s3);cases e4:b ρ2 with
     | nx ρ'=>rw [e4] at p2; exact fun os' σ' H' f' k'=>⟨os',_,f',k3.trans k',p2⟩
     | ct ρ'=>rw [e4] at p2; exact fun os' σ' H' f' k'=>⟨os',_,f',k3.trans k',p2⟩
     | bk ρ'=>rw [e4] at p2; exact fun os' σ' H' f' k'=>p2 os' σ' H' f' (k3.trans k')
     | rt d=>rw [e4] at p2; exact p2
     | no=>rw [e4] at p2; exact p2.elim
 ·rw [dif_neg ex] at p; exact p.elim
def gO (n:Nat) (ms:List Bool) (ds:List D):aK:=VJ zh ms ds++Oz (n-ds.length) .un
@[irreducible] def bR (n:Nat) (ms:List Bool) (b:DS) (ds:List D):Option D:=match b (gO n ms ds) with
 | .rt d=>some d
 | .nx _=>some .non
 | _=>none
@[irreducible] def sO (n:Nat) (ms:List Bool) (b:DS) (ds:List D):Option D:=match b (gO n ms ds) with
 | .rt d=>some d
 | _=>none
theorem mS {N:List OX} {ms:List Bool} {vs:List V} (hz:ZT Z H) (h:Args K H Z ms vs ds):Fr K H Z (fun _=>[]) (gO N.length ms ds) (L2.start N vs) H where
 keep:=aW.refl _
 DI:=hz.1
 tab:=hz.2
 len:=by unfold gO L2.start;have:=h.len;simp only [N7,NH,OQ,Rx];lia
 nd:=fun _=>O8
 dj:=fun _ _ _ h=>by cases h
 new:=fun _ _ h=>by cases h
 sl:=fun j=>by
  have hl:=h.len
  have key:∀ {ms:List Bool} {vs:List V} {ds:List D} (j:Nat),Args K H Z ms vs ds→j<ms.length→tu K H H (bW Z fun _=>[]) [] (((VJ zh ms ds)[j]?).getD .un) ((vs.map some)[j]?.join):=by
   intro ms vs ds j h;induction h generalizing j with
   | nil=>intro hj; simp at hj
   | own i _ ih =>
    intro hj;cases j with
    | zero=>exact ⟨rfl,_,rfl,i.kp (Kp.less fun a z=>z.elim id fun ⟨_,w⟩=>by cases w)⟩
    | succ j=>exact ih j (by simpa using hj)
   | any i _ ih =>
    intro hj;cases j with
    | zero=>exact ⟨rfl,_,rfl,i⟩
    | succ j=>exact ih j (by simpa using hj)
  unfold gO L2.start;rw [NF];by_cases hj:j<ms.length
  ·rw [OM (by rw [Rx]; lia),OM (by rw [NH]; lia)];exact key j h hj
  ·rw [Ox (by rw [Rx]; lia),Pg];split <;> exact rfl
theorem gm.pT {w:Pf} {x qual:OX} {N ps:List OX} {k:Nat} (F:gm K x qual st f fd) (S:aR N ps (aB st)) (ms:List Bool) (hms:ms.length=ps.length) (b:DS)
 (hbody:∀ (cdv:NN) (A:O3) (outer:List V5) (s:NS) (H:Hp) (E:XK),eQ k (A.deeper (QU qual (aB st) ‹4› f cdv)) →
  ∃ t,wq ‹14›.EW (dZ st) t∧c9 .v K t b):cE P w K mg base gJ (k+1) f fd ps (jS .v K ms (bR N.length ms b)):=by
 refine F.ok S (fun vs H Q E h=>?_) (fun cdv A outer s H vs Q E hr h=>?_)
 ·obtain ⟨Z,ds,d,hz,a,_⟩:=h;rw [a.len.1,hms]
 ·obtain ⟨Z,ds,d,hz,a,e,k⟩:=h;obtain ⟨t,h1,h2⟩:=hbody cdv A outer s H E hr;refine ⟨t,h1,h2 (mS hz a) ?_⟩;unfold bR at e;split at e
  ·rename_i d' e1;cases e;rw [e1];exact fun v H' s' i=>k v H' s' i
  ·rename_i ρ e1;cases e;rw [e1];exact fun os' σ' H' f' _=>k _ H' f'.keep .non
  ·cases e
theorem gm.Nl {w:Pf} {x qual:OX} {N ps:List OX} {k:Nat} (F:gm K x qual st f fd) (S:aR N ps (aB st)) (ms:List Bool) (hms:ms.length=ps.length) (b:DS)
 (hbody:∀ (cdv:NN) (A:O3) (outer:List V5) (s:NS) (H:Hp) (E:XK),eQ k (A.deeper (QU qual (aB st) ‹4› f cdv)) →
  ∃ t,wq ‹14›.EW (dZ st) t∧c9 fr K t b) (hfr:∀ E C,fr≠.x E C:=by intro _ _ h; cases h):cE P w K mg base gJ (k+1) f fd ps (jS fr K ms (sO N.length ms b)):=by
 refine F.ok S (fun vs H Q E h=>?_) (fun cdv A outer s H vs Q E hr h=>?_)
 ·obtain ⟨Z,ds,d,hz,a,_⟩:=h;rw [a.len.1,hms]
 ·obtain ⟨Z,ds,d,hz,a,e,k⟩:=h;obtain ⟨t,h1,h2⟩:=hbody cdv A outer s H E hr;refine ⟨t,h1,h2 (mS hz a) ?_⟩;unfold sO at e;split at e
  ·rename_i d' e1;cases e;rw [e1];cases fr with
   | v=>exact fun v H' s' i=>k v H' s' i
   | l=>exact fun v H' s' i=>k v H' s' i
   | m=>exact fun v H' s' i=>k v H' s' i
   | x E0 C=>exact absurd rfl (hfr E0 C)
  ·cases e
end
end
end VL
namespace L2
variable {cl:List (OX×NP)} {scope:Q3} {zs:List OX} {u:wA} {K:NK} {tl:TE}
open PySem PySem.Spec PyProof.Rows
section
open VL (s0)
section
variable {X:Cx}
inductive SubL (X:Cx):List (OX×NP)→Prop
 | nil:SubL X []
 | cons {z:OX} {c:NP} {r:List (OX×NP)}:X.env.cells.lookup z=some c→SubL X r→SubL X ((z,c)::r)
theorem SubL.sub (h:SubL X cl):∀ x c,cl.lookup x=some c→X.env.cells.lookup x=some c:=by
 induction h with
 | nil=>intro x c e; cases e
 | @cons z c r h _ ih =>
  intro x c' e;rw [QY] at e;cases q:x==z with
  | true=>rw [q] at e; cases e; rw [eq_of_beq q]; exact h
  | false=>rw [q] at e; exact ih x c' e
inductive pY (X:Cx) (scope:Q3) (cl:List (OX×NP)):List Nat→List OX→Prop
 | nil:pY X scope cl [] []
 | cons {i:Nat} {z:OX} {c:NP} {is:List Nat} {zs:List OX}:X.N[i]?=some z→‹16›→cl.lookup z=some c →
  (‹18›.names.lookup z=some .cell∨‹18›.names.lookup z=some .free)→pY X scope cl is zs→pY X scope cl (i::is) (z::zs)
theorem pY.get {is:List Nat} (h:pY X scope cl is zs):∀ (j:Nat) (z:OX),zs[j]?=some z→∃ i c,is[j]?=some i∧X.N[i]?=some z∧‹16›∧cl.lookup z=some c ∧
 (‹18›.names.lookup z=some .cell∨‹18›.names.lookup z=some .free):=by
 induction h with
 | nil=>intro j z e; simp at e
 | cons h1 h2 h3 h4 _ ih =>
  intro j z e;cases j with
  | zero=>cases e; exact ⟨_,_,rfl,h1,h2,h3,h4⟩
  | succ j=>exact ih j z (by simpa using e)
theorem pY.len {is:List Nat} (h:pY X scope cl is zs):is.length=zs.length:=by
 induction h with
 | nil=>rfl
 | cons _ _ _ _ _ ih=>simp [ih]
def HF (k:Nat) (g:TG):Prop:=∀ x σ H (Q:St→Hp→Prop),g x σ H Q→∃ σ2 H2,Q σ2 H2∧σ2.length=σ.length∧(∀ j,k≤j→σ2[j]?=σ[j]?)∧∀ Q':St→Hp→Prop,Q' σ2 H2→g x σ H Q'
def HE (k:Nat) (g:wA):Prop:=∀ x σ H (Q:St→Hp→Prop),g x σ H Q→∃ σ2 H2,Q σ2 H2∧σ2.length=σ.length∧(∀ j,k≤j→σ2[j]?=σ[j]?)∧∀ Q':St→Hp→Prop,Q' σ2 H2→g x σ H Q'
theorem aV {k i:Nat} (h:i<k):HF k (iT i):=fun x σ H Q q=>⟨_,_,q,Pb,fun j hj=>by rw [PH (by lia)],fun _ z=>z⟩
theorem m6 {k:Nat}:HE k Ka:=fun x σ H Q q=>⟨_,_,q.2,rfl,fun _ _=>rfl,fun _ z=>⟨q.1,z⟩⟩
theorem lows_cons {t:TG} {k:Nat} (h1:HF k t) (h2:HE k u):HE k (Fp t u):=fun x σ H Q q=>by obtain ⟨v,r,e,q⟩:=q;obtain ⟨σ1,H1,q1,l1,k1,g1⟩:=h1 _ _ _ _ q;obtain ⟨σ2,H2,q2,l2,k2,g2⟩:=h2 _ _ _ _ q1;exact ⟨σ2,H2,q2,l2.trans l1,fun j hj=>(k2 j hj).trans (k1 j hj),fun Q' z=>⟨v,r,e,g1 _ (g2 Q' z)⟩⟩
theorem qi {k n:Nat} (h:HE k u):HF k (Hd K n u):=fun x σ H Q q=>by
 rcases q with ⟨a,xs,e,hs,hl,q⟩ | ⟨a,xs,e,hs,hl,q⟩
 ·obtain ⟨σ1,H1,q1,l1,k1,g1⟩:=h _ _ _ _ q;exact ⟨σ1,H1,q1,l1,k1,fun Q' z=>.inl ⟨a,xs,e,hs,hl,g1 Q' z⟩⟩
 ·obtain ⟨σ1,H1,q1,l1,k1,g1⟩:=h _ _ _ _ q;exact ⟨σ1,H1,q1,l1,k1,fun Q' z=>.inr ⟨a,xs,e,hs,hl,g1 Q' z⟩⟩
theorem HF.keep {k:Nat} {g:TG} {cs:List Nat} (h:HF k g) (σ:St):BY g (s0 k cs σ):=fun x H Q q=>by
 obtain ⟨σ1,H1,q1,l1,k1,g1⟩:=h _ _ _ _ q;refine g1 _ ⟨q1,l1,fun j v e=>?_⟩;by_cases hj:j<k
 ·unfold s0 at e;rw [OM (by simpa using hj),Pg,if_pos hj] at e; cases e
 ·rw [k1 j (by lia)]; exact e
variable {tg elt iter c:Pt} {scope:Q3} {cl:List (OX×NP)} {ts zs:List OX} {is:List Nat} {k:Nat} {g:TG} {tt:TT} {te:TE} {wi:TI} {pos:SY}
theorem bx {l:Pt} (h:X.K=K) (hl:PE X l tl):PI X tg l (yd K tl):=by subst h; exact GO hl
theorem ka {l:Pt} {elts:List Pt} {x1} {tpos p pos:SY} (h:X.K=K) (hg:Gl X "enumerate") (hm:X.mg "enumerate" = none) (hl:PE X l tl) (hs:Pn [l] X.env=[(false,eval l X.env)]:=by rfl):PI X (.Tuple elts x1 tpos) (.Call (.Name "enumerate" p) [l] [] pos) (BA K tl):=by subst h; exact GP hg hm hl hs
end
end
end L2
namespace VL
open PySem L2
def Ec [bB] (K:NK):Sp:=fun vs H Q _=>∃ (a:NP) (ns:List Int),vs=[.ref a]∧dQ K H a ‹43›∧ns.length≤63∧(∀ m∈ns,P4 m≤1048576)∧sh H∧∀ H',Q (.bl true) H'
theorem Ci [bB] {K:NK} {F:List D→Option D} (ht:∀ ns:List Int,ns.length≤63→(∀ m∈ns,P4 m≤1048576)→F [.scr ns]=some (.bl true)) {vs:List V} {H:Hp} {Q:VK} {E:XK} (h:Ec K vs H Q E):jS .v K [false] F vs H Q E:=by
 obtain ⟨a,ns,rfl,hS,hl,hb,htab,k⟩:=h;have hz:ns.length≤NM:=ON hl ‹11›;refine ⟨No,[.scr ns],.bl true,⟨fun a z=>z.elim,htab⟩,.any ?_ .nil,ht ns hl hb,fun v H' s i=>by cases i; exact k H'⟩;rcases hS with hS | hS
 ·exact .scr (fun z=>z) hS hz
 ·exact .scrK hS hz
end VL
namespace L2
open PySem PySem.Spec PyProof.Rows
section
variable {X:Cx} {K:NK}
def DT:V→Option Bool
 | .bl b=>some b
 | .int i=>some (i != 0)
 | _=>none
theorem G3 {s:NS} {h':PM} {o:Qz} (hk:∀ b x,b∉[‹4›]→(s.heap.push o).get? b=some x→h'.get? b=some x):∀ b x,s.heap.get? b=some x→h'.get? b=some x :=
 fun b x e=>hk b x (fun hm=>by rw [NL.mp hm] at e; exact Pe _ (Ob e)) (NT _ e)
theorem Ml (bs:List Bool):((N4 bs.length).all fun i=>(bs[i]?).getD true)=bs.all id:=by
 rw [Pa,Pj,Pj];constructor
 ·intro h x hx;obtain ⟨i,hi⟩:=Pp hx;have:=h i (Ow.mpr (Oe.mp hi).1);rw [hi] at this;exact this
 ·intro h i hi;have:=Ow.mp hi;rw [NG this];exact h _ (PF this)
def Mn (K:NK) (f:List Bool→Bool):List V→Hp→VK→Prop:=fun xs H Q=>∃ (p:NP) (vs:List V) (bs:List Bool),xs=[.ref p]∧dQ K H p vs∧vs.map DT=bs.map some∧Q (.bl (f bs)) H
theorem IM {vs:List V} {us:List NN} {bs:List Bool} (r:Vals vs us) (h:vs.map DT=bs.map some) {i:Nat} {u:NN} (e:us[i]?=some u):∃ b,bs[i]?=some b∧∀ {prog:O4} {w:Pf} {A:O3} {s':NS} {Q:Bool→NS→Prop} {E:NN→NS→Prop},Q b s'→Ou ‹10› A (truthy u) Q E s':=by
 have hi:i<vs.length:=by rw [r.length]; exact (Oe.mp e).1
 have e1:vs[i]?=some vs[i]:=NG hi;obtain ⟨u',e2,ru⟩:=r.get e1;rw [e] at e2;cases e2;have e3:(bs.map some)[i]?=some (DT vs[i]):=by rw [← h,NR,e1]; rfl
 rw [NR] at e3;cases e4:bs[i]? with
 | none=>rw [e4] at e3; cases e3
 | some b =>
  rw [e4] at e3;have e5:some b=DT vs[i]:=OD e3;refine ⟨b,rfl,fun {prog w A s' Q E} q=>?_⟩;cases e6:vs[i] with
  | bl c =>rw [e6] at e5 ru;cases e5;cases ru;exact P5 q
  | int n =>rw [e6] at e5 ru;have e5:some b=some (n != 0):=e5;cases e5;obtain ⟨t,rfl⟩:=ru;exact Vs q
  | _=>rw [e6] at e5; cases e5
theorem Dx (hc:X.calm=true) (hK:X.K=K):de X (.builtin "all") (Mn K fun bs=>bs.all id):=by
 subst hK;intro pins s σ H xs us Q I r h;obtain ⟨p,vs,bs,rfl,hq,hb,q⟩:=h;obtain ⟨u,rfl,rx⟩:=vals1 r;cases rx;obtain ⟨its,r',pl,hz⟩:=I.list hq;have hl:=pl.isList;have hlt:p<s.heap.objs.size:=by obtain ⟨_,e,_⟩:=hl; exact Ob e
 refine call_all_walk (To hl ?_)
 refine ⟨‹4›,[‹4›,p],[‹4›],its.toArray.size,_,_,fun i=>(bs[i]?).getD true,rfl,Walks.list (A:=X.A.in1) (I.ok.hd hc) _ p (OE hlt) its.toArray,
  ⟨⟨_,OK _ rfl,rfl,rfl⟩,hl.push _⟩,fun i v s' Q' E' hP hQ=>?_,fun h' tk hk=>?_⟩
 ·obtain ⟨b,e,k⟩:=IM r' hb (i:=i) (u:=v) (by simpa using hP);simp only [e,Option.getD_some] at hQ;exact k hQ
 ·have e:((N4 its.toArray.size).all fun i=>(bs[i]?).getD true)=bs.all id:=by
   have:its.length=bs.length:=by have:=congrArg V6 hb;rw [NH,NH] at this;rw [← r'.length]; exact this
   rw [NY,this]; exact Ml bs
  rw [e];exact ⟨.bl _,H,I.kept (t':=tk) (G3 hk),rfl,q⟩
theorem Am (hc:X.calm=true) (hK:X.K=K):de X (.builtin "min") (fun xs H Q=>∃ (p:NP) (ns:List Int),xs=[.ref p]∧dQ K H p ‹43›∧ns≠[]∧∀ M,M∈ns→(∀ a,a∈ns→M≤a)→Q (.int M) H):=by
 subst hK;intro pins s σ H xs us Q I r h;obtain ⟨p,ns,rfl,hq,hne,q⟩:=h;obtain ⟨u,rfl,rx⟩:=vals1 r;cases rx;obtain ⟨its,r',pl,hz⟩:=I.list hq;have hi:=intsAre_of r';obtain ⟨ys,e⟩:=hi.allInts.items;have hns:ns=ys.toList.map (·.1):=by rw [← hi.numsOf,← TH,← e]
 have hsz:0<ys.size:=by have h3:=QT.mpr hne;rw [hns,NH,N3] at h3;exact h3
 have hl:=pl.isList;rw [e] at hl;refine min_intList (I.ok.hd hc) hl hsz fun v h' tk hv hk=>?_;obtain ⟨t,rfl⟩:=UW hv;obtain ⟨h1,h2⟩:=argBest_lt (Wy ys) (ys.size-1);refine ⟨.int _,H,I.kept hk,⟨t,rfl⟩,q _ ?_ fun a ha=>?_⟩
 ·rw [hns,UY]; exact UZ (by rw [NH,N3]; lia)
 ·show 3
end
end L2
namespace VL
variable {x:Bool} {it:aK→Option (List D)} {F:List D→Option D} {neg:Bool} {n:Nat} {ns:List Int} {cs:List Nat} {el:DE} {ms:List Bool} {P:D→Prop}
open PySem L2
section
open Classical
section
section
variable [bB] {K:NK} {ta tb tc:TE} {a b c:DE}
def pN:List D→Option (List Bool)
 | []=>some []
 | .bl b::r=>(pN r).map (b::·)
 | .int i::r=>(pN r).map ((i != 0)::·)
 | _=>none
theorem uL {H:Hp} {Z:NP→Prop}:∀ {vs:List V} {ds:List D} {bs:List Bool},IsL K H Z vs ds→pN ds=some bs→vs.map DT=bs.map some
 | _,[],_,.nil,e=>by cases e; rfl
 | _,d::r,bs,.cons h t,e=>by
  unfold pN at e;split at e
  ·rename_i q; cases q
  ·rename_i b r' q;cases q;cases q:pN r with
   | none=>rw [q] at e; cases e
   | some cs=>rw [q] at e; cases e; rw [Oq,Oq,uL t q,h.uG]; rfl
  ·rename_i b r' q;cases q;cases q:pN r with
   | none=>rw [q] at e; cases e
   | some cs=>rw [q] at e; cases e; rw [Oq,Oq,uL t q,h.mQ]; rfl
  ·cases e
theorem AD:∀ (bs:List Bool),pN (bs.map D.bl)=some bs
 | []=>rfl
 | b::r=>by show (pN (r.map D.bl)).map (b::·)=_; rw [AD r]; rfl
def Nd (g:List Bool→Bool):D→Option D
 | .lst ds=>(pN ds).map fun bs=>.bl (g bs)
 | _=>none
theorem Lh {g:List Bool→Bool} (ha:a0 K ta a):aq K (yL (Mn K g) (cx ta ft)) (fo (Nd g) a):=by
 refine tO (fun {H v d e Q} h q=>?_) ha;cases h with
 | lst hz h hl r =>
  rename_i p vs ds;have q:(pN ds).map (fun bs=>D.bl (g bs))=some e:=q;cases q1:pN ds with
  | none=>rw [q1] at q; cases q
  | some bs =>rw [q1] at q;cases q;exact ⟨rfl,fun k=>⟨p,vs,bs,rfl,.inl h,uL r q1,k⟩⟩
 | _=>cases q
def Ky:D→Option D:=Nd fun bs=>bs.all id
theorem Jb (ha:a0 K ta a):aq K (yL (Mn K fun bs=>bs.all id) (cx ta ft)) (fo Ky a):=Lh ha
def minD:D→Option D:=ofInts fun ns=>match ns with
 | []=>none
 | x::r=>some (.int (zS x r))
theorem I0 (ha:a0 K ta a):aq K (yL (fun xs H Q=>∃ (p:NP) (ns:List Int),xs=[.ref p]∧dQ K H p ‹43›∧ns≠[]∧∀ M,M∈ns→(∀ a,a∈ns→M≤a)→Q (.int M) H) (cx ta ft)) (fo minD a):=by
 refine tO (fun h q=>?_) ha;obtain ⟨ns,rfl,e⟩:=ki q;obtain ⟨p,rfl,r⟩:=h.ints;cases ns with
 | nil=>cases e
 | cons x t =>cases e;refine ⟨rfl,fun k=>⟨p,x::t,rfl,.inl r,by simp,fun M h1 h2=>?_⟩⟩;rw [E1 h1 h2 (iO t x).1 (iO t x).2];exact k
end
end
end
section
open Classical
section
instance (priority:=low) noTabs:bB:=⟨[]⟩
structure Wk where
 nx:aK→Prop
 rt:D→Prop
 bk:aK→Prop:=fun _=>False
 ct:aK→Prop:=fun _=>False
@[irreducible] def Wp (s:DS) (ρ:aK) (W:Wk):Prop:=match s ρ with
 | .nx ρ'=>W.nx ρ'
 | .rt d=>W.rt d
 | .bk ρ'=>W.bk ρ'
 | .ct ρ'=>W.ct ρ'
 | .no=>False
section
variable {s u b:DS} {ρ:aK} {W:Wk} {i:Nat} {a e k:DE} {d:D} {c:aK→Option Bool} {es:aK→Option (List D)} {ds:List D} {g:DG}
theorem wp_seq (h:Wp s ρ { W with nx:=fun ρ'=>Wp u ρ' W }):Wp (aL s u) ρ W:=by unfold Wp aL at *;cases e:s ρ <;> rw [e] at h <;> exact h
theorem bL (h:W.nx ρ):Wp bX ρ W:=by unfold Wp bX; exact h
theorem bC (h:a ρ=some d) (k:W.rt d):Wp (bY a) ρ W:=by unfold Wp bY; rw [h]; exact k
theorem tx (h:c ρ=some x) (ht:x=true→Wp s ρ W) (hf:x=false→Wp u ρ W):Wp (ji c s u) ρ W:=by
 unfold Wp ji at *;rw [h];cases x
 ·exact hf rfl
 ·exact ht rfl
theorem l4 {p:Prop} {_:Decidable p} (h:c ρ=some (decide p)) (ht:p→Wp s ρ W) (hf:¬ p→Wp u ρ W):Wp (ji c s u) ρ W:=by refine tx h (fun q=>ht (of_decide_eq_true q)) fun q=>hf (of_decide_eq_false q)
theorem uD (h:c ρ=some true) (ht:Wp s ρ W):Wp (ji c s u) ρ W:=tx h (fun _=>ht) fun q=>by cases q
theorem cK (h:c ρ=some false) (ht:Wp u ρ W):Wp (ji c s u) ρ W:=tx h (fun q=>by cases q) fun _=>ht
theorem br (h:a ρ=some d) (k:W.nx (ρ.set i (.pu d))):Wp (cy i a) ρ W:=by unfold Wp cy; rw [h]; exact k
theorem fK (h:es ρ=some ds) (hi:i < ρ.length) (k:W.nx (ρ.set i (.ol ds))):Wp (gq i es) ρ W:=by unfold Wp gq; rw [h]; simp only [if_pos hi]; exact k
theorem KZ {ρ':aK} (h:a ρ=some d) (hg:g d ρ=some ρ') (k:W.nx ρ'):Wp (Lj a g) ρ W:=by unfold Wp Lj; rw [h]; simp only [hg]; exact k
theorem yN (h:Wp s (kZ i ρ) W):Wp (vd i s) ρ W:=by unfold Wp vd at *; exact h
theorem n4 (h0:ρ.getD i .un=.ol ds) (h:a ρ=some d) (hl:ds.length<NM) (k:W.nx (ρ.set i (.ol (ds++[d])))):Wp (sN i a) ρ W:=by unfold Wp sN; rw [h0]; simp only [h,if_pos hl]; exact k
theorem yO {es:List D} (h0:ρ.getD i .un=.ol ds) (h:a ρ=some (.lst es)) (hl:ds.length+es.length≤NM) (k:W.nx (ρ.set i (.ol (ds++es)))):Wp (zw i a) ρ W:=by unfold Wp zw; rw [h0]; simp only [h,if_pos hl]; exact k
theorem yM {n:Int} {j:Nat} (h0:ρ.getD i .un=.ol ds) (h1:a ρ=some d) (h:e ρ=some (.int n)) (hj:ixN ds.length n=some j) (k:W.nx (ρ.set i (.ol (ds.set j d)))):Wp (zu i e a) ρ W:=by unfold Wp zu; rw [h0]; simp only [h,h1,hj]; exact k
theorem nZ {f:Int→Int→Int} {x y:Int} (h0:ai i ρ=some (.int x)) (h:a ρ=some (.int y)) (k:W.nx (ρ.set i (.pu (.int (f x y))))):Wp (xp f i a) ρ W:=by unfold Wp xp; rw [h0]; simp only [h]; exact k
theorem fq (h:it ρ=some ds) (I:Nat→aK→Prop) (h0:I 0 ρ)
 (hs:∀ (j:Nat) (d:D) (ρ:aK),ds[j]?=some d→I j ρ→∃ ρ1,g d ρ=some ρ1∧Wp b ρ1 { W with nx:=I (j+1),ct:=I (j+1),bk:=W.nx })
 (he:∀ ρ,I ds.length ρ→W.nx ρ):Wp (j7 it g b) ρ W:=by
 have key:∀ (n j:Nat) (ρ:aK),n=ds.length-j→j≤ds.length→I j ρ→Wp (fun ρ=>vS g b (ds.drop j) ρ) ρ W:=by
  intro n;induction n with
  | zero =>
   intro j ρ hn hj hI;have e:j=ds.length:=by lia
   subst e;unfold Wp;simp only [Si,vS];exact he ρ hI
  | succ n ih =>
   intro j ρ hn hj hI;have hlt:j<ds.length:=by lia
   obtain ⟨ρ1,e1,w1⟩:=hs j ds[j] ρ (NG hlt) hI;unfold Wp;dsimp only;rw [OB hlt];unfold vS;rw [e1];unfold Wp at w1;dsimp only;cases e2:b ρ1 with
   | nx ρ2=>rw [e2] at w1; have q:=ih (j+1) ρ2 (by lia) hlt w1; unfold Wp at q; exact q
   | ct ρ2=>rw [e2] at w1; have q:=ih (j+1) ρ2 (by lia) hlt w1; unfold Wp at q; exact q
   | bk ρ2=>rw [e2] at w1; exact w1
   | rt d=>rw [e2] at w1; exact w1
   | no=>rw [e2] at w1; exact w1
 have:=key _ 0 ρ rfl (O1 _) h0;unfold Wp at this;unfold Wp j7;rw [h];exact this
theorem qA (I:Nat→aK→Prop) (n:Nat) (h0:I n ρ) (hs:∀ n ρ,I n ρ→∃ x,c ρ=some x∧(x=true→Wp b ρ { W with nx:=fun ρ'=>∃ m,m<n∧I m ρ',ct:=fun ρ'=>∃ m,m<n∧I m ρ',bk:=W.nx })∧(x=false→W.nx ρ)):Wp (ma c b) ρ W:=by
 have key:∀ n ρ,I n ρ→∃ r,l5 c b (n+1) ρ=r∧r≠.no∧(match r with | .nx ρ'=>W.nx ρ' | .rt d=>W.rt d | .bk ρ'=>W.bk ρ' | .ct ρ'=>W.ct ρ' | .no=>False):=by
  intro n;induction n using UC with
  | _ n ih =>
   intro ρ hI;obtain ⟨x,ec,ht,hf⟩:=hs n ρ hI;have un:l5 c b (n+1) ρ=(match c ρ with | some false=>Res.nx ρ | some true=>(match b ρ with | .nx ρ'=>l5 c b n ρ' | .ct ρ'=>l5 c b n ρ' | .bk ρ'=>.nx ρ' | .rt d=>.rt d | .no=>.no) | none=>.no):=rfl;rw [un,ec];cases x with
   | false=>exact ⟨.nx ρ,rfl,(fun z=>by cases z),hf rfl⟩
   | true =>
    have w:=ht rfl;unfold Wp at w
    have step:∀ ρ',(∃ m,m<n∧I m ρ')→∃ r,l5 c b n ρ'=r∧r≠.no∧(match r with | .nx ρ'=>W.nx ρ' | .rt d=>W.rt d | .bk ρ'=>W.bk ρ' | .ct ρ'=>W.ct ρ' | .no=>False):=by
     rintro ρ' ⟨m,hm,hI'⟩;obtain ⟨r,e,hr,q⟩:=ih m hm ρ' hI';refine ⟨r,?_,hr,q⟩;obtain ⟨k,rfl⟩:∃ k,n=m+1+k:=⟨n-m-1,by lia⟩
     rw [yS (by rw [e]; exact hr),e]
    cases eb:b ρ with
    | nx ρ'=>rw [eb] at w; exact step ρ' w
    | ct ρ'=>rw [eb] at w; exact step ρ' w
    | bk ρ'=>rw [eb] at w; exact ⟨.nx ρ',rfl,(fun z=>by cases z),w⟩
    | rt d=>rw [eb] at w; exact ⟨.rt d,rfl,(fun z=>by cases z),w⟩
    | no=>rw [eb] at w; exact w.elim
 obtain ⟨r,e,hr,q⟩:=key n ρ h0;unfold Wp;rw [Cy e hr];exact q
end
section
variable {ρ:aK} {a b c:DE} {i j k:Int} {d e:D} {es:aK→Option (List D)} {ds:List D}
theorem g8 (ha:a ρ=some (.int i)) (hb:b ρ=some (.int j)):jx a b ρ=some (.int (i+j)):=by unfold jx nX; rw [ha,hb]
theorem oS (ha:a ρ=some (.int i)) (hb:b ρ=some (.int j)):Ag a b ρ=some (.int (i-j)):=by unfold Ag nX; rw [ha,hb]
theorem rT (ha:a ρ=some (.int i)) (hb:b ρ=some (.int j)) (h:UO i j):oX a b ρ=some (.int (i*j)):=by unfold oX nX; rw [ha,hb]; exact vR h
theorem Hn (ha:a ρ=some (.int i)) (hb:b ρ=some (.int j)) (h:0<j∧j.natAbs.log2<9000):nu a b ρ=some (.int (i / j)):=by unfold nu nX; rw [ha,hb]; exact vR (C:=fun _ j=>0<j∧j.natAbs.log2<9000) h
theorem Kj (ha:a ρ=some (.int i)) (hb:b ρ=some (.int j)) (h:0<j):ky a b ρ=some (.int (i % j)):=by unfold ky nX; rw [ha,hb]; exact vR (C:=fun _ j=>0<j) h
theorem Fv (ha:a ρ=some (.int i)) (hb:b ρ=some (.int j)) (h:HI i j):FG a b ρ=some (.int (i ^ j.toNat)):=by unfold FG nX; rw [ha,hb]; exact vR h
theorem nc (ha:a ρ=some (.int i)) (hb:b ρ=some (.int j)):yx a b ρ=some (.bl (decide (i<j))):=by unfold yx nX; rw [ha,hb]
theorem Fw (ha:a ρ=some (.int i)) (hb:b ρ=some (.int j)):LL a b ρ=some (.bl (decide (i≤j))):=by unfold LL nX; rw [ha,hb]
theorem ng (ha:a ρ=some (.int i)) (hb:b ρ=some (.int j)):Hs a b ρ=some (.bl (decide (j<i))):=by unfold Hs nX; rw [ha,hb]
theorem Iy (ha:a ρ=some (.int i)) (hb:b ρ=some (.int j)):Kr a b ρ=some (.bl (decide (j≤i))):=by unfold Kr nX; rw [ha,hb]
theorem rS (ha:a ρ=some (.int i)):mE a ρ=some (.int (-i)):=by unfold mE; rw [ha]
theorem vU (ha:a ρ=some (.int i)) (hb:b ρ=some (.int j)):yw a b ρ=some (.int (max i j)):=by
 have e:(if j > i then j else i)=max i j:=by split <;> lia
 unfold yw nX; rw [ha,hb,← e]
theorem vT (ha:a ρ=some (.int i)) (hb:b ρ=some (.int j)):yv a b ρ=some (.int (min i j)):=by
 have e:(if j<i then j else i)=min i j:=by split <;> lia
 unfold yv nX; rw [ha,hb,← e]
theorem dt (ha:a ρ=some (.bl x)):dT a ρ=some x:=by unfold dT; rw [ha]
theorem cL (ha:a ρ=some d) (h:Gg d=some x):fY a ρ=some x:=by unfold fY; rw [ha]; exact h
theorem gc {p:aK→Option Bool} (ha:p ρ=some x):hV p ρ=some (!x):=by unfold hV; rw [ha]
theorem mC {p q:aK→Option Bool} {y:Bool} (ha:p ρ=some x) (hb:x=true→q ρ=some y):Aj p q ρ=some (x&&y):=by
 unfold Aj; rw [ha]; cases x
 ·rfl
 ·rw [hb rfl]; rfl
theorem lO {p q:aK→Option Bool} {y:Bool} (ha:p ρ=some x) (hb:x=false→q ρ=some y):uj p q ρ=some (x || y):=by
 unfold uj; rw [ha]; cases x
 ·rw [hb rfl]; rfl
 ·rfl
theorem fS {y:Bool} (ha:a ρ=some (.bl x)) (hb:x=true→b ρ=some (.bl y)):iV a b ρ=some (.bl (x&&y)):=by
 unfold iV; rw [ha]; cases x
 ·rfl
 ·rw [hb rfl]; rfl
theorem Ad {y:Bool} (ha:a ρ=some (.bl x)) (hb:x=false→b ρ=some (.bl y)):Dm a b ρ=some (.bl (x || y)):=by
 unfold Dm; rw [ha]; cases x
 ·rw [hb rfl]; rfl
 ·rfl
theorem Hj (ha:a ρ=some (.bl x)):uk a ρ=some (.bl (!x)):=by unfold uk; rw [ha]
theorem k5 (ha:a ρ=some d) (h:d.lD=true):gv a ρ=some d:=by unfold gv; rw [ha]; exact if_pos h
theorem bf (h:es ρ=some ds):bu es ρ=some (.lst ds):=by unfold bu; rw [h]; rfl
theorem Ab (h:es ρ=some ds):wa es ρ=some (.tup ds):=by unfold wa; rw [h]; rfl
theorem au (h:a ρ=some d) (h2:es ρ=some ds):ao a es ρ=some (d::ds):=by unfold ao; rw [h,h2]
theorem ba (ha:a ρ=some d) (hb:b ρ=some (.int i)) (h:C6 d i=some e):bZ a b ρ=some e:=by unfold bZ; rw [ha,hb]; exact h
theorem cJ {g:D→Option D} (ha:a ρ=some d) (h:g d=some e):fo g a ρ=some e:=by unfold fo; rw [ha]; exact h
theorem aO (h:es ρ=some ds) (h2:F ds=some d):bb F es ρ=some d:=by unfold bb; rw [h]; exact h2
theorem pF (ha:a ρ=some d) (hb:b ρ=some e) (h:dP 20 d e=true):jQ neg a b ρ=some (.bl (if neg=true then !decide (d=e) else decide (d=e))):=by unfold jQ; rw [ha,hb]; exact if_pos h
theorem Fx (ha:a ρ=some (.int i)) (hb:b ρ=some (.int j)):jQ neg a b ρ=some (.bl (if neg=true then !decide (i=j) else decide (i=j))):=by
 rw [pF ha hb rfl];have e:decide (D.int i=D.int j)=decide (i=j):=by rw [nj]; rw [Pa]; simp
 rw [e]
theorem iJ (ha:a ρ=some (.int i)) (hb:b ρ=some (.int j)):jQ false a b ρ=some (.bl (decide (i=j))):=Fx (neg:=false) ha hb
theorem oV (ha:a ρ=some (.int i)) (hb:b ρ=some (.int j)):jQ true a b ρ=some (.bl (decide (i≠j))):=by rw [Fx (neg:=true) ha hb,if_pos rfl];congr 2;rw [Pa];simp
theorem gQ {d:D} (ha:a ρ=some d) (hb:b ρ=some d) (h:dP 20 d d=true):jQ false a b ρ=some (.bl true):=by rw [pF ha hb h,if_neg N8,decide_eq_true rfl]
theorem FK (xs ys:List Int):dP (n+1) (.lst (xs.map D.int)) (.lst (ys.map D.int))=true:=by show (decide _ || (QX (xs.map D.int) (ys.map D.int)).all fun p=>dP n p.1 p.2)=true;rw [Wf];refine .inr (Pj.mpr fun q hq=>?_);obtain ⟨a,b⟩:=q;obtain ⟨h1,h2⟩:=Rb hq;obtain ⟨x,_,rfl⟩:=NW.mp h1;obtain ⟨y,_,rfl⟩:=NW.mp h2;cases n <;> rfl
theorem bN (ha:a ρ=some d) (h:JJ d=some ds):fH a ρ=some ds:=by unfold fH; rw [ha]; exact h
theorem rR (ha:a ρ=some (.int i)) (h:-(2 ^ 62)≤i∧i.toNat≤NM):iK a ρ=some (wJ 0 i.toNat):=by unfold iK; rw [ha]; exact if_pos h
theorem Kh (ha:a ρ=some (.int i)) (hb:b ρ=some (.int j)) (h:-(2 ^ 62)≤i∧i<2 ^ 62∧-(2 ^ 62)≤j∧j<2 ^ 62∧(j-i).toNat≤NM):FF a b ρ=some (wJ i (j-i).toNat):=by unfold FF; rw [ha,hb]; exact if_pos h
theorem Ac (h:es ρ=some ds) (hb:b ρ=some (.int i)) (hc:-(2 ^ 63)≤i∧i<2 ^ 63∧ds.length*i.toNat≤NM):Ah es b ρ=some (Oz i.toNat ds).flatten:=by unfold Ah; rw [h,hb]; exact if_pos hc
theorem Fu {lo hi:aK→Option (Option Int)} {l u:Option Int} (h:fH a ρ=some ds) (h1:lo ρ=some l) (h2:hi ρ=some u):Hr a lo hi ρ=some (Ak ds l u):=by unfold Hr; rw [h,h1,h2]
theorem qm (h:es ρ=some ds) (hf:iz ds=true):kr es ρ=some ds:=by unfold kr; rw [h]; exact if_pos hf
theorem rV (h:a ρ=some d) (hl:JJ d=some ds):rZ a ρ=some ds:=by
 unfold rZ; rw [h];cases d with
 | lst xs=>exact hl
 | scr ns=>exact hl
 | _=>cases hl
theorem mB {xs ys:List D} (ha:a ρ=some (.lst xs)) (hb:b ρ=some (.lst ys)) (h:xs.length+ys.length≤NM):mF a b ρ=some (xs++ys):=by unfold mF; rw [ha,hb]; exact if_pos h
theorem vV (ha:a ρ=some (.int i)) (hb:b ρ=some (.lst (ns.map D.int))):IB neg a b ρ=some (.bl (if neg=true then !decide (i∈ns) else decide (i∈ns))):=by unfold IB; rw [ha,hb]; dsimp only [KS]; rw [eE]; rfl
theorem m9 (ha:a ρ=some (.int i)):g6 a ρ=some (some i):=by unfold g6; rw [ha]
theorem Ho {k:Nat} {g:DG} {t:aK→Option Bool} (h:it ρ=some ds) (p:D→Bool) (f:D→D)
 (hs:∀ d∈ds,∃ ρ1,g d (r0 k cs ρ)=some ρ1∧t ρ1=some (p d)∧(p d=true→el ρ1=some (f d))):bJ k cs it g t el ρ=some ((ds.filter p).map f):=by
 unfold bJ;rw [h];dsimp only;clear h;induction ds with
 | nil=>rfl
 | cons x xs ih =>
  obtain ⟨ρ1,e1,e2,e3⟩:=hs x NJ;have ih:=ih fun d hd=>hs d (NI _ hd);unfold mG;rw [e1];dsimp only;rw [e2];cases hp:p x with
  | false =>dsimp only;rw [ih,QZ (by simp [hp])]
  | true =>dsimp only;rw [e3 hp,ih,Qr hp];rfl
theorem FA {k:Nat} {g:DG} (h:it ρ=some ds) (f:D→D)
 (hs:∀ d∈ds,∃ ρ1,g d (r0 k cs ρ)=some ρ1∧el ρ1=some (f d)):bJ k cs it g bM el ρ=some (ds.map f):=by
 have:=Ho (ρ:=ρ) (k:=k) (cs:=cs) (it:=it) (g:=g) (t:=bM) (el:=el) h (fun _=>true) f fun d hd=>let ⟨ρ1,e1,e2⟩:=hs d hd; ⟨ρ1,e1,rfl,fun _=>e2⟩
 rw [this,Ry.mpr fun _ _=>rfl]
theorem Ew {b:DS} {ds:List D} (h:Wp b (gO n ms ds) { nx:=fun _=>P .non,rt:=P }):∃ d,bR n ms b ds=some d∧P d:=by
 unfold Wp at h;unfold bR;cases e:b (gO n ms ds) with
 | nx ρ=>rw [e] at h; exact ⟨_,rfl,h⟩
 | rt d=>rw [e] at h; exact ⟨_,rfl,h⟩
 | bk ρ=>rw [e] at h; exact h.elim
 | ct ρ=>rw [e] at h; exact h.elim
 | no=>rw [e] at h; exact h.elim
theorem run_eq {b:DS} {ds:List D} {d:D} (h:Wp b (gO n ms ds) { nx:=fun _=>D.non=d,rt:=fun x=>x=d }):bR n ms b ds=some d:=by obtain ⟨x,e,rfl⟩:=Ew (P:=fun x=>x=d) h;exact e
theorem mU {b:DS} (hF:F=bR n ms b) {ds:List D} (h:Wp b (gO n ms ds) { nx:=fun _=>P .non,rt:=P }):∃ d,F ds=some d∧P d:=by rw [hF]; exact Ew h
theorem cf {b:DS} (hF:F=bR n ms b) {ds:List D} {d:D} (h:Wp b (gO n ms ds) { nx:=fun _=>D.non=d,rt:=fun x=>x=d }):F ds=some d:=by rw [hF]; exact run_eq h
theorem Ff {i j:Int} (h:(-(2 ^ 64)<i∧i<2 ^ 64)∨(-(2 ^ 64)<j∧j<2 ^ 64)):UO i j:=KR.ok h
theorem MC {i:Int} (h0:0≤i) (h1:i<ns.length):C6 (.lst (ns.map D.int)) i=some (.int (ns.getD i.toNat 0)):=by
 show jR (ns.map D.int) i=_;unfold jR ixN;rw [if_pos h0,NH,if_pos h1];show (ns.map D.int)[i.toNat]?=_;have hi:i.toNat<ns.length:=by lia
 rw [NR,NG hi,NF,NG hi];rfl
theorem Nn {i:Int} (h0:0≤i) (h1:i<ns.length):C6 (.scr ns) i=some (.int (ns.getD i.toNat 0)):=by
 show (jR ns i).map D.int=_;unfold jR ixN;rw [if_pos h0,if_pos h1];have hi:i.toNat<ns.length:=by lia
 show (ns[i.toNat]?).map D.int=_;rw [NG hi,NF,NG hi];rfl
theorem fF {i:Int} (h0:0≤i) (h1:i<n):ixN n i=some i.toNat:=by unfold ixN; rw [if_pos h0,if_pos h1]
end
end
end
end VL
namespace L2
open PySem PySem.Spec PyProof.Rows
section
variable {X:Cx} {K:NK}
theorem An (hc:X.calm=true) (h:X.K=K):Aw X (.builtin "max") ["default"] (fun xs zs H Q=>∃ (p:NP) (ns:List Int) (d:V),xs=[.ref p]∧zs=[d]∧dQ K H p ‹43›∧(ns=[]→Q d H)∧∀ M,M∈ns→(∀ a,a∈ns→a≤M)→Q (.int M) H):=by subst h; exact Du hc
end
end L2
namespace VL
variable {ρ:aK} {d:D} {α:Type} {cs:List Nat} {it:aK→Option (List D)} {el:DE} {n:Nat}
open PySem L2
section
open Classical
section
section
variable [bB] {K:NK} {ta tb tc:TE} {a b c:DE}
noncomputable def yu (g:Int→List Int→Int) (a b:DE):DE:=fun ρ=>match a ρ with
 | some (.lst ds)=>(match b ρ with
  | some d=>(match dn ds with
   | some []=>some d
   | some (x::r)=>some (.int (g x r))
   | none=>none)
  | none=>none)
 | _=>none
theorem Dp {g:Int→List Int→Int} (h:yu g a b ρ=some d):∃ ns e,a ρ=some (.lst (ns.map D.int))∧b ρ=some e∧((ns=[]∧d=e)∨∃ x r,ns=x::r∧d=.int (g x r)):=by
 unfold yu at h;split at h
 ·rename_i ds e1;split at h
  ·rename_i e e2;cases q:dn ds with
   | none=>rw [q] at h; cases h
   | some ns =>
    rw [q] at h;rw [dA q] at e1;cases ns with
    | nil=>cases h; exact ⟨[],_,e1,e2,.inl ⟨rfl,rfl⟩⟩
    | cons x r=>cases h; exact ⟨x::r,_,e1,e2,.inr ⟨x,r,rfl,rfl⟩⟩
  ·cases h
 ·cases h
theorem GA (ha:a0 K ta a) (hb:aq K tb b):aq K (K9 (fun xs zs H Q=>∃ (p:NP) (ns:List Int) (d:V),xs=[.ref p]∧zs=[d]∧dQ K H p ‹43›∧(ns=[]→Q d H)∧∀ M,M∈ns→(∀ a,a∈ns→a≤M)→Q (.int M) H) (cx ta ft) (cx tb ft)) (yu m3 a b):=fun {B Z os ρ σ H Q d} f q k=>by
 obtain ⟨ns,e,e1,e2,h⟩:=Dp q;refine ha f e1 fun v H1 s1 i1=>hb (f.grow s1) e2 fun u H2 s2 i2=>?_;obtain ⟨p,rfl,rd⟩:=(i1.same s2).ints;have s12:=s1.trans s2;refine ⟨p,ns,u,rfl,rfl,.inl rd,fun z=>?_,fun M h1 h2=>?_⟩
 ·rcases h with ⟨_,rfl⟩ | ⟨x,r,rfl,rfl⟩
  ·exact k _ _ s12 i2
  ·cases z
 ·rcases h with ⟨rfl,_⟩ | ⟨x,r,rfl,rfl⟩
  ·cases h1
  ·rw [kl h1 h2 (aX r x).1 (aX r x).2];exact k _ _ s12 (.int _)
theorem Hl {g:Int→List Int→Int} (ha:a ρ=some (.lst [])) (hb:b ρ=some d):yu g a b ρ=some d:=by unfold yu; rw [ha,hb]; rfl
theorem Ki {g:Int→List Int→Int} {x:Int} {r:List Int} (ha:a ρ=some (.lst ((x::r).map D.int))) (hb:b ρ=some d):yu g a b ρ=some (.int (g x r)):=by unfold yu; rw [ha,hb]; dsimp only; rw [eE]
theorem MJ {j:Int} (h0:0<j) (h1:j<2 ^ 64):0<j∧j.natAbs.log2<9000:=by refine ⟨h0,(Nat.log2_lt (by lia)).mpr (Ot (m:=2 ^ 64) (by lia) (Nat.pow_le_pow_right ‹11› ‹11›))⟩
theorem kx {k:Nat} {g:DG} {t:aK→Option Bool} (emb:α→D) {xs:List α} (h:it ρ=some (xs.map emb)) (p:α→Bool) (f:α→D)
 (hs:∀ x∈xs,∃ ρ1,g (emb x) (r0 k cs ρ)=some ρ1∧t ρ1=some (p x)∧(p x=true→el ρ1=some (f x))):bJ k cs it g t el ρ=some ((xs.filter p).map f):=by
 unfold bJ;rw [h];dsimp only;clear h;induction xs with
 | nil=>rfl
 | cons x r ih =>
  obtain ⟨ρ1,e1,e2,e3⟩:=hs x NJ;have ih:=ih fun d hd=>hs d (NI _ hd);rw [Oq];unfold mG;rw [e1];dsimp only;rw [e2];cases hp:p x with
  | false =>dsimp only;rw [ih,QZ (by simp [hp])]
  | true =>dsimp only;rw [e3 hp,ih,Qr hp];rfl
theorem b9 {k:Nat} {g:DG} (emb:α→D) {xs:List α} (h:it ρ=some (xs.map emb)) (f:α→D)
 (hs:∀ x∈xs,∃ ρ1,g (emb x) (r0 k cs ρ)=some ρ1∧el ρ1=some (f x)):bJ k cs it g bM el ρ=some (xs.map f):=by
 have:=kx (ρ:=ρ) (k:=k) (cs:=cs) (it:=it) (g:=g) (t:=bM) (el:=el) emb h (fun _=>true) f fun d hd=>let ⟨ρ1,e1,e2⟩:=hs d hd; ⟨ρ1,e1,rfl,fun _=>e2⟩
 rw [this,Ry.mpr fun _ _=>rfl]
theorem wc {xs ys:List D} (h:∀ x∈xs,∀ y∈ys,dP n x y=true):dP (n+1) (.lst xs) (.lst ys)=true:=by show (decide _ || (QX xs ys).all fun p=>dP n p.1 p.2)=true;rw [Wf];refine .inr (Pj.mpr fun q hq=>?_);obtain ⟨a,b⟩:=q;obtain ⟨h1,h2⟩:=Rb hq;exact h a h1 b h2
theorem FJ {a b a' b':D} (h1:dP n a a'=true) (h2:dP n b b'=true):dP (n+1) (.tup [a,b]) (.tup [a',b'])=true:=by show (decide _&&(QX [a,b] [a',b']).all fun p=>dP n p.1 p.2)=true;rw [Qb];refine ⟨rfl,?_⟩;show (dP n a a'&&(dP n b b'&&true))=true;rw [h1,h2];rfl
theorem kB (T S:List (List Int)):dP (n+2) (.lst (T.map fun r=>.lst (r.map D.int))) (.lst (S.map fun r=>.lst (r.map D.int)))=true:=by refine wc fun x hx y hy=>?_;obtain ⟨a,_,rfl⟩:=NW.mp hx;obtain ⟨b,_,rfl⟩:=NW.mp hy;exact FK a b
theorem oo (ns:List Int):uO (.lst (ns.map D.int))=some (.int ns.sum):=gZ _ ns
theorem kY (x:Int) (r:List Int):maxD (.lst ((x::r).map D.int))=some (.int (m3 x r)):=gZ _ (x::r)
end
end
end
end VL
namespace L2
variable {scope:Q3} {cl:List (OX×NP)} {pins:List (NP×Qz)} {fp:List NP} {x:OX}
open PySem PySem.Spec PyProof.Rows
section
open VL (s0)
theorem sS {M:UM} {A:O3} {E:NN→NS→Prop} {s:NS} {globals:NP} {qual:OX} {outer:V5} {Q:V5→NS→Prop}
 (hQ:Q { scope,locals:=‹4›,globals,cells:=PD (‹4›+1) scope.names cl,qual,func:=none,code:=outer.code,frame:=outer.frame,builtins:=outer.builtins } { s with heap:=TV (s.heap.push { cls:=.type "dict", data:=.dict #[] }) scope.names }) :
 Ou M A (U6 scope globals cl [] qual none .none (some outer)) Q E s:=by
 simp only [U6,Vv,if_true];refine NO (wpAny_alloc ?_);refine NO (wpAny_layCells _ (fun name kind cells=>by cases hkc:kind==Vn <;> simp [hkc]) _ _ _ _ ?_);rw [show ({ s with heap:=s.heap.push { cls:=.type "dict", data:=.dict #[] } }:NS).heap.objs.size=‹4›+1 from Rp ..];rw [WB];exact NO (Oh (Oh hQ))
theorem kC:∀ (names:List (OX×TU)) (h:PM) (acc:List (OX×NP)) (x:OX) (c:NP),(PD h.objs.size names acc).lookup x=some c→((TV h names).IsCell c none∧h.objs.size≤c)∨acc.lookup x=some c
 | [],_,_,_,_,e=>.inr e
 | (name,kind)::r,h,acc,x,c,e=>by
  unfold PD at e;unfold TV;split at e
  ·rename_i hk;rw [if_pos hk];rcases kC r (h.push { cls:=.type "cell", data:=.cell none }) ((name,h.objs.size)::acc) x c (by rw [Rp]; exact e) with ⟨q1,q2⟩ | q
   ·rw [Rp] at q2;exact .inl ⟨q1,by lia⟩
   ·rw [QY] at q;cases hb:x==name with
    | true =>rw [hb] at q;cases q;exact .inl ⟨⟨_,UD _ _ _ _ (OK _ rfl),rfl⟩,N9 _⟩
    | false=>rw [hb] at q; exact .inr q
  ·rename_i hk;rw [if_neg hk];exact kC r h acc x c e
theorem oZ:∀ (names:List (OX×TU)) (n:Nat) (acc:List (OX×NP)),(∀ x y c,acc.lookup x=some c→acc.lookup y=some c→x=y)→(∀ x c,acc.lookup x=some c→c<n)→∀ x y c,(PD n names acc).lookup x=some c→(PD n names acc).lookup y=some c→x=y
 | [],_,_,hi,_=>hi
 | (name,kind)::r,n,acc,hi,hb=>by
  unfold PD;split
  ·refine oZ r (n+1) ((name,n)::acc) (fun x y c h1 h2=>?_) fun x c h=>?_
   ·rw [QY] at h1 h2;cases e1:x==name with
    | true =>
     cases e2:y==name with
     | true=>rw [eq_of_beq e1,eq_of_beq e2]
     | false =>rw [e1] at h1; rw [e2] at h2;cases h1;exact absurd (hb _ _ h2) (Pe _)
    | false =>
     cases e2:y==name with
     | true =>rw [e1] at h1; rw [e2] at h2;cases h2;exact absurd (hb _ _ h1) (Pe _)
     | false=>rw [e1] at h1; rw [e2] at h2; exact hi x y c h1 h2
   ·rw [QY] at h;cases e1:x==name with
    | true=>rw [e1] at h; cases h; exact Qy _
    | false=>rw [e1] at h; exact Qg (hb _ _ h)
  ·exact oZ r n acc hi hb
theorem oY:∀ (names:List (OX×TU)) (n:Nat) (acc:List (OX×NP)) (x:OX),(names.all fun y=>!(y.2==.cell) || !(y.1==x))=true→(PD n names acc).lookup x=acc.lookup x
 | [],_,_,_,_=>rfl
 | (name,kind)::r,n,acc,x,h=>by
  have h:((!(kind==.cell) || !(name==x))&&r.all fun y=>!(y.2==.cell) || !(y.1==x))=true:=h;obtain ⟨h1,h2⟩:=(Qb _ _).mp h;unfold PD;split
  ·rename_i hk;rw [oY r _ _ x h2,QY]
   have:(x==name)=false:=by
    rw [hk] at h1;have h1:(name==x)=false:=by simpa using h1
    rw [beq_eq_false_iff_ne] at h1 ⊢;exact fun z=>h1 z.symm
   rw [this]
  ·exact oY r _ _ x h2
noncomputable def aU (X:Cx) (N':List OX) (scope:Q3) (cl:List (OX×NP)) (C:NP) (s3:NS) (H3:Hp) (fp:List NP) (pins:List (NP×Qz)):Cx :=
 { X with N:=N',s₀:=s3,H₀:=H3,env:=Rq scope (PD (C+1) scope.names cl) C X.env,outer:=X.stack,stack:=X.stack,ex:=fp,fn:=fun x=>scope.names.lookup x==some .cell,pn:=X.pn++pins,xe:=fun _ _=>False }
structure jB (X:Cx) (N':List OX) (scope:Q3) (cl:List (OX×NP)) (σ σ0:St):Prop where
 sub:∀ x c,cl.lookup x=some c→X.env.cells.lookup x=some c
 vals:∀ (j:Nat) (x:OX) (v:V),N'[j]?=some x→σ0[j]?=some (some v)→∃ (i:Nat) (c:NP),X.N[i]?=some x∧σ[i]?=some (some v)∧Kz X.env.scope x∧X.env.kindOf x≠some .local∧cl.lookup x=some c ∧
  ‹7›
 Md:∀ (j:Nat) (x:OX) (v:V),N'[j]?=some x→σ0[j]?=some (some v)→(scope.names.all fun y=>!(y.2==.cell) || !(y.1==x))=true
 has:∀ x,‹7›→scope.names.lookup x=some .cell∨(cl.lookup x).isSome=true
 out:∀ x c,(scope.names.lookup x==some .cell)=true→¬ cl.lookup x=some c
 len:σ0.length=N'.length
section
variable {X:Cx} {tg elt iter:Pt} {ifs:List Pt} {scope:Q3} {cl:List (OX×NP)} {N':List OX} {σ0:St→St} {g:TG} {tt:TT} {te:TE}
theorem pI {pos:SY} {σ:St} {H1:Hp} {s2:NS} {it:NP} {tn:Nat→PM→Prop} {J:It} {Q:VK} {RR:NN→NP→WS→NS→Prop}
 (hc:X.calm=true) (hkind:scope.kind=.function)
 (I:Inv X pins σ H1 s2) (T:Turn X.prog X.w X.K tg J fp it tn) (st:tn 0 s2.heap) (hfp:∀ b∈fp,yJ X pins H1 b) (fr:jB X N' scope cl σ (σ0 σ)) (hk:BY g (σ0 σ))
 (hg:∀ C s3 H3 fp pins,PG ‹5› tg g)
 (ht:∀ C s3 H3 fp pins (pl:List (NP×Qz)) (s:NS) (σ:St) (H:Hp) (Q:Bool→Hp→Prop),Inv ‹5› pl σ H s→tt σ H Q →
  Ou ‹3› X.A (forIn ifs true fun c r=>if r=true then do let ok ← Ua c ‹9› (eval c ‹9›); pure (Py ok) else pure (Py r)) (TP ‹5› pl σ Q) (fun _ _=>False) s)
 (he:∀ C s3 H3 fp pins,PE ‹5› elt te) (hw:IC J g tt te (σ0 σ) H1 Q)
 (hRR:∀ D C s' H' m,Inv X pins σ H' s'→s'.heap.Ns C m→H' C=none→C≠‹29›→‹22›≤C→(∀ x c,X.env.cells.lookup x=some c→c≠C)→(∀ p∈X.pn++pins,p.1≠C)→Q (.ref D) H'→RR (.ref D) C (.ok .next) s') :
 Ou ‹3› X.A (newList []) (fun acc s₃=>Ou ‹3› X.A (U6 scope X.env.globals cl [] X.env.qual none .none (some X.env)) (fun cenv s₄ =>SN ‹3› X.A (.compStart ‹32› 0 (.ref it) acc { cenv with scope:=relabel scope X.env }) (RR acc cenv.locals) s₄) X.xe s₃) X.xe s2:=by
 refine QL (hd:=by size_fits) (sS ?_);dsimp only;have I3:Inv X pins σ (upd H1 s2.heap.objs.size (.lst [])) { s2 with heap:=s2.heap.push { cls:=.type "list", dict:=none,data:=.seq ([]:List NN).toArray } }:=I.JM (t':=s2.toks) (its:=[]) (ys:=[]) .nil (O1 _);obtain ⟨W,⟨m0,w0⟩,turn⟩:=hw s2.heap.objs.size I.fresh;have hfpo:=T.obj 0 _ st;have fpl:∀ b∈fp,b<s2.heap.objs.size:=fun b hb=>by obtain ⟨o,e,_⟩:=hfpo b hb;exact Ob e
 have fD:∀ b∈fp,upd H1 s2.heap.objs.size (.lst []) b=none:=fun b hb=>by rw [aG (OE (fpl b hb))];exact (hfp b hb).1
 generalize hs3:({ s2 with heap:=s2.heap.push { cls:=.type "list", dict:=none,data:=.seq ([]:List NN).toArray } }:NS)=s3 at I3;have es3:s3.heap=s2.heap.push { cls:=.type "list", dict:=none,data:=.seq ([]:List NN).toArray }:=by rw [← hs3]
 have st3:tn 0 s3.heap:=T.keep _ _ _ st fun b hb o e=>by rw [es3]; exact NT _ e
 rw [← es3];have sz3:s2.heap.objs.size<s3.heap.objs.size:=by rw [es3,Rp]; exact Qy _
 generalize upd H1 s2.heap.objs.size (.lst [])=H3 at I3 fD w0;have hns₁:(TV (s3.heap.push { cls:=.type "dict", data:=.dict #[] }) scope.names).Ns s3.heap.objs.size (fun _=>none):=(Heap.Ns.new s3.heap (.type "dict")).keeps (UD _ _);have old:∀ b o,s3.heap.get? b=some o→(TV (s3.heap.push { cls:=.type "dict", data:=.dict #[] }) scope.names).get? b=some o:=fun b o e=>UD _ _ b o (NT _ e);have cnew:=fun x c (e:(PD (s3.heap.objs.size+1) scope.names cl).lookup x=some c)=>kC scope.names (s3.heap.push { cls:=.type "dict", data:=.dict #[] }) cl x c (by rw [Rp]; exact e);rw [Rp] at cnew;have below:∀ x c,cl.lookup x=some c→c<s3.heap.objs.size:=fun x c e=>by obtain ⟨v,o,ho,_⟩:=I3.cell x c (fr.sub x c e);exact Ob ho
 generalize TV (s3.heap.push { cls:=.type "dict", data:=.dict #[] }) scope.names=h₁ at hns₁ old cnew;have fpl3:∀ b∈fp,b<s3.heap.objs.size:=fun b hb=>VH (fpl b hb) sz3
 have HV:∀ b∈fp,b∉DD X.stack:=fun b hb z=>by
  rcases NU.mp (I3.qK b z) with e | e
  ·exact (hfp b hb).2.1 e
  ·exact (hfp b hb).2.2.1 e
 have ok:‹12›.Ok:=by
  refine ⟨I3.ok.mod,hkind,I3.ok.glob,I3.ok.blt,N9 _,oZ scope.names _ cl (fun x y c h1 h2=>I3.ok.inj x y c (fr.sub x c h1) (fr.sub y c h2)) (fun x c e=>Qg (below x c e)),fun x h=>?has,fun x c h e=>?cab,I3.ok.hd,I3.ok.frames,.inl rfl,
   fun b hb=>⟨OE (fpl3 b hb),fun x c e=>?exf⟩,I3.bs,ON I3.ok.Dy I3.sz,fun b o e hb=>?noex,fun b hb=>HV b hb,I3.stack,I3.uQ⟩
  case has=>exact TC.mp (RX scope.names _ cl (fr.has x h))
  case cab =>
   rcases cnew x c e with ⟨_,q⟩ | q
   ·exact ON (Tt _) q
   ·exact absurd q (fr.out x c h)
  case exf =>
   rcases cnew x c e with ⟨_,q⟩ | q
   ·intro z;have l1:=fpl3 b hb;rw [← z] at l1;exact absurd (Ot l1 (ON (Tt _) q)) (Pe _)
   ·exact (hfp b hb).2.2.2.2.1 x c (fr.sub x c q)
  case noex =>
   rcases (hfp b hb).2.2.2.1 with z | z
   ·exact I3.ok.noex b o e z
   ·have l1:b<X.base.objs.size:=Ob e;have l2:X.base.objs.size≤X.s₀.heap.objs.size:=I3.ok.Dy;have l3:‹22›≤b:=z;exact absurd (Ot l1 (ON l2 l3)) (Pe _)
 have lt3:‹29›<s3.heap.objs.size:=I3.lt
 have start:Inv ‹12› [] (σ0 σ) H3 { s3 with heap:=h₁ }:=by
  refine ⟨ok,rfl,I3.bare,Un.kept old,⟨_,hns₁,fun j x v e1 e2 _=>?_⟩,fun x c e=>?_,I3.cG.fresh (N9 _),fun x c e=>?fc,fun p hp=>?_,I3.cG.kept old,fr.len⟩
  case fc =>
   rcases cnew x c e with ⟨_,q⟩ | q
   ·exact I3.cG.fresh (by lia)
   ·exact I3.iU x c (fr.sub x c q)
  ·obtain ⟨i,c,q1,q2,q3,q4,q5,q6⟩:=fr.vals j x v e1 e2;obtain ⟨m,hn,hl⟩:=I3.loc;obtain ⟨u,r,l⟩:=hl i x v q1 q2 q3;refine ⟨u,r,.inr ⟨q6,c,(oY scope.names _ cl x (fr.Md j x v e1 e2)).trans q5,?_⟩⟩;rcases l with ⟨k,_⟩ | ⟨_,c',e',z⟩
   ·exact absurd k q4
   ·rw [fr.sub x c q5] at e';cases e';obtain ⟨o,ho,hd⟩:=z;exact ⟨o,old _ _ ho,hd⟩
  ·rcases cnew x c e with ⟨q,_⟩ | q
   ·exact ⟨_,q⟩
   ·obtain ⟨v,o,ho,hd⟩:=I3.cell x c (fr.sub x c q);exact ⟨v,o,old _ _ ho,hd⟩
  ·have hp':p∈X.pn++pins:=by simpa [aU] using hp
   obtain ⟨e,n,ne,nf,d⟩:=I3.pin p hp';refine ⟨old _ _ e,n,OE (Ob e),fun z=>?_,d⟩;rcases NU.mp (I3.qK p.1 z) with q | q
   ·exact ne q
   ·exact nf q
 have hst₁:tn 0 h₁:=T.keep _ _ _ st3 fun b _ o e=>old b o e
 have fpok:∀ {H':Hp},(∀ b∈fp,H' b=none)→∀ b∈fp,yJ ‹12› [] H' b:=fun {H'} hn b hb =>
  ⟨hn b hb,OE (fpl3 b hb),HV b hb,.inl hb,fun x c e=>by
   rcases cnew x c e with ⟨_,q⟩ | q
   ·intro z;have l1:=fpl3 b hb;rw [← z] at l1;exact absurd (Ot l1 (ON (Tt _) q)) (Pe _)
   ·exact (hfp b hb).2.2.2.2.1 x c (fr.sub x c q),fun p hp=>(hfp b hb).2.2.2.2.2 p (by simpa [aU] using hp)⟩
 have loop:SN ‹3› X.A (.compLoop ‹32› 0 (.ref it) (.ref s2.heap.objs.size) (Rq scope (PD (s3.heap.objs.size+1) scope.names cl) s3.heap.objs.size X.env)) (RR (.ref s2.heap.objs.size) s3.heap.objs.size) { s3 with heap:=h₁ }:=by
  refine wb (fun n s'=>∃ i ys H',Inv ‹12› [] (σ0 σ) H' s'∧tn i s'.heap∧(∀ b∈fp,H' b=none)∧W i n ys H') ?_ m0 ⟨0,[],H3,start,hst₁,fD,w0⟩;rintro n s4 ⟨i,ys,H4,I4,Ld,fr4,w4⟩;rcases turn i n ys H4 w4 with ⟨stop,eD,q⟩ | ⟨go,step⟩
  ·refine cB (T.done ‹12› rfl rfl rfl hc i [] s4 _ H4 _ I4 (fpok fr4) Ld stop) fun r s5 ⟨hr,I5⟩=>?_;subst hr;obtain ⟨m5,n5,_⟩:=I5.loc;have J5:Inv X pins σ H4 s5:=I3.ID I5.os I5.base I5.cG I5.bare fun b hb=>⟨(hfp b hb).2.2.2.1,(hfp b hb).2.1,(hfp b hb).2.2.2.2.1,(hfp b hb).2.2.2.2.2⟩
   exact hRR _ _ s5 H4 m5 J5 n5 I5.free (QH lt3) I3.sz (fun x c e z=>by
    obtain ⟨v,o,ho,_⟩:=I3.cell x c e;exact absurd (Ob ho) (by rw [z]; exact Pe _)) (fun p hp z=>by
    have e:=(I3.pin p hp).1;exact absurd (Ob e) (by rw [z]; exact Pe _)) q
  ·refine cB (T.item ‹12› rfl rfl rfl hc i [] s4 _ H4 _ I4 (fpok fr4) Ld go) fun r s5 ⟨u,hr,h5⟩=>?_;subst hr;refine cB h5 fun _ s6 ⟨x,H6,I6,r6,y6,st6,fr6⟩=>?_;have I6':=I6.pinned (fpok fr6) (T.obj _ _ st6);refine cB (hg _ _ _ _ _ _ s6 _ H6 x u _ I6' r6 (hk _ _ _ (step x H6 y6))) fun _ s7 ⟨σ7,H7,I7,q7,l7,k7⟩=>?_
   have again:∀ {s8:NS} {H8:Hp} {m:Nat} {zs:List V},Inv ‹12› ([]++rg fp s6.heap) σ7 H8 s8→m<n→W (i+1) m zs H8 →
    ∃ m,m<n∧∃ i ys H',Inv ‹12› [] (σ0 σ) H' s8∧tn i s8.heap∧(∀ b∈fp,H' b=none)∧W i m ys H':=fun {s8 H8 m zs} I8 hm w8=>by
    refine ⟨m,hm,i+1,zs,H8,(Inv.gR I8).weak l7.symm k7,T.keep _ _ _ st6 fun b hb o e=>(I8.pin (b,o) (NQ _ (NQ _ (jt hb e)))).1,fun b hb=>?_,w8⟩;obtain ⟨o,e,d⟩:=T.obj _ _ st6 b hb;exact (I8.pin (b,o) (NQ _ (NQ _ (jt hb e)))).2.1
   refine cB (ht _ _ _ _ _ _ s7 σ7 H7 _ I7 q7) fun c s8 ⟨H8,I8,q8⟩=>?_;cases c with
   | false =>rw [if_neg N8] at q8 ⊢;obtain ⟨m',hm,w8⟩:=q8;exact again I8 hm w8
   | true =>
    rw [if_pos rfl] at q8 ⊢;refine cB (he _ _ _ _ _ _ s8 σ7 H8 _ I8 q8) fun v s9 ⟨y,H9,I9,r9,e9,z9,m',hm,w9⟩=>?_
    exact cB (cD _ s9 σ7 H9 (.ref s2.heap.objs.size) [y] (.ref s2.heap.objs.size) [v] (fun _ H'=>H'=upd H9 s2.heap.objs.size (.lst (ys++[y]))) I9 rfl (.cons r9 .nil) ⟨_,ys,y,rfl,rfl,e9,z9,rfl⟩)
     fun _ s10 ⟨_,H10,I10,_,e10⟩=>by subst e10; exact again I10 hm w9
 subst hs3;exact codeAny_compStart_list loop (T.self _ 0 _ _ _ hst₁ loop)
variable {pos:SY} {wi:TI}
theorem t4 (hc:X.calm=true) (hi:PI X tg iter wi) (fr:∀ σ:St,σ.length=X.N.length→jB X N' scope cl σ (σ0 σ)) (hk:∀ σ,BY g (σ0 σ))
 (hg:∀ C s3 H3 fp pins,PG ‹5› tg g)
 (ht:∀ C s3 H3 fp pins (pl:List (NP×Qz)) (s:NS) (σ:St) (H:Hp) (Q:Bool→Hp→Prop),Inv ‹5› pl σ H s→tt σ H Q →
  Ou ‹3› X.A (forIn ifs true fun c r=>if r=true then do let ok ← Ua c ‹9› (eval c ‹9›); pure (Py ok) else pure (Py r)) (TP ‹5› pl σ Q) (fun _ _=>False) s)
 (he:∀ C s3 H3 fp pins,PE ‹5› elt te)
 (hclos:RQ scope X.env=pure cl) (hkind:scope.kind=.function) (hnames:∀ y∈scope.names,y.2=.local→scope.names.lookup y.1=some .local)
 (hs:∀ x,Qq iter X.env x=pure x):PE X ‹32› (ph wi g tt te σ0):=by
 intro pins s σ H Q I h;rw [eval_ListComp];refine TM (use:=none) rfl hs hclos hkind hnames (cB (hi pins s σ H _ I h) fun v s1 h1=>cB h1 fun itv s2 h2=>?_);obtain ⟨it,fp,tn,J,H2,e,I2,T,cz,f2,q⟩:=h2;subst e;refine pI (RR:=fun acc C=>compPost ‹3› X.A X.xe none ‹52› acc C) hc hkind I2 T cz f2 (fr σ I.len) (hk σ) hg ht he q ?_;intro D C s' H' m I' hn hC h1 h2 h3 h4 q';refine ⟨m,hn,fun h'' hs''=>⟨.ref D,H',?_,rfl,q'⟩⟩;exact I'.turned (t':=s'.toks) (fun b o hb e=>hs''.extBut b o hb e) hC h1 (.inr h2) h3 h4
theorem tY {i:Nat} {pos' spos:SY} (hN:X.N.Nodup) (hi':X.N[i]?=some x) (hx:Loc X.env.scope x) (hf:X.fn x=true∨X.env.scope.names.lookup x=some .local)
 (hc:X.calm=true) (hi:PI X tg iter wi) (fr:∀ σ:St,σ.length=X.N.length→jB X N' scope cl σ (σ0 σ)) (hk:∀ σ,BY g (σ0 σ))
 (hg:∀ C s3 H3 fp pins,PG ‹5› tg g)
 (ht:∀ C s3 H3 fp pins (pl:List (NP×Qz)) (s:NS) (σ:St) (H:Hp) (Q:Bool→Hp→Prop),Inv ‹5› pl σ H s→tt σ H Q →
  Ou ‹3› X.A (forIn ifs true fun c r=>if r=true then do let ok ← Ua c ‹9› (eval c ‹9›); pure (Py ok) else pure (Py r)) (TP ‹5› pl σ Q) (fun _ _=>False) s)
 (he:∀ C s3 H3 fp pins,PE ‹5› elt te)
 (hclos:RQ scope X.env=pure cl) (hkind:scope.kind=.function) (hnames:∀ y∈scope.names,y.2=.local→scope.names.lookup y.1=some .local)
 (hs:∀ x,Qq iter X.env x=pure x) (hsw:SV ‹32› (some (.Name x pos')) spos.line X.env=pure true) :
 PS X (.Assign [.Name x pos'] ‹32› spos) (tH (ph wi g tt te σ0) i):=by
 intro pins s σ H D I h;rw [exec_Assign_Name_used _ _ _ _ hsw];refine NO (RB (NO ?_));show Ou _ X.A (do let _ ← comprehension ‹32› scope X.env _ (newList []) false (eval iter X.env) (some (assign (.Name x pos') X.env))) _ _ s
 refine NO (Px (TM (Q:=fun _ s'=>SP X pins D .next s') (use:=some (assign (.Name x pos') X.env)) rfl hs hclos hkind hnames (cB (hi pins s σ H _ I h) fun v s1 h1=>cB h1 fun itv s2 h2=>?_))
  (fun _ s' hq=>Oh (Oh hq)) fun _ _ e=>e)
 obtain ⟨it,fp,tn,J,H2,e,I2,T,cz,f2,q⟩:=h2;subst e;refine pI (RR:=fun acc C=>compPost ‹3› X.A X.xe (some (assign (.Name x pos') X.env)) (fun _ s'=>SP X pins D .next s') acc C) hc hkind I2 T cz f2 (fr σ I.len) (hk σ) hg ht he q ?_;intro Dl C s' H' m I' hn hC h1 h2 h3 h4 q';show Ou _ _ (assign (.Name x pos') X.env (.ref Dl)) _ _ s';refine wpAny_assign_Name (tK (v:=.ref Dl) I' hN hi' hx rfl (fun s'' I'' ⟨a,hsb,ha⟩=>?_) hf)
 have hne:C≠a:=by
  rcases ha with rfl | ha
  ·exact h1
  ·exact P9 (h3 x a ha)
 refine ⟨m,hn.sameBut hsb hne,fun h'' hs''=>⟨_,H',?_,q'⟩⟩;exact I''.turned (t':=s''.toks) (fun b o hb e=>hs''.extBut b o hb e) hC h1 (.inr h2) h3 h4
theorem jB.many {is:List Nat} {ts zs:List OX} {k:Nat} {σ:St} (hk:ts.length=k) (hs:SubL X cl) (hc:pY X scope cl is zs)
 (ha:(‹18›.names.all fun y=>!(y.2==.cell || y.2==.free) || zs.contains y.1 || (scope.names.lookup y.1==some .cell))=true)
 (ho:(zs.all fun z=>scope.names.all fun y=>!(y.2==.cell) || !(y.1==z))=true) (hcl:(scope.names.all fun y=>!(y.2==.cell) || (cl.lookup y.1).isNone)=true):jB X (ts++zs) scope cl σ (s0 k is σ):=by
 have vals:∀ (j:Nat) (x:OX) (v:V),(ts++zs)[j]?=some x→(s0 k is σ)[j]?=some (some v)→x∈zs∧∃ (i:Nat) (c:NP),X.N[i]?=some x∧σ[i]?=some (some v)∧Kz X.env.scope x∧X.env.kindOf x≠some .local∧cl.lookup x=some c ∧
  ‹7›:=fun j x v e1 e2=>by
  unfold s0 at e2;by_cases hj:j<k
  ·rw [OM (by simpa using hj),Pg,if_pos hj] at e2; cases e2
  ·rw [Ox (by simpa using hj),OQ,NR] at e2;rw [Ox (by lia),hk] at e1;obtain ⟨i,c,f1,f2,f3,f4,f5⟩:=hc.get _ _ e1;rw [f1] at e2;have e3:(σ[i]?).join=some v:=OD e2;refine ⟨OF e1,i,c,f2,VL.join_some e3,?_,?_,f4,f5⟩
   ·rcases f3 with q | q
    ·exact .inr (.inl q)
    ·exact .inr (.inr q)
   ·intro w;have w:X.env.scope.names.lookup x=some .local:=w;rcases f3 with q | q <;> rw [q] at w <;> cases w
 refine ⟨hs.sub,fun j x v e1 e2=>(vals j x v e1 e2).2,fun j x v e1 e2=>Pj.mp ho x (vals j x v e1 e2).1,fun x h=>?_,fun x c h e=>?_,by unfold s0; rw [N7,N7,OQ,NH,hk,hc.len]⟩
 ·have key:∀ kd,‹18›.names.lookup x=some kd→(kd==Vn || kd==WK)=true→x∈zs∨scope.names.lookup x=some .cell:=fun kd e q=>by
   have m:=Pj.mp ha _ (P2 e);rw [q] at m;have m':zs.contains x=true∨(scope.names.lookup x==some .cell)=true:=by simpa using m
   rcases m' with m' | m'
   ·exact .inl (UK.mp m')
   ·exact .inr (eq_of_beq m')
  have mem:x∈zs∨scope.names.lookup x=some .cell:=by
   rcases h with h | h
   ·exact key _ h rfl
   ·exact key _ h rfl
  rcases mem with mem | mem
  ·obtain ⟨j,hj⟩:=Pp mem;obtain ⟨i,c,_,_,_,f4,_⟩:=hc.get j x hj;exact .inr (by rw [f4]; rfl)
  ·exact .inl mem
 ·have m:=Pj.mp hcl _ (P2 (eq_of_beq h));rw [e] at m;simp at m
variable {c:Pt} {ts zs:List OX} {is:List Nat} {k:Nat}
theorem AJ:∀ C s3 H3 fp pins (pl:List (NP×Qz)) (s:NS) (σ:St) (H:Hp) (Q:Bool→Hp→Prop),Inv ‹5› pl σ H s→AL σ H Q →
 Ou ‹3› X.A (forIn ([]:List Pt) true fun c r=>if r=true then do let ok ← Ua c ‹9› (eval c ‹9›); pure (Py ok) else pure (Py r)) (TP ‹5› pl σ Q) (fun _ _=>False) s :=
 fun _ _ _ _ _ _ _ _ H _ I h=>wpAny_tests_nil ⟨H,I,h⟩
theorem AI (ht:∀ C s3 H3 fp pins,PT ‹5› c tt):∀ C s3 H3 fp pins (pl:List (NP×Qz)) (s:NS) (σ:St) (H:Hp) (Q:Bool→Hp→Prop),Inv ‹5› pl σ H s→tt σ H Q →
 Ou ‹3› X.A (forIn [c] true fun c r=>if r=true then do let ok ← Ua c ‹9› (eval c ‹9›); pure (Py ok) else pure (Py r)) (TP ‹5› pl σ Q) (fun _ _=>False) s :=
 fun C s3 H3 fp pins pl s σ H Q I h=>wpAny_tests_one (ht C s3 H3 fp pins pl s σ H Q I h)
theorem eY (hc:X.calm=true) (hi:PI X tg iter wi) (hk:ts.length=k) (hs:SubL X cl) (hcp:pY X scope cl is zs) (ha:(‹18›.names.all fun y=>!(y.2==.cell || y.2==.free) || zs.contains y.1 || (scope.names.lookup y.1==some .cell))=true)
 (ho:(zs.all fun z=>scope.names.all fun y=>!(y.2==.cell) || !(y.1==z))=true) (hcl:(scope.names.all fun y=>!(y.2==.cell) || (cl.lookup y.1).isNone)=true) (hl:HF k g)
 (hg:∀ C s3 H3 fp pins,PG ‹15› tg g) (he:∀ C s3 H3 fp pins,PE ‹15› elt te)
 (hclos:RQ scope X.env=pure cl) (hkind:scope.kind=.function) (hnames:∀ y∈scope.names,y.2=.local→scope.names.lookup y.1=some .local)
 (hf:∀ x,Qq iter X.env x=pure x:=by intro _; rfl):PE X (.ListComp elt [⟨tg,iter,[],0⟩] scope pos) (ph wi g AL te (s0 k is)) :=
 t4 hc hi (fun _ _=>jB.many hk hs hcp ha ho hcl) (fun σ=>hl.keep σ) hg AJ he hclos hkind hnames hf
theorem zG (hc:X.calm=true) (hi:PI X tg iter wi) (hk:ts.length=k) (hs:SubL X cl) (hcp:pY X scope cl is zs) (ha:(‹18›.names.all fun y=>!(y.2==.cell || y.2==.free) || zs.contains y.1 || (scope.names.lookup y.1==some .cell))=true)
 (ho:(zs.all fun z=>scope.names.all fun y=>!(y.2==.cell) || !(y.1==z))=true) (hcl:(scope.names.all fun y=>!(y.2==.cell) || (cl.lookup y.1).isNone)=true) (hl:HF k g)
 (hg:∀ C s3 H3 fp pins,PG ‹15› tg g) (ht:∀ C s3 H3 fp pins,PT ‹15› c tt) (he:∀ C s3 H3 fp pins,PE ‹15› elt te)
 (hclos:RQ scope X.env=pure cl) (hkind:scope.kind=.function) (hnames:∀ y∈scope.names,y.2=.local→scope.names.lookup y.1=some .local)
 (hf:∀ x,Qq iter X.env x=pure x:=by intro _; rfl):PE X (.ListComp elt [⟨tg,iter,[c],0⟩] scope pos) (ph wi g tt te (s0 k is)) :=
 t4 hc hi (fun _ _=>jB.many hk hs hcp ha ho hcl) (fun σ=>hl.keep σ) hg (AI ht) he hclos hkind hnames hf
theorem jm {i:Nat} {pos' spos:SY} (hN:X.N.Nodup) (hi':X.N[i]?=some x) (hxl:X.env.scope.names.lookup x=some .local) (hc:X.calm=true) (hi:PI X tg iter wi) (hk:ts.length=k) (hs:SubL X cl) (hcp:pY X scope cl is zs) (ha:(‹18›.names.all fun y=>!(y.2==.cell || y.2==.free) || zs.contains y.1 || (scope.names.lookup y.1==some .cell))=true)
 (ho:(zs.all fun z=>scope.names.all fun y=>!(y.2==.cell) || !(y.1==z))=true) (hcl:(scope.names.all fun y=>!(y.2==.cell) || (cl.lookup y.1).isNone)=true) (hl:HF k g)
 (hg:∀ C s3 H3 fp pins,PG ‹15› tg g) (he:∀ C s3 H3 fp pins,PE ‹15› elt te)
 (hclos:RQ scope X.env=pure cl) (hkind:scope.kind=.function) (hnames:∀ y∈scope.names,y.2=.local→scope.names.lookup y.1=some .local)
 (hf:∀ x,Qq iter X.env x=pure x:=by intro _; rfl) (hsw:SV (.ListComp elt [⟨tg,iter,[],0⟩] scope pos) (some (.Name x pos')) spos.line X.env=pure true:=by rfl):PS X (.Assign [.Name x pos'] (.ListComp elt [⟨tg,iter,[],0⟩] scope pos) spos) (tH (ph wi g AL te (s0 k is)) i) :=
 tY hN hi' (.inl hxl) (.inr hxl) hc hi (fun _ _=>jB.many hk hs hcp ha ho hcl) (fun σ=>hl.keep σ) hg AJ he hclos hkind hnames hf hsw
theorem Jl {i:Nat} {pos' spos:SY} (hN:X.N.Nodup) (hi':X.N[i]?=some x) (hxl:X.env.scope.names.lookup x=some .local) (hc:X.calm=true) (hi:PI X tg iter wi) (hk:ts.length=k) (hs:SubL X cl) (hcp:pY X scope cl is zs) (ha:(‹18›.names.all fun y=>!(y.2==.cell || y.2==.free) || zs.contains y.1 || (scope.names.lookup y.1==some .cell))=true)
 (ho:(zs.all fun z=>scope.names.all fun y=>!(y.2==.cell) || !(y.1==z))=true) (hcl:(scope.names.all fun y=>!(y.2==.cell) || (cl.lookup y.1).isNone)=true) (hl:HF k g)
 (hg:∀ C s3 H3 fp pins,PG ‹15› tg g) (ht:∀ C s3 H3 fp pins,PT ‹15› c tt) (he:∀ C s3 H3 fp pins,PE ‹15› elt te)
 (hclos:RQ scope X.env=pure cl) (hkind:scope.kind=.function) (hnames:∀ y∈scope.names,y.2=.local→scope.names.lookup y.1=some .local)
 (hf:∀ x,Qq iter X.env x=pure x:=by intro _; rfl) (hsw:SV (.ListComp elt [⟨tg,iter,[c],0⟩] scope pos) (some (.Name x pos')) spos.line X.env=pure true:=by rfl):PS X (.Assign [.Name x pos'] (.ListComp elt [⟨tg,iter,[c],0⟩] scope pos) spos) (tH (ph wi g tt te (s0 k is)) i) :=
 tY hN hi' (.inl hxl) (.inr hxl) hc hi (fun _ _=>jB.many hk hs hcp ha ho hcl) (fun σ=>hl.keep σ) hg (AI ht) he hclos hkind hnames hf hsw
end
end
theorem eA {X:Cx} {N':List OX} {i:Nat} {y:OX} {py:SY} {C:NP} {s3:NS} {H3:Hp} (nd:N'.Nodup) (hi:N'[i]?=some y)
 (hx:Loc ‹18› y) (hf:(scope.names.lookup y==some .cell)=true∨‹18›.names.lookup y=some .local):PG ‹5› (.Name y py) (iT i):=Bk nd hi hx hf
end L2
namespace VL
variable {ta:TE} {a:aK→Option (List (List D))} {Z:NP→Prop} {os:Own} {ρ:aK} {σ:L2.St} {rows:List (List D)} {r:Nat} {ps:List NP} {ds':List D} {vs':List V} {n:Int} {ds:List D} {cs:List Nat} {it:aK→Option (List D)} {α:Type} {el:aK→Option (List D)}
open PySem L2
section
open Classical
section
variable [bB] {K:NK} {fr:Fm}
noncomputable def HB (K:NK) (t:TE) (e:aK→Option (List (List D))):Prop:=∀ {B:Hp} {Z:NP→Prop} {os:Own} {ρ:aK} {σ:L2.St} {H:Hp} {Q:VK} {rows:List (List D)},Fr K B Z os ρ σ H→e ρ=some rows →
 (∀ x ps H',aW H H'→H x=none→(∀ a∈ps,H a=none)→(x::ps).Nodup→H' x=some (.lst ‹41›)→ps.length≤NM→PU (fun q ds=>∃ vs,H' q=some (.lst vs)∧vs.length≤NM∧IsL K H' (fun a=>(a=x∨a∈ps)∨bW Z os a) vs ds) ps rows→Q (.ref x) H')→t σ H Q
def fV (rows:List (List D)):D:=.lst (rows.map D.lst)
def HJ:D→Option (List D)
 | .lst ds=>some ds
 | _=>none
def uJ:List D→Option (List (List D))
 | []=>some []
 | d::r=>match HJ d with
  | some x=>(match uJ r with
   | some y=>some (x::y)
   | none=>none)
  | none=>none
theorem l6:∀ (rows:List (List D)),uJ (rows.map D.lst)=some rows
 | []=>rfl
 | x::r=>by show (match HJ (.lst x) with | some x=>(match uJ (r.map D.lst) with | some y=>some (x::y) | none=>none) | none=>none)=_; rw [l6 r]; rfl
@[irreducible] def qY (i:Nat):DS:=fun ρ=>match ρ.getD i .un with
 | .om rows=>.rt (fV rows)
 | _=>.no
theorem D8 {i:Nat}:c9 .m K (D0 (lC i)) (qY i):=fun {B Z os ρ σ H E} f p=>by
 unfold qY at p;split at p
 ·rename_i rows e;have s:=f.sl i;rw [e] at s;obtain ⟨a,ps,eo,hu,hH,hl,r⟩:=s;have hn:=f.nd i;rw [eo] at hn;have ha:a∈os i:=by rw [eo]; exact NJ
  have hp:∀ q∈ps,q∈os i:=fun q hq=>by rw [eo]; exact NI _ hq
  refine ⟨_,join_some hu,p _ _ f.keep ⟨a,ps,rows,rfl,rfl,(f.new i a ha).1,fun q hq=>(f.new i q (hp q hq)).1,hn,hH,hl,Paired.mono r fun q ds _ ⟨vs,h1,h2,h3⟩=>⟨vs,h1,h2,h3.kp (Kp.less fun b z=>?_)⟩⟩⟩;rcases z with (rfl | z) | z
  ·exact .inr ⟨i,ha⟩
  ·exact .inr ⟨i,hp b z⟩
  ·exact .inl z
 ·show 1
@[irreducible] def j6 (i:Nat) (a:aK→Option (List (List D))):DS:=fun ρ=>match a ρ with
 | some rows=>if i < ρ.length then .nx (ρ.set i (.om rows)) else .no
 | none=>.no
theorem p9 {i:Nat} (h:HB K ta a):c9 fr K (su ta (iT i)) (j6 i a):=fun {B Z os ρ σ H E} f p=>by
 unfold j6 at p;split at p
 ·rename_i rows e;by_cases hi:i < ρ.length
  ·rw [if_pos hi] at p;refine h f e fun x ps H1 s1 hx hps hn hH hl r=>?_
   have st:=f.step (H':=H1) (i:=i) hi (o:=x::ps) (s:=.om rows) (v:=some (.ref x)) (fun a u e _=>s1 _ _ e) (fun a ha=>let ⟨xs,e⟩:=(f.sl i).sZ ha; ⟨_,s1 _ _ e⟩) hn (fun a ha=>?_)
    ⟨x,ps,rfl,rfl,hH,hl,Paired.mono r fun q ds _ ⟨vs,h1,h2,h3⟩=>⟨vs,h1,h2,h3.kp (Kp.less fun a z=>?_)⟩⟩
   ·exact p _ _ _ st.1 st.2
   ·rcases NU.mp ha with rfl | ha
    ·exact .inr hx
    ·exact .inr (hps a ha)
   ·rcases z with z | ⟨j,z⟩
    ·exact .inr (.inl z)
    ·show 5
     ·subst hj; rw [bD] at z; exact .inl (NU.mp z)
     ·rw [cg hj] at z; exact .inr (.inr ⟨j,z⟩)
  ·rw [if_neg hi] at p; exact p.elim
 ·show 1
theorem qN {i:Nat} (h:HB K ta a):c9 fr K (tH ta i) (j6 i a):=p9 (i:=i) h
theorem Paired.setAt {α β:Type} {F G:α→β→Prop} {p:α} {y:β}:∀ {ps:List α} {rows:List β} {r:Nat},PU F ps rows→ps.Nodup→(∀ q ds,q≠p→F q ds→G q ds)→ps[r]?=some p→G p y→PU G ps (rows.set r y)
 | _,_,0,.cons h t,hn,hf,e,g=>by cases e;exact .cons g (Paired.mono t fun q ds hq h=>hf q ds (fun z=>(Of.mp hn).1 (z ▸ hq)) h)
 | _,_,r+1,.cons h t,hn,hf,e,g=>by
  have e':=show _=some p by simpa using e
  exact .cons (hf _ _ (fun z=>(Of.mp hn).1 (z ▸ OF e')) h) (Paired.setAt t (Of.mp hn).2 hf e' g)
theorem Paired.Df {α β:Type} {F:α→β→Prop}:∀ {ps:List α} {rows:List β} {r:Nat} {y:β},PU F ps rows→rows[r]?=some y→∃ p,ps[r]?=some p∧F p y
 | _,_,0,_,.cons h _,e=>by cases e; exact ⟨_,rfl,h⟩
 | _,_,r+1,_,.cons _ t,e=>by obtain ⟨p,e1,h⟩:=Paired.Df (r:=r) t (by simpa using e);exact ⟨p,by simpa using e1,h⟩
theorem Bo {B H:Hp} (f:Fr K B Z os ρ σ H) {i:Nat} (e:ρ.getD i .un=.om rows) :
 ∃ a ps,os i=a::ps∧(σ[i]?).join=some (.ref a)∧H a=some (.lst ‹41›)∧ps.length≤NM∧ps.length=rows.length∧PU (fun p ds=>∃ vs,H p=some (.lst vs)∧vs.length≤NM∧IsL K H (bW Z os) vs ds) ps rows:=by
 have s:=f.sl i;rw [e] at s;obtain ⟨a,ps,h1,h2,h3,h4,h5⟩:=s;exact ⟨a,ps,h1,h2,h3,h4,Qd h5,h5⟩
theorem Fr.Ig {B H:Hp} (f:Fr K B Z os ρ σ H) {i:Nat} {a p:NP} (e:ρ.getD i .un=.om rows) (eo:os i=a::ps) (hu:(σ[i]?).join=some (.ref a)) (hr:ps[r]?=some p) (hl:vs'.length≤NM) (h:IsL K H (bW Z os) vs' ds') :
 Fr K B Z (jP os i (a::ps)) (ρ.set i (.om (rows.set r ds'))) σ (upd H p (.lst vs'))∧Kp (bW Z os) H (bW Z (jP os i (a::ps))) (upd H p (.lst vs')):=by
 have s:=f.sl i;rw [e] at s;obtain ⟨b,qs,eo',hu',hH,hlp,i1⟩:=s;rw [eo] at eo';cases eo';have hi:=fR e (by intro z; cases z);have hn:=f.nd i;rw [eo] at hn;have hp:p∈ps:=OF hr;have hpo:p∈os i:=by rw [eo]; exact NI _ hp
 have hap:a≠p:=fun z=>(Of.mp hn).1 (z ▸ hp)
 have tt:bW Z (jP os i (a::ps))=bW Z os:=by
  funext c;apply propext;constructor
  ·rintro (z | ⟨j,z⟩)
   ·exact .inl z
   ·show 5
    ·subst hj; rw [bD] at z; exact .inr ⟨j,by rw [eo]; exact z⟩
    ·rw [cg hj] at z; exact .inr ⟨j,z⟩
  ·rintro (z | ⟨j,z⟩)
   ·exact .inl z
   ·show 5
    ·subst hj; exact .inr ⟨j,by rw [bD,← eo]; exact z⟩
    ·exact .inr ⟨j,by rw [cg hj]; exact z⟩
 have kp:Kp (bW Z os) H (bW Z os) (upd H p (.lst vs')):=fun b u e z=>⟨by rw [aG (fun w=>z (.inr ⟨i,by rw [w]; exact hpo⟩))]; exact e,z⟩
 have st:=f.step (H':=upd H p (.lst vs')) (i:=i) hi (o:=a::ps) (s:=.om (rows.set r ds')) (v:=some (.ref a)) (fun b u e n=>by rw [aG (fun z=>n (by rw [z]; exact hpo))]; exact e) (fun b hb=>?_) hn (fun b hb=>by rw [← eo] at hb; exact .inl hb)
  ⟨a,ps,rfl,rfl,by rw [aG hap]; exact hH,hlp,?_⟩
 ·rw [gW hu'] at st;exact st
 ·by_cases hb':b=p
  ·rw [hb']; exact ⟨_,aN⟩
  ·rw [aG hb']; obtain ⟨xs,e⟩:=(f.sl i).sZ hb; exact ⟨_,e⟩
 ·rw [tt];exact Paired.setAt i1 (Of.mp hn).2 (fun q ds hq ⟨vs,h1,h2,h3⟩=>⟨vs,by rw [aG hq]; exact h1,h2,h3.kp kp⟩) hr ⟨vs',aN,hl,h.kp kp⟩
theorem Fr.JC {B H:Hp} (f:Fr K B Z os ρ σ H) {i:Nat} {a p:NP} (e:ρ.getD i .un=.om rows) (eo:os i=a::ps) (hu:(σ[i]?).join=some (.ref a)) (hr:ps[r]?=some p) (hl:vs'.length≤NM) (h:IsL K H (bW Z os) vs' ds') :
 ∃ os',Fr K B Z os' (ρ.set i (.om (rows.set r ds'))) σ (upd H p (.lst vs'))∧Kp (bW Z os) H (bW Z os') (upd H p (.lst vs')):=⟨_,f.Ig e eo hu hr hl h⟩
theorem vh {B H:Hp} (f:Fr K B Z os ρ σ H) {i:Nat} (e:ρ.getD i .un=.om rows) (hn:ixN rows.length n=some r) (hd:rows[r]?=some ds) :
 ∃ a ps p vs,os i=a::ps∧(σ[i]?).join=some (.ref a)∧H a=some (.lst ‹41›)∧jR ‹41› n=some (V.ref p)∧ps[r]?=some p∧H p=some (.lst vs)∧vs.length≤NM∧IsL K H (bW Z os) vs ds:=by
 obtain ⟨a,ps,h1,h2,h3,h4,h5,h6⟩:=Bo f e;obtain ⟨p,e1,vs,g1,g2,g3⟩:=Paired.Df h6 hd;refine ⟨a,ps,p,vs,h1,h2,h3,?_,e1,g1,g2,g3⟩;unfold jR;rw [NH,h5,hn];show ‹41›[r]?=_;rw [NR,e1];rfl
@[irreducible] noncomputable def tP (i:Nat) (b c a:DE):DS:=fun ρ=>match ρ.getD i .un with
  | .om rows=>(match a ρ with
    | some d=>(match b ρ with
      | some (.int n)=>(match ixN rows.length n with
        | some r=>(match rows[r]? with
          | some ds=>(match c ρ with
            | some (.int m)=>(match ixN ds.length m with
              | some j=>.nx (ρ.set i (.om (rows.set r (ds.set j d))))
              | none=>.no)
            | _=>.no)
          | none=>.no)
        | none=>.no)
      | _=>.no)
    | none=>.no)
  | _=>.no
theorem AR {i:Nat} {tb tc:TE} {a b c:DE} (ha:aq K ta a) (hb:a0 K tb b) (hc:a0 K tc c):c9 fr K (su ta (Hc (nW (F3 K) (lC i) tb) tc xv)) (tP i b c a):=fun {B Z os ρ σ H E} f p=>by
 unfold tP at p;split at p
 ·rename_i rows e;split at p
  ·rename_i d e1;split at p
   ·rename_i n e2;split at p
    ·rename_i r e3;split at p
     ·rename_i ds e4;split at p
      ·rename_i m e5;split at p
       ·rename_i j e6;obtain ⟨x,ps,q,vs,eo,hu,hH,hat,hr,hq,hl,il⟩:=vh f e e3 e4;refine ha f e1 fun v H1 s1 i1=>⟨_,join_some hu,hb (f.grow s1) e2 fun w H2 s2 i2=>?_⟩
        have s12:=s1.trans s2;refine .inl ⟨x,ps.map V.ref,n,.ref q,rfl,i2.isInt,dQ.of (s12 _ _ hH),hat,hc (f.grow s12) e5 fun u H3 s3 i3=>?_⟩;have s13:=s12.trans s3;have f3:=f.grow s13;obtain ⟨os',f',k⟩:=f3.JC (vs':=vs.set j v) (ds':=ds.set j d) e eo hu hr (by rw [Pb]; exact hl) ((il.same s13).set ((i1.same s2).same s3) j);exact ⟨q,vs,m,j,rfl,i3.isInt,s13 _ _ hq,by rw [il.length]; exact e6,p os' _ _ f' ((Kp.same s13).trans k)⟩
       ·show 1
      ·show 1
     ·show 1
    ·show 1
   ·show 1
  ·show 1
 ·show 1
@[irreducible] noncomputable def xo (g:Int→Int→Int) (i:Nat) (b c a:DE):DS:=fun ρ=>match ρ.getD i .un with
  | .om rows => (match b ρ with
    | some (.int n)=>(match ixN rows.length n with
      | some r=>(match rows[r]? with
        | some ds=>(match c ρ with
          | some (.int m)=>(match ixN ds.length m with
            | some j=>(match ds[j]? with
              | some (.int x)=>(match a ρ with
                | some (.int y)=>.nx (ρ.set i (.om (rows.set r (ds.set j (.int (g x y))))))
                | _=>.no)
              | _=>.no)
            | none=>.no)
          | _=>.no)
        | none=>.no)
      | none=>.no)
    | _=>.no)
  | _=>.no
theorem Gu {i:Nat} {g:Int→Int→Int} {tb tc:TE} {a b c:DE} (hb:a0 K tb b) (hc:a0 K tc c) (ha:a0 K ta a):c9 fr K (HR (nW (F3 K) (lC i) tb) tc ta (ED K) (L4 g) xv) (xo g i b c a):=fun {B Z os ρ σ H E} f p=>by
 unfold xo at p;split at p
 ·rename_i rows e;split at p
  ·rename_i n e2;split at p
   ·rename_i r e3;split at p
    ·rename_i ds e4;split at p
     ·rename_i m e5;split at p
      ·rename_i j e6;split at p
       ·rename_i z e7;split at p
        ·rename_i y e8;obtain ⟨x,ps,q,vs,eo,hu,hH,hat,hr,hq,hl,il⟩:=vh f e e3 e4;refine ⟨_,join_some hu,hb f e2 fun w H2 s2 i2=>.inl ⟨x,ps.map V.ref,n,.ref q,rfl,i2.isInt,dQ.of (s2 _ _ hH),hat,hc (f.grow s2) e5 fun u H3 s3 i3=>?_⟩⟩;have s13:=s2.trans s3;obtain ⟨v,ev,iv⟩:=il.get e7;refine ⟨q,vs,m,v,rfl,i3.isInt,dQ.of (s13 _ _ hq),?_,ha (f.grow s13) e8 fun u' H4 s4 i4=>⟨z,y,iv.isInt,i4.isInt,?_⟩⟩
         ·unfold jR; rw [il.length,e6]; exact ev
         ·have s14:=s13.trans s4;have f4:=f.grow s14;obtain ⟨os',f',k⟩:=f4.JC (vs':=vs.set j (.int (g z y))) (ds':=ds.set j (.int (g z y))) e eo hu hr (by rw [Pb]; exact hl) ((il.same s14).set (.int _) j);exact ⟨q,vs,m,j,rfl,i3.isInt,s14 _ _ hq,by rw [il.length]; exact e6,p os' _ _ f' ((Kp.same s14).trans k)⟩
        ·show 1
       ·show 1
      ·show 1
     ·show 1
    ·show 1
   ·show 1
  ·show 1
 ·show 1
end
end
section
open Classical
section
variable [bB] {K:NK} {fr:Fm}
theorem sf {B H1 H:Hp} {W:NP→Prop} (f:Fr K B Z os ρ σ H1) (s:aW H1 H) (hw:∀ a,W a→∃ o,H a=some o) (hk:Kp (bW Z os) H1 W H) (k:Nat) (cs:List Nat) :
    Fr K H1 W (fun _=>[]) (r0 k cs ρ) (s0 k cs σ) H where
  keep:=s
  DI:=hw
  tab:=f.l9
  len:=by unfold r0 s0; simp
  nd:=fun _=>O8
  dj:=fun _ _ _ h=>by cases h
  new:=fun _ _ h=>by cases h
  sl:=fun j=>by
    have kp:Kp (bW Z os) H1 (bW W fun _=>[]) H:=fun a u e z=>⟨(hk a u e z).1,fun q=>q.elim (hk a u e z).2 fun ⟨_,q⟩=>by cases q⟩
    unfold r0 s0;rw [NF];by_cases hj:j<k
    · rw [OM (by simpa using hj),OM (by simpa using hj),Pg,if_pos hj];exact rfl
    · rw [Ox (by simpa using hj),Ox (by simpa using hj),OQ,OQ,NR,NR];cases e:cs[j-k]? with
      | none=>exact rfl
      | some i =>
        have h:=f.sl i;show tu K _ _ _ _ (view (ρ.getD i .un)) ((σ[i]?).join);cases e2:ρ.getD i .un with
        | un=>exact rfl
        | pu d =>rw [e2] at h;obtain ⟨_,u,hu,i1⟩:=h;exact ⟨rfl,u,hu,i1.kp kp⟩
        | bo d =>rw [e2] at h;obtain ⟨_,u,hu,i1⟩:=h;exact ⟨rfl,u,hu,i1.same f.keep⟩
        | ol ds =>rw [e2] at h;obtain ⟨a,vs,_,hu,hH,hl,i1⟩:=h;exact ⟨rfl,_,hu,.lst (fun z=>z) (.inl hH) hl i1.all⟩
        | om rows =>rw [e2] at h;obtain ⟨a,ps,_,hu,hH,hl,i1⟩:=h;exact ⟨rfl,_,hu,.lst (fun z=>z) (.inl hH) (by rw [NH]; exact hl) (gE i1)⟩
        | od kvs =>rw [e2] at h;obtain ⟨a,_,hu,hH,hl⟩:=h;exact ⟨rfl,_,hu,.dct (fun z=>z) (.inl hH) hl⟩
        | pm a ps rows =>rw [e2] at h;obtain ⟨_,hu,hH,hl,i1⟩:=h;exact ⟨rfl,_,hu,.lst (fun z=>z) (.inl hH) (by rw [NH]; exact hl) (gE i1)⟩
        | pd a kvs =>rw [e2] at h;obtain ⟨_,hu,hH,hl⟩:=h;exact ⟨rfl,_,hu,.dct (fun z=>z) (.inl hH) hl⟩
noncomputable def jy (g:DG) (t:aK→Option Bool) (e:aK→Option (List D)) (ρ0:aK):List D→Option (List (List D))
 | []=>some []
 | d::ds=>match g d ρ0 with
  | none=>none
  | some ρ1=>match t ρ1 with
   | none=>none
   | some false=>jy g t e ρ0 ds
   | some true=>match e ρ1 with
    | none=>none
    | some y=>match jy g t e ρ0 ds with
     | none=>none
     | some ys=>some (y::ys)
def kA (k:Nat) (cs:List Nat) (it:aK→Option (List D)) (g:DG) (t:aK→Option Bool) (e:aK→Option (List D)):aK→Option (List (List D)):=fun ρ=>match it ρ with
 | some ds=>jy g t e (r0 k cs ρ) ds
 | none=>none
theorem uW {m:Bool} {k:Nat} {wi:TI} {g:TG} {tt:TT} {te:TE} {gd:DG} {td:aK→Option Bool} {ed:aK→Option (List D)} (hw:BU K m wi it) (hg:wk K m g gd) (ht:kE K tt td) (he:bF K te ed) :
 HB K (ph wi g tt te (s0 k cs)) (kA k cs it gd td ed):=fun {B Z os ρ σ H Q ds} f q kk=>by
 unfold kA at q;split at q
 ·show 2
  let ZZ:List NP→NP→Prop:=fun ps a=>(a=Dl∨a∈ps)∨bW Z os a
  refine ⟨fun i m ys H2=>m=xs.length-i∧i≤xs.length∧aW H1 H2∧H2 Dl=some (.lst ys)∧ys.length≤i∧∃ ps done rest,ys=ps.map V.ref∧(∀ a∈ps,H1 a=none)∧(Dl::ps).Nodup∧PU (fun q ds=>∃ vs,H2 q=some (.lst vs)∧vs.length≤NM∧IsL K H2 (ZZ ps) vs ds) ps done∧jy gd td ed (r0 k cs ρ) (xs.drop i)=some rest∧done++rest=ds,
   ⟨_,rfl,O1 _,sD (aW.refl _),aN,N9 _,[],[],ds,rfl,(fun a h=>by cases h),(by simp),.nil,q,rfl⟩,?_⟩
  rintro i mm ys H2 ⟨rfl,hi,s2,eD,hly,ps,done,rest,rfl,hps,hnd,il,q2,ed2⟩
  have zin2:∀ a,ZZ ps a→∃ o,H2 a=some o:=by
   rintro a ((rfl | z) | z)
   ·exact ⟨_,eD⟩
   ·obtain ⟨_,vs,h,_⟩:=Paired.any il z;exact ⟨_,h⟩
   ·obtain ⟨u,e⟩:=f1.B9 a z;exact ⟨u,s2 _ _ e⟩
  have kp12:Kp (bW Z os) H1 (ZZ ps) H2:=fun a u e z=>⟨s2 _ _ e,fun w=>by
   rcases w with (rfl | w) | w
   ·rw [hD] at e; cases e
   ·rw [hps a w] at e; cases e
   ·exact z w⟩
  by_cases hlt:i<xs.length
  ·have ex:xs[i]?=some xs[i]:=NG hlt;obtain ⟨go,yl⟩:=W.go i xs[i] H2 _ kp12 s2 zin2 ex;refine .inr ⟨go,fun x H3 hy=>?_⟩;obtain ⟨s3,er⟩:=yl x H3 hy;have eD3:=s3 _ _ eD;have s13:=s2.trans s3;have kp13:Kp (bW Z os) H1 (ZZ ps) H3:=kp12.trans (Kp.same s3);have ef3:=sf f1 s13 (fun a z=>let ⟨o,e⟩:=zin2 a z; ⟨o,s3 _ _ e⟩) kp13 k cs;rw [OB hlt] at q2;unfold jy at q2
   have er':ER K m H1 H3 (bW (ZZ ps) fun _=>[]) x xs[i]:=by
    cases m with
    | false=>exact er
    | true=>exact Is.kp (Kp.less fun a z=>z.elim id fun ⟨_,w⟩=>by cases w) er
   have il3:∀ {H':Hp},aW H2 H'→PU (fun q ds=>∃ vs,H' q=some (.lst vs)∧vs.length≤NM∧IsL K H' (ZZ ps) vs ds) ps done:=fun {H'} s=>Paired.mono il fun q ds _ ⟨vs,h1,h2,h3⟩=>⟨vs,s _ _ h1,h2,h3.same s⟩
   split at q2
   ·cases q2
   ·rename_i ρ1 e1;refine hg ef3 er' e1 fun os1 σ1 fr1 k1=>?_;split at q2
    ·cases q2
    ·rename_i e2;refine ht fr1 e2 fun H4 s4=>pU ⟨_,by lia,rfl,hlt,s13.trans s4,s4 _ _ eD3,by lia,ps,done,rest,rfl,hps,hnd,il3 (s3.trans s4),q2,ed2⟩
    ·rename_i e2;refine ht fr1 e2 fun H4 s4=>vN ?_;split at q2
     ·cases q2
     ·rename_i y e3;split at q2
      ·cases q2
      ·rename_i rs e4;cases q2;refine he (fr1.grow s4) e3 fun x2 vs2 H5 s5 hx2 hH5 hl5 i5=>?_;have s35:=s4.trans s5;have s25:=s3.trans s35;have eD5:=s35 _ _ eD3;have hl:=W.len;have hx3:H3 x2=none:=aW.free s4 hx2;have hxD:x2≠Dl:=fun z=>by rw [z,eD3] at hx3; cases hx3
       have hxps:x2∉ps:=fun z=>by obtain ⟨o,e⟩:=zin2 x2 (.inl (.inr z));rw [s3 _ _ e] at hx3; cases hx3
       have hxt:¬ bW Z os x2:=fun z=>by obtain ⟨o,e⟩:=zin2 x2 (.inr z);rw [s3 _ _ e] at hx3; cases hx3
       have sub:∀ a,ZZ (ps++[x2]) a→a=x2∨ZZ ps a:=by
        rintro a ((rfl | z) | z)
        ·exact .inr (.inl (.inl rfl))
        ·rcases NZ.mp z with z | z
         ·exact .inr (.inl (.inr z))
         ·exact .inl (NL.mp z)
        ·exact .inr (.inr z)
       have sup:∀ a,a=x2∨ZZ ps a→ZZ (ps++[x2]) a:=by
        rintro a (rfl | (rfl | z) | z)
        ·exact .inl (.inr (by simp))
        ·exact .inl (.inl rfl)
        ·exact .inl (.inr (Ol _ z))
        ·exact .inr z
       have kp5:∀ (zs:List V),Kp (ZZ ps) H2 (ZZ (ps++[x2])) (upd H5 Dl (.lst zs)):=fun zs a u e z=>⟨by rw [aG (fun w=>z (.inl (.inl w)))]; exact s25 _ _ e,fun w=>by
        rcases sub a w with rfl | w
        ·rw [s3 _ _ e] at hx3; cases hx3
        ·exact z w⟩
       have kp6:∀ (zs:List V),Kp (ZZ (ps++[x2])) H5 (ZZ (ps++[x2])) (upd H5 Dl (.lst zs)):=fun zs a u e z=>⟨by rw [aG (fun w=>z (.inl (.inl w)))]; exact e,z⟩
       refine ⟨eD5,by rw [NH] at hly ⊢; lia,_,by lia,rfl,hlt,sD (s13.trans s35),aN,by rw [N7,Pl]; lia,ps++[x2],done++[y],rs,by rw [Od]; rfl,fun a ha=>?_,?_,?_,e4,by rw [OG]; exact ed2⟩
       ·rcases NZ.mp ha with ha | ha
        ·exact hps a ha
        ·rw [NL.mp ha]; exact aW.free s13 hx3
       ·rw [← Q0,Rj];refine ⟨hnd,by simp,fun a h1 b h2=>?_⟩;rw [NL.mp h2];rintro rfl;rcases NU.mp h1 with z | z
        ·exact hxD z
        ·exact hxps z
       ·refine Paired.append (Paired.mono il fun q ds hq ⟨vs,h1,h2,h3⟩=>⟨vs,?_,h2,h3.kp (kp5 _)⟩) (.cons ⟨vs2,?_,hl5,?_⟩ .nil)
        ·rw [aG (fun z=>by rw [z] at hq; exact (Of.mp hnd).1 hq)]; exact s25 _ _ h1
        ·rw [aG hxD]; exact hH5
        ·exact (i5.kp (Kp.less fun a z=>by
          rcases sub a z with z | z
          ·exact .inl z
          ·exact .inr (.inl z)):IsL K H5 (ZZ (ps++[x2])) vs2 y).kp (kp6 _)
  ·have e:i=xs.length:=by lia
   subst e;rw [Si] at q2;cases q2;rw [OT] at ed2;subst ed2;have hl:=W.len;rw [NH] at hly;exact .inl ⟨W.stop _ H2 _ kp12 s2 rfl,eD,kk Dl ps H2 ‹47› (aW.free s1 hD) (fun a ha=>aW.free s1 (hps a ha)) hnd eD (by lia) il⟩
 ·cases q
@[irreducible] noncomputable def tQ (i:Nat) (b a:DE):DS:=fun ρ=>match ρ.getD i .un with
 | .om rows=>(match b ρ with
  | some (.int n)=>(match ixN rows.length n with
   | some r=>(match rows[r]? with
    | some ds=>(match a ρ with
     | some d=>if ds.length<NM then .nx (ρ.set i (.om (rows.set r (ds++[d])))) else .no
     | none=>.no)
    | none=>.no)
   | none=>.no)
  | _=>.no)
 | _=>.no
theorem AS {i:Nat} {tb:TE} {a b:DE} (hb:a0 K tb b) (ha:aq K ta a):c9 fr K (wQ (La K "list" qg (nW (F3 K) (lC i) tb) (cx ta ft))) (tQ i b a):=fun {B Z os ρ σ H E} f p=>by
 unfold tQ at p;split at p
 ·rename_i rows e;split at p
  ·rename_i n e2;split at p
   ·rename_i r e3;split at p
    ·rename_i ds e4;split at p
     ·rename_i d e5;by_cases hz:ds.length<NM
      ·rw [if_pos hz] at p;obtain ⟨x,ps,q,vs,eo,hu,hH,hat,hr,hq,hl,il⟩:=vh f e e3 e4;refine ⟨_,join_some hu,hb f e2 fun w H2 s2 i2=>.inl ⟨x,ps.map V.ref,n,.ref q,rfl,i2.isInt,dQ.of (s2 _ _ hH),hat,.inl ⟨rfl,_,dQ.of (s2 _ _ hq)⟩,ha (f.grow s2) e5 fun v H3 s3 i3=>?_⟩⟩;have s13:=s2.trans s3;have f3:=f.grow s13;have hlen:vs.length<NM:=by rw [il.length]; exact hz
       obtain ⟨os',f',k⟩:=f3.JC (vs':=vs++[v]) (ds':=ds++[d]) e eo hu hr (by rw [N7,Pl]; lia) ((il.same s13).append (.one i3));exact ⟨q,vs,v,rfl,rfl,s13 _ _ hq,hlen,p os' _ _ f' ((Kp.same s13).trans k)⟩
      ·rw [if_neg hz] at p; exact p.elim
     ·show 1
    ·show 1
   ·show 1
  ·show 1
 ·show 1
section
variable {s u b:DS} {ρ:aK} {W:Wk} {i:Nat} {a e k c:DE} {d:D} {rows:List (List D)} {ds:List D}
theorem kL {es:aK→Option (List (List D))} (h:es ρ=some rows) (hi:i < ρ.length) (k:W.nx (ρ.set i (.om rows))):Wp (j6 i es) ρ W:=by unfold Wp j6; rw [h]; simp only [if_pos hi]; exact k
theorem DJ (h:ρ.getD i .un=.om rows) (k:W.rt (fV rows)):Wp (qY i) ρ W:=by unfold Wp qY; rw [h]; exact k
theorem Ay {m:Int} {j:Nat} (h0:ρ.getD i .un=.om rows) (h1:a ρ=some d) (h2:e ρ=some (.int n)) (h3:ixN rows.length n=some r) (h4:rows[r]?=some ds) (h5:c ρ=some (.int m)) (h6:ixN ds.length m=some j) (k:W.nx (ρ.set i (.om (rows.set r (ds.set j d))))):Wp (tP i e c a) ρ W:=by unfold Wp tP; rw [h0]; simp only [h1,h2,h3,h4,h5,h6]; exact k
theorem Gb {g:Int→Int→Int} {m x y:Int} {j:Nat} (h0:ρ.getD i .un=.om rows) (h2:e ρ=some (.int n)) (h3:ixN rows.length n=some r) (h4:rows[r]?=some ds) (h5:c ρ=some (.int m)) (h6:ixN ds.length m=some j) (h7:ds[j]?=some (.int x)) (h1:a ρ=some (.int y)) (k:W.nx (ρ.set i (.om (rows.set r (ds.set j (.int (g x y))))))):Wp (xo g i e c a) ρ W:=by unfold Wp xo; rw [h0]; simp only [h1,h2,h3,h4,h5,h6,h7]; exact k
theorem Az (h0:ρ.getD i .un=.om rows) (h2:e ρ=some (.int n)) (h3:ixN rows.length n=some r) (h4:rows[r]?=some ds) (h1:a ρ=some d) (h5:ds.length<NM) (k:W.nx (ρ.set i (.om (rows.set r (ds++[d]))))):Wp (tQ i e a) ρ W:=by unfold Wp tQ; rw [h0]; simp only [h1,h2,h3,h4,if_pos h5]; exact k
theorem Fz {k:Nat} {g:DG} {t:aK→Option Bool} (emb:α→D) {xs:List α} (h:it ρ=some (xs.map emb)) (p:α→Bool) (f:α→List D)
 (hs:∀ x∈xs,∃ ρ1,g (emb x) (r0 k cs ρ)=some ρ1∧t ρ1=some (p x)∧(p x=true→el ρ1=some (f x))):kA k cs it g t el ρ=some ((xs.filter p).map f):=by
 unfold kA;rw [h];show jy g t el (r0 k cs ρ) (xs.map emb)=_;clear h;induction xs with
 | nil=>rfl
 | cons x r ih =>
  obtain ⟨ρ1,e1,e2,e3⟩:=hs x NJ;rw [Oq];unfold jy;rw [e1];dsimp only;rw [e2];have q:=ih fun y hy=>hs y (NI _ hy);cases hp:p x with
  | false=>rw [QZ (by rw [hp]; exact N8)]; exact q
  | true =>rw [Qr hp,Oq];dsimp only;rw [e3 hp];dsimp only;rw [q]
theorem oW {k:Nat} {g:DG} (emb:α→D) {xs:List α} (h:it ρ=some (xs.map emb)) (f:α→List D)
 (hs:∀ x∈xs,∃ ρ1,g (emb x) (r0 k cs ρ)=some ρ1∧el ρ1=some (f x)):kA k cs it g bM el ρ=some (xs.map f):=by
 have:=Fz (k:=k) (cs:=cs) (g:=g) (t:=bM) (el:=el) emb h (fun _=>true) f fun x hx=>let ⟨ρ1,e1,e2⟩:=hs x hx; ⟨ρ1,e1,rfl,fun _=>e2⟩
 rw [this,Ry.mpr fun _ _=>rfl]
end
theorem A7 {F:List D→Option D} {n:Nat} {ms:List Bool} {b:DS} (hF:F=sO n ms b) {d:D} (h:Wp b (gO n ms ds) { nx:=fun _=>False,rt:=fun x=>x=d }):F ds=some d:=by
 rw [hF];unfold sO;unfold Wp at h;cases e:b (gO n ms ds) with
 | rt x=>rw [e] at h; show some x=some d; rw [show x=d from h]
 | nx ρ=>rw [e] at h; exact h.elim
 | bk ρ=>rw [e] at h; exact h.elim
 | ct ρ=>rw [e] at h; exact h.elim
 | no=>rw [e] at h; exact h.elim
end
end
section
open Classical
section
variable [bB] {K:NK} {fr:Fm}
inductive Puts (K:NK):List (TE×TE)→List (DE×DE)→Prop
 | nil:Puts K [] []
 | cons {tc ta:TE} {c a:DE} {l:List (TE×TE)} {l':List (DE×DE)} (ha:aq K ta a) (hc:a0 K tc c) (r:Puts K l l'):Puts K ((tc,ta)::l) ((c,a)::l')
end
end
end VL
namespace L2
open PySem PySem.Spec PyProof.Rows
structure NC (fr ch:List NP) (h h':PM):Prop where
 keep:∀ b o,b∉fr→b∉ch→h.get? b=some o→h'.get? b=some o
 slot:∀ b o,b∉ch→h.get? b=some o→∃ sl,h'.get? b=some { o with slots:=sl }
structure Out (X:Cx) (pins:List (NP×Qz)) (H:Hp) (b:NP):Prop where
 h:H b=none
 s0:X.s₀.heap.get? b=none
 loc:b≠‹29›
 cell:∀ x c,X.env.cells.lookup x=some c→c≠b
 pin:∀ p∈X.pn++pins,p.1≠b
section
variable {P:O4} {w:Pf} {H:Hp} {h:PM} {a:NP} {o:HO}
theorem cn.live (x:cn P w H h a o):∃ u,h.get? a=some u:=by
 cases o with
 | lst xs=>obtain ⟨_,_,_,_,e⟩:=x; exact ⟨_,e⟩
 | tup xs=>obtain ⟨_,_,_,ob,e,_⟩:=x; exact ⟨_,e⟩
 | dK kvs=>obtain ⟨_,_,_,_,o,_,_,e,_⟩:=x; exact ⟨_,e⟩
 | dT kvs=>obtain ⟨_,_,_,_,o,_,_,e,_⟩:=x; exact ⟨_,e⟩
 | set S n=>obtain ⟨o,_,_,_,e,_⟩:=x; exact ⟨_,e⟩
 | ins C dx fs=>obtain ⟨_,_,_,e,_⟩:=x; exact ⟨_,e⟩
 | own y=>exact x
 | xd fs=>obtain ⟨_,⟨_,_,_,e,_⟩,_⟩:=x; exact ⟨_,e⟩
 | Ey lo hi=>obtain ⟨_,_,_,e⟩:=x; exact ⟨_,e⟩
 | kZ ob u=>obtain ⟨e,_⟩:=x; exact ⟨_,e⟩
 | tbl ps=>obtain ⟨_,_,_,_,e,_⟩:=x; exact ⟨_,e⟩
 | met f y=>exact ⟨_,show h.get? a=some _ from x⟩
 | ext φ=>obtain ⟨_,e,_⟩:=x; exact e
end
structure Nr (X:Cx):Prop where
 HV:X.stack=X.env::X.outer
 fr:X.env.frame=some ‹29›
 ex:X.ex=[]
section
variable {X:Cx} {pins:List (NP×Qz)} {σ:St} {H:Hp} {s:NS} {a:NP} {u:HO}
theorem Inv.K3 (I:Inv X pins σ H s) (o:Out X pins H a) (ob:cn X.prog X.w (upd H a u) s.heap a u):Inv X pins σ (upd H a u) s:=by
 have ne:∀ b v,H b=some v→b≠a:=fun b v q z=>by rw [z,o.h] at q; cases q
 refine ⟨I.ok,I.os,I.bare,⟨I.base.keep,I.base.slot,fun b v q n hx=>?_,I.base.there,fun b xs q=>?_,fun b v xs q=>?_,fun b ps q=>?_⟩,I.loc,I.cell,?_,fun x c e=>?_,fun p hp=>?_,fun b v q=>?_,I.len⟩
 ·rw [aG (fun z=>by rw [z,o.s0] at q; cases q)]; exact I.base.free b v q n hx
 ·have r:=I.base.uK b xs q; rw [aG (ne b _ r)]; exact r
 ·have r:=I.base.sX b v xs q; rw [aG (ne b _ r)]; exact r
 ·obtain ⟨m,r⟩:=I.base.sq b ps q; exact ⟨m,by rw [aG (ne b _ r)]; exact r⟩
 ·rw [aG (P9 o.loc)]; exact I.free
 ·rw [aG (o.cell x c e)]; exact I.iU x c e
 ·obtain ⟨e,n,r⟩:=I.pin p hp;exact ⟨e,by rw [aG (o.pin p hp)]; exact n,r⟩
 ·by_cases hb:b=a
  ·subst hb; rw [aN] at q; cases q; exact ob
  ·rw [aG hb] at q;exact (I.cG b v q).sv (fun c y _ r=>r) (fun c r=>by rw [aG (ne c _ r)]; exact r) (fun c xs r=>by rw [aG (ne c _ r)]; exact r) fun c o u r=>by rw [aG (ne c _ r)]; exact r
end
structure Nw (K:NK) (C:NP):Prop where
 ga:Qf K (.ref C) "__getattribute__" = some (some (.builtin "BaseException.__getattribute__"))
 gk:Qf K (.ref C) "__getattr__" = some none
 hd:VD K C=true
 ca:Qf K (.ref C) "__class__" = some (some ‹37›)
 sp:RW K ‹37› "__get__" = some (some (.builtin "getset_descriptor.__get__"))
 tk:Uy K ‹37›=some true
 mro:TB K C (.type "object")=some true
 Nz:TB K C (.type "BaseException")=some true
inductive sj (X:Cx):List Pt→List TE→Prop
 | nil:sj X [] []
 | text {x:OX} {j p es ts} (hx:x.length≤1000) (h:sj X es ts):sj X (.Constant (.str x) j p::es) ts
 | val {e:Pt} {p es ts} {t:TE} (he:PE X e t) (h:sj X es ts):sj X (.FormattedValue e (-1) none p::es) (t::ts)
end L2
namespace VL
variable {a:aK→Option (List D)}
open PySem L2
section
open Classical
section
variable [bB] {K:NK}
variable {E:XK} {C:NP}
inductive KA (K:NK):List TE→List DE→Prop
 | nil:KA K [] []
 | cons {t ts a as} (h:a0 K t a) (r:KA K ts as):KA K (t::ts) (a::as)
theorem bO {H:Hp} {a:NP} {o:HO} (h:H a=none):aW H (upd H a o):=fun b u e=>by rw [aG (bA e h)]; exact e
variable {iv ie:Nat}
end
end
section
open Classical
section
variable [bB] {K:NK} {fr:Fm}
def BN:aK→Option (List (List D)):=fun _=>some []
theorem zg:HB K (IS ft) BN:=fun {B Z os ρ σ H Q rows} f q k=>by cases q;exact ⟨O1 _,fun p hp=>k p [] _ (bO hp) hp (fun _ z=>nomatch z) (Of.mpr ⟨(fun z=>by cases z),O8⟩) aN (O1 _) .nil⟩
@[irreducible] def pz (i:Nat) (a:aK→Option (List D)):DS:=fun ρ=>match ρ.getD i .un with
 | .om rows=>(match a ρ with
  | some ds=>if rows.length<NM then .nx (ρ.set i (.om (rows++[ds]))) else .no
  | none=>.no)
 | _=>.no
theorem qb {i:Nat} {ta:TE} (ha:bF K ta a):c9 fr K (wQ (La K "list" qg (lC i) (cx ta ft))) (pz i a):=fun {B Z os ρ σ H E} f p=>by
 unfold pz at p;split at p;case h_2=>exact p.elim
 case h_1 rows e =>
  split at p;case h_2=>exact p.elim
  case h_1 ds e1 =>
   by_cases hz:rows.length<NM
   ·rw [if_pos hz] at p;obtain ⟨o,ps,eo,hu,hH,hl,hln,pr⟩:=Bo f e;refine ⟨_,join_some hu,.inl ⟨rfl,_,dQ.of hH⟩,ha f e1 fun x vs H1 s1 hx hx1 hlv iv=>?_⟩;have hi:=fR e (by intro z; cases z);have hn:=f.nd i;rw [eo] at hn;have hxo:x∉o::ps:=fun z=>by obtain ⟨xs,q⟩:=(f.sl i).sZ (by rw [eo]; exact z);rw [hx] at q; cases q
    have hxo1:o≠x:=fun z=>hxo (by rw [z]; exact NJ);have hoi:o∈os i:=by rw [eo]; exact NJ
    have sub:∀ c,bW Z (jP os i (o::(ps++[x]))) c→c=x∨bW Z os c:=by
     rintro c (z | ⟨j,z⟩)
     ·exact .inr (.inl z)
     ·show 5
      ·subst hj;rw [bD] at z;rcases NU.mp z with z | z
       ·exact .inr (.inr ⟨j,by rw [z]; exact hoi⟩)
       ·rcases NZ.mp z with z | z
        ·exact .inr (.inr ⟨j,by rw [eo]; exact NI _ z⟩)
        ·exact .inl (NL.mp z)
      ·rw [cg hj] at z; exact .inr (.inr ⟨j,z⟩)
    have kp:Kp (bW Z os) H (bW Z (jP os i (o::(ps++[x])))) (upd H1 o (.lst ((ps++[x]).map V.ref))):=fun c u q z=>by
     refine ⟨by rw [aG (fun w=>z (.inr ⟨i,by rw [w]; exact hoi⟩))]; exact s1 _ _ q,fun w=>?_⟩;rcases sub c w with rfl | w
     ·rw [hx] at q; cases q
     ·exact z w
    have kpx:Kp (fun c=>c=x∨bW Z os c) H1 (bW Z (jP os i (o::(ps++[x])))) (upd H1 o (.lst ((ps++[x]).map V.ref))):=fun c u q z=>by refine ⟨by rw [aG (fun w=>z (.inr (.inr ⟨i,by rw [w]; exact hoi⟩)))]; exact q,fun w=>z (sub c w)⟩
    have hpo:∀ q∈ps,o≠q:=fun q hq z=>(Of.mp hn).1 (by rw [z]; exact hq)
    have st:=f.step (H':=upd H1 o (.lst ((ps++[x]).map V.ref))) (i:=i) hi (o:=o::(ps++[x])) (s:=.om (rows++[ds])) (v:=some (.ref o)) (fun c u q nn=>by rw [aG (fun z=>nn (by rw [z]; exact hoi))]; exact s1 _ _ q) (fun c hc=>?_)
     (Of.mpr ⟨fun z=>?_,?_⟩) (fun c hc=>?_)
     ⟨o,ps++[x],rfl,rfl,aN,by rw [N7,Pl]; lia,Paired.append (Paired.mono pr fun q ds' hq ⟨us,h1,h2,h3⟩=>⟨us,by rw [aG (P9 (hpo q hq))]; exact s1 _ _ h1,h2,h3.kp kp⟩) (.cons ⟨vs,by rw [aG (P9 hxo1)]; exact hx1,hlv,iv.kp kpx⟩ .nil)⟩
    ·rw [gW hu] at st;refine ⟨o,ps.map V.ref,.ref x,rfl,rfl,s1 _ _ hH,by rw [NH,hln]; exact hz,?_⟩;have em:ps.map V.ref++[V.ref x]=(ps++[x]).map V.ref:=by rw [Od]; rfl
     rw [em];exact p _ _ _ st.1 st.2
    ·by_cases hc':c=o
     ·rw [hc']; exact ⟨_,aN⟩
     ·obtain ⟨xs,q⟩:=(f.sl i).sZ hc;exact ⟨_,by rw [aG hc']; exact s1 _ _ q⟩
    ·rcases NZ.mp z with z | z
     ·exact (Of.mp hn).1 z
     ·exact hxo1 (NL.mp z)
    ·exact Rj.mpr ⟨(Of.mp hn).2,Of.mpr ⟨(fun z=>by cases z),O8⟩,fun a ha b hb z=>by rw [NL.mp hb] at z;exact hxo (NI _ (by rw [← z]; exact ha))⟩
    ·rcases NU.mp hc with z | z
     ·exact .inl (by rw [z]; exact hoi)
     ·rcases NZ.mp z with z | z
      ·exact .inl (by rw [eo]; exact NI _ z)
      ·exact .inr (by rw [NL.mp z]; exact hx)
   ·rw [if_neg hz] at p; exact p.elim
theorem kM {i:Nat} {ρ:aK} {rows:List (List D)} {ds:List D} {W:Wk} (h0:ρ.getD i .un=.om rows) (h:a ρ=some ds) (hl:rows.length<NM) (k:W.nx (ρ.set i (.om (rows++[ds])))):Wp (pz i a) ρ W:=by unfold Wp pz; rw [h0]; simp only [h,if_pos hl]; exact k
end
end
end VL
namespace uB
open PySem PySem.W PyProof.Rows
section
variable {lt:Nat→Nat→Bool} {N:Nat}
structure Ord (lt:Nat→Nat→Bool):Prop where
 tr:∀ a b c,lt b a=false→lt c b=false→lt c a=false
 as:∀ a b,lt a b=true→lt b a=false
abbrev g (p:Array Nat) (i:Nat):Nat:=p.getD i 0
def Up (lt:Nat→Nat→Bool) (p:Array Nat) (k:Nat):Prop:=∀ i j,i≤j→j<k→lt (g p j) (g p i)=false
def Dn (lt:Nat→Nat→Bool) (p:Array Nat) (k:Nat):Prop:=∀ i j,i≤j→j<k→lt (g p i) (g p j)=false
end
end uB
namespace L2
open PySem PySem.Spec PyProof.Rows
def lexLt:List Int→List Int→Bool
 | [],[]=>false
 | [],_::_=>true
 | _::_,[]=>false
 | x::xs,y::ys=>if x=y then lexLt xs ys else decide (x<y)
theorem rF:∀ a b:List Int,lexLt a b=true→lexLt b a=false
 | [],[],h=>by cases h
 | [],_::_,_=>rfl
 | _::_,[],h=>by cases h
 | x::xs,y::ys,h=>by
  unfold lexLt at h ⊢;by_cases c:x=y
  ·subst c; rw [if_pos rfl] at h ⊢; exact rF xs ys h
  ·rw [if_neg c] at h;rw [if_neg (P9 c)];have:=of_decide_eq_true h;exact decide_eq_false (by lia)
theorem rE:∀ a b c:List Int,lexLt b a=false→lexLt c b=false→lexLt c a=false
 | [],[],[],_,_=>rfl
 | [],[],_::_,_,_=>rfl
 | [],_::_,[],_,h=>by cases h
 | [],_::_,_::_,_,_=>rfl
 | _::_,[],_,h,_=>by cases h
 | _::_,_::_,[],_,h=>by cases h
 | x::xs,y::ys,z::zs,h1,h2=>by
  unfold lexLt at h1 h2 ⊢;by_cases c1:y=x
  ·subst c1;rw [if_pos rfl] at h1;by_cases c2:z=y
   ·subst c2; rw [if_pos rfl] at h2 ⊢; exact rE xs ys zs h1 h2
   ·rw [if_neg c2] at h2 ⊢; exact h2
  ·rw [if_neg c1] at h1;have k1:=of_decide_eq_false h1;by_cases c2:z=y
   ·subst c2;rw [if_neg c1];exact h1
   ·rw [if_neg c2] at h2;have k2:=of_decide_eq_false h2;rw [if_neg (by lia)];exact decide_eq_false (by lia)
theorem Bt (f:Nat→List Int):uB.Ord fun i j=>lexLt (f i) (f j):=⟨fun a b c h1 h2=>rE _ _ _ h1 h2,fun a b h=>rF _ _ h⟩
theorem vL:∀ a b:List Int,lexLt a b=false→lexLt b a=false→a=b
 | [],[],_,_=>rfl
 | [],_::_,h,_=>by cases h
 | _::_,[],_,h=>by cases h
 | x::xs,y::ys,h1,h2=>by
  unfold lexLt at h1 h2;by_cases c:x=y
  ·subst c; rw [if_pos rfl] at h1 h2; rw [vL xs ys h1 h2]
  ·rw [if_neg c] at h1;rw [if_neg (P9 c)] at h2;have:=of_decide_eq_false h1;have:=of_decide_eq_false h2;lia
def Hy (H:Hp) (ps:List NP) (zs:List (List Int)):Prop:=PU (fun p z=>z≠[]∧H p=some (.tup (z.map V.int))) ps zs
theorem yb {prog:O4} {w:Pf} {A:O3} {Q:Bool→NS→Prop} {s:NS}:∀ {x y:List Int} {us vs:List NN} (i:Nat),RI us x→RI vs y→Q (lexLt x y) s→PySem.W.KatLex prog w A true (decide (x.length<y.length)) Q (us.zip vs) i s
 | [],[],_,_,_,.nil,.nil,h=>UE h
 | [],_::_,_,_,_,.nil,.cons _ _ _,h=>UE h
 | _::_,[],_,_,_,.cons _ _ _,.nil,h=>UE h
 | x::xs,y::ys,_,_,i,.cons _ t r1,.cons _ u r2,h=>by
  refine PySem.W.kat_cons (wpAny_eqBool_int ?_);unfold lexLt at h;have el:decide ((x::xs).length<(y::ys).length)=decide (xs.length<ys.length):=by rw [Oy,Oy]; congr 1; apply propext; lia
  by_cases c:x=y
  ·subst c;rw [if_pos rfl] at h;rw [beq_self_eq_true,el];exact PySem.W.kat_yes (yb (i+1) r1 r2 h)
  ·rw [if_neg c] at h;have e:(x==y)=false:=by simp [c]
   rw [e];refine PySem.W.kat_no ?_;cases i with
   | zero=>exact oneLt_int h
   | succ i=>exact PySem.W.kat_one _ _ (Vh h)
variable {X:Cx}
theorem B6 {pins:List (NP×Qz)} {σ:St} {H:Hp} {s:NS} (I:Inv X pins σ H s) {p:NP} {z:List Int} (h:H p=some (.tup (z.map V.int))):∃ (o:Qz) (us:List NN) (n:Nat),s.heap.get? p=some o∧o.cls=.type "tuple" ∧ o.data=.seq us.toArray n∧RI us z:=by
 obtain ⟨_,its,rv,o,h1,h2,n,h3⟩:=(show cn X.prog X.w H s.heap p (.tup (z.map V.int)) from I.cG p _ h)
 exact ⟨o,its,n,h1,h2,h3,intsAre_of rv⟩
theorem Bc {ps:List NP}:∀ {us:List NN},Vals ‹41› us→us=ps.map O2:=by
 induction ps with
 | nil=>intro us r; cases r; rfl
 | cons p ps ih=>intro us r; cases r with | cons h r=>cases (show _=O2 p from h); rw [ih r]; rfl
theorem tF:∀ ps:List NP,Vals ‹41› (ps.map O2)
 | []=>.nil
 | _::ps=>.cons rfl (tF ps)
theorem x8 {h:PM}:∀ {ps:List NP},(∀ p∈ps,∃ (o:Qz) (us:List NN) (n:Nat) (x:Int) (t:WO) (r:List NN),h.get? p=some o∧o.cls=.type "tuple" ∧ o.data=.seq us.toArray n∧us=.int x t::r)→∃ fs,PySem.W.KatTups h (ps.map O2) fs∧fs.length=ps.length∧∀ f∈fs,∃ (x:Int) (t:WO),f=.int x t
 | [],_=>⟨[],.nil,rfl,fun _ z=>nomatch z⟩
 | p::ps,hp=>by
  obtain ⟨fs,k,hl,hf⟩:=x8 (ps:=ps) fun q hq=>hp q (NI _ hq);obtain ⟨o,us,n,x,t,r,h1,h2,h3,rfl⟩:=hp p NJ;refine ⟨.int x t::fs,.cons h1 h2 h3 (by simp) k,by simp [hl],fun f hm=>?_⟩;rcases NU.mp hm with rfl | hm
  ·exact ⟨x,t,rfl⟩
  ·exact hf f hm
section
open PySem.W
variable {prog:O4} {w:Pf} {A:O3} {E:NN→NS→Prop} {s:NS} {a:NP} {n:Nat} {vs:List NN}
theorem Ed {P:PySem.Fin→NS→Prop} (hn:vs.length<2) (ho:s.heap.get? a=some (OS "list" vs.toArray n))
 (k:∀ h' c,(∀ b o,b≠a→s.heap.get? b=some o→h'.get? b=some o)→h'.get? a=some (OS "list" vs.toArray c)→P (.done (.ret .none)) { s with heap:=h' }) :
 Ou ‹10› A (Ru.«list.sort» ⟨[.ref a],[]⟩) P E s:=by
 have z:NM=16777216:=OA;have lt:a<s.heap.objs.size:=Ob ho;obtain ⟨e,o1⟩:∃ e,(s.heap.update a (OW fun _=>(#[]:Array NN))).get? a=some (OS "list" #[] e):=⟨_,QF ho fun _=>#[]⟩
 rw [list_sort_plain];refine NO (Uq ho rfl (NO (QR ho rfl (NO (Sv o1 rfl (NO (U7 (NO (RD (Pw ?_) (O1 _))) (by show vs.length≤_; lia))))) (by rw [NY]; lia) (O1 _))));dsimp only;rw [if_pos (show vs.toArray.size<2 by rw [NY]; lia),if_pos (show vs.toArray.size<2 by rw [NY]; lia)];have o2:(((s.heap.update a (OW fun x=>#[])).push { cls:=T8 "tuple", data:=VM vs.toArray }).push { cls:=T8 "list", data:=VM #[] }).get? a=some (OS "list" #[] e):=NT _ (NT _ o1);refine NO (Oh (NO (m:=StateT.run (pure ()) _) (Oh (NO (Sv o2 rfl ?_)))));have em:Array.map (fun x=>x.snd) (OV (Vw general' (vs.toArray.zip vs.toArray) #[] 7 none))=vs.toArray:=by show Array.map (fun x=>x.snd) (vs.toArray.zip vs.toArray)=vs.toArray;apply TX.mp;rw [TY,V2,V3];exact N9 _
 refine NO (QR o2 rfl ?_ (O1 _) (by rw [em,NY]; lia));show Ou _ _ (if (e != e)=true then _ else _) _ _ _;rw [bne_self_eq_false,if_neg N8];rw [em];obtain ⟨c,o3⟩:∃ c,((((s.heap.update a (OW fun x=>#[])).push { cls:=T8 "tuple", data:=VM vs.toArray }).push { cls:=T8 "list", data:=VM #[] }).update a (OW fun _=>vs.toArray)).get? a=some (OS "list" vs.toArray c):=⟨_,QF o2 fun _=>vs.toArray⟩
 refine Oh (k _ c (fun b o hb q=>?_) o3);rw [Po _ _ (P9 hb)];exact NT _ (NT _ (by rw [Po _ _ (P9 hb)]; exact q))
theorem ze {l:NP} {Q:NN→NS→Prop} (hl:s.heap.IsList l vs.toArray) (hn:vs.length<2)
 (k:∀ h' D c,‹4›≤D→(∀ b o,s.heap.get? b=some o→h'.get? b=some o)→h'.get? D=some (OS "list" vs.toArray c)→Q (.ref D) { s with heap:=h' }) :
 Ou ‹10› A (call (.builtin "sorted") [.ref l]) Q E s:=by
 have z:NM=16777216:=OA;refine Tg Wa VN VO (args_sorted1 _) ?_;unfold Ru.«sorted»;refine NO (m:=WC "sorted" 1 1 _) (Oh (NO (VP hl (NO (RD ?_ (by lia))) (by lia))));generalize hg:(s.heap.push (OS "list" #[] 0)).update ‹4› (OW fun x=>x++vs.toArray)=g;have gs:g.objs.size=‹4›+1:=by rw [← hg,Q1,Tc]
 have kg:∀ b o,s.heap.get? b=some o→g.get? b=some o:=fun b o q=>by have hb:b<s.heap.objs.size:=Ob q;rw [← hg,Po _ _ (QH hb)];exact NT _ q
 have oD:(g.push ‹35›).get? g.objs.size=some ‹35›:=OK g rfl;dsimp only;refine NO (Pw (TZ U8 ⟨_,oD,rfl⟩ UG (Ed (s:={ s with heap:=g.push ‹35› }) hn oD fun h' c kp hD=>?_) (args_list_sort _)));refine ⟨_,rfl,Oh ⟨_,rfl,k h' g.objs.size c (by lia) (fun b o q=>kp b o (OE (by rw [gs]; exact Qg (Ob q))) (NT _ (kg b o q))) hD⟩⟩
end
theorem yC {K:NK} (hK:X.K=K):de X (.builtin "sorted") (fun xs H Q=>∃ a vs,xs=[.ref a]∧dQ K H a vs∧vs.length<2∧∀ D,H D=none→Q (.ref D) (upd H D (.lst vs))):=by
 subst hK;intro pins s σ H xs us Q I r h;obtain ⟨a,vs,rfl,hq,hn,q⟩:=h;cases r with
 | cons r1 r =>cases r;cases (show _=O2 a from r1);obtain ⟨its,rv,pl,hz⟩:=I.list hq;refine ze pl.isList (by rw [← rv.length]; exact hn) fun h' D c hD kp oD=>?_;exact ⟨.ref D,upd H D (.lst vs),I.laid (t':=s.toks) kp hD ⟨hz,its,c,rv,oD⟩,rfl,q D (I.cG.fresh hD)⟩
def iM (zs:List (List Int)):List (List Int):=zs.mergeSort fun a b=>!lexLt b a
theorem fv (zs:List (List Int)):(iM zs).Perm zs:=SG _ _
theorem qc (zs:List (List Int)):(iM zs).Pairwise fun a b=>lexLt b a=false:=by
 have h:=RU (le:=fun a b=>!lexLt b a) (fun a b c h1 h2=>by
  rw [Tx] at h1 h2 ⊢;exact rE _ _ _ h1 h2) (fun a b=>by
  cases e:lexLt b a with
  | false=>rfl
  | true=>simp [rF _ _ e]) zs
 exact h.imp fun h=>by simpa using h
theorem tM {xs zs:List (List Int)} (p:xs.Perm zs) (h:xs.Pairwise fun a b=>lexLt b a=false):xs=iM zs :=
 RE (fun a b _ _ h1 h2=>vL a b h2 h1) h (qc zs) (p.trans (fv zs).symm)
def Jg (K:NK):List V→Hp→VK→Prop:=fun xs H Q=>∃ a vs,xs=[.ref a]∧dQ K H a vs∧vs.length<2∧∀ D,H D=none→Q (.ref D) (upd H D (.lst vs))
end L2
namespace VL
open PySem L2
section
open Classical
section
variable [bB] {K:NK}
def qE (z:List Int):D:=.tup (z.map D.int)
theorem mv:∀ {a b:List Int},a.map D.int=b.map D.int→a=b
 | [],[],_=>rfl
 | [],_::_,h=>by cases h
 | _::_,[],h=>by cases h
 | x::a,y::b,h=>by injection h with h1 h2;injection h1 with h1;rw [h1,mv h2]
theorem wK (a b:List Int) (h:qE a=qE b):a=b:=by unfold qE at h;injection h with h;exact mv h
theorem range_getD (zs:List (List Int)):(N4 zs.length).map (fun i=>zs.getD i [])=zs:=by refine PN (by simp) fun i h1 h2=>?_;simp [h2]
def t3 (z:Int×Int×Int):D:=.tup [.int z.1,.int z.2.1,.int z.2.2]
end
end
end VL
namespace L2
open PySem PySem.Spec PyProof.Rows
theorem B7 {a b:Int} {t u:WO} {c:NN} (l:List NN) (h:TQ l):TQ (l++[.int a t,.int b u,c]):=by
 fun_induction TQ l with
 | case1=>trivial
 | case2 x t y u z rest ih=>exact ih h
 | case3=>exact h.elim
variable {pos:SY}
theorem Ar {a b:Int} {t u:WO} {c v:NN} (l:List NN) (h:TQ l) (e:TR pos (l++[.int a t,.int b u,c])=some v):TR pos l=some v∨v=c:=by
 fun_induction TQ l with
 | case1 =>
  simp only [Qt,TR] at e;split at e
  ·cases e; exact .inr rfl
  ·cases e
 | case2 x t y u z rest ih =>
  simp only [Q0,TR] at e ⊢;split at e
  ·rename_i q; rw [if_pos q]; exact .inl e
  ·rename_i q; rw [if_neg q]; exact ih h e
 | case3=>exact h.elim
def dF (mg:OX→Option NN) (base:PM):Prop:=∃ bm ob,mg "__builtins__" = some (.ref bm)∧bm≠SX∧base.get? bm=some ob∧ob.cls=.type "module" ∧ ob.dict=some SX∧ob.data=.plain
structure IF (X:Cx) (c P:NP):Prop where
 code:X.env.code=.ref c
 hd:Q2 X.K c P=true
 bm:dF X.mg X.base
abbrev my (q:OX) (params:Se) (body:Pt) (scope:Q3) (cl:List (OX×NP)) (mg:OX→Option NN) (c:NP) (ct:NN):Qz:=PySem.W.kla_obj "<lambda>" q params body scope cl ((mg "__name__").getD .none) c ct
noncomputable def pJ (mg:OX→Option NN) (H:Hp) (q:OX) (params:Se) (body:Pt) (scope:Q3) (cl:List (OX×NP)) (o:Qz):Prop :=
 ∃ c ct oc u vs t,o=my q params body scope cl mg c ct∧H c=some (.kZ oc u)∧oc.data=.fields vs∧vs[1]?=some (.str q t)
variable {X:Cx} {pins:List (NP×Qz)} {σ:St} {H:Hp} {q:OX} {params:Se} {body:Pt} {scope:Q3} {cl:List (OX×NP)}
theorem E7 {s:NS} {c P:NP} {ps:Array NN} {t:WO} (lo:IF X c P) (I:Inv X pins σ H s)
 (hP:H P=some (.tbl ps)) (h0:ps[0]?=some (.str q t)) (hq:X.env.qual ++ "<lambda>" = q) (hcl:RQ scope X.env=pure cl) (hdef:defaultsOf params X.env=([],[])) :
 Ou ‹3› X.A (eval (.Lambda params body scope pos) X.env) (fun v s'=>∃ f o H',v=.ref f∧Inv X (pins++[(f,o)]) σ H' s'∧(∀ b u,H b=some u→H' b=some u)∧(∀ p∈X.pn++pins,p.1≠f)∧‹22›≤f∧pJ X.mg H' q params body scope cl o) X.xe s:=by
 refine PySem.W.kla_eval hdef ?_;obtain ⟨q',t',qs,e0,e1,e2,e3⟩:=(show cn X.prog X.w H s.heap P (.tbl ps) from I.cG P _ hP)
 rw [h0] at e0;cases e0;have hg:s.heap.Ns OU X.mg:=I.mod.glob.keeps I.bk;have hgP:OU≠P:=fun z=>by obtain ⟨o,es,ep,e,_⟩:=I.mod.glob;have:=(I.bs _ _ e).2;rw [z,hP] at this; cases this
 obtain ⟨bm,ob,b1,b2,b3,b4,b5,b6⟩:=lo.bm;have nG:bm≠OU:=fun z=>by obtain ⟨o,es,ep,e,hd,_⟩:=I.mod.glob;rw [z,e] at b3; cases b3; rw [hd] at b6; cases b6
 have nB:bm≠P:=fun z=>by have:=(I.bs _ _ b3).2;rw [z,hP] at this; cases this
 have hb:s.heap.BuiltinsAt X.mg P:=⟨bm,ob,b1,b2,nG,nB,I.bk _ _ b3,b4,b5,b6⟩
 have C:=(Vi I.mod.L0 lo.hd).keeps I.bk;have Ls:‹29›<s.heap.objs.size:=I.lt;have fsl:∀ b∈X.fs,b<s.heap.objs.size:=fun b hb=>by obtain ⟨_,o,ho,_⟩:=I.ok.oR.mem hb;exact Ot (Ob ho) I.sz
 rw [hq];cases hf:TR pos qs.toList with
 | none =>
  refine PySem.W.kla_makeFunction (mg:=X.mg) hcl I.ok.glob hg lo.code C e1 e2 hf hgP hb fun c' ctv h' tk hx hge hlt hrec htb=>?_;have hc:H c'=none:=I.cG.fresh hge;have hcP:c'≠P:=fun z=>by rw [z,hP] at hc; cases hc
  have ge:‹4›≤h'.objs.size:=ON hge (Q5 hlt);have kp:∀ b u,b≠P→s.heap.get? b=some u→(h'.push (my q params body scope cl X.mg c' ctv)).get? b=some u:=fun b u hb e=>NT _ (hx b u hb e);have nP:∀ b,H b=none→b≠P:=fun b e z=>by rw [z,hP] at e; cases e
  obtain ⟨c2,oc,vs,t2,z1,z2,z3,z4⟩:=hrec;cases z1;have up:∀ b u,H b=some u→upd H c' (.kZ oc (.own P)) b=some u:=fun b u e=>by rw [aG (bA e hc)]; exact e
  have I1:Inv X pins σ (upd H c' (.kZ oc (.own P))) { s with heap:=h'.push (my q params body scope cl X.mg c' ctv),gens:=s.gens,drawn:=s.drawn,toks:=tk }:=by
   refine I.step (ch:=[]) (fun _ z=>nomatch z) (fun b o _ _ _ e n=>kp b o (nP b n) e) (fun b o _ _ _ e n=>⟨o.slots,kp b o (nP b n) e⟩) (fun b o _ e n=>?_) (fun b o _ e=>?_) (fun b xs e=>up _ _ e) (fun b o u e=>up _ _ e) (fun b ps' e=>⟨#[],by rw [up _ _ e]; simp⟩) (fun m hm=>?_) (fun b u e=>?_) I.bare
   ·rw [aG (OE (Ot (Ob e) hge))]; exact n
   ·by_cases z:b=P
    ·subst z; exact ⟨_,NT _ htb⟩
    ·exact ⟨o,kp b o z e⟩
   ·exact (hm.extBut hx fun z=>by have:=I.free; rw [z,hP] at this; cases this).push _
   ·by_cases z:b=c'
    ·subst z;rw [aN] at e;cases e;exact ⟨NT _ z2,oc,NT _ z2⟩
    ·rw [aG z] at e;by_cases z2:b=P
     ·subst z2;rw [hP] at e;cases e;refine ⟨q,t,qs++#[VW pos.line,VW pos.col,.ref c'],h0,NT _ htb,?_,fun pos' v ev=>?_⟩
      ·rw [Pc]; exact B7 _ e2
      ·rw [Pc] at ev;rcases Ar _ e2 ev with ev | rfl
       ·obtain ⟨c3,o,u,vs,t2,y1,y2,y3⟩:=e3 pos' v ev;exact ⟨c3,o,u,vs,t2,y1,up _ _ y2,y3⟩
       ·exact ⟨c',oc,_,vs,t2,rfl,aN,z3,z4⟩
     ·refine (I.cG b u e).sv (fun x v hxv ex=>kp x v ?_ ex) (fun x ex=>up _ _ ex) (fun x xs ex=>up _ _ ex) fun x o u ex=>up _ _ ex;rcases hxv with rfl | hxv
      ·exact z2
      ·exact fun w=>by rw [w,hP] at hxv; cases hxv
  have fz:∀ b o,s.heap.get? b=some o→b≠h'.objs.size:=fun b o e=>OE (Ot (Ob e) ge);refine ⟨h'.objs.size,my q params body scope cl X.mg c' ctv,upd H c' (.kZ oc (.own P)),rfl,I1.kW fun p hp=>?_,up,fun p hp z=>?_,ON I.sz ge,c',ctv,oc,.own P,vs,t2,rfl,aN,z3,z4⟩
  ·rcases NZ.mp hp with hp | hp
   ·exact I1.pin p (NQ _ hp)
   ·cases NL.mp hp;refine ⟨OK _ rfl,?_,QH (Ot Ls ge),fun z=>absurd (Ot (fsl _ z) ge) (Pe _),fun v z=>by cases z⟩;show upd H c' (.kZ oc (.own P)) h'.objs.size=none;rw [aG (QH hlt)];exact I.cG.fresh ge
  ·exact fz _ _ (I.pin p hp).1 z
 | some cv =>
  obtain ⟨c',oc,u,vs,t2,rfl,hown,z3,z4⟩:=e3 pos cv hf;refine PySem.W.kla_makeFunctionHit (mg:=X.mg) hcl I.ok.glob hg lo.code C e1 e2 hf hb fun ctv h' tk hk hsz=>?_;have kp:∀ b u,s.heap.get? b=some u→(h'.push (my q params body scope cl X.mg c' ctv)).get? b=some u:=fun b u e=>NT _ (hk b u e);have I1:Inv X pins σ H { s with heap:=h'.push (my q params body scope cl X.mg c' ctv),toks:=tk }:=I.kept kp;refine ⟨h'.objs.size,my q params body scope cl X.mg c' ctv,H,rfl,I1.kW fun p hp=>?_,fun _ _ e=>e,fun p hp z=>?_,ON I.sz hsz,c',ctv,oc,u,vs,t2,rfl,hown,z3,z4⟩
  ·rcases NZ.mp hp with hp | hp
   ·exact I1.pin p (NQ _ hp)
   ·cases NL.mp hp;exact ⟨OK _ rfl,I.cG.fresh hsz,QH (Ot Ls hsz),fun z=>absurd (Ot (fsl _ z) hsz) (Pe _),fun v z=>by cases z⟩
  ·exact absurd z (OE (Ot (Ob (I.pin p hp).1) hsz))
structure jA (X:Cx) (x:OX) (zs:List OX) (is:List Nat) (scope:Q3) (cl:List (OX×NP)):Prop where
 par:scope.names.lookup x=some .local
 sub:∀ y c,cl.lookup y=some c→X.env.cells.lookup y=some c
 Nc:∀ (j:Nat) (z:OX),zs[j]?=some z→∃ i c,is[j]?=some i∧X.N[i]?=some z∧‹16›∧cl.lookup z=some c∧scope.names.lookup z=some .free
 has:∀ y,(scope.names.lookup y=some .cell∨scope.names.lookup y=some .free)→∃ c,cl.lookup y=some c
 len:is.length=zs.length
 vE:∀ y∈scope.names,y.2≠.cell
 kind:scope.kind=.function
 co:scope.isCoroutine=false
 gen:scope.isGenerator=false
inductive yI (X:Cx) (scope:Q3) (cl:List (OX×NP)):List Nat→List OX→Prop
 | nil:yI X scope cl [] []
 | cons {i:Nat} {z:OX} {c:NP} {is:List Nat} {zs:List OX}:X.N[i]?=some z→‹16›→cl.lookup z=some c→scope.names.lookup z=some .free→yI X scope cl is zs→yI X scope cl (i::is) (z::zs)
variable {zs:List OX}
theorem yI.get {is:List Nat} (h:yI X scope cl is zs):∀ (j:Nat) (z:OX),zs[j]?=some z→∃ i c,is[j]?=some i∧X.N[i]?=some z∧‹16›∧cl.lookup z=some c∧scope.names.lookup z=some .free:=by
 induction h with
 | nil=>intro j z e; simp at e
 | cons h1 h2 h3 h4 _ ih =>
  intro j z e;cases j with
  | zero=>cases e; exact ⟨_,_,rfl,h1,h2,h3,h4⟩
  | succ j=>exact ih j z (by simpa using e)
theorem yI.len {is:List Nat} (h:yI X scope cl is zs):is.length=zs.length:=by
 induction h with
 | nil=>rfl
 | cons _ _ _ _ _ ih=>simp [ih]
variable {x:OX}
theorem jA.many {is:List Nat} (hs:SubL X cl) (hc:yI X scope cl is zs) (ha:(scope.names.all fun y=>!(y.2==.cell || y.2==.free) || zs.contains y.1)=true) (par:scope.names.lookup x=some .local)
 (vE:∀ y∈scope.names,y.2≠.cell) (kind:scope.kind=.function) (co:scope.isCoroutine=false) (gen:scope.isGenerator=false):jA X x zs is scope cl where
 par:=par
 sub:=hs.sub
 Nc:=hc.get
 has:=fun y h=>by
  have key:∀ kd,scope.names.lookup y=some kd→(kd==Vn || kd==WK)=true→y∈zs:=fun kd e q=>by
   have m:=Pj.mp ha _ (P2 e);rw [q] at m;have:zs.contains y=true:=by simpa using m
   exact UK.mp this
  have mem:y∈zs:=by
   rcases h with h | h
   ·exact key _ h rfl
   ·exact key _ h rfl
  obtain ⟨j,hj⟩:=Pp mem;obtain ⟨i,c,_,_,_,f4,_⟩:=hc.get j y hj;exact ⟨c,f4⟩
 len:=hc.len
 vE:=vE
 kind:=kind
 co:=co
 gen:=gen
abbrev zV (q:OX) (scope:Q3) (L:NP) (f c:NP) (cl:List (OX×NP)):V5:=newEnv scope L OU cl (q ++ ".<locals>.") (some f) (.ref c) none SX
noncomputable def pE (X:Cx) (N':List OX) (q:OX) (scope:Q3) (cl:List (OX×NP)) (f c:NP) (A:O3) (s:NS) (H:Hp) (pins:List (NP×Qz)):Cx :=
 { X with A:=A.deeper (zV q scope ‹4› f c cl),N:=N',s₀:=s,H₀:=H,env:=zV q scope ‹4› f c cl,outer:=X.stack,stack:=zV q scope ‹4› f c cl::X.stack,ex:=[],fn:=fun _=>false,calm:=true,pn:=X.pn++pins,xe:=fun _ _=>False }
theorem E8 {s:NS} {f:NP} {o:Qz} {A:O3} {is:List Nat} {te:TE} {v:V} {u:NN} {Q:VK}
 (I:Inv X pins σ H s) (L:pJ X.mg H q params body scope cl o) (hf:(f,o)∈X.pn++pins) (fr:jA X x zs is scope cl) (hA:A.frames=some X.stack) (hh:A.handled=none) (hroom:A.depth<Rn)
 (hb:∀ (c:NP) (ct u:NN),QA ‹13› ⟨[u],[]⟩=pure [(x,u)])
 (he:∀ f c s H pins,PE (pE X (x::zs) q scope cl f c A s H pins) body te) (rv:RelV v u) (h:te (some v::is.map fun i=>(σ[i]?).join) H Q) :
 Ou ‹3› A (call (.ref f) [u]) (fun r s'=>(∃ y H',Inv X pins σ H' s'∧RelV y r∧Q y H')∧∀ m,s.heap.Ns ‹29› m→s'.heap.Ns ‹29› m) (fun _ _=>False) s:=by
 obtain ⟨c,ct,oc,w',vs,t,rfl,hc,hd,h1⟩:=L;have ho:=(I.pin _ hf).1;have hcd:s.heap.CodeRec (.ref c) q:=⟨c,oc,vs,t,rfl,(show cn X.prog X.w H s.heap c (.kZ oc w') from I.cG c _ hc).1,hd,h1⟩
 refine Ws (Uc (PySem.W.kla_callFunE (R:=fun r s'=>∃ u,r=.ok (.ret u)∧(∃ y H',Inv X pins σ H' s'∧RelV y u∧Q y H')∧∀ m,s.heap.Ns ‹29› m→s'.heap.Ns ‹29› m) hroom ho rfl fr.co fr.gen rfl hcd ?_) fun r s' hq=>?_)
 ·rw [hb];refine Oh (wpAny_newFunctionEnv fr.vE (fun y hy=>?_) (fun h₁ hns hsb=>⟨?_,PySem.W.kla_codeExpr ?_⟩) fr.kind)
  ·cases NL.mp hy;exact fr.par
  ·have old:∀ b o,s.heap.get? b=some o→h₁.get? b=some o:=fun b o e=>hsb.extBut b o (OE (Ob e)) (NT _ e);exact I.nolimit.keeps old
  ·have old:∀ b o,s.heap.get? b=some o→h₁.get? b=some o:=fun b o e=>hsb.extBut b o (OE (Ob e)) (NT _ e);have noA:∀ b:NP,b∉([]:List NP):=fun b=>by simp
   have start:Inv (pE X (x::zs) q scope cl f c A s H pins) [] (some v::is.map fun i=>(σ[i]?).join) H { s with heap:=h₁,toks:=s.toks+1 }:=by
    refine ⟨⟨I.ok.mod,fr.kind,rfl,rfl,N9 _,fun y z c h1 h2=>I.ok.inj y z c (fr.sub y c h1) (fr.sub z c h2),fun y hy=>fr.has y hy,fun y c h _=>(by cases h),fun _=>hh,UQ hA,.inr ⟨rfl,rfl⟩,fun b z=>absurd z (noA b),I.bs,ON I.ok.Dy I.sz,fun b _ _=>noA b,fun b z=>absurd z (noA b),I.stack,I.uQ⟩,
     rfl,I.bare,Un.kept old,⟨_,hns,fun j y v' e1 e2 _=>?_⟩,fun y c e=>?_,I.cG.fresh (N9 _),fun y c e=>I.iU y c (fr.sub y c e),fun p hp=>?_,I.cG.kept old,?_⟩
    ·cases j with
     | zero =>cases e1;cases e2;exact ⟨u,rv,.inl ⟨fr.par,by simp⟩⟩
     | succ j =>
      have e1:zs[j]?=some y:=by simpa [pE] using e1
      have e2:(is.map fun i=>(σ[i]?).join)[j]?=some (some v'):=by simpa using e2
      obtain ⟨i,c2,f1,f2,f3,f4,f5⟩:=fr.Nc j y e1;rw [NR,f1] at e2;have e3:(σ[i]?).join=some v':=OD e2;obtain ⟨m,hn,hl⟩:=I.loc;obtain ⟨u2,r2,l⟩:=hl i y v' f2 (VL.join_some e3) (by rcases f3 with z | z; exact .inr (.inl z); exact .inr (.inr z));refine ⟨u2,r2,.inr ⟨.inr f5,c2,f4,?_⟩⟩;rcases l with ⟨k,_⟩ | ⟨_,c',e',z⟩
      ·have k:X.env.scope.names.lookup y=some .local:=k;rcases f3 with z | z <;> rw [z] at k <;> cases k
      ·rw [fr.sub y c2 f4] at e';cases e';obtain ⟨o,ho,hd⟩:=z;exact ⟨o,old _ _ ho,hd⟩
    ·obtain ⟨v,o,ho,hd⟩:=I.cell y c (fr.sub y c e);exact ⟨v,o,old _ _ ho,hd⟩
    ·have hp':p∈X.pn++pins:=by simpa [pE] using hp
     obtain ⟨e,n,ne,nf,d⟩:=I.pin p hp';refine ⟨old _ _ e,n,OE (Ob e),fun z=>?_,d⟩;rcases NU.mp (I.qK p.1 z) with q | q
     ·exact ne q
     ·exact nf q
    ·show _=(x::zs).length;rw [Oy,NH,Oy,fr.len]
   refine Px (he f c s H pins [] _ _ H _ start h) (fun r s' hq=>?_) fun _ _ z=>z.elim;obtain ⟨y,H',J,ry,qy⟩:=hq;refine ⟨r,rfl,⟨y,H',I.ID J.os J.base J.cG J.bare (fun b z=>absurd z (noA b)),ry,qy⟩,fun m hm=>?_⟩;obtain ⟨o,es,ep,e1,e2⟩:=hm;obtain ⟨sl,e3⟩:=J.base.any (b:=‹29›) e1 I.free (noA _);exact ⟨_,es,ep,e3,e2⟩
 ·obtain ⟨u,rfl,hq⟩:=hq;exact hq
end L2
namespace Tm
open PySem PyProof.Rows
variable {vs:List NN} {n:Nat} {P:Fin→NS→Prop} {f:NN}
theorem EK {α:Type} (d:α) {l m:List α} (p:m.Perm l):∃ q:List Nat,q.Perm (N4 l.length)∧m=q.map fun i=>l.getD i d:=by
 induction p with
 | nil=>exact ⟨[],.refl _,rfl⟩
 | @cons x m l _ ih =>
  obtain ⟨q,hq,e⟩:=ih;refine ⟨0::q.map Nat.succ,?_,?_⟩
  ·rw [Oy,R6];exact .cons 0 (hq.map _)
  ·rw [Oq,N0,e];rfl
 | swap x y l =>
  refine ⟨1::0::(N4 l.length).map fun i=>i+2,?_,?_⟩
  ·rw [Oy,Oy,R6,R6,Oq,N0];exact .swap 0 1 _
  ·have e:(N4 l.length).map (fun i=>l.getD i d)=l:=by
    refine Ri fun i=>?_;rw [NR];by_cases c:i<l.length
    ·rw [PR c,RH,NF,NG c];rfl
    ·rw [OL (by rw [Oc]; lia),OL (by lia)];rfl
   rw [Oq,Oq,N0];show y::x::l=y::x::(N4 l.length).map fun i=>l.getD i d;rw [e]
 | @trans m k l _ _ ih1 ih2 =>
  obtain ⟨q1,h1,e1⟩:=ih1;obtain ⟨q2,h2,e2⟩:=ih2;have hk:k.length=q2.length:=by rw [e2,NH]
  refine ⟨q1.map fun i=>q2.getD i 0,?_,?_⟩
  ·refine (h1.map _).trans ?_
   have e:(N4 k.length).map (fun i=>q2.getD i 0)=q2:=by
    refine Ri fun i=>?_;rw [NR];by_cases c:i<q2.length
    ·rw [PR (by lia),RH,NF,NG c];rfl
    ·rw [OL (by rw [Oc]; lia),OL (by lia)];rfl
   rw [e];exact h2
  ·rw [e1,N0];refine OC fun i hi=>?_;have hi:i<q2.length:=by have:=Ow.mp (h1.mem_iff.mp hi);lia
   show k.getD i d=l.getD (q2.getD i 0) d;rw [e2,NF,NR,NG hi,NF (l:=q2),NG hi];rfl
section
variable {prog:O4} {w:Pf} {A:O3} {E:NN→NS→Prop} {s:NS}
structure FZ (prog:O4) (w:Pf) (A:O3) (s:NS) (κ:P7) (ks:List NN) (lt:Nat→Nat→Bool):Prop where
 o:uB.Ord lt
 v:∀ i j,i<ks.length→j<ks.length→ks.getD i .none=ks.getD j .none→∀ k,lt i k=lt j k∧lt k i=lt k j
 ask:∀ i j (C:Bool→NS→Prop),i<ks.length→j<ks.length→C (lt i j) s→Ou ‹10› A (keyLt' κ (ks.getD i .none) (ks.getD j .none)) C (fun _ _=>False) s
open Classical in
noncomputable def F4 (ks:List NN) (x:Oj):Nat:=if h:∃ i,i<ks.length∧ks.getD i .none=x.1 then h.choose else 0
theorem vm {ks:List NN} {x:Oj} (h:∃ i,i<ks.length∧ks.getD i .none=x.1):F4 ks x<ks.length∧ks.getD (F4 ks x) .none=x.1:=by unfold F4;rw [dif_pos h];exact h.choose_spec
theorem tR {κ:P7} {ks:List NN} {lt:Nat→Nat→Bool} (a:FZ prog w A s κ ks lt) (hl:ks.length=vs.length) (h2:2≤vs.length) {Q:Unit×Pu→NS→Prop}
 (h:∀ (st':Pu) (p:List Nat),p.Perm (N4 vs.length)→(p.Pairwise fun i j=>lt j i=false)→(OV st').map (·.2)=(p.map fun i=>vs.getD i .none).toArray→Ss st'=none→Q ((),st') s) :
 Ou ‹10› A (sortRuns'.run (Vw κ (ks.toArray.zip vs.toArray) #[] 7 none)) Q E s:=by
 have ez:(ks.toArray.zip vs.toArray).toList=ks.zip vs:=by simp
 have esz:(ks.toArray.zip vs.toArray).size=vs.length:=by rw [← N3,ez,Wg]; lia
 have zlen:(ks.zip vs).length=vs.length:=by rw [Wg]; lia
 have zat:∀ i,i<vs.length→(ks.zip vs).getD i (.none,.none)=(ks.getD i .none,vs.getD i .none):=fun i hi=>by rw [NF,NG (by lia),NF,NG (show i<ks.length by lia),NF,NG hi];simp
 have cmp:eJ ‹10› A E s κ (fun x=>∃ i,i<ks.length∧ks.getD i .none=x.1) (fun x y=>lt (F4 ks x) (F4 ks y)):=fun {x y Q st} gx gy hk hq=>by obtain ⟨x1,x2⟩:=vm gx;obtain ⟨y1,y2⟩:=vm gy;rw [lt'_eq];refine Oa (Sn ?_);rw [hk,← x2,← y2];refine Oa (U3 (wpAny_attempt (Px (a.ask _ _ (fun b s'=>s'=s∧b=lt (F4 ks x) (F4 ks y)) x1 y1 ⟨rfl,rfl⟩) (fun b s' z=>?_) fun _ _ z=>z.elim)));obtain ⟨rfl,rfl⟩:=z;exact ⟨rfl,Oi hq⟩
 refine Px (DN (κ:=κ) (a₀:=ks.toArray.zip vs.toArray) (st:=Vw κ (ks.toArray.zip vs.toArray) #[] 7 none) (Q:=fun _ st'=>(OV st').Perm (ks.toArray.zip vs.toArray)∧Ss st'=none∧Up (fun x y=>lt (F4 ks x) (F4 ks y)) (OV st') 0 (ks.toArray.zip vs.toArray).size)
  cmp ⟨fun x y=>a.o.as _ _,fun x y z=>a.o.tr _ _ _⟩ (fun x hx=>?_) ⟨Array.Perm.refl _,rfl,rfl⟩ rfl (by lia) fun st' b1 b2 b3=>⟨b1,b2,b3⟩) ?_ fun _ _ e=>e
 ·rw [ez] at hx;have:=(Rb (a:=x.1) (b:=x.2) hx).1;obtain ⟨i,hi,e⟩:=SH this;exact ⟨i,hi,by rw [NF,NG hi]; exact e⟩
 ·rintro ⟨⟨⟩,st'⟩ s' ⟨rfl,hp,hf,hu⟩;have hp':=QB.mp hp;rw [ez] at hp';obtain ⟨p,pm,ep⟩:=EK ((.none,.none):Oj) hp';rw [zlen] at pm;have plt:∀ i∈p,i<vs.length:=fun i hi=>Ow.mp (pm.mem_iff.mp hi);have plen:p.length=vs.length:=by rw [pm.length_eq,Oc]
  refine h st' p pm ?_ ?_ hf
  ·rw [Rw];intro i j hi hj hij;have u:=hu i j (O1 _) (by lia) (by lia);unfold Le at u;have gat:∀ i (hi:i<p.length),gk (OV st') i=(ks.getD p[i] .none,vs.getD p[i] .none):=fun i hi=>by unfold gk;rw [← PB,ep,NR,NG hi];exact zat _ (plt _ (PF hi))
   rw [gat i hi,gat j hj] at u;have bi:=plt _ (PF hi);have bj:=plt _ (PF hj);obtain ⟨c1,c2⟩:=vm (ks:=ks) (x:=(ks.getD p[i] .none,vs.getD p[i] .none)) ⟨p[i],by lia,rfl⟩;obtain ⟨d1,d2⟩:=vm (ks:=ks) (x:=(ks.getD p[j] .none,vs.getD p[j] .none)) ⟨p[j],by lia,rfl⟩;have e1:=(a.v _ _ d1 (by lia) d2 (F4 ks (ks.getD p[i] .none,vs.getD p[i] .none))).1;have e2:=(a.v _ _ c1 (by lia) c2 p[j]).2;rw [← e2,← e1];exact u
  ·apply TX.mp;rw [TY,ep,N0];refine OC fun i hi=>?_;show ((ks.zip vs).getD i (.none,.none)).2=_;rw [zat i (plt i hi)]
theorem vK {a:NP} {P:Fin→NS→Prop} {lt:Nat→Nat→Bool} (ho:s.heap.get? a=some (OS "list" vs.toArray n)) (h2:2≤vs.length) (hb:vs.length≤100000)
 (hk:∀ g:PM,(∀ b o,b≠a→s.heap.get? b=some o→g.get? b=some o)→∃ κ,(∀ Q':P7→NS→Prop,Q' κ { s with heap:=g }→Ou ‹10› A (WD vs.toArray) Q' (fun _ _=>False) { s with heap:=g })∧FZ prog w A { s with heap:=g } κ vs lt)
 (h:∀ p:List Nat,p.Perm (N4 vs.length)→(p.Pairwise fun i j=>lt j i=false)→P (.done (.ret .none)) { s with heap:=sortedHeap s.heap a vs (p.map fun i=>vs.getD i .none).toArray }):Ou ‹10› A (Ru.«list.sort» ⟨[.ref a],[]⟩) P E s:=by
 have hline:NM=16777216:=OA;have lt0:a<s.heap.objs.size:=Ob ho;have hsz:vs.toArray.size=vs.length:=by simp
 rw [list_sort_plain];refine NO (Uq ho rfl ?_);refine NO (QR ho rfl ?_ (hsz:=by rw [hsz]; lia));obtain ⟨c,hc⟩:∃ c,(s.heap.update a (OW fun _=>#[])).get? a=some (OS "list" #[] c):=⟨_,QF ho (fun _=>#[])⟩
 refine NO (Sv hc rfl ?_);refine NO (U7 ?_);refine NO (RD ?_);refine Pw ?_;have ne1:a≠‹21›.objs.size:=by rw [Tc,Q1]; exact OE (Qg lt0)
 have ne2:a≠(s.heap.update a (OW fun _=>#[])).objs.size:=by rw [Q1]; exact OE lt0
 have hc2:(‹21›.push (OS "list" #[] 0)).get? a=some (OS "list" #[] c):=by rw [VQ _ _ _ ne1,VQ _ _ _ ne2];exact hc
 obtain ⟨κ,kind,asks⟩:=hk (‹21›.push (OS "list" #[] 0)) fun b o q e=>by refine NT _ (NT _ ?_);rw [SI _ _ _ _ q];exact e
 show Ou ‹10› A _ P E { s with heap:=‹21›.push (OS "list" #[] 0) };dsimp only;rw [if_neg (by lia),if_neg (by lia)];refine NO (Px (kind (fun k s'=>k=κ∧s'={ s with heap:=‹21›.push (OS "list" #[] 0) }) ⟨rfl,rfl⟩) (fun k s' z=>?_) fun _ _ z=>z.elim);obtain ⟨rfl,rfl⟩:=z;refine NO (tR asks rfl h2 fun st' p pm up eo hf=>?_);dsimp only;refine NO (Sv hc2 rfl ?_);rw [eo];refine NO (QR hc2 rfl ?_ (hsz2:=by rw [NY,NH,pm.length_eq,Oc]; lia));rw [hf];simp only [bne_self_eq_false,PY,if_false];exact Oh (h p pm up)
theorem Cj {l:NP} {Q:NN→NS→Prop} {lt:Nat→Nat→Bool} (hl:s.heap.IsList l vs.toArray) (h2:2≤vs.length) (hb:vs.length≤100000)
 (hk:∀ g:PM,(∀ b o,s.heap.get? b=some o→g.get? b=some o)→∃ κ,(∀ Q':P7→NS→Prop,Q' κ { s with heap:=g }→Ou ‹10› A.in1.in1 (WD vs.toArray) Q' (fun _ _=>False) { s with heap:=g })∧FZ prog w A.in1.in1 { s with heap:=g } κ vs lt)
 (h:∀ (p:List Nat) (g:PM) (D:NP) (c:Nat),p.Perm (N4 vs.length)→(p.Pairwise fun i j=>lt j i=false)→‹4›≤D→g.get? D=some (OS "list" (p.map fun i=>vs.getD i .none).toArray c)→(∀ b o,s.heap.get? b=some o→g.get? b=some o)→Q (.ref D) { s with heap:=g }) :
 Ou ‹10› A (call (.builtin "sorted") [.ref l]) Q E s:=by
 have hline:NM=16777216:=OA;refine Tg Wa VN VO (args_sorted1 _) ?_;unfold Ru.«sorted»;refine NO (m:=WC "sorted" 1 1 _) (Oh ?_);refine NO (VP hl ?_ (by lia));refine NO (RD ?_ (by lia));have hsz:((s.heap.push (OS "list" #[] 0)).update ‹4› (OW (·++vs.toArray))).objs.size=‹4›+1:=(Q1 ..).trans (Tc ..);have kp:∀ b o,s.heap.get? b=some o→((s.heap.push (OS "list" #[] 0)).update ‹4› (OW (·++vs.toArray))).get? b=some o:=fun b o e=>by rw [SI _ _ _ _ (OE (Ob e))];exact NT _ e
 generalize (s.heap.push (OS "list" #[] 0)).update ‹4› (OW (·++vs.toArray))=g0 at hsz kp;have low:∀ {b o},s.heap.get? b=some o→b<g0.objs.size:=fun {b o} e=>by rw [hsz]; exact Qg (Ob e)
 have hD:(g0.push ‹35›).get? g0.objs.size=some ‹35›:=OK _ rfl;show Ou _ _ _ _ _ { s with heap:=g0.push ‹35› };refine NO (Pw (TZ U8 ⟨_,hD,rfl⟩ UG (vK (s:={ s with heap:=g0.push ‹35› }) (lt:=lt) hD h2 hb (fun g k=>hk g fun b o e=>k b o ?_ (NT _ (kp b o e))) fun p pm up=>⟨_,rfl,?_⟩) (args_list_sort _)))
 ·exact OE (low e)
 obtain ⟨c,hc⟩:=sortedHeap_at (out:=(p.map fun i=>vs.getD i .none).toArray) hD;exact Oh ⟨_,rfl,h p _ g0.objs.size c pm up (by lia) hc fun b o e=>(sortedHeap_old (OE (low e)) (by rw [Tc]; exact Qg (low e))).trans (NT _ (kp b o e))⟩
end
section
open PySem.W
variable {prog:O4} {w:Pf} {A:O3} {E:NN→NS→Prop} {s:NS} {h₀:PM} {L:NP} {m:OX→Option NN} {news:List (NP×Qz)} {ks vs:List NN} {kS a:NP}
theorem AK {st:Pu} {e e1:Nat} {out:List NN} (eo:(OV st).map (·.2)=out.toArray) (lo:out.length≤100000) (lk:ks.length≤100000) (hf:Ss st=none) (h:KatFin h₀ L m kS a ks e e1 out (fun s'=>P (.done (.ret .none)) s') s):Ou ‹10› A (ksk_tail a false e1 (.ref kS) st) P E s:=by
 have hline:NM=16777216:=OA;obtain ⟨nw,g,F1,N1,U1,k1⟩:=h;obtain ⟨p1,q1,rfl,eg,a1,b1⟩:=U1.split;obtain ⟨x1,x2,x3⟩:=N1 (kS,OS "list" ks.toArray e) (NQ _ NJ);have sb:=Rz s.heap kS (OW fun _=>(#[]:Array NN));obtain ⟨c,hc⟩:∃ c,(s.heap.update kS (OW fun _=>(#[]:Array NN))).get? kS=some (OS "list" #[] c):=⟨_,QF x1 fun _=>#[]⟩
 obtain ⟨nw2,g2,F2,N2,U2,k2⟩:=k1 _ c (kas_fr F1 sb x2 x3) (by rw [eg]; exact news_set N1 a1 b1 sb hc);obtain ⟨p2,q2,rfl,eg2,a2,b2⟩:=U2.split;obtain ⟨y1,y2,y3⟩:=N2 (a,OS "list" #[] e1) (NQ _ NJ);generalize hg:s.heap.update kS (OW fun _=>(#[]:Array NN))=g3 at sb hc F2 N2 y1 k2;have sb2:=Rz g3 a (OW fun _=>out.toArray);obtain ⟨c2,hc2⟩:∃ c2,(g3.update a (OW fun _=>out.toArray)).get? a=some (OS "list" out.toArray c2):=⟨_,QF y1 fun _=>out.toArray⟩
 unfold ksk_tail;dsimp only;rw [eo];refine NO (QR x1 rfl ?_ (by rw [NY]; lia) (O1 _));rw [hg];refine NO (Ts ?_);refine NO (Sv y1 rfl ?_);simp only [PY,if_false];refine NO (QR y1 rfl ?_ (O1 _) (by rw [NY]; lia));rw [hf];simp only [bne_self_eq_false,PY,if_false];exact Oh (k2 _ c2 (kas_fr F2 sb2 y2 y3) (by rw [eg2]; exact news_set N2 a2 b2 sb2 hc2))
noncomputable def B0 (prog:O4) (w:Pf) (A:O3) (h₀:PM) (L:NP) (m:OX→Option NN) (kS a:NP) (vs:List NN) (e1:Nat) (C:NS→Prop) (ks:List NN) (e:Nat) (s:NS):Prop :=
 ∃ lt:Nat→Nat→Bool,(2≤vs.length→∃ κ:P7,(∀ Q':P7→NS→Prop,Q' κ s→Ou ‹10› A (WD ks.toArray) Q' (fun _ _=>False) s)∧FZ prog w A s κ ks lt) ∧
  ∀ p:List Nat,p.Perm (N4 vs.length)→(p.Pairwise fun i j=>lt j i=false)→KatFin h₀ L m kS a ks e e1 (p.map fun i=>vs.getD i .none) C s
theorem zx (vs:List NN):(N4 vs.length).map (fun i=>vs.getD i .none)=vs:=by refine PN (by simp) fun i h1 h2=>?_;simp [h2]
theorem CC (R:Nat→Nat→Prop) (h:¬ 2≤n):(N4 n).Pairwise R:=by
 match n,h with
 | 0,_=>exact .nil
 | 1,_=>exact T4 _ _
 | n+2,h=>exact absurd (Nat.le_add_left 2 n) h
theorem Km {e e1:Nat} (hl:ks.length=vs.length) (hb:vs.length≤100000) (h:B0 prog w A h₀ L m kS a vs e1 (fun s'=>P (.done (.ret .none)) s') ks e s):Ou ‹10› A (ksk_end a false vs.toArray e1 (.ref kS) ks.toArray) P E s:=by
 obtain ⟨lt,big,fin⟩:=h;have hsz:vs.toArray.size=vs.length:=by simp
 unfold ksk_end;dsimp only;simp only [PY,if_false];by_cases h2:2≤vs.length
 ·obtain ⟨κ,kind,asks⟩:=big h2;rw [if_neg (by lia),if_neg (by lia)];refine NO (Px (kind (fun k s'=>k=κ∧s'=s) ⟨rfl,rfl⟩) (fun k s' z=>?_) fun _ _ z=>z.elim);obtain ⟨rfl,rfl⟩:=z;refine NO (tR asks hl h2 fun st' p pm up eo hf=>?_);exact AK eo (by rw [NH,pm.length_eq,Oc]; exact hb) (by lia) hf (fin p pm up)
 ·rw [if_pos (by lia),if_pos (by lia)];refine NO (Oh (NO (m:=StateT.run (pure ()) _) (Oh ?_)));have f:=fin (N4 vs.length) (.refl _) (CC _ h2);rw [zx] at f;refine AK ?_ hb (by lia) rfl f;show ((ks.toArray.zip vs.toArray).map fun x=>x.2)=vs.toArray;apply TX.mp;rw [TY,V2,V3];exact Uo hl.symm
theorem BH {f:NN} {Fn:List NN→Nat→NS→Prop} {n:Nat} {body:NN→PUnit→Sem (ForInStep PUnit)}
 (hb:∀ x ks e (s:NS) (C:NN→Nat→NS→Prop),V6 ks<n→Ou ‹10› A (call f [x]) (KatBack h₀ L m kS ks e C) (fun _ _=>False) s →
  Ou ‹10› A (body x ⟨⟩) (fun r s'=>r=.yield ⟨⟩∧∃ k c,s'.heap.get? kS=some (OS "list" (ks++[k]).toArray c)∧C k c s') E s):∀ (r:List NN) {ks:List NN} {e:Nat} {s:NS},ks.length+r.length=n →
  s.heap.get? kS=some (OS "list" ks.toArray e)→Wn prog w A h₀ L m kS f Fn r ks e s →
  Ou ‹10› A (forIn r PUnit.unit body) (fun _ s'=>∃ ks e,s'.heap.get? kS=some (OS "list" ks.toArray e)∧ks.length=n∧Fn ks e s') E s
 | [],ks,e,s,hl,o,h=>by rw [WB];exact Oh ⟨ks,e,o,by simpa using hl,h⟩
 | x::r,ks,e,s,hl,o,h=>by have hl':ks.length+(r.length+1)=n:=hl;rw [List.forIn_cons];refine NO (Px (hb x ks e s (fun k c s'=>Wn prog w A h₀ L m kS f Fn r (ks++[k]) c s') (by lia) h) (fun q s' z=>?_) fun _ _ z=>z);obtain ⟨rfl,k,c,o',z⟩:=z;exact BH hb r (by rw [N7,Pl]; lia) o' z
theorem GI {e1:Nat} (o:s.heap.get? kS=some (OS "list" #[] 0)) (hb:vs.length≤100000) (h:Wn prog w A h₀ L m kS f (B0 prog w A h₀ L m kS a vs e1 fun s'=>P (.done (.ret .none)) s') vs [] 0 s):Ou ‹10› A (ksk_rest a f false vs.toArray e1 (.ref kS)) P E s:=by
 have hline:NM=16777216:=OA;unfold ksk_rest;refine NO (Sg ?_);simp only [List.forIn_toArray];refine NO (Px (BH (n:=vs.length) (fun x ks e s' C lk hx=>?_) vs (by simp) o h) (fun _ s' z=>?_) fun _ _ z=>z)
 ·refine NO (wpAny_attempt (Px hx (fun k s1 z=>?_) fun _ _ z=>z.elim));obtain ⟨nw,g,F1,N1,U1,c⟩:=z;obtain ⟨p1,q1,rfl,eg,a1,b1⟩:=U1.split;obtain ⟨x1,x2,x3⟩:=N1 (kS,OS "list" ks.toArray e) (NQ _ NJ);have sb:=Rz s1.heap kS (OW (·.push k));obtain ⟨c2,hc2⟩:∃ c2,(s1.heap.update kS (OW (·.push k))).get? kS=some (OS "list" (ks++[k]).toArray c2):=⟨_,by rw [show (ks++[k]).toArray=ks.toArray.push k by simp]; exact QF x1 (·.push k)⟩
  try dsimp only
  refine NO (QR x1 rfl ?_ (by rw [NY]; lia) (by rw [Qj,NY]; lia));exact Oh ⟨rfl,k,c2,hc2,c _ c2 (kas_fr F1 sb x2 x3) (by rw [eg]; exact news_set N1 a1 b1 sb hc2)⟩
 ·obtain ⟨ks,e,o',hl,fin⟩:=z;try dsimp only
  refine NO (Uq o' rfl ?_);exact Km hl hb fin
theorem Fc (F:Fr h₀ L s.heap m) (N:WV h₀ L s.heap news) (ho:s.heap.get? a=some (OS "list" vs.toArray n)) (haL:a≠L) (ha0:h₀.get? a=none) (hna:∀ p∈news,p.1≠a) (hb:vs.length≤100000)
 (h:∀ kS e1 h',Fr h₀ L h' m→WV h₀ L h' ((kS,OS "list" #[] 0)::(a,OS "list" #[] e1)::news)→a<kS→Wn prog w A h₀ L m kS f (B0 prog w A h₀ L m kS a vs e1 fun s'=>P (.done (.ret .none)) s') vs [] 0 { s with heap:=h' }) :
 Ou ‹10› A (ksk_tree a f false) P E s:=by
 have hline:NM=16777216:=OA;have lt0:a<s.heap.objs.size:=Ob ho;have sb:=Rz s.heap a (OW fun _=>(#[]:Array NN));obtain ⟨c,hc⟩:∃ c,(s.heap.update a (OW fun _=>(#[]:Array NN))).get? a=some (OS "list" #[] c):=⟨_,QF ho fun _=>#[]⟩
 have Fa:=kas_fr F sb haL ha0;have Na:=kas_news N sb hna;have hsz:(s.heap.update a (OW fun _=>(#[]:Array NN))).objs.size=s.heap.objs.size:=Q1 ..;unfold ksk_tree;refine NO (Uq ho rfl ?_);refine NO (QR ho rfl ?_ (by rw [NY]; lia) (O1 _));generalize s.heap.update a (OW fun _=>(#[]:Array NN))=g0 at sb hc Fa Na hsz;refine NO (Sv hc rfl ?_);refine NO (U7 ?_ (by show vs.length≤_; lia));refine NO (RD ?_ (O1 _));refine Pw ?_;have Fb:=Fa.push (OS "tuple" vs.toArray 0);have hb1:(g0.push (OS "tuple" vs.toArray 0)).objs.size=‹4›+1:=by rw [Tc,hsz]
 have keep:∀ b o,g0.get? b=some o→((g0.push (OS "tuple" vs.toArray 0)).push (OS "list" #[] 0)).get? b=some o:=fun b o q=>NT _ (NT _ q);have lL:=Fb.ns.lt;have atS:((g0.push (OS "tuple" vs.toArray 0)).push (OS "list" #[] 0)).get? (g0.push (OS "tuple" vs.toArray 0)).objs.size=some (OS "list" #[] 0):=OK _ rfl;refine GI (s:={ s with heap:=(g0.push (OS "tuple" vs.toArray 0)).push (OS "list" #[] 0) }) atS hb (h _ c _ (Fb.push _) (fun q hq=>?_) (by rw [hb1]; exact Qg lt0));rcases NU.mp hq with rfl | hq
 ·exact ⟨atS,QH lL,Rk (ON F.above (Q5 lL))⟩
 ·rcases NU.mp hq with rfl | hq
  ·exact ⟨keep _ _ hc,haL,ha0⟩
  ·exact ⟨keep _ _ (Na q hq).1,(Na q hq).2⟩
theorem zf {l:NP} {kw:List (OX×NN)} {Q:NN→NS→Prop} (F:Fr h₀ L s.heap m) (N:WV h₀ L s.heap news) (hl:s.heap.IsList l vs.toArray) (hb:vs.length≤100000) (ha1:Uk "sorted" ⟨[.ref l],kw⟩) (ha2:∀ x,Uk "list.sort" ⟨[.ref x],kw⟩) (ht:∀ x,Ru.«list.sort» ⟨[.ref x],kw⟩=ksk_tree x f false)
 (h:∀ D kS e1 h',Fr h₀ L h' m→WV h₀ L h' ((kS,OS "list" #[] 0)::(D,OS "list" #[] e1)::news)→D<kS→(∀ q∈news,q.1<D)→Wn prog w A.in1.in1 h₀ L m kS f (B0 prog w A.in1.in1 h₀ L m kS D vs e1 fun s4=>Q (.ref D) s4) vs [] 0 { s with heap:=h' }) :
 Ou ‹10› A (call (.builtin "sorted") [.ref l] kw) Q E s:=by
 have hline:NM=16777216:=OA;refine call_function_entry_kw Wa VN VO ha1 ?_;unfold Ru.«sorted»;refine NO (m:=WC "sorted" 1 1 _) (Oh ?_);refine NO (VP hl ?_ (by lia));refine NO (RD ?_ (by lia));have hsz:((s.heap.push (OS "list" #[] 0)).update ‹4› (OW (·++vs.toArray))).objs.size=‹4›+1:=(Q1 ..).trans (Tc ..);have kp:∀ b o,s.heap.get? b=some o→((s.heap.push (OS "list" #[] 0)).update ‹4› (OW (·++vs.toArray))).get? b=some o:=fun b o e=>by rw [SI _ _ _ _ (OE (Ob e))];exact NT _ e
 generalize (s.heap.push (OS "list" #[] 0)).update ‹4› (OW (·++vs.toArray))=g0 at hsz kp;have low:∀ {b},b<‹4›→b<g0.objs.size:=fun {b} e=>by rw [hsz]; exact Qg e
 have kp2:∀ b o,s.heap.get? b=some o→(g0.push ‹35›).get? b=some o:=fun b o e=>NT _ (kp b o e);have hD:(g0.push ‹35›).get? g0.objs.size=some ‹35›:=OK _ rfl;have lL:L<s.heap.objs.size:=F.ns.lt;show Ou _ _ _ _ _ { s with heap:=g0.push ‹35› };refine NO (Pw (wpAny_call_entry_kw U8 ⟨_,hD,rfl⟩ UG ?body (ha2 _)));have e0:=ht g0.objs.size;show Ou ‹10› A.in1.in1 (Ru.«list.sort» ⟨[.ref g0.objs.size],kw⟩) _ _ _;rw [e0];refine Fc (s:={ s with heap:=g0.push ‹35› }) (F.kept kp2) (N.grown kp2) hD (QH (low lL)) (Rk (ON F.above (Q5 (low lL)))) (fun q hq=>OE (low (Ob (N q hq).1))) hb fun kS e1 h' F' N' l0=>?_;refine kat_keys_mono (h _ kS e1 h' F' N' l0 fun q hq=>low (Ob (N q hq).1)) fun ks e s' _ z=>?_;obtain ⟨lt,big,fin⟩:=z;exact ⟨lt,big,fun p pm up=>(fin p pm up).mono fun s4 hq=>⟨_,rfl,Oh ⟨_,rfl,hq⟩⟩⟩
end
end Tm
namespace L2
variable {o:Qz}
open PySem PySem.Spec PyProof.Rows
section
variable {X:Cx} {pins:List (NP×Qz)} {σ:St} {H:Hp} {s:NS} {m:OX→Option NN} {h':PM} {kS:NP} {ok:Qz}
theorem Inv.Nb (I:Inv X pins σ H s) (hm:s.heap.Ns ‹29› m):Fr X.base ‹29› s.heap m:=⟨hm,I.bk,ON I.ok.Dy I.ok.above⟩
theorem C3 (F':Fr X.base ‹29› h' m) (N':WV X.base ‹29› h' ((kS,o)::rest X.base s.heap ‹29› kS)) (I:Inv X pins σ H s):∀ b v,b≠‹29›→b≠kS→s.heap.get? b=some v→h'.get? b=some v:=fun b v hb hk q=>by
 cases e:X.base.get? b with
 | some y =>have e1:=I.bk b y e;rw [q] at e1;cases e1;exact F'.keep b v e
 | none=>exact (N' (b,v) (NI _ (OJ.mpr ⟨ik hb e q,by simpa using hk⟩))).1
theorem Inv.Bb {t':Nat} (I:Inv X pins σ H s) (hm:s.heap.Ns ‹29› m) (F':Fr X.base ‹29› h' m) (N':WV X.base ‹29› h' ((kS,o)::rest X.base s.heap ‹29› kS))
 (h0:H kS=none) (h1:‹22›≤kS) (h2:kS≠‹29›) (h3:∀ x c,X.env.cells.lookup x=some c→c≠kS) (h4:∀ p∈X.pn++pins,p.1≠kS):Inv X pins σ H { s with heap:=h',toks:=t' }:=by
 have keep:=C3 F' N' I;refine I.step (g':=s.gens) (d':=s.drawn) (ch:=[kS]) (fun b hb=>?_) (fun b v q1 _ q2 q _=>keep b v q1 (fun z=>q2 (by rw [z]; exact NL.mpr rfl)) q) (fun b v q1 _ q2 q _=>⟨v.slots,keep b v q1 (fun z=>q2 (by rw [z]; exact NL.mpr rfl)) q⟩) (fun _ _ _ _ n=>n) (fun b v hb q=>?_) (fun _ _ q=>q) (fun _ _ _ q=>q) (fun b ps q=>⟨#[],by rw [q]; simp⟩) (fun m' hm'=>?_) (fun b w q=>?_) I.bare
 ·rw [NL.mp hb]; exact ⟨.inr h1,h2,h3,h4⟩
 ·by_cases hL:b=‹29›
  ·subst hL;obtain ⟨o2,_,_,e2,_⟩:=F'.ns;exact ⟨o2,e2⟩
  ·exact ⟨v,keep b v hL (fun z=>hb (by rw [z]; exact NL.mpr rfl)) q⟩
 ·have e1:=hm'.eq_nsMap;have e2:=hm.eq_nsMap;rw [e1,← e2];exact F'.ns
 ·have nL:∀ b w,H b=some w→b≠X.env.locals:=fun b w q z=>by rw [z,I.free] at q; cases q
  have nK:∀ b w,H b=some w→b≠kS:=fun b w q z=>by rw [z,h0] at q; cases q
  refine (I.cG b w q).sv (fun c y hc r=>keep c y ?_ ?_ r) (fun _ r=>r) fun _ _ r=>r
  ·rcases hc with rfl | hc
   ·exact nL _ _ q
   ·exact nL _ _ hc
  ·rcases hc with rfl | hc
   ·exact nK _ _ q
   ·exact nK _ _ hc
end
def DC (H H':Hp):Prop:=∀ b u,H b=some u→H' b=some u
variable {H:Hp}
theorem pJ.grow {mg:OX→Option NN} {H':Hp} {q:OX} {params:Se} {body:Pt} {scope:Q3} {cl:List (OX×NP)} (L:pJ mg H q params body scope cl o) (g:DC H H'):pJ mg H' q params body scope cl o:=by obtain ⟨c,ct,oc,u,vs,t,e1,e2,e3⟩:=L;exact ⟨c,ct,oc,u,vs,t,e1,g _ _ e2,e3⟩
variable {kw:List (OX×NN)} {a:NP} {vs:List V} {Q:VK}
def lN (te:TE) (fs:List (Option V)) (Fin:List V→Hp→Prop):List V→List V→Hp→Prop
 | [],ks,H=>Fin ks H
 | v::r,ks,H=>te (some v::fs) H fun k H'=>DC H H'∧lN te fs Fin r (ks++[k]) H'
section
variable {X:Cx} {pins:List (NP×Qz)} {σ:St} {m:OX→Option NN} {kS f:NP} {o:Qz} {q:OX} {params:Se} {body:Pt} {scope:Q3} {cl:List (OX×NP)} {A:O3} {x:OX} {zs:List OX} {is:List Nat} {te:TE} {Fin:List V→Hp→Prop}
theorem x6 (fr:jA X x zs is scope cl) (hA:A.frames=some X.stack) (hh:A.handled=none) (hroom:A.depth<Rn)
 (hb:∀ (c:NP) (ct u:NN),QA ‹13› ⟨[u],[]⟩=pure [(x,u)])
 (he:∀ f c s H pins,PE (pE X (x::zs) q scope cl f c A s H pins) body te) (hf:(f,o)∈pins) (h1:‹22›≤kS) (h4:∀ p∈X.pn++pins,p.1≠kS):∀ {r:List V} {rv:List NN} {ks:List V} {kvs:List NN} {e:Nat} {H:Hp} {s:NS},
 Vals r rv→Vals ks kvs→Inv X (pins++[(kS,OS "list" kvs.toArray e)]) σ H s→s.heap.Ns ‹29› m→pJ X.mg H q params body scope cl o→lN te (is.map fun i=>(σ[i]?).join) Fin r ks H →
 PySem.W.KatKeys X.prog X.w A X.base ‹29› m kS (.ref f) (fun kvs' e' s'=>∃ ks' H',Inv X (pins++[(kS,OS "list" kvs'.toArray e')]) σ H' s'∧s'.heap.Ns ‹29› m∧Vals ks' kvs'∧Fin ks' H') rv kvs e s
 | [],_,ks,kvs,e,H,s,.nil,rk,I,hm,L,h=>W2 ⟨ks,H,I,hm,rk,h⟩
 | v::r,_,ks,kvs,e,H,s,.cons rv1 rv,rk,I,hm,L,h=>by
  refine WY (Px (E8 I L (NQ _ (Ol _ hf)) fr hA hh hroom hb he rv1 h) (fun k s' hq=>?_) fun _ _ z=>z);obtain ⟨⟨y,H',J,ry,g,hk⟩,hns⟩:=hq;have hm':=hns m hm;obtain ⟨p1,p2,p3,p4,p5⟩:=J.pin (kS,OS "list" kvs.toArray e) (NQ _ (NQ _ (NL.mpr rfl)))
  have hbase:X.base.get? kS=none:=by
   cases eb:X.base.get? kS with
   | none=>rfl
   | some y=>exact absurd (Ot (Ob eb) (ON J.ok.Dy h1)) (Pe _)
  refine WU (J.Nb hm') (vF p3 hbase p1) (.head fun p hp=>by simpa using (OJ.mp hp).2) fun h2 c F2 N2=>?_;have J0:Inv X pins σ H' s':=J.gR;have cells:∀ x c,X.env.cells.lookup x=some c→c≠kS:=fun x c e z=>by obtain ⟨v,o,ho,hd⟩:=J.cell x c e;rw [z,p1] at ho;cases ho;exact p5 v hd
  have J1:Inv X pins σ H' { s' with heap:=h2,toks:=s'.toks }:=J0.Bb hm' F2 N2 p2 h1 p3 cells h4
  have J2:Inv X (pins++[(kS,OS "list" (kvs++[k]).toArray c)]) σ H' { s' with heap:=h2,toks:=s'.toks }:=J1.kW fun p hp=>by
   rcases NZ.mp hp with hp | hp
   ·exact J1.pin p (NQ _ hp)
   ·cases NL.mp hp;exact ⟨(N2 _ NJ).1,p2,p3,p4,fun v z=>by cases z⟩
  exact x6 fr hA hh hroom hb he hf h1 h4 rv (rk.append (.cons ry .nil)) J2 F2.ns (L.grow g) hk
structure Nil (X:Cx) (pins:List (NP×Qz)) (H:Hp) (b:NP):Prop where
 h:H b=none
 cell:∀ x c,X.env.cells.lookup x=some c→c≠b
 pin:∀ p∈X.pn++pins,p.1≠b
 fs:b∉X.fs
theorem Inv.nil {s:NS} (I:Inv X pins σ H s) {b:NP} (e:s.heap.get? b=none):Nil X pins H b where
 h:=by
  cases q:H b with
  | none=>rfl
  | some o=>obtain ⟨u,hu⟩:=(I.cG b o q).live; rw [e] at hu; cases hu
 cell:=fun x c q z=>by obtain ⟨v,o,ho,_⟩:=I.cell x c q;rw [z,e] at ho; cases ho
 pin:=fun p hp z=>by have:=(I.pin p hp).1;rw [z,e] at this; cases this
 fs:=fun z=>by obtain ⟨_,o,ho,_⟩:=I.ok.oR.mem z;obtain ⟨o',h'⟩:=I.base.there b o ho fun hx=>I.ok.Fq b hx z;rw [e] at h'; cases h'
theorem wG {xs:List V} {us:List NN} (h:Vals xs us):∀ {l:List Nat},(∀ i∈l,i<xs.length)→Vals (l.map fun i=>xs.getD i .non) (l.map fun i=>us.getD i Qs)
 | [],_=>.nil
 | i::l,hl=>by
  have hi:=hl i NJ;obtain ⟨w,ew,rw'⟩:=h.get (NG hi);refine .cons ?_ (wG h fun j hj=>hl j (NI _ hj));have ev:xs.getD i .non=xs[i]:=by rw [NF,NG hi]; rfl
  have eu:us.getD i Qs=w:=by rw [NF,ew]; rfl
  show RelV (xs.getD i .non) (us.getD i Qs);rw [ev,eu];exact rw'
noncomputable def yK (vs:List V) (Q:VK) (ks:List V) (H:Hp):Prop:=∃ (ps:List NP) (kz:List (List Int)),ks=ps.map V.ref∧Hy H ps kz ∧
 ∀ idx:List Nat,idx.Perm (N4 kz.length)→(idx.Pairwise fun i j=>lexLt (kz.getD j []) (kz.getD i [])=false)→∀ D,H D=none→Q (.ref D) (upd H D (.lst (idx.map fun i=>vs.getD i .non)))
theorem yc {us:List NN} {y z:List Int} (a:RI us y) (b:RI us z):y=z:=by
 induction a generalizing z with
 | nil=>cases b; rfl
 | cons x t _ ih=>cases b with | cons x' t' r=>rw [ih r]
theorem DR {ps:List NP} {kz:List (List Int)} {s:NS} {kvs:List NN} (tz:Hy H ps kz) (J:Inv X pins σ H s) (rk:Vals ‹41› kvs) (h2:2≤kvs.length):∃ κ,(∀ Q':P7→NS→Prop,Q' κ s→Ou ‹3› X.A.in1.in1 (WD (List.toArray kvs)) Q' (fun _ _=>False) s)∧Tm.FZ X.prog X.w X.A.in1.in1 s κ kvs fun i j=>lexLt (kz.getD i []) (kz.getD j []):=by
 have hlp:ps.length=kz.length:=Qd tz;have ek:=Bc rk;subst ek;rw [NH] at h2;have it:∀ i,i<kz.length→∃ p z o us n,ps[i]?=some p∧kz[i]?=some z∧z≠[]∧s.heap.get? p=some o∧o.cls=.type "tuple" ∧ o.data=.seq us.toArray n∧RI us z:=fun i hi=>by obtain ⟨p,e1,g1,g2⟩:=VL.Paired.Df tz (NG hi);obtain ⟨o,us,n,k1,k2,k3,k4⟩:=B6 J g2;exact ⟨p,_,o,us,n,e1,NG hi,g1,k1,k2,k3,k4⟩
 obtain ⟨fs,kt,fl,ff⟩:=x8 (h:=s.heap) (ps:=ps) fun p hp=>by
  obtain ⟨i,hi,rfl⟩:=Sw.mp hp;obtain ⟨p',z,o,us,n,e1,e2,g1,k1,k2,k3,k4⟩:=it i (by lia);rw [NG hi] at e1;cases e1;cases k4 with
  | nil=>exact absurd rfl g1
  | cons x t r=>exact ⟨o,_,n,x,t,_,k1,k2,k3,rfl⟩
 have gat:∀ i p,ps[i]?=some p→(ps.map O2).getD i Qs=.ref p:=fun i p e=>by rw [NF,NR,e]; rfl
 refine ⟨_,fun Q' hq=>PySem.W.kat_kind (T:=.type "int") kt (by lia) (fun v hv=>?_) ‹11› hq,Bt fun i=>kz.getD i [],fun i j hi hj e=>?_,fun i j C hi hj hC=>?_⟩
 ·obtain ⟨x,t,rfl⟩:=ff v hv;exact PySem.W.Looks.of_pure rfl
 ·rw [NH] at hi hj;obtain ⟨p,z,o,us,n,e1,e2,g1,k1,k2,k3,k4⟩:=it i (by lia);obtain ⟨p',z',o',us',n',e1',e2',g1',k1',k2',k3',k4'⟩:=it j (by lia);rw [gat i p e1,gat j p' e1'] at e;cases e;rw [k1] at k1';cases k1';rw [k3] at k3';have eu:us=us':=by injection k3' with q _;exact V4 q
  subst eu;have ez:z=z':=yc k4 k4';have zi:kz.getD i []=z:=by rw [NF,e2]; rfl
  have zj:kz.getD j []=z':=by rw [NF,e2']; rfl
  intro k;rw [zi,zj,ez];exact ⟨rfl,rfl⟩
 ·rw [NH] at hi hj;obtain ⟨p,z,o,us,n,e1,e2,g1,k1,k2,k3,k4⟩:=it i (by lia);obtain ⟨p',z',o',us',n',e1',e2',g1',k1',k2',k3',k4'⟩:=it j (by lia);have ei:(ps.map O2).getD i Qs=.ref p:=by rw [NF,NR,e1]; rfl
  have ej:(ps.map O2).getD j Qs=.ref p':=by rw [NF,NR,e1']; rfl
  have zi:kz.getD i []=z:=by rw [NF,e2]; rfl
  have zj:kz.getD j []=z':=by rw [NF,e2']; rfl
  show Ou _ _ (keyLt' _ ((ps.map O2).getD i Qs) ((ps.map O2).getD j Qs)) _ _ _;rw [ei,ej];rw [zi,zj] at hC;refine PySem.W.kat_lt k1 k3 k1' k3' ?_;have l1:=R7 k4;have l2:=R7 k4';have lx:=yb (prog:=X.prog) (w:=X.w) (A:=X.A.in1.in1) (s:=s) 0 k4 k4' hC;rw [← l1,← l2] at lx;exact lx
theorem Cn {s:NS} (I:Inv X (pins++[(f,o)]) σ H s) (hff:∀ p∈X.pn++pins,p.1≠f) (hf0:‹22›≤f) (L:pJ X.mg H q params body scope cl o)
 (fr:jA X x zs is scope cl) (hh:X.A.handled=none) (hroom:X.A.in1.in1.depth<Rn) (hA:X.A.in1.in1.frames=some X.stack) (hh2:X.A.in1.in1.handled=none)
 (hb:∀ (c:NP) (ct u:NN),QA ‹13› ⟨[u],[]⟩=pure [(x,u)])
 (he:∀ f c s H pins,PE (pE X (x::zs) q scope cl f c X.A.in1.in1 s H pins) body te)
 (hq:dQ X.K H a vs) (h64:vs.length<800) (h:lN te (is.map fun i=>(σ[i]?).join) Fin vs [] H) (hg:∀ ks H,ks.length=vs.length→Fin ks H→yK vs Q ks H)
 (ha1:Uk "sorted" ⟨[.ref a],kw⟩) (ha2:∀ x,Uk "list.sort" ⟨[.ref x],kw⟩) (ht:∀ x,Ru.«list.sort» ⟨[.ref x],kw⟩=UL x (.ref f) false) :
 Ou ‹3› X.A (call (.builtin "sorted") [.ref a] kw) ‹52› X.xe s:=by
 obtain ⟨its,rv,pl,_⟩:=I.list hq;have hlv:its.length=vs.length:=rv.length.symm;obtain ⟨m,F⟩:=I.fr
 have fin:(f,o)∈nE X.base s.heap X.env.locals:=by
  obtain ⟨p1,p2,p3,p4,p5⟩:=I.pin (f,o) (NQ _ (NQ _ (NL.mpr rfl)));refine ik p3 ?_ p1;cases eb:X.base.get? f with
  | none=>rfl
  | some y=>exact absurd (Ot (Ob eb) (ON I.ok.Dy hf0)) (Pe _)
 refine Tm.zf (vs:=its) (f:=.ref f) F (xQ (h:=s.heap)) pl.isList (by lia) ha1 ha2 ht fun D kS e1 h' F' N' hDk hlt=>?_;have nK:=N' _ NJ;have nD:=N' _ (NI _ NJ);have fD:f<D:=hlt _ fin
 have gD:s.heap.get? D=none:=by
  cases e:s.heap.get? D with
  | none=>rfl
  | some o=>exact absurd (hlt (D,o) (ik nD.2.1 nD.2.2 e)) (Pe _)
 have gK:s.heap.get? kS=none:=by
  cases e:s.heap.get? kS with
  | none=>rfl
  | some o=>exact absurd (VH hDk (hlt (kS,o) (ik nK.2.1 nK.2.2 e))) (Pe _)
 have s0D:‹22›≤D:=ON hf0 (Q5 fD);have s0K:‹22›≤kS:=ON s0D (Q5 hDk);have zD:=I.nil gD;have zK:=I.nil gK
 have N2:WV X.base ‹29› h' ((kS,OS "list" #[] 0)::rest X.base s.heap ‹29› kS):=fun p hp=>by
  rcases NU.mp hp with rfl | hp
  ·exact nK
  ·exact N' p (NI _ (NI _ (OJ.mp hp).1))
 have I1:Inv X (pins++[(f,o)]) σ H { s with heap:=h',toks:=s.toks }:=I.Bb F.ns F' N2 zK.h s0K nK.2.1 zK.cell zK.pin
 have I2:Inv X ((pins++[(f,o),(D,OS "list" #[] e1)])++[(kS,OS "list" ([]:List NN).toArray 0)]) σ H { s with heap:=h',toks:=s.toks }:=I1.kW fun p hp=>by
  rcases NZ.mp hp with hp | hp
  ·rcases NZ.mp hp with hp | hp
   ·exact I1.pin p (NQ _ (Ol _ hp))
   ·rcases NU.mp hp with rfl | hp
    ·exact I1.pin _ (NQ _ (NQ _ (NL.mpr rfl)))
    ·cases NL.mp hp;exact ⟨nD.1,zD.h,nD.2.1,zD.fs,fun v z=>by cases z⟩
  ·cases NL.mp hp;exact ⟨nK.1,zK.h,nK.2.1,zK.fs,fun v z=>by cases z⟩
 have h4:∀ p∈X.pn++(pins++[(f,o),(D,OS "list" #[] e1)]),p.1≠kS:=fun p hp=>by
  rcases NZ.mp hp with hp | hp
  ·exact zK.pin p (Ol _ hp)
  ·rcases NZ.mp hp with hp | hp
   ·exact zK.pin p (NQ _ (Ol _ hp))
   ·rcases NU.mp hp with rfl | hp
    ·exact zK.pin _ (NQ _ (NQ _ (NL.mpr rfl)))
    ·cases NL.mp hp;exact OE hDk
 refine PySem.W.kat_keys_mono (x6 fr hA hh2 hroom hb he (NQ _ NJ) s0K h4 rv .nil I2 F'.ns L h) fun kvs e3 s3 hl3 hfin=>?_;obtain ⟨ks,H3,J,hm3,rk,fin⟩:=hfin;have hl3:kvs.length=vs.length:=by rw [hl3,Pm]; lia
 have hlz:=rk.length;obtain ⟨ps,kz,rfl,tz,qf⟩:=hg _ _ (by lia) fin;have hlp:ps.length=kz.length:=Qd tz;refine ⟨fun i j=>lexLt (kz.getD i []) (kz.getD j []),fun h2=>DR tz J rk (by lia),fun p pm upw=>?_⟩;have hlk:its.length=kvs.length:=by lia
 rw [hlk] at pm;have hlen:p.length=kvs.length:=by rw [pm.length_eq,Oc]
 have lt_:∀ i∈p,i<kvs.length:=fun i hi=>Ow.mp (pm.mem_iff.mp hi);obtain ⟨p1,p2,p3,p4,p5⟩:=J.pin (kS,OS "list" kvs.toArray e3) (NQ _ (NQ _ (NL.mpr rfl)));refine PySem.W.KatFin.intro (J.Nb hm3) (vF p3 nK.2.2 p1) (.head Ba) fun h5 c5 F5 N5=>?_;have cells:∀ x c,X.env.cells.lookup x=some c→c≠kS:=fun x c e z=>by obtain ⟨v,o,ho,hd⟩:=J.cell x c e;rw [z,p1] at ho;cases ho;exact p5 v hd
 have J5:Inv X (pins++[(f,o),(D,OS "list" #[] e1)]) σ H3 { s3 with heap:=h5,toks:=s3.toks }:=(Inv.gR J).Bb hm3 F5 N5 p2 s0K p3 cells h4;obtain ⟨d1,d2,d3,d4,d5⟩:=J5.pin (D,OS "list" #[] e1) (NQ _ (NQ _ (NI _ (NL.mpr rfl))));refine PySem.W.KasFin.intro F5 (vF d3 nD.2.2 d1) (.head Ba) fun h6 c6 F6 N6=>?_;have J6:Inv X pins σ H3 { s3 with heap:=h5,toks:=s3.toks }:=J5.gR;have cellsD:∀ x c,X.env.cells.lookup x=some c→c≠D:=fun x c e z=>by obtain ⟨v,o,ho,hd⟩:=J5.cell x c e;rw [z,d1] at ho;cases ho;exact d5 v hd
 have pinD:∀ p∈X.pn++pins,p.1≠D:=fun p hp=>by
  refine zD.pin p ?_;rcases NZ.mp hp with hp | hp
  ·exact Ol _ hp
  ·exact NQ _ (Ol _ hp)
 have J7:Inv X pins σ H3 { s3 with heap:=h6,toks:=s3.toks }:=J6.Bb F5.ns F6 N6 d2 s0D d3 cellsD pinD;have out:Out X pins H3 D:=⟨d2,Rk s0D,d3,cellsD,pinD⟩
 have rvs:=wG rv (l:=p) fun i hi=>by have:=lt_ i hi; lia
 refine ⟨.ref D,upd H3 D (.lst (p.map fun i=>vs.getD i .non)),J7.K3 out ?_,rfl,qf p ?_ upw D d2⟩
 ·refine ⟨by rw [NH,hlen]; have:=OA; lia,_,c6,rvs,?_⟩;exact (N6 _ NJ).1
 ·rw [NH] at hlz;rw [← hlp,hlz];exact pm
end
section
open PySem.Calls
section
variable {X:Cx} {pins:List (NP×Qz)} {σ:St} {m:OX→Option NN} {kS f:NP} {o:Qz} {q:OX} {params:Se} {body:Pt} {scope:Q3} {cl:List (OX×NP)} {A:O3} {x:OX} {zs:List OX} {is:List Nat} {te:TE} {Fin:List V→Hp→Prop}
theorem Ck {s:NS} {k:Nat} (I:Inv X (pins++[(f,o)]) σ H s) (hff:∀ p∈X.pn++pins,p.1≠f) (hf0:‹22›≤f) (L:pJ X.mg H q params body scope cl o)
 (fr:jA X x zs is scope cl) (hr:eQ k X.A) (hc:X.calm=true)
 (hb:∀ (c:NP) (ct u:NN),QA ‹13› ⟨[u],[]⟩=pure [(x,u)])
 (he:∀ f c s H pins,PE (pE X (x::zs) q scope cl f c X.A.in1.in1 s H pins) body te)
 (hq:dQ X.K H a vs) (h64:vs.length<800) (h:lN te (is.map fun i=>(σ[i]?).join) Fin vs [] H) (hg:∀ ks H,ks.length=vs.length→Fin ks H→yK vs Q ks H)
 (ha1:Uk "sorted" ⟨[.ref a],kw⟩) (ha2:∀ x,Uk "list.sort" ⟨[.ref x],kw⟩) (ht:∀ x,Ru.«list.sort» ⟨[.ref x],kw⟩=UL x (.ref f) false) :
 Ou ‹3› X.A (call (.builtin "sorted") [.ref a] kw) ‹52› X.xe s:=by
 have room:X.A.in1.in1.depth<Rn:=by have:=hr.dp;show X.A.depth < _;lia
 have hh:=I.ok.hd hc;exact Cn I hff hf0 L fr hh room I.ok.frames hh hb he hq h64 h hg ha1 ha2 ht
noncomputable def yV (K:NK) (P:NP) (q:OX) (tl te:TE) (is:List Nat):TE:=fun σ H Q=>tl σ H fun v H1=>∃ (a:NP) (vs:List V) (ps:Array NN) (t:WO),v=.ref a∧dQ K H1 a vs∧vs.length<800∧H1 P=some (.tbl ps)∧ps[0]?=some (.str q t) ∧
 ∀ H2,DC H1 H2→lN te (is.map fun i=>(σ[i]?).join) (yK vs Q) vs [] H2
theorem xF {K:NK} {c P:NP} {l:Pt} {tl:TE} {p lpos kpos cpos:SY} {k:Nat} (hK:X.K=K) (lo:IF X c P) (hr:eQ k X.A) (hc:X.calm=true) (hg:Gl X "sorted") (hm:X.mg "sorted" = none) (hl:PE X l tl) (fr:jA X x zs is scope cl)
 (hq:X.env.qual ++ "<lambda>" = q) (hcl:RQ scope X.env=pure cl)
 (he:∀ f c s H pins,PE (pE X (x::zs) q scope cl f c X.A.in1.in1 s H pins) body te)
 (hdef:defaultsOf params X.env=([],[]):=by rfl)
 (hb:∀ (c:NP) (ct u:NN),QA ‹13› ⟨[u],[]⟩=pure [(x,u)]:=by intro _ _ _; rfl)
 (hst:Pn [l] X.env=[(false,eval l X.env)]:=by rfl) (hv:Pr "sorted" = some (.builtin "sorted"):=by rfl) :
 PE X (.Call (.Name "sorted" p) [l] [⟨some "key", .Lambda params body scope lpos,kpos⟩] cpos) (yV K P q tl te is):=by
 subst hK;intro pins s σ H Q I h;refine Q7 (km I hg hm hv ?_ ‹11› ‹11›);refine TJ (e:=l) (rest:=[]) ?_ (by rw [hst]; rfl) (by rw [hst]; rfl) rfl rfl;have ha:=aa hl ag (hs:=by rw [hst]; rfl)
 refine cB (ha cpos pins s σ H (fun xs H1=>match xs with
  | [v]=>∃ (a:NP) (vs:List V) (ps:Array NN) (t:WO),v=.ref a∧dQ X.K H1 a vs∧vs.length<800∧H1 P=some (.tbl ps)∧ps[0]?=some (.str q t)∧∀ H2,DC H1 H2→lN te (is.map fun i=>(σ[i]?).join) (yK vs Q) vs [] H2
  | _=>False) I h) fun us s1 ⟨vs0,H1,I1,r1,q1⟩=>?_
 match vs0,q1 with
 | [v],q1 =>
 obtain ⟨a,vs,ps,t,rfl,hsq,h64,hP,h0,hw⟩:=q1;cases r1 with
 | cons r1 r2 =>
 cases r2;cases (show _=O2 a from r1);show Ou _ _ (evalAll [(do let v ← eval (.Lambda params body scope lpos) X.env; Wm cpos; pure v)]) _ _ s1;refine Vt (NO (cB (E7 lo I1 hP h0 hq hcl hdef) fun u s2 ⟨f,o,H2,eu,I2,gr,pf,s0f,L⟩=>NO (RB (Oh (wpAny_evalAll_nil ?_)))));subst eu
 have hs2:dQ X.K H2 a vs:=by
  rcases hsq with (z | ⟨o,z⟩) | z
  ·exact .inl (.inl (gr _ _ z))
  ·exact .inl (.inr ⟨o,gr _ _ z⟩)
  ·exact .inr z
 exact Ck I2 pf s0f L fr hr hc hb he hs2 h64 (hw H2 gr) (fun _ _ hl h=>h) (PyProof.Rows.ksk_s1 _ _) (fun _=>PyProof.Rows.ksk_l1 _ _) (fun x=>PyProof.Rows.ksk_t1 f x)
end
end
end L2
namespace VL
variable {cs:List Nat} {ρ:aK}
open PySem L2
section
open Classical
section
variable [bB] {K:NK}
def kR (cs:List Nat) (ρ:aK) (d:D):aK:=(r0 1 cs ρ).set 0 (.pu d)
def jZ (kf:D→List Int) (ds:List D):List D:=ds.mergeSort fun x y=>!L2.lexLt (kf y) (kf x)
omit [bB] in
theorem gU (kf:D→List Int) (ds:List D):(jZ kf ds).Perm ds:=SG _ _
omit [bB] in
theorem qP (kf:D→List Int) (ds:List D):(jZ kf ds).Pairwise fun a b=>L2.lexLt (kf b) (kf a)=false:=by
 have h:=RU (le:=fun x y=>!L2.lexLt (kf y) (kf x)) (fun a b c h1 h2=>by
  rw [Tx] at h1 h2 ⊢;exact rE _ _ _ h1 h2) (fun a b=>by
  cases e:L2.lexLt (kf b) (kf a) with
  | false=>rfl
  | true=>simp [rF _ _ e]) ds
 exact h.imp fun h=>by simpa using h
omit [bB] in
theorem EY {kf:D→List Int}:∀ {ds:List D},(ds.map kf).Nodup→∀ {a b:D},a∈ds→b∈ds→kf a=kf b→a=b
 | d::ds,h,a,b,ha,hb,e=>by
  rw [Oq] at h;obtain ⟨h1,h2⟩:=Of.mp h;rcases NU.mp ha with ea | ha2
  ·rcases NU.mp hb with eb | hb2
   ·rw [ea,eb]
   ·exact absurd (show kf d∈ds.map kf from NW.mpr ⟨b,hb2,by rw [← e,ea]⟩) h1
  ·rcases NU.mp hb with eb | hb2
   ·exact absurd (show kf d∈ds.map kf from NW.mpr ⟨a,ha2,by rw [e,eb]⟩) h1
   ·exact EY h2 ha2 hb2 e
omit [bB] in
theorem qQ {kf kg:D→List Int} {xs ds:List D} (hk:∀ d∈ds,kf d=kg d) (hn:(ds.map kf).Nodup) (p:xs.Perm ds) (h:xs.Pairwise fun a b=>L2.lexLt (kg b) (kg a)=false):xs=jZ kf ds:=by refine RE (le:=fun a b=>L2.lexLt (kf b) (kf a)=false) (fun a b ha hb h1 h2=>EY hn (p.mem_iff.mp ha) ((gU kf ds).mem_iff.mp hb) (vL _ _ h2 h1)) ?_ (qP kf ds) (p.trans (gU kf ds).symm);refine PQ (fun {a b} ha hb z=>?_) h;rw [hk a (p.mem_iff.mp ha),hk b (p.mem_iff.mp hb)];exact z
noncomputable def mD (cs:List Nat) (a e:DE):aK→Option (List D):=fun ρ=>match fH a ρ with
 | some ds=>if h:∃ kf:D→List Int,(∀ d∈ds,e (kR cs ρ d)=some (qE (kf d))∧kf d≠[])∧(ds.map kf).Nodup∧ds.length<800 then some (jZ h.choose ds) else none
 | none=>none
omit [bB] in
theorem Dk {a e:DE} {ds:List D} (kf:D→List Int) (h:fH a ρ=some ds) (hk:∀ d∈ds,e (kR cs ρ d)=some (qE (kf d))∧kf d≠[]) (hn:(ds.map kf).Nodup) (hl:ds.length<800):mD cs a e ρ=some (jZ kf ds):=by
 have hh:∃ kf:D→List Int,(∀ d∈ds,e (kR cs ρ d)=some (qE (kf d))∧kf d≠[])∧(ds.map kf).Nodup∧ds.length<800:=⟨kf,hk,hn,hl⟩
 unfold mD;rw [h];show (if h:∃ kf:D→List Int,(∀ d∈ds,e (kR cs ρ d)=some (qE (kf d))∧kf d≠[])∧(ds.map kf).Nodup∧ds.length<800 then some (jZ h.choose ds) else none)=_;rw [dif_pos hh];refine congrArg some (qQ (kg:=hh.choose) (fun d hd=>?_) hn (gU _ _) (qP _ _));have h1:=(hk d hd).1;rw [(hh.choose_spec.1 d hd).1] at h1;exact (wK _ _ (OD h1)).symm
omit [bB] in
theorem yp {a e:DE} {es:List D} (h:mD cs a e ρ=some es):∃ (ds:List D) (kf:D→List Int),fH a ρ=some ds∧(∀ d∈ds,e (kR cs ρ d)=some (qE (kf d))∧kf d≠[])∧(ds.map kf).Nodup∧ds.length<800∧es=jZ kf ds:=by
 unfold mD at h;split at h
 ·rename_i ds e1;split at h
  ·rename_i hh;cases h;exact ⟨ds,hh.choose,e1,hh.choose_spec.1,hh.choose_spec.2.1,hh.choose_spec.2.2,rfl⟩
  ·cases h
 ·cases h
theorem vO {H:Hp} {T:NP→Prop} {vs:List V} {ds:List D} (h:IsL K H T vs ds):∀ {idx:List Nat},(∀ i∈idx,i<ds.length)→IsL K H T (idx.map fun i=>vs.getD i .non) (idx.map fun i=>ds.getD i .non)
 | [],_=>.nil
 | i::idx,hl=>by
  have hi:=hl i NJ;obtain ⟨v,e1,i1⟩:=h.get (NG hi);refine .cons ?_ (vO h fun j hj=>hl j (NI _ hj));have ev:vs.getD i .non=v:=by rw [NF,e1]; rfl
  have ed:ds.getD i .non=ds[i]:=by rw [NF,NG hi]; rfl
  show Is K H T (vs.getD i .non) (ds.getD i .non);rw [ev,ed];exact i1
theorem Ei {P:NP} {q:OX} {tl te:TE} {a e:DE} (hP:(P,q)∈bB.ts) (ha:aq K tl a) (he:aq K te e):bF K (yV K P q tl te cs) (mD cs a e):=fun {B Z os ρ σ H Q es} f qq k=>by
 obtain ⟨ds,kf,e0,hk,hn,hl,rfl⟩:=yp qq;obtain ⟨d0,e0,ed⟩:=dU e0;show tl σ H _;refine ha f e0 fun v H1 s1 i1=>?_;obtain ⟨p,vs,rfl,hlv,hln,hr⟩:=i1.seq ed;obtain ⟨hq,il⟩:=hr H1 _ Kp.refl;have f1:=f.grow s1;obtain ⟨t,eP⟩:=f1.l9 _ hP;refine ⟨p,vs,_,t,rfl,hq,by lia,eP,rfl,fun H2 gr=>?_⟩
 have key:∀ (r:List V) (dr dd:List D) (ps:List NP) (H3:Hp),aW H1 H3→IsL K H1 (bW Z os) r dr→dd++dr=ds→Hy H3 ps (dd.map kf)→lN te (cs.map fun i=>(σ[i]?).join) (yK vs Q) r ‹41› H3:=by
  intro r;induction r with
  | nil =>
   intro dr dd ps H3 s3 il3 hd tz;cases il3;rw [OT] at hd;subst hd;refine ⟨ps,dd.map kf,rfl,tz,fun idx pm up Dn hD=>?_⟩;rw [NH] at pm;have lt_:∀ i∈idx,i<dd.length:=fun i hi=>Ow.mp (pm.mem_iff.mp hi)
   have ex:idx.map (fun i=>dd.getD i .non)=jZ kf dd:=by
    refine qQ (kg:=kf) (fun _ _=>rfl) hn ?_ ?_
    ·have:=pm.map fun i=>dd.getD i D.non;have er:(N4 dd.length).map (fun i=>dd.getD i D.non)=dd:=by refine PN (by simp) fun i h1 h2=>?_;simp [h2]
     rw [er] at this;exact this
    ·rw [Pk];refine PQ (fun {i j} hi hj z=>?_) up;have gi:∀ i,i<dd.length→(dd.map kf).getD i []=kf (dd.getD i .non):=fun i hi=>by rw [NF,NR,NG hi,NF,NG hi]; rfl
     rw [gi _ (lt_ i hi),gi _ (lt_ j hj)] at z;exact z
   have hs:NM=16777216:=OA;have il4:=(vO ((hr H1 _ Kp.refl).2.same s3) (idx:=idx) lt_)
   rw [ex] at il4;exact k Dn _ _ ((s1.trans s3).trans (bO hD)) (aW.free (s1.trans s3) hD) aN (by rw [NH,pm.length_eq,Oc]; lia) (il4.kp (iI hD))
  | cons v r ih =>
   intro dr dd ps H3 s3 il3 hd tz;cases il3 with
   | @cons _ d _ dr' iv ir =>
    have hdm:d∈ds:=by rw [← hd]; exact NQ _ NJ
    have ef:=sf (k:=1) (cs:=cs) f1 s3 (W:=bW Z os) (fun a z=>let ⟨o,e⟩:=f1.B9 a z; ⟨o,s3 _ _ e⟩) (Kp.same s3);have hg:wk K true (iT 0) (gN true 0):=aH 0;have er:ER K true H1 H3 (bW (bW Z os) fun _=>[]) v d:=Is.kp (Kp.less fun a z=>z.elim id fun ⟨_,w⟩=>by cases w) (iv.same s3);refine hg (Q:=fun σ2 H2=>te σ2 H2 fun k H'=>DC H3 H'∧lN te (cs.map fun i=>(σ[i]?).join) (yK vs Q) r (ps.map V.ref++[k]) H') ef er (show gN true 0 d (r0 1 cs ρ)=some (kR cs ρ d) from rfl) fun os1 σ1 fr1 _=>?_;refine he fr1 (hk d hdm).1 fun u H4 s4 i4=>⟨s4,?_⟩
    obtain ⟨p4,us,rfl,_,hr4,_,iu⟩:=(show Is K H4 _ u (.tup ((kf d).map D.int)) from i4).isTup;have eu:=IsL.ints iu;subst eu;have em:ps.map V.ref++[V.ref p4]=(ps++[p4]).map V.ref:=by rw [Od]; rfl
    rw [em];refine ih dr' (dd++[d]) (ps++[p4]) H4 (s3.trans s4) ir (by rw [OG]; exact hd) ?_;rw [Od];exact Paired.append (Paired.mono tz fun p z _ hz=>⟨hz.1,s4 _ _ hz.2⟩) (.cons ⟨(hk d hdm).2,hr4⟩ .nil)
 exact key vs ds [] [] H2 gr il rfl .nil
end
end
end VL
namespace L2
open PySem PySem.Spec PyProof.Rows
def l9 (ts:List (NP×OX)):Hp:=fun b=>(ts.lookup b).map fun q=>.tbl #[.str q 0]
variable {K:NK} {x:OX}
theorem CY {P:O4} {w:Pf} {mg mb:OX→Option NN} {CX:DF} {k:Nat} {fa a:NP} {fd:P6} {sp:Sp} {s₁:NS} {vs:List NN} {ns:List Int} (ts:List (NP×OX))
 (KX:K.In s₁.heap) (hns:s₁.heap.Ns OU mg) (hb:s₁.heap.Ns SX mb) (hbb:∀ x:OX,x ≠ "__name__" → mb x=Pr x) (hlim:s₁.heap.NoLimit) (hg:s₁.gens=#[]) (hbm:dF mg s₁.heap)
 (hts:∀ p q,ts.lookup p=some q→s₁.heap.get? p=some (Td #[])∧K.lookup p=none∧∃ c,PySem.W.CodeHd s₁.heap c p)
 (ha:s₁.heap.get? a=some { cls:=.type "list", data:=.seq vs.toArray }) (hi:RI vs ns) (hl:ns.length≤NM) (hr:eQ k VR)
 (F:∀ base:PM,K.In base→base.Ns OU mg→dF mg base→cE P w K mg base CX k fa fd [x] sp) (hbind:∀ (s:NS) (u:NN),Vd s fd ⟨[u],[]⟩ [(x,u)])
 (hsp:∀ H:Hp,(∀ p q,ts.lookup p=some q→H p=some (.tbl #[.str q 0]))→dQ K H a ‹43›→sp [.ref a] H (fun v _=>v=.bl true) fun _ _ _=>False)
 (hCX:∀ H e s',CX [] H s₁ (fun _ _ _=>False) e s'→False) :
 SN (model P w) VR (.call (.ref fa) ⟨[.ref a],[]⟩) (fun r s'=>r=.ok (.ret (.bool true))∧OldK s₁.heap s'.heap∧s'.os=s₁.os∧T9 s'.gens) s₁:=by
 have rv:=n8 hi;have lenV:=hi.length
 have naT:ts.lookup a=none:=by
  cases e:ts.lookup a with
  | none=>rfl
  | some q=>have:=(hts a q e).1; rw [ha] at this; cases this
 have core:∀ H:Hp,(∀ b,b≠a→H b=l9 ts b)→(H a=none∨∃ o xs,H a=some (.kZ o (.lst xs)))→dQ K H a ‹43›→mK P w H s₁.heap→(H a≠none→K.lookup a=none) →
  SN (model P w) VR (.call (.ref fa) ⟨[.ref a],[]⟩) (fun r s'=>r=.ok (.ret (.bool true))∧OldK s₁.heap s'.heap∧s'.os=s₁.os∧T9 s'.gens) s₁:=by
  intro H hH hO hS cG hK;have tabs:∀ p q,ts.lookup p=some q→H p=some (.tbl #[.str q 0]):=fun p q e=>by rw [hH p (fun z=>by rw [z,naT] at e; cases e)];unfold l9;rw [e]; rfl
  have isT:∀ b u,H b=some u→b≠a→∃ q,ts.lookup b=some q:=fun b u e hb=>by
   rw [hH b hb] at e;unfold l9 at e;cases z:ts.lookup b with
   | none=>rw [z] at e; cases e
   | some q=>exact ⟨q,rfl⟩
  have base_of:∀ {b:NP} {o:Qz},s₁.heap.get? b=some o→H b=none→(sW s₁.heap H).get? b=some o:=fun e n=>Fh e n
  have none_of:∀ {b:NP} {o:Qz},s₁.heap.get? b=some o→o.cls≠.none→(∀ xs n,o.data≠.seq xs n)→H b=none:=fun {b o} e hc hd=>by
   cases q:H b with
   | none=>rfl
   | some u =>
    by_cases hba:b=a
    ·subst hba;rw [ha] at e; cases e;exact absurd rfl (hd _ _)
    ·obtain ⟨q',z⟩:=isT b u q hba;have:=(hts b q' z).1;rw [e] at this;cases this;exact absurd rfl hc
  have noA:∀ {b:NP} {o:Qz} {es:Array DictEntry} {ep:Nat},s₁.heap.get? b=some o→o.data=.dict es ep→H b=none:=fun {b o es ep} e d=>by
   cases q:H b with
   | none=>rfl
   | some u =>
    by_cases hba:b=a
    ·subst hba;rw [ha] at e; cases e;have d':VM vs.toArray _=Data.dict es ep:=d;cases d'
    ·obtain ⟨q',z⟩:=isT b u q hba;have:=(hts b q' z).1;rw [e] at this;cases this;cases d
  have nsK:∀ {b:NP} {m:OX→Option NN},s₁.heap.Ns b m→(sW s₁.heap H).Ns b m:=fun {b m} ⟨o,es,ep,e,d,r⟩=>⟨o,es,ep,base_of e (noA e d),d,r⟩
  have hKb:K.In (sW s₁.heap H):=fun b o e=>base_of (KX b o e) (by
   cases q:H b with
   | none=>rfl
   | some u =>
    by_cases hba:b=a
    ·subst hba;rw [hK (by rw [q]; simp)] at e; cases e
    ·obtain ⟨q',z⟩:=isT b u q hba;rw [(hts b q' z).2.1] at e; cases e)
  have hBm:dF mg (sW s₁.heap H):=by obtain ⟨bm,ob,b1,b2,b3,b4,b5,b6⟩:=hbm;exact ⟨bm,ob,b1,b2,base_of b3 (none_of b3 (by rw [b4]; exact nofun) fun xs n z=>by rw [b6] at z; cases z),b4,b5,b6⟩
  have hM:Mod K mg (sW s₁.heap H):=⟨hKb,nsK hns,⟨mb,nsK hb,hbb⟩,let ⟨mc,h1,h2⟩:=hlim; ⟨mc,nsK h1,h2⟩⟩
  have e0:HH P w K mg (sW s₁.heap H) VR [] s₁ H:=⟨rfl,hM,fun b o e=>GX e,Uo (Dd _ _),trivial,fun b hb=>absurd (show b∈([]:List NP) from hb) (by simp),cG,.of_eq hg⟩
  refine Uc ((F _ hKb (nsK hns) hBm).run VR [] s₁ H ⟨[.ref a],[]⟩ [.ref a] [.ref a] _ _ hr e0 (hbind s₁ (.ref a)) (.cons rfl .nil) (hsp H tabs hS)) fun r s' h=>?_;cases r with
  | error e=>exact (hCX H e s' h).elim
  | ok fl =>
   cases fl with
   | next=>exact Q6 h
   | brk=>exact Q6 h
   | cont=>exact Q6 h
   | ret u =>
    obtain ⟨v,H',os,bare,un,hok',r',q⟩:=h;have q':v=.bl true:=q;subst q';obtain rfl:u=Vq true:=r'
    have kept:∀ b o,s₁.heap.get? b=some o→ts.lookup b=none→s'.heap.get? b=some o:=fun b o e hn=>by
     cases q:H b with
     | none=>exact un.keep b o e q (by intro z; exact absurd (show b∈([]:List NP) from z) (by simp)) (by simp)
     | some u =>
      by_cases hba:b=a
      ·subst hba;rcases hO with z | ⟨ob,xs,z⟩
       ·rw [q] at z; cases z
       ·have z2:=un.sX b ob _ z;obtain ⟨e1,_⟩:=cG b _ z;obtain ⟨e2,_⟩:=hok' b _ z2;rw [e] at e1; cases e1;exact e2
      ·obtain ⟨q',z⟩:=isT b u q hba;rw [hn] at z; cases z
    refine ⟨rfl,⟨fun b o e=>?_,fun b o e=>un.there b o e (by simp)⟩,os,bare⟩;cases ht:ts.lookup b with
    | none=>exact .inl (kept b o e ht)
    | some q =>
     obtain ⟨t1,t2,c,t3⟩:=hts b q ht;rw [e] at t1;cases t1;obtain ⟨more,e2⟩:=un.sq b _ (tabs b q ht);obtain ⟨q2,tk,qs,_,e3,_⟩:=(show cn P w H' s'.heap b (.tbl _) from hok' b _ e2)
     exact .inr (.inl ⟨(t3.tab e).isCodeTable,rfl,#[],qs,rfl,by rw [Array.empty_append]; exact e3⟩)
 have tabOk:∀ H:Hp,(∀ b,b≠a→H b=l9 ts b)→∀ b u,b≠a→H b=some u→cn P w H s₁.heap b u:=fun H hH b u hb e=>by
  rw [hH b hb] at e;unfold l9 at e;cases z:ts.lookup b with
  | none=>rw [z] at e; cases e
  | some q =>rw [z] at e;cases e;exact ⟨q,0,#[],rfl,(hts b q z).1,trivial,fun pos v ev=>by cases ev⟩
 cases hk:K.lookup a with
 | some o =>
  have e:=KX a o hk;rw [ha] at e;cases e;have hHa:l9 ts a=none:=by unfold l9; rw [naT]; rfl
  refine core (l9 ts) (fun _ _=>rfl) (.inl hHa) (.inr ⟨_,vs.toArray,_,hk,rfl,rfl,rfl,by rw [NY,lenV]; exact hl,by simpa using rv⟩) (fun b u z=>?_) fun z=>absurd hHa z;exact tabOk _ (fun _ _=>rfl) b u (fun w=>by rw [w,hHa] at z; cases z) z
 | none =>
  refine core (fun b=>if b=a then some (.kZ { cls:=.type "list", data:=.seq vs.toArray } (.lst ‹43›)) else l9 ts b) (fun b hb=>if_neg hb) (.inr ⟨_,_,if_pos rfl⟩) (.inl (.inr ⟨{ cls:=.type "list", data:=.seq vs.toArray },if_pos rfl⟩)) (fun b u z=>?_) fun _=>hk;by_cases hba:b=a
  ·have z':=(if_pos hba).symm.trans z;cases z';subst hba;exact ⟨ha,by rw [NH]; exact hl,vs,_,rv,ha⟩
  ·exact tabOk _ (fun b hb=>if_neg hb) b u hba z
theorem DP {l:Wh} {n k:Nat} {q:O4} {loose:List OX} {XP:(OX→Option NN)→PM→Prop} {YP:Pf→PM→Prop} {d:DefRec} {K:Params→NK} {CX:Pf→DF} {sp:Pf→Sp} (ts:List (NP×OX))
 (hn:l.most=some n) (hn2:n≤NM) (hdf:d.params.defaults=[]) (hr:eQ k VR)
 (hY:∀ (w:Pf) (h:PM),YP w h→(K w.params).In h)
 (hT:∀ (w:Pf) (h:PM),YP w h→∀ p q,ts.lookup p=some q→h.get? p=some (Td #[]))
 (hN:∀ (w:Pf) p q,ts.lookup p=some q→(K w.params).lookup p=none∧∃ c,Q2 (K w.params) c p=true)
 (F:∀ (w:Pf) (mg:OX→Option NN) (fa:NP) (h:PM),(K w.params).In h→h.Ns OU mg→mg d.name=some (.ref fa) →
  ∃ fd:P6,(∀ (s:NS) (u:NN),Vd s fd ⟨[u],[]⟩ [(x,u)]) ∧
   ∀ base:PM,(K w.params).In base→base.Ns OU mg→dF mg base→cE l.prog w (K w.params) mg base (CX w) k fa fd [x] (sp w))
 (hsp:∀ (w:Pf) (H:Hp) (a:NP) (ns:List Int),ns.length≤n→(∀ m∈ns,P4 m≤1048576)→(∀ p q,ts.lookup p=some q→H p=some (.tbl #[.str q 0]))→dQ (K w.params) H a ‹43›→sp w [.ref a] H (fun v _=>v=.bl true) fun _ _ _=>False)
 (hCX:∀ (w:Pf) (H:Hp) (s:NS) (e:NN) (s':NS),CX w [] H s (fun _ _ _=>False) e s'→False) :
 WL q loose XP YP l.row.toRowW d [] (fun f vs=>PySem.call f vs):=by
 intro w s₀ s₁ mg mb G Y fa o pm cd doc dV kV ho hd hcd hD hmg hg args vals as hpre hlay hrd hwl hlo;obtain rfl:dV=.none:=PySem.W.Dflts.none hD hdf;obtain rfl:kV=.none:=PySem.W.Dflts.noKw hD;obtain ⟨a,vs,ns,rfl,rfl,hobj,hints,hlen⟩:=MX.Co hn hpre hwl;have KX:=hY w _ Y;obtain ⟨fd,hb,hF⟩:=F w mg fa _ KX G.T.g hmg;refine PySem.W.enter_call (Uc (CY ts KX G.T.g G.T.b G.T.builtins G.T.nolimit hg G.T.bmain (fun p q e=>⟨hT w _ Y p q e,(hN w p q e).1,let ⟨c,h⟩:=(hN w p q e).2; ⟨c,Vi KX h⟩⟩) hobj hints (ON hlen hn2) hr hF hb (fun H hO hS=>hsp w H a ns hlen (yG hlay) hO hS) fun H e s'=>hCX w H s₁ e s') fun r s' hq=>?_);obtain ⟨rfl,h2,h3,h4⟩:=hq;exact ⟨.inl ⟨.bool true,.bool true,[],rfl,fun _=>rfl,.bool true,MX.CD l _,fun _=>⟨Tv,fun _ hm=>(nomatch hm)⟩⟩,h2,h3,h4⟩
theorem gm.M4 {P:O4} {w:Pf} {mg:OX→Option NN} {base:PM} {qual:OX} {st:Qo} {f:NP} {fd:P6} {N ps:List OX} {k:Nat} {sp:Sp} (F:gm K x qual st f fd) (S:aR N ps (aB st)) (len:∀ vs H Q E,sp vs H Q E→vs.length=ps.length)
 (hbody:∀ (cdv:NN),fd.code=cdv→∀ (A:O3) (outer:List V5) (s:NS) (H:Hp) (vs:List V) (Q:VK) (E:XK),eQ k (A.deeper (Ud qual (aB st) ‹4› f cdv))→sp vs H Q E →
  ∃ t,wq ‹14›.EW (dZ st) t∧t { nx:=fun _ H'=>Q .non H',rt:=Q } (start N vs) H):cE P w K mg base gJ (k+1) f fd ps sp:=by
 obtain ⟨oc,od,kV,doc,pm,an,cdv,ct,osl,rfl,lk,hcd⟩:=F.ex;refine Iu lk hcd S len fun A outer s H vs Q E hr hsp=>?_;obtain ⟨t,h,q⟩:=hbody cdv rfl A outer s H vs Q E hr hsp;exact ⟨t,h.EW,q⟩
end L2
namespace VL
open PySem L2
section
open Classical
section
variable [bB] {K:NK}
theorem gm.Mq {P:O4} {w:Pf} {mg:OX→Option NN} {base:PM} {x qual:OX} {st:Qo} {f:NP} {fd:P6} {N ps:List OX} {k:Nat} (F:gm K x qual st f fd) (S:aR N ps (aB st)) (ms:List Bool) (hms:ms.length=ps.length) (b:DS)
 (hbody:∀ (cdv:NN),fd.code=cdv→∀ (A:O3) (outer:List V5) (s:NS) (H:Hp) (E:XK),eQ k (A.deeper (QU qual (aB st) ‹4› f cdv)) →
  ∃ t,wq ‹14›.EW (dZ st) t∧c9 .v K t b):cE P w K mg base gJ (k+1) f fd ps (jS .v K ms (bR N.length ms b)):=by
 refine L2.gm.M4 F S (fun vs H Q E h=>?_) (fun cdv hcd A outer s H vs Q E hr h=>?_)
 ·obtain ⟨Z,ds,d,hz,a,_⟩:=h;rw [a.len.1,hms]
 ·obtain ⟨Z,ds,d,hz,a,e,k⟩:=h;obtain ⟨t,h1,h2⟩:=hbody cdv hcd A outer s H E hr;refine ⟨t,h1,h2 (mS hz a) ?_⟩;unfold bR at e;split at e
  ·rename_i d' e1;cases e;rw [e1];exact fun v H' s' i=>k v H' s' i
  ·rename_i ρ e1;cases e;rw [e1];exact fun os' σ' H' f' _=>k _ H' f'.keep .non
  ·cases e
end
end
end VL
namespace PySem.SeqAt
open AutoSeq1 (wpAny_loadPart')
section
open MeetsSeq MeetsSeq2 MeetsSeq3
def DB (A:O3) (s:NS) (y x:NN) (b:Bool):Prop :=
 ∀ (prog:O4) (w:Pf) (E:NN→NS→Prop) (Q:NN→NS→Prop),Q (.bool b) s→Ou ‹10› A (V8 .Lt y x) Q E s
def gu (e l:Nat→Bool) (fin:Bool):Nat→Nat→Bool
 | 0,_=>fin
 | k+1,i=>if e i=true then gu e l fin k (i+1) else l i
theorem CQ (l b:NP) (items items2:Array NN) (n n2:Nat) (dd dd2:Option NP) (sl sl2:Array (Option NN)) (e lt:Nat→Bool) (k:Nat) :
 ∀ i:Nat,i≤min items.size items2.size→min items.size items2.size-i=k→Meets (Ru.«list.__eq__.loop» ⟨[.ref l,.ref b,VW i,VW 0],[]⟩)
  (fun A R s=>s.heap.get? l=some { cls:=.type "list", dict:=dd,data:=.seq items n,slots:=sl }∧s.heap.get? b=some { cls:=.type "list", dict:=dd2,data:=.seq items2 n2,slots:=sl2 } ∧
   (∀ j (h1:j<items.size) (h2:j<items2.size),EqAt A.in1 s items[j] items2[j] (e j))∧(∀ j (h1:j<items.size) (h2:j<items2.size),e j=false→DB A.in1 s items[j] items2[j] (lt j)) ∧
   R (.ok (.ret (.bool (gu e lt (decide (items.size<items2.size)) k i)))) s):=by
 induction k with
 | zero =>
  intro i hi hk prog w A R s h;obtain ⟨hp,g,d,tk,os⟩:=s; obtain ⟨hl,hb,he,hlt,h⟩:=h;wp_walk using OP hl,OP hb;by_cases hc:items.size≤i
  ·have hi1:items[((i:Nat):Int).toNat]?=none:=by simp; lia
   rw [hi1];wp_walk using OP hl,OP hb;exact h
  ·have hi2:items2[((i:Nat):Int).toNat]?=none:=by simp; lia
   have hi1:items[((i:Nat):Int).toNat]?=some (items[i]'(by lia)):=by simp
   rw [hi1,hi2];wp_walk using OP hl,OP hb;exact h
 | succ k ih =>
  intro i hi hk prog w A R s h;obtain ⟨hp,g,d,tk,os⟩:=s; obtain ⟨hl,hb,he,hlt,h⟩:=h;wp_walk using OP hl,OP hb;have hlt1:i<items.size:=by lia
  have hlt2:i<items2.size:=by lia
  have hi1:items[((i:Nat):Int).toNat]?=some items[i]:=by simp [hlt1]
  have hi2:items2[((i:Nat):Int).toNat]?=some items2[i]:=by simp [hlt2]
  have hc:((i:Int)+1)=((i+1:Nat):Int):=by push_cast; rfl
  unfold gu at h;rw [hi1,hi2];refine NO (he i hlt1 hlt2 prog w _ _ ?_);cases hb':e i with
  | true =>rw [hb',if_pos rfl] at h;wp_walk;rw [hc];exact ⟨QP plain_eq_loop _,Qu entry_eq_loop (by rw [PX plain_eq_loop _];exact ih (i+1) (by lia) (by lia) prog w A R _ ⟨hl,hb,he,hlt,h⟩)⟩
  | false =>rw [hb',if_neg N8] at h;wp_walk using OP hl,OP hb;rw [hi1,hi2];dsimp only;refine NO (hlt i hlt1 hlt2 hb' prog w _ _ ?_);wp_walk;exact h
theorem CT (l b:NP) (items items2:Array NN) (n n2:Nat) (dd dd2:Option NP) (sl sl2:Array (Option NN)) (e lt:Nat→Bool) :
 Meets (Ru.«list.__lt__» ⟨[.ref l,.ref b],[]⟩)
  (fun A R s=>s.heap.get? l=some { cls:=.type "list", dict:=dd,data:=.seq items n,slots:=sl }∧s.heap.get? b=some { cls:=.type "list", dict:=dd2,data:=.seq items2 n2,slots:=sl2 } ∧
   (∀ j (h1:j<items.size) (h2:j<items2.size),EqAt A.in1 s items[j] items2[j] (e j))∧(∀ j (h1:j<items.size) (h2:j<items2.size),e j=false→DB A.in1 s items[j] items2[j] (lt j)) ∧
   R (.ok (.ret (.bool (gu e lt (decide (items.size<items2.size)) (min items.size items2.size) 0)))) s):=by
 intro prog w A R s h;obtain ⟨hp,g,d,tk,os⟩:=s; obtain ⟨hl,hb,he,hlt,h⟩:=h;have f3:=Ur;wp_walk using OP hl,OP hb;exact ⟨QP plain_eq_loop _,Qu entry_eq_loop (by rw [PX plain_eq_loop _];exact CQ l b items items2 n n2 dd dd2 sl sl2 e lt _ 0 (O1 _) rfl prog w A R _ ⟨hl,hb,he,hlt,h⟩)⟩
section
variable {A:O3} {s:NS}
theorem DB.ints (a b:Int) (t u:WO):DB A s (.int a t) (.int b u) (decide (a<b)):=fun prog w E Q h=>Vh h
end
end
end PySem.SeqAt
namespace VL
open PySem L2
section
open Classical
section
variable {K:NK}
noncomputable def GU:Nat→D→D→Bool
 | _,.int _,.int _=>true
 | n+1,.lst xs,.lst ys=>(QX xs ys).all fun p=>dP n p.1 p.2&&GU n p.1 p.2
 | n+1,.tup xs,.tup ys=>(QX xs ys).all fun p=>dP n p.1 p.2&&GU n p.1 p.2
 | _,_,_=>false
section
variable {X:Cx} {pins:List (NP×Qz)} {σ:L2.St} {H:Hp} {s:NS}
inductive Om:Nat→D→D→Prop
 | int {n:Nat} (a b:Int):Om n (.int a) (.int b)
 | lst {n:Nat} {xs ys:List D} (h:(QX xs ys).all (fun p=>dP n p.1 p.2&&GU n p.1 p.2)=true):Om (n+1) (.lst xs) (.lst ys)
 | tup {n:Nat} {xs ys:List D} (h:(QX xs ys).all (fun p=>dP n p.1 p.2&&GU n p.1 p.2)=true):Om (n+1) (.tup xs) (.tup ys)
end
end
end
end VL
namespace PySem.SeqAt
theorem zI {prog:O4} {w:Pf} {A:O3} {E:NN→NS→Prop} {Q:Bool→NS→Prop} {s:NS} {l b:NP} {items items2:Array NN} {e lt:Nat→Bool} (hl:s.heap.IsList l items) (hb:s.heap.IsList b items2) (hu:A.units<RT)
 (he:∀ j (h1:j<items.size) (h2:j<items2.size),EqAt A.in1 s items[j] items2[j] (e j)) (hlt:∀ j (h1:j<items.size) (h2:j<items2.size),e j=false→DB A.in1 s items[j] items2[j] (lt j)) (h:Q (gu e lt (decide (items.size<items2.size)) (min items.size items2.size) 0) s) :
 Ou ‹10› A (PyProof.Rows.oneLt' true (.ref l) (.ref b)) Q E s:=by
 obtain ⟨⟨cls,dd,data,sl⟩,ho,hc,n,hd⟩:=id hl;obtain ⟨⟨cls2,dd2,data2,sl2⟩,ho2,hc2,n2,hd2⟩:=id hb;simp only at hc hd hc2 hd2;subst hc hd hc2 hd2;rw [PyProof.Rows.oneLt'_eq];simp only [if_true];refine NO (wpAny_cRoomFor hu ?_);refine NO (wpAny_callSpecialIfBound?_slot ⟨_,ho,rfl⟩ F.slot_list_lt (Uj F.slot_list_lt ⟨_,ho,rfl⟩ F.entry_list_lt (F.args_list_lt_2 _ _) (CT l b items items2 n n2 dd dd2 sl sl2 e lt) ⟨ho,ho2,he,hlt,?_⟩));exact P5 h
end PySem.SeqAt
namespace L2
open PySem PySem.Spec PyProof.Rows
theorem pC (ds es:List Int):∀ k i,i≤min ds.length es.length→min ds.length es.length-i=k→SeqAt.gu (fun j=>ds.getD j 0==es.getD j 0) (fun j=>decide (ds.getD j 0<es.getD j 0)) (decide (ds.length<es.length)) k i=lexLt (ds.drop i) (es.drop i)
 | 0,i,hi,hk=>by
  unfold SeqAt.gu;by_cases h1:ds.length≤es.length
  ·have e1:ds.drop i=[]:=Qx (by lia);rw [e1];by_cases h2:ds.length<es.length
   ·rw [OB (show i<es.length by lia),decide_eq_true h2]; rfl
   ·have e2:es.drop i=[]:=Qx (by lia);rw [e2,decide_eq_false h2]; rfl
  ·have e2:es.drop i=[]:=Qx (by lia);rw [e2,OB (show i<ds.length by lia),decide_eq_false (by lia)]; rfl
 | k+1,i,hi,hk=>by
  have h1:i<ds.length:=by lia
  have h2:i<es.length:=by lia
  unfold SeqAt.gu;rw [OB h1,OB h2,pC ds es k (i+1) (by lia) (by lia)];have g1:ds.getD i 0=ds[i]:=by rw [NF,NG h1]; rfl
  have g2:es.getD i 0=es[i]:=by rw [NF,NG h2]; rfl
  rw [g1,g2];show _=if ds[i]=es[i] then lexLt (ds.drop (i+1)) (es.drop (i+1)) else decide (ds[i]<es[i])
  by_cases c:ds[i]=es[i]
  ·rw [if_pos c,if_pos (by simpa using c)]
  ·rw [if_neg c,if_neg (by simpa using c)]
def LQ (H:Hp) (ps:List NP) (zs:List (List Int)):Prop:=PU (fun p z=>Rd H p (.lst (z.map V.int))) ps zs
noncomputable def EC (K:NK):List V→Hp→VK→Prop:=fun xs H Q=>∃ (a:NP) (ps:List NP) (zs:List (List Int)),xs=[.ref a]∧dQ K H a ‹41›∧LQ H ps zs∧2≤zs.length∧zs.length<800 ∧
 ∀ idx:List Nat,idx.Perm (N4 zs.length)→(idx.Pairwise fun i j=>lexLt (zs.getD j []) (zs.getD i [])=false)→∀ D,H D=none→Q (.ref D) (upd H D (.lst (idx.map fun i=>V.ref (ps.getD i 0))))
variable {X:Cx} {K:NK}
theorem Al {k:Nat} (hK:X.K=K) (hx:X.ex=[]) (hr:eQ k X.A):de X (.builtin "sorted") (EC K):=by
 subst hK;intro pins s σ H xs us Q I r h;obtain ⟨a,ps,zs,rfl,hq,tz,h2,h64,q⟩:=h;cases r with
 | cons r1 r =>
  cases r;cases (show _=O2 a from r1);obtain ⟨its,rv,pl,_⟩:=I.list hq;have ei:=Bc rv;subst ei;have hl:ps.length=zs.length:=Qd tz;have at_:∀ i,i<zs.length→∃ p z,ps[i]?=some p∧zs[i]?=some z∧Rd H p (.lst (z.map V.int)):=fun i hi=>by obtain ⟨p,e1,g1⟩:=VL.Paired.Df tz (NG hi);exact ⟨p,_,e1,NG hi,g1⟩
  have eqz:∀ {p:NP} {y z:List Int},Rd H p (.lst (y.map V.int))→Rd H p (.lst (z.map V.int))→y=z:=fun {p y z} a b=>by
   obtain ⟨_,us,n,k1,_,o1⟩:=I.m4 a;obtain ⟨_,us',n',k1',_,o1'⟩:=I.m4 b;rw [o1] at o1';have eu:us=us':=by injection o1' with q;injection q with _ _ q;injection q with q _;exact V4 q
   subst eu;exact yc (intsAre_of k1) (intsAre_of k1')
  have it:∀ (h':PM),(∀ b o,s.heap.get? b=some o→h'.get? b=some o)→∀ i,i<zs.length→∃ p z us n,ps[i]?=some p∧zs[i]?=some z∧h'.get? p=some { cls:=.type "list", data:=.seq us.toArray n }∧RI us z:=fun h' kp i hi=>by obtain ⟨p,z,e1,e2,g⟩:=at_ i hi;obtain ⟨_,us,n,k1,_,o1⟩:=I.m4 g;exact ⟨p,z,us,n,e1,e2,kp _ _ o1,intsAre_of k1⟩
  have gat:∀ i p,ps[i]?=some p→(ps.map O2).getD i Qs=.ref p:=fun i p e=>by rw [NF,NR,e]; rfl
  have zat:∀ i z,zs[i]?=some z→zs.getD i []=z:=fun i z e=>by rw [NF,e]; rfl
  have hline:NM=16777216:=OA;refine Tm.Cj (vs:=ps.map O2) (lt:=fun i j=>lexLt (zs.getD i []) (zs.getD j [])) pl.isList (by rw [NH]; lia) (by rw [NH]; lia) (fun g kp=>⟨oneType',fun Q' hq=>PySem.W.kas_kind (T:=.type "list") (by rw [NH]; lia) (fun v hv=>?_) ‹11› ‹11› hq,Bt fun i=>zs.getD i [],fun i j hi hj e=>?_,fun i j C hi hj hC=>?_⟩) fun p g D c pm up big hD kp=>?_
  ·obtain ⟨p,hp,rfl⟩:=NW.mp hv;obtain ⟨i,hi,rfl⟩:=Sw.mp hp;obtain ⟨p',z,us,n,e1,e2,o1,_⟩:=it g kp i (by lia);rw [NG hi] at e1;cases e1;exact (PySem.W.Looks.ld o1).andThen PySem.W.Looks.now
  ·rw [NH] at hi hj;obtain ⟨p,z,e1,e2,r1⟩:=at_ i (by lia);obtain ⟨p',z',e1',e2',r1'⟩:=at_ j (by lia);rw [gat i p e1,gat j p' e1'] at e;cases e;intro k;rw [zat i z e2,zat j z' e2',eqz r1 r1'];exact ⟨rfl,rfl⟩
  ·rw [NH] at hi hj;obtain ⟨p,z,us,n,e1,e2,k1,k4⟩:=it g kp i (by lia);obtain ⟨p',z',us',n',e1',e2',k1',k4'⟩:=it g kp j (by lia);rw [gat i p e1,gat j p' e1'];rw [zat i z e2,zat j z' e2'] at hC;have l1:=R7 k4;have l2:=R7 k4';rw [PyProof.Rows.keyLt'_oneType]
   have iat:∀ {us:List NN} {z:List Int},RI us z→∀ j (h:j<us.toArray.size),∃ t,us.toArray[j]=.int (z.getD j 0) t:=fun {us z} k j h=>by
    have rk:=n8 k;have hj:j<z.length:=by rw [NY] at h; have:=R7 k; lia
    have e:(z.map V.int)[j]?=some (.int (z.getD j 0)):=by rw [NR,NF,NG hj]; rfl
    obtain ⟨u,eu,t,rfl⟩:=rk.get e;refine ⟨t,?_⟩;have:us[j]?=some us[j]:=NG (by simpa using h);rw [this] at eu;simpa using eu
   refine SeqAt.zI (items:=us.toArray) (items2:=us'.toArray) (e:=fun j=>z.getD j 0==z'.getD j 0) (lt:=fun j=>decide (z.getD j 0<z'.getD j 0)) ⟨_,k1,rfl,_,rfl⟩ ⟨_,k1',rfl,_,rfl⟩ (by have:=hr.un; show X.A.units+1+1 < _; lia) (fun j h1 h2=>?_) (fun j h1 h2 _=>?_) ?_
   ·obtain ⟨t,e⟩:=iat k4 j h1;obtain ⟨t',e'⟩:=iat k4' j h2;rw [e,e'];exact RN _ t _ t'
   ·obtain ⟨t,e⟩:=iat k4 j h1;obtain ⟨t',e'⟩:=iat k4' j h2;rw [e,e'];exact SeqAt.DB.ints _ _ t t'
   ·rw [NY,NY,l1,l2,pC z z' (min z.length z'.length) 0 (O1 _) rfl];exact hC
  ·rw [NH,hl] at pm;have lt_:∀ i∈p,i<zs.length:=fun i hi=>Ow.mp (pm.mem_iff.mp hi);have hlen:p.length=zs.length:=by rw [pm.length_eq,Oc]
   have eo:(p.map fun i=>(ps.map O2).getD i Qs)=(p.map fun i=>ps.getD i 0).map O2:=by
    rw [N0];refine OC fun i hi=>?_;have h1:i<ps.length:=by rw [hl]; exact lt_ i hi
    rw [gat i _ (NG h1)];show _=O2 (ps.getD i 0);rw [NF,NG h1];rfl
   have ev:(p.map fun i=>V.ref (ps.getD i 0))=(p.map fun i=>ps.getD i 0).map V.ref:=by rw [N0]; rfl
   rw [eo] at hD;have I3:=I.laid (a:=D) (o:=.lst (p.map fun i=>V.ref (ps.getD i 0))) (t':=s.toks) kp big ⟨by rw [NH,hlen]; lia,(p.map fun i=>ps.getD i 0).map O2,c,by rw [ev]; exact tF _,hD⟩;exact ⟨.ref D,_,I3,rfl,q p pm up D (I.cG.fresh big)⟩
def EB (K:NK):List V→Hp→VK→Prop:=fun xs H Q=>EC K xs H Q∨Jg K xs H Q
theorem uo {k:Nat} (hK:X.K=K) (hx:X.ex=[]) (hr:eQ k X.A):de X (.builtin "sorted") (EB K):=de.or (Al hK hx hr) (yC hK)
end L2
namespace VL
variable {a:DE} {ρ:aK} {zs:List (List Int)} {idx:List Nat} {ta:TE} {α:Type} {cs:List Nat}
open PySem L2
section
open Classical
section
variable [bB] {K:NK}
def f9 (z:List Int):D:=.lst (z.map D.int)
omit [bB] in
theorem E2 (a b:List Int) (h:f9 a=f9 b):a=b:=by unfold f9 at h;injection h with h;exact mv h
def nk (a:DE):aK→Option (List D):=fun ρ=>match fH a ρ with
 | some ds=>if h:∃ zs:List (List Int),ds=zs.map f9∧zs.length<800 then some ((iM h.choose).map f9) else none
 | none=>none
omit [bB] in
theorem yo (e:fH a ρ=some (zs.map f9)) (hl:zs.length<800):nk a ρ=some ((iM zs).map f9):=by
 have h:∃ zs':List (List Int),zs.map f9=zs'.map f9∧zs'.length<800:=⟨zs,rfl,hl⟩
 unfold nk;rw [e];show (if h:∃ zs':List (List Int),zs.map f9=zs'.map f9∧zs'.length<800 then some ((iM h.choose).map f9) else none)=_;rw [dif_pos h,← (List.map_inj_right E2).mp h.choose_spec.1]
omit [bB] in
theorem rY {ds:List D} (q:nk a ρ=some ds):∃ zs,fH a ρ=some (zs.map f9)∧zs.length<800∧ds=(iM zs).map f9:=by
 unfold nk at q;split at q
 ·rename_i es e;split at q
  ·rename_i h;cases q;exact ⟨h.choose,by rw [e]; exact congrArg some h.choose_spec.1,h.choose_spec.2,rfl⟩
  ·cases q
 ·cases q
theorem rH {H:Hp} {T:NP→Prop}:∀ {zs:List (List Int)} {vs:List V},IsL K H T vs (zs.map f9)→∃ ps:List NP,vs=ps.map V.ref∧LQ H ps zs
 | [],_,.nil=>⟨[],rfl,.nil⟩
 | z::zs,_,.cons h r=>by obtain ⟨ps,rfl,hp⟩:=rH r;obtain ⟨p,us,rfl,hz,hr,hl,i⟩:=(show Is K H T _ (.lst (z.map D.int)) from h).rJ;have e:=IsL.ints i;subst e;exact ⟨p::ps,rfl,.cons hr hp⟩
omit [bB] in
theorem wY (pm:idx.Perm (N4 zs.length)) (up:idx.Pairwise fun i j=>L2.lexLt (zs.getD j []) (zs.getD i [])=false):idx.map (fun i=>zs.getD i [])=iM zs:=by
 refine tM ?_ ?_
 ·have:=pm.map fun i=>zs.getD i [];rw [range_getD] at this;exact this
 ·exact Pk.mpr up
omit [bB] in
theorem wZ (h:¬ 2≤zs.length):zs=iM zs:=by
 refine tM (U4 _) ?_
 match zs,h with
 | [],_=>exact .nil
 | [z],_=>exact .cons (fun _ h=>by cases h) .nil
 | _::_::_,h=>exact absurd (by simp) h
theorem ue {H:Hp} {T:NP→Prop} {ps:List NP} (il:IsL K H T ‹41› (zs.map f9)) (hi:∀ i∈idx,i<zs.length):IsL K H T (idx.map fun i=>V.ref (ps.getD i 0)) ((idx.map fun i=>zs.getD i []).map f9):=by
 have hl:=il.length;rw [NH,NH] at hl;have:=vO il (idx:=idx) (fun i h=>by rw [NH]; exact hi i h);have e1:(idx.map fun i=>‹41›.getD i .non)=idx.map fun i=>V.ref (ps.getD i 0):=OC fun i h=>by have:=hi i h;rw [NF,NR,NG (by lia),NF,NG (by lia)]; rfl
 have e2:(idx.map fun i=>(zs.map f9).getD i .non)=(idx.map fun i=>zs.getD i []).map f9:=by rw [N0];exact OC fun i h=>by have:=hi i h;show (zs.map f9).getD i .non=f9 (zs.getD i []);rw [NF,NR,NG (by lia),NF,NG (by lia)]; rfl
 rw [e1,e2] at this;exact this
theorem GB (ha:aq K ta a):bF K (yL (EB K) (cx ta ft)) (nk a):=fun {B Z os ρ σ H Q ds} f q k=>by
 obtain ⟨zs,e,hl,rfl⟩:=rY q;obtain ⟨d,e,ed⟩:=dU e;refine ha f e fun v H1 s1 i1=>?_;obtain ⟨p,vs,rfl,hlv,hn,hr⟩:=i1.seq ed;obtain ⟨hq,il⟩:=hr H1 _ Kp.refl;obtain ⟨ps,rfl,hp⟩:=rH il;have hpl:ps.length=zs.length:=Qd hp;have hs:NM=16777216:=OA;by_cases h2:2≤zs.length
 ·refine .inl ⟨p,ps,zs,rfl,hq,hp,h2,hl,fun idx pm up D hD=>?_⟩;have lt_:∀ i∈idx,i<zs.length:=fun i hi=>Ow.mp (pm.mem_iff.mp hi);have il2:=ue il lt_;rw [wY pm up] at il2;refine k D _ _ (s1.trans (bO hD)) (aW.free s1 hD) aN ?_ (il2.kp (iI hD));rw [NH,pm.length_eq,Oc]; lia
 ·refine .inr ⟨p,ps.map V.ref,rfl,hq,by rw [NH,hpl]; lia,fun D hD=>?_⟩;rw [← wZ h2] at k;exact k D _ _ (s1.trans (bO hD)) (aW.free s1 hD) aN (by rw [NH,hpl]; lia) (il.kp (iI hD))
theorem Gn (ha:FV K ta a):gh K false (yd K (yL (EB K) (cx ta ft))) (nk a):=fun {B Z os ρ σ H R ds} f q k=>by
 obtain ⟨zs,e,hl,rfl⟩:=rY q;obtain ⟨d,e,ed⟩:=dU e;refine ha f e fun v H1 s1 i1=>?_;obtain ⟨p,vs,rfl,hlv,hn,hr⟩:=i1.seq ed;obtain ⟨hqB,ilB⟩:=hr B No Kp.refl;obtain ⟨hq,il⟩:=hr H1 No (Kp.same (f.keep.trans s1));obtain ⟨ps,rfl,hp⟩:=rH il;have hpl:ps.length=zs.length:=Qd hp;have hs:NM=16777216:=OA;have f1:=f.grow s1
 have new:∀ (D:NP) (vs':List V),H1 D=none→IsL K B No vs' ((iM zs).map f9)→∃ q,V.ref D=.ref q∧(∃ xs,dQ K (upd H1 D (.lst vs')) q xs)∧R (L9 K q) (upd H1 D (.lst vs')):=fun D vs' hD il'=>by
  have nt:¬ bW Z os D:=fun z=>by obtain ⟨o,e⟩:=f1.B9 D z; rw [hD] at e; cases e
  have hln:vs'.length=((iM zs).map f9).length:=il'.length;refine ⟨D,rfl,⟨vs',dQ.of aN⟩,k _ _ (s1.trans (bO hD)) (n6 (vs:=vs') (by rw [NH,(fv zs).length_eq]; lia) (fun H2 T2 kp sb=>?_) hln fun H2 T2 i v d kp sb e1 e2=>?_)⟩
  ·exact dQ.of (kp D _ aN nt).1
  ·obtain ⟨v',g1,i2⟩:=il'.get e2;rw [e1] at g1;cases g1;exact i2
 by_cases h2:2≤zs.length
 ·refine .inl ⟨p,ps,zs,rfl,hq,hp,h2,hl,fun idx pm up D hD=>?_⟩;have lt_:∀ i∈idx,i<zs.length:=fun i hi=>Ow.mp (pm.mem_iff.mp hi);have il2:=ue ilB lt_;rw [wY pm up] at il2;exact new D _ hD il2
 ·refine .inr ⟨p,ps.map V.ref,rfl,hq,by rw [NH,hpl]; lia,fun D hD=>?_⟩;refine new D _ hD ?_;rw [← wZ h2];exact ilB
end
end
section
open Classical
section
variable [bB] {K:NK}
def L3 (cs:List Nat) (ρ:aK) (d:D):aK:=(r0 1 cs ρ).set 0 (.bo d)
def sF {α:Type} (kf:α→List Int) (xs:List α):List α:=xs.mergeSort fun x y=>!L2.lexLt (kf y) (kf x)
omit [bB] in
theorem ow (kf:α→List Int) (xs:List α):(sF kf xs).Perm xs:=SG _ _
omit [bB] in
theorem AU (kf:α→List Int) (xs:List α):(sF kf xs).Pairwise fun a b=>L2.lexLt (kf b) (kf a)=false:=by
 have h:=RU (le:=fun x y=>!L2.lexLt (kf y) (kf x)) (fun a b c h1 h2=>by
  rw [Tx] at h1 h2 ⊢;exact rE _ _ _ h1 h2) (fun a b=>by
  cases e:L2.lexLt (kf b) (kf a) with
  | false=>rfl
  | true=>simp [rF _ _ e]) xs
 exact h.imp fun h=>by simpa using h
omit [bB] in
theorem Bq {α:Type} {kf:α→List Int}:∀ {xs:List α},(xs.map kf).Nodup→∀ {a b:α},a∈xs→b∈xs→kf a=kf b→a=b
 | d::ds,h,a,b,ha,hb,e=>by
  rw [Oq] at h;obtain ⟨h1,h2⟩:=Of.mp h;rcases NU.mp ha with ea | ha2
  ·rcases NU.mp hb with eb | hb2
   ·rw [ea,eb]
   ·exact absurd (show kf d∈ds.map kf from NW.mpr ⟨b,hb2,by rw [← e,ea]⟩) h1
  ·rcases NU.mp hb with eb | hb2
   ·exact absurd (show kf d∈ds.map kf from NW.mpr ⟨a,ha2,by rw [e,eb]⟩) h1
   ·exact Bq h2 ha2 hb2 e
omit [bB] in
theorem ou {kf kg:α→List Int} {xs ds:List α} (hk:∀ d∈ds,kf d=kg d) (hn:(ds.map kf).Nodup) (p:xs.Perm ds) (h:xs.Pairwise fun a b=>L2.lexLt (kg b) (kg a)=false):xs=sF kf ds:=by refine RE (le:=fun a b=>L2.lexLt (kf b) (kf a)=false) (fun a b ha hb h1 h2=>Bq hn (p.mem_iff.mp ha) ((ow kf ds).mem_iff.mp hb) (vL _ _ h2 h1)) ?_ (AU kf ds) (p.trans (ow kf ds).symm);refine PQ (fun {a b} ha hb z=>?_) h;rw [hk a (p.mem_iff.mp ha),hk b (p.mem_iff.mp hb)];exact z
@[irreducible] noncomputable def qZ (i:Nat) (cs:List Nat) (e:DE):DS:=fun ρ=>match ρ.getD i .un with
 | .om rows=>if h:∃ kf:List D→List Int,(∀ r∈rows,e (L3 cs ρ (.lst r))=some (qE (kf r))∧kf r≠[])∧(rows.map kf).Nodup∧rows.length<800 then .rt (fV (sF h.choose rows)) else .no
 | _=>.no
omit [bB] in
theorem DK {i:Nat} {e:DE} {rows:List (List D)} {W:Wk} (kf:List D→List Int) (h0:ρ.getD i .un=.om rows) (hk:∀ r∈rows,e (L3 cs ρ (.lst r))=some (qE (kf r))∧kf r≠[]) (hn:(rows.map kf).Nodup) (hl:rows.length<800) (k:W.rt (fV (sF kf rows))):Wp (qZ i cs e) ρ W:=by
 have hh:∃ kf:List D→List Int,(∀ r∈rows,e (L3 cs ρ (.lst r))=some (qE (kf r))∧kf r≠[])∧(rows.map kf).Nodup∧rows.length<800:=⟨kf,hk,hn,hl⟩
 have es:sF hh.choose rows=sF kf rows:=by refine ou (kg:=hh.choose) (fun d hd=>?_) hn (ow _ _) (AU _ _);have h1:=(hk d hd).1;rw [(hh.choose_spec.1 d hd).1] at h1;exact (wK _ _ (OD h1)).symm
 unfold Wp qZ;rw [h0];dsimp only;rw [dif_pos hh,es];exact k
theorem D9 {P:NP} {q:OX} {i:Nat} {te:TE} {e:DE} (hP:(P,q)∈bB.ts) (he:aq K te e):c9 .m K (D0 (yV K P q (lC i) te cs)) (qZ i cs e):=fun {B Z os ρ σ H E} f p=>by
 unfold qZ at p;split at p
 ·rename_i rows e0;split at p
  ·rename_i hh;obtain ⟨hk,hn,hl⟩:=hh.choose_spec;generalize hh.choose=kf at *;obtain ⟨a,ps,eo,hu,hH,hls,hpl,pr⟩:=Bo f e0;have hs:NM=16777216:=OA;obtain ⟨t,eP⟩:=f.l9 _ hP;refine ⟨_,join_some hu,a,ps.map V.ref,_,t,rfl,dQ.of hH,by rw [NH]; lia,eP,rfl,fun H2 gr=>?_⟩;have hnd:=f.nd i;rw [eo] at hnd;obtain ⟨hna,hnp⟩:=Of.mp hnd;have hin:∀ q∈ps,q∈os i:=fun q hq=>by rw [eo]; exact NI _ hq
   have key:∀ (r:List NP) (rr dd:List (List D)) (pk:List NP) (H3:Hp),aW H H3→PU (fun p ds=>∃ vs,H p=some (.lst vs)∧vs.length≤NM∧IsL K H (bW Z os) vs ds) r rr→dd++rr=rows→Hy H3 pk (dd.map kf)→lN te (cs.map fun i=>(σ[i]?).join) (yK ‹41› E.rt) (r.map V.ref) (pk.map V.ref) H3:=by
    intro r;induction r with
    | nil =>
     intro rr dd pk H3 s3 pr3 hd tz;cases pr3;rw [OT] at hd;subst hd;refine ⟨pk,dd.map kf,rfl,tz,fun idx pm up Dn hD=>?_⟩;rw [NH] at pm;have lt_:∀ i∈idx,i<dd.length:=fun i hi=>Ow.mp (pm.mem_iff.mp hi);have er:∀ {α:Type} (l:List α) (d:α),(N4 l.length).map (fun i=>l.getD i d)=l:=fun l d=>by refine PN (by simp) fun i h1 h2=>?_;simp [h2]
     have ex:idx.map (fun i=>dd.getD i [])=sF kf dd:=by
      refine ou (kg:=kf) (fun _ _=>rfl) hn ?_ ?_
      ·have:=pm.map fun i=>dd.getD i [];rw [er] at this;exact this
      ·rw [Pk];refine PQ (fun {i j} hi hj z=>?_) up;have gi:∀ i,i<dd.length→(dd.map kf).getD i []=kf (dd.getD i []):=fun i hi=>by rw [NF,NR,NG hi,NF,NG hi]; rfl
       rw [gi _ (lt_ i hi),gi _ (lt_ j hj)] at z;exact z
     have ep:(idx.map fun i=>‹41›.getD i .non)=(idx.map fun i=>ps.getD i 0).map V.ref:=by rw [N0];exact OC fun i hi=>by have:=lt_ i hi;show ‹41›.getD i .non=V.ref (ps.getD i 0);rw [NF,NR,NG (by lia),NF,NG (by lia)]; rfl
     have pp:(idx.map fun i=>ps.getD i 0).Perm ps:=by have:=pm.map fun i=>ps.getD i 0;rw [← hpl,er] at this;exact this
     have hHD:H Dn=none:=aW.free s3 hD;have hBD:B Dn=none:=aW.free f.keep hHD;have hDp:Dn∉idx.map fun i=>ps.getD i 0:=fun z=>by have:=pp.mem_iff.mp z;obtain ⟨j,hj,e'⟩:=Sw.mp this;obtain ⟨x',ex0,vs',hv,_⟩:=VL.Paired.Df pr (NG (show j<dd.length by lia));rw [NG hj,e'] at ex0;rw [← OD ex0] at hv;rw [hHD] at hv; cases hv
     refine p _ _ (f.keep.trans (s3.trans (bO hD))) ⟨Dn,idx.map fun i=>ps.getD i 0,sF kf dd,rfl,rfl,hBD,fun x hx=>(f.new i x (hin x (pp.mem_iff.mp hx))).1,Of.mpr ⟨hDp,pp.nodup_iff.mpr hnp⟩,by rw [ep]; exact aN,by rw [pp.length_eq]; exact hls,?_⟩;rw [← ex]
     have pick:∀ (l:List Nat),(∀ i∈l,i<dd.length)→PU (fun x ds=>∃ vs,upd H3 Dn (.lst (idx.map fun i=>‹41›.getD i .non)) x=some (.lst vs)∧vs.length≤NM∧IsL K (upd H3 Dn (.lst (idx.map fun i=>‹41›.getD i .non))) (fun b=>(b=Dn∨b∈idx.map fun i=>ps.getD i 0)∨Z b) vs ds) (l.map fun i=>ps.getD i 0) (l.map fun i=>dd.getD i []):=by
      intro l;induction l with
      | nil=>intro _; exact .nil
      | cons j l ih =>
       intro hl';have hj:=hl' j NJ;obtain ⟨x,ex',vs,h1,h2,h3⟩:=VL.Paired.Df pr (NG hj);refine .cons ?_ (ih fun i hi=>hl' i (NI _ hi));have e1:ps.getD j 0=x:=by rw [NF,ex']; rfl
       have e2:dd.getD j []=dd[j]:=by rw [NF,NG hj]; rfl
       dsimp only;rw [e1,e2]
       have kp:Kp (bW Z os) H (fun b=>(b=Dn∨b∈idx.map fun i=>ps.getD i 0)∨Z b) (upd H3 Dn (.lst (idx.map fun i=>‹41›.getD i .non))):=fun b o hb nb=>by
        have nD:b≠Dn:=fun z=>by rw [z,hHD] at hb; cases hb
        refine ⟨by rw [aG nD]; exact s3 _ _ hb,fun z=>?_⟩;rcases z with (z | z) | z
        ·exact nD z
        ·exact nb (.inr ⟨i,hin b (pp.mem_iff.mp z)⟩)
        ·exact nb (.inl z)
       have nx:x≠Dn:=fun z=>by rw [z,hHD] at h1; cases h1
       exact ⟨vs,by rw [aG nx]; exact s3 _ _ h1,h2,h3.kp kp⟩
     exact pick idx lt_
    | cons x r ih =>
     intro rr dd pk H3 s3 pr3 hd tz;cases pr3 with
     | @cons _ d _ rr' g pr' =>
      obtain ⟨vs,h1,h2,h3⟩:=g;have hdm:d∈rows:=by rw [← hd]; exact NQ _ NJ
      have ef:=sf (k:=1) (cs:=cs) f s3 (W:=bW Z os) (fun a z=>let ⟨o,e⟩:=f.B9 a z; ⟨o,s3 _ _ e⟩) (Kp.same s3);have hg:wk K false (iT 0) (gN false 0):=aH 0;have er:ER K false H H3 (bW (bW Z os) fun _=>[]) (.ref x) (.lst d):=.lst (fun z=>z) (.inl h1) h2 (h3.kp (Kp.less fun _ z=>z.elim));refine hg (Q:=fun σ2 H2=>te σ2 H2 fun k H'=>DC H3 H'∧lN te (cs.map fun i=>(σ[i]?).join) (yK ‹41› E.rt) (r.map V.ref) (pk.map V.ref++[k]) H') ef er (show gN false 0 (.lst d) (r0 1 cs ρ)=some (L3 cs ρ (.lst d)) from rfl) fun os1 σ1 fr1 _=>?_;refine he fr1 (hk d hdm).1 fun u H4 s4 i4=>⟨s4,?_⟩
      obtain ⟨p4,us,rfl,_,hr4,_,iu⟩:=(show Is K H4 _ u (.tup ((kf d).map D.int)) from i4).isTup;have eu:=IsL.ints iu;subst eu;have em:pk.map V.ref++[V.ref p4]=(pk++[p4]).map V.ref:=by rw [Od]; rfl
      rw [em];refine ih rr' (dd++[d]) (pk++[p4]) H4 (s3.trans s4) pr' (by rw [OG]; exact hd) ?_;rw [Od];exact Paired.append (Paired.mono tz fun p z _ hz=>⟨hz.1,s4 _ _ hz.2⟩) (.cons ⟨(hk d hdm).2,hr4⟩ .nil)
   exact key ps rows [] [] H2 gr pr rfl .nil
  ·show 1
 ·show 1
end
end
section
open Classical
section
variable [bB] {K:NK}
theorem gm.Mp {fr:Fm} {P:O4} {w:Pf} {mg:OX→Option NN} {base:PM} {x qual:OX} {st:Qo} {f:NP} {fd:P6} {N ps:List OX} {k:Nat} (F:gm K x qual st f fd) (S:aR N ps (aB st)) (ms:List Bool) (hms:ms.length=ps.length) (b:DS)
 (hbody:∀ (cdv:NN),fd.code=cdv→∀ (A:O3) (outer:List V5) (s:NS) (H:Hp) (E:XK),eQ k (A.deeper (QU qual (aB st) ‹4› f cdv)) →
  ∃ t,wq ‹14›.EW (dZ st) t∧c9 fr K t b) (hfr:∀ E C,fr≠.x E C:=by intro _ _ h; cases h):cE P w K mg base gJ (k+1) f fd ps (jS fr K ms (sO N.length ms b)):=by
 refine L2.gm.M4 F S (fun vs H Q E h=>?_) (fun cdv hcd A outer s H vs Q E hr h=>?_)
 ·obtain ⟨Z,ds,d,hz,a,_⟩:=h;rw [a.len.1,hms]
 ·obtain ⟨Z,ds,d,hz,a,e,k⟩:=h;obtain ⟨t,h1,h2⟩:=hbody cdv hcd A outer s H E hr;refine ⟨t,h1,h2 (mS hz a) ?_⟩;unfold sO at e;split at e
  ·rename_i d' e1;cases e;rw [e1];cases fr with
   | v=>exact fun v H' s' i=>k v H' s' i
   | l=>exact fun v H' s' i=>k v H' s' i
   | m=>exact fun v H' s' i=>k v H' s' i
   | x E0 C=>exact absurd rfl (hfr E0 C)
  ·cases e
end
end
end VL
namespace L2
open PySem PySem.Spec PyProof.Rows VL
def Rs (xs:Array Nat):Prop:=xs.toList.Pairwise (· < ·)
structure Nq (led:Bool) (t:SetTable):Prop where
 led:t.led=led
 up:Rs t.place
structure Once (val:Nat→Int) (i:Nat) (ks:List Int):Prop where
 nd:ks.Nodup
 mem:∀ x,x∈ks↔∃ j,j<i∧val j=x
 len:ks.length≤i
end L2
namespace VL
open PySem L2
section
open Classical
section
variable [bB] {K:NK}
omit [bB] in
end
end
end VL
namespace L2
open PySem PySem.Spec PyProof.Rows VL
def stepI (lo hi st:Option Int) (n:Nat):List Nat:=sliceRange (QJ lo hi st n).1 (QJ lo hi st n).2.1 (QJ lo hi st n).2.2
def fX {α:Type} (xs:List α) (is:List Nat):List α:=is.filterMap fun i=>xs[i]?
theorem oI {vs:List V} {us:List NN} (r:Vals vs us):∀ is:List Nat,Vals (fX vs is) (fX us is)
 | []=>.nil
 | i::is=>by
  unfold fX;rw [Qh,Qh];have hl:=r.length;by_cases c:i<vs.length
  ·obtain ⟨u,e,ru⟩:=r.get (NG c);rw [NG c,e];exact .cons ru (oI r is)
  ·rw [OL (by lia),OL (by lia)];exact oI r is
noncomputable def Mm (K:NK):V→Option Int→Option Int→Option Int→Hp→VK→Prop:=fun x lo hi st H Q=>∃ a xs,x=.ref a∧dQ K H a xs∧st≠some 0∧(fX xs (stepI lo hi st xs.length)).length≤NM∧∀ p,H p=none→Q (.ref p) (upd H p (.lst (fX xs (stepI lo hi st xs.length))))
def K5 (K:NK) (te:TE) (tl th ts:TO):TE:=fun σ H Q=>te σ H fun x H1=>tl σ H1 fun l H2=>th σ H2 fun u H3=>ts σ H3 fun w H4=>Mm K x l u w H4 Q
theorem tZ {X:Cx} {K:NK} {e:Pt} {te:TE} {lo hi:Option Pt} {st:Pt} {tl th ts:TO} {pos p2:SY} (hK:X.K=K) (he:PE X e te) (hl:PO X lo tl) (hu:PO X hi th) (hw:PO X (some st) ts):PE X (.Subscript e (.Slice lo hi (some st) p2) pos) (K5 K te tl th ts):=by
 subst hK;intro pins s σ H Q I h;refine Ue ‹44›;refine V7 ‹34›;obtain ⟨a,xs,rfl,hx,hz,hlen,q⟩:=q4;cases r1;have I5:Inv X pins σ H4 { s4 with heap:=s4.heap.push { cls:=.type "slice", data:=.fields #[vl,vu,vw] } }:=I4.kept (t':=s4.toks) fun b ob q=>NT _ q;obtain ⟨its,r,ht,hsz⟩:=I5.list hx;have hlen2:=r.length;show Ou ‹3› X.A (Sm e (.Slice lo hi (some st) p2) (.ref a) (.ref s4.heap.objs.size)) ‹52› X.xe { s4 with heap:=s4.heap.push { cls:=.type "slice", data:=.fields #[vl,vu,vw] } };refine Wv (ops:=[.ref a,.ref s4.heap.objs.size]) ht.isList.typeIs Tq.lookup ?_ (by with_unfolding_all rfl);refine TF ht.isList (S3 ..) pl pu pw hz ?_ (by rw [NY] <;> lia);have ep:VZ its.toArray l u w=(fX its (stepI l u w xs.length)).toArray:=by unfold VZ fX stepI;rw [NY,hlen2];simp
 rw [ep];refine ⟨.ref _,upd H4 _ (.lst (fX xs (stepI l u w xs.length))),I5.laid (t':=s4.toks) (fun b ob q=>NT _ q) (N9 _) ⟨hlen,_,0,oI r _,OK _ rfl⟩,rfl,q _ (I5.cG.fresh (N9 _))⟩
theorem EI {α:Type} (xs:List α):∀ is:List Nat,(fX xs is).length≤is.length:=fun is=>List.length_filterMap_le _ _
end L2
namespace VL
variable {a:DE} {ρ:aK} {ds:List D} {ta:TE} {H:Hp} {Z:NP→Prop} {kvs:List (Int×Int)} {ms:List Bool} {ip:Nat} {ps:List NP} {rows:List (List D)} {tr:TA} {es:aK→Option (List D)} {F:NP→List NP→List D→Option (List (List D))}
open PySem L2
section
open Classical
section
variable [bB] {K:NK}
theorem vn {H:Hp} {Z:NP→Prop} {vs:List V} {ds:List D} (r:IsL K H Z vs ds):∀ is:List Nat,IsL K H Z (fX vs is) (fX ds is)
 | []=>.nil
 | i::is=>by
  unfold fX;rw [Qh,Qh];have hl:=r.length;by_cases c:i<vs.length
  ·obtain ⟨d,e⟩:∃ d,ds[i]?=some d:=⟨_,NG (by lia)⟩
   obtain ⟨v,ev,iv⟩:=r.get e;rw [e,ev];exact .cons iv (vn r is)
  ·rw [OL (by lia),OL (by lia)];exact vn r is
noncomputable def yr (a:DE) (lo hi st:aK→Option (Option Int)):aK→Option (List D):=fun ρ=>match fH a ρ with
 | some ds=>(match lo ρ,hi ρ,st ρ with
  | some l,some h,some w=>if w≠some 0∧(stepI l h w ds.length).length≤NM then some (fX ds (stepI l h w ds.length)) else none
  | _,_,_=>none)
 | _=>none
omit [bB] in
theorem Ft {lo hi st:aK→Option (Option Int)} {l h w:Option Int} (ha:fH a ρ=some ds) (h1:lo ρ=some l) (h2:hi ρ=some h) (h3:st ρ=some w) (hc:w≠some 0∧(stepI l h w ds.length).length≤NM):yr a lo hi st ρ=some (fX ds (stepI l h w ds.length)):=by unfold yr; rw [ha,h1,h2,h3]; exact if_pos hc
theorem Ej {tl th ts:TO} {lo hi st:aK→Option (Option Int)} (ha:aq K ta a) (hl:tw K tl lo) (hh:tw K th hi) (hs:tw K ts st):bF K (K5 K ta tl th ts) (yr a lo hi st):=fun {B Z os ρ σ H Q ds} f q k=>by
 unfold yr at q;split at q
 ·rename_i es e1;split at q
  ·rename_i l u w e2 e3 e4;split at q
   ·rename_i hc;cases q;obtain ⟨d,e1,ed⟩:=dU e1;refine ha f e1 fun v H1 s1 i1=>hl (f.grow s1) e2 fun H2 s2=>hh (f.grow ‹47›) e3 fun H3 s3=>hs (f.grow (‹47›.trans s3)) e4 fun H4 s4=>?_;obtain ⟨p,vs,rfl,hn,_,hr⟩:=i1.seq ed;obtain ⟨hr,r⟩:=hr H4 _ (Kp.same ((s2.trans s3).trans s4));have s14:=(‹47›.trans s3).trans s4;have hvl:=r.length;rw [← hvl] at hc k;have hpl:(fX vs (stepI l u w vs.length)).length≤NM:=ON (EI _ _) hc.2;exact ⟨p,vs,rfl,hr,hc.1,hpl,fun n hn'=>k n _ _ (s14.trans (bO hn')) (aW.free s14 hn') aN hpl ((vn r _).kp (iI hn'))⟩
   ·cases q
  ·cases q
 ·cases q
end
end
section
open Classical
section
variable [bB] {K:NK} {fr:Fm}
def getZ (kvs:List (Int×Int)) (k:Int):Option Int:=(kvs.find? fun p=>decide (p.1=k)).map (·.2)
def lE (kvs:List (Int×Int)) (k v:Int):List (Int×Int):=if kvs.any (fun p=>decide (p.1=k)) then kvs.map fun p=>if p.1=k then (p.1,v) else p else kvs++[(k,v)]
omit [bB] in
theorem pZ (k:Int):∀ kvs:List (Int×Int),L2.n9 (kvs.map tf) (.inl k)=(getZ kvs k).map V.int
 | []=>rfl
 | p::r=>by
  rw [Oq];by_cases e:p.1=k
  ·rw [L2.jV (show (tf p).1=.inl k by show Rh p.1=_; rw [e])];unfold getZ;rw [List.find?_cons_of_pos (by simpa using e)];rfl
  ·rw [L2.jW (show ¬ (tf p).1=.inl k from fun z=>e (So z)),pZ k r];unfold getZ;rw [List.find?_cons_of_neg (by simpa using e)]
theorem Is.LD {v:V} (h:Is K H Z v (.dct kvs)):∃ a,v=.ref a∧Rd H a (.dK (kvs.map tf))∧kvs.length≤NM:=by
 cases h with
 | dct hz h hl=>exact ⟨_,rfl,h,hl⟩
def nr (a b:DE):DE:=fun ρ=>match a ρ,b ρ with
 | some (.dct kvs),some (.int k)=>(getZ kvs k).map D.int
 | _,_=>none
omit [bB] in
theorem Hm {b:DE} {k v:Int} (ha:a ρ=some (.dct kvs)) (hb:b ρ=some (.int k)) (h:getZ kvs k=some v):nr a b ρ=some (.int v):=by unfold nr; rw [ha,hb]; dsimp only; rw [h]; rfl
theorem A3 {tb:TE} {b:DE} (ha:a0 K ta a) (hb:a0 K tb b):aq K (HQ ta tb) (nr a b):=fun {B Z os ρ σ H Q d} f q k=>by
 unfold nr at q;split at q
 ·rename_i kvs i e1 e2;obtain ⟨v,ev,rfl⟩:=OH.mp q;refine ha f e1 fun w H1 s1 i1=>hb (f.grow s1) e2 fun u H2 s2 i2=>?_;cases (i2.isInt);obtain ⟨x,rfl,rd,_⟩:=(i1.same s2).LD;refine ⟨x,.int v,rfl,.inl ⟨_,.inl i,rd,rfl,?_⟩,k _ _ ‹47› (.int _)⟩;rw [pZ,ev]; rfl
 ·cases q
end
end
section
open Classical
section
variable [bB] {K:NK} {fr:Fm}
theorem BS (k:Int):∀ kvs:List (Int×Int),((kvs.map tf).any fun kv=>decide (kv.1=Rh k))=kvs.any fun p=>decide (p.1=k)
 | []=>rfl
 | p::r=>by
  rw [Oq,Rf,Rf,BS k r];have e:decide ((tf p).1=Rh k)=decide (p.1=k):=by rw [Pa,decide_eq_true_iff,decide_eq_true_iff];exact ⟨fun h=>So h,fun h=>by show Rh p.1=_; rw [h]⟩
  rw [e]
omit [bB] in
theorem Be (kvs:List (Int×Int)) (k v:Int):L2.putK (kvs.map tf) (.inl k) (.int v)=(lE kvs k v).map tf:=by
 unfold L2.putK lE;rw [BS];split
 ·rw [N0,N0];refine OC fun p _=>?_;show (if (tf p).1=Rh k then ((tf p).1,V.int v) else tf p)=tf (if p.1=k then (p.1,v) else p);by_cases e:p.1=k
  ·rw [if_pos e,if_pos (by show Rh p.1=_; rw [e])]; rfl
  ·rw [if_neg e,if_neg (show ¬ (tf p).1=Rh k from fun z=>e (So z))]
 ·rw [Od]; rfl
omit [bB] in
theorem xw (kvs:List (Int×Int)) (k v:Int):(lE kvs k v).length≤kvs.length+1:=by
 unfold lE;split
 ·rw [NH]; lia
 ·rw [N7,Pl]; lia
end
end
section
open Classical
section
variable [bB] {K:NK} {fr:Fm}
section
variable {B H:Hp} {Z:NP→Prop} {os:Own} {ρ:aK} {σ:L2.St} {i:Nat} {a:NP} {ps:List NP} {rows:List (List D)}
theorem Fr.K1 (f:Fr K B Z os ρ σ H) (e:ρ.getD i .un=.pm a ps rows):Fr K B Z os (ρ.set i (.om rows)) σ H∧os i=a::ps:=by
 have s:=f.sl i;rw [e] at s;obtain ⟨eo,hu,hH,hl,r⟩:=s;have hi:=fR e (by intro z; cases z);refine ⟨⟨f.keep,f.DI,by rw [Pb]; exact f.len,f.nd,f.dj,f.new,fun j=>?_,f.tab⟩,eo⟩;by_cases hj:j=i
 ·subst hj;rw [dh hi];exact ⟨a,ps,eo,hu,hH,hl,r⟩
 ·rw [iy hj];exact f.sl j
theorem Fr.pin (f:Fr K B Z os ρ σ H) (e:ρ.getD i .un=.om rows) (eo:os i=a::ps):Fr K B Z os (ρ.set i (.pm a ps rows)) σ H:=by
 have s:=f.sl i;rw [e] at s;obtain ⟨b,qs,eo',hu,hH,hl,r⟩:=s;rw [eo] at eo';cases eo';have hi:=fR e (by intro z; cases z);refine ⟨f.keep,f.DI,by rw [Pb]; exact f.len,f.nd,f.dj,f.new,fun j=>?_,f.tab⟩;by_cases hj:j=i
 ·subst hj;rw [dh hi];exact ⟨eo,hu,hH,hl,r⟩
 ·rw [iy hj];exact f.sl j
end
theorem JD (h:(ms.set ip true).all id=true):∀ j,j≠ip→ms.getD j true=true:=fun j hj=>by
 rw [NF];by_cases c:j<ms.length
 ·have e:(ms.set ip true)[j]?=ms[j]?:=PH (P9 hj);rw [NG c] at e;have:=Pj.mp h ms[j] (OF e);rw [NG c];exact this
 ·rw [OL (by lia)]; rfl
theorem IW {n:Nat} {j:Nat} {d:D} (h:(gO n ms ds).getD j .un=.bo d):ms.getD j true=false:=by
 unfold gO at h;rw [NF] at h;by_cases hj:j<(VJ zh ms ds).length
 ·rw [OM hj,List.getElem?_zipWith] at h;rw [Rx] at hj;rw [NG (show j<ms.length by lia),NG (show j<ds.length by lia)] at h;rw [NF,NG (show j<ms.length by lia)];cases e:ms[j] with
  | false=>rfl
  | true=>rw [e] at h; cases h
 ·rw [Ox (by lia),Pg] at h;split at h <;> cases h
theorem Lu {N:List OX} {vs:List V} {a:NP} (hz:ZT Z H) (h:Args K H Z ms vs ds) (hm:∀ j,j≠ip→ms.getD j true=true) (hip:ip<N.length) (hv:vs[ip]?=some (.ref a)) (hn:(a::ps).Nodup) (hZ:∀ b∈a::ps,Z b) (hH:H a=some (.lst ‹41›)) (hl:ps.length≤NM)
 (hp:PU (fun p ds=>∃ vs,H p=some (.lst vs)∧vs.length≤NM∧IsL K H Z vs ds) ps rows) :
 Fr K (fun b=>if b∈a::ps then none else H b) (fun b=>Z b∧b∉a::ps) (fun j=>if j=ip then a::ps else []) ((gO N.length ms ds).set ip (.pm a ps rows)) (L2.start N vs) H:=by
 have f0:=mS (N:=N) hz h
 have tt:∀ b,bW (fun b=>Z b∧b∉a::ps) (fun j=>if j=ip then a::ps else []) b→Z b:=by
  rintro b (z | ⟨j,z⟩)
  ·exact z.1
  ·by_cases hj:j=ip
   ·have z:b∈(if j=ip then a::ps else []):=z;rw [if_pos hj] at z; exact hZ b z
   ·have z:b∈(if j=ip then a::ps else []):=z;rw [if_neg hj] at z; cases z
 have sZ:∀ b∈a::ps,∃ vs,H b=some (.lst vs):=fun b hb=>by
  rcases NU.mp hb with rfl | hb
  ·exact ⟨_,hH⟩
  ·obtain ⟨_,vs,q,_⟩:=Paired.any hp hb;exact ⟨_,q⟩
 refine ⟨fun b o e=>?_,fun b z=>hz.1 b z.1,by rw [Pb]; exact f0.len,fun j=>?_,fun i j b h1 h2=>?_,fun i b hb=>?_,fun j=>?_,fun p hp'=>?_⟩
 ·split at e
  ·cases e
  ·exact e
 ·split
  ·exact hn
  ·exact O8
 ·split at h1
  ·split at h2
   ·rename_i x y; rw [x,y]
   ·cases h2
  ·cases h1
 ·split at hb
  ·exact ⟨if_pos hb,fun z=>z.2 hb⟩
  ·cases hb
 ·by_cases hj:j=ip
  ·subst hj;have hlen:j<(gO N.length ms ds).length:=by rw [← f0.len]; unfold L2.start; rw [N7,NH,OQ]; lia
   rw [dh hlen];refine ⟨if_pos rfl,?_,hH,hl,Paired.mono hp fun q ds _ ⟨vs,h1,h2,h3⟩=>⟨vs,h1,h2,h3.kp (Kp.less tt)⟩⟩;unfold L2.start;have hjv:=(Oe.mp hv).1;rw [OM (by rw [NH]; exact hjv),NR,hv];rfl
  ·rw [iy hj];rw [if_neg hj];have s:=f0.sl j;cases e:(gO N.length ms ds).getD j .un with
   | un=>exact rfl
   | pu d=>rw [e] at s; obtain ⟨_,u,hu,i1⟩:=s; exact ⟨rfl,u,hu,i1.kp (Kp.less fun b z=>.inl (tt b z))⟩
   | bo d=>have:=IW e; rw [hm j hj] at this; cases this
   | ol d=>rw [e] at s; obtain ⟨_,_,z,_⟩:=s; cases z
   | om d=>rw [e] at s; obtain ⟨_,_,z,_⟩:=s; cases z
   | od d=>rw [e] at s; obtain ⟨_,z,_⟩:=s; cases z
   | pm _ _ d=>rw [e] at s; obtain ⟨z,_⟩:=s; cases z
   | pd _ d=>rw [e] at s; obtain ⟨z,_⟩:=s; cases z
 ·obtain ⟨t,e⟩:=hz.2 p hp';refine ⟨t,?_⟩;rw [if_neg]
  ·exact e
  ·intro hb;obtain ⟨vs,q⟩:=sZ _ hb;rw [e] at q; cases q
@[irreducible] noncomputable def Cz (n ip:Nat) (ms:List Bool) (b:DS) (a:NP) (ps:List NP) (ds:List D):Option (List (List D)):=match ds[ip]? with
 | some (.lst rs)=>(match uJ rs with
  | some rows=>(match b ((gO n ms ds).set ip (.pm a ps rows)) with
   | .nx ρ=>(match ρ.getD ip .un with
    | .pm a' ps' rows'=>if a'=a∧ps'=ps then some rows' else none
    | _=>none)
   | _=>none)
  | none=>none)
 | _=>none
noncomputable def Hz (K:NK) (i ip:Nat) (ms:List Bool) (t:TA) (e:aK→Option (List D)):Prop:=∀ {B:Hp} {Z:NP→Prop} {os:Own} {ρ:aK} {σ:L2.St} {H:Hp} {Q:List V→Hp→Prop} {ds:List D},Fr K B Z os ρ σ H→e ρ=some ds→(∀ vs H',aW H H'→Args K H' (bW Z os) ms vs ds→vs[ip]?=(σ[i]?).join→ds[ip]?=ai i ρ→Q vs H')→t σ H Q
theorem Gr {i:Nat} (hr:wm K ms tr es):Hz K i 0 (false::ms) (cx (lC i) tr) (ao (ai i) es):=fun {B Z os ρ σ H Q ds} f q k=>by
 obtain ⟨d,r,e1,e2,rfl⟩:=jw q
 have hv:∃ u,(σ[i]?).join=some u∧Is K H No u d:=by
  have:=ae (K:=K) i f (Q:=fun v H'=>(σ[i]?).join=some v∧H'=H∧Is K H No v d) e1;have s:=f.sl i;unfold ai at e1;cases e:ρ.getD i .un with
  | un=>rw [e] at e1; cases e1
  | pu d'=>rw [e] at e1 s; cases e1; obtain ⟨_,u,hu,i1⟩:=s; exact ⟨u,hu,i1.all⟩
  | bo d'=>rw [e] at e1 s; cases e1; obtain ⟨_,u,hu,i1⟩:=s; exact ⟨u,hu,i1.same f.keep⟩
  | ol ds=>rw [e] at e1 s; cases e1; obtain ⟨a,vs,_,hu,hH,hl,i1⟩:=s; exact ⟨_,hu,.lst (fun z=>z) (.inl hH) hl i1.all⟩
  | om rows=>rw [e] at e1 s; cases e1; obtain ⟨a,ps,_,hu,hH,hl,i1⟩:=s; exact ⟨_,hu,.lst (fun z=>z) (.inl hH) (by rw [NH]; exact hl) (gE i1)⟩
  | od kvs=>rw [e] at e1 s; cases e1; obtain ⟨a,_,hu,hH,hl⟩:=s; exact ⟨_,hu,.dct (fun z=>z) (.inl hH) hl⟩
  | pm a ps rows=>rw [e] at e1 s; cases e1; obtain ⟨_,hu,hH,hl,i1⟩:=s; exact ⟨_,hu,.lst (fun z=>z) (.inl hH) (by rw [NH]; exact hl) (gE i1)⟩
  | pd a kvs=>rw [e] at e1 s; cases e1; obtain ⟨_,hu,hH,hl⟩:=s; exact ⟨_,hu,.dct (fun z=>z) (.inl hH) hl⟩
 obtain ⟨u,hu,iu⟩:=hv;exact ⟨u,join_some hu,hr f e2 fun vs H' s a=>k (u::vs) H' s (.any (iu.same s) a) (by rw [hu]; rfl) (by rw [e1]; rfl)⟩
theorem AO {i:Nat} (ha:aq K ta a) (hr:Hz K i ip ms tr es):Hz K i (ip+1) (true::ms) (cx ta tr) (ao a es):=fun {B Z os ρ σ H Q ds} f q k=>by obtain ⟨d,r,e1,e2,rfl⟩:=jw q;exact ha f e1 fun v H1 s1 i1=>hr (f.grow s1) e2 fun vs H2 s2 ar hv hd=>k (v::vs) H2 ‹47› (.own (i1.same s2) ar) hv hd
@[irreducible] noncomputable def ve (i:Nat) (F:NP→List NP→List D→Option (List (List D))) (es:aK→Option (List D)):DS:=fun ρ=>match ρ.getD i .un with
 | .om rows=>(match es ρ with
  | some ds=>if h:∃ rows',∀ a ps,ps.length=rows.length→F a ps ds=some rows' then .nx (ρ.set i (.om h.choose)) else .no
  | none=>.no)
 | _=>.no
theorem DM {i:Nat} {W:Wk} {rows':List (List D)} (h0:ρ.getD i .un=.om rows) (h1:es ρ=some ds) (h2:∀ a ps,ps.length=rows.length→F a ps ds=some rows') (k:W.nx (ρ.set i (.om rows'))):Wp (ve i F es) ρ W:=by
 have ex:∃ rows',∀ a ps,ps.length=rows.length→F a ps ds=some rows':=⟨_,h2⟩
 have e:ex.choose=rows':=by have q:=ex.choose_spec 0 (Oz rows.length 0) (OQ ..);rw [h2 0 _ (OQ ..)] at q;exact (OD q).symm
 unfold Wp ve;rw [h0];simp only [h1];rw [dif_pos ex,e];exact k
theorem GG {n:Nat} {b:DS} (hF:F=Cz n ip ms b) {a:NP} {rows':List (List D)} (hd:ds[ip]?=some (fV rows)) (h:Wp b ((gO n ms ds).set ip (.pm a ps rows)) { nx:=fun ρ=>ρ.getD ip .un=.pm a ps rows',rt:=fun _=>False }):F a ps ds=some rows':=by
 subst hF;unfold Cz;rw [hd];unfold fV;dsimp only;rw [l6];dsimp only;unfold Wp at h;split at h
 ·rename_i ρ e;rw [e];dsimp only;rw [show ρ.getD ip .un=.pm a ps rows' from h];exact if_pos ⟨rfl,rfl⟩
 ·exact h.elim
 ·exact h.elim
 ·exact h.elim
 ·exact h.elim
end
end
section
open Classical
section
variable [bB] {K:NK}
def Me:List D→Option (List Int)
 | []=>some []
 | .int n::r=>(Me r).map (n::·)
 | _=>none
omit [bB] in
end
end
end VL
namespace L2
open PySem PySem.Spec PyProof.Rows VL
structure NA (K:NK) (C:NP):Prop where
 makes:We K C=true
 init:Qf K (.ref C) "__init__" = some (some (.builtin "object.__init__"))
 kp:QV K (.ref C)=true
section
variable {X:Cx}
inductive KN (X:Cx) (m:OX):List (NP×Sp)→Prop
 | nil:KN X m []
 | cons {C f:NP} {fd:P6} {ps:List OX} {sp:Sp} {k:Nat} {tbl:List (NP×Sp)} (c:LS X.K C) (hm:Meth X.K C m f) (F:cE X.prog X.w X.K X.mg X.base gJ k f fd ps sp) (hr:eQ k X.A) (hb:Binds X.K fd ps []) (r:KN X m tbl):KN X m ((C,sp)::tbl)
structure MW (K:NK) (C:NP):Prop where
 cl:LS K C
 ha:Qf K (.ref C) "__class__" = some (some ‹37›)
 hn:RW K ‹37› "__get__" = some (some (.builtin "getset_descriptor.__get__"))
 MD:Uy K ‹37›=some true
 hm:TB K C (.type "object")=some true
end
end L2
namespace VL
variable {ρ:aK} {W:Wk} {ds:List D} {F:NP→List NP→List D→Option (List (List D))} {es:aK→Option (List D)}
open PySem L2
section
open Classical
section
variable [bB] {K:NK} {ta tb:TE} {a b:DE}
inductive KTab (K:NK) (c:NP):List (NP×Bool)→Prop
 | nil:KTab K c []
 | cons {C:NP} {b:Bool} {r:List (NP×Bool)} (k:MW K C) (e:Rl K (.ref C) (.ref c)=some b) (h:KTab K c r):KTab K c ((C,b)::r)
end
end
section
open Classical
section
variable [bB] {K:NK} {fr:Fm}
@[irreducible] noncomputable def q9 (i:Nat) (b c a:DE):DS:=fun ρ=>match ρ.getD i .un with
  | .pm q0 qs rows=>(match a ρ with
    | some d=>(match b ρ with
      | some (.int n)=>(match ixN rows.length n with
        | some r=>(match rows[r]? with
          | some ds=>(match c ρ with
            | some (.int m)=>(match ixN ds.length m with
              | some j=>.nx (ρ.set i (.pm q0 qs (rows.set r (ds.set j d))))
              | none=>.no)
            | _=>.no)
          | none=>.no)
        | none=>.no)
      | _=>.no)
    | none=>.no)
  | _=>.no
theorem Ea {i:Nat} {ta tb tc:TE} {a b c:DE} (ha:aq K ta a) (hb:a0 K tb b) (hc:a0 K tc c):c9 fr K (su ta (Hc (nW (F3 K) (lC i) tb) tc xv)) (q9 i b c a):=fun {B Z os ρ σ H E} f p=>by
 unfold q9 at p;split at p
 ·rename_i q0 qs rows e;split at p
  ·rename_i d e1;split at p
   ·rename_i n e2;split at p
    ·rename_i r e3;split at p
     ·rename_i ds e4;split at p
      ·rename_i m e5;split at p
       ·rename_i j e6;obtain ⟨f0,eo0⟩:=f.K1 e;have hi:=fR e (by intro z; cases z);have e':(ρ.set i (.om rows)).getD i .un=.om rows:=dh hi;obtain ⟨x,ps,q,vs,eo,hu,hH,hat,hr,hq,hl,il⟩:=vh f0 e' e3 e4;rw [eo0] at eo;cases eo;refine ha f e1 fun v H1 s1 i1=>⟨_,join_some hu,hb (f.grow s1) e2 fun w H2 s2 i2=>?_⟩
        have s12:=s1.trans s2;refine .inl ⟨q0,qs.map V.ref,n,.ref q,rfl,i2.isInt,dQ.of (s12 _ _ hH),hat,hc (f.grow s12) e5 fun u H3 s3 i3=>?_⟩;have s13:=s12.trans s3;have f3:=f0.grow s13;obtain ⟨f',k⟩:=f3.Ig (vs':=vs.set j v) (ds':=ds.set j d) e' eo0 hu hr (by rw [Pb]; exact hl) ((il.same s13).set ((i1.same s2).same s3) j);have f'':=f'.pin (a:=q0) (ps:=qs) (dh (by rw [Pb]; exact hi)) bD;rw [List.set_set,List.set_set] at f'';exact ⟨q,vs,m,j,rfl,i3.isInt,s13 _ _ hq,by rw [il.length]; exact e6,p _ _ _ f'' ((Kp.same s13).trans k)⟩
       ·show 1
      ·show 1
     ·show 1
    ·show 1
   ·show 1
  ·show 1
 ·show 1
theorem DL {i:Nat} {e c a:DE} {q0:NP} {qs:List NP} {rows:List (List D)} {d:D} {n m:Int} {r j:Nat} (h0:ρ.getD i .un=.pm q0 qs rows) (h1:a ρ=some d) (h2:e ρ=some (.int n)) (h3:ixN rows.length n=some r) (h4:rows[r]?=some ds) (h5:c ρ=some (.int m)) (h6:ixN ds.length m=some j) (k:W.nx (ρ.set i (.pm q0 qs (rows.set r (ds.set j d))))):Wp (q9 i e c a) ρ W:=by unfold Wp q9; rw [h0]; simp only [h1,h2,h3,h4,h5,h6]; exact k
def HA (K:NK) (t:TS) (s:DS):Prop:=∀ {B:Hp} {Z:NP→Prop} {os:Own} {ρ ρ':aK} {σ:L2.St} {H:Hp} {E:Ends},Fr K B Z os ρ σ H→s ρ=.nx ρ'→(∀ os' σ' H',Fr K B Z os' ρ' σ' H'→E.rt (.bl true) H')→t E σ H
theorem IY:HA K (D0 (tC (.bl true))) bX:=fun f e p=>by unfold bX at e; cases e; exact p _ _ _ f
theorem qR {t u:TS} {s w:DS} (h1:c9 .v K t s) (h2:HA K u w):HA K (IP t u) (aL s w):=fun {B Z os ρ ρ' σ H E} f e p=>by
 unfold aL at e;refine h1 f ?_;cases q:s ρ with
 | nx ρ1=>rw [q] at e; exact fun os' σ' H' f' k=>h2 f' e p
 | bk ρ1=>rw [q] at e; cases e
 | ct ρ1=>rw [q] at e; cases e
 | rt d=>rw [q] at e; cases e
 | no=>rw [q] at e; cases e
noncomputable def Gv (K:NK) (ip:Nat) (ms:List Bool) (F:NP→List NP→List D→Option (List (List D))):Sp:=fun vs H Q _=>∃ (Z:NP→Prop) (ds:List D) (a:NP) (ps:List NP) (rows rows':List (List D)),
 ZT Z H∧Args K H Z ms vs ds∧vs[ip]?=some (.ref a)∧ds[ip]?=some (fV rows)∧(a::ps).Nodup∧(∀ b∈a::ps,Z b)∧H a=some (.lst ‹41›)∧ps.length≤NM∧PU (fun p ds=>∃ vs,H p=some (.lst vs)∧vs.length≤NM∧IsL K H Z vs ds) ps rows∧F a ps ds=some rows' ∧
 ∀ H',(∀ b o,H b=some o→b∉a::ps→H' b=some o)→H' a=some (.lst ‹41›)→PU (fun p ds=>∃ vs,H' p=some (.lst vs)∧vs.length≤NM∧IsL K H' Z vs ds) ps rows'→Q (.bl true) H'
theorem gm.Mo {P:O4} {w:Pf} {mg:OX→Option NN} {base:PM} {x qual:OX} {st:Qo} {f:NP} {fd:P6} {N qs:List OX} {k:Nat} (F:gm K x qual st f fd) (S:aR N qs (aB st)) (ip:Nat) (ms:List Bool) (hms:ms.length=qs.length) (hm:∀ j,j≠ip→ms.getD j true=true) (hip:ip<N.length) (b:DS)
    (hbody:∀ (cdv:NN) (A:O3) (outer:List V5) (s:NS) (H:Hp) (E:XK),eQ k (A.deeper (QU qual (aB st) ‹4› f cdv)) →
      ∃ t,wq ‹14›.EW (dZ st) t∧HA K t b):cE P w K mg base gJ (k+1) f fd qs (Gv K ip ms (Cz N.length ip ms b)):=by
  refine F.ok S (fun vs H Q E h=>?_) (fun cdv A outer s H vs Q E hr h=>?_)
  · obtain ⟨Z,ds,_,_,_,_,hz,a,_⟩:=h;rw [a.len.1,hms]
  · obtain ⟨Z,ds,a,ps,rows,rows',hz,ar,hv,hd,hn,hZ,hH,hl,hp,hF,k⟩:=h;obtain ⟨t,h1,h2⟩:=hbody cdv A outer s H E hr;unfold Cz at hF;rw [hd] at hF;unfold fV at hF;dsimp only at hF;rw [l6] at hF;dsimp only at hF;split at hF
    · rename_i ρ e1;split at hF
      · rename_i a' ps' r' e2;split at hF
        · rename_i e3;obtain ⟨rfl,rfl⟩:=e3;cases hF;refine ⟨t,h1,h2 (Lu hz ar hm hip hv hn hZ hH hl hp) e1 ?_⟩;intro os' σ' H' f';have s':=f'.sl ip;rw [e2] at s';obtain ⟨eo,hu,hH',hl',pr⟩:=s';refine k H' (fun b o e n=>f'.keep b o ?_) hH' (Paired.mono pr fun q ds _ ⟨us,g1,g2,g3⟩=>⟨us,g1,g2,g3.kp (Kp.less fun b z=>?_)⟩)
          · rw [if_neg n]; exact e
          · by_cases hb:b∈a'::ps'
            · exact .inr ⟨ip,by rw [eo]; exact hb⟩
            · exact .inl ⟨z,hb⟩
        · cases hF
      · cases hF
    · cases hF
@[irreducible] def Es (c:aK→Option Bool) (i:Nat) (F:NP→List NP→List D→Option (List (List D))) (es:aK→Option (List D)):DS:=fun ρ=>match c ρ with
 | some false=>ve i F es ρ
 | _=>.no
theorem IG {c:aK→Option Bool} {i:Nat} {rows rows':List (List D)} (hc:c ρ=some false) (h0:ρ.getD i .un=.om rows) (h1:es ρ=some ds) (h2:∀ a ps,ps.length=rows.length→F a ps ds=some rows') (k:W.nx (ρ.set i (.om rows'))):Wp (Es c i F es) ρ W:=by have:=DM (W:=W) h0 h1 h2 k;unfold Wp Es at *;rw [hc];exact this
theorem IX {i ip:Nat} {ms:List Bool} {tc:TT} {c:aK→Option Bool} {t:TA} {u:TS} {E0:XK} (hc:kE K tc c) (hu:Hz K i ip ms t es) :
 c9 fr K (IT (Mg tc (IQ (fun σ H Q=>AN (Gv K ip ms F) [] E0 t σ H fun x H'=>∃ k,DA K x H' k∧Q k H'))) u D1) (Es c i F es):=fun {B Z os ρ σ H E} f p=>by
 unfold Es at p;split at p
 ·rename_i ec;refine hc f ec fun H0 s0=>pU ?_;replace f:=f.grow s0;replace p:=p.kp (Kp.same s0);unfold ve at p;split at p
  ·rename_i rows e;split at p
   ·rename_i ds e1;split at p
    ·rename_i ex;have hF:=ex.choose_spec;generalize ex.choose=rows' at p hF;refine hu f e1 fun vs H1 s1 ar hv hd=>?_;show Gv K ip ms F (vs++[]) H1 _ E0;rw [OT];have f1:=f.grow s1;obtain ⟨a,ps,eo,hua,hH,hl,hln,pr⟩:=Bo f1 e;have hn:=f1.nd i;rw [eo] at hn;have hi:=fR e (by intro z; cases z);refine ⟨bW Z os,ds,a,ps,rows,rows',f1.zt,ar,by rw [hv,hua],by rw [hd]; unfold ai; rw [e]; rfl,hn,fun b hb=>.inr ⟨i,by rw [eo]; exact hb⟩,hH,hl,pr,hF a ps hln,fun H' hk ha hp=>⟨true,rfl,pU ?_⟩⟩
     have tt:bW Z (jP os i (a::ps))=bW Z os:=by
      funext c;apply propext;constructor
      ·rintro (z | ⟨j,z⟩)
       ·exact .inl z
       ·show 5
        ·subst hj; rw [bD] at z; exact .inr ⟨j,by rw [eo]; exact z⟩
        ·rw [cg hj] at z; exact .inr ⟨j,z⟩
      ·rintro (z | ⟨j,z⟩)
       ·exact .inl z
       ·show 5
        ·subst hj; exact .inr ⟨j,by rw [bD,← eo]; exact z⟩
        ·exact .inr ⟨j,by rw [cg hj]; exact z⟩
     have st:=f1.step (H':=H') (i:=i) hi (o:=a::ps) (s:=.om rows') (v:=some (.ref a)) (fun b u e n=>hk b u e (by rw [← eo]; exact n)) (fun b hb=>?_) hn (fun b hb=>by rw [← eo] at hb; exact .inl hb)
      ⟨a,ps,rfl,rfl,ha,hl,by rw [tt]; exact hp⟩
     ·rw [gW hua] at st;exact p _ _ _ st.1 ((Kp.same s1).trans st.2)
     ·rw [eo] at hb;rcases NU.mp hb with rfl | hb
      ·exact ⟨_,ha⟩
      ·obtain ⟨_,us,q,_⟩:=Paired.any hp hb;exact ⟨_,q⟩
    ·show 1
   ·show 1
  ·show 1
 ·show 1
end
end
end VL
namespace PySem.SeqAt
open AutoSeq1 (wpAny_loadPart')
section
open MeetsSeq MeetsSeq2 MeetsSeq3
def wu (A:O3) (s:NS) (y x:NN) (b:Bool):Prop :=
 ∀ (prog:O4) (w:Pf) (E:NN→NS→Prop) (Q:NN→NS→Prop),Q (.bool b) s→Ou ‹10› A (V8 .LtE y x) Q E s
theorem CV (l b:NP) (items items2:Array NN) (n n2:Nat) (dd dd2:Option NP) (sl sl2:Array (Option NN)) (e lt:Nat→Bool) (k:Nat) :
 ∀ i:Nat,i≤min items.size items2.size→min items.size items2.size-i=k→Meets (Ru.«list.__eq__.loop» ⟨[.ref l,.ref b,VW i,VW 1],[]⟩)
  (fun A R s=>s.heap.get? l=some { cls:=.type "list", dict:=dd,data:=.seq items n,slots:=sl }∧s.heap.get? b=some { cls:=.type "list", dict:=dd2,data:=.seq items2 n2,slots:=sl2 } ∧
   (∀ j (h1:j<items.size) (h2:j<items2.size),EqAt A.in1 s items[j] items2[j] (e j))∧(∀ j (h1:j<items.size) (h2:j<items2.size),e j=false→wu A.in1 s items[j] items2[j] (lt j)) ∧
   R (.ok (.ret (.bool (gu e lt (decide (items.size≤items2.size)) k i)))) s):=by
 induction k with
 | zero =>
  intro i hi hk prog w A R s h;obtain ⟨hp,g,d,tk,os⟩:=s; obtain ⟨hl,hb,he,hlt,h⟩:=h;wp_walk using OP hl,OP hb;by_cases hc:items.size≤i
  ·have hi1:items[((i:Nat):Int).toNat]?=none:=by simp; lia
   rw [hi1];wp_walk using OP hl,OP hb;exact h
  ·have hi2:items2[((i:Nat):Int).toNat]?=none:=by simp; lia
   have hi1:items[((i:Nat):Int).toNat]?=some (items[i]'(by lia)):=by simp
   rw [hi1,hi2];wp_walk using OP hl,OP hb;exact h
 | succ k ih =>
  intro i hi hk prog w A R s h;obtain ⟨hp,g,d,tk,os⟩:=s; obtain ⟨hl,hb,he,hlt,h⟩:=h;wp_walk using OP hl,OP hb;have hlt1:i<items.size:=by lia
  have hlt2:i<items2.size:=by lia
  have hi1:items[((i:Nat):Int).toNat]?=some items[i]:=by simp [hlt1]
  have hi2:items2[((i:Nat):Int).toNat]?=some items2[i]:=by simp [hlt2]
  have hc:((i:Int)+1)=((i+1:Nat):Int):=by push_cast; rfl
  unfold gu at h;rw [hi1,hi2];refine NO (he i hlt1 hlt2 prog w _ _ ?_);cases hb':e i with
  | true =>rw [hb',if_pos rfl] at h;wp_walk;rw [hc];exact ⟨QP plain_eq_loop _,Qu entry_eq_loop (by rw [PX plain_eq_loop _];exact ih (i+1) (by lia) (by lia) prog w A R _ ⟨hl,hb,he,hlt,h⟩)⟩
  | false =>rw [hb',if_neg N8] at h;wp_walk using OP hl,OP hb;rw [hi1,hi2];dsimp only;refine NO (hlt i hlt1 hlt2 hb' prog w _ _ ?_);wp_walk;exact h
theorem CU (l b:NP) (items items2:Array NN) (n n2:Nat) (dd dd2:Option NP) (sl sl2:Array (Option NN)) (e lt:Nat→Bool) :
 Meets (Ru.«list.__le__» ⟨[.ref l,.ref b],[]⟩)
  (fun A R s=>s.heap.get? l=some { cls:=.type "list", dict:=dd,data:=.seq items n,slots:=sl }∧s.heap.get? b=some { cls:=.type "list", dict:=dd2,data:=.seq items2 n2,slots:=sl2 } ∧
   (∀ j (h1:j<items.size) (h2:j<items2.size),EqAt A.in1 s items[j] items2[j] (e j))∧(∀ j (h1:j<items.size) (h2:j<items2.size),e j=false→wu A.in1 s items[j] items2[j] (lt j)) ∧
   R (.ok (.ret (.bool ‹27›))) s):=by
 intro prog w A R s h;obtain ⟨hp,g,d,tk,os⟩:=s; obtain ⟨hl,hb,he,hlt,h⟩:=h;have f3:=Ur;wp_walk using OP hl,OP hb;exact ⟨QP plain_eq_loop _,Qu entry_eq_loop (by rw [PX plain_eq_loop _];exact CV l b items items2 n n2 dd dd2 sl sl2 e lt _ 0 (O1 _) rfl prog w A R _ ⟨hl,hb,he,hlt,h⟩)⟩
section
variable {A:O3} {s:NS}
theorem wu.lists {l b:NP} {items items2:Array NN} {e lt:Nat→Bool} (hl:s.heap.IsList l items) (hb:s.heap.IsList b items2) (hu:A.units<RT)
 (he:∀ j (h1:j<items.size) (h2:j<items2.size),EqAt A.in1 s items[j] items2[j] (e j)) (hlt:∀ j (h1:j<items.size) (h2:j<items2.size),e j=false→wu A.in1 s items[j] items2[j] (lt j)):wu A s (.ref l) (.ref b) ‹27›:=fun prog w E Q h=>by
 obtain ⟨⟨cls,dd,data,sl⟩,ho,hc,n,hd⟩:=id hl;obtain ⟨⟨cls2,dd2,data2,sl2⟩,ho2,hc2,n2,hd2⟩:=id hb;simp only at hc hd hc2 hd2;subst hc hd hc2 hd2
 exact richCompare_meets_room (op:=.LtE) ⟨_,ho,rfl⟩ ⟨_,ho2,rfl⟩ F.slot_list_le F.entry_list_le (F.args_list_le_2 _ _) (CU l b items items2 n n2 dd dd2 sl sl2 e lt)
  ⟨ho,ho2,he,hlt,show Vq ‹27›≠Value.notImplemented∧Q (.bool ‹27›) s from ⟨(fun x=>nomatch x),h⟩⟩ hu
theorem wu.ints (a b:Int) (t u:WO):wu A s (.int a t) (.int b u) (decide (a≤b)):=fun prog w E Q h=>PyProof.Rows.le_int h
end
end
end PySem.SeqAt
namespace VL
open PySem L2
section
open Classical
section
variable [bB] {K:NK} {ta tb:TE} {a b:DE}
def lexLe:List Int→List Int→Bool
 | [],_=>true
 | _::_,[]=>false
 | x::xs,y::ys=>if x=y then lexLe xs ys else decide (x≤y)
omit [bB] in
theorem E4 {ns ms:List Int} (hl:ns.length=ms.length):∀ (k i:Nat),i+k=ns.length→SeqAt.gu (fun j=>ns.getD j 0==ms.getD j 0) (fun j=>decide (ns.getD j 0≤ms.getD j 0)) true k i=lexLe (ns.drop i) (ms.drop i):=by
 intro k;induction k with
 | zero =>intro i h;rw [Qx (show ns.length≤i by lia)];rfl
 | succ k ih =>
  intro i h;have h1:i<ns.length:=by lia
  have h2:i<ms.length:=by lia
  have e1:ns.getD i 0=ns[i]:=by rw [NF,NG h1]; rfl
  have e2:ms.getD i 0=ms[i]:=by rw [NF,NG h2]; rfl
  rw [OB h1,OB h2];unfold SeqAt.gu lexLe;rw [ih (i+1) (by lia),e1,e2];by_cases c:ns[i]=ms[i]
  ·rw [if_pos (beq_iff_eq.mpr c),if_pos c]
  ·rw [if_neg (fun z=>c (beq_iff_eq.mp z)),if_neg c]
end
end
end VL
namespace L2
open PySem PySem.Spec PyProof.Rows VL
def Lo:R2:=fun x y H Q=>∃ p q ns ms,x=.ref p∧y=.ref q∧Rd H p (.lst ‹43›)∧Rd H q (.lst (ms.map V.int))∧ns.length=ms.length∧Q (.bl (lexLe ns ms)) H
theorem Jx {X:Cx} (hu:X.A.units+64<RT):o6 X (Qa .LtE) Lo:=by
 intro pins s σ H x y v u Q I rx ry h;obtain ⟨p,q,ns,ms,rfl,rfl,h1,h2,hl,h⟩:=h;cases rx;cases ry;obtain ⟨_,us,m1,k1,n1,o1⟩:=I.m4 h1;obtain ⟨_,ws,m2,k2,n2,o2⟩:=I.m4 h2;rw [NH] at n1 n2
 have it:∀ {ns:List Int} {us:List NN},Vals ‹43› us→∀ j (h:j<us.toArray.size),∃ t,us.toArray[j]=.int (ns.getD j 0) t:=fun {ns us} k j h=>by
  have hj:j<ns.length:=by have:=k.length; rw [NH] at this; rw [NY] at h; lia
  obtain ⟨u,q1,t,e⟩:=k.get (show ‹43›[j]?=some (.int (ns.getD j 0)) by rw [NR,NF,NG hj]; rfl);refine ⟨t,?_⟩;rw [← e];rw [NY] at h;rw [NG h] at q1;simpa using q1
 have L:=SeqAt.wu.lists (A:=X.A) (s:=s) (l:=p) (b:=q) (items:=us.toArray) (items2:=ws.toArray) (e:=fun j=>ns.getD j 0==ms.getD j 0) (lt:=fun j=>decide (ns.getD j 0≤ms.getD j 0)) ⟨_,o1,rfl,_,rfl⟩ ⟨_,o2,rfl,_,rfl⟩ (by lia) (fun j a b=>by
  obtain ⟨t1,e1⟩:=it k1 j a;obtain ⟨t2,e2⟩:=it k2 j b;rw [e1,e2];exact RN _ _ _ _) fun j a b _=>by
  obtain ⟨t1,e1⟩:=it k1 j a;obtain ⟨t2,e2⟩:=it k2 j b;rw [e1,e2];exact SeqAt.wu.ints _ _ _ _
 have e1:us.toArray.size=ns.length:=by rw [NY]; lia
 have e2:ws.toArray.size=ms.length:=by rw [NY]; lia
 rw [e1,e2,← hl,VI,decide_eq_true (N9 _),E4 hl ns.length 0 (by lia)] at L;exact L X.prog X.w X.xe _ ⟨.bl _,H,I,rfl,h⟩
end L2
namespace VL
open PySem L2
section
open Classical
section
variable [bB] {K:NK} {ta tb:TE} {a b:DE}
noncomputable def FH (a b:DE):DE:=fun ρ=>match a ρ with
 | some (.lst xs)=>(match b ρ with
  | some (.lst ys)=>(match dn xs with
   | some ns=>(match dn ys with
    | some ms=>if ns.length=ms.length then some (.bl (lexLe ns ms)) else none
    | none=>none)
   | none=>none)
  | _=>none)
 | _=>none
theorem Kk {ρ:aK} {ns ms:List Int} (ha:a ρ=some (.lst (ns.map D.int))) (hb:b ρ=some (.lst (ms.map D.int))) (h:ns.length=ms.length):FH a b ρ=some (.bl (lexLe ns ms)):=by unfold FH;rw [ha,hb];dsimp only;rw [eE,eE];exact if_pos h
theorem Ja (ha:a0 K ta a) (hb:a0 K tb b):aq K (nW Lo ta tb) (FH a b):=fun {B Z os ρ σ H Q d} f q k=>by
  unfold FH at q;split at q
  · rename_i xs e1;split at q
    · rename_i ys e2;split at q
      · rename_i ns e3;split at q
        · rename_i ms e4;split at q
          · rename_i hl;cases q;refine ha f e1 fun v H1 s1 i1=>hb (f.grow s1) e2 fun u H2 s2 i2=>?_;obtain ⟨p,vs,rfl,_,h1,l1,g1⟩:=(i1.kp (Kp.same s2)).lI;obtain ⟨q,ws,rfl,_,h2,l2,g2⟩:=i2.lI;have x1:=dA e3;have x2:=dA e4;subst x1;subst x2;have y1:=IsL.ints g1;have y2:=IsL.ints g2;subst y1;subst y2;exact ⟨p,q,ns,ms,rfl,rfl,h1,h2,hl,k _ _ ‹47› (.bl _)⟩
          · cases q
        · cases q
      · cases q
    · cases q
  · cases q
end
end
end VL
namespace L2
open PySem PySem.Spec PyProof.Rows VL
section
variable {prog:O4} {w:Pf} {A:O3} {E:NN→NS→Prop} {s:NS}
theorem CA {t sl:NP} {x y:NN} {u:WO} {Q:NN→NS→Prop} (ht:IsTup s.heap t #[x,y]) (hs:s.heap.IsSliceOf sl .none .none (.int (-1) u)) (h:Q (.ref ‹4›) { s with heap:=s.heap.push { cls:=.type "tuple", data:=.seq #[y,x] } }):Ou ‹10› A (Tn (.ref t) (.ref sl)) Q E s:=by
 have hline:NM=16777216:=OA;obtain ⟨o,ho,hc,hd⟩:=id hs;have ap:∀ {Q:Int×Int×Nat→NS→Prop} {A:O3} {E:NN→NS→Prop},Q (1,-1,2) s→Ou ‹10› A (Te (.ref sl) (pure 2)) Q E s:=fun {Q A E} k=>by unfold Te Builtin.Slice.sliceFields;refine NO (NO (Wb ho hd (x:=.none) rfl (NO (Wb ho hd (x:=.none) rfl (NO (Wb ho hd (x:=.int (-1) u) rfl (Oh ?_)))))));refine NO (slicePart_int ?_);show Ou _ _ (if ((-1:Int)==0)=true then _ else _) _ _ s;rw [if_neg ‹11›];exact NO (slicePart_none (NO (slicePart_none (NO (Oh (Oh k))))))
 unfold Tn;try with_reducible refine Pw ?_
 first | refine NO (Oh ?_) | skip
 refine NO (wpAny_sequenceKey ht.typeIs ‹11› ?_);refine NO (wpAny_callSpecial?_slot (name:=Str.ofString "__getitem__") ht.typeIs RM (TZ RM ht.typeIs entry_tuple_getitem ?_ (args_tuple_getitem _ _)));show Ou _ _ (Builtin.Tuple.tupleItemsOf (.ref t) >>= _) _ _ s;refine NO (tupleItemsOf_ ht ?_);refine NO (wpAny_typeOf ⟨o,ho,hc⟩ ?_);rw [if_pos ‹11›];refine NO (ap ?_);show Ou _ _ (if ((1:Int)==0&&(-1:Int)==1&&2==2)=true then _ else _) _ _ s;rw [if_neg ‹11›];have fits:sizeOk (.seq #[y,x]):=by show 2≤NM; lia
 first
  | exact NO (m:=QS _) (QL (Oh ⟨_,rfl,Oh h⟩) fits)
  | exact NO (m:=QS _) (QL (NO (Oh (Oh ⟨_,rfl,Oh h⟩))) fits)
  | exact NO (NO (m:=QS _) (QL (Oh (Oh ⟨_,rfl,Oh h⟩)) fits))
  | exact NO (NO (m:=QS _) (QL (Oh ⟨_,rfl,Oh h⟩) fits))
end
noncomputable def HM (te:TE) (tl th ts:TO):TE:=fun σ H Q=>te σ H fun x H1=>tl σ H1 fun l H2=>th σ H2 fun u H3=>ts σ H3 fun w H4=>∃ a y z,x=.ref a∧H4 a=some (.tup [y,z])∧l=none∧u=none∧w=some (-1)∧∀ p,H4 p=none→Q (.ref p) (upd H4 p (.tup [z,y]))
theorem GR {X:Cx} {e:Pt} {te:TE} {lo hi:Option Pt} {st:Pt} {tl th ts:TO} {pos p2:SY} (he:PE X e te) (hl:PO X lo tl) (hu:PO X hi th) (hw:PO X (some st) ts):PE X (.Subscript e (.Slice lo hi (some st) p2) pos) (HM te tl th ts):=by
 intro pins s σ H Q I h;have hline:NM=16777216:=OA;refine Ue ‹44›;refine V7 ‹34›;obtain ⟨a,y,z,rfl,hx,rfl,rfl,rfl,q⟩:=q4;cases r1;cases pl;cases pu;cases pw with
 | int _ tk =>
 have I5:Inv X pins σ H4 { s4 with heap:=s4.heap.push { cls:=.type "slice", data:=.fields #[.none,.none,.int (-1) tk] } }:=I4.kept (t':=s4.toks) fun b ob q=>NT _ q;obtain ⟨_,us,r,ht⟩:=I5.cG a _ hx;cases r with
 | @cons _ uy _ _ ry r =>
 cases r with
 | @cons _ uz _ _ rz r =>
 cases r;show Ou ‹3› X.A (Sm e (.Slice lo hi (some st) p2) (.ref a) (.ref s4.heap.objs.size)) ‹52› X.xe { s4 with heap:=s4.heap.push { cls:=.type "slice", data:=.fields #[.none,.none,.int (-1) tk] } };refine Wv (ops:=[.ref a,.ref s4.heap.objs.size]) ht.typeIs RM.lookup ?_ (by with_unfolding_all rfl);refine CA (x:=uy) (y:=uz) ht (S3 ..) ?_;exact ⟨.ref _,upd H4 _ (.tup [z,y]),I5.laid (t':=s4.toks) (fun b ob q=>NT _ q) (N9 _) ⟨by show 2≤_; lia,[uz,uy],.cons rz (.cons ry .nil),⟨_,OK _ rfl,rfl,_,rfl⟩⟩,rfl,q _ (I5.cG.fresh (N9 _))⟩
end L2
namespace VL
variable {a:DE}
open PySem L2
section
open Classical
section
variable [bB] {K:NK}
def yt (a:DE) (lo hi st:aK→Option (Option Int)):DE:=fun ρ=>match a ρ with
 | some (.tup [x,y])=>if lo ρ=some none∧hi ρ=some none∧st ρ=some (some (-1)) then some (.tup [y,x]) else none
 | _=>none
omit [bB] in
theorem Hi {lo hi st:aK→Option (Option Int)} {ρ:aK} {x y:D} (ha:a ρ=some (.tup [x,y])) (h1:lo ρ=some none) (h2:hi ρ=some none) (h3:st ρ=some (some (-1))):yt a lo hi st ρ=some (.tup [y,x]):=by unfold yt; rw [ha]; exact if_pos ⟨h1,h2,h3⟩
theorem Gz {ta:TE} {tl th ts:TO} {lo hi st:aK→Option (Option Int)} (ha:aq K ta a) (hl:tw K tl lo) (hh:tw K th hi) (hs:tw K ts st):aq K (HM ta tl th ts) (yt a lo hi st):=fun {B Z os ρ σ H Q d} f q k=>by
 have hline:NM=16777216:=OA;unfold yt at q;split at q
 ·rename_i x y e1;split at q
  ·rename_i hc;cases q;obtain ⟨e2,e3,e4⟩:=hc;refine ha f e1 fun v H1 s1 i1=>hl (f.grow s1) e2 fun H2 s2=>hh (f.grow ‹47›) e3 fun H3 s3=>hs (f.grow (‹47›.trans s3)) e4 fun H4 s4=>?_;obtain ⟨p,vs,rfl,hz,hr,_,r⟩:=i1.isTup;have s14:=(‹47›.trans s3).trans s4;have r:=r.kp (Kp.same (Z:=bW Z os) ((s2.trans s3).trans s4));cases r with
   | @cons v1 _ _ _ a1 r =>
   cases r with
   | @cons v2 _ _ _ a2 r =>
   cases r;exact ⟨p,v1,v2,rfl,(s2.trans s3).trans s4 _ _ hr,rfl,rfl,rfl,fun n hn=>k _ _ (s14.trans (bO hn)) (.tup ((f.grow s14).out hn) aN (by show 2≤_; lia) (((IsL.cons a2 (IsL.cons a1 .nil))).kp (iI hn) |>.kp (Kp.less fun a z=>.inr z)))⟩
  ·cases q
 ·cases q
end
end
end VL
namespace L2
variable {x:OX} {K:NK} {mg:OX→Option NN} {st:Qo} {ps:List OX} {f:NP} {fd:P6}
open PySem PySem.Spec PyProof.Rows
section
variable {X:Cx} {pos p:SY}
theorem pX (K:NK) {a b:Pt} {ta tb:TE} (ha:PE X a ta) (hb:PE X b tb) (h:X.K=K:=by rfl) (hs:BW b:=by exact fun _ _=>rfl):PE X (.Subscript a b pos) (nW (F3 K) ta tb):=Lv (G5 h) ha hb hs
theorem pA (i:Nat) {e:Pt} {te:TE} {pos':SY} (hN:X.N.Nodup) (he:PE X e te) (hi:X.N[i]?=some x:=by rfl) (hx:Loc X.env.scope x:=by first | exact OR rfl | exact O7 rfl) (hs:SV e (some (.Name x pos')) pos.line X.env=pure false:=by rfl) (hf:X.fn x=true∨X.env.scope.names.lookup x=some .local:=by first | exact .inl rfl | exact .inr rfl | assumption) :
 PS X (.Assign [.Name x pos'] e pos) (su te (iT i)):=Jk hN hi hx he hs hf
theorem pG (i:Nat) (hN:X.N.Nodup) (hi:X.N[i]?=some x:=by rfl) (hx:Loc X.env.scope x:=by first | exact OR rfl | exact O7 rfl) (hf:X.fn x=true∨X.env.scope.names.lookup x=some .local:=by first | exact .inl rfl | exact .inr rfl | assumption):PG X (.Name x pos) (iT i):=Bk hN hi hx hf
structure FT (K:NK) (mg:OX→Option NN) (x:OX) (st:Qo) (ps:List OX) (c:Option NP) (f:NP) (d:P6):Prop where
 F:gm K x x st f d
 b0:∀ us:List NN,us.length=ps.length→QA d ⟨us,[]⟩=pure (ps.zip us)
 m:mg x=some (.ref f)
 c:∀ k,c=some k→d.code=.ref k
theorem FT.b {c:Option NP} {d:P6} (t:FT K mg x st ps c f d):Binds K d ps []:=.all t.b0
theorem FT.ex {h:PM} (I:K.In h) (G:h.Ns OU mg) {c:Option NP} {oc kV dc pm cd ct:NN} {od an:Option NP} {sl:Array (Option NN)} (a:PySem.W.nsIn K OU x=some (some (.ref f)))
 (l:K.lookup f=some ⟨oc,od,.func (Rt x x (nh st) (dZ st) (aB st) .none kV dc pm an cd ct),sl⟩) (hc:S2 K cd x=true) (k:QV K (.ref f)=true) (hb:∀ us:List NN,us.length=ps.length→QA (Rt x x (nh st) (dZ st) (aB st) .none kV dc pm an cd ct) ⟨us,[]⟩=pure (ps.zip us))
 (hk:∀ k,c=some k→cd=.ref k):∃ f d,FT K mg x st ps c f d:=⟨_,_,Kb l hc k,hb,PySem.W.mg_of I G a,hk⟩
def FAll (K:NK) (mg:OX→Option NN) (tp:Nat→Qo):List (OX×Nat×List OX×Option NP)→Prop
 | []=>True
 | (x,i,ps,c)::r=>FAll K mg tp r∧∃ f d,FT K mg x (tp i) ps c f d
section
variable {K:NK} {mg:OX→Option NN} {tp:Nat→Qo} {x:OX} {i:Nat} {ps:List OX} {c:Option NP} {r:List (OX×Nat×List OX×Option NP)}
theorem FAll.nil:FAll K mg tp []:=trivial
theorem FAll.cons (h:FAll K mg tp r) (e:∃ f d,FT K mg x (tp i) ps c f d):FAll K mg tp ((x,i,ps,c)::r):=⟨h,e⟩
abbrev HS (l:List (OX×Nat×List OX×Option NP)) (i:Nat):OX×Nat×List OX×Option NP:=l.getD i ("", 0,[],none)
theorem FAll.ex:∀ {r:List (OX×Nat×List OX×Option NP)},FAll K mg tp r→∃ (f:Nat→NP) (d:Nat→P6),∀ i,decide (i<r.length)=true→FT K mg (HS r i).1 (tp (HS r i).2.1) (HS r i).2.2.1 (HS r i).2.2.2 (f i) (d i)
 | [],_=>⟨fun _=>0,fun _=>default,fun i h=>by simp at h⟩
 | (x,i,ps,c)::r,⟨h,f0,d0,e⟩=>by
  obtain ⟨f,d,F⟩:=h.ex;refine ⟨fun | 0=>f0 | n+1=>f n,fun | 0=>d0 | n+1=>d n,fun i h=>?_⟩;cases i with
  | zero=>exact e
  | succ n=>exact F n (by simpa using h)
end
theorem bind1 (h:∀ a,QA fd ⟨[a],[]⟩=pure [(x,a)]):∀ us:List NN,us.length=[x].length→QA fd ⟨us,[]⟩=pure ([x].zip us)
 | [a],_=>h a
theorem bind2 {y:OX} (h:∀ a b,QA fd ⟨[a,b],[]⟩=pure [(x,a),(y,b)]):∀ us:List NN,us.length=[x,y].length→QA fd ⟨us,[]⟩=pure ([x,y].zip us)
 | [a,b],_=>h a b
theorem bind3 {y z:OX} (h:∀ a b c,QA fd ⟨[a,b,c],[]⟩=pure [(x,a),(y,b),(z,c)]):∀ us:List NN,us.length=[x,y,z].length→QA fd ⟨us,[]⟩=pure ([x,y,z].zip us)
 | [a,b,c],_=>h a b c
theorem bind4 {y z w:OX} (h:∀ a b c d,QA fd ⟨[a,b,c,d],[]⟩=pure [(x,a),(y,b),(z,c),(w,d)]):∀ us:List NN,us.length=[x,y,z,w].length→QA fd ⟨us,[]⟩=pure ([x,y,z,w].zip us)
 | [a,b,c,d],_=>h a b c d
theorem hk0 {v:NN}:∀ k:NP,(none:Option NP)=some k→v=.ref k:=fun _ h=>nomatch h
theorem hk1 {c:NP}:∀ k:NP,some c=some k→O2 c=.ref k:=fun _ h=>by cases h; rfl
theorem fP {c:Option NP} {j k:Nat} {sp:Sp} {e:Pt} {es:List Pt} {t:TA} (F:cE X.prog X.w X.K X.mg X.base gJ k f fd ps sp) (T:FT X.K X.mg x st ps c f fd) (hr:eQ j X.A) (ha:PA X (e::es) t) (hk:k≤j:=by decide) (hg:Gl X x:=by rfl) (hdb:‹39›=false:=by decide)
 (he:Pn (e::es) X.env=(false,eval e X.env)::Pn es X.env:=by rfl) (hpl:(RL pos (Pn es X.env)).any (·.1)=false:=by rfl):PE X (.Call (.Name x p) (e::es) [] pos) (AN sp [] E0 t):=vx F (hr.mono hk) hg T.m T.F.kp T.b .nil EN ha hdb he hpl
end
end L2
namespace VL
open PySem L2
theorem ak [bB] {K:NK} {i:Int}:a0 K (tC (.int i)) (dC (.int i)):=aq.b dk
end VL
set_option maxHeartbeats 4000000
namespace My
variable {A:List Int} {x:Int} {off:Int→List Int} {R:Int} {n:Nat} {h:Nat} {H:Int} {a:DE} {t:Int} {ds:List D} {d:D} {m:Nat} {j:Nat} {xs:List Int} {T:List (List Int)} {ρ:aK} {α:Type} {p:Int×Int} {E:Int} {hs:List Int}
open PySem L2 VL
section
def top (i:Nat):Qo:=PySem.Challenge.pw_leastfloor_k25_whole_open_floors_turned.main.body.getD i (.Pass ⟨0,0,0,0⟩)
abbrev GC:Qo:=top 1
abbrev zp:Qo:=top 2
abbrev Em:Qo:=top 3
abbrev qW:Qo:=top 4
abbrev En:Qo:=top 5
abbrev pP:Qo:=top 6
abbrev qX:Qo:=top 7
abbrev pQ:Qo:=top 8
abbrev vc:Qo:=top 13
abbrev xk:Qo:=top 15
abbrev va:Qo:=top 16
abbrev Cq:Qo:=top 17
abbrev Er:Qo:=top 23
abbrev Cw:Qo:=top 24
abbrev xj:Qo:=top 26
abbrev Cr:Qo:=top 28
abbrev xn:Qo:=top 29
abbrev Cu:Qo:=top 30
abbrev xl:Qo:=top 31
abbrev Ep:Qo:=top 32
abbrev Cv:Qo:=top 33
abbrev Cs:Qo:=top 34
abbrev Eo:Qo:=top 35
abbrev GF:Qo:=top 36
abbrev GD:Qo:=top 37
abbrev Ct:Qo:=top 38
abbrev sM:Qo:=top 39
abbrev oF:Qo:=top 40
abbrev zq:Qo:=top 41
abbrev zr:Qo:=top 42
abbrev Li:Qo:=top 43
theorem qU:aR ["table", "benches", "columns"] ["table"] (aB GC):=⟨rfl,rfl,rfl,by decide +kernel,rfl,by decide +kernel,by decide +kernel⟩
theorem pj:aR ["table", "sums"] ["table"] (aB zp):=⟨rfl,rfl,rfl,by decide +kernel,rfl,by decide +kernel,by decide +kernel⟩
theorem dG:aR ["table", "left", "rest", "told", "pairs", "hours", "hand", "bench"] ["table"] (aB Em):=⟨rfl,rfl,rfl,by decide +kernel,rfl,by decide +kernel,by decide +kernel⟩
theorem dY:aR ["left", "rest", "takers", "benches", "pairs"] ["left", "rest"] (aB qW):=⟨rfl,rfl,rfl,by decide +kernel,rfl,by decide +kernel,by decide +kernel⟩
theorem dH:aR ["left", "rest", "sums", "hands", "benches", "told", "hand", "load", "bench"] ["left", "rest"] (aB En):=⟨rfl,rfl,rfl,by decide +kernel,rfl,by decide +kernel,by decide +kernel⟩
theorem fE:aR ["offered", "takers", "taker"] ["offered"] (aB pP):=⟨rfl,rfl,rfl,by decide +kernel,rfl,by decide +kernel,by decide +kernel⟩
theorem j5:aR ["offered", "taker", "takers", "asked", "thing"] ["offered", "taker", "takers", "asked"] (aB qX):=⟨rfl,rfl,rfl,by decide +kernel,rfl,by decide +kernel,by decide +kernel⟩
theorem cX:aR ["left", "rest", "pairs", "sums", "hands", "benches", "bounds"] ["left", "rest", "pairs"] (aB pQ):=⟨rfl,rfl,rfl,by decide +kernel,rfl,by decide +kernel,by decide +kernel⟩
theorem sJ:aR ["total", "parts"] ["total", "parts"] (aB vc):=⟨rfl,rfl,rfl,by decide +kernel,rfl,by decide +kernel,by decide +kernel⟩
theorem u7:aR ["hours", "benches"] ["hours", "benches"] (aB xk):=⟨rfl,rfl,rfl,by decide +kernel,rfl,by decide +kernel,by decide +kernel⟩
theorem sI:aR ["hours", "benches"] ["hours", "benches"] (aB va):=⟨rfl,rfl,rfl,by decide +kernel,rfl,by decide +kernel,by decide +kernel⟩
theorem b7:aR ["hours", "benches", "end", "least", "rows", "bench", "moment", "work", "wanted", "left", "stop"] ["hours", "benches", "end"] (aB Cq):=⟨rfl,rfl,rfl,by decide +kernel,rfl,by decide +kernel,by decide +kernel⟩
theorem oE:aR ["rows", "fewest", "row"] ["rows"] (aB Er):=⟨rfl,rfl,rfl,by decide +kernel,rfl,by decide +kernel,by decide +kernel⟩
theorem zo:aR ["row", "later"] ["row", "later"] (aB Cw):=⟨rfl,rfl,rfl,by decide +kernel,rfl,by decide +kernel,by decide +kernel⟩
theorem c7:aR ["table", "rows", "begin", "hours", "pairs", "end"] ["table"] (aB xj):=⟨rfl,rfl,rfl,by decide +kernel,rfl,by decide +kernel,by decide +kernel⟩
theorem zl:aR ["_law_found"] ["_law_found"] (aB Cr):=⟨rfl,rfl,rfl,by decide +kernel,rfl,by decide +kernel,by decide +kernel⟩
theorem u9:aR ["_law_script", "_law_k"] ["_law_script", "_law_k"] (aB xn):=⟨rfl,rfl,rfl,by decide +kernel,rfl,by decide +kernel,by decide +kernel⟩
theorem qV:aR ["_law_cell", "_law_k", "_law_number"] ["_law_cell", "_law_k"] (aB Cu):=⟨rfl,rfl,rfl,by decide +kernel,rfl,by decide +kernel,by decide +kernel⟩
theorem jh:aR ["_law_script", "_law_numbers_here", "_law_k"] ["_law_script"] (aB xl):=⟨rfl,rfl,rfl,by decide +kernel,rfl,by decide +kernel,by decide +kernel⟩
theorem Cp:aR ["_law_cell"] ["_law_cell"] (aB Ep):=⟨rfl,rfl,rfl,by decide +kernel,rfl,by decide +kernel,by decide +kernel⟩
theorem zm:aR ["_law_number", "_law_mode"] ["_law_number", "_law_mode"] (aB Cv):=⟨rfl,rfl,rfl,by decide +kernel,rfl,by decide +kernel,by decide +kernel⟩
theorem cS:aR ["_law_script", "_law_numbers_here", "_law_cell", "_law_hands", "_law_many", "_law_table_here", "_law_hand", "_law_row", "_law_bench", "_law_idle"] ["_law_script"] (aB Cs):=⟨rfl,rfl,rfl,by decide +kernel,rfl,by decide +kernel,by decide +kernel⟩
theorem oC:aR ["_law_table_here", "_law_hands", "_law_many"] ["_law_table_here"] (aB Eo):=⟨rfl,rfl,rfl,by decide +kernel,rfl,by decide +kernel,by decide +kernel⟩
theorem xi:aR ["_law_table_here", "_law_found"] ["_law_table_here"] (aB GF):=⟨rfl,rfl,rfl,by decide +kernel,rfl,by decide +kernel,by decide +kernel⟩
theorem El:aR ["_law_pair", "_law_hands", "_law_many"] ["_law_pair", "_law_hands", "_law_many"] (aB GD):=⟨rfl,rfl,rfl,by decide +kernel,rfl,by decide +kernel,by decide +kernel⟩
theorem jg:aR ["_law_phase_here", "_law_table_here", "_law_done", "_law_hands", "_law_some", "_law_pair"] ["_law_phase_here", "_law_table_here", "_law_done"] (aB Ct):=⟨rfl,rfl,rfl,by decide +kernel,rfl,by decide +kernel,by decide +kernel⟩
theorem dw:aR ["_law_table_here", "_law_found", "_law_done", "_law_total", "_law_phase_here"] ["_law_table_here", "_law_found"] (aB sM):=⟨rfl,rfl,rfl,by decide +kernel,rfl,by decide +kernel,by decide +kernel⟩
theorem a8:aR ‹50› ["_law_table_here", "_law_rows"] (aB oF):=⟨rfl,rfl,rfl,by decide +kernel,rfl,by decide +kernel,by decide +kernel⟩
theorem xh:aR ["_law_table_here"] ["_law_table_here"] (aB zq):=⟨rfl,rfl,rfl,by decide +kernel,rfl,by decide +kernel,by decide +kernel⟩
theorem h9:aR ["_law_table_here", "_law_hours_here", "_law_place", "_law_rows", "_law_row"] ["_law_table_here", "_law_hours_here", "_law_place"] (aB zr):=⟨rfl,rfl,rfl,by decide +kernel,rfl,by decide +kernel,by decide +kernel⟩
theorem oB:aR ["_law_script", "_law_table_here", "_law_turned_here", "_law_found", "_law_rows", "_law_exchanged"] ["_law_script"] (aB Li):=⟨rfl,rfl,rfl,by decide +kernel,rfl,by decide +kernel,by decide +kernel⟩
set_option genInjectivity false in
set_option genSizeOf false in
structure Mc where
 f:Nat→NP
 d:Nat→P6
noncomputable def tab:List (OX×Nat×List OX×Option NP):=[("loads", 1,["table"],none),("open_end", 2,["table"],none),("phases", 3,["table"],none),("urgent_pairs", 4,["left", "rest"],none),("offers", 5,["left", "rest"],none),("taker_of_each", 6,["offered"],none),("take_one", 7,["offered", "taker", "takers", "asked"],none),("longest_hours", 8,["left", "rest", "pairs"],none),("divided_up", 13,["total", "parts"],none),("least_end", 15,["hours", "benches"],none),("even_share", 16,["hours", "benches"],none),("wrapped", 17,["hours", "benches", "end"],none),("joined", 23,["rows"],some 119),("goes_on", 24,["row", "later"],none),("open_plan", 26,["table"],none),("_law_whole", 28,["_law_found"],none),("_law_cell_at", 29,["_law_script", "_law_k"],none),("_law_mixed", 30,["_law_cell", "_law_k"],none),("_law_numbers", 31,["_law_script"],none),("_law_size", 32,["_law_cell"],none),("_law_hours", 33,["_law_number", "_law_mode"],none),("_law_table", 34,["_law_script"],none),("_law_sums", 35,["_law_table_here"],none),("_law_end", 36,["_law_table_here"],none),("_law_two", 37,["_law_pair", "_law_hands", "_law_many"],none),("_law_phase", 38,["_law_phase_here", "_law_table_here", "_law_done"],none),("_law_is_phases", 39,["_law_table_here", "_law_found"],none),("_law_is_open_plan", 40,["_law_table_here", "_law_rows"],none),("_law_turned", 41,["_law_table_here"],none),("_law_single", 42,["_law_table_here", "_law_hours_here", "_law_place"],none),("law", 43,["_law_script"],some 231)]
structure Txt [bB] (K:NK) (mg:OX→Option NN) (a:Mc):Prop where
 F:∀ i,decide (i<tab.length)=true→FT K mg (HS tab i).1 (top (HS tab i).2.1) (HS tab i).2.2.1 (HS tab i).2.2.2 (a.f i) (a.d i)
 C4:(a.d 12).code=.ref 119
 C0:Q2 K 119 115=true
 CZ:((115:NP),("joined.<locals>.<lambda>" : OX))∈bB.ts
 JV:(a.d 30).code=.ref 231
 JQ:Q2 K 231 229=true
 JP:((229:NP),("law.<locals>.<lambda>" : OX))∈bB.ts
 z_all:mg "all" = none
 z_bool:mg "bool" = none
 z_enumerate:mg "enumerate" = none
 z_int:mg "int" = none
 z_isinstance:mg "isinstance" = none
 z_len:mg "len" = none
 z_list:mg "list" = none
 z_max:mg "max" = none
 z_min:mg "min" = none
 z_range:mg "range" = none
 z_sorted:mg "sorted" = none
 z_sum:mg "sum" = none
 c_BEGIN:∃ t,mg "BEGIN" = some (.int 2 t)
 c_BENCH:∃ t,mg "BENCH" = some (.int 0 t)
 c_END:∃ t,mg "END" = some (.int 3 t)
 c_WORK:∃ t,mg "WORK" = some (.int 1 t)
section
theorem D5 (x0:D):gO 3 [false] [x0]=[.bo x0,.un,.un]:=rfl
noncomputable def qv:DS:=(aL (cy 1 (L6 (fY (ai 0)) (fo dJ ‹56›) ‹6›))
 (aL (cy 2 (bu (bJ 1 [0] (iK (ai 1)) (gN true 0) bM (fo uO (bu ‹25›)))))
 (bY (wa (ao (bu (bJ 1 [] (fH (ai 0)) (gN false 0) bM (fo uO (ai 0)))) (ao (aC 2) aS))))))
@[irreducible] def gI:List D→Option D:=bR 3 [false] qv
theorem pK:gI=bR 3 [false] qv:=by unfold gI; rfl
theorem wU (x0:D):gO 2 [false] [x0]=[.bo x0,.un]:=rfl
def jC:DS:=(aL (cy 1 (bb gI (ao (ai 0) aS)))
 (bY (yu m3 (bu (mF (bZ (aC 1) ‹6›) (bZ (aC 1) ‹17›))) ‹6›)))
@[irreducible] def dD:List D→Option D:=bR 2 [false] jC
theorem kG:dD=bR 2 [false] jC:=by unfold dD; rfl
theorem oq (x0 x1 x2:D):gO 7 [false,false,false] [x0,x1,x2]=[.bo x0,.bo x1,.bo x2,.un,.un,.un,.un]:=rfl
noncomputable def d7:DS:=(aL (cy 3 (bb gI (ao (ai 0) aS)))
 (aL (cy 4 (bu (bJ 1 [] (fH (ai 2)) (gN false 0) bM (gv ‹56›))))
 (aL (cy 5 (bu (bJ 1 [] (fH (ai 2)) (gN false 0) bM (gv (bZ (ai 0) ‹17›)))))
 (aL (gq 6 (bJ 1 [0] (fH (ai 2)) (gN false 0) bM (gv (bZ (bZ (ai 1) ‹56›) (bZ (ai 0) ‹17›)))))
 (aL (zw 6 (bu (bJ 2 [4,1] (Ai (bZ (aC 3) ‹6›)) ‹36› (dT (IB true (ai 0) (ai 2))) (Ag (ai 3) (ai 1)))))
 (aL (zw 6 (bu (bJ 2 [5,1] (Ai (bZ (aC 3) ‹17›)) ‹36› (dT (IB true (ai 0) (ai 2))) (Ag (ai 3) (ai 1)))))
 (bY (fo minD (ai 6)))))))))
@[irreducible] def da:List D→Option D:=bR 7 [false,false,false] d7
theorem gw:da=bR 7 [false,false,false] d7:=by unfold da; rfl
theorem Cc (x0 x1:D):gO 9 [false,false] [x0,x1]=[.bo x0,.bo x1,.un,.un,.un,.un,.un,.un,.un]:=rfl
noncomputable def nS:DS:=(aL (cy 2 (bb gI (ao (ai 0) aS)))
 (aL (cy 3 (fo dJ (bZ (ai 2) ‹6›)))
 (aL (cy 4 (fo dJ (bZ (ai 2) ‹17›)))
 (aL (j6 5 BN)
 (aL (j7 (Ai (bZ (aC 2) ‹6›)) (Dg 2 (b8 (gN true 6) (b8 (gN true 7) iS)))
 (aL (pz 5 (bJ 1 [0,6] (iK (ai 4)) (gN true 0) (dT (Hs (bZ (bZ (ai 1) (ai 2)) (ai 0)) ‹6›)) (aC 0)))
 (ji (dT (yx (ai 7) (ai 1)))
 (tQ 5 (ai 6) (jx (ai 4) (ai 6)))
  bX)))
 (aL (j7 (Ai (bZ (aC 2) ‹17›)) (Dg 2 (b8 (gN true 8) (b8 (gN true 7) iS)))
 (aL (pz 5 (bJ 1 [4] (iK (ai 3)) (gN true 0) bM (jx (ai 1) (ai 0))))
 (ji (dT (yx (ai 7) (ai 1)))
 (tQ 5 (jx (ai 3) (ai 8)) (aC 8))
  bX)))
  (vd 5 (bY (aC 5)))))))))
@[irreducible] def kH:List D→Option D:=bR 9 [false,false] nS
theorem nJ:kH=bR 9 [false,false] nS:=by unfold kH; rfl
theorem m7 (kvs:List (Int×Int)) (k v j:Int):getZ (lE kvs k v) j=if j=k then some v else getZ kvs j:=by
 have hm:∀ l:List (Int×Int),getZ (l.map fun p=>if p.1=k then (p.1,v) else p) j=if j=k then (getZ l j).map (fun _=>v) else getZ l j:=by
  intro l;induction l with
  | nil=>unfold getZ; split <;> rfl
  | cons p r ih =>
   unfold getZ at ih ⊢;rw [Oq,P1,P1];have e1:(if p.1=k then (p.1,v) else p).1=p.1:=by split <;> rfl
   rw [e1];by_cases c:p.1=j
   ·rw [decide_eq_true c];by_cases d:j=k
    ·rw [if_pos d,if_pos (c.trans d)]; rfl
    ·rw [if_neg d,if_neg (fun z=>d (c.symm.trans z))]
   ·rw [decide_eq_false c];exact ih
 have ha:∀ l:List (Int×Int),getZ (l++[(k,v)]) j=(match getZ l j with | some u=>some u | none=>if j=k then some v else none):=by
  intro l;induction l with
  | nil =>
   show (([(k,v)]:List (Int×Int)).find? _).map _=if j=k then some v else none
   rw [P1];by_cases c:k=j
   ·rw [decide_eq_true c,if_pos c.symm]; rfl
   ·rw [decide_eq_false c,if_neg (fun z=>c z.symm)]; rfl
  | cons p r ih =>
   unfold getZ at ih ⊢;rw [Q0,P1,P1];by_cases c:p.1=j
   ·rw [decide_eq_true c]; rfl
   ·rw [decide_eq_false c]; exact ih
 unfold lE;by_cases c:kvs.any (fun p=>decide (p.1=k))=true
 ·rw [if_pos c,hm];by_cases d:j=k
  ·rw [if_pos d,if_pos d];obtain ⟨p,hp,e⟩:=Sh.mp c;have e:=of_decide_eq_true e;cases q:getZ kvs j with
   | some u=>rfl
   | none =>unfold getZ at q;rw [Us,Vy] at q;exact absurd (decide_eq_true (e.trans d.symm)) (q p hp)
  ·rw [if_neg d,if_neg d]
 ·rw [if_neg c,ha];by_cases d:j=k
  ·rw [if_pos d,if_pos d];have:getZ kvs j=none:=by unfold getZ;rw [Us,Vy];intro p hp e;exact c (Sh.mpr ⟨p,hp,decide_eq_true ((of_decide_eq_true e).trans d)⟩)
   rw [this]
  ·rw [if_neg d,if_neg d];cases getZ kvs j <;> rfl
abbrev Tk:=List (Int×Int)
noncomputable def takeL (rc:Int→Tk→List Int→Option (Bool×Tk×List Int)) (x:Int):List Int→Tk→List Int→Option (Bool×Tk×List Int)
 | [],T,A=>some (false,T,A)
 | t::ts,T,A=>if t∈A then takeL rc x ts T A else match getZ T t with
  | none=>some (true,lE T t x,A++[t])
  | some u=>match rc u T (A++[t]) with
   | some (true,T1,A1)=>some (true,lE T1 t x,A1)
   | some (false,T1,A1)=>takeL rc x ts T1 A1
   | none=>none
def takeO (off:Int→List Int):Nat→Int→Tk→List Int→Option (Bool×Tk×List Int)
 | 0,_,_,_=>none
 | n+1,x,T,A=>takeL (takeO off n) x (off x) T A
structure Pre (T:Tk) (A:List Int) (x:Int):Prop where
 inj:∀ s t u,s∉A→t∉A→getZ T s=some u→getZ T t=some u→s=t
 new:∀ t,t∉A→getZ T t≠some x
structure L7 (off:Int→List Int) (T:Tk) (A:List Int) (x:Int) (T':Tk):Prop where
 same:∀ t∈A,getZ T' t=getZ T t
 inj:∀ s t u,s∉A→t∉A→getZ T' s=some u→getZ T' t=some u→s=t
 has:∃ t,t∉A∧getZ T' t=some x
 Ey:∀ u t,t∉A→getZ T' t=some u→u=x∨∃ s,s∉A∧getZ T s=some u
 Jd:∀ u s,s∉A→getZ T s=some u→∃ t,t∉A∧getZ T' t=some u
 sY:∀ t u,getZ T' t=some u→getZ T t=some u∨t∈off u
 sZ:∀ t,getZ T t≠none→getZ T' t≠none
structure mJ (off:Int→List Int) (V:List Int) (ts:List Int) (T:Tk) (A:List Int) (x:Int) (b:Bool) (T':Tk) (A':List Int):Prop where
 sub:∀ t∈A,t∈A'
 nd:A'.Nodup
 Bz:∀ t∈A',t∈V
 GZ:b=false→T'=T∧(∀ t∈ts,t∈A')∧∀ t∈A',t∉A→∃ u,getZ T t=some u∧∀ s∈off u,s∈A'
 LV:b=true→L7 off T A x T'
theorem Pre.more {T:Tk} {B:List Int} (h:Pre T A x) (s:∀ t∈A,t∈B):Pre T B x:=⟨fun a b u ha hb=>h.inj a b u (fun z=>ha (s a z)) fun z=>hb (s b z),fun t ht=>h.new t fun z=>ht (s t z)⟩
theorem L7.less {T T':Tk} {B:List Int} (p:Pre T A x) (s:∀ t∈A,t∈B) (w:L7 off T B x T'):L7 off T A x T':=by
 refine ⟨fun t ht=>w.same t (s t ht),?_,?_,?_,?_,w.sY,w.sZ⟩
 ·intro a b u ha hb ea eb;by_cases ca:a∈B
  ·rw [w.same a ca] at ea;by_cases cb:b∈B
   ·rw [w.same b cb] at eb;exact p.inj a b u ha hb ea eb
   ·rcases w.Ey u b cb eb with q | ⟨r,hr,q⟩
    ·rw [q] at ea;exact absurd ea (p.new a ha)
    ·have:=p.inj a r u ha (fun z=>hr (s r z)) ea q;rw [this] at ca;exact absurd ca hr
  ·by_cases cb:b∈B
   ·rw [w.same b cb] at eb;rcases w.Ey u a ca ea with q | ⟨r,hr,q⟩
    ·rw [q] at eb;exact absurd eb (p.new b hb)
    ·have:=p.inj b r u hb (fun z=>hr (s r z)) eb q;rw [this] at cb;exact absurd cb hr
   ·exact w.inj a b u ca cb ea eb
 ·obtain ⟨t,ht,e⟩:=w.has;exact ⟨t,fun z=>ht (s t z),e⟩
 ·intro u t ht e;by_cases c:t∈B
  ·rw [w.same t c] at e;exact .inr ⟨t,ht,e⟩
  ·rcases w.Ey u t c e with q | ⟨r,hr,q⟩
   ·exact .inl q
   ·exact .inr ⟨r,fun z=>hr (s r z),q⟩
 ·intro u t ht e;by_cases c:t∈B
  ·exact ⟨t,ht,by rw [w.same t c]; exact e⟩
  ·obtain ⟨r,hr,q⟩:=w.Jd u t c e;exact ⟨r,fun z=>hr (s r z),q⟩
theorem mn:∀ {A V:List Int},A.Nodup→(∀ t∈A,t∈V)→A.length≤V.length
 | [],V,_,_=>O1 _
 | a::A,V,h,s=>by obtain ⟨h1,h2⟩:=Of.mp h;have ha:=s a NJ;have ih:=mn (V:=V.erase a) h2 fun t ht=>(Sx (fun z:t=a=>h1 (z ▸ ht))).mpr (s t (NI _ ht));have:=TN ha;have:0<V.length:=Ut ha;rw [Oy];lia
theorem qH {off:Int→List Int} {V:List Int} (hoff:∀ x t,t∈off x→t∈V) {rc:Int→Tk→List Int→Option (Bool×Tk×List Int)} {n:Nat}
 (hrc:∀ (x:Int) (T:Tk) (A:List Int),A.Nodup→(∀ t∈A,t∈V)→V.length<n+A.length→Pre T A x→∃ b T' A',rc x T A=some (b,T',A')∧mJ off V (off x) T A x b T' A') (x:Int) :
 ∀ (ts:List Int) (T:Tk) (A:List Int),(∀ t∈ts,t∈off x)→A.Nodup→(∀ t∈A,t∈V)→V.length<n+1+A.length→Pre T A x→∃ b T' A',takeL rc x ts T A=some (b,T',A')∧mJ off V ts T A x b T' A'
 | [],T,A,_,nd,iv,_,_=>⟨false,T,A,rfl,fun t h=>h,nd,iv,fun _=>⟨rfl,fun t h=>(by cases h),fun t h1 h2=>absurd h1 h2⟩,fun h=>by cases h⟩
 | t::ts,T,A,hts,nd,iv,hf,p=>by
  have hts':∀ s∈ts,s∈off x:=fun s hs=>hts s (NI _ hs);by_cases c:t∈A
  ·obtain ⟨b,T',A',e,q⟩:=qH hoff hrc x ts T A hts' nd iv hf p;refine ⟨b,T',A',?_,q.sub,q.nd,q.Bz,fun h=>?_,q.LV⟩
   ·unfold takeL;rw [if_pos c];exact e
   ·obtain ⟨h1,h2,h3⟩:=q.GZ h;exact ⟨h1,fun s hs=>(NU.mp hs).elim (fun z=>z ▸ q.sub t c) (h2 s),h3⟩
  ·have tV:t∈V:=hoff x t (hts t NJ);have nd1:(A++[t]).Nodup:=Rj.mpr ⟨nd,by simp,fun a ha b hb=>by rw [NL.mp hb];exact fun z=>c (z ▸ ha)⟩;have iv1:∀ s∈A++[t],s∈V:=fun s hs=>(NZ.mp hs).elim (iv s) fun z=>by rw [NL.mp z]; exact tV
   have sb1:∀ s∈A,s∈A++[t]:=fun s hs=>Ol _ hs;have B9:t∈A++[t]:=NQ _ NJ;cases g:getZ T t with
   | none =>
    refine ⟨true,lE T t x,A++[t],?_,sb1,nd1,iv1,(fun h=>by cases h),fun _=>?_⟩
    ·unfold takeL;rw [if_neg c,g]
    ·have gp:∀ s,getZ (lE T t x) s=if s=t then some x else getZ T s:=fun s=>m7 T t x s
     refine ⟨fun s hs=>?_,fun a b u ha hb ea eb=>?_,⟨t,c,?_⟩,fun u s hs e=>?_,fun u s hs e=>⟨s,hs,?_⟩,fun s u e=>?_,fun s hs=>?_⟩
     ·rw [gp,if_neg (fun z:s=t=>c (z ▸ hs))]
     ·rw [gp] at ea eb;split at ea <;> split at eb
      ·rename_i z1 z2; rw [z1,z2]
      ·cases ea; exact absurd eb (p.new b hb)
      ·cases eb; exact absurd ea (p.new a ha)
      ·exact p.inj a b u ha hb ea eb
     ·rw [gp,if_pos rfl]
     ·rw [gp] at e;split at e
      ·cases e; exact .inl rfl
      ·exact .inr ⟨s,hs,e⟩
     ·rw [gp,if_neg (fun z=>by rw [z,g] at e; cases e)];exact e
     ·rw [gp] at e;split at e
      ·rename_i z;cases e;rw [z];exact .inr (hts t NJ)
      ·exact .inl e
     ·rw [gp];split
      ·simp
      ·exact hs
   | some u =>
    have p1:Pre T (A++[t]) u:=⟨(p.more sb1).inj,fun s hs e=>hs (by rw [p.inj s t u (fun z=>hs (sb1 s z)) c e g]; exact B9)⟩
    obtain ⟨b,T1,A1,e,q⟩:=hrc u T (A++[t]) nd1 iv1 (by rw [N7,Pl]; lia) p1;cases b with
    | true =>
     have w:=q.LV rfl;refine ⟨true,lE T1 t x,A1,?_,fun s hs=>q.sub s (sb1 s hs),q.nd,q.Bz,(fun h=>by cases h),fun _=>?_⟩
     ·unfold takeL;rw [if_neg c,g];dsimp only;rw [e]
     ·have gp:∀ s,getZ (lE T1 t x) s=if s=t then some x else getZ T1 s:=fun s=>m7 T1 t x s
      have out:∀ s,s∉A→s≠t→s∉A++[t]:=fun s h1 h2 z=>(NZ.mp z).elim h1 fun z=>h2 (NL.mp z)
      have notx:∀ s,s∉A→s≠t→getZ T1 s≠some x:=fun s h1 h2 z=>by
       rcases w.Ey x s (out s h1 h2) z with r | ⟨r,hr,r2⟩
       ·rw [← r] at g;exact p.new t c g
       ·exact p.new r (fun z=>hr (sb1 r z)) r2
      refine ⟨fun s hs=>?_,fun a b v ha hb ea eb=>?_,⟨t,c,by rw [gp,if_pos rfl]⟩,fun v s hs ev=>?_,fun v s hs ev=>?_,fun s v ev=>?_,fun s hs=>?_⟩
      ·rw [gp,if_neg (fun z:s=t=>c (z ▸ hs)),w.same s (sb1 s hs)]
      ·rw [gp] at ea eb;split at ea <;> split at eb
       ·rename_i z1 z2; rw [z1,z2]
       ·rename_i z1 z2; cases ea; exact absurd eb (notx b hb z2)
       ·rename_i z1 z2; cases eb; exact absurd ea (notx a ha z1)
       ·rename_i z1 z2; exact w.inj a b v (out a ha z1) (out b hb z2) ea eb
      ·rw [gp] at ev;split at ev
       ·cases ev; exact .inl rfl
       ·rename_i z;rcases w.Ey v s (out s hs z) ev with r | ⟨r,hr,r2⟩
        ·exact .inr ⟨t,c,by rw [r]; exact g⟩
        ·exact .inr ⟨r,fun z=>hr (sb1 r z),r2⟩
      ·by_cases z:s=t
       ·rw [z,g] at ev;cases ev;obtain ⟨r,hr,r2⟩:=w.has;exact ⟨r,fun z=>hr (sb1 r z),by rw [gp,if_neg (fun z:r=t=>hr (z ▸ B9))]; exact r2⟩
       ·obtain ⟨r,hr,r2⟩:=w.Jd v s (out s hs z) ev;exact ⟨r,fun z=>hr (sb1 r z),by rw [gp,if_neg (fun z:r=t=>hr (z ▸ B9))]; exact r2⟩
      ·rw [gp] at ev;split at ev
       ·rename_i z;cases ev;rw [z];exact .inr (hts t NJ)
       ·exact w.sY s v ev
      ·rw [gp];split
       ·simp
       ·exact w.sZ s hs
    | false =>
     obtain ⟨h1,h2,h3⟩:=q.GZ rfl;subst h1;have sA:∀ s∈A,s∈A1:=fun s hs=>q.sub s (sb1 s hs);have hl:A.length≤A1.length:=mn nd sA;obtain ⟨b,T',A',e2,q2⟩:=qH hoff hrc x ts T1 A1 hts' q.nd q.Bz (by lia) (p.more sA);refine ⟨b,T',A',?_,fun s hs=>q2.sub s (sA s hs),q2.nd,q2.Bz,fun h=>?_,fun h=>(q2.LV h).less p sA⟩
     ·conv=>lhs; unfold takeL
      rw [if_neg c,g];dsimp only;rw [e];exact e2
     ·obtain ⟨k1,k2,k3⟩:=q2.GZ h;refine ⟨k1,fun s hs=>(NU.mp hs).elim (fun z=>by rw [z]; exact q2.sub t (q.sub t B9)) (k2 s),fun s hs hn=>?_⟩;by_cases z:s∈A1
      ·by_cases z2:s∈A++[t]
       ·have:s=t:=(NZ.mp z2).elim (fun z=>absurd z hn) fun z=>NL.mp z;subst this;exact ⟨u,g,fun r hr=>q2.sub r (h2 r hr)⟩
       ·obtain ⟨v,hv,hv2⟩:=h3 s z z2;exact ⟨v,hv,fun r hr=>q2.sub r (hv2 r hr)⟩
      ·exact k3 s hs z
theorem wO {off:Int→List Int} {V:List Int} (hoff:∀ x t,t∈off x→t∈V):∀ (n:Nat) (x:Int) (T:Tk) (A:List Int),A.Nodup→(∀ t∈A,t∈V)→V.length<n+A.length→Pre T A x→∃ b T' A',takeO off n x T A=some (b,T',A')∧mJ off V (off x) T A x b T' A'
 | 0,x,T,A,nd,iv,hf,p=>by have:=mn nd iv;lia
 | n+1,x,T,A,nd,iv,hf,p=>qH hoff (wO hoff n) x (off x) T A (fun t h=>h) nd iv hf p
def cW (l:List Int) (f:Int→Int):Int:=(l.map f).sum
theorem AV (f:Int→Int):cW [] f=0:=rfl
theorem bG (a:Int) (l:List Int) (f:Int→Int):cW (a::l) f=f a+cW l f:=by unfold cW; rw [Oq,P8]
theorem tN (f:Int→Int) {a:Int}:∀ {V:List Int},a∈V→cW V f=f a+cW (V.erase a) f
 | [],h=>by cases h
 | b::V,h=>by
  by_cases c:b=a
  ·subst c;rw [List.erase_cons_head,bG]
  ·rw [List.erase_cons_tail (by simpa using c),bG,bG,tN f ((NU.mp h).resolve_left fun z=>c z.symm)];lia
theorem d8 {f:Int→Int}:∀ {V:List Int},(∀ t∈V,0≤f t)→0≤cW V f
 | [],_=>O6 _
 | a::V,h=>by rw [bG];have:=h a NJ;have:=d8 (V:=V) fun t ht=>h t (NI _ ht);lia
theorem qd {f:Int→Int}:∀ {A V:List Int},A.Nodup→(∀ t∈A,t∈V)→(∀ t∈V,0≤f t)→cW A f≤cW V f
 | [],V,_,_,h=>d8 h
 | a::A,V,nd,s,h=>by obtain ⟨h1,h2⟩:=Of.mp nd;rw [bG,tN f (s a NJ)];have:=qd (V:=V.erase a) h2 (fun t ht=>(Sx (fun z:t=a=>h1 (z ▸ ht))).mpr (s t (NI _ ht))) fun t ht=>h t (List.mem_of_mem_erase ht);lia
theorem w5 {f:Int→Int} {p:Int→Bool}:∀ {V:List Int},(∀ t∈V,p t=false→f t=0)→cW V f=cW (V.filter p) f
 | [],_=>rfl
 | a::V,h=>by
  have ih:=w5 (V:=V) fun t ht=>h t (NI _ ht);rw [bG,ih,List.filter_cons];split
  ·rw [bG]
  ·rename_i c;rw [h a NJ (Bool.eq_false_iff.mpr c)];lia
theorem qe (f g:Int→Int):∀ l:List Int,cW l (fun t=>f t+g t)=cW l f+cW l g
 | []=>rfl
 | a::l=>by rw [bG,bG,bG,qe f g l]; lia
theorem fC (c:Int):∀ l:List Int,cW l (fun _=>c)=l.length*c
 | []=>by show (0:Int)=((0:Nat):Int)*c; lia
 | a::l=>by rw [bG,fC c l,Oy,Wi,Tz];lia
theorem xa (w:Int→Int→Int) (A:List Int):∀ U:List Int,cW U (fun u=>cW A fun t=>w u t)=cW A (fun t=>cW U fun u=>w u t)
 | []=>by show 0=cW A fun t=>0;rw [fC,Int.mul_zero]
 | a::U=>by rw [bG,xa w A U,← qe];rfl
theorem cq {f g:Int→Int}:∀ {l:List Int},(∀ t∈l,f t=g t)→cW l f=cW l g
 | [],_=>rfl
 | a::l,h=>by rw [bG,bG,h a NJ,cq fun t ht=>h t (NI _ ht)]
theorem fB {f g:Int→Int}:∀ {l:List Int},(∀ t∈l,f t≤g t)→cW l f≤cW l g
 | [],_=>O6 _
 | a::l,h=>by rw [bG,bG];have:=h a NJ;have:=fB (l:=l) fun t ht=>h t (NI _ ht);lia
structure KP (off:Int→List Int) (X V:List Int) (w:Int→Int→Int) (R:Int):Prop where
 pos:0<R
 Ny:X.Nodup
 Nm:V.Nodup
 w0:∀ u t,0≤w u t
 sup:∀ u t,u∈X→t∈V→0<w u t→t∈off u
 row:∀ u∈X,cW V (fun t=>w u t)=R
 col:∀ t∈V,cW X (fun u=>w u t)=R
theorem zP {X V:List Int} {w:Int→Int→Int} (e:KP off X V w R) {T:Tk} (hx:x∈X) (hT:∀ t u,getZ T t=some u→u∈X) (p:Pre T [] x) (nd:A.Nodup) (iv:∀ t∈A,t∈V)
 (hox:∀ t∈off x,t∈A) (hA:∀ t∈A,∃ u,getZ T t=some u∧∀ s∈off u,s∈A):False:=by
 let U:List Int:=x::A.map fun t=>(getZ T t).getD 0
 have own:∀ t∈A,getZ T t=some ((getZ T t).getD 0):=fun t ht=>by obtain ⟨u,hu,_⟩:=hA t ht;rw [hu]; rfl
 have ndU:U.Nodup:=by
  refine Of.mpr ⟨fun z=>?_,?_⟩
  ·obtain ⟨t,ht,e1⟩:=NW.mp z;have:=own t ht;rw [e1] at this;exact p.new t (by simp) this
  ·have:∀ A:List Int,A.Nodup→(∀ t∈A,getZ T t=some ((getZ T t).getD 0))→(A.map fun t=>(getZ T t).getD 0).Nodup:=by
    intro A;induction A with
    | nil=>intro _ _; exact O8
    | cons a A ih =>intro nd own;obtain ⟨h1,h2⟩:=Of.mp nd;refine Of.mpr ⟨fun z=>?_,ih h2 fun t ht=>own t (NI _ ht)⟩;obtain ⟨t,ht,e1⟩:=NW.mp z;have o1:=own a NJ;have o2:=own t (NI _ ht);rw [e1] at o2;have:=p.inj t a _ (by simp) (by simp) o2 o1;exact h1 (this ▸ ht)
   exact this A nd own
 have UX:∀ u∈U,u∈X:=fun u hu=>by
  rcases NU.mp hu with z | z
  ·rw [z]; exact hx
  ·obtain ⟨t,ht,e1⟩:=NW.mp z;have:=own t ht;rw [e1] at this;exact hT t u this
 have offU:∀ u∈U,∀ t∈off u,t∈A:=fun u hu=>by
  rcases NU.mp hu with z | z
  ·rw [z]; exact hox
  ·obtain ⟨t,ht,e1⟩:=NW.mp z;obtain ⟨v,hv,hv2⟩:=hA t ht;rw [hv] at e1;have:v=u:=e1;rw [← this];exact hv2
 have jO:∀ u∈U,R≤cW A fun t=>w u t:=fun u hu=>by
  rw [← e.row u (UX u hu),w5 (p:=fun t=>decide (t∈A))]
  ·refine qd (e.Nm.filter _) (fun t ht=>?_) fun t _=>e.w0 u t;exact of_decide_eq_true (OJ.mp ht).2
  ·intro t ht c;have c:=of_decide_eq_false c;have h0:=e.w0 u t;by_cases z:0<w u t
   ·exact absurd (offU u hu t (e.sup u t (UX u hu) ht z)) c
   ·lia
 have h1:cW U (fun _=>R)≤cW U fun u=>cW A fun t=>w u t:=fB jO;rw [xa,fC] at h1;have h2:cW A (fun t=>cW U fun u=>w u t)≤cW A fun _=>R:=fB fun t ht=>by rw [← e.col t (iv t ht)];exact qd ndU UX fun u _=>e.w0 u t
 rw [fC] at h2;have hl:U.length=A.length+1:=by show (x::A.map _).length=_; rw [Oy,NH]
 rw [hl,Wi,Tz] at h1;have:=e.pos;lia
def eV (off:Int→List Int) (n:Nat):List Int→Tk→Option Tk
 | [],T=>some T
 | x::xs,T=>match takeO off n x T [] with
  | some (_,T',_)=>eV off n xs T'
  | none=>none
structure KO (off:Int→List Int) (X:List Int) (D:Int→Prop) (T:Tk):Prop where
 inj:∀ s t u,getZ T s=some u→getZ T t=some u→s=t
 sY:∀ t u,getZ T t=some u→t∈off u
 own:∀ t u,getZ T t=some u→D u
 all:∀ u,D u→∃ t,getZ T t=some u
theorem qI {off:Int→List Int} {X V:List Int} {w:Int→Int→Int} {R:Int} (e:KP off X V w R) (hoff:∀ x t,t∈off x→t∈V) {n:Nat} (hn:V.length<n):∀ (xs:List Int) (D:Int→Prop) (T:Tk),(∀ x∈xs,x∈X∧¬ D x)→xs.Nodup→(∀ u,D u→u∈X)→KO off X D T→∃ T',eV off n xs T=some T'∧KO off X (fun u=>D u∨u∈xs) T'
 | [],D,T,_,_,_,f=>⟨T,rfl,f.inj,f.sY,fun t u h=>.inl (f.own t u h),fun u h=>f.all u (h.resolve_right (by simp))⟩
 | x::xs,D,T,hx,nd,hD,f=>by
  obtain ⟨h1,h2⟩:=Of.mp nd;obtain ⟨xX,xD⟩:=hx x NJ;have p:Pre T [] x:=⟨fun s t u _ _=>f.inj s t u,fun t _ z=>xD (f.own t x z)⟩
  obtain ⟨b,T',A',et,q⟩:=wO hoff n x T [] O8 (by simp) (by simpa using hn) p;cases b with
  | false =>obtain ⟨k1,k2,k3⟩:=q.GZ rfl;exact (zP e xX (fun t u h=>hD u (f.own t u h)) p q.nd q.Bz k2 fun t ht=>k3 t ht (by simp)).elim
  | true =>
   have W:=q.LV rfl
   have f':KO off X (fun u=>D u∨u=x) T':=by
    refine ⟨fun s t u=>W.inj s t u (by simp) (by simp),fun t u h=>(W.sY t u h).elim (f.sY t u) id,fun t u h=>?_,fun u h=>?_⟩
    ·rcases W.Ey u t (by simp) h with z | ⟨s,_,z⟩
     ·exact .inr z
     ·exact .inl (f.own s u z)
    ·rcases h with h | h
     ·obtain ⟨s,hs⟩:=f.all u h;obtain ⟨t,_,ht⟩:=W.Jd u s (by simp) hs;exact ⟨t,ht⟩
     ·obtain ⟨t,_,ht⟩:=W.has;exact ⟨t,by rw [h]; exact ht⟩
   obtain ⟨T2,e2,f2⟩:=qI e hoff hn xs (fun u=>D u∨u=x) T' (fun y hy=>⟨(hx y (NI _ hy)).1,fun z=>z.elim (hx y (NI _ hy)).2 fun z=>h1 (z ▸ hy)⟩) h2 (fun u h=>h.elim (hD u) fun z=>z ▸ xX) f';refine ⟨T2,by unfold eV; rw [et]; exact e2,f2.inj,f2.sY,fun t u h=>?_,fun u h=>f2.all u ?_⟩
   ·rcases f2.own t u h with (z | z) | z
    ·exact .inl z
    ·exact .inr (z ▸ NJ)
    ·exact .inr (NI _ z)
   ·rcases h with z | z
    ·exact .inl (.inl z)
    ·rcases NU.mp z with z | z
     ·exact .inl (.inr z)
     ·exact .inr z
def bV (n:Nat):List Int:=(N4 n).map Int.ofNat
theorem aA:x∈bV n↔0≤x∧x<n:=by
 unfold bV;rw [NW];constructor
 ·rintro ⟨k,hk,rfl⟩;have:=Ow.mp hk;exact ⟨Int.natCast_nonneg k,by show (k:Int)<n; lia⟩
 ·rintro ⟨h0,h1⟩;exact ⟨x.toNat,Ow.mpr (by lia),by show ((x.toNat:Nat):Int)=x; lia⟩
theorem dg (n:Nat):(bV n).Nodup:=by unfold bV;refine List.Pairwise.map _ (fun a b h z=>h (by cases z; rfl)) Sj
theorem fM (n:Nat):(bV n).length=n:=by unfold bV; rw [NH,Oc]
theorem A9 (a b:Nat):bV (a+b)=bV a++(bV b).map fun x=>(a:Int)+x:=by unfold bV;rw [List.range_add,Od,N0,N0];rfl
theorem uX (f:Int→Int):∀ a b:List Int,cW (a++b) f=cW a f+cW b f
 | [],b=>by rw [Qt,AV]; lia
 | x::a,b=>by rw [Q0,bG,bG,uX f a b]; lia
theorem AW (f:Int→Int) (g:Int→Int) (l:List Int):cW (l.map g) f=cW l fun x=>f (g x):=by unfold cW;rw [N0];rfl
theorem je {c u:Int}:∀ {l:List Int},l.Nodup→u∈l→cW l (fun i=>if i=u then c else 0)=c
 | [],_,h=>by cases h
 | a::l,nd,h=>by
  obtain ⟨h1,h2⟩:=Of.mp nd;rw [bG];by_cases e:a=u
  ·subst e;rw [if_pos rfl];have:cW l (fun i=>if i=a then c else 0)=cW l fun _=>0:=cq fun t ht=>if_neg fun z:t=a=>h1 (z ▸ ht);rw [this,fC,Int.mul_zero,R8]
  ·rw [if_neg e,je h2 ((NU.mp h).resolve_left fun z=>e z.symm),SS]
section
variable (h b:Nat) (l:Int→Int→Int) (R:Int)
def dI (i:Int):Int:=cW (bV b) fun j=>l i j
def eO (j:Int):Int:=cW (bV h) fun i=>l i j
noncomputable def uF (u t:Int):Int :=
 if 0≤u∧u<h then (if 0≤t∧t<b then l u t else if t=b+u then R-dI b l u else 0)
 else if (h:Int)≤u∧u<h+b then (if (b:Int)≤t∧t<b+h then l (t-b) (u-h) else if t=u-h then R-eO h l (u-h) else 0)
 else 0
noncomputable def sR (u:Int):List Int :=
 if 0≤u∧u<h then (bV b).filter (fun t=>decide (0<l u t))++(if dI b l u<R then [(b:Int)+u] else [])
 else if (h:Int)≤u∧u<h+b then ((bV h).map fun i=>(b:Int)+i)++(if eO h l (u-h)<R then [u-h] else [])
 else []
structure Fits:Prop where
 pos:∀ i j,0≤l i j
 row:∀ i,i∈bV h→dI b l i≤R
 col:∀ j,j∈bV b→eO h l j≤R
end
theorem vD {b:Nat} {l:Int→Int→Int} (u t:Int) (ht:t∈sR h b l R u):t∈bV (b+h):=by
 rw [aA];unfold sR at ht;split at ht
 ·rename_i c;rcases NZ.mp ht with z | z
  ·have:=aA.mp (OJ.mp z).1;lia
  ·split at z
   ·rw [NL.mp z]; lia
   ·cases z
 ·split at ht
  ·rename_i c;rcases NZ.mp ht with z | z
   ·obtain ⟨i,hi,rfl⟩:=NW.mp z;have:=aA.mp hi;lia
   ·split at z
    ·rw [NL.mp z]; lia
    ·cases z
  ·cases ht
theorem Kg {b:Nat} {l:Int→Int→Int} (f:Fits h b l R) (hR:0<R):KP (sR h b l R) (bV (h+b)) (bV (b+h)) (uF h b l R) R:=by
 refine ⟨hR,dg _,dg _,fun u t=>?_,fun u t hu ht hw=>?_,fun u hu=>?_,fun t ht=>?_⟩
 ·unfold uF;split
  ·rename_i c;split
   ·exact f.pos _ _
   ·split
    ·have:=f.row u (aA.mpr c); lia
    ·exact O6 _
  ·split
   ·rename_i c;split
    ·exact f.pos _ _
    ·split
     ·have:=f.col (u-h) (aA.mpr (by lia)); lia
     ·exact O6 _
   ·exact O6 _
 ·unfold uF at hw;unfold sR;split at hw
  ·rename_i c;rw [if_pos c];split at hw
   ·rename_i d;exact Ol _ (OJ.mpr ⟨aA.mpr d,decide_eq_true hw⟩)
   ·split at hw
    ·rename_i d;rw [if_pos (by lia),d];exact NQ _ NJ
    ·lia
  ·rename_i c;rw [if_neg c];split at hw
   ·rename_i c2;rw [if_pos c2];split at hw
    ·rename_i d;exact Ol _ (NW.mpr ⟨t-b,aA.mpr (by lia),by lia⟩)
    ·split at hw
     ·rename_i d;rw [if_pos (by lia),d];exact NQ _ NJ
     ·lia
   ·lia
 ·have hu:=aA.mp hu;rw [A9,uX,AW];by_cases c:0≤u∧u<h
  ·have e1:cW (bV b) (fun t=>uF h b l R u t)=dI b l u:=cq fun t ht=>by unfold uF;rw [if_pos c,if_pos (aA.mp ht)]
   have e2:cW (bV h) (fun i=>uF h b l R u ((b:Int)+i))=cW (bV h) (fun i=>if i=u then R-dI b l u else 0):=cq fun i hi=>by
    have:=aA.mp hi;unfold uF;rw [if_pos c,if_neg (by lia)];by_cases z:i=u
    ·rw [if_pos z,if_pos (by lia)]
    ·rw [if_neg z,if_neg (by lia)]
   rw [e1,e2,je (dg _) (aA.mpr c)];lia
  ·have c2:(h:Int)≤u∧u<h+b:=by lia
   have e1:cW (bV b) (fun t=>uF h b l R u t)=cW (bV b) (fun t=>if t=u-h then R-eO h l (u-h) else 0):=cq fun t ht=>by have:=aA.mp ht;unfold uF;rw [if_neg c,if_pos c2,if_neg (by lia)]
   have e2:cW (bV h) (fun i=>uF h b l R u ((b:Int)+i))=eO h l (u-h):=cq fun i hi=>by have:=aA.mp hi;unfold uF;rw [if_neg c,if_pos c2,if_pos (by lia),show (b:Int)+i-b=i by lia]
   rw [e1,e2,je (dg _) (aA.mpr (by lia))];lia
 ·have ht:=aA.mp ht;rw [A9,uX,AW];by_cases c:0≤t∧t<b
  ·have e1:cW (bV h) (fun u=>uF h b l R u t)=eO h l t:=cq fun u hu=>by unfold uF;rw [if_pos (aA.mp hu),if_pos c]
   have e2:cW (bV b) (fun j=>uF h b l R ((h:Int)+j) t)=cW (bV b) (fun j=>if j=t then R-eO h l t else 0):=cq fun j hj=>by
    have:=aA.mp hj;unfold uF;rw [if_neg (by lia),if_pos (by lia),if_neg (by lia),show (h:Int)+j-h=j by lia];by_cases z:j=t
    ·rw [if_pos z,if_pos z.symm,z]
    ·rw [if_neg z,if_neg (fun w=>z w.symm)]
   rw [e1,e2,je (dg _) (aA.mpr c)];lia
  ·have e1:cW (bV h) (fun u=>uF h b l R u t)=cW (bV h) (fun u=>if u=t-b then R-dI b l (t-b) else 0):=cq fun u hu=>by
    unfold uF;rw [if_pos (aA.mp hu),if_neg c];by_cases z:u=t-b
    ·rw [if_pos z,if_pos (by lia),z]
    ·rw [if_neg z,if_neg (by lia)]
   have e2:cW (bV b) (fun j=>uF h b l R ((h:Int)+j) t)=dI b l (t-b):=cq fun j hj=>by have:=aA.mp hj;unfold uF;rw [if_neg (by lia),if_pos (by lia),if_pos (by lia),show (h:Int)+j-h=j by lia]
   rw [e1,e2,je (dg _) (aA.mpr (by lia))];lia
def IE (t:Int):Key×V:=(.inl t,.bl true)
def HK (T:Tk):HO:=.dK (T.map tf)
def KW (A:List Int):HO:=.dK (A.map IE)
def jI (H:Hp) (p q:NP) (T:Tk) (A:List Int):Hp:=upd (upd H p (HK T)) q (KW A)
theorem wI {H:Hp} {a:NP} {o:HO} (e:H a=some o):upd H a o=H:=by
 funext x;unfold upd;split
 ·rename_i z; rw [z]; exact e.symm
 ·rfl
theorem uH {H:Hp} {a:NP} {o o':HO}:upd (upd H a o) a o'=upd H a o':=by funext x;unfold upd;split <;> rfl
theorem DQ {H:Hp} {a b:NP} {o o':HO} (h:a≠b):upd (upd H a o) b o'=upd (upd H b o') a o:=by
 funext x;unfold upd;split
 ·rename_i z;rw [if_neg (fun w=>h (w.symm.trans z))]
 ·rfl
theorem Fg {H:Hp} {p q:NP} {T:Tk} (e1:H p=some (HK T)) (e2:H q=some (KW A)):jI H p q T A=H:=by unfold jI;rw [wI e1,wI e2]
theorem Io {H:Hp} {p q:NP} {T:Tk} (h:p≠q):jI H p q T A p=some (HK T):=by unfold jI;rw [aG h];exact aN
theorem LF {H:Hp} {p q:NP} {T:Tk}:jI H p q T A q=some (KW A):=aN
theorem Ip {H:Hp} {p q a:NP} {T:Tk} (h1:a≠p) (h2:a≠q):jI H p q T A a=H a:=by unfold jI;rw [aG h2,aG h1]
theorem yf {H:Hp} {p q:NP} {T:Tk} {A':List Int}:upd (jI H p q T A) q (KW A')=jI H p q T A':=uH
theorem rN {H:Hp} {p q:NP} {T T':Tk} (h:p≠q):upd (jI H p q T A) p (HK T')=jI H p q T' A:=by unfold jI;rw [DQ (P9 h),uH]
theorem G9 {H:Hp} {p q:NP} {T T':Tk} {A':List Int} (h:p≠q):jI (jI H p q T A) p q T' A'=jI H p q T' A':=by show upd (upd (jI H p q T A) p (HK T')) q (KW A')=_;rw [rN h];exact yf
theorem jc {off:Int→List Int}:∀ (n:Nat) (x:Int) (T:Tk) (A:List Int) (b:Bool) (T':Tk) (A':List Int),takeO off n x T A=some (b,T',A')→(b=false→T'=T)∧T'.length≤T.length+n
 | 0,x,T,A,b,T',A',e=>by cases e
 | n+1,x,T,A,b,T',A',e=>by
  have key:∀ (ts:List Int) (T:Tk) (A:List Int),takeL (takeO off n) x ts T A=some (b,T',A')→(b=false→T'=T)∧T'.length≤T.length+(n+1):=by
   intro ts;induction ts with
   | nil=>intro T A e; cases e; exact ⟨fun _=>rfl,by lia⟩
   | cons t ts ih =>
    intro T A e;unfold takeL at e;split at e
    ·exact ih T A e
    ·split at e
     ·cases e;exact ⟨fun z=>(by cases z),by have:=xw T t x; lia⟩
     ·rename_i u _;split at e
      ·rename_i T1 A1 e1;cases e;have:=(jc n u T _ _ _ _ e1).2;exact ⟨fun z=>(by cases z),by have:=xw T1 t x; lia⟩
      ·rename_i T1 A1 e1;have:=(jc n u T _ _ _ _ e1).1 rfl;subst this;exact ih _ _ e
      ·cases e
  exact key (off x) T A e
noncomputable def FX (H:Hp) (po:NP) (off:Int→List Int) (m:Nat):Prop:=∃ as:List NP,as.length=m∧m≤1000∧Rd H po (.lst (as.map V.ref))∧∀ (x:Nat) (a:NP),as[x]?=some a→Rd H a (.lst ((off (x:Int)).map V.int))∧(off (x:Int)).length≤1000
noncomputable def Mi (n:Nat):Sp:=fun vs H Q _=>∃ (po p q:NP) (off:Int→List Int) (m:Nat) (W:List Int) (x:Int) (T:Tk) (A:List Int) (b:Bool) (T':Tk) (A':List Int),
 vs=[.ref po,.int x,.ref p,.ref q]∧FX H po off m∧H p=some (HK T)∧H q=some (KW A)∧p≠q∧0≤x∧x<m∧(∀ t u,getZ T t=some u→0≤u∧u<m)∧T.length+n≤1000∧A.Nodup∧(∀ t∈A,t∈W)∧(∀ x t,t∈off x→t∈W)∧W.length≤1000 ∧
 takeO off n x T A=some (b,T',A')∧Q (.bl b) (jI H p q T' A')
def oj:List D→Option (List (List Int))
 | []=>some []
 | .lst ds::r=>(match dn ds,oj r with
  | some x,some y=>some (x::y)
  | _,_=>none)
 | _=>none
theorem qD:∀ (R:List (List Int)),oj (R.map fun r=>D.lst (r.map D.int))=some R
 | []=>rfl
 | r::R=>by rw [Oq];unfold oj;rw [eE,qD R]
theorem pe:∀ {ds:List D} {R:List (List Int)},oj ds=some R→ds=R.map fun r=>D.lst (r.map D.int)
 | [],R,h=>by cases h; rfl
 | d::ds,R,h=>by
  unfold oj at h;split at h
  ·rename_i e; cases e
  ·rename_i a b c e;cases e;split at h
   ·rename_i x y e1 e2;cases h;rw [Oq,← dA e1,← pe e2]
   ·cases h
  ·cases h
def fm (R:List (List Int)) (x:Int):List Int:=if 0≤x then R.getD x.toNat [] else []
theorem CM {R:List (List Int)} (h:t∈fm R x):∃ r∈R,t∈r:=by
 unfold fm at h;split at h
 ·rw [NF] at h;cases e:R[x.toNat]? with
  | none=>rw [e] at h; cases h
  | some r=>rw [e] at h; exact ⟨r,OF e,h⟩
 ·cases h
def BX (R:List (List Int)):Prop:=R.length≤50∧(∀ r∈R,r.length≤1000)∧∃ W:List Int,W.length≤1000∧∀ r∈R,∀ t∈r,t∈W
open Classical in
@[irreducible] def cw (ds:List D):Option D:=match ds with
 | [.lst xs]=>(match oj xs with
  | some R=>if BX R then (eV (fm R) 14 (bV R.length) []).map D.dct else none
  | none=>none)
 | _=>none
theorem wx (h:cw ds=some d):∃ R T,ds=[.lst (R.map fun r=>D.lst (r.map D.int))]∧BX R∧eV (fm R) 14 (bV R.length) []=some T∧d=.dct T:=by
 unfold cw at h;split at h
 ·rename_i xs;split at h
  ·rename_i R e;split at h
   ·rename_i ok;obtain ⟨T,e2,e3⟩:=OH.mp h;exact ⟨R,T,by rw [← pe e],ok,e2,e3.symm⟩
   ·cases h
  ·cases h
 ·cases h
theorem Au {R:List (List Int)} {T:Tk} (ok:BX R) (e:eV (fm R) 14 (bV R.length) []=some T):cw [.lst (R.map fun r=>D.lst (r.map D.int))]=some (.dct T):=by unfold cw;dsimp only;rw [qD];dsimp only;rw [if_pos ok,e];rfl
theorem l8 {off:Int→List Int}:∀ (n:Nat) (x:Int) (T:Tk) (A:List Int) (b:Bool) (T':Tk) (A':List Int),takeO off n x T A=some (b,T',A')→∀ t u,getZ T' t=some u→u=x∨∃ s,getZ T s=some u
  | 0,x,T,A,b,T',A',e=>by cases e
  | n+1,x,T,A,b,T',A',e=>by
    have key:∀ (ts:List Int) (T:Tk) (A:List Int),takeL (takeO off n) x ts T A=some (b,T',A')→∀ t u,getZ T' t=some u→u=x∨∃ s,getZ T s=some u:=by
      intro ts;induction ts with
      | nil=>intro T A e; cases e; exact fun t u h=>.inr ⟨t,h⟩
      | cons t ts ih =>
        intro T A e;unfold takeL at e;split at e
        · exact ih T A e
        · split at e
          · cases e;intro s u h;rw [m7] at h;split at h
            · cases h; exact .inl rfl
            · exact .inr ⟨s,h⟩
          · rename_i v hv;split at e
            · rename_i T1 A1 e1;cases e;intro s u h;rw [m7] at h;split at h
              · cases h; exact .inl rfl
              · rcases l8 n v T _ _ _ _ e1 s u h with z | z
                · exact .inr ⟨t,by rw [z]; exact hv⟩
                · exact .inr z
            · rename_i T1 A1 e1;intro s u h;rcases ih _ _ e s u h with z | ⟨r,z⟩
              · exact .inl z
              · rcases l8 n v T _ _ _ _ e1 r u z with z | z
                · exact .inr ⟨t,by rw [z]; exact hv⟩
                · exact .inr z
            · cases e
    exact key (off x) T A e
theorem EA {i:Nat} (h:i<m):(bV m).drop i=(i:Int)::(bV m).drop (i+1):=by unfold bV;rw [← WM,← WM,OB (by rw [Oc]; exact h),RS];rfl
theorem pO (x0 x1:D):gO 5 [false,false] [x0,x1]=[.bo x0,.bo x1,.un,.un,.un]:=rfl
noncomputable def fj:DS:=(aL (cy 2 (bb cw (ao (bb kH (ao (ai 0) (ao (ai 1) aS))) aS)))
 (aL (cy 3 (fo dJ ‹56›))
 (aL (cy 4 (bu (bJ 1 [2,0] (iK (ai 3)) (gN true 0) (dT (yx (nr (ai 1) (ai 0)) (fo dJ (ai 2)))) (bu (ao (nr (ai 1) (ai 0)) (ao (aC 0) aS))))))
 (bY (bu (nk (aC 4)))))))
@[irreducible] def dB:List D→Option D:=bR 5 [false,false] fj
theorem g9:dB=bR 5 [false,false] fj:=by unfold dB; rfl
theorem Cb (x0:D):gO 8 [false] [x0]=[.bo x0,.un,.un,.un,.un,.un,.un,.un]:=rfl
noncomputable def nR:DS:=(aL (j6 1 (kA 1 [] (fH (ai 0)) (gN false 0) bM (kr (rZ (ai 0)))))
 (aL (cy 2 (bb dD (ao (ai 0) aS)))
 (aL (gq 3 aS)
 (aL (ma (dT (Hs (ai 2) ‹6›))
 (aL (cy 4 (bb dB (ao (ai 1) (ao (ai 2) aS))))
 (aL (cy 5 (bb da (ao (ai 1) (ao (ai 2) (ao (ai 4) aS)))))
 (aL (j7 (fH (aC 4)) (Dg 2 (b8 (gN true 6) (b8 (gN true 7) iS)))
 (xo (fun x y=>x-y) 1 (ai 6) (ai 7) (ai 5)))
 (aL (xp (fun x y=>x-y) 2 (ai 5))
 (sN 3 (bu (ao (aC 5) (ao (aC 4) aS)))))))))
  (vd 3 (bY (aC 3)))))))
@[irreducible] def hE:List D→Option D:=bR 8 [false] nR
theorem nI:hE=bR 8 [false] nR:=by unfold hE; rfl
theorem sE (x0 x1:D):gO 2 [false,false] [x0,x1]=[.bo x0,.bo x1]:=rfl
def gM:DS:=(aL (ji (fY (ky (ai 0) (ai 1)))
 (bY (jx (nu (ai 0) (ai 1)) ‹17›))
      bX)
 (bY (nu (ai 0) (ai 1))))
@[irreducible] def fi:List D→Option D:=bR 2 [false,false] gM
theorem ja:fi=bR 2 [false,false] gM:=by unfold fi; rfl
theorem sC (x0 x1:D):gO 2 [false,false] [x0,x1]=[.bo x0,.bo x1]:=rfl
def gL:DS:=(bY (bb fi (ao (fo uO (ai 0)) (ao (ai 1) aS))))
@[irreducible] def fg:List D→Option D:=bR 2 [false,false] gL
theorem i9:fg=bR 2 [false,false] gL:=by unfold fg; rfl
theorem uS (x0 x1:D):gO 2 [false,false] [x0,x1]=[.bo x0,.bo x1]:=rfl
def iC:DS:=(aL (ji (hV (fY (ai 0)))
 (bY ‹6›)
      bX)
 (bY (yw (fo maxD (ai 0)) (bb fg (ao (ai 0) (ao (ai 1) aS))))))
@[irreducible] def dE:List D→Option D:=bR 2 [false,false] iC
theorem jK:dE=bR 2 [false,false] iC:=by unfold dE; rfl
theorem yY (x0 x1 x2:D):gO 11 [false,false,false] [x0,x1,x2]=[.bo x0,.bo x1,.bo x2,.un,.un,.un,.un,.un,.un,.un,.un]:=rfl
noncomputable def k9:DS:=(aL (cy 3 (bb dE (ao (ai 0) (ao (ai 1) aS))))
 (aL (ji (dT (yx (ai 2) (ai 3)))
      Mj
      bX)
 (aL (j6 4 BN)
 (aL (cy 5 ‹6›)
 (aL (cy 6 ‹6›)
 (aL (j7 (Ai (mz (rX 0))) (Dg 2 (b8 (gN true 7) (b8 (gN true 8) iS)))
 (aL (cy 9 (aC 8))
 (ma (dT (Hs (ai 9) ‹6›))
 (aL (ji (dT (jQ false (ai 6) (ai 2)))
 (aL (xp (fun x y=>x+y) 5 ‹17›)
 (cy 6 ‹6›))
      bX)
 (aL (cy 10 (yv (jx (ai 6) (ai 9)) (ai 2)))
 (aL (pz 4 (ao (aC 5) (ao (aC 7) (ao (aC 6) (ao (aC 10) aS)))))
 (aL (xp (fun x y=>x-y) 9 (Ag (ai 10) (ai 6)))
 (cy 6 (aC 10)))))))))
 (qY 4)))))))
@[irreducible] def iX:List D→Option D:=sO 11 [false,false,false] k9
theorem lR:iX=sO 11 [false,false,false] k9:=by unfold iX; rfl
theorem y9 (x0 x1:D):gO 2 [false,false] [x0,x1]=[.bo x0,.bo x1]:=rfl
def lz:DS:=(bY (iV (jQ false ‹56› (bZ (ai 1) ‹6›)) (iV (jQ false (bZ (ai 0) ‹17›) (bZ (ai 1) ‹17›)) (jQ false (bZ (ai 0) (dC (.int 3))) (bZ (ai 1) (dC (.int 2)))))))
@[irreducible] def i8:List D→Option D:=bR 2 [false,false] lz
theorem lZ:i8=bR 2 [false,false] lz:=by unfold i8; rfl
theorem Cf (x0:D):gO 3 [false] [x0]=[.bo x0,.un,.un]:=rfl
noncomputable def nV:DS:=(aL (j6 1 BN)
 (aL (j7 (nk (rX 0)) (gN false 2)
 (ji (Aj (fY (ai 1)) (fY (bb i8 (ao (bZ (ai 1) (mE ‹17›)) (ao (ai 2) aS)))))
 (tP 1 (mE ‹17›) (dC (.int 3)) (gv (bZ (ai 2) (dC (.int 3)))))
 (pz 1 (kr (rZ (ai 2))))))
 (qZ 1 [] (wa (ao (gv (bZ (ai 0) (dC (.int 2)))) (ao (gv ‹56›) aS))))))
@[irreducible] def hU:List D→Option D:=sO 3 [false] nV
theorem nQ:hU=sO 3 [false] nV:=by unfold hU; rfl
theorem uR (x0:D):gO 6 [false] [x0]=[.bo x0,.un,.un,.un,.un,.un]:=rfl
noncomputable def iB:DS:=(aL (gq 1 aS)
 (aL (cy 2 ‹6›)
 (aL (j7 (fH (bb hE (ao (ai 0) aS))) (Dg 2 (b8 (gN true 3) (b8 (gN true 4) iS)))
 (aL (cy 5 (jx (ai 2) (ai 3)))
 (aL (zw 1 (bu (bJ 2 [2,5] (fH (aC 4)) ‹36› bM (bu (ao (aC 1) (ao (aC 0) (ao (aC 2) (ao (aC 3) aS))))))))
 (cy 2 (aC 5)))))
 (bY (bb hU (ao (ai 1) aS))))))
@[irreducible] def fZ:List D→Option D:=bR 6 [false] iB
theorem jJ:fZ=bR 6 [false] iB:=by unfold fZ; rfl
theorem yZ (x0:D):gO 1 [false] [x0]=[.bo x0]:=rfl
def lg:DS:=(bY (iV (tj "int" (ai 0)) (uk (tj "bool" (ai 0)))))
@[irreducible] def dN:List D→Option D:=bR 1 [false] lg
theorem lS:dN=bR 1 [false] lg:=by unfold dN; rfl
theorem uU (x0 x1:D):gO 2 [false,false] [x0,x1]=[.bo x0,.bo x1]:=rfl
def iE:DS:=(aL (ji (dT (yx (ai 1) (fo dJ (ai 0))))
 (bY (gv (bZ (ai 0) (ai 1))))
      bX)
 (bY ‹6›))
@[irreducible] def c4:List D→Option D:=bR 2 [false,false] iE
theorem jM:c4=bR 2 [false,false] iE:=by unfold c4; rfl
theorem y7 (x0 x1:D):gO 3 [false,false] [x0,x1]=[.bo x0,.bo x1,.un]:=rfl
def lp:DS:=(aL (cy 2 (ky (jx (jx (oX (ai 0) (dC (.int 48271))) (oX (oX (ai 1) (ai 1)) (dC (.int 69621)))) (dC (.int 3))) (dC (.int 2147483647))))
 (bY (ky (oX (ai 2) (ai 2)) (dC (.int 2147483629)))))
@[irreducible] def fJ:List D→Option D:=bR 3 [false,false] lp
theorem lX:fJ=bR 3 [false,false] lp:=by unfold fJ; rfl
theorem uT (x0:D):gO 3 [false] [x0]=[.bo x0,.un,.un]:=rfl
noncomputable def iD:DS:=(aL (gq 1 (bJ 1 [0] (iK (dC (.int 36))) (gN true 0) bM (bb fJ (ao (bb c4 (ao (ai 1) (ao (dC (.int 2)) aS))) (ao (jx (dC (.int 90)) (ai 0)) aS)))))
 (aL (j7 (FF (dC (.int 3)) (yv (dC (.int 63)) (fo dJ (ai 0)))) (gN true 2)
 (zu 1 (ky (ai 2) (dC (.int 36))) (bb fJ (ao (jx (bZ (ai 1) (ky (ai 2) (dC (.int 36)))) (bZ (ai 0) (ai 2))) (ao (ai 2) aS)))))
  (vd 1 (bY (aC 1)))))
@[irreducible] def f6:List D→Option D:=bR 3 [false] iD
theorem jL:f6=bR 3 [false] iD:=by unfold f6; rfl
theorem Ce (x0:D):gO 1 [false] [x0]=[.bo x0]:=rfl
def nU:DS:=(aL (ji (dT (jQ false (ky (ai 0) (dC (.int 3))) ‹17›))
 (bY (dC (.int 6)))
      bX)
 (bY (ky (nu (ai 0) (dC (.int 3))) (dC (.int 7)))))
@[irreducible] def iZ:List D→Option D:=bR 1 [false] nU
theorem nO:iZ=bR 1 [false] nU:=by unfold iZ; rfl
theorem y8 (x0 x1:D):gO 2 [false,false] [x0,x1]=[.bo x0,.bo x1]:=rfl
noncomputable def lu:DS:=(aL (ji (dT (jQ false (ai 1) ‹6›))
 (bY (ky (ai 0) (dC (.int 6))))
      bX)
 (aL (ji (dT (jQ false (ai 1) ‹17›))
 (bY (oX (ky (nu (ai 0) (dC (.int 6))) (dC (.int 9))) (fo intD (yx (ky (ai 0) (dC (.int 6))) (dC (.int 2))))))
      bX)
 (aL (ji (dT (jQ false (ai 1) (dC (.int 2))))
 (bY (jx (oX (ai 0) (FG (dC (.int 10)) (dC (.int 40)))) (bb fJ (ao (ai 0) (ao (dC (.int 5)) aS)))))
      bX)
 (bY (oX (ky (ai 0) (dC (.int 2))) (FG (dC (.int 10)) (dC (.int 49))))))))
@[irreducible] def i7:List D→Option D:=bR 2 [false,false] lu
theorem lY:i7=bR 2 [false,false] lu:=by unfold i7; rfl
theorem y0 (x0:D):gO 10 [false] [x0]=[.bo x0,.un,.un,.un,.un,.un,.un,.un,.un,.un]:=rfl
noncomputable def lh:DS:=(aL (cy 1 (bb f6 (ao (ai 0) aS)))
 (aL (cy 2 (bb c4 (ao (ai 0) (ao (dC (.int 2)) aS))))
 (aL (cy 3 (bb iZ (ao (bb c4 (ao (ai 0) (ao ‹6› aS))) aS)))
 (aL (cy 4 (oX (bb iZ (ao (bb c4 (ao (ai 0) (ao ‹17› aS))) aS)) (fo intD (Hs (ai 3) ‹6›))))
 (aL (gq 5 aS)
 (aL (j7 (iK (ai 3)) (gN true 6)
 (aL (gq 7 aS)
 (aL (j7 (iK (ai 4)) (gN true 8)
 (aL (cy 9 (Dm (jQ false (ai 6) (ky (nu (ai 2) (dC (.int 4))) (dC (.int 12)))) (jQ false (ai 8) (ky (nu (ai 2) (dC (.int 48))) (dC (.int 12))))))
 (sN 7 (oX (bb i7 (ao (bZ (ai 1) (jx (oX (dC (.int 6)) (ai 6)) (ai 8))) (ao (ky (ai 2) (dC (.int 4))) aS))) (fo intD (uk (ai 9)))))))
  (vd 7 (sN 5 (aC 7))))))
  (vd 5 (bY (aC 5)))))))))
@[irreducible] def iY:List D→Option D:=bR 10 [false] lh
theorem lV:iY=bR 10 [false] lh:=by unfold iY; rfl
theorem Cd (x0:D):gO 3 [false] [x0]=[.bo x0,.un,.un]:=rfl
noncomputable def nT:DS:=(aL (cy 1 (bu (bJ 1 [] (fH (ai 0)) (gN false 0) bM (fo uO (ai 0)))))
 (aL (cy 2 (fo maxD (bu (mF (bu (bJ 1 [] (fH (ai 0)) (gN false 0) bM (fo dJ (ai 0)))) (bu (ao ‹6› aS))))))
 (bY (wa (ao (aC 1) (ao (bu (bJ 1 [0] (iK (ai 2)) (gN true 0) bM (fo uO (bu ‹25›)))) aS))))))
@[irreducible] def kJ:List D→Option D:=bR 3 [false] nT
theorem nN:kJ=bR 3 [false] nT:=by unfold kJ; rfl
theorem D7 (x0:D):gO 2 [false] [x0]=[.bo x0,.un]:=rfl
def qz:DS:=(aL (cy 1 (bb kJ (ao (ai 0) aS)))
 (bY (fo maxD (bu (mF (bu (mF (bZ (aC 1) ‹6›) (bZ (aC 1) ‹17›))) (bu (ao ‹6› aS)))))))
@[irreducible] def k8:List D→Option D:=bR 2 [false] qz
theorem pM:k8=bR 2 [false] qz:=by unfold k8; rfl
theorem D6 (x0 x1 x2:D):gO 3 [false,false,false] [x0,x1,x2]=[.bo x0,.bo x1,.bo x2]:=rfl
noncomputable def qw:DS:=(aL (ji (uj (hV (fY (tj "list" (ai 0)))) (uj (dT (jQ true (fo dJ (ai 0)) (dC (.int 2)))) (uj (hV (fY (bb dN (ao ‹56› aS)))) (hV (fY (bb dN (ao (bZ (ai 0) ‹17›) aS)))))))
 ‹23›
      bX)
 (bY (iV (LL ‹6› ‹56›) (iV (yx ‹56› (ai 1)) (iV (LL ‹6› (bZ (ai 0) ‹17›)) (yx (bZ (ai 0) ‹17›) (ai 2)))))))
@[irreducible] def nM:List D→Option D:=bR 3 [false,false,false] qw
theorem pL:nM=bR 3 [false,false,false] qw:=by unfold nM; rfl
theorem y4 (x0 x1 x2:D):gO 6 [true,true,false] [x0,x1,x2]=[.pu x0,.pu x1,.bo x2,.un,.un,.un]:=rfl
noncomputable def ll:DS:=(aL (ji (uj (hV (fY (tj "list" (ai 0)))) (uj (dT (jQ true (fo dJ (ai 0)) (dC (.int 2)))) (uj (hV (fY (bb dN (ao ‹56› aS)))) (dT (yx ‹56› ‹17›)))))
 ‹23›
      bX)
 (aL (ji (hV (fY (tj "list" (bZ (ai 0) ‹17›))))
 ‹23›
      bX)
 (aL (gq 3 aS)
 (aL (gq 4 aS)
 (aL (j7 (fH (bZ (aC 0) ‹17›)) (gN true 5)
 (aL (ji (hV (fY (bb nM (ao (ai 5) (ao (fo dJ (ai 1)) (ao (fo dJ (bZ (ai 1) ‹6›)) aS))))))
 ‹23›
      bX)
 (aL (ji (uj (dT (IB false (bZ (ai 5) ‹6›) (ai 3))) (dT (IB false (bZ (ai 5) ‹17›) (ai 4))))
 ‹23›
      bX)
 (aL (sN 3 (bZ (aC 5) ‹6›))
 (aL (sN 4 (bZ (aC 5) ‹17›))
 (q9 2 (bZ (ai 5) ‹6›) (bZ (ai 5) ‹17›) (jx (bZ (bZ (ai 2) (bZ (ai 5) ‹6›)) (bZ (ai 5) ‹17›)) ‹56›)))))))
    bX)))))
@[irreducible] def i6:NP→List NP→List D→Option (List (List D)):=Cz 6 2 [true,true,false] ll
theorem lW:i6=Cz 6 2 [true,true,false] ll:=by unfold i6; rfl
theorem qL (x0 x1:D):gO 5 [true,true] [x0,x1]=[.pu x0,.pu x1,.un,.un,.un]:=rfl
noncomputable def fU:DS:=(aL (ji (uj (hV (fY (tj "list" (ai 1)))) (dT (Hs (fo dJ (ai 1)) (dC (.int 100)))))
 ‹23›
      bX)
 (aL (j6 2 (kA 1 [] (fH (aC 0)) (gN true 0) bM (Ah (ao ‹6› aS) (fo dJ (ai 0)))))
 (aL (cy 3 ‹6›)
 (aL (j7 (fH (aC 1)) (gN true 4)
 (aL (Es (dT (jQ false (ai 0) (bu aS))) 2 i6 (ao (aC 4) (ao (aC 0) (ao (ai 2) aS))))
 (cy 3 (jx (ai 3) (bZ (ai 4) ‹6›)))))
 (bY (iV (jQ false (ai 2) (ai 0)) (jQ false (ai 3) (bb k8 (ao (ai 0) aS)))))))))
@[irreducible] def di:List D→Option D:=bR 5 [true,true] fU
theorem iA:di=bR 5 [true,true] fU:=by unfold di; rfl
theorem mT (x0 x1:D):gO 11 [false,true] [x0,x1]=[.bo x0,.pu x1,.un,.un,.un,.un,.un,.un,.un,.un,.un]:=rfl
noncomputable def dO:DS:=(aL (ji (hV (fY (tj "list" (ai 1))))
 ‹23›
      bX)
 (aL (j6 2 (kA 1 [] (fH (ai 0)) (gN false 0) bM (Ah (ao ‹6› aS) (fo dJ (ai 0)))))
 (aL (gq 3 (bJ 1 [] (iK (dC (.int 6))) (gN true 0) bM (bu (ao (mE ‹17›) (ao (mE ‹17›) aS)))))
 (aL (gq 4 (Ah (ao ‹6› aS) (dC (.int 6))))
 (aL (cy 5 (bu (ao (mE ‹17›) (ao (mE ‹17›) aS))))
 (aL (j7 (fH (aC 1)) (gN true 6)
 (aL (ji (uj (hV (fY (tj "list" (ai 6)))) (uj (dT (jQ true (fo dJ (ai 6)) (dC (.int 4)))) (hV (fY (fo Ky (bu (bJ 1 [] (fH (aC 6)) (gN true 0) bM (bb dN (ao (ai 0) aS)))))))))
 ‹23›
      bX)
 (aL (Lj (aC 6) (Dg 4 (b8 (gN true 7) (b8 (gN true 8) (b8 (gN true 9) (b8 (gN true 10) iS))))))
 (aL (ji (uj (dT (yx (ai 8) ‹6›)) (uj (dT (Kr (ai 8) (fo dJ (ai 0)))) (uj (dT (yx (ai 7) ‹6›)) (dT (Kr (ai 7) (fo dJ ‹56›))))))
 ‹23›
      bX)
 (aL (ji (uj (dT (FH (bu (ao (aC 9) (ao (aC 7) aS))) (ai 5))) (uj (dT (Kr (ai 9) (ai 10))) (dT (yx (ai 9) (yw (bZ (bZ (ai 3) (ai 7)) ‹17›) (bZ (ai 4) (ai 8)))))))
 ‹23›
      bX)
 (aL (ji (dT (jQ false (bZ (ai 3) (ai 7)) (bu (ao (aC 8) (ao (aC 9) aS)))))
 ‹23›
      bX)
 (aL (cy 5 (bu (ao (aC 9) (ao (aC 7) aS))))
 (aL (zu 3 (ai 7) (bu (ao (aC 8) (ao (aC 10) aS))))
 (aL (zu 4 (ai 8) (aC 10))
 (tP 2 (ai 8) (ai 7) (Ag (jx (bZ (bZ (ai 2) (ai 8)) (ai 7)) (ai 10)) (ai 9))))))))))))
 (bY (iV (jQ false (ai 2) (ai 0)) (jQ false (fo maxD (ai 4)) (bb k8 (ao (ai 0) aS)))))))))))
@[irreducible] def cc:List D→Option D:=bR 11 [false,true] dO
theorem f7:cc=bR 11 [false,true] dO:=by unfold cc; rfl
theorem wV (x0:D):gO 1 [false] [x0]=[.bo x0]:=rfl
noncomputable def jD:DS:=(aL (ji (dT (jQ false (ai 0) (bu aS)))
 (bY (bu aS))
      bX)
 (bY (bu (bJ 1 [0] (iK (fo dJ ‹56›)) (gN true 0) bM (bu ‹25›)))))
@[irreducible] def hJ:List D→Option D:=bR 1 [false] jD
theorem kI:hJ=bR 1 [false] jD:=by unfold hJ; rfl
theorem wW (x0 x1 x2:D):gO 5 [false,false,false] [x0,x1,x2]=[.bo x0,.bo x1,.bo x2,.un,.un]:=rfl
noncomputable def jE:DS:=(aL (gq 3 aS)
 (aL (j7 (fH (bb iX (ao (bu (kr (rZ (ai 1)))) (ao ‹17› (ao (bb dE (ao (bu (kr (rZ (ai 1)))) (ao ‹17› aS))) aS))))) (gN true 4)
 (sN 3 (bu (mF (bZ (bu (ao (bu (ao ‹6› (ao (bZ (aC 4) ‹17›) aS))) (ao (bu (ao (bZ (aC 4) ‹17›) (ao ‹6› aS))) aS))) (ai 2)) (bu (Hr (aC 4) (g6 (dC (.int 2))) ij))))))
 (aL (cy 3 (bb hU (ao (ai 3) aS)))
 (bY (iV (jQ false (bb dD (ao (ai 0) aS)) (bb dE (ao (bu (kr (rZ (ai 1)))) (ao ‹17› aS)))) (bb cc (ao (ai 0) (ao (aC 3) aS))))))))
@[irreducible] def fI:List D→Option D:=bR 5 [false,false,false] jE
theorem kK:fI=bR 5 [false,false,false] jE:=by unfold fI; rfl
theorem IV (x0:D):gO 6 [false] [x0]=[.bo x0,.un,.un,.un,.un,.un]:=rfl
noncomputable def B1:DS:=(aL (cy 1 (bb iY (ao (ai 0) aS)))
 (aL (cy 2 (bb hJ (ao (ai 1) aS)))
 (aL (ji (dT (jQ true (bb dD (ao (ai 2) aS)) (bb dD (ao (ai 1) aS))))
 ‹23›
      bX)
 (aL (ji (Aj (dT (jQ true (ai 2) (bu aS))) (dT (jQ true (bb gI (ao (ai 2) aS)) (yt (bb gI (ao (ai 1) aS)) ij ij (g6 (mE ‹17›))))))
 ‹23›
      bX)
 (aL (cy 3 (bb hE (ao (ai 1) aS)))
 (aL (ji (hV (fY (bb di (ao (aC 1) (ao (aC 3) aS)))))
 ‹23›
      bX)
 (aL (ji (hV (fY (bb di (ao (aC 2) (ao (bu (bJ 2 [] (fH (aC 3)) ‹36› bM (bu (ao (aC 0) (ao (bu (bJ 1 [] (fH (aC 1)) (gN true 0) bM (bu (yr (aC 0) ij ij (g6 (mE ‹17›)))))) aS))))) aS)))))
 ‹23›
      bX)
 (aL (cy 4 (bb fZ (ao (ai 1) aS)))
 (aL (ji (hV (fY (bb cc (ao (ai 1) (ao (aC 4) aS)))))
 ‹23›
      bX)
 (aL (cy 5 (bu (bJ 1 [] (fH (aC 4)) (gN true 0) bM (bu (mF (bu (yr (aC 0) (g6 ‹17›) ij (g6 (mE ‹17›)))) (bu (Hr (aC 0) (g6 (dC (.int 2))) ij)))))))
 (aL (ji (hV (fY (bb cc (ao (ai 2) (ao (bu (mD [] (aC 5) (wa (ao (bZ (aC 0) (dC (.int 2))) (ao (bZ (aC 0) ‹6›) aS))))) aS)))))
 ‹23›
      bX)
 (aL (ji (Aj (dT (jQ false (fo dJ (ai 2)) ‹17›)) (hV (fY (bb fI (ao (ai 1) (ao (bZ (ai 2) ‹6›) (ao ‹6› aS)))))))
 ‹23›
      bX)
 (bY (Dm (jQ true (fo dJ (ai 1)) ‹17›) (bb fI (ao (ai 1) (ao (bZ (ai 1) ‹6›) (ao ‹17› aS))))))))))))))))))
@[irreducible] def BZ:List D→Option D:=bR 6 [false] B1
theorem uC:BZ=bR 6 [false] B1:=by unfold BZ; rfl
end
section
variable [bB] {P:O4} {w:Pf} {K:NK} {mg:OX→Option NN} {base:PM} {ad:Mc}
theorem ke (T:Txt K mg ad) (hbm:dF mg base):cE P w K mg base gJ 1 (ad.f 0) (ad.d 0) ["table"] (jS .v K [false] gI):=by
 rw [pK];exact gm.pT (N:=["table", "benches", "columns"]) (T.F 0 rfl).F qU [false] rfl qv fun cdv A outer s H E hr=>⟨_,
 (af (pA 1 qU.nd (EM (bq (K:=K) rfl (pv 0) (fun _=>rfl)) ‹46› aj))
 (af (jm (i:=2) qU.nd rfl rfl rfl (cY rfl T.z_range (aa (pv 1) ag)) (ts:=["bench"]) (zs:=["table"]) (k:=1) (is:=[0]) rfl (.cons rfl .nil) ‹54› rfl rfl rfl (aV ‹11›) (fun _ _ _ _ _=>(eA (i:=0) ‹2› rfl (O7 rfl) (OR rfl))) (fun _ _ _ _ _=>(aF (iW (K:=K) rfl rfl) rfl T.z_sum se (aa (eY rfl (bx (K:=K) rfl (pv 1)) (ts:=["row"]) (zs:=["bench"]) (k:=1) (is:=[0]) rfl (.cons rfl .nil) (.cons rfl ‹1› rfl ‹1› .nil) rfl rfl rfl (aV ‹11›) ‹0› (fun _ _ _ _ _=>(pX K (pv 0) (pv 1))) rfl rfl ‹2›) ag))) rfl rfl ‹2›)
 (ax (aM (vq (aa (eY rfl (bx (K:=K) rfl (pv 0)) (ts:=["row"]) (zs:=[]) (k:=1) (is:=[]) rfl .nil .nil rfl rfl rfl (aV ‹11›) ‹0› (fun _ _ _ _ _=>(aF (iW (K:=K) rfl rfl) rfl T.z_sum se (aa (pv 0) ag))) rfl rfl ‹2›) (aa (pv 2) ag))))))),
 (av (bp (Lg (cQ (K:=K) (ae 0)) (cR (a9 (ae 0) ak)) dk))
 (av (qa (bF.l (bP (m:=true) (k:=1) (cs:=[0]) (gh.c (df (ae 1))) (aH 0) bU (qT (aq.b ‹42›)))))
 (aP (uZ (n:=2) (aQ (bF.l (bP (m:=false) (k:=1) (cs:=[]) (cV (ae 0)) (aH 0) bU (qT (ae 0)))) (aQ (aE 2) ay)) ‹11›))))⟩
theorem ig (T:Txt K mg ad) (hbm:dF mg base):cE P w K mg base gJ 2 (ad.f 1) (ad.d 1) ["table"] (jS .v K [false] dD):=by
 rw [kG];exact gm.pT (N:=["table", "sums"]) (T.F 1 rfl).F pj [false] rfl jC fun cdv A outer s H E hr=>⟨_,
 (af (pA 1 pj.nd (fP (ke T hbm) (T.F 0 rfl) hr (aa (pv 0) ag)))
 (ax (aM (CG (An (K:=K) rfl rfl) rfl T.z_max mI (aa (a7 kX (pX K (pv 1) aj) (pX K (pv 1) aj)) ag) (GL aj Jn))))),
 (av (bp (aI (aD (ae 0) ay)))
 (aP (GA (aq.b (bF.l (oy (gn (aE 1) ak) (gn (aE 1) ak)))) dk)))⟩
theorem oM (T:Txt K mg ad) (hbm:dF mg base):cE P w K mg base gJ 2 (ad.f 7) (ad.d 7) ["left", "rest", "pairs"] (jS .v K [false,false,false] da):=by
 rw [gw];exact gm.pT (N:=["left", "rest", "pairs", "sums", "hands", "benches", "bounds"]) (T.F 7 rfl).F cX [false,false,false] rfl d7 fun cdv A outer s H E hr=>⟨_,
 (af (pA 3 cX.nd (fP (ke T hbm) (T.F 0 rfl) hr (aa (pv 0) ag)))
 (af (pA 4 cX.nd ‹57›)
 (af (pA 5 cX.nd ‹57›)
 (af (jm (i:=6) cX.nd rfl rfl rfl (bx (K:=K) rfl (pv 2)) (ts:=["pair"]) (zs:=["left"]) (k:=1) (is:=[0]) rfl (.cons rfl .nil) ‹54› rfl rfl rfl (aV ‹11›) ‹0› (fun _ _ _ _ _=>(pX K (pX K (pv 1) (pX K (pv 0) aj)) (pX K (pv 0) aj))) rfl rfl ‹2›)
 (af (cU (gY OO RF RG vI (pv 6) (aa (zG rfl (ka (K:=K) rfl rfl T.z_enumerate (pX K (pv 3) aj)) (ts:=["hand", "load"]) (zs:=["hands", "rest"]) (k:=2) (is:=[4,1]) rfl (.cons rfl (.cons rfl .nil)) (.cons rfl (OR rfl) rfl ‹1› ‹54›) rfl rfl rfl ‹58› ‹53› (fun _ _ _ _ _=>(aZ (lM (K:=K) rfl) (pv 0) (pv 2) (by with_unfolding_all rfl))) (fun _ _ _ _ _=>(a7 vy (pv 3) (pv 1))) rfl rfl ‹2›) ag)))
 (af (cU (gY OO RF RG vI (pv 6) (aa (zG rfl (ka (K:=K) rfl rfl T.z_enumerate (pX K (pv 3) aj)) (ts:=["bench", "load"]) (zs:=["benches", "rest"]) (k:=2) (is:=[5,1]) rfl (.cons rfl (.cons rfl .nil)) (.cons rfl (OR rfl) rfl ‹1› ‹54›) rfl rfl rfl ‹58› ‹53› (fun _ _ _ _ _=>(aZ (lM (K:=K) rfl) (pv 0) (pv 2) (by with_unfolding_all rfl))) (fun _ _ _ _ _=>(a7 vy (pv 3) (pv 1))) rfl rfl ‹2›) ag)))
 (ax (aM (aF (Am (K:=K) rfl rfl) rfl T.z_min Ao (aa (pv 6) ag)))))))))),
 (av (bp (aI (aD (ae 0) ay)))
 (av (bp (bF.l (bP (m:=false) (k:=1) (cs:=[]) (cV (ae 2)) (aH 0) bU (a0.i (a9 (ae 0) ak)))))
 (av (bp (bF.l (bP (m:=false) (k:=1) (cs:=[]) (cV (ae 2)) (aH 0) bU (a0.i (a9 (ae 0) ak)))))
 (av (qM (bP (m:=false) (k:=1) (cs:=[0]) (cV (ae 2)) (aH 0) bU (a0.i (a9 (a9 (ae 1) (a9 (ae 0) ak)) (a9 (ae 0) ak)))))
 (av (zc (bF.l (bP (m:=true) (k:=2) (cs:=[4,1]) (gh.c (p8 (gn (aE 3) ak))) (lJ (bH (aH 0) (bH (aH 1) fL))) (aY (aq.b (A0 (neg:=true) (ae 0) (ae 2)))) (u0 (ae 3) (ae 1)))))
 (av (zc (bF.l (bP (m:=true) (k:=2) (cs:=[5,1]) (gh.c (p8 (gn (aE 3) ak))) (lJ (bH (aH 0) (bH (aH 1) fL))) (aY (aq.b (A0 (neg:=true) (ae 0) (ae 2)))) (u0 (ae 3) (ae 1)))))
 (aP (I0 (ae 6)))))))))⟩
theorem CK (T:Txt K mg ad) (hbm:dF mg base):cE P w K mg base gJ 2 (ad.f 4) (ad.d 4) ["left", "rest"] (jS .v K [false,false] kH):=by
 rw [nJ];exact gm.pT (N:=["left", "rest", "sums", "hands", "benches", "told", "hand", "load", "bench"]) (T.F 4 rfl).F dH [false,false] rfl nS fun cdv A outer s H E hr=>⟨_,
 (af (pA 2 dH.nd (fP (ke T hbm) (T.F 0 rfl) hr (aa (pv 0) ag)))
 (af (pA 3 dH.nd (aF (bw (K:=K) rfl) rfl T.z_len cN (aa (pX K (pv 2) aj) ag)))
 (af (pA 4 dH.nd (aF (bw (K:=K) rfl) rfl T.z_len cN (aa (pX K (pv 2) aj) ag)))
 (af (pA 5 dH.nd (bK ag))
 (af (ee Pd rfl (ka (K:=K) rfl rfl T.z_enumerate (pX K (pv 2) aj)) (fO (K:=K) rfl rfl (bI (pG 6 dH.nd) (bI (pG 7 dH.nd) fN)))
 (af (cU (gY OO OZ O0 cD (pv 5) (aa (zG rfl (cY rfl T.z_range (aa (pv 4) ag)) (ts:=["bench"]) (zs:=["left", "hand"]) (k:=1) (is:=[0,6]) rfl (.cons rfl (.cons rfl .nil)) (.cons rfl (OR rfl) rfl ‹1› ‹54›) rfl rfl rfl (aV ‹11›) ‹0› (fun _ _ _ _ _=>(aZ xI (pX K (pX K (pv 1) (pv 2)) (pv 0)) aj (aT _))) (fun _ _ _ _ _=>(pv 0)) rfl rfl ‹2›) ag)))
 (ax (cu (aZ jH (pv 7) (pv 1) (aT _))
 (ax (cU (gY OO OZ O0 cD (pX K (pv 5) (pv 6)) (aa (a7 eC (pv 4) (pv 6)) ag))))
 bh))))
 (af (ee Pd rfl (ka (K:=K) rfl rfl T.z_enumerate (pX K (pv 2) aj)) (fO (K:=K) rfl rfl (bI (pG 8 dH.nd) (bI (pG 7 dH.nd) fN)))
 (af (cU (gY OO OZ O0 cD (pv 5) (aa (eY rfl (cY rfl T.z_range (aa (pv 3) ag)) (ts:=["hand"]) (zs:=["benches"]) (k:=1) (is:=[4]) rfl (.cons rfl .nil) ‹54› rfl rfl rfl (aV ‹11›) ‹0› (fun _ _ _ _ _=>(a7 eC (pv 1) (pv 0))) rfl rfl ‹2›) ag)))
 (ax (cu (aZ jH (pv 7) (pv 1) (aT _))
 (ax (cU (gY OO OZ O0 cD (pX K (pv 5) (a7 eC (pv 3) (pv 8))) (aa (pv 8) ag))))
 bh))))
 (ax (aM (pv 5))))))))),
 (av (bp (aI (aD (ae 0) ay)))
 (av (bp (cR (a9 (ae 2) ak)))
 (av (bp (cR (a9 (ae 2) ak)))
 (av (p9 zg)
 (av (fu (m:=true) (p8 (gn (aE 2) ak)) (lJ (bH (aH 6) (bH (aH 7) fL)))
 (av (qb (bP (m:=true) (k:=1) (cs:=[0,6]) (gh.c (df (ae 4))) (aH 0) (aY (aq.b (xc (a9 (a9 (ae 1) (ae 2)) (ae 0)) ak))) (aE 0)))
 (cH (aY (aq.b (jF (ae 7) (ae 1))))
 (AS (ae 6) (d9 (ae 4) (ae 6)))
 bz)))
 (av (fu (m:=true) (p8 (gn (aE 2) ak)) (lJ (bH (aH 8) (bH (aH 7) fL)))
 (av (qb (bP (m:=true) (k:=1) (cs:=[4]) (gh.c (df (ae 3))) (aH 0) bU (d9 (ae 1) (ae 0))))
 (cH (aY (aq.b (jF (ae 7) (ae 1))))
 (AS (aq.b (d9 (ae 3) (ae 8))) (aE 8))
 bz)))
 (qO 5 (aP (aE 5)))))))))⟩
theorem qG {off:Int→List Int} {W:List Int} (hoff:∀ x t,t∈off x→t∈W):∀ (n:Nat) (x:Int) (T:Tk) (A:List Int) (b:Bool) (T':Tk) (A':List Int),takeO off n x T A=some (b,T',A')→A.Nodup→(∀ t∈A,t∈W)→A'.Nodup∧∀ t∈A',t∈W
 | 0,x,T,A,b,T',A',e,_,_=>by cases e
 | n+1,x,T,A,b,T',A',e,nd,iv=>by
  have key:∀ (ts:List Int) (T:Tk) (A:List Int),(∀ t∈ts,t∈W)→takeL (takeO off n) x ts T A=some (b,T',A')→A.Nodup→(∀ t∈A,t∈W)→A'.Nodup∧∀ t∈A',t∈W:=by
   intro ts;induction ts with
   | nil=>intro T A _ e nd iv; cases e; exact ⟨nd,iv⟩
   | cons t ts ih =>
    intro T A hts e nd iv;have hts':∀ t∈ts,t∈W:=fun s hs=>hts s (NI _ hs);unfold takeL at e;split at e
    ·exact ih T A hts' e nd iv
    ·rename_i c;have nd2:(A++[t]).Nodup:=Rj.mpr ⟨nd,by simp,fun a ha b hb=>by rw [NL.mp hb];exact fun z=>c (z ▸ ha)⟩;have iv2:∀ s∈A++[t],s∈W:=fun s hs=>(NZ.mp hs).elim (iv s) fun z=>by rw [NL.mp z]; exact hts t NJ
     split at e
     ·cases e; exact ⟨nd2,iv2⟩
     ·split at e
      ·rename_i T1 A1 e1;cases e;exact qG hoff n _ T _ _ _ _ e1 nd2 iv2
      ·rename_i T1 A1 e1;obtain ⟨h1,h2⟩:=qG hoff n _ T _ _ _ _ e1 nd2 iv2;exact ih _ _ hts' e h1 h2
      ·cases e
  exact key (off x) T A (hoff x) e nd iv
theorem AA (k:Int):∀ A:List Int,L2.n9 (A.map IE) (.inl k)=if k∈A then some (.bl true) else none
 | []=>by rw [if_neg (by simp)]; rfl
 | p::r=>by
  rw [Oq];by_cases e:p=k
  ·rw [L2.jV (show (IE p).1=.inl k by show Rh p=_; rw [e]),if_pos (by rw [e]; exact NJ)];rfl
  ·rw [L2.jW (show ¬ (IE p).1=.inl k from fun z=>e (So z)),AA k r];by_cases c:k∈r
   ·rw [if_pos c,if_pos (NI _ c)]
   ·rw [if_neg c,if_neg (fun z=>(NU.mp z).elim (fun w=>e w.symm) c)]
theorem GJ (h:t∉A):L2.putK (A.map IE) (.inl t) (.bl true)=(A++[t]).map IE:=by
 unfold L2.putK;rw [if_neg,Od]
 ·rfl
 ·intro z;obtain ⟨p,hp,e⟩:=Sh.mp z;obtain ⟨a,ha,rfl⟩:=NW.mp hp;have:=So (of_decide_eq_true e);exact h (this ▸ ha)
theorem Bp {f:NP} {fd:P6} (F:gm K "take_one" "take_one" qX f fd) (hb:Binds K fd ["offered", "taker", "takers", "asked"] []) (hm:mg "take_one" = some (.ref f)):∀ n:Nat,n≤30→cE P w K mg base gJ (n+1) f fd ["offered", "taker", "takers", "asked"] (Mi n)
  | 0,_=>gm.ok (N:=["offered", "taker", "takers", "asked", "thing"]) F j5 (fun vs H Q E h=>by
      obtain ⟨po,p,q,off,m,W,x,T,A,b,T',A',rfl,_⟩:=h;rfl) fun cdv A outer s H vs Q E hr h=>by
      obtain ⟨po,p,q,off,m,W,x,T,A,b,T',A',_,_,_,_,_,_,_,_,_,_,_,_,_,e,_⟩:=h;cases e
  | n+1,hn=>gm.ok (N:=["offered", "taker", "takers", "asked", "thing"]) F j5 (fun vs H Q E h=>by
      obtain ⟨po,p,q,off,m,W,x,T,A,b,T',A',rfl,_⟩:=h;rfl) fun cdv A outer s H vs Q E hr h=>by
      have ih:=Bp F hb hm n (by lia);refine ⟨_,(af (ee Pd rfl (bx (K:=K) rfl (pX K (pv 0) (pv 1))) (pG 4 j5.nd)
 (af (cu (EG (Jt (rM hr) (pv 4) (pv 3))) (ax xA) bh)
 (af (Bh (rM hr) (pv 3) (pv 4) dy rfl)
 (ax (cu (PW.pt (fW (EG (CH (rM hr) (pv 4) (pv 2))) (jl (bq (K:=K) rfl (vx ih hr rfl hm F.kp hb .nil EN (aa (pv 0) (aa (vv (rM hr) (pv 2) (pv 4) (fun _ _=>rfl)) (aa (pv 2) (aa (pv 3) ag))))) (fun _=>rfl)))))
 (af (Bh (rM hr) (pv 2) (pv 4) (pv 1) rfl) (ax (aM dy))) bh)))))
 (ax (aM dy))),?_⟩
      obtain ⟨po,p,q,off,m,W,x,T,A,b,T',A',rfl,ho,hp,hq,hne,x0,xm,hT,hTl,nd,iv,hoff,hWl,e,hQ⟩:=h;obtain ⟨as,al,m1,hpo,hrow⟩:=ho;have hxa:as[x.toNat]?=some as[x.toNat]:=NG (by lia);generalize as[x.toNat]=a at hxa;obtain ⟨ha,hal⟩:=hrow _ a hxa;rw [show ((x.toNat:Nat):Int)=x by lia] at ha hal
      have np:∀ {c:NP} {xs:List V},Rd H c (.lst xs)→c≠p∧c≠q:=fun {c xs} hc=>by
        constructor
        · intro z;rcases hc with hc | ⟨o,hc⟩ <;> (rw [z,hp] at hc; cases hc)
        · intro z;rcases hc with hc | ⟨o,hc⟩ <;> (rw [z,hq] at hc; cases hc)
      have hlst:∀ (T:Tk) (A:List Int) {c:NP} {xs:List V},Rd H c (.lst xs)→Rd (jI H p q T A) c (.lst xs):=fun T A c xs hc=>by have e:=Ip (H:=H) (T:=T) (A:=A) (np hc).1 (np hc).2;unfold Rd at hc ⊢;rw [e];exact hc
      refine ⟨_,rfl,_,rfl,.inl ⟨po,as.map V.ref,x,.ref a,rfl,rfl,(.inl hpo),?_,a,rfl,⟨_,(.inl ha)⟩,?_⟩⟩
      · unfold jR;rw [fF x0 (by rw [NH]; lia)];show (as.map V.ref)[x.toNat]?=_;rw [NR,hxa];rfl
      refine ⟨fun i mm σ' H'=>∃ (A1:List Int) (v4:Option V),mm=(off x).length-i∧i≤(off x).length∧σ'=[some (.ref po),some (.int x),some (.ref p),some (.ref q),v4]∧H'=jI H p q T A1∧A1.Nodup∧(∀ t∈A1,t∈W)∧takeL (takeO off n) x ((off x).drop i) T A1=some (b,T',A'),⟨_,A,none,rfl,O1 _,rfl,(Fg hp hq).symm,nd,iv,e⟩,?_⟩;rintro i mm σ2 H2 ⟨A1,v4,rfl,hi,rfl,rfl,nd1,iv1,e1⟩;by_cases hlt:i<(off x).length
      · refine .inr ⟨⟨_,.int (off x)[i],(.inl (hlst T A1 ha)),by rw [NR,NG hlt]; rfl⟩,fun σ' H'=>∃ (A1:List Int) (v4:Option V),σ'=[some (.ref po),some (.int x),some (.ref p),some (.ref q),v4]∧H'=jI H p q T A1∧A1.Nodup∧(∀ t∈A1,t∈W)∧takeL (takeO off n) x ((off x).drop (i+1)) T A1=some (b,T',A'),fun σ' H' ⟨A2,v4,h1,h2,h3,h4,h5⟩=>⟨_,by lia,A2,v4,rfl,hlt,h1,h2,h3,h4,h5⟩,?_⟩;rintro y H3 ⟨rfl,hy⟩;have hy:=hy _ ((.inl (hlst T A1 ha)));rw [NR,NG hlt] at hy;cases hy;rw [OB hlt] at e1;have htW:(off x)[i]∈W:=hoff x _ (PF hlt);generalize (off x)[i]=t at e1 htW;unfold takeL at e1;dsimp only [iT,NX,NV];have hq1:∀ A1:List Int,jI H p q T A1 q=some (.dK (A1.map IE)):=fun A1=>LF;have hp1:∀ (T:Tk) (A1:List Int),jI H p q T A1 p=some (.dK (T.map tf)):=fun T A1=>Io hne;have hA1:=mn nd1 iv1;have hline:=OA;refine ⟨_,rfl,_,rfl,q,_,rfl,o7.k (k:=.inl t) (hq1 A1),_,rfl,?_⟩;rw [AA];by_cases c:t∈A1
        · rw [if_pos c] at e1 ⊢;exact ⟨A1,_,rfl,rfl,nd1,iv1,e1⟩
        rw [if_neg c] at e1 ⊢;refine ⟨_,rfl,_,rfl,q,_,rfl,Av.k (k:=.inl t) (v:=.bl true) (hq1 A1) (by rw [NH]; lia),?_⟩;rw [GJ c,show upd (jI H p q T A1) q (.dK ((A1++[t]).map IE))=jI H p q T (A1++[t]) from yf];have nd2:(A1++[t]).Nodup:=Rj.mpr ⟨nd1,by simp,fun a ha b hb=>by rw [NL.mp hb];exact fun z=>c (z ▸ ha)⟩;have iv2:∀ s∈A1++[t],s∈W:=fun s hs=>(NZ.mp hs).elim (iv1 s) fun z=>by rw [NL.mp z]; exact htW
        refine ⟨_,rfl,_,rfl,p,_,rfl,o7.k (k:=.inl t) (hp1 T (A1++[t])),_,rfl,?_⟩;rw [pZ];cases g:getZ T t with
        | none =>rw [g] at e1;cases e1;refine ⟨_,rfl,_,rfl,_,rfl,p,_,rfl,Av.k (k:=.inl t) (v:=.int x) (hp1 T (A1++[t])) (by rw [NH]; lia),?_⟩;rw [Be,show upd (jI H p q T (A1++[t])) p (.dK ((lE T t x).map tf))=jI H p q (lE T t x) (A1++[t]) from rN hne];exact hQ
        | some u =>
          rw [g] at e1;dsimp only at e1;have hu:=hT t u g;have hG:o7 (jI H p q T (A1++[t])) p (.int t) (some (.int u)):=by have:=o7.k (k:=.inl t) (hp1 T (A1++[t]));rw [pZ,g] at this;exact this
          have hO:FX (jI H p q T (A1++[t])) po off m:=⟨as,al,m1,hlst _ _ hpo,fun y c hc=>⟨hlst _ _ (hrow y c hc).1,(hrow y c hc).2⟩⟩
          obtain ⟨b1,T1,A2,e2⟩:∃ b1 T1 A2,takeO off n u T (A1++[t])=some (b1,T1,A2):=by
            cases z:takeO off n u T (A1++[t]) with
            | none=>rw [z] at e1; cases e1
            | some r=>exact ⟨r.1,r.2.1,r.2.2,rfl⟩
          obtain ⟨k1,k2⟩:=jc n u T _ _ _ _ e2;obtain ⟨k3,k4⟩:=qG hoff n u T _ _ _ _ e2 nd2 iv2;rw [e2] at e1;refine ⟨_,rfl,_,rfl,_,rfl,p,_,rfl,hG,_,rfl,_,rfl,?_⟩;refine ⟨po,p,q,off,m,W,u,T,A1++[t],b1,T1,A2,rfl,hO,hp1 T _,hq1 _,hne,hu.1,hu.2,hT,by lia,nd2,iv2,hoff,hWl,e2,b1,rfl,?_⟩;rw [G9 hne];cases b1 with
          | true =>cases e1;refine ⟨_,rfl,_,rfl,_,rfl,p,_,rfl,Av.k (k:=.inl t) (v:=.int x) (hp1 T1 A') (by rw [NH]; lia),?_⟩;rw [Be,show upd (jI H p q T1 A') p (.dK ((lE T1 t x).map tf))=jI H p q (lE T1 t x) A' from rN hne];exact hQ
          | false =>have:=k1 rfl;subst this;exact ⟨A2,_,rfl,rfl,k3,k4,e1⟩
      · refine .inl ⟨⟨_,(.inl (hlst T A1 ha)),by rw [NH]; lia⟩,?_⟩;have:(off x).drop i=[]:=Q9 (by lia);rw [this] at e1;cases e1;exact hQ
theorem oK (T:Txt K mg ad) (hbm:dF mg base):cE P w K mg base gJ 16 (ad.f 5) (ad.d 5) ["offered"] (jS .l K [false] cw) :=
  gm.ok (N:=["offered", "takers", "taker"]) (T.F 5 rfl).F fE (fun vs H Q E h=>by
    obtain ⟨Z,ds,d,hz,a,_⟩:=h;rw [a.len.1];rfl) fun cdv A outer s H vs Q E hr h=>by
    refine ⟨_,(af (pA 1 fE.nd xH)
 (af (ee Pd rfl (cY rfl T.z_range (aa ‹8› ag)) (pG 2 fE.nd)
 (ax (cU (vx (Bp (T.F 6 rfl).F (T.F 6 rfl).b (T.F 6 rfl).m 14 ‹11›) (hr.mono ‹11›) rfl (T.F 6 rfl).m (T.F 6 rfl).F.kp (T.F 6 rfl).b .nil EN (aa (pv 0) (aa (pv 2) (aa (pv 1) (aa xH ag))))))))
 (ax (aM (pv 1))))),?_⟩
    obtain ⟨Z,ds,d,hz,ar,hF,hQ⟩:=h;obtain ⟨R,T2,rfl,ok,eT,rfl⟩:=wx hF;obtain ⟨hR,hrl,W,hW,hRW⟩:=ok
    obtain ⟨v,rfl,iv⟩:∃ v,vs=[v]∧Is K H No v (.lst (R.map fun r=>D.lst (r.map D.int))):=by
      cases ar with
      | any i r=>cases r; exact ⟨_,rfl,i⟩
    cases iv with
    | @lst po us _ hz1 hpo hl il =>
    have hline:=OA;have hul:us.length=R.length:=by rw [il.length,NH]
    have hrow:∀ (x:Nat) (u:V),us[x]?=some u→∃ a,u=.ref a∧Rd H a (.lst ((fm R (x:Int)).map V.int))∧(fm R (x:Int)).length≤1000:=by
      intro x u hu;obtain ⟨d,hd,i1⟩:=il.MG hu;rw [NR] at hd;obtain ⟨r,hr,rfl⟩:=OH.mp hd;have eo:fm R (x:Int)=r:=by unfold fm;rw [if_pos (by lia),Pq,NF,hr];rfl
      rw [eo];cases i1 with
      | lst hz2 jI hl2 il2 =>rw [IsL.ints il2] at jI;exact ⟨_,rfl,jI,hrl r (OF hr)⟩
    have has:∃ as:List NP,us=as.map V.ref:=by
      have:∀ l:List V,(∀ u∈l,∃ a,u=V.ref a)→∃ as:List NP,l=as.map V.ref:=by
        intro l;induction l with
        | nil=>intro _; exact ⟨[],rfl⟩
        | cons u l ih =>intro h;obtain ⟨a,rfl⟩:=h u NJ;obtain ⟨as,rfl⟩:=ih fun u hu=>h u (NI _ hu);exact ⟨a::as,rfl⟩
      refine this us fun u hu=>?_;obtain ⟨x,hx⟩:=Pp hu;obtain ⟨a,e,_⟩:=hrow x u hx;exact ⟨a,e⟩
    obtain ⟨as,rfl⟩:=has;rw [NH] at hul;have hO:∀ {H':Hp},aW H H'→FX H' po (fm R) R.length:=fun {H'} s=>by have rd:∀ {a:NP} {o:HO},Rd H a o→Rd H' a o:=fun {a o} h=>h.elim (fun h=>.inl (s _ _ h)) fun ⟨q,h⟩=>.inr ⟨q,s _ _ h⟩;refine ⟨as,hul,by lia,rd hpo,fun x a hx=>?_⟩;obtain ⟨b,e,h1,h2⟩:=hrow x (.ref a) (by rw [NR,hx]; rfl);cases e;exact ⟨rd h1,h2⟩
    have hoff:∀ x t,t∈fm R x→t∈W:=fun x t h=>let ⟨r,hr,ht⟩:=CM h; hRW r hr t ht
    intro p hp;have hs1:aW H (upd H p (.dK [])):=L2.bO hp;have rd:∀ {H':Hp} {a:NP} {o:HO},aW H H'→Rd H a o→Rd H' a o:=fun {H' a o} s h=>h.elim (fun h=>.inl (s _ _ h)) fun ⟨q,h⟩=>.inr ⟨q,s _ _ h⟩;refine ⟨_,rfl,.ref po,R.length,rfl,.inl ⟨_,.inl (rd hs1 hpo),by rw [NH,hul]⟩,(R.length:Int),rfl,by lia,by lia,?_⟩;rw [Pq]
    refine ⟨fun i m σ' H'=>∃ (T1:Tk) (v2:Option V),m=R.length-i∧i≤R.length∧σ'=[some (.ref po),some (.ref p),v2]∧aW H H'∧H' p=some (HK T1)∧T1.length≤14*i∧(∀ t u,getZ T1 t=some u→0≤u∧u<R.length)∧eV (fm R) 14 ((bV R.length).drop i) T1=some T2,
      ⟨_,[],none,rfl,O1 _,rfl,hs1,aN,O1 _,(fun t u z=>by cases z),eT⟩,?_⟩
    rintro i mm σ2 H2 ⟨T1,v2,rfl,hi,rfl,s2,hp2',hl2,hv2,e2⟩;by_cases hlt:i<R.length
    · refine .inr ⟨hlt,fun σ' H'=>∃ (T1:Tk) (v2:Option V),σ'=[some (.ref po),some (.ref p),v2]∧aW H H'∧H' p=some (HK T1)∧T1.length≤14*(i+1)∧(∀ t u,getZ T1 t=some u→0≤u∧u<R.length)∧eV (fm R) 14 ((bV R.length).drop (i+1)) T1=some T2,fun σ' H' ⟨T3,v3,h1,h2,h3,h4,h5,h6⟩=>⟨_,by lia,T3,v3,rfl,hlt,h1,h2,h3,h4,h5,h6⟩,?_⟩;rintro y H3 ⟨rfl,rfl⟩;rw [show (0:Int)+(i:Int)=(i:Int) by lia];rw [EA hlt] at e2;unfold eV at e2;split at e2
      · rename_i b T' A' e3;refine ⟨_,rfl,_,rfl,_,rfl,fun q hq=>?_⟩;have hpq:p≠q:=fun z=>by rw [z,hq] at hp2'; cases hp2'
        have s3:aW H3 (upd H3 q (.dK [])):=L2.bO hq;refine ⟨po,p,q,fm R,R.length,W,(i:Int),T1,[],b,T',A',rfl,hO (s2.trans s3),s3 _ _ hp2',aN,hpq,by lia,by lia,hv2,by lia,O8,(fun t h=>by cases h),hoff,hW,e3,?_⟩;have:=(jc 14 _ T1 _ _ _ _ e3).2;refine ⟨T',_,rfl,fun a u e=>?_,Io hpq,by lia,fun t u hu=>?_,e2⟩
        · rw [Ip (fun z=>by rw [z,hp] at e; cases e) (fun z=>by have:=s2 _ _ e; rw [z,hq] at this; cases this)];exact s3 _ _ (s2 _ _ e)
        · rcases l8 14 _ T1 _ _ _ _ e3 t u hu with z | ⟨r,z⟩
          · rw [z]; exact ⟨by lia,by lia⟩
          · exact hv2 r u z
      · cases e2
    · have:(bV R.length).drop i=[]:=Q9 (by rw [fM]; lia);rw [this] at e2;cases e2;exact .inl ⟨by show R.length≤i; lia,_,rfl,hQ _ _ s2 (.inr ⟨p,T2,rfl,rfl,hp,hp2',by lia⟩)⟩
theorem pS (T:Txt K mg ad) (hbm:dF mg base):cE P w K mg base gJ 17 (ad.f 3) (ad.d 3) ["left", "rest"] (jS .v K [false,false] dB):=by
 rw [g9];exact gm.pT (N:=["left", "rest", "takers", "benches", "pairs"]) (T.F 3 rfl).F dY [false,false] rfl fj fun cdv A outer s H E hr=>⟨_,
 (af (pA 2 dY.nd (fP (oK T hbm) (T.F 5 rfl) hr (aa (fP (CK T hbm) (T.F 4 rfl) hr (aa (pv 0) (aa (pv 1) ag))) ag)))
 (af (pA 3 dY.nd ‹46›)
 (af (Jl (i:=4) dY.nd rfl rfl rfl (cY rfl T.z_range (aa (pv 3) ag)) (ts:=["bench"]) (zs:=["takers", "left"]) (k:=1) (is:=[2,0]) rfl (.cons rfl (.cons rfl .nil)) (.cons rfl (OR rfl) rfl ‹1› ‹54›) rfl rfl rfl (aV ‹11›) ‹0› (fun _ _ _ _ _=>(aZ jH (vv (rM hr) (pv 1) (pv 0) (fun _ _=>rfl)) (aF (bw (K:=K) rfl) rfl T.z_len cN (aa (pv 2) ag)) (aT _))) (fun _ _ _ _ _=>(bK (aa (vv (rM hr) (pv 1) (pv 0) (fun _ _=>rfl)) (aa (pv 0) ag)))) rfl rfl ‹2›)
 (ax (aM (aF (uo (K:=K) rfl rfl hr) rfl T.z_sorted uu (aa (pv 4) ag))))))),
 (av (bp (aI (aD (aq.b (aI (aD (ae 0) (aD (ae 1) ay)))) ay)))
 (av (bp (cR (a9 (ae 0) ak)))
 (av (qa (bF.l (bP (m:=true) (k:=1) (cs:=[2,0]) (gh.c (df (ae 3))) (aH 0) (aY (aq.b (jF (aq.b (A3 (ae 1) (ae 0))) (aq.b (cR (ae 2)))))) (bF.l (bQ (n:=2) (aQ (A3 (ae 1) (ae 0)) (aQ (aE 0) ay)) ‹11›)))))
 (aP (bF.l (GB (aE 4)))))))⟩
theorem t5 (T:Txt K mg ad) (hbm:dF mg base):cE P w K mg base gJ 18 (ad.f 2) (ad.d 2) ["table"] (jS .v K [false] hE):=by
 rw [nI];exact gm.pT (N:=["table", "left", "rest", "told", "pairs", "hours", "hand", "bench"]) (T.F 2 rfl).F dG [false] rfl nR fun cdv A outer s H E hr=>⟨_,
 (af (jm (i:=1) dG.nd rfl rfl rfl (bx (K:=K) rfl (pv 0)) (ts:=["row"]) (zs:=[]) (k:=1) (is:=[]) rfl .nil .nil rfl rfl rfl (aV ‹11›) ‹0› (fun _ _ _ _ _=>(eG (dS (K:=K) rfl) rfl T.z_list fe (aa (pv 0) ag))) rfl rfl ‹2›)
 (af (pA 2 dG.nd (fP (ig T hbm) (T.F 1 rfl) hr (aa (pv 0) ag)))
 (af (pA 3 dG.nd (bK ag))
 (af (xx Pd (aZ xI (pv 2) aj (aT _))
 (af (pA 4 dG.nd (fP (pS T hbm) (T.F 3 rfl) hr (aa (pv 1) (aa (pv 2) ag))))
 (af (pA 5 dG.nd (fP (oM T hbm) (T.F 7 rfl) hr (aa (pv 1) (aa (pv 2) (aa (pv 4) ag)))))
 (af (ee Pd rfl (bx (K:=K) rfl (pv 4)) (fO (K:=K) rfl rfl (bI (pG 6 dG.nd) (bI (pG 7 dG.nd) fN)))
 (ax (GK (pX K (pv 1) (pv 6)) (pv 7) (De (K:=K) rfl) (pv 5) zY set_list)))
 (af (zA (i:=2) dG.nd rfl (OR rfl) (pv 5) zY)
 (ax (cU (gY OO OZ O0 cD (pv 3) (aa (bK (aa (pv 5) (aa (pv 4) ag))) ag)))))))))
 (ax (aM (pv 3))))))),
 (av (qN (uW (m:=false) (k:=1) (cs:=[]) (cV (ae 0)) (aH 0) bU (j4 (ae 0))))
 (av (bp (aI (aD (ae 0) ay)))
 (av (gA ‹59›)
 (av (wX (aY (aq.b (xc (ae 2) ak)))
 (av (bp (aI (aD (ae 1) (aD (ae 2) ay))))
 (av (bp (aI (aD (ae 1) (aD (ae 2) (aD (ae 4) ay)))))
 (av (fu (m:=true) (dX (aE 4)) (lJ (bH (aH 6) (bH (aH 7) fL)))
 (Gu (ae 6) (ae 7) (ae 5)))
 (av (zd (ae 5))
 (ot (bF.l (bQ (n:=2) (aQ (aE 5) (aQ (aE 4) ay)) ‹11›))))))))
 (qO 3 (aP (aE 3)))))))⟩
theorem sQ (T:Txt K mg ad) (hbm:dF mg base):cE P w K mg base gJ 1 (ad.f 8) (ad.d 8) ["total", "parts"] (jS .v K [false,false] fi):=by
 rw [ja];exact gm.pT (N:=["total", "parts"]) (T.F 8 rfl).F sJ [false,false] rfl gM fun cdv A outer s H E hr=>⟨_,
 (af (cu (bq (K:=K) rfl (a7 eZ (pv 0) (pv 1)) (fun _=>rfl))
 (ax (aM (a7 eC (a7 iN (pv 0) (pv 1)) aj)))
 bh)
 (ax (aM (a7 iN (pv 0) (pv 1))))),
 (av (cH (cQ (K:=K) (aq.b (eW (ae 0) (ae 1))))
 (aP (d9 (aq.b (kP (ae 0) (ae 1))) ak))
 bz)
 (aP (kP (ae 0) (ae 1))))⟩
theorem sP (T:Txt K mg ad) (hbm:dF mg base):cE P w K mg base gJ 2 (ad.f 10) (ad.d 10) ["hours", "benches"] (jS .v K [false,false] fg):=by
 rw [i9];exact gm.pT (N:=["hours", "benches"]) (T.F 10 rfl).F sI [false,false] rfl gL fun cdv A outer s H E hr=>⟨_,
 (ax (aM (fP (sQ T hbm) (T.F 8 rfl) hr (aa (aF (iW (K:=K) rfl rfl) rfl T.z_sum se (aa (pv 0) ag)) (aa (pv 1) ag))))),
 (aP (aI (aD (aq.b (qT (ae 0))) (aD (ae 1) ay))))⟩
theorem jr (T:Txt K mg ad) (hbm:dF mg base):cE P w K mg base gJ 3 (ad.f 9) (ad.d 9) ["hours", "benches"] (jS .v K [false,false] dE):=by
 rw [jK];exact gm.pT (N:=["hours", "benches"]) (T.F 9 rfl).F u7 [false,false] rfl iC fun cdv A outer s H E hr=>⟨_,
 (af (cu (dm (bq (K:=K) rfl (pv 0) (fun _=>rfl)))
 (ax (aM aj))
 bh)
 (ax (aM (aF (ur rfl) rfl T.z_max mI (aa (aF (jz (K:=K) rfl rfl) rfl T.z_max mI (aa (pv 0) ag)) (aa (fP (sP T hbm) (T.F 10 rfl) hr (aa (pv 0) (aa (pv 1) ag))) ag)))))),
 (av (cH (du (cQ (K:=K) (ae 0)))
 (aP dk)
 bz)
 (aP (AZ (aq.b (u5 (ae 0))) (aq.b (aI (aD (ae 0) (aD (ae 1) ay)))))))⟩
theorem zJ (T:Txt K mg ad) (hbm:dF mg base):cE P w K mg base gJ 4 (ad.f 11) (ad.d 11) ["hours", "benches", "end"] (jS .m K [false,false,false] iX):=by
 rw [lR];exact gm.Nl (N:=["hours", "benches", "end", "least", "rows", "bench", "moment", "work", "wanted", "left", "stop"]) (T.F 11 rfl).F b7 [false,false,false] rfl k9 fun cdv A outer s H E hr=>⟨_,
 (af (pA 3 b7.nd (fP (jr T hbm) (T.F 9 rfl) hr (aa (pv 0) (aa (pv 1) ag))))
 (af (cu (aZ jH (pv 2) (pv 3) (aT _))
 (ax EH)
 bh)
 (af (pA 4 b7.nd (bK ag))
 (af (pA 5 b7.nd aj)
 (af (pA 6 b7.nd aj)
 (af (ee Pd rfl (ka (K:=K) rfl rfl T.z_enumerate (pv 0)) (fO (K:=K) rfl rfl (bI (pG 7 b7.nd) (bI (pG 8 b7.nd) fN)))
 (af (pA 9 b7.nd (pv 8))
 (ax (xx Pd (aZ xI (pv 9) aj (aT _))
 (af (cu (aZ ‹24› (pv 6) (pv 2) (aT _))
 (af (zA (i:=5) b7.nd rfl (OR rfl) aj J3)
 (ax (pA 6 b7.nd aj)))
 bh)
 (af (pA 10 b7.nd (aF (uq rfl) rfl T.z_min Ao (aa (a7 eC (pv 6) (pv 9)) (aa (pv 2) ag))))
 (af (cU (gY OO OZ O0 cD (pv 4) (aa (bK (aa (pv 5) (aa (pv 7) (aa (pv 6) (aa (pv 10) ag))))) ag)))
 (af (zA (i:=9) b7.nd rfl (OR rfl) (a7 vy (pv 10) (pv 6)) zY)
 (ax (pA 6 b7.nd (pv 10)))))))))))
 (ax (aM (pv 4))))))))),
 (av (bp (aI (aD (ae 0) (aD (ae 1) ay))))
 (av (cH (aY (aq.b (jF (ae 2) (ae 3))))
 Eb
 bz)
 (av (p9 zg)
 (av (bp dk)
 (av (bp dk)
 (av (fu (m:=true) (D4 (Ee 0)) (lJ (bH (aH 7) (bH (aH 8) fL)))
 (av (bp (aE 8))
 (wX (aY (aq.b (xc (ae 9) ak)))
 (av (cH (aY (aq.b (c0 (neg:=false) (ae 6) (ae 2))))
 (av (zd ak)
 (bp dk))
 bz)
 (av (bp (AY (aq.b (d9 (ae 6) (ae 9))) (ae 2)))
 (av (qb (bQ (n:=4) (aQ (aE 5) (aQ (aE 7) (aQ (aE 6) (aQ (aE 10) ay)))) ‹11›))
 (av (zd (aq.b (u0 (ae 10) (ae 6))))
 (bp (aE 10)))))))))
 D8))))))⟩
theorem zO (T:Txt K mg ad) (hbm:dF mg base):cE P w K mg base gJ 1 (ad.f 13) (ad.d 13) ["row", "later"] (jS .v K [false,false] i8):=by
 rw [lZ];exact gm.pT (N:=["row", "later"]) (T.F 13 rfl).F zo [false,false] rfl lz fun cdv A outer s H E hr=>⟨_,
 (ax (aM (jq (cO ‹24› (pX K (pv 0) (dR rfl T.c_BENCH)) (pX K (pv 1) (dR rfl T.c_BENCH)) (aT _)) (jq (cO ‹24› (pX K (pv 0) (dR rfl T.c_WORK)) (pX K (pv 1) (dR rfl T.c_WORK)) (aT _)) (kc (cO ‹24› (pX K (pv 0) (dR rfl T.c_END)) (pX K (pv 1) (dR rfl T.c_BEGIN)) (aT _))))))),
 (aP (gB (aq.b (c0 (neg:=false) (a9 (ae 0) ak) (a9 (ae 1) ak))) (gB (aq.b (c0 (neg:=false) (a9 (ae 0) ak) (a9 (ae 1) ak))) (c0 (neg:=false) (a9 (ae 0) ak) (a9 (ae 1) ak)))))⟩
theorem t7 (T:Txt K mg ad) (hbm:dF mg base):cE P w K mg base gJ 2 (ad.f 12) (ad.d 12) ["rows"] (jS .m K [false] hU):=by
 rw [nQ];exact gm.Mp (N:=["rows", "fewest", "row"]) (T.F 12 rfl).F oE [false] rfl nV fun cdv hcd A outer s H E hr=>⟨_,
 (af (pA 1 oE.nd (bK ag))
 (af (ee Pd rfl (bx (K:=K) rfl (aF (uo (K:=K) rfl rfl hr) rfl T.z_sorted uu (aa (pv 0) ag))) (pG 2 oE.nd)
 (ax (cu (PW.pt (zz (bq (K:=K) rfl (pv 1) (fun _=>rfl)) (vk (bq (K:=K) rfl (fP (zO T hbm) (T.F 13 rfl) hr (aa (pX K (pv 1) (mX jb aj)) (aa (pv 2) ag))) (fun _=>rfl)))))
 (ax (me (pX K (pv 2) (dR rfl T.c_END)) (oJ (pX K (pv 1) (mX jb aj)) (dR rfl T.c_END) set_list)))
 (ax (cU (gY OO OZ O0 cD (pv 1) (aa (eG (dS (K:=K) rfl) rfl T.z_list fe (aa (pv 2) ag)) ag)))))))
 (ax (aM (xF (K:=K) (x := "each") (zs:=[]) (is:=[]) (q := "joined.<locals>.<lambda>") rfl ⟨hcd.symm.trans T.C4,T.C0,hbm⟩ hr rfl rfl T.z_sorted (pv 1) (jA.many .nil .nil ‹2› rfl ‹2› rfl rfl rfl) (by first | rfl | decide +kernel) rfl (fun _ _ _ _ _=>(vq (aa (pX K (pv 0) (dR rfl T.c_BEGIN)) (aa (pX K (pv 0) (dR rfl T.c_BENCH)) ag))))))))),
 (av (p9 zg)
 (av (fu (m:=false) (Gn (Ee 0)) (aH 2)
 (cH (za (cQ (K:=K) (ae 1)) (cQ (K:=K) (aq.b (aI (aD (a9 (ae 1) (aq.b (jf ak))) (aD (ae 2) ay))))))
 (AR (a0.i (a9 (ae 2) ak)) (aq.b (jf ak)) ak)
 (qb (j4 (ae 2)))))
 (D9 (i:=1) (cs:=[]) T.CZ (uZ (n:=2) (aQ (a0.i (a9 (ae 0) ak)) (aQ (a0.i (a9 (ae 0) ak)) ay)) ‹11›))))⟩
theorem vB (T:Txt K mg ad) (hbm:dF mg base):cE P w K mg base gJ 19 (ad.f 14) (ad.d 14) ["table"] (jS .v K [false] fZ):=by
 rw [jJ];exact gm.pT (N:=["table", "rows", "begin", "hours", "pairs", "end"]) (T.F 14 rfl).F c7 [false] rfl iB fun cdv A outer s H E hr=>⟨_,
 (af (pA 1 c7.nd (bK ag))
 (af (pA 2 c7.nd aj)
 (af (ee Pd rfl (bx (K:=K) rfl (fP (t5 T hbm) (T.F 2 rfl) hr (aa (pv 0) ag))) (fO (K:=K) rfl rfl (bI (pG 3 c7.nd) (bI (pG 4 c7.nd) fN)))
 (af (pA 5 c7.nd (a7 eC (pv 2) (pv 3)))
 (af (cU (gY OO RF RG vI (pv 1) (aa (eY rfl (bx (K:=K) rfl (pv 4)) (ts:=["hand", "bench"]) (zs:=["begin", "end"]) (k:=2) (is:=[2,5]) rfl (.cons rfl (.cons rfl .nil)) (.cons rfl (OR rfl) rfl ‹1› ‹54›) rfl rfl rfl ‹58› ‹53› (fun _ _ _ _ _=>(bK (aa (pv 1) (aa (pv 0) (aa (pv 2) (aa (pv 3) ag)))))) rfl rfl ‹2›) ag)))
 (ax (pA 2 c7.nd (pv 5))))))
 (ax (aM (fP (t7 T hbm) (T.F 12 rfl) hr (aa (pv 1) ag))))))),
 (av (gA ‹59›)
 (av (bp dk)
 (av (fu (m:=true) (dX (aI (aD (ae 0) ay))) (lJ (bH (aH 3) (bH (aH 4) fL)))
 (av (bp (d9 (ae 2) (ae 3)))
 (av (zc (bF.l (bP (m:=true) (k:=2) (cs:=[2,5]) (gh.c (dX (aE 4))) (lJ (bH (aH 0) (bH (aH 1) fL))) bU (bF.l (bQ (n:=4) (aQ (aE 1) (aQ (aE 0) (aQ (aE 2) (aQ (aE 3) ay)))) ‹11›)))))
 (bp (aE 5)))))
 (aP (aI (aD (ae 1) ay))))))⟩
theorem js (T:Txt K mg ad) (hbm:dF mg base):cE P w K mg base gJ 1 (ad.f 15) (ad.d 15) ["_law_found"] (jS .v K [false] dN):=by
 rw [lS];exact gm.pT (N:=["_law_found"]) (T.F 15 rfl).F zl [false] rfl lg fun cdv A outer s H E hr=>⟨_,
 (ax (aM (jq (aF (eI (K:=K) rfl) rfl T.z_isinstance cC (aa (pv 0) (aa (ic (v:=.ty "int") rfl T.z_int we rfl) ag))) (kc (EL (aF (eI (K:=K) rfl) rfl T.z_isinstance cC (aa (pv 0) (aa (ic (v:=.ty "bool") rfl T.z_bool Hv rfl) ag)))))))),
 (aP (gB (aq.b (j3 (n := "int") (ae 0))) (AX (aq.b (j3 (n := "bool") (ae 0))))))⟩
theorem gG (T:Txt K mg ad) (hbm:dF mg base):cE P w K mg base gJ 1 (ad.f 16) (ad.d 16) ["_law_script", "_law_k"] (jS .v K [false,false] c4):=by
 rw [jM];exact gm.pT (N:=["_law_script", "_law_k"]) (T.F 16 rfl).F u9 [false,false] rfl iE fun cdv A outer s H E hr=>⟨_,
 (af (cu (aZ jH (pv 1) ‹8› (aT _))
 (ax (aM (pX K (pv 0) (pv 1))))
 bh)
 (ax (aM aj))),
 (av (cH (aY (aq.b (jF (ae 1) (aq.b (cR (ae 0))))))
 (aP (a0.i (a9 (ae 0) (ae 1))))
 bz)
 (aP dk))⟩
theorem mj (T:Txt K mg ad) (hbm:dF mg base):cE P w K mg base gJ 1 (ad.f 17) (ad.d 17) ["_law_cell", "_law_k"] (jS .v K [false,false] fJ):=by
 rw [lX];exact gm.pT (N:=["_law_cell", "_law_k", "_law_number"]) (T.F 17 rfl).F qV [false,false] rfl lp fun cdv A outer s H E hr=>⟨_,
 (af (pA 2 qV.nd (a7 eZ (a7 eC (a7 eC (a7 fQ (pv 0) aj) (a7 fQ (a7 fQ (pv 1) (pv 1)) aj)) aj) aj))
 (ax (aM (a7 eZ (a7 fQ (pv 2) (pv 2)) aj)))),
 (av (bp (eW (aq.b (d9 (aq.b (d9 (aq.b (iG (ae 0) ak)) (aq.b (iG (aq.b (iG (ae 1) (ae 1))) ak)))) ak)) ak))
 (aP (eW (aq.b (iG (ae 2) (ae 2))) ak)))⟩
theorem vC (T:Txt K mg ad) (hbm:dF mg base):cE P w K mg base gJ 2 (ad.f 18) (ad.d 18) ["_law_script"] (jS .v K [false] f6):=by
 rw [jL];exact gm.pT (N:=["_law_script", "_law_numbers_here", "_law_k"]) (T.F 18 rfl).F jh [false] rfl iD fun cdv A outer s H E hr=>⟨_,
 (af (jm (i:=1) jh.nd rfl rfl rfl (cY rfl T.z_range (aa aj ag)) (ts:=["_law_k"]) (zs:=["_law_script"]) (k:=1) (is:=[0]) rfl (.cons rfl .nil) ‹54› rfl rfl rfl (aV ‹11›) ‹0› (fun _ _ _ _ _=>(fP (mj T hbm) (T.F 17 rfl) hr (aa (fP (gG T hbm) (T.F 16 rfl) hr (aa (pv 1) (aa aj ag))) (aa (a7 eC aj (pv 0)) ag)))) rfl rfl ‹2›)
 (af (ee Pd rfl (CF rfl T.z_range (aa aj (aa (aF (uq rfl) rfl T.z_min Ao (aa aj (aa ‹8› ag))) ag))) (pG 2 jh.nd)
 (ax (me (fP (mj T hbm) (T.F 17 rfl) hr (aa (a7 eC (pX K (pv 1) (a7 eZ (pv 2) aj)) (pX K (pv 0) (pv 2))) (aa (pv 2) ag))) (oJ (pv 1) (a7 eZ (pv 2) aj) set_list))))
 (ax (aM (pv 1))))),
 (av (qM (bP (m:=true) (k:=1) (cs:=[0]) (gh.c (df ak)) (aH 0) bU (aI (aD (aq.b (aI (aD (ae 1) (aD ak ay)))) (aD (aq.b (d9 ak (ae 0))) ay)))))
 (av (fu (m:=true) (Ca ak (aq.b (AY ak (aq.b (cR (ae 0)))))) (aH 2)
 (zb (aI (aD (aq.b (d9 (a9 (ae 1) (aq.b (eW (ae 2) ak))) (a9 (ae 0) (ae 2)))) (aD (ae 2) ay))) (aq.b (eW (ae 2) ak))))
 (qO 1 (aP (aE 1)))))⟩
theorem t6 (T:Txt K mg ad) (hbm:dF mg base):cE P w K mg base gJ 1 (ad.f 19) (ad.d 19) ["_law_cell"] (jS .v K [false] iZ):=by
 rw [nO];exact gm.pT (N:=["_law_cell"]) (T.F 19 rfl).F Cp [false] rfl nU fun cdv A outer s H E hr=>⟨_,
 (af (cu (aZ ‹24› (a7 eZ (pv 0) aj) aj (aT _))
 (ax (aM aj))
 bh)
 (ax (aM (a7 eZ (a7 iN (pv 0) aj) aj)))),
 (av (cH (aY (aq.b (c0 (neg:=false) (aq.b (eW (ae 0) ak)) ak)))
 (aP dk)
 bz)
 (aP (eW (aq.b (kP (ae 0) ak)) ak)))⟩
theorem zN (T:Txt K mg ad) (hbm:dF mg base):cE P w K mg base gJ 2 (ad.f 20) (ad.d 20) ["_law_number", "_law_mode"] (jS .v K [false,false] i7):=by
 rw [lY];exact gm.pT (N:=["_law_number", "_law_mode"]) (T.F 20 rfl).F zm [false,false] rfl lu fun cdv A outer s H E hr=>⟨_,
 (af (cu (aZ ‹24› (pv 1) aj (aT _))
 (ax (aM (a7 eZ (pv 0) aj)))
 bh)
 (af (cu (aZ ‹24› (pv 1) aj (aT _))
 (ax (aM (a7 fQ (a7 eZ (a7 iN (pv 0) aj) aj) (eG o4 rfl T.z_int we (aa (cO jH (a7 eZ (pv 0) aj) aj (aT _)) ag)))))
 bh)
 (af (cu (aZ ‹24› (pv 1) aj (aT _))
 (ax (aM (a7 eC (a7 fQ (pv 0) (a7 ES aj aj)) (fP (mj T hbm) (T.F 17 rfl) hr (aa (pv 0) (aa aj ag))))))
 bh)
 (ax (aM (a7 fQ (a7 eZ (pv 0) aj) (a7 ES aj aj))))))),
 (av (cH (aY (aq.b (c0 (neg:=false) (ae 1) ak)))
 (aP (eW (ae 0) ak))
 bz)
 (av (cH (aY (aq.b (c0 (neg:=false) (ae 1) ak)))
 (aP (iG (aq.b (eW (aq.b (kP (ae 0) ak)) ak)) (aq.b (u6 (aq.b (jF (aq.b (eW (ae 0) ak)) ak))))))
 bz)
 (av (cH (aY (aq.b (c0 (neg:=false) (ae 1) ak)))
 (aP (d9 (aq.b (iG (ae 0) (aq.b (Ef ak ak)))) (aq.b (aI (aD (ae 0) (aD ak ay))))))
 bz)
 (aP (iG (aq.b (eW (ae 0) ak)) (aq.b (Ef ak ak)))))))⟩
theorem zL (T:Txt K mg ad) (hbm:dF mg base):cE P w K mg base gJ 3 (ad.f 21) (ad.d 21) ["_law_script"] (jS .v K [false] iY):=by
 rw [lV];exact gm.pT (N:=["_law_script", "_law_numbers_here", "_law_cell", "_law_hands", "_law_many", "_law_table_here", "_law_hand", "_law_row", "_law_bench", "_law_idle"]) (T.F 21 rfl).F cS [false] rfl lh fun cdv A outer s H E hr=>⟨_,
 (af (pA 1 cS.nd (fP (vC T hbm) (T.F 18 rfl) hr (aa (pv 0) ag)))
 (af (pA 2 cS.nd (fP (gG T hbm) (T.F 16 rfl) hr (aa (pv 0) (aa aj ag))))
 (af (pA 3 cS.nd (fP (t6 T hbm) (T.F 19 rfl) hr (aa (fP (gG T hbm) (T.F 16 rfl) hr (aa (pv 0) (aa aj ag))) ag)))
 (af (pA 4 cS.nd (a7 fQ (fP (t6 T hbm) (T.F 19 rfl) hr (aa (fP (gG T hbm) (T.F 16 rfl) hr (aa (pv 0) (aa aj ag))) ag)) (eG o4 rfl T.z_int we (aa (cO xI (pv 3) aj (aT _)) ag))))
 (af (pA 5 cS.nd (bK ag))
 (af (ee Pd rfl (cY rfl T.z_range (aa (pv 3) ag)) (pG 6 cS.nd)
 (af (pA 7 cS.nd (bK ag))
 (af (ee Pd rfl (cY rfl T.z_range (aa (pv 4) ag)) (pG 8 cS.nd)
 (af (pA 9 cS.nd (Ic (cO ‹24› (pv 6) (a7 eZ (a7 iN (pv 2) aj) aj) (aT _)) (kc (cO ‹24› (pv 8) (a7 eZ (a7 iN (pv 2) aj) aj) (aT _)))))
 (ax (cU (gY OO OZ O0 cD (pv 7) (aa (a7 fQ (fP (zN T hbm) (T.F 20 rfl) hr (aa (pX K (pv 1) (a7 eC (a7 fQ aj (pv 6)) (pv 8))) (aa (a7 eZ (pv 2) aj) ag))) (eG o4 rfl T.z_int we (aa (EL (pv 9)) ag))) ag))))))
 (ax (cU (gY OO OZ O0 cD (pv 5) (aa (pv 7) ag)))))))
 (ax (aM (pv 5))))))))),
 (av (bp (aI (aD (ae 0) ay)))
 (av (bp (aI (aD (ae 0) (aD ak ay))))
 (av (bp (aI (aD (aq.b (aI (aD (ae 0) (aD ak ay)))) ay)))
 (av (bp (iG (aq.b (aI (aD (aq.b (aI (aD (ae 0) (aD ak ay)))) ay))) (aq.b (u6 (aq.b (xc (ae 3) ak))))))
 (av (gA ‹59›)
 (av (fu (m:=true) (df (ae 3)) (aH 6)
 (av (gA ‹59›)
 (av (fu (m:=true) (df (ae 4)) (aH 8)
 (av (bp (Eg (aq.b (c0 (neg:=false) (ae 6) (aq.b (eW (aq.b (kP (ae 2) ak)) ak)))) (c0 (neg:=false) (ae 8) (aq.b (eW (aq.b (kP (ae 2) ak)) ak)))))
 (ot (iG (aq.b (aI (aD (a9 (ae 1) (aq.b (d9 (aq.b (iG ak (ae 6))) (ae 8)))) (aD (aq.b (eW (ae 2) ak)) ay)))) (aq.b (u6 (aq.b (AX (ae 9)))))))))
 (qO 7 (ot (aE 7))))))
 (qO 5 (aP (aE 5)))))))))⟩
theorem CL (T:Txt K mg ad) (hbm:dF mg base):cE P w K mg base gJ 1 (ad.f 22) (ad.d 22) ["_law_table_here"] (jS .v K [false] kJ):=by
 rw [nN];exact gm.pT (N:=["_law_table_here", "_law_hands", "_law_many"]) (T.F 22 rfl).F oC [false] rfl nT fun cdv A outer s H E hr=>⟨_,
 (af (jm (i:=1) oC.nd rfl rfl rfl (bx (K:=K) rfl (pv 0)) (ts:=["_law_row"]) (zs:=[]) (k:=1) (is:=[]) rfl .nil .nil rfl rfl rfl (aV ‹11›) ‹0› (fun _ _ _ _ _=>(aF (iW (K:=K) rfl rfl) rfl T.z_sum se (aa (pv 0) ag))) rfl rfl ‹2›)
 (af (pA 2 oC.nd (aF (jz (K:=K) rfl rfl) rfl T.z_max mI (aa (a7 kX (eY rfl (bx (K:=K) rfl (pv 0)) (ts:=["_law_row"]) (zs:=[]) (k:=1) (is:=[]) rfl .nil .nil rfl rfl rfl (aV ‹11›) ‹0› (fun _ _ _ _ _=>‹8›) rfl rfl ‹2›) (bK (aa aj ag))) ag)))
 (ax (aM (vq (aa (pv 1) (aa (eY rfl (cY rfl T.z_range (aa (pv 2) ag)) (ts:=["_law_bench"]) (zs:=["_law_table_here"]) (k:=1) (is:=[0]) rfl (.cons rfl .nil) ‹54› rfl rfl rfl (aV ‹11›) (fun _ _ _ _ _=>(eA (i:=0) ‹2› rfl (O7 rfl) (OR rfl))) (fun _ _ _ _ _=>(aF (iW (K:=K) rfl rfl) rfl T.z_sum se (aa ‹55› ag))) rfl rfl ‹2›) ag))))))),
 (av (qa (bF.l (bP (m:=false) (k:=1) (cs:=[]) (cV (ae 0)) (aH 0) bU (qT (ae 0)))))
 (av (bp (u5 (aq.b (bF.l (oy (bF.l (bP (m:=false) (k:=1) (cs:=[]) (cV (ae 0)) (aH 0) bU (cR (ae 0)))) (bF.l (bQ (n:=1) (aQ dk ay) ‹11›)))))))
 (aP (uZ (n:=2) (aQ (aE 1) (aQ (bF.l (bP (m:=true) (k:=1) (cs:=[0]) (gh.c (df (ae 2))) (aH 0) bU (qT (aq.b ‹42›)))) ay)) ‹11›))))⟩
theorem xK (T:Txt K mg ad) (hbm:dF mg base):cE P w K mg base gJ 2 (ad.f 23) (ad.d 23) ["_law_table_here"] (jS .v K [false] k8):=by
 rw [pM];exact gm.pT (N:=["_law_table_here", "_law_found"]) (T.F 23 rfl).F xi [false] rfl qz fun cdv A outer s H E hr=>⟨_,
 (af (pA 1 xi.nd (fP (CL T hbm) (T.F 22 rfl) hr (aa (pv 0) ag)))
 (ax (aM (aF (jz (K:=K) rfl rfl) rfl T.z_max mI (aa (a7 kX (a7 kX (pX K (pv 1) aj) (pX K (pv 1) aj)) (bK (aa aj ag))) ag))))),
 (av (bp (aI (aD (ae 0) ay)))
 (aP (u5 (aq.b (bF.l (oy (bF.l (oy (gn (aE 1) ak) (gn (aE 1) ak))) (bF.l (bQ (n:=1) (aQ dk ay) ‹11›))))))))⟩
theorem EV (T:Txt K mg ad) (hbm:dF mg base):cE P w K mg base gJ 2 (ad.f 24) (ad.d 24) ["_law_pair", "_law_hands", "_law_many"] (jS .v K [false,false,false] nM):=by
 rw [pL];exact gm.pT (N:=["_law_pair", "_law_hands", "_law_many"]) (T.F 24 rfl).F El [false,false,false] rfl qw fun cdv A outer s H E hr=>⟨_,
 (af (cu (PW.pt (fW (dm (bq (K:=K) rfl (aF (eI (K:=K) rfl) rfl T.z_isinstance cC (aa (pv 0) ‹30›)) (fun _=>rfl))) (fW (aZ (mi (K:=K) hr.units) ‹8› aj (aT _)) (fW ‹40› (jl ‹40›)))))
 (ax (aM dy))
 bh)
 (ax (aM (jq (cO Ie aj (pX K (pv 0) aj) (aT _)) (jq (cO jH (pX K (pv 0) aj) (pv 1) (aT _)) (jq (cO Ie aj (pX K (pv 0) aj) (aT _)) (kc (cO jH (pX K (pv 0) aj) (pv 2) (aT _))))))))),
 (av (cH (gT (du (cQ (K:=K) (aq.b (j3 (n := "list") (ae 0))))) (gT (aY (aq.b (c0 (neg:=true) (aq.b (cR (ae 0))) ak))) (gT (du (cQ (K:=K) (aq.b (aI (aD (a9 (ae 0) ak) ay))))) (du (cQ (K:=K) (aq.b (aI (aD (a9 (ae 0) ak) ay))))))))
 (aP fk)
 bz)
 (aP (gB (aq.b (HW ak (a9 (ae 0) ak))) (gB (aq.b (jF (a9 (ae 0) ak) (ae 1))) (gB (aq.b (HW ak (a9 (ae 0) ak))) (jF (a9 (ae 0) ak) (ae 2)))))))⟩
theorem zM (T:Txt K mg ad) (hbm:dF mg base):cE P w K mg base gJ 3 (ad.f 25) (ad.d 25) ["_law_phase_here", "_law_table_here", "_law_done"] (Gv K 2 [true,true,false] i6):=by
 rw [lW];exact gm.Mo (N:=["_law_phase_here", "_law_table_here", "_law_done", "_law_hands", "_law_some", "_law_pair"]) (T.F 25 rfl).F jg 2 [true,true,false] rfl (JD rfl) ‹11› ll fun cdv A outer s H E hr=>⟨_,
 (af (cu (PW.pt (fW (dm (bq (K:=K) rfl (aF (eI (K:=K) rfl) rfl T.z_isinstance cC (aa (pv 0) ‹30›)) (fun _=>rfl))) (fW (aZ (mi (K:=K) hr.units) ‹8› aj (aT _)) (fW ‹40› (jl (aZ jH (pX K (pv 0) aj) aj (aT _)))))))
 (ax (aM dy))
 bh)
 (af (cu (dm (bq (K:=K) rfl (aF (eI (K:=K) rfl) rfl T.z_isinstance cC (aa (pX K (pv 0) aj) ‹30›)) (fun _=>rfl)))
 (ax (aM dy))
 bh)
 (af (pA 3 jg.nd (bK ag))
 (af (pA 4 jg.nd (bK ag))
 (af (ee Pd rfl (bx (K:=K) rfl (pX K (pv 0) aj)) (pG 5 jg.nd)
 (af (cu (dm (bq (K:=K) rfl (fP (EV T hbm) (T.F 24 rfl) hr (aa (pv 5) (aa (aF (bw (K:=K) rfl) rfl T.z_len cN (aa (pv 1) ag)) (aa (aF (bw (K:=K) rfl) rfl T.z_len cN (aa (pX K (pv 1) aj) ag)) ag)))) (fun _=>rfl)))
 (ax (aM dy))
 bh)
 (af (cu (PW.pt (fW (aZ (rj (K:=K) rfl) (pX K (pv 5) aj) (pv 3) (by with_unfolding_all rfl)) (jl (aZ (rj (K:=K) rfl) (pX K (pv 5) aj) (pv 4) (by with_unfolding_all rfl)))))
 (ax (aM dy))
 bh)
 (af (cU (gY OO OZ O0 cD (pv 3) (aa (pX K (pv 5) aj) ag)))
 (af (cU (gY OO OZ O0 cD (pv 4) (aa (pX K (pv 5) aj) ag)))
 (ax (me (a7 eC (pX K (pX K (pv 2) (pX K (pv 5) aj)) (pX K (pv 5) aj)) (pX K (pv 0) aj)) (oJ (pX K (pv 2) (pX K (pv 5) aj)) (pX K (pv 5) aj) set_list))))))))
 (ax (aM dy))))))),
  (qR (cH (gT (du (cQ (K:=K) (aq.b (j3 (n := "list") (ae 0))))) (gT (aY (aq.b (c0 (neg:=true) (aq.b (cR (ae 0))) ak))) (gT (du (cQ (K:=K) (aq.b (aI (aD (a9 (ae 0) ak) ay))))) (aY (aq.b (jF (a9 (ae 0) ak) ak))))))
 (aP fk)
 bz)
  (qR (cH (du (cQ (K:=K) (aq.b (j3 (n := "list") (a9 (ae 0) ak)))))
 (aP fk)
 bz)
  (qR (gA ‹59›)
  (qR (gA ‹59›)
  (qR (fu (m:=true) (dX (gn (aE 0) ak)) (aH 5)
 (av (cH (du (cQ (K:=K) (aq.b (aI (aD (ae 5) (aD (aq.b (cR (ae 1))) (aD (aq.b (cR (a9 (ae 1) ak))) ay)))))))
 (aP fk)
 bz)
 (av (cH (gT (aY (aq.b (A0 (neg:=false) (a9 (ae 5) ak) (ae 3)))) (aY (aq.b (A0 (neg:=false) (a9 (ae 5) ak) (ae 4)))))
 (aP fk)
 bz)
 (av (ot (gn (aE 5) ak))
 (av (ot (gn (aE 5) ak))
 (Ea (d9 (a9 (a9 (ae 2) (a9 (ae 5) ak)) (a9 (ae 5) ak)) (a9 (ae 0) ak)) (a9 (ae 5) ak) (a9 (ae 5) ak)))))))
  IY)))))⟩
theorem kh (T:Txt K mg ad) (hbm:dF mg base):cE P w K mg base gJ 4 (ad.f 26) (ad.d 26) ["_law_table_here", "_law_found"] (jS .v K [true,true] di):=by
 rw [iA];exact gm.pT (N:=["_law_table_here", "_law_found", "_law_done", "_law_total", "_law_phase_here"]) (T.F 26 rfl).F dw [true,true] rfl fU fun cdv A outer s H E hr=>⟨_,
 (af (cu (PW.pt (fW (dm (bq (K:=K) rfl (aF (eI (K:=K) rfl) rfl T.z_isinstance cC (aa (pv 1) ‹30›)) (fun _=>rfl))) (jl (aZ xI (aF (bw (K:=K) rfl) rfl T.z_len cN (aa (pv 1) ag)) aj (aT _)))))
 (ax (aM dy))
 bh)
 (af (jm (i:=2) dw.nd rfl rfl rfl (bx (K:=K) rfl (pv 0)) (ts:=["_law_row"]) (zs:=[]) (k:=1) (is:=[]) rfl .nil .nil rfl rfl rfl (aV ‹11›) ‹0› (fun _ _ _ _ _=>(a7 zH (bK (aa aj ag)) ‹8›)) rfl rfl ‹2›)
 (af (pA 3 dw.nd aj)
 (af (ee Pd rfl (bx (K:=K) rfl (pv 1)) (pG 4 dw.nd)
 (af (cu (PW.pt (fW (aZ ‹24› (pv 0) (bK ag) (aT _)) (jl (dm (bq (K:=K) rfl (fP (zM T hbm) (T.F 25 rfl) hr (aa (pv 4) (aa (pv 0) (aa (pv 2) ag)))) (fun _=>rfl)))))) (ax (aM dy)) bh)
 (ax (pA 3 dw.nd (a7 eC (pv 3) (pX K (pv 4) aj))))))
 (ax (aM (jq (cO ‹24› (pv 2) (pv 0) (aT _)) (kc (cO ‹24› (pv 3) (fP (xK T hbm) (T.F 23 rfl) hr (aa (pv 0) ag)) (aT _)))))))))),
 (av (cH (gT (du (cQ (K:=K) (aq.b (j3 (n := "list") (ae 1))))) (aY (aq.b (xc (aq.b (cR (ae 1))) ak))))
 (aP fk)
 bz)
 (av (qN (uW (m:=true) (k:=1) (cs:=[]) (gh.c (dX (aE 0))) (aH 0) bU (zk (bQ (n:=1) (aQ dk ay) ‹11›) (aq.b (cR (ae 0))))))
 (av (bp dk)
 (av (fu (m:=true) (dX (aE 1)) (aH 4)
 (av (IX (i:=2) (aY (aq.b (c0 (neg:=false) (ae 0) (aq.b (bF.l ‹59›))))) (AO (aE 4) (AO (aE 0) (Gr ay))))
 (bp (d9 (ae 3) (a9 (ae 4) ak)))))
 (aP (gB (aq.b (c0 (neg:=false) (ae 2) (ae 0))) (c0 (neg:=false) (ae 3) (aq.b (aI (aD (ae 0) ay))))))))))⟩
theorem fb (T:Txt K mg ad) (hbm:dF mg base):cE P w K mg base gJ 3 (ad.f 27) (ad.d 27) ["_law_table_here", "_law_rows"] (jS .v K [false,true] cc):=by
 rw [f7];exact gm.pT (N:=‹50›) (T.F 27 rfl).F a8 [false,true] rfl dO fun cdv A outer s H E hr=>⟨_,
 (af (cu (dm (bq (K:=K) rfl (aF (eI (K:=K) rfl) rfl T.z_isinstance cC (aa (pv 1) ‹30›)) (fun _=>rfl)))
 (ax (aM dy))
 bh)
 (af (jm (i:=2) a8.nd rfl rfl rfl (bx (K:=K) rfl (pv 0)) (ts:=["_law_row"]) (zs:=[]) (k:=1) (is:=[]) rfl .nil .nil rfl rfl rfl (aV ‹11›) ‹0› (fun _ _ _ _ _=>(a7 zH (bK (aa aj ag)) ‹8›)) rfl rfl ‹2›)
 (af (jm (i:=3) a8.nd rfl rfl rfl (cY rfl T.z_range (aa aj ag)) (ts:=["_law_k"]) (zs:=[]) (k:=1) (is:=[]) rfl .nil .nil rfl rfl rfl (aV ‹11›) ‹0› (fun _ _ _ _ _=>(bK (aa (mX jb aj) (aa (mX jb aj) ag)))) rfl rfl ‹2›)
 (af (pA 4 a8.nd (a7 zH (bK (aa aj ag)) aj))
 (af (pA 5 a8.nd (bK (aa (mX jb aj) (aa (mX jb aj) ag))))
 (af (ee Pd rfl (bx (K:=K) rfl (pv 1)) (pG 6 a8.nd)
 (af (cu (PW.pt (fW (dm (bq (K:=K) rfl (aF (eI (K:=K) rfl) rfl T.z_isinstance cC (aa (pv 6) ‹30›)) (fun _=>rfl))) (fW (aZ (mi (K:=K) hr.units) (aF (bw (K:=K) rfl) rfl T.z_len cN (aa (pv 6) ag)) aj (aT _)) (jl (dm (bq (K:=K) rfl (aF (Dx (K:=K) rfl rfl) rfl T.z_all Kv (aa (eY rfl (bx (K:=K) rfl (pv 6)) (ts:=["_law_one"]) (zs:=[]) (k:=1) (is:=[]) rfl .nil .nil rfl rfl rfl (aV ‹11›) ‹0› (fun _ _ _ _ _=>(fP (js T hbm) (T.F 15 rfl) hr (aa (pv 0) ag))) rfl rfl ‹2›) ag)) (fun _=>rfl)))))))
 (ax (aM dy))
 bh)
 (af (me (pv 6) (fO (K:=K) rfl rfl (bI (pG 7 a8.nd) (bI (pG 8 a8.nd) (bI (pG 9 a8.nd) (bI (pG 10 a8.nd) fN))))))
 (af (cu (PW.pt (fW (aZ jH (pv 8) aj (aT _)) (fW (aZ ET (pv 8) ‹8› (aT _)) (fW (aZ jH (pv 7) aj (aT _)) (jl (aZ ET (pv 7) ‹46› (aT _)))))))
 (ax (aM dy))
 bh)
 (af (cu (PW.pt (fW (aZ (Jx hr.units) (bK (aa (pv 9) (aa (pv 7) ag))) (pv 5) (aT _)) (fW (aZ ET (pv 9) (pv 10) (aT _)) (jl (aZ jH (pv 9) (aF (ur rfl) rfl T.z_max mI (aa (pX K (pX K (pv 3) (pv 7)) aj) (aa (pX K (pv 4) (pv 8)) ag))) (aT _))))))
 (ax (aM dy))
 bh)
 (af (cu (aZ ‹24› (pX K (pv 3) (pv 7)) (bK (aa (pv 8) (aa (pv 9) ag))) (aT _))
 (ax (aM dy))
 bh)
 (af (pA 5 a8.nd (bK (aa (pv 9) (aa (pv 7) ag))))
 (af (me (bK (aa (pv 8) (aa (pv 10) ag))) (oJ (pv 3) (pv 7) set_list))
 (af (me (pv 10) (oJ (pv 4) (pv 8) set_list))
 (ax (me (a7 vy (a7 eC (pX K (pX K (pv 2) (pv 8)) (pv 7)) (pv 10)) (pv 9)) (oJ (pX K (pv 2) (pv 8)) (pv 7) set_list))))))))))))
 (ax (aM (jq (cO ‹24› (pv 2) (pv 0) (aT _)) (kc (cO ‹24› (aF (jz (K:=K) rfl rfl) rfl T.z_max mI (aa (pv 4) ag)) (fP (xK T hbm) (T.F 23 rfl) hr (aa (pv 0) ag)) (aT _)))))))))))),
 (av (cH (du (cQ (K:=K) (aq.b (j3 (n := "list") (ae 1)))))
 (aP fk)
 bz)
 (av (qN (uW (m:=false) (k:=1) (cs:=[]) (cV (ae 0)) (aH 0) bU (zk (bQ (n:=1) (aQ dk ay) ‹11›) (aq.b (cR (ae 0))))))
 (av (qM (bP (m:=true) (k:=1) (cs:=[]) (gh.c (df ak)) (aH 0) bU (bF.l (bQ (n:=2) (aQ (jf ak) (aQ (jf ak) ay)) ‹11›))))
 (av (gA (zk (bQ (n:=1) (aQ dk ay) ‹11›) ak))
 (av (bp (bF.l (bQ (n:=2) (aQ (jf ak) (aQ (jf ak) ay)) ‹11›)))
 (av (fu (m:=true) (dX (aE 1)) (aH 6)
 (av (cH (gT (du (cQ (K:=K) (aq.b (j3 (n := "list") (ae 6))))) (gT (aY (aq.b (c0 (neg:=true) (aq.b (cR (ae 6))) ak))) (du (cQ (K:=K) (aq.b (Jb (aq.b (bF.l (bP (m:=true) (k:=1) (cs:=[]) (gh.c (dX (aE 6))) (aH 0) bU (aI (aD (ae 0) ay)))))))))))
 (aP fk)
 bz)
 (av (Lf (aE 6) (lJ (bH (aH 7) (bH (aH 8) (bH (aH 9) (bH (aH 10) fL))))))
 (av (cH (gT (aY (aq.b (jF (ae 8) ak))) (gT (aY (aq.b (Eh (ae 8) (aq.b (cR (ae 0)))))) (gT (aY (aq.b (jF (ae 7) ak))) (aY (aq.b (Eh (ae 7) (aq.b (cR (a9 (ae 0) ak)))))))))
 (aP fk)
 bz)
 (av (cH (gT (aY (aq.b (Ja (aq.b (bF.l (bQ (n:=2) (aQ (aE 9) (aQ (aE 7) ay)) ‹11›))) (ae 5)))) (gT (aY (aq.b (Eh (ae 9) (ae 10)))) (aY (aq.b (jF (ae 9) (aq.b (AZ (a9 (a9 (ae 3) (ae 7)) ak) (a9 (ae 4) (ae 8)))))))))
 (aP fk)
 bz)
 (av (cH (aY (aq.b (c0 (neg:=false) (a9 (ae 3) (ae 7)) (aq.b (bF.l (bQ (n:=2) (aQ (aE 8) (aQ (aE 9) ay)) ‹11›))))))
 (aP fk)
 bz)
 (av (bp (bF.l (bQ (n:=2) (aQ (aE 9) (aQ (aE 7) ay)) ‹11›)))
 (av (zb (bF.l (bQ (n:=2) (aQ (aE 8) (aQ (aE 10) ay)) ‹11›)) (ae 7))
 (av (zb (aE 10) (ae 8))
 (AR (u0 (aq.b (d9 (a9 (a9 (ae 2) (ae 8)) (ae 7)) (ae 10))) (ae 9)) (ae 8) (ae 7)))))))))))
 (aP (gB (aq.b (c0 (neg:=false) (ae 2) (ae 0))) (c0 (neg:=false) (aq.b (u5 (ae 4))) (aq.b (aI (aD (ae 0) ay))))))))))))⟩
theorem xJ (T:Txt K mg ad) (hbm:dF mg base):cE P w K mg base gJ 1 (ad.f 28) (ad.d 28) ["_law_table_here"] (jS .v K [false] hJ):=by
 rw [kI];exact gm.pT (N:=["_law_table_here"]) (T.F 28 rfl).F xh [false] rfl jD fun cdv A outer s H E hr=>⟨_,
 (af (cu (aZ ‹24› (pv 0) (bK ag) (aT _))
 (ax (aM (bK ag)))
 bh)
 (ax (aM (eY rfl (cY rfl T.z_range (aa ‹46› ag)) (ts:=["_law_bench"]) (zs:=["_law_table_here"]) (k:=1) (is:=[0]) rfl (.cons rfl .nil) ‹54› rfl rfl rfl (aV ‹11›) (fun _ _ _ _ _=>(eA (i:=0) ‹2› rfl (O7 rfl) (OR rfl))) (fun _ _ _ _ _=>‹55›) rfl rfl ‹2›)))),
 (av (cH (aY (aq.b (c0 (neg:=false) (ae 0) (aq.b (bF.l ‹59›)))))
 (aP (bF.l ‹59›))
 bz)
 (aP (bF.l (bP (m:=true) (k:=1) (cs:=[0]) (gh.c (df (aq.b (cR (a9 (ae 0) ak))))) (aH 0) bU ‹42›))))⟩
theorem pB (T:Txt K mg ad) (hbm:dF mg base):cE P w K mg base gJ 5 (ad.f 29) (ad.d 29) ["_law_table_here", "_law_hours_here", "_law_place"] (jS .v K [false,false,false] fI):=by
 rw [kK];exact gm.pT (N:=["_law_table_here", "_law_hours_here", "_law_place", "_law_rows", "_law_row"]) (T.F 29 rfl).F h9 [false,false,false] rfl jE fun cdv A outer s H E hr=>⟨_,
 (af (pA 3 h9.nd (bK ag))
 (af (ee Pd rfl (bx (K:=K) rfl (fP (zJ T hbm) (T.F 11 rfl) hr (aa (eG (dS (K:=K) rfl) rfl T.z_list fe (aa (pv 1) ag)) (aa aj (aa (fP (jr T hbm) (T.F 9 rfl) hr (aa (eG (dS (K:=K) rfl) rfl T.z_list fe (aa (pv 1) ag)) (aa aj ag))) ag))))) (pG 4 h9.nd)
 (ax (cU (gY OO OZ O0 cD (pv 3) (aa (a7 kX (pX K (bK (aa (bK (aa aj (aa (pX K (pv 4) aj) ag))) (aa (bK (aa (pX K (pv 4) aj) (aa aj ag))) ag))) (pv 2)) (xG (xb (K:=K) rfl) (pv 4) (kU aj) jo)) ag)))))
 (af (pA 3 h9.nd (fP (t7 T hbm) (T.F 12 rfl) hr (aa (pv 3) ag)))
 (ax (aM (jq (cO ‹24› (fP (ig T hbm) (T.F 1 rfl) hr (aa (pv 0) ag)) (fP (jr T hbm) (T.F 9 rfl) hr (aa (eG (dS (K:=K) rfl) rfl T.z_list fe (aa (pv 1) ag)) (aa aj ag))) (aT _)) (kc (fP (fb T hbm) (T.F 27 rfl) hr (aa (pv 0) (aa (pv 3) ag)))))))))),
 (av (gA ‹59›)
 (av (fu (m:=true) (dX (aI (aD (aq.b (bF.l (j4 (ae 1)))) (aD ak (aD (aq.b (aI (aD (aq.b (bF.l (j4 (ae 1)))) (aD ak ay)))) ay))))) (aH 4)
 (ot (bF.l (oy (gn (bF.l (bQ (n:=2) (aQ (bF.l (bQ (n:=2) (aQ dk (aQ (gn (aE 4) ak) ay)) ‹11›)) (aQ (bF.l (bQ (n:=2) (aQ (gn (aE 4) ak) (aQ dk ay)) ‹11›)) ay)) ‹11›)) (ae 2)) (bF.l (HX (aE 4) (kO ak) jd))))))
 (av (bp (aI (aD (ae 3) ay)))
 (aP (gB (aq.b (c0 (neg:=false) (aq.b (aI (aD (ae 0) ay))) (aq.b (aI (aD (aq.b (bF.l (j4 (ae 1)))) (aD ak ay)))))) (aI (aD (ae 0) (aQ (aE 3) ay))))))))⟩
theorem Jy (T:Txt K mg ad) (hbm:dF mg base):cE P w K mg base gJ 20 (ad.f 30) (ad.d 30) ["_law_script"] (jS .v K [false] BZ):=by
 rw [uC];exact gm.Mq (N:=["_law_script", "_law_table_here", "_law_turned_here", "_law_found", "_law_rows", "_law_exchanged"]) (T.F 30 rfl).F oB [false] rfl B1 fun cdv hcd A outer s H E hr=>⟨_,
 (af (pA 1 oB.nd (fP (zL T hbm) (T.F 21 rfl) hr (aa (pv 0) ag)))
 (af (pA 2 oB.nd (fP (xJ T hbm) (T.F 28 rfl) hr (aa (pv 1) ag)))
 (af (cu (aZ (mi (K:=K) hr.units) (fP (ig T hbm) (T.F 1 rfl) hr (aa (pv 2) ag)) (fP (ig T hbm) (T.F 1 rfl) hr (aa (pv 1) ag)) (aT _))
 (ax (aM dy))
 bh)
 (af (cu (PW.pt (zz (aZ (mi (K:=K) hr.units) (pv 2) (bK ag) (aT _)) (vk (aZ (mi (K:=K) hr.units) (fP (ke T hbm) (T.F 0 rfl) hr (aa (pv 2) ag)) (GR (fP (ke T hbm) (T.F 0 rfl) hr (aa (pv 1) ag)) jo jo (kU (mX jb aj))) (aT _)))))
 (ax (aM dy))
 bh)
 (af (pA 3 oB.nd (fP (t5 T hbm) (T.F 2 rfl) hr (aa (pv 1) ag)))
 (af (cu (dm (bq (K:=K) rfl (fP (kh T hbm) (T.F 26 rfl) hr (aa (pv 1) (aa (pv 3) ag))) (fun _=>rfl)))
 (ax (aM dy))
 bh)
 (af (cu (dm (bq (K:=K) rfl (fP (kh T hbm) (T.F 26 rfl) hr (aa (pv 2) (aa (eY rfl (bx (K:=K) rfl (pv 3)) (ts:=["_law_hours_here", "_law_some"]) (zs:=[]) (k:=2) (is:=[]) rfl .nil .nil rfl rfl rfl ‹58› ‹53› (fun _ _ _ _ _=>(bK (aa (pv 0) (aa (eY rfl (bx (K:=K) rfl (pv 1)) (ts:=["_law_pair"]) (zs:=[]) (k:=1) (is:=[]) rfl .nil .nil rfl rfl rfl (aV ‹11›) ‹0› (fun _ _ _ _ _=>(tZ (K:=K) rfl (pv 0) jo jo (kU (mX jb aj)))) rfl rfl ‹2›) ag)))) rfl rfl ‹2›) ag))) (fun _=>rfl)))
 (ax (aM dy))
 bh)
 (af (pA 4 oB.nd (fP (vB T hbm) (T.F 14 rfl) hr (aa (pv 1) ag)))
 (af (cu (dm (bq (K:=K) rfl (fP (fb T hbm) (T.F 27 rfl) hr (aa (pv 1) (aa (pv 4) ag))) (fun _=>rfl)))
 (ax (aM dy))
 bh)
 (af (jm (i:=5) oB.nd rfl rfl rfl (bx (K:=K) rfl (pv 4)) (ts:=["_law_row"]) (zs:=[]) (k:=1) (is:=[]) rfl .nil .nil rfl rfl rfl (aV ‹11›) ‹0› (fun _ _ _ _ _=>(a7 kX (tZ (K:=K) rfl (pv 0) (kU aj) jo (kU (mX jb aj))) (xG (xb (K:=K) rfl) (pv 0) (kU aj) jo))) rfl rfl ‹2›)
 (af (cu (dm (bq (K:=K) rfl (fP (fb T hbm) (T.F 27 rfl) hr (aa (pv 2) (aa (xF (K:=K) (x := "_law_row") (zs:=[]) (is:=[]) (q := "law.<locals>.<lambda>") rfl ⟨hcd.symm.trans T.JV,T.JQ,hbm⟩ hr rfl rfl T.z_sorted (pv 5) (jA.many .nil .nil ‹2› rfl ‹2› rfl rfl rfl) (by first | rfl | decide +kernel) rfl (fun _ _ _ _ _=>(vq (aa (pX K (pv 0) aj) (aa (pX K (pv 0) aj) ag))))) ag))) (fun _=>rfl)))
 (ax (aM dy))
 bh)
 (af (cu (PW.pt (zz (aZ ‹24› (aF (bw (K:=K) rfl) rfl T.z_len cN (aa (pv 2) ag)) aj (aT _)) (vk (dm (bq (K:=K) rfl (fP (pB T hbm) (T.F 29 rfl) hr (aa (pv 1) (aa (pX K (pv 2) aj) (aa aj ag)))) (fun _=>rfl))))))
 (ax (aM dy))
 bh)
 (ax (aM (Ic (cO (mi (K:=K) hr.units) (aF (bw (K:=K) rfl) rfl T.z_len cN (aa (pv 1) ag)) aj (aT _)) (kc (fP (pB T hbm) (T.F 29 rfl) hr (aa (pv 1) (aa (pX K (pv 1) aj) (aa aj ag)))))))))))))))))))),
 (av (bp (aI (aD (ae 0) ay)))
 (av (bp (aI (aD (ae 1) ay)))
 (av (cH (aY (aq.b (c0 (neg:=true) (aq.b (aI (aD (ae 2) ay))) (aq.b (aI (aD (ae 1) ay))))))
 (aP fk)
 bz)
 (av (cH (za (aY (aq.b (c0 (neg:=true) (ae 2) (aq.b (bF.l ‹59›))))) (aY (aq.b (c0 (neg:=true) (aq.b (aI (aD (ae 2) ay))) (aq.b (Gz (aI (aD (ae 1) ay)) jd jd (kO (aq.b (jf ak)))))))))
 (aP fk)
 bz)
 (av (bp (aI (aD (ae 1) ay)))
 (av (cH (du (cQ (K:=K) (aq.b (aI (aQ (aE 1) (aQ (aE 3) ay))))))
 (aP fk)
 bz)
 (av (cH (du (cQ (K:=K) (aq.b (aI (aQ (aE 2) (aQ (bF.l (bP (m:=true) (k:=2) (cs:=[]) (gh.c (dX (aE 3))) (lJ (bH (aH 0) (bH (aH 1) fL))) bU (bF.l (bQ (n:=2) (aQ (aE 0) (aQ (bF.l (bP (m:=true) (k:=1) (cs:=[]) (gh.c (dX (aE 1))) (aH 0) bU (bF.l (Ej (aE 0) jd jd (kO (aq.b (jf ak))))))) ay)) ‹11›)))) ay))))))
 (aP fk)
 bz)
 (av (bp (aI (aD (ae 1) ay)))
 (av (cH (du (cQ (K:=K) (aq.b (aI (aD (ae 1) (aQ (aE 4) ay))))))
 (aP fk)
 bz)
 (av (qa (bF.l (bP (m:=true) (k:=1) (cs:=[]) (gh.c (dX (aE 4))) (aH 0) bU (bF.l (oy (bF.l (Ej (aE 0) (kO ak) jd (kO (aq.b (jf ak))))) (bF.l (HX (aE 0) (kO ak) jd)))))))
 (av (cH (du (cQ (K:=K) (aq.b (aI (aD (ae 2) (aQ (bF.l (Ei T.JP (aE 5) (uZ (n:=2) (aQ (gn (aE 0) ak) (aQ (gn (aE 0) ak) ay)) ‹11›))) ay))))))
 (aP fk)
 bz)
 (av (cH (za (aY (aq.b (c0 (neg:=false) (aq.b (cR (ae 2))) ak))) (du (cQ (K:=K) (aq.b (aI (aD (ae 1) (aD (a9 (ae 2) ak) (aD ak ay))))))))
 (aP fk)
 bz)
 (aP (Eg (aq.b (c0 (neg:=true) (aq.b (cR (ae 1))) ak)) (aI (aD (ae 1) (aD (a9 (ae 1) ak) (aD ak ay))))))))))))))))))⟩
end
local macro_rules | `(tactic| walk_at "sd")=>`(tactic| first | assumption | lia | decide | (simp only [List.length_map,List.length_cons,List.length_nil]; lia) | ((with_reducible apply And.intro) <;> walk_at "sd"))
local macro_rules | `(tactic| walk_at "fn")=>`(tactic| assumption)
local macro_rules | `(tactic| walk_at "ix")=>`(tactic| first | exact Nn (by lia) (by lia) | exact MC (by lia) (by lia) | exact ix2I _ _ _ | exact ix3I _ _ _ _ | exact ix4I _ _ _ _ _ | rfl)
local macro_rules | `(tactic| walk_at "ev")=>`(tactic| first
 | ((with_reducible first | apply g8 | apply oS | apply nc | apply Fw | apply ng | apply Iy | apply vU | apply vT | apply au | apply iJ | apply oV); (· walk_at "ev"); (· walk_at "ev"))
 | ((with_reducible first | apply rS | apply dt | apply gc | apply Hj | apply bf | apply Ab | apply m9); (· walk_at "ev"))
 | ((with_reducible first | apply cL | apply k5 | apply cJ | apply bN | apply rV); (· walk_at "ev"); (· rfl))
 | ((with_reducible first | apply mC | apply lO | apply fS | apply Ad); (· walk_at "ev"); (· intro _; walk_at "ev"))
 | ((with_reducible first | show ai _ _=_ | show aC _ _=_ | show rX _ _=_ | show dC _ _=_ | show aS _=_ | show ij _=_ | show bM _=_); rfl)
 | ((with_reducible apply ba); (· walk_at "ev"); (· walk_at "ev"); (· walk_at "ix"))
 | ((with_reducible apply aO); (· walk_at "ev"); (· walk_at "fn"))
 | ((with_reducible first | apply ev_chain | apply Fu); (· walk_at "ev"); (· walk_at "ev"); (· walk_at "ev"))
 | ((with_reducible apply rT); (· walk_at "ev"); (· walk_at "ev"); (· first | assumption | (apply Ff; lia)))
 | ((with_reducible apply Hn); (· walk_at "ev"); (· walk_at "ev"); (· first | exact MJ (by lia) (by lia) | walk_at "sd"))
 | ((with_reducible first | apply Kj | apply Kh); (· walk_at "ev"); (· walk_at "ev"); (· walk_at "sd"))
 | ((with_reducible apply rR); (· walk_at "ev"); (· walk_at "sd"))
 | ((with_reducible apply Ac); (· walk_at "ev"); (· walk_at "ev"); (· simp only [Oy,Pm]; walk_at "sd")))
local macro_rules | `(tactic| walk_at "st")=>`(tactic| dsimp only [List.set_cons_succ,List.set_cons_zero])
local macro_rules | `(tactic| walk_at "go")=>`(tactic| ((try dsimp only); walk_at "go1"))
local macro_rules | `(tactic| walk_at "go1")=>`(tactic| first
 | ((with_reducible apply wp_seq); walk_at "go")
 | ((with_reducible apply yN); dsimp only [kZ,SJ,RA,NX,NV]; walk_at "go")
 | ((with_reducible apply br); (· walk_at "ev"); walk_at "st"; walk_at "go")
 | ((with_reducible apply fK); (· walk_at "ev"); (· simp only [Oy,Pm]; lia); walk_at "st"; walk_at "go")
 | ((with_reducible apply nZ); (· rfl); (· walk_at "ev"); walk_at "st"; walk_at "go")
 | ((with_reducible apply bL); (try dsimp only); walk_at "go")
 | skip)
theorem BP (ns:List Int) (k:Int) (h:0≤k):c4 [.scr ns,.int k]=some (.int (ns.getD k.toNat 0)):=by
 refine cf jM ?_;rw [uU];unfold iE;walk_at "go";refine l4 (by walk_at "ev") (fun c=>?_) fun c=>?_
 ·refine bC (by walk_at "ev") rfl
 ·walk_at "go";refine bC (by walk_at "ev") ?_;rw [NF,OL (by lia)];rfl
def mq (c k:Int):Int:=(c*48271+k*k*69621+3) % 2147483647*((c*48271+k*k*69621+3) % 2147483647) % 2147483629
theorem mixed (c k:Int) (h0:0≤k) (h:k<2 ^ 31):fJ [.int c,.int k]=some (.int (mq c k)):=by
 refine cf lX ?_;rw [y7];unfold lp;have hk:k*k<2 ^ 64:=by have:=WE (a:=k) (b:=k) (c:=2 ^ 31) (d:=2 ^ 31) (by lia) (by lia) h0 (by lia);lia
 have hk0:0≤k*k:=R9 h0 h0;walk_at "go";refine bC (by walk_at "ev") ?_;rfl
theorem t8 (c k:Int):0≤mq c k:=Wj _ ‹11›
local macro_rules | `(tactic| walk_at "fn")=>`(tactic| first | exact BP _ _ (by lia) | exact mixed _ _ (by lia) (by lia))
theorem uI {lo:Int} (h:(wJ lo n)[j]?=some d):j<n∧d=.int (lo+j):=AB h
theorem ug {k:Nat} {v:Int} (h:j<xs.length):(xs.set j v).getD k 0=if k=j then v else xs.getD k 0:=by
 rw [NF,VS,NF];by_cases c:j=k
 ·subst c;rw [if_pos rfl,if_pos h,if_pos rfl];rfl
 ·rw [if_neg c,if_neg (P9 c)]
theorem xg (xs:List Int) (j:Nat) (v:Int):(xs.map D.int).set j (.int v)=(xs.set j v).map D.int:=by rw [Uu]
theorem mem_getD {p:List Int} {k:Nat} (hk:k<p.length):p.getD k 0∈p:=by rw [NF,NG hk]; exact PF hk
def aJ (T:List (List Int)):D:=.lst (T.map fun r=>.lst (r.map D.int))
theorem GY (ns:List Int) (hl:ns.length≤63):∃ xs:List Int,f6 [.scr ns]=some (.lst (xs.map D.int))∧xs.length=36∧∀ x∈xs,0≤x∧x<2147483629:=by
 have hline:NM=16777216:=OA;have mb:∀ c k,0≤mq c k∧mq c k<2147483629:=fun c k=>⟨t8 c k,Vz _ ‹11›⟩
 obtain ⟨d,e,xs,rfl,h1,h2⟩:=mU jL (ds:=[.scr ns]) (P:=fun d=>∃ xs:List Int,d=.lst (xs.map D.int)∧xs.length=36∧∀ x∈xs,0≤x∧x<2147483629) (by
  rw [uT];unfold iD;walk_at "go";refine fK (ds:=((N4 36).map fun (i:Nat)=>mq (ns.getD (2:Int).toNat 0) (90+(0+(i:Int)))).map D.int) ?_ (by show 1<3; decide) ?_
  ·rw [FA (by walk_at "ev") (fun d=>match d with | .int k=>.int (mq (ns.getD (2:Int).toNat 0) (90+k)) | d=>d) ?_]
   ·unfold wJ;rw [N0,N0];rfl
   ·intro d hd;obtain ⟨i,hi⟩:=Pp hd;obtain ⟨h1,rfl⟩:=uI hi;exact ⟨_,rfl,by walk_at "ev"⟩
  walk_at "st";generalize hx0:((N4 36).map fun (i:Nat)=>mq (ns.getD (2:Int).toNat 0) (90+(0+(i:Int))))=xs0;have hx:xs0.length=36∧∀ x∈xs0,0≤x∧x<2147483629:=by rw [← hx0];refine ⟨by simp,fun x hx=>?_⟩;obtain ⟨i,_,rfl⟩:=NW.mp hx;exact mb _ _
  clear hx0;walk_at "go";refine fq (by walk_at "ev") (fun j ρ=>∃ xs v2,(xs.length=36∧∀ x∈xs,0≤x∧x<2147483629)∧ρ=[.bo (.scr ns),.ol (xs.map D.int),v2]) ⟨xs0,.un,hx,rfl⟩ ?_ ?_
  ·rintro j d ρ hd ⟨xs,v2,hx,rfl⟩;obtain ⟨hj,rfl⟩:=uI hd;refine ⟨_,rfl,?_⟩;dsimp only [gN,zh,NX,NV];have hx1:=hx.1;refine yM rfl (by walk_at "ev") (by walk_at "ev") (fF (by lia) (by rw [NH]; lia)) ?_;dsimp only [NX,NV];rw [xg];refine ⟨_,_,⟨by rw [Pb]; exact hx1,fun x hm=>?_⟩,rfl⟩;rcases Th hm with h | rfl
   ·exact hx.2 x h
   ·exact mb _ _
  ·rintro ρ ⟨xs,v2,hx,rfl⟩;walk_at "go";exact bC (by walk_at "ev") ⟨xs,rfl,hx⟩)
 exact ⟨xs,e,h1,h2⟩
theorem size (c:Int):∃ m:Int,iZ [.int c]=some (.int m)∧0≤m∧m≤6:=by obtain ⟨d,e,m,rfl,h1⟩:=mU nO (ds:=[.int c]) (P:=fun d=>∃ m:Int,d=.int m∧0≤m∧m≤6) (by rw [Ce];unfold nU;walk_at "go";refine l4 (by walk_at "ev") (fun c=>bC (by walk_at "ev") ⟨_,rfl,by lia,by lia⟩) fun c=>?_;walk_at "go";exact bC (by walk_at "ev") ⟨_,rfl,by lia,by lia⟩);exact ⟨m,e,h1⟩
theorem LG (x m:Int) (h0:0≤x) (h1:x<2147483629):∃ h:Int,i7 [.int x,.int m]=some (.int h)∧0≤h:=by
 obtain ⟨d,e,m,rfl,h1⟩:=mU lY (ds:=[.int x,.int m]) (P:=fun d=>∃ m:Int,d=.int m∧0≤m) (by
  rw [y8];unfold lu;walk_at "go";refine l4 (by walk_at "ev") (fun c=>bC (by walk_at "ev") ⟨_,rfl,by lia⟩) fun c=>?_;walk_at "go";refine l4 (by walk_at "ev") (fun c=>?_) fun c=>?_
  ·refine bC (rT (by walk_at "ev") (by walk_at "ev") (Ff (.inl ⟨by lia,by lia⟩))) ⟨_,rfl,R9 (by lia) (by split <;> lia)⟩
  walk_at "go";refine l4 (by walk_at "ev") (fun c=>?_) fun c=>?_
  ·refine bC (g8 (rT (by walk_at "ev") (Fv rfl rfl ⟨by decide,by decide,by decide⟩) (Ff (.inl ⟨by lia,by lia⟩))) (by walk_at "ev")) ⟨_,rfl,WG (R9 (by lia) ‹11›) (t8 _ _)⟩
  walk_at "go";exact bC (rT (by walk_at "ev") (Fv rfl rfl ⟨by decide,by decide,by decide⟩) (Ff (.inl ⟨by lia,by lia⟩))) ⟨_,rfl,R9 (by lia) ‹11›⟩)
 exact ⟨m,e,h1⟩
structure Tab (T:List (List Int)) (m:Nat):Prop where
 len:T.length≤6
 F0:∀ r∈T,r.length=m
 F8:m≤6
 nn:∀ r∈T,∀ x∈r,0≤x
theorem table (ns:List Int) (hl:ns.length≤63):∃ (T:List (List Int)) (m:Nat),iY [.scr ns]=some (aJ T)∧Tab T m:=by
  have hline:NM=16777216:=OA;obtain ⟨xs,ex,hx1,hx2⟩:=GY ns hl;obtain ⟨hd,eh,hh0,hh1⟩:=size (ns.getD (0:Int).toNat 0);obtain ⟨bn,eb,hb0,hb1⟩:=size (ns.getD (1:Int).toNat 0)
  obtain ⟨d,e,T,m,rfl,hT⟩:=mU lV (ds:=[.scr ns]) (P:=fun d=>∃ (T:List (List Int)) (m:Nat),d=aJ T∧Tab T m) (by
    rw [y0];unfold lh;walk_at "go";generalize hM:bn*_=M;have hm:0≤M∧M≤6:=by rw [← hM]; split <;> lia
    clear hM;generalize ns.getD (2:Int).toNat 0=c
    refine fq (by walk_at "ev") (fun j ρ=>∃ (T:List (List Int)) (v6 v7 v8 v9:Sl),T.length=j∧(∀ r∈T,r.length=M.toNat)∧(∀ r∈T,∀ x∈r,0≤x)∧ρ=[.bo (.scr ns),.pu (.lst (xs.map D.int)),.pu (.int c),.pu (.int hd),.pu (.int M),.ol (T.map fun r=>.lst (r.map D.int)),v6,v7,v8,v9])
      ⟨[],_,_,_,_,rfl,by simp,by simp,rfl⟩ ?_ ?_
    · rintro j d ρ hd' ⟨T,v6,v7,v8,v9,hT1,hT2,hT3,rfl⟩;obtain ⟨hj,rfl⟩:=uI hd';refine ⟨_,rfl,?_⟩;dsimp only [gN,zh,NX,NV];walk_at "go"
      refine fq (by walk_at "ev") (fun i ρ=>∃ (r:List Int) (v8 v9:Sl),r.length=i∧(∀ x∈r,0≤x)∧ρ=[.bo (.scr ns),.pu (.lst (xs.map D.int)),.pu (.int c),.pu (.int hd),.pu (.int M),.ol (T.map fun r=>.lst (r.map D.int)),.pu (.int (0+(j:Int))),.ol (r.map D.int),v8,v9])
        ⟨[],_,_,rfl,by simp,rfl⟩ ?_ ?_
      · rintro i d ρ hd2 ⟨r,v8,v9,hr1,hr2,rfl⟩;obtain ⟨hi,rfl⟩:=uI hd2;refine ⟨_,rfl,?_⟩;dsimp only [gN,zh,NX,NV];walk_at "go";have hk:(6*(0+(j:Int))+(0+(i:Int))).toNat<xs.length:=by lia
        obtain ⟨h,e2,hh⟩:=LG (xs.getD (6*(0+(j:Int))+(0+(i:Int))).toNat 0) (c % 4) (hx2 _ (mem_getD hk)).1 (hx2 _ (mem_getD hk)).2;refine n4 rfl (rT (aO (by walk_at "ev") e2) (cJ (by walk_at "ev") rfl) (Ff (.inr ⟨by split <;> lia,by split <;> lia⟩))) (by rw [NH]; lia) ?_;dsimp only [NX,NV];refine ⟨r++[_],_,_,by rw [N7,hr1]; rfl,fun x hm=>?_,by rw [Od]; rfl⟩;rcases NZ.mp hm with h | h
        · exact hr2 x h
        · rw [NL.mp h];exact R9 hh (by split <;> lia)
      · rintro ρ ⟨r,v8,v9,hr1,hr2,rfl⟩;rw [p6] at hr1;walk_at "go";refine n4 rfl (by walk_at "ev") (by rw [NH]; lia) ?_;dsimp only [NX,NV];refine ⟨T++[r],_,_,_,_,by rw [N7,hT1]; rfl,fun x hm=>?_,fun x hm=>?_,by rw [Od]; rfl⟩
        · rcases NZ.mp hm with h | h
          · exact hT2 x h
          · rw [NL.mp h]; exact hr1
        · rcases NZ.mp hm with h | h
          · exact hT3 x h
          · rw [NL.mp h]; exact hr2
    · rintro ρ ⟨T,v6,v7,v8,v9,hT1,hT2,hT3,rfl⟩;rw [p6] at hT1;walk_at "go";exact bC (by walk_at "ev") ⟨T,M.toNat,rfl,⟨by lia,hT2,by lia,hT3⟩⟩)
  exact ⟨T,m,e,hT⟩
theorem G4 (x:D) (xs:List D):C6 (.lst (x::xs)) 0=some x:=by show jR (x::xs) 0=_;unfold jR ixN;rw [if_pos (O6 0),if_pos (by rw [Oy]; lia)];rfl
def cF (T:List (List Int)):Nat:=match T with
 | []=>0
 | r::_=>r.length
def LM (T:List (List Int)) (j:Nat):Int:=(T.map fun r=>r.getD j 0).sum
def cols (T:List (List Int)):List Int:=(N4 (cF T)).map (LM T)
def cm (T:List (List Int)):List Int:=T.map T5
theorem Tab.w (h:Tab T m):∀ r∈T,r.length=cF T:=by
 intro r hr;cases T with
 | nil=>cases hr
 | cons a b=>rw [h.F0 r hr]; exact (h.F0 a NJ).symm
theorem Tab.w6 (h:Tab T m):cF T≤6:=by
 cases T with
 | nil=>exact O1 _
 | cons a b=>show a.length≤6; rw [h.F0 a NJ]; exact h.F8
theorem BO (hT:∀ r∈T,r.length=cF T) (h6:cF T≤1000) {it:aK→Option (List D)} (i:Nat) (h:it ρ=some (wJ 0 (cF T))) (ht:ai 0 [view (ρ.getD i .un)]=some (aJ T)) :
 bJ 1 [i] it (gN true 0) bM (fo uO (bu ‹25›)) ρ=some ‹38›:=by
 have e:wJ 0 (cF T)=(N4 (cF T)).map fun (j:Nat)=>D.int (0+(j:Int)):=rfl;rw [e] at h;rw [b9 (fun (j:Nat)=>D.int (0+(j:Int))) h (fun j=>D.int (LM T j)) ?_]
 ·unfold cols;rw [N0];rfl
 ·intro j hj;have hj:=Ow.mp hj;refine ⟨_,rfl,?_⟩;dsimp only [gN,zh,r0,Oz,Oq,QI,List.append,Q0,Qt,NV];refine cJ (bf (b9 (fun r=>D.lst (r.map D.int)) (bN (d:=aJ T) ?_ rfl) (fun (r:List Int)=>D.int (r.getD j 0)) ?_)) ?_
  ·exact ht
  ·intro r hr;have hl:=hT r hr;refine ⟨_,rfl,?_⟩;dsimp only [gN,zh,r0,Oz,Oq,QI,List.append,Q0,Qt,NV,RA,view];have ej:(0+(j:Int)).toNat=j:=by lia
   have:=MC (ns:=r) (i:=0+(j:Int)) (by lia) (by lia);rw [ej] at this;exact k5 (ba rfl rfl this) rfl
  ·have e2:(T.map fun r=>D.int (r.getD j 0))=(T.map fun r=>r.getD j 0).map D.int:=by rw [N0]; rfl
   rw [e2];exact oo _
theorem A8 (ha:a ρ=some (aJ T)):bJ 1 [] (fH a) (gN false 0) bM (fo uO (ai 0)) ρ=some ‹33›:=by rw [b9 (fun r=>D.lst (r.map D.int)) (bN ha rfl) (fun (r:List Int)=>D.int r.sum) fun r _=>⟨_,rfl,cJ rfl (oo _)⟩];unfold cm;rw [N0];rfl
theorem xY (hT:∀ r∈T,r.length=cF T) (h6:cF T≤1000):gI [aJ T]=some (.tup [.lst ‹33›,.lst ‹38›]):=by
 have hline:NM=16777216:=OA;refine cf pK ?_;rw [D5];unfold qv
 have e1:L6 (fY (ai 0)) (fo dJ ‹56›) ‹6› [.bo (aJ T),.un,.un]=some (.int (cF T:Nat)):=by
  cases T with
  | nil=>rfl
  | cons a b =>
   have e3:fo dJ ‹56› [.bo (aJ (a::b)),.un,.un]=some (.int (a.length:Nat)):=by refine cJ (ba rfl rfl (G4 _ _)) ?_;show some (D.int ((a.map D.int).length:Nat))=_;rw [NH]
   exact e3
 refine wp_seq (br e1 ?_);walk_at "go";have ew:((cF T:Nat):Int).toNat=cF T:=by lia
 have e2:iK (ai 1) [.bo (aJ T),.pu (.int (cF T:Nat)),.un]=some (wJ 0 (cF T)):=by have:=rR (ρ:=[.bo (aJ T),.pu (.int (cF T:Nat)),.un]) (a:=ai 1) (i:=(cF T:Nat)) rfl ⟨by lia,by lia⟩;rw [ew] at this;exact this
 refine br (bf (BO hT h6 0 e2 rfl)) ?_;walk_at "go";exact bC (Ab (au (bf (A8 rfl)) ‹45›)) rfl
theorem yW:∀ (xs:List Int),(∀ x∈xs,0≤x)→0≤xs.sum
 | [],_=>O6 _
 | x::r,h=>by rw [P8]; exact WG (h x NJ) (yW r fun y hy=>h y (NI _ hy))
theorem Gp (hn:∀ r∈T,∀ x∈r,0≤x):∀ x∈cm T++cols T,0≤x:=by
 intro x hx;rcases NZ.mp hx with h | h
 ·obtain ⟨r,hr,rfl⟩:=NW.mp h;exact yW r (hn r hr)
 ·obtain ⟨j,_,rfl⟩:=NW.mp h;refine yW _ fun y hy=>?_;obtain ⟨r,hr,rfl⟩:=NW.mp hy;rw [NF];cases e:r[j]? with
  | none=>exact O6 _
  | some z=>exact hn r hr z (OF e)
theorem whole (x:Int):dN [.int x]=some (.bl true):=by refine cf lS ?_;rw [yZ];unfold lg;exact bC (fS (x:=true) (y:=true) rfl fun _=>rfl) rfl
def bT (T:List (List Int)):Int:=m3 0 (cm T++cols T)
theorem t9 {y:Int} {r s:List Int} (h:∀ a,a∈x::r↔a∈y::s):m3 x r=m3 y s :=
 kl (ns:=x::r) (aX r x).1 (aX r x).2 ((h _).mpr (aX s y).1) fun a ha=>(aX s y).2 a ((h a).mp ha)
theorem mZ (hT:∀ r∈T,r.length=cF T) (h6:cF T≤1000) (hl:T.length≤1000) (hn:∀ r∈T,∀ x∈r,0≤x):dD [aJ T]=some (.int (bT T)):=by
 have hline:NM=16777216:=OA;have e1:=xY hT h6;refine cf kG ?_;rw [wU];unfold jC;walk_at "go";have lr:(cm T).length=T.length:=NH ..;have lc:(cols T).length=cF T:=by unfold cols; simp
 have e2:∀ ρ:aK,ρ=[.bo (aJ T),.pu (.tup [.lst ‹33›,.lst ‹38›])]→bu (mF (bZ (aC 1) ‹6›) (bZ (aC 1) ‹17›)) ρ=some (.lst ((cm T++cols T).map D.int)):=by rintro ρ rfl;rw [Od];exact bf (mB ‹19› ‹19› (by rw [NH,NH]; lia))
 cases e3:cm T++cols T with
 | nil =>refine bC (Hl (by rw [e2 _ rfl,e3]; rfl) rfl) ?_;unfold bT;rw [e3];rfl
 | cons x r =>
  refine bC (Ki (by rw [e2 _ rfl,e3]) rfl) ?_
  have hx:0≤x:=by
   have:x∈cm T++cols T:=by rw [e3]; exact NJ
   exact Gp hn x this
  unfold bT;rw [e3];congr 1;refine kl (ns:=0::x::r) (NI _ (aX r x).1) (fun a ha=>?_) (aX (x::r) 0).1 (aX (x::r) 0).2;rcases NU.mp ha with rfl | ha
  ·exact SU hx ((aX r x).2 x NJ)
  ·exact (aX r x).2 a ha
theorem JO (hT:∀ r∈T,r.length=cF T) (h6:cF T≤1000) (hl:T.length≤1000):kJ [aJ T]=some (.tup [.lst ‹33›,.lst ‹38›]):=by
 have hline:NM=16777216:=OA;refine cf nN ?_;rw [Cd];unfold nT;refine wp_seq (br (bf (A8 rfl)) ?_);walk_at "go"
 have e1:fo maxD (bu (mF (bu (bJ 1 [] (fH (ai 0)) (gN false 0) bM (fo dJ (ai 0)))) (bu (ao ‹6› aS)))) [.bo (aJ T),.pu (.lst ‹33›),.un]=some (.int (cF T:Nat)):=by
  have e2:bJ 1 [] (fH (ai 0)) (gN false 0) bM (fo dJ (ai 0)) [.bo (aJ T),.pu (.lst ‹33›),.un]=some ((T.map fun (r:List Int)=>(r.length:Int)).map D.int):=by rw [b9 (fun (r:List Int)=>D.lst (r.map D.int)) (bN (d:=aJ T) rfl rfl) (fun (r:List Int)=>D.int (r.length:Nat)) fun (r:List Int) _=>⟨_,rfl,cJ rfl (by show some (D.int ((r.map D.int).length:Nat))=_; rw [NH])⟩];rw [N0];rfl
  refine cJ (bf (mB (bf e2) rfl (by simp; lia))) ?_;have e3:(T.map fun (r:List Int)=>(r.length:Int)).map D.int++[D.int 0]=((T.map fun (r:List Int)=>(r.length:Int))++[0]).map D.int:=by rw [Od]; rfl
  rw [e3];cases T with
  | nil=>rfl
  | cons a b =>
   show maxD (.lst (((a.length:Int)::((b.map fun (r:List Int)=>(r.length:Int))++[0])).map D.int))=_;rw [kY];congr 2;refine kl (aX _ _).1 (aX _ _).2 (show ((cF (a::b):Nat):Int)∈_ from NJ) fun x hx=>?_;rcases NU.mp hx with rfl | hx
   ·exact O6 _
   ·rcases NZ.mp hx with hx | hx
    ·obtain ⟨r,hr,rfl⟩:=NW.mp hx;rw [hT r (NI _ hr)];exact O6 _
    ·rw [NL.mp hx]; lia
 refine br e1 ?_;walk_at "go";have ew:((cF T:Nat):Int).toNat=cF T:=by lia
 have e2:iK (ai 2) [.bo (aJ T),.pu (.lst ‹33›),.pu (.int (cF T:Nat))]=some (wJ 0 (cF T)):=by have:=rR (ρ:=[.bo (aJ T),.pu (.lst ‹33›),.pu (.int (cF T:Nat))]) (a:=ai 2) (i:=(cF T:Nat)) rfl ⟨by lia,by lia⟩;rw [ew] at this;exact this
 exact bC (Ab (au rfl (au (bf (BO hT h6 0 e2 rfl)) rfl))) rfl
theorem Ij (hT:∀ r∈T,r.length=cF T) (h6:cF T≤1000) (hl:T.length≤1000):k8 [aJ T]=some (.int (bT T)):=by
 have hline:NM=16777216:=OA;have e1:=JO hT h6 hl;refine cf pM ?_;rw [D7];unfold qz;walk_at "go";have lr:(cm T).length=T.length:=NH ..;have lc:(cols T).length=cF T:=by unfold cols; simp
 have e2:bu (mF (bu (mF (bZ (aC 1) ‹6›) (bZ (aC 1) ‹17›))) (bu (ao ‹6› aS))) [.bo (aJ T),.pu (.tup [.lst ‹33›,.lst ‹38›])]=some (.lst ((cm T++cols T++[0]).map D.int)):=by rw [Od,Od];exact bf (mB (bf (mB ‹19› ‹19› (by rw [NH,NH]; lia))) rfl (by simp; lia))
 have e3:maxD (.lst ((cm T++cols T++[0]).map D.int))=some (.int (bT T)):=by
  unfold bT;cases e4:cm T++cols T with
  | nil=>rfl
  | cons x r =>show maxD (.lst ((x::(r++[0])).map D.int))=_;rw [kY];congr 2;exact t9 fun a=>by simp; constructor <;> (rintro (h | h | h) <;> simp [h])
 exact bC (cJ e2 e3) rfl
theorem B3 (ha:a ρ=some (.lst (xs.map D.int))):fo Ky (bu (bJ 1 [] (fH a) (gN true 0) bM (bb dN (ao (ai 0) aS)))) ρ=some (.bl true):=by
 refine cJ (bf (b9 D.int (bN ha rfl) (fun _=>.bl true) fun x _=>⟨_,rfl,aO ‹45› (whole x)⟩)) ?_;have:(xs.map fun _=>D.bl true)=(xs.map fun _=>true).map D.bl:=by rw [N0]; rfl
 rw [this];show (pN _).map _=_;rw [AD];show some (D.bl ((xs.map fun _=>true).all id))=_;rw [Um];congr 2;rw [Pj];intro x _;rfl
structure Match (h b:Nat) (l:Int→Int→Int) (R:Int) (T:Tk):Prop where
 own:∀ j,j∈bV b→∃ u,getZ T j=some u∧((u∈bV h∧0<l u j)∨(u=h+j∧eO h l j<R))
 inj:∀ s t u,getZ T s=some u→getZ T t=some u→s=t
 free:∀ i,i∈bV h→(∃ j,j∈bV b∧getZ T j=some i)∨dI b l i<R
theorem matched {b:Nat} {l:Int→Int→Int} (f:Fits h b l R) (hR:0<R) (hn:b+h<n):∃ T,eV (sR h b l R) n (bV (h+b)) []=some T∧Match h b l R T:=by
 have E:=Kg f hR;obtain ⟨T,e,F⟩:=qI E vD (n:=n) (by rw [fM]; exact hn) (bV (h+b)) (fun _=>False) [] (fun x hx=>⟨hx,fun z=>z⟩) (dg _) (fun u z=>z.elim) ⟨fun s t u z=>(by cases z),fun t u z=>(by cases z),fun t u z=>(by cases z),fun u z=>z.elim⟩;refine ⟨T,e,?_⟩;have hX:∀ u,u∈bV (h+b)→∃ t,getZ T t=some u:=fun u hu=>F.all u (.inr hu);have inX:∀ t u,getZ T t=some u→u∈bV (h+b):=fun t u z=>(F.own t u z).resolve_left fun z=>z;have Bz:∀ t u,getZ T t=some u→t∈bV (b+h):=fun t u z=>vD u t (F.sY t u z)
 /- every thing is taken -/
 have every:∀ t,t∈bV (b+h)→∃ u,getZ T t=some u:=by
  intro t0 ht0;refine Ti fun no=>?_
  have pick:∀ xs:List Int,xs.Nodup→(∀ u∈xs,u∈bV (h+b))→∃ ts:List Int,ts.length=xs.length∧ts.Nodup∧(∀ t∈ts,∃ u∈xs,getZ T t=some u):=by
   intro xs;induction xs with
   | nil=>intro _ _; exact ⟨[],rfl,O8,fun t z=>by cases z⟩
   | cons x xs ih =>
    intro nd hx;obtain ⟨h1,h2⟩:=Of.mp nd;obtain ⟨ts,e1,e2,e3⟩:=ih h2 fun u hu=>hx u (NI _ hu);obtain ⟨t,ht⟩:=hX x (hx x NJ);refine ⟨t::ts,by rw [Oy,Oy,e1],Of.mpr ⟨fun z=>?_,e2⟩,fun s hs=>?_⟩
    ·obtain ⟨u,hu,q⟩:=e3 t z;rw [ht] at q;cases q;exact h1 hu
    ·rcases NU.mp hs with z | z
     ·exact ⟨x,NJ,by rw [z]; exact ht⟩
     ·obtain ⟨u,hu,q⟩:=e3 s z;exact ⟨u,NI _ hu,q⟩
  obtain ⟨ts,e1,e2,e3⟩:=pick (bV (h+b)) (dg _) fun u hu=>hu;have sub:∀ t∈ts,t∈(bV (b+h)).erase t0:=fun t ht=>by obtain ⟨u,_,q⟩:=e3 t ht;exact (Sx (fun z:t=t0=>no ⟨u,by rw [← z]; exact q⟩)).mpr (Bz t u q)
  have:=mn e2 sub;rw [e1,TN ht0,fM,fM] at this;have:0<(bV (b+h)).length:=Ut ht0;rw [fM] at this;lia
 refine ⟨fun j hj=>?_,F.inj,fun i hi=>?_⟩
 ·have hj':=aA.mp hj;obtain ⟨u,hu⟩:=every j (aA.mpr (by lia));refine ⟨u,hu,?_⟩;have ed:=F.sY j u hu;unfold sR at ed;split at ed
  ·rename_i c;refine .inl ⟨aA.mpr c,?_⟩;rcases NZ.mp ed with z | z
   ·exact of_decide_eq_true (OJ.mp z).2
   ·split at z
    ·have:=NL.mp z;lia
    ·cases z
  ·split at ed
   ·rename_i c;rcases NZ.mp ed with z | z
    ·obtain ⟨i,hi,q⟩:=NW.mp z;have:=aA.mp hi;lia
    ·split at z
     ·rename_i d;have z:=NL.mp z;exact .inr ⟨by lia,by rw [z]; exact d⟩
     ·cases z
   ·cases ed
 ·have hi':=aA.mp hi;obtain ⟨t,ht⟩:=hX i (aA.mpr (by lia));by_cases c:t<b
  ·have:=aA.mp (Bz t i ht);exact .inl ⟨t,aA.mpr (by lia),ht⟩
  ·have ed:=F.sY t i ht;unfold sR at ed;rw [if_pos hi'] at ed;rcases NZ.mp ed with z | z
   ·have:=aA.mp (OJ.mp z).1;lia
   ·split at z
    ·rename_i d; exact .inr d
    ·cases z
theorem qS {f g:Int→Int} {a:Int}:∀ {l:List Int},(∀ t∈l,f t≤g t)→a∈l→f a<g a→cW l f<cW l g
 | [],_,h,_=>by cases h
 | x::l,hle,h,hlt=>by
  rw [bG,bG];have h1:=hle x NJ;have h2:=fB (l:=l) fun t ht=>hle t (NI _ ht);rcases NU.mp h with z | z
  ·subst z; lia
  ·have:=qS (l:=l) (fun t ht=>hle t (NI _ ht)) z hlt;lia
section
open Classical
def Sel (h b:Nat) (T:Tk) (i j:Int):Prop:=j∈bV b∧i∈bV h∧getZ T j=some i
noncomputable def after (h b:Nat) (l:Int→Int→Int) (T:Tk) (H:Int) (i j:Int):Int:=if Sel h b T i j then l i j-H else l i j
noncomputable def loose (h b:Nat) (l:Int→Int→Int) (R:Int):Int:=cW (bV h) (fun i=>cW (bV b) fun j=>if 0<l i j then 1 else 0)+cW (bV h) (fun i=>if dI b l i<R then 1 else 0)+cW (bV b) (fun j=>if eO h l j<R then 1 else 0)
structure wt (h b:Nat) (l:Int→Int→Int) (R:Int) (T:Tk) (H:Int):Prop where
 pair:∀ i j,Sel h b T i j→H≤l i j
 hand:∀ i,i∈bV h→(∀ j,¬ Sel h b T i j)→H≤R-dI b l i
 LN:∀ j,j∈bV b→(∀ i,¬ Sel h b T i j)→H≤R-eO h l j
 at_:(∃ i j,Sel h b T i j∧H=l i j)∨(∃ i,i∈bV h∧(∀ j,¬ Sel h b T i j)∧H=R-dI b l i)∨∃ j,j∈bV b∧(∀ i,¬ Sel h b T i j)∧H=R-eO h l j
theorem wt.ge {b:Nat} {l:Int→Int→Int} {T:Tk} (m:Match h b l R T) (g:wt h b l R T H):1≤H:=by
 rcases g.at_ with ⟨i,j,s,e⟩ | ⟨i,hi,n,e⟩ | ⟨j,hj,n,e⟩
 ·obtain ⟨u,hu,q⟩:=m.own j s.1;rw [s.2.2] at hu;cases hu;have hi:=aA.mp s.2.1;rcases q with q | q
  ·have:=q.2; lia
  ·have:=aA.mp s.1; lia
 ·rcases m.free i hi with ⟨j,hj,q⟩ | q
  ·exact absurd ⟨hj,hi,q⟩ (n j)
  ·lia
 ·obtain ⟨u,hu,q⟩:=m.own j hj;rcases q with q | q
  ·exact absurd ⟨hj,q.1,hu⟩ (n u)
  ·lia
theorem tT {b:Nat} {l:Int→Int→Int} {T:Tk} (inj:∀ s t u,getZ T s=some u→getZ T t=some u→s=t) {i j0:Int} (s:Sel h b T i j0):dI b (after h b l T H) i=dI b l i-H:=by
 have e:dI b (after h b l T H) i=cW (bV b) fun j=>l i j+(if j=j0 then -H else 0):=cq fun j hj=>by
  unfold after;by_cases c:j=j0
  ·rw [if_pos c,c,if_pos s]; lia
  ·rw [if_neg c,if_neg (fun z=>c (inj j j0 i z.2.2 s.2.2))]; lia
 rw [e,qe,je (dg _) s.1];rfl
theorem md {b:Nat} {l:Int→Int→Int} {T:Tk} {i:Int} (n:∀ j,¬ Sel h b T i j):dI b (after h b l T H) i=dI b l i:=cq fun j hj=>if_neg (n j)
theorem um {b:Nat} {l:Int→Int→Int} {T:Tk} {i0 j:Int} (s:Sel h b T i0 j):eO h (after h b l T H) j=eO h l j-H:=by
 have e:eO h (after h b l T H) j=cW (bV h) fun i=>l i j+(if i=i0 then -H else 0):=cq fun i hi=>by
  unfold after;by_cases c:i=i0
  ·rw [if_pos c,c,if_pos s]; lia
  ·rw [if_neg c,if_neg (fun z=>c (by have:=z.2.2.symm.trans s.2.2; cases this; rfl))]; lia
 rw [e,qe,je (dg _) s.2.1];rfl
theorem mH {b:Nat} {l:Int→Int→Int} {T:Tk} {j:Int} (n:∀ i,¬ Sel h b T i j):eO h (after h b l T H) j=eO h l j:=cq fun i hi=>if_neg (n i)
theorem zE {b:Nat} {l:Int→Int→Int} {T:Tk} (f:Fits h b l R) (m:Match h b l R T) (g:wt h b l R T H):Fits h b (after h b l T H) (R-H):=by
 refine ⟨fun i j=>?_,fun i hi=>?_,fun j hj=>?_⟩
 ·unfold after;split
  ·rename_i s; have:=g.pair i j s; lia
  ·exact f.pos i j
 ·by_cases c:∃ j,Sel h b T i j
  ·obtain ⟨j,s⟩:=c;rw [tT m.inj s];have:=f.row i hi;lia
  ·have n:∀ j,¬ Sel h b T i j:=fun j z=>c ⟨j,z⟩;rw [md n];have:=g.hand i hi n;lia
 ·by_cases c:∃ i,Sel h b T i j
  ·obtain ⟨i,s⟩:=c;rw [um s];have:=f.col j hj;lia
  ·have n:∀ i,¬ Sel h b T i j:=fun i z=>c ⟨i,z⟩;rw [mH n];have:=g.LN j hj n;lia
theorem xC {b:Nat} {l:Int→Int→Int} {T:Tk} (m:Match h b l R T) (g:wt h b l R T H):loose h b (after h b l T H) (R-H)<loose h b l R:=by
 have hH:=g.ge m;have c1:∀ i j,(if 0<after h b l T H i j then (1:Int) else 0)≤if 0<l i j then 1 else 0:=fun i j=>by unfold after;split <;> split <;> (try lia) <;> rename_i x y <;> (try split at x) <;> lia
 have c2:∀ i∈bV h,(if dI b (after h b l T H) i<R-H then (1:Int) else 0)≤if dI b l i<R then 1 else 0:=fun i hi=>by
  by_cases c:∃ j,Sel h b T i j
  ·obtain ⟨j,s⟩:=c;rw [tT m.inj s];split <;> split <;> lia
  ·rw [md fun j z=>c ⟨j,z⟩];split <;> split <;> lia
 have c3:∀ j∈bV b,(if eO h (after h b l T H) j<R-H then (1:Int) else 0)≤if eO h l j<R then 1 else 0:=fun j hj=>by
  by_cases c:∃ i,Sel h b T i j
  ·obtain ⟨i,s⟩:=c;rw [um s];split <;> split <;> lia
  ·rw [mH fun i z=>c ⟨i,z⟩];split <;> split <;> lia
 have s1:cW (bV h) (fun i=>cW (bV b) fun j=>if 0<after h b l T H i j then 1 else 0)≤cW (bV h) (fun i=>cW (bV b) fun j=>if 0<l i j then 1 else 0):=fB fun i _=>fB fun j _=>c1 i j;have s2:=fB c2;have s3:=fB c3;unfold loose;rcases g.at_ with ⟨i,j,s,e⟩ | ⟨i,hi,n,e⟩ | ⟨j,hj,n,e⟩
 ·have:cW (bV h) (fun i=>cW (bV b) fun j=>if 0<after h b l T H i j then 1 else 0)<cW (bV h) (fun i=>cW (bV b) fun j=>if 0<l i j then 1 else 0):=by refine qS (a:=i) (fun i _=>fB fun j _=>c1 i j) s.2.1 (qS (a:=j) (fun j _=>c1 i j) s.1 ?_);unfold after;rw [if_pos s,if_neg (by lia),if_pos (by lia)];lia
  lia
 ·have:=qS (a:=i) c2 hi (by rw [md n,if_neg (by lia),if_pos (by lia)];lia);lia
 ·have:=qS (a:=j) c3 hj (by rw [mH n,if_neg (by lia),if_pos (by lia)];lia);lia
end
theorem z0 {p:Prop} [Decidable p]:(if p then (1:Int) else 0)≤1:=by split <;> lia
theorem E3 (h b:Nat) (l:Int→Int→Int) (R:Int):loose h b l R≤h*b+h+b:=by
 have e1:cW (bV h) (fun i=>cW (bV b) fun j=>if 0<l i j then 1 else 0)≤cW (bV h) fun _=>(b:Int):=fB fun i _=>by have:=fB (l:=bV b) (f:=fun j=>if 0<l i j then (1:Int) else 0) (g:=fun _=>1) fun j _=>z0;rw [fC,fM] at this;lia
 have e2:=fB (l:=bV h) (f:=fun i=>if dI b l i<R then (1:Int) else 0) (g:=fun _=>1) fun j _=>z0;have e3:=fB (l:=bV b) (f:=fun j=>if eO h l j<R then (1:Int) else 0) (g:=fun _=>1) fun j _=>z0;rw [fC,fM] at e1 e2 e3;unfold loose;lia
theorem rD (h b:Nat) (l:Int→Int→Int) (R:Int):0≤loose h b l R:=by
 unfold loose;have n:∀ {p:Prop} [Decidable p],(0:Int)≤if p then 1 else 0:=by intro p _; split <;> lia
 have e1:0≤cW (bV h) (fun i=>cW (bV b) fun j=>if 0<l i j then (1:Int) else 0):=d8 fun i _=>d8 fun j _=>n;have e2:0≤cW (bV h) (fun i=>if dI b l i<R then (1:Int) else 0):=d8 fun i _=>n;have e3:0≤cW (bV b) (fun j=>if eO h l j<R then (1:Int) else 0):=d8 fun i _=>n;lia
theorem CO {b:Nat} {l:Int→Int→Int} (f:Fits h b l 0) {i j:Int} (hi:i∈bV h) (hj:j∈bV b):l i j=0:=by
 have h1:=f.row i hi;have h2:=f.pos i j;have h3:l i j≤dI b l i:=by have:=qd (A:=[j]) (V:=bV b) (f:=fun j=>l i j) (by simp) (fun t ht=>by rw [NL.mp ht]; exact hj) fun t _=>f.pos i t;rw [bG,AV] at this;unfold dI;lia
 lia
abbrev Mx:=List (List Int)
def cI (T:Mx) (i j:Int):Int:=if 0≤i∧0≤j then (T.getD i.toNat []).getD j.toNat 0 else 0
structure Wd (T:Mx) (h b:Nat):Prop where
 len:T.length=h
 F0:∀ r∈T,r.length=b
theorem d6 (T:Mx) (i j:Nat):cI T i j=(T.getD i []).getD j 0:=by unfold cI;rw [if_pos ⟨by lia,by lia⟩,Pq,Pq]
theorem mW (n:Nat) (f:Int→α):(bV n).map f=(N4 n).map fun (k:Nat)=>f (k:Int):=by unfold bV;rw [N0];rfl
theorem cZ {T:Mx} {i:Nat} (h:i<T.length):T.getD i []∈T:=by rw [NF,NG h];exact PF h
theorem Wd.row {T:Mx} {b:Nat} (w:Wd T h b) {i:Nat} (hi:i<h):(T.getD i []).length=b:=w.F0 _ (cZ (by rw [w.len]; exact hi))
theorem Wd.out {T:Mx} {b:Nat} (w:Wd T h b) {i j:Int} (n:¬ (i∈bV h∧j∈bV b)):cI T i j=0:=by
 unfold cI;split
 ·rename_i c;by_cases hi:i<h
  ·have hj:¬ j<b:=fun hj=>n ⟨aA.mpr ⟨c.1,hi⟩,aA.mpr ⟨c.2,hj⟩⟩;have:=w.row (i:=i.toNat) (by lia);rw [NF (l:=T.getD i.toNat []),OL (by lia)];rfl
  ·have:=w.len;rw [NF (l:=T),OL (by lia)];rfl
 ·rfl
theorem list_range (l:List Int) (h:l.length=n):(N4 n).map (fun k=>l.getD k 0)=l:=by refine PN (by rw [NH,Oc,h]) fun k h1 h2=>?_;rw [Rv,RS,NF,NG h2];rfl
theorem mV {T:Mx} {b:Nat} (w:Wd T h b) {i:Nat} (hi:i<h):dI b (cI T) i=(T.getD i []).sum:=by
 unfold dI cW;rw [mW]
 conv=>rhs; rw [← list_range (T.getD i []) (w.row hi)]
 exact congrArg T5 (OC fun k _=>d6 T i k)
theorem nv {T:Mx} {b:Nat} (w:Wd T h b) (j:Nat):eO h (cI T) j=(T.map fun r=>r.getD j 0).sum:=by unfold eO cW;rw [mW];congr 1;refine PN (by rw [NH,NH,Oc,w.len]) fun k h1 h2=>?_;rw [NH] at h2;rw [Rv,Rv,RS,d6,NF (l:=T),NG h2];rfl
theorem EZ {T U:Mx} {b:Nat} (w:Wd T h b) (v:Wd U h b) (e:∀ i j:Nat,i<h→j<b→cI T i j=cI U i j):T=U:=by
 refine PN (by rw [w.len,v.len]) fun i h1 h2=>?_;have hi:i<h:=by rw [← w.len]; exact h1
 have e1:T.getD i []=T[i]:=by rw [NF,NG h1]; rfl
 have e2:U.getD i []=U[i]:=by rw [NF,NG h2]; rfl
 have l1:=w.row hi;have l2:=v.row hi;rw [e1] at l1;rw [e2] at l2;refine PN (by rw [l1,l2]) fun j g1 g2=>?_;have:=e i j hi (by lia);rw [d6,d6,e1,e2,NF,NF,NG g1,NG g2] at this;exact this
def yT (T:Mx) (i j:Nat) (v:Int):Mx:=T.set i ((T.getD i []).set j v)
theorem Wd.yT {T:Mx} {h b:Nat} (w:Wd T h b) {i j:Nat} {v:Int} (hi:i<h):Wd (yT T i j v) h b:=by
 refine ⟨by unfold My.yT; rw [Pb,w.len],fun r hr=>?_⟩;unfold My.yT at hr;rcases Th hr with z | z
 ·exact w.F0 r z
 ·rw [z,Pb]; exact w.row hi
theorem BQ {T:Mx} {b:Nat} (w:Wd T h b) {i:Nat} {v:Int} (hi:i<h) (hj:j<b) (i' j':Nat):cI (yT T i j v) i' j'=if i'=i∧j'=j then v else cI T i' j':=by
 rw [d6,d6];unfold yT;have hl:=w.len;have hr:=w.row hi;by_cases c:i'=i
 ·subst c;rw [NF (l:=T.set _ _),PJ (by lia)];show ((T.getD i' []).set j v).getD j' 0=_;by_cases d:j'=j
  ·subst d;rw [if_pos ⟨rfl,rfl⟩,NF,PJ (by lia)];rfl
  ·rw [if_neg (fun z=>d z.2),NF,PH (P9 d),← NF]
 ·rw [if_neg (fun z=>c z.1),NF (l:=T.set _ _),PH (P9 c),← NF]
abbrev jU:=List (Int×Int)
def gf (g:Int):Mx→jU→Mx
 | T,[]=>T
 | T,p::P=>gf g (yT T p.1.toNat p.2.toNat (cI T p.1 p.2+g)) P
def Mb (h b:Nat) (P:jU):Prop:=∀ p∈P,p.1∈bV h∧p.2∈bV b
theorem nF {h b:Nat} {g:Int}:∀ {P:jU} {T:Mx},Wd T h b→Mb h b P→P.Nodup→Wd (gf g T P) h b∧∀ i j:Nat,cI (gf g T P) i j=cI T i j+if ((i:Int),(j:Int))∈P then g else 0
 | [],T,w,_,_=>⟨w,fun i j=>by rw [if_neg (by simp),R8]; rfl⟩
 | p::P,T,w,hp,nd=>by
  obtain ⟨h1,h2⟩:=Of.mp nd;obtain ⟨p1,p2⟩:=hp p NJ;have p1:=aA.mp p1;have p2:=aA.mp p2;have w1:Wd (yT T p.1.toNat p.2.toNat (cI T p.1 p.2+g)) h b:=w.yT (by lia);obtain ⟨k1,k2⟩:=nF (g:=g) (P:=P) w1 (fun q hq=>hp q (NI _ hq)) h2;refine ⟨k1,fun i j=>?_⟩;show cI (gf g (yT T p.1.toNat p.2.toNat (cI T p.1 p.2+g)) P) i j=_;rw [k2 i j,BQ w (by lia) (by lia)];by_cases c:i=p.1.toNat∧j=p.2.toNat
  ·have e:((i:Int),(j:Int))=p:=WZ (by show (i:Int)=p.1; lia) (by show (j:Int)=p.2; lia);rw [if_pos c,e,if_neg h1,if_pos NJ];have e1:(i:Int)=p.1:=by lia
   have e2:(j:Int)=p.2:=by lia
   rw [e1,e2];lia
  ·have e:((i:Int),(j:Int))≠p:=fun z=>c ⟨by rw [← z]; rfl,by rw [← z]; rfl⟩;rw [if_neg c];by_cases d:((i:Int),(j:Int))∈P
   ·rw [if_pos d,if_pos (NI _ d)]
   ·rw [if_neg d,if_neg (fun z=>(NU.mp z).elim e d)]
abbrev iL:=List (Int×jU)
structure dW (h b:Nat) (q:Int×jU):Prop where
 ge:1≤q.1
 zZ:Mb h b q.2
 n1:(q.2.map (·.1)).Nodup
 n2:(q.2.map (·.2)).Nodup
theorem oN {α β:Type} {f:α→β}:∀ {l:List α},(l.map f).Nodup→l.Nodup
 | [],_=>O8
 | a::l,h=>by rw [Oq] at h;obtain ⟨h1,h2⟩:=Of.mp h;exact Of.mpr ⟨fun z=>h1 (List.mem_map_of_mem z),oN h2⟩
theorem oO {α β:Type} {f:α→β}:∀ {l:List α},(∀ a∈l,∀ c∈l,f a=f c→a=c)→l.Nodup→(l.map f).Nodup
 | [],_,_=>O8
 | a::l,h,n=>by obtain ⟨h1,h2⟩:=Of.mp n;rw [Oq];refine Of.mpr ⟨fun z=>?_,oO (fun x hx y hy=>h x (NI _ hx) y (NI _ hy)) h2⟩;obtain ⟨c,hc,e⟩:=NW.mp z;rw [h a NJ c (NI _ hc) e.symm] at h1;exact h1 hc
theorem dW.nd {b:Nat} {q:Int×jU} (k:dW h b q):q.2.Nodup:=oN k.n1
def eK (i j:Nat) (tl:iL):Int:=(tl.map fun q=>if ((i:Int),(j:Int))∈q.2 then q.1 else 0).sum
theorem wR (i j:Nat) (tl:iL) (q:Int×jU):eK i j (tl++[q])=eK i j tl+if ((i:Int),(j:Int))∈q.2 then q.1 else 0:=by unfold eK;rw [Od,QG];simp
def sU (M:Mx) (tl:iL):Mx:=tl.foldl (fun M q=>gf q.1 M q.2) M
theorem vM {h b:Nat}:∀ {tl:iL} {M:Mx},Wd M h b→(∀ q∈tl,dW h b q)→Wd (sU M tl) h b∧∀ i j:Nat,cI (sU M tl) i j=cI M i j+eK i j tl
 | [],M,w,_=>⟨w,fun i j=>by show cI M i j=cI M i j+0; lia⟩
 | q::tl,M,w,hq=>by have k:=hq q NJ;obtain ⟨w1,e1⟩:=nF (g:=q.1) w k.zZ k.nd;obtain ⟨w2,e2⟩:=vM (tl:=tl) w1 fun x hx=>hq x (NI _ hx);refine ⟨w2,fun i j=>?_⟩;show cI (sU (gf q.1 M q.2) tl) i j=_;rw [e2,e1];unfold eK;rw [Oq,P8];lia
def wN (T:Tk) (j:Nat):Int:=(getZ T (j:Int)).getD 0
def lF (h b:Nat) (T:Tk):jU:=((N4 b).filter fun (j:Nat)=>decide (wN T j<h)).map fun (j:Nat)=>(wN T j,(j:Int))
theorem j9 {b:Nat} {l:Int→Int→Int} {T:Tk} (m:Match h b l R T) (i j:Int):(i,j)∈lF h b T↔Sel h b T i j:=by
 unfold lF;rw [NW];constructor
 ·rintro ⟨k,hk,e⟩;obtain ⟨h1,h2⟩:=OJ.mp hk;have h1:=Ow.mp h1;have h2:=of_decide_eq_true h2;have e1:wN T k=i:=congrArg WH e;have e2:(k:Int)=j:=congrArg W0 e;subst e2;have hj:(k:Int)∈bV b:=aA.mpr ⟨by lia,by lia⟩;obtain ⟨u,hu,q⟩:=m.own k hj;have eu:wN T k=u:=by unfold wN; rw [hu]; rfl
  rw [eu] at h2 e1;subst e1;refine ⟨hj,?_,hu⟩;rcases q with q | q
  ·exact q.1
  ·lia
 ·rintro ⟨hj,hi,e⟩;have h1:=aA.mp hj;have h2:=aA.mp hi;have ek:((j.toNat:Nat):Int)=j:=by lia
  have et:wN T j.toNat=i:=by unfold wN; rw [ek,e]; rfl
  exact ⟨j.toNat,OJ.mpr ⟨Ow.mpr (by lia),decide_eq_true (by rw [et]; exact h2.2)⟩,by rw [et,ek]⟩
theorem Bi (h b:Nat) (T:Tk):((lF h b T).map (·.2)).Nodup:=by unfold lF;rw [N0];exact oO (fun a _ c _ e=>by have:(a:Int)=(c:Int):=e; lia) (Sj.filter _)
theorem zB {b:Nat} {l:Int→Int→Int} {T:Tk} (m:Match h b l R T) (g:wt h b l R T H) {P:jU} (pm:P.Perm (lF h b T)):dW h b (H,P):=by have mem:∀ p∈P,Sel h b T p.1 p.2:=fun p hp=>(j9 m p.1 p.2).mp (pm.mem_iff.mp hp);refine ⟨g.ge m,fun p hp=>⟨(mem p hp).2.1,(mem p hp).1⟩,?_,((pm.map (·.2)).nodup_iff).mpr (Bi h b T)⟩;refine oO (fun a ha c hc e=>?_) (pm.nodup_iff.mpr (oN (Bi h b T)));have s1:=mem a ha;have s2:=mem c hc;have e:a.1=c.1:=e;exact WZ e (m.inj a.2 c.2 a.1 s1.2.2 (by rw [e]; exact s2.2.2))
theorem Dt {b:Nat} {T:Mx} (w:Wd T h b) {X:Tk} (m:Match h b (cI T) R X) (g:wt h b (cI T) R X H) {P:jU} (pm:P.Perm (lF h b X)):cI (gf (-H) T P)=after h b (cI T) X H:=by
 have k:=zB m g pm;obtain ⟨w1,e1⟩:=nF (g:=-H) w k.zZ k.nd;funext i j;by_cases c:i∈bV h∧j∈bV b
 ·have ci:=aA.mp c.1;have cj:=aA.mp c.2;have q:=e1 i.toNat j.toNat;rw [show ((i.toNat:Nat):Int)=i by lia,show ((j.toNat:Nat):Int)=j by lia] at q;rw [q];unfold after;by_cases s:Sel h b X i j
  ·rw [if_pos s,if_pos (pm.mem_iff.mpr ((j9 m i j).mpr s))]; lia
  ·rw [if_neg s,if_neg (fun z=>s ((j9 m i j).mp (pm.mem_iff.mp z)))]; lia
 ·rw [w1.out c];unfold after;rw [if_neg (fun s=>c ⟨s.2.1,s.1⟩),w.out c]
noncomputable def yF (h b:Nat) (l:Int→Int→Int) (R:Int) (P:jU):List Int :=
 P.map (fun p=>l p.1 p.2)++((N4 h).filter fun (i:Nat)=>!decide ((i:Int)∈P.map (·.1))).map (fun (i:Nat)=>R-dI b l (i:Int))++((N4 b).filter fun (j:Nat)=>!decide ((j:Int)∈P.map (·.2))).map (fun (j:Nat)=>R-eO h l (j:Int))
theorem G0 {b:Nat} {l:Int→Int→Int} {X:Tk} (m:Match h b l R X) {P:jU} (pm:P.Perm (lF h b X)) {M:Int} (hM:M∈yF h b l R P) (hle:∀ x∈yF h b l R P,M≤x):wt h b l R X M:=by
 have mem:∀ i j,(i,j)∈P↔Sel h b X i j:=fun i j=>pm.mem_iff.trans (j9 m i j)
 have hh:∀ i:Int,i∈bV h→((∀ j,¬ Sel h b X i j)↔i∉P.map (·.1)):=fun i _=>by
  constructor
  ·intro n z;obtain ⟨p,hp,e⟩:=NW.mp z;exact n p.2 ((mem i p.2).mp (by rw [← e]; exact hp))
  ·intro n j s;exact n (NW.mpr ⟨(i,j),(mem i j).mpr s,rfl⟩)
 have hb:∀ j:Int,j∈bV b→((∀ i,¬ Sel h b X i j)↔j∉P.map (·.2)):=fun j _=>by
  constructor
  ·intro n z;obtain ⟨p,hp,e⟩:=NW.mp z;exact n p.1 ((mem p.1 j).mp (by rw [← e]; exact hp))
  ·intro n i s;exact n (NW.mpr ⟨(i,j),(mem i j).mpr s,rfl⟩)
 unfold yF at hM hle;refine ⟨fun i j s=>?_,fun i hi n=>?_,fun j hj n=>?_,?_⟩
 ·exact hle _ (Ol _ (Ol _ (NW.mpr ⟨(i,j),(mem i j).mpr s,rfl⟩)))
 ·have hi':=aA.mp hi;have e:((i.toNat:Nat):Int)=i:=by lia
  exact hle _ (Ol _ (NQ _ (NW.mpr ⟨i.toNat,OJ.mpr ⟨Ow.mpr (by lia),by rw [e,decide_eq_false ((hh i hi).mp n)]; rfl⟩,by rw [e]⟩)))
 ·have hj':=aA.mp hj;have e:((j.toNat:Nat):Int)=j:=by lia
  exact hle _ (NQ _ (NW.mpr ⟨j.toNat,OJ.mpr ⟨Ow.mpr (by lia),by rw [e,decide_eq_false ((hb j hj).mp n)]; rfl⟩,by rw [e]⟩))
 ·rcases NZ.mp hM with z | z
  ·rcases NZ.mp z with z | z
   ·obtain ⟨p,hp,e⟩:=NW.mp z;exact .inl ⟨p.1,p.2,(mem p.1 p.2).mp hp,e.symm⟩
   ·obtain ⟨k,hk,e⟩:=NW.mp z;obtain ⟨k1,k2⟩:=OJ.mp hk;have k1:=Ow.mp k1;have hi:(k:Int)∈bV h:=aA.mpr ⟨by lia,by lia⟩;refine .inr (.inl ⟨k,hi,(hh k hi).mpr ?_,e.symm⟩);intro z;rw [decide_eq_true z] at k2;cases k2
  ·obtain ⟨k,hk,e⟩:=NW.mp z;obtain ⟨k1,k2⟩:=OJ.mp hk;have k1:=Ow.mp k1;have hj:(k:Int)∈bV b:=aA.mpr ⟨by lia,by lia⟩;refine .inr (.inr ⟨k,hj,(hb k hj).mpr ?_,e.symm⟩);intro z;rw [decide_eq_true z] at k2;cases k2
theorem Hw {b:Nat} {l:Int→Int→Int} {P:jU} (hh:0<h):yF h b l R P≠[]:=by intro e;unfold yF at e;rw [Uv,Uv] at e;have e1:=Qv.mp e.1.1;have e2:=Qv.mp e.1.2;rw [e1] at e2;have:(0:Nat)∈(N4 h).filter fun (i:Nat)=>!decide ((i:Int)∈([]:jU).map (·.1)):=OJ.mpr ⟨Ow.mpr hh,by simp⟩;rw [e2] at this;cases this
def jO (T:Mx) (b:Nat) (R:Int) (i:Nat):List Int:=((N4 b).filter fun (j:Nat)=>decide (0<cI T i j)).map Int.ofNat++if (T.getD i []).sum<R then [(b:Int)+i] else []
def pR (T:Mx) (b:Nat) (R:Int) (j:Nat):List Int:=(N4 T.length).map (fun (i:Nat)=>(b:Int)+i)++if (T.map fun r=>r.getD j 0).sum<R then [(j:Int)] else []
def rm (T:Mx) (b:Nat) (R:Int):List (List Int):=(N4 T.length).map (jO T b R)++(N4 b).map (pR T b R)
theorem xM (T:Mx) (b:Nat) (R:Int):(rm T b R).length=T.length+b:=by unfold rm; rw [N7,NH,NH,Oc,Oc]
theorem rn {T:Mx} {b:Nat} (w:Wd T h b):fm (rm T b R)=sR h b (cI T) R:=by
 funext x;have hl:=w.len;unfold fm sR rm;by_cases c:0≤x
 ·rw [if_pos c,NF];have ex:((x.toNat:Nat):Int)=x:=by lia
  by_cases d:x<h
  ·rw [if_pos ⟨c,d⟩,OM (by rw [NH,Oc]; lia),NR,PR (by lia)];show jO T b R x.toNat=_;unfold jO;have rs:=mV w (i:=x.toNat) (by lia);rw [ex] at rs;rw [rs,ex];congr 1;unfold bV;rw [List.filter_map];rfl
  ·rw [if_neg (fun z=>d z.2),Ox (by rw [NH,Oc]; lia),NH,Oc,NR];by_cases d2:x<h+b
   ·rw [if_pos ⟨by lia,d2⟩,PR (by lia)];show pR T b R (x.toNat-T.length)=_;unfold pR;have cs:=nv w (x.toNat-T.length);have e3:((x.toNat-T.length:Nat):Int)=x-h:=by lia
    rw [e3] at cs;rw [cs,e3,mW,hl]
   ·rw [if_neg (fun z=>d2 z.2),OL (by rw [Oc]; lia)];rfl
 ·rw [if_neg c,if_neg (fun z=>c z.1),if_neg (fun z=>by lia)]
theorem GW {T:Mx} {b:Nat} (w:Wd T h b) (h6:h≤6) (b6:b≤6):BX (rm T b R):=by
 have hl:=w.len;have hin:∀ r∈rm T b R,∃ x:Nat,r=fm (rm T b R) x:=fun r hr=>by obtain ⟨x,hx⟩:=Pp hr;refine ⟨x,?_⟩;unfold fm;rw [if_pos (by lia),Pq,NF,hx];rfl
 refine ⟨by rw [xM]; lia,fun r hr=>?_,bV (b+h),by rw [fM]; lia,fun r hr t ht=>?_⟩
 ·unfold rm at hr;rcases NZ.mp hr with z | z
  ·obtain ⟨i,_,rfl⟩:=NW.mp z;unfold jO;have:=Qk (fun (j:Nat)=>decide (0<cI T i j)) (N4 b);rw [Oc] at this;rw [N7,NH];split <;> simp <;> lia
  ·obtain ⟨j,_,rfl⟩:=NW.mp z;unfold pR;rw [N7,NH,Oc];split <;> simp <;> lia
 ·obtain ⟨x,e⟩:=hin r hr;rw [e,rn w] at ht;exact vD _ t ht
theorem Fy (h:fH a ρ=some ds):Ai a ρ=some (vW ds):=by unfold Ai; rw [h]
theorem iq (xs:List Int):dJ (.lst (xs.map D.int))=some (.int (xs.length:Int)):=by show some (D.int ((xs.map D.int).length:Nat))=_; rw [NH]
theorem G7 {xs:List D} {a:Nat} (h:xs[a]?=some d):C6 (.lst xs) (a:Int)=some d:=by have hl:=(Oe.mp h).1;show jR xs (a:Int)=some d;unfold jR;rw [fF (by lia) (by lia),Pq];exact h
theorem jj {T:Mx} {i:Nat} (h:i<T.length):(T.map fun r=>D.lst (r.map D.int))[i]?=some (.lst ((T.getD i []).map D.int)):=by rw [NR,NG h,NF,NG h];rfl
theorem qt {T:Mx} {b:Nat} (w:Wd T h b) {i:Nat} (hi:i<h) (hj:j<b) {x y z:DE} (hx:x ρ=some (aJ T)) (hy:y ρ=some (.int (i:Int))) (hz:z ρ=some (.int (j:Int))):bZ (bZ x y) z ρ=some (.int (cI T i j)):=by have hl:=w.len;have hr:=w.row hi;rw [d6];refine ba (ba hx hy (G7 (jj (by lia)))) hz ?_;have:=MC (ns:=T.getD i []) (i:=(j:Int)) (by lia) (by lia);rw [Pq] at this;exact this
theorem Ez (h:a ρ=some (.int (n:Int))) (hn:n≤1000):iK a ρ=some ((N4 n).map fun (k:Nat)=>D.int (k:Int)):=by have hline:NM=16777216:=OA;rw [rR h ⟨by lia,by lia⟩,Pq];unfold wJ;congr 1;exact OC fun k _=>by rw [SS]
theorem Ex {T:Mx} {k:Nat} (h:(cm T)[k]?=some x):k<T.length∧x=(T.getD k []).sum:=by unfold cm at h;rw [NR] at h;obtain ⟨r,hr,rfl⟩:=OH.mp h;refine ⟨(Oe.mp hr).1,?_⟩;rw [NF,hr];rfl
theorem FI {T:Mx} {k:Nat} (h:(cols T)[k]?=some x):k<cF T∧x=(T.map fun r=>r.getD k 0).sum:=by unfold cols at h;rw [NR] at h;obtain ⟨r,hr,rfl⟩:=OH.mp h;have hk:=(Oe.mp hr).1;rw [Oc] at hk;rw [PR hk] at hr;cases hr;exact ⟨hk,rfl⟩
theorem r8 (T:Mx):(cols T).length=cF T:=by unfold cols; rw [NH,Oc]
theorem ra (T:Mx):(cm T).length=T.length:=NH ..
theorem jk (n:Nat) (f:Nat→α):(N4 (n+1)).map f=(N4 n).map f++[f n]:=by rw [Wl,Od]; rfl
theorem xf {l:List α} {x y:α} (h:l.length=n):(l++[x]).set n y=l++[y]:=by subst h;rw [Sd _ _ (N9 _),SR];rfl
theorem yh {l:List α} {x:α} (h:l.length=n):(l++[x])[n]?=some x:=by subst h;rw [Ox (N9 _),SR];rfl
theorem Jz {T:Mx} {b:Nat} (w:Wd T h b) (hb:cF T=b) (h6:h≤6) (b6:b≤6):kH [aJ T,.int R]=some (aJ (rm T b R)):=by
 have hline:NM=16777216:=OA;have hl:=w.len;have e1:=xY (T:=T) (fun r hr=>by rw [hb]; exact w.F0 r hr) (by lia);refine cf nJ ?_;rw [Cc];unfold nS;refine wp_seq (br (aO ‹45› e1) ?_);dsimp only [NX,NV];refine wp_seq (br (d:=.int (h:Int)) (cJ ‹19› (by rw [iq,ra,hl])) ?_);dsimp only [NX,NV];refine wp_seq (br (d:=.int (b:Int)) (cJ ‹19› (by rw [iq,r8,hb])) ?_);dsimp only [NX,NV];refine wp_seq (kL (rows:=[]) rfl (by show 5<9; decide) ?_);dsimp only [NX,NV];generalize hS:D.tup [.lst ‹33›,.lst ‹38›]=S;have s0:∀ ρ:aK,aC 2 ρ=some S→bZ (aC 2) ‹6› ρ=some (.lst ‹33›):=fun ρ h=>ba h rfl (by rw [← hS]; rfl);have s1:∀ ρ:aK,aC 2 ρ=some S→bZ (aC 2) ‹17› ρ=some (.lst ‹38›):=fun ρ h=>ba h rfl (by rw [← hS]; rfl);refine wp_seq (fq (ds:=vW ‹33›) (Fy (bN (s0 _ rfl) rfl)) (fun k ρ=>∃ v6 v7 v8:Sl,ρ=[.bo (aJ T),.bo (.int R),.pu S,.pu (.int (h:Int)),.pu (.int (b:Int)),.om ((N4 k).map fun i=>(jO T b R i).map D.int),v6,v7,v8]) ⟨_,_,_,rfl⟩ ?_ ?_)
 ·rintro k d ρ hd ⟨v6,v7,v8,rfl⟩;obtain ⟨e,he,rfl⟩:=qp hd;rw [NR] at he;obtain ⟨x,hx,rfl⟩:=OH.mp he;obtain ⟨hk,ex⟩:=Ex hx;refine ⟨[.bo (aJ T),.bo (.int R),.pu S,.pu (.int (h:Int)),.pu (.int (b:Int)),.om ((N4 k).map fun i=>(jO T b R i).map D.int),.pu (.int (k:Int)),.pu (.int x),v8],rfl,?_⟩
  have ec:bJ 1 [0,6] (iK (ai 4)) (gN true 0) (dT (Hs (bZ (bZ (ai 1) (ai 2)) (ai 0)) ‹6›)) (aC 0) [.bo (aJ T),.bo (.int R),.pu S,.pu (.int (h:Int)),.pu (.int (b:Int)),.om ((N4 k).map fun i=>(jO T b R i).map D.int),.pu (.int (k:Int)),.pu (.int x),v8]=some ‹51› :=
   kx (fun (j:Nat)=>D.int (j:Int)) (Ez rfl (by lia)) (fun (j:Nat)=>decide (0<cI T k j)) (fun (j:Nat)=>D.int (j:Int)) fun j hj=>by have hj:=Ow.mp hj;refine ⟨[.pu (.int (j:Int)),.bo (aJ T),.pu (.int (k:Int))],rfl,dt (ng (qt w (by lia) hj rfl rfl rfl) rfl),fun _=>rfl⟩
  refine wp_seq (kM rfl ec (by rw [NH,Oc]; lia) ?_);dsimp only [NX,NV];have hlen:((N4 k).map fun i=>(jO T b R i).map D.int).length=k:=by rw [NH,Oc]
  refine l4 (dt (nc rfl rfl)) (fun c=>?_) fun c=>bL ⟨.pu (.int (k:Int)),.pu (.int x),v8,?_⟩
  ·refine Az (n:=(k:Int)) rfl rfl (by rw [N7,hlen]; exact fF (by lia) (by simp; lia)) (by rw [Pq]; exact yh hlen) (g8 rfl rfl) ?_ ⟨.pu (.int (k:Int)),.pu (.int x),v8,?_⟩
   ·have:=Qk (fun (j:Nat)=>decide (0<cI T k j)) (N4 b);rw [Oc] at this;rw [NH]; lia
   ·dsimp only [NX,NV];rw [Pq,xf hlen,jk];have:(jO T b R k).map D.int=‹51›++[D.int ((b:Int)+(k:Int))]:=by unfold jO;rw [if_pos (by rw [← ex]; exact c),Od,N0];rfl
    rw [this]
  ·rw [jk];have:(jO T b R k).map D.int=‹51›:=by unfold jO;rw [if_neg (by rw [← ex]; exact c),OT,N0];rfl
   rw [this]
 rintro ρ ⟨v6,v7,v8,rfl⟩;have hen:(vW ‹33›).length=h:=by unfold vW; rw [Ra,NH,ra,hl]
 rw [hen];refine wp_seq (fq (ds:=vW ‹38›) (Fy (bN (s1 _ rfl) rfl)) (fun k ρ=>∃ v6 v7 v8:Sl,ρ=[.bo (aJ T),.bo (.int R),.pu S,.pu (.int (h:Int)),.pu (.int (b:Int)),.om ‹20›,v6,v7,v8]) ⟨_,_,_,by rw [List.range_zero,QI,OT]⟩ ?_ ?_)
 ·rintro k d ρ hd ⟨v6,v7,v8,rfl⟩;obtain ⟨e,he,rfl⟩:=qp hd;rw [NR] at he;obtain ⟨x,hx,rfl⟩:=OH.mp he;obtain ⟨hk,ex⟩:=FI hx;rw [hb] at hk;refine ⟨[.bo (aJ T),.bo (.int R),.pu S,.pu (.int (h:Int)),.pu (.int (b:Int)),.om ‹20›,v6,.pu (.int x),.pu (.int (k:Int))],rfl,?_⟩
  have ec:bJ 1 [4] (iK (ai 3)) (gN true 0) bM (jx (ai 1) (ai 0)) [.bo (aJ T),.bo (.int R),.pu S,.pu (.int (h:Int)),.pu (.int (b:Int)),.om ‹20›,v6,.pu (.int x),.pu (.int (k:Int))]=some ((N4 h).map fun (i:Nat)=>D.int ((b:Int)+(i:Int))) :=
   b9 (fun (j:Nat)=>D.int (j:Int)) (Ez rfl (by lia)) (fun (i:Nat)=>D.int ((b:Int)+(i:Int))) fun i _=>⟨[.pu (.int (i:Int)),.pu (.int (b:Int))],rfl,g8 rfl rfl⟩
  have hlen:‹20›.length=h+k:=by rw [N7,NH,Oc,NH,Oc]
  refine wp_seq (kM rfl ec (by rw [hlen]; lia) ?_);dsimp only [NX,NV];refine l4 (dt (nc rfl rfl)) (fun c=>?_) fun c=>bL ⟨v6,.pu (.int x),.pu (.int (k:Int)),?_⟩
  ·have et:(((h:Int)+(k:Int)).toNat)=h+k:=by lia
   refine Az (n:=(h:Int)+(k:Int)) rfl (g8 rfl rfl) (by rw [N7,hlen]; exact fF (by lia) (by simp; lia)) (by rw [et]; exact yh hlen) rfl ?_ ⟨v6,.pu (.int x),.pu (.int (k:Int)),?_⟩
   ·rw [NH,Oc]; lia
   ·dsimp only [NX,NV];rw [et,xf hlen,jk,OG];have:(pR T b R k).map D.int=((N4 h).map fun (i:Nat)=>D.int ((b:Int)+(i:Int)))++[D.int (k:Int)]:=by unfold pR;rw [if_pos (by rw [← ex]; exact c),Od,N0,hl];rfl
    rw [this]
  ·rw [jk,OG];have:(pR T b R k).map D.int=(N4 h).map fun (i:Nat)=>D.int ((b:Int)+(i:Int)):=by unfold pR;rw [if_neg (by rw [← ex]; exact c),OT,N0,hl];rfl
   rw [this]
 rintro ρ ⟨v6,v7,v8,rfl⟩;have hen2:(vW ‹38›).length=b:=by unfold vW; rw [Ra,NH,r8,hb]
 rw [hen2];refine yN ?_;dsimp only [kZ,SJ,RA,NX,NV];refine bC rfl ?_;unfold aJ rm;rw [hl,Od,Od,N0,N0,N0,N0];rfl
def jG (p:Int×Int):D:=f9 [p.1,p.2]
def rf (P:jU):D:=.lst (P.map jG)
theorem Cg (Q:jU):∃ P:jU,P.Perm Q∧iM (Q.map fun p=>[p.1,p.2])=P.map fun p=>[p.1,p.2]:=by
 have pm:=fv (Q.map fun p=>[p.1,p.2]);refine ⟨(iM (Q.map fun p=>[p.1,p.2])).map fun z=>(z.getD 0 0,z.getD 1 0),?_,?_⟩
 ·have:=pm.map fun z=>(z.getD 0 0,z.getD 1 0)
  rw [N0] at this
  have e:Q.map ((fun z:List Int=>(z.getD 0 0,z.getD 1 0))∘fun p:Int×Int=>[p.1,p.2])=Q:=by
   conv=>rhs; rw [← Rr Q]
   exact OC fun p _=>rfl
  rw [e] at this;exact this
 ·rw [N0]
  conv=>lhs; rw [← Rr (iM _)]
  refine OC fun z hz=>?_;obtain ⟨p,_,rfl⟩:=NW.mp (pm.mem_iff.mp hz);rfl
theorem II {T:Mx} {b:Nat} (w:Wd T h b) (hb:cF T=b) (h0:0<h) (h6:h≤6) (b6:b≤6) {X:Tk} (eX:eV (sR h b (cI T) R) 14 (bV (h+b)) []=some X) (m:Match h b (cI T) R X) :
 ∃ P:jU,dB [aJ T,.int R]=some (rf P)∧P.Perm (lF h b X):=by
 have hline:NM=16777216:=OA;have hl:=w.len;have e1:=Jz (R:=R) w hb h6 b6;have e2:cw [aJ (rm T b R)]=some (.dct X):=Au (GW w h6 b6) (by rw [rn w,xM,hl]; exact eX);obtain ⟨P,pm,es⟩:=Cg (lF h b X);refine ⟨P,?_,pm⟩;refine cf g9 ?_;rw [pO];unfold fj;refine wp_seq (br (aO (au (aO (au rfl ‹45›) e1) rfl) e2) ?_);dsimp only [NX,NV];have er:(T.getD 0 []).length=b:=w.row h0;refine wp_seq (br (d:=.int (b:Int)) (cJ (ba rfl rfl (by have:=G7 (jj (T:=T) (i:=0) (by lia)); exact this)) (by rw [iq,er])) ?_);dsimp only [NX,NV]
 have ec:bJ 1 [2,0] (iK (ai 3)) (gN true 0) (dT (yx (nr (ai 1) (ai 0)) (fo dJ (ai 2)))) (bu (ao (nr (ai 1) (ai 0)) (ao (aC 0) aS))) [.bo (aJ T),.bo (.int R),.pu (.dct X),.pu (.int (b:Int)),.un]=some (((N4 b).filter fun (j:Nat)=>decide (wN X j<h)).map fun (j:Nat)=>jG (wN X j,(j:Int))) :=
  kx (fun (j:Nat)=>D.int (j:Int)) (Ez rfl (by lia)) (fun (j:Nat)=>decide (wN X j<h)) (fun (j:Nat)=>jG (wN X j,(j:Int))) fun j hj=>by
   have hj:=Ow.mp hj;obtain ⟨u,hu,_⟩:=m.own (j:Int) (aA.mpr ⟨by lia,by lia⟩);have eu:wN X j=u:=by unfold wN; rw [hu]; rfl
   rw [eu];have eg:∀ ρ:aK,ai 1 ρ=some (.dct X)→ai 0 ρ=some (.int (j:Int))→nr (ai 1) (ai 0) ρ=some (.int u):=fun ρ h1 h2=>Hm h1 h2 hu;refine ⟨[.pu (.int (j:Int)),.pu (.dct X),.bo (aJ T)],rfl,dt (nc (eg _ rfl rfl) (cJ rfl ?_)),fun _=>bf (au (eg _ rfl rfl) ‹45›)⟩;show some (D.int ((T.map fun r=>D.lst (r.map D.int)).length:Nat))=_;rw [NH,hl]
 refine wp_seq (br (bf ec) ?_);dsimp only [NX,NV];have ez:(((N4 b).filter fun (j:Nat)=>decide (wN X j<h)).map fun (j:Nat)=>jG (wN X j,(j:Int)))=((lF h b X).map fun p=>[p.1,p.2]).map f9:=by unfold lF;rw [N0,N0];rfl
 rw [ez];have ln:(lF h b X).length≤b:=by have:=Qk (fun (j:Nat)=>decide (wN X j<h)) (N4 b);rw [Oc] at this;unfold lF;rw [NH];exact this
 refine bC (bf (yo (bN rfl rfl) (by rw [NH]; lia))) ?_;rw [es,N0];rfl
theorem BK {α:Type} (ha:a ρ=some (.lst (xs.map D.int))):Ai a ρ=some ((N4 xs.length).map fun (i:Nat)=>D.tup [.int (i:Int),.int (xs.getD i 0)]):=by rw [Fy (bN ha rfl)];congr 1;unfold vW;refine PN (by rw [Ra,NH,NH,Oc]) fun k h1 h2=>?_;rw [NH,Oc] at h2;rw [List.getElem_mapIdx,Rv,Rv,RS,NF,NG h2];rfl
theorem longest {T:Mx} {b:Nat} (w:Wd T h b) (hb:cF T=b) (h0:0<h) (h6:h≤6) (b6:b≤6) {X:Tk} (m:Match h b (cI T) R X) {P:jU} (pm:P.Perm (lF h b X)) :
 ∃ M:Int,da [aJ T,.int R,rf P]=some (.int M)∧wt h b (cI T) R X M:=by
 have hline:NM=16777216:=OA;have hl:=w.len;have e1:=xY (T:=T) (fun r hr=>by rw [hb]; exact w.F0 r hr) (by lia);have zZ:Mb h b P:=fun p hp=>by have:=(j9 m p.1 p.2).mp (pm.mem_iff.mp hp);exact ⟨this.2.1,this.1⟩
 have lP:P.length≤6:=by have:=pm.length_eq;have:=Qk (fun (j:Nat)=>decide (wN X j<h)) (N4 b);rw [Oc] at this;unfold lF at *;rw [NH] at *;lia
 obtain ⟨x,r,eB⟩:∃ x r,yF h b (cI T) R P=x::r:=by
  cases e:yF h b (cI T) R P with
  | nil=>exact absurd e (Hw h0)
  | cons x r=>exact ⟨x,r,rfl⟩
 refine ⟨zS x r,?_,G0 m pm (by rw [eB]; exact (iO r x).1) fun y hy=>(iO r x).2 y (by rw [← eB]; exact hy)⟩;refine cf gw ?_;rw [oq];unfold d7;refine wp_seq (br (aO ‹45› e1) ?_);dsimp only [NX,NV];generalize hS:D.tup [.lst ‹33›,.lst ‹38›]=S;have s0:∀ ρ:aK,aC 3 ρ=some S→bZ (aC 3) ‹6› ρ=some (.lst ‹33›):=fun ρ h=>ba h rfl (by rw [← hS]; rfl);have s1:∀ ρ:aK,aC 3 ρ=some S→bZ (aC 3) ‹17› ρ=some (.lst ‹38›):=fun ρ h=>ba h rfl (by rw [← hS]; rfl);have hw:∀ ρ:aK,ai 2 ρ=some (rf P)→fH (ai 2) ρ=some (P.map jG):=fun ρ h=>bN h rfl;refine wp_seq (br (d:=.lst ((P.map (·.1)).map D.int)) (bf ?_) ?_)
 ·rw [b9 jG (hw _ rfl) (fun p=>D.int p.1) fun p _=>⟨[.bo (jG p)],rfl,k5 ‹19› rfl⟩,N0];rfl
 dsimp only [NX,NV];refine wp_seq (br (d:=.lst ((P.map (·.2)).map D.int)) (bf ?_) ?_)
 ·rw [b9 jG (hw _ rfl) (fun p=>D.int p.2) fun p _=>⟨[.bo (jG p)],rfl,k5 ‹19› rfl⟩,N0];rfl
 dsimp only [NX,NV];refine wp_seq (fK (ds:=(P.map fun p=>cI T p.1 p.2).map D.int) ?_ (by show 6<7; decide) ?_)
 ·rw [b9 jG (hw _ rfl) (fun p=>D.int (cI T p.1 p.2)) fun p hp=>⟨[.bo (jG p),.bo (aJ T)],rfl,k5 ?_ rfl⟩,N0]
  ·rfl
  ·obtain ⟨p1,p2⟩:=zZ p hp;have p1:=aA.mp p1;have p2:=aA.mp p2;have a1:((p.1.toNat:Nat):Int)=p.1:=by lia
   have a2:((p.2.toNat:Nat):Int)=p.2:=by lia
   have:=qt w (i:=p.1.toNat) (j:=p.2.toNat) (by lia) (by lia) (ρ:=[.bo (jG p),.bo (aJ T)]) (x:=ai 1) (y:=bZ (ai 0) ‹6›) (z:=bZ (ai 0) ‹17›) rfl (by rw [a1]; exact ba rfl rfl rfl) (by rw [a2]; exact ba rfl rfl rfl);rw [a1,a2] at this;exact this
 dsimp only [NX,NV];have lb:∀ (n:Nat) (p:Nat→Bool) (f:Nat→Int),n≤6→(((N4 n).filter p).map fun i=>D.int (f i)).length≤6:=fun n p f hn=>by have:=Qk p (N4 n);rw [Oc] at this;rw [NH]; lia
 refine wp_seq (yO rfl (es:=((N4 h).filter fun (i:Nat)=>!decide ((i:Int)∈P.map (·.1))).map fun (i:Nat)=>D.int (R-dI b (cI T) (i:Int))) (bf ?_) ?_ ?_)
 ·rw [kx (fun (i:Nat)=>D.tup [.int (i:Int),.int ((cm T).getD i 0)]) (by rw [BK (α:=Nat) (s0 _ rfl),ra,hl]) (fun (i:Nat)=>!decide ((i:Int)∈P.map (·.1))) (fun (i:Nat)=>D.int (R-dI b (cI T) (i:Int))) fun i hi=>?_];have hi:=Ow.mp hi;refine ⟨[.pu (.int (i:Int)),.pu (.int ((cm T).getD i 0)),.pu (.lst ((P.map (·.1)).map D.int)),.bo (.int R)],rfl,dt (vV (neg:=true) rfl rfl),fun _=>?_⟩;have:(cm T).getD i 0=dI b (cI T) (i:Int):=by rw [mV w hi];unfold cm;rw [NF,NR,NG (by lia),NF,NG (by lia)];rfl
  rw [this];exact oS rfl rfl
 ·have:=lb h (fun (i:Nat)=>!decide ((i:Int)∈P.map (·.1))) (fun i=>R-dI b (cI T) (i:Int)) h6;rw [NH,NH]; lia
 dsimp only [NX,NV];refine wp_seq (yO rfl (es:=((N4 b).filter fun (j:Nat)=>!decide ((j:Int)∈P.map (·.2))).map fun (j:Nat)=>D.int (R-eO h (cI T) (j:Int))) (bf ?_) ?_ ?_)
 ·rw [kx (fun (i:Nat)=>D.tup [.int (i:Int),.int ((cols T).getD i 0)]) (by rw [BK (α:=Nat) (s1 _ rfl),r8,hb]) (fun (i:Nat)=>!decide ((i:Int)∈P.map (·.2))) (fun (i:Nat)=>D.int (R-eO h (cI T) (i:Int))) fun i hi=>?_];have hi:=Ow.mp hi;refine ⟨[.pu (.int (i:Int)),.pu (.int ((cols T).getD i 0)),.pu (.lst ((P.map (·.2)).map D.int)),.bo (.int R)],rfl,dt (vV (neg:=true) rfl rfl),fun _=>?_⟩;have:(cols T).getD i 0=eO h (cI T) (i:Int):=by rw [nv w i];unfold cols;rw [NF,NR,PR (by lia)];rfl
  rw [this];exact oS rfl rfl
 ·have h1:=lb h (fun (i:Nat)=>!decide ((i:Int)∈P.map (·.1))) (fun i=>R-dI b (cI T) (i:Int)) h6;have h2:=lb b (fun (i:Nat)=>!decide ((i:Int)∈P.map (·.2))) (fun i=>R-eO h (cI T) (i:Int)) b6;rw [N7,NH,NH]; lia
 dsimp only [NX,NV];refine bC (cJ (e:=.int (zS x r)) rfl ?_) rfl;have:(P.map fun p=>cI T p.1 p.2).map D.int++((N4 h).filter fun (i:Nat)=>!decide ((i:Int)∈P.map (·.1))).map (fun (i:Nat)=>D.int (R-dI b (cI T) (i:Int)))++((N4 b).filter fun (j:Nat)=>!decide ((j:Int)∈P.map (·.2))).map (fun (j:Nat)=>D.int (R-eO h (cI T) (j:Int)))=(x::r).map D.int:=by rw [← eB];unfold yF;rw [Od,Od,N0 (l:=U9 _ _),N0 (l:=U9 _ _)];rfl
 rw [this];exact gZ _ (x::r)
theorem uh (ns:List Int):iz (ns.map D.int)=true:=by unfold iz; rw [Um]; exact Pj.mpr fun _ _=>rfl
def mL (T:Mx):List (List D):=T.map fun r=>r.map D.int
theorem xR (T:Mx):D.lst ((mL T).map D.lst)=aJ T:=by unfold mL aJ;rw [N0];rfl
theorem vH {T:Mx} {i:Nat} (h:i<T.length):(mL T)[i]?=some ((T.getD i []).map D.int):=by unfold mL;rw [NR,NG h,NF,NG h];rfl
theorem zQ (T:Mx) (i j:Nat) (v:Int):(mL T).set i (((T.getD i []).map D.int).set j (.int v))=mL (yT T i j v):=by unfold mL yT;rw [Uu,Uu]
theorem vG (T:Mx):(mL T).length=T.length:=NH ..
theorem o5 (g:Int):∀ (P:jU) (T:Mx) (p:Int×Int),gf g T (P++[p])=yT (gf g T P) p.1.toNat p.2.toNat (cI (gf g T P) p.1 p.2+g)
 | [],T,p=>rfl
 | q::P,T,p=>o5 g P _ p
theorem take_snoc {l:List α} {k:Nat} {x:α} (h:l[k]?=some x):l.take (k+1)=l.take k++[x]:=by rw [Tw,h];rfl
def qh (q:Int×jU):D:=.lst [.int q.1,rf q.2]
theorem IH {T:Mx} {b:Nat} (w:Wd T h b) (h0:0<h):cF T=b:=by
 cases T with
 | nil=>have:=w.len; simp at this; lia
 | cons a r=>exact w.F0 a NJ
theorem Ku (T:Mx) (h1:0≤p.1) (h2:0≤p.2):cI T p.1 p.2=(T.getD p.1.toNat []).getD p.2.toNat 0:=by unfold cI;rw [if_pos ⟨h1,h2⟩]
structure As (T0:Mx) (h b:Nat) (top:Int) (T:Mx) (R:Int) (tl:iL):Prop where
 w:Wd T h b
 f:Fits h b (cI T) R
 r0:0≤R
 nz:0<R→0<h
 ok:∀ q∈tl,dW h b q
 sum:(tl.map (·.1)).sum+R=top
 cells:∀ i j:Nat,i<h→j<b→eK i j tl+cI T i j=cI T0 i j
 F8:loose h b (cI T) R+tl.length≤h*b+h+b
theorem As.next {T0:Mx} {b:Nat} {top:Int} {T:Mx} {tl:iL} (v:As T0 h b top T R tl) (hR:0<R) {X:Tk} (m:Match h b (cI T) R X) (g:wt h b (cI T) R X H) {P:jU} (pm:P.Perm (lF h b X)) :
 As T0 h b top (gf (-H) T P) (R-H) (tl++[(H,P)])∧loose h b (cI (gf (-H) T P)) (R-H)<loose h b (cI T) R:=by
 have k:=zB m g pm;obtain ⟨w1,e1⟩:=nF (g:=-H) v.w k.zZ k.nd;have e2:=Dt v.w m g pm;have f1:=zE v.f m g;have l1:=xC m g;rw [← e2] at f1 l1;have h0:=v.nz hR;refine ⟨⟨w1,f1,?_,fun _=>h0,?_,?_,fun i j hi hj=>?_,?_⟩,l1⟩
 ·have r:=f1.row 0 (aA.mpr ⟨O6 _,by lia⟩);have:0≤dI b (cI (gf (-H) T P)) 0:=d8 fun j _=>f1.pos 0 j;lia
 ·intro q hq;rcases NZ.mp hq with z | z
  ·exact v.ok q z
  ·rw [NL.mp z]; exact k
 ·have:=v.sum;rw [Od,QG];simp only [Oq,QI,P8,List.sum_nil];lia
 ·have:=v.cells i j hi hj;rw [wR,e1 i j];dsimp only;split <;> lia
 ·have:=v.F8;rw [N7,Pl];lia
theorem As.first {T0:Mx} (t:Tab T0 m):As T0 T0.length (cF T0) (bT T0) T0 (bT T0) []:=by
 have hw:=t.w;have w:Wd T0 T0.length (cF T0):=⟨rfl,hw⟩
 have le:∀ x∈cm T0++cols T0,x≤bT T0:=fun x hx=>(aX (cm T0++cols T0) 0).2 x (NI _ hx);refine ⟨w,⟨fun i j=>?_,fun i hi=>?_,fun j hj=>?_⟩,(aX (cm T0++cols T0) 0).2 0 NJ,fun z=>?_,fun q hq=>(by cases hq),?_,fun i j _ _=>?_,?_⟩
 ·by_cases c:i∈bV T0.length∧j∈bV (cF T0)
  ·have ci:=aA.mp c.1;have cj:=aA.mp c.2;have:=w.row (i:=i.toNat) (by lia);unfold cI;rw [if_pos ⟨ci.1,cj.1⟩];refine t.nn _ (cZ (T:=T0) (i:=i.toNat) (by lia)) _ ?_;generalize hr:T0.getD i.toNat []=r at *;rw [NF,NG (show j.toNat<r.length by lia)];exact PF _
  ·rw [w.out c]; exact O6 _
 ·have hi:=aA.mp hi;have e:((i.toNat:Nat):Int)=i:=by lia
  have:=mV w (i:=i.toNat) (by lia);rw [e] at this;rw [this];exact le _ (Ol _ (NW.mpr ⟨_,cZ (by lia),rfl⟩))
 ·have hj:=aA.mp hj;have e:((j.toNat:Nat):Int)=j:=by lia
  have:=nv w j.toNat;rw [e] at this;rw [this];exact le _ (NQ _ (NW.mpr ⟨j.toNat,Ow.mpr (by lia),rfl⟩))
 ·cases T0 with
  | nil=>exact absurd z ‹11›
  | cons a r=>exact Nat.succ_pos _
 ·show 0+bT T0=_; lia
 ·show 0+_=_; lia
 ·have:=E3 T0.length (cF T0) (cI T0) (bT T0);show _+((0:Nat):Int)≤_;lia
theorem tJ {b:Nat} {T:Mx} {P:jU} (w:Wd T h b) (zZ:Mb h b P) (nd:P.Nodup) {k:Nat} (hk:P[k]?=some p) :
 Wd (gf H T (P.take k)) h b∧p.1∈bV h∧p.2∈bV b:=by
 have hp:=zZ p (OF hk);refine ⟨(nF (g:=H) w (fun q hq=>zZ q (O5 hq)) (nd.sublist (VG _ _))).1,hp⟩
theorem Jo {T0:Mx} (t:Tab T0 m):∃ tl:iL,hE [aJ T0]=some (.lst (tl.map qh))∧(∀ q∈tl,dW T0.length (cF T0) q)∧tl.length≤48∧(tl.map (·.1)).sum=bT T0∧∀ i j:Nat,i<T0.length→j<cF T0→eK i j tl=cI T0 i j:=by
  have hline:NM=16777216:=OA;have hw:=t.w;have b6:=t.w6;have h6:=t.len;generalize hh:T0.length=h;generalize hb:cF T0=b;rw [hh] at h6;rw [hb] at b6;have hb48:(h:Int)*b+h+b≤48:=by have:(h:Int)*b≤6*6:=WE (by lia) (by lia) (by lia) (by lia);lia
  have v0:=As.first t;rw [hh,hb] at v0;have e1:=mZ hw (by lia) (by lia) t.nn
  obtain ⟨d,e,tl,rfl,h1,h2,h3,h4⟩:=mU nI (ds:=[aJ T0]) (P:=fun d=>∃ tl:iL,d=.lst (tl.map qh)∧(∀ q∈tl,dW h b q)∧tl.length≤48∧(tl.map (·.1)).sum=bT T0∧∀ i j:Nat,i<h→j<b→eK i j tl=cI T0 i j) (by
    rw [Cb];unfold nR;refine wp_seq (kL (rows:=mL T0) (oW (fun r=>D.lst (r.map D.int)) (bN rfl rfl) (fun (r:List Int)=>r.map D.int) fun r _=>⟨[.bo (.lst (r.map D.int))],rfl,qm (rV rfl rfl) (uh r)⟩) (by show 1<8; decide) ?_);dsimp only [NX,NV];refine wp_seq (br (aO ‹45› e1) ?_);dsimp only [NX,NV];refine wp_seq (fK (ds:=[]) rfl (by show 3<8; decide) ?_);dsimp only [NX,NV];refine wp_seq (qA (fun n ρ=>∃ (T:Mx) (R:Int) (tl:iL) (v4 v5 v6 v7:Sl),As T0 h b (bT T0) T R tl∧n=(loose h b (cI T) R).toNat∧ρ=[.bo (aJ T0),.om (mL T),.pu (.int R),.ol (tl.map qh),v4,v5,v6,v7]) _ ⟨T0,bT T0,[],_,_,_,_,v0,rfl,rfl⟩ ?_);rintro n ρ ⟨T,R,tl,v4,v5,v6,v7,v,hn,rfl⟩;refine ⟨decide (0<R),dt (ng rfl rfl),fun x=>?_,fun x=>?_⟩
    · have hR:0<R:=of_decide_eq_true x;have h0:=v.nz hR;have w:=v.w;have hl:=w.len;have hwd:=IH w h0;obtain ⟨X,eX,m⟩:=matched v.f hR (n:=14) (by lia);obtain ⟨P,eP,pm⟩:=II w hwd h0 h6 b6 eX m;obtain ⟨H,eH,g⟩:=longest w hwd h0 h6 b6 m pm;have k:=zB m g pm;obtain ⟨v',lf⟩:=v.next hR m g pm;have eT:∀ (a b c d e f:Sl),ai 1 [.bo (aJ T0),.om (mL T),a,b,c,d,e,f]=some (aJ T):=fun a b c d e f=>congrArg some (xR T);refine wp_seq (br (aO (au (eT ..) ‹45›) eP) ?_);dsimp only [NX,NV];refine wp_seq (br (aO (au (eT ..) (au rfl ‹45›)) eH) ?_);dsimp only [NX,NV];refine wp_seq (fq (ds:=P.map jG) (bN rfl rfl) (fun j ρ=>∃ v6 v7:Sl,ρ=[.bo (aJ T0),.om (mL (gf (-H) T (P.take j))),.pu (.int R),.ol (tl.map qh),.pu (rf P),.pu (.int H),v6,v7]) ⟨_,_,rfl⟩ ?_ ?_)
      · rintro j d ρ hd ⟨v6,v7,rfl⟩;rw [NR] at hd;obtain ⟨p,hp,rfl⟩:=OH.mp hd;obtain ⟨w2,p1,p2⟩:=tJ (P:=P) (H:=-H) w k.zZ k.nd hp;have p1:=aA.mp p1;have p2:=aA.mp p2;have hl2:=w2.len;have hr2:=w2.row (i:=p.1.toNat) (by lia);refine ⟨[.bo (aJ T0),.om (mL (gf (-H) T (P.take j))),.pu (.int R),.ol (tl.map qh),.pu (rf P),.pu (.int H),.pu (.int p.1),.pu (.int p.2)],rfl,?_⟩;refine Gb rfl rfl (fF p1.1 (by rw [vG]; lia)) (vH (by lia)) rfl (fF p2.1 (by rw [NH]; lia)) (x:=cI (gf (-H) T (P.take j)) p.1 p.2) ?_ rfl ⟨.pu (.int p.1),.pu (.int p.2),?_⟩
        · rw [NR,NG (by lia),Ku _ p1.1 p2.1,NF (l:=List.getD _ _ _),NG (by lia)];rfl
        · dsimp only [NX,NV];rw [zQ,take_snoc hp,o5];rfl
      · rintro ρ ⟨v6,v7,rfl⟩;rw [NH,Qc];refine wp_seq (nZ rfl rfl ?_);dsimp only [NX,NV];have:=v.F8;have:=rD h b (cI T) R;have:=rD h b (cI (gf (-H) T P)) (R-H);refine n4 rfl (bf (au rfl ‹45›)) (by rw [NH]; lia) ?_;refine ⟨_,?_,_,_,tl++[(H,P)],.pu (rf P),.pu (.int H),v6,v7,v',rfl,?_⟩
        · rw [hn]; lia
        · dsimp only [NX,NV];rw [Od];rfl
    · have hR:¬ 0<R:=of_decide_eq_false x;have r0:=v.r0;have eR:R=0:=by lia
      subst eR;refine yN ?_;dsimp only [kZ,SJ,RA,NX,NV];have:=v.F8;have:=rD h b (cI T) 0;have hs:=v.sum;refine bC rfl ⟨tl,rfl,v.ok,by lia,by lia,fun i j hi hj=>?_⟩;have c:=v.cells i j hi hj;have:=CO v.f (i:=(i:Int)) (j:=(j:Int)) (aA.mpr ⟨by lia,by lia⟩) (aA.mpr ⟨by lia,by lia⟩);lia)
  exact ⟨tl,e,h1,h2,h3,h4⟩
abbrev R4:=Int×Int×Int×Int
namespace R4
abbrev b (r:R4):Int:=r.1
abbrev w (r:R4):Int:=r.2.1
abbrev s (r:R4):Int:=r.2.2.1
abbrev e (r:R4):Int:=r.2.2.2
end R4
def Dj (x y:R4):Prop:=x.b=y.b→x.e≤y.s∨y.e≤x.s
structure Ap (rs:List R4):Prop where
 pos:∀ r∈rs,r.s<r.e
 dj:rs.Pairwise Dj
def Nx (x y:R4):Prop:=y.b=x.b∧y.w=x.w∧y.s=x.e
instance (x y:R4):Decidable (Nx x y):=by unfold Nx; infer_instance
def FY (x y:R4):Prop:=x.b<y.b∨(x.b=y.b∧(x.w<y.w∨(x.w=y.w∧(x.s<y.s∨(x.s=y.s∧x.e≤y.e)))))
theorem Dj.symm {x y:R4} (h:Dj x y):Dj y x:=fun q=>(h q.symm).symm
theorem Ap.perm {rs ss:List R4} (h:Ap rs) (p:ss.Perm rs):Ap ss:=⟨fun r hr=>h.pos r (p.mem_iff.mp hr),(p.pairwise_iff fun h=>Dj.symm h).mpr h.dj⟩
theorem EE {α:Type} {R:α→α→Prop} (sy:∀ x y,R x y→R y x):∀ {l:List α},l.Pairwise R→∀ {x y:α},x∈l→y∈l→x=y∨R x y
 | a::l,h,x,y,hx,hy=>by
  obtain ⟨h1,h2⟩:=PL.mp h;rcases NU.mp hx with ex | hx <;> rcases NU.mp hy with ey | hy
  ·exact .inl (ex.trans ey.symm)
  ·exact .inr (ex ▸ h1 y hy)
  ·exact .inr (ey ▸ sy _ _ (h1 x hx))
  ·exact EE sy h2 hx hy
theorem Ap.two {rs:List R4} (h:Ap rs) {x y:R4} (hx:x∈rs) (hy:y∈rs) (eb:x.b=y.b) (es:x.s=y.s):x=y:=by
 have h1:=h.pos x hx;have h2:=h.pos y hy;rcases EE (fun _ _ q=>Dj.symm q) h.dj hx hy with q | q
 ·exact q
 ·rcases q eb with q | q <;> lia
inductive Fi (rs:List R4):R4→Int→Prop
 | stop {x:R4}:(∀ q∈rs,¬ Nx x q)→Fi rs x x.e
 | step {x q:R4} {E:Int}:q∈rs→Nx x q→Fi rs q E→Fi rs x E
theorem Fi.uniq {rs:List R4} (h:Ap rs) {x:R4} {F:Int} (a:Fi rs x E) (c:Fi rs x F):E=F:=by
 induction a with
 | stop h0 =>
  cases c with
  | stop=>rfl
  | step hq hn _=>exact absurd hn (h0 _ hq)
 | step hq hn _ ih =>
  cases c with
  | stop h0=>exact absurd hn (h0 _ hq)
  | step hq' hn' c' =>have:=h.two hq hq' (by have:=hn.1; have:=hn'.1; lia) (by have:=hn.2.2; have:=hn'.2.2; lia);subst this;exact ih c'
theorem Fi.perm {rs ss:List R4} (p:rs.Perm ss) {x:R4} (a:Fi rs x E):Fi ss x E:=by
 induction a with
 | stop h0=>exact .stop fun q hq=>h0 q (p.mem_iff.mpr hq)
 | step hq hn _ ih=>exact .step (p.mem_iff.mp hq) hn ih
def Bg (rs:List R4) (x:R4):Prop:=∀ q∈rs,¬ Nx q x
instance (rs:List R4) (x:R4):Decidable (Bg rs x):=by unfold Bg; infer_instance
def bg (rs:List R4) (x:R4):Bool:=decide (Bg rs x)
open Classical in
noncomputable def fin (rs:List R4) (x:R4):Int:=if h:∃ E,Fi rs x E then h.choose else 0
theorem rQ {rs:List R4} (h:Ap rs) {x:R4} (a:Fi rs x E):fin rs x=E:=by
 have hh:∃ E,Fi rs x E:=⟨E,a⟩
 unfold fin;rw [dif_pos hh];exact Fi.uniq h hh.choose_spec a
def jN (x:R4) (E:Int):R4:=(x.b,x.w,x.s,E)
def ju:List R4→List R4
 | []=>[]
 | x::xs=>match ju xs with
  | []=>[x]
  | y::ys=>if Nx x y then jN x y.e::ys else x::y::ys
theorem yg (x:R4) (xs:List R4):∃ E ys,ju (x::xs)=jN x E::ys:=by
 show ∃ E ys,(match ju xs with | []=>[x] | y::ys=>if Nx x y then jN x y.e::ys else x::y::ys)=_;split
 ·exact ⟨x.e,[],rfl⟩
 ·rename_i y ys _;split
  ·exact ⟨_,_,rfl⟩
  ·exact ⟨x.e,_,rfl⟩
def Ih (x:R4):List R4→List R4
 | []=>[x]
 | y::ys=>if Nx x y then Ih (jN x y.e) ys else x::Ih y ys
theorem J9 (x y:R4) (h:Nx x y) (T:List R4):ju (jN x y.e::T)=ju (x::y::T):=by
 have e1:ju (x::y::T)=match ju (y::T) with | []=>[x] | z::ys=>if Nx x z then jN x z.e::ys else x::z::ys:=rfl
 have e2:ju (y::T)=match ju T with | []=>[y] | z::ys=>if Nx y z then jN y z.e::ys else y::z::ys:=rfl
 have e3:ju (jN x y.e::T)=match ju T with | []=>[jN x y.e] | z::ys=>if Nx (jN x y.e) z then jN (jN x y.e) z.e::ys else jN x y.e::z::ys:=rfl
 rw [e3,e1,e2];cases ju T with
 | nil=>exact (if_pos h).symm
 | cons z ys =>
  by_cases c:Nx y z
  ·have c':Nx (jN x y.e) z:=⟨c.1.trans h.1,c.2.1.trans h.2.1,c.2.2⟩
   simp only [];rw [if_pos c,if_pos c'];exact (if_pos (show Nx x (jN y z.e) from h)).symm
  ·have c':¬ Nx (jN x y.e) z:=fun q=>c ⟨q.1.trans h.1.symm,q.2.1.trans h.2.1.symm,q.2.2⟩;simp only [];rw [if_neg c,if_neg c'];exact (if_pos h).symm
theorem vJ:∀ (T:List R4) (x:R4),Ih x T=ju (x::T)
 | [],x=>rfl
 | y::T,x=>by
  by_cases h:Nx x y
  ·rw [Ih,if_pos h,vJ T,J9 x y h]
  ·rw [Ih,if_neg h,vJ T];obtain ⟨E,ys,e⟩:=yg y T;show _=match ju (y::T) with | []=>[x] | z::ys=>if Nx x z then jN x z.e::ys else x::z::ys
   rw [e];exact (if_neg (show ¬ Nx x (jN y E) from h)).symm
theorem z6 {S:List R4} (ap:Ap S) (so:S.Pairwise FY):∀ (T P:List R4) (x:R4),S=P++x::T→Fi S x (fin S x)∧ju (x::T)=jN x (fin S x)::(T.filter (bg S)).map fun r=>jN r (fin S r)
 | [],P,x,e=>by
  have st:∀ q∈S,¬ Nx x q:=fun q hq hn=>by
   have hx:x∈S:=by rw [e]; simp
   have p1:=ap.pos x hx;rw [e] at hq so;have hq':q∈P∨q=x:=by simpa using hq
   rcases hq' with hq' | hq'
   ·have:=(Oo.mp so).2.2 q hq' x (by simp);unfold FY at this; obtain ⟨n1,n2,n3⟩:=hn; lia
   ·subst hq'; have:=hn.2.2; lia
  have f:=Fi.stop st;rw [rQ ap f];exact ⟨f,rfl⟩
 | y::T,P,x,e=>by
  obtain ⟨fy,ih⟩:=z6 ap so T (P++[x]) y (by rw [e]; simp);have hx:x∈S:=by rw [e]; simp
  have hy:y∈S:=by rw [e]; simp
  have px:=ap.pos x hx;have py:=ap.pos y hy;have so':=so;rw [e] at so';obtain ⟨soP,soT,soPT⟩:=Oo.mp so';obtain ⟨sx,sT⟩:=PL.mp soT;obtain ⟨sy,_⟩:=PL.mp sT;have mem:∀ q∈S,q∈P∨q=x∨q=y∨q∈T:=fun q hq=>by rw [e] at hq; simpa using hq
  have djxy:Dj x y:=by have:=ap.dj;rw [e] at this;exact (PL.mp (Oo.mp this).2.1).1 y (by simp)
  have xy:=sx y (by simp)
  have nxt:∀ q∈S,Nx x q→q=y:=fun q hq hn=>by
   have pq:=ap.pos q hq;obtain ⟨n1,n2,n3⟩:=hn;rcases mem q hq with h | h | h | h
   ·have:=soPT q h x (by simp);unfold FY at this; lia
   ·subst h; lia
   ·exact h
   ·have yq:=sy q h;unfold FY at xy yq;have eb:x.b=y.b:=by lia
    refine ap.two hq hy (by lia) ?_;rcases djxy eb with d | d <;> lia
  have prv:∀ q∈S,Nx q y→q=x:=fun q hq hn=>by
   have pq:=ap.pos q hq;obtain ⟨n1,n2,n3⟩:=hn;rcases mem q hq with h | h | h | h
   ·have qx:=soPT q h x (by simp);unfold FY at xy qx;have eb:q.b=x.b:=by lia
    rcases EE (fun _ _ q=>Dj.symm q) ap.dj hq hx with z | z
    ·exact z
    ·rcases z eb with d | d
     ·rcases djxy (by lia) with d2 | d2 <;> lia
     ·lia
   ·exact h
   ·subst h; lia
   ·have:=sy q h;unfold FY at this; lia
  have eg:ju (x::y::T)=if Nx x y then jN x (fin S y)::(T.filter (bg S)).map (fun r=>jN r (fin S r)) else x::jN y (fin S y)::(T.filter (bg S)).map fun r=>jN r (fin S r):=by show (match ju (y::T) with | []=>[x] | z::ys=>if Nx x z then jN x z.e::ys else x::z::ys)=_;rw [ih]; rfl
  rw [eg];by_cases h:Nx x y
  ·have fx:Fi S x (fin S y):=.step hy h fy;rw [if_pos h,rQ ap fx,QZ]
   ·exact ⟨fx,rfl⟩
   ·unfold bg; rw [decide_eq_true_iff]; exact fun z=>z x hx h
  ·have fx:Fi S x x.e:=.stop fun q hq hn=>h (nxt q hq hn ▸ hn);rw [if_neg h,rQ ap fx,Qr]
   ·exact ⟨fx,rfl⟩
   ·unfold bg; rw [decide_eq_true_iff]; exact fun q hq hn=>h (prv q hq hn ▸ hn)
theorem Ha {S:List R4} (ap:Ap S) (so:S.Pairwise FY):ju S=(S.filter (bg S)).map fun r=>jN r (fin S r):=by
 cases S with
 | nil=>rfl
 | cons x T =>
  obtain ⟨_,h⟩:=z6 ap so T [] x rfl;rw [h,Qr]
  ·rfl
  ·unfold bg; rw [decide_eq_true_iff];intro q hq hn;have p1:=ap.pos q hq;have p2:=ap.pos x (by simp);rcases NU.mp hq with z | z
   ·subst z; have:=hn.2.2; lia
   ·have:=(PL.mp so).1 q z;unfold FY at this; obtain ⟨n1,n2,n3⟩:=hn; lia
abbrev gX (r:R4):List D:=[.int r.b,.int r.w,.int r.s,.int r.e]
abbrev cA (r:R4):D:=.lst (gX r)
def zR (r:R4):List Int:=[r.b,r.w,r.s,r.e]
theorem Hb (x y:R4):i8 [cA x,cA y]=some (.bl (decide (Nx x y))):=by
 refine cf lZ ?_;rw [y9];unfold lz;have e:∀ a b:Int,jQ false (dC (.int a)) (dC (.int b)) []=some (.bl (decide (a=b))):=fun a b=>iJ rfl rfl;refine bC (fS (iJ ‹19› ‹19›) fun _=>fS (iJ ‹19› ‹19›) fun _=>iJ ‹19› ‹19›) ?_;refine congrArg D.bl ?_;rw [Pa];simp only [Qb,decide_eq_true_iff];unfold Nx;constructor
 ·rintro ⟨h1,h2,h3⟩; exact ⟨h1.symm,h2.symm,h3.symm⟩
 ·rintro ⟨h1,h2,h3⟩; exact ⟨h1.symm,h2.symm,h3.symm⟩
def LW (z:List Int):R4:=(z.getD 0 0,z.getD 1 0,z.getD 2 0,z.getD 3 0)
theorem K0 (r:R4):LW (zR r)=r:=rfl
noncomputable def s4 (rs:List R4):List R4:=(iM (rs.map zR)).map LW
theorem Ll (rs:List R4):(s4 rs).map zR=iM (rs.map zR):=by
 unfold s4;rw [N0]
 conv=>rhs; rw [← Rr (iM (rs.map zR))]
 refine OC fun z hz=>?_;obtain ⟨r,_,rfl⟩:=NW.mp ((fv _).mem_iff.mp hz);rfl
theorem cT (rs:List R4):(s4 rs).Perm rs:=by have:=(fv (rs.map zR)).map LW;rw [N0,show (LW∘zR)=id from funext K0,Rr] at this;exact this
theorem Mw {x y:R4} (h:L2.lexLt (zR y) (zR x)=false):FY x y:=by
 unfold zR at h;simp only [L2.lexLt] at h;unfold FY;split at h
 ·split at h
  ·split at h
   ·split at h
    ·lia
    ·have:=of_decide_eq_false h; lia
   ·have:=of_decide_eq_false h; lia
  ·have:=of_decide_eq_false h; lia
 ·have:=of_decide_eq_false h; lia
theorem HY (rs:List R4):(s4 rs).Pairwise FY:=by have h:=qc (rs.map zR);rw [← Ll,Pk] at h;exact h.imp fun h=>Mw h
def AQ (acc:List R4) (r:R4):List R4:=match acc.getLast? with
 | some x=>if Nx x r then acc.dropLast++[jN x r.e] else acc++[r]
 | none=>acc++[r]
theorem uP (acc:List R4) (x r:R4):AQ (acc++[x]) r=if Nx x r then acc++[jN x r.e] else acc++[x]++[r]:=by unfold AQ;rw [List.getLast?_concat];simp only [List.dropLast_concat]
theorem rO:∀ (T acc:List R4) (x:R4),T.foldl AQ (acc++[x])=acc++Ih x T
 | [],acc,x=>rfl
 | y::T,acc,x=>by
  rw [SE,uP];by_cases h:Nx x y
  ·rw [if_pos h,rO T,Ih,if_pos h]
  ·rw [if_neg h,rO T,Ih,if_neg h,OG]; rfl
theorem rP (S:List R4):S.foldl AQ []=ju S:=by
 cases S with
 | nil=>rfl
 | cons x T =>have:=rO T [] x;rw [vJ] at this;exact this
theorem Gs (acc:List R4) (r:R4):(AQ acc r).length≤acc.length+1:=by
 unfold AQ;split
 ·split
  ·simp
  ·simp
 ·simp
theorem m8:∀ (T acc:List R4),(T.foldl AQ acc).length≤acc.length+T.length
 | [],acc=>by simp
 | r::T,acc=>by have h1:=m8 T (AQ acc r);have h2:=Gs acc r;rw [SE,Oy]; lia
theorem Iv (r:R4):iz (gX r)=true:=rfl
def kR (l:List D):List Int:=match l with
 | [.int b,.int _,.int s,.int _]=>[s,b]
 | _=>[]
noncomputable def jn (rs:List R4):List (List D):=sF kR ((ju (s4 rs)).map gX)
theorem C5 {rs:List R4} (hl:rs.length<800) (hn:(((ju (s4 rs)).map gX).map kR).Nodup):hU [.lst (rs.map cA)]=some (fV (jn rs)):=by
 refine A7 nQ ?_;rw [Cf];unfold nV;have hs:NM=16777216:=OA;refine wp_seq (kL (rows:=(([]:List R4).map gX)) rfl (by simp only [Oy,Pm]; lia) ?_);walk_at "st";have esrt:nk (rX 0) [.bo (.lst (rs.map cA)),.om (([]:List R4).map gX),.un]=some ((s4 rs).map cA):=by have:=yo (a:=rX 0) (ρ:=[.bo (.lst (rs.map cA)),.om (([]:List R4).map gX),.un]) (zs:=rs.map zR) (by rw [N0]; rfl) (by rw [NH]; exact hl);rw [this,← Ll,N0]; rfl
 have hsl:(s4 rs).length<800:=by rw [(cT rs).length_eq]; exact hl
 refine wp_seq (fq esrt (fun j ρ=>∃ v2:Sl,ρ=[.bo (.lst (rs.map cA)),.om ((((s4 rs).take j).foldl AQ []).map gX),v2]) ⟨_,rfl⟩ ?_ ?_)
 ·rintro j d ρ hd ⟨v2,rfl⟩;rw [NR] at hd;obtain ⟨r,hr,rfl⟩:=OH.mp hd;refine ⟨_,rfl,?_⟩;dsimp only [gN,zh,NX,NV];have tk:((s4 rs).take (j+1)).foldl AQ []=AQ (((s4 rs).take j).foldl AQ []) r:=by rw [Tf,hr]; simp [VT]
  have al:(((s4 rs).take j).foldl AQ []).length<800:=by have h1:=m8 ((s4 rs).take j) [];have h2:=List.length_take_le j (s4 rs);have h3:((s4 rs).take j).length≤(s4 rs).length:=Sy j (s4 rs);simp only [Pm] at h1; lia
  rw [tk];generalize ((s4 rs).take j).foldl AQ []=acc at al;rcases List.eq_nil_or_concat acc with rfl | ⟨init,x,rfl⟩
  ·refine tx (x:=false) (mC (x:=false) (y:=false) (cL (d:=.lst []) rfl rfl) fun z=>by cases z) (fun z=>by cases z) fun _=>?_;refine kM rfl (qm (rV rfl rfl) (Iv r)) (by simp; lia) ?_;exact ⟨_,rfl⟩
  ·rw [List.concat_eq_append] at *;have hL:((init++[x]).map gX).length=init.length+1:=by simp
   have t1:Gg (fV ((init++[x]).map gX))=some true:=by show some (!(((init++[x]).map gX).map D.lst).isEmpty)=_;simp
   have ixl:ixN (init.length+1) (-1)=some init.length:=by unfold ixN;rw [if_neg (by lia),if_pos (by lia)];exact congrArg some (by lia)
   have ix:C6 (fV ((init++[x]).map gX)) (-1)=some (cA x):=by show jR (((init++[x]).map gX).map D.lst) (-1)=_;unfold jR;rw [NH,hL,ixl];simp
   refine tx (mC (cL rfl t1) fun _=>cL (aO (au (ba rfl rfl ix) ‹45›) (Hb x r)) rfl) (fun h=>?_) fun h=>?_
   ·have h:Nx x r:=by simpa using h
    refine Ay (r:=init.length) (j:=3) (ds:=gX x) (n:=-1) (m:=3) (d:=.int r.e) rfl rfl rfl ?_ ?_ rfl rfl ?_
    ·rw [hL]; exact ixl
    ·rw [Od,Ox (by simp)]; simp
    ·refine ⟨.bo (cA r),?_⟩;rw [uP,if_pos h,Od,Sd _ _ (by simp)];simp only [NH,SR,Od,Oq,QI,NV];rfl
   ·have h:¬ Nx x r:=by simpa using h
    refine kM rfl (qm (rV rfl rfl) (Iv r)) (by simp only [hL]; simp at al; lia) ?_;refine ⟨.bo (cA r),?_⟩;rw [uP,if_neg h,Od (l₁:=init++[x])];rfl
 ·rintro ρ ⟨v2,rfl⟩;rw [NH,Qc,rP];have hg:(ju (s4 rs)).length<800:=by rw [← rP];have:=m8 (s4 rs) [];simp only [Pm] at this; lia
  refine DK kR rfl (fun l hl'=>?_) hn (by rw [NH]; exact hg) rfl;obtain ⟨r,_,rfl⟩:=NW.mp hl';exact ⟨rfl,by intro z; cases z⟩
theorem Iw {rs:List R4} (ap:Ap rs) {r:R4} (h:r∈rs):Fi rs r (fin rs r):=by have ap2:=ap.perm (cT rs);obtain ⟨P,T,e⟩:=List.append_of_mem ((cT rs).mem_iff.mpr h);have f:=Fi.perm (cT rs) (z6 ap2 (HY rs) T P r e).1;rw [rQ ap f];exact f
theorem Hx {rs ss:List R4} (p:ss.Perm rs) (r:R4):bg ss r=bg rs r:=by unfold bg;rw [Pa,decide_eq_true_iff,decide_eq_true_iff];exact ⟨fun h q hq=>h q (p.mem_iff.mpr hq),fun h q hq=>h q (p.mem_iff.mp hq)⟩
noncomputable def Kx (rs:List R4):List R4:=rs.filter (bg rs)
noncomputable def full (rs:List R4) (r:R4):R4:=jN r (fin rs r)
theorem vQ {rs:List R4} (ap:Ap rs):ju (s4 rs)=((s4 rs).filter (bg rs)).map (full rs):=by have ap2:=ap.perm (cT rs);rw [Ha ap2 (HY rs),show bg (s4 rs)=bg rs from funext fun r=>Hx (cT rs) r];refine OC fun r hr=>?_;have hm:=(cT rs).mem_iff.mp ((OJ.mp hr).1);exact congrArg (jN r) (rQ ap2 (Fi.perm (cT rs).symm (Iw ap hm)))
def dz (r:R4):List Int:=[r.s,r.b,r.w,r.e]
def K2 (z:List Int):R4:=(z.getD 1 0,z.getD 2 0,z.getD 0 0,z.getD 3 0)
noncomputable def out (rs:List R4):List R4:=(iM ((Kx rs).map fun r=>dz (full rs r))).map K2
theorem EO (rs:List R4):iM ((Kx rs).map fun r=>dz (full rs r))=(out rs).map dz:=by
 unfold out;rw [N0]
 conv=>lhs; rw [← Rr (iM _)]
 refine OC fun z hz=>?_;obtain ⟨r,_,rfl⟩:=NW.mp ((fv _).mem_iff.mp hz);rfl
theorem mY (rs:List R4):(out rs).Perm ((Kx rs).map (full rs)):=by have:=(fv ((Kx rs).map fun r=>dz (full rs r))).map K2;rw [N0] at this;exact this
theorem G1 {x y:R4} (h:L2.lexLt (dz y) (dz x)=false):L2.lexLt (kR (gX y)) (kR (gX x))=false:=by
 show L2.lexLt [y.s,y.b] [x.s,x.b]=false;unfold dz at h;simp only [L2.lexLt] at h ⊢;split at h
 ·rename_i e;rw [if_pos e];split at h
  ·rename_i e2; rw [if_pos e2]
  ·rename_i e2; rw [if_neg e2]; exact h
 ·rename_i e;rw [if_neg e]; exact h
theorem Bw {rs:List R4} (ap:Ap rs) {l:List R4} (hl:l.Nodup) (hm:∀ r∈l,r∈rs):(((l.map (full rs)).map gX).map kR).Nodup:=by rw [N0,N0];refine Pk.mpr (PQ (fun {x y} hx hy ne e=>ne ?_) hl);have e:[x.s,x.b]=[y.s,y.b]:=e;injection e with e1 e2;injection e2 with e2 _;exact ap.two (hm x hx) (hm y hy) e2 e1
theorem Ap.nodup {rs:List R4} (ap:Ap rs):rs.Nodup:=by refine PQ (fun {x y} hx hy d e=>?_) ap.dj;subst e;have:=ap.pos x hx;rcases d rfl with h | h <;> lia
theorem JW {rs:List R4} (ap:Ap rs):jn rs=(out rs).map gX:=by
 unfold jn;have p0:((s4 rs).filter (bg rs)).Perm (Kx rs):=(cT rs).filter _;have nd:(((ju (s4 rs)).map gX).map kR).Nodup:=by rw [vQ ap];exact Bw ap (VA Vj (ap.perm (cT rs)).nodup) fun r hr=>(cT rs).mem_iff.mp ((OJ.mp hr).1)
 refine (ou (kg:=kR) (fun _ _=>rfl) nd ?_ ?_).symm
 ·rw [vQ ap];exact ((mY rs).trans (p0.map _).symm).map gX
 ·have h:=qc ((Kx rs).map fun r=>dz (full rs r));rw [EO,Pk] at h;rw [Pk];exact h.imp fun h=>G1 h
theorem joined {rs:List R4} (ap:Ap rs) (hl:rs.length<800):hU [.lst (rs.map cA)]=some (.lst ((out rs).map cA)):=by
 rw [C5 hl,JW ap]
 ·unfold fV; rw [N0]; rfl
 ·rw [vQ ap];exact Bw ap (VA Vj (ap.perm (cT rs)).nodup) fun r hr=>(cT rs).mem_iff.mp ((OJ.mp hr).1)
def SM {α:Type} (l:List α) (f:α→Int):Int:=(l.map f).sum
theorem ck (x:α) (l:List α) (f:α→Int):SM (x::l) f=f x+SM l f:=by unfold SM; rw [Oq,P8]
theorem KC (l m:List α) (f:α→Int):SM (l++m) f=SM l f+SM m f:=by unfold SM; rw [Od,QG]
theorem kF {l:List α} {f g:α→Int} (h:∀ x∈l,f x=g x):SM l f=SM l g:=by unfold SM; rw [OC h]
theorem k6 {α:Type}:∀ l:List α,SM l (fun _=>0)=0
 | []=>rfl
 | x::l=>by rw [ck,k6 l]; rfl
theorem wo {l m:List α} (p:l.Perm m) (f:α→Int):SM l f=SM m f:=by
 induction p with
 | nil=>rfl
 | cons x _ ih=>rw [ck,ck,ih]
 | swap x y l=>rw [ck,ck,ck,ck]; lia
 | trans _ _ a b=>exact a.trans b
theorem Gk {l:List α} {x:α} (f:α→Int) (h:l[j]?=some x):SM (l.take (j+1)) f=SM (l.take j) f+f x:=by unfold SM;rw [Tf,h];simp
def Hk (k:R4→Int) (x y:R4):Prop:=k x=k y→x.e≤y.s∨y.e≤x.s
theorem Hk.symm {k:R4→Int} {x y:R4} (h:Hk k x y):Hk k y x:=fun e=>(h e.symm).symm
theorem gP (x:R4) (xs:List R4):(ju xs=[]∧ju (x::xs)=[x])∨∃ y ys,ju xs=y::ys∧((Nx x y∧ju (x::xs)=jN x y.e::ys)∨(¬ Nx x y∧ju (x::xs)=x::y::ys)):=by
 have e:ju (x::xs)=match ju xs with | []=>[x] | y::ys=>if Nx x y then jN x y.e::ys else x::y::ys:=rfl
 rw [e];cases ju xs with
 | nil=>exact .inl ⟨rfl,rfl⟩
 | cons y ys =>
  refine .inr ⟨y,ys,rfl,?_⟩;by_cases c:Nx x y
  ·exact .inl ⟨c,if_pos c⟩
  ·exact .inr ⟨c,if_neg c⟩
theorem qj:∀ {S:List R4},(∀ q∈S,q.s<q.e)→∀ z∈ju S,z.s<z.e
 | [],_,z,hz=>by cases hz
 | x::xs,h,z,hz=>by
  have ih:=qj (S:=xs) fun q hq=>h q (NI _ hq);have hx:=h x NJ;rcases gP x xs with ⟨_,e⟩ | ⟨y,ys,e0,⟨n,e⟩ | ⟨n,e⟩⟩
  ·rw [e] at hz;rw [NL.mp hz];exact hx
  ·rw [e] at hz;rw [e0] at ih;rcases NU.mp hz with q | q
   ·have:=ih y NJ;have:=n.2.2;rw [q];show x.s<y.e;lia
   ·exact ih z (NI _ q)
  ·rw [e] at hz;rw [e0] at ih;rcases NU.mp hz with q | q
   ·rw [q];exact hx
   ·exact ih z q
theorem BF:∀ {S:List R4},∀ z∈ju S,(∃ q∈S,z.b=q.b∧z.w=q.w∧z.s=q.s)∧∃ q∈S,z.e=q.e
 | [],z,hz=>by cases hz
 | x::xs,z,hz=>by
  have ih:=BF (S:=xs);have lift:∀ {z:R4},((∃ q∈xs,z.b=q.b∧z.w=q.w∧z.s=q.s)∧∃ q∈xs,z.e=q.e)→(∃ q∈x::xs,z.b=q.b∧z.w=q.w∧z.s=q.s)∧∃ q∈x::xs,z.e=q.e:=fun {z} h=>by obtain ⟨⟨q,hq,e⟩,q',hq',e'⟩:=h;exact ⟨⟨q,NI _ hq,e⟩,q',NI _ hq',e'⟩
  have own:(∃ q∈x::xs,x.b=q.b∧x.w=q.w∧x.s=q.s)∧∃ q∈x::xs,x.e=q.e:=⟨⟨x,NJ,rfl,rfl,rfl⟩,x,NJ,rfl⟩
  rcases gP x xs with ⟨_,e⟩ | ⟨y,ys,e0,⟨n,e⟩ | ⟨n,e⟩⟩
  ·rw [e] at hz;rw [NL.mp hz];exact own
  ·rw [e] at hz;rw [e0] at ih;rcases NU.mp hz with q | q
   ·rw [q];obtain ⟨_,q',hq',e'⟩:=ih y NJ;exact ⟨own.1,q',NI _ hq',e'⟩
   ·exact lift (ih z (NI _ q))
  ·rw [e] at hz;rw [e0] at ih;rcases NU.mp hz with q | q
   ·rw [q];exact own
   ·exact lift (ih z q)
theorem BD:∀ {S:List R4},(∀ q∈S,q.s<q.e)→∀ q∈S,∃ z∈ju S,q.e≤z.e
 | [],_,q,hq=>by cases hq
 | x::xs,h,q,hq=>by
  have ih:=BD (S:=xs) fun q hq=>h q (NI _ hq);have ps:=qj (S:=xs) fun q hq=>h q (NI _ hq);rcases gP x xs with ⟨e0,e⟩ | ⟨y,ys,e0,⟨n,e⟩ | ⟨n,e⟩⟩
  ·rw [e];rcases NU.mp hq with z | z
   ·exact ⟨x,NL.mpr rfl,by rw [z]; exact O6 _⟩
   ·obtain ⟨w,hw,_⟩:=ih q z;rw [e0] at hw;cases hw
  ·rw [e];rw [e0] at ih ps;have py:=ps y NJ;have:=n.2.2;rcases NU.mp hq with z | z
   ·exact ⟨jN x y.e,NJ,by rw [z]; show x.e≤y.e; lia⟩
   ·obtain ⟨w,hw,hl⟩:=ih q z;rcases NU.mp hw with hw | hw
    ·exact ⟨jN x y.e,NJ,by rw [hw] at hl; exact hl⟩
    ·exact ⟨w,NI _ hw,hl⟩
  ·rw [e];rw [e0] at ih;rcases NU.mp hq with z | z
   ·exact ⟨x,NJ,by rw [z]; exact O6 _⟩
   ·obtain ⟨w,hw,hl⟩:=ih q z;exact ⟨w,NI _ hw,hl⟩
section
variable {k:R4→Int} (hk:∀ r E,k (jN r E)=k r) (kn:∀ {x y:R4},Nx x y→k x=k y)
include hk kn
theorem Fl {x:R4} (hx:x.s<x.e):∀ {S:List R4},(∀ q∈S,Hk k x q)→∀ z∈ju S,Hk k x z
 | [],_,z,hz=>by cases hz
 | q::qs,h,z,hz=>by
  have ih:=Fl hx (S:=qs) fun p hp=>h p (NI _ hp);have hq:=h q NJ;rcases gP q qs with ⟨_,e⟩ | ⟨y,ys,e0,⟨n,e⟩ | ⟨n,e⟩⟩
  ·rw [e] at hz;rw [NL.mp hz];exact hq
  ·rw [e] at hz;rw [e0] at ih;rcases NU.mp hz with w | w
   ·rw [w];intro e1;rw [hk] at e1;have a:=hq e1;have c:=ih y NJ (e1.trans (kn n));have:=n.2.2;show x.e≤q.s∨y.e≤x.s;lia
   ·exact ih z (NI _ w)
  ·rw [e] at hz;rw [e0] at ih;rcases NU.mp hz with w | w
   ·rw [w];exact hq
   ·exact ih z w
theorem Fj:∀ {S:List R4},(∀ q∈S,q.s<q.e)→S.Pairwise (Hk k)→(ju S).Pairwise (Hk k)
 | [],_,_=>.nil
 | x::xs,h,p=>by
  obtain ⟨p1,p2⟩:=PL.mp p;have hx:=h x NJ;have ps:=qj (S:=xs) fun q hq=>h q (NI _ hq);have ih:=Fj (fun q hq=>h q (NI _ hq)) p2;have hd:=Fl hk kn hx p1;rcases gP x xs with ⟨_,e⟩ | ⟨y,ys,e0,⟨n,e⟩ | ⟨n,e⟩⟩
  ·rw [e];exact T4 _ _
  ·rw [e];rw [e0] at ih hd ps;obtain ⟨i1,i2⟩:=PL.mp ih;refine PL.mpr ⟨fun z hz e1=>?_,i2⟩;rw [hk] at e1;have a:=hd z (NI _ hz) e1;have c:=i1 z hz ((kn n).symm.trans e1);have:=ps z (NI _ hz);have:=n.2.2;show y.e≤z.s∨z.e≤x.s;lia
  ·rw [e];rw [e0] at ih hd;exact PL.mpr ⟨hd,ih⟩
end
theorem BE {f:R4→Int} (hf:∀ x y,Nx x y→f (jN x y.e)=f x+f y):∀ S:List R4,SM (ju S) f=SM S f
 | []=>rfl
 | x::xs=>by
  have ih:=BE hf xs;rw [ck,← ih];rcases gP x xs with ⟨e0,e⟩ | ⟨y,ys,e0,⟨n,e⟩ | ⟨n,e⟩⟩
  ·rw [e,e0,ck]
  ·rw [e,e0,ck,ck,hf x y n];lia
  ·rw [e,e0,ck]
theorem Bl {rs:List R4} (ap:Ap rs):(out rs).Perm (ju (s4 rs)):=by rw [vQ ap];exact (mY rs).trans ((((cT rs).filter _).map _).symm)
theorem Hg {rs:List R4} {x:R4} (h:Fi rs x E):∃ q,(q=x∨q∈rs)∧q.b=x.b∧q.w=x.w∧q.e=E:=by
 induction h with
 | stop _=>exact ⟨_,.inl rfl,rfl,rfl,rfl⟩
 | @step x q E hq n _ ih =>
  obtain ⟨p,hp,e1,e2,e3⟩:=ih;refine ⟨p,?_,e1.trans n.1,e2.trans n.2.1,e3⟩;rcases hp with z | z
  ·exact .inr (by rw [z]; exact hq)
  ·exact .inr z
theorem Jv {rs:List R4} (ap:Ap rs) {x y:R4} (hx:x∈out rs) (hy:y∈out rs):¬ Nx x y:=fun n=>by
 obtain ⟨p,hp,rfl⟩:=NW.mp ((mY rs).mem_iff.mp hx);obtain ⟨q,hq,rfl⟩:=NW.mp ((mY rs).mem_iff.mp hy);obtain ⟨hp1,_⟩:=OJ.mp hp;obtain ⟨hq1,hq2⟩:=OJ.mp hq;obtain ⟨l,hl,e1,e2,e3⟩:=Hg (Iw ap hp1)
 have hl:l∈rs:=by
  rcases hl with z | z
  ·rw [z];exact hp1
  ·exact z
 unfold bg at hq2;exact of_decide_eq_true hq2 l hl ⟨n.1.trans e1.symm,n.2.1.trans e2.symm,n.2.2.trans e3.symm⟩
def HD (x y:R4):Prop:=x.s<y.s∨(x.s=y.s∧x.b≤y.b)
theorem Ju (L:List R4):(out L).Pairwise HD:=by
 have h:=qc ((Kx L).map fun r=>dz (full L r));rw [EO,Pk] at h;refine h.imp fun {x y} z=>?_;unfold dz at z;simp only [L2.lexLt] at z;unfold HD;split at z
 ·split at z
  ·lia
  ·have:=of_decide_eq_false z; lia
 ·have:=of_decide_eq_false z; lia
def j8:Int→iL→List R4
 | _,[]=>[]
 | s,q::tl=>(q.2.map fun p=>(p.2,p.1,s,s+q.1))++j8 (s+q.1) tl
def jT (tl:iL):Int:=(tl.map (·.1)).sum
theorem iR (q:Int×jU) (tl:iL):jT (q::tl)=q.1+jT tl:=by unfold jT; rw [Oq,P8]
section
variable {h b:Nat}
theorem z5:∀ {tl:iL},(∀ q∈tl,dW h b q)→0≤jT tl
 | [],_=>O6 _
 | q::tl,k=>by have:=(k q NJ).ge;have:=z5 fun x hx=>k x (NI _ hx);rw [iR];lia
theorem Eu {s:Int} {q:Int×jU} {r:R4} (hr:r∈q.2.map fun p=>((p.2,p.1,s,s+q.1):R4)):(r.w,r.b)∈q.2∧r.s=s∧r.e=s+q.1:=by obtain ⟨p,hp,rfl⟩:=NW.mp hr;exact ⟨hp,rfl,rfl⟩
theorem oG:∀ {tl:iL} {s:Int},(∀ q∈tl,dW h b q)→∀ r∈j8 s tl,r.w∈bV h∧r.b∈bV b∧s≤r.s∧r.s<r.e∧r.e≤s+jT tl
 | [],_,_,r,hr=>by cases hr
 | q::tl,s,k,r,hr=>by
  have kq:=k q NJ;have kt:=fun x (hx:x∈tl)=>k x (NI _ hx);have g:=kq.ge;have n0:=z5 kt;rw [iR];rcases NZ.mp hr with z | z
  ·obtain ⟨m,e1,e2⟩:=Eu z;have i:=kq.zZ _ m;exact ⟨i.1,i.2,by lia,by lia,by lia⟩
  ·obtain ⟨a1,a2,a3,a4,a5⟩:=oG kt r z;exact ⟨a1,a2,by lia,a4,by lia⟩
theorem A4 {k:R4→Int} (hkk:∀ q:Int×jU,dW h b q→∀ s:Int,(q.2.map fun p=>k (p.2,p.1,s,s+q.1)).Nodup):∀ {tl:iL} {s:Int},(∀ q∈tl,dW h b q)→(j8 s tl).Pairwise (Hk k)
 | [],_,_=>.nil
 | q::tl,s,kk=>by
  have kq:=kk q NJ;have kt:=fun x (hx:x∈tl)=>kk x (NI _ hx);refine Oo.mpr ⟨?_,A4 hkk kt,fun x hx y hy _=>.inl ?_⟩
  ·rw [Pk];have:=hkk q kq s;exact (Pk.mp this).imp fun {a c} ne e=>absurd e ne
  ·have e:=(Eu hx).2.2;have:=(oG kt y hy).2.2.1;lia
theorem Et (i j:Nat):∀ {tl:iL} {s:Int},(∀ q∈tl,dW h b q)→SM (j8 s tl) (fun r=>if r.w=(i:Int)∧r.b=(j:Int) then r.e-r.s else 0)=eK i j tl
  | [],_,_=>rfl
  | q::tl,s,k=>by
    have kq:=k q NJ;have kt:=fun x (hx:x∈tl)=>k x (NI _ hx);show SM (_++j8 (s+q.1) tl) _=_;rw [KC,Et i j kt]
    have e:SM (q.2.map fun p=>((p.2,p.1,s,s+q.1):R4)) (fun r:R4=>if r.w=(i:Int)∧r.b=(j:Int) then r.e-r.s else 0)=if ((i:Int),(j:Int))∈q.2 then q.1 else 0:=by
      have nd:=kq.nd;generalize q.2=P at nd;induction P with
      | nil=>rfl
      | cons p P ih =>
        obtain ⟨n1,n2⟩:=Of.mp nd;rw [Oq,ck,ih n2];show (if p.1=(i:Int)∧p.2=(j:Int) then s+q.1-s else 0)+_=_;by_cases c:p.1=(i:Int)∧p.2=(j:Int)
        · have ep:p=((i:Int),(j:Int)):=WZ c.1 c.2;rw [if_pos c,if_neg (by rw [← ep]; exact n1),if_pos (by rw [ep]; exact NJ)];lia
        · rw [if_neg c];by_cases d:((i:Int),(j:Int))∈P
          · rw [if_pos d,if_pos (NI _ d)];lia
          · rw [if_neg d,if_neg fun z=>(NU.mp z).elim (fun w=>c (by rw [← w]; exact ⟨rfl,rfl⟩)) d];lia
    rw [e];unfold eK;rw [Oq,P8]
theorem EJ {q:Int×jU} (k:dW h b q):q.2.length≤b:=by
 have:=mn k.n2 (V:=bV b) fun x hx=>by obtain ⟨p,hp,rfl⟩:=NW.mp hx; exact (k.zZ p hp).2
 rw [NH,fM] at this;exact this
theorem vg:∀ {tl:iL} {s:Int},(∀ q∈tl,dW h b q)→(j8 s tl).length≤b*tl.length
 | [],_,_=>O1 _
 | q::tl,s,k=>by have a:=EJ (k q NJ);have c:=vg (s:=s+q.1) fun x hx=>k x (NI _ hx);show (_++j8 (s+q.1) tl).length≤_;rw [N7,NH,Oy,Nat.mul_add,Nat.mul_one];lia
theorem A6 {tl:iL} {s:Int} (k:∀ q∈tl,dW h b q):Ap (j8 s tl):=⟨fun r hr=>(oG k r hr).2.2.2.1,A4 (k:=R4.b) (fun q kq _=>kq.n2) k⟩
structure Op (h b:Nat) (tl:iL) (Q:List R4):Prop where
 all:∀ r∈Q,r.w∈bV h∧r.b∈bV b∧0≤r.s∧r.s<r.e∧r.e≤jT tl
 bj:Q.Pairwise (Hk R4.b)
 wj:Q.Pairwise (Hk R4.w)
 no:∀ x∈Q,∀ y∈Q,¬ Nx x y
 up:Q.Pairwise HD
 sum:∀ i j:Nat,SM Q (fun r=>if r.w=(i:Int)∧r.b=(j:Int) then r.e-r.s else 0)=eK i j tl
 top:∀ r∈j8 0 tl,∃ z∈Q,r.e≤z.e
theorem op {tl:iL} (k:∀ q∈tl,dW h b q):Op h b tl (out (j8 0 tl)):=by
 have ap:=A6 (s:=0) k;have pg:=Bl ap;have p4:=cT (j8 0 tl);have pos:∀ q∈s4 (j8 0 tl),q.s<q.e:=fun q hq=>ap.pos q (p4.mem_iff.mp hq);have pw:∀ {k':R4→Int},(∀ r E,k' (jN r E)=k' r)→(∀ {x y:R4},Nx x y→k' x=k' y)→(j8 0 tl).Pairwise (Hk k')→(out (j8 0 tl)).Pairwise (Hk k'):=fun {k'} h1 h2 h3=>(pg.pairwise_iff fun h=>Hk.symm h).mpr (Fj h1 h2 pos ((p4.pairwise_iff fun h=>Hk.symm h).mpr h3));refine ⟨fun r hr=>?_,pw (fun _ _=>rfl) (fun n=>n.1.symm) (A4 (k:=R4.b) (fun q kq _=>kq.n2) k),pw (fun _ _=>rfl) (fun n=>n.2.1.symm) (A4 (k:=R4.w) (fun q kq _=>kq.n1) k),fun x hx y hy=>Jv ap hx hy,Ju _,fun i j=>?_,fun r hr=>?_⟩
 ·have hg:=pg.mem_iff.mp hr;obtain ⟨⟨q,hq,e1,e2,e3⟩,q',hq',e4⟩:=BF r hg;have a:=oG k q (p4.mem_iff.mp hq);have a':=oG k q' (p4.mem_iff.mp hq');rw [e1,e2];exact ⟨a.1,a.2.1,by lia,qj pos r hg,by lia⟩
 ·rw [wo pg,BE (fun x y n=>?_),wo p4,Et i j k];obtain ⟨n1,n2,n3⟩:=n;show (if x.w=(i:Int)∧x.b=(j:Int) then y.e-x.s else 0)=_;by_cases c:x.w=(i:Int)∧x.b=(j:Int)
  ·rw [if_pos c,if_pos c,if_pos (by lia)];lia
  ·rw [if_neg c,if_neg c,if_neg (by lia)];lia
 ·obtain ⟨z,hz,hl⟩:=BD pos r (p4.mem_iff.mpr hr);exact ⟨z,pg.mem_iff.mpr hz,hl⟩
end
theorem FW (l:List α) (f g:α→Int):SM l (fun x=>f x+g x)=SM l f+SM l g:=by
 induction l with
 | nil=>rfl
 | cons x l ih=>rw [ck,ck,ck,ih]; lia
theorem vA {p:Nat→Prop} [DecidablePred p] {H:Int} (hH:0≤H):∀ {l:List Nat},l.Nodup→(∀ x∈l,∀ y∈l,p x→p y→x=y)→SM l (fun x=>if p x then H else 0)≤H
 | [],_,_=>hH
 | x::l,nd,u=>by
  obtain ⟨n1,n2⟩:=Of.mp nd;rw [ck];by_cases c:p x
  ·rw [if_pos c,kF (g:=fun _=>0) fun y hy=>if_neg fun z=>n1 (by rw [u x NJ y (NI _ hy) c z]; exact hy),k6];lia
  ·rw [if_neg c,SS];exact vA hH n2 fun a ha c hc=>u a (NI _ ha) c (NI _ hc)
def F7 (tl:iL):Int:=SM tl fun q=>if q.2=[] then 0 else q.1
theorem tI (i j:Nat) (q:Int×jU) (tl:iL):eK i j (q::tl)=(if ((i:Int),(j:Int))∈q.2 then q.1 else 0)+eK i j tl:=by unfold eK;rw [Oq,P8]
section
variable {h b:Nat}
theorem He {P:jU} (n:(P.map (·.1)).Nodup) {q:Int×Int} (hp:p∈P) (hq:q∈P) (e:p.1=q.1):p=q:=by
 induction P with
 | nil=>cases hp
 | cons x P ih =>
  rw [Oq] at n;obtain ⟨n1,n2⟩:=Of.mp n;rcases NU.mp hp with a | a <;> rcases NU.mp hq with c | c
  ·rw [a,c]
  ·exact absurd (NW.mpr ⟨q,c,by rw [← e,a]⟩) n1
  ·exact absurd (NW.mpr ⟨p,a,by rw [e,c]⟩) n1
  ·exact ih n2 a c
theorem Gw {P:jU} (n:(P.map (·.2)).Nodup) {q:Int×Int} (hp:p∈P) (hq:q∈P) (e:p.2=q.2):p=q:=by
 induction P with
 | nil=>cases hp
 | cons x P ih =>
  rw [Oq] at n;obtain ⟨n1,n2⟩:=Of.mp n;rcases NU.mp hp with a | a <;> rcases NU.mp hq with c | c
  ·rw [a,c]
  ·exact absurd (NW.mpr ⟨q,c,by rw [← e,a]⟩) n1
  ·exact absurd (NW.mpr ⟨p,a,by rw [e,c]⟩) n1
  ·exact ih n2 a c
theorem yD (i n:Nat):∀ {tl:iL},(∀ q∈tl,dW h b q)→SM (N4 n) (fun j=>eK i j tl)≤F7 tl
 | [],_=>by show SM (N4 n) (fun _=>0)≤0;rw [k6];exact O6 _
 | q::tl,k=>by
  have kq:=k q NJ;have g:=kq.ge;have ih:=yD i n fun x hx=>k x (NI _ hx);rw [kF (g:=fun j:Nat=>(if ((i:Int),(j:Int))∈q.2 then q.1 else 0)+eK i j tl) fun j _=>tI i j q tl,FW];unfold F7 at *;rw [ck];by_cases c:q.2=[]
  ·rw [if_pos c,kF (g:=fun _=>0) fun j _=>if_neg (by rw [c]; exact Qm),k6];lia
  ·rw [if_neg c];have:=vA (p:=fun j:Nat=>((i:Int),(j:Int))∈q.2) (H:=q.1) (by lia) (Sj (n:=n)) fun x _ y _ hx hy=>by have:=congrArg W0 (He kq.n1 hx hy rfl);have:(x:Int)=(y:Int):=this;lia
   lia
theorem yE (j n:Nat):∀ {tl:iL},(∀ q∈tl,dW h b q)→SM (N4 n) (fun i=>eK i j tl)≤F7 tl
 | [],_=>by show SM (N4 n) (fun _=>0)≤0;rw [k6];exact O6 _
 | q::tl,k=>by
  have kq:=k q NJ;have g:=kq.ge;have ih:=yE j n fun x hx=>k x (NI _ hx);rw [kF (g:=fun i:Nat=>(if ((i:Int),(j:Int))∈q.2 then q.1 else 0)+eK i j tl) fun i _=>tI i j q tl,FW];unfold F7 at *;rw [ck];by_cases c:q.2=[]
  ·rw [if_pos c,kF (g:=fun _=>0) fun j _=>if_neg (by rw [c]; exact Qm),k6];lia
  ·rw [if_neg c];have:=vA (p:=fun i:Nat=>((i:Int),(j:Int))∈q.2) (H:=q.1) (by lia) (Sj (n:=n)) fun x _ y _ hx hy=>by have:=congrArg WH (Gw kq.n2 hx hy rfl);have:(x:Int)=(y:Int):=this;lia
   lia
theorem A5:∀ {tl:iL} {s:Int},(∀ q∈tl,dW h b q)→jT tl≤F7 tl→tl≠[]→∃ r∈j8 s tl,r.e=s+jT tl
 | [],_,_,_,n=>absurd rfl n
 | q::tl,s,k,hl,_=>by
  have kq:=k q NJ;have kt:=fun x (hx:x∈tl)=>k x (NI _ hx);have g:=kq.ge
  have el:∀ t:iL,(∀ q∈t,dW h b q)→F7 t≤jT t:=by
   intro t;induction t with
   | nil=>intro _; exact O6 _
   | cons x t ih =>intro kk;have:=ih fun y hy=>kk y (NI _ hy);have:=(kk x NJ).ge;unfold F7 at *;rw [ck,iR];split <;> lia
  have eN:F7 (q::tl)=(if q.2=[] then 0 else q.1)+F7 tl:=ck _ _ _;rw [iR] at hl ⊢;rw [eN] at hl;have et:=el tl kt;have ne:q.2≠[]:=fun z=>by rw [if_pos z] at hl;lia
  rw [if_neg ne] at hl;by_cases c:tl=[]
  ·obtain ⟨p,hp⟩:=List.exists_mem_of_ne_nil _ ne;refine ⟨(p.2,p.1,s,s+q.1),Ol _ (NW.mpr ⟨p,hp,rfl⟩),?_⟩;rw [c];show s+q.1=s+(q.1+0)
   lia
  ·obtain ⟨r,hr,e⟩:=A5 (s:=s+q.1) kt (by lia) c;exact ⟨r,NQ _ hr,by lia⟩
end
theorem Gj {T0:Mx} (t:Tab T0 m) {tl:iL} (ok:∀ q∈tl,dW T0.length (cF T0) q) (sum:jT tl=bT T0) (cells:∀ i j:Nat,i<T0.length→j<cF T0→eK i j tl=cI T0 i j) (h0:0<bT T0):∃ r∈j8 0 tl,r.e=bT T0:=by
 have w0:Wd T0 T0.length (cF T0):=⟨rfl,t.w⟩
 have hN:bT T0≤F7 tl:=by
  have:=(aX (cm T0++cols T0) 0).1
  have hm:bT T0∈cm T0++cols T0:=by
   rcases NU.mp this with z | z
   ·have:bT T0=0:=z;lia
   ·exact z
  rcases NZ.mp hm with z | z
  ·obtain ⟨r,hr,e⟩:=NW.mp z;obtain ⟨i,hi,ei⟩:=SH hr;have e1:=mV w0 hi;have e2:dI (cF T0) (cI T0) i=SM (N4 (cF T0)) fun j=>eK i j tl:=by unfold dI cW SM;rw [mW];exact congrArg T5 (OC fun j hj=>(cells i j hi (Ow.mp hj)).symm)
   have e3:(T0.getD i []).sum=bT T0:=by rw [NF,NG hi,ei];exact e
   have:=yD i (cF T0) ok;lia
  ·obtain ⟨j,hj,e⟩:=NW.mp z;have hj:=Ow.mp hj;have e1:=nv w0 j;have e2:eO T0.length (cI T0) j=SM (N4 T0.length) fun i=>eK i j tl:=by unfold eO cW SM;rw [mW];exact congrArg T5 (OC fun i hi=>(cells i j (Ow.mp hi) hj).symm)
   have e3:(T0.map fun r=>r.getD j 0).sum=bT T0:=e;have:=yE j T0.length ok;lia
 obtain ⟨r,hr,e⟩:=A5 (s:=0) ok (by lia) fun z=>by rw [z] at sum;have:jT ([]:iL)=0:=rfl;lia
 exact ⟨r,hr,by lia⟩
theorem ye (tl:iL) (q:Int×jU):jT (tl++[q])=jT tl+q.1:=by unfold jT;rw [Od,QG];simp
theorem vf (q:Int×jU):∀ (tl:iL) (s:Int),j8 s (tl++[q])=j8 s tl++q.2.map fun p=>(p.2,p.1,s+jT tl,s+jT tl+q.1)
 | [],s=>by
  show (q.2.map fun p=>((p.2,p.1,s,s+q.1):R4))++[]=[]++q.2.map fun p=>(p.2,p.1,s+0,s+0+q.1)
  rw [OT,Qt,R8]
 | x::tl,s=>by
  show _++j8 (s+x.1) (tl++[q])=(_++j8 (s+x.1) tl)++_;rw [vf q tl,OG,iR];have e:s+x.1+jT tl=s+(x.1+jT tl):=by lia
  rw [e]
theorem CI {T0:Mx} (t:Tab T0 m) {tl:iL} (e:hE [aJ T0]=some (.lst (tl.map qh))) (ok:∀ q∈tl,dW T0.length (cF T0) q) (F8:tl.length≤48):fZ [aJ T0]=some (.lst ((out (j8 0 tl)).map cA)):=by
 have hline:NM=16777216:=OA;have b6:=t.w6;have len:∀ j,(j8 0 (tl.take j)).length≤288:=fun j=>by have h1:=vg (s:=0) (tl:=tl.take j) fun q hq=>ok q (O5 hq);have h2:(tl.take j).length≤48:=ON (Sy j tl) F8;have h3:=Va b6 h2;lia
 refine cf jJ ?_;rw [uR];unfold iB;refine wp_seq (fK (ds:=(j8 0 (tl.take 0)).map cA) rfl (by simp only [Oy,Pm]; lia) ?_);walk_at "st";refine wp_seq (br (d:=.int (jT (tl.take 0))) rfl ?_);walk_at "st";refine wp_seq (fq (ds:=tl.map qh) (bN (aO ‹45› e) rfl) (fun j ρ=>∃ v3 v4 v5:Sl,ρ=[.bo (aJ T0),.ol ((j8 0 (tl.take j)).map cA),.pu (.int (jT (tl.take j))),v3,v4,v5]) ⟨_,_,_,rfl⟩ ?_ ?_)
 ·rintro j d ρ hd ⟨v3,v4,v5,rfl⟩;rw [NR] at hd;obtain ⟨q,hq,rfl⟩:=OH.mp hd;have kq:=ok q (OF hq);have lq:=EJ kq;have lj:=len j;refine ⟨[.bo (aJ T0),.ol ((j8 0 (tl.take j)).map cA),.pu (.int (jT (tl.take j))),.pu (.int q.1),.pu (rf q.2),v5],rfl,?_⟩;rw [take_snoc hq,vf,ye];generalize jT (tl.take j)=B;refine wp_seq (br (g8 rfl rfl) ?_);walk_at "st";have e1:∀ ρ:aK,aC 4 ρ=some (rf q.2)→ρ.getD 2 .un=.pu (.int B)→ρ.getD 5 .un=.pu (.int (B+q.1))→bu (bJ 2 [2,5] (fH (aC 4)) ‹36› bM (bu (ao (aC 1) (ao (aC 0) (ao (aC 2) (ao (aC 3) aS)))))) ρ=some (.lst ((q.2.map fun p=>((p.2,p.1,0+B,0+B+q.1):R4)).map cA)):=fun ρ q4 q2 q5=>by rw [SS,N0];refine bf (b9 jG (bN q4 rfl) (fun p=>cA (p.2,p.1,B,B+q.1)) fun p _=>?_);unfold r0;rw [Oq,Oq,QI,q2,q5];exact ⟨_,rfl,bf (au rfl (au rfl (au rfl ‹45›)))⟩
  refine wp_seq (yO rfl (e1 _ rfl rfl rfl) (by rw [NH,NH,NH]; lia) ?_);walk_at "st";refine br rfl ⟨.pu (.int q.1),.pu (rf q.2),.pu (.int (B+q.1)),?_⟩;rw [Od];rfl
 ·rintro ρ ⟨v3,v4,v5,rfl⟩;rw [NH,Qc];have l0:=len tl.length;rw [Qc] at l0;exact bC (aO ‹45› (joined (A6 ok) (by lia))) rfl
section
variable {a b:DE} {ρ:aK} {i j:Int}
theorem Jw {p q:aK→Option Bool} (ha:p ρ=some false) (hb:q ρ=some false):uj p q ρ=some false:=lO (x:=false) (y:=false) ha fun _=>hb
theorem xO {p:aK→Option Bool} (ha:p ρ=some true):hV p ρ=some false:=gc (x:=true) ha
theorem Mt (ha:a ρ=some (.int i)) (hb:b ρ=some (.int j)) (h:j≤i):dT (yx a b) ρ=some false:=by rw [dt (nc ha hb),decide_eq_false (by lia)]
theorem MI (ha:a ρ=some (.int i)) (hb:b ρ=some (.int j)) (h:i<j):dT (Kr a b) ρ=some false:=by rw [dt (Iy ha hb),decide_eq_false (by lia)]
theorem M5 (ha:a ρ=some (.int i)) (hb:b ρ=some (.int i)):dT (jQ true a b) ρ=some false:=by rw [dt (oV ha hb),decide_eq_false (by lia)]
end
theorem vj {R:α→α→Prop} {l:List α} {y:α} (h:l.Pairwise R) (hy:l[j]?=some y):∀ x∈l.take j,R x y:=fun x hx=>by
 have hj:=(Oe.mp hy).1;have ed:l=l.take j++y::l.drop (j+1):=by rw [← (Oe.mp hy).2,← OB hj,OY]
 rw [ed] at h;exact (Oo.mp h).2.2 x hx y NJ
theorem DY {l:List α} {y:α} (hy:l[j]?=some y):y∈l.take (j+1)∧∀ x∈l.take j,x∈l.take (j+1):=by rw [Tf,hy];exact ⟨NQ _ (by simp),fun x hx=>Ol _ hx⟩
theorem LC {xs:List D} {i:Int} {a:Nat} (e:i=(a:Int)) (h:xs[a]?=some d):C6 (.lst xs) i=some d:=by rw [e]; exact G7 h
theorem Jm {S:List (Int×Int)} (h:j<S.length):(S.map jG)[j]?=some (jG (S.getD j (0,0))):=by rw [NR,NF,NG h]; rfl
theorem int_at {L:List Int} {i:Nat} (h:i<L.length):(L.map D.int)[i]?=some (.int (L.getD i 0)):=by rw [NR,NF,NG h]; rfl
def nY (T:Mx):Mx:=T.map fun r=>Oz r.length 0
theorem Ax {T:Mx} {b:Nat} (w:Wd T h b):Wd (nY T) h b:=by refine ⟨by unfold nY; rw [NH,w.len],fun r hr=>?_⟩;obtain ⟨s,hs,rfl⟩:=NW.mp hr;rw [OQ,w.F0 s hs]
theorem wB (T:Mx) (i j:Nat):cI (nY T) i j=0:=by
 rw [d6];unfold nY;rw [NF (l:=List.map _ _),NR];cases T[i]? with
 | none=>rfl
 | some r =>show (Oz r.length 0).getD j 0=0;rw [NF,Pg];split <;> rfl
def fw (i j:Nat) (r:R4):Int:=if r.w=(i:Int)∧r.b=(j:Int) then r.e-r.s else 0
theorem Gy {fr:List Int} (h:fr.length=6) (le:∀ x∈fr,x≤t) (hm:t∈fr):maxD (.lst (fr.map D.int))=some (.int t):=by
 cases fr with
 | nil=>cases hm
 | cons x r =>have e:maxD (.lst ((x::r).map D.int))=some (.int (m3 x r)):=gZ _ (x::r);rw [e];have s:=aX r x;have a:=le _ s.1;have c:=s.2 t hm;exact congrArg (fun z=>some (D.int z)) (by lia)
structure Og (T:Mx) (Q:List R4):Prop where
 all:∀ r∈Q,r.w∈bV T.length∧r.b∈bV (cF T)∧0≤r.s∧r.s<r.e∧r.e≤bT T
 bj:Q.Pairwise (Hk R4.b)
 wj:Q.Pairwise (Hk R4.w)
 no:∀ x∈Q,∀ y∈Q,¬ Nx x y
 up:Q.Pairwise HD
 sum:∀ i j:Nat,i<T.length→j<cF T→SM Q (fw i j)=cI T i j
 top:0<bT T→∃ z∈Q,bT T≤z.e
theorem Op.g {T0:Mx} (t:Tab T0 m) {tl:iL} (ok:∀ q∈tl,dW T0.length (cF T0) q) (sum:jT tl=bT T0) (cells:∀ i j:Nat,i<T0.length→j<cF T0→eK i j tl=cI T0 i j) {Q:List R4} (P:Op T0.length (cF T0) tl Q):Og T0 Q:=by
 refine ⟨fun r hr=>?_,P.bj,P.wj,P.no,P.up,fun i j hi hj=>(P.sum i j).trans (cells i j hi hj),fun h=>?_⟩
 ·obtain ⟨a1,a2,a3,a4,a5⟩:=P.all r hr;exact ⟨a1,a2,a3,a4,by lia⟩
 ·obtain ⟨r,hr,e⟩:=Gj t ok sum cells h;obtain ⟨z,hz,hl⟩:=P.top r hr;exact ⟨z,hz,by lia⟩
theorem vP {T0:Mx} (t:Tab T0 m) {Q:List R4} (P:Og T0 Q):cc [aJ T0,.lst (Q.map cA)]=some (.bl true):=by
 have hline:NM=16777216:=OA;have hw:=t.w;have b6:=t.w6;have h6:=t.len;have w0:Wd T0 T0.length (cF T0):=⟨rfl,hw⟩
 have e1:=Ij hw (by lia) (by lia);have wz:=Ax w0;have el:dJ (aJ T0)=some (.int (T0.length:Int)):=by show some (D.int ((T0.map fun r=>D.lst (r.map D.int)).length:Nat))=_;rw [NH]
 refine cf f7 ?_;rw [mT];unfold dO;refine wp_seq (cK (xO (cL (d:=.bl true) rfl rfl)) (bL ?_));refine wp_seq (kL (rows:=mL (nY T0)) ?_ (by simp only [Oy,Pm]; lia) ?_)
 ·rw [oW (fun r=>D.lst (r.map D.int)) (bN rfl rfl) (fun (r:List Int)=>(Oz r.length (0:Int)).map D.int) fun r hr=>⟨[.bo (.lst (r.map D.int))],rfl,?_⟩]
  ·unfold mL nY;rw [N0];rfl
  ·have hr':=hw r hr;rw [Ac (i:=(r.length:Int)) rfl (cJ rfl (iq r)) ⟨by lia,by lia,by simp; lia⟩,Pq];congr 1;rw [VB];exact Sa
 walk_at "st";refine wp_seq (fK (ds:=(Oz 6 ((-1,-1):Int×Int)).map jG) rfl (by simp only [Oy,Pm]; lia) ?_);walk_at "st";refine wp_seq (fK (ds:=(Oz 6 (0:Int)).map D.int) rfl (by simp only [Oy,Pm]; lia) ?_);walk_at "st";refine wp_seq (br (d:=jG (-1,-1)) (bf (au (rS rfl) (au (rS rfl) rfl))) ?_);walk_at "st";refine wp_seq (fq (ds:=Q.map cA) (bN rfl rfl) (fun j ρ=>∃ (M:Mx) (ls:List (Int×Int)) (fr:List Int) (ah:Int×Int) (v6 v7 v8 v9 v10:Sl),Wd M T0.length (cF T0)∧(∀ i k:Nat,i<T0.length→k<cF T0→cI M i k=SM (Q.take j) (fw i k))∧ls.length=6∧fr.length=6∧(∀ c,c<6→ls.getD c (0,0)=(-1,-1)∨∃ r∈Q.take j,r.b=(c:Int)∧ls.getD c (0,0)=(r.w,r.e))∧(∀ i,i<6→fr.getD i 0=0∨∃ r∈Q.take j,r.w=(i:Int)∧fr.getD i 0=r.e)∧(∀ r∈Q.take j,r.e≤fr.getD r.w.toNat 0)∧(ah=(-1,-1)∨∃ r∈Q.take j,ah=(r.s,r.b))∧ρ=[.bo (aJ T0),.pu (.lst (Q.map cA)),.om (mL M),.ol (ls.map jG),.ol (fr.map D.int),.pu (jG ah),v6,v7,v8,v9,v10]) ⟨nY T0,Oz 6 (-1,-1),Oz 6 0,(-1,-1),_,_,_,_,_,wz,fun i k _ _=>wB T0 i k,OQ,OQ,fun c hc=>.inl (by rw [NF,Pg,if_pos hc]; rfl),fun i hi=>.inl (by rw [NF,Pg,if_pos hi]; rfl),(fun r hr=>by cases hr),.inl rfl,rfl⟩ ?_ ?_)
 ·rintro j d ρ hd ⟨M,ls,fr,ah,v6,v7,v8,v9,v10,wM,cM,hll,hfl,hls,hfr,hle,hah,rfl⟩;rw [NR] at hd;obtain ⟨r,hr,rfl⟩:=OH.mp hd;obtain ⟨aw,ab,a1,a2,a3⟩:=P.all r (OF hr);have aw:=aA.mp aw;have ab:=aA.mp ab;have pu:=vj P.up hr;have pb:=vj P.bj hr;have pw:=vj P.wj hr;have no:∀ x∈Q.take j,¬ Nx x r:=fun x hx=>P.no x (O5 hx) r (OF hr);have pos:∀ x∈Q.take j,x.s<x.e∧0≤x.w:=fun x hx=>by obtain ⟨q1,_,_,q2,_⟩:=P.all x (O5 hx);exact ⟨q2,(aA.mp q1).1⟩
  obtain ⟨c,hc⟩:∃ c:Nat,r.b=(c:Int):=⟨r.b.toNat,by lia⟩
  obtain ⟨i,hi⟩:∃ i:Nat,r.w=(i:Int):=⟨r.w.toNat,by lia⟩
  have hcb:c<cF T0:=by lia
  have hih:i<T0.length:=by lia
  have hl0:0<T0.length:=by lia
  obtain ⟨tm,tk⟩:=DY hr;refine ⟨[.bo (aJ T0),.pu (.lst (Q.map cA)),.om (mL M),.ol (ls.map jG),.ol (fr.map D.int),.pu (jG ah),.pu (cA r),v7,v8,v9,v10],rfl,?_⟩;refine wp_seq (cK (Jw (xO (cL (d:=.bl true) rfl rfl)) (Jw (M5 (i:=4) (cJ rfl rfl) rfl) (xO (cL (B3 (xs:=zR r) rfl) rfl)))) (bL ?_));refine wp_seq (KZ (d:=cA r) rfl rfl ?_);dsimp only [gN,zh,NX,NV];have ew:C6 (aJ T0) 0=some (.lst ((T0.getD 0 []).map D.int)):=G7 (jj (T:=T0) (i:=0) hl0);refine wp_seq (cK (Jw (Mt rfl rfl aw.1) (Jw (MI rfl (cJ rfl el) aw.2) (Jw (Mt rfl rfl ab.1) (MI rfl (cJ (ba rfl rfl ew) (iq _)) (by rw [w0.row hl0]; exact ab.2))))) (bL ?_));have exL:∀ ρ:aK,ai 3 ρ=some (.lst (ls.map jG))→ai 7 ρ=some (.int r.b)→bZ (ai 3) (ai 7) ρ=some (jG (ls.getD c (0,0))):=fun ρ q1 q2=>ba q1 q2 (LC (a:=c) hc (Jm (by lia)))
  have hlb:(ls.getD c (0,0)).2≤r.s∧((ls.getD c (0,0)).1=r.w→(ls.getD c (0,0)).2≠r.s):=by
   rcases hls c (by lia) with z | ⟨x,hx,z1,z2⟩
   ·rw [z];show -1≤r.s∧((-1:Int)=r.w→(-1:Int)≠r.s)
    lia
   ·rw [z2];show x.e≤r.s∧(x.w=r.w→x.e≠r.s)
    have q1:=pu x hx;have q2:=pb x hx (by show x.b=r.b; lia);have q3:=pos x hx;unfold HD at q1;exact ⟨by lia,fun w1 w2=>no x hx ⟨by lia,w1.symm,w2.symm⟩⟩
  have hfw:fr.getD i 0≤r.s:=by
   rcases hfr i (by lia) with z | ⟨x,hx,z1,z2⟩
   ·lia
   ·rw [z2];have q1:=pu x hx;have q2:=pw x hx (by show x.w=r.w; lia);have q3:=pos x hx;unfold HD at q1;lia
  have hlx:lexLe [r.s,r.b] [ah.1,ah.2]=false:=by
   unfold lexLe;rcases hah with z | ⟨x,hx,z⟩
   ·rw [z];show (if r.s=-1 then _ else decide (r.s≤-1))=false;rw [if_neg (by lia)];exact decide_eq_false (by lia)
   ·rw [z];have q1:=pu x hx;have q2:=pb x hx;have q3:=pos x hx;unfold HD at q1;show (if r.s=x.s then lexLe [r.b] [x.b] else decide (r.s≤x.s))=false;by_cases e:r.s=x.s
    ·rw [if_pos e];show (if r.b=x.b then _ else decide (r.b≤x.b))=false;have:r.b≠x.b:=fun w=>by have:=q2 w.symm;lia
     rw [if_neg this];exact decide_eq_false (by lia)
    ·rw [if_neg e];exact decide_eq_false (by lia)
  refine wp_seq (cK (Jw ?_ (Jw (MI rfl rfl a2) (Mt rfl (vU (ba (exL _ rfl rfl) rfl rfl) (ba rfl rfl (LC (a:=i) hi (int_at (by lia))))) (by lia)))) (bL ?_))
  ·rw [dt (Kk (ns:=[r.s,r.b]) (ms:=[ah.1,ah.2]) rfl rfl rfl),hlx]
  refine wp_seq (cK ?_ (bL ?_))
  ·have ne:jG (ls.getD c (0,0))≠D.lst [.int r.w,.int r.s]:=fun w=>by have w:D.lst [.int (ls.getD c (0,0)).1,.int (ls.getD c (0,0)).2]=D.lst [.int r.w,.int r.s]:=w;injection w with w;injection w with w1 w2;injection w1 with w1;injection w2 with w2 _;injection w2 with w2;exact hlb.2 w1 w2
   rw [dt (pF (neg:=false) (exL _ rfl rfl) (bf (au rfl ‹45›)) rfl)];simp only [PY,if_false,ne,decide_false]
  refine wp_seq (br (d:=jG (r.s,r.b)) (bf (au rfl ‹45›)) ?_);walk_at "st";refine wp_seq (yM (n:=r.b) (j:=c) (d:=jG (r.w,r.e)) rfl (bf (au rfl ‹45›)) rfl (by rw [NH,hc,hll,fF (by lia) (by lia)]; simp) ?_);walk_at "st";refine wp_seq (yM (n:=r.w) (j:=i) (d:=.int r.e) rfl rfl rfl (by rw [NH,hi,hfl,fF (by lia) (by lia)]; simp) ?_);walk_at "st";have hlM:=wM.len;have hrM:=wM.row (i:=i) hih;have ecell:∀ (v3 v4 v5 v6:Sl),bZ (bZ (ai 2) (ai 8)) (ai 7) [.bo (aJ T0),.pu (.lst (Q.map cA)),.om (mL M),v3,v4,v5,v6,.pu (.int r.b),.pu (.int r.w),.pu (.int r.s),.pu (.int r.e)]=some (.int (cI M i c)):=fun v3 v4 v5 v6=>qt wM hih hcb (congrArg some (xR M)) (by rw [← hi]; rfl) (by rw [← hc]; rfl);refine Ay (n:=r.w) (m:=r.b) (r:=i) (j:=c) (ds:=(M.getD i []).map D.int) (d:=.int (cI M i c+r.e-r.s)) rfl (oS (g8 (ecell ..) rfl) rfl) rfl (by rw [vG,hi,fF (by lia) (by lia)]; simp) (vH (by lia)) rfl (by rw [NH,hc,fF (by lia) (by lia)]; simp) ?_;walk_at "st";refine ⟨yT M i c (cI M i c+r.e-r.s),ls.set c (r.w,r.e),fr.set i r.e,(r.s,r.b),_,_,_,_,_,wM.yT hih,fun i' k' hi' hk'=>?_,by rw [Pb]; exact hll,by rw [Pb]; exact hfl,fun c' hc'=>?_,fun i' hi'=>?_,fun x hx=>?_,.inr ⟨r,tm,rfl⟩,by rw [zQ,xg,show (ls.map jG).set c (jG (r.w,r.e))=(ls.set c (r.w,r.e)).map jG from Uu.symm]⟩
  ·rw [BQ wM hih hcb,Gk _ hr,← cM i' k' hi' hk'];unfold fw;by_cases q:i'=i∧k'=c
   ·rw [if_pos q,if_pos (by lia),q.1,q.2];lia
   ·rw [if_neg q,if_neg (by lia),R8]
  ·rw [NF,VS];by_cases q:c=c'
   ·subst q;rw [if_pos rfl,if_pos (by lia)];exact .inr ⟨r,tm,hc,rfl⟩
   ·rw [if_neg q,← NF];rcases hls c' hc' with z | ⟨x,hx,z⟩
    ·exact .inl z
    ·exact .inr ⟨x,tk x hx,z⟩
  ·rw [ug (by lia)];by_cases q:i'=i
   ·subst q;rw [if_pos rfl];exact .inr ⟨r,tm,hi,rfl⟩
   ·rw [if_neg q];rcases hfr i' hi' with z | ⟨x,hx,z⟩
    ·exact .inl z
    ·exact .inr ⟨x,tk x hx,z⟩
  ·rw [ug (by lia)];rw [take_snoc hr] at hx;rcases NZ.mp hx with z | z
   ·have l:=hle x z;by_cases q:x.w.toNat=i
    ·rw [if_pos q];rw [q] at l;lia
    ·rw [if_neg q];exact l
   ·rw [NL.mp z,if_pos (by lia)];exact O6 _
 ·rintro ρ ⟨M,ls,fr,ah,v6,v7,v8,v9,v10,wM,cM,hll,hfl,hls,hfr,hle,hah,rfl⟩;rw [NH,Qc] at *;have eM:M=T0:=EZ wM w0 fun i j hi hj=>by rw [cM i j hi hj];exact P.sum i j hi hj
  have hup:∀ x∈fr,x≤bT T0:=fun x hx=>by
   obtain ⟨i,hi,e⟩:=SH hx;have eg:fr.getD i 0=x:=by rw [NF,NG hi,e];rfl
   have t0:0≤bT T0:=(aX (cm T0++cols T0) 0).2 0 NJ;rcases hfr i (by lia) with z | ⟨r,hr,_,z⟩
   ·lia
   ·have:=(P.all r hr).2.2.2.2;lia
  have htop:bT T0∈fr:=by
   have t0:0≤bT T0:=(aX (cm T0++cols T0) 0).2 0 NJ;by_cases c:0<bT T0
   ·obtain ⟨z,hz,hl⟩:=P.top c;have az:=P.all z hz;have aw:=aA.mp az.1;have l:=hle z hz;have hm:fr.getD z.w.toNat 0∈fr:=mem_getD (by lia);have u:=hup _ hm;have:fr.getD z.w.toNat 0=bT T0:=by lia
    rw [this] at hm;exact hm
   ·have hm:fr.getD 0 0∈fr:=mem_getD (by lia);have u:=hup _ hm
    have:fr.getD 0 0=bT T0:=by
     rcases hfr 0 (by lia) with z | ⟨r,hr,_,z⟩
     ·lia
     ·have:=(P.all r hr).2.2;lia
    rw [this] at hm;exact hm
  rw [eM];exact bC (fS (x:=true) (y:=true) (gQ (d:=aJ T0) (congrArg some (xR T0)) rfl (kB T0 T0)) fun _=>gQ (cJ rfl (Gy hfl hup htop)) (aO ‹45› e1) rfl) rfl
theorem Lz {b:Nat} (p1:p.1∈bV h) (p2:p.2∈bV b):nM [jG p,.int (h:Int),.int (b:Int)]=some (.bl true):=by have p1:=aA.mp p1;have p2:=aA.mp p2;refine cf pL ?_;rw [D6];unfold qw;refine wp_seq (cK (lO (x:=false) (y:=false) (gc (x:=true) (cL rfl rfl)) fun _=>lO (x:=false) (y:=false) (by rw [dt (oV (i:=2) (j:=2) rfl rfl)]; simp) fun _=>lO (x:=false) (y:=false) (gc (x:=true) (cL (aO (au ‹19› rfl) (whole p.1)) rfl)) fun _=>gc (x:=true) (cL (aO (au ‹19› rfl) (whole p.2)) rfl)) (bL ?_));refine bC (fS (x:=true) (y:=true) (by rw [Fw rfl ‹19›,decide_eq_true p1.1]) fun _=>fS (x:=true) (y:=true) (by rw [nc ‹19› rfl,decide_eq_true p1.2]) fun _=>fS (x:=true) (y:=true) (by rw [Fw rfl ‹19›,decide_eq_true p2.1]) fun _=>by rw [nc ‹19› rfl,decide_eq_true p2.2]) rfl
theorem rq {l:List Int} (nd:l.Nodup) {k:Nat} (h:l[k]?=some x):x∉l.take k:=by intro z;obtain ⟨i,hi⟩:=Pp z;have hk:=(Oe.mp hi).1;rw [O9] at hk;rw [Qn (by lia)] at hi;have:=(List.getElem?_inj (i:=i) (j:=k) (by lia) nd).mp (hi.trans h.symm);lia
theorem G2 {T0:Mx} {b:Nat} (w0:Wd T0 h b) (h0:0<h) {q:Int×jU} (k:dW h b q) {M:Mx} (w:Wd M h b) (lP:q.2.length≤1000) (a:NP) (ps:List NP):i6 a ps [qh q,aJ T0,fV (mL M)]=some (mL (gf q.1 M q.2)):=by
 have hline:NM=16777216:=OA;have hl0:=w0.len;refine GG lW (rows:=mL M) rfl ?_;rw [y4];unfold ll;dsimp only [NX,NV];have hq:=k.ge;refine wp_seq (cK (lO (x:=false) (y:=false) (gc (x:=true) (cL rfl rfl)) fun _=>lO (x:=false) (y:=false) (by rw [dt (oV (i:=2) (j:=2) rfl rfl)]; simp) fun _=>lO (x:=false) (y:=false) (gc (x:=true) (cL (aO (au ‹19› rfl) (whole q.1)) rfl)) fun _=>by rw [dt (nc ‹19› rfl)]; exact congrArg some (decide_eq_false (by lia))) (bL ?_));refine wp_seq (cK (gc (x:=true) (cL rfl rfl)) (bL ?_));refine wp_seq (fK (ds:=[]) rfl (by show 3<6; decide) ?_);dsimp only [NX,NV];refine wp_seq (fK (ds:=[]) rfl (by show 4<6; decide) ?_);dsimp only [NX,NV];refine wp_seq (fq (ds:=q.2.map jG) (bN ‹19› rfl) (fun j ρ=>∃ v5:Sl,ρ=[.pu (qh q),.pu (aJ T0),.pm a ps (mL (gf q.1 M (q.2.take j))),.ol (((q.2.map (·.1)).take j).map D.int),.ol (((q.2.map (·.2)).take j).map D.int),v5]) ⟨_,by rw [Ta,Ta,Ta]; rfl⟩ ?_ ?_)
 ·rintro j d ρ hd ⟨v5,rfl⟩;rw [NR] at hd;obtain ⟨p,hp,rfl⟩:=OH.mp hd;obtain ⟨w2,p1,p2⟩:=tJ (H:=q.1) w k.zZ k.nd hp;have e2:=Lz p1 p2;have p1:=aA.mp p1;have p2:=aA.mp p2;have hl2:=w2.len;have hr2:=w2.row (i:=p.1.toNat) (by lia);have hp1:(q.2.map (·.1))[j]?=some p.1:=by rw [NR,hp]; rfl
  have jI:(q.2.map (·.2))[j]?=some p.2:=by rw [NR,hp]; rfl
  have n1:=rq k.n1 hp1;have n2:=rq k.n2 jI;have lj:=(Oe.mp hp).1;refine ⟨[.pu (qh q),.pu (aJ T0),.pm a ps (mL (gf q.1 M (q.2.take j))),.ol (((q.2.map (·.1)).take j).map D.int),.ol (((q.2.map (·.2)).take j).map D.int),.pu (jG p)],rfl,?_⟩;have el:dJ (aJ T0)=some (.int (h:Int)):=by show some (D.int ((T0.map fun r=>D.lst (r.map D.int)).length:Nat))=_;rw [NH,hl0]
  have ew:C6 (aJ T0) 0=some (.lst ((T0.getD 0 []).map D.int)):=G7 (jj (T:=T0) (i:=0) (by lia));refine wp_seq (cK (gc (x:=true) (cL (aO (au rfl (au (cJ rfl el) (au (cJ (ba rfl rfl ew) (by rw [iq,w0.row h0])) rfl))) e2) rfl)) (bL ?_));refine wp_seq (cK (lO (x:=false) (y:=false) (by rw [dt (vV (neg:=false) ‹19› rfl)]; exact congrArg some (decide_eq_false n1)) fun _=>by rw [dt (vV (neg:=false) ‹19› rfl)]; exact congrArg some (decide_eq_false n2)) (bL ?_));have lt1:(((q.2.map (·.1)).take j).map D.int).length<NM:=by rw [NH,O9,NH]; lia
  have lt2:(((q.2.map (·.2)).take j).map D.int).length<NM:=by rw [NH,O9,NH]; lia
  refine wp_seq (n4 rfl ‹19› lt1 ?_);dsimp only [NX,NV];refine wp_seq (n4 rfl ‹19› lt2 ?_);dsimp only [NX,NV]
  have hc:∀ (c d e:Sl),bZ (bZ (ai 2) (bZ (ai 5) ‹6›)) (bZ (ai 5) ‹17›) [.pu (qh q),.pu (aJ T0),.pm a ps (mL (gf q.1 M (q.2.take j))),c,d,.pu (jG p)]=some (.int (cI (gf q.1 M (q.2.take j)) p.1 p.2)):=fun c d e=>by
   have a1:((p.1.toNat:Nat):Int)=p.1:=by lia
   have a2:((p.2.toNat:Nat):Int)=p.2:=by lia
   have:=qt w2 (i:=p.1.toNat) (j:=p.2.toNat) (by lia) (by lia) (ρ:=[.pu (qh q),.pu (aJ T0),.pm a ps (mL (gf q.1 M (q.2.take j))),c,d,.pu (jG p)]) (x:=ai 2) (y:=bZ (ai 5) ‹6›) (z:=bZ (ai 5) ‹17›) (congrArg some (xR _)) (by rw [a1]; exact ba rfl rfl rfl) (by rw [a2]; exact ba rfl rfl rfl);rw [a1,a2] at this;exact this
  refine DL rfl (g8 (hc _ _ .un) ‹19›) ‹19› (fF p1.1 (by rw [vG]; lia)) (vH (by lia)) ‹19› (fF p2.1 (by rw [NH]; lia)) ⟨.pu (jG p),?_⟩;dsimp only [NX,NV];rw [zQ,take_snoc hp,o5,take_snoc hp1,take_snoc jI,Od,Od];rfl
 ·rintro ρ ⟨v5,rfl⟩;refine bL ?_;rw [NH,Qc];rfl
theorem CW (M:Mx) (tl:iL) (q:Int×jU):sU M (tl++[q])=gf q.1 (sU M tl) q.2:=by unfold sU;rw [VT];rfl
theorem uf {T0:Mx} (t:Tab T0 m) {tl:iL} (ok:∀ q∈tl,dW T0.length (cF T0) q) (F8:tl.length≤48) (sum:(tl.map (·.1)).sum=bT T0) (cells:∀ i j:Nat,i<T0.length→j<cF T0→eK i j tl=cI T0 i j):di [aJ T0,.lst (tl.map qh)]=some (.bl true):=by
 have hline:NM=16777216:=OA;have hw:=t.w;have b6:=t.w6;have h6:=t.len;have w0:Wd T0 T0.length (cF T0):=⟨rfl,hw⟩
 have e1:=Ij hw (by lia) (by lia);have wz:=Ax w0;refine cf iA ?_;rw [qL];unfold fU;refine wp_seq (cK (lO (x:=false) (y:=false) (gc (x:=true) (cL rfl rfl)) fun _=>?_) (bL ?_))
 ·rw [dt (ng (i:=(tl.length:Int)) (cJ rfl (by show some (D.int ((tl.map qh).length:Nat))=_; rw [NH])) rfl)];exact congrArg some (decide_eq_false (by lia))
 refine wp_seq (kL (rows:=mL (nY T0)) ?_ (by show 2<5; decide) ?_)
 ·rw [oW (fun r=>D.lst (r.map D.int)) (bN rfl rfl) (fun (r:List Int)=>(Oz r.length (0:Int)).map D.int) fun r hr=>⟨[.pu (.lst (r.map D.int))],rfl,?_⟩]
  ·unfold mL nY;rw [N0];rfl
  ·have hr':=hw r hr;rw [Ac (i:=(r.length:Int)) rfl (cJ rfl (iq r)) ⟨by lia,by lia,by simp; lia⟩,Pq];congr 1;rw [VB];exact Sa
 dsimp only [NX,NV];refine wp_seq (br rfl ?_);dsimp only [NX,NV];refine wp_seq (fq (ds:=tl.map qh) (bN rfl rfl) (fun j ρ=>∃ v4:Sl,ρ=[.pu (aJ T0),.pu (.lst (tl.map qh)),.om (mL (sU (nY T0) (tl.take j))),.pu (.int (((tl.map (·.1)).take j).sum)),v4]) ⟨_,rfl⟩ ?_ ?_)
 ·rintro j d ρ hd ⟨v4,rfl⟩;rw [NR] at hd;obtain ⟨q,hq,rfl⟩:=OH.mp hd;have hm:=OF hq;have k:=ok q hm;have w2:=(vM (tl:=tl.take j) wz fun x hx=>ok x (O5 hx)).1
  have hne:T0≠[]:=fun z=>by
   have h1:bT T0=0:=by rw [z]; rfl
   have:∀ l:List Int,(∀ x∈l,1≤x)→l≠[]→1≤l.sum:=by
    intro l;induction l with
    | nil=>intro _ h; exact absurd rfl h
    | cons x l ih =>
     intro h _;rw [P8];have h1:=h x NJ;by_cases c:l=[]
     ·subst c; simp; exact h1
     ·have:=ih (fun y hy=>h y (NI _ hy)) c;lia
   have h2:=this (tl.map (·.1)) (fun x hx=>by obtain ⟨p,hp,rfl⟩:=NW.mp hx; exact (ok p hp).ge) (fun z=>by rw [Qv] at z; rw [z] at hm; cases hm);lia
  have h0:0<T0.length:=QT.mpr hne;refine ⟨[.pu (aJ T0),.pu (.lst (tl.map qh)),.om (mL (sU (nY T0) (tl.take j))),.pu (.int (((tl.map (·.1)).take j).sum)),.pu (qh q)],rfl,?_⟩
  have lP:q.2.length≤1000:=by
   have:=mn k.n2 (V:=bV (cF T0)) fun x hx=>by obtain ⟨p,hp,rfl⟩:=NW.mp hx; exact (k.zZ p hp).2
   rw [NH,fM] at this;lia
  refine wp_seq (IG ?_ rfl (ds:=[qh q,aJ T0,fV (mL (sU (nY T0) (tl.take j)))]) rfl (fun a ps _=>G2 w0 h0 k w2 lP a ps) ?_)
  ·rw [dt (pF (neg:=false) (d:=aJ T0) (e:=.lst []) rfl rfl (kB T0 []))];exact congrArg some (@decide_eq_false _ (_) fun z=>hne (Qv.mp (D.lst.inj z)))
  dsimp only [NX,NV];refine br (g8 rfl ‹19›) ⟨.pu (qh q),?_⟩;dsimp only [NX,NV];have hq1:(tl.map (·.1))[j]?=some q.1:=by rw [NR,hq]; rfl
  rw [take_snoc hq,CW,take_snoc hq1,QG];simp only [P8,List.sum_nil,R8]
 ·rintro ρ ⟨v4,rfl⟩;rw [NH,Qc,show (tl.map (·.1)).take tl.length=tl.map (·.1) from Pz (by rw [NH]; exact N9 _),sum];obtain ⟨w2,c2⟩:=vM (tl:=tl) wz ok;have eT:sU (nY T0) tl=T0:=EZ w2 w0 fun i j hi hj=>by rw [c2,wB,cells i j hi hj];lia
  rw [eT];refine bC (fS (x:=true) (y:=true) (gQ (d:=aJ T0) (congrArg some (xR T0)) rfl (kB T0 T0)) fun _=>gQ rfl (aO ‹45› e1) rfl) rfl
namespace Wr
local macro_rules | `(tactic| walk_at "fn")=>`(tactic| first | exact BP _ _ (by lia))
structure Nv (hs:List Int):Prop where
 len:hs.length≤20
 bd:∀ h∈hs,0≤h
def yj (h b:Int):Int:=if h % b≠0 then h / b+1 else h / b
theorem Af (h b:Int) (h0:0<b) (h1:b<2 ^ 64):fi [.int h,.int b]=some (.int (yj h b)):=by
 refine cf ja ?_;rw [sE];unfold gM;walk_at "go";refine tx (by walk_at "ev") (fun c=>?_) (fun c=>?_)
 ·refine bC (by walk_at "ev") ?_;unfold yj;rw [if_pos (by simpa using c)]
 ·walk_at "go";refine bC (by walk_at "ev") ?_;unfold yj;rw [if_neg (by simpa using c)]
def bT:List Int→Int
 | []=>0
 | x::r=>m3 x r
def mx (hs:List Int) (b:Int):Int:=max (bT hs) (yj hs.sum b)
theorem kY (x:Int) (r:List Int):maxD (.lst ((x::r).map D.int))=some (.int (m3 x r)):=gZ _ (x::r)
theorem Kg (hs:List Int) (b:Int) (h0:0<b) (h1:b<2 ^ 64):fg [.lst (hs.map D.int),.int b]=some (.int (yj hs.sum b)):=by refine cf i9 ?_;rw [sC];unfold gL;exact bC (aO (au (cJ rfl (oo _)) ‹45›) (Af _ _ h0 h1)) rfl
theorem least (hs:List Int) (b:Int) (h0:0<b) (h1:b<2 ^ 64):dE [.lst (hs.map D.int),.int b]=some (.int (mx hs b)):=by
 refine cf jK ?_;rw [uS];unfold iC;cases hs with
 | nil =>refine wp_seq (uD (gc (x:=false) (cL rfl rfl)) (bC rfl ?_));unfold mx bT yj;simp
 | cons x r =>refine wp_seq (cK (gc (x:=true) (cL rfl rfl)) (bL ?_));exact bC (vU (cJ rfl (kY _ _)) (aO (au rfl ‹45›) (Kg _ _ h0 h1))) rfl
theorem uN {h:Int} (hh:h∈hs):h≤bT hs:=by
 cases hs with
 | nil=>cases hh
 | cons x r=>exact (aX r x).2 h hh
noncomputable def oA (e w b a:Int):List (List Int):=if b<a then (if min a ((b / e+1)*e)<a then [[b / e,w,b-b / e*e,min a ((b / e+1)*e)-b / e*e],[b / e+1,w,0,a-(b / e+1)*e]] else [[b / e,w,b-b / e*e,min a ((b / e+1)*e)-b / e*e]]) else []
def pre (hs:List Int) (j:Nat):Int:=(hs.take j).sum
def lK (e:Int) (hs:List Int):Nat→List (List Int)
 | 0=>[]
 | j+1=>lK e hs j++oA e j (pre hs j) (pre hs (j+1))
theorem Ek (e w b a:Int):(oA e w b a).length≤2:=by
 unfold oA;split
 ·split <;> simp
 ·simp
theorem xr (e:Int) (hs:List Int):∀ j,(lK e hs j).length≤2*j
 | 0=>N9 _
 | j+1=>by have h1:=xr e hs j;have h2:=Ek e j (pre hs j) (pre hs (j+1));show (lK e hs j++oA e j (pre hs j) (pre hs (j+1))).length≤_;rw [N7]; lia
theorem xB {h:Int} (e:hs[j]?=some h):pre hs (j+1)=pre hs j+h:=by unfold pre;rw [Tf,e,QG];simp
def Lm (z:List Int):List D:=z.map D.int
def eF (zs:List (List Int)):List (List D):=zs.map Lm
def JH (zs:List (List Int)):List D:=zs.map fun z=>D.lst (Lm z)
theorem tS (R:List (List Int)) (a b c d:Int):eF R++[[.int a,.int b,.int c,.int d]]=eF (R++[[a,b,c,d]]):=by unfold eF; rw [Od]; rfl
theorem GH (R:List (List Int)):fV (eF R)=.lst (JH R):=by unfold fV eF JH; rw [N0]; rfl
theorem Kq {e k r b:Int} (he:0<e) (h:k*e+r=b) (h0:0≤r) (h1:r<e):b / e=k:=by rw [← h,Int.add_comm,Int.add_mul_ediv_right _ _ (by lia),Uw h0 h1,SS]
structure MV (hs:List Int) (b e:Int):Prop where
 jT:Nv hs
 b0:1≤b∧b≤20
 le:mx hs b≤e
 e0:0≤e
theorem MV.hour {b e h:Int} (f:MV hs b e) (hh:h∈hs):0≤h∧h≤e:=by have h1:=uN hh;have h2:=f.le;have h3:=f.jT.bd h hh;unfold mx at h2;lia
theorem mf (h:∀ x∈hs,0≤x):∀ j,0≤pre hs j∧pre hs j≤hs.sum:=by
 have key:∀ (hs:List Int),(∀ x∈hs,0≤x)→0≤hs.sum:=fun hs=>by
  induction hs with
  | nil=>intro _; simp
  | cons x r ih=>intro h; rw [P8]; have:=h x NJ; have:=ih fun y hy=>h y (NI _ hy); lia
 intro j;have e:hs.sum=pre hs j+(hs.drop j).sum:=by unfold pre;rw [← QG,OY]
 have k1:=key (hs.take j) fun x hx=>h x (O5 hx);have k2:=key (hs.drop j) fun x hx=>h x (PZ hx);unfold pre at *;lia
theorem Np (h:a ρ=some ‹31›):Ai (mz a) ρ=some (vW (hs.map D.int)):=by
 have hf:iz (hs.map D.int)=true:=by unfold iz;rw [Um];exact Pj.mpr fun _ _=>rfl
 have e1:mz a ρ=some ‹31›:=by unfold mz;rw [bN h rfl];exact if_pos hf
 unfold Ai;rw [bN e1 rfl]
theorem Kn (ds:List D):(vW ds).length=ds.length:=by unfold vW; rw [Ra]
theorem wrapped {b e:Int} (f:MV hs b e):iX [.lst (hs.map D.int),.int b,.int e]=some (fV (eF (lK e hs hs.length))):=by
 have hline:NM=16777216:=OA;have hb:=f.b0;have hlen:=f.jT.len;refine A7 lR ?_;rw [yY];unfold k9;refine wp_seq (br (aO (au rfl ‹45›) (least hs b (by lia) (by lia))) ?_);walk_at "st";have hle:=f.le;refine wp_seq (cK (by rw [dt (nc rfl rfl),decide_eq_false (by lia)]) (bL ?_));generalize mx hs b=L;refine wp_seq (kL (rows:=eF []) rfl (by simp only [Oy,Pm]; lia) ?_);walk_at "st";refine wp_seq (br rfl ?_);walk_at "st";refine wp_seq (br rfl ?_);walk_at "st";refine wp_seq (fq (Np rfl) (fun j ρ=>∃ (k m:Int) (v7 v8 v9 v10:Sl),k*e+m=pre hs j∧0≤m∧m≤e∧ρ=[.bo ‹31›,.bo (.int b),.bo (.int e),.pu (.int L),.om (eF (lK e hs j)),.pu (.int k),.pu (.int m),v7,v8,v9,v10]) ⟨0,0,_,_,_,_,by unfold pre; simp,by lia,by have:=f.e0; lia,rfl⟩ ?_ ?_)
 ·rintro j d ρ hd ⟨k,m,v7,v8,v9,v10,hkm,hm0,hme,rfl⟩;obtain ⟨e',he',rfl⟩:=qp hd;rw [NR] at he';obtain ⟨h,hh,rfl⟩:=OH.mp he';have hmem:=OF hh;have hj:j<hs.length:=(Oe.mp hh).1;have fh:=f.hour hmem;have ps:=xB hh;have rl:=xr e hs j;refine ⟨_,rfl,?_⟩;dsimp only [gN,zh,NX,NV];show Wp _ _ { nx:=fun ρ=>∃ (k m:Int) (v7 v8 v9 v10:Sl),k*e+m=pre hs (j+1)∧0≤m∧m≤e∧ρ=[.bo ‹31›,.bo (.int b),.bo (.int e),.pu (.int L),.om (eF (lK e hs j++oA e j (pre hs j) (pre hs (j+1)))),.pu (.int k),.pu (.int m),v7,v8,v9,v10],rt:=_,bk:=_,ct:=_ };generalize hR:lK e hs j=R at rl;generalize hp:pre hs j=p at hkm ps;rw [ps];refine wp_seq (br rfl ?_);walk_at "st";by_cases hh0:h=0
  ·-- nothing to lay
   subst hh0;refine qA (fun _ ρ=>ρ=[.bo ‹31›,.bo (.int b),.bo (.int e),.pu (.int L),.om (eF R),.pu (.int k),.pu (.int m),.pu (.int (j:Int)),.pu (.int 0),.pu (.int 0),v10]) 0 rfl ?_;rintro n ρ rfl;refine ⟨false,by rw [dt (ng rfl rfl),decide_eq_false (by lia)],(fun z=>by cases z),fun _=>?_⟩;have hs0:oA e j p (p+0)=[]:=by unfold oA; rw [if_neg (by lia)]
   dsimp only;rw [hs0,OT];exact ⟨k,m,_,_,_,_,by lia,hm0,hme,rfl⟩
  ·have he:0<e:=by lia
   have hpos:0<h:=by lia
   obtain ⟨k0,m0,hkm0,hm00,hm0e⟩:∃ k0 m0:Int,k0*e+m0=p∧0≤m0∧m0<e:=by refine ⟨p / e,p % e,?_,Wj _ (by lia),Vz _ he⟩;rw [Int.mul_comm]; exact Int.mul_ediv_add_emod p e
   have hdiv:=Kq he hkm0 hm00 hm0e;have e1:(k0+1)*e=k0*e+e:=by rw [Tz,Wc]
   have hseg:oA e j p (p+h)=if p+h≤k0*e+e then [[k0,(j:Int),m0,m0+h]] else [[k0,(j:Int),m0,e],[k0+1,(j:Int),0,p+h-(k0*e+e)]]:=by
    unfold oA;rw [if_pos (by lia),hdiv,e1];by_cases c:p+h≤k0*e+e
    ·rw [if_neg (by lia),if_pos c];have a1:p-k0*e=m0:=by lia
     have a2:min (p+h) (k0*e+e)-k0*e=m0+h:=by lia
     rw [a1,a2]
    ·rw [if_pos (by lia),if_neg c];have a1:p-k0*e=m0:=by lia
     have a2:min (p+h) (k0*e+e)-k0*e=e:=by lia
     rw [a1,a2]
   rw [hseg]
   have hst:(k=k0∧m=m0)∨(m=e∧k0=k+1∧m0=0):=by
    by_cases c:m=e
    ·right;have:p / e=k+1:=Kq he (k:=k+1) (r:=0) (by rw [Tz,Wc]; lia) (by lia) he;have hk1:k0=k+1:=by lia
     have e2:(k+1)*e=k*e+e:=by rw [Tz,Wc]
     subst hk1;exact ⟨c,rfl,by lia⟩
    ·left;have:=Kq he hkm hm0 (by lia);have hk1:k=k0:=by lia
     subst hk1;exact ⟨rfl,by lia⟩
   refine qA (fun n ρ=>(n=2∧∃ v10,ρ=[.bo ‹31›,.bo (.int b),.bo (.int e),.pu (.int L),.om (eF R),.pu (.int k),.pu (.int m),.pu (.int (j:Int)),.pu (.int h),.pu (.int h),v10]) ∨
    (n=1∧p+h≤k0*e+e∧∃ v10,ρ=[.bo ‹31›,.bo (.int b),.bo (.int e),.pu (.int L),.om (eF (R++[[k0,(j:Int),m0,m0+h]])),.pu (.int k0),.pu (.int (m0+h)),.pu (.int (j:Int)),.pu (.int h),.pu (.int 0),v10]) ∨
    (n=1∧¬ p+h≤k0*e+e∧∃ v10,ρ=[.bo ‹31›,.bo (.int b),.bo (.int e),.pu (.int L),.om (eF (R++[[k0,(j:Int),m0,e]])),.pu (.int k0),.pu (.int e),.pu (.int (j:Int)),.pu (.int h),.pu (.int (p+h-(k0*e+e))),v10]) ∨
    (n=0∧¬ p+h≤k0*e+e∧∃ v10,ρ=[.bo ‹31›,.bo (.int b),.bo (.int e),.pu (.int L),.om (eF (R++[[k0,(j:Int),m0,e],[k0+1,(j:Int),0,p+h-(k0*e+e)]])),.pu (.int (k0+1)),.pu (.int (p+h-(k0*e+e))),.pu (.int (j:Int)),.pu (.int h),.pu (.int 0),v10])) 2 (.inl ⟨rfl,_,rfl⟩) ?_
   rintro n ρ (⟨rfl,v,rfl⟩ | ⟨rfl,c,v,rfl⟩ | ⟨rfl,c,v,rfl⟩ | ⟨rfl,c,v,rfl⟩)
   ·refine ⟨true,by rw [dt (ng rfl rfl),decide_eq_true hpos],fun _=>?_,fun z=>by cases z⟩
    have norm:∀ (s:DS) (W:Wk),Wp s [.bo ‹31›,.bo (.int b),.bo (.int e),.pu (.int L),.om (eF R),.pu (.int k0),.pu (.int m0),.pu (.int (j:Int)),.pu (.int h),.pu (.int h),v] W →
     Wp (aL (ji (dT (jQ false (ai 6) (ai 2))) (aL (xp (fun x y=>x+y) 5 ‹17›) (cy 6 ‹6›)) bX) s) [.bo ‹31›,.bo (.int b),.bo (.int e),.pu (.int L),.om (eF R),.pu (.int k),.pu (.int m),.pu (.int (j:Int)),.pu (.int h),.pu (.int h),v] W:=by
     intro s W hW;rcases hst with ⟨rfl,rfl⟩ | ⟨rfl,rfl,rfl⟩
     ·exact wp_seq (cK (by rw [dt (iJ rfl rfl),decide_eq_false (by lia)]) (bL hW))
     ·refine wp_seq (uD (by rw [dt (iJ rfl rfl),decide_eq_true rfl]) (wp_seq (nZ rfl rfl ?_)));walk_at "st";exact br rfl hW
    refine norm _ _ ?_;refine wp_seq (br (vT (g8 rfl rfl) rfl) ?_);walk_at "st";refine wp_seq (kM rfl rfl (by unfold eF; rw [NH]; lia) ?_);walk_at "st";rw [tS];refine wp_seq (nZ rfl (oS rfl rfl) ?_);walk_at "st";refine br rfl ?_;walk_at "st";by_cases c:p+h≤k0*e+e
    ·refine ⟨1,by lia,.inr (.inl ⟨rfl,c,.pu (.int (m0+h)),?_⟩)⟩;have a1:min (m0+h) e=m0+h:=by lia
     have a2:h-(m0+h-m0)=0:=by lia
     rw [a1,a2]
    ·refine ⟨1,by lia,.inr (.inr (.inl ⟨rfl,c,.pu (.int e),?_⟩))⟩;have a1:min (m0+h) e=e:=by lia
     have a2:h-(e-m0)=p+h-(k0*e+e):=by lia
     rw [a1,a2]
   ·refine ⟨false,by rw [dt (ng rfl rfl),decide_eq_false (by lia)],(fun z=>by cases z),fun _=>?_⟩;dsimp only;rw [if_pos c];exact ⟨k0,m0+h,_,_,_,_,by lia,by lia,by lia,rfl⟩
   ·refine ⟨true,by rw [dt (ng rfl rfl),decide_eq_true (by lia)],fun _=>?_,fun z=>by cases z⟩;refine wp_seq (uD (by rw [dt (iJ rfl rfl),decide_eq_true rfl]) (wp_seq (nZ rfl rfl ?_)));walk_at "st";refine br rfl ?_;walk_at "st";refine wp_seq (br (vT (g8 rfl rfl) rfl) ?_);walk_at "st";refine wp_seq (kM rfl rfl (by unfold eF; rw [NH,N7,Pl]; lia) ?_);walk_at "st";rw [tS];refine wp_seq (nZ rfl (oS rfl rfl) ?_);walk_at "st";refine br rfl ?_;walk_at "st";refine ⟨0,by lia,.inr (.inr (.inr ⟨rfl,c,.pu (.int (p+h-(k0*e+e))),?_⟩))⟩;have a1:min (0+(p+h-(k0*e+e))) e=p+h-(k0*e+e):=by lia
    have a2:p+h-(k0*e+e)-(p+h-(k0*e+e)-0)=0:=by lia
    rw [a1,a2,OG];rfl
   ·refine ⟨false,by rw [dt (ng rfl rfl),decide_eq_false (by lia)],(fun z=>by cases z),fun _=>?_⟩;dsimp only;rw [if_neg c];exact ⟨k0+1,p+h-(k0*e+e),_,_,_,_,by lia,by lia,by lia,rfl⟩
 ·rintro ρ ⟨k,m,v7,v8,v9,v10,_,_,_,rfl⟩;refine DJ rfl ?_;rw [Kn,NH]
end Wr
def jY (T:Mx):Mx:=if T=[] then [] else (N4 (cF T)).map fun j=>T.map fun r=>r.getD j 0
theorem gS {T:Mx} (h:T≠[]):jY T=(N4 (cF T)).map fun j=>T.map fun r=>r.getD j 0:=if_neg h
theorem xq {T:Mx} (h:T≠[]):cm (jY T)=cols T:=by unfold cm cols;rw [gS h,N0];rfl
theorem gz {T:Mx} (h:T≠[]):(jY T).length=cF T:=by rw [gS h,NH,Oc]
theorem DU {T:Mx} (h:T≠[]) (hj:j<cF T):(jY T).getD j []=T.map fun r=>r.getD j 0:=by rw [gS h,NF,NR,PR hj];rfl
theorem wL {T:Mx}:∀ r∈jY T,r.length=T.length:=by
 intro r hr;by_cases h:T=[]
 ·rw [h] at hr;cases hr
 ·rw [gS h] at hr;obtain ⟨j,_,rfl⟩:=NW.mp hr;exact NH ..
theorem p7 {T:Mx} (h:T≠[]) (hb:0<cF T):cF (jY T)=T.length:=by
 cases e:jY T with
 | nil =>have:=gz h;rw [e] at this;simp at this;lia
 | cons a r =>have:=wL a (by rw [e]; exact NJ);exact this
theorem uM {T:Mx} (h:T≠[]) {i:Nat} (hi:i<T.length) (hj:j<cF T):cI (jY T) j i=cI T i j:=by rw [d6,d6,DU h hj,NF,NR,NG hi,NF (l:=T),NG hi];rfl
theorem Gh {T:Mx} (t:Tab T m):Tab (jY T) T.length:=by
 have b6:=t.w6;by_cases h:T=[]
 ·rw [h];exact ⟨by decide,fun r hr=>(by cases hr),by decide,fun r hr=>(by cases hr)⟩
 ·refine ⟨by rw [gz h]; exact b6,wL,t.len,fun r hr x hx=>?_⟩;rw [gS h] at hr;obtain ⟨j,hj,rfl⟩:=NW.mp hr;have hj:=Ow.mp hj;obtain ⟨q,hq,rfl⟩:=NW.mp hx;have hl:=t.w q hq;refine t.nn q hq _ ?_;rw [NF,NG (by lia)];exact PF _
theorem yA {T:Mx} (t:Tab T m) (h:T≠[]) (hb:0<cF T):cols (jY T)=cm T:=by
 unfold cols cm;rw [p7 h hb];refine Ri fun i=>?_;rw [NR,NR];by_cases c:i<T.length
 ·rw [PR c,NG c,RH,RH];refine congrArg some ?_;show ((jY T).map fun r=>r.getD i 0).sum=(T[i]).sum;rw [gS h,N0];have hl:=t.w T[i] (PF c)
  conv=>rhs; rw [← list_range T[i] hl]
  refine congrArg T5 (OC fun j _=>?_);show (T.map fun r=>r.getD j 0).getD i 0=_;rw [NF,NR,NG c];rfl
 ·rw [OL (by rw [Oc]; lia),OL (by lia)];rfl
theorem sum_nil {T:Mx} (t:Tab T m) (hb:¬ 0<cF T):∀ x∈cm T++cols T,x=0:=by
 intro x hx;rcases NZ.mp hx with z | z
 ·obtain ⟨r,hr,rfl⟩:=NW.mp z;have:=t.w r hr;rw [RV.mp (show r.length=0 by lia)];rfl
 ·obtain ⟨j,hj,_⟩:=NW.mp z;have:=Ow.mp hj;lia
theorem AH {T:Mx} (t:Tab T m) (hb:¬ 0<cF T):bT T=0:=by
 have:=(aX (cm T++cols T) 0).1;rcases NU.mp this with z | z
 ·exact z
 ·exact sum_nil t hb _ z
theorem mR {T:Mx} (t:Tab T m):bT (jY T)=bT T:=by
 by_cases h:T=[]
 ·rw [h];rfl
 ·by_cases hb:0<cF T
  ·unfold bT;rw [xq h,yA t h hb];refine t9 fun a=>?_;rw [NU,NU,NZ,NZ];constructor
   ·rintro (z | z | z)
    ·exact .inl z
    ·exact .inr (.inr z)
    ·exact .inr (.inl z)
   ·rintro (z | z | z)
    ·exact .inl z
    ·exact .inr (.inr z)
    ·exact .inr (.inl z)
  ·rw [AH t hb];have:jY T=[]:=RV.mp (by rw [gz h]; lia);rw [this];rfl
theorem E9 {T:Mx} (t:Tab T m):hJ [aJ T]=some (aJ (jY T)):=by
 have hline:NM=16777216:=OA;have b6:=t.w6;refine cf kI ?_;rw [wV];unfold jD;by_cases h:T=[]
 ·rw [h];exact wp_seq (uD (by rw [dt (gQ (d:=.lst []) rfl rfl rfl)]) (bC rfl rfl))
 ·have hl:0<T.length:=QT.mpr h;have ew:C6 (aJ T) 0=some (.lst ((T.getD 0 []).map D.int)):=G7 (jj (T:=T) (i:=0) hl);have e0:(T.getD 0 []).length=cF T:=t.w _ (cZ hl);refine wp_seq (cK ?_ (bL ?_))
  ·rw [dt (pF (neg:=false) (d:=aJ T) (e:=.lst []) rfl rfl (kB T []))];exact congrArg some (@decide_eq_false _ (_) fun z=>h (Qv.mp (D.lst.inj z)))
  refine bC (bf (ds:=(jY T).map fun r=>D.lst (r.map D.int)) ?_) rfl;rw [gS h,N0]
  have er:∀ ρ:aK,ρ.getD 0 .un=.bo (aJ T)→iK (fo dJ ‹56›) ρ=some ((N4 (cF T)).map fun j:Nat=>D.int (j:Int)):=fun ρ q=>by
   have q0:ai 0 ρ=some (aJ T):=by unfold ai;rw [q]
   rw [rR (cJ (ba q0 rfl ew) (iq _)) ⟨by lia,by lia⟩,e0,Pq];unfold wJ;refine congrArg some (OC fun j _=>?_);rw [show (0:Int)+(j:Int)=(j:Int) by lia]
  have:=b9 (ρ:=[.bo (aJ T)]) (k:=1) (cs:=[0]) (g:=gN true 0) (el:=bu ‹25›) (fun j:Nat=>D.int (j:Int)) (er [.bo (aJ T)] rfl) (fun j=>D.lst ((T.map fun r=>r.getD j 0).map D.int)) fun j hj=>⟨[.pu (.int (j:Int)),.bo (aJ T)],rfl,bf (by
   have hj:=Ow.mp hj;rw [N0];refine b9 (fun r:List Int=>D.lst (r.map D.int)) (bN rfl rfl) (fun r=>D.int (r.getD j 0)) fun r hr=>⟨_,rfl,k5 (ba rfl rfl (G7 ?_)) rfl⟩
   have:=t.w r hr;rw [NR,NG (by lia),NF,NG (by lia)];rfl)⟩
  exact this
def sw (p:Int×Int):Int×Int:=(p.2,p.1)
def AG (tl:iL):iL:=tl.map fun q=>(q.1,q.2.map sw)
theorem D3 {P:jU} {i j:Int}:(j,i)∈P.map sw↔(i,j)∈P:=by
 rw [NW];constructor
 ·rintro ⟨p,hp,e⟩;have e1:p.2=j:=congrArg WH e;have e2:p.1=i:=congrArg W0 e;rw [← e1,← e2];exact hp
 ·intro h;exact ⟨_,h,rfl⟩
theorem DV {b:Nat} {q:Int×jU} (k:dW h b q):dW b h (q.1,q.2.map sw):=by
 refine ⟨k.ge,fun p hp=>?_,?_,?_⟩
 ·obtain ⟨r,hr,rfl⟩:=NW.mp hp;exact ⟨(k.zZ r hr).2,(k.zZ r hr).1⟩
 ·rw [N0];exact k.n2
 ·rw [N0];exact k.n1
theorem AF (tl:iL):(AG tl).map (·.1)=tl.map (·.1):=by unfold AG;rw [N0];rfl
theorem AE (i j:Nat) (tl:iL):eK j i (AG tl)=eK i j tl:=by
 unfold eK AG;rw [N0];refine congrArg T5 (OC fun q _=>?_);show (if ((j:Int),(i:Int))∈q.2.map sw then q.1 else 0)=_;by_cases c:((i:Int),(j:Int))∈q.2
 ·rw [if_pos c,if_pos (D3.mpr c)]
 ·rw [if_neg c,if_neg fun z=>c (D3.mp z)]
theorem EX {b:Nat} {tl:iL} (ok:∀ q∈tl,dW h b q) (e:jT tl=0):tl=[]:=by
 cases tl with
 | nil=>rfl
 | cons q tl =>have:=(ok q NJ).ge;have:=z5 fun x hx=>ok x (NI _ hx);rw [iR] at e;lia
theorem Gi {T:Mx} (t:Tab T m) {tl:iL} (ok:∀ q∈tl,dW T.length (cF T) q) (sum:jT tl=bT T) (cells:∀ i j:Nat,i<T.length→j<cF T→eK i j tl=cI T i j):(∀ q∈AG tl,dW (jY T).length (cF (jY T)) q)∧jT (AG tl)=bT (jY T)∧∀ i j:Nat,i<(jY T).length→j<cF (jY T)→eK i j (AG tl)=cI (jY T) i j:=by
 have e1:jT (AG tl)=bT (jY T):=by rw [mR t,← sum];unfold jT;rw [AF]
 by_cases h:T≠[]∧0<cF T
 ·obtain ⟨h,hb⟩:=h;rw [gz h,p7 h hb];refine ⟨fun q hq=>?_,by rw [← mR t] at *; exact e1,fun i j hi hj=>?_⟩
  ·obtain ⟨r,hr,rfl⟩:=NW.mp hq;exact DV (ok r hr)
  ·rw [AE j i,cells j i hj hi,uM h hj hi]
 ·have z:bT T=0:=by
   by_cases c:0<cF T
   ·have:T=[]:=Ti fun q=>h ⟨q,c⟩;rw [this];rfl
   ·exact AH t c
  have en:=EX ok (by lia)
  have eU:jY T=[]:=by
   by_cases c:T=[]
   ·rw [c];rfl
   ·have:¬ 0<cF T:=fun q=>h ⟨c,q⟩;exact RV.mp (by rw [gz c]; lia)
  subst en;exact ⟨fun q hq=>(by cases hq),e1,fun i j hi=>by rw [eU] at hi; exact absurd hi (UH _)⟩
def exc (r:R4):R4:=(r.w,r.b,r.s,r.e)
def kD (d:D):List Int:=match d with
 | .lst l=>kR l
 | _=>[]
def Mf (d:D):R4:=match d with
 | .lst [.int a,.int b,.int c,.int e]=>(a,b,c,e)
 | _=>(0,0,0,0)
noncomputable def Kf (Q:List R4):List R4:=(jZ kD ((Q.map exc).map cA)).map Mf
theorem BJ (Q:List R4):(Kf Q).map cA=jZ kD ((Q.map exc).map cA):=by
 unfold Kf;rw [N0]
 conv=>rhs; rw [← Rr (jZ kD ((Q.map exc).map cA))]
 refine OC fun d hd=>?_;obtain ⟨r,_,rfl⟩:=NW.mp ((gU _ _).mem_iff.mp hd);rfl
theorem Fs (Q:List R4):(Kf Q).Perm (Q.map exc):=by
 have:=(gU kD ((Q.map exc).map cA)).map Mf
 have e:((Q.map exc).map cA).map Mf=Q.map exc:=by
  rw [N0]
  conv=>rhs; rw [← Rr (Q.map exc)]
  exact OC fun r _=>rfl
 rw [e] at this;exact this
theorem Ke (Q:List R4):(Kf Q).Pairwise HD:=by
 have h:=qP kD ((Q.map exc).map cA);rw [← BJ,Pk] at h;refine h.imp fun {x y} z=>?_;have z:L2.lexLt [y.s,y.b] [x.s,x.b]=false:=z;simp only [L2.lexLt] at z;unfold HD;split at z
 ·split at z
  ·lia
  ·have:=of_decide_eq_false z; lia
 ·have:=of_decide_eq_false z; lia
theorem Kd {T:Mx} {Q:List R4} (P:Og T Q):(((Q.map exc).map cA).map kD).Nodup:=by rw [N0,N0];refine Pk.mpr (PQ (fun {x y} hx hy d e=>?_) P.wj);have e:[x.s,x.w]=[y.s,y.w]:=e;injection e with e1 e2;injection e2 with e2 _;have:=d e2;have:=(P.all x hx).2.2.2.1;have:=(P.all y hy).2.2.2.1;lia
theorem Hh (l:List R4) (i j:Nat):SM (l.map exc) (fw i j)=SM l (fw j i):=by
 unfold SM;rw [N0];refine congrArg T5 (OC fun r _=>?_);show fw i j (exc r)=fw j i r;unfold fw;show (if r.b=(i:Int)∧r.w=(j:Int) then r.e-r.s else 0)=_;by_cases c:r.b=(i:Int)∧r.w=(j:Int)
 ·rw [if_pos c,if_pos ⟨c.2,c.1⟩]
 ·rw [if_neg c,if_neg fun z=>c ⟨z.2,z.1⟩]
theorem Kc {T:Mx} (t:Tab T m) {Q:List R4} (P:Og T Q):Og (jY T) (Kf Q):=by
 have pm:=Fs Q;have mem:∀ r∈Kf Q,∃ q∈Q,r=exc q:=fun r hr=>by obtain ⟨q,hq,e⟩:=NW.mp (pm.mem_iff.mp hr);exact ⟨q,hq,e.symm⟩
 have dims:∀ {i j:Nat},i<T.length→j<cF T→T≠[]∧0<cF T:=fun {i j} hi hj=>⟨fun z=>by rw [z] at hi; exact absurd hi (UH _),by lia⟩
 refine ⟨fun r hr=>?_,?_,?_,fun x hx y hy n=>?_,Ke Q,fun i j hi hj=>?_,fun h0=>?_⟩
 ·obtain ⟨q,hq,rfl⟩:=mem r hr;obtain ⟨a1,a2,a3,a4,a5⟩:=P.all q hq;have b1:=aA.mp a1;have b2:=aA.mp a2;obtain ⟨hn,hb⟩:=dims (i:=q.w.toNat) (j:=q.b.toNat) (by lia) (by lia);rw [gz hn,p7 hn hb,mR t];exact ⟨a2,a1,a3,a4,a5⟩
 ·refine (pm.pairwise_iff fun h=>Hk.symm h).mpr ?_;rw [Pk];exact P.wj
 ·refine (pm.pairwise_iff fun h=>Hk.symm h).mpr ?_;rw [Pk];exact P.bj
 ·obtain ⟨p,hp,rfl⟩:=mem x hx;obtain ⟨q,hq,rfl⟩:=mem y hy;exact P.no p hp q hq ⟨n.2.1,n.1,n.2.2⟩
 ·rw [wo pm,Hh];by_cases h:T=[]
  ·rw [h] at hi;exact absurd hi (UH _)
  ·have hi':i<cF T:=by rw [← gz h]; exact hi
   rw [p7 h (by lia)] at hj;rw [P.sum j i hj hi',uM h hj hi']
 ·rw [mR t] at h0 ⊢;obtain ⟨z,hz,hl⟩:=P.top h0;exact ⟨exc z,pm.mem_iff.mpr (NW.mpr ⟨z,hz,rfl⟩),hl⟩
open Wr (oA pre lK)
def Bj (pr:Nat→Int×Int) (hs:List Int) (n:Nat):iL:=((N4 n).filter fun j=>decide (0<hs.getD j 0)).map fun j=>(hs.getD j 0,[pr j])
theorem rh (pr:Nat→Int×Int) (hs:List Int) (n:Nat):Bj pr hs (n+1)=Bj pr hs n++if 0<hs.getD n 0 then [(hs.getD n 0,[pr n])] else []:=by
 unfold Bj;rw [Wl,List.filter_append,Od];by_cases c:0<hs.getD n 0
 ·rw [if_pos c,show U9 (fun j=>decide (0<hs.getD j 0)) [n]=[n] from Ry.mpr fun x hx=>by rw [NL.mp hx]; exact decide_eq_true c];rfl
 ·rw [if_neg c,show U9 (fun j=>decide (0<hs.getD j 0)) [n]=[] from List.filter_eq_nil_iff.mpr fun x hx=>by rw [NL.mp hx,decide_eq_true_iff]; exact c];rfl
theorem zC (h0:∀ x∈hs,0≤x) (hn:n<hs.length):pre hs (n+1)=pre hs n+hs.getD n 0∧0≤hs.getD n 0:=by rw [NF,NG hn];exact ⟨Wr.xB (NG hn),h0 _ (PF hn)⟩
theorem vp (pr:Nat→Int×Int) {hs:List Int} (h0:∀ x∈hs,0≤x):∀ n,n≤hs.length→jT (Bj pr hs n)=pre hs n
 | 0,_=>by unfold pre;rfl
 | n+1,hn=>by
  obtain ⟨e,g⟩:=zC h0 (show n<hs.length by lia);rw [rh,e];have ih:=vp pr h0 n (by lia);by_cases c:0<hs.getD n 0
  ·rw [if_pos c,ye,ih]
  ·rw [if_neg c,OT,ih];lia
theorem xE {pr:Nat→Int×Int} {hs:List Int} (h0:∀ x∈hs,0≤x):∀ n,n≤hs.length→lK hs.sum hs n=(j8 0 (Bj (fun j=>((j:Int),0)) hs n)).map zR
 | 0,_=>rfl
 | n+1,hn=>by
  obtain ⟨e,g⟩:=zC h0 (show n<hs.length by lia);have ih:=xE (pr:=pr) h0 n (by lia);have p0:=(Wr.mf h0 n).1;have p1:=(Wr.mf h0 (n+1)).2;show lK hs.sum hs n++oA hs.sum n (pre hs n) (pre hs (n+1))=_;rw [ih,rh];by_cases c:0<hs.getD n 0
  ·rw [if_pos c,vf,Od,vp _ h0 n (by lia)];congr 1;unfold oA;have hd:pre hs n / hs.sum=0:=Uw p0 (by lia);rw [if_pos (by lia),hd,if_neg (by lia)];show [[(0:Int),(n:Int),pre hs n-0*hs.sum,min (pre hs (n+1)) ((0+1)*hs.sum)-0*hs.sum]]=[[(0:Int),(n:Int),0+pre hs n,0+pre hs n+hs.getD n 0]]
   rw [show pre hs n-0*hs.sum=0+pre hs n by lia,show min (pre hs (n+1)) ((0+1)*hs.sum)-0*hs.sum=0+pre hs n+hs.getD n 0 by lia]
  ·rw [if_neg c,OT];unfold oA;rw [if_neg (by lia),OT]
theorem zF:∀ q∈Bj (fun j=>((j:Int),0)) hs n,dW n 1 q:=fun q hq=>by obtain ⟨j,hj,rfl⟩:=NW.mp hq;obtain ⟨h1,h2⟩:=OJ.mp hj;have h1:=Ow.mp h1;have h2:=of_decide_eq_true h2;refine ⟨by show 1≤hs.getD j 0; lia,fun p hp=>?_,Of.mpr ⟨Qm,O8⟩,Of.mpr ⟨Qm,O8⟩⟩;rw [NL.mp hp];exact ⟨aA.mpr ⟨by show (0:Int)≤(j:Int); lia,by show (j:Int)<(n:Int); lia⟩,aA.mpr ⟨O6 _,by show (0:Int)<((1:Nat):Int); decide⟩⟩
theorem vo {hs:List Int} (h0:∀ x∈hs,0≤x) (i:Nat):∀ n,n≤hs.length→eK i 0 (Bj (fun j=>((j:Int),0)) hs n)=if i<n then hs.getD i 0 else 0
 | 0,_=>rfl
 | n+1,hn=>by
  obtain ⟨_,g⟩:=zC h0 (show n<hs.length by lia);have ih:=vo h0 i n (by lia);rw [rh];by_cases c:0<hs.getD n 0
  ·rw [if_pos c,wR,ih];by_cases d:i=n
   ·subst d;rw [if_neg (by lia)];show (0+if ((i:Int),((0:Nat):Int))∈[((i:Int),(0:Int))] then hs.getD i 0 else 0)=_;rw [if_pos (show ((i:Int),((0:Nat):Int))∈[((i:Int),(0:Int))] from NL.mpr rfl),if_pos (by lia)];lia
   ·show (_+if ((i:Int),((0:Nat):Int))∈[((n:Int),(0:Int))] then hs.getD n 0 else 0)=_;rw [if_neg (show ¬ ((i:Int),((0:Nat):Int))∈[((n:Int),(0:Int))] from fun z=>by have:=congrArg WH (NL.mp z);have:(i:Int)=(n:Int):=this;lia)];by_cases e:i<n
    ·rw [if_pos e,if_pos (by lia)];lia
    ·rw [if_neg e,if_neg (by lia)];rfl
  ·rw [if_neg c,OT,ih];by_cases d:i=n
   ·subst d;rw [if_neg (by lia),if_pos (by lia)];lia
   ·by_cases e:i<n
    ·rw [if_pos e,if_pos (by lia)]
    ·rw [if_neg e,if_neg (by lia)]
theorem GQ (pr:Nat→Int×Int) (hs:List Int) (n:Nat):(Bj pr hs n).length≤n:=by unfold Bj;rw [NH];refine ON (Qk _ _) ?_;rw [Oc];exact N9 _
theorem yX (h0:∀ x∈hs,0≤x):∀ x∈hs,x≤hs.sum:=by
 induction hs with
 | nil=>intro x hx; cases hx
 | cons y r ih =>
  intro x hx;have hr:=fun z (hz:z∈r)=>h0 z (NI _ hz);have hy:=h0 y NJ;have h1:=Wr.mf hr 0;rw [P8];rcases NU.mp hx with z | z
  ·have:(0:Int)≤r.sum:=by unfold pre at h1; simp at h1; exact h1
   lia
  ·have:=ih hr x z;lia
theorem E5 (h0:∀ x∈hs,0≤x):Wr.mx hs 1=hs.sum:=by
 have hd:Wr.yj hs.sum 1=hs.sum:=by unfold Wr.yj;rw [if_neg (by lia)];lia
 have hs0:=(Wr.mf h0 0)
 have hs1:(0:Int)≤hs.sum:=SU hs0.1 hs0.2;unfold Wr.mx;rw [hd]
 have:Wr.bT hs≤hs.sum:=by
  cases hs with
  | nil=>exact O6 _
  | cons x r=>exact yX h0 _ (aX r x).1
 lia
theorem single {T:Mx} (t:Tab T m) (h0:∀ x∈hs,0≤x) (hn:hs.length≤6) (htop:bT T=hs.sum) {pl:Nat} (hp:(pl=0∧T.length=hs.length∧cF T=1∧∀ i:Nat,i<hs.length→cI T i (0:Nat)=hs.getD i 0)∨(pl=1∧T.length=1∧cF T=hs.length∧∀ i:Nat,i<hs.length→cI T (0:Nat) i=hs.getD i 0)):fI [aJ T,.lst (hs.map D.int),.int (pl:Int)]=some (.bl true):=by
 have hline:NM=16777216:=OA;have hw:=t.w;have el:=Wr.least hs 1 ‹11› ‹11›;rw [E5 h0] at el;have s0:(0:Int)≤hs.sum:=by have:=Wr.mf h0 0;exact SU this.1 this.2
 have ew:=Wr.wrapped (hs:=hs) (b:=1) (e:=hs.sum) ⟨⟨by lia,h0⟩,⟨by decide,by decide⟩,by rw [E5 h0]; exact O6 _,s0⟩;rw [xE (pr:=fun _=>(0,0)) h0 hs.length (N9 _),Wr.GH] at ew;unfold Wr.JH at ew;rw [N0] at ew;have oe:=mZ hw (by have:=t.w6; lia) (by have:=t.len; lia) t.nn
 obtain ⟨tl,etl,ok,hsum,cells⟩:∃ tl:iL,((pl=0∧tl=Bj (fun j=>((j:Int),0)) hs hs.length)∨(pl=1∧tl=AG (Bj (fun j=>((j:Int),0)) hs hs.length)))∧(∀ q∈tl,dW T.length (cF T) q)∧jT tl=bT T∧∀ i j:Nat,i<T.length→j<cF T→eK i j tl=cI T i j:=by
  have eh:jT (Bj (fun j=>((j:Int),0)) hs hs.length)=hs.sum:=by rw [vp _ h0 _ (N9 _)];unfold pre;rw [Qc]
  rcases hp with ⟨z,h1,h2,h3⟩ | ⟨z,h1,h2,h3⟩
  ·refine ⟨_,.inl ⟨z,rfl⟩,by rw [h1,h2]; exact zF,by rw [eh,htop],fun i j hi hj=>?_⟩;have:j=0:=by lia
   subst this;rw [vo h0 i _ (N9 _),if_pos (by lia),h3 i (by lia)]
  ·refine ⟨_,.inr ⟨z,rfl⟩,fun q hq=>?_,?_,fun i j hi hj=>?_⟩
   ·obtain ⟨r,hr,rfl⟩:=NW.mp hq;rw [h1,h2];exact DV (zF r hr)
   ·unfold jT at eh ⊢;rw [AF,eh,htop]
   ·have:i=0:=by lia
    subst this;rw [AE j 0,vo h0 j _ (N9 _),if_pos (by lia),h3 j (by lia)]
 have ltl:tl.length≤6:=by
  have:=GQ (fun j=>((j:Int),0)) hs hs.length;rcases etl with ⟨_,z⟩ | ⟨_,z⟩
  ·rw [z];lia
  ·rw [z];unfold AG;rw [NH];lia
 have og:=Op.g t ok hsum cells (op ok);have lr:(j8 0 tl).length≤36:=by have:=vg (s:=0) ok;have:=Va t.w6 ltl;lia
 generalize hL:j8 0 (Bj (fun j=>((j:Int),0)) hs hs.length)=L at ew
 have eL:j8 0 tl=L.map (if pl=0 then id else exc):=by
  rcases etl with ⟨z,e⟩ | ⟨z,e⟩
  ·rw [z,if_pos rfl,Rr,e,hL]
  ·rw [z,if_neg ‹11›,e,← hL];generalize Bj (fun j=>((j:Int),0)) hs hs.length=tq;generalize (0:Int)=s;induction tq generalizing s with
   | nil=>rfl
   | cons q tq ih =>show ((q.2.map sw).map fun p=>((p.2,p.1,s,s+q.1):R4))++j8 (s+q.1) (AG tq)=((q.2.map fun p=>((p.2,p.1,s,s+q.1):R4))++j8 (s+q.1) tq).map exc;rw [ih,Od,N0,N0];rfl
 have hpl:pl=0∨pl=1:=by
  rcases hp with z | z
  ·exact .inl z.1
  ·exact .inr z.1
 refine cf kK ?_;rw [wW];unfold jE;refine wp_seq (fK (ds:=((L.take 0).map (if pl=0 then id else exc)).map cA) rfl (by simp only [Oy,Pm]; lia) ?_);walk_at "st";have eh:∀ ρ:aK,ai 1 ρ=some ‹31›→bu (kr (rZ (ai 1))) ρ=some ‹31›:=fun ρ q=>bf (qm (rV q rfl) (uh hs));have lL:L.length≤36:=by rw [eL,NH] at lr;exact lr
 refine wp_seq (fq (ds:=L.map cA) (bN (aO (au (eh _ rfl) (au rfl (au (aO (au (eh _ rfl) ‹45›) el) rfl))) ew) rfl) (fun j ρ=>∃ v4:Sl,ρ=[.bo (aJ T),.bo ‹31›,.bo (.int (pl:Int)),.ol (((L.take j).map (if pl=0 then id else exc)).map cA),v4]) ⟨_,rfl⟩ ?_ ?_)
 ·rintro j d ρ hd ⟨v4,rfl⟩;rw [NR] at hd;obtain ⟨r,hr,rfl⟩:=OH.mp hd;refine ⟨_,rfl,?_⟩;dsimp only [gN,zh,NX,NV];have hb:r.b=0:=by have:r∈L:=OF hr;rw [← hL] at this;have:=(oG (h:=hs.length) (b:=1) zF r this).2.1;have:=aA.mp this;lia
  have lt:=Sy j L;rw [take_snoc hr,Od,Od];refine n4 (d:=cA ((if pl=0 then id else exc) r)) rfl (bf ?_) (by rw [NH,NH]; lia) ⟨_,rfl⟩;have cut:Ak (gX r) (some 2) none=[.int r.s,.int r.e]:=rfl;have e2:∀ ρ:aK,aC 4 ρ=some (cA r)→bu (Hr (aC 4) (g6 (dC (.int 2))) ij) ρ=some (.lst [.int r.s,.int r.e]):=fun ρ q=>by rw [← cut];exact bf (Fu (bN q rfl) rfl rfl)
  have e3:∀ ρ:aK,aC 4 ρ=some (cA r)→bu (ao (bu (ao ‹6› (ao (bZ (aC 4) ‹17›) aS))) (ao (bu (ao (bZ (aC 4) ‹17›) (ao ‹6› aS))) aS)) ρ=some (.lst [.lst [.int 0,.int r.w],.lst [.int r.w,.int 0]]):=fun ρ q=>bf (au (bf (au rfl (au (ba q rfl rfl) rfl))) (au (bf (au (ba q rfl rfl) ‹45›)) rfl));have fits:2+2≤NM:=by lia
  rcases hpl with z | z
  ·subst z;have e4:=mB (xs:=[.int 0,.int r.w]) (ys:=[.int r.s,.int r.e]) (ba (e3 [.bo (aJ T),.bo ‹31›,.bo (.int ((0:Nat):Int)),.ol (((L.take j).map (if (0:Nat)=0 then id else exc)).map cA),.pu (cA r)] rfl) (b:=ai 2) rfl rfl) (e2 _ rfl) fits;rw [e4];show some [D.int 0,.int r.w,.int r.s,.int r.e]=some [D.int r.b,.int r.w,.int r.s,.int r.e];rw [hb]
  ·subst z;have e4:=mB (xs:=[.int r.w,.int 0]) (ys:=[.int r.s,.int r.e]) (ba (e3 [.bo (aJ T),.bo ‹31›,.bo (.int ((1:Nat):Int)),.ol (((L.take j).map (if (1:Nat)=0 then id else exc)).map cA),.pu (cA r)] rfl) (b:=ai 2) rfl rfl) (e2 _ rfl) fits;rw [e4];show some [D.int r.w,.int 0,.int r.s,.int r.e]=some [D.int r.w,.int r.b,.int r.s,.int r.e];rw [hb]
 ·rintro ρ ⟨v4,rfl⟩;rw [NH,Qc,← eL];refine wp_seq (br (aO ‹45› (joined (A6 ok) (by lia))) ?_);walk_at "st";exact bC (fS (x:=true) (y:=true) (gQ (aO ‹45› oe) (by rw [htop]; exact aO (au (eh _ rfl) ‹45›) el) rfl) fun _=>aO (au rfl ‹45›) (vP t og)) rfl
theorem cz:L2.stepI none none (some (-1)) 2=[1,0]:=by decide +kernel
theorem Ld:L2.stepI (some 1) none (some (-1)) 4=[1,0]:=by decide +kernel
theorem DW {T:Mx} (hx:x∈cm T++cols T) (le:∀ y∈cm T++cols T,y≤x) (h0:0≤x):bT T=x:=by
 have s:=aX (cm T++cols T) 0;have a:x≤bT T:=s.2 x (NI _ hx)
 have c:bT T≤x:=by
  rcases NU.mp s.1 with z | z
  ·have:bT T=0:=z;lia
  ·exact le _ z
 lia
theorem B8 {T:Mx} (t:Tab T m) (hT:T≠[]) (hw:cF T=1):bT T=((jY T).getD 0 []).sum:=by
 rw [DU hT (by lia)];have h0:∀ x∈T.map fun r=>r.getD 0 0,0≤x:=fun x hx=>by obtain ⟨r,hr,rfl⟩:=NW.mp hx;have:=t.w r hr;refine t.nn r hr _ ?_;rw [NF,NG (by lia)];exact PF _
 have ec:cols T=[(T.map fun r=>r.getD 0 0).sum]:=by unfold cols;rw [hw];rfl
 refine DW (by rw [ec]; exact NQ _ (NL.mpr rfl)) (fun y hy=>?_) ?_
 ·rcases NZ.mp hy with z | z
  ·obtain ⟨r,hr,rfl⟩:=NW.mp z;have hl:=t.w r hr;rw [hw] at hl
   have:r.sum=r.getD 0 0:=by
    match r,hl with
    | [x],_=>simp
   rw [this];exact yX h0 _ (NW.mpr ⟨r,hr,rfl⟩)
  ·rw [ec] at z;rw [NL.mp z];exact O6 _
 ·have:=Wr.mf h0 0;exact SU this.1 this.2
theorem DX {T:Mx} (t:Tab T m) (c:T.length=1):bT T=(T.getD 0 []).sum:=by
 match T,c,t with
 | [r],_,t =>
  have h0:∀ x∈r,0≤x:=t.nn r NJ;show bT [r]=r.sum;refine DW (Ol _ (NL.mpr rfl)) (fun y hy=>?_) ?_
  ·rcases NZ.mp hy with z | z
   ·rw [NL.mp z];exact O6 _
   ·obtain ⟨j,hj,rfl⟩:=NW.mp z;have hj:j<r.length:=Ow.mp hj;show r.getD j 0+0≤r.sum;rw [R8];exact yX h0 _ (mem_getD hj)
  ·have:=Wr.mf h0 0;exact SU this.1 this.2
theorem E6 (ns:List Int) (hl:ns.length≤63) (hb:∀ m∈ns,P4 m≤1048576):BZ [.scr ns]=some (.bl true):=by
 have hline:NM=16777216:=OA;obtain ⟨T,m,e,t⟩:=table ns hl;obtain ⟨tl,e1,h1,h2,h3,h4⟩:=Jo t;have h3':jT tl=bT T:=h3;have tU:=Gh t;have eU:=E9 t;have oT:=mZ t.w (by have:=t.w6; lia) (by have:=t.len; lia) t.nn;have oU:=mZ tU.w (by have:=tU.w6; lia) (by have:=tU.len; lia) tU.nn;rw [mR t] at oU;have lT:=xY t.w (by have:=t.w6; lia);have lU:=xY tU.w (by have:=tU.w6; lia);have ip:=uf t h1 h2 h3 h4;obtain ⟨k1,k2,k3⟩:=Gi t h1 h3' h4;have ipU:=uf tU k1 (by unfold AG; rw [NH]; exact h2) k2 k3;have op1:=CI t e1 h1 h2;have og:=Op.g t h1 h3' h4 (op h1);have pl:=vP t og;have plU:=vP tU (Kc t og);have lQ:(out (j8 0 tl)).length<800:=by have a:=(Bl (A6 (s:=0) h1)).length_eq;have c:=m8 (s4 (j8 0 tl)) [];rw [rP] at c;have d:=(cT (j8 0 tl)).length_eq;have f:=vg (s:=0) h1;have g:=Va t.w6 h2;simp only [Pm] at c;lia
 generalize out (j8 0 tl)=Q at op1 og pl plU lQ;refine cf uC ?_;rw [IV];unfold B1;refine wp_seq (br (aO ‹45› e) ?_);walk_at "st";refine wp_seq (br (aO ‹45› eU) ?_);walk_at "st";refine wp_seq (cK (M5 (aO ‹45› oU) (aO ‹45› oT)) (bL ?_));refine wp_seq (cK ?_ (bL ?_))
 ·by_cases h:jY T=[]
  ·refine mC (x:=false) (y:=false) ?_ fun z=>by cases z
   rw [h];rw [dt (pF (neg:=true) (d:=.lst []) (e:=.lst []) rfl rfl rfl)];simp
  ·have hT:T≠[]:=fun z=>h (by rw [z]; rfl);have hw:0<cF T:=by have:=gz hT;have:=QT.mpr h;lia
   rw [xq hT,yA t hT hw] at lU;refine mC (x:=true) (y:=false) ?_ fun _=>?_
   ·rw [dt (pF (neg:=true) (d:=aJ (jY T)) (e:=.lst []) rfl rfl (kB (jY T) []))];have ne:aJ (jY T)≠D.lst []:=fun z=>h (Qv.mp (D.lst.inj z));simp only [if_true,ne,decide_false,Bool.not_false]
   ·have c:dP 20 (D.tup [.lst ‹38›,.lst ‹33›]) (D.tup [.lst ‹38›,.lst ‹33›])=true:=FJ (wc fun x hx y hy=>by
     obtain ⟨p,_,rfl⟩:=NW.mp hx;obtain ⟨q,_,rfl⟩:=NW.mp hy;rfl) (wc fun x hx y hy=>by
     obtain ⟨p,_,rfl⟩:=NW.mp hx;obtain ⟨q,_,rfl⟩:=NW.mp hy;rfl)
    rw [dt (pF (neg:=true) (d:=.tup [.lst ‹38›,.lst ‹33›]) (e:=.tup [.lst ‹38›,.lst ‹33›]) (aO ‹45› lU) (Hi (aO ‹45› lT) rfl rfl rfl) c)];simp
 refine wp_seq (br (aO ‹45› e1) ?_);walk_at "st";refine wp_seq (cK (xO (cL (aO (au rfl ‹45›) ip) rfl)) (bL ?_))
 have eP:∀ ρ:aK,aC 3 ρ=some (.lst (tl.map qh))→bu (bJ 2 [] (fH (aC 3)) ‹36› bM (bu (ao (aC 0) (ao (bu (bJ 1 [] (fH (aC 1)) (gN true 0) bM (bu (yr (aC 0) ij ij (g6 (mE ‹17›)))))) aS)))) ρ=some (.lst ((AG tl).map qh)):=fun ρ q=>by
  unfold AG;rw [N0];refine bf (b9 qh (bN q rfl) (fun q=>qh (q.1,q.2.map sw)) fun q _=>⟨[.pu (.int q.1),.pu (rf q.2)],rfl,bf (au rfl (au (bf ?_) rfl))⟩);rw [N0];refine b9 jG (bN rfl rfl) (fun p=>jG (sw p)) fun p _=>⟨_,rfl,bf ?_⟩
  rw [Ft (ds:=[.int p.1,.int p.2]) (bN rfl rfl) rfl rfl (m9 (rS rfl)) ⟨by decide,by show (L2.stepI none none (some (-1)) 2).length≤_; rw [cz]; show 2≤NM; lia⟩];show some (fX _ (L2.stepI none none (some (-1)) 2))=_;rw [cz];rfl
 refine wp_seq (cK (xO (cL (aO (au rfl (au (eP _ rfl) rfl)) ipU) rfl)) (bL ?_));refine wp_seq (br (aO ‹45› op1) ?_);walk_at "st";refine wp_seq (cK (xO (cL (aO (au rfl ‹45›) pl) rfl)) (bL ?_));refine wp_seq (br (d:=.lst ((Q.map exc).map cA)) (bf ?_) ?_)
 ·rw [N0];refine b9 cA (bN rfl rfl) (fun r=>cA (exc r)) fun r _=>⟨_,rfl,bf ?_⟩
  have e4:=mB (xs:=[.int r.w,.int r.b]) (ys:=[.int r.s,.int r.e]) (ρ:=[.pu (cA r)]) (a:=bu (yr (aC 0) (g6 ‹17›) ij (g6 (mE ‹17›)))) (b:=bu (Hr (aC 0) (g6 (dC (.int 2))) ij)) (bf (by
   rw [Ft (ds:=gX r) (bN rfl rfl) (m9 rfl) rfl (m9 (rS rfl)) ⟨by decide,by show (L2.stepI (some 1) none (some (-1)) 4).length≤_; rw [Ld]; show 2≤NM; lia⟩];show some (fX _ (L2.stepI (some 1) none (some (-1)) 4))=_;rw [Ld];rfl)) (by
   have cut:Ak (gX r) (some 2) none=[.int r.s,.int r.e]:=rfl;rw [← cut];exact bf (Fu (bN rfl rfl) rfl rfl)) (by show 4≤NM; lia)
  exact e4
 walk_at "st";have eS:∀ ρ:aK,aC 5 ρ=some (.lst ((Q.map exc).map cA))→bu (mD [] (aC 5) (wa (ao (bZ (aC 0) (dC (.int 2))) (ao (bZ (aC 0) ‹6›) aS)))) ρ=some (.lst ((Kf Q).map cA)):=fun ρ q=>by rw [BJ];refine bf (Dk kD (bN q rfl) (fun d hd=>?_) (Kd og) (by rw [NH,NH]; exact lQ));obtain ⟨r,_,rfl⟩:=NW.mp hd;exact ⟨rfl,by intro z; cases z⟩
 refine wp_seq (cK (xO (cL (aO (au rfl (au (eS _ rfl) rfl)) plU) rfl)) (bL ?_));have lenU:dJ (aJ (jY T))=some (.int ((jY T).length:Int)):=by show some (D.int (((jY T).map fun r=>D.lst (r.map D.int)).length:Nat))=_;rw [NH]
 have lenT:dJ (aJ T)=some (.int (T.length:Int)):=by show some (D.int ((T.map fun r=>D.lst (r.map D.int)).length:Nat))=_;rw [NH]
 refine wp_seq (cK ?_ (bL ?_))
 ·by_cases c:(jY T).length=1
  ·have hT:T≠[]:=fun z=>by rw [z] at c; cases c
   have hw:cF T=1:=by rw [← gz hT]; exact c
   have e5:=single t (hs:=(jY T).getD 0 []) (fun x hx=>tU.nn _ (cZ (by lia)) x hx) (by
    rw [wL _ (cZ (by lia))];exact t.len) (B8 t hT hw) (pl:=0) (.inl ⟨rfl,(wL _ (cZ (by lia))).symm,hw,fun i hi=>by
    rw [wL _ (cZ (by lia))] at hi;rw [← uM hT hi (by lia),d6]⟩)
   refine mC (x:=true) (y:=false) (by rw [dt (iJ (cJ rfl lenU) rfl),decide_eq_true (by lia)]) fun _=>xO (cL (aO (au rfl (au (ba rfl rfl (G7 (jj (T:=jY T) (i:=0) (by lia)))) ‹45›)) e5) rfl)
  ·exact mC (x:=false) (y:=false) (by rw [dt (iJ (cJ rfl lenU) rfl),decide_eq_false (by lia)]) fun z=>by cases z
 by_cases c:T.length=1
 ·have e5:=single t (hs:=T.getD 0 []) (fun x hx=>t.nn _ (cZ (by lia)) x hx) (by rw [t.w _ (cZ (by lia))];exact t.w6) (DX t c) (pl:=1) (.inr ⟨rfl,c,(t.w _ (cZ (by lia))).symm,fun i hi=>d6 T 0 i⟩);exact bC (Ad (x:=false) (y:=true) (by rw [oV (cJ rfl lenT) rfl,decide_eq_false (by lia)]) fun _=>aO (au rfl (au (ba rfl rfl (G7 (jj (T:=T) (i:=0) (by lia)))) ‹45›)) e5) rfl
 ·refine bC (Ad (x:=true) (y:=true) (by rw [oV (cJ rfl lenT) rfl,decide_eq_true (by lia)]) fun z=>by cases z) rfl
instance (priority:=high) tabsI:bB:=⟨[((115:NP),("joined.<locals>.<lambda>" : OX)),((229:NP),("law.<locals>.<lambda>" : OX))]⟩
set_option autoImplicit true in
set_option relaxedAutoImplicit true in
open PySem.W in
theorem all_mk {K:Frag} {h:PM} {mg:OX→Option NN} {fa:NP} (X:K.In h) (G:h.Ns OU mg) (hfa:mg "law" = some (.ref fa)) (H:FAll K mg top tab) (z_all:VC K OU "all" = some none)
 (z_bool:VC K OU "bool" = some none)
 (z_enumerate:VC K OU "enumerate" = some none)
 (z_int:VC K OU "int" = some none)
 (z_isinstance:VC K OU "isinstance" = some none)
 (z_len:VC K OU "len" = some none)
 (z_list:VC K OU "list" = some none)
 (z_max:VC K OU "max" = some none)
 (z_min:VC K OU "min" = some none)
 (z_range:VC K OU "range" = some none)
 (z_sorted:VC K OU "sorted" = some none)
 (z_sum:VC K OU "sum" = some none)
 (c_BEGIN:VC K OU "BEGIN" = some (some (.int 2 t_BEGIN)))
 (c_BENCH:VC K OU "BENCH" = some (some (.int 0 t_BENCH)))
 (c_END:VC K OU "END" = some (some (.int 3 t_END)))
 (c_WORK:VC K OU "WORK" = some (some (.int 1 t_WORK)))
 (h_joined:codeHdIn K 119 115=true) (tb_joined:((115:NP),("joined.<locals>.<lambda>" : OX))∈bB.ts)
 (h_law:codeHdIn K 231 229=true) (tb_law:((229:NP),("law.<locals>.<lambda>" : OX))∈bB.ts) :
 ∃ a:Mc,Txt K mg a∧a.f 30=fa∧∀ (s:NS) (v:NN),Vd s (a.d 30) ⟨[v],[]⟩ [("_law_script", v)]:=by
 obtain ⟨f,d,F⟩:=H.ex;have e:=hfa.symm.trans (F 30 rfl).m;cases e;exact ⟨⟨f,d⟩,⟨F,(F 12 rfl).c _ rfl,h_joined,tb_joined,(F 30 rfl).c _ rfl,h_law,tb_law,QC X G z_all,QC X G z_bool,QC X G z_enumerate,QC X G z_int,QC X G z_isinstance,QC X G z_len,QC X G z_list,QC X G z_max,QC X G z_min,QC X G z_range,QC X G z_sorted,QC X G z_sum,⟨_,mg_of X G c_BEGIN⟩,⟨_,mg_of X G c_BENCH⟩,⟨_,mg_of X G c_END⟩,⟨_,mg_of X G c_WORK⟩⟩,rfl,fun s v=>.of_eq ((F 30 rfl).b0 [v] rfl)⟩
theorem oP {p:NP} {q:OX}:∀ {l:List (NP×OX)},l.lookup p=some q→(p,q)∈l
 | [],h=>by cases h
 | (a,b)::l,h=>by
  rw [QY] at h;cases e:p==a with
  | true=>rw [e] at h; cases h; rw [beq_iff_eq.mp e]; exact NJ
  | false=>rw [e] at h; exact NI _ (oP h)
theorem walk {l:Wh} {q:O4} {loose:List OX} {XP:(OX→Option NN)→PM→Prop} {YP:Pf→PM→Prop} {d:DefRec} {K:Params→NK} (hn:l.most=some 63) (hdf:d.params.defaults=[])
 (hY:∀ (w:Pf) (h:PM),YP w h→(K w.params).In h) (hT0:∀ (w:Pf) (h:PM),YP w h→h.get? 115=some (Td #[])) (hN0:∀ w:Pf,(K w.params).lookup 115=none) (hC0:∀ w:Pf,Q2 (K w.params) 119 115=true) (hT1:∀ (w:Pf) (h:PM),YP w h→h.get? 229=some (Td #[])) (hN1:∀ w:Pf,(K w.params).lookup 229=none) (hC1:∀ w:Pf,Q2 (K w.params) 231 229=true)
 (F:∀ (w:Pf) (mg:OX→Option NN) (fa:NP) (h:PM),(K w.params).In h→h.Ns OU mg→mg d.name=some (.ref fa)→∃ a:Mc,Txt (K w.params) mg a∧(a.f 30)=fa∧∀ (s:NS) (v:NN),Vd s (a.d 30) ⟨[v],[]⟩ [("_law_script", v)]) :
 WL q loose XP YP l.row.toRowW d [] (fun f vs=>PySem.call f vs) :=
 L2.DP (n:=63) (k:=20) (x := "_law_script") (CX:=fun _=>gJ) (sp:=fun w=>Ec (K w.params)) [((115:NP),("joined.<locals>.<lambda>" : OX)),((229:NP),("law.<locals>.<lambda>" : OX))] hn ‹11› hdf ⟨rfl,by decide,by decide⟩ hY
  (fun w h Y p q e=>by
   have m:=oP e; simp only [NU,WN,Qm,or_false] at m; rcases m with ⟨rfl,_⟩ | ⟨rfl,_⟩
   ·exact hT0 w h Y
   ·exact hT1 w h Y)
  (fun w p q e=>by
   have m:=oP e; simp only [NU,WN,Qm,or_false] at m; rcases m with ⟨rfl,_⟩ | ⟨rfl,_⟩
   ·exact ⟨hN0 w,119,hC0 w⟩
   ·exact ⟨hN1 w,231,hC1 w⟩)
  (fun w mg fa h KX G e=>by obtain ⟨a,T,rfl,hb⟩:=F w mg fa h KX G e;exact ⟨(a.d 30),hb,fun base kb nb bm=>(Jy T bm).imp fun vs H Q E h=>Ci E6 h⟩)
  (fun _ H a ns hl hbits ht hS=>⟨a,ns,rfl,hS,hl,hbits,(fun p hp=>by
   have m:p∈([((115:NP),("joined.<locals>.<lambda>" : OX)),((229:NP),("law.<locals>.<lambda>" : OX))]:List (NP×OX)):=hp;simp only [NU,Qm,or_false] at m;rcases m with rfl | rfl
   ·exact ⟨0,ht _ _ (by first | rfl | simp)⟩
   ·exact ⟨0,ht _ _ (by first | rfl | simp)⟩),fun _=>rfl⟩) fun _ _ _ _ _ z=>z
end
end My
namespace PySem.W.Fast
theorem tw3880998264294620120:True:=⟨⟩
theorem tw10674267455954865558:True:=⟨⟩
theorem tw9008536089108875584:True:=⟨⟩
theorem tw4534001221608586752:True:=⟨⟩
theorem tw17238236996771001827:True:=⟨⟩
theorem tw16378582148905684771:True:=⟨⟩
theorem tw14815123059031409539:True:=⟨⟩
theorem tw4828284033912672932:True:=⟨⟩
theorem tw10509723001927550948:True:=⟨⟩
theorem tw2586087670797999013:True:=⟨⟩
theorem tw6236827736306141574:True:=⟨⟩
theorem tw6989341609231935014:True:=⟨⟩
theorem tw12170816150104067143:True:=⟨⟩
theorem tw7323833815773864423:True:=⟨⟩
theorem tw16118533367121089319:True:=⟨⟩
theorem tw10170183708399396552:True:=⟨⟩
theorem tw14818304870466949032:True:=⟨⟩
theorem tw6053217904030796329:True:=⟨⟩
theorem tw12429236851260891945:True:=⟨⟩
theorem tw12139053755832577034:True:=⟨⟩
theorem tw13795864603740860683:True:=⟨⟩
theorem tw18167664655850843627:True:=⟨⟩
theorem tw14334445218958624235:True:=⟨⟩
theorem tw1759470103102070862:True:=⟨⟩
theorem tw13784796741228827214:True:=⟨⟩
theorem tw8131295179771255855:True:=⟨⟩
theorem tw6959009418776689903:True:=⟨⟩
theorem tw3849222257288547631:True:=⟨⟩
theorem tw8367948523512307857:True:=⟨⟩
theorem tw4192037952897309041:True:=⟨⟩
theorem tw12231952093190698609:True:=⟨⟩
theorem tw8525234679743686707:True:=⟨⟩
theorem tw7493537188889676691:True:=⟨⟩
theorem tw9110659466974550356:True:=⟨⟩
theorem tw13413329540784749877:True:=⟨⟩
theorem tw12717043469101966165:True:=⟨⟩
theorem tw1115640655329707318:True:=⟨⟩
theorem tw5712567468939874647:True:=⟨⟩
theorem tw17881652898936667767:True:=⟨⟩
theorem tw1539215855125412632:True:=⟨⟩
theorem tw7369871859974356760:True:=⟨⟩
theorem tw12840018988918186105:True:=⟨⟩
theorem tw13441717732177717497:True:=⟨⟩
theorem tw13703747175353523001:True:=⟨⟩
theorem tw14791959434396257241:True:=⟨⟩
theorem tw12773600095659365818:True:=⟨⟩
theorem tw1305073548213147098:True:=⟨⟩
theorem tw1352699429824120860:True:=⟨⟩
theorem tw10245522444174812380:True:=⟨⟩
theorem tw2700702972506494652:True:=⟨⟩
theorem tw3384359804779576188:True:=⟨⟩
theorem tw4847028433110476733:True:=⟨⟩
theorem tw10882200864499702943:True:=⟨⟩
end PySem.W.Fast
open PySem PySem.W PyProof.Rows
set_option maxRecDepth 100000 in
set_option maxHeartbeats 0 in
theorem PySem.Challenge.cw_leastfloor_k25_whole_open_floors_turned_holds : PySem.Challenge.rw_leastfloor_k25_whole_open_floors_turned.Holds := by
  w_on; o_law; k_head; (case hw => w_witness2)
  k_fill
  refine My.walk (l := PySem.Challenge.rw_leastfloor_k25_whole_open_floors_turned) rfl rfl (fun w h Y => by first | exact PySem.W.kIn_of Y | exact PySem.W.km_in_of Y) (fun w h Y => PySem.W.km_tabs_of Y _ (by k_mem)) (fun w => by kernel_rfl) (fun w => by kernel_rfl) (fun w h Y => PySem.W.km_tabs_of Y _ (by k_mem)) (fun w => by kernel_rfl) (fun w => by kernel_rfl) ?F
  case F =>
    intro w mg fa h KX G hmg
    refine' My.all_mk KX G hmg ?H ?z_all ?z_bool ?z_enumerate ?z_int ?z_isinstance ?z_len ?z_list ?z_max ?z_min ?z_range ?z_sorted ?z_sum ?c_BEGIN ?c_BENCH ?c_END ?c_WORK ?h_joined ?tb_joined ?h_law ?tb_law
    case H =>
      repeat refine' L2.FAll.cons ?_ (L2.FT.ex KX G ?_ ?_ ?_ ?_ ?_ ?_)
      · exact L2.FAll.nil
      any_goals first | k_is | exact L2.bind1 fun _ => rfl | exact L2.bind2 fun _ _ => rfl | exact L2.bind3 fun _ _ _ => rfl | exact L2.bind4 fun _ _ _ _ => rfl | exact L2.hk0 | exact L2.hk1
    case z_all|z_bool|z_enumerate|z_int|z_isinstance|z_len|z_list|z_max|z_min|z_range|z_sorted|z_sum|c_BEGIN|c_BENCH|c_END|c_WORK => k_is
    case h_joined => kernel_rfl
    case tb_joined => exact List.mem_cons_self
    case h_law => kernel_rfl
    case tb_law => exact (List.mem_cons_of_mem _ List.mem_cons_self)
#print axioms PySem.Challenge.cw_leastfloor_k25_whole_open_floors_turned_holds
