import PyProof.Rows.All
import Wide.All
import OpenK.AllK
import Wide.FinOn
import Lean
import PyProof.EqAt
import PyProof.EqKinds
import PyProof.TupleCall
import PySem.Challenge.RW_leastfloor_k44_whole_windows_and_benches
set_option compiler.extract_closed false
set_option genSizeOfSpec false
set_option Elab.async false
set_option linter.all false
set_option maxRecDepth 100000
set_option hygiene false
local macro_rules|`(‹0›)=>`((fun _ _ _ _ _=>(eB (i:=0) (by decide +kernel) rfl (OQ rfl) (Pn rfl))))
local macro_rules|`(‹1›)=>`(s.heap.objs.size)
local macro_rules|`(‹2›)=>`((.cons rfl (OQ rfl) rfl (by first | exact OQ rfl | exact Pn rfl) .nil))
local macro_rules|`(‹3›)=>`((by first | exact OQ rfl | exact Pn rfl))
local macro_rules|`(‹4›)=>`((by decide +kernel))
local macro_rules|`(‹5›)=>`((by omega))
local macro_rules|`(‹6›)=>`((ax (K:=K) rfl))
local macro_rules|`(‹7›)=>`((model X.prog X.w))
local macro_rules|`(‹8›)=>`((fun _ _=>rfl))
local macro_rules|`(‹9›)=>`((hr.mono (by decide)))
local macro_rules|`(‹10›)=>`((aH (bI (K:=K) rfl) rfl T.z_len dA (aa (pv 0) ak)))
local macro_rules|`(‹11›)=>`((by decide))
local macro_rules|`(‹12›)=>`((ba X N' scope cl C s3 H3 fp pins))
local macro_rules|`(‹13›)=>`((model prog w))
local macro_rules|`(‹14›)=>`((Sz "<lambda>" q params body scope cl ((X.mg "__name__").getD .none) (.ref c) ct))
local macro_rules|`(‹15›)=>`(((relabel scope X.env).names.lookup x=some .cell∨(relabel scope X.env).names.lookup x=some .free))
local macro_rules|`(‹16›)=>`((Pp "tuple" (ys.map fun (i:Nat)=>QU (i:Int)).toArray 0))
local macro_rules|`(‹17›)=>`((Sx scope (Qo (C+1) scope.names cl) C X.env))
local macro_rules|`(‹18›)=>`((by simp only [OW,Pb]; omega))
local macro_rules|`(‹19›)=>`((ae rfl (ae rfl rfl)))
local macro_rules|`(‹20›)=>`((ba X N' scope cl s3.heap.objs.size s3 H3 fp pins))
local macro_rules|`(‹21›)=>`((ba X (ts++zs) scope cl C s3 H3 fp pins))
local macro_rules|`(‹22›)=>`((dC (.int 0)))
local macro_rules|`(‹23›)=>`((X.env.scope.names.lookup z=some .cell∨X.env.scope.names.lookup z=some .free))
local macro_rules|`(‹24›)=>`(X.s₀.heap.objs.size)
local macro_rules|`(‹25›)=>`((relabel scope X.env))
local macro_rules|`(‹26›)=>`(((dP 0 (w0::ws) ss).map natD))
local macro_rules|`(‹27›)=>`(X.env.locals)
local macro_rules|`(‹28›)=>`((tW jq P w K mg base N qual (aB st) f cdv A outer s H E))
local macro_rules|`(‹29›)=>`((dC (.int 1)))
local macro_rules|`(‹30›)=>`(s1.heap.objs.size)
local macro_rules|`(‹31›)=>`((bV I q (by simp)))
local macro_rules|`(‹32›)=>`((aM rfl rfl rfl))
local macro_rules|`(‹33›)=>`(((s.heap.update a (Pw fun _=>(#[]:Array OD))).push (Pp "tuple" vs.toArray 0)))
local macro_rules|`(‹34›)=>`(["works", "benches", "stretches", "table", "way"])
local macro_rules|`(‹35›)=>`((gH e lt (decide (items.size≤items2.size)) (min items.size items2.size) 0))
local macro_rules|`(‹36›)=>`((ns.getD j default=ms.getD j default))
local macro_rules|`(‹37›)=>`((.ListComp elt [⟨tg,iter,ifs,0⟩] scope pos))
local macro_rules|`(‹38›)=>`((cq (w0::ws) ss))
local macro_rules|`(‹39›)=>`((Sg (QT (name:=SI "__next__") h.ty cf (Qp cf h.ty gZ ?_ (g6 _)))))
local macro_rules|`(‹40›)=>`((.lst (hs.map D.int)))
local macro_rules|`(‹41›)=>`((by rw [Oy]; exact hl))
local macro_rules|`(‹42›)=>`((.builtin "object.__class__"))
local macro_rules|`(‹43›)=>`((s.heap.push (fS #[] 0 (.fresh 0 0 led))))
local macro_rules|`(‹44›)=>`((by simpa using hj))
local macro_rules|`(‹45›)=>`((s.heap.push (Pp "list" #[] 0)))
local macro_rules|`(‹46›)=>`((aa (iT (v:=.ty "list") rfl T.z_list gg rfl) ak))
local macro_rules|`(‹47›)=>`((Pp "list" vs.toArray 0))
local macro_rules|`(‹48›)=>`(["_law_works", "_law_number", "_law_some", "_law_stretches"])
local macro_rules|`(‹49›)=>`((ns.map V.int))
local macro_rules|`(‹50›)=>`((by intro z; cases z))
local macro_rules|`(‹51›)=>`((fun p=>decide (p=(i,j))))
local macro_rules|`(‹52›)=>`(["_law_works", "_law_number", "_law_rows", "_law_done", "_law_last", "_law_free", "_law_ahead", "_law_row", "_law_bench", "_law_work", "_law_begin", "_law_end"])
local macro_rules|`(‹53›)=>`((.cons rfl .nil))
local macro_rules|`(‹54›)=>`((s.heap.push { cls:=.type "range", data:=.fields #[.int lo t,.int hi u,.int 1 v] }))
local macro_rules|`(‹55›)=>`((ps.map V.ref))
local macro_rules|`(‹56›)=>`((by simpa using e))
local macro_rules|`(‹57›)=>`((bK (w0::ws) ss))
local macro_rules|`(‹58›)=>`((OJ _ (OJ _ (OB.mpr rfl))))
local macro_rules|`(‹59›)=>`((fun _ _ _ _ _=>(fZ (K:=K) rfl rfl (bH (eB (i:=0) ‹4› rfl (OQ rfl) (Pn rfl)) (bH (eB (i:=1) ‹4› rfl (OQ rfl) (Pn rfl)) fY)))))
local macro_rules|`(‹60›)=>`((.cons rfl (OQ rfl) rfl ‹3› ‹2›))
local macro_rules|`(‹61›)=>`((aa (dZ rfl (bh (K:=K) rfl (pv 7)) (ts:=["_law_work"]) (zs:=[]) (k:=1) (is:=[]) rfl .nil .nil rfl rfl rfl (aV ‹11›) ‹0› (fun _ _ _ _ _=>(mj (gc (K:=K) rfl) rfl T.z_list gg (aa (pv 0) ak))) rfl rfl ‹4›) (aa (pv 3) ak)))
local macro_rules|`(‹62›)=>`((aG ‹6› (pv 2) aw ‹8›))
local macro_rules|`(‹63›)=>`((aV ‹11›))
local macro_rules|`(‹64›)=>`((AZ (bw bz (ao (av 1) (ao (aj 2) (ao (aj 0) bu)))) ‹22›))
local macro_rules|`(tactic|show 0)=>`(tactic|(walk_at "st"))
local macro_rules|`(tactic|show 1)=>`(tactic|(intro X hP hw hK hc i pins s σ H E I hf st hg))
local macro_rules|`(tactic|show 2)=>`(tactic|(intro pins s σ H Q I h))
local macro_rules|`(tactic|show 3)=>`(tactic|(refine ha f e1 fun v H1 s1 i1=>hb (f.grow s1) e2 fun u H2 s2 i2=>?_))
local macro_rules|`(tactic|show 4)=>`(tactic|(intro pins s σ H x y v u Q I rx ry h))
local macro_rules|`(tactic|show 5)=>`(tactic|(intro pins s σ H xs us Q I r h))
local macro_rules|`(tactic|show 6)=>`(tactic|(obtain ⟨f0,f1,f2,f3,f4,f5⟩:=hf it (by simp)))
local macro_rules|`(tactic|show 7)=>`(tactic|(rcases O4.mp hp with hp | hp))
local macro_rules|`(tactic|show 8)=>`(tactic|(obtain ⟨hp,g,d,tk,os⟩:=s; obtain ⟨hl,hb,he,hlt,h⟩:=h))
local macro_rules|`(tactic|show 9)=>`(tactic|(refine xQ (n:=(p.1:Int)) (r:=p.1) (m:=(p.2:Int)) (j:=p.2) (x:=eM T1 p.1 p.2) (y:=a) (ds:=(iy T1 p.1).map D.int) rfl rfl (by rw [EO,hR.1]; exact sY p1) (Ji (by rw [hR.1]; exact p1)) rfl (by rw [Oy,hR.2 _ p1]; exact sY p2) (int_at (by rw [hR.2 _ p1]; exact p2)) rfl ?_))
local macro_rules|`(tactic|show 10)=>`(tactic|(dsimp only [gN,ug,PF,Px]))
local macro_rules|`(tactic|show 11)=>`(tactic|(have hline:OE=16777216:=Po))
local macro_rules|`(tactic|show 12)=>`(tactic|(refine .inr ⟨go,fun σ' H'=>∃ os' ρ',Fr K B Z os' ρ' σ' H'∧Kp (bR Z os) H1 (bR Z os') H'∧nR fr K B Z os H1 E (lA g b (ds.drop (i+1)) ρ'),fun σ' H' ⟨os',ρ',h1,h2,h3⟩=>⟨_,by omega,os',ρ',rfl,hlt,h1,h2,h3⟩,fun x H3 hy=>?_⟩))
local macro_rules|`(tactic|show 13)=>`(tactic|(have eW:d6 (aC W)=some (.int (n:Int)):=by unfold aC; rw [fC,Oy,hW]))
local macro_rules|`(tactic|show 14)=>`(tactic|(obtain ⟨t,rfl⟩:=rx))
local macro_rules|`(tactic|show 15)=>`(tactic|(refine ⟨_,rfl,?_⟩))
local macro_rules|`(tactic|show 16)=>`(tactic|(have I1:Inv X pins σ H { s with heap:=h' }:=I.turned (t':=s.toks) (fun b o hb e=>(sb.2 b hb).trans e) f0 f1 f3 f4 f5))
local macro_rules|`(tactic|show 17)=>`(tactic|(exact p.elim))
local macro_rules|`(tactic|show 18)=>`(tactic|(wp_walk using Pz hl,Pz hb))
local macro_rules|`(tactic|show 19)=>`(tactic|(rcases OP.mp hp with rfl | hp))
local macro_rules|`(tactic|show 20)=>`(tactic|(dsimp only))
local macro_rules|`(tactic|show 21)=>`(tactic|(intro pins s σ H D I h))
local macro_rules|`(tactic|show 22)=>`(tactic|(refine ⟨false,by rw [dM (iZ rfl rfl),decide_eq_false ‹5›],(fun z=>by cases z),fun _=>?_⟩))
local macro_rules|`(tactic|show 23)=>`(tactic|(by_cases hj:j=i))
local macro_rules|`(tactic|show 24)=>`(tactic|(have hi:=eC e ‹50›))
local macro_rules|`(tactic|show 25)=>`(tactic|(exact fun os' σ' H' f' k'=>⟨os',_,f',k13.trans k',p2⟩))
set_option hygiene true
open Array renaming getElem?_eq_getElem→O6,getD_eq_getD_getElem?→Pd,length_toList→Pr,getElem?_eq_none→QZ,getElem?_toList→RD,toArray_toList→Wg,toList_append→Wx,forIn_toList→WV,toList_push→Xk,toList_inj→Xz,toList_map→XA,toList_zip→XB,size_push→XU,getD→Yd,map→Ys
open Array.Perm renaming refl→S5
open Bool renaming false_ne_true→O2,eq_iff_iff→P6,false_eq_true→Qz,and_eq_true→RA,or_false→WG,and_true→WJ,not_eq_true'→Xe,or_eq_true→XS
open Classical renaming byContradiction→SO
open False renaming elim→R5
open ForInStep renaming yield→Qt
open Int renaming toNat_natCast→QK,le_refl→Rf,add_zero→Rw,mul_zero→RL,add_mul→R3,mul_ediv_add_emod→Sk,mul_comm→SJ,emod_nonneg→S7,emod_lt_of_pos→Tc,neg_mul→Te,one_mul→Tf,mul_nonneg→Tv,mul_add→T4,zero_add→Um,lt_of_mul_lt_mul_right→UL,mul_one→UQ,sub_zero→Vx,not_lt→Vy,natCast_add→VH,le_iff_lt_or_eq→WD,ediv_nonneg→X0
open List renaming getElem?_eq_getElem→Ow,getD_eq_getElem?_getD→Ox,length_map→Oy,mem_singleton→OB,getElem?_map→OH,mem_cons_of_mem→OI,mem_append_right→OJ,size_toArray→OM,mem_cons_self→ON,mem_cons→OP,getElem?_eq_some_iff→OR,length_cons→OW,replicate→OY,range→O0,length_append→O1,map_map→O3,mem_append→O4,getElem?_eq_none→O5,map_append→O7,mem_range→O8,map_cons→O9,mem_append_left→Pa,length_nil→Pb,nodup_cons→Pc,getElem?_append_left→Pe,drop_eq_getElem_cons→Pg,mem_map→Pj,length_replicate→Pu,set_cons_zero→Px,getElem?_append_right→Py,mem_of_getElem?→PD,set_cons_succ→PF,length_set→PH,length_range→PK,map_congr_left→PU,getElem?_replicate→PY,mem_filter→P5,take_length→Qd,nodup_nil→Qe,length_singleton→Qh,not_mem_nil→Qj,getElem?_set_ne→Ql,pairwise_cons→Qm,replicate_succ→Qn,getElem?_set_self→Qr,append_nil→Qs,all_eq_true→Qu,append_assoc→Qx,pairwise_append→QA,getElem_mem→QD,filterMap_cons→QF,pairwise_map→QJ,take_succ→QN,filter_cons_of_pos→QS,ext_getElem?→QY,getElem?_range→Q2,of_mem_zip→Q4,map_nil→Q9,flatten_cons→Rj,filter_cons_of_neg→Rk,find?_cons→Ro,length_zipWith→Rr,getElem_of_mem→Rt,zipWith→Rv,sum_cons→Ry,toArray→RK,filter_eq_self→RP,ext_getElem→RT,drop_length→RU,lookup_cons→RV,take_of_length_le→R8,drop_of_length_le→R9,zip_cons_cons→Sa,zip→Sd,mem_iff_getElem?→Sj,nodup_append→Sn,getElem?_set→Sq,getElem?_of_mem→Sw,mem_of_mem_drop→SE,mem_of_mem_take→SF,pairwise_iff_getElem→SN,length_reverse→SS,set_eq_of_length_le→SW,nil_append→S3,mem_filterMap→S8,pairwise_mergeSort→Td,pairwise_singleton→Tg,reverse_cons→To,pairwise_lt_range→Tr,foldl_append→Tu,getElem?_zipWith→Tx,take_append_drop→TB,any_eq_true→TH,cons_append→TJ,any_cons→TQ,mem_iff_getElem→TV,eq_nil_of_length_eq_zero→TY,map_id→T5,length_take_le'→T6,sum_append→Ue,take_succ_cons→Ug,mergeSort_perm→Uh,filter_sublist→Ui,map_set→Ul,forIn_toArray→UD,length_eraseIdx_of_lt→UH,perm_ext_iff_of_nodup→UI,map_replicate→UJ,pairwise_pair→UK,exists_mem_of_ne_nil→UO,length_take→U9,length_drop→Va,nodup_range→Ve,range_succ_eq_map→Vv,zipWith_cons_cons→Vw,filter_eq_nil_iff→Vz,foldl_cons→VC,map_const'→VI,contains_iff_mem→VN,forIn_nil→V5,length_pos_iff→Wu,getD_cons_succ→WA,getD_cons_zero→WB,countP_eq_zero→WC,length_take_le→WE,length_mapIdx→WT,filterMap_map→WZ,ne_nil_of_mem→W2,filter_append→W3,any_eq_false→W5,take_sublist→W9,drop_sublist→Xh,getElem_drop→Xi,set_set→Xn,map_snd_zip→XC,countP_cons→XF,mem_flatMap→XG,length→XI,forIn_cons→XY,length_zip→XZ,foldl→X8,tail_cons→Yh,drop_one→Yn,map_drop→Yo
open List.Nodup renaming length_le_of_subset→RZ,sublist→W0
open List.Pairwise renaming imp_of_mem→Ra,sublist→VP
open List.Perm renaming eq_of_pairwise→RN,refl→Yc
open Nat renaming ne_of_lt→OS,le_refl→OT,lt_of_lt_of_le→OZ,lt_succ_of_lt→Ph,le_trans→Pq,lt_irrefl→PB,zero_le→PV,lt_succ_self→Qc,le_of_lt→QO,ne_of_gt→QW,le_succ→R1,le_of_eq→Tn,strongRecOn→T9,sub_self→Uo,lt_trans→Vo,le_of_ble_eq_true→VT,min_self→Xb
open Ne renaming symm→P9
open Option renaming map_eq_some_iff→P7,map_some→Rn,isSome_map→UT,isSome_iff_exists→UZ,isSome_some→WR,getD_none→Xv,getD_some→Xy,none→YA
open Option.some renaming inj→Pm
open Or renaming inl→OQ,inr→Pn
open Prod renaming fst→Sf,snd→Xp
open Prod.mk renaming injEq→Yp
open PyProof.Rows renaming seqObj→Pp,callWith_type1→P4,IntsAre→RJ,size_push'→Sy,envOfC→SQ,ksk_tree→Tz,callWith_builtin1→TF,get?_update_seq→Ua,entry_list_sort→Ub,slot_list_sort→UB,subscriptTail→U0,listUpdate_at→U4,AllBare→Vh,envOfC→Vj,subscriptTail_builtinR→Vl,plain_sorted→Vp,entry_sorted→Vq,kind_sorted→V7,args_list_sort→V8,entry_proto_collect'→Wf,lt_int→Wv,Subscript_→WO,listItems_at→Xc,args_sorted1→Xd,News→Xs,seqEpoch_at→XN
open PyProof.Rows.F renaming plain_set_update_loop→Ru,entry_set_update_loop→SR
open PyProof.Rows.IntsAre renaming length→Tp
open PySem renaming wpAny_bind→Oz,Value→OD,sizeLine→OE,Addr→OF,Shared→OG,wpAny_pure→OL,mainGlobals→OV,wpAny→OX,sizeLine_eq→Po,wpAny_loadPart'→Pz,Program→PL,FuncData→PN,wpAny_holding→PQ,World→PR,bootBuiltins→PZ,starEach→P0,Str→P2,Around→P8,Heap→Qb,Expr→Qg,codeAny_builtin→Qk,cellsFrom→Qo,wpAny_call_entry→Qp,Paired→Qv,wpAny_mono→Qw,wpAny_newObj_type→Qy,mem_of_lookup→QG,plainId_quiet→QL,Builtin→QP,wpAny_callSpecial?_slot→QT,rawInt→QU,assignEach→QV,wpAny_setState_of→Q1,Obj→Q5,wpAny_Call_Name_kw→Q6,wpAny_truthy_bool→Rh,foldedSetIterable→Ri,sysModules→Rl,wpAny_ite_split→Rp,sliceBounds→Rx,compareOp→Rz,Stmt→RE,wpAny_passesOwn→RG,wpAny_setEntries_of→RQ,recursionLimit→RS,wpAny_askSetting→RX,pyNext→R6,codeAny_mono→R7,Scope→Sb,wpAny_updateSeq→Se,wpAny_attempt→Sg,builtinLookup_eq_fast→Sh,wpAny_pyIter_list→Sm,compEnvC→Sx,SetTable→SA,wpAny_setField→SD,wpAny_newList→SX,wpAny_specialOf→S4,closureFor→S9,wpAny_rule→Ta,codeAny→Ti,wpAny_seqItems→Ts,wpAny_nextOf_list_item→Tt,cLine→Tw,backTo→TC,wpAny_isInstance→TL,behindInMarks→TM,wpAny_standAt→TN,binaryOp→TR,ZipApart→TU,wpAny_field→TZ,wpAny_execs_nil→T7,letOwnedTupleGo→T8,typeLookup_type→Ud,Arguments→Uq,scanBound→Us,pickOrder→Ut,builtinsNs→Uu,bindArgs→Ux,tupleKind_room_in1→Uz,argsOk→UC,wpAny_fieldsOf→UE,firstArgMember→UG,Pos→UM,slot_list_getitem→US,wpAny_pyIter_slot→UW,wpAny_getItem_list_slice→U1,wpAny_comprehension_free→U2,IsPair→U3,TriplesOk→U5,codeAmong→U6,swapsWith→U7,NameKind→U8,pushCells→Vb,updateSeq→Vd,hashInt→Vf,intKind→Vg,wpAny_pyNext_list_item→Vi,seqIndex_neg→Vk,wpAny_getItem_list_neg→Vm,call_meets→Vn,intKind_is→Vs,sliceRange→Vt,pushCells_keeps→VF,wpAny_isTrue_Compare1→VJ,wpAny_pyNext_list_end→VM,wpAny_nextOf_list_end→VS,wpAny_loadName_local→VV,IntMulOk→VW,Result→VY,seqIndex_of→V1,subscripted→V2,newFunctionEnv→V4,wpAny_newTuple→V6,relayAll→Wb,wpAny_runValue→Wc,isSubtype_type→Wd,isSubtype_stop→We,wpAny_pyIter_revIter→Wh,tupleKind→Wj,getItem→Wl,BindsTo→Wn,Keyword→Wo,valueAt→Wq,wpAny_loadName_cell→Wt,attributeBase→WH,nums_intItems→WI,typeLookup→WN,checkCount→WU,setsByText→WX,wpAny_load→WY,Drawn→W4,callerA→Xg,setNext→Xl,wpAny_typeOf→Xm,pyIter→Xt,slicePick→Xw,keywordEach→XJ,atKey→XM,wpAny_of_eq→XO,Env→XQ,GenState→X1,wpAny_Name→X2,Operator→X3,wpAny_call→X4,bindL→X5,bindC→X6,typeIs_int→X7,numAt_eq→X9,getD_mem→Ya,newTuple→Yg,Tok→Yq,Fin→Yr,Within→Yu
open PySem.Around renaming under_plainId→PX,frames_deeper→VZ
open PySem.AutoSeq1 renaming sub_list_list→Vr
open PySem.Builtin.Frozenset renaming updateFrom→XX,newClass→Yf,sizeOf→Ym,slot0→Yt
open PySem.Builtin.Int renaming intBits→QH
open PySem.Builtin.List renaming listExtendWith→Qa,listTooLong→RM,listSameRef→RO,listLengthHint→So,listItems→Vu
open PySem.Builtin.SmallTypes renaming ownedTupleIsFree→QM,nextOf→RF
open PySem.Calls renaming call_function_entry→SK,Name_function_global→Uv,spliced_cons→Uw,spliced_nil→UR
open PySem.Data renaming seq→Vc,cell→Wm,fields→XH
open PySem.F renaming plainAttrs_list→Qq,called_set→QQ,slot_list_append→Rb,type_list_append→Rc,plain_list_iadd→RY,plain_extend_loop→SU,slot_list_extend→SY,type_list_extend→S0,slot_zip_next→S6,plain_proto_collect→Uk,plain_extend_loop→UN,plain_set_new→VQ,slot_set_iter→VR,entry_extend_loop→Wz,args_zip_next_1→Xo,entry_zip_next→XE
open PySem.Heap renaming get?_push_of_some→OC,lt_size→OO,get?_push_size→OU,get?_update_other→PJ,get?_update_self→P1,size_update→RB,size_push→RC,get?_none_of_le→RH,SameBut→RI,ExtBut→V3,get?_push_ne→Xf
open PySem.Heap.IsSliceOf renaming new→WQ
open PySem.Heap.SameBut renaming update→Q3,refl→Xa
open PySem.NameKind renaming cell→WK,free→Yj
open PySem.Obj renaming mapSeq→Pw,data_mapFields→QR,isFreed_of_fields→Si,cls_mapFields→UX,putSet→Ye
open PySem.P renaming truthy_int→WM
open PySem.Paired renaming length→QB,snoc→YB
open PySem.PassesOwn renaming never→PM
open PySem.SeqAt renaming EqAt→Sv,RcNeAt→Yw
open PySem.SeqAt.EqAt renaming int_int→UA,same→VE,of_refs→WS
open PySem.SeqAt.RcAt renaming lists_lengths→SV
open PySem.SeqAt.RcNeAt renaming lists_lengths→Uy
open PySem.SetTable renaming below→Qf,grown→RW,insertAt→UU,orStandIn→WW,advance→XD,slot→Yl
open PySem.SetTable.below renaming go→Tq
open PySem.SetTable.probe renaming go→Xj
open PySem.Str renaming ofString→SI
open PySem.Value renaming ref→Pf,none→Qi,type→QE,bool→WL,int→Xq,str→Xr,isStrOf→Yi
open PySem.W renaming Frag→OA,kia_one→QC,mg_none_of→QI,findIn→QX,katRev→Q0,codeIn→Q7,keepIn→Q8,mg_of→Rg,nsIn→Rq,keepIn→Sr,kitOne→Ss,kla_fn→Sz,fnOf→SH,specialIn→Th,cellsFrom_some→Tj,codeHdIn→TK,kas_ask→Uc,methodObj→UP,mroIn→UY,instObj→VA,takesIn→VB,kat_nil→VG,kat_keys_mono→VO,lookIn→VX,codeIn→V0,tabObj→Wa,kas_rev→Ws,codeHd_of_K→Ww,hasDictIn→W6,kitx_list→W7,kitx_dict→W8,plainGet→Xu,makesIn→XR,kat_len→XT,OpenLaw→XW,WalkO→Yk,isFn→Yv,KatFin→Yx
open PySem.W.KasFin renaming intro→TX
open PySem.W.KatBack renaming intro→Yz
open PySem.W.KatFin renaming intro→V9
open PySem.W.KatKeys renaming cons→YD,nil→YE
open PySem.W.WData renaming weight→Uj,int→Ur,weightAll→VD,layableAll→Xx
open PySem.Walks renaming list→Yb
open PySem.WalksT renaming zip2→YC
open PySem.pickOrder renaming go→Yy
open Sum renaming inl→SG,inr→Wi
open Sum.inl renaming inj→VU
open True renaming intro→Su
namespace L2
open PySem PySem.Spec PyProof.Rows
abbrev Key:=Sum Int P2
def qP:Key→OD→Bool
 | .inl k,v=>Value.isInt k v
 | .inr x,v=>Yi x v
def Nr (w:PR):Key→Int
 | .inl k=>Vf k
 | .inr x=>hashStr w x
theorem cJ:∀ {k:Key} {v:OD},qP k v=true→(∃ i t,k=SG i∧v=Xq i t)∨(∃ x t,k=Wi x∧v=Xr x t)
 | .inl i,v,h=>by
  obtain ⟨t,e⟩:=Value.isInt_shape (k:=i) (v:=v) h
  exact .inl ⟨i,t,rfl,e⟩
 | .inr x,v,h=>by
  obtain ⟨t,e⟩:=Value.isStrOf_shape (x:=x) (v:=v) h
  exact .inr ⟨x,t,rfl,e⟩
theorem Dz (i:Int) (t:Yq):qP (.inl i) (.int i t)=true:=by simp [qP,Value.isInt]
theorem Dy (x:P2) (t:Yq):qP (.inr x) (.str x t)=true:=by simp [qP,Yi]
theorem K0 (a b:Int):decide ((SG a:Key)=SG b)=(a==b):=by
 by_cases e:a=b
 ·subst e; simp
 ·have h:¬ (SG a:Key)=SG b:=fun q=>e (VU q)
  rw [decide_eq_false h]
  exact (beq_eq_false_iff_ne.mpr e).symm
theorem KW (a b:P2):decide ((Wi a:Key)=Wi b)=decide (a=b):=by
 by_cases e:a=b
 ·subst e; simp
 ·have h:¬ (Wi a:Key)=Wi b:=fun q=>e (Sum.inr.inj q)
  rw [decide_eq_false h,decide_eq_false e]
theorem KZ (a:Int) (b:P2):decide ((SG a:Key)=Wi b)=false:=decide_eq_false (fun q=>nomatch q)
theorem KY (a:P2) (b:Int):decide ((Wi a:Key)=SG b)=false:=decide_eq_false (fun q=>nomatch q)
def cY (prog:PL) (w:PR):PySem.KeyKind prog w Key where
 is:=qP
 hash:=Nr w
 inj:=fun v a b ha hb=>by
  rcases cJ ha with ⟨i,t,rfl,rfl⟩ | ⟨x,t,rfl,rfl⟩
  ·rcases cJ hb with ⟨j,u,rfl,e⟩ | ⟨y,u,rfl,e⟩
   ·injection e with e1 _; rw [e1]
   ·exact nomatch e
  ·rcases cJ hb with ⟨j,u,rfl,e⟩ | ⟨y,u,rfl,e⟩
   ·exact nomatch e
   ·injection e with e1 _; rw [e1]
 byValue:=fun k v h=>by
  rcases cJ h with ⟨i,t,rfl,rfl⟩ | ⟨x,t,rfl,rfl⟩ <;> rfl
 pyHash:=fun hv h=>by
  rcases cJ hv with ⟨i,t,rfl,rfl⟩ | ⟨x,t,rfl,rfl⟩
  ·exact wpAny_pyHash_int h
  ·exact wpAny_pyHash_str h
 eqBool:=fun hu hv h=>by
  rcases cJ hu with ⟨i,t,rfl,rfl⟩ | ⟨x,t,rfl,rfl⟩
  ·rcases cJ hv with ⟨j,u,rfl,rfl⟩ | ⟨y,u,rfl,rfl⟩
   ·rw [K0] at h; exact wpAny_eqBool_int h
   ·rw [KZ] at h; exact SeqAt.EqAt.int_str i t y u _ _ _ _ h
  ·rcases cJ hv with ⟨j,u,rfl,rfl⟩ | ⟨y,u,rfl,rfl⟩
   ·rw [KY] at h; exact SeqAt.EqAt.str_int x t j u _ _ _ _ h
   ·rw [KW] at h; exact wpAny_eqBool_str h
 «strs»:=fun k x t v h=>by
  rcases cJ h with ⟨i,u,rfl,e⟩ | ⟨y,u,rfl,e⟩
  ·exact nomatch e
  ·injection e with e1 _
   subst e1
   cases v <;> rfl
theorem yz (prog:PL) (w:PR) (i:Int) (t:Yq):(cY prog w).is (.inl i) (.int i t)=true:=Dz i t
theorem yy (prog:PL) (w:PR) (x:P2) (t:Yq):(cY prog w).is (.inr x) (.str x t)=true:=Dy x t
inductive V where
 | non | bl (b:Bool) | int (i:Int) | str (x:P2) | byt (b:Array UInt8) | flt (b:UInt64) | ref (a:OF) | ty (n:String)
 deriving DecidableEq
def RelV:V→OD→Prop
 | .non,u=>u=Qi
 | .bl b,u=>u=WL b
 | .int i,u=>∃ t,u=Xq i t
 | .str x,u=>∃ t,u=Xr x t
 | .byt b,u=>∃ t,u=Value.bytes b t
 | .flt b,u=>∃ t,u=Value.float b t
 | .ref a,u=>u=Pf a
 | .ty n,u=>u=QE n
abbrev Vals:List V→List OD→Prop:=Qv RelV
theorem Vals.length {xs:List V} {us:List OD} (r:Vals xs us):xs.length=us.length:=QB r
theorem Vals.get:∀ {xs:List V} {us:List OD} {i:Nat} {x:V},Vals xs us→xs[i]?=some x→∃ u,us[i]?=some u∧RelV x u
 | _,_,_,_,.nil,e=>by simp at e
 | _,_,0,_,.cons r _,e=>by simp at e; subst e; exact ⟨_,rfl,r⟩
 | _,_,i+1,x,.cons _ t,e=>by
  obtain ⟨u,h1,h2⟩:=Vals.get (i:=i) (x:=x) t ‹56›
  exact ⟨u,by simpa using h1,h2⟩
theorem Vals.set {x:V} {u:OD} (r:RelV x u):∀ {xs:List V} {us:List OD} (i:Nat),Vals xs us→Vals (xs.set i x) (us.set i u)
 | _,_,_,.nil=>.nil
 | _,_,0,.cons _ t=>.cons r t
 | _,_,i+1,.cons q t=>.cons q (Vals.set r i t)
theorem Vals.append:∀ {xs ys:List V} {us ws:List OD},Vals xs us→Vals ys ws→Vals (xs++ys) (us++ws)
 | _,_,_,_,.nil,s=>s
 | _,_,_,_,.cons r t,s=>.cons r (Vals.append t s)
theorem Vals.take:∀ {xs:List V} {us:List OD} (n:Nat),Vals xs us→Vals (xs.take n) (us.take n)
 | _,_,0,_=>.nil
 | _,_,_+1,.nil=>.nil
 | _,_,n+1,.cons r t=>.cons r (Vals.take n t)
theorem Vals.drop:∀ {xs:List V} {us:List OD} (n:Nat),Vals xs us→Vals (xs.drop n) (us.drop n)
 | _,_,0,r=>r
 | _,_,_+1,.nil=>.nil
 | _,_,n+1,.cons _ t=>Vals.drop n t
def uc:Option V→Option OD→Prop
 | some v,some u=>RelV v u
 | none,none=>True
 | _,_=>False
def KV {κ:Type}:List (κ×V)→List (κ×OD)→Prop:=Qv fun (p:κ×V) (q:κ×OD)=>p.1=q.1∧RelV p.2 q.2
def kV:Key→V
 | .inl i=>.int i
 | .inr x=>.str x
inductive HO where
 | lst (xs:List V)
 | tup (xs:List V)
 | dK (kvs:List (Key×V)) | dT (kvs:List (List Key×V))
 | set (S:Int→Bool) (n:Nat)
 | ins (C dx:OF) (fs:List (P2×V))
 | own (x:OF)
 | xd (fs:List (P2×V))
 | met (f x:OF)
 | rng (lo hi:Int)
 | jS (o:Q5) (u:HO)
 | tbl (ps:Array OD)
 | ext (φ:Qb→Prop)
abbrev Hp:=OF→Option HO
def upd (H:Hp) (a:OF) (o:HO):Hp:=fun b=>if b=a then some o else H b
variable {H:Hp} {a:OF}
theorem aF {o:HO}:upd H a o a=some o:=by unfold upd; rw [if_pos rfl]
theorem upd_ne {b:OF} {o:HO} (h:b≠a):upd H a o b=H b:=by unfold upd; rw [if_neg h]
theorem Mr {b:OF} {o u:HO} (h:H a=some o) (h':H b=some u) (d:o≠u):a≠b:=by
 intro e; subst e; rw [h] at h'; exact d (Pm h')
theorem br {b:OF} {o:HO} (h:H a=some o) (h':H b=none):a≠b:=by
 intro e; subst e; rw [h] at h'; cases h'
section
variable (P:PL) (w:PR)
def cu (H:Hp) (h:Qb) (a:OF):HO→Prop
 | .lst xs=>xs.length≤OE∧∃ (its:List OD) (n:Nat),Vals xs its∧h.get? a=some { cls:=.type "list", data:=.seq its.toArray n }
 | .tup xs=>xs.length≤OE∧∃ its:List OD,Vals xs its∧IsTup h a its.toArray
 | .dK kvs=>kvs.length≤OE∧(a==Rl)=false∧∃ vs,KV kvs vs∧h.DictOf (cY P w) a vs
 | .dT kvs=>kvs.length≤OE∧(a==Rl)=false∧∃ xs:List (List Key×OF×OD),
  Qv (fun (p:List Key×V) (q:List Key×OF×OD)=>p.1=q.1∧H q.2.1=some (.tup (p.1.map kV))∧RelV p.2 q.2.2) kvs xs ∧
  ∃ o es ep,h.get? a=some o∧o.ExactDict∧o.data=.dict es ep∧es.toList=xs.map (entryOfKey (Wj (cY P w)))∧(xs.map (·.1)).Nodup
 | .set S n=>h.SetOf (Vg P w) a S n
 | .ins C dx fs=>H dx=some (.own a)∧fs.length≤1000∧dx≠a∧h.get? a=some (VA C dx) ∧
  ∃ mA,h.Ns1 dx mA∧(∀ f,uc (fs.lookup f) (mA f))∧Yu mA (fs.map (·.1))
 | .own _=>∃ o,h.get? a=some o
 | .xd fs=>∃ mA,h.Ns1 a mA∧∀ f,uc (fs.lookup f) (mA f)
 | .rng lo hi=>∃ t u v,h.get? a=some { cls:=.type "range", data:=.fields #[.int lo t,.int hi u,.int 1 v] }
 | .jS o u=>h.get? a=some o∧cu H h a u
 | .tbl ps=>∃ (q:P2) (t:Yq) (qs:Array OD),ps[0]?=some (.str q t)∧h.get? a=some { cls:=.none,data:=.fields qs }∧U5 qs.toList ∧
  ∀ pos v,U6 pos qs.toList=some v→∃ c o u vs t,v=.ref c∧H c=some (.jS o u)∧o.data=.fields vs∧vs[1]?=some (.str q t)
 | .met f x=>h.get? a=some (UP (.ref f) (.ref x))
 | .ext φ=>φ h∧(∃ o,h.get? a=some o)∧∀ h1 h2:Qb,φ h1→(∀ o,h1.get? a=some o→h2.get? a=some o)→φ h2
def jr (H:Hp) (h:Qb):Prop:=∀ a o,H a=some o→cu P w H h a o
end
section
variable {P:PL} {w:PR} {H H':Hp} {h h':Qb} {a:OF} {o:HO}
theorem cu.lt (x:cu P w H h a o):a<h.objs.size:=by
 cases o with
 | lst xs=>obtain ⟨_,_,_,_,e⟩:=x; exact OO e
 | tup xs=>obtain ⟨_,_,_,p⟩:=x; exact p.lt
 | dK kvs=>obtain ⟨_,_,_,_,o,_,_,e,_⟩:=x; exact OO e
 | dT kvs=>obtain ⟨_,_,_,_,o,_,_,e,_⟩:=x; exact OO e
 | set S n=>obtain ⟨o,_,_,_,e,_⟩:=x; exact OO e
 | ins C dx fs=>obtain ⟨_,_,_,e,_⟩:=x; exact OO e
 | own y=>obtain ⟨_,e⟩:=x; exact OO e
 | xd fs=>obtain ⟨_,⟨_,_,_,e,_⟩,_⟩:=x; exact OO e
 | rng lo hi=>obtain ⟨_,_,_,e⟩:=x; exact OO e
 | jS ob u=>obtain ⟨e,_⟩:=x; exact OO e
 | tbl ps=>obtain ⟨_,_,_,_,e,_⟩:=x; exact OO e
 | met f y=>exact OO (show h.get? a=some _ from x)
 | ext φ=>obtain ⟨_,⟨_,e⟩,_⟩:=x; exact OO e
theorem Paired.KD {α β:Type} {F G:α→β→Prop}:∀ {l₁:List α} {l₂:List β},Qv F l₁ l₂→(∀ a b,F a b→G a b)→Qv G l₁ l₂
 | _,_,.nil,_=>.nil
 | _,_,.cons r t,f=>.cons (f _ _ r) (Paired.KD t f)
theorem cu.nc (x:cu P w H h a o) (k:∀ b u,(b=a∨H b=some (.own a))→h.get? b=some u→h'.get? b=some u)
 (ho:∀ b,H b=some (.own a)→H' b=some (.own a)) (ht:∀ b xs,H b=some (.tup xs)→H' b=some (.tup xs)) (hz:∀ b o u,H b=some (.jS o u)→H' b=some (.jS o u):=by first | exact fun _ _ _ q=>q | (intro b o u q; rw [upd_ne (br q (by assumption))]; exact q)):cu P w H' h' a o:=by
 induction o with
 | lst xs=>obtain ⟨z,its,n,r,e⟩:=x; exact ⟨z,its,n,r,k _ _ (.inl rfl) e⟩
 | tup xs=>obtain ⟨z,its,r,ob,e,c⟩:=x; exact ⟨z,its,r,ob,k _ _ (.inl rfl) e,c⟩
 | dK kvs=>obtain ⟨z,y,vs,r,ob,es,ep,e,c⟩:=x; exact ⟨z,y,vs,r,ob,es,ep,k _ _ (.inl rfl) e,c⟩
 | dT kvs =>
  obtain ⟨z,y,xs,r,ob,es,ep,e,c⟩:=x
  exact ⟨z,y,xs,Paired.KD r fun p q z=>⟨z.1,ht _ _ z.2.1,z.2.2⟩,ob,es,ep,k _ _ (.inl rfl) e,c⟩
 | set S n=>obtain ⟨ob,es,ep,t,e,c⟩:=x; exact ⟨ob,es,ep,t,k _ _ (.inl rfl) e,c⟩
 | ins C dx fs =>
  obtain ⟨d,z,ne,e,mA,⟨od,es,ep,e2,c⟩,r⟩:=x
  exact ⟨ho _ d,z,ne,k _ _ (.inl rfl) e,mA,⟨od,es,ep,k _ _ (.inr d) e2,c⟩,r⟩
 | own y=>obtain ⟨ob,e⟩:=x; exact ⟨ob,k _ _ (.inl rfl) e⟩
 | xd fs=>obtain ⟨mA,⟨od,es,ep,e,c⟩,r⟩:=x; exact ⟨mA,⟨od,es,ep,k _ _ (.inl rfl) e,c⟩,r⟩
 | rng lo hi=>obtain ⟨t,u,v,e⟩:=x; exact ⟨t,u,v,k _ _ (.inl rfl) e⟩
 | jS ob u ih=>obtain ⟨e,q⟩:=x; exact ⟨k _ _ (.inl rfl) e,ih q⟩
 | tbl ps =>
  obtain ⟨q,t,qs,h0,h1,h2,h3⟩:=x
  refine ⟨q,t,qs,h0,k _ _ (.inl rfl) h1,h2,fun pos v e=>?_⟩
  obtain ⟨c,o,u,vs,t2,e1,e2,e3⟩:=h3 pos v e
  exact ⟨c,o,u,vs,t2,e1,hz _ _ _ e2,e3⟩
 | met f y =>
  have e:h.get? a=some (UP (.ref f) (.ref y)):=x
  show h'.get? a=some (UP (.ref f) (.ref y))
  exact k a _ (.inl rfl) e
 | ext φ=>obtain ⟨p,⟨o,e⟩,st⟩:=x; exact ⟨st _ _ p fun o q=>k _ _ (.inl rfl) q,⟨o,k _ _ (.inl rfl) e⟩,st⟩
theorem jr.lt (x:jr P w H h) (e:H a=some o):a<h.objs.size:=(x a o e).lt
theorem jr.fresh (x:jr P w H h) (e:h.objs.size≤a):H a=none:=by
 cases q:H a with
 | none=>rfl
 | some u=>exact absurd (OZ (x.lt q) e) (PB _)
theorem jr.kept (x:jr P w H h) (k:∀ b u,h.get? b=some u→h'.get? b=some u):jr P w H h':=fun a o e =>
 (x a o e).nc (fun b u _ q=>k b u q) (fun _ q=>q) fun _ _ q=>q
theorem jr.laid (x:jr P w H h) (k:∀ b u,h.get? b=some u→h'.get? b=some u) (hp:h.objs.size≤a) (new:cu P w (upd H a o) h' a o):jr P w (upd H a o) h':=fun b u e=>by
 have hn:=x.fresh hp
 by_cases hb:b=a
 ·subst hb; rw [aF] at e; cases e; exact new
 ·rw [upd_ne hb] at e
  exact (x b u e).nc (fun c v _ q=>k c v q) (fun c q=>by rw [upd_ne (br q hn)]; exact q) fun c xs q=>by rw [upd_ne (br q hn)]; exact q
end
def Rd (H:Hp) (a:OF) (u:HO):Prop:=H a=some u∨∃ o,H a=some (.jS o u)
variable {P:PL} {h:Qb}
theorem Rd.ok {w:PR} {u:HO} (r:Rd H a u) (x:jr P w H h):cu P w H h a u:=by
 rcases r with r | ⟨o,r⟩
 ·exact x a u r
 ·obtain ⟨_,q⟩:=x a _ r
  exact q
def MN:Option HO→Prop
 | some (.lst _)=>True
 | some (.dK _)=>True
 | some (.dT _)=>True
 | some (.set _ _)=>True
 | some (.ins _ _ _)=>True
 | some (.ext _)=>True
 | _=>False
section
variable {P:PL} {w:PR} {H:Hp} {h h':Qb} {x e:OF} {o':HO}
theorem jr.write (ok:jr P w H h) (mu:MN (H x)) (he:e=x∨H e=some (.own x)) (k:∀ b u,b≠e→h.get? b=some u→h'.get? b=some u) (heo:∃ u,h'.get? e=some u)
 (new:cu P w (upd H x o') h' x o'):jr P w (upd H x o') h':=fun b u q=>by
 have nown:∀ c y,H c=some (.own y)→c≠x:=fun c y r z=>by subst z; rw [r] at mu; exact mu
 have ntup:∀ c xs,H c=some (.tup xs)→c≠x:=fun c xs r z=>by subst z; rw [r] at mu; exact mu
 have nfrz:∀ c o u,H c=some (.jS o u)→c≠x:=fun c o u r z=>by subst z; rw [r] at mu; exact mu
 by_cases hb:b=x
 ·subst hb; rw [aF] at q; cases q; exact new
 ·rw [upd_ne hb] at q
  by_cases hbe:b=e
  ·have q':H b=some (.own x):=by
    rcases he with z | z
    ·exact absurd (hbe.trans z) hb
    ·rw [hbe]; exact z
   rw [q] at q'; cases q'
   obtain ⟨v,hv⟩:=heo
   exact ⟨v,by rw [hbe]; exact hv⟩
  ·refine (ok b u q).nc (fun c v hc r=>k c v ?_ r) (fun c r=>by rw [upd_ne (nown c b r)]; exact r) (fun c xs r=>by rw [upd_ne (ntup c xs r)]; exact r) fun c o u r=>by rw [upd_ne (nfrz c o u r)]; exact r
   rcases hc with rfl | hc
   ·exact hbe
   ·rintro rfl
    rcases he with z | z
    ·exact nown c b hc z
    ·rw [hc] at z; cases z; exact hb rfl
end
structure Un (fs ex:List OF) (H H':Hp) (h h':Qb):Prop where
 keep:∀ b o,h.get? b=some o→H b=none→b∉fs→b∉ex→h'.get? b=some o
 slot:∀ b o,h.get? b=some o→H b=none→b∈fs→b∉ex→∃ sl,h'.get? b=some { o with slots:=sl }
 free:∀ b o,h.get? b=some o→H b=none→b∉ex→H' b=none
 there:∀ b o,h.get? b=some o→b∉ex→∃ o',h'.get? b=some o'
 uj:∀ b xs,H b=some (.tup xs)→H' b=some (.tup xs)
 tj:∀ b o u,H b=some (.jS o u)→H' b=some (.jS o u)
 se:∀ b ps,H b=some (.tbl ps)→∃ more,H' b=some (.tbl (ps++more))
section
variable {fs fs' ex ex':List OF} {H H1 H2:Hp} {h h1 h2 h':Qb} {a x e:OF} {o:HO}
theorem Un.any (u:Un fs ex H H1 h h1) {b:OF} {ob:Q5} (q:h.get? b=some ob) (n:H b=none) (hx:b∉ex):∃ sl,h1.get? b=some { ob with slots:=sl }:=by
 by_cases hb:b∈fs
 ·exact u.slot b ob q n hb hx
 ·exact ⟨ob.slots,u.keep b ob q n hb hx⟩
theorem Un.kept (k:∀ b u,h.get? b=some u→h'.get? b=some u):Un fs ex H H h h' :=
 ⟨fun b ob q _ _ _=>k b ob q,fun b ob q _ _ _=>⟨ob.slots,k b ob q⟩,fun _ _ _ n _=>n,fun b ob q _=>⟨ob,k b ob q⟩,fun _ _ q=>q,fun _ _ _ q=>q,fun _ ps q=>⟨#[],by rw [q]; simp⟩⟩
theorem Un.refl:Un fs ex H H h h:=Un.kept fun _ _ q=>q
theorem Un.laid (k:∀ b u,h.get? b=some u→h'.get? b=some u) (hp:h.objs.size≤a) (hn:H a=none):Un fs ex H (upd H a o) h h' where
 keep:=fun b u q _ _ _=>k b u q
 slot:=fun b u q _ _ _=>⟨u.slots,k b u q⟩
 free:=fun b u q n _=>by rw [upd_ne (OS (OZ (OO q) hp))]; exact n
 there:=fun b u q _=>⟨u,k b u q⟩
 uj:=fun b xs q=>by rw [upd_ne (br q hn)]; exact q
 tj:=fun b u xs q=>by rw [upd_ne (br q hn)]; exact q
 se:=fun b ps q=>⟨#[],by rw [upd_ne (br q hn),q]; simp⟩
theorem Un.write (mu:MN (H x)) (he:e=x∨H e=some (.own x)) (k:∀ b u,b≠e→h.get? b=some u→h'.get? b=some u) (heo:∃ u,h'.get? e=some u):Un fs ex H (upd H x o) h h':=by
 have hx:∀ b,H b=none→b≠x:=fun b n z=>by subst z; rw [n] at mu; exact mu
 have hb:∀ b,H b=none→b≠e:=fun b n z=>by
  subst z
  rcases he with r | r
  ·exact hx b n r
  ·rw [n] at r; cases r
 have hm:∀ b u,H b=some u→¬ MN (some u)→b≠x:=fun b u q nm z=>by subst z; rw [q] at mu; exact nm mu
 refine ⟨fun b u q n _ _=>k b u (hb b n) q,fun b u q n _ _=>⟨u.slots,k b u (hb b n) q⟩,fun b u q n _=>by rw [upd_ne (hx b n)]; exact n,fun b u q _=>?_,
  fun b xs q=>by rw [upd_ne (hm b _ q fun z=>z)]; exact q,fun b u xs q=>by rw [upd_ne (hm b _ q fun z=>z)]; exact q,fun b ps q=>⟨#[],by rw [upd_ne (hm b _ q fun z=>z),q]; simp⟩⟩
 by_cases hbe:b=e
 ·subst hbe; exact heo
 ·exact ⟨u,k b u hbe q⟩
end
def MS (h:Qb) (H:Hp):List OF:=(O0 h.objs.size).filter fun a=>(H a).isSome
def uL (h:Qb) (H:Hp):Qb:=PySem.W.hideAll h (MS h H)
theorem DK (h:Qb) (H:Hp):(uL h H).objs.size=h.objs.size:=PySem.W.hideAll_size _ _
variable {o:Q5}
theorem Gs {b:OF} (e:h.get? b=some o) (n:H b=none):(uL h H).get? b=some o :=
 PySem.W.hideAll_get _ e fun hm=>by
  have q:(H b).isSome=true:=(P5.mp hm).2
  rw [n] at q; simp at q
theorem Ig {b:OF} (e:(uL h H).get? b=some o):h.get? b=some o∧H b=none:=by
 have e':h.get? b=some o:=PySem.W.of_hideAll (MS h H) e
 refine ⟨e',?_⟩
 cases q:H b with
 | none=>rfl
 | some x =>
  have hm:b∈MS h H:=P5.mpr ⟨O8.mpr (OO e'),by simp [q]⟩
  have z:(uL h H).get? b=none:=PySem.W.hideAll_none (MS h H) hm
  rw [z] at e; cases e
def gh (g h:Qb) (L:OF):List (OF×Q5):=(O0 h.objs.size).filterMap fun a=>if a=L∨(g.get? a).isSome=true then none else (h.get? a).map fun o=>(a,o)
variable {L:OF}
theorem cS {g:Qb} (h1:a≠L) (h2:g.get? a=none) (h3:h.get? a=some o):(a,o)∈gh g h L :=
 S8.mpr ⟨a,O8.mpr (OO h3),by simp [h1,h2,h3]⟩
variable {p:OF×Q5}
theorem sS {g:Qb} (hp:p∈gh g h L):p.1≠L∧g.get? p.1=none∧h.get? p.1=some p.2:=by
 obtain ⟨b,_,e⟩:=S8.mp hp
 split at e
 ·cases e
 ·rename_i hn
  cases q:h.get? b with
  | none=>rw [q] at e; simp at e
  | some u =>
   rw [q] at e
   simp only [Rn,Option.some.injEq] at e
   subst e
   refine ⟨fun z=>hn (.inl z),?_,q⟩
   show g.get? b=none
   cases r:g.get? b with
   | none=>rfl
   | some v=>exact (hn (.inr (by simp [r]))).elim
def rest (g h:Qb) (L d:OF):List (OF×Q5):=(gh g h L).filter fun p=>decide (p.1≠d)
theorem rD {g:Qb} {d:OF}:∀ p∈rest g h L d,p.1≠d:=fun p hp=>of_decide_eq_true (P5.mp hp).2
theorem oK {g:Qb}:Xs g L h (gh g h L):=fun p hp=>let ⟨a,b,c⟩:=sS hp; ⟨c,a,b⟩
theorem oJ {g:Qb} {d:OF} (h1:d≠L) (h2:g.get? d=none) (h3:h.get? d=some o):Xs g L h ((d,o)::rest g h L d):=fun p hp=>by
 show 19
 ·exact ⟨h3,h1,h2⟩
 ·exact oK p (P5.mp hp).1
structure Mod (K:OA) (mg:P2→Option OD) (base:Qb):Prop where
 MY:K.In base
 glob:base.Ns OV mg
 blt:∃ mb,base.Ns Uu mb∧∀ x:P2,x ≠ "__name__" → mb x=PZ x
 nolimit:base.NoLimit
structure Cx where
 prog:PL
 w:PR
 K:OA
 mg:P2→Option OD
 base:Qb
 A:P8
 N:List P2
 s₀:OG
 H₀:Hp
 env:XQ
 outer:List XQ
 stack:List XQ
 ex:List OF
 fn:P2→Bool
 calm:Bool
 pn:List (OF×Q5)
 xe:OD→OG→Prop
def Ef (l:List XQ):List OF:=l.filterMap (·.frame)
abbrev Cx.fs (X:Cx):List OF:=Ef X.outer
def Lw (sc:Sb) (x:P2):Prop:=sc.names.lookup x=some .local∨sc.names.lookup x=some .cell∨sc.names.lookup x=some .free
def Loc (sc:Sb) (x:P2):Prop:=sc.names.lookup x=some .local∨sc.names.lookup x=some .cell
def Look (env:XQ) (h:Qb) (m:P2→Option OD) (x:P2) (u:OD):Prop :=
 (env.kindOf x=some .local∧m x=some u)∨((env.kindOf x=some .cell∨env.kindOf x=some .free)∧∃ c,env.cells.lookup x=some c∧h.IsCell c (some u))
structure Cx.Ok (X:Cx):Prop where
 mod:Mod X.K X.mg X.base
 kind:X.env.scope.kind=.function
 glob:X.env.globals=OV
 blt:X.env.builtins=Uu
 above:‹24›≤‹27›
 inj:∀ x y c,X.env.cells.lookup x=some c→X.env.cells.lookup y=some c→x=y
 has:∀ x,(X.env.kindOf x=some .cell∨X.env.kindOf x=some .free)→∃ c,X.env.cells.lookup x=some c
 cab:∀ x c,X.fn x=true→X.env.cells.lookup x=some c→‹24›≤c
 hd:X.calm=true→X.A.handled=none
 frames:X.A.frames=some X.stack
 Jq:X.stack=X.outer∨(X.stack=X.env::X.outer∧X.env.frame=some ‹27›)
 exf:∀ b∈X.ex,b≠‹27›∧∀ x c,X.env.cells.lookup x=some c→c≠b
 bs:∀ b o,X.base.get? b=some o→X.s₀.heap.get? b=some o∧X.H₀ b=none
 Cw:X.base.objs.size≤‹24›
 noex:∀ b o,X.base.get? b=some o→b∉X.ex
 Gz:∀ b∈X.ex,b∉X.fs
 p6:X.s₀.heap.FunFrames X.base X.outer
 LK:∀ b∈X.fs,X.H₀ b=none
variable {ch:List OF} {t':Nat} {it:OF} {x:P2} {M:Model} {A:P8} {E:OD→OG→Prop} {u:OD} {Q:Unit→OG→Prop}
structure Inv (X:Cx) (pins:List (OF×Q5)) (σ:List (Option V)) (H:Hp) (s:OG):Prop where
 ok:X.Ok
 os:s.os=X.s₀.os
 bare:Vh s.gens
 base:Un X.fs X.ex X.H₀ H X.s₀.heap s.heap
 loc:∃ m,s.heap.Ns ‹27› m∧∀ (i:Nat) (x:P2) (v:V),X.N[i]?=some x→σ[i]?=some (some v)→Lw X.env.scope x→∃ u,RelV v u∧Look X.env s.heap m x u
 cell:∀ x c,X.env.cells.lookup x=some c→∃ v,s.heap.IsCell c v
 free:H ‹27›=none
 iY:∀ x c,X.env.cells.lookup x=some c→H c=none
 pin:∀ p∈X.pn++pins,s.heap.get? p.1=some p.2∧H p.1=none∧p.1≠‹27›∧p.1∉X.fs∧∀ v,p.2.data≠.cell v
 ck:jr X.prog X.w H s.heap
 len:σ.length=X.N.length
section
variable {X:Cx} {pins:List (OF×Q5)} {σ:List (Option V)} {H H':Hp} {s:OG} {h':Qb}
theorem Cx.Ok.Nn (ok:X.Ok) {b:OF} (e:X.base.get? b=some o):b∉X.fs:=fun hb=>by
 have:=(ok.p6.mem hb).1
 rw [e] at this; cases this
theorem Inv.bs (I:Inv X pins σ H s):∀ b o,X.base.get? b=some o→s.heap.get? b=some o∧H b=none:=fun b o e =>
 ⟨I.base.keep b o (I.ok.bs b o e).1 (I.ok.bs b o e).2 (I.ok.Nn e) (I.ok.noex b o e),I.base.free b o (I.ok.bs b o e).1 (I.ok.bs b o e).2 (I.ok.noex b o e)⟩
theorem Inv.bk (I:Inv X pins σ H s):∀ b o,X.base.get? b=some o→s.heap.get? b=some o:=fun b o e=>(I.bs b o e).1
theorem Inv.mod (I:Inv X pins σ H s):Mod X.K X.mg X.base:=I.ok.mod
theorem Inv.yH (I:Inv X pins σ H s):X.K.In s.heap:=I.ok.mod.MY.keeps I.bk
theorem Inv.nolimit (I:Inv X pins σ H s):s.heap.NoLimit:=I.ok.mod.nolimit.keeps I.bk
theorem Inv.fr (I:Inv X pins σ H s):∃ m,Fr X.base ‹27› s.heap m :=
 let ⟨m,hn,_⟩:=I.loc
 ⟨m,hn,I.bk,Pq I.ok.Cw I.ok.above⟩
theorem Inv.lt (I:Inv X pins σ H s):‹27›<s.heap.objs.size:=let ⟨_,hn,_⟩:=I.loc; hn.lt
theorem Inv.sz (I:Inv X pins σ H s):‹24›≤s.heap.objs.size:=Pq I.ok.above (QO I.lt)
theorem Inv.Nm (I:Inv X pins σ H s) (h:‹1›≤a):a∉X.fs:=fun hb=>by
 obtain ⟨_,o,ho,_⟩:=I.ok.p6.mem hb
 exact absurd (OZ (OO ho) (Pq I.sz h)) (PB _)
theorem Inv.Lm (I:Inv X pins σ H s):∀ x c,X.env.cells.lookup x=some c→c≠X.env.locals:=fun x c e z=>by
 obtain ⟨v,o,ho,hd⟩:=I.cell x c e
 obtain ⟨m,⟨o',es,ep,ho',hd',_⟩,_⟩:=I.loc
 rw [z,ho'] at ho; cases ho; rw [hd'] at hd; cases hd
theorem Inv.p6 (I:Inv X pins σ H s):s.heap.FunFrames X.base X.outer:=by
 have all:∀ (l:List XQ),(∀ b∈Ef l,b∈X.fs)→X.s₀.heap.FunFrames X.base l→s.heap.FunFrames X.base l:=by
  intro l
  induction l with
  | nil=>intro _ _; trivial
  | cons env r ih =>
   intro hs hl
   obtain ⟨hk,⟨L,o,hf,hn,ho,hd⟩,hr⟩:=hl
   have hL:L∈X.fs:=hs L (by unfold Ef; rw [QF,hf]; exact ON)
   obtain ⟨sl,e⟩:=I.base.slot L o ho (I.ok.LK L hL) hL fun z=>I.ok.Gz L z hL
   exact ⟨hk,⟨L,_,hf,hn,e,hd⟩,ih (fun b hb=>hs b (by unfold Ef; rw [QF,hf]; exact OI _ hb)) hr⟩
 exact all X.outer (fun _ hb=>hb) I.ok.p6
theorem Inv.stack (I:Inv X pins σ H s):s.heap.FunFrames X.base X.stack:=by
 rcases I.ok.Jq with e | ⟨e,hf⟩
 ·rw [e]; exact I.p6
 ·rw [e]
  obtain ⟨m,hn,_⟩:=I.loc
  refine .cons (by rw [I.ok.kind]; decide) hf hn ?_ I.p6
  exact RH (Pq I.ok.Cw I.ok.above)
theorem Inv.sh (I:Inv X pins σ H s):∀ b∈Ef X.stack,b∈X.env.locals::X.fs:=fun b hb=>by
 rcases I.ok.Jq with e | ⟨e,hf⟩
 ·rw [e] at hb; exact OI _ hb
 ·rw [e] at hb
  unfold Ef at hb
  rw [QF,hf] at hb
  exact hb
theorem Inv.wa (I:Inv X pins σ H s):∀ b∈Ef X.stack,H b=none:=fun b hb=>by
 rcases OP.mp (I.sh b hb) with e | hb
 ·rw [e]; exact I.free
 ·obtain ⟨_,o,ho,_⟩:=I.ok.p6.mem hb
  exact I.base.free b o ho (I.ok.LK b hb) fun z=>I.ok.Gz b z hb
theorem Inv.step {g':Array X1} {t':Nat} {d':W4} (I:Inv X pins σ H s)
 (hch:∀ b∈ch,(b∈X.ex∨‹24›≤b)∧b≠‹27›∧(∀ x c,X.env.cells.lookup x=some c→c≠b)∧∀ p∈X.pn++pins,p.1≠b)
 (keep:∀ b o,b≠‹27›→b∉X.fs→b∉ch→s.heap.get? b=some o→H b=none→h'.get? b=some o)
 (slot:∀ b o,b≠‹27›→b∈X.fs→b∉ch→s.heap.get? b=some o→H b=none→∃ sl,h'.get? b=some { o with slots:=sl }) (free:∀ b o,b∉ch→s.heap.get? b=some o→H b=none→H' b=none)
 (there:∀ b o,b∉ch→s.heap.get? b=some o→∃ o',h'.get? b=some o')
 (uj:∀ b xs,H b=some (.tup xs)→H' b=some (.tup xs)) (tj:∀ b o u,H b=some (.jS o u)→H' b=some (.jS o u)) (se:∀ b ps,H b=some (.tbl ps)→∃ more,H' b=some (.tbl (ps++more)))
 (ns:∀ m,s.heap.Ns ‹27› m→h'.Ns ‹27› m) (ck:jr X.prog X.w H' h') (hg:Vh g') :
 Inv X pins σ H' { s with heap:=h',gens:=g',drawn:=d',toks:=t' }:=by
 have neL:∀ b o,X.s₀.heap.get? b=some o→b≠X.env.locals:=fun b o e=>OS (OZ (OO e) I.ok.above)
 have neC:∀ b o,X.s₀.heap.get? b=some o→b∉X.ex→b∉ch:=fun b o e hx hb=>by
  rcases (hch b hb).1 with z | z
  ·exact hx z
  ·exact absurd (OZ (OO e) z) (PB _)
 have cellK:∀ x c,X.env.cells.lookup x=some c→∀ v,s.heap.IsCell c v→h'.IsCell c v:=fun x c e v ⟨o,ho,hd⟩=>by
  have nch:c∉ch:=fun z=>(hch c z).2.2.1 x c e rfl
  by_cases hc:c∈X.fs
  ·obtain ⟨sl,q⟩:=slot c o (I.Lm x c e) hc nch ho (I.iY x c e)
   exact ⟨_,q,hd⟩
  ·exact ⟨o,keep c o (I.Lm x c e) hc nch ho (I.iY x c e),hd⟩
 refine ⟨I.ok,I.os,hg,⟨fun b o e n hb hx=>?_,fun b o e n hb hx=>?_,fun b o e n hx=>?_,fun b o e hx=>?_,fun b xs e=>uj b xs (I.base.uj b xs e),fun b o xs e=>tj b o xs (I.base.tj b o xs e),fun b ps e=>?_⟩,?_,fun x c e=>?_,?_,fun x c e=>?_,fun p hp=>?_,ck,I.len⟩
 ·exact keep b o (neL b o e) hb (neC b o e hx) (I.base.keep b o e n hb hx) (I.base.free b o e n hx)
 ·obtain ⟨sl,e1⟩:=I.base.slot b o e n hb hx
  obtain ⟨sl',e2⟩:=slot b _ (neL b o e) hb (neC b o e hx) e1 (I.base.free b o e n hx)
  exact ⟨sl',e2⟩
 ·obtain ⟨o',e1⟩:=I.base.there b o e hx
  exact free b o' (neC b o e hx) e1 (I.base.free b o e n hx)
 ·obtain ⟨o',e1⟩:=I.base.there b o e hx
  exact there b o' (neC b o e hx) e1
 ·obtain ⟨m1,e1⟩:=I.base.se b ps e
  obtain ⟨m2,e2⟩:=se b _ e1
  exact ⟨m1++m2,by rw [e2,Array.append_assoc]⟩
 ·obtain ⟨m,hn,hl⟩:=I.loc
  refine ⟨m,ns m hn,fun i x v e1 e2 e3=>?_⟩
  obtain ⟨u,r,l⟩:=hl i x v e1 e2 e3
  refine ⟨u,r,?_⟩
  rcases l with l | ⟨k,c,e,z⟩
  ·exact .inl l
  ·exact .inr ⟨k,c,e,cellK x c e _ z⟩
 ·obtain ⟨v,z⟩:=I.cell x c e
  exact ⟨v,cellK x c e v z⟩
 ·obtain ⟨m,⟨o,_,_,ho,_⟩,_⟩:=I.loc
  exact free _ o (fun z=>(hch _ z).2.1 rfl) ho I.free
 ·obtain ⟨v,o,ho,hd⟩:=I.cell x c e
  exact free c o (fun z=>(hch c z).2.2.1 x c e rfl) ho (I.iY x c e)
 ·obtain ⟨e,n,ne,nf,d⟩:=I.pin p hp
  have nch:p.1∉ch:=fun z=>(hch p.1 z).2.2.2 p hp rfl
  exact ⟨keep p.1 p.2 ne nf nch e n,free p.1 p.2 nch e n,ne,nf,d⟩
theorem Inv.un (I:Inv X pins σ H s) (u:Un X.fs [] H H' s.heap h') (ck:jr X.prog X.w H' h'):Inv X pins σ H' { s with heap:=h',toks:=t' }:=by
 obtain ⟨m,⟨o,es,ep,ho,r⟩,_⟩:=id I.loc
 obtain ⟨sl,hL⟩:=u.any ho I.free (by simp)
 exact I.step (g':=s.gens) (d':=s.drawn) (ch:=[]) (fun _ z=>nomatch z) (fun b o _ hb _ e n=>u.keep b o e n hb (by simp)) (fun b o _ hb _ e n=>u.slot b o e n hb (by simp)) (fun b o _ e n=>u.free b o e n (by simp)) (fun b o _ e=>u.there b o e (by simp)) u.uj u.tj u.se (fun m' hm=>by
  obtain ⟨o',es',ep',ho',r'⟩:=hm
  rw [ho] at ho'; cases ho'
  exact ⟨_,es',ep',hL,r'⟩) ck I.bare
theorem Inv.call {g':Array X1} {d':W4} (I:Inv X pins σ H s) (u:Un (Ef X.stack) ch H H' s.heap h') (ck:jr X.prog X.w H' h') (hg:Vh g')
 (hch:∀ b∈ch,(b∈X.ex∨‹24›≤b)∧b≠‹27›∧(∀ x c,X.env.cells.lookup x=some c→c≠b)∧∀ p∈X.pn++pins,p.1≠b) :
 Inv X pins σ H' { s with heap:=h',gens:=g',drawn:=d',toks:=t' }:=by
 obtain ⟨m,⟨o,es,ep,ho,r⟩,_⟩:=id I.loc
 obtain ⟨sl,hL⟩:=u.any ho I.free fun z=>(hch _ z).2.1 rfl
 exact I.step (ch:=ch) hch (fun b o hL hb hc e n=>u.keep b o e n (fun z=>(OP.mp (I.sh b z)).elim hL hb) hc) (fun b o _ _ hc e n=>u.any e n hc) (fun b o hc e n=>u.free b o e n hc) (fun b o hc e=>u.there b o e hc) u.uj u.tj u.se (fun m' hm=>by
  obtain ⟨o',es',ep',ho',r'⟩:=hm
  rw [ho] at ho'; cases ho'
  exact ⟨_,es',ep',hL,r'⟩) ck hg
theorem Inv.turned (I:Inv X pins σ H s) (k:∀ b o,b≠it→s.heap.get? b=some o→h'.get? b=some o) (hn:H it=none) (hL:it≠‹27›)
 (h1:it∈X.ex∨‹24›≤it) (h2:∀ x c,X.env.cells.lookup x=some c→c≠it) (h3:∀ p∈X.pn++pins,p.1≠it):Inv X pins σ H { s with heap:=h',toks:=t' }:=by
 have nit:∀ b u,H b=some u→b≠it:=fun b u e z=>by rw [z,hn] at e; cases e
 refine I.step (g':=s.gens) (d':=s.drawn) (ch:=[it]) (fun b hb=>?_) (fun b o _ _ hc e _=>k b o (fun z=>hc (by simp [z])) e) (fun b o _ _ hc e _=>⟨o.slots,k b o (fun z=>hc (by simp [z])) e⟩) (fun _ _ _ _ n=>n)
  (fun b o hc e=>⟨o,k b o (fun z=>hc (by simp [z])) e⟩) (fun _ _ e=>e) (fun _ _ _ e=>e) (fun b ps e=>⟨#[],by rw [e]; simp⟩) (fun m hm=>?_) (fun b u e=>?_) I.bare
 ·have e:b=it:=by simpa using hb
  subst e
  exact ⟨h1,hL,h2,h3⟩
 ·obtain ⟨o,es,ep,ho,r⟩:=hm
  exact ⟨o,es,ep,k _ o (P9 hL) ho,r⟩
 ·refine (I.ck b u e).nc (fun c v hc q=>k c v ?_ q) (fun _ q=>q) fun _ _ q=>q
  rcases hc with z | z
  ·rw [z]; exact nit b u e
  ·exact nit c _ z
theorem Inv.tok (I:Inv X pins σ H s) (t:Nat):Inv X pins σ H { s with toks:=t }:=I.un (h':=s.heap) (t':=t) Un.refl I.ck
theorem Inv.kept {t':Nat} (I:Inv X pins σ H s) (k:∀ b u,s.heap.get? b=some u→h'.get? b=some u):Inv X pins σ H { s with heap:=h',toks:=t' }:=I.un (Un.kept k) (I.ck.kept k)
theorem Inv.laid {a:OF} {o:HO} {t':Nat} (I:Inv X pins σ H s) (k:∀ b u,s.heap.get? b=some u→h'.get? b=some u) (hp:‹1›≤a) (new:cu X.prog X.w (upd H a o) h' a o) :
 Inv X pins σ (upd H a o) { s with heap:=h',toks:=t' }:=I.un (Un.laid k hp (I.ck.fresh hp)) (I.ck.laid k hp new)
theorem Inv.write {x e:OF} {o:HO} {t':Nat} (I:Inv X pins σ H s) (mu:MN (H x)) (he:e=x∨H e=some (.own x)) (k:∀ b u,b≠e→s.heap.get? b=some u→h'.get? b=some u) (heo:∃ u,h'.get? e=some u)
 (new:cu X.prog X.w (upd H x o) h' x o):Inv X pins σ (upd H x o) { s with heap:=h',toks:=t' }:=I.un (Un.write mu he k heo) (I.ck.write mu he k heo new)
theorem Inv.weak {σ':List (Option V)} (I:Inv X pins σ H s) (hl:σ'.length=σ.length) (w:∀ (i:Nat) v,σ'[i]?=some (some v)→σ[i]?=some (some v)):Inv X pins σ' H s :=
 ⟨I.ok,I.os,I.bare,I.base,let ⟨m,hn,hl'⟩:=I.loc; ⟨m,hn,fun i x v e1 e2 e3=>hl' i x v e1 (w i v e2) e3⟩,I.cell,I.free,I.iY,I.pin,I.ck,hl.trans I.len⟩
theorem Inv.jN {pins':List (OF×Q5)} (I:Inv X pins σ H s) (h:∀ p∈pins',s.heap.get? p.1=some p.2∧H p.1=none∧p.1≠‹27›∧p.1∉X.fs∧∀ v,p.2.data≠.cell v):Inv X pins' σ H s :=
 ⟨I.ok,I.os,I.bare,I.base,I.loc,I.cell,I.free,I.iY,fun p hp=>(O4.mp hp).elim (fun z=>I.pin p (Pa _ z)) (h p),I.ck,I.len⟩
theorem yw {N:List P2} (hN:N.Nodup) {i j:Nat} (a:N[i]?=some x) (b:N[j]?=some x):i=j:=by
 obtain ⟨h1,e1⟩:=OR.mp a
 obtain ⟨h2,e2⟩:=OR.mp b
 exact (List.getElem_inj hN).mp (e1.trans e2.symm)
theorem u1 {i:Nat} {v:V} (I:Inv X pins σ H s) (hN:X.N.Nodup) (hi:X.N[i]?=some x) (hx:Loc X.env.scope x) (r:RelV v u)
 (h:∀ s',Inv X pins (σ.set i (some v)) H s'→(∃ a,RI a s.heap s'.heap∧(a=‹27›∨X.env.cells.lookup x=some a))→Q () s') (hf:X.fn x=true∨X.env.scope.names.lookup x=some .local:=by first | exact .inl rfl | exact .inr rfl | assumption):OX M A (storeName X.env x u) Q E s:=by
 obtain ⟨m,hn,hl⟩:=id I.loc
 have hcls:(X.env.scope.kind==.class || (X.env.scope.kind==.module&&‹27› != X.env.globals))=false:=by rw [I.ok.kind]; rfl
 have hiσ:i < σ.length:=by rw [I.len]; exact (OR.mp hi).1
 have Lm:=I.Lm
 have tracked:∀ {a:OF} {h':Qb},(∃ o,s.heap.get? a=some o∧H a=none)→RI a s.heap h'→jr X.prog X.w H h':=fun {a h'} ha hs b ob e=>by
  obtain ⟨_,_,hfree⟩:=ha
  refine (I.ck b ob e).nc (fun c w' hc q=>(hs.2 c ?_).trans q) (fun _ q=>q) fun _ _ q=>q
  rintro rfl
  rcases hc with rfl | hc
  ·rw [hfree] at e; cases e
  ·rw [hfree] at hc; cases hc
 rcases hx with hk | hk
 ·refine wpAny_storeName_local hk hn (fun h' hn' hs=>?_) hcls
  obtain ⟨oL,_,_,hoL,_⟩:=id hn
  refine h _ ⟨I.ok,I.os,I.bare,⟨fun b o e n hb hx=>?_,fun b o e n hb hx=>?_,I.base.free,fun b o e hx=>?_,I.base.uj,I.base.tj,I.base.se⟩,⟨_,hn',fun j y v' e1 e2 e3=>?_⟩,fun y c e=>?_,I.free,I.iY,fun p hp=>?_,tracked ⟨oL,hoL,I.free⟩ hs,by simpa using I.len⟩ ⟨_,hs,.inl rfl⟩
  ·exact (hs.2 b (OS (OZ (OO e) I.ok.above))).trans (I.base.keep b o e n hb hx)
  ·obtain ⟨sl,e1⟩:=I.base.slot b o e n hb hx
   exact ⟨sl,(hs.2 b (OS (OZ (OO e) I.ok.above))).trans e1⟩
  ·obtain ⟨o',e1⟩:=I.base.there b o e hx
   exact ⟨o',(hs.2 b (OS (OZ (OO e) I.ok.above))).trans e1⟩
  ·show 23
   ·subst hj
    rw [hi] at e1; cases e1
    rw [Qr hiσ] at e2
    cases e2
    exact ⟨u,r,.inl ⟨hk,by simp⟩⟩
   ·rw [Ql (P9 hj)] at e2
    obtain ⟨u',r',q⟩:=hl j y v' e1 e2 e3
    refine ⟨u',r',?_⟩
    rcases q with ⟨k,e⟩ | ⟨k,c,e,z⟩
    ·refine .inl ⟨k,?_⟩
     have:y≠x:=fun e=>hj (yw hN e1 (e ▸ hi))
     simp [this,e]
    ·exact .inr ⟨k,c,e,z.sameBut hs (Lm y c e)⟩
  ·obtain ⟨w',z⟩:=I.cell y c e
   exact ⟨w',z.sameBut hs (Lm y c e)⟩
  ·obtain ⟨e,n,ne,nf,d⟩:=I.pin p hp
   exact ⟨(hs.2 p.1 ne).trans e,n,ne,nf,d⟩
 ·have hfn:X.fn x=true:=by
   rcases hf with z | z
   ·exact z
   ·rw [z] at hk; cases hk
  obtain ⟨c,hc⟩:=I.ok.has x (.inl hk)
  obtain ⟨w',z⟩:=I.cell x c hc
  refine wpAny_storeName_cell I.ok.kind hk hc z (fun h' hc' hs=>?_)
  obtain ⟨oc,hoc,hocd⟩:=id z
  refine h { s with heap:=h' } ⟨I.ok,I.os,I.bare,⟨fun b o e n hb hx=>?_,fun b o e n hb hx=>?_,I.base.free,fun b o e hx=>?_,I.base.uj,I.base.tj,I.base.se⟩,⟨m,hn.sameBut hs (P9 (Lm x c hc)),fun j y v' e1 e2 e3=>?_⟩,fun y c' e=>?_,I.free,I.iY,fun p hp=>?_,tracked ⟨oc,hoc,I.iY x c hc⟩ hs,by simpa using I.len⟩ ⟨c,hs,.inr hc⟩
  ·exact (hs.2 b (OS (OZ (OO e) (I.ok.cab x c hfn hc)))).trans (I.base.keep b o e n hb hx)
  ·obtain ⟨sl,e1⟩:=I.base.slot b o e n hb hx
   exact ⟨sl,(hs.2 b (OS (OZ (OO e) (I.ok.cab x c hfn hc)))).trans e1⟩
  ·obtain ⟨o',e1⟩:=I.base.there b o e hx
   exact ⟨o',(hs.2 b (OS (OZ (OO e) (I.ok.cab x c hfn hc)))).trans e1⟩
  ·show 23
   ·subst hj
    rw [hi] at e1; cases e1
    rw [Qr hiσ] at e2
    cases e2
    exact ⟨u,r,.inr ⟨.inl hk,c,hc,hc'⟩⟩
   ·rw [Ql (P9 hj)] at e2
    obtain ⟨u',r',q⟩:=hl j y v' e1 e2 e3
    refine ⟨u',r',?_⟩
    rcases q with q | ⟨k,c',e,z'⟩
    ·exact .inl q
    ·refine .inr ⟨k,c',e,z'.sameBut hs ?_⟩
     rintro rfl
     exact hj (yw hN e1 (I.ok.inj _ _ _ e hc ▸ hi))
  ·by_cases hcc:c'=c
   ·subst hcc; exact ⟨_,hc'⟩
   ·obtain ⟨w2,z2⟩:=I.cell y c' e
    exact ⟨w2,z2.sameBut hs hcc⟩
  ·obtain ⟨e,n,ne,nf,d⟩:=I.pin p hp
   refine ⟨(hs.2 p.1 ?_).trans e,n,ne,nf,d⟩
   intro q
   rw [q,hoc] at e
   have q':oc=p.2:=Pm e
   exact d w' (by rw [← q']; exact hocd)
theorem sf {i:Nat} {v:V} (I:Inv X pins σ H s) (hN:X.N.Nodup) (hi:X.N[i]?=some x) (hx:Loc X.env.scope x) (r:RelV v u)
 (h:∀ s',Inv X pins (σ.set i (some v)) H s'→Q () s') (hf:X.fn x=true∨X.env.scope.names.lookup x=some .local:=by first | exact .inl rfl | exact .inr rfl | assumption):OX M A (storeName X.env x u) Q E s :=
 u1 I hN hi hx r (fun s' I' _=>h s' I') hf
theorem Inv.JP {s':OG} (I:Inv X pins σ H s) (ho:s'.os=s.os) (u:Un (Ef X.stack) ch H H' s.heap s'.heap) (ck:jr X.prog X.w H' s'.heap) (hg:Vh s'.gens)
 (hch:∀ b∈ch,(b∈X.ex∨‹24›≤b)∧b≠‹27›∧(∀ x c,X.env.cells.lookup x=some c→c≠b)∧∀ p∈X.pn++pins,p.1≠b):Inv X pins σ H' s':=by
 obtain ⟨h',g',d',t',o'⟩:=s'
 have e:o'=s.os:=ho
 subst e
 exact I.call (g':=g') (t':=t') (d':=d') u ck hg hch
end
abbrev XK:=OD→Option OF→Hp→Prop
abbrev St:=List (Option V)
abbrev VK:=V→Hp→Prop
abbrev TE:=St→Hp→VK→Prop
abbrev TT:=St→Hp→(Bool→Hp→Prop)→Prop
abbrev TA:=St→Hp→(List V→Hp→Prop)→Prop
structure Ends where
 nx:St→Hp→Prop
 rt:VK
 bk:St→Hp→Prop:=fun _ _=>False
 ct:St→Hp→Prop:=fun _ _=>False
abbrev TS:=Ends→St→Hp→Prop
def EP (X:Cx) (pins:List (OF×Q5)) (σ:St) (Q:VK) (u:OD) (s':OG):Prop:=∃ v H',Inv X pins σ H' s'∧RelV v u∧Q v H'
def TP (X:Cx) (pins:List (OF×Q5)) (σ:St) (Q:Bool→Hp→Prop) (b:Bool) (s':OG):Prop:=∃ H',Inv X pins σ H' s'∧Q b H'
def AP (X:Cx) (pins:List (OF×Q5)) (σ:St) (Q:List V→Hp→Prop) (us:List OD) (s':OG):Prop:=∃ vs H',Inv X pins σ H' s'∧Vals vs us∧Q vs H'
def SP (X:Cx) (pins:List (OF×Q5)) (D:Ends) (f:Flow) (s':OG):Prop :=
 match f with
 | .next=>∃ σ' H',Inv X pins σ' H' s'∧D.nx σ' H'
 | .brk=>∃ σ' H',Inv X pins σ' H' s'∧D.bk σ' H'
 | .cont=>∃ σ' H',Inv X pins σ' H' s'∧D.ct σ' H'
 | .ret u=>∃ v σ' H',Inv X pins σ' H' s'∧RelV v u∧D.rt v H'
def PE (X:Cx) (e:Qg) (t:TE):Prop :=
 ∀ (pins:List (OF×Q5)) (s:OG) (σ:St) (H:Hp) (Q:VK),Inv X pins σ H s→t σ H Q→OX ‹7› X.A (eval e X.env) (EP X pins σ Q) X.xe s
def PT (X:Cx) (e:Qg) (t:TT):Prop :=
 ∀ (pins:List (OF×Q5)) (s:OG) (σ:St) (H:Hp) (Q:Bool→Hp→Prop),Inv X pins σ H s→t σ H Q→OX ‹7› X.A (isTrue e X.env (eval e X.env)) (TP X pins σ Q) X.xe s
def PW (X:Cx) (e:Qg) (t:TT):Prop :=
 ∀ (whole:Sem OD) (pins:List (OF×Q5)) (s:OG) (σ:St) (H:Hp) (Q:Bool→Hp→Prop),Inv X pins σ H s→t σ H Q→OX ‹7› X.A (isTrue e X.env whole) (TP X pins σ Q) X.xe s
variable {X:Cx}
theorem PW.pt {e:Qg} {t:TT} (h:PW X e t):PT X e t:=h _
def PA (X:Cx) (es:List Qg) (t:TA):Prop :=
 ∀ (pos:UM) (pins:List (OF×Q5)) (s:OG) (σ:St) (H:Hp) (Q:List V→Hp→Prop),Inv X pins σ H s→t σ H Q→OX ‹7› X.A (spliced (TC pos (P0 es X.env))) (AP X pins σ Q) X.xe s
def PS (X:Cx) (st:RE) (t:TS):Prop :=
 ∀ (pins:List (OF×Q5)) (s:OG) (σ:St) (H:Hp) (D:Ends),Inv X pins σ H s→t D σ H→OX ‹7› X.A (exec st X.env) (SP X pins D) X.xe s
def xM (X:Cx) (st:List RE) (t:TS):Prop :=
 ∀ (pins:List (OF×Q5)) (s:OG) (σ:St) (H:Hp) (D:Ends),Inv X pins σ H s→t D σ H→OX ‹7› X.A (execs st X.env) (SP X pins D) X.xe s
variable {pos:UM} {pins:List (OF×Q5)} {σ:St} {op:CmpOp} {t:TE}
theorem cZ {α:Type} {t:Sem α} {Q Q':α→OG→Prop} {s:OG} (h:OX M A t Q E s) (hQ:∀ a s,Q a s→Q' a s):OX M A t Q' E s:=Qw h hQ fun _ _ x=>x
section
variable {X:Cx}
def iJ (i:Nat):TE:=fun σ H Q=>∃ v,σ[i]?=some (some v)∧Q v H
def tC (v:V):TE:=fun _ H Q=>Q v H
theorem Ku {i:Nat} (hN:X.N[i]?=some x) (hv:Lw X.env.scope x) (hd:(x==("__debug__" : P2))=false:=by decide) (hcd:(x==("__classdict__" : P2))=false:=by decide):PE X (.Name x pos) (iJ i):=by
 show 2
 obtain ⟨v,e,h⟩:=h
 obtain ⟨m,hn,hl⟩:=I.loc
 obtain ⟨u,r,l⟩:=hl i x v hN e hv
 have fin:EP X pins σ Q u s:=⟨v,H,I,r,h⟩
 rcases l with ⟨hk,hm⟩ | ⟨hk,c,hc,hcell⟩
 ·exact X2 (VV I.ok.kind hk hn hm fin) hd
 ·rcases hk with hk | hk
  ·exact X2 (Wt I.ok.kind hk hc hcell fin) hd
  ·exact X2 (wpAny_loadName_free I.ok.kind hk hc hcell fin hcd) hd
theorem aw {i j pos}:PE X (.Constant (.int i) j pos) (tC (.int i)):=fun _ _ _ H _ I h=>wpAny_Constant_int ⟨.int i,H,I.tok _,⟨_,rfl⟩,h⟩
theorem kY {b j pos}:PE X (.Constant (.bool b) j pos) (tC (.bl b)):=fun _ _ _ H _ I h=>Constant_bool ⟨.bl b,H,I,rfl,h⟩
theorem wR {j pos}:PE X (.Constant .none j pos) (tC .non):=fun _ _ _ H _ I h=>Constant_none ⟨.non,H,I,rfl,h⟩
def Gl (X:Cx) (x:P2):Prop:=X.env.kindOf x=some .globalImplicit
theorem B4 {s:OG} {Q:OD→OG→Prop} (I:Inv X pins σ H s) (hg:Gl X x) (hm:X.mg x=some u) (h:Q u s)
 (hd:(x==("__debug__" : P2))=false:=by decide):OX ‹7› X.A (eval (.Name x pos) X.env) Q E s :=
 Uv I.ok.kind hg (Calls.loadGlobal_global (by rw [I.ok.glob]; exact I.mod.glob.keeps I.bk) hm h) hd
theorem fT {s:OG} {Q:OD→OG→Prop} (I:Inv X pins σ H s) (hg:Gl X x) (hm:X.mg x=none) (hv:PZ x=some u) (h:Q u s)
 (hn:x ≠ "__name__" := by decide) (hd:(x==("__debug__" : P2))=false:=by decide):OX ‹7› X.A (eval (.Name x pos) X.env) Q E s:=by
 obtain ⟨mb,h1,h2⟩:=I.mod.blt
 exact Uv I.ok.kind hg (Calls.loadGlobal_builtin (by rw [I.ok.glob]; exact I.mod.glob.keeps I.bk) hm (by rw [I.ok.blt]; exact h1.keeps I.bk) ((h2 x hn).trans hv) h) hd
theorem Ib {v:V} (hg:Gl X x) (hm:X.mg x=some u) (r:RelV v u) (hd:(x==("__debug__" : P2))=false:=by decide):PE X (.Name x pos) (tC v) :=
 fun _ _ _ H _ I h=>B4 I hg hm ⟨v,H,I,r,h⟩ hd
theorem iT {v:V} (hg:Gl X x) (hm:X.mg x=none) (hv:PZ x=some u) (r:RelV v u) (hn:x ≠ "__name__" := by decide) (hd:(x==("__debug__" : P2))=false:=by decide):PE X (.Name x pos) (tC v) :=
 fun _ _ _ H _ I h=>fT I hg hm hv ⟨v,H,I,r,h⟩ hn hd
variable {a b:Qg} {ta tb:TE} {pos:UM}
def PC (X:Cx) (op:CmpOp) (a b:Qg) (t:TE):Prop :=
 ∀ (pins:List (OF×Q5)) (s:OG) (σ:St) (H:Hp) (Q:VK),Inv X pins σ H s→t σ H Q →
  OX ‹7› X.A (eval a X.env) (fun v s₁=>OX ‹7› X.A (eval b X.env) (fun u s₂=>OX ‹7› X.A (Rz op v u) (EP X pins σ Q) X.xe s₂) X.xe s₁) X.xe s
def tB (t:TE):TT:=fun σ H Q=>t σ H fun x H1=>∃ c,x=.bl c∧Q c H1
theorem Km (h:PC X op a b t) (h1:TM op b=false:=by first | exact nobehind _ ‹11› ‹11› | rfl):PT X (.Compare a [op] [b] pos) (tB t):=by
 intro pins s σ H Q I hw
 refine VJ (cZ (h pins s σ H _ I hw) fun v s1 h1=>cZ h1 fun u s2 h2=>cZ h2 fun c s3 ⟨x,H1,I1,r1,q1⟩=>?_) h1
 obtain ⟨d,rfl,q⟩:=q1
 cases r1
 exact Rh ⟨H1,I1,q⟩
variable {tA tB':TT} {rest:List Qg}
def L0 (t u:TT):TT:=fun σ H Q=>t σ H fun c H1=>if c=true then u σ H1 Q else Q false H1
def NP (t u:TT):TT:=fun σ H Q=>t σ H fun c H1=>if c=true then Q true H1 else u σ H1 Q
def LX (t:TT):TT:=fun σ H Q=>t σ H fun c H1=>Q (!c) H1
theorem rE (ha:PT X a tA):PW X (.BoolOp .And [a] pos) tA:=by
 intro wh pins s σ H Q I h
 refine isTrue_and (cZ (ha pins s σ H Q I h) fun c s1 e=>?_)
 cases c with
 | true=>exact isTrue_and_nil e
 | false=>exact e
theorem ib (ha:PT X a tA):PW X (.BoolOp .Or [a] pos) tA:=by
 intro wh pins s σ H Q I h
 refine isTrue_or (cZ (ha pins s σ H Q I h) fun c s1 e=>?_)
 cases c with
 | false=>exact isTrue_or_nil e
 | true=>exact e
theorem wM (ha:PT X a tA) (hb:PW X (.BoolOp .And (b::rest) pos) tB'):PW X (.BoolOp .And (a::b::rest) pos) (L0 tA tB'):=by
 intro wh pins s σ H Q I h
 refine isTrue_and (cZ (ha pins s σ H _ I h) fun c s1 ⟨H1,I1,q1⟩=>?_)
 cases c with
 | true=>exact hb wh pins s1 σ H1 Q I1 q1
 | false=>exact ⟨H1,I1,q1⟩
theorem fR (ha:PT X a tA) (hb:PW X (.BoolOp .Or (b::rest) pos) tB'):PW X (.BoolOp .Or (a::b::rest) pos) (NP tA tB'):=by
 intro wh pins s σ H Q I h
 refine isTrue_or (cZ (ha pins s σ H _ I h) fun c s1 ⟨H1,I1,q1⟩=>?_)
 cases c with
 | true=>exact ⟨H1,I1,q1⟩
 | false=>exact hb wh pins s1 σ H1 Q I1 q1
theorem gF (ha:PT X a tA):PT X (.UnaryOp .Not a pos) (LX tA):=by
 show 2
 exact isTrue_not (ha pins s σ H (fun c H1=>Q (!c) H1) I h)
def Jp (ta tb:TE):TE:=fun σ H Q=>ta σ H fun x H1=>∃ c,x=.bl c∧if c=true then tb σ H1 Q else Q (.bl false) H1
def Jk (ta:TE):TE:=fun σ H Q=>ta σ H fun x H1=>∃ c,x=.bl c∧Q (.bl (!c)) H1
theorem wQ {op} (h:PE X a t):PE X (.BoolOp op [a] pos) t:=fun pins s σ H Q I hw=>BoolOp_one (h pins s σ H Q I hw)
theorem sO (ha:PE X a ta) (hb:PE X (.BoolOp .And (b::rest) pos) tb):PE X (.BoolOp .And (a::b::rest) pos) (Jp ta tb):=by
 show 2
 refine BoolOp_and (cZ (ha pins s σ H _ I h) fun v s1 ⟨x,H1,I1,r1,q1⟩=>?_)
 obtain ⟨c,rfl,q1⟩:=q1
 cases r1
 refine Rh ?_
 cases c with
 | true=>exact hb pins s1 σ H1 Q I1 q1
 | false=>exact ⟨.bl false,H1,I1,rfl,q1⟩
theorem Kv (ha:PE X a ta):PE X (.UnaryOp .Not a pos) (Jk ta):=by
 show 2
 refine UnaryOp_ (cZ (ha pins s σ H _ I h) fun v s1 ⟨x,H1,I1,r1,q1⟩=>?_)
 obtain ⟨c,rfl,q1⟩:=q1
 cases r1
 exact not_of (Rh ⟨.bl (!c),H1,I1,rfl,q1⟩)
def NQ (t:TT) (ta tb:TE):TE:=fun σ H Q=>t σ H fun c H1=>if c=true then ta σ H1 Q else tb σ H1 Q
theorem FG {c:Qg} (hc:PT X c tA) (ha:PE X a ta) (hb:PE X b tb):PE X (.IfExp c a b pos) (NQ tA ta tb):=by
 show 2
 refine wpAny_IfExp (cZ (hc pins s σ H _ I h) fun d s1 ⟨H1,I1,q1⟩=>?_)
 cases d with
 | true=>exact ha pins s1 σ H1 Q I1 q1
 | false=>exact hb pins s1 σ H1 Q I1 q1
end
def dw (K:OA) (H:Hp) (a:OF) (xs:List V):Prop :=
 Rd H a (.lst xs) ∨
  ∃ (o:Q5) (its:Array OD) (n:Nat),K.lookup a=some o∧o.cls=.type "list" ∧ o.dict=none∧o.data=.seq its n∧its.size≤OE∧Vals xs its.toList
def Hd (K:OA) (H:Hp) (a:OF) (xs:List V):Prop :=
 Rd H a (.tup xs) ∨
  ∃ (o:Q5) (its:Array OD) (n:Nat),K.lookup a=some o∧o.cls=.type "tuple" ∧ o.data=.seq its n∧its.size≤OE∧Vals xs its.toList
def NB:OD→Option V
 | .none=>some .non
 | .bool b=>some (.bl b)
 | .int i _=>some (.int i)
 | .str x _=>some (.str x)
 | .bytes b _=>some (.byt b)
 | .float b _=>some (.flt b)
 | .ref a=>some (.ref a)
 | .type n=>some (.ty n)
 | _=>none
theorem RelV.abs {x:V} (r:RelV x u):NB u=some x:=by
 cases x with
 | non=>cases r; rfl
 | bl _=>cases r; rfl
 | int _=>obtain ⟨t,rfl⟩:=r; rfl
 | str _=>obtain ⟨t,rfl⟩:=r; rfl
 | byt _=>obtain ⟨t,rfl⟩:=r; rfl
 | flt _=>obtain ⟨t,rfl⟩:=r; rfl
 | ref _=>cases r; rfl
 | ty _=>cases r; rfl
theorem RelV.inj {x y:V} {u:OD} (r:RelV x u) (q:RelV y u):x=y:=Pm (r.abs.symm.trans q.abs)
variable {K:OA}
theorem Vals.inj:∀ {xs ys:List V} {us:List OD},Vals xs us→Vals ys us→xs=ys
 | _,_,_,.nil,.nil=>rfl
 | _,_,_,.cons r t,.cons r' t'=>by rw [r.inj r',Vals.inj t t']
section
variable {X:Cx} {pins:List (OF×Q5)} {σ:St} {H:Hp} {s:OG} {a:OF} {xs ys:List V}
theorem dw.of (h:H a=some (.lst xs)):dw K H a xs:=.inl (.inl h)
theorem Inv.list (I:Inv X pins σ H s) (h:dw X.K H a xs):∃ its:List OD,Vals xs its∧PlainL s.heap a its.toArray∧xs.length≤OE:=by
 rcases h with h | ⟨o,its,n,hk,hc,hd,hs,hz,r⟩
 ·obtain ⟨z,its,n,r,e⟩:=h.ok I.ck
  exact ⟨its,r,⟨_,n,e,rfl,rfl,rfl⟩,z⟩
 ·refine ⟨its.toList,r,⟨o,n,I.yH a o hk,hc,hd,by simpa using hs⟩,?_⟩
  have e:=r.length
  simp only [Pr] at e
  omega
theorem Inv.tuple (I:Inv X pins σ H s) (h:Hd X.K H a xs):∃ its:List OD,Vals xs its∧IsTup s.heap a its.toArray∧xs.length≤OE:=by
 rcases h with h | ⟨o,its,n,hk,hc,hs,hz,r⟩
 ·obtain ⟨z,its,r,p⟩:=h.ok I.ck
  exact ⟨its,r,p,z⟩
 ·refine ⟨its.toList,r,⟨o,I.yH a o hk,hc,n,by simpa using hs⟩,?_⟩
  have e:=r.length
  simp only [Pr] at e
  omega
theorem Inv.lq (I:Inv X pins σ H s) (h:dw X.K H a xs) (h':dw X.K H a ys):xs=ys:=by
 obtain ⟨its,r,⟨o,n,e,_,_,d⟩,_⟩:=I.list h
 obtain ⟨its',r',⟨o',n',e',_,_,d'⟩,_⟩:=I.list h'
 rw [e] at e'; cases e'
 rw [d] at d'
 injection d' with d1 _
 have:its=its':=by simpa using congrArg Array.toList d1
 subst this
 exact r.inj r'
end
abbrev Cx.ui (X:Cx) (E:OD→OG→Prop):Cx:={ X with xe:=E }
abbrev Cx.Hn (X:Cx):Cx:=X.ui fun _ _=>False
theorem Cx.Ok.ui {X:Cx} (ok:X.Ok) (E:OD→OG→Prop):(X.ui E).Ok :=
 ⟨ok.mod,ok.kind,ok.glob,ok.blt,ok.above,ok.inj,ok.has,ok.cab,ok.hd,ok.frames,ok.Jq,ok.exf,ok.bs,ok.Cw,ok.noex,ok.Gz,ok.p6,ok.LK⟩
variable {tc:TT}
theorem Cx.Ok.kN (ok:(X.ui E).Ok):X.Ok :=
 ⟨ok.mod,ok.kind,ok.glob,ok.blt,ok.above,ok.inj,ok.has,ok.cab,ok.hd,ok.frames,ok.Jq,ok.exf,ok.bs,ok.Cw,ok.noex,ok.Gz,ok.p6,ok.LK⟩
section
variable {X:Cx} {pins:List (OF×Q5)} {σ:St} {H:Hp} {s:OG} {E:OD→OG→Prop}
theorem Inv.ui (I:Inv X pins σ H s) (E:OD→OG→Prop):Inv (X.ui E) pins σ H s:=⟨I.ok.ui E,I.os,I.bare,I.base,I.loc,I.cell,I.free,I.iY,I.pin,I.ck,I.len⟩
theorem Inv.kN (I:Inv (X.ui E) pins σ H s):Inv X pins σ H s:=⟨I.ok.kN,I.os,I.bare,I.base,I.loc,I.cell,I.free,I.iY,I.pin,I.ck,I.len⟩
theorem SP.kN {D:Ends} {f:Flow} {s':OG} (h:SP (X.ui E) pins D f s'):SP X pins D f s':=by
 cases f with
 | next=>obtain ⟨σ',H',I,q⟩:=h; exact ⟨σ',H',I.kN,q⟩
 | brk=>obtain ⟨σ',H',I,q⟩:=h; exact ⟨σ',H',I.kN,q⟩
 | cont=>obtain ⟨σ',H',I,q⟩:=h; exact ⟨σ',H',I.kN,q⟩
 | ret u=>obtain ⟨v,σ',H',I,r,q⟩:=h; exact ⟨v,σ',H',I.kN,r,q⟩
theorem xM.Hn {st:List RE} {t:TS} (h:xM X.Hn st t):xM X st t:=fun pins s σ H D I hw =>
 Qw (h pins s σ H D (I.ui _) hw) (fun _ _ q=>q.kN) fun _ _ z=>R5 z
end
section
variable {X:Cx} {st:RE} {rest:List RE} {t u:TS} {e:Qg} {te:TE} {pos:UM}
def Jl:TS:=fun D σ H=>D.nx σ H
def LW (t u:TS):TS:=fun D σ H=>t { D with nx:=u D } σ H
theorem cb:xM X [] Jl:=fun _ _ σ H _ I h=>T7 ⟨σ,H,I,h⟩
theorem ai (h1:PS X st t) (h2:xM X rest u):xM X (st::rest) (LW t u):=by
 show 21
 refine wpAny_execs_cons (cZ (h1 pins s σ H { D with nx:=u D } I h) fun f s1 q=>?_)
 cases f with
 | next =>
  obtain ⟨σ',H',I',q⟩:=q
  exact h2 pins s1 σ' H' D I' q
 | ret v=>exact q
 | brk=>exact q
 | cont=>exact q
theorem aA (h1:PS X st t):xM X [st] t:=by
 show 21
 refine wpAny_execs_cons (cZ (h1 pins s σ H D I h) fun f s1 q=>?_)
 cases f with
 | next=>exact T7 q
 | ret v=>exact q
 | brk=>exact q
 | cont=>exact q
theorem Inv.quiet {s:OG} (I:Inv X pins σ H s):interactive X.env=false:=by simp [interactive,I.ok.kind]
def xW (te:TE):TS:=fun D σ H=>te σ H fun _ H1=>D.nx σ H1
theorem gW (he:PE X e te) (hs:U7 e none pos.line X.env=pure false:=by rfl):PS X (.Expr e pos) (xW te):=by
 show 21
 exact wpAny_Expr_any (cZ (he pins s σ H _ I h) fun v s1 ⟨x,H1,I1,r1,q1⟩=>⟨σ,H1,I1,q1⟩) I.quiet hs
def EN (te:TE):TS:=fun D σ H=>te σ H D.rt
theorem bc (he:PE X e te):PS X (.Return (some e) pos) (EN te):=by
 show 21
 exact wpAny_Return_some (cZ (he pins s σ H _ I h) fun v s1 ⟨x,H1,I1,r1,q1⟩=>⟨x,σ,H1,I1,r1,q1⟩)
def LY (c:TT) (t u:TS):TS:=fun D σ H=>c σ H fun b H1=>if b=true then t D σ H1 else u D σ H1
theorem dO {c:Qg} {a b:List RE} (hc:PT X c tc) (ha:xM X a t) (hb:xM X b u):PS X (.If c a b pos) (LY tc t u):=by
 show 21
 refine wpAny_If (cZ (hc pins s σ H _ I h) fun d s1 ⟨H1,I1,q1⟩=>?_)
 cases d with
 | true=>exact ha pins s1 σ H1 D I1 q1
 | false=>exact hb pins s1 σ H1 D I1 q1
def ET:TS:=fun _ _ _=>False
theorem FC:PS X st ET:=fun _ _ _ _ _ _ h=>h.elim
end
abbrev TG:=V→St→Hp→(St→Hp→Prop)→Prop
abbrev xK:=List V→St→Hp→(St→Hp→Prop)→Prop
def PG (X:Cx) (target:Qg) (t:TG):Prop :=
 ∀ (pins:List (OF×Q5)) (s:OG) (σ:St) (H:Hp) (v:V) (u:OD) (Q:St→Hp→Prop),Inv X pins σ H s→RelV v u→t v σ H Q →
  OX ‹7› X.A (assign target X.env u) (fun _ s'=>∃ σ' H',Inv X pins σ' H' s'∧Q σ' H') X.xe s
def LC (X:Cx) (ts:List Qg) (t:xK):Prop :=
 ∀ (pins:List (OF×Q5)) (s:OG) (σ:St) (H:Hp) (vs:List V) (us:List OD) (Q:St→Hp→Prop),Inv X pins σ H s→Vals vs us→t vs σ H Q →
  OX ‹7› X.A (assignInOrder ((QV ts X.env).map (·.2)) us) (fun _ s'=>∃ σ' H',Inv X pins σ' H' s'∧Q σ' H') X.xe s
abbrev Hc:=V→V→V→Hp→(Hp→Prop)→Prop
def LB (X:Cx) (t:Hc):Prop :=
 ∀ (pins:List (OF×Q5)) (s:OG) (σ:St) (H:Hp) (o i v:V) (ov iv u:OD) (Q:Hp→Prop),Inv X pins σ H s→RelV o ov→RelV i iv→RelV v u→t o i v H Q →
  OX ‹7› X.A (setItem ov iv u) (fun _ s'=>∃ H',Inv X pins σ H' s'∧Q H') X.xe s
abbrev LM:=V→V→Hp→VK→Prop
variable {es:List Qg} {k:Nat} {n:Nat} {tg:Qg} {te:TE} {pos':UM} {body:List RE} {tb:TS}
def M6 (X:Cx) (op:X3) (t:LM):Prop :=
 ∀ (pins:List (OF×Q5)) (s:OG) (σ:St) (H:Hp) (x y:V) (v u:OD) (Q:VK),Inv X pins σ H s→RelV x v→RelV y u→t x y H Q →
  OX ‹7› X.A (inplaceOp op v u) (EP X pins σ Q) X.xe s
section
variable {X:Cx} {pos:UM}
def ky (i:Nat):TG:=fun v σ H Q=>Q (σ.set i (some v)) H
theorem bP {i:Nat} (hN:X.N.Nodup) (hi:X.N[i]?=some x) (hx:Loc X.env.scope x) (hf:X.fn x=true∨X.env.scope.names.lookup x=some .local:=by first | exact .inl rfl | exact .inr rfl | assumption):PG X (.Name x pos) (ky i):=by
 intro pins s σ H v u Q I r h
 exact wpAny_assign_Name (sf I hN hi hx r (fun s' I'=>⟨_,H,I',h⟩) hf)
def La:xK:=fun vs σ H Q=>vs=[]∧Q σ H
def Gw (t:TG) (u:xK):xK:=fun vs σ H Q=>∃ v r,vs=v::r∧t v σ H fun σ' H'=>u r σ' H' Q
theorem fY:LC X [] La:=by
 intro pins s σ H vs us Q I r h
 obtain ⟨e,h⟩:=h
 subst e
 cases r
 exact assignInOrder_nil ⟨σ,H,I,h⟩
theorem bH {e:Qg} {t:TG} {u:xK} (h1:PG X e t) (h2:LC X es u)
 (hs:(QV (e::es) X.env).map (·.2)=assign e X.env::(QV es X.env).map (·.2):=by rfl):LC X (e::es) (Gw t u):=by
 intro pins s σ H vs us Q I r h
 obtain ⟨v,vr,e1,h⟩:=h
 subst e1
 cases r with
 | cons r rr =>
  rw [hs]
  refine assignInOrder_cons (cZ (h1 pins s σ H _ _ _ I r h) fun _ s1 ⟨σ1,H1,I1,q1⟩=>?_)
  exact h2 pins s1 σ1 H1 _ _ Q I1 rr q1
def MB (K:OA) (n:Nat) (t:xK):TG:=fun v σ H Q=>∃ a xs,v=.ref a∧Hd K H a xs∧xs.length=n∧t xs σ H Q
theorem Kr {t:xK} (hc:X.calm=true) (h:LC X es t)
 (hn:(QV es X.env).length=n:=by rfl) (hst:(QV es X.env).findIdx? (·.1)=none:=by rfl):PG X (.Tuple es k pos) (MB X.K n t):=by
 intro pins s σ H v u Q I r hw
 obtain ⟨a,xs,e1,hq,hl,hw⟩:=hw
 subst e1
 cases r
 obtain ⟨its,rv,ht,hz⟩:=I.tuple hq
 refine assign_Tuple_tuple (I.ok.hd hc) ht (by simp [hn,← hl,rv.length]) hst fun h' hx=>?_
 have I1:Inv X pins σ H { s with heap:=h' }:=I.kept (t':=s.toks) fun b o e=>hx b o (OS (OO e)) e
 exact h pins _ σ H xs _ Q I1 (by simpa using rv) hw
def K9 (to ti:TE) (t:Hc):TG:=fun v σ H Q=>to σ H fun o H1=>ti σ H1 fun i H2=>t o i v H2 fun H3=>Q σ H3
theorem sN {o i:Qg} {to ti:TE} {t:Hc} (ho:PE X o to) (hi:PE X i ti) (hs:LB X t)
 (ha:∀ v,assign (.Subscript o i pos) X.env v=(do
  let ov ← holding [v] (eval o X.env)
  let iv ← holding [v,ov] (eval i X.env)
  standAt pos
  holding [v,ov,iv] (setItem ov iv v)
  release [v,ov,iv] []):=by intro _; rfl):PG X (.Subscript o i pos) (K9 to ti t):=by
 intro pins s σ H v u Q I r h
 rw [ha]
 refine Oz (PQ (cZ (ho pins s σ H _ I h) fun ov s1 ⟨x,H1,I1,r1,q1⟩=>?_))
 refine Oz (PQ (cZ (hi pins s1 σ H1 _ I1 q1) fun iv s2 ⟨y,H2,I2,r2,q2⟩=>?_))
 refine Oz (TN (Oz (PQ (cZ (hs pins s2 σ H2 x y v ov iv u _ I2 r1 r2 r q2) fun _ s3 ⟨H3,I3,q3⟩=>?_))))
 exact wpAny_release ⟨σ,H3,I3,q3⟩
def uk (te:TE) (g:TG):TS:=fun D σ H=>te σ H fun x H1=>g x σ H1 D.nx
theorem pP {e:Qg} {g:TG} (he:PE X e te) (hg:PG X tg g) (hs:swapsWithSole [tg] e pos.line X.env=pure false:=by rfl) (hw:swappedStores [tg] e X.env=pure none:=by rfl)
 (h1:(QV [tg] X.env).map (·.2)=[assign tg X.env]:=by rfl):PS X (.Assign [tg] e pos) (uk te g):=by
 show 21
 refine wpAny_Assign_stores (cZ (he pins s σ H _ I h) fun v s1 ⟨x,H1,I1,r1,q1⟩=>?_) hs hw
 rw [h1]
 exact cZ (hg pins s1 σ H1 x v _ I1 r1 q1) fun _ s2 q=>q
theorem aJ {i:Nat} {e:Qg} (hN:X.N.Nodup) (hi:X.N[i]?=some x) (hx:Loc X.env.scope x) (he:PE X e te) (hs:U7 e (some (.Name x pos')) pos.line X.env=pure false:=by rfl) (hf:X.fn x=true∨X.env.scope.names.lookup x=some .local:=by first | exact .inl rfl | exact .inr rfl | assumption) :
 PS X (.Assign [.Name x pos'] e pos) (uk te (ky i)):=by
 show 21
 refine wpAny_Assign_Name (cZ (he pins s σ H _ I h) fun v s1 ⟨y,H1,I1,r1,q1⟩=>?_) hs
 exact sf I1 hN hi hx r1 (fun s2 I2=>⟨_,H1,I2,q1⟩) hf
def LZ (i:Nat) (te:TE) (ti:LM):TS:=fun D σ H=>∃ x,σ[i]?=some (some x)∧te σ H fun y H1=>ti x y H1 fun z H2=>D.nx (σ.set i (some z)) H2
theorem Ak {i:Nat} {e:Qg} {op:X3} {ti:LM} (hN:X.N.Nodup) (hi:X.N[i]?=some x) (hx:Loc X.env.scope x) (he:PE X e te) (ho:M6 X op ti) (hf:X.fn x=true∨X.env.scope.names.lookup x=some .local:=by first | exact .inl rfl | exact .inr rfl | assumption) :
 PS X (.AugAssign (.Name x pos') op e pos) (LZ i te ti):=by
 show 21
 obtain ⟨v,e1,h⟩:=h
 obtain ⟨m,hn,hl⟩:=I.loc
 have vis:Lw X.env.scope x:=by rcases hx with k | k; exact .inl k; exact .inr (.inl k)
 obtain ⟨u,r,l⟩:=hl i x v hi e1 vis
 refine wpAny_AugAssign_Name ?_
 have go:OX ‹7› X.A (eval e X.env) (fun w s₂=>OX ‹7› X.A (inplaceOp op u w) (fun r s₃=>OX ‹7› X.A (storeName X.env x r) (fun _=>SP X pins D .next) X.xe s₃) X.xe s₂) X.xe s:=by
  refine cZ (he pins s σ H _ I h) fun w s1 ⟨y,H1,I1,r1,q1⟩=>?_
  refine cZ (ho pins s1 σ H1 v y u w _ I1 r r1 q1) fun z s2 ⟨zv,H2,I2,r2,q2⟩=>?_
  exact sf I2 hN hi hx r2 (fun s3 I3=>⟨_,H2,I3,q2⟩) hf
 rcases l with ⟨hk,hm⟩ | ⟨hk,c,hc,hcell⟩
 ·exact VV I.ok.kind hk hn hm go
 ·rcases hk with hk | hk
  ·exact Wt I.ok.kind hk hc hcell go
  ·rcases hx with k | k
   ·have:X.env.scope.names.lookup x=some .free:=hk
    rw [k] at this; cases this
   ·have:X.env.scope.names.lookup x=some .free:=hk
    rw [k] at this; cases this
def Jo (to ti te:TE) (tget:V→V→Hp→VK→Prop) (tip:LM) (tset:Hc):TS:=fun D σ H=>to σ H fun o H1=>ti σ H1 fun i H2=>tget o i H2 fun x H3=>te σ H3 fun y H4=>tip x y H4 fun z H5=>tset o i z H5 fun H6=>D.nx σ H6
def LD (X:Cx) (t:V→V→Hp→VK→Prop):Prop :=
 ∀ (pins:List (OF×Q5)) (s:OG) (σ:St) (H:Hp) (o i:V) (ov iv:OD) (Q:VK),Inv X pins σ H s→RelV o ov→RelV i iv→t o i H Q →
  OX ‹7› X.A (Wl ov iv) (EP X pins σ Q) X.xe s
theorem BO {o i e:Qg} {to ti:TE} {tget:V→V→Hp→VK→Prop} {tip:LM} {tset:Hc} {op:X3} {tpos:UM} (ho:PE X o to) (hi:PE X i ti) (hg:LD X tget) (he:PE X e te) (hp:M6 X op tip) (hs:LB X tset)
 (ha:∀ ov iv new,augStore i ov iv new=(do holding [new,ov,iv] (setItem ov iv new); release [new,ov,iv] []; pure .next):=by intros; rfl):PS X (.AugAssign (.Subscript o i tpos) op e pos) (Jo to ti te tget tip tset):=by
 show 21
 refine wpAny_AugAssign_SubscriptAny (cZ (ho pins s σ H _ I h) fun ov s1 ⟨x1,H1,I1,r1,q1⟩=>?_) ha
 refine cZ (hi pins s1 σ H1 _ I1 q1) fun iv s2 ⟨x2,H2,I2,r2,q2⟩=>?_
 refine cZ (hg pins s2 σ H2 x1 x2 ov iv _ I2 r1 r2 q2) fun old s3 ⟨x3,H3,I3,r3,q3⟩=>?_
 refine cZ (he pins s3 σ H3 _ I3 q3) fun v s4 ⟨x4,H4,I4,r4,q4⟩=>?_
 refine cZ (hp pins s4 σ H4 x3 x4 old v _ I4 r3 r4 q4) fun new s5 ⟨x5,H5,I5,r5,q5⟩=>?_
 exact cZ (hs pins s5 σ H5 x1 x2 x5 ov iv new _ I5 r1 r2 r5 q5) fun _ s6 ⟨H6,I6,q6⟩=>⟨σ,H6,I6,q6⟩
def M0 (f:Int→Int→Int):LM:=fun x y H Q=>∃ i j,x=.int i∧y=.int j∧Q (.int (f i j)) H
theorem AG:M6 X .Add (M0 fun i j=>i+j):=by
 intro pins s σ H x y v u Q I r1 r2 h
 obtain ⟨i,j,e1,e2,q⟩:=h
 subst e1; subst e2
 obtain ⟨t,rfl⟩:=r1
 obtain ⟨t',rfl⟩:=r2
 exact iadd_int ⟨.int _,H,I.tok _,⟨_,rfl⟩,q⟩
theorem Gm:M6 X .Sub (M0 fun i j=>i-j):=by
 intro pins s σ H x y v u Q I r1 r2 h
 obtain ⟨i,j,e1,e2,q⟩:=h
 subst e1; subst e2
 obtain ⟨t,rfl⟩:=r1
 obtain ⟨t',rfl⟩:=r2
 exact isub_int ⟨.int _,H,I.tok _,⟨_,rfl⟩,q⟩
end
section
variable {X:Cx} {pos:UM}
def EL (c:TT) (tb:TS):TS:=fun D σ H=>∃ W:Nat→St→Hp→Prop,(∃ m,W m σ H)∧∀ m σ H,W m σ H →
 c σ H fun b H1=>if b=true then ∃ N:St→Hp→Prop,(∀ σ' H',N σ' H'→∃ m',m'<m∧W m' σ' H')∧tb { D with nx:=N,ct:=N,bk:=D.nx } σ H1 else D.nx σ H1
theorem oB {c:Qg} (hp:PassesOwn ‹7› X.A X.env X.xe) (hc:PT X c tc) (hb:xM X body tb):PS X (.While c body [] pos) (EL tc tb):=by
 show 21
 obtain ⟨W,⟨m0,w0⟩,turn⟩:=h
 refine wpAny_While (codeAny_whileLoop (fun n s'=>∃ σ' H',Inv X pins σ' H' s'∧W n σ' H') ?_ m0 ⟨σ,H,I,w0⟩)
 rintro n s1 ⟨σ1,H1,I1,w1⟩
 refine RG hp (cZ (hc pins s1 σ1 H1 _ I1 (turn n σ1 H1 w1)) fun b s2 ⟨H2,I2,q2⟩=>?_)
 cases b with
 | true =>
  obtain ⟨N,hN,q2⟩:=q2
  rw [if_pos rfl]
  refine RG hp (cZ (hb pins s2 σ1 H2 _ I2 q2) fun f s3 q3=>?_)
  cases f with
  | next =>
   obtain ⟨σ3,H3,I3,n3⟩:=q3
   obtain ⟨m',hm,w3⟩:=hN σ3 H3 n3
   exact ⟨m',hm,σ3,H3,I3,w3⟩
  | cont =>
   obtain ⟨σ3,H3,I3,n3⟩:=q3
   obtain ⟨m',hm,w3⟩:=hN σ3 H3 n3
   exact ⟨m',hm,σ3,H3,I3,w3⟩
  | brk=>exact q3
  | ret v=>exact q3
 | false =>
  rw [if_neg O2]
  exact T7 ⟨σ1,H2,I2,q2⟩
end
structure It where
 go:Nat→Hp→Prop
 LO:Nat→Hp→V→Hp→Prop
 stop:Nat→Hp→Prop
def zw (X:Cx) (pins:List (OF×Q5)) (H:Hp) (b:OF):Prop :=
 H b=none∧b≠‹27›∧b∉X.fs∧(b∈X.ex∨‹24›≤b)∧(∀ x c,X.env.cells.lookup x=some c→c≠b)∧∀ p∈X.pn++pins,p.1≠b
theorem Inv.AK {H':Hp} {s:OG} {b:OF} (I:Inv X pins σ H s) (hb:‹1›≤b) (hn:H' b=none):zw X pins H' b:=by
 refine ⟨hn,QW (OZ I.lt hb),I.Nm hb,.inr (Pq I.sz hb),fun x c e z=>?_,fun p hp z=>?_⟩
 ·obtain ⟨v,q⟩:=I.cell x c e
  exact absurd (OZ q.lt (by rw [z]; exact hb)) (PB _)
 ·exact absurd (OZ (OO (I.pin p hp).1) (by rw [z]; exact hb)) (PB _)
structure Turn (P:PL) (w:PR) (K:OA) (tg:Qg) (J:It) (fp:List OF) (it:OF) (tn:Nat→Qb→Prop):Prop where
 mem:it∈fp
 obj:∀ i h,tn i h→∀ b∈fp,∃ o,h.get? b=some o∧∀ v,o.data≠.cell v
 keep:∀ i h h',tn i h→(∀ b∈fp,∀ o,h.get? b=some o→h'.get? b=some o)→tn i h'
 item:∀ (X:Cx),X.prog=P→X.w=w→X.K=K→X.calm=true→∀ (i:Nat) (pins:List (OF×Q5)) (s:OG) (σ:St) (H:Hp) (E:OD→OG→Prop),Inv X pins σ H s→(∀ b∈fp,zw X pins H b)→tn i s.heap→J.go i H →
  OX (model P w) X.A (R6 (.ref it)) (fun r s1=>∃ u,r=some u ∧
   OX (model P w) X.A (T8 tg (.ref it) u) (fun _ s2=>∃ x H',Inv X pins σ H' s2∧RelV x u∧J.LO i H x H'∧tn (i+1) s2.heap∧∀ b∈fp,H' b=none) E s1) E s
 done:∀ (X:Cx),X.prog=P→X.w=w→X.K=K→X.calm=true→∀ (i:Nat) (pins:List (OF×Q5)) (s:OG) (σ:St) (H:Hp) (E:OD→OG→Prop),Inv X pins σ H s→(∀ b∈fp,zw X pins H b)→tn i s.heap→J.stop i H →
  OX (model P w) X.A (R6 (.ref it)) (fun r s1=>r=none∧Inv X pins σ H s1) E s
 self:∀ (A:P8) (i:Nat) (s:OG) (Q:OD→OG→Prop) (E:OD→OG→Prop),tn i s.heap→Q (.ref it) s→OX (model P w) A (Xt (.ref it)) Q E s
abbrev TI:=St→Hp→(It→Hp→Prop)→Prop
def NY (X:Cx) (pins:List (OF×Q5)) (σ:St) (tg:Qg) (R:It→Hp→Prop) (itv:OD) (s2:OG):Prop :=
 ∃ (it:OF) (fp:List OF) (tn:Nat→Qb→Prop) (J:It) (H':Hp),itv=.ref it∧Inv X pins σ H' s2∧Turn X.prog X.w X.K tg J fp it tn∧tn 0 s2.heap∧(∀ b∈fp,zw X pins H' b)∧R J H'
def PI (X:Cx) (tg iter:Qg) (wi:TI):Prop :=
 ∀ (pins:List (OF×Q5)) (s:OG) (σ:St) (H:Hp) (R:It→Hp→Prop),Inv X pins σ H s→wi σ H R →
  OX ‹7› X.A (eval iter X.env) (fun v s1=>OX ‹7› X.A (Xt v) (NY X pins σ tg R) X.xe s1) X.xe s
theorem Cg {s:OG} {n:String} {vs:Array OD} (ho:s.heap.get? it=some o) (hc:o.cls=.type n) (hd:o.data=.fields vs)
    (hn:["enumerate", "zip", "dict_itemiterator", "dict_reverseitemiterator", "odict_iterator", "itertools.zip_longest", "itertools.pairwise"].contains n=false) (hQ:Q () s):OX M A (T8 tg (.ref it) u) Q E s:=by
  unfold T8
  cases tg <;> first
    | exact OL hQ
    | (cases u <;> first
        | exact OL hQ
        | (refine wpAny_bind (wpAny_load ho ?_)
           rw [hc,hd]
           show OX M A (if (["enumerate", "zip", "dict_itemiterator", "dict_reverseitemiterator", "odict_iterator", "itertools.zip_longest", "itertools.pairwise"].contains n&&vs[0]?==some (QU _))=true then _ else _) Q E s
           rw [if_neg (by intro h; rw [hn,Bool.false_and] at h; cases h)]
           exact OL hQ))
def M8 (K:OA) (a:OF):It :=
 ⟨fun i H=>∃ xs x,dw K H a xs∧xs[i]?=some x,fun i H x H'=>H'=H∧∀ xs,dw K H a xs→xs[i]?=some x,fun i H=>∃ xs,dw K H a xs∧xs.length≤i⟩
def MP (lo:Int) (n:Nat):It:=⟨fun i _=>i<n,fun i H x H'=>H'=H∧x=.int (lo+i),fun i _=>n≤i⟩
theorem CH {w:PR} (a it:OF):Turn P w K tg (M8 K a) [it] it (fun i h=>h.IsListIter it a i) where
 mem:=by simp
 obj:=fun i h st b hb=>by
  have e:b=it:=by simpa using hb
  subst e
  obtain ⟨o,e,c,d⟩:=st
  exact ⟨o,e,fun v z=>by rw [d] at z; cases z⟩
 keep:=fun i h h' st k=>st.at fun o e=>k it (by simp) o e
 item:=by
  show 1
  subst hP hw hK
  obtain ⟨xs,x,hq,hx⟩:=hg
  obtain ⟨its,rv,p,hz⟩:=I.list hq
  obtain ⟨u,hu,ru⟩:=rv.get hx
  show 6
  refine Vi st p.isList (x:=u) (by simpa using hu) fun h' st' sb=>?_
  show 16
  obtain ⟨o,e,c,d⟩:=id st'
  exact ⟨u,rfl,Cg (s:={ s with heap:=h' }) e c d ‹11› ⟨x,H,I1,ru,⟨rfl,fun ys hy=>by rw [I.lq hy hq]; exact hx⟩,st',fun b hb=>(hf b hb).1⟩⟩
 done:=by
  show 1
  subst hP hw hK
  obtain ⟨xs,hq,hx⟩:=hg
  obtain ⟨its,rv,p,hz⟩:=I.list hq
  show 6
  have hl:=rv.length
  exact VM (I.ok.hd hc) st p.isList (by simp; omega) fun h' eb=>⟨rfl,I.turned (t':=s.toks) (fun b o hb e=>eb b o hb e) f0 f1 f3 f4 f5⟩
 self:=fun _ _ _ _ _ st h=>wpAny_pyIter_listiter st h
variable {ta:TA} {fp:List OF}
theorem zI {w:PR} (it:OF) (lo:Int) (n:Nat):Turn P w K tg (MP lo n) [it] it (fun i h=>IsRangeIter h it (lo+(i:Nat)*1) ((n:Int)-(i:Nat)) 1) where
 mem:=by simp
 obj:=fun i h st b hb=>by
  have e:b=it:=by simpa using hb
  subst e
  exact ⟨_,st,fun v z=>by
   have z':XH _=Wm v:=z
   cases z'⟩
 keep:=fun i h h' st k=>k it (by simp) _ st
 item:=by
  show 1
  subst hP hw hK
  show 6
  have W:=Walks.range (prog:=X.prog) (w:=X.w) (I.ok.hd hc) it lo 1 n
  refine W.item i s _ _ hg st fun v h' tk hv st' kk=>?_
  obtain ⟨t,rfl⟩:=hv
  have I1:Inv X pins σ H { s with heap:=h',toks:=tk }:=I.turned (fun b o hb e=>kk b o (by simpa using hb) e) f0 f1 f3 f4 f5
  refine ⟨_,rfl,Cg (s:={ s with heap:=h',toks:=tk }) (n := "range_iterator") st' rfl rfl ‹11› ⟨.int (lo+i),H,I1,⟨t,?_⟩,⟨rfl,rfl⟩,st',fun b hb=>(hf b hb).1⟩⟩
  rw [UQ]
 done:=by
  show 1
  subst hP hw hK
  show 6
  exact wpAny_pyNext_range_end (I.ok.hd hc) st (by have:n≤i:=hg; omega) fun h' eb=>⟨rfl,I.turned (t':=s.toks) (fun b o hb e=>eb b o hb e) f0 f1 f3 f4 f5⟩
 self:=fun _ _ _ _ _ st h=>wpAny_pyIter_rangeiter st h
section
variable {X:Cx} {tg:Qg}
def vq (K:OA) (tl:TE):TI:=fun σ H R=>tl σ H fun x H1=>∃ a,x=.ref a∧(∃ xs,dw K H1 a xs)∧R (M8 K a) H1
theorem HZ {l:Qg} {tl:TE} (hl:PE X l tl):PI X tg l (vq X.K tl):=by
 intro pins s σ H R I h
 refine cZ (hl pins s σ H _ I h) fun v s1 ⟨x,H1,I1,r1,q1⟩=>?_
 obtain ⟨a,e,⟨xs,hq⟩,q⟩:=q1
 subst e
 cases r1
 obtain ⟨its,rv,p,hz⟩:=I1.list hq
 refine Sm p.isList ?_
 refine ⟨‹30›,[‹30›],_,_,H1,rfl,I1.kept (t':=s1.toks) fun b o e=>OC _ e,CH a _,⟨_,OU _ rfl,rfl,rfl⟩,fun b hb=>?_,q⟩
 have e:b=s1.heap.objs.size:=by simpa using hb
 subst e
 exact I1.AK (OT _) (I1.ck.fresh (OT _))
theorem yh {s:OG} {R:It→Hp→Prop} {lo hi:Int} {t u v:Yq} {tk:Nat} (I:Inv X pins σ H s) (h1:-(2 ^ 62)≤lo) (h2:lo<2 ^ 62) (h3:-(2 ^ 62)≤hi) (h4:hi<2 ^ 62)
 (q:R (MP lo (hi-lo).toNat) H):OX ‹7› X.A (Xt (.ref ‹1›)) (NY X pins σ tg R) E { s with heap:=s.heap.push { cls:=.type "range", data:=.fields #[.int lo t,.int hi u,.int 1 v] },toks:=tk }:=by
 refine wpAny_pyIter_range (IsRange.new ..) (small_one h1 h2 h3 h4) ?_
 have I1:Inv X pins σ H { s with heap:=s.heap.push { cls:=.type "range", data:=.fields #[.int lo t,.int hi u,.int 1 v] },toks:=tk }:=I.kept fun b o e=>OC _ e
 refine ⟨‹54›.objs.size,[‹54›.objs.size],_,_,H,rfl,
  I1.kept (t':=tk) fun b o e=>OC _ e,zI _ lo (hi-lo).toNat,?_,fun b hb=>?_,q⟩
 ·have e1:lo+((0:Nat):Int)*1=lo:=by simp
  have e2:(((hi-lo).toNat:Nat):Int)-((0:Nat):Int)=Builtin.Range.rangeSize lo hi 1:=by rw [rangeSize_one]; split <;> omega
  show IsRangeIter _ _ (lo+((0:Nat):Int)*1) ((((hi-lo).toNat:Nat):Int)-((0:Nat):Int)) 1
  rw [e1,e2]
  exact OU _ rfl
 ·have e:b=‹54›.objs.size:=by simpa using hb
  subst e
  exact I1.AK (OT _) (I1.ck.fresh (OT _))
def JG (ta:TA):TI:=fun σ H R=>ta σ H fun vs H1=>∃ j:Int,vs=[.int j]∧-(2 ^ 62)≤j∧j<2 ^ 62∧R (MP 0 j.toNat) H1
def JF (ta:TA):TI:=fun σ H R=>ta σ H fun vs H1=>∃ i j:Int,vs=[.int i,.int j]∧(-(2 ^ 62)≤i∧i<2 ^ 62∧-(2 ^ 62)≤j∧j<2 ^ 62)∧R (MP i (j-i).toNat) H1
theorem eZ {a:Qg} {p:UM} (hg:Gl X "range") (hm:X.mg "range" = none) (ha:PA X [a] ta) (hs:P0 [a] X.env=[(false,eval a X.env)]:=by rfl):PI X tg (.Call (.Name "range" p) [a] [] pos) (JG ta):=by
 intro pins s σ H R I h
 refine Call_ (fT I hg hm boot_range (P4 (cZ (ha pos pins s σ H _ I h) fun us s1 ⟨vs,H1,I1,r1,q1⟩=>?_) hs rfl))
 obtain ⟨j,e,q1,q2,q⟩:=q1
 subst e
 cases r1 with
 | cons r rr =>
  cases rr
  obtain ⟨t,rfl⟩:=r
  exact call_range_1 (yh I1 ‹5› ‹5› q1 q2 (by simpa using q))
theorem C7 {a b:Qg} {p:UM} (hg:Gl X "range") (hm:X.mg "range" = none) (ha:PA X [a,b] ta) (hs:P0 [a,b] X.env=[(false,eval a X.env),(false,eval b X.env)]:=by rfl) (hs2:P0 [b] X.env=[(false,eval b X.env)]:=by rfl) :
 PI X tg (.Call (.Name "range" p) [a,b] [] pos) (JF ta):=by
 intro pins s σ H R I h
 refine Call_ (fT I hg hm boot_range (P4 (cZ (ha pos pins s σ H _ I h) fun us s1 ⟨vs,H1,I1,r1,q1⟩=>?_) (by rw [hs,hs2]) (by rw [hs2]; rfl)))
 obtain ⟨i,j,e,⟨q1,q2,q3,q4⟩,q⟩:=q1
 subst e
 cases r1 with
 | cons r rr =>
  cases rr with
  | cons r' rr =>
   cases rr
   obtain ⟨t,rfl⟩:=r
   obtain ⟨t',rfl⟩:=r'
   exact call_range_2 (yh I1 q1 q2 q3 q4 q)
def EU (wi:TI) (g:TG) (tb:TS):TS:=fun D σ H=>wi σ H fun J H1=>∃ W:Nat→Nat→St→Hp→Prop,(∃ m,W 0 m σ H1)∧∀ i m σ H,W i m σ H →
 (J.stop i H∧D.nx σ H)∨(J.go i H∧∃ N:St→Hp→Prop,(∀ σ' H',N σ' H'→∃ m',m'<m∧W (i+1) m' σ' H')∧∀ x H',J.LO i H x H'→g x σ H' fun σ2 H2=>tb { D with nx:=N,ct:=N,bk:=D.nx } σ2 H2)
def sM (fp:List OF) (h:Qb):List (OF×Q5):=fp.filterMap fun b=>(h.get? b).map fun o=>(b,o)
theorem jQ {b:OF} (hb:b∈fp) (e:h.get? b=some o):(b,o)∈sM fp h:=S8.mpr ⟨b,hb,by rw [e]; rfl⟩
theorem Df (hp:p∈sM fp h):p.1∈fp∧h.get? p.1=some p.2:=by
 obtain ⟨b,hb,e⟩:=S8.mp hp
 cases q:h.get? b with
 | none=>rw [q] at e; cases e
 | some o =>
  rw [q] at e
  have e':(b,o)=p:=Pm e
  subst e'
  exact ⟨hb,q⟩
theorem Inv.pinned {s:OG} (I:Inv X pins σ H s) (hf:∀ b∈fp,zw X pins H b) (ho:∀ b∈fp,∃ o,s.heap.get? b=some o∧∀ v,o.data≠.cell v):Inv X (pins++sM fp s.heap) σ H s :=
 I.jN fun p hp=>(O4.mp hp).elim (fun z=>I.pin p (OJ _ z)) fun z=>by
  obtain ⟨hb,e⟩:=Df z
  obtain ⟨f0,f1,f2,_⟩:=hf p.1 hb
  obtain ⟨o,e',d⟩:=ho p.1 hb
  rw [e] at e'; cases e'
  exact ⟨e,f0,f1,f2,d⟩
theorem Inv.fm {pl:List (OF×Q5)} {s:OG} (I:Inv X (pins++pl) σ H s):Inv X pins σ H s:=I.jN fun p hp=>I.pin p (OJ _ (Pa _ hp))
theorem eF {iter:Qg} {wi:TI} {g:TG} (hp:PassesOwn ‹7› X.A X.env X.xe) (hc:X.calm=true) (hi:PI X tg iter wi) (hg:PG X tg g) (hb:xM X body tb)
 (hs:∀ x,Ri iter X.env x=pure x:=by intro _; rfl):PS X (.For tg iter body [] pos) (EU wi g tb):=by
 show 21
 refine wpAny_For (cZ (hi pins s σ H _ I h) fun v s1 h1=>cZ h1 fun itv s2 h2=>?_) hs
 obtain ⟨it,fp,tn,J,H2,e,I2,T,st2,f2,W,⟨m0,w0⟩,turn⟩:=h2
 subst e
 have stat:∀ {H':Hp},(∀ b∈fp,H' b=none)→∀ b∈fp,zw X pins H' b:=fun hn b hb=>⟨hn b hb,(f2 b hb).2⟩
 refine codeAny_forLoop_any (fun n s'=>∃ i σ' H',Inv X pins σ' H' s'∧tn i s'.heap∧(∀ b∈fp,H' b=none)∧W i n σ' H') ?_ m0 ⟨0,σ,H2,I2,st2,fun b hb=>(f2 b hb).1,w0⟩
 rintro n s3 ⟨i,σ3,H3,I3,st3,fr3,w3⟩
 rcases turn i n σ3 H3 w3 with ⟨stop,qn⟩ | ⟨go,N,hN,step⟩
 ·refine RG hp (cZ (T.done X rfl rfl rfl hc i pins s3 σ3 H3 X.xe I3 (stat fr3) st3 stop) fun r s4 ⟨hr,I4⟩=>?_)
  subst hr
  exact T7 ⟨σ3,H3,I4,qn⟩
 ·refine RG hp (cZ (T.item X rfl rfl rfl hc i pins s3 σ3 H3 X.xe I3 (stat fr3) st3 go) fun r s4 ⟨u,hr,h4⟩=>?_)
  subst hr
  refine RG hp (cZ h4 fun _ s5 ⟨x,H5,I5,r5,y5,st5,fr5⟩=>?_)
  have I5':=I5.pinned (stat fr5) (T.obj _ _ st5)
  refine RG hp (cZ (hg _ s5 σ3 H5 x u _ I5' r5 (step x H5 y5)) fun _ s6 ⟨σ6,H6,I6,q6⟩=>?_)
  refine RG hp (cZ (hb _ s6 σ6 H6 _ I6 q6) fun f s7 q7=>?_)
  have again:∀ {σ7:St} {H7:Hp},Inv X (pins++sM fp s5.heap) σ7 H7 s7→N σ7 H7→∃ m,m<n∧∃ i σ' H',Inv X pins σ' H' s7∧tn i s7.heap∧(∀ b∈fp,H' b=none)∧W i m σ' H':=fun {σ7 H7} I7 n7=>by
   obtain ⟨m',hm,w7⟩:=hN σ7 H7 n7
   refine ⟨m',hm,i+1,σ7,H7,I7.fm,T.keep _ _ _ st5 fun b hb o e=>(I7.pin (b,o) (OJ _ (OJ _ (jQ hb e)))).1,fun b hb=>?_,w7⟩
   obtain ⟨o,e,d⟩:=T.obj _ _ st5 b hb
   exact (I7.pin (b,o) (OJ _ (OJ _ (jQ hb e)))).2.1
  cases f with
  | next=>obtain ⟨σ7,H7,I7,n7⟩:=q7; exact again I7 n7
  | cont=>obtain ⟨σ7,H7,I7,n7⟩:=q7; exact again I7 n7
  | brk=>obtain ⟨σ7,H7,I7,q7⟩:=q7; exact ⟨σ7,H7,I7.fm,q7⟩
  | ret v=>obtain ⟨x7,σ7,H7,I7,r7,q7⟩:=q7; exact ⟨x7,σ7,H7,I7.fm,r7,q7⟩
end
abbrev R2:=V→V→Hp→VK→Prop
def rT (X:Cx) (f:OD→OD→Sem OD) (r:R2):Prop :=
 ∀ (pins:List (OF×Q5)) (s:OG) (σ:St) (H:Hp) (x y:V) (v u:OD) (Q:VK),Inv X pins σ H s→RelV x v→RelV y u→r x y H Q →
  OX ‹7› X.A (f v u) (EP X pins σ Q) X.xe s
def ND (X:Cx) (f:OD→Sem OD) (r:V→Hp→VK→Prop):Prop :=
 ∀ (pins:List (OF×Q5)) (s:OG) (σ:St) (H:Hp) (x:V) (v:OD) (Q:VK),Inv X pins σ H s→RelV x v→r x H Q →
  OX ‹7› X.A (f v) (EP X pins σ Q) X.xe s
def dG (X:Cx) (f:OD) (r:List V→Hp→VK→Prop):Prop :=
 ∀ (pins:List (OF×Q5)) (s:OG) (σ:St) (H:Hp) (xs:List V) (us:List OD) (Q:VK),Inv X pins σ H s→Vals xs us→r xs H Q →
  OX ‹7› X.A (call f us) (EP X pins σ Q) X.xe s
def NF (X:Cx) (r:V→Hp→(Bool→Hp→Prop)→Prop):Prop :=
 ∀ (pins:List (OF×Q5)) (s:OG) (σ:St) (H:Hp) (x:V) (v:OD) (Q:Bool→Hp→Prop),Inv X pins σ H s→RelV x v→r x H Q →
  OX ‹7› X.A (truthy v) (TP X pins σ Q) X.xe s
def qF (r:R2) (ta tb:TE):TE:=fun σ H Q=>ta σ H fun x H1=>tb σ H1 fun y H2=>r x y H2 Q
def NN (r:V→Hp→VK→Prop) (ta:TE):TE:=fun σ H Q=>ta σ H fun x H1=>r x H1 Q
def rI (C:Int→Int→Prop) (g:Int→Int→V):R2:=fun x y H Q=>∃ i j,x=.int i∧y=.int j∧C i j∧Q (g i j) H
def Ai (g:Int→Int→V):R2:=fun x y H Q=>∃ i j,x=.int i∧y=.int j∧Q (g i j) H
variable {r:R2} {f:OD→OD→Sem OD}
def rU (g:Int→V):V→Hp→VK→Prop:=fun x H Q=>∃ i,x=.int i∧Q (g i) H
section
variable {X:Cx} {a b c:Qg} {ta tb tc:TE} {pos:UM}
theorem Lr (ha:PE X a ta) (hb:PE X b tb) {s:OG} {R:V→V→Hp→Prop} (I:Inv X pins σ H s)
 (h:ta σ H fun x H1=>tb σ H1 fun y H2=>R x y H2) {Q:OD→OG→Prop} {f:OD→OD→Sem OD}
 (hf:∀ v u s2 x y H2,Inv X pins σ H2 s2→RelV x v→RelV y u→R x y H2→OX ‹7› X.A (f v u) Q X.xe s2) :
 OX ‹7› X.A (eval a X.env) (fun v s₁=>OX ‹7› X.A (eval b X.env) (fun u s₂=>OX ‹7› X.A (f v u) Q X.xe s₂) X.xe s₁) X.xe s:=by
 refine cZ (ha pins s σ H _ I h) fun v s1 ⟨x,H1,I1,r1,q1⟩=>?_
 refine cZ (hb pins s1 σ H1 _ I1 q1) fun u s2 ⟨y,H2,I2,r2,q2⟩=>?_
 exact hf v u s2 x y H2 I2 r1 r2 q2
theorem aU {op:X3} (ho:rT X (TR op) r) (ha:PE X a ta) (hb:PE X b tb):PE X (.BinOp a op b pos) (qF r ta tb):=by
 show 2
 exact wpAny_BinOp (Lr ha hb I h fun v u s2 x y H2 I2 rx ry q=>ho pins s2 σ H2 x y v u Q I2 rx ry q)
theorem kq {op:UnaryOp} {r:V→Hp→VK→Prop} (ho:ND X (unaryOp op) r) (ha:PE X a ta):PE X (.UnaryOp op a pos) (NN r ta):=by
 show 2
 exact UnaryOp_ (cZ (ha pins s σ H _ I h) fun v s1 ⟨x,H1,I1,r1,q1⟩=>ho pins s1 σ H1 x v Q I1 r1 q1)
theorem MW {C:Int→Int→Prop} {g:Int→Int→Int}
 (rule:∀ (i j:Int) (t u:Yq) (s:OG) (Q:OD→OG→Prop) (E:OD→OG→Prop),C i j→Q (.int (g i j) s.toks) { s with toks:=s.toks+1 }→OX ‹7› X.A (f (.int i t) (.int j u)) Q E s) :
 rT X f (rI C fun i j=>.int (g i j)):=by
 show 4
 obtain ⟨i,j,rfl,rfl,hc,q⟩:=h
 show 14
 obtain ⟨t',rfl⟩:=ry
 exact rule i j t t' s _ _ hc ⟨.int (g i j),H,I.tok _,⟨_,rfl⟩,q⟩
theorem Mp {g:Int→Int→Int}
 (rule:∀ (i j:Int) (t u:Yq) (s:OG) (Q:OD→OG→Prop) (E:OD→OG→Prop),Q (.int (g i j) s.toks) { s with toks:=s.toks+1 }→OX ‹7› X.A (f (.int i t) (.int j u)) Q E s) :
 rT X f (Ai fun i j=>.int (g i j)):=by
 show 4
 obtain ⟨i,j,rfl,rfl,q⟩:=h
 show 14
 obtain ⟨t',rfl⟩:=ry
 exact rule i j t t' s _ _ ⟨.int (g i j),H,I.tok _,⟨_,rfl⟩,q⟩
theorem Ie {g:Int→Int→Bool}
 (rule:∀ (i j:Int) (t u:Yq) (s:OG) (Q:OD→OG→Prop) (E:OD→OG→Prop),Q (.bool (g i j)) s→OX ‹7› X.A (f (.int i t) (.int j u)) Q E s) :
 rT X f (Ai fun i j=>.bl (g i j)):=by
 show 4
 obtain ⟨i,j,rfl,rfl,q⟩:=h
 show 14
 obtain ⟨t',rfl⟩:=ry
 exact rule i j t t' s _ _ ⟨.bl (g i j),H,I,rfl,q⟩
def Eb (i j:Int):Prop:=0≤j∧j≤1000000∧i.natAbs<2 ^ 64
def LI (i j:Int):Prop:=(-(2 ^ 64)<i∧i<2 ^ 64)∨(-(2 ^ 64)<j∧j<2 ^ 64)
theorem LI.ok {i j:Int} (h:LI i j):VW i j:=by
 rcases h with ⟨h1,h2⟩ | ⟨h1,h2⟩
 ·exact .of_left (intBits_le_64 h1 h2)
 ·exact .of_right (intBits_le_64 h1 h2)
theorem eR:rT X (TR .Add) (Ai fun i j=>.int (i+j)):=Mp fun _ _ _ _ _ _ _ q=>add_int q
theorem eG:rT X (TR .Sub) (Ai fun i j=>.int (i-j)):=Mp fun _ _ _ _ _ _ _ q=>sub_int q
theorem fB:rT X (TR .Mod) (rI (fun _ j=>0<j) fun i j=>.int (i % j)):=MW fun i j _ _ _ _ _ hc q=>by
 have h1:(0:Int)<j:=hc
 exact mod_int' ‹5› (by rw [Int.fmod_eq_emod_of_nonneg i ‹5›]; exact q)
theorem FK:rT X (TR .Pow) (rI Eb fun i j=>.int (i ^ j.toNat)):=MW fun _ _ _ _ _ _ _ hc q=>pow_int_small hc.1 hc.2.1 hc.2.2 q
theorem HC {f:OD→Sem OD} {g:Int→Int}
 (rule:∀ (i:Int) (t:Yq) (s:OG) (Q:OD→OG→Prop) (E:OD→OG→Prop),Q (.int (g i) s.toks) { s with toks:=s.toks+1 }→OX ‹7› X.A (f (.int i t)) Q E s) :
 ND X f (rU fun i=>.int (g i)):=by
 intro pins s σ H x v Q I rx h
 obtain ⟨i,rfl,q⟩:=h
 show 14
 exact rule i t s _ _ ⟨.int (g i),H,I.tok _,⟨_,rfl⟩,q⟩
theorem gz:ND X (unaryOp .USub) (rU fun i=>.int (-i)):=HC fun _ _ _ _ _ q=>neg_int q
end
def mI:V→V→Bool
 | .non,.non=>true | .non,.int _=>true | .int _,.non=>true | .non,.bl _=>true | .bl _,.non=>true | .non,.str _=>true | .str _,.non=>true
 | .int _,.int _=>true | .bl _,.bl _=>true | .str _,.str _=>true | .byt _,.byt _=>true
 | .int _,.str _=>true | .str _,.int _=>true | .bl _,.str _=>true | .str _,.bl _=>true
 | _,_=>false
def N9:R2:=fun x y H Q=>mI x y=true∧Q (.bl (decide (x=y))) H
def N8:R2:=fun x y H Q=>mI x y=true∧Q (.bl (!decide (x=y))) H
theorem oT {i j:Int}:decide (V.int i=V.int j)=(i==j):=by
 rw [P6]
 simp
theorem xt {i j:Bool}:decide (V.bl i=V.bl j)=(i==j):=by
 rw [P6]
 simp
theorem rQ {i j:P2}:decide (V.str i=V.str j)=(i==j):=by
 rw [P6]
 simp
variable {us:List OD}
theorem Ct {i j:Array UInt8}:decide (V.byt i=V.byt j)=(i.toList==j.toList):=by
 rw [P6]
 cases i
 cases j
 simp
section
variable {X:Cx} {a b c:Qg} {ta tb tc:TE} {pos:UM}
theorem bV {s:OG} {Q:VK} {k k':Bool} (I:Inv X pins σ H s) (q:Q (.bl k) H) (e:k=k'):EP X pins σ Q (.bool k') s:=by
 subst e
 exact ⟨.bl k,H,I,rfl,q⟩
theorem BW:rT X (Rz .Eq) N9:=by
 show 4
 obtain ⟨hs,q⟩:=h
 cases x with
 | non =>
  cases rx
  cases y with
  | non=>cases ry; exact PySem.EqNone.eq_none_none ‹31›
  | bl j=>cases ry; exact PySem.EqNone.eq_none_bool ‹31›
  | int j=>obtain ⟨t',rfl⟩:=ry; exact PySem.EqNone.eq_none_int ‹31›
  | str j=>obtain ⟨t',rfl⟩:=ry; exact PySem.EqNone.eq_none_str ‹31›
  | _=>exact absurd (show false=true from hs) O2
 | bl i =>
  cases rx
  cases y with
  | non=>cases ry; exact PySem.EqNone.eq_bool_none ‹31›
  | bl j=>cases ry; exact eq_bool (bV I q xt)
  | str j=>obtain ⟨t',rfl⟩:=ry; exact PySem.EqMixed.eq_bool_str ‹31›
  | _=>exact absurd (show false=true from hs) O2
 | int i =>
  show 14
  cases y with
  | non=>cases ry; exact PySem.EqNone.eq_int_none ‹31›
  | int j=>obtain ⟨t',rfl⟩:=ry; exact eq_int (bV I q oT)
  | str j=>obtain ⟨t',rfl⟩:=ry; exact PySem.EqMixed.eq_int_str ‹31›
  | _=>exact absurd (show false=true from hs) O2
 | str i =>
  show 14
  cases y with
  | non=>cases ry; exact PySem.EqNone.eq_str_none ‹31›
  | bl j=>cases ry; exact PySem.EqMixed.eq_str_bool ‹31›
  | int j=>obtain ⟨t',rfl⟩:=ry; exact PySem.EqMixed.eq_str_int ‹31›
  | str j=>obtain ⟨t',rfl⟩:=ry; exact eq_str (bV I q rQ)
  | _=>exact absurd (show false=true from hs) O2
 | byt i =>
  show 14
  cases y with
  | byt j=>obtain ⟨t',rfl⟩:=ry; exact PySem.W.eq_bytes (bV I q Ct)
  | _=>exact absurd (show false=true from hs) O2
 | _=>cases y <;> exact absurd (show false=true from hs) O2
theorem BV:rT X (Rz .NotEq) N8:=by
 show 4
 obtain ⟨hs,q⟩:=h
 cases x with
 | non =>
  cases rx
  cases y with
  | non=>cases ry; exact PySem.EqNone.ne_none_none ‹31›
  | bl j=>cases ry; exact PySem.EqNone.ne_none_bool ‹31›
  | int j=>obtain ⟨t',rfl⟩:=ry; exact PySem.EqNone.ne_none_int ‹31›
  | str j=>obtain ⟨t',rfl⟩:=ry; exact PySem.EqNone.ne_none_str ‹31›
  | _=>exact absurd (show false=true from hs) O2
 | bl i =>
  cases rx
  cases y with
  | non=>cases ry; exact PySem.EqNone.ne_bool_none ‹31›
  | bl j=>cases ry; exact ne_bool (bV I q (congrArg not xt))
  | str j=>obtain ⟨t',rfl⟩:=ry; exact PySem.EqMixed.ne_bool_str ‹31›
  | _=>exact absurd (show false=true from hs) O2
 | int i =>
  show 14
  cases y with
  | non=>cases ry; exact PySem.EqNone.ne_int_none ‹31›
  | int j=>obtain ⟨t',rfl⟩:=ry; exact ne_int (bV I q (congrArg not oT))
  | str j=>obtain ⟨t',rfl⟩:=ry; exact PySem.EqMixed.ne_int_str ‹31›
  | _=>exact absurd (show false=true from hs) O2
 | str i =>
  show 14
  cases y with
  | non=>cases ry; exact PySem.EqNone.ne_str_none ‹31›
  | bl j=>cases ry; exact PySem.EqMixed.ne_str_bool ‹31›
  | int j=>obtain ⟨t',rfl⟩:=ry; exact PySem.EqMixed.ne_str_int ‹31›
  | str j=>obtain ⟨t',rfl⟩:=ry; exact ne_str (bV I q (congrArg not rQ))
  | _=>exact absurd (show false=true from hs) O2
 | byt i =>
  show 14
  cases y with
  | byt j=>obtain ⟨t',rfl⟩:=ry; exact PySem.W.ne_bytes (bV I q (congrArg not Ct))
  | _=>exact absurd (show false=true from hs) O2
 | _=>cases y <;> exact absurd (show false=true from hs) O2
theorem kZ:rT X (Rz .Lt) (Ai fun i j=>.bl (decide (i<j))):=Ie fun _ _ _ _ _ _ _ q=>lt_int q
theorem vk:rT X (Rz .LtE) (Ai fun i j=>.bl (decide (i≤j))):=Ie fun _ _ _ _ _ _ _ q=>le_int q
theorem oF:rT X (Rz .Gt) (Ai fun i j=>.bl (decide (j<i))):=Ie fun _ _ _ _ _ _ _ q=>gt_int q
theorem qK:rT X (Rz .GtE) (Ai fun i j=>.bl (decide (j≤i))):=Ie fun _ _ _ _ _ _ _ q=>ge_int q
theorem FL:rT X (Rz .Is) (fun x y H Q=>y=.non∧Q (.bl (decide (x=.non))) H):=by
 show 4
 obtain ⟨rfl,q⟩:=h
 cases ry
 refine is_none_gen (bV I q ?_)
 cases x <;> first
  | (cases rx; rfl)
  | (obtain ⟨t,rfl⟩:=rx; rfl)
theorem aX (b:Qg) (h:op≠.In:=by decide) (h2:op≠.NotIn:=by decide):TM op b=false:=by
 have e1:(op==CmpOp.In)=false:=by cases op <;> first | rfl | exact absurd rfl h
 have e2:(op==CmpOp.NotIn)=false:=by cases op <;> first | rfl | exact absurd rfl h2
 cases b <;> simp [TM,e1,e2]
theorem iS (ho:rT X (Rz op) r) (ha:PE X a ta) (hb:PE X b tb) (hm:TM op b=false):PE X (.Compare a [op] [b] pos) (qF r ta tb):=by
 show 2
 exact wpAny_Compare1 (Lr ha hb I h fun v u s2 x y H2 I2 rx ry q=>ho pins s2 σ H2 x y v u Q I2 rx ry q) hm
def Jg (t:TE):TT:=fun σ H Q=>t σ H fun x H'=>∃ k,x=.bl k∧Q k H'
theorem aT (ho:rT X (Rz op) r) (ha:PE X a ta) (hb:PE X b tb) (hm:TM op b=false):PT X (.Compare a [op] [b] pos) (Jg (qF r ta tb)):=by
 show 2
 refine VJ (cZ (ha pins s σ H _ I h) fun v s1 ⟨x,H1,I1,r1,q1⟩=>cZ (hb pins s1 σ H1 _ I1 q1) fun u s2 ⟨y,H2,I2,r2,q2⟩ =>
  cZ (ho pins s2 σ H2 x y v u _ I2 r1 r2 q2) fun c s3 ⟨z,H3,I3,r3,k,e,q3⟩=>?_) hm
 subst e
 cases r3
 exact Rh ⟨H3,I3,q3⟩
def Hb (K:OA) (x:V) (H:Hp) (k:Bool):Prop :=
 match x with
 | .non=>k=false
 | .bl b=>k=b
 | .int i=>k=(i != 0)
 | .str y=>y.length≤OE∧k=((y.length:Int) != 0)
 | .byt y=>y.size≤OE∧k=((y.size:Int) != 0)
 | .ref p=>(∃ xs,dw K H p xs∧k=!xs.isEmpty)∨(∃ xs,Hd K H p xs∧k=!xs.isEmpty)∨∃ kvs,H p=some (.dK kvs)∧k=!kvs.isEmpty
 | _=>False
theorem AF {κ:Type} {kvs:List (κ×V)} {vs:List (κ×OD)} (r:KV kvs vs):(!vs.isEmpty)=!kvs.isEmpty:=by
 cases r <;> rfl
theorem sZ {xs:List V} {its:List OD} (r:Vals xs its):(!its.toArray.isEmpty)=!xs.isEmpty:=by
 cases r <;> simp
theorem nu:(OE:Nat)<2 ^ 63:=by rw [Po]; decide
theorem JY:NF X (fun x H Q=>∃ k,Hb X.K x H k∧Q k H):=by
 intro pins s σ H x v Q I rx h
 obtain ⟨k,e,q⟩:=h
 have hl:=nu
 have hs:OE=16777216:=Po
 cases x with
 | non =>
  cases rx
  have e':k=false:=e
  subst e'
  exact truthy_none ⟨H,I,q⟩
 | bl b =>
  cases rx
  have e':k=b:=e
  subst e'
  exact Rh ⟨H,I,q⟩
 | int i =>
  show 14
  have e':k=(i != 0):=e
  subst e'
  exact WM ⟨H,I,q⟩
 | str y =>
  show 14
  obtain ⟨hy,e'⟩:y.length≤OE∧k=((y.length:Int) != 0):=e
  subst e'
  exact PySem.P.truthy_str ‹5› ⟨H,I.tok _,q⟩
 | byt y =>
  show 14
  obtain ⟨hy,e'⟩:y.size≤OE∧k=((y.size:Int) != 0):=e
  subst e'
  exact PySem.W.truthy_bytes ‹5› ⟨H,I.tok _,q⟩
 | ref p =>
  cases rx
  have e':(∃ xs,dw X.K H p xs∧k=!xs.isEmpty)∨(∃ xs,Hd X.K H p xs∧k=!xs.isEmpty)∨∃ kvs,H p=some (.dK kvs)∧k=!kvs.isEmpty:=e
  rcases e' with ⟨xs,hx,e'⟩ | ⟨xs,hx,e'⟩ | ⟨kvs,hx,e'⟩
  ·subst e'
   obtain ⟨its,r,pl,hz⟩:=I.list hx
   have hlen:=r.length
   exact wpAny_truthy_list pl.isList (by simp only [OM]; omega) ⟨H,I.tok _,by rw [sZ r]; exact q⟩
  ·subst e'
   obtain ⟨its,r,pl,hz⟩:=I.tuple hx
   have hlen:=r.length
   exact truthy_tuple pl (by simp only [OM]; omega) ⟨H,I.tok _,by rw [sZ r]; exact q⟩
  ·subst e'
   obtain ⟨hz,hS,vs,r,m⟩:kvs.length≤OE∧(p==Rl)=false∧∃ vs,KV kvs vs∧s.heap.DictOf (cY X.prog X.w) p vs:=I.ck p _ hx
   have hlen:kvs.length=vs.length:=QB r
   exact wpAny_truthy_dict hS m ‹5› ⟨H,I.tok _,by rw [AF r]; exact q⟩
 | _=>exact (show False from e).elim
theorem FA (ha:PE X a ta) (he:∀ whole,isTrue a X.env whole=(do let v ← whole; standAt a.pos; holding [v] (truthy v))) :
 PT X a (fun σ H Q=>ta σ H fun x H'=>∃ k,Hb X.K x H' k∧Q k H'):=by
 show 2
 exact isTrue_plain (cZ (ha pins s σ H _ I h) fun v s1 ⟨x,H1,I1,r1,q1⟩=>JY pins s1 σ H1 x v Q I1 r1 q1) (he _)
theorem vals1 {x:V} (r:Vals [x] us):∃ u,us=[u]∧RelV x u:=by
 cases r with
 | cons r1 r2=>cases r2; exact ⟨_,rfl,r1⟩
theorem vals2 {x y:V} (r:Vals [x,y] us):∃ u w',us=[u,w']∧RelV x u∧RelV y w':=by
 cases r with
 | cons r1 r2 =>
  cases r2 with
  | cons r3 r4=>cases r4; exact ⟨_,_,rfl,r1,r3⟩
theorem qv (hc:X.calm=true):dG X (.builtin "max") (fun xs H Q=>∃ i j,xs=[.int i,.int j]∧Q (.int (if j > i then j else i)) H):=by
 show 5
 obtain ⟨i,j,rfl,q⟩:=h
 obtain ⟨u,w',rfl,⟨t,rfl⟩,⟨t',rfl⟩⟩:=vals2 r
 refine max_two_ints (I.ok.hd hc) fun h' tk k=>⟨_,H,I.kept k,?_,q⟩
 by_cases hj:j > i
 ·rw [if_pos hj,if_pos hj]; exact ⟨_,rfl⟩
 ·rw [if_neg hj,if_neg hj]; exact ⟨_,rfl⟩
theorem vE (hc:X.calm=true):dG X (.builtin "min") (fun xs H Q=>∃ i j,xs=[.int i,.int j]∧Q (.int (if j<i then j else i)) H):=by
 show 5
 obtain ⟨i,j,rfl,q⟩:=h
 obtain ⟨u,w',rfl,⟨t,rfl⟩,⟨t',rfl⟩⟩:=vals2 r
 refine min_two_ints (I.ok.hd hc) fun h' tk k=>⟨_,H,I.kept k,?_,q⟩
 by_cases hj:j<i
 ·rw [if_pos hj,if_pos hj]; exact ⟨_,rfl⟩
 ·rw [if_neg hj,if_neg hj]; exact ⟨_,rfl⟩
def Jb (K:OA) (x:V) (H:Hp) (n:Nat):Prop :=
 match x with
 | .str y=>y.length≤OE∧n=y.length
 | .byt y=>y.size≤OE∧n=y.size
 | .ref p=>(∃ xs,dw K H p xs∧n=xs.length)∨∃ xs,Hd K H p xs∧n=xs.length
 | _=>False
theorem G1:dG X (.builtin "len") (fun xs H Q=>∃ x n,xs=[x]∧Jb X.K x H n∧Q (.int n) H):=by
 show 5
 obtain ⟨x,n,rfl,e,q⟩:=h
 obtain ⟨u,rfl,rx⟩:=vals1 r
 have hl:=nu
 have hs:OE=16777216:=Po
 cases x with
 | str y =>
  show 14
  obtain ⟨hy,e'⟩:y.length≤OE∧n=y.length:=e
  subst e'
  exact len_str ‹5› ⟨.int _,H,I.tok _,⟨_,rfl⟩,q⟩
 | byt y =>
  show 14
  obtain ⟨hy,e'⟩:y.size≤OE∧n=y.size:=e
  subst e'
  exact PySem.W.len_bytes ‹5› ⟨.int _,H,I.tok _,⟨_,rfl⟩,q⟩
 | ref p =>
  cases rx
  have e':(∃ xs,dw X.K H p xs∧n=xs.length)∨∃ xs,Hd X.K H p xs∧n=xs.length:=e
  rcases e' with ⟨xs,hx,e'⟩ | ⟨xs,hx,e'⟩
  ·subst e'
   obtain ⟨its,r',pl,hz⟩:=I.list hx
   have hlen:=r'.length
   exact Calls.call_len_list pl.isList (by simp only [OM]; omega) ⟨.int xs.length,H,I.tok _,⟨_,by simp only [OM]; rw [hlen]⟩,q⟩
  ·subst e'
   obtain ⟨its,r',pl,hz⟩:=I.tuple hx
   have hlen:=r'.length
   exact len_tuple pl (by simp only [OM]; omega) ⟨.int xs.length,H,I.tok _,⟨_,by simp only [OM]; rw [hlen]⟩,q⟩
 | _=>exact (show False from e).elim
end
structure LF (h:Qb) (x dx C:OF) (mA:P2→Option OD):Prop where
 obj:h.get? x=some (VA C dx)
 ns:h.Ns1 dx mA
 ne:dx≠x
variable {mA:P2→Option OD}
theorem Dr {dx:OF} (n:h.Ns1 dx mA):∃ od,h.get? dx=some od∧∀ name,VX name od=some (mA name):=by
 obtain ⟨o,es,ep,ho,hd,hk,_,hm⟩:=n
 refine ⟨o,ho,fun name=>?_⟩
 have e:=hm name
 unfold nsFind findBy at e
 rw [← Array.find?_toList] at e
 unfold VX
 rw [hd]
 show 20
 split
 ·rename_i y q
  rw [q] at e
  exact congrArg some e
 ·rename_i q
  rw [q] at e
  have a:es.toList.any (·.refKey)=false:=by
   rw [W5]
   intro y hy
   obtain ⟨z,t,hkey⟩:=hk y (Array.mem_toList_iff.mp hy)
   simp [DictEntry.refKey,hkey]
  have a':¬ es.toList.any (·.refKey)=true:=by rw [a]; exact O2
  rw [if_neg a']
  exact congrArg some e
theorem LF.look {x dx C:OF} (I:LF h x dx C mA):∃ od,PySem.W.InstAt h x (VA C dx) C (some od)∧∀ name,VX name od=some (mA name) :=
 let ⟨od,ho,hl⟩:=Dr I.ns
 ⟨od,⟨I.obj,rfl,rfl,ho⟩,hl⟩
theorem uc.some_of {v:V} {o:Option OD} (r:uc (some v) o):∃ u,o=some u∧RelV v u:=by
 cases o with
 | none=>exact (show False from r).elim
 | some u=>exact ⟨u,rfl,r⟩
section
variable {P:PL} {w:PR} {H H':Hp} {h h':Qb} {a C dx:OF} {fs fs':List (P2×V)}
theorem Iq (ck:jr P w H h) (e:H a=some (.ins C dx fs)):∃ mA,LF h a dx C mA∧(∀ f,uc (fs.lookup f) (mA f))∧Yu mA (fs.map (·.1))∧fs.length≤1000∧H dx=some (.own a):=by
 obtain ⟨d,z,ne,ob,mA,n,r,q⟩:=(show cu P w H h a (.ins C dx fs) from ck a _ e)
 exact ⟨mA,⟨ob,n,ne⟩,r,q,z,d⟩
end
structure MR (K:OA) (C:OF):Prop where
 pg:Xu K C Str.empty=true
 hd:W6 K C=true
 po:PySem.W.plainOver K C=true
 sa:QX K (.ref C) "__setattr__" = some (some (.builtin "object.__setattr__"))
theorem MR.get {C:OF} (c:MR K C) (f:P2):Xu K C f=true:=c.pg
structure Ov (K:OA) (C:OF) (f:P2) (v:V) (u:OD):Prop where
 at_:QX K (.ref C) f=some (some u)
 rel:RelV v u
 get:Th K u "__get__" = some none
 cp:PySem.W.copiedNames.contains f=false
structure Meth (K:OA) (C:OF) (m:P2) (f:OF):Prop where
 at_:QX K (.ref C) m=some (some (.ref f))
 fn:Yv K (.ref f)=true
 kp:Sr K (.ref f)=true
section
variable {X:Cx} {pins:List (OF×Q5)} {σ:St} {H:Hp} {s:OG} {A:P8} {E:OD→OG→Prop} {Q:OD→OG→Prop} {c:OD} {b:Bool}
inductive mK (K:OA) (H:Hp):V→OD→Prop where
 | non:mK K H .non (.type "NoneType")
 | bl (x:Bool):mK K H (.bl x) (.type "bool")
 | int (i:Int):mK K H (.int i) (.type "int")
 | str (x:P2):mK K H (.str x) (.type "str")
 | flt (x:UInt64):mK K H (.flt x) (.type "float")
 | lst {a:OF} {xs:List V} (e:H a=some (.lst xs)):mK K H (.ref a) (.type "list")
 | jS {a:OF} {o:Q5} {xs:List V} (e:H a=some (.jS o (.lst xs))):mK K H (.ref a) (.type "list")
 | tup {a:OF} {xs:List V} (e:H a=some (.tup xs)):mK K H (.ref a) (.type "tuple")
 | dK {a:OF} {kvs:List (Key×V)} (e:H a=some (.dK kvs)):mK K H (.ref a) (.type "dict")
 | dT {a:OF} {kvs:List (List Key×V)} (e:H a=some (.dT kvs)):mK K H (.ref a) (.type "dict")
 | ins {a C dx:OF} {fs:List (P2×V)} (e:H a=some (.ins C dx fs)) (cl:MR K C) (ha:QX K (.ref C) "__class__" = some (some ‹42›))
  (hn:Th K ‹42› "__get__" = some (some (.builtin "getset_descriptor.__get__"))) (M3:VB K ‹42›=some true)
  (hm:UY K C (.type "object")=some true):mK K H (.ref a) (.ref C)
theorem DF {x:V} {t:OD} (I:Inv X pins σ H s) (rx:RelV x u) (ty:mK X.K H x t) (e:Ss X.K t c=some b) (h:∀ tk,Q (.bool b) { s with toks:=tk }) :
 OX ‹7› A (call (.builtin "isinstance") [u,c]) Q E s:=by
 cases ty with
 | non=>cases (show u=Qi from rx); exact QC PySem.W.kitx_none I.yH Su e (fun z=>nomatch z) h
 | bl y=>cases (show u=WL y from rx); exact QC PySem.W.kitx_bool I.yH Su e (fun z=>nomatch z) h
 | int i=>obtain ⟨t,q⟩:=(show ∃ t,u=Xq i t from rx); cases q; exact QC PySem.W.kitx_int I.yH Su e (fun z=>nomatch z) h
 | str y=>obtain ⟨t,q⟩:=(show ∃ t,u=Xr y t from rx); cases q; exact QC PySem.W.kitx_str I.yH Su e (fun z=>nomatch z) h
 | flt y=>obtain ⟨t,q⟩:=(show ∃ t,u=Value.float y t from rx); cases q; exact QC PySem.W.kitx_float I.yH Su e (fun z=>nomatch z) h
 | @lst a xs ea =>
  cases (show u=Pf a from rx)
  obtain ⟨_,_,n,_,h1⟩:=(show cu X.prog X.w H s.heap a (.lst xs) from I.ck a _ ea)
  exact QC W7 I.yH ⟨_,h1,rfl⟩ e (fun z=>nomatch z) h
 | @jS a ob xs ea =>
  cases (show u=Pf a from rx)
  obtain ⟨_,_,_,n,_,h1⟩:=(show cu X.prog X.w H s.heap a (.jS ob (.lst xs)) from I.ck a _ ea)
  exact QC W7 I.yH ⟨_,h1,rfl⟩ e (fun z=>nomatch z) h
 | @tup a xs ea =>
  cases (show u=Pf a from rx)
  obtain ⟨_,_,_,p⟩:=(show cu X.prog X.w H s.heap a (.tup xs) from I.ck a _ ea)
  obtain ⟨o,h1,h2,_⟩:=p
  exact QC PySem.W.kitx_tuple I.yH ⟨o,h1,h2⟩ e (fun z=>nomatch z) h
 | @dK a kvs ea =>
  cases (show u=Pf a from rx)
  obtain ⟨_,_,vs,_,p⟩:=(show cu X.prog X.w H s.heap a (.dK kvs) from I.ck a _ ea)
  obtain ⟨o,es,ep,h1,h2,_⟩:=p
  exact QC W8 I.yH ⟨o,h1,h2.1⟩ e (fun z=>nomatch z) h
 | @dT a kvs ea =>
  cases (show u=Pf a from rx)
  obtain ⟨_,_,xs,_,o,es,ep,h1,h2,_⟩:=(show cu X.prog X.w H s.heap a (.dT kvs) from I.ck a _ ea)
  exact QC W8 I.yH ⟨o,h1,h2.1⟩ e (fun z=>nomatch z) h
 | @ins a C dx fs ea cl ha hn M3 hm =>
  cases (show u=Pf a from rx)
  obtain ⟨mA,O,_⟩:=Iq I.ck ea
  obtain ⟨od,J,_⟩:=O.look
  exact QC (PySem.W.kitx_own (cl.get _) cl.hd ha hn M3 hm) I.yH J e (fun z=>nomatch z) h
end
structure fO (k:Nat) (A:P8):Prop where
 hd:A.handled=none
 dp:A.depth+3*k+5<RS
 un:A.units+16*k+200<Tw
theorem fO.mono {j:Nat} (r:fO k A) (h:j≤k):fO j A:=⟨r.hd,by have:=r.dp; omega,by have:=r.un; omega⟩
theorem fO.deeper {k:Nat} {A:P8} (r:fO (k+1) A) (env:XQ):fO k (A.deeper env) :=
 ⟨r.hd,by have:=r.dp; show A.depth+1+3*k+5 < _; omega,by have:=r.un; show A.units+3+16*k+200 < _; omega⟩
theorem fO.depth {k:Nat} {A:P8} (r:fO k A):A.depth<RS:=by have:=r.dp; omega
theorem fO.units {k:Nat} {A:P8} (r:fO k A):A.units+64<Tw:=by have:=r.un; omega
def fN:TA:=fun _ H Q=>Q [] H
def cz (ta:TE) (tr:TA):TA:=fun σ H Q=>ta σ H fun x H1=>tr σ H1 fun xs H2=>Q (x::xs) H2
section
variable {X:Cx} {e:Qg} {es:List Qg} {te:TE} {t:TA} {pos:UM}
theorem ak:PA X [] fN:=fun _ _ _ _ H Q I h=>UR ⟨[],H,I,.nil,h⟩
theorem aa (ha:PE X e te) (hr:PA X es t) (hs:P0 (e::es) X.env=(false,eval e X.env)::P0 es X.env:=by rfl):PA X (e::es) (cz te t):=by
 intro pos pins s σ H Q I h
 rw [hs]
 show OX _ _ (spliced ((false,eval e X.env)::TC pos (P0 es X.env))) _ _ s
 refine Uw (cZ (ha pins s σ H _ I h) fun u s1 ⟨x,H1,I1,r1,q1⟩=>?_)
 exact cZ (hr pos pins s1 σ H1 _ I1 q1) fun us s2 ⟨xs,H2,I2,r2,q2⟩=>⟨x::xs,H2,I2,.cons r1 r2,q2⟩
def LU (t:TA):TE:=fun σ H Q=>t σ H fun xs H1=>xs.length≤OE∧∀ p,H1 p=none→Q (.ref p) (upd H1 p (.tup xs))
def J3 (t:TA):TE:=fun σ H Q=>t σ H fun xs H1=>xs.length≤OE∧∀ p,H1 p=none→Q (.ref p) (upd H1 p (.lst xs))
theorem Am {x1} (h:PA X es t):PE X (.Tuple es x1 pos) (LU t):=by
 intro pins s σ H Q I hq
 refine wpAny_Tuple_spliced (cZ (h pos pins s σ H _ I hq) fun us s1 ⟨xs,H1,I1,r,z,q⟩=>⟨by rw [← r.length]; exact z,?_⟩)
 have hf:H1 ‹30›=none:=I1.ck.fresh (OT _)
 refine ⟨.ref ‹30›,upd H1 ‹30› (.tup xs),I1.laid (t':=s1.toks) (fun b u e=>OC _ e) (OT _) ?_,rfl,q _ hf⟩
 exact ⟨z,us,r,⟨_,OU _ rfl,rfl,_,rfl⟩⟩
theorem cw (h:PA X es t):PE X (.List es pos) (J3 t):=by
 intro pins s σ H Q I hq
 refine wpAny_List_spliced (cZ (h pos pins s σ H _ I hq) fun us s1 ⟨xs,H1,I1,r,z,q⟩=>⟨by rw [← r.length]; exact z,?_⟩)
 have hf:H1 ‹30›=none:=I1.ck.fresh (OT _)
 refine ⟨.ref ‹30›,upd H1 ‹30› (.lst xs),I1.laid (t':=s1.toks) (fun b u e=>OC _ e) (OT _) ?_,rfl,q _ hf⟩
 exact ⟨z,us,0,r,OU _ rfl⟩
end
abbrev Sp:=List V→Hp→VK→XK→Prop
abbrev Eh:=List XQ→Hp→OG→XK→OD→OG→Prop
structure Jd (P:PL) (w:PR) (K:OA) (mg:P2→Option OD) (base:Qb) (A:P8) (outer:List XQ) (s:OG) (H:Hp):Prop where
 frames:A.frames=some outer
 mod:Mod K mg base
 bs:∀ b o,base.get? b=some o→s.heap.get? b=some o∧H b=none
 Cw:base.objs.size≤‹1›
 p6:s.heap.FunFrames base outer
 LK:∀ b∈Ef outer,H b=none
 ck:jr P w H s.heap
 bare:Vh s.gens
def CE (outer:List XQ) (P:PL) (w:PR) (H:Hp) (s:OG) (Q:VK) (u:OD) (s':OG):Prop :=
 ∃ v H',s'.os=s.os∧Vh s'.gens∧Un (Ef outer) [] H H' s.heap s'.heap∧jr P w H' s'.heap∧RelV v u∧Q v H'
def CR (CX:Eh) (outer:List XQ) (P:PL) (w:PR) (H:Hp) (s:OG) (Q:VK) (E:XK) (r:VY) (s':OG):Prop :=
 match r with
 | .ok (.ret u)=>CE outer P w H s Q u s'
 | .ok _=>False
 | .error e=>CX outer H s E e s'
structure dv (P:PL) (w:PR) (K:OA) (mg:P2→Option OD) (base:Qb) (CX:Eh) (k:Nat) (f:OF) (fd:PN) (ps:List P2) (sp:Sp):Prop where
 len:∀ vs H Q E,sp vs H Q E→vs.length=ps.length
 run:∀ (A:P8) (outer:List XQ) (s:OG) (H:Hp) (args:Args) (us:List OD) (vs:List V) (Q:VK) (E:XK),fO k A→Jd P w K mg base A outer s H→Wn s fd args (ps.zip us)→Vals vs us→sp vs H Q E →
  Ti (model P w) A (.call (.ref f) args) (CR CX outer P w H s Q E) s
variable {mg:P2→Option OD} {base:Qb} {CX:Eh} {fd:PN} {ps:List P2}
theorem dv.imp {w:PR} {f:OF} {sp sp':Sp} (F:dv P w K mg base CX k f fd ps sp)
 (h:∀ vs H Q E,sp' vs H Q E→sp vs H Q E):dv P w K mg base CX k f fd ps sp' :=
 ⟨fun vs H Q E q=>F.len vs H Q E (h _ _ _ _ q),fun A outer s H args us vs Q E hr he hb hv hs=>F.run A outer s H args us vs Q E hr he hb hv (h _ _ _ _ hs)⟩
section
variable {X:Cx} {pins:List (OF×Q5)} {σ:St} {H:Hp} {s s':OG}
theorem Inv.Ny (I:Inv X pins σ H s):Jd X.prog X.w X.K X.mg X.base X.A X.stack s H :=
 ⟨I.ok.frames,I.ok.mod,I.bs,Pq I.ok.Cw I.sz,I.stack,I.wa,I.ck,I.bare⟩
theorem Inv.after {Q:VK} (I:Inv X pins σ H s) (h:CE X.stack X.prog X.w H s Q u s'):EP X pins σ Q u s':=by
 obtain ⟨v,H',os,bare,un,ck,r,q⟩:=h
 obtain ⟨hh,g,d,t,os'⟩:=s'
 obtain rfl:os'=s.os:=os
 exact ⟨v,H',I.call (h':=hh) (g':=g) (d':=d) (t':=t) (ch:=[]) un ck bare (fun b z=>absurd z (by simp)),r,q⟩
end
def Bt (sp:Sp) (dvs:List V) (E:XK) (t:TA):TE:=fun σ H Q=>t σ H fun vs H1=>sp (vs++dvs) H1 Q E
def Binds (K:OA) (fd:PN) (ps:List P2) (ds:List OD):Prop :=
 ∀ (s:OG) (us:List OD),K.In s.heap→(us++ds).length=ps.length→Wn s fd ⟨us,[]⟩ (ps.zip (us++ds))
theorem Binds.all (h:∀ us:List OD,us.length=ps.length→Ux fd ⟨us,[]⟩=pure (ps.zip us)):Binds K fd ps []:=fun s us _ hl=>by
 rw [Qs] at hl ⊢
 exact .of_eq (h us hl)
variable {vs:List V}
def Passes (CX:Eh) (X:Cx) (E:XK):Prop:=∀ (pins:List (OF×Q5)) (σ:St) (H:Hp) (s:OG) (e:OD) (s':OG),Inv X pins σ H s→CX X.stack H s E e s'→X.xe e s'
section
variable {X:Cx} {CX:Eh} {k:Nat} {f C:OF} {fd:PN} {ps:List P2} {sp:Sp} {dvs:List V} {ds:List OD} {E:XK} {x m:P2} {p pos apos:UM} {e o:Qg} {es:List Qg} {ta:TE} {t:TA}
theorem Kf {s:OG} {Q:VK} (F:dv X.prog X.w X.K X.mg X.base CX k f fd ps sp) (hr:fO k X.A) (hb:Binds X.K fd ps ds) (hd:Vals dvs ds) (hx:Passes CX X E)
 (I:Inv X pins σ H s) (r:Vals vs us) (h:sp (vs++dvs) H Q E):OX ‹7› X.A (call (.ref f) us) (EP X pins σ Q) X.xe s:=by
 have r2:Vals (vs++dvs) (us++ds):=r.append hd
 have hl:(us++ds).length=ps.length:=by rw [← r2.length]; exact F.len _ _ _ _ h
 refine X4 (R7 (F.run X.A X.stack s H ⟨us,[]⟩ (us++ds) (vs++dvs) Q E hr I.Ny (hb s us I.yH hl) r2 h) fun r s' hq=>?_)
 cases r with
 | error e=>exact hx pins σ H s e s' I hq
 | ok fl =>
  cases fl with
  | ret u=>exact I.after hq
  | next=>exact R5 hq
  | brk=>exact R5 hq
  | cont=>exact R5 hq
theorem aQ (F:dv X.prog X.w X.K X.mg X.base CX k f fd ps sp) (hr:fO k X.A) (hg:Gl X x) (hm:X.mg x=some (.ref f)) (hk:Sr X.K (.ref f)=true) (hb:Binds X.K fd ps ds) (hd:Vals dvs ds) (hx:Passes CX X E)
 (ha:PA X (e::es) t) (hdb:(x==("__debug__" : P2))=false:=by decide) (he:P0 (e::es) X.env=(false,eval e X.env)::P0 es X.env:=by rfl) (hpl:(TC pos (P0 es X.env)).any (·.1)=false:=by rfl) :
 PE X (.Call (.Name x p) (e::es) [] pos) (Bt sp dvs E t):=by
 show 2
 refine Q6 (B4 I hg hm ?_ hdb)
 refine PySem.W.callWith_K (h₀:=X.base) I.ok.mod.MY hk (cZ (ha pos pins s σ H _ I h) fun us s1 ⟨vs,H1,I1,r,q⟩=>⟨I1.yH,?_⟩) he hpl
 exact Kf F hr hb hd hx I1 r q
structure Mk (K:OA) (C f:OF):Prop where
 makes:XR K C=true
 init:QX K (.ref C) "__init__" = some (some (.ref f))
 fn:Yv K (.ref f)=true
 kp:Sr K (.ref C)=true
end
section
variable {X:Cx} {CX:Eh} {k:Nat} {f C:OF} {fd:PN} {ps ks:List P2} {sp:Sp} {E:XK} {x m:P2} {p pos apos kpos:UM} {e o:Qg} {es:List Qg} {kws:List Wo} {te ta:TE} {t tk:TA} {nm:Option P2}
structure NH (K:OA) (fd:PN) (ps ks:List P2) (g:List OD→List OD→List OD) (gV:List V→List V→List V):Prop where
 to:∀ (s:OG) (us ws:List OD),K.In s.heap→(g us ws).length=ps.length→Wn s fd ⟨us,ks.zip ws⟩ (ps.zip (g us ws))
 rel:∀ {vs:List V} {us:List OD} {zs:List V} {ws:List OD},Vals vs us→Vals zs ws→Vals (gV vs zs) (g us ws)
variable {g:List OD→List OD→List OD} {gV:List V→List V→List V}
end
structure bq (N P:List P2) (sc:Sb):Prop where
 kind:sc.kind=.function
 co:sc.isCoroutine=false
 gen:sc.isGenerator=false
 nd:N.Nodup
 pre:N.take P.length=P
 par:∀ x∈P,sc.names.lookup x=some .local∨sc.names.lookup x=some .cell
 Kz:∀ y∈sc.names,y.2≠.free
theorem vG {kindOf:P2→Option U8} {x:P2}:∀ {binds:List (P2×OD)} {m:P2→Option OD},(∀ v,(x,v)∉binds)→X5 kindOf binds m x=m x
 | [],_,_=>rfl
 | (n,v)::r,m,h=>by
  unfold X5
  rw [vG fun w hw=>h w (OI _ hw)]
  split
  ·have:x≠n:=by rintro rfl; exact h v ON
   simp [this]
  ·rfl
theorem vI {kindOf:P2→Option U8} {x:P2}:∀ {binds:List (P2×OD)} {m:P2→Option OD},(∀ v,(x,v)∉binds)→X6 kindOf binds m x=m x
 | [],_,_=>rfl
 | (n,v)::r,m,h=>by
  unfold X6
  rw [vI fun w hw=>h w (OI _ hw)]
  split
  ·rfl
  ·have:x≠n:=by rintro rfl; exact h v ON
   simp [this]
theorem vH {kindOf:P2→Option U8} {x:P2} {v:OD}:∀ {P:List P2} {vs:List OD} {i:Nat} {m:P2→Option OD},P.Nodup→P[i]?=some x→vs[i]?=some v→kindOf x=some .local →
 X5 kindOf (P.zip vs) m x=some v
 | [],_,_,_,_,h,_,_=>by simp at h
 | _::_,[],_,_,_,_,h,_=>by simp at h
 | p::P,w::vs,0,m,nd,h1,h2,hk=>by
  simp at h1 h2; subst h1; subst h2
  show X5 kindOf ((p,w)::P.zip vs) m p=_
  unfold X5
  rw [vG fun v hv=>(Pc.mp nd).1 (Q4 hv).1,if_pos hk]
  simp
 | p::P,w::vs,i+1,m,nd,h1,h2,hk=>by
  show X5 kindOf ((p,w)::P.zip vs) m x=_
  unfold X5
  exact vH (i:=i) (Pc.mp nd).2 (by simpa using h1) (by simpa using h2) hk
theorem vJ {kindOf:P2→Option U8} {x:P2} {v:OD}:∀ {P:List P2} {vs:List OD} {i:Nat} {m:P2→Option OD},P.Nodup→P[i]?=some x→vs[i]?=some v→kindOf x≠some .local →
 X6 kindOf (P.zip vs) m x=some v
 | [],_,_,_,_,h,_,_=>by simp at h
 | _::_,[],_,_,_,_,h,_=>by simp at h
 | p::P,w::vs,0,m,nd,h1,h2,hk=>by
  simp at h1 h2; subst h1; subst h2
  show X6 kindOf ((p,w)::P.zip vs) m p=_
  unfold X6
  rw [vI fun v hv=>(Pc.mp nd).1 (Q4 hv).1,if_neg hk]
  simp
 | p::P,w::vs,i+1,m,nd,h1,h2,hk=>by
  show X6 kindOf ((p,w)::P.zip vs) m x=_
  unfold X6
  exact vJ (i:=i) (Pc.mp nd).2 (by simpa using h1) (by simpa using h2) hk
def start (N:List P2) (vs:List V):St:=vs.map some++OY (N.length-vs.length) none
def tW (CX:Eh) (P:PL) (w:PR) (K:OA) (mg:P2→Option OD) (base:Qb) (N:List P2) (qual:P2) (scope:Sb) (f:OF) (cd:OD) (A:P8) (outer:List XQ) (s:OG) (H:Hp) (E:XK):Cx where
 prog:=P
 w:=w
 K:=K
 mg:=mg
 base:=base
 A:=A.deeper (Vj qual scope ‹1› f cd)
 N:=N
 s₀:=s
 H₀:=H
 env:=Vj qual scope ‹1› f cd
 outer:=outer
 stack:=Vj qual scope ‹1› f cd::outer
 ex:=[]
 calm:=true
 fn:=fun _=>true
 pn:=[]
 xe:=fun e s'=>OX (model P w) (A.deeper (Vj qual scope ‹1› f cd)) (leaving (Vj qual scope ‹1› f cd) e) (fun _ s''=>CX outer H s E e s'') (fun e' s''=>CX outer H s E e' s'') s'
theorem zd {sc:Sb} (h:sc.names.lookup x=some .cell):∃ c,(Qo n sc.names []).lookup x=some c:=by
 have q:=Tj sc.names n [] (.inl h)
 exact UZ.mp q
variable {scope:Sb}
theorem DH {w:PR} {N:List P2} {qual:P2} {f:OF} {cd:OD} {outer:List XQ} {s s1:OG} {E:XK}
 (S:bq N ps scope) (hd:A.handled=none) (e0:Jd P w K mg base A outer s H) (hl:vs.length=ps.length) (r:Vals vs us)
 (x:InCallC s ‹1› (X5 (Vj qual scope ‹1› f cd).kindOf (ps.zip us) fun _=>none) (Qo (‹1›+1) scope.names []) (X6 (Vj qual scope ‹1› f cd).kindOf (ps.zip us) fun _=>none) s1) :
 Inv (tW CX P w K mg base N qual scope f cd A outer s H E) [] (start N vs) H s1:=by
 have hpl:ps.length≤N.length:=by have:=congrArg XI S.pre; rw [U9] at this; omega
 obtain ⟨h1,tk,rfl,hk⟩:=x.done
 have noA:∀ b:OF,b∉(tW CX P w K mg base N qual scope f cd A outer s H E).ex:=fun b z=>absurd (show b∈([]:List OF) from z) (by simp)
 refine ⟨⟨e0.mod,S.kind,rfl,rfl,OT _,fun y z c h1 h2=>?_,fun y hy=>?_,fun y c _ h=>?_,fun _=>hd,VZ e0.frames,.inr ⟨rfl,rfl⟩,fun b z=>absurd z (noA b),e0.bs,e0.Cw,fun b _ _=>noA b,fun b z=>absurd z (noA b),e0.p6,e0.LK⟩,
  rfl,e0.bare,Un.kept hk,⟨_,x.toInCall.ns,fun i y v h1 h2 h3=>?_⟩,fun y c h=>⟨_,x.cell y c h⟩,e0.ck.fresh (OT _),fun y c h=>?_,fun p hp=>absurd (show p∈([]:List (OF×Q5)) from hp) (by simp),e0.ck.kept hk,?_⟩
 ·exact name_of_addr x.apart (QG h1) (QG h2)
 ·have hy:scope.names.lookup y=some .cell∨scope.names.lookup y=some .free:=hy
  rcases hy with hy | hy
  ·exact zd hy
  ·exact absurd rfl (S.Kz _ (QG hy))
 ·exact QO (x.above y c (QG h))
 ·have hi:i<vs.length:=by
   unfold start at h2
   by_cases hi:i<vs.length
   ·exact hi
   ·rw [Py (by simpa using hi)] at h2
    rw [PY] at h2
    split at h2 <;> cases h2
  have ha:vs[i]?=some v:=by
   unfold start at h2
   rw [Pe (by simpa using hi),OH] at h2
   cases e:vs[i]? with
   | none=>rw [e] at h2; cases h2
   | some a=>rw [e] at h2; cases h2; rfl
  obtain ⟨u,hu,rv⟩:=r.get ha
  have hp:ps[i]?=some y:=by
   rw [← S.pre,List.getElem?_take_of_lt ‹5›]; exact h1
  have ndP:ps.Nodup:=by rw [← S.pre]; exact S.nd.sublist (W9 _ _)
  refine ⟨u,rv,?_⟩
  rcases S.par y (PD hp) with k | k
  ·exact .inl ⟨k,vH ndP hp hu k⟩
  ·obtain ⟨c,e⟩:=zd (n:=‹1›+1) k
   refine .inr ⟨.inl k,c,e,?_⟩
   have q:=x.cell y c e
   rw [vJ ndP hp hu (by show scope.names.lookup y≠_; rw [k]; decide)] at q
   exact q
 ·exact e0.ck.fresh (QO (x.above y c (QG h)))
 ·unfold start
  show _=N.length
  rw [O1,Oy,Pu]
  omega
theorem JI {w:PR} {f:OF} {name qual:P2} {params:Uq} {dV kV doc pm cdv ct oc:OD} {an od:Option OF}
 {osl:Array (Option OD)} {N ps:List P2} {sp:Sp} (lk:K.lookup f=some ⟨oc,od,.func (SH name qual params body scope dV kV doc pm an cdv ct),osl⟩) (hcd:V0 K cdv qual=true) (S:bq N ps scope)
 (len:∀ vs H Q E,sp vs H Q E→vs.length=ps.length)
 (hbody:∀ (A:P8) (outer:List XQ) (s:OG) (H:Hp) (vs:List V) (Q:VK) (E:XK),fO k (A.deeper (Vj qual scope ‹1› f cdv))→sp vs H Q E →
  ∃ t,xM (tW CX P w K mg base N qual scope f cdv A outer s H E) body t∧t { nx:=fun _ H'=>Q .non H',rt:=Q } (start N vs) H) :
 dv P w K mg base CX (k+1) f (SH name qual params body scope dV kV doc pm an cdv ct) ps sp:=by
 refine ⟨len,fun A outer s H args us vs Q E hr e0 hb r hsp=>?_⟩
 have hl:=len _ _ _ _ hsp
 have KX:K.In s.heap:=e0.mod.MY.keeps fun b o e=>(e0.bs b o e).1
 have lim:s.heap.NoLimit:=e0.mod.nolimit.keeps fun b o e=>(e0.bs b o e).1
 have hkind:∀ y∈ps.zip us,scope.names.lookup y.1=some .local∨(scope.names.lookup y.1=some .cell∧((Qo (‹1›+1) scope.names []).lookup y.1).isSome=true):=fun ⟨n,v⟩ hy=>by
  rcases S.par n (Q4 hy).1 with q | q
  ·exact .inl q
  ·exact .inr ⟨q,Tj _ _ _ (.inl q)⟩
 refine codeAny_call_function hr.depth (KX _ _ lk) rfl S.co S.gen rfl (PySem.W.codeRec_of KX hcd) (hb _ _ _ _ ?_)
 refine wpAny_newFunctionEnv_cells S.kind hkind fun env he s1 x=>?_
 subst he
 refine ⟨lim.keeps x.toInCall.keep,codeAny_func ?_⟩
 obtain ⟨t,ht,hq⟩:=hbody A outer s H vs Q E (hr.deeper _) hsp
 have I:Inv (tW CX P w K mg base N qual scope f cdv A outer s H E) [] (start N vs) H s1:=DH S hr.hd e0 hl r x
 refine Qw (ht [] s1 (start N vs) H _ I hq) (fun fl s' hs=>?_) fun e s' hs=>hs
 have fin:∀ {σ':St} {H':Hp} {v:V} {u:OD},Inv (tW CX P w K mg base N qual scope f cdv A outer s H E) [] σ' H' s'→RelV v u→Q v H'→CE outer P w H s Q u s' :=
  fun {σ' H' v u} J rv q=>⟨v,H',J.os,J.bare,J.base,J.ck,rv,q⟩
 cases fl with
 | ret u =>
  obtain ⟨v,σ',H',J,rv,q⟩:=hs
  exact fin J rv q
 | next =>
  obtain ⟨σ',H',J,q⟩:=hs
  exact fin (v:=V.non) (u:=Qi) J rfl q
 | brk =>
  obtain ⟨_,_,_,q⟩:=hs
  exact R5 q
 | cont =>
  obtain ⟨_,_,_,q⟩:=hs
  exact R5 q
section
variable {X:Cx} {x:P2} {p pos:UM} {e:Qg} {es:List Qg} {t:TA} {id T:String} {r:List V→Hp→VK→Prop}
def xX (r:List V→Hp→VK→Prop) (t:TA):TE:=fun σ H Q=>t σ H fun vs H1=>r vs H1 Q
theorem aH (hc:dG X (.builtin id) r) (hg:Gl X x) (hm:X.mg x=none) (hv:PZ x=some (.builtin id)) (ha:PA X (e::es) t) (hn:x ≠ "__name__" := by decide) (hdb:(x==("__debug__" : P2))=false:=by decide)
 (he:P0 (e::es) X.env=(false,eval e X.env)::P0 es X.env:=by rfl) (hpl:(TC pos (P0 es X.env)).any (·.1)=false:=by rfl):PE X (.Call (.Name x p) (e::es) [] pos) (xX r t):=by
 show 2
 refine Q6 (fT I hg hm hv ?_ hn hdb)
 exact TF (cZ (ha pos pins s σ H _ I h) fun us s1 ⟨vs,H1,I1,r1,q1⟩=>hc pins s1 σ H1 vs us Q I1 r1 q1) he hpl
theorem mj (hc:dG X (.type T) r) (hg:Gl X x) (hm:X.mg x=none) (hv:PZ x=some (.type T)) (ha:PA X (e::es) t) (hn:x ≠ "__name__" := by decide) (hdb:(x==("__debug__" : P2))=false:=by decide)
 (he:P0 (e::es) X.env=(false,eval e X.env)::P0 es X.env:=by rfl) (hpl:(TC pos (P0 es X.env)).any (·.1)=false:=by rfl):PE X (.Call (.Name x p) (e::es) [] pos) (xX r t):=by
 show 2
 refine Q6 (fT I hg hm hv ?_ hn hdb)
 exact P4 (cZ (ha pos pins s σ H _ I h) fun us s1 ⟨vs,H1,I1,r1,q1⟩=>hc pins s1 σ H1 vs us Q I1 r1 q1) he hpl
end
end L2
namespace HT
open PySem PyProof.Rows
def lexLt:List Int→List Int→Bool
 | [],[]=>false
 | [],_::_=>true
 | _::_,[]=>false
 | x::xs,y::ys=>if x=y then lexLt xs ys else decide (x<y)
section
variable {prog:PL} {w:PR} {A:P8} {E:OD→OG→Prop} {s:OG}
def uB (n d:Nat):Option Int→Nat
 | none=>d
 | some v=>if v<0 then (v+(n:Int)).toNat else min v.toNat n
end
end HT
namespace L2
open PySem PySem.Spec PyProof.Rows
abbrev TO:=St→Hp→(Option Int→Hp→Prop)→Prop
def PO (X:Cx) (e:Option Qg) (t:TO):Prop :=
 ∀ (pins:List (OF×Q5)) (s:OG) (σ:St) (H:Hp) (Q:Option Int→Hp→Prop),Inv X pins σ H s→t σ H Q →
  OX ‹7› X.A (evalPart e X.env) (fun u s'=>∃ o H',Inv X pins σ H' s'∧IsPart u o∧Q o H') X.xe s
def Br:TO:=fun _ H Q=>Q none H
def Jj (t:TE):TO:=fun σ H Q=>t σ H fun x H1=>∃ i,x=.int i∧Q (some i) H1
theorem intsAre_of {ns:List Int}:∀ {us:List OD},Vals ‹49› us→RJ us ns:=by
 induction ns with
 | nil=>intro us r; rw [Q9] at r; cases r; exact .nil
 | cons n ns ih =>
  intro us r
  rw [O9] at r
  cases r with
  | cons r1 r2 =>
   obtain ⟨t,e⟩:=r1
   subst e
   exact .cons n t (ih r2)
section
variable {X:Cx} {e:Qg} {te:TE} {lo hi:Option Qg} {tl th:TO} {pos p2:UM}
theorem oC:PO X none Br:=by
 show 2
 rw [evalPart_none]
 exact OL ⟨none,H,I,.none,h⟩
theorem gX (h:PE X e te):PO X (some e) (Jj te):=by
 intro pins s σ H Q I hw
 rw [evalPart_some]
 refine cZ (h pins s σ H _ I hw) fun u s1 ⟨x,H1,I1,r1,q1⟩=>?_
 obtain ⟨i,rfl,q⟩:=q1
 obtain ⟨t,rfl⟩:=r1
 exact ⟨some i,H1,I1,.int i t,q⟩
def NG (X:Cx) (r:V→Option Int→Option Int→Hp→VK→Prop):Prop :=
 ∀ (pins:List (OF×Q5)) (s:OG) (σ:St) (H:Hp) (x:V) (v vl vu:OD) (lo hi:Option Int) (sl:OF) (Q:VK),Inv X pins σ H s→RelV x v→s.heap.IsSliceOf sl vl vu .none→IsPart vl lo→IsPart vu hi→r x lo hi H Q →
  ∃ T id,WN (.type T) "__getitem__" = pure (some (.builtin id))∧s.TypeIs v T∧OX ‹7› X.A (Wl v (.ref sl)) (EP X pins σ Q) X.xe s
def NO (r:V→Option Int→Option Int→Hp→VK→Prop) (te:TE) (tl th:TO):TE:=fun σ H Q=>te σ H fun x H1=>tl σ H1 fun l H2=>th σ H2 fun u H3=>r x l u H3 Q
theorem FF {r:V→Option Int→Option Int→Hp→VK→Prop} (hr:NG X r) (he:PE X e te) (hl:PO X lo tl) (hu:PO X hi th):PE X (.Subscript e (.Slice lo hi none p2) pos) (NO r te tl th):=by
 show 2
 refine WO (cZ (he pins s σ H _ I h) fun v s1 ⟨x,H1,I1,r1,q1⟩=>?_)
 refine wpAny_Slice (cZ (hl pins s1 σ H1 _ I1 q1) fun vl s2 ⟨l,H2,I2,pl,q2⟩=>cZ (hu pins s2 σ H2 _ I2 q2) fun vu s3 ⟨u,H3,I3,pu,q3⟩=>?_)
 rw [evalPart_none]
 refine OL ?_
 have I4:Inv X pins σ H3 { s3 with heap:=s3.heap.push { cls:=.type "slice", data:=.fields #[vl,vu,.none] } }:=I3.kept (t':=s3.toks) fun b ob q=>OC _ q
 obtain ⟨T,id,hT,ht,hg⟩:=hr pins { s3 with heap:=s3.heap.push { cls:=.type "slice", data:=.fields #[vl,vu,.none] } } σ H3 x v vl vu l u s3.heap.objs.size Q I4 r1 (WQ ..) pl pu q3
 show OX ‹7› X.A (U0 e (.Slice lo hi none p2) v (.ref s3.heap.objs.size)) (EP X pins σ Q) X.xe { s3 with heap:=s3.heap.push { cls:=.type "slice", data:=.fields #[vl,vu,.none] } }
 exact tail_any (ops:=[.ref s3.heap.objs.size,v]) ht hT hg (by with_unfolding_all rfl)
def D1 (xs:List V) (lo hi:Option Int):List V:=(xs.drop (HT.uB xs.length 0 lo)).take (HT.uB xs.length xs.length hi-HT.uB xs.length 0 lo)
theorem qT (xs:List V) (lo hi:Option Int):(D1 xs lo hi).length≤xs.length:=by
 unfold D1
 rw [U9,Va]
 omega
end
def ixN (n:Nat) (i:Int):Option Nat:=if 0≤i then (if i<n then some i.toNat else none) else if -(n:Int)≤i then some (i+n).toNat else none
def kL {α:Type} (xs:List α) (i:Int):Option α:=(ixN xs.length i).bind fun j=>xs[j]?
variable {n:Nat}
theorem Cc {i:Int} {j:Nat} (h:ixN n i=some j):seqIndex? i n=some j∧j<n∧-(n:Int)≤i∧i<n:=by
 unfold ixN at h
 by_cases h0:0≤i
 ·rw [if_pos h0] at h
  by_cases h1:i<n
  ·rw [if_pos h1] at h
   have e:i.toNat=j:=Pm h
   exact ⟨by rw [V1 h0 h1,e],by omega,by omega,h1⟩
  ·rw [if_neg h1] at h; cases h
 ·rw [if_neg h0] at h
  by_cases h1:-(n:Int)≤i
  ·rw [if_pos h1] at h
   have e:(i+n).toNat=j:=Pm h
   exact ⟨by rw [Vk ‹5› h1,e],by omega,h1,by omega⟩
  ·rw [if_neg h1] at h; cases h
variable {α:Type}
theorem rR {xs:List α} {i:Int} {v:α} (h:kL xs i=some v):∃ j,seqIndex? i xs.length=some j∧xs[j]?=some v∧j<xs.length∧-(xs.length:Int)≤i∧i<xs.length:=by
 unfold kL at h
 cases e:ixN xs.length i with
 | none=>rw [e] at h; cases h
 | some j =>
  rw [e] at h
  obtain ⟨h1,h2,h3,h4⟩:=Cc e
  exact ⟨j,h1,h,h2,h3,h4⟩
def IZ (b:Qg):Prop:=∀ o i,V2 b false o i=operate [o,i] (Wl o i)
def Hs (X:Cx) (r:R2):Prop :=
 ∀ (value slice:Qg) (pins:List (OF×Q5)) (s:OG) (σ:St) (H:Hp) (x y:V) (v u:OD) (Q:VK),Inv X pins σ H s→RelV x v→RelV y u→r x y H Q →
  V2 slice false v u=operate [v,u] (Wl v u)→OX ‹7› X.A (U0 value slice v u) (EP X pins σ Q) X.xe s
variable {pins:List (OF×Q5)} {σ:St} {H:Hp} {its:List OD}
def Oi (X:Cx) (id:String) (r:V→List V→Hp→VK→Prop):Prop :=
 ∀ (pins:List (OF×Q5)) (s:OG) (σ:St) (H:Hp) (x:V) (xs:List V) (v:OD) (us:List OD) (Q:VK),Inv X pins σ H s→RelV x v→Vals xs us→r x xs H Q →
  OX ‹7› X.A (call (.builtin id) (v::us)) (EP X pins σ Q) X.xe s
section
variable {X:Cx} {a b:Qg} {ta tb:TE} {pos:UM}
theorem Hs.or {r r':R2} (h:Hs X r) (h':Hs X r'):Hs X (fun x y H Q=>r x y H Q∨r' x y H Q):=by
 intro value slice pins s σ H x y v u Q I rx ry q hs
 rcases q with q | q
 ·exact h value slice pins s σ H x y v u Q I rx ry q hs
 ·exact h' value slice pins s σ H x y v u Q I rx ry q hs
theorem aG {r:R2} (hr:Hs X r) (ha:PE X a ta) (hb:PE X b tb) (hs:IZ b):PE X (.Subscript a b pos) (qF r ta tb):=by
 show 2
 exact WO (Lr ha hb I h fun v u s2 x y H2 I2 rx ry q=>hr a b pins s2 σ H2 x y v u Q I2 rx ry q (hs _ _))
def Fz (K:OA):R2:=fun x y H Q=>∃ p xs i v,x=.ref p∧y=.int i∧dw K H p xs∧kL xs i=some v∧Q v H
def Mg (K:OA):R2:=fun x y H Q=>∃ p xs i v,x=.ref p∧y=.int i∧Hd K H p xs∧kL xs i=some v∧Q v H
def Mh:R2:=fun x y H Q=>∃ z i c,x=.str z∧y=.int i∧z.length≤OE∧kL z.cps.toList i=some c∧Q (.str ⟨#[c]⟩) H
theorem Im:Hs X (Fz X.K):=by
 intro value slice pins s σ H x y v u Q I rx ry h hs
 obtain ⟨p,xs,i,z,rfl,rfl,hq,he,q⟩:=h
 cases rx
 obtain ⟨t,rfl⟩:=ry
 obtain ⟨its,r,pl,hz⟩:=I.list hq
 obtain ⟨j,h1,h2,h3,h4,h5⟩:=rR he
 obtain ⟨w,ew,rw'⟩:=r.get h2
 have hl:=r.length
 have hn:=nu
 have fin:EP X pins σ Q w s:=⟨z,H,I,rw',q⟩
 by_cases h0:0≤i
 ·have hj:i.toNat=j:=by
   rw [V1 h0 h5] at h1
   exact Pm h1
  exact item_listR pl.isList h0 ‹5› (by rw [hj]; simpa using ew) fin hs
 ·have hj:(i+(its.toArray.size:Int)).toNat=j:=by
   rw [Vk ‹5› h4] at h1
   rw [OM,← hl]
   exact Pm h1
  exact Vl (x:=w) pl.isList.typeIs US.lookup
   (Vm (Q:=fun r s'=>r=w∧EP X pins σ Q r s') pl.isList ‹5› (by rw [OM] <;> omega) ‹5› (by rw [hj]; simpa using ew) ⟨rfl,fin⟩) hs
theorem K3:Hs X (Mg X.K):=by
 intro value slice pins s σ H x y v u Q I rx ry h hs
 obtain ⟨p,xs,i,z,rfl,rfl,hq,he,q⟩:=h
 cases rx
 obtain ⟨t,rfl⟩:=ry
 obtain ⟨its,r,pl,hz⟩:=I.tuple hq
 obtain ⟨j,h1,h2,h3,h4,h5⟩:=rR he
 obtain ⟨w,ew,rw'⟩:=r.get h2
 have hl:=r.length
 have hn:=nu
 have fin:EP X pins σ Q w s:=⟨z,H,I,rw',q⟩
 exact Vl (x:=w) pl.typeIs slot_tuple_getitem.lookup
  (getItem_tuple (j:=j) (Q:=fun r s'=>r=w∧EP X pins σ Q r s') pl ‹5› ‹5› (by rw [OM,← hl]; exact h1) (by simpa using ew) ⟨rfl,fin⟩) hs
theorem K4:Hs X Mh:=by
 intro value slice pins s σ H x y v u Q I rx ry h hs
 obtain ⟨z,i,c,rfl,rfl,hz,he,q⟩:=h
 show 14
 obtain ⟨t',rfl⟩:=ry
 obtain ⟨j,h1,h2,h3,h4,h5⟩:=rR he
 have hl:z.cps.toList.length=z.length:=by simp [Str.length]
 rw [hl] at h1 h4 h5
 have hn:=nu
 exact tail_any (typeIs_str s z t) slot_str_getitem.lookup (getItem_str (c:=c) (by
  have e1:decide (i < -(2 ^ 63:Int))=false:=decide_eq_false ‹5›
  have e2:decide (i ≥ 2 ^ 63)=false:=decide_eq_false ‹5›
  rw [e1,e2,WG]) (by rw [h1]; simpa using h2) ⟨.str ⟨#[c]⟩,H,I.tok _,⟨_,rfl⟩,q⟩) hs
def Jx (K:OA):R2:=fun x y H Q=>Fz K x y H Q∨Mg K x y H Q∨Mh x y H Q
theorem K5:Hs X (Jx X.K):=Im.or (K3.or K4)
theorem Ax (its:List OD) (n j:Nat) (u:OD):Pw (·.setIfInBounds j u) { cls:=.type "list", data:=.seq its.toArray n }={ cls:=.type "list", data:=.seq (its.set j u).toArray n }:=by
 simp [Pw]
theorem Inv.lst {pins:List (OF×Q5)} {σ:St} {H:Hp} {s:OG} {p:OF} {xs:List V} (I:Inv X pins σ H s) (h:H p=some (.lst xs)) :
 ∃ (its:List OD) (n:Nat),Vals xs its∧s.heap.get? p=some { cls:=.type "list", data:=.seq its.toArray n }∧xs.length≤OE:=by
 obtain ⟨z,its,n,r,e⟩:=I.ck p _ h
 exact ⟨its,n,r,e,z⟩
theorem Inv.KG {s:OG} {p:OF} {xs ys:List V} {its':List OD} {n':Nat} {f:Q5→Q5} (I:Inv X pins σ H s) (h:H p=some (.lst xs))
 (ho:s.heap.get? p=some { cls:=.type "list", data:=.seq its.toArray n }) (hf:f { cls:=.type "list", data:=.seq its.toArray n }={ cls:=.type "list", data:=.seq its'.toArray n' }) (r:Vals ys its') (hz:ys.length≤OE) (t:Nat) :
 Inv X pins σ (upd H p (.lst ys)) { s with heap:=s.heap.update p f,toks:=t }:=by
 have e:(s.heap.update p f).get? p=some { cls:=.type "list", data:=.seq its'.toArray n' }:=by
  rw [P1 f ho (by rw [hf] <;> rfl),hf]
 refine I.write (x:=p) (e:=p) (by rw [h]; trivial) (.inl rfl) (fun b u hb q=>(PJ _ _ (P9 hb)).trans q) ⟨_,e⟩ ?_
 exact ⟨hz,its',n',r,e⟩
def BK:V→V→V→Hp→(Hp→Prop)→Prop:=fun o i v H Q=>∃ p xs k j,o=.ref p∧i=.int k∧H p=some (.lst xs)∧ixN xs.length k=some j∧Q (upd H p (.lst (xs.set j v)))
theorem set_list:LB X BK:=by
 intro pins s σ H o i v ov iv u Q I ro ri rv h
 obtain ⟨p,xs,k,j,rfl,rfl,hp,hj,q⟩:=h
 cases ro
 obtain ⟨t,rfl⟩:=ri
 obtain ⟨its,n,r,ho,hz⟩:=I.lst hp
 obtain ⟨h1,h2,h3,h4⟩:=Cc hj
 have hl:=r.length
 have hn:=nu
 have I':Inv X pins σ (upd H p (.lst (xs.set j v))) { s with heap:=s.heap.update p (Pw (·.setIfInBounds j u)) } :=
  I.KG hp ho (Ax its n j u) (r.set rv j) (by rw [PH]; exact hz) s.toks
 by_cases h0:0≤k
 ·have hk:k.toNat=j:=by
   rw [V1 h0 h4] at h1
   exact Pm h1
  exact PySem.W.ki_setAt ho h0 ‹5› (by rw [OM,← hl]; exact h4) (by rw [hk]; exact ⟨_,I',q⟩)
 ·have hk:(k+(its.toArray.size:Int)).toNat=j:=by
   rw [Vk ‹5› h3] at h1
   rw [OM,← hl]
   exact Pm h1
  exact PySem.W.ki_setBack ho ‹5› (by rw [OM,← hl]; exact h3) ‹5› (by rw [hk]; exact ⟨_,I',q⟩)
theorem wx (lo hi:Option Int) (n:Nat):(Rx lo hi none n).1=((HT.uB n 0 lo:Nat):Int)∧(Rx lo hi none n).2.1=((HT.uB n n hi:Nat):Int)∧(Rx lo hi none n).2.2=1:=by
 refine ⟨?_,?_,rfl⟩
 ·cases lo with
  | none=>simp [Rx,HT.uB]
  | some i =>
   simp only [Rx,HT.uB,Xv,show (1:Int) > 0 by decide,if_true]
   by_cases h:i<0
   ·simp only [h,if_true] <;> omega
   ·simp only [h,if_false] <;> omega
 ·cases hi with
  | none=>simp [Rx,HT.uB]
  | some i =>
   simp only [Rx,HT.uB,Xv,show (1:Int) > 0 by decide,if_true]
   by_cases h:i<0
   ·simp only [h,if_true] <;> omega
   ·simp only [h,if_false] <;> omega
theorem ux (its:List OD) (lo hi:Option Int):Xw its.toArray lo hi none=((its.drop (HT.uB its.length 0 lo)).take (HT.uB its.length its.length hi-HT.uB its.length 0 lo)).toArray:=by
 obtain ⟨h1,h2,h3⟩:=wx lo hi its.toArray.size
 unfold Xw
 rw [h1,h2,h3]
 simp only [sliceRange_one,pick_run,OM] <;> rfl
def Kj (K:OA):V→Option Int→Option Int→Hp→VK→Prop:=fun x lo hi H Q=>∃ a xs,x=.ref a∧dw K H a xs∧∀ p,H p=none→Q (.ref p) (upd H p (.lst (D1 xs lo hi)))
theorem HR:NG X (Kj X.K):=by
 intro pins s σ H x v vl vu lo hi sl Q I rx hs pl pu h
 obtain ⟨a,xs,rfl,hx,q⟩:=h
 cases rx
 obtain ⟨its,r,ht,hz⟩:=I.list hx
 have hlen:=r.length
 refine ⟨"list", _,US.lookup,ht.isList.typeIs,?_⟩
 refine U1 ht.isList hs pl pu .none (by simp) ?_ (by rw [OM] <;> omega)
 rw [ux,← hlen]
 refine ⟨.ref ‹1›,_,I.laid (t':=s.toks) (o:=.lst (D1 xs lo hi)) (fun b ob q=>OC _ q) (OT _) ?_,rfl,q _ (I.ck.fresh (OT _))⟩
 exact ⟨Pq (qT xs lo hi) hz,_,0,(r.drop (HT.uB xs.length 0 lo)).take (HT.uB xs.length xs.length hi-HT.uB xs.length 0 lo),OU _ rfl⟩
theorem dG.or {f:OD} {r r':List V→Hp→VK→Prop} (h:dG X f r) (h':dG X f r'):dG X f (fun xs H Q=>r xs H Q∨r' xs H Q):=by
 intro pins s σ H xs us Q I rs q
 rcases q with q | q
 ·exact h pins s σ H xs us Q I rs q
 ·exact h' pins s σ H xs us Q I rs q
theorem xC:dG X (.type "list") (fun xs H Q=>∃ p ys,xs=[.ref p]∧(dw X.K H p ys∨Hd X.K H p ys)∧∀ l,H l=none→Q (.ref l) (upd H l (.lst ys))):=by
 show 5
 obtain ⟨p,ys,rfl,hq,q⟩:=h
 obtain ⟨u,rfl,rx⟩:=vals1 r
 cases rx
 have fin:∀ (its:List OD),Vals ys its→ys.length≤OE→∀ (h':Qb) (c':Nat),(∀ b o',s.heap.get? b=some o'→h'.get? b=some o') →
  h'.get? ‹1›=some { cls:=.type "list", dict:=none,data:=.seq its.toArray c',slots:=#[] }→EP X pins σ Q (.ref ‹1›) { s with heap:=h' }:=fun its r' hz h' c' kp e =>
  ⟨.ref ‹1›,_,I.laid (t':=s.toks) kp (OT _) (show cu X.prog X.w _ h' _ (.lst ys) from ⟨hz,its,c',r',e⟩),rfl,q _ (I.ck.fresh (OT _))⟩
 rcases hq with hq | hq
 ·obtain ⟨its,r',pl,hz⟩:=I.list hq
  have hlen:=r'.length
  obtain ⟨o,ho,hc,n,hd⟩:=pl.isList
  exact call_list_seq p (.inl rfl) ho hc hd (fun h' c' kp e=>fin its r' hz h' c' kp e) (by simp only [OM] <;> omega)
 ·obtain ⟨its,r',pl,hz⟩:=I.tuple hq
  have hlen:=r'.length
  obtain ⟨o,ho,hc,n,hd⟩:=pl
  exact call_list_seq p (.inr rfl) ho hc hd (fun h' c' kp e=>fin its r' hz h' c' kp e) (by simp only [OM] <;> omega)
def NM (K:OA) (T:String) (x:V) (H:Hp):Prop:=match x with
 | .str _=>T = "str"
 | .int _=>T = "int"
 | .ref p=>(T = "list" ∧ ∃ xs,dw K H p xs)∨(T = "tuple" ∧ ∃ o,K.lookup p=some o∧o.cls=.type "tuple" ∧ o.dict=none) ∨
  (T = "dict" ∧ ((∃ kvs,H p=some (.dK kvs))∨∃ kvs,H p=some (.dT kvs)))∨(T = "set" ∧ ∃ S n,H p=some (.set S n))
 | _=>False
theorem JX {s:OG} {T:String} {x:V} {v:OD} (I:Inv X pins σ H s) (r:RelV x v) (ty:NM X.K T x H) :
 s.TypeIs v T∧∀ a,v=.ref a→∃ ob,s.heap.get? a=some ob∧ob.dict=none:=by
 cases x with
 | str z =>
  obtain ⟨t,rfl⟩:=r
  cases (show T = "str" from ty)
  exact ⟨typeIs_str s z t,fun _ e=>nomatch e⟩
 | int i =>
  obtain ⟨t,rfl⟩:=r
  cases (show T = "int" from ty)
  exact ⟨X7 s i t,fun _ e=>nomatch e⟩
 | ref p =>
  cases r
  rcases ty with ⟨rfl,xs,hq⟩ | ⟨rfl,o,hk,hc,hd⟩ | ⟨rfl,hk⟩ | ⟨rfl,S,n,hk⟩
  ·obtain ⟨its,_,pl,_⟩:=I.list hq
   refine ⟨pl.isList.typeIs,fun a e=>?_⟩
   cases e
   obtain ⟨o,n,e,c,hd,_⟩:=pl
   exact ⟨o,e,hd⟩
  ·refine ⟨⟨o,I.yH p o hk,hc⟩,fun a e=>?_⟩
   cases e
   exact ⟨o,I.yH _ o hk,hd⟩
  ·have z:∃ o,s.heap.get? p=some o∧o.ExactDict:=by
    rcases hk with ⟨kvs,hk⟩ | ⟨kvs,hk⟩
    ·obtain ⟨_,_,_,_,o,_,_,e,ex,_⟩:=I.ck p _ hk
     exact ⟨o,e,ex⟩
    ·obtain ⟨_,_,_,_,o,_,_,e,ex,_⟩:=I.ck p _ hk
     exact ⟨o,e,ex⟩
   obtain ⟨o,e,ex⟩:=z
   refine ⟨⟨o,e,ex.1⟩,fun a e2=>?_⟩
   cases e2
   exact ⟨o,e,ex.2.1⟩
  ·obtain ⟨o,_,_,_,e,ex,_⟩:=I.ck p _ hk
   refine ⟨⟨o,e,ex.1⟩,fun a e2=>?_⟩
   cases e2
   exact ⟨o,e,ex.2.1⟩
 | _=>exact R5 ty
def MT (K:OA) (T:String) (r:V→List V→Hp→VK→Prop) (to:TE) (t:TA):TE:=fun σ H Q=>to σ H fun x H1=>NM K T x H1∧t σ H1 fun xs H2=>r x xs H2 Q
variable {o e:Qg} {es:List Qg} {to:TE} {t:TA} {name:P2} {apos cpos:UM} {T id:String} {r:V→List V→Hp→VK→Prop}
theorem qJ (pa:PlainAttrs T) (slot:Slot T name id) (hty:typeOf (.builtin id)=pure (.type "method_descriptor")) (hm:Oi X id r) (ho:PE X o to) (ha:PA X (e::es) t)
 (hbase:WH o name X.env (eval o X.env)=eval o X.env:=by rfl)
 (hfew:((TC cpos (P0 (e::es) X.env)).all (fun x=>!x.1)&&(backToKw cpos (XJ [] X.env)).all (fun x=>x.1.isSome)
  && decide ((e::es).length+([]:List Wo).length+(if ([]:List Wo).isEmpty then 0 else 1)<30))=true:=by rfl)
 (hline:(apos.endLine==cpos.line)=true:=by rfl) (hs:P0 (e::es) X.env=(false,eval e X.env)::P0 es X.env:=by rfl) (hplain:(TC cpos (P0 es X.env)).any (·.1)=false:=by rfl) :
 PE X (.Call (.Attribute o name apos) (e::es) [] cpos) (MT X.K T r to t):=by
 show 2
 refine wpAny_Call_method_late hbase hfew hline rfl (cZ (ho pins s σ H _ I h) fun v s1 ⟨x,H1,I1,r1,ty,q1⟩=>?_)
 obtain ⟨h1,h2⟩:=JX I1 r1 ty
 refine ⟨T,id,pa,slot,hty,h1,h2,?_⟩
 have hA:=ha cpos pins s1 σ H1 _ I1 q1
 rw [hs] at hA ⊢
 refine Calls.callWith_builtin (by show (false || (TC cpos (P0 es X.env)).any (·.1))=false; rw [hplain] <;> rfl) (Calls.evalArgs_plain ?_)
 exact cZ hA fun us s2 ⟨vs,H2,I2,r2,q2⟩=>hm pins s2 σ H2 x vs v us Q I2 r1 r2 q2
end
def NZ (X:Cx) (id:String) (r:V→List V→Hp→VK→Prop):Prop :=
 ∀ (pins:List (OF×Q5)) (s:OG) (σ:St) (H:Hp) (x:V) (xs:List V) (v:OD) (us:List OD) (Q:VK),Inv X pins σ H s→RelV x v→Vals xs us→r x xs H Q →
  OX ‹7› X.A (call (.builtin id) (v::us)) (EP X pins σ Q) X.xe s
theorem Vals.one:∀ {x:V} {us:List OD},Vals [x] us→∃ u,us=[u]∧RelV x u
 | _,_,.cons r .nil=>⟨_,rfl,r⟩
theorem Vals.rep {xs:List V} {us:List OD} (h:Vals xs us):∀ k:Nat,Vals (OY k xs).flatten (OY k us).flatten
 | 0=>.nil
 | k+1=>by
  rw [Qn,Qn,Rj,Rj]
  exact Vals.append h (Vals.rep h k)
theorem foldl_rep (its:List OD):∀ (k:Nat) (acc:List OD),
 X8 (fun x1 x2=>x1++x2) acc.toArray (OY k its.toArray)=(acc++(OY k its).flatten).toArray
 | 0,acc=>by simp
 | k+1,acc=>by
  have e:acc.toArray++its.toArray=(acc++its).toArray:=by simp
  have e2:(acc++its)++(OY k its).flatten=acc++(OY (k+1) its).flatten:=by
   rw [Qn,Rj,Qx]
  rw [← e2,← foldl_rep its k (acc++its),← e,Qn,VC]
section
variable {X:Cx} {pins:List (OF×Q5)} {σ:St} {H:Hp} {s:OG} {l b:OF} {xs ys zs:List V}
theorem Inv.Mt {its':List OD} {f:Array OD→Array OD} {t':Nat} (I:Inv X pins σ H s) (hH:H l=some (.lst xs))
 (e:s.heap.get? l=some { cls:=.type "list", data:=.seq its.toArray n }) (hf:f its.toArray=its'.toArray) (hv:Vals ys its') (hz:ys.length≤OE) :
 Inv X pins σ (upd H l (.lst ys)) { s with heap:=s.heap.update l (Pw f),toks:=t' }:=by
 have q:=PySem.IsL.update e f
 rw [hf] at q
 refine I.write (x:=l) (e:=l) (by rw [hH]; exact trivial) (.inl rfl) (fun b' u hb hu=>(PJ s.heap (Pw f) (P9 hb)).trans hu) ⟨_,q⟩ ?_
 exact ⟨hz,its',_,hv,q⟩
theorem Inv.KO {t':Nat} (I:Inv X pins σ H s) (hv:Vals ys its) (hz:ys.length≤OE) :
 Inv X pins σ (upd H ‹1› (.lst ys)) { s with heap:=s.heap.push { cls:=.type "list", data:=.seq its.toArray },toks:=t' } :=
 I.laid (fun _ _ q=>OC _ q) (OT _) ⟨hz,its,0,hv,OU _ rfl⟩
theorem Inv.fresh (I:Inv X pins σ H s):H ‹1›=none:=I.ck.fresh (OT _)
theorem Inv.KH (I:Inv X pins σ H s) (hH:H l=some (.lst xs)):xs.length≤OE∧∃ (its:List OD) (n:Nat),Vals xs its∧xs.length=its.length∧s.heap.get? l=some { cls:=.type "list", data:=.seq its.toArray n }:=by
 obtain ⟨z,its,n,r,e⟩:=I.ck l _ hH
 exact ⟨z,its,n,r,r.length,e⟩
theorem yv (h:n≤OE):RM n=false:=by
 unfold RM
 exact decide_eq_false ‹5›
end
section
variable {X:Cx}
def wK:V→List V→Hp→VK→Prop:=fun x vs H Q=>∃ l xs y,x=.ref l∧vs=[y]∧H l=some (.lst xs)∧xs.length<OE∧Q .non (upd H l (.lst (xs++[y])))
theorem h9:NZ X "list.append" wK:=by
 intro pins s σ H x vs v us Q I rx rv h
 obtain ⟨l,xs,y,rfl,rfl,hH,hz,q⟩:=h
 cases rx
 obtain ⟨u,rfl,ru⟩:=rv.one
 obtain ⟨z,its,n,r,hl,e⟩:=I.KH hH
 refine Vn F.slot_list_append ⟨_,e,rfl⟩ F.entry_list_append (F.args_list_append_2 _ _) (PySem.list_append l its.toArray n u (by rw [OM]; omega)) ⟨e,?_⟩
 refine ⟨.non,_,I.Mt (its':=its++[u]) hH e (by simp) (r.append (.cons ru .nil)) ?_,rfl,q⟩
 rw [O1,Qh]
 omega
def Me:R2:=fun x y H Q=>∃ l k xs,x=.ref l∧y=.int k∧H l=some (.lst xs)∧-(2 ^ 63)≤k∧k<2 ^ 63∧xs.length*k.toNat≤OE ∧
 ∀ p,H p=none→Q (.ref p) (upd H p (.lst (OY k.toNat xs).flatten))
theorem len_rep (xs:List α) (k:Nat):(OY k xs).flatten.length=k*xs.length:=by
 induction k with
 | zero=>simp
 | succ k ih=>rw [Qn,Rj,O1,ih,Nat.succ_mul,Nat.add_comm]
theorem An:rT X (TR .Mult) Me:=by
 show 4
 obtain ⟨l,k,xs,rfl,rfl,hH,h1,h2,hz,q⟩:=h
 cases rx
 obtain ⟨t,rfl⟩:=ry
 obtain ⟨z,its,n,r,hl,e⟩:=I.KH hH
 have hlen:its.toArray.size*k.toNat≤OE:=by rw [OM,← hl]; exact hz
 have hcap:¬ its.toArray.size*k.toNat > (2 ^ 63-1) / 8:=by
  have:(OE:Nat)≤(2 ^ 63-1) / 8:=by decide
  omega
 have hfit:¬ (!Builtin.List.listFitsIndex k)=true:=by
  rw [fitsIndex_both h1 h2]
  exact O2
 have hlong:¬ RM (its.toArray.size*k.toNat)=true:=by
  rw [yv hlen]
  exact O2
 have hnew:X8 (fun x1 x2=>x1++x2) #[] (OY (if its.toArray.isEmpty=true then 0 else k.toNat) its.toArray)=(OY k.toNat its).flatten.toArray:=by
  have f0:∀ m:Nat,X8 (fun x1 x2=>x1++x2) #[] (OY m its.toArray)=(OY m its).flatten.toArray:=fun m=>by
   have:=foldl_rep its m []
   rw [S3] at this
   exact this
  rw [f0]
  cases its with
  | nil=>simp
  | cons a r'=>rw [if_neg (by simp)]
 refine wpAny_binaryOp_repeat_ref (T := "list") (U := "int") ‹11› ⟨_,e,rfl⟩ (fun s'=>X7 s' k t) noFill_list_mul F.fills_int_mul F.slot_int_rmul repeat_list F.slot_int_index.lookup
  (Vn F.slot_int_rmul (X7 s k t) F.entry_int_rmul (F.args_int_rmul_2 _ _) (int___rmul___int_list k t l its.toArray n)
   ⟨e,rfl,⟨_,e,rfl⟩,Vn F.slot_list_mul ⟨_,e,rfl⟩ F.entry_list_mul (F.args_list_mul_2 _ _) (AutoListH.list___mul___list_int_3 l its.toArray n k t hfit hcap hlong) ⟨e,?_⟩⟩)
 rw [hnew]
 exact ⟨.ref _,_,I.KO (t':=s.toks) (r.rep k.toNat) (by rw [len_rep,Nat.mul_comm]; exact hz),rfl,q _ I.fresh⟩
end
end L2
namespace NL
open PySem PySem.W PySem.Calls PyProof.Rows
variable {P:Params} {h:Qb}
theorem rm:∀ (ns:List Int) (vs:List OD),WellAll P h vs (ns.map Ur)→RJ vs ns:=by
 intro ns
 induction ns with
 | nil =>
  intro vs w
  rw [Q9] at w
  cases w
  exact .nil
 | cons n ns ih =>
  intro vs w
  rw [O9] at w
  cases w with
  | cons a b =>
   cases a
   exact .cons _ _ (ih _ b)
theorem C2 {l:OpenLaw} {n:Nat} (hn:l.most=some n) {args:List WData} {vals:List OD}
 (hpre:l.row.toRowW.claim.pre args=true) (hwl:WellAll P h vals args) :
 ∃ a vs ns,vals=[Pf a]∧args=[WData.list (ns.map Ur)]∧h.get? a=some { cls:=.type "list", data:=.seq vs.toArray }∧RJ vs ns∧ns.length≤n:=by
 have hsh:WShape.hasAll [] args [.list .int]=true:=(pre_splitW hpre).1
 have hc:l.pre.holds [] { args:=args }=true:=(pre_splitW hpre).2
 obtain ⟨d,r,rfl,h1,h2⟩:=hasAllW_cons hsh
 obtain rfl:=hasAllW_nil h2
 obtain ⟨xs,rfl,h3⟩:=hasW_list h1
 obtain ⟨ns,rfl⟩:=items_int h3
 have hlen:ns.length≤n:=by
  unfold OpenLaw.pre at hc
  have h4:(WTm.not (.lt (.lit (.int (n:Int))) (.len (.arg 0)))).holds [] { args:=[.list (ns.map .int)] }=true:=by
   have h4:=(holds_andW hc).1
   rw [hn] at h4
   exact h4
  have h5:=condW_of h4 (w_not (w_lt w_lit (w_len_list (w_arg rfl))))
  rw [Oy] at h5
  refine Nat.le_of_not_lt fun q=>?_
  have q':(n:Int)<((ns.length:Nat):Int):=by omega
  first
   | (rw [decide_eq_true q'] at h5; exact absurd h5 ‹11›)
   | (simp at h5; omega)
 cases hwl with
 | cons w1 w2 =>
  cases w2
  cases w1 with
  | list ho hall=>exact ⟨_,_,ns,rfl,rfl,ho,rm ns _ hall,hlen⟩
theorem C6 (l:OpenLaw) (args:List WData):l.row.toRowW.claim.post args (.bool true) args=true :=
 postW_of (r:=l.row.toRowW) (X:=(true==true))
  (show WShape.has [] (.bool true) .bool=true by first | rfl | decide | simp [WShape.has,WShape.arms,WShape.armsAll])
  (show (WTm.eq .res (.lit (.bool true))).value [] { args:=args,res:=some (.bool true),after:=args }=some (.bool (true==true)) from w_eq_bool (w_res rfl) w_lit) rfl
section
variable {prog:PL} {w:PR} {A:P8} {E:OD→OG→Prop} {s:OG} {K:Frag}
def ledger (h:Qb) (L d:OF):List (OF×Q5):=(O0 h.objs.size).filterMap fun a=>if a=L∨a=d then none else (h.get? a).map fun o=>(a,o)
end
end NL
namespace L2
open PySem PySem.Spec PyProof.Rows
theorem js:∀ {vs:List OD} {ns:List Int},RJ vs ns→Vals ‹49› vs
 | _,_,.nil=>.nil
 | _,_,.cons n t h=>.cons ⟨t,rfl⟩ (js h)
abbrev Ot {K:OA} {h:Qb} (_:K.In h):OA:=K
def oS (s:RE):Uq:=match s with
 | .FunctionDef _ a _ _ _ _ _ _ _ _=>a
 | _=>{ posonlyargs:=[],args:=[],vararg:=none,kwonlyargs:=[],kw_defaults:=[],kwarg:=none,defaults:=[] }
def fF (s:RE):List RE:=match s with
 | .FunctionDef _ _ b _ _ _ _ _ _ _=>b
 | _=>[]
def aB (s:RE):Sb:=match s with
 | .FunctionDef _ _ _ _ _ _ sc _ _ _=>sc
 | _=>{ kind:=.function,names:=[],isGenerator:=false,isCoroutine:=false }
abbrev jq:Eh:=fun _ _ _ _ _ _=>False
abbrev E0:XK:=fun _ _ _=>False
variable {X:Cx}
theorem bT:Passes jq X E0:=fun _ _ _ _ _ _ _ h=>h.elim
variable {x:P2} {st:RE} {f:OF} {fd:PN} {k:Nat}
structure dS (K:OA) (x qual:P2) (st:RE) (f:OF) (fd:PN):Prop where
 ex:∃ (oc:OD) (od:Option OF) (kV doc pm:OD) (an:Option OF) (cdv ct:OD) (osl:Array (Option OD)),
  fd=SH x qual (oS st) (fF st) (aB st) .none kV doc pm an cdv ct∧K.lookup f=some ⟨oc,od,.func fd,osl⟩∧V0 K cdv qual=true
 kp:Sr K (.ref f)=true
section
variable {P:PL} {w:PR} {K:OA} {mg:P2→Option OD} {base:Qb}
theorem dS.ok {qual:P2} {N ps:List P2} {sp:Sp} (F:dS K x qual st f fd) (S:bq N ps (aB st)) (len:∀ vs H Q E,sp vs H Q E→vs.length=ps.length)
 (hbody:∀ (cdv:OD) (A:P8) (outer:List XQ) (s:OG) (H:Hp) (vs:List V) (Q:VK) (E:XK),fO k (A.deeper (Vj qual (aB st) ‹1› f cdv))→sp vs H Q E →
  ∃ t,xM ‹28›.Hn (fF st) t∧t { nx:=fun _ H'=>Q .non H',rt:=Q } (start N vs) H):dv P w K mg base jq (k+1) f fd ps sp:=by
 obtain ⟨oc,od,kV,doc,pm,an,cdv,ct,osl,rfl,lk,hcd⟩:=F.ex
 refine JI lk hcd S len fun A outer s H vs Q E hr hsp=>?_
 obtain ⟨t,h,q⟩:=hbody cdv A outer s H vs Q E hr hsp
 exact ⟨t,h.Hn,q⟩
theorem dS.binds {qual:P2} {ps:List P2} (F:dS K x qual st f fd)
 (h:∀ (kV doc pm:OD) (an:Option OF) (cdv ct:OD) (us:List OD),us.length=ps.length→Ux (SH x qual (oS st) (fF st) (aB st) .none kV doc pm an cdv ct) ⟨us,[]⟩=pure (ps.zip us)):Binds K fd ps []:=by
 obtain ⟨oc,od,kV,doc,pm,an,cdv,ct,osl,rfl,lk,hcd⟩:=F.ex
 exact .all (h kV doc pm an cdv ct)
theorem cx {qual:P2} {oc:OD} {od an:Option OF} {osl:Array (Option OD)} {kV doc pm cdv ct:OD} (l:K.lookup f=some ⟨oc,od,.func (SH x qual (oS st) (fF st) (aB st) .none kV doc pm an cdv ct),osl⟩)
 (c:V0 K cdv qual=true) (k:Sr K (.ref f)=true):dS K x qual st f (SH x qual (oS st) (fF st) (aB st) .none kV doc pm an cdv ct):=⟨⟨oc,od,kV,doc,pm,an,cdv,ct,osl,rfl,l,c⟩,k⟩
end
variable {A:P8} {pos:UM}
theorem yO (hr:fO k A):A.units+1<Tw:=Nat.lt_of_le_of_lt (Nat.add_le_add_left (by decide:1≤64) _) hr.units
section
variable {X:Cx}
theorem pv (i:Nat) (hN:X.N[i]?=some x:=by rfl) (hv:Lw X.env.scope x:=by first | exact OQ rfl | exact Pn (OQ rfl) | exact Pn (Pn rfl)) (hd:(x==("__debug__" : P2))=false:=by decide)
 (hcd:(x==("__classdict__" : P2))=false:=by decide):PE X (.Name x pos) (iJ i):=Ku hN hv hd hcd
end
theorem xj {A B:Prop} (h:B):if false=true then A else B:=by
 rw [if_neg O2]
 exact h
theorem yI {A B:Prop} (h:A):if true=true then A else B:=by
 rw [if_pos rfl]
 exact h
def aW (H H':Hp):Prop:=∀ b o,H b=some o→H' b=some o
theorem aW.refl (H:Hp):aW H H:=fun _ _ h=>h
variable {H:Hp}
theorem aW.trans {H1 H2:Hp} (a:aW H H1) (b:aW H1 H2):aW H H2:=fun c o h=>b c o (a c o h)
variable {H':Hp} {α:Type}
theorem aW.free (e:aW H H') {l:OF} (h:H' l=YA):H l=YA:=by
 cases q:H l with
 | none=>rfl
 | some o =>
  rw [e l o q] at h
  cases h
section
variable {X:Cx}
theorem iU:rT X (TR .Mult) (rI VW fun i j=>.int (i*j)):=MW fun _ _ _ _ _ _ _ hc q=>mul_int q hc
theorem ic:rT X (TR .FloorDiv) (rI (fun _ j=>0<j∧j.natAbs.log2<9000) fun i j=>.int (i / j)):=MW fun i j _ _ _ _ _ hc q=>by
 have h1:(0:Int)<j:=hc.1
 exact floordiv_int ‹5› (by rw [Int.fdiv_eq_ediv_of_nonneg i ‹5›]; exact q) (.inl (PyProof.noPylong_of_log2 hc.2))
theorem GZ (hc:X.calm=true):dG X (.builtin "sum") (fun xs H Q=>∃ (p:OF) (ns:List Int),xs=[.ref p]∧dw X.K H p ‹49›∧Q (.int ns.sum) H):=by
 show 5
 obtain ⟨p,ns,rfl,hq,q⟩:=h
 obtain ⟨u,rfl,rx⟩:=vals1 r
 cases rx
 obtain ⟨its,r',pl,hz⟩:=I.list hq
 have hi:=intsAre_of r'
 obtain ⟨ys,hx⟩:=hi.allInts.items
 have hl':s.heap.IsList p (intItems ys):=hx ▸ pl.isList
 refine sum_intListG (I.ok.hd hc) hl' fun h' tk t' hk=>?_
 have e1:ns=ys.toList.map (·.1):=by
  rw [← WI,← hx]
  exact (show numsOf its.toArray.toList=ns from hi.numsOf).symm
 have e2:preSum (numAt ys) ys.size=ns.sum:=by
  rw [preSum_eq,R8 (by simp),e1]
 rw [e2]
 exact ⟨.int ns.sum,H,I.kept hk,⟨_,rfl⟩,q⟩
theorem D4 (hc:X.calm=true):dG X (.builtin "max") (fun xs H Q=>∃ (p:OF) (ns:List Int),xs=[.ref p]∧dw X.K H p ‹49›∧ns≠[]∧∀ M,M∈ns→(∀ a,a∈ns→a≤M)→Q (.int M) H):=by
 show 5
 obtain ⟨p,ns,rfl,hq,hne,q⟩:=h
 obtain ⟨u,rfl,rx⟩:=vals1 r
 cases rx
 obtain ⟨its,r',pl,hz⟩:=I.list hq
 have hi:=intsAre_of r'
 obtain ⟨ys,e⟩:=hi.allInts.items
 have hns:ns=ys.toList.map (·.1):=by
  rw [← hi.numsOf,← WI,← e]
 have hsz:0<ys.size:=by
  have h3:=Wu.mpr hne
  rw [hns,Oy,Pr] at h3
  exact h3
 have hl:=pl.isList
 rw [e] at hl
 refine max_intList (I.ok.hd hc) hl hsz fun v h' tk hv hk=>?_
 obtain ⟨t,rfl⟩:=intItems_at hv
 obtain ⟨h1,h2⟩:=argBest_gt (numAt ys) (ys.size-1)
 refine ⟨.int _,H,I.kept hk,⟨t,rfl⟩,q _ ?_ fun a ha=>?_⟩
 ·rw [hns,X9]; exact Ya (by rw [Oy,Pr]; omega)
 ·rw [hns] at ha
  obtain ⟨j,hj,rfl⟩:=mem_getD ha
  rw [Oy,Pr] at hj
  rw [← X9]; exact h2 j ‹5›
theorem G2:dG X (.builtin "isinstance") (fun xs H Q=>∃ x n t b,xs=[x,.ty n]∧mK X.K H x t∧Ss X.K t (.type n)=some b∧Q (.bl b) H):=by
 show 5
 obtain ⟨x,n,t,b,rfl,ty,e,q⟩:=h
 obtain ⟨u,w',rfl,rx,ry⟩:=vals2 r
 cases ry
 exact DF I rx ty e fun tk=>⟨.bl b,H,I.tok _,rfl,q⟩
theorem gU [DecidableEq α] {ns ms:List α} (d:α) (h:ns.length=ms.length):((O0 ns.length).all fun j=>decide (ns.getD j d=ms.getD j d))=decide (ns=ms):=by
 rw [P6,Qu,decide_eq_true_iff]
 constructor
 ·intro H
  refine RT h fun i h1 h2=>?_
  have:=of_decide_eq_true (H i (O8.mpr h1))
  rw [Ox,Ox,Ow h1,Ow h2] at this
  exact this
 ·rintro rfl i _
  simp
theorem j0 [DecidableEq α] {s:OG} {us ws:List OD} {ns ms:List α} {d:α} (hl:us.length=ns.length) (hl2:ws.length=ms.length)
 (h:∀ (j:Nat) (u v:OD) (a b:α),us[j]?=some u→ws[j]?=some v→ns[j]?=some a→ms[j]?=some b→Sv A s u v (decide (a=b))) :
 ∀ j (h1:j<us.toArray.size) (h2:j<ws.toArray.size),Sv A s us.toArray[j] ws.toArray[j] (decide (ns.getD j d=ms.getD j d)):=by
 intro j h1 h2
 have h1':j<us.length:=by simpa using h1
 have h2':j<ws.length:=by simpa using h2
 have q:=h j us[j] ws[j] ns[j] ms[j] (Ow h1') (Ow h2') (Ow ‹5›) (Ow ‹5›)
 have e1:ns.getD j d=ns[j]:=by rw [Ox,Ow ‹5›]; rfl
 have e2:ms.getD j d=ms[j]:=by rw [Ox,Ow ‹5›]; rfl
 rw [e1,e2]
 simpa using q
theorem sJ [DecidableEq α] [Inhabited α] {s:OG} {l b:OF} {us ws:List OD} {ns ms:List α} (p1:s.heap.IsList l us.toArray) (p2:s.heap.IsList b ws.toArray) (hl:us.length=ns.length) (hl2:ws.length=ms.length) (hu:A.units<Tw)
 (h:∀ (j:Nat) (u v:OD) (a b:α),us[j]?=some u→ws[j]?=some v→ns[j]?=some a→ms[j]?=some b→Sv A.in1 s u v (decide (a=b))) :
 SeqAt.RcAt A s (.ref l) (.ref b) (decide (ns=ms)):=by
 by_cases hs:ns.length=ms.length
 ·have q:=SeqAt.RcAt.lists (e:=fun j=>decide ‹36›) p1 p2 (by simp; omega) hu (j0 hl hl2 h)
  have e:((O0 us.toArray.size).all fun j=>decide ‹36›)=decide (ns=ms):=by
   rw [OM,hl]; exact gU default hs
  rw [e] at q
  exact q
 ·have q:=SV p1 p2 (by simp; omega) hu
  have e:decide (ns=ms)=false:=decide_eq_false fun z=>hs (by rw [z])
  rw [e]
  exact q
theorem wJ [DecidableEq α] [Inhabited α] {s:OG} {l b:OF} {us ws:List OD} {ns ms:List α} (p1:s.heap.IsList l us.toArray) (p2:s.heap.IsList b ws.toArray) (hl:us.length=ns.length) (hl2:ws.length=ms.length) (hu:A.units<Tw)
 (h:∀ (j:Nat) (u v:OD) (a b:α),us[j]?=some u→ws[j]?=some v→ns[j]?=some a→ms[j]?=some b→Sv A.in1 s u v (decide (a=b))) :
 Yw A s (.ref l) (.ref b) (!decide (ns=ms)):=by
 by_cases hs:ns.length=ms.length
 ·have q:=SeqAt.RcNeAt.lists (e:=fun j=>decide ‹36›) p1 p2 (by simp; omega) hu (j0 hl hl2 h)
  have e:((O0 us.toArray.size).all fun j=>decide ‹36›)=decide (ns=ms):=by
   rw [OM,hl]; exact gU default hs
  rw [e] at q
  exact q
 ·have q:=Uy p1 p2 (by simp; omega) hu
  have e:decide (ns=ms)=false:=decide_eq_false fun z=>hs (by rw [z])
  rw [e]
  exact q
end
open PySem.W in
theorem zh {ns:List Int} (h:Xx [WData.list (ns.map Ur)]=true):∀ n∈ns,QH n≤1048576:=by
 have w:Uj (.list (ns.map Ur))≤2 ^ 20:=by
  unfold Xx WData.layable at h
  simp only [List.all_cons,List.all_nil,WJ,RA,decide_eq_true_eq] at h
  exact h.2
 have key:∀ (ms:List Int),∀ n∈ms,QH n≤VD (ms.map Ur):=by
  intro ms
  induction ms with
  | nil=>intro n hn; cases hn
  | cons m ms ih =>
   intro n hn
   rw [O9,VD]
   rcases OP.mp hn with rfl | hn
   ·have e:Uj (.int n)=QH n:=by simp [Uj,QH]
    omega
   ·have:=ih n hn
    omega
 intro n hn
 have q:=key ns n hn
 have e:Uj (.list (ns.map Ur))=VD (ns.map Ur):=by simp [Uj]
 rw [e] at w
 exact Pq q w
structure N4 (X:Cx) (N':List P2) (scope:Sb) (cl:List (P2×OF)) (σ σ0:St):Prop where
 sub:∀ x c,cl.lookup x=some c→X.env.cells.lookup x=some c
 vals:∀ (j:Nat) (x:P2) (v:V),N'[j]?=some x→σ0[j]?=some (some v)→∃ (i:Nat) (c:OF),X.N[i]?=some x∧σ[i]?=some (some v)∧Lw X.env.scope x∧X.env.kindOf x≠some .local∧cl.lookup x=some c ∧
  ‹15›
 has:∀ x,‹15›→∃ c,cl.lookup x=some c
 len:σ0.length=N'.length
section
variable {prog:PL} {w:PR} {A:P8} {R:VY→OG→Prop} {s:OG}
theorem xw {elt target iter:Qg} {ifs:List Qg} {scope:Sb} {pos:UM} {it acc:OD} {env:XQ} (I:Nat→OG→Prop)
 (turn:∀ n s,I n s→OX ‹13› A (R6 it) (fun r s₁=>match r with
  | none=>R (.ok .next) s₁
  | some v=>OX ‹13› A (T8 target it v) (fun _ s₀=>OX ‹13› A (assign target env v) (fun _ s₂ =>
   OX ‹13› A (forIn ifs true fun c r=>if r=true then do let ok ← isTrue c env (eval c env); pure (Qt ok) else pure (Qt r)) (fun ok s₃ =>
    if ok=true then OX ‹13› A (eval elt env) (fun x s₄ =>
     OX ‹13› A (call (.builtin "list.append") [acc,x]) (fun _ s₅=>∃ m,m<n∧I m s₅) (fun _ _=>False) s₄) (fun _ _=>False) s₃
    else ∃ m,m<n∧I m s₃) (fun _ _=>False) s₂) (fun _ _=>False) s₀) (fun _ _=>False) s₁) (fun _ _=>False) s)
 (n:Nat) (h:I n s) :
 Ti ‹13› A (.compLoop (.ListComp elt [⟨target,iter,ifs,0⟩] scope pos) 0 it acc env) R s:=by
 refine codeAny_loop rfl I (fun n s hI=>?_) n h
 show OX _ A ((compTurn (.ListComp elt [⟨target,iter,ifs,0⟩] scope pos) 0 it acc env).onRaise (fun x=>do noteFrame x env; theTreesLotGoes x)) _ _ s
 refine wpAny_noted ?_
 rw [compTurn_list]
 refine Oz (TN (Oz (Qw (turn n s hI) (fun r s₁ h₁=>?_) fun _ _ h'=>h'.elim)))
 cases r with
 | none=>exact OL h₁
 | some v =>
  refine Oz (Qw h₁ (fun _ s₀ h₀=>?_) fun _ _ h'=>h'.elim)
  refine Oz (Qw h₀ (fun _ s₂ h₂=>Oz (Qw h₂ (fun ok s₃ h₃=>?_) fun _ _ h'=>h'.elim)) fun _ _ h'=>h'.elim)
  cases ok with
  | false=>exact OL ⟨rfl,h₃⟩
  | true =>
   exact Oz (Oz (Qw h₃ (fun x s₄ h₄=>Oz (Qw h₄ (fun _ s₅ h₅=>OL (OL ⟨rfl,h₅⟩)) fun _ _ h'=>h'.elim)) fun _ _ h'=>h'.elim))
end
def JO (J:It) (g:TG) (tt:TT) (te:TE) (σ0:St) (H1:Hp) (Q:VK):Prop:=∀ D,H1 D=none→∃ W:Nat→Nat→List V→Hp→Prop,(∃ m,W 0 m [] (upd H1 D (.lst []))) ∧
 ∀ i m ys H,W i m ys H→(J.stop i H∧H D=some (.lst ys)∧Q (.ref D) H) ∨
  (J.go i H∧∀ x H',J.LO i H x H'→g x σ0 H' fun σ2 H2=>tt σ2 H2 fun c H3 =>
   if c=true then te σ2 H3 fun v H4=>H4 D=some (.lst ys)∧ys.length<OE∧∃ m',m'<m∧W (i+1) m' (ys++[v]) (upd H4 D (.lst (ys++[v])))
   else ∃ m',m'<m∧W (i+1) m' ys H3)
def CC (g:TG) (σ0:St):Prop:=∀ x H (Q:St→Hp→Prop),g x σ0 H Q→g x σ0 H fun σ2 H2=>Q σ2 H2∧σ2.length=σ0.length∧∀ (j:Nat) v,σ0[j]?=some (some v)→σ2[j]?=some (some v)
section
variable {X:Cx} {tg elt iter:Qg} {ifs:List Qg} {scope:Sb} {cl:List (P2×OF)} {N':List P2} {σ0:St→St} {g:TG} {tt:TT} {te:TE}
def qG (wi:TI) (g:TG) (tt:TT) (te:TE) (σ0:St→St):TE:=fun σ H Q=>wi σ H fun J H1=>JO J g tt te (σ0 σ) H1 Q
def Bq:TT:=fun _ H Q=>Q true H
variable {pos:UM} {wi:TI}
def uZ (t:TE) (i:Nat):TS:=fun D σ H=>t σ H fun x H1=>D.nx (σ.set i (some x)) H1
end
section
variable {X:Cx}
theorem cX {i:Int} (hg:Gl X x) (hm:∃ t,X.mg x=some (.int i t)) (hd:(x==("__debug__" : P2))=false:=by decide):PE X (.Name x pos) (tC (.int i)):=by
 obtain ⟨t,e⟩:=hm
 exact Ib hg e ⟨t,rfl⟩ hd
end
theorem dA:PZ "len" = some (.builtin "len"):=by decide +kernel
theorem tZ:PZ "max" = some (.builtin "max"):=by decide +kernel
theorem A4:PZ "min" = some (.builtin "min"):=by decide +kernel
theorem tY:PZ "sum" = some (.builtin "sum"):=by decide +kernel
theorem cT:PZ "isinstance" = some (.builtin "isinstance"):=by decide +kernel
theorem qw:PZ "sorted" = some (.builtin "sorted"):=by decide +kernel
theorem G5:PZ "all" = some (.builtin "all"):=by decide +kernel
theorem Lp:PZ "int" = some (.type "int"):=by decide +kernel
theorem IQ:PZ "bool" = some (.type "bool"):=by decide +kernel
theorem gg:PZ "list" = some (.type "list"):=by decide +kernel
theorem Ln:PZ "set" = some (.type "set"):=by decide +kernel
theorem G4:PZ "tuple" = some (.type "tuple"):=by decide +kernel
theorem xD:PZ "enumerate" = some (.type "enumerate"):=by decide +kernel
variable {a:OF}
theorem bL {o:HO} (h:H a=none):aW H (upd H a o):=fun b u e=>by
 rw [upd_ne (br e h)]
 exact e
theorem Paired.mono {α β:Type} {F G:α→β→Prop}:∀ {as:List α} {bs:List β},Qv F as bs→(∀ a b,a∈as→F a b→G a b)→Qv G as bs
 | _,_,.nil,_=>.nil
 | _,_,.cons r t,h=>.cons (h _ _ ON r) (Paired.mono t fun a b m=>h a b (OI _ m))
theorem Paired.append {α β:Type} {F:α→β→Prop}:∀ {as cs:List α} {bs ds:List β},Qv F as bs→Qv F cs ds→Qv F (as++cs) (bs++ds)
 | _,_,_,_,.nil,s=>s
 | _,_,_,_,.cons r t,s=>.cons r (Paired.append t s)
theorem Paired.take {α β:Type} {F:α→β→Prop}:∀ (n:Nat) {as:List α} {bs:List β},Qv F as bs→Qv F (as.take n) (bs.take n)
 | 0,_,_,_=>.nil
 | _+1,_,_,.nil=>.nil
 | n+1,_,_,.cons r t=>.cons r (Paired.take n t)
theorem Paired.drop {α β:Type} {F:α→β→Prop}:∀ (n:Nat) {as:List α} {bs:List β},Qv F as bs→Qv F (as.drop n) (bs.drop n)
 | 0,_,_,h=>h
 | _+1,_,_,.nil=>.nil
 | n+1,_,_,.cons _ t=>Paired.drop n t
section
variable {X:Cx} {K:OA}
theorem Ff (h:X.K=K):NG X (Kj K):=by subst h; exact HR
theorem gc (h:X.K=K):dG X (.type "list") (fun xs H Q=>∃ p ys,xs=[.ref p]∧(dw K H p ys∨Hd K H p ys)∧∀ l,H l=none→Q (.ref l) (upd H l (.lst ys))):=by subst h; exact xC
theorem fb (h:X.K=K):dG X (.builtin "isinstance") (fun xs H Q=>∃ x n t b,xs=[x,.ty n]∧mK K H x t∧Ss K t (.type n)=some b∧Q (.bl b) H):=by subst h; exact G2
theorem bW {a:Qg} {ta:TE} (h:X.K=K) (ha:PE X a ta) (he:∀ whole,isTrue a X.env whole=(do let v ← whole; standAt a.pos; holding [v] (truthy v))) :
 PT X a (fun σ H Q=>ta σ H fun x H'=>∃ k,Hb K x H' k∧Q k H'):=by subst h; exact FA ha he
end
def M9 (K:OA) (a:OF):It :=
 ⟨fun i H=>∃ xs x,dw K H a xs∧xs[i]?=some x,fun i H x H'=>∃ (t:OF) (v:V),x=.ref t∧H t=none∧(∀ xs,dw K H a xs→xs[i]?=some v)∧H'=upd H t (.tup [.int i,v]),fun i H=>∃ xs,dw K H a xs∧xs.length≤i⟩
variable {P:PL} {elts:List Qg} {t:OF} {items:Array OD} {env:XQ} {o:Option V} {y:V} {u:OD}
theorem CI {w:PR} {K:OA} {x1} (a e it:OF) (hne:e≠it) :
 Turn P w K (.Tuple elts x1 pos) (M9 K a) [e,it] e (fun i h=>(∃ old,IsEnum h e it (i:Nat) old)∧h.IsListIter it a i) where
 mem:=by simp
 obj:=fun i h st b hb=>by
  obtain ⟨⟨old,he⟩,hit⟩:=st
  have hb':b=e∨b=it:=by simpa using hb
  rcases hb' with rfl | rfl
  ·exact ⟨_,he,fun v z=>by
    have z':XH _=Wm v:=z
    cases z'⟩
  ·obtain ⟨o,ho,c,d⟩:=hit
   exact ⟨o,ho,fun v z=>by rw [d] at z; cases z⟩
 keep:=fun i h h' st k=>by
  obtain ⟨⟨old,he⟩,hit⟩:=st
  exact ⟨⟨old,k e (by simp) _ he⟩,hit.at fun o e=>k it (by simp) o e⟩
 item:=by
  show 1
  subst hP hw hK
  obtain ⟨⟨old,he⟩,hit⟩:=st
  obtain ⟨xs,x,hq,hx⟩:=hg
  obtain ⟨its,rv,p,hz⟩:=I.list hq
  obtain ⟨u,hu,ru⟩:=rv.get hx
  obtain ⟨f0,f1,f2,f3,f4,f5⟩:=hf e (by simp)
  obtain ⟨g0,g1,g2,g3,g4,g5⟩:=hf it (by simp)
  refine wpAny_pyNext_enum_item he hit p.isList (x:=u) (by simpa using hu) hne fun h₁ heo hit₁ ht₁ hz₁ hk₁=>⟨_,rfl,?_⟩
  refine wpAny_letOwnedTupleGo_enum heo fun h₂ he₂ hs₂=>?_
  replace hs₂:RI e h₁ h₂:=hs₂
  have hlt:e<s.heap.objs.size:=OO he
  have hilt:it<s.heap.objs.size:=by obtain ⟨o,ho,_⟩:=id hit; exact OO ho
  have k₂:∀ b o,b∉[e,it]→s.heap.get? b=some o→h₂.get? b=some o:=fun b o hb q=>by
   have b1:b≠e:=fun z=>hb (by simp [z])
   have b2:b≠it:=fun z=>hb (by simp [z])
   exact hs₂.extBut b o b1 (hk₁ b o b1 b2 q)
  have nit:∀ b u',H b=some u'→b∉[e,it]:=fun b u' q z=>by
   have z':b=e∨b=it:=by simpa using z
   rcases z' with rfl | rfl
   ·rw [f0] at q; cases q
   ·rw [g0] at q; cases q
  have I1:Inv X pins σ H { s with heap:=h₂,toks:=s.toks+1 }:=by
   refine I.step (g':=s.gens) (d':=s.drawn) (ch:=[e,it]) (fun b hb=>?_) (fun b o _ _ hc' q _=>k₂ b o hc' q) (fun b o _ _ hc' q _=>⟨o.slots,k₂ b o hc' q⟩) (fun _ _ _ _ n=>n)
    (fun b o hc' q=>⟨o,k₂ b o hc' q⟩) (fun _ _ q=>q) (fun _ _ _ q=>q) (fun b ps q=>⟨#[],by rw [q]; simp⟩) (fun m hm=>?_) (fun b u' q=>?_) I.bare
   ·have z':b=e∨b=it:=by simpa using hb
    rcases z' with rfl | rfl
    ·exact ⟨f3,f1,f4,f5⟩
    ·exact ⟨g3,g1,g4,g5⟩
   ·obtain ⟨o,es,ep,ho,r⟩:=hm
    exact ⟨o,es,ep,k₂ _ o (fun z=>by
     have z':‹27›=e∨‹27›=it:=by simpa using z
     rcases z' with z' | z'
     ·exact f1 z'.symm
     ·exact g1 z'.symm) ho,r⟩
   ·refine (I.ck b u' q).nc (fun c v hc' q'=>k₂ c v ?_ q') (fun _ q'=>q') fun _ _ q'=>q'
    rcases hc' with z | z
    ·rw [z]; exact nit b u' q
    ·exact nit c _ z
  have nH:H ‹1›=none:=I.fresh
  have tup₂:h₂.get? ‹1›=some { cls:=.type "tuple", data:=.seq #[.int i s.toks,u] }:=hs₂.extBut _ _ (QW hlt) ht₁
  have I2:Inv X pins σ (upd H ‹1› (.tup [.int i,x])) { s with heap:=h₂,toks:=s.toks+1 }:=by
   have ob:cu X.prog X.w (upd H ‹1› (.tup [.int i,x])) h₂ ‹1› (.tup [.int i,x]) :=
    ⟨by simp only [OW,Pb]; rw [Po]; decide,[.int i s.toks,u],.cons ⟨_,rfl⟩ (.cons ru .nil),⟨_,tup₂,rfl,_,rfl⟩⟩
   have hk:jr X.prog X.w (upd H ‹1› (.tup [.int i,x])) h₂:=fun b u' q=>by
    by_cases hb:b=‹1›
    ·subst hb; rw [aF] at q; cases q; exact ob
    ·rw [upd_ne hb] at q
     exact (I1.ck b u' q).nc (fun c v _ q'=>q') (fun c q'=>by rw [upd_ne (br q' nH)]; exact q') fun c xs' q'=>by rw [upd_ne (br q' nH)]; exact q'
   refine I.step (g':=s.gens) (d':=s.drawn) (ch:=[e,it]) (fun b hb=>?_) (fun b o _ _ hc' q _=>k₂ b o hc' q) (fun b o _ _ hc' q _=>⟨o.slots,k₂ b o hc' q⟩) (fun b o _ q n=>by rw [upd_ne (OS (OO q))]; exact n)
    (fun b o hc' q=>⟨o,k₂ b o hc' q⟩) (fun b xs' q=>by rw [upd_ne (br q nH)]; exact q) (fun b o u' q=>by rw [upd_ne (br q nH)]; exact q) (fun b ps q=>⟨#[],by rw [upd_ne (br q nH),q]; simp⟩) (fun m hm=>?_) hk I.bare
   ·have z':b=e∨b=it:=by simpa using hb
    rcases z' with rfl | rfl
    ·exact ⟨f3,f1,f4,f5⟩
    ·exact ⟨g3,g1,g4,g5⟩
   ·obtain ⟨o,es,ep,ho,r⟩:=hm
    exact ⟨o,es,ep,k₂ _ o (fun z=>by
     have z':‹27›=e∨‹27›=it:=by simpa using z
     rcases z' with z' | z'
     ·exact f1 z'.symm
     ·exact g1 z'.symm) ho,r⟩
  refine ⟨.ref ‹1›,_,I2,rfl,⟨_,x,rfl,nH,fun ys hy=>by rw [I.lq hy hq]; exact hx,rfl⟩,⟨⟨u,?_⟩,hit₁.extBut hs₂.extBut (P9 hne)⟩,fun b hb=>?_⟩
  ·have e1:((i+1:Nat):Int)=(i:Int)+1:=by push_cast; rfl
   rw [e1]
   exact he₂
  ·have z':b=e∨b=it:=by simpa using hb
   rcases z' with rfl | rfl
   ·rw [upd_ne (OS hlt)]; exact f0
   ·rw [upd_ne (OS hilt)]; exact g0
 done:=by
  show 1
  subst hP hw hK
  obtain ⟨⟨old,he⟩,hit⟩:=st
  obtain ⟨xs,hq,hx⟩:=hg
  obtain ⟨its,rv,p,hz⟩:=I.list hq
  obtain ⟨g0,g1,g2,g3,g4,g5⟩:=hf it (by simp)
  have hl:=rv.length
  exact wpAny_pyNext_enum_end (I.ok.hd hc) he hit p.isList (by simp; omega) fun h' eb=>⟨rfl,I.turned (t':=s.toks) (fun b o hb e=>eb b o hb e) g0 g1 g3 g4 g5⟩
 self:=fun _ _ _ _ _ st h=>by
  obtain ⟨⟨old,he⟩,_⟩:=st
  exact wpAny_pyIter_enum he h
section
variable {X:Cx}
def Cf (K:OA) (tl:TE):TI:=fun σ H R=>tl σ H fun x H1=>∃ a,x=.ref a∧(∃ xs,dw K H1 a xs)∧R (M9 K a) H1
theorem H0 {l:Qg} {tl:TE} {x1} {tpos p:UM} (hg:Gl X "enumerate") (hm:X.mg "enumerate" = none) (hl:PE X l tl) (hs:P0 [l] X.env=[(false,eval l X.env)]:=by rfl):PI X (.Tuple elts x1 tpos) (.Call (.Name "enumerate" p) [l] [] pos) (Cf X.K tl):=by
 intro pins s σ H R I h
 have ha:PA X [l] (cz tl fN):=aa hl ak hs
 refine Call_ (fT I hg hm xD (P4 (cZ (ha pos pins s σ H (fun vs H1=>match vs with | [x]=>∃ a,x=.ref a∧(∃ xs,dw X.K H1 a xs)∧R (M9 X.K a) H1 | _=>False) I h) fun us s1 ⟨vs,H1,I1,r1,q1⟩=>?_) hs rfl))
 ·match vs,r1,q1 with
  | [x],r1,q1 =>
  obtain ⟨a,rfl,⟨xs,hq⟩,q⟩:=q1
  obtain ⟨u,rfl,ru⟩:=vals1 r1
  cases ru
  obtain ⟨its,rv,pl,hz⟩:=I1.list hq
  refine call_enumerate_list pl.isList fun h' he hit hz' hk=>?_
  refine wpAny_pyIter_enum he ?_
  have I2:Inv X pins σ H1 { s1 with heap:=h' }:=I1.kept (t':=s1.toks) hk
  refine ⟨‹30›+1,[‹30›+1,‹30›],_,_,H1,rfl,I2,CI a _ _ (Nat.succ_ne_self _),⟨⟨_,he⟩,hit⟩,fun b hb=>?_,q⟩
  have z':b=‹30›+1∨b=s1.heap.objs.size:=by simpa using hb
  rcases z' with rfl | rfl
  ·exact I1.AK (R1 _) (I1.ck.fresh (R1 _))
  ·exact I1.AK (OT _) (I1.ck.fresh (OT _))
end
section
variable {prog:PL} {w:PR} {A:P8} {E:OD→OG→Prop}
theorem vA {it t:OF} {items:Array OD} (hne:t≠it):∀ (n i:Nat) (s:OG) (Q:List OD→OG→Prop),s.heap.IsListIter it t i→s.heap.IsList t items→i+n≤items.size →
 (∀ h',h'.IsListIter it t (i+n)→RI it s.heap h'→Q ((items.toList.drop i).take n) { s with heap:=h' })→OX ‹13› A (draw (.ref it) n) Q E s
 | 0,i,s,Q,hit,_,_,hQ=>by
  show OX _ _ (pure []) Q E s
  exact OL (by simpa using hQ s.heap hit (Xa ..))
 | n+1,i,s,Q,hit,ht,hle,hQ=>by
  have hlt:i<items.size:=by omega
  show OX _ _ (R6 (.ref it) >>= _) Q E s
  refine Oz (Vi hit ht (x:=items[i]) (by simp [hlt]) fun h₁ hit₁ hs₁=>?_)
  refine Oz (PQ (vA hne n (i+1) _ _ hit₁ (ht.extBut hs₁.extBut hne) ‹5› fun h₂ hit₂ hs₂=>OL ?_))
  have hd:items.toList.drop i=items[i]::items.toList.drop (i+1):=by simp [Pg,hlt]
  have:=hQ h₂ (by rw [show i+(n+1)=i+1+n by omega]; exact hit₂) (hs₁.trans hs₂)
  rw [hd,Ug] at this
  exact this
theorem pG {s:OG} {Q:List OD→OG→Prop} (hh:A.handled=none) (ht:s.heap.IsList t items)
 (hQ:∀ h',V3 ‹1› s.heap h'→Q items.toList { s with heap:=h' }):OX ‹13› A (unpackItems (.ref t) items.size none) Q E s:=by
 have hlt:t≠s.heap.objs.size:=by obtain ⟨o,ho,_⟩:=ht; exact OS (OO ho)
 unfold unpackItems
 refine Oz ?_
 ·unfold notIterableAtAll
  refine Oz (S4 ht.typeIs F.slot_list_iter.lookup ?_)
  refine OL ?_
  simp only [Qz,if_false]
  refine Oz (PQ (Sm ht ?_))
  refine Oz (PQ (vA hlt items.size 0 _ _ ⟨_,OU _ rfl,rfl,rfl⟩ (ht.push _) ‹5› fun h₁ hit₁ hs₁=>?_))
  have hall:List.take items.size (List.drop 0 items.toList)=items.toList:=by
   rw [List.drop_zero]; exact R8 (by simp)
  rw [hall]
  rw [if_neg (by simp)]
  have ht₁:h₁.IsList t items:=(ht.push _).extBut hs₁.extBut hlt
  refine Oz (PQ (VM hh hit₁ ht₁ (by simp) fun h₂ he₂=>?_))
  simp only [Option.isSome_none,Qz,if_false]
  refine OL (hQ h₂ fun b o hb e=>he₂ b o hb (hs₁.extBut b o hb (OC _ e)))
theorem oY {s:OG} {x1} {pos:UM} {Q:Unit→OG→Prop} (hh:A.handled=none) (ht:s.heap.IsList t items)
 (hn:(QV elts env).length=items.size) (hstar:(QV elts env).findIdx? (·.1)=none)
 (h:∀ h',V3 ‹1› s.heap h'→OX ‹13› A (assignInOrder ((QV elts env).map (·.2)) items.toList) Q E { s with heap:=h' }) :
 OX ‹13› A (assign (.Tuple elts x1 pos) env (.ref t)) Q E s:=by
 rw [arm_assign_Tuple]
 refine Oz (TN ?_)
 unfold unpack
 rw [hn,hstar]
 exact Oz (PQ (pG hh ht h))
end
section
variable {X:Cx} {pos:UM}
def MC (K:OA) (n:Nat) (t:xK):TG:=fun v σ H Q=>∃ a xs,v=.ref a∧dw K H a xs∧xs.length=n∧t xs σ H Q
theorem Kt {es:List Qg} {t:xK} {n:Nat} (hc:X.calm=true) (h:LC X es t)
 (hn:(QV es X.env).length=n:=by rfl) (hst:(QV es X.env).findIdx? (·.1)=none:=by rfl):PG X (.Tuple es k pos) (MC X.K n t):=by
 intro pins s σ H v u Q I r hw
 obtain ⟨a,xs,e1,hq,hl,hw⟩:=hw
 subst e1
 cases r
 obtain ⟨its,rv,ht,hz⟩:=I.list hq
 refine oY (I.ok.hd hc) ht.isList (by simp [hn,← hl,rv.length]) hst fun h' hx=>?_
 have I1:Inv X pins σ H { s with heap:=h' }:=I.kept (t':=s.toks) fun b o e=>hx b o (OS (OO e)) e
 exact h pins _ σ H xs _ Q I1 (by simpa using rv) hw
end
section
variable {κ:Type} [DecidableEq κ]
def sd (kvs:List (κ×V)) (k:κ):Option V:=(kvs.find? fun kv=>decide (kv.1=k)).map (·.2)
def putK (kvs:List (κ×V)) (k:κ) (v:V):List (κ×V) :=
 if (kvs.any fun kv=>decide (kv.1=k))=true then kvs.map (fun kv=>if kv.1=k then (kv.1,v) else kv) else kvs++[(k,v)]
theorem nZ {p:κ×V} {r:List (κ×V)} {k:κ} (e:p.1=k):sd (p::r) k=some p.2:=by simp [sd,Ro,e]
theorem n8 {p:κ×V} {r:List (κ×V)} {k:κ} (e:¬ p.1=k):sd (p::r) k=sd r k:=by simp [sd,Ro,e]
theorem xU (k:κ):∀ kvs:List (κ×V),(kvs.any fun kv=>decide (kv.1=k))=(sd kvs k).isSome
 | []=>rfl
 | p::r=>by
  rw [TQ]
  by_cases e:p.1=k
  ·simp only [nZ e,decide_eq_true e,Bool.true_or,WR]
  ·rw [n8 e,decide_eq_false e,Bool.false_or]; exact xU k r
theorem qO (kvs:List (κ×V)) (k:κ) (v:V):(putK kvs k v).length≤kvs.length+1:=by
 unfold putK
 split
 ·rw [Oy]; omega
 ·rw [O1,OW,Pb]; omega
theorem uc.pY {u:Option OD} (r:uc o u):o.isSome=u.isSome:=by
 cases o with
 | none=>cases u with
  | none=>rfl
  | some _=>exact (show False from r).elim
 | some _=>cases u with
  | none=>exact (show False from r).elim
  | some _=>rfl
theorem KV.val {kvs:List (κ×V)} {vs:List (κ×OD)} (r:KV kvs vs) (k:κ):uc (sd kvs k) (Wq vs k):=by
 unfold KV at r
 induction r with
 | nil=>exact Su
 | @cons p q ps qs h t ih =>
  obtain ⟨h1,h2⟩:=h
  by_cases e:p.1=k
  ·have e':q.1=k:=h1.symm.trans e
   have b:Wq (q::qs) k=some q.2:=by simp [Wq,Ro,e']
   rw [nZ e,b]; exact h2
  ·have e':¬ q.1=k:=fun z=>e (h1.trans z)
   have b:Wq (q::qs) k=Wq qs k:=by simp [Wq,Ro,e']
   rw [n8 e,b]; exact ih
theorem KV.any {kvs:List (κ×V)} {vs:List (κ×OD)} (r:KV kvs vs) (k:κ):(kvs.any fun kv=>decide (kv.1=k))=vs.any fun kv=>decide (kv.1=k):=by
 unfold KV at r
 induction r with
 | nil=>rfl
 | cons h t ih=>rw [TQ,TQ,ih,h.1]
theorem KV.Kg {kvs:List (κ×V)} {vs:List (κ×OD)} (r:KV kvs vs) (k:κ) (ry:RelV y u) :
 KV (kvs.map fun kv=>if kv.1=k then (kv.1,y) else kv) (vs.map fun kv=>if kv.1=k then (kv.1,u) else kv):=by
 unfold KV at r ⊢
 induction r with
 | nil=>exact .nil
 | @cons p q ps qs h t ih =>
  rw [O9,O9]
  refine .cons ?_ ih
  obtain ⟨h1,h2⟩:=h
  by_cases e:p.1=k
  ·rw [if_pos e,if_pos (h1.symm.trans e)]; exact ⟨h1,ry⟩
  ·rw [if_neg e,if_neg (fun z=>e (h1.trans z))]; exact ⟨h1,h2⟩
theorem KV.put {kvs:List (κ×V)} {vs:List (κ×OD)} (r:KV kvs vs) (k:κ) (ry:RelV y u):KV (putK kvs k y) (stored vs k u):=by
 unfold putK stored
 rw [r.any k]
 by_cases e:(vs.any fun kv=>decide (kv.1=k))=true
 ·rw [if_pos e,if_pos e]; exact r.Kg k ry
 ·rw [if_neg e,if_neg e]; exact YB r ⟨rfl,ry⟩
theorem KV.length {kvs:List (κ×V)} {vs:List (κ×OD)} (r:KV kvs vs):kvs.length=vs.length:=QB r
end
theorem Ca {w:PR} {k:Key} (r:RelV (kV k) u):(cY P w).is k u=true:=by
 cases k with
 | inl i=>obtain ⟨t,e⟩:=(show ∃ t,u=Xq i t from r); subst e; exact yz P w i t
 | inr x=>obtain ⟨t,e⟩:=(show ∃ t,u=Xr x t from r); subst e; exact yy P w x t
theorem vo {P:PL} {w:PR}:∀ {ks:List Key} {us:List OD},Vals (ks.map kV) us→ItemsAre (cY P w) ks us
 | [],_,r=>by rw [Q9] at r; cases r; exact .nil
 | k::ks,_,r=>by
  rw [O9] at r
  cases r with
  | cons h t=>exact .cons (Ca h) (vo t)
abbrev KT (H:Hp):List (List Key×V)→List (List Key×OF×OD)→Prop:=Qv fun p q=>p.1=q.1∧H q.2.1=some (.tup (p.1.map kV))∧RelV p.2 q.2.2
variable {kvs:List (List Key×V)} {xs:List (List Key×OF×OD)}
theorem KT.val (r:KT H kvs xs) (k:List Key):uc (sd kvs k) ((XM xs k).map (·.2)):=by
 induction r with
 | nil=>exact Su
 | @cons p q ps qs h t ih =>
  obtain ⟨h1,_,h2⟩:=h
  by_cases e:p.1=k
  ·have e':q.1=k:=h1.symm.trans e
   have b:XM (q::qs) k=some q.2:=by simp [XM,Ro,e']
   rw [nZ e,b]; exact h2
  ·have e':¬ q.1=k:=fun z=>e (h1.trans z)
   have b:XM (q::qs) k=XM qs k:=by simp [XM,Ro,e']
   rw [n8 e,b]; exact ih
theorem KT.Kg (r:KT H kvs xs) (k:List Key) (ry:RelV y u) :
 KT H (kvs.map fun kv=>if kv.1=k then (kv.1,y) else kv) (xs.map (putAt k u)):=by
 induction r with
 | nil=>exact .nil
 | @cons p q ps qs h t ih =>
  rw [O9,O9]
  refine .cons ?_ ih
  obtain ⟨h1,h2,h3⟩:=h
  unfold putAt
  by_cases e:p.1=k
  ·rw [if_pos e,if_pos (h1.symm.trans e)]; exact ⟨h1,h2,ry⟩
  ·rw [if_neg e,if_neg (fun z=>e (h1.trans z))]; exact ⟨h1,h2,h3⟩
theorem KT.put (r:KT H kvs xs) (k:List Key) {b:OF} (hb:H b=some (.tup (k.map kV))) (ry:RelV y u) :
 KT H (putK kvs k y) (storedH xs k b u):=by
 have e:(kvs.any fun kv=>decide (kv.1=k))=(XM xs k).isSome:=by
  rw [xU,(r.val k).pY,UT]
 unfold putK storedH
 rw [e]
 by_cases q:(XM xs k).isSome=true
 ·rw [if_pos q,if_pos q]; exact r.Kg k ry
 ·rw [if_neg q,if_neg q]; exact YB r ⟨rfl,hb,ry⟩
theorem KT.keeps (r:KT H kvs xs) (ht:∀ b ys,H b=some (.tup ys)→H' b=some (.tup ys)):KT H' kvs xs :=
 Paired.KD r fun _ _ z=>⟨z.1,ht _ _ z.2.1,z.2.2⟩
section
variable {P:PL} {w:PR} {H:Hp} {h:Qb} {a:OF}
theorem Jv {u:HO} (ok:jr P w H h) (e:Rd H a u):cu P w H h a u:=e.ok ok
theorem Cr {kvs:List (Key×V)} (ok:jr P w H h) (e:Rd H a (.dK kvs)):kvs.length≤OE∧(a==Rl)=false∧∃ vs,KV kvs vs∧h.DictOf (cY P w) a vs :=
 show cu P w H h a (.dK kvs) from Jv ok e
theorem MI {kvs:List (Key×V)} (ok:jr P w H h) (e:H a=some (.dK kvs)):kvs.length≤OE∧(a==Rl)=false∧∃ vs,KV kvs vs∧h.DictOf (cY P w) a vs:=Cr ok (.inl e)
theorem xh {ks:List Key} (ok:jr P w H h) (e:H a=some (.tup (ks.map kV))):(Wj (cY P w)).is h ks a:=by
 obtain ⟨_,its,r,o,h1,h2,n,h3⟩:=(show cu P w H h a (.tup (ks.map kV)) from ok a _ e)
 exact ⟨o,its.toArray,n,h1,h2,h3,by simpa using vo r⟩
theorem Cq (ok:jr P w H h) (e:Rd H a (.dT kvs)):kvs.length≤OE∧(a==Rl)=false ∧
 ∃ xs,KT H kvs xs∧h.DictOfH (Wj (cY P w)) a xs:=by
 obtain ⟨z,y,xs,r,o,es,ep,h1,h2,h3,h4,h5⟩:=(show cu P w H h a (.dT kvs) from Jv ok e)
 refine ⟨z,y,xs,r,o,es,ep,h1,h2,h3,h4,fun x hx=>?_,h5⟩
 have all:∀ {l:List (List Key×V)} {m:List (List Key×OF×OD)},KT H l m→∀ x∈m,(Wj (cY P w)).is h x.1 x.2.1:=by
  intro l m q
  induction q with
  | nil=>intro x hx; exact nomatch hx
  | @cons p q ps qs hq t ih =>
   intro x hx
   rcases OP.mp hx with e | hx
   ·subst e
    exact xh ok (by rw [← hq.1]; exact hq.2.1)
   ·exact ih x hx
 exact all r x hx
theorem MF (ok:jr P w H h) (e:H a=some (.dT kvs)):kvs.length≤OE∧(a==Rl)=false ∧
 ∃ xs,KT H kvs xs∧h.DictOfH (Wj (cY P w)) a xs:=Cq ok (.inl e)
end
def Hm (H:Hp) (a:OF) (y:V) (r:Option V):Prop :=
 (∃ kvs k,Rd H a (.dK kvs)∧y=kV k∧r=sd kvs k)∨∃ kvs k b,Rd H a (.dT kvs)∧y=.ref b∧H b=some (.tup (k.map kV))∧r=sd kvs k
variable {Q:OD→OG→Prop} {h':Qb}
def MQ (H:Hp) (a:OF) (y v:V) (H':Hp):Prop :=
 (∃ kvs k,H a=some (.dK kvs)∧y=kV k∧kvs.length<OE∧H'=upd H a (.dK (putK kvs k v))) ∨
 ∃ kvs k b,H a=some (.dT kvs)∧y=.ref b∧H b=some (.tup (k.map kV))∧kvs.length<OE∧H'=upd H a (.dT (putK kvs k v))
section
variable {X:Cx} {pins:List (OF×Q5)} {σ:St} {H:Hp} {s:OG} {a:OF} {y v:V} {u r:OD} {o:Option V} {A:P8} {E:OD→OG→Prop}
theorem Inv.big (I:Inv X pins σ H s):Rl<s.heap.objs.size:=by
 have h:OV<s.heap.objs.size:=(I.mod.glob.keeps I.bk).lt
 exact Vo ‹11› h
theorem DW (hu:A.units+1<Tw) (I:Inv X pins σ H s) (g:Hm H a y (some v)) (ry:RelV y u) (h:∀ w' s',Inv X pins σ H s'→RelV v w'→Q w' s') :
 OX ‹7› A (Wl (.ref a) u) Q E s:=by
 rcases g with ⟨kvs,k,e,ey,l⟩ | ⟨kvs,k,b,e,ey,eb,l⟩
 ·subst ey
  obtain ⟨z,hd,vs,rel,dd⟩:=Cr I.ck e
  obtain ⟨w',hw,rw'⟩:=uc.some_of (v:=v) (o:=Wq vs k) (by rw [l]; exact rel.val k)
  exact wpAny_getItem_of (Ca ry) dd.mapOf hw (h w' _ (I.tok _) rw')
 ·subst ey
  cases (show u=Pf b from ry)
  obtain ⟨z,hd,xs,rel,dd⟩:=Cq I.ck e
  obtain ⟨w',hw,rw'⟩:=uc.some_of (v:=v) (o:=(XM xs k).map (·.2)) (by rw [l]; exact rel.val k)
  obtain ⟨p,hp,hp2⟩:=P7.mp hw
  refine wpAny_getItem_heap (Uz hu) (xh I.ck eb) dd hp ?_
  rw [hp2]
  exact h w' _ (I.tok _) rw'
theorem IH (hu:A.units+1<Tw) (I:Inv X pins σ H s) (g:Hm H a y o) (ry:RelV y u) (h:∀ s',Inv X pins σ H s'→Q (.bool (!o.isSome)) s') :
 OX ‹7› A (Rz .NotIn u (.ref a)) Q E s:=by
 rcases g with ⟨kvs,k,e,ey,l⟩ | ⟨kvs,k,b,e,ey,eb,l⟩
 ·subst ey
  obtain ⟨z,hd,vs,rel,dd⟩:=Cr I.ck e
  refine wpAny_notIn_of (Ca ry) hd dd.mapOf ?_
  rw [← (rel.val k).pY,← l]
  exact h _ (I.tok _)
 ·subst ey
  cases (show u=Pf b from ry)
  obtain ⟨z,hd,xs,rel,dd⟩:=Cq I.ck e
  refine wpAny_notIn_heap (Uz hu) (xh I.ck eb) hd dd ?_
  have q:=(rel.val k).pY
  rw [UT] at q
  rw [← q,← l]
  exact h _ (I.tok _)
theorem Cu {t':Nat} {ob:HO} (I:Inv X pins σ H s) (mu:MN (H a)) (hs:RI a s.heap h') (he:∃ q,h'.get? a=some q) (new:cu X.prog X.w (upd H a ob) h' a ob) :
 Inv X pins σ (upd H a ob) { s with heap:=h',toks:=t' } :=
 I.write (x:=a) (e:=a) mu (.inl rfl) (fun b q hb z=>(hs.2 b hb).trans z) he new
theorem Lj {w:PR} {kvs:List (Key×V)} {vs:List (Key×OD)} (z:kvs.length≤OE) (hd:(a==Rl)=false) (rel:KV kvs vs) (dd:h'.DictOf (cY P w) a vs) :
 cu P w H' h' a (.dK kvs):=⟨z,hd,vs,rel,dd⟩
theorem DV {Q:Unit→OG→Prop} (hu:A.units+1<Tw) (I:Inv X pins σ H s) (g:MQ H a y v H') (ry:RelV y u) (rv:RelV v r) (h:∀ s',Inv X pins σ H' s'→Q () s') :
 OX ‹7› A (setItem (.ref a) u r) Q E s:=by
 rcases g with ⟨kvs,k,e,ey,l,eH⟩ | ⟨kvs,k,b,e,ey,eb,l,eH⟩
 ·subst ey eH
  obtain ⟨z,hd,vs,rel,dd⟩:=MI I.ck e
  have hz:vs.length≤OE:=by rw [← rel.length]; exact z
  have hl:(putK kvs k v).length≤OE:=by have:=qO kvs k v; omega
  refine wpAny_setItem_pairs (hsz:=hz) (Ca ry) dd fun h' dd' hs=>h _ ?_
  have he:∃ q,h'.get? a=some q:=let ⟨q,_,_,hq,_⟩:=dd'; ⟨q,hq⟩
  exact Cu I (by rw [e]; exact Su) hs he (Lj hl hd (rel.put k rv) dd')
 ·subst ey eH
  cases (show u=Pf b from ry)
  obtain ⟨z,hd,xs,rel,dd⟩:=MF I.ck e
  have hz:xs.length≤OE:=by rw [← QB rel]; exact z
  have hl:(putK kvs k v).length≤OE:=by have:=qO kvs k v; omega
  refine wpAny_setItem_heap (hsz:=hz) (Uz hu) (xh I.ck eb) dd fun h' dd' hs=>h _ ?_
  obtain ⟨q,es,ep,hq,h2,h3,h4,_,h5⟩:=dd'
  refine Cu I (by rw [e]; exact Su) hs ⟨q,hq⟩ ⟨hl,hd,_,(rel.put k eb rv).keeps fun c ys ec=>?_,q,es,ep,hq,h2,h3,h4,h5⟩
  rw [upd_ne (Mr ec e (fun z=>nomatch z))]
  exact ec
end
def MM (i:Qg):Prop:=∀ ov iv,V2 i false ov iv=operate [ov,iv] (Wl ov iv)
theorem HH {prog:PL} {w:PR} {E:OD→OG→Prop} {s:OG} {value slice:Qg} {T id:String}
 (hl:WN (.type T) "__getitem__" = pure (some (.builtin id))) (hs:MM slice)
 (h:OX ‹13› A (eval value env) (fun o s₁=>OX ‹13› A (eval slice env) (fun i s₂=>s₂.TypeIs o T∧OX ‹13› A (Wl o i) Q E s₂) E s₁) E s) :
 OX ‹13› A (eval (.Subscript value slice pos) env) Q E s:=by
 refine WO (Qw h (fun o s₁ h₁=>Qw h₁ (fun i s₂ h₂=>?_) fun _ _ x=>x) fun _ _ x=>x)
 obtain ⟨hT,h₂⟩:=h₂
 unfold U0
 refine Oz ?_
 rw [getitemInPython_of_ne hT.not_modules]
 refine Oz (S4 hT hl ?_)
 have fin:OX ‹13› A (V2 slice false o i) (fun r s₃=>OX ‹13› A (letTemporaryGo value o r >>= fun _=>pure r) Q E s₃) E s₂:=by
  rw [hs o i]
  exact wpAny_operating (Qw h₂ (fun r s₃ h₃=>Oz (wpAny_letTemporaryGo (OL h₃))) fun _ _ x=>x)
 first
  | exact OL (Oz fin)
  | exact Oz (OL (Oz fin))
  | exact Oz fin
theorem yY {pins:List (OF×Q5)} {σ:St} {s:OG} (I:Inv X pins σ H s) (g:Hm H a y o):s.TypeIs (.ref a) "dict" := by
 rcases g with ⟨kvs,k,e,_,_⟩ | ⟨kvs,k,b,e,_,_,_⟩
 ·obtain ⟨_,_,vs,_,dd⟩:=Cr I.ck e
  exact dd.typeIs
 ·obtain ⟨_,_,xs,_,dd⟩:=Cq I.ck e
  exact dd.typeIs
def Jn (td ty:TE):TE:=fun σ H Q=>td σ H fun x H1=>ty σ H1 fun y H2=>∃ a v,x=.ref a∧Hm H2 a y (some v)∧Q v H2
def Bs (ty td:TE):TE:=fun σ H Q=>ty σ H fun y H1=>td σ H1 fun x H2=>∃ a o,x=.ref a∧Hm H2 a y o∧Q (.bl (!o.isSome)) H2
def Fq (td ty tv:TE):TS:=fun D σ H=>tv σ H fun v H1=>td σ H1 fun x H2=>ty σ H2 fun y H3=>∃ a H4,x=.ref a∧MQ H3 a y v H4∧D.nx σ H4
section
variable {X:Cx} {o i e value:Qg} {pos pos' tpos:UM} {td ty tv:TE}
theorem BR (hu:X.A.units+1<Tw) (ho:PE X o td) (hi:PE X i ty) (hs:MM i):PE X (.Subscript o i pos) (Jn td ty):=by
 show 2
 refine HH PySem.F.slot_dict_getitem.lookup hs (cZ (ho pins s σ H _ I h) fun u s1 ⟨x,H1,I1,rx,q1⟩=>cZ (hi pins s1 σ H1 _ I1 q1) fun iv s2 ⟨y,H2,I2,ry,a,v,ex,g,q2⟩=>?_)
 subst ex
 obtain rfl:u=Pf a:=rx
 exact ⟨yY I2 g,DW hu I2 g ry fun w' s3 I3 rw'=>⟨v,H2,I3,rw',q2⟩⟩
theorem C8 (hu:X.A.units+1<Tw) (hi:PE X i ty) (ho:PE X o td):PC X .NotIn i o (Bs ty td):=by
 show 2
 refine cZ (hi pins s σ H _ I h) fun iv s1 ⟨y,H1,I1,ry,q1⟩=>cZ (ho pins s1 σ H1 _ I1 q1) fun u s2 ⟨x,H2,I2,rx,a,ov,ex,g,q2⟩=>?_
 subst ex
 obtain rfl:u=Pf a:=rx
 exact IH hu I2 g ry fun s3 I3=>⟨.bl (!ov.isSome),H2,I3,rfl,q2⟩
theorem BN (hu:X.A.units+1<Tw) (ho:PE X o td) (hi:PE X i ty) (hv:PE X value tv) (hs:U7 value (some (.Subscript o i pos')) pos.line X.env=pure false) :
 PS X (.Assign [.Subscript o i pos'] value pos) (Fq td ty tv):=by
 show 21
 refine wpAny_Assign_Subscript (cZ (hv pins s σ H _ I h) fun r s1 ⟨v,H1,I1,rv,q1⟩=>cZ (ho pins s1 σ H1 _ I1 q1) fun u s2 ⟨x,H2,I2,rx,q2⟩=>cZ (hi pins s2 σ H2 _ I2 q2) fun iv s3 ⟨y,H3,I3,ry,a,H4,ex,g,q3⟩=>?_) hs
 subst ex
 obtain rfl:u=Pf a:=rx
 exact DV hu I3 g ry rv fun s4 I4=>⟨σ,H4,I4,q3⟩
end
theorem GH {w:PR} (h:Qb) (hb:Rl<h.objs.size):cu P w H (h.push { cls:=.type "dict", data:=.dict #[] }) h.objs.size (.dK []) :=
 ⟨PV _,beq_eq_false_iff_ne.mpr (P9 (OS hb)),[],.nil,Heap.DictOf.new h⟩
def EV:TE:=fun _ H Q=>∀ p,H p=none→Q (.ref p) (upd H p (.dK []))
section
variable {X:Cx} {pos:UM}
theorem FH:PE X (.Dict [] [] pos) EV:=fun pins s σ H Q I h =>
 wpAny_Dict_empty ⟨.ref ‹1›,_,I.laid (a:=‹1›) (o:=.dK []) (t':=s.toks) (fun _ _ q=>OC _ q) (OT _) (GH s.heap I.big),rfl,h _ (I.ck.fresh (OT _))⟩
end
structure M1 (X:Cx) (o:Qg) (m:P2) (apos:UM) (e:Qg) (cpos:UM):Prop where
 base:WH o m X.env (eval o X.env)=eval o X.env
 Oe:((TC cpos (P0 [e] X.env)).all (fun x=>!x.1)&&(backToKw cpos (XJ [] X.env)).all (fun x=>x.1.isSome)
  && decide (([e]:List Qg).length+([]:List Wo).length+(if ([]:List Wo).isEmpty then 0 else 1)<30))=true
 line:(apos.endLine==cpos.line)=true
 trees:TC cpos (P0 [e] X.env)=[(false,eval e X.env)]
structure M2 (X:Cx) (o:Qg) (m:P2) (apos:UM) (e f:Qg) (cpos:UM):Prop where
 base:WH o m X.env (eval o X.env)=eval o X.env
 Oe:((TC cpos (P0 [e,f] X.env)).all (fun x=>!x.1)&&(backToKw cpos (XJ [] X.env)).all (fun x=>x.1.isSome)
  && decide (([e,f]:List Qg).length+([]:List Wo).length+(if ([]:List Wo).isEmpty then 0 else 1)<30))=true
 line:(apos.endLine==cpos.line)=true
 trees:TC cpos (P0 [e,f] X.env)=[(false,eval e X.env),(false,eval f X.env)]
end L2
namespace VL
variable {Z:OF→Prop} {H:Hp} {a:OF} {T:OF→Prop} {o:List OF} {α:Type} {vs:List V} {C:Int→Int→Prop}
open PySem L2
section
open Classical
inductive D where
 | non | bl (b:Bool) | int (i:Int) | str (x:P2) | ty (n:String)
 | lst (xs:List D) | tup (xs:List D) | ins (C:OF) | scr (ns:List Int) | dct (kvs:List (Int×Int))
def lI (p:Int×Int):Key×V:=(.inl p.1,.int p.2)
abbrev No:OF→Prop:=fun _=>False
def KL (K:OA) (a:OF) (xs:List V):Prop :=
 ∃ (o:Q5) (its:Array OD) (n:Nat),K.lookup a=some o∧o.cls=.type "list" ∧ o.dict=none∧o.data=.seq its n∧its.size≤OE∧Vals xs its.toList
mutual
inductive Is (K:OA) (H:Hp) (Z:OF→Prop):V→D→Prop
 | non:Is K H Z .non .non
 | bl (b:Bool):Is K H Z (.bl b) (.bl b)
 | int (i:Int):Is K H Z (.int i) (.int i)
 | str (x:P2):Is K H Z (.str x) (.str x)
 | ty (n:String):Is K H Z (.ty n) (.ty n)
 | lst {a:OF} {vs:List V} {ds:List D} (hz:¬ Z a) (h:Rd H a (.lst vs)) (hl:vs.length≤OE) (r:IsL K H Z vs ds):Is K H Z (.ref a) (.lst ds)
 | tup {a:OF} {vs:List V} {ds:List D} (hz:¬ Z a) (h:H a=some (.tup vs)) (hl:vs.length≤OE) (r:IsL K H Z vs ds):Is K H Z (.ref a) (.tup ds)
 | ins {a C dx:OF} (hz:¬ Z a) (h:H a=some (.ins C dx [])):Is K H Z (.ref a) (.ins C)
 | dct {a:OF} {kvs:List (Int×Int)} (hz:¬ Z a) (h:Rd H a (.dK (kvs.map lI))) (hl:kvs.length≤OE):Is K H Z (.ref a) (.dct kvs)
 | scr {a:OF} {ns:List Int} (hz:¬ Z a) (h:Rd H a (.lst ‹49›)) (hl:ns.length≤OE):Is K H Z (.ref a) (.scr ns)
 | scrK {a:OF} {ns:List Int} (h:KL K a ‹49›) (hl:ns.length≤OE):Is K H Z (.ref a) (.scr ns)
inductive IsL (K:OA) (H:Hp) (Z:OF→Prop):List V→List D→Prop
 | nil:IsL K H Z [] []
 | cons {v:V} {d:D} {vs:List V} {ds:List D} (h:Is K H Z v d) (r:IsL K H Z vs ds):IsL K H Z (v::vs) (d::ds)
end
def Kp (Z:OF→Prop) (H:Hp) (Z':OF→Prop) (H':Hp):Prop:=∀ a o,H a=some o→¬ Z a→H' a=some o∧¬ Z' a
theorem Kp.refl:Kp Z H Z H:=fun _ _ h z=>⟨h,z⟩
theorem Kp.trans {Z1 Z2:OF→Prop} {H1 H2:Hp} (a:Kp Z H Z1 H1) (b:Kp Z1 H1 Z2 H2):Kp Z H Z2 H2:=fun c o h z=>b c o (a c o h z).1 (a c o h z).2
theorem Kp.same {H':Hp} (s:aW H H'):Kp Z H Z H':=fun _ _ h z=>⟨s _ _ h,z⟩
theorem Kp.less {Z':OF→Prop} (h:∀ a,Z' a→Z a):Kp Z H Z' H:=fun a _ e z=>⟨e,fun q=>z (h a q)⟩
theorem Rd.kp {Z':OF→Prop} {H':Hp} {u:HO} (k:Kp Z H Z' H') (hz:¬ Z a) (h:Rd H a u):Rd H' a u∧¬ Z' a:=by
 rcases h with h | ⟨o,h⟩
 ·exact ⟨.inl (k _ _ h hz).1,(k _ _ h hz).2⟩
 ·exact ⟨.inr ⟨o,(k _ _ h hz).1⟩,(k _ _ h hz).2⟩
mutual
theorem Is.kp {Z Z':OF→Prop} {H H':Hp} (k:Kp Z H Z' H'):∀ {v:V} {d:D},Is K H Z v d→Is K H' Z' v d
 | _,_,.non=>.non
 | _,_,.bl b=>.bl b
 | _,_,.int b=>.int b
 | _,_,.str b=>.str b
 | _,_,.ty b=>.ty b
 | _,_,.lst hz h hl r=>.lst (Rd.kp k hz h).2 (Rd.kp k hz h).1 hl (IsL.kp k r)
 | _,_,.tup hz h hl r=>.tup (k _ _ h hz).2 (k _ _ h hz).1 hl (IsL.kp k r)
 | _,_,.ins hz h=>.ins (k _ _ h hz).2 (k _ _ h hz).1
 | _,_,.dct hz h hl=>.dct (Rd.kp k hz h).2 (Rd.kp k hz h).1 hl
 | _,_,.scr hz h hl=>.scr (Rd.kp k hz h).2 (Rd.kp k hz h).1 hl
 | _,_,.scrK h hl=>.scrK h hl
theorem IsL.kp {Z Z':OF→Prop} {H H':Hp} (k:Kp Z H Z' H'):∀ {v:List V} {d:List D},IsL K H Z v d→IsL K H' Z' v d
 | _,_,.nil=>.nil
 | _,_,.cons h r=>.cons (Is.kp k h) (IsL.kp k r)
end
theorem Is.same {Z:OF→Prop} {H H':Hp} {v:V} {d:D} (h:Is K H Z v d) (s:aW H H'):Is K H' Z v d:=h.kp (Kp.same s)
theorem IsL.same {Z:OF→Prop} {H H':Hp} {v:List V} {d:List D} (h:IsL K H Z v d) (s:aW H H'):IsL K H' Z v d:=h.kp (Kp.same s)
theorem Is.all {v:V} {d:D} (h:Is K H Z v d):Is K H No v d:=h.kp (Kp.less fun _ z=>z.elim)
theorem IsL.all {v:List V} {d:List D} (h:IsL K H Z v d):IsL K H No v d:=h.kp (Kp.less fun _ z=>z.elim)
def D.mI:D→Bool
 | .lst _=>false
 | .tup _=>false
 | .ins _=>false
 | .scr _=>false
 | .dct _=>false
 | _=>true
theorem Is.mI {Z Z':OF→Prop} {H H':Hp} {v:V} {d:D} (h:Is K H Z v d) (e:d.mI=true):Is K H' Z' v d:=by
 cases h with
 | non=>exact .non
 | bl b=>exact .bl b
 | int b=>exact .int b
 | str b=>exact .str b
 | ty b=>exact .ty b
 | lst _ _ _ _=>cases e
 | tup _ _ _ _=>cases e
 | ins _ _=>cases e
 | dct _ _ _=>cases e
 | scr _ _ _=>cases e
 | scrK _ _=>cases e
section
variable {H:Hp} {Z:OF→Prop}
theorem IsL.paired:∀ {vs:List V} {ds:List D},IsL K H Z vs ds→Qv (Is K H Z) vs ds
 | _,_,.nil=>.nil
 | _,_,.cons h r=>.cons h (IsL.paired r)
theorem IsL.of:∀ {vs:List V} {ds:List D},Qv (Is K H Z) vs ds→IsL K H Z vs ds
 | _,_,.nil=>.nil
 | _,_,.cons h r=>.cons h (IsL.of r)
theorem IsL.length {vs:List V} {ds:List D} (h:IsL K H Z vs ds):vs.length=ds.length:=QB h.paired
theorem IsL.get:∀ {vs:List V} {ds:List D} {i:Nat} {d:D},IsL K H Z vs ds→ds[i]?=some d→∃ v,vs[i]?=some v∧Is K H Z v d
 | _,_,0,_,.cons h _,e=>by cases e; exact ⟨_,rfl,h⟩
 | _,_,i+1,_,.cons _ r,e=>by
  obtain ⟨v,e1,h1⟩:=IsL.get (i:=i) r ‹56›
  exact ⟨v,by simpa using e1,h1⟩
theorem IsL.append {vs us:List V} {ds es:List D} (a:IsL K H Z vs ds) (b:IsL K H Z us es):IsL K H Z (vs++us) (ds++es):=.of (Paired.append a.paired b.paired)
theorem IsL.take (n:Nat) {vs:List V} {ds:List D} (a:IsL K H Z vs ds):IsL K H Z (vs.take n) (ds.take n):=.of (Paired.take n a.paired)
theorem IsL.drop (n:Nat) {vs:List V} {ds:List D} (a:IsL K H Z vs ds):IsL K H Z (vs.drop n) (ds.drop n):=.of (Paired.drop n a.paired)
theorem IsL.set {v:V} {d:D} (q:Is K H Z v d):∀ {vs:List V} {ds:List D} (n:Nat),IsL K H Z vs ds→IsL K H Z (vs.set n v) (ds.set n d)
 | _,_,_,.nil=>.nil
 | _,_,0,.cons _ r=>.cons q r
 | _,_,n+1,.cons h r=>.cons h (IsL.set q n r)
theorem IsL.one {v:V} {d:D} (q:Is K H Z v d):IsL K H Z [v] [d]:=.cons q .nil
theorem IsL.ints:∀ {vs:List V} {ns:List Int},IsL K H Z vs (ns.map D.int)→vs=ns.map V.int
 | _,[],.nil=>rfl
 | _,n::ns,.cons (.int _) r=>by rw [IsL.ints (ns:=ns) r]; rfl
theorem IsL.ofInts:∀ (ns:List Int),IsL K H Z ‹49› (ns.map D.int)
 | []=>.nil
 | n::ns=>.cons (.int n) (IsL.ofInts ns)
end
inductive Sl where
 | un | pu (d:D) | bo (d:D) | ol (ds:List D) | om (rows:List (List D)) | od (kvs:List (Int×Int))
 | pm (a:OF) (ps:List OF) (rows:List (List D)) | pd (a:OF) (kvs:List (Int×Int))
abbrev aK:=List Sl
abbrev Own:=Nat→List OF
def bR (Z:OF→Prop) (os:Own):OF→Prop:=fun a=>Z a∨∃ i,a∈os i
def uS (K:OA) (B H:Hp) (T:OF→Prop) (o:List OF):Sl→Option V→Prop
 | .un,_=>o=[]
 | .pu d,v=>o=[]∧∃ u,v=some u∧Is K H T u d
 | .bo d,v=>o=[]∧∃ u,v=some u∧Is K B No u d
 | .ol ds,v=>∃ a vs,o=[a]∧v=some (.ref a)∧H a=some (.lst vs)∧vs.length≤OE∧IsL K H T vs ds
 | .om rows,v=>∃ a ps,o=a::ps∧v=some (.ref a)∧H a=some (.lst ‹55›)∧ps.length≤OE∧Qv (fun p ds=>∃ vs,H p=some (.lst vs)∧vs.length≤OE∧IsL K H T vs ds) ps rows
 | .od kvs,v=>∃ a,o=[a]∧v=some (.ref a)∧H a=some (.dK (kvs.map lI))∧kvs.length≤OE
 | .pm a ps rows,v=>o=a::ps∧v=some (.ref a)∧H a=some (.lst ‹55›)∧ps.length≤OE∧Qv (fun p ds=>∃ vs,H p=some (.lst vs)∧vs.length≤OE∧IsL K H T vs ds) ps rows
 | .pd a kvs,v=>o=[a]∧v=some (.ref a)∧H a=some (.dK (kvs.map lI))∧kvs.length≤OE
class bE where
 ts:List (OF×P2)
def ua [bE] (H:Hp):Prop:=∀ p∈bE.ts,∃ t,H p.1=some (.tbl #[.str p.2 t])
theorem ua.same [bE] {H':Hp} (h:ua H) (s:aW H H'):ua H':=fun p hp=>let ⟨t,e⟩:=h p hp; ⟨t,s _ _ e⟩
def ZT [bE] (Z:OF→Prop) (H:Hp):Prop:=(∀ a,Z a→∃ o,H a=some o)∧ua H
structure Fr [bE] (K:OA) (B:Hp) (Z:OF→Prop) (os:Own) (ρ:aK) (σ:St) (H:Hp):Prop where
 keep:aW B H
 El:∀ a,Z a→∃ o,H a=some o
 len:σ.length=ρ.length
 nd:∀ i,(os i).Nodup
 dj:∀ i j a,a∈os i→a∈os j→i=j
 new:∀ i a,a∈os i→B a=none∧¬ Z a
 sl:∀ i,uS K B H (bR Z os) (os i) (ρ.getD i .un) ((σ[i]?).join)
 tab:ua B
variable [bE]
theorem Fr.oa {B:Hp} {os:Own} {ρ:aK} {σ:St} (f:Fr K B Z os ρ σ H):ua H:=f.tab.same f.keep
theorem Paired.any {α β:Type} {F:α→β→Prop}:∀ {as:List α} {bs:List β} {a:α},Qv F as bs→a∈as→∃ b,F a b
 | _,_,_,.cons r t,h=>by
  rcases OP.mp h with rfl | h
  ·exact ⟨_,r⟩
  ·exact Paired.any t h
theorem uS.uM {B:Hp} {s:Sl} {v:Option V} (h:uS K B H T o s v) (ha:a∈o):∃ u,H a=some u:=by
 cases s with
 | un=>cases h; cases ha
 | pu d=>obtain ⟨rfl,_⟩:=h; cases ha
 | bo d=>obtain ⟨rfl,_⟩:=h; cases ha
 | ol ds =>
  obtain ⟨b,vs,rfl,_,e,_⟩:=h
  cases OB.mp ha
  exact ⟨_,e⟩
 | om rows =>
  obtain ⟨b,ps,rfl,_,e,_,r⟩:=h
  rcases OP.mp ha with rfl | ha
  ·exact ⟨_,e⟩
  ·obtain ⟨_,vs,q,_⟩:=Paired.any r ha
   exact ⟨_,q⟩
 | od kvs =>
  obtain ⟨b,rfl,_,e,_⟩:=h
  cases OB.mp ha
  exact ⟨_,e⟩
 | pm b ps rows =>
  obtain ⟨rfl,_,e,_,r⟩:=h
  rcases OP.mp ha with rfl | ha
  ·exact ⟨_,e⟩
  ·obtain ⟨_,vs,q,_⟩:=Paired.any r ha
   exact ⟨_,q⟩
 | pd b kvs =>
  obtain ⟨rfl,_,e,_⟩:=h
  cases OB.mp ha
  exact ⟨_,e⟩
theorem uS.kp {B B' H H':Hp} {T T':OF→Prop} {o:List OF} {s:Sl} {v:Option V} (h:uS K B H T o s v) (k:Kp T H T' H') (hb:aW B B') (ho:∀ a∈o,∀ u,H a=some u→H' a=some u):uS K B' H' T' o s v:=by
 cases s with
 | un=>exact h
 | pu d=>obtain ⟨e,u,e2,i⟩:=h; exact ⟨e,u,e2,i.kp k⟩
 | bo d=>obtain ⟨e,u,e2,i⟩:=h; exact ⟨e,u,e2,i.same hb⟩
 | ol ds=>obtain ⟨a,vs,rfl,e2,e3,hl,i⟩:=h; exact ⟨a,vs,rfl,e2,ho _ (OB.mpr rfl) _ e3,hl,i.kp k⟩
 | om rows =>
  obtain ⟨a,ps,rfl,e2,e3,hl,i⟩:=h
  exact ⟨a,ps,rfl,e2,ho _ ON _ e3,hl,Paired.mono i fun p ds hp ⟨vs,q,hv,j⟩=>⟨vs,ho _ (OI _ hp) _ q,hv,j.kp k⟩⟩
 | od kvs=>obtain ⟨a,rfl,e2,e3,hl⟩:=h; exact ⟨a,rfl,e2,ho _ (OB.mpr rfl) _ e3,hl⟩
 | pm a ps rows =>
  obtain ⟨rfl,e2,e3,hl,i⟩:=h
  exact ⟨rfl,e2,ho _ ON _ e3,hl,Paired.mono i fun p ds hp ⟨vs,q,hv,j⟩=>⟨vs,ho _ (OI _ hp) _ q,hv,j.kp k⟩⟩
 | pd a kvs=>obtain ⟨rfl,e2,e3,hl⟩:=h; exact ⟨rfl,e2,ho _ (OB.mpr rfl) _ e3,hl⟩
section
variable {B H H':Hp} {Z:OF→Prop} {os:Own} {ρ:aK} {σ:St}
theorem Fr.grow (f:Fr K B Z os ρ σ H) (s:aW H H'):Fr K B Z os ρ σ H' where
 keep:=f.keep.trans s
 El:=fun a z=>let ⟨o,e⟩:=f.El a z; ⟨o,s _ _ e⟩
 len:=f.len
 nd:=f.nd
 dj:=f.dj
 new:=f.new
 sl:=fun i=>(f.sl i).kp (Kp.same s) (aW.refl _) fun a _ u e=>s _ _ e
 tab:=f.tab
theorem Fr.out (f:Fr K B Z os ρ σ H) {p:OF} (hp:H p=none):¬ bR Z os p:=by
 rintro (z | ⟨i,z⟩)
 ·obtain ⟨o,e⟩:=f.El p z
  rw [hp] at e; cases e
 ·obtain ⟨xs,e⟩:=(f.sl i).uM z
  rw [hp] at e; cases e
def jh (os:Own) (i:Nat) (o:List OF):Own:=fun j=>if j=i then o else os j
theorem bC {os:Own} {i:Nat}:jh os i o i=o:=if_pos rfl
theorem cy {os:Own} {i j:Nat} (h:j≠i):jh os i o j=os j:=if_neg h
theorem dQ {l:List α} {i:Nat} {x d:α} (h:i<l.length):(l.set i x).getD i d=x:=by
 rw [Ox,Qr h]; rfl
theorem iW {l:List α} {i j:Nat} {x d:α} (h:j≠i):(l.set i x).getD j d=l.getD j d:=by
 rw [Ox,Ql (P9 h),← Ox]
theorem Fr.step (f:Fr K B Z os ρ σ H) {i:Nat} (hi:i < ρ.length) {s:Sl} {v:Option V}
 (hk:∀ a u,H a=some u→a∉os i→H' a=some u) (hs:∀ a,a∈os i→∃ u,H' a=some u) (hn:o.Nodup) (ho:∀ a∈o,a∈os i∨H a=none) (ok:uS K B H' (bR Z (jh os i o)) o s v) :
 Fr K B Z (jh os i o) (ρ.set i s) (σ.set i v) H'∧Kp (bR Z os) H (bR Z (jh os i o)) H':=by
 have no:∀ a u,H a=some u→a∉os i→a∉o:=fun a u e n q=>by
  rcases ho a q with z | z
  ·exact n z
  ·rw [z] at e; cases e
 have kp:Kp (bR Z os) H (bR Z (jh os i o)) H':=fun a u e t=>by
  have ni:a∉os i:=fun q=>t (.inr ⟨i,q⟩)
  refine ⟨hk a u e ni,?_⟩
  rintro (z | ⟨j,z⟩)
  ·exact t (.inl z)
  ·show 23
   ·subst hj; rw [bC] at z; exact no a u e ni z
   ·rw [cy hj] at z; exact t (.inr ⟨j,z⟩)
 refine ⟨⟨fun a u e=>hk a u (f.keep a u e) fun q=>?_,fun a z=>?_,?_,fun j=>?_,fun j k a h1 h2=>?_,fun j a h=>?_,fun j=>?_,f.tab⟩,kp⟩
 ·have:=(f.new i a q).1; rw [e] at this; cases this
 ·obtain ⟨u,e⟩:=f.El a z
  exact ⟨u,hk a u e fun q=>(f.new i a q).2 z⟩
 ·rw [PH,PH]; exact f.len
 ·show 23
  ·subst hj; rw [bC]; exact hn
  ·rw [cy hj]; exact f.nd j
 ·have uM:∀ k,a∈os k→∃ u,H a=some u:=fun k z=>let ⟨xs,e⟩:=(f.sl k).uM z; ⟨_,e⟩
  show 23
  ·by_cases hk':k=i
   ·rw [hj,hk']
   ·subst hj
    rw [bC] at h1; rw [cy hk'] at h2
    rcases ho a h1 with z | z
    ·exact f.dj _ _ a z h2
    ·obtain ⟨u,e⟩:=uM k h2; rw [z] at e; cases e
  ·by_cases hk':k=i
   ·subst hk'
    rw [cy hj] at h1; rw [bC] at h2
    rcases ho a h2 with z | z
    ·exact f.dj _ _ a h1 z
    ·obtain ⟨u,e⟩:=uM j h1; rw [z] at e; cases e
   ·rw [cy hj] at h1; rw [cy hk'] at h2
    exact f.dj _ _ a h1 h2
 ·show 23
  ·subst hj
   rw [bC] at h
   rcases ho a h with z | z
   ·exact f.new _ a z
   ·exact ⟨aW.free f.keep z,fun q=>f.out z (.inl q)⟩
  ·rw [cy hj] at h; exact f.new j a h
 ·show 23
  ·subst hj
   have hσ:j < σ.length:=by rw [f.len]; exact hi
   rw [bC,dQ hi,Qr hσ]
   exact ok
  ·rw [cy hj,iW hj,Ql (P9 hj)]
   exact (f.sl j).kp kp (aW.refl _) fun a ha u e=>hk a u e fun q=>hj (f.dj _ _ a ha q)
theorem Fr.put (f:Fr K B Z os ρ σ H) {i:Nat} (hi:i < ρ.length) {v:V} {d:D} (h:Is K H (bR Z os) v d) :
 Fr K B Z (jh os i []) (ρ.set i (.pu d)) (σ.set i (some v)) H∧Kp (bR Z os) H (bR Z (jh os i [])) H:=by
 refine f.step hi (fun a u e _=>e) (fun a ha=>let ⟨xs,e⟩:=(f.sl i).uM ha; ⟨_,e⟩) Qe (fun a h=>by cases h) ⟨rfl,v,rfl,h.kp (Kp.less ?_)⟩
 rintro a (z | ⟨j,z⟩)
 ·exact .inl z
 ·show 23
  ·subst hj; rw [bC] at z; cases z
  ·rw [cy hj] at z; exact .inr ⟨j,z⟩
end
end
section
open Classical
noncomputable section
abbrev DE:=aK→Option D
section
variable [bE] {K:OA}
def bp (K:OA) (t:TE) (e:DE):Prop:=∀ {B:Hp} {Z:OF→Prop} {os:Own} {ρ:aK} {σ:L2.St} {H:Hp} {Q:VK} {d:D},Fr K B Z os ρ σ H→e ρ=some d→(∀ v H',aW H H'→Is K H' No v d→Q v H')→t σ H Q
def af (K:OA) (t:TE) (e:DE):Prop:=∀ {B:Hp} {Z:OF→Prop} {os:Own} {ρ:aK} {σ:L2.St} {H:Hp} {Q:VK} {d:D},Fr K B Z os ρ σ H→e ρ=some d→(∀ v H',aW H H'→Is K H' (bR Z os) v d→Q v H')→t σ H Q
def bx (K:OA) (t:TE) (e:aK→Option (List D)):Prop:=∀ {B:Hp} {Z:OF→Prop} {os:Own} {ρ:aK} {σ:L2.St} {H:Hp} {Q:VK} {ds:List D},Fr K B Z os ρ σ H→e ρ=some ds →
 (∀ p vs H',aW H H'→H p=none→H' p=some (.lst vs)→vs.length≤OE→IsL K H' (fun a=>a=p∨bR Z os a) vs ds→Q (.ref p) H')→t σ H Q
def mM (K:OA) (t:TT) (e:aK→Option Bool):Prop:=∀ {B:Hp} {Z:OF→Prop} {os:Own} {ρ:aK} {σ:L2.St} {H:Hp} {Q:Bool→Hp→Prop} {b:Bool},Fr K B Z os ρ σ H→e ρ=some b→(∀ H',aW H H'→Q b H')→t σ H Q
inductive Args (K:OA) (H:Hp) (T:OF→Prop):List Bool→List V→List D→Prop
 | nil:Args K H T [] [] []
 | own {ms:List Bool} {v:V} {d:D} {vs:List V} {ds:List D}:Is K H T v d→Args K H T ms vs ds→Args K H T (true::ms) (v::vs) (d::ds)
 | any {ms:List Bool} {v:V} {d:D} {vs:List V} {ds:List D}:Is K H No v d→Args K H T ms vs ds→Args K H T (false::ms) (v::vs) (d::ds)
def uU (K:OA) (ms:List Bool) (t:TA) (e:aK→Option (List D)):Prop:=∀ {B:Hp} {Z:OF→Prop} {os:Own} {ρ:aK} {σ:L2.St} {H:Hp} {Q:List V→Hp→Prop} {ds:List D},Fr K B Z os ρ σ H→e ρ=some ds→(∀ vs H',aW H H'→Args K H' (bR Z os) ms vs ds→Q vs H')→t σ H Q
theorem Args.len {ms:List Bool} {ds:List D} (a:Args K H T ms vs ds):vs.length=ms.length∧ds.length=ms.length:=by
 induction a with
 | nil=>exact ⟨rfl,rfl⟩
 | own h _ ih=>simp [ih.1,ih.2]
 | any h _ ih=>simp [ih.1,ih.2]
theorem Args.KJ {H:Hp} {T:OF→Prop}:∀ {n:Nat} {vs:List V} {ds:List D},Args K H T (OY n true) vs ds→IsL K H T vs ds
 | 0,_,_,.nil=>.nil
 | _+1,_,_,.own h r=>.cons h r.KJ
theorem af.b {t:TE} {e:DE} (h:af K t e):bp K t e:=fun f q k=>h f q fun v H' s i=>k v H' s i.all
theorem bx.i {t:TE} {e:aK→Option (List D)} (h:bx K t e):af K t (fun ρ=>(e ρ).map D.lst):=fun {B Z os ρ σ H Q d} f q k=>by
 dsimp only at q
 cases q1:e ρ with
 | none=>rw [q1] at q; cases q
 | some ds =>
  rw [q1] at q
  cases q
  refine h f q1 fun p vs H' s hp hp' hl i=>k _ _ s (.lst (f.out hp) (.inl hp') hl (i.kp (Kp.less fun a z=>.inr z)))
def KN:D→Option (List D)
 | .lst ds=>some ds
 | .scr ns=>some (ns.map D.int)
 | _=>none
theorem Is.seq {v:V} {d:D} {ds:List D} (h:Is K H Z v d) (e:KN d=some ds):∃ p vs,v=.ref p∧vs.length≤OE∧vs.length=ds.length∧∀ H' Z',Kp Z H Z' H'→dw K H' p vs∧IsL K H' Z' vs ds:=by
 cases h with
 | lst hz h hl r=>cases e; exact ⟨_,_,rfl,hl,r.length,fun H' Z' k=>⟨.inl (Rd.kp k hz h).1,r.kp k⟩⟩
 | scr hz h hl=>cases e; exact ⟨_,_,rfl,by rw [Oy]; exact hl,by simp,fun H' Z' k=>⟨.inl (Rd.kp k hz h).1,.ofInts _⟩⟩
 | scrK h hl=>cases e; exact ⟨_,_,rfl,by rw [Oy]; exact hl,by simp,fun H' Z' k=>⟨.inr h,.ofInts _⟩⟩
 | _=>cases e
noncomputable def iX (e:DE):DE:=fun ρ=>match e ρ with
 | some d=>if d.mI=true then some d else none
 | none=>none
theorem bp.i {t:TE} {e:DE} (h:bp K t e):af K t (iX e):=fun {B Z os ρ σ H Q d} f q k=>by
 unfold iX at q
 cases q1:e ρ with
 | none=>rw [q1] at q; cases q
 | some d' =>
  rw [q1] at q
  have q':(if d'.mI=true then some d' else none)=some d:=q
  by_cases c:d'.mI=true
  ·rw [if_pos c] at q'
   cases q'
   exact h f q1 fun v H' s i=>k v H' s (i.mI c)
  ·rw [if_neg c] at q'; cases q'
noncomputable def aj (i:Nat):DE:=fun ρ=>match ρ.getD i .un with
 | .pu d=>some d
 | .bo d=>some d
 | .ol ds=>some (.lst ds)
 | .om rows=>some (.lst (rows.map D.lst))
 | .od kvs=>some (.dct kvs)
 | .pm _ _ rows=>some (.lst (rows.map D.lst))
 | .pd _ kvs=>some (.dct kvs)
 | .un=>none
noncomputable def av (i:Nat):DE:=fun ρ=>match ρ.getD i .un with
 | .pu d=>some d
 | _=>none
omit [bE] in
theorem join_some {o:Option (Option α)} {u:α} (h:o.join=some u):o=some (some u):=by
 cases o with
 | none=>cases h
 | some x=>rw [show x=some u from h]
theorem gS {H:Hp} {T:OF→Prop}:∀ {ps:List OF} {rows:List (List D)},Qv (fun p ds=>∃ vs,H p=some (.lst vs)∧vs.length≤OE∧IsL K H T vs ds) ps rows→IsL K H No ‹55› (rows.map D.lst)
 | _,_,.nil=>.nil
 | _,_,.cons ⟨vs,e,hl,i⟩ r=>.cons (.lst (fun z=>z) (.inl e) hl i.all) (gS r)
theorem ab (i:Nat):bp K (iJ i) (aj i):=fun {B Z os ρ σ H Q d} f q k=>by
 have s:=f.sl i
 unfold aj at q
 cases e:ρ.getD i .un with
 | un=>rw [e] at q; cases q
 | pu d' =>
  rw [e] at q s
  cases q
  obtain ⟨_,u,hu,i⟩:=s
  exact ⟨u,join_some hu,k u H (aW.refl _) i.all⟩
 | bo d' =>
  rw [e] at q s
  cases q
  obtain ⟨_,u,hu,i⟩:=s
  exact ⟨u,join_some hu,k u H (aW.refl _) (i.same f.keep)⟩
 | ol ds =>
  rw [e] at q s
  cases q
  obtain ⟨a,vs,_,hu,hH,hl,i⟩:=s
  exact ⟨_,join_some hu,k _ H (aW.refl _) (.lst (fun z=>z) (.inl hH) hl i.all)⟩
 | om rows =>
  rw [e] at q s
  cases q
  obtain ⟨a,ps,_,hu,hH,hl,i⟩:=s
  exact ⟨_,join_some hu,k _ H (aW.refl _) (.lst (fun z=>z) (.inl hH) ‹41› (gS i))⟩
 | od kvs =>
  rw [e] at q s
  cases q
  obtain ⟨a,_,hu,hH,hl⟩:=s
  exact ⟨_,join_some hu,k _ H (aW.refl _) (.dct (fun z=>z) (.inl hH) hl)⟩
 | pm a ps rows =>
  rw [e] at q s
  cases q
  obtain ⟨_,hu,hH,hl,i⟩:=s
  exact ⟨_,join_some hu,k _ H (aW.refl _) (.lst (fun z=>z) (.inl hH) ‹41› (gS i))⟩
 | pd a kvs =>
  rw [e] at q s
  cases q
  obtain ⟨_,hu,hH,hl⟩:=s
  exact ⟨_,join_some hu,k _ H (aW.refl _) (.dct (fun z=>z) (.inl hH) hl)⟩
theorem au (i:Nat):af K (iJ i) (av i):=fun {B Z os ρ σ H Q d} f q k=>by
 have s:=f.sl i
 unfold av at q
 cases e:ρ.getD i .un with
 | pu d' =>
  rw [e] at q s
  cases q
  obtain ⟨_,u,hu,i⟩:=s
  exact ⟨u,join_some hu,k u H (aW.refl _) i⟩
 | _=>rw [e] at q; cases q
noncomputable def dC (d:D):DE:=fun _=>some d
theorem aq {i:Int}:af K (tC (.int i)) (dC (.int i)):=fun f q k=>by cases q; exact k _ _ (aW.refl _) (.int i)
theorem kX {i:Bool}:af K (tC (.bl i)) (dC (.bl i)):=fun f q k=>by cases q; exact k _ _ (aW.refl _) (.bl i)
theorem wz:af K (tC .non) (dC .non):=fun f q k=>by cases q; exact k _ _ (aW.refl _) .non
noncomputable def pC (f:Int→Int→Option D) (a b:DE):DE:=fun ρ=>match a ρ with
 | some (.int i)=>(match b ρ with
  | some (.int j)=>f i j
  | _=>none)
 | _=>none
theorem oV {f:Int→Int→Option D} {a b:DE} {ρ:aK} {d:D} (h:pC f a b ρ=some d):∃ i j,a ρ=some (.int i)∧b ρ=some (.int j)∧f i j=some d:=by
 unfold pC at h
 split at h
 ·rename_i i e1
  split at h
  ·rename_i j e2
   exact ⟨i,j,e1,e2,h⟩
  ·cases h
 ·cases h
theorem Is.isInt {v:V} {i:Int} (h:Is K H Z v (.int i)):v=.int i:=by cases h; rfl
theorem Is.Ip {v:V} {i:Bool} (h:Is K H Z v (.bl i)):v=.bl i:=by cases h; rfl
variable {ta tb tc:TE} {a b c:DE}
theorem pK {g:Int→Int→V} (gd:Int→Int→D) (hg:∀ i j H Z,Is K H Z (g i j) (gd i j)) (ha:bp K ta a) (hb:bp K tb b):af K (qF (Ai g) ta tb) (pC (fun i j=>some (gd i j)) a b):=fun {B Z os ρ σ H Q d} f q k=>by
 obtain ⟨i,j,e1,e2,e3⟩:=oV q
 cases e3
 show 3
 exact ⟨i,j,i1.isInt,i2.isInt,k _ _ (s1.trans s2) (hg i j _ _)⟩
noncomputable def gC (C:Int→Int→Prop) (g:Int→Int→D):Int→Int→Option D:=fun i j=>if C i j then some (g i j) else none
theorem xk {g:Int→Int→D} {i j:Int} (h:C i j):gC C g i j=some (g i j):=if_pos h
theorem wy {g:Int→Int→V} (gd:Int→Int→D) (hg:∀ i j H Z,Is K H Z (g i j) (gd i j)) (ha:bp K ta a) (hb:bp K tb b):af K (qF (rI C g) ta tb) (pC (gC C gd) a b):=fun {B Z os ρ σ H Q d} f q k=>by
 obtain ⟨i,j,e1,e2,e3⟩:=oV q
 unfold gC at e3
 by_cases c:C i j
 ·rw [if_pos c] at e3
  cases e3
  show 3
  exact ⟨i,j,i1.isInt,i2.isInt,c,k _ _ (s1.trans s2) (hg i j _ _)⟩
 ·rw [if_neg c] at e3; cases e3
noncomputable def j9:DE→DE→DE:=pC fun i j=>some (.int (i+j))
noncomputable def jl:DE→DE→DE:=pC fun i j=>some (.int (i-j))
noncomputable def rn:DE→DE→DE:=pC (gC VW fun i j=>.int (i*j))
noncomputable def mS:DE→DE→DE:=pC (gC (fun _ j=>0<j∧j.natAbs.log2<9000) fun i j=>.int (i / j))
noncomputable def lQ:DE→DE→DE:=pC (gC (fun _ j=>0<j) fun i j=>.int (i % j))
noncomputable def AX:DE→DE→DE:=pC (gC Eb fun i j=>.int (i ^ j.toNat))
noncomputable def zy:DE→DE→DE:=pC fun i j=>some (.bl (decide (i<j)))
noncomputable def Hr:DE→DE→DE:=pC fun i j=>some (.bl (decide (i≤j)))
noncomputable def AZ:DE→DE→DE:=pC fun i j=>some (.bl (decide (j<i)))
noncomputable def DZ:DE→DE→DE:=pC fun i j=>some (.bl (decide (j≤i)))
theorem eQ (ha:bp K ta a) (hb:bp K tb b):af K (qF (Ai fun i j=>.int (i+j)) ta tb) (j9 a b):=pK (fun i j=>.int (i+j)) (fun _ _ _ _=>.int _) ha hb
theorem eE (ha:bp K ta a) (hb:bp K tb b):af K (qF (Ai fun i j=>.int (i-j)) ta tb) (jl a b):=pK (fun i j=>.int (i-j)) (fun _ _ _ _=>.int _) ha hb
theorem kT (ha:bp K ta a) (hb:bp K tb b):af K (qF (rI VW fun i j=>.int (i*j)) ta tb) (rn a b):=wy (fun i j=>.int (i*j)) (fun _ _ _ _=>.int _) ha hb
theorem jJ (ha:bp K ta a) (hb:bp K tb b):af K (qF (rI (fun _ j=>0<j∧j.natAbs.log2<9000) fun i j=>.int (i / j)) ta tb) (mS a b):=wy (fun i j=>.int (i / j)) (fun _ _ _ _=>.int _) ha hb
theorem fq (ha:bp K ta a) (hb:bp K tb b):af K (qF (rI (fun _ j=>0<j) fun i j=>.int (i % j)) ta tb) (lQ a b):=wy (fun i j=>.int (i % j)) (fun _ _ _ _=>.int _) ha hb
theorem Fg (ha:bp K ta a) (hb:bp K tb b):af K (qF (rI Eb fun i j=>.int (i ^ j.toNat)) ta tb) (AX a b):=wy (fun i j=>.int (i ^ j.toNat)) (fun _ _ _ _=>.int _) ha hb
theorem kU (ha:bp K ta a) (hb:bp K tb b):af K (qF (Ai fun i j=>.bl (decide (i<j))) ta tb) (zy a b):=pK (fun i j=>.bl (decide (i<j))) (fun _ _ _ _=>.bl _) ha hb
theorem u6 (ha:bp K ta a) (hb:bp K tb b):af K (qF (Ai fun i j=>.bl (decide (i≤j))) ta tb) (Hr a b):=pK (fun i j=>.bl (decide (i≤j))) (fun _ _ _ _=>.bl _) ha hb
theorem oj (ha:bp K ta a) (hb:bp K tb b):af K (qF (Ai fun i j=>.bl (decide (j<i))) ta tb) (AZ a b):=pK (fun i j=>.bl (decide (j<i))) (fun _ _ _ _=>.bl _) ha hb
theorem qH (ha:bp K ta a) (hb:bp K tb b):af K (qF (Ai fun i j=>.bl (decide (j≤i))) ta tb) (DZ a b):=pK (fun i j=>.bl (decide (j≤i))) (fun _ _ _ _=>.bl _) ha hb
noncomputable def jm (a:DE):DE:=fun ρ=>match a ρ with
 | some (.int i)=>some (.int (-i))
 | _=>none
theorem gB (ha:bp K ta a):af K (NN (rU fun i=>.int (-i)) ta) (jm a):=fun {B Z os ρ σ H Q d} f q k=>by
 unfold jm at q
 split at q
 ·rename_i i e1
  cases q
  exact ha f e1 fun v H1 s1 i1=>⟨i,i1.isInt,k _ _ s1 (.int _)⟩
 ·cases q
noncomputable def dT (a:DE):aK→Option Bool:=fun ρ=>match a ρ with
 | some (.bl b)=>some b
 | _=>none
theorem aR (ha:bp K ta a):mM K (Jg ta) (dT a):=fun {B Z os ρ σ H Q d} f q k=>by
 unfold dT at q
 split at q
 ·rename_i b e
  cases q
  exact ha f e fun v H1 s1 i1=>⟨_,i1.Ip,k _ s1⟩
 ·cases q
def EG:D→Option Bool
 | .non=>some false
 | .bl b=>some b
 | .int i=>some (i != 0)
 | .str y=>if y.length≤OE then some ((y.length:Int) != 0) else none
 | .lst ds=>some (!ds.isEmpty)
 | .tup ds=>some (!ds.isEmpty)
 | .scr ns=>some (!ns.isEmpty)
 | _=>none
theorem tf {ds:List D} (h:IsL K H Z vs ds):vs.isEmpty=ds.isEmpty:=by cases h <;> rfl
theorem JZ {v:V} {d:D} {b:Bool} (h:Is K H Z v d) (e:EG d=some b):Hb K v H b:=by
 cases h with
 | non=>cases e; rfl
 | bl b=>cases e; rfl
 | int i=>cases e; rfl
 | str x =>
  have e:(if x.length≤OE then some ((x.length:Int) != 0) else none)=some b:=e
  by_cases c:x.length≤OE
  ·rw [if_pos c] at e; cases e; exact ⟨c,rfl⟩
  ·rw [if_neg c] at e; cases e
 | ty n=>cases e
 | lst hz h hl r=>cases e; exact .inl ⟨_,.inl h,by rw [tf r]⟩
 | tup hz h hl r=>cases e; exact .inr (.inl ⟨_,.inl (.inl h),by rw [tf r]⟩)
 | ins _ _=>cases e
 | dct _ _ _=>cases e
 | scr hz h hl=>cases e; exact .inl ⟨_,.inl h,by cases ‹List Int› <;> rfl⟩
 | scrK h hl=>cases e; exact .inl ⟨_,.inr h,by cases ‹List Int› <;> rfl⟩
noncomputable def iK (a:DE):aK→Option Bool:=fun ρ=>match a ρ with
 | some d=>EG d
 | none=>none
theorem dW (ha:bp K ta a):mM K (fun σ H Q=>ta σ H fun x H'=>∃ k,Hb K x H' k∧Q k H') (iK a):=fun {B Z os ρ σ H Q b} f q k=>by
 unfold iK at q
 split at q
 ·rename_i d e
  exact ha f e fun v H1 s1 i1=>⟨b,JZ i1 q,k _ s1⟩
 ·cases q
variable {tA tB':TT} {x y:aK→Option Bool}
noncomputable def za (x y:aK→Option Bool):aK→Option Bool:=fun ρ=>match x ρ with
 | some true=>y ρ
 | some false=>some false
 | none=>none
noncomputable def tT (x y:aK→Option Bool):aK→Option Bool:=fun ρ=>match x ρ with
 | some true=>some true
 | some false=>y ρ
 | none=>none
noncomputable def lP (x:aK→Option Bool):aK→Option Bool:=fun ρ=>match x ρ with
 | some b=>some (!b)
 | none=>none
theorem wo (ha:mM K tA x) (hb:mM K tB' y):mM K (L0 tA tB') (za x y):=fun {B Z os ρ σ H Q b} f q k=>by
 unfold za at q
 split at q
 ·rename_i e
  exact ha f e fun H1 s1=>yI (hb (f.grow s1) q fun H2 s2=>k _ (s1.trans s2))
 ·rename_i e
  cases q
  exact ha f e fun H1 s1=>xj (k _ s1)
 ·cases q
theorem fP (ha:mM K tA x) (hb:mM K tB' y):mM K (NP tA tB') (tT x y):=fun {B Z os ρ σ H Q b} f q k=>by
 unfold tT at q
 split at q
 ·rename_i e
  cases q
  exact ha f e fun H1 s1=>yI (k _ s1)
 ·rename_i e
  exact ha f e fun H1 s1=>xj (hb (f.grow s1) q fun H2 s2=>k _ (s1.trans s2))
 ·cases q
theorem gA (ha:mM K tA x):mM K (LX tA) (lP x):=fun {B Z os ρ σ H Q b} f q k=>by
 unfold lP at q
 split at q
 ·rename_i c e
  cases q
  exact ha f e fun H1 s1=>k _ s1
 ·cases q
noncomputable def cD:aK→Option Bool:=fun _=>some true
theorem cE:mM K Bq cD:=fun f q k=>by cases q; exact k _ (aW.refl _)
noncomputable def oW (a b:DE):DE:=fun ρ=>match a ρ with
 | some (.bl true)=>b ρ
 | some (.bl false)=>some (.bl false)
 | _=>none
noncomputable def GP (a:DE):DE:=fun ρ=>match a ρ with
 | some (.bl c)=>some (.bl (!c))
 | _=>none
theorem oq (ha:bp K ta a) (hb:af K tb b):af K (Jp ta tb) (oW a b):=fun {B Z os ρ σ H Q d} f q k=>by
 unfold oW at q
 split at q
 ·rename_i e
  exact ha f e fun v H1 s1 i1=>⟨true,i1.Ip,yI (hb (f.grow s1) q fun v H2 s2=>k _ _ (s1.trans s2))⟩
 ·rename_i e
  cases q
  exact ha f e fun v H1 s1 i1=>⟨false,i1.Ip,xj (k _ _ s1 (.bl _))⟩
 ·cases q
theorem HS (ha:bp K ta a):af K (Jk ta) (GP a):=fun {B Z os ρ σ H Q d} f q k=>by
 unfold GP at q
 split at q
 ·rename_i c e
  cases q
  exact ha f e fun v H1 s1 i1=>⟨c,i1.Ip,k _ _ s1 (.bl _)⟩
 ·cases q
noncomputable def MJ (x:aK→Option Bool) (a b:DE):DE:=fun ρ=>match x ρ with
 | some true=>a ρ
 | some false=>b ρ
 | none=>none
theorem L6 (h:mM K tA x) (ha:af K ta a) (hb:af K tb b):af K (NQ tA ta tb) (MJ x a b):=fun {B Z os ρ σ H Q d} f q k=>by
 unfold MJ at q
 split at q
 ·rename_i e
  exact h f e fun H1 s1=>yI (ha (f.grow s1) q fun v H2 s2=>k _ _ (s1.trans s2))
 ·rename_i e
  exact h f e fun H1 s1=>xj (hb (f.grow s1) q fun v H2 s2=>k _ _ (s1.trans s2))
 ·cases q
noncomputable def AY (a:DE):DE:=fun ρ=>match a ρ with
 | some .non=>some (.bl true)
 | some _=>some (.bl false)
 | none=>none
def D.Gk:D→Bool
 | .non=>true
 | _=>false
theorem K7 {v:V} {d:D} (h:Is K H Z v d):decide (v=.non)=d.Gk:=by cases h <;> rfl
theorem II {a:DE} {ρ:aK} {d:D} (e:a ρ=some d):AY a ρ=some (.bl d.Gk):=by
 unfold AY; rw [e]; cases d <;> rfl
theorem DY {a:DE} {ρ:aK} {d:D} (e:AY a ρ=some d):∃ d',a ρ=some d'∧d=.bl d'.Gk:=by
 cases q:a ρ with
 | none=>unfold AY at e; rw [q] at e; cases e
 | some d'=>rw [II q] at e; exact ⟨d',rfl,(Pm e).symm⟩
theorem Fj (ha:bp K ta a) (hb:bp K tb (dC .non)):af K (qF (fun x y H Q=>y=.non∧Q (.bl (decide (x=.non))) H) ta tb) (AY a):=fun {B Z os ρ σ H Q d} f q k=>by
 obtain ⟨d',e,rfl⟩:=DY q
 refine ha f e fun v H1 s1 i1=>hb (f.grow s1) rfl fun u H2 s2 i2=>⟨by cases i2; rfl,?_⟩
 rw [K7 i1]
 exact k _ _ (s1.trans s2) (.bl _)
end
end
end
end VL
namespace L2
variable {K:OA}
open PySem PySem.Spec PyProof.Rows
section
variable {X:Cx} {pins:List (OF×Q5)} {σ:St} {H:Hp} {s:OG} {l:OF} {xs:List V}
theorem Inv.rj (I:Inv X pins σ H s) (hH:Rd H l (.lst xs)):xs.length≤OE∧∃ (its:List OD) (n:Nat),Vals xs its∧xs.length=its.length∧s.heap.get? l=some { cls:=.type "list", data:=.seq its.toArray n }:=by
 obtain ⟨z,its,n,r,e⟩:=hH.ok I.ck
 exact ⟨z,its,n,r,r.length,e⟩
def Jz:R2:=fun x y H Q=>∃ l b xs zs,x=.ref l∧y=.ref b∧Rd H l (.lst xs)∧Rd H b (.lst zs)∧xs.length+zs.length≤OE∧∀ p,H p=none→Q (.ref p) (upd H p (.lst (xs++zs)))
theorem rF:rT X (TR .Add) Jz:=by
 show 4
 obtain ⟨l,b,xs,zs,rfl,rfl,hH,hB,hz,q⟩:=h
 cases rx
 cases ry
 obtain ⟨z,its,n,r,hl,e⟩:=I.rj hH
 obtain ⟨z2,its2,n2,r2,hl2,e2⟩:=I.rj hB
 refine PySem.P.add_list e e2 ?_ (by rw [OM,OM]; omega)
 have ea:its.toArray++its2.toArray=(its++its2).toArray:=by simp
 rw [ea]
 exact ⟨.ref _,_,I.KO (t':=s.toks) (r.append r2) (by rw [O1]; omega),rfl,q _ I.fresh⟩
def Jy:V→List V→Hp→VK→Prop:=fun x vs H Q=>∃ l b xs zs,x=.ref l∧vs=[.ref b]∧H l=some (.lst xs)∧Rd H b (.lst zs)∧xs.length+zs.length≤OE∧Q .non (upd H l (.lst (xs++zs)))
theorem wZ:NZ X "list.extend" Jy:=by
 intro pins s σ H x vs v us Q I rx rv h
 obtain ⟨l,b,xs,zs,rfl,rfl,hH,hB,hz,q⟩:=h
 cases rx
 obtain ⟨u,rfl,ru⟩:=rv.one
 cases ru
 obtain ⟨z,its,n,r,hl,e⟩:=I.KH hH
 obtain ⟨z2,its2,n2,r2,hl2,e2⟩:=I.rj hB
 have hsz:its.toArray.size+its2.toArray.size≤OE:=by rw [OM,OM]; omega
 have hlong:¬ (!its.toArray.isEmpty&&RM (its.toArray.size+its2.toArray.size))=true:=by
  rw [yv hsz,Bool.and_false]
  exact O2
 refine Vn F.slot_list_extend ⟨_,e,rfl⟩ F.entry_list_extend (F.args_list_extend_2 _ _)
  (AutoSeq1.list_extend_list_list_0 l its.toArray n b its2.toArray n2 hlong (by rw [OM]; omega) ‹5›) ⟨e,e2,?_⟩
 refine ⟨.non,_,I.Mt (its':=its++its2) hH e (by simp) (r.append r2) ?_,rfl,q⟩
 rw [O1]
 omega
theorem ax (h:X.K=K):Hs X (Jx K):=by subst h; exact K5
theorem bI (h:X.K=K):dG X (.builtin "len") (fun xs H Q=>∃ x n,xs=[x]∧Jb K x H n∧Q (.int n) H):=by subst h; exact G1
theorem jB (hc:X.calm=true) (h:X.K=K):dG X (.builtin "sum") (fun xs H Q=>∃ (p:OF) (ns:List Int),xs=[.ref p]∧dw K H p ‹49›∧Q (.int ns.sum) H):=by subst h; exact GZ hc
theorem tX (hc:X.calm=true) (h:X.K=K):dG X (.builtin "max") (fun xs H Q=>∃ (p:OF) (ns:List Int),xs=[.ref p]∧dw K H p ‹49›∧ns≠[]∧∀ M,M∈ns→(∀ a,a∈ns→a≤M)→Q (.int M) H):=by subst h; exact D4 hc
end
end L2
namespace VL
variable {es:aK→Option (List D)} {ρ:aK} {ds:List D} {ms:List Bool} {tr:TA} {H:Hp} {n:Nat} {t:TA} {Z:OF→Prop} {vs:List V} {d:D} {ns:List Int} {Q:VK} {A:P8}
open PySem L2
section
open Classical
noncomputable section
section
variable [bE] {K:OA} {ta tb tc:TE} {a b c:DE}
noncomputable def ao (a:DE) (es:aK→Option (List D)):aK→Option (List D):=fun ρ=>match a ρ with
 | some d=>(match es ρ with
  | some ds=>some (d::ds)
  | none=>none)
 | none=>none
noncomputable def bu:aK→Option (List D):=fun _=>some []
theorem j8 {a:DE} (h:ao a es ρ=some ds):∃ d r,a ρ=some d∧es ρ=some r∧ds=d::r:=by
 unfold ao at h
 split at h
 ·rename_i d e1
  split at h
  ·rename_i r e2
   exact ⟨d,r,e1,e2,(Pm h).symm⟩
  ·cases h
 ·cases h
theorem aE:uU K [] fN bu:=fun f q k=>by cases q; exact k _ _ (aW.refl _) .nil
theorem az (ha:af K ta a) (hr:uU K ms tr es):uU K (true::ms) (cz ta tr) (ao a es):=fun {B Z os ρ σ H Q ds} f q k=>by
 obtain ⟨d,r,e1,e2,rfl⟩:=j8 q
 exact ha f e1 fun v H1 s1 i1=>hr (f.grow s1) e2 fun vs H2 s2 i2=>k _ _ (s1.trans s2) (.own (i1.same s2) i2)
theorem aN (ha:bp K ta a) (hr:uU K ms tr es):uU K (false::ms) (cz ta tr) (ao a es):=fun {B Z os ρ σ H Q ds} f q k=>by
 obtain ⟨d,r,e1,e2,rfl⟩:=j8 q
 exact ha f e1 fun v H1 s1 i1=>hr (f.grow s1) e2 fun vs H2 s2 i2=>k _ _ (s1.trans s2) (.any (i1.same s2) i2)
theorem lu {T:OF→Prop} {p:OF} {o:HO} (hp:H p=none):Kp T H (fun a=>a=p∨T a) (upd H p o):=fun a u e z=>by
 have hne:a≠p:=br e hp
 exact ⟨by rw [upd_ne hne]; exact e,fun q=>q.elim hne z⟩
theorem cI (h:uU K (OY n true) t es) (hn:n≤OE):bx K (J3 t) es:=fun {B Z os ρ σ H Q ds} f q k=>by
 refine h f q fun vs H1 s1 a=>?_
 have hl:vs.length≤OE:=by have:=a.len.1; rw [Pu] at this; omega
 exact ⟨hl,fun p hp=>k p vs _ (s1.trans (bL hp)) (aW.free s1 hp) aF hl (a.KJ.kp (lu hp))⟩
noncomputable def yZ (es:aK→Option (List D)):DE:=fun ρ=>(es ρ).map D.tup
theorem z7 (h:uU K (OY n true) t es) (hn:n≤OE):af K (LU t) (yZ es):=fun {B Z os ρ σ H Q d} f q k=>by
 unfold yZ at q
 cases q1:es ρ with
 | none=>rw [q1] at q; cases q
 | some ds =>
  rw [q1] at q
  cases q
  refine h f q1 fun vs H1 s1 a=>?_
  have hl:vs.length≤OE:=by have:=a.len.1; rw [Pu] at this; omega
  exact ⟨hl,fun p hp=>k _ _ (s1.trans (bL hp)) (.tup ((f.grow s1).out hp) aF hl ((a.KJ.kp (lu hp)).kp (Kp.less fun a z=>.inr z)))⟩
noncomputable def bD (es:aK→Option (List D)):DE:=fun ρ=>(es ρ).map D.lst
theorem bx.l {t:TE} {e:aK→Option (List D)} (h:bx K t e):af K t (bD e):=h.i
def AD:D→Int→Option D
 | .lst ds,i=>kL ds i
 | .tup ds,i=>kL ds i
 | .scr ns,i=>(kL ns i).map D.int
 | .str z,i=>if z.length≤OE then (kL z.cps.toList i).map fun c=>.str ⟨#[c]⟩ else none
 | _,_=>none
theorem A8 {i:Int} (r:IsL K H Z vs ds) (h:kL ds i=some d):∃ v,kL vs i=some v∧Is K H Z v d:=by
 unfold kL at h ⊢
 rw [r.length]
 cases e:ixN ds.length i with
 | none=>rw [e] at h; cases h
 | some j =>
  rw [e] at h
  obtain ⟨v,e1,i1⟩:=r.get (i:=j) (show ds[j]?=some d from h)
  exact ⟨v,e1,i1⟩
theorem zp {i:Int} {n:Int} (h:kL ns i=some n):kL ‹49› i=some (.int n):=by
 unfold kL at h ⊢
 rw [Oy]
 cases e:ixN ns.length i with
 | none=>rw [e] at h; cases h
 | some j =>
  rw [e] at h
  have h':ns[j]?=some n:=h
  show ‹49›[j]?=some (.int n)
  rw [OH,h']
  rfl
theorem JD {v:V} {e:D} {i:Int} (h:Is K H Z v d) (q:AD d i=some e) (k:∀ u,Is K H Z u e→Q u H):Jx K v (.int i) H Q:=by
 cases h with
 | lst hz h hl r =>
  obtain ⟨u,e1,i1⟩:=A8 r (show kL _ i=some e from q)
  exact .inl ⟨_,_,i,u,rfl,rfl,.inl h,e1,k u i1⟩
 | tup hz h hl r =>
  obtain ⟨u,e1,i1⟩:=A8 r (show kL _ i=some e from q)
  exact .inr (.inl ⟨_,_,i,u,rfl,rfl,.inl (.inl h),e1,k u i1⟩)
 | str z =>
  have q:(if z.length≤OE then (kL z.cps.toList i).map fun c=>D.str ⟨#[c]⟩ else none)=some e:=q
  by_cases c:z.length≤OE
  ·rw [if_pos c] at q
   cases e2:kL z.cps.toList i with
   | none=>rw [e2] at q; cases q
   | some cp =>
    rw [e2] at q
    cases q
    exact .inr (.inr ⟨z,i,cp,rfl,rfl,c,e2,k _ (.str _)⟩)
  ·rw [if_neg c] at q; cases q
 | @scr p ns hz h hl =>
  have q:(kL ns i).map D.int=some e:=q
  cases e2:kL ns i with
  | none=>rw [e2] at q; cases q
  | some n=>rw [e2] at q; cases q; exact .inl ⟨_,_,i,_,rfl,rfl,.inl h,zp e2,k _ (.int n)⟩
 | @scrK p ns h hl =>
  have q:(kL ns i).map D.int=some e:=q
  cases e2:kL ns i with
  | none=>rw [e2] at q; cases q
  | some n=>rw [e2] at q; cases q; exact .inl ⟨_,_,i,_,rfl,rfl,.inr h,zp e2,k _ (.int n)⟩
 | _=>cases q
noncomputable def cC (a b:DE):DE:=fun ρ=>match a ρ with
 | some d=>(match b ρ with
  | some (.int i)=>AD d i
  | _=>none)
 | none=>none
theorem y8 (h:cC a b ρ=some d):∃ e i,a ρ=some e∧b ρ=some (.int i)∧AD e i=some d:=by
 unfold cC at h
 split at h
 ·rename_i e e1
  split at h
  ·rename_i i e2
   exact ⟨e,i,e1,e2,h⟩
  ·cases h
 ·cases h
theorem aZ (ha:bp K ta a) (hb:bp K tb b):bp K (qF (Jx K) ta tb) (cC a b):=fun {B Z os ρ σ H Q d} f q k=>by
 obtain ⟨e,i,e1,e2,e3⟩:=y8 q
 show 3
 rw [i2.isInt]
 exact JD (i1.same s2) e3 fun w i3=>k _ _ (s1.trans s2) i3
theorem dD (ha:af K ta a) (hb:bp K tb b):af K (qF (Jx K) ta tb) (cC a b):=fun {B Z os ρ σ H Q d} f q k=>by
 obtain ⟨e,i,e1,e2,e3⟩:=y8 q
 show 3
 rw [i2.isInt]
 exact JD (i1.same s2) e3 fun w i3=>k _ _ (s1.trans s2) i3
noncomputable def GS (i:Nat) (b:DE):DE:=fun ρ=>match ρ.getD i .un with
 | .ol ds=>(match b ρ with
  | some (.int k)=>kL ds k
  | _=>none)
 | _=>none
theorem Kc {i:Nat} (hb:bp K tb b):af K (qF (Jx K) (iJ i) tb) (GS i b):=fun {B Z os ρ σ H Q d} f q k=>by
 have s:=f.sl i
 unfold GS at q
 split at q
 ·rename_i ds e0
  rw [e0] at s
  obtain ⟨x,vs,_,hu,hH,hl,i⟩:=s
  split at q
  ·rename_i j e2
   refine ⟨_,join_some hu,hb f e2 fun u H2 s2 i2=>?_⟩
   rw [i2.isInt]
   obtain ⟨w,e3,i3⟩:=A8 i q
   exact .inl ⟨_,_,j,w,rfl,rfl,.inl (.inl (s2 _ _ hH)),e3,k _ _ s2 (i3.same s2)⟩
  ·cases q
 ·cases q
def D.v:D→V
 | .bl b=>.bl b
 | .int i=>.int i
 | .str x=>.str x
 | .ty n=>.ty n
 | _=>.non
theorem D.v_is (h:d.mI=true):Is K H Z d.v d:=by
 cases d with
 | non=>exact .non
 | bl b=>exact .bl b
 | int b=>exact .int b
 | str b=>exact .str b
 | ty b=>exact .ty b
 | _=>cases h
noncomputable def gI (g:D→Option D) (a:DE):DE:=fun ρ=>match a ρ with
 | some d=>g d
 | none=>none
theorem x8 {r:List V→Hp→VK→Prop} {g:D→Option D} (hg:∀ {H v d e} {Q:VK},Is K H No v d→g d=some e→e.mI=true∧(Q e.v H→r [v] H Q)) (ha:bp K ta a):af K (xX r (cz ta fN)) (gI g a):=fun {B Z os ρ σ H Q d} f q k=>by
 unfold gI at q
 split at q
 ·rename_i e e1
  refine ha f e1 fun v H1 s1 i1=>?_
  obtain ⟨hs,hr⟩:=hg (Q:=Q) i1 q
  exact hr (k _ _ s1 (D.v_is hs))
 ·cases q
def d6:D→Option D
 | .lst ds=>some (.int ds.length)
 | .tup ds=>some (.int ds.length)
 | .scr ns=>some (.int ns.length)
 | .str y=>if y.length≤OE then some (.int y.length) else none
 | _=>none
theorem KQ {v:V} {e:D} (h:Is K H No v d) (q:d6 d=some e):e.mI=true∧(Q e.v H→∃ x n,[v]=[x]∧Jb K x H n∧Q (.int n) H):=by
 cases h with
 | lst hz h hl r=>cases q; exact ⟨rfl,fun k=>⟨_,_,rfl,.inl ⟨_,.inl h,rfl⟩,by rw [r.length]; exact k⟩⟩
 | tup hz h hl r=>cases q; exact ⟨rfl,fun k=>⟨_,_,rfl,.inr ⟨_,.inl (.inl h),rfl⟩,by rw [r.length]; exact k⟩⟩
 | str z =>
  have q:(if z.length≤OE then some (D.int z.length) else none)=some e:=q
  by_cases c:z.length≤OE
  ·rw [if_pos c] at q; cases q; exact ⟨rfl,fun k=>⟨_,_,rfl,⟨c,rfl⟩,k⟩⟩
  ·rw [if_neg c] at q; cases q
 | scr hz h hl=>cases q; exact ⟨rfl,fun k=>⟨_,_,rfl,.inl ⟨_,.inl h,rfl⟩,by rw [Oy]; exact k⟩⟩
 | scrK h hl=>cases q; exact ⟨rfl,fun k=>⟨_,_,rfl,.inl ⟨_,.inr h,rfl⟩,by rw [Oy]; exact k⟩⟩
 | _=>cases q
theorem dy (ha:bp K ta a):af K (xX (fun xs H Q=>∃ x n,xs=[x]∧Jb K x H n∧Q (.int n) H) (cz ta fN)) (gI d6 a):=x8 (fun h q=>KQ h q) ha
def fU:List D→Option (List Int)
 | []=>some []
 | .int i::r=>(fU r).map (i::·)
 | _=>none
theorem iD:∀ (ns:List Int),fU (ns.map D.int)=some ns
 | []=>rfl
 | n::ns=>by show (fU (ns.map D.int)).map (n::·)=_; rw [iD ns]; rfl
theorem gx:∀ {ds:List D} {ns:List Int},fU ds=some ns→ds=ns.map D.int
 | [],ns,h=>by cases h; rfl
 | .int i::r,ns,h=>by
  have h:(fU r).map (i::·)=some ns:=h
  cases e:fU r with
  | none=>rw [e] at h; cases h
  | some ms=>rw [e] at h; cases h; rw [gx e]; rfl
 | .non::_,_,h=>by cases h
 | .bl _::_,_,h=>by cases h
 | .str _::_,_,h=>by cases h
 | .ty _::_,_,h=>by cases h
 | .lst _::_,_,h=>by cases h
 | .tup _::_,_,h=>by cases h
 | .ins _::_,_,h=>by cases h
 | .dct _::_,_,h=>by cases h
 | .scr _::_,_,h=>by cases h
def ofInts (g:List Int→Option D):D→Option D
 | .lst ds=>(fU ds).bind g
 | _=>none
theorem ig (g:List Int→Option D) (ns:List Int):ofInts g (.lst (ns.map D.int))=g ns:=by
 show (fU (ns.map D.int)).bind g=g ns
 rw [iD]; rfl
theorem lg {g:List Int→Option D} {e:D} (h:ofInts g d=some e):∃ ns,d=.lst (ns.map D.int)∧g ns=some e:=by
 cases d with
 | lst ds =>
  have h:(fU ds).bind g=some e:=h
  cases q:fU ds with
  | none=>rw [q] at h; cases h
  | some ns=>rw [q] at h; exact ⟨ns,by rw [gx q],h⟩
 | _=>cases h
theorem Is.ints {H:Hp} {Z:OF→Prop} {v:V} {ns:List Int} (h:Is K H Z v (.lst (ns.map D.int))):∃ p,v=.ref p∧Rd H p (.lst ‹49›):=by
 generalize e:D.lst (ns.map D.int)=d at h
 cases h with
 | lst hz h hl r=>cases e; rw [← r.ints]; exact ⟨_,rfl,h⟩
 | _=>cases e
def um:D→Option D:=ofInts fun ns=>some (.int ns.sum)
theorem sq (ha:bp K ta a):af K (xX (fun xs H Q=>∃ (p:OF) (ns:List Int),xs=[.ref p]∧dw K H p ‹49›∧Q (.int ns.sum) H) (cz ta fN)) (gI um a):=by
 refine x8 (fun h q=>?_) ha
 obtain ⟨ns,rfl,e⟩:=lg q
 cases e
 obtain ⟨p,rfl,r⟩:=h.ints
 exact ⟨rfl,fun k=>⟨p,ns,rfl,.inl r,k⟩⟩
def yA (x:Int) (r:List Int):Int:=r.foldl max x
def Dh (x:Int) (r:List Int):Int:=r.foldl min x
theorem ia:∀ (r:List Int) (x:Int),yA x r∈x::r∧∀ a∈x::r,a≤yA x r
 | [],x=>⟨ON,fun a h=>by rw [OB.mp h]; exact Rf _⟩
 | y::r,x=>by
  obtain ⟨h1,h2⟩:=ia r (max x y)
  have e:yA x (y::r)=yA (max x y) r:=rfl
  rw [e]
  refine ⟨?_,fun a ha=>?_⟩
  ·rcases OP.mp h1 with q | q
   ·rw [q]
    rcases Int.le_total x y with z | z
    ·rw [Int.max_eq_right z]; simp
    ·rw [Int.max_eq_left z]; simp
   ·simp [q]
  ·have hm:=h2 (max x y) ON
   rcases OP.mp ha with rfl | ha
   ·omega
   ·rcases OP.mp ha with rfl | ha
    ·omega
    ·exact h2 a (OI _ ha)
theorem ml:∀ (r:List Int) (x:Int),Dh x r∈x::r∧∀ a∈x::r,Dh x r≤a
 | [],x=>⟨ON,fun a h=>by rw [OB.mp h]; exact Rf _⟩
 | y::r,x=>by
  obtain ⟨h1,h2⟩:=ml r (min x y)
  have e:Dh x (y::r)=Dh (min x y) r:=rfl
  rw [e]
  refine ⟨?_,fun a ha=>?_⟩
  ·rcases OP.mp h1 with q | q
   ·rw [q]
    rcases Int.le_total x y with z | z
    ·rw [Int.min_eq_left z]; simp
    ·rw [Int.min_eq_right z]; simp
   ·simp [q]
  ·have hm:=h2 (min x y) ON
   rcases OP.mp ha with rfl | ha
   ·omega
   ·rcases OP.mp ha with rfl | ha
    ·omega
    ·exact h2 a (OI _ ha)
theorem FR {M N:Int} (h1:M∈ns) (h2:∀ a∈ns,a≤M) (h3:N∈ns) (h4:∀ a∈ns,a≤N):M=N:=by
 have:=h2 N h3
 have:=h4 M h1
 omega
theorem FQ {M N:Int} (h1:M∈ns) (h2:∀ a∈ns,M≤a) (h3:N∈ns) (h4:∀ a∈ns,N≤a):M=N:=by
 have:=h2 N h3
 have:=h4 M h1
 omega
def maxD:D→Option D:=ofInts fun ns=>match ns with
 | []=>none
 | x::r=>some (.int (yA x r))
theorem Fh (ha:bp K ta a):af K (xX (fun xs H Q=>∃ (p:OF) (ns:List Int),xs=[.ref p]∧dw K H p ‹49›∧ns≠[]∧∀ M,M∈ns→(∀ a,a∈ns→a≤M)→Q (.int M) H) (cz ta fN)) (gI maxD a):=by
 refine x8 (fun h q=>?_) ha
 obtain ⟨ns,rfl,e⟩:=lg q
 obtain ⟨p,rfl,r⟩:=h.ints
 cases ns with
 | nil=>cases e
 | cons x t =>
  cases e
  refine ⟨rfl,fun k=>⟨p,x::t,rfl,.inl r,by simp,fun M h1 h2=>?_⟩⟩
  rw [FR h1 h2 (ia t x).1 (ia t x).2]
  exact k
noncomputable def vC:DE→DE→DE:=pC fun i j=>some (.int (if j > i then j else i))
noncomputable def y7:DE→DE→DE:=pC fun i j=>some (.int (if j<i then j else i))
theorem wA (ha:bp K ta a) (hb:bp K tb b):af K (xX (fun xs H Q=>∃ i j,xs=[.int i,.int j]∧Q (.int (if j > i then j else i)) H) (cz ta (cz tb fN))) (vC a b):=fun {B Z os ρ σ H Q d} f q k=>by
 obtain ⟨i,j,e1,e2,e3⟩:=oV q
 cases e3
 refine ha f e1 fun v H1 s1 i1=>hb (f.grow s1) e2 fun u H2 s2 i2=>⟨i,j,by rw [i1.isInt,i2.isInt],k _ _ (s1.trans s2) (.int _)⟩
theorem BB (ha:bp K ta a) (hb:bp K tb b):af K (xX (fun xs H Q=>∃ i j,xs=[.int i,.int j]∧Q (.int (if j<i then j else i)) H) (cz ta (cz tb fN))) (y7 a b):=fun {B Z os ρ σ H Q d} f q k=>by
 obtain ⟨i,j,e1,e2,e3⟩:=oV q
 cases e3
 refine ha f e1 fun v H1 s1 i1=>hb (f.grow s1) e2 fun u H2 s2 i2=>⟨i,j,by rw [i1.isInt,i2.isInt],k _ _ (s1.trans s2) (.int _)⟩
def D.HD:D→String
 | .non => "NoneType"
 | .bl _ => "bool"
 | .int _ => "int"
 | .str _ => "str"
 | .lst _ => "list"
 | .tup _ => "tuple"
 | .ty _ => "type"
 | .ins _ => "object"
 | .dct _ => "object"
 | .scr _ => "script"
def AE:List (String×String×Bool):=[("int", "int", true),("int", "bool", false),("int", "list", false),("int", "tuple", false),("int", "str", false),("bool", "int", true),("bool", "bool", true),("bool", "list", false),("bool", "tuple", false),("list", "list", true),("list", "tuple", false),("list", "int", false),("list", "str", false),("tuple", "tuple", true),("tuple", "list", false),("tuple", "int", false),("str", "str", true),("str", "list", false),("str", "int", false),("NoneType", "int", false),("NoneType", "list", false),("NoneType", "tuple", false)]
def uK (x n:String):Option Bool:=(AE.find? fun t=>decide (t.1=x)&&decide (t.2.1=n)).map fun t=>t.2.2
noncomputable def uO (n:String) (a:DE):DE:=fun ρ=>match a ρ with
 | some d=>(uK d.HD n).map D.bl
 | none=>none
theorem Gj {x n:String} {b:Bool} (h:uK x n=some b):Ss K (.type x) (.type n)=some b:=by
 unfold uK at h
 obtain ⟨t,e,rfl⟩:=P7.mp h
 have hm:=List.mem_of_find?_eq_some e
 have hp:=List.find?_some e
 rw [RA,decide_eq_true_iff,decide_eq_true_iff] at hp
 obtain ⟨rfl,rfl⟩:=hp
 clear e h
 revert t
 unfold AE
 repeat' (first | exact fun t h=>absurd h Qj | refine List.forall_mem_cons.mpr ⟨?_,?_⟩)
 all_goals first | rfl | with_unfolding_all rfl
theorem HE {v:V} {n:String} {b:Bool} (h:Is K H No v d) (e:uK d.HD n=some b):mK K H v (.type d.HD):=by
 cases h with
 | non=>exact .non
 | bl b=>exact .bl b
 | int b=>exact .int b
 | str b=>exact .str b
 | ty n=>unfold uK at e; simp [D.HD,AE] at e
 | lst hz h hl r=>rcases h with h | ⟨o,h⟩; exact .lst h; exact .jS h
 | tup hz h hl r=>exact .tup h
 | ins _ _=>unfold uK at e; simp [D.HD,AE] at e
 | dct _ _ _=>unfold uK at e; simp [D.HD,AE] at e
 | scr _ _ _=>unfold uK at e; simp [D.HD,AE] at e
 | scrK _ _=>unfold uK at e; simp [D.HD,AE] at e
theorem kW {n:String} (ha:bp K ta a):af K (xX (fun xs H Q=>∃ x n t b,xs=[x,.ty n]∧mK K H x t∧Ss K t (.type n)=some b∧Q (.bl b) H) (cz ta (cz (tC (.ty n)) fN))) (uO n a):=fun {B Z os ρ σ H Q d} f q k=>by
 unfold uO at q
 split at q
 ·rename_i e e1
  cases q1:uK e.HD n with
  | none=>rw [q1] at q; cases q
  | some b =>
   rw [q1] at q
   cases q
   exact ha f e1 fun v H1 s1 i1=>⟨v,n,_,b,rfl,HE i1 q1,Gj q1,k _ _ s1 (.bl b)⟩
 ·cases q
def A0 {α:Type} (xs:List α) (lo hi:Option Int):List α:=(xs.drop (HT.uB xs.length 0 lo)).take (HT.uB xs.length xs.length hi-HT.uB xs.length 0 lo)
theorem Lk {lo hi:Option Int} (r:IsL K H Z vs ds):IsL K H Z (D1 vs lo hi) (A0 ds lo hi):=by
 unfold D1 A0
 rw [r.length]
 exact (r.drop _).take _
def Bb (K:OA) (t:TO) (e:aK→Option (Option Int)):Prop:=∀ {B:Hp} {Z:OF→Prop} {os:Own} {ρ:aK} {σ:L2.St} {H:Hp} {Q:Option Int→Hp→Prop} {o:Option Int},Fr K B Z os ρ σ H→e ρ=some o→(∀ H',aW H H'→Q o H')→t σ H Q
noncomputable def oI:aK→Option (Option Int):=fun _=>some none
noncomputable def jw (a:DE):aK→Option (Option Int):=fun ρ=>match a ρ with
 | some (.int i)=>some (some i)
 | _=>none
theorem oh:Bb K Br oI:=fun f q k=>by cases q; exact k _ (aW.refl _)
theorem gL (ha:bp K ta a):Bb K (Jj ta) (jw a):=fun {B Z os ρ σ H Q o} f q k=>by
 unfold jw at q
 split at q
 ·rename_i i e
  cases q
  exact ha f e fun v H1 s1 i1=>⟨i,i1.isInt,k _ s1⟩
 ·cases q
def d7 (a:DE):aK→Option (List D):=fun ρ=>match a ρ with
 | some d=>KN d
 | none=>none
theorem dh {a:DE} (h:d7 a ρ=some ds):∃ d,a ρ=some d∧KN d=some ds:=by
 unfold d7 at h
 split at h
 ·exact ⟨_,by assumption,h⟩
 ·cases h
noncomputable def LL (a:DE) (lo hi:aK→Option (Option Int)):aK→Option (List D):=fun ρ=>match d7 a ρ with
 | some ds=>(match lo ρ with
  | some l=>(match hi ρ with
   | some h=>some (A0 ds l h)
   | none=>none)
  | none=>none)
 | _=>none
theorem GL {lo hi:aK→Option (Option Int)} (h:LL a lo hi ρ=some ds):∃ es l u,d7 a ρ=some es∧lo ρ=some l∧hi ρ=some u∧ds=A0 es l u:=by
 unfold LL at h
 split at h
 ·rename_i es e1
  split at h
  ·rename_i l e2
   split at h
   ·rename_i u e3
    exact ⟨es,l,u,e1,e2,e3,(Pm h).symm⟩
   ·cases h
  ·cases h
 ·cases h
theorem Is.vp {v:V} (h:Is K H Z v (.lst ds)):∃ p vs,v=.ref p∧¬ Z p∧Rd H p (.lst vs)∧vs.length≤OE∧IsL K H Z vs ds:=by
 cases h with
 | lst hz h hl r=>exact ⟨_,_,rfl,hz,h,hl,r⟩
theorem Is.isTup {v:V} (h:Is K H Z v (.tup ds)):∃ p vs,v=.ref p∧¬ Z p∧H p=some (.tup vs)∧vs.length≤OE∧IsL K H Z vs ds:=by
 cases h with
 | tup hz h hl r=>exact ⟨_,_,rfl,hz,h,hl,r⟩
theorem L7 {tl th:TO} {lo hi:aK→Option (Option Int)} (ha:af K ta a) (hl:Bb K tl lo) (hh:Bb K th hi):bx K (NO (Kj K) ta tl th) (LL a lo hi):=fun {B Z os ρ σ H Q ds} f q k=>by
 obtain ⟨es,l,u,e1,e2,e3,rfl⟩:=GL q
 obtain ⟨d,e1,ed⟩:=dh e1
 refine ha f e1 fun v H1 s1 i1=>hl (f.grow s1) e2 fun H2 s2=>hh (f.grow (s1.trans s2)) e3 fun H3 s3=>?_
 obtain ⟨p,vs,rfl,hn,_,hr⟩:=i1.seq ed
 obtain ⟨hr,r⟩:=hr H3 _ (Kp.same (s2.trans s3))
 have s13:=(s1.trans s2).trans s3
 exact ⟨p,vs,rfl,hr,fun n hn'=>k n _ _ (s13.trans (bL hn')) (aW.free s13 hn') aF (Pq (qT _ _ _) hn) ((Lk r).kp (lu hn'))⟩
def kA (ds:List D):Bool:=ds.all D.mI
theorem IsL.flat {H H':Hp} {Z Z':OF→Prop}:∀ {vs:List V} {ds:List D},IsL K H Z vs ds→kA ds=true→IsL K H' Z' vs ds
 | _,_,.nil,_=>.nil
 | _,_,.cons h r,e=>by
  have e:=(RA _ _).mp (show (D.mI _&&kA _)=true from e)
  exact .cons (h.mI e.1) (r.flat e.2)
noncomputable def vx (e:aK→Option (List D)):aK→Option (List D):=fun ρ=>match e ρ with
 | some ds=>if kA ds=true then some ds else none
 | none=>none
theorem AJ {e:aK→Option (List D)} (h:vx e ρ=some ds):e ρ=some ds∧kA ds=true:=by
 unfold vx at h
 split at h
 ·rename_i es e1
  by_cases c:kA es=true
  ·rw [if_pos c] at h; cases h; exact ⟨e1,c⟩
  ·rw [if_neg c] at h; cases h
 ·cases h
noncomputable def tU (a:DE):aK→Option (List D):=fun ρ=>match a ρ with
 | some (.tup ds)=>some ds
 | some d=>KN d
 | _=>none
theorem vD (h:tU a ρ=some ds):a ρ=some (.tup ds)∨∃ d,a ρ=some d∧KN d=some ds:=by
 unfold tU at h
 split at h
 ·rename_i es e; cases h; exact .inl e
 ·rename_i d _ e; exact .inr ⟨d,e,h⟩
 ·cases h
theorem wD (ha:af K ta a):bx K (xX (fun xs H Q=>∃ p ys,xs=[.ref p]∧(dw K H p ys∨Hd K H p ys)∧∀ l,H l=none→Q (.ref l) (upd H l (.lst ys))) (cz ta fN)) (tU a):=fun {B Z os ρ σ H Q ds} f q k=>by
 rcases vD q with e1 | ⟨d,e1,ed⟩
 ·refine ha f e1 fun v H1 s1 i1=>?_
  obtain ⟨p,vs,rfl,hz,hr,hn,r⟩:=i1.isTup
  exact ⟨p,vs,rfl,.inr (.inl (.inl hr)),fun n hn'=>k n _ _ (s1.trans (bL hn')) (aW.free s1 hn') aF hn (r.kp (lu hn'))⟩
 ·refine ha f e1 fun v H1 s1 i1=>?_
  obtain ⟨p,vs,rfl,hn,_,hr⟩:=i1.seq ed
  obtain ⟨hr,r⟩:=hr H1 _ Kp.refl
  exact ⟨p,vs,rfl,.inl hr,fun n hn'=>k n _ _ (s1.trans (bL hn')) (aW.free s1 hn') aF hn (r.kp (lu hn'))⟩
theorem Fn (ha:bp K ta a):bx K (xX (fun xs H Q=>∃ p ys,xs=[.ref p]∧(dw K H p ys∨Hd K H p ys)∧∀ l,H l=none→Q (.ref l) (upd H l (.lst ys))) (cz ta fN)) (vx (tU a)):=fun {B Z os ρ σ H Q ds} f q k=>by
 obtain ⟨q,hf⟩:=AJ q
 rcases vD q with e1 | ⟨d,e1,ed⟩
 ·refine ha f e1 fun v H1 s1 i1=>?_
  obtain ⟨p,vs,rfl,hz,hr,hn,r⟩:=i1.isTup
  exact ⟨p,vs,rfl,.inr (.inl (.inl hr)),fun n hn'=>k n _ _ (s1.trans (bL hn')) (aW.free s1 hn') aF hn (r.flat hf)⟩
 ·refine ha f e1 fun v H1 s1 i1=>?_
  obtain ⟨p,vs,rfl,hn,_,hr⟩:=i1.seq ed
  obtain ⟨hr,r⟩:=hr H1 _ Kp.refl
  exact ⟨p,vs,rfl,.inl hr,fun n hn'=>k n _ _ (s1.trans (bL hn')) (aW.free s1 hn') aF hn (r.flat hf)⟩
noncomputable def uP (a b:DE):aK→Option (List D):=fun ρ=>match a ρ with
 | some (.lst ds)=>(match b ρ with
  | some (.lst es)=>if ds.length+es.length≤OE then some (ds++es) else none
  | _=>none)
 | _=>none
theorem D0 (h:uP a b ρ=some ds):∃ xs ys,a ρ=some (.lst xs)∧b ρ=some (.lst ys)∧xs.length+ys.length≤OE∧ds=xs++ys:=by
 unfold uP at h
 split at h
 ·rename_i xs e1
  split at h
  ·rename_i ys e2
   by_cases c:xs.length+ys.length≤OE
   ·rw [if_pos c] at h; exact ⟨xs,ys,e1,e2,c,(Pm h).symm⟩
   ·rw [if_neg c] at h; cases h
  ·cases h
 ·cases h
theorem wF (ha:af K ta a) (hb:af K tb b):bx K (qF Jz ta tb) (uP a b):=fun {B Z os ρ σ H Q ds} f q k=>by
 obtain ⟨xs,ys,e1,e2,hc,rfl⟩:=D0 q
 show 3
 obtain ⟨p,vs,rfl,hz,hr,hn,r⟩:=(i1.same s2).vp
 obtain ⟨p2,us,rfl,hz2,hr2,hn2,r2⟩:=i2.vp
 have hl:vs.length+us.length≤OE:=by rw [r.length,r2.length]; exact hc
 have s12:=s1.trans s2
 exact ⟨p,p2,vs,us,rfl,rfl,hr,hr2,hl,fun n hn'=>k n _ _ (s12.trans (bL hn')) (aW.free s12 hn') aF (by rw [O1]; exact hl) ((r.append r2).kp (lu hn'))⟩
noncomputable def xv (a:aK→Option (List D)) (b:DE):aK→Option (List D):=fun ρ=>match a ρ with
 | some ds=>(match b ρ with
  | some (.int n)=>if -(2 ^ 63)≤n∧n<2 ^ 63∧ds.length*n.toNat≤OE then some (OY n.toNat ds).flatten else none
  | _=>none)
 | none=>none
theorem IsL.rep {H:Hp} {Z:OF→Prop} {vs:List V} {ds:List D} (r:IsL K H Z vs ds):∀ n,IsL K H Z (OY n vs).flatten (OY n ds).flatten
 | 0=>.nil
 | n+1=>by rw [Qn,Rj,Qn,Rj]; exact r.append (r.rep n)
theorem z8 {a:aK→Option (List D)} (ha:bx K ta a) (hb:bp K tb b):bx K (qF Me ta tb) (xv a b):=fun {B Z os ρ σ H Q ds} f q k=>by
 unfold xv at q
 split at q
 ·rename_i es e1
  split at q
  ·rename_i n e2
   by_cases c:-(2 ^ 63)≤n∧n<2 ^ 63∧es.length*n.toNat≤OE
   ·rw [if_pos c] at q
    cases q
    refine ha f e1 fun p vs H1 s1 hp hp' hl i1=>hb (f.grow s1) e2 fun u H2 s2 i2=>?_
    rw [i2.isInt]
    have i1':=(i1.same s2).kp (Kp.less (Z':=bR Z os) fun a z=>.inr z)
    have hlen:vs.length*n.toNat≤OE:=by rw [i1.length]; exact c.2.2
    have s12:=s1.trans s2
    refine ⟨p,n,vs,rfl,rfl,s2 _ _ hp',c.1,c.2.1,hlen,fun x hx=>k x _ _ (s12.trans (bL hx)) (aW.free s12 hx) aF ?_ ((i1'.rep _).kp (lu hx))⟩
    rw [len_rep,Nat.mul_comm]; exact hlen
   ·rw [if_neg c] at q; cases q
  ·cases q
 ·cases q
end
end
end
section
open Classical
noncomputable section
instance:Inhabited D:=⟨.non⟩
theorem Kh {a:OF} {xs ys:List V} (h:Rd H a (.lst xs)) (h':Rd H a (.lst ys)):xs=ys:=by
 rcases h with h | ⟨o,h⟩ <;> rcases h' with h' | ⟨o',h'⟩ <;> rw [h] at h' <;> cases h' <;> rfl
def gv:Nat→D→D→Bool
 | _,.int _,.int _=>true
 | _,.bl _,.bl _=>true
 | _,.str _,.str _=>true
 | _,.non,.non=>true
 | n+1,.lst xs,.lst ys=>decide (xs.length≠ys.length) || (Sd xs ys).all fun p=>gv n p.1 p.2
 | n+1,.tup xs,.tup ys=>decide (xs.length=ys.length)&&(Sd xs ys).all fun p=>gv n p.1 p.2
 | _,_,_=>false
theorem Ek {xs ys:List D} {j:Nat} {a b:D} {p:D×D→Bool} (h:(Sd xs ys).all p=true) (e1:xs[j]?=some a) (e2:ys[j]?=some b):p (a,b)=true :=
 Qu.mp h _ (PD (i:=j) (List.getElem?_zip_eq_some.mpr ⟨e1,e2⟩))
inductive Cm:Nat→D→D→Prop
 | int {n:Nat} (a b:Int):Cm n (.int a) (.int b)
 | bl {n:Nat} (a b:Bool):Cm n (.bl a) (.bl b)
 | str {n:Nat} (a b:P2):Cm n (.str a) (.str b)
 | non {n:Nat}:Cm n .non .non
 | lst {n:Nat} {xs ys:List D} (h:xs.length=ys.length→(Sd xs ys).all (fun p=>gv n p.1 p.2)=true):Cm (n+1) (.lst xs) (.lst ys)
 | tup {n:Nat} {xs ys:List D} (hl:xs.length=ys.length) (h:(Sd xs ys).all (fun p=>gv n p.1 p.2)=true):Cm (n+1) (.tup xs) (.tup ys)
theorem oX {e:D} (hc:gv n d e=true):Cm n d e:=by
 unfold gv at hc
 split at hc
 ·exact .int _ _
 ·exact .bl _ _
 ·exact .str _ _
 ·exact .non
 ·exact .lst fun hl=>by simpa [hl] using hc
 ·rw [RA] at hc; exact .tup (of_decide_eq_true hc.1) hc.2
 ·cases hc
theorem Is.n9 {v:V} {a:Int} (i:Is K H Z v (.int a)):v=.int a:=by cases i; rfl
theorem Is.vR {v:V} {a:Bool} (i:Is K H Z v (.bl a)):v=.bl a:=by cases i; rfl
theorem Is.qE {v:V} {a:P2} (i:Is K H Z v (.str a)):v=.str a:=by cases i; rfl
theorem Is.uY {v:V} (i:Is K H Z v .non):v=.non:=by cases i; rfl
theorem Is.mN {v:V} (i:Is K H Z v (.lst ds)):∃ a vs,v=.ref a∧¬ Z a∧Rd H a (.lst vs)∧vs.length≤OE∧IsL K H Z vs ds:=by
 cases i with | lst hz h hl r=>exact ⟨_,_,rfl,hz,h,hl,r⟩
theorem Is.qD {v:V} (i:Is K H Z v (.tup ds)):∃ a vs,v=.ref a∧¬ Z a∧H a=some (.tup vs)∧vs.length≤OE∧IsL K H Z vs ds:=by
 cases i with | tup hz h hl r=>exact ⟨_,_,rfl,hz,h,hl,r⟩
theorem Is.inj {Z':OF→Prop}:∀ (n:Nat) {v:V} {d e:D},gv n d e=true→Is K H Z v d→Is K H Z' v e→d=e:=by
 intro n
 induction n using T9 with | ind n ih=>?_
 have lists:∀ {m:Nat},m<n→∀ {vs:List V} {ds es:List D},(Sd ds es).all (fun p=>gv m p.1 p.2)=true→IsL K H Z vs ds→IsL K H Z' vs es→ds=es:=by
  intro m hm vs ds es hc r r'
  have l1:=r.length
  have l2:=r'.length
  refine RT ‹5› fun k h1 h2=>?_
  obtain ⟨v,e1,i1⟩:=r.get (Ow h1)
  obtain ⟨v',e2,i2⟩:=r'.get (Ow h2)
  rw [e1] at e2
  cases e2
  exact ih m hm (Ek hc (Ow h1) (Ow h2)) i1 i2
 intro v d e hc i j
 cases oX hc with
 | int=>have h:=i.n9; rw [j.n9] at h; cases h; rfl
 | bl=>have h:=i.vR; rw [j.vR] at h; cases h; rfl
 | str=>have h:=i.qE; rw [j.qE] at h; cases h; rfl
 | non=>rfl
 | lst h =>
  obtain ⟨p,xs,rfl,z1,h1,l1,g1⟩:=i.mN
  obtain ⟨q,ys,e,z2,h2,l2,g2⟩:=j.mN
  cases e
  have e:=Kh h1 h2
  subst e
  rw [lists (Qc _) (h (by have:=g1.length; have:=g2.length; omega)) g1 g2]
 | tup hl h =>
  obtain ⟨p,xs,rfl,z1,h1,l1,g1⟩:=i.qD
  obtain ⟨q,ys,e,z2,h2,l2,g2⟩:=j.qD
  cases e
  rw [h1] at h2
  cases h2
  rw [lists (Qc _) h g1 g2]
section
variable {X:Cx} {pins:List (OF×Q5)} {σ:L2.St} {H:Hp} {s:OG}
theorem xr (xs ys:List D):decide (D.lst xs=D.lst ys)=decide (xs=ys):=by
 rw [P6,decide_eq_true_iff,decide_eq_true_iff]
 exact ⟨fun h=>D.lst.inj h,fun h=>by rw [h]⟩
theorem xq (xs ys:List D):decide (D.tup xs=D.tup ys)=decide (xs=ys):=by
 rw [P6,decide_eq_true_iff,decide_eq_true_iff]
 exact ⟨fun h=>D.tup.inj h,fun h=>by rw [h]⟩
theorem oT (a b:Int):decide (D.int a=D.int b)=(a==b):=by
 rw [P6,decide_eq_true_iff,beq_iff_eq]
 exact ⟨fun h=>D.int.inj h,fun h=>by rw [h]⟩
theorem xt (a b:Bool):decide (D.bl a=D.bl b)=(a==b):=by
 rw [P6,decide_eq_true_iff,beq_iff_eq]
 exact ⟨fun h=>D.bl.inj h,fun h=>by rw [h]⟩
theorem rQ (a b:P2):decide (D.str a=D.str b)=(a==b):=by
 rw [P6,decide_eq_true_iff,beq_iff_eq]
 exact ⟨fun h=>D.str.inj h,fun h=>by rw [h]⟩
theorem BJ {l b:OF} {us ws:List OD} {ns ms:List D} (p1:s.heap.IsTuple l us.toArray) (p2:s.heap.IsTuple b ws.toArray) (hl:us.length=ns.length) (hl2:ws.length=ms.length) (hs:ns.length=ms.length) (hu:A.units<Tw)
 (h:∀ (j:Nat) (u v:OD) (a b:D),us[j]?=some u→ws[j]?=some v→ns[j]?=some a→ms[j]?=some b→Sv A.in1 s u v (decide (a=b))) :
 SeqAt.RcAt A s (.ref l) (.ref b) (decide (ns=ms)):=by
 have q:=SeqAt.RcAt.tuples (e:=fun j=>decide ‹36›) p1 p2 hu (j0 hl hl2 h)
 have e:((O0 (min us.toArray.size ws.toArray.size)).all fun j=>decide ‹36›)=decide (ns=ms):=by
  rw [OM,OM,hl,hl2,← hs,Xb]; exact gU default hs
 have e2:(us.toArray.size==ws.toArray.size)=true:=by simp; omega
 rw [e,e2,WJ] at q
 exact q
theorem C5 {l b:OF} {us ws:List OD} {ns ms:List D} (p1:s.heap.IsTuple l us.toArray) (p2:s.heap.IsTuple b ws.toArray) (hl:us.length=ns.length) (hl2:ws.length=ms.length) (hs:ns.length=ms.length) (hu:A.units<Tw)
 (h:∀ (j:Nat) (u v:OD) (a b:D),us[j]?=some u→ws[j]?=some v→ns[j]?=some a→ms[j]?=some b→Sv A.in1 s u v (decide (a=b))) :
 Yw A s (.ref l) (.ref b) (!decide (ns=ms)):=by
 have q:=SeqAt.RcNeAt.tuples (e:=fun j=>decide ‹36›) p1 p2 hu (j0 hl hl2 h)
 have e:((O0 (min us.toArray.size ws.toArray.size)).all fun j=>decide ‹36›)=decide (ns=ms):=by
  rw [OM,OM,hl,hl2,← hs,Xb]; exact gU default hs
 have e2:(us.toArray.size==ws.toArray.size)=true:=by simp; omega
 rw [e,e2,WJ] at q
 exact q
theorem in1_units:A.in1.units=A.units+1:=rfl
theorem jz {xs ys:List V} {us ws:List OD} {es:List D} (hc:(Sd ds es).all (fun p=>gv n p.1 p.2)=true) (r1:Vals xs us) (r2:Vals ys ws) (g1:IsL K H No xs ds) (g2:IsL K H No ys es)
 (ih:∀ {v w:V} {d e:D} {u x:OD},RelV v u→RelV w x→Is K H No v d→Is K H No w e→gv n d e=true→Sv A s u x (decide (d=e))) :
 ∀ (j:Nat) (u v:OD) (a b:D),us[j]?=some u→ws[j]?=some v→ds[j]?=some a→es[j]?=some b→Sv A s u v (decide (a=b)):=by
 intro j u v a b e1 e2 e3 e4
 obtain ⟨x,f1,i1⟩:=g1.get e3
 obtain ⟨y,f2,i2⟩:=g2.get e4
 obtain ⟨u',q1,k1⟩:=r1.get f1
 obtain ⟨v',q2,k2⟩:=r2.get f2
 rw [e1] at q1; cases q1
 rw [e2] at q2; cases q2
 exact ih k1 k2 i1 i2 (Ek hc e3 e4)
theorem rO (I:Inv X pins σ H s):∀ (n:Nat) {A:P8},A.units+n<Tw→∀ {v w:V} {d e:D} {u x:OD},RelV v u→RelV w x→Is K H No v d→Is K H No w e→gv n d e=true→Sv A s u x (decide (d=e)):=by
 intro n
 induction n using T9 with | ind n ih=>?_
 intro A hu v w d e u x r1 r2 i1 i2 hc
 have hc0:=hc
 cases oX hc with
 | int a b=>rw [i1.n9] at r1; rw [i2.n9] at r2; obtain ⟨t,rfl⟩:=r1; obtain ⟨t',rfl⟩:=r2; rw [oT]; exact UA a t b t'
 | bl a b=>rw [i1.vR] at r1; rw [i2.vR] at r2; cases r1; cases r2; rw [xt]; exact SeqAt.EqAt.bool_bool a b
 | str a b=>rw [i1.qE] at r1; rw [i2.qE] at r2; obtain ⟨t,rfl⟩:=r1; obtain ⟨t',rfl⟩:=r2; rw [rQ]; exact SeqAt.EqAt.str_str a t b t'
 | non=>rw [i1.uY] at r1; rw [i2.uY] at r2; cases r1; cases r2; rw [decide_eq_true rfl]; exact VE _
 | @lst n ds es h =>
  have j1:=i1
  have j2:=i2
  obtain ⟨p,xs,rfl,z1,h1,l1,g1⟩:=i1.mN
  obtain ⟨q,ys,rfl,z2,h2,l2,g2⟩:=i2.mN
  cases r1
  cases r2
  by_cases hpq:p=q
  ·subst hpq
   rw [decide_eq_true (Is.inj _ hc0 j1 j2)]
   exact VE _
  ·obtain ⟨_,us,m1,k1,n1,o1⟩:=I.rj h1
   obtain ⟨_,ws,m2,k2,n2,o2⟩:=I.rj h2
   rw [xr]
   have e1:=g1.length
   have e2:=g2.length
   refine WS hpq ?_
   by_cases hl:ds.length=es.length
   ·exact sJ ⟨_,o1,rfl,_,rfl⟩ ⟨_,o2,rfl,_,rfl⟩ ‹5› ‹5› ‹5› (jz (h hl) k1 k2 g1 g2 (ih n (Qc _) (by rw [in1_units]; omega)))
   ·have q:=SV (A:=A) (s:=s) (items:=us.toArray) (items2:=ws.toArray) ⟨_,o1,rfl,_,rfl⟩ ⟨_,o2,rfl,_,rfl⟩ (by simp; omega) ‹5›
    have e:decide (ds=es)=false:=decide_eq_false fun z=>hl (by rw [z])
    rw [e]
    exact q
 | @tup n ds es hl h =>
  have j1:=i1
  have j2:=i2
  obtain ⟨p,xs,rfl,z1,h1,l1,g1⟩:=i1.qD
  obtain ⟨q,ys,rfl,z2,h2,l2,g2⟩:=i2.qD
  cases r1
  cases r2
  by_cases hpq:p=q
  ·subst hpq
   rw [decide_eq_true (Is.inj _ hc0 j1 j2)]
   exact VE _
  ·obtain ⟨us,k1,o1,_⟩:=I.tuple (xs:=xs) (.inl (.inl h1))
   obtain ⟨ws,k2,o2,_⟩:=I.tuple (xs:=ys) (.inl (.inl h2))
   rw [xq]
   have e1:=g1.length
   have e2:=g2.length
   have n1:=k1.length
   have n2:=k2.length
   exact WS hpq (BJ o1 o2 ‹5› ‹5› hl ‹5› (jz h k1 k2 g1 g2 (ih n (Qc _) (by rw [in1_units]; omega))))
def Kk (K:OA) (neg:Bool):R2:=fun x y H Q=>∃ d e,Is K H No x d∧Is K H No y e∧gv 20 d e=true∧Q (.bl (if neg=true then !decide (d=e) else decide (d=e))) H
theorem nj (hu:X.A.units+64<Tw):rT X (Rz .Eq) (Kk K false):=by
 show 4
 obtain ⟨d,e,i1,i2,hc,h⟩:=h
 rw [if_neg O2] at h
 cases oX hc with
 | int a b=>obtain rfl:=i1.n9; obtain rfl:=i2.n9; exact BW pins s σ H _ _ v u Q I rx ry ⟨rfl,by rw [show decide (V.int a=V.int b)=decide (D.int a=D.int b) from decide_eq_decide.mpr ⟨fun q=>by cases q; rfl,fun q=>by cases q; rfl⟩]; exact h⟩
 | bl a b=>obtain rfl:=i1.vR; obtain rfl:=i2.vR; exact BW pins s σ H _ _ v u Q I rx ry ⟨rfl,by rw [show decide (V.bl a=V.bl b)=decide (D.bl a=D.bl b) from decide_eq_decide.mpr ⟨fun q=>by cases q; rfl,fun q=>by cases q; rfl⟩]; exact h⟩
 | str a b=>obtain rfl:=i1.qE; obtain rfl:=i2.qE; exact BW pins s σ H _ _ v u Q I rx ry ⟨rfl,by rw [show decide (V.str a=V.str b)=decide (D.str a=D.str b) from decide_eq_decide.mpr ⟨fun q=>by cases q; rfl,fun q=>by cases q; rfl⟩]; exact h⟩
 | non=>obtain rfl:=i1.uY; obtain rfl:=i2.uY; exact BW pins s σ H _ _ v u Q I rx ry ⟨rfl,by rw [show decide (V.non=V.non)=decide (D.non=D.non) from decide_eq_decide.mpr ⟨fun q=>rfl,fun q=>rfl⟩]; exact h⟩
 | @lst n ds es hh =>
  obtain ⟨p,xs,rfl,z1,h1,l1,g1⟩:=i1.mN
  obtain ⟨q,ys,rfl,z2,h2,l2,g2⟩:=i2.mN
  cases rx
  cases ry
  obtain ⟨_,us,m1,k1,n1,o1⟩:=I.rj h1
  obtain ⟨_,ws,m2,k2,n2,o2⟩:=I.rj h2
  rw [xr] at h
  have e1:=g1.length
  have e2:=g2.length
  by_cases hl:ds.length=es.length
  ·exact sJ ⟨_,o1,rfl,_,rfl⟩ ⟨_,o2,rfl,_,rfl⟩ ‹5› ‹5› ‹5› (jz (hh hl) k1 k2 g1 g2 (rO I 19 (by rw [in1_units]; omega))) X.prog X.w X.xe _ ⟨.bl _,H,I,rfl,h⟩
  ·have q:=SV (A:=X.A) (s:=s) (items:=us.toArray) (items2:=ws.toArray) ⟨_,o1,rfl,_,rfl⟩ ⟨_,o2,rfl,_,rfl⟩ (by simp; omega) ‹5›
   have e:decide (ds=es)=false:=decide_eq_false fun z=>hl (by rw [z])
   rw [e] at h
   exact q X.prog X.w X.xe _ ⟨.bl _,H,I,rfl,h⟩
 | @tup n ds es hl hh =>
  obtain ⟨p,xs,rfl,z1,h1,l1,g1⟩:=i1.qD
  obtain ⟨q,ys,rfl,z2,h2,l2,g2⟩:=i2.qD
  cases rx
  cases ry
  obtain ⟨us,k1,o1,_⟩:=I.tuple (xs:=xs) (.inl (.inl h1))
  obtain ⟨ws,k2,o2,_⟩:=I.tuple (xs:=ys) (.inl (.inl h2))
  rw [xq] at h
  have e1:=g1.length
  have e2:=g2.length
  have n1:=k1.length
  have n2:=k2.length
  exact BJ o1 o2 ‹5› ‹5› hl ‹5› (jz hh k1 k2 g1 g2 (rO I 19 (by rw [in1_units]; omega))) X.prog X.w X.xe _ ⟨.bl _,H,I,rfl,h⟩
theorem sP (hu:X.A.units+64<Tw):rT X (Rz .NotEq) (Kk K true):=by
 show 4
 obtain ⟨d,e,i1,i2,hc,h⟩:=h
 rw [if_pos rfl] at h
 cases oX hc with
 | int a b=>obtain rfl:=i1.n9; obtain rfl:=i2.n9; exact BV pins s σ H _ _ v u Q I rx ry ⟨rfl,by rw [show decide (V.int a=V.int b)=decide (D.int a=D.int b) from decide_eq_decide.mpr ⟨fun q=>by cases q; rfl,fun q=>by cases q; rfl⟩]; exact h⟩
 | bl a b=>obtain rfl:=i1.vR; obtain rfl:=i2.vR; exact BV pins s σ H _ _ v u Q I rx ry ⟨rfl,by rw [show decide (V.bl a=V.bl b)=decide (D.bl a=D.bl b) from decide_eq_decide.mpr ⟨fun q=>by cases q; rfl,fun q=>by cases q; rfl⟩]; exact h⟩
 | str a b=>obtain rfl:=i1.qE; obtain rfl:=i2.qE; exact BV pins s σ H _ _ v u Q I rx ry ⟨rfl,by rw [show decide (V.str a=V.str b)=decide (D.str a=D.str b) from decide_eq_decide.mpr ⟨fun q=>by cases q; rfl,fun q=>by cases q; rfl⟩]; exact h⟩
 | non=>obtain rfl:=i1.uY; obtain rfl:=i2.uY; exact BV pins s σ H _ _ v u Q I rx ry ⟨rfl,by rw [show decide (V.non=V.non)=decide (D.non=D.non) from decide_eq_decide.mpr ⟨fun q=>rfl,fun q=>rfl⟩]; exact h⟩
 | @lst n ds es hh =>
  obtain ⟨p,xs,rfl,z1,h1,l1,g1⟩:=i1.mN
  obtain ⟨q,ys,rfl,z2,h2,l2,g2⟩:=i2.mN
  cases rx
  cases ry
  obtain ⟨_,us,m1,k1,n1,o1⟩:=I.rj h1
  obtain ⟨_,ws,m2,k2,n2,o2⟩:=I.rj h2
  rw [xr] at h
  have e1:=g1.length
  have e2:=g2.length
  by_cases hl:ds.length=es.length
  ·exact wJ ⟨_,o1,rfl,_,rfl⟩ ⟨_,o2,rfl,_,rfl⟩ ‹5› ‹5› ‹5› (jz (hh hl) k1 k2 g1 g2 (rO I 19 (by rw [in1_units]; omega))) X.prog X.w X.xe _ ⟨.bl _,H,I,rfl,h⟩
  ·have q:=Uy (A:=X.A) (s:=s) (items:=us.toArray) (items2:=ws.toArray) ⟨_,o1,rfl,_,rfl⟩ ⟨_,o2,rfl,_,rfl⟩ (by simp; omega) ‹5›
   have e:decide (ds=es)=false:=decide_eq_false fun z=>hl (by rw [z])
   rw [e] at h
   exact q X.prog X.w X.xe _ ⟨.bl _,H,I,rfl,h⟩
 | @tup n ds es hl hh =>
  obtain ⟨p,xs,rfl,z1,h1,l1,g1⟩:=i1.qD
  obtain ⟨q,ys,rfl,z2,h2,l2,g2⟩:=i2.qD
  cases rx
  cases ry
  obtain ⟨us,k1,o1,_⟩:=I.tuple (xs:=xs) (.inl (.inl h1))
  obtain ⟨ws,k2,o2,_⟩:=I.tuple (xs:=ys) (.inl (.inl h2))
  rw [xq] at h
  have e1:=g1.length
  have e2:=g2.length
  have n1:=k1.length
  have n2:=k2.length
  exact C5 o1 o2 ‹5› ‹5› hl ‹5› (jz hh k1 k2 g1 g2 (rO I 19 (by rw [in1_units]; omega))) X.prog X.w X.xe _ ⟨.bl _,H,I,rfl,h⟩
end
section
variable {ta tb:TE} {a b:DE}
noncomputable def rp (neg:Bool) (a b:DE):DE:=fun ρ=>match a ρ with
 | some d=>(match b ρ with
  | some e=>if gv 20 d e=true then some (.bl (if neg=true then !decide (d=e) else decide (d=e))) else none
  | none=>none)
 | none=>none
theorem km [bE] {neg:Bool} (ha:bp K ta a) (hb:bp K tb b):af K (qF (Kk K neg) ta tb) (rp neg a b):=fun {B Z os ρ σ H Q d} f q k=>by
 unfold rp at q
 split at q
 ·rename_i x e1
  split at q
  ·rename_i y e2
   by_cases c:gv 20 x y=true
   ·rw [if_pos c] at q
    cases q
    exact ha f e1 fun v H1 s1 i1=>hb (f.grow s1) e2 fun u H2 s2 i2=>⟨x,y,i1.same s2,i2,c,k _ _ (s1.trans s2) (.bl _)⟩
   ·rw [if_neg c] at q; cases q
  ·cases q
 ·cases q
end
end
end
end VL
namespace L2
variable {es:List Qg} {k:Nat} {t:xK} {n:Nat} {pos:UM}
open PySem PySem.Spec PyProof.Rows
section
variable {X:Cx}
noncomputable def Iy (K:OA) (n:Nat) (t:xK):TG:=fun v σ H Q=>MB K n t v σ H Q∨MC K n t v σ H Q
theorem Ks (hc:X.calm=true) (h:LC X es t)
 (hn:(QV es X.env).length=n:=by rfl) (hst:(QV es X.env).findIdx? (·.1)=none:=by rfl):PG X (.Tuple es k pos) (Iy X.K n t):=by
 intro pins s σ H v u Q I r hw
 rcases hw with hw | hw
 ·exact Kr hc h hn hst pins s σ H v u Q I r hw
 ·exact Kt hc h hn hst pins s σ H v u Q I r hw
theorem fZ {K:OA} (hK:X.K=K) (hc:X.calm=true) (h:LC X es t)
 (hn:(QV es X.env).length=n:=by rfl) (hst:(QV es X.env).findIdx? (·.1)=none:=by rfl):PG X (.Tuple es k pos) (Iy K n t):=by
 subst hK
 exact Ks hc h hn hst
end
end L2
namespace VL
variable {wi:TI} {m:Bool} {T:OF→Prop} {p:OF} {vs:List V} {ds:List D} {tl:TE} {a:DE} {lo:Int} {n:Nat} {d:D} {ρ:aK} {Z:OF→Prop} {os:Own} {σ:L2.St} {u:xK}
open PySem L2
section
open Classical
noncomputable section
variable [bE] {K:OA}
def He (K:OA) (t:TE) (e:DE):Prop:=∀ {B:Hp} {Z:OF→Prop} {os:Own} {ρ:aK} {σ:L2.St} {H:Hp} {Q:VK} {d:D},Fr K B Z os ρ σ H→e ρ=some d→(∀ v H',aW H H'→Is K B No v d→Q v H')→t σ H Q
noncomputable def tP (i:Nat):DE:=fun ρ=>match ρ.getD i .un with
 | .bo d=>some d
 | _=>none
theorem Fd (i:Nat):He K (iJ i) (tP i):=fun {B Z os ρ σ H Q d} f q k=>by
 have s:=f.sl i
 unfold tP at q
 cases e:ρ.getD i .un with
 | bo d' =>
  rw [e] at q s
  cases q
  obtain ⟨_,u,hu,i⟩:=s
  exact ⟨u,join_some hu,k u H (aW.refl _) i⟩
 | _=>rw [e] at q; cases q
def ER (K:OA) (m:Bool) (Bx H:Hp) (T:OF→Prop) (x:V) (d:D):Prop:=match m with
 | true=>Is K H T x d
 | false=>Is K Bx No x d
structure Walk (K:OA) (m:Bool) (Bx:Hp) (J:It) (H1:Hp) (T:OF→Prop) (ds:List D):Prop where
 len:ds.length≤OE
 go:∀ (i:Nat) (d:D) (H2:Hp) (T2:OF→Prop),Kp T H1 T2 H2→aW Bx H2→(∀ a,T2 a→∃ o,H2 a=some o)→ds[i]?=some d→J.go i H2∧∀ x H3,J.LO i H2 x H3→aW H2 H3∧ER K m Bx H3 T2 x d
 stop:∀ (i:Nat) (H2:Hp) (T2:OF→Prop),Kp T H1 T2 H2→aW Bx H2→ds.length=i→J.stop i H2
def d8 (K:OA) (m:Bool) (wi:TI) (e:aK→Option (List D)):Prop:=∀ {B:Hp} {Z:OF→Prop} {os:Own} {ρ:aK} {σ:L2.St} {H:Hp} {R:It→Hp→Prop} {ds:List D},Fr K B Z os ρ σ H→e ρ=some ds→(∀ J H1,aW H H1→Walk K m B J H1 (bR Z os) ds→R J H1)→wi σ H R
def zr (K:OA) (m:Bool) (wi:TI) (e:aK→Option (List D)):Prop:=∀ {B:Hp} {Z:OF→Prop} {os:Own} {ρ:aK} {σ:L2.St} {H:Hp} {R:It→Hp→Prop} {ds:List D},Fr K B Z os ρ σ H→e ρ=some ds→(∀ J H1,aW H H1→Walk K m H1 J H1 (bR Z os) ds→R J H1)→wi σ H R
theorem d8.c {e:aK→Option (List D)} (h:d8 K true wi e):zr K true wi e:=fun f q k=>h f q fun J H1 s w=>k J H1 s ⟨w.len,fun i d H2 T2 kp sm hd e=>w.go i d H2 T2 kp ((f.keep.trans s).trans sm) hd e,fun i H2 T2 kp sm hl=>w.stop i H2 T2 kp ((f.keep.trans s).trans sm) hl⟩
theorem Rd.same {H H':Hp} {a:OF} {u:HO} (h:Rd H a u) (s:aW H H'):Rd H' a u:=by
 rcases h with h | ⟨o,h⟩
 ·exact .inl (s _ _ h)
 ·exact .inr ⟨o,s _ _ h⟩
theorem pF {Bx H1:Hp} (hl:ds.length≤OE) (hd0:∀ H2 T2,Kp T H1 T2 H2→aW Bx H2→dw K H2 p vs) (hn:vs.length=ds.length)
 (hi:∀ H2 T2 (i:Nat) v d,Kp T H1 T2 H2→aW Bx H2→vs[i]?=some v→ds[i]?=some d→ER K m Bx H2 T2 v d):Walk K m Bx (M8 K p) H1 T ds:=by
 refine ⟨hl,fun i d H2 T2 kp sb hd e=>?_,fun i H2 T2 kp sb hi=>⟨vs,hd0 H2 T2 kp sb,by omega⟩⟩
 have hr2:=hd0 H2 T2 kp sb
 have hi':i<vs.length:=by rw [hn]; exact (OR.mp e).1
 have e1:vs[i]?=some vs[i]:=Ow hi'
 refine ⟨⟨vs,_,hr2,e1⟩,fun x H3 ⟨e3,hx⟩=>?_⟩
 subst e3
 have:=hx vs hr2
 rw [e1] at this
 cases this
 exact ⟨aW.refl _,hi _ T2 i _ d kp sb e1 e⟩
theorem bO (ha:af K tl a):d8 K true (vq K tl) (d7 a):=fun {B Z os ρ σ H R ds} f q k=>by
 obtain ⟨d,q,ed⟩:=dh q
 refine ha f q fun v H1 s1 i1=>?_
 obtain ⟨p,vs,rfl,hl,hn,hr⟩:=i1.seq ed
 refine ⟨p,rfl,⟨vs,(hr H1 _ Kp.refl).1⟩,k _ _ s1 (pF (vs:=vs) ‹5› (fun H2 T2 kp _=>(hr H2 T2 kp).1) hn fun H2 T2 i v d kp _ e1 e2=>?_)⟩
 obtain ⟨v',f1,i2⟩:=(hr H2 T2 kp).2.get e2
 rw [e1] at f1
 cases f1
 exact i2
theorem u0 (ha:bp K tl a):zr K false (vq K tl) (d7 a):=fun {B Z os ρ σ H R ds} f q k=>by
 obtain ⟨d,q,ed⟩:=dh q
 refine ha f q fun v H1 s1 i1=>?_
 obtain ⟨p,vs,rfl,hl,hn,hr⟩:=i1.seq ed
 refine ⟨p,rfl,⟨vs,(hr H1 _ Kp.refl).1⟩,k _ _ s1 (pF (vs:=vs) ‹5› (fun H2 T2 kp sb=>(hr H2 No (Kp.same sb)).1) hn fun H2 T2 i v d kp sb e1 e2=>?_)⟩
 obtain ⟨v',f1,i2⟩:=(hr H1 No Kp.refl).2.get e2
 rw [e1] at f1
 cases f1
 exact i2
def Ed (lo:Int) (n:Nat):List D:=(O0 n).map fun (i:Nat)=>.int (lo+(i:Int))
theorem Bi:(Ed lo n).length=n:=by unfold Ed; rw [Oy,PK]
theorem Bj {i:Nat} (h:(Ed lo n)[i]?=some d):i<n∧d=.int (lo+i):=by
 unfold Ed at h
 rw [OH] at h
 by_cases hi:i<n
 ·rw [Q2 hi] at h; cases h; exact ⟨hi,rfl⟩
 ·rw [O5 (by rw [PK]; omega)] at h; cases h
theorem r8 {Bx H1:Hp} (hn:n≤OE):Walk K m Bx (MP lo n) H1 T (Ed lo n):=by
 refine ⟨by rw [Bi]; exact hn,fun i d H2 T2 kp _ hd e=>?_,fun i H2 T2 kp _ hi=>by rw [Bi] at hi; exact Tn hi⟩
 obtain ⟨hi,rfl⟩:=Bj e
 refine ⟨hi,fun x H3 ⟨e3,ex⟩=>?_⟩
 subst e3 ex
 cases m
 ·exact ⟨aW.refl _,.int _⟩
 ·exact ⟨aW.refl _,.int _⟩
noncomputable def nM (a:DE):aK→Option (List D):=fun ρ=>match a ρ with
 | some (.int j)=>if -(2 ^ 62)≤j∧j.toNat≤OE then some (Ed 0 j.toNat) else none
 | _=>none
noncomputable def GN (a b:DE):aK→Option (List D):=fun ρ=>match a ρ with
 | some (.int i)=>(match b ρ with
  | some (.int j)=>if -(2 ^ 62)≤i∧i<2 ^ 62∧-(2 ^ 62)≤j∧j<2 ^ 62∧(j-i).toNat≤OE then some (Ed i (j-i).toNat) else none
  | _=>none)
 | _=>none
theorem eV {ta:TE} (ha:bp K ta a):d8 K true (JG (cz ta fN)) (nM a):=fun {B Z os ρ σ H R ds} f q k=>by
 unfold nM at q
 split at q
 ·rename_i j e
  by_cases c:-(2 ^ 62)≤j∧j.toNat≤OE
  ·rw [if_pos c] at q
   cases q
   have hs:OE=16777216:=Po
   exact ha f e fun v H1 s1 i1=>⟨j,by rw [i1.isInt],c.1,by omega,k _ _ s1 (r8 c.2)⟩
  ·rw [if_neg c] at q; cases q
 ·cases q
theorem CN {ta tb:TE} {b:DE} (ha:bp K ta a) (hb:bp K tb b):d8 K true (JF (cz ta (cz tb fN))) (GN a b):=fun {B Z os ρ σ H R ds} f q k=>by
 unfold GN at q
 split at q
 ·rename_i i e
  split at q
  ·rename_i j e2
   by_cases c:-(2 ^ 62)≤i∧i<2 ^ 62∧-(2 ^ 62)≤j∧j<2 ^ 62∧(j-i).toNat≤OE
   ·rw [if_pos c] at q
    cases q
    exact ha f e fun v H1 s1 i1=>hb (f.grow s1) e2 fun u H2 s2 i2=>⟨i,j,by rw [i1.isInt,i2.isInt],⟨c.1,c.2.1,c.2.2.1,c.2.2.2.1⟩,k _ _ (s1.trans s2) (r8 c.2.2.2.2)⟩
   ·rw [if_neg c] at q; cases q
  ·cases q
 ·cases q
def DU (ds:List D):List D:=ds.mapIdx fun i d=>.tup [.int i,d]
theorem xp {i:Nat} (h:(DU ds)[i]?=some d):∃ e,ds[i]?=some e∧d=.tup [.int i,e]:=by
 unfold DU at h
 rw [List.getElem?_mapIdx] at h
 cases e:ds[i]? with
 | none=>rw [e] at h; cases h
 | some x=>rw [e] at h; cases h; exact ⟨x,rfl,rfl⟩
noncomputable def GV (a:DE):aK→Option (List D):=fun ρ=>match d7 a ρ with
 | some ds=>some (DU ds)
 | none=>none
theorem uW {Bx H1:Hp} (hl:ds.length≤OE) (hd0:∀ H2 T2,Kp T H1 T2 H2→aW Bx H2→dw K H2 p vs∧IsL K H2 T2 vs ds):Walk K true Bx (M9 K p) H1 T (DU ds):=by
 have hlen:(DU ds).length=ds.length:=by unfold DU; rw [WT]
 refine ⟨by rw [hlen]; exact hl,fun i d H2 T2 kp sb hd e=>?_,fun i H2 T2 kp sb hi=>?_⟩
 ·obtain ⟨x,ex,rfl⟩:=xp e
  obtain ⟨hr2,r2⟩:=hd0 H2 T2 kp sb
  obtain ⟨v,e1,i2⟩:=r2.get ex
  refine ⟨⟨vs,v,hr2,e1⟩,fun y H3 hy=>?_⟩
  obtain ⟨t,w,ey,nt,hw,e3⟩:=hy
  subst e3 ey
  have:=hw vs hr2
  rw [e1] at this
  cases this
  refine ⟨bL nt,show Is K _ T2 (.ref t) (.tup [.int i,x]) from .tup (fun z=>?_) aF (by show 2≤OE; decide) ((IsL.cons (.int _) (.one i2)).same (bL nt))⟩
  obtain ⟨o,q⟩:=hd t z
  rw [nt] at q; cases q
 ·obtain ⟨hr2,r2⟩:=hd0 H2 T2 kp sb
  exact ⟨vs,hr2,by rw [r2.length,← hlen]; exact Tn hi⟩
theorem y9 (h:GV a ρ=some ds):∃ es,d7 a ρ=some es∧ds=DU es:=by
 unfold GV at h
 split at h
 ·rename_i es e; exact ⟨es,e,(Pm h).symm⟩
 ·cases h
theorem HG (ha:af K tl a):d8 K true (Cf K tl) (GV a):=fun {B Z os ρ σ H R ds} f q k=>by
 obtain ⟨es,e,rfl⟩:=y9 q
 obtain ⟨d,e,ed⟩:=dh e
 refine ha f e fun v H1 s1 i1=>?_
 obtain ⟨p,vs,rfl,hl,hn,hr⟩:=i1.seq ed
 exact ⟨p,rfl,⟨vs,(hr H1 _ Kp.refl).1⟩,k _ _ s1 (uW ‹5› fun H2 T2 kp _=>hr H2 T2 kp)⟩
noncomputable def nA (a:DE):DE:=fun ρ=>match d7 a ρ with
 | some ds=>if kA ds=true then some (.lst ds) else none
 | none=>none
theorem yQ (h:GV (nA a) ρ=some ds):∃ es,d7 a ρ=some es∧kA es=true∧ds=DU es:=by
 obtain ⟨es,e,rfl⟩:=y9 h
 obtain ⟨d,e,ed⟩:=dh e
 unfold nA at e
 split at e
 ·rename_i fs e2
  by_cases c:kA fs=true
  ·rw [if_pos c] at e; cases e; cases ed; exact ⟨_,e2,c,rfl⟩
  ·rw [if_neg c] at e; cases e
 ·cases e
theorem EX (ha:He K tl a):d8 K true (Cf K tl) (GV (nA a)):=fun {B Z os ρ σ H R ds} f q k=>by
 obtain ⟨es,e,c,rfl⟩:=yQ q
 obtain ⟨d,e,ed⟩:=dh e
 refine ha f e fun v H1 s1 i1=>?_
 obtain ⟨p,vs,rfl,hl,hn,hr⟩:=i1.seq ed
 exact ⟨p,rfl,⟨vs,(hr H1 No (Kp.same (f.keep.trans s1))).1⟩,k _ _ s1 (uW ‹5› fun H2 T2 kp sb=>⟨(hr H2 No (Kp.same sb)).1,(hr H2 No (Kp.same sb)).2.flat c⟩)⟩
abbrev DG:=D→aK→Option aK
abbrev LH:=List D→aK→Option aK
def uT (K:OA) (m:Bool) (g:TG) (e:DG):Prop:=∀ {B:Hp} {Z:OF→Prop} {os:Own} {ρ:aK} {σ:L2.St} {H:Hp} {Q:L2.St→Hp→Prop} {v:V} {d:D} {ρ':aK},Fr K B Z os ρ σ H→ER K m B H (bR Z os) v d→e d ρ=some ρ' →
 (∀ os' σ',Fr K B Z os' ρ' σ' H→Kp (bR Z os) H (bR Z os') H→Q σ' H)→g v σ H Q
def N7 (K:OA) (m:Bool) (Bx H:Hp) (T:OF→Prop) (vs:List V) (ds:List D):Prop:=match m with
 | true=>IsL K H T vs ds
 | false=>IsL K Bx No vs ds
def CA (K:OA) (m:Bool) (g:xK) (e:LH):Prop:=∀ {B:Hp} {Z:OF→Prop} {os:Own} {ρ:aK} {σ:L2.St} {H:Hp} {Q:L2.St→Hp→Prop} {vs:List V} {ds:List D} {ρ':aK},Fr K B Z os ρ σ H→N7 K m B H (bR Z os) vs ds→e ds ρ=some ρ' →
 (∀ os' σ',Fr K B Z os' ρ' σ' H→Kp (bR Z os) H (bR Z os') H→Q σ' H)→g vs σ H Q
def ug (m:Bool) (d:D):Sl:=match m with
 | true=>.pu d
 | false=>.bo d
noncomputable def gN (m:Bool) (i:Nat):DG:=fun d ρ=>some (ρ.set i (ug m d))
theorem Fr.Kl {B H:Hp} (f:Fr K B Z os ρ σ H) (i:Nat) {v:V} (h:ER K m B H (bR Z os) v d) :
 ∃ os',Fr K B Z os' (ρ.set i (ug m d)) (σ.set i (some v)) H∧Kp (bR Z os) H (bR Z os') H:=by
 by_cases hi:i < ρ.length
 ·cases m with
  | true=>exact ⟨_,f.put hi h⟩
  | false=>exact ⟨_,f.step (s:=.bo d) (v:=some v) hi (fun a u e _=>e) (fun a ha=>let ⟨xs,e⟩:=(f.sl i).uM ha; ⟨_,e⟩) Qe (fun a h=>by cases h) ⟨rfl,v,rfl,h⟩⟩
 ·have e1:ρ.set i (ug m d)=ρ:=SW ‹5›
  have e2:σ.set i (some v)=σ:=SW (by rw [f.len]; omega)
  rw [e1,e2]
  exact ⟨os,f,Kp.refl⟩
theorem aD (i:Nat):uT K m (ky i) (gN m i):=fun {B Z os ρ σ H Q v d ρ'} f h q k=>by
 cases q
 obtain ⟨os',f',kp⟩:=f.Kl i h
 exact k os' _ f' kp
def lz:LH:=fun ds ρ=>match ds with
 | []=>some ρ
 | _=>none
def cO (e:DG) (r:LH):LH:=fun ds ρ=>match ds with
 | d::t=>(match e d ρ with
  | some ρ'=>r t ρ'
  | none=>none)
 | []=>none
theorem fW:CA K m La lz:=fun {B Z os ρ σ H Q vs ds ρ'} f h q k=>by
 cases ds with
 | nil =>
  cases q
  have e:vs=[]:=by cases m <;> cases h <;> rfl
  exact ⟨e,k os σ f Kp.refl⟩
 | cons d t=>cases q
theorem bG {g:TG} {e:DG} {r:LH} (hg:uT K m g e) (hr:CA K m u r):CA K m (Gw g u) (cO e r):=fun {B Z os ρ σ H Q vs ds ρ'} f h q k=>by
 cases ds with
 | nil=>cases q
 | cons d t =>
  have q:(match e d ρ with | some ρ'=>r t ρ' | none=>none)=some ρ':=q
  split at q
  ·rename_i ρ1 e1
   obtain ⟨v,vt,rfl,h1,h2⟩:∃ v vt,vs=v::vt∧ER K m B H (bR Z os) v d∧N7 K m B H (bR Z os) vt t:=by
    cases m with
    | true=>cases h with | cons a b=>exact ⟨_,_,rfl,a,b⟩
    | false=>cases h with | cons a b=>exact ⟨_,_,rfl,a,b⟩
   refine ⟨v,vt,rfl,hg f h1 e1 fun os1 σ1 f1 k1=>hr f1 ?_ q fun os2 σ2 f2 k2=>k os2 σ2 f2 (k1.trans k2)⟩
   cases m with
   | true=>exact IsL.kp k1 h2
   | false=>exact h2
  ·cases q
noncomputable def Gv (n:Nat) (r:LH):DG:=fun d ρ=>match d with
 | .tup ds=>if ds.length=n then r ds ρ else none
 | .lst ds=>if ds.length=n then r ds ρ else none
 | _=>none
theorem mP {r:LH} (hr:CA K m u r):uT K m (Iy K n u) (Gv n r):=fun {B Z os ρ σ H Q v d ρ'} f h q k=>by
 cases d with
 | tup ds =>
  have q:(if ds.length=n then r ds ρ else none)=some ρ':=q
  by_cases c:ds.length=n
  ·rw [if_pos c] at q
   cases m with
   | true =>
    obtain ⟨p,vs,rfl,hz,hr',hl,g⟩:=Is.isTup h
    exact .inl ⟨p,vs,rfl,.inl (.inl hr'),by rw [g.length]; exact c,hr f g q k⟩
   | false =>
    obtain ⟨p,vs,rfl,hz,hr',hl,g⟩:=Is.isTup h
    exact .inl ⟨p,vs,rfl,.inl (.inl (f.keep _ _ hr')),by rw [g.length]; exact c,hr f g q k⟩
  ·rw [if_neg c] at q; cases q
 | lst ds =>
  have q:(if ds.length=n then r ds ρ else none)=some ρ':=q
  by_cases c:ds.length=n
  ·rw [if_pos c] at q
   cases m with
   | true =>
    obtain ⟨p,vs,rfl,hz,hr',hl,g⟩:=Is.vp h
    exact .inr ⟨p,vs,rfl,.inl hr',by rw [g.length]; exact c,hr f g q k⟩
   | false =>
    obtain ⟨p,vs,rfl,hz,hr',hl,g⟩:=Is.vp h
    exact .inr ⟨p,vs,rfl,.inl (Rd.same hr' f.keep),by rw [g.length]; exact c,hr f g q k⟩
  ·rw [if_neg c] at q; cases q
 | _=>cases q
theorem Fr.Jf {B H:Hp} (f:Fr K B Z os ρ σ H):∀ a,bR Z os a→∃ o,H a=some o:=by
 rintro a (z | ⟨i,z⟩)
 ·exact f.El a z
 ·obtain ⟨xs,e⟩:=(f.sl i).uM z
  exact ⟨_,e⟩
theorem Fr.zt {B H:Hp} (f:Fr K B Z os ρ σ H):ZT (bR Z os) H:=⟨f.Jf,f.oa⟩
def view:Sl→Sl
 | .pu d=>.pu d
 | .bo d=>.bo d
 | .ol ds=>.bo (.lst ds)
 | .om rows=>.bo (.lst (rows.map D.lst))
 | .od kvs=>.bo (.dct kvs)
 | .pm _ _ rows=>.bo (.lst (rows.map D.lst))
 | .pd _ kvs=>.bo (.dct kvs)
 | .un=>.un
def r0 (k:Nat) (cs:List Nat) (ρ:aK):aK:=OY k .un++cs.map fun i=>view (ρ.getD i .un)
def s0 (k:Nat) (cs:List Nat) (σ:L2.St):L2.St:=OY k none++cs.map fun i=>(σ[i]?).join
theorem Cy {B H1 H:Hp} {Dl:OF} {o:HO} (f:Fr K B Z os ρ σ H1) (hD:H1 Dl=none) (s:aW H1 H) (hd:H Dl=some o) (k:Nat) (cs:List Nat) :
    Fr K H1 (fun a=>a=Dl∨bR Z os a) (fun _=>[]) (r0 k cs ρ) (s0 k cs σ) H where
  keep:=s
  El:=fun a z=>by
    rcases z with rfl | z
    · exact ⟨o,hd⟩
    · obtain ⟨u,e⟩:=f.Jf a z
      exact ⟨u,s _ _ e⟩
  len:=by unfold r0 s0; simp
  nd:=fun _=>Qe
  dj:=fun _ _ _ h=>by cases h
  tab:=f.oa
  new:=fun _ _ h=>by cases h
  sl:=fun j=>by
    have kp:Kp (bR Z os) H1 (bR (fun a=>a=Dl∨bR Z os a) fun _=>[]) H:=fun a u e z=>by
      refine ⟨s _ _ e,?_⟩
      rintro ((rfl | q) | ⟨_,q⟩)
      · rw [hD] at e; cases e
      · exact z q
      · cases q
    unfold r0 s0
    rw [Ox]
    by_cases hj:j<k
    · rw [Pe ‹44›,Pe ‹44›,PY,if_pos hj]
      exact rfl
    · rw [Py ‹44›,Py ‹44›,Pu,Pu,OH,OH]
      cases e:cs[j-k]? with
      | none=>exact rfl
      | some i =>
        have h:=f.sl i
        show uS K _ _ _ _ (view (ρ.getD i .un)) ((σ[i]?).join)
        cases e2:ρ.getD i .un with
        | un=>exact rfl
        | pu d =>
          rw [e2] at h
          obtain ⟨_,u,hu,i1⟩:=h
          exact ⟨rfl,u,hu,i1.kp kp⟩
        | bo d =>
          rw [e2] at h
          obtain ⟨_,u,hu,i1⟩:=h
          exact ⟨rfl,u,hu,i1.same f.keep⟩
        | ol ds =>
          rw [e2] at h
          obtain ⟨a,vs,_,hu,hH,hl,i1⟩:=h
          exact ⟨rfl,_,hu,.lst (fun z=>z) (.inl hH) hl i1.all⟩
        | om rows =>
          rw [e2] at h
          obtain ⟨a,ps,_,hu,hH,hl,i1⟩:=h
          exact ⟨rfl,_,hu,.lst (fun z=>z) (.inl hH) ‹41› (gS i1)⟩
        | od kvs =>
          rw [e2] at h
          obtain ⟨a,_,hu,hH,hl⟩:=h
          exact ⟨rfl,_,hu,.dct (fun z=>z) (.inl hH) hl⟩
        | pm a ps rows =>
          rw [e2] at h
          obtain ⟨_,hu,hH,hl,i1⟩:=h
          exact ⟨rfl,_,hu,.lst (fun z=>z) (.inl hH) ‹41› (gS i1)⟩
        | pd a kvs =>
          rw [e2] at h
          obtain ⟨_,hu,hH,hl⟩:=h
          exact ⟨rfl,_,hu,.dct (fun z=>z) (.inl hH) hl⟩
def qr (g:DG) (t:aK→Option Bool) (e:DE) (ρ0:aK):List D→Option (List D)
  | []=>some []
  | d::ds=>match g d ρ0 with
    | none=>none
    | some ρ1=>match t ρ1 with
      | none=>none
      | some false=>qr g t e ρ0 ds
      | some true=>match e ρ1 with
        | none=>none
        | some y=>match qr g t e ρ0 ds with
          | none=>none
          | some ys=>some (y::ys)
noncomputable def bX (k:Nat) (cs:List Nat) (it:aK→Option (List D)) (g:DG) (t:aK→Option Bool) (e:DE):aK→Option (List D):=fun ρ=>match it ρ with
 | some ds=>qr g t e (r0 k cs ρ) ds
 | none=>none
theorem bJ {k:Nat} {cs:List Nat} {g:TG} {tt:TT} {te:TE} {it:aK→Option (List D)} {gd:DG} {td:aK→Option Bool} {ed:DE} (hw:zr K m wi it) (hg:uT K m g gd) (ht:mM K tt td) (he:af K te ed) :
 bx K (qG wi g tt te (s0 k cs)) (bX k cs it gd td ed):=fun {B Z os ρ σ H Q ds} f q kk=>by
 unfold bX at q
 split at q
 ·rename_i xs e0
  refine hw f e0 fun J H1 s1 W Dl hD=>?_
  have f1:=f.grow s1
  have sD:∀ {H2:Hp} {ys:List V},aW H1 H2→aW H1 (upd H2 Dl (.lst ys)):=fun {H2 ys} s a o e=>by
   rw [upd_ne (br e hD)]; exact s _ _ e
  refine ⟨fun i m ys H2=>m=xs.length-i∧i≤xs.length∧aW H1 H2∧H2 Dl=some (.lst ys)∧ys.length≤i∧∃ done rest,IsL K H2 (fun a=>a=Dl∨bR Z os a) ys done∧qr gd td ed (r0 k cs ρ) (xs.drop i)=some rest∧done++rest=ds,
   ⟨_,rfl,PV _,sD (aW.refl _),aF,OT _,[],ds,.nil,q,rfl⟩,?_⟩
  rintro i mm ys H2 ⟨rfl,hi,s2,eD,hly,done,rest,il,q2,ed2⟩
  have kp12:Kp (bR Z os) H1 (fun a=>a=Dl∨bR Z os a) H2:=fun a u e z=>⟨s2 _ _ e,fun w=>w.elim (br e hD) z⟩
  by_cases hlt:i<xs.length
  ·have ex:xs[i]?=some xs[i]:=Ow hlt
   have ef:=Cy f1 hD s2 eD k cs
   obtain ⟨go,yl⟩:=W.go i xs[i] H2 _ kp12 s2 (fun a z=>ef.El a z) ex
   refine .inr ⟨go,fun x H3 hy=>?_⟩
   obtain ⟨s3,er⟩:=yl x H3 hy
   have eD3:=s3 _ _ eD
   have s13:=s2.trans s3
   have ef3:=Cy f1 hD s13 eD3 k cs
   rw [Pg hlt] at q2
   unfold qr at q2
   have er':ER K m H1 H3 (bR (fun a=>a=Dl∨bR Z os a) fun _=>[]) x xs[i]:=by
    cases m with
    | false=>exact er
    | true=>exact Is.kp (Kp.less fun a z=>z.elim id fun ⟨_,w⟩=>by cases w) er
   split at q2
   ·cases q2
   ·rename_i ρ1 e1
    refine hg ef3 er' e1 fun os1 σ1 fr1 k1=>?_
    split at q2
    ·cases q2
    ·rename_i e2
     refine ht fr1 e2 fun H4 s4=>xj ⟨_,by omega,rfl,hlt,s13.trans s4,s4 _ _ eD3,by omega,done,rest,(il.same s3).same s4,q2,ed2⟩
    ·rename_i e2
     refine ht fr1 e2 fun H4 s4=>yI ?_
     split at q2
     ·cases q2
     ·rename_i y e3
      split at q2
      ·cases q2
      ·rename_i rs e4
       cases q2
       refine he (fr1.grow s4) e3 fun v H5 s5 i5=>?_
       have s35:=s4.trans s5
       have eD5:=s35 _ _ eD3
       have hl:=W.len
       have kp5:∀ (zs:List V),Kp (fun a=>a=Dl∨bR Z os a) H5 (fun a=>a=Dl∨bR Z os a) (upd H5 Dl (.lst zs)):=fun zs a u e z=>⟨by rw [upd_ne (fun w=>z (.inl w))]; exact e,z⟩
       have i5':Is K H5 (fun a=>a=Dl∨bR Z os a) v y:=i5.kp (Kp.less fun a z=>.inl z)
       refine ⟨eD5,by omega,_,by omega,rfl,hlt,sD (s13.trans s35),aF,by rw [O1,Qh]; omega,done++[y],rs,?_,e4,by rw [Qx]; exact ed2⟩
       exact ((il.same s3).same s35 |>.kp (kp5 _)).append (.one (i5'.kp (kp5 _)))
  ·have e:i=xs.length:=by omega
   subst e
   rw [RU] at q2
   cases q2
   rw [Qs] at ed2
   subst ed2
   have hl:=W.len
   exact .inl ⟨W.stop _ H2 _ kp12 s2 rfl,eD,kk Dl ys H2 (s1.trans s2) (aW.free s1 hD) eD ‹5› il⟩
 ·cases q
inductive Fm where
 | v | l | m | x (E:XK) (C:OF)
def IY (fr:Fm) (K:OA) (B H:Hp) (Z:OF→Prop) (v:V) (d:D):Prop:=match fr with
 | .v=>Is K H Z v d
 | .l=>(∃ p vs ds,v=.ref p∧d=.lst ds∧B p=none∧H p=some (.lst vs)∧vs.length≤OE∧IsL K H (fun a=>a=p∨Z a) vs ds)∨∃ p kvs,v=.ref p∧d=.dct kvs∧B p=none∧H p=some (.dK (kvs.map lI))∧kvs.length≤OE
 | .m=>∃ p ps rows,v=.ref p∧d=.lst (rows.map D.lst)∧B p=none∧(∀ a∈ps,B a=none)∧(p::ps).Nodup∧H p=some (.lst ‹55›)∧ps.length≤OE∧Qv (fun q ds=>∃ vs,H q=some (.lst vs)∧vs.length≤OE∧IsL K H (fun a=>(a=p∨a∈ps)∨Z a) vs ds) ps rows
 | .x _ _=>Is K H Z v d
theorem yg {H:Hp} {Z T:OF→Prop} (hT:∀ a,Z a→T a):∀ {ps:List OF} {rows:List (List D)},(∀ p∈ps,¬ Z p)→Qv (fun p ds=>∃ vs,H p=some (.lst vs)∧vs.length≤OE∧IsL K H T vs ds) ps rows→IsL K H Z ‹55› (rows.map D.lst)
 | _,_,_,.nil=>.nil
 | _,_,hz,.cons ⟨vs,h,hl,r⟩ t=>.cons (.lst (hz _ ON) (.inl h) hl (r.kp (Kp.less hT))) (yg hT (fun p hp=>hz p (OI _ hp)) t)
theorem IY.is {fr:Fm} {B H:Hp} {v:V} (hz:∀ a,Z a→∃ o,B a=some o) (h:IY fr K B H Z v d):Is K H Z v d:=by
 have nz:∀ {p:OF},B p=none→¬ Z p:=fun {p} e z=>by obtain ⟨o,q⟩:=hz p z; rw [e] at q; cases q
 cases fr with
 | v=>exact h
 | x E C=>exact h
 | l =>
  rcases h with ⟨p,vs,ds,rfl,rfl,hb,hh,hl,r⟩ | ⟨p,kvs,rfl,rfl,hb,hh,hl⟩
  ·exact .lst (nz hb) (.inl hh) hl (r.kp (Kp.less fun a z=>.inr z))
  ·exact .dct (nz hb) (.inl hh) hl
 | m =>
  obtain ⟨p,ps,rows,rfl,rfl,hb,hbs,_,hh,hl,r⟩:=h
  exact .lst (nz hb) (.inl hh) ‹41› (yg (fun a z=>.inr z) (fun q hq=>nz (hbs q hq)) r)
def kQ (fr:Fm) (K:OA) (ms:List Bool) (F:List D→Option D):Sp:=fun vs H Q _=>∃ (Z:OF→Prop) (ds:List D) (d:D),ZT Z H∧Args K H Z ms vs ds∧F ds=some d∧∀ v H',aW H H'→IY fr K H H' Z v d→Q v H'
noncomputable def bw (F:List D→Option D) (es:aK→Option (List D)):DE:=fun ρ=>match es ρ with
 | some ds=>F ds
 | none=>none
theorem aS {fr:Fm} {ms:List Bool} {F:List D→Option D} {t:TA} {es:aK→Option (List D)} {E:XK} (ha:uU K ms t es):af K (Bt (kQ fr K ms F) [] E t) (bw F es):=fun {B Z os ρ σ H Q d} f q k=>by
 unfold bw at q
 split at q
 ·rename_i ds e
  refine ha f e fun vs H1 s1 a=>?_
  show kQ fr K ms F (vs++[]) H1 Q E
  rw [Qs]
  exact ⟨bR Z os,ds,d,(f.grow s1).zt,a,q,fun v H2 s2 i=>k v H2 (s1.trans s2) (i.is (f.grow s1).Jf)⟩
 ·cases q
end
end
end VL
namespace L2
open PySem PySem.Spec PyProof.Rows
section
variable {X:Cx}
theorem Gu:LD X (Fz X.K):=by
 show 4
 obtain ⟨p,xs,i,z,rfl,rfl,hq,he,q⟩:=h
 cases rx
 obtain ⟨t,rfl⟩:=ry
 obtain ⟨its,r,pl,hz⟩:=I.list hq
 obtain ⟨j,h1,h2,h3,h4,h5⟩:=rR he
 obtain ⟨w,ew,rw'⟩:=r.get h2
 have hl:=r.length
 have hn:=nu
 have fin:EP X pins σ Q w s:=⟨z,H,I,rw',q⟩
 by_cases h0:0≤i
 ·have hj:i.toNat=j:=by
   rw [V1 h0 h5] at h1
   exact Pm h1
  exact wpAny_getItem_list pl.isList h0 ‹5› (by rw [hj]; simpa using ew) fin
 ·have hj:(i+(its.toArray.size:Int)).toNat=j:=by
   rw [Vk ‹5› h4] at h1
   rw [OM,← hl]
   exact Pm h1
  exact Vm pl.isList ‹5› (by rw [OM] <;> omega) ‹5› (by rw [hj]; simpa using ew) fin
theorem vv {K:OA} (h:X.K=K):LD X (Fz K):=by subst h; exact Gu
end
end L2
namespace VL
variable {Z:OF→Prop} {os:Own} {H:Hp} {ta:TE} {a:DE} {tc:TT} {t:TG} {σ:L2.St} {ρ:aK} {ds:List D} {tb:TS} {k:Nat} {P:PL} {mg:P2→Option OD} {base:Qb} {st:RE} {f:OF} {fd:PN}
open PySem L2
section
open Classical
noncomputable section
variable [bE] {K:OA}
inductive Res where
 | nx (ρ:aK) | rt (d:D) | bk (ρ:aK) | ct (ρ:aK) | no
variable {fr:Fm}
abbrev DS:=aK→Res
def nR (fr:Fm) (K:OA) (B:Hp) (Z:OF→Prop) (os:Own) (H:Hp) (E:Ends):Res→Prop
 | .nx ρ'=>∀ os' σ' H',Fr K B Z os' ρ' σ' H'→Kp (bR Z os) H (bR Z os') H'→E.nx σ' H'
 | .bk ρ'=>∀ os' σ' H',Fr K B Z os' ρ' σ' H'→Kp (bR Z os) H (bR Z os') H'→E.bk σ' H'
 | .ct ρ'=>∀ os' σ' H',Fr K B Z os' ρ' σ' H'→Kp (bR Z os) H (bR Z os') H'→E.ct σ' H'
 | .rt d=>match fr with
  | .x E0 C=>∀ H',aW B H'→E0 (.ref C) none H'
  | fr=>∀ v H',aW B H'→IY fr K B H' Z v d→E.rt v H'
 | .no=>False
def di (fr:Fm) (K:OA) (t:TS) (s:DS):Prop:=∀ {B:Hp} {Z:OF→Prop} {os:Own} {ρ:aK} {σ:L2.St} {H:Hp} {E:Ends},Fr K B Z os ρ σ H→nR fr K B Z os H E (s ρ)→t E σ H
theorem nR.kp {B:Hp} {os1:Own} {H1:Hp} {E:Ends} {r:Res} (k:Kp (bR Z os) H (bR Z os1) H1) (p:nR fr K B Z os H E r):nR fr K B Z os1 H1 E r:=by
 cases r with
 | nx ρ'=>exact fun os' σ' H' f k'=>p os' σ' H' f (k.trans k')
 | bk ρ'=>exact fun os' σ' H' f k'=>p os' σ' H' f (k.trans k')
 | ct ρ'=>exact fun os' σ' H' f k'=>p os' σ' H' f (k.trans k')
 | rt d=>exact p
 | no=>exact p
@[irreducible] noncomputable def df:DS:=fun ρ=>.nx ρ
theorem bZ:di fr K Jl df:=fun f p=>by unfold df at p; exact p _ _ _ f Kp.refl
@[irreducible] noncomputable def Ng:DS:=fun _=>.no
theorem E5:di fr K ET Ng:=fun f p=>by unfold Ng at p; exact p.elim
@[irreducible] noncomputable def aL (s u:DS):DS:=fun ρ=>match s ρ with
 | .nx ρ'=>u ρ'
 | r=>r
theorem ay {t u:TS} {s w:DS} (h1:di fr K t s) (h2:di fr K u w):di fr K (LW t u) (aL s w):=fun {B Z os ρ σ H E} f p=>by
 refine h1 f ?_
 unfold aL at p
 cases e:s ρ with
 | nx ρ'=>rw [e] at p; exact fun os' σ' H' f' k=>h2 f' (p.kp k)
 | bk ρ'=>rw [e] at p; exact p
 | ct ρ'=>rw [e] at p; exact p
 | rt d=>rw [e] at p; exact p
 | no=>rw [e] at p; exact p
@[irreducible] noncomputable def cP (a:DE):DS:=fun ρ=>match a ρ with
 | some d=>.rt d
 | none=>.no
theorem bt (h:af K ta a):di .v K (EN ta) (cP a):=fun {B Z os ρ σ H E} f p=>by
 unfold cP at p
 cases e:a ρ with
 | none=>rw [e] at p; exact p.elim
 | some d=>rw [e] at p; exact h f e fun v H1 s1 i1=>p v H1 (f.keep.trans s1) (i1.kp (Kp.less fun a z=>.inl z))
@[irreducible] noncomputable def mJ (c:aK→Option Bool) (s u:DS):DS:=fun ρ=>match c ρ with
 | some true=>s ρ
 | some false=>u ρ
 | none=>.no
theorem dN {t u:TS} {c:aK→Option Bool} {s w:DS} (hc:mM K tc c) (h1:di fr K t s) (h2:di fr K u w):di fr K (LY tc t u) (mJ c s w):=fun {B Z os ρ σ H E} f p=>by
 unfold mJ at p
 split at p
 ·rename_i e
  exact hc f e fun H1 s1=>yI (h1 (f.grow s1) (p.kp (Kp.same s1)))
 ·rename_i e
  exact hc f e fun H1 s1=>xj (h2 (f.grow s1) (p.kp (Kp.same s1)))
 ·show 17
@[irreducible] noncomputable def bN (i:Nat) (a:DE):DS:=fun ρ=>match a ρ with
 | some d=>.nx (ρ.set i (.pu d))
 | none=>.no
theorem aO {i:Nat} (h:af K ta a):di fr K (uk ta (ky i)) (bN i a):=fun {B Z os ρ σ H E} f p=>by
 unfold bN at p
 cases e:a ρ with
 | none=>rw [e] at p; exact p.elim
 | some d =>
  rw [e] at p
  refine h f e fun v H1 s1 i1=>?_
  obtain ⟨os',f',k⟩:=(f.grow s1).Kl (m:=true) i i1
  exact p os' _ _ f' ((Kp.same s1).trans k)
theorem wt {i:Nat} (h:af K ta a):di fr K (uZ ta i) (bN i a):=aO (i:=i) h
@[irreducible] noncomputable def L8 (a:DE) (g:DG):DS:=fun ρ=>match a ρ with
 | some d=>(match g d ρ with
  | some ρ'=>.nx ρ'
  | none=>.no)
 | none=>.no
theorem L3 {g:DG} (h:af K ta a) (hg:uT K true t g):di fr K (uk ta t) (L8 a g):=fun {B Z os ρ σ H E} f p=>by
 unfold L8 at p
 split at p
 ·rename_i d e
  split at p
  ·rename_i ρ' e2
   exact h f e fun v H1 s1 i1=>hg (f.grow s1) i1 e2 fun os' σ' f' k=>p os' σ' _ f' ((Kp.same s1).trans k)
  ·show 17
 ·show 17
@[irreducible] noncomputable def iR (i:Nat) (a:aK→Option (List D)):DS:=fun ρ=>match a ρ with
 | some ds=>if i < ρ.length then .nx (ρ.set i (.ol ds)) else .no
 | none=>.no
theorem jI {i:Nat} {a:aK→Option (List D)} (h:bx K ta a):di fr K (uk ta (ky i)) (iR i a):=fun {B Z os ρ σ H E} f p=>by
 unfold iR at p
 split at p
 ·rename_i ds e
  by_cases hi:i < ρ.length
  ·rw [if_pos hi] at p
   refine h f e fun x vs H1 s1 hx hx1 hl i1=>?_
   have st:=f.step (H':=H1) (i:=i) hi (o:=[x]) (s:=.ol ds) (v:=some (.ref x)) (fun a u e _=>s1 _ _ e) (fun a ha=>let ⟨xs,e⟩:=(f.sl i).uM ha; ⟨_,s1 _ _ e⟩) (by simp) (fun a ha=>by rw [OB.mp ha]; exact .inr hx)
    ⟨x,vs,rfl,rfl,hx1,hl,i1.kp (Kp.less fun a z=>?_)⟩
   ·exact p _ _ _ st.1 st.2
   ·rcases z with z | ⟨j,z⟩
    ·exact .inr (.inl z)
    ·show 23
     ·subst hj; rw [bC] at z; exact .inl (OB.mp z)
     ·rw [cy hj] at z; exact .inr (.inr ⟨j,z⟩)
  ·rw [if_neg hi] at p; exact p.elim
 ·show 17
theorem si {i:Nat} {a:aK→Option (List D)} (h:bx K ta a):di fr K (uZ ta i) (iR i a):=jI (i:=i) h
def jS (i:Nat) (ρ:aK):aK:=match ρ.getD i .un with
 | .ol ds=>ρ.set i (.pu (.lst ds))
 | .om rows=>ρ.set i (.pu (.lst (rows.map D.lst)))
 | .od kvs=>ρ.set i (.pu (.dct kvs))
 | _=>ρ
theorem eK {i:Nat} {v:V} (h:(σ[i]?).join=some v):σ.set i (some v)=σ:=by
 have e:=join_some h
 refine QY fun j=>?_
 by_cases hj:i=j
 ·subst hj
  rw [Qr (OR.mp e).1,e]
 ·rw [Ql hj]
theorem eC {i:Nat} {s:Sl} (h:ρ.getD i .un=s) (hs:s≠.un):i < ρ.length:=by
 by_cases hi:i < ρ.length
 ·exact hi
 ·rw [Ox,O5 ‹5›] at h
  exact absurd h.symm hs
theorem Fr.freeze {B:Hp} (f:Fr K B Z os ρ σ H) (i:Nat):∃ os',Fr K B Z os' (jS i ρ) σ H∧Kp (bR Z os) H (bR Z os') H:=by
 unfold jS
 have less:∀ a,bR Z (jh os i []) a→bR Z os a:=by
  rintro a (z | ⟨j,z⟩)
  ·exact .inl z
  ·show 23
   ·subst hj; rw [bC] at z; cases z
   ·rw [cy hj] at z; exact .inr ⟨j,z⟩
 cases e:ρ.getD i .un with
 | ol ds =>
  have s:=f.sl i
  rw [e] at s
  obtain ⟨a,vs,eo,hu,hH,hl,i1⟩:=s
  show 24
  have st:=f.step (H':=H) (i:=i) hi (o:=[]) (s:=.pu (.lst ds)) (v:=some (.ref a)) (fun a u e _=>e) (fun a ha=>let ⟨xs,e⟩:=(f.sl i).uM ha; ⟨_,e⟩) Qe (fun a h=>by cases h)
   ⟨rfl,_,rfl,.lst (fun z=>?_) (.inl hH) hl (i1.kp (Kp.less less))⟩
  ·rw [eK hu] at st
   exact ⟨_,st⟩
  ·rcases z with z | ⟨j,z⟩
   ·exact (f.new i a (by rw [eo]; exact OB.mpr rfl)).2 z
   ·show 23
    ·subst hj; rw [bC] at z; cases z
    ·rw [cy hj] at z; exact hj (f.dj j i a z (by rw [eo]; exact OB.mpr rfl))
 | od kvs =>
  have s:=f.sl i
  rw [e] at s
  obtain ⟨a,eo,hu,hH,hl⟩:=s
  show 24
  have st:=f.step (H':=H) (i:=i) hi (o:=[]) (s:=.pu (.dct kvs)) (v:=some (.ref a)) (fun a u e _=>e) (fun a ha=>let ⟨xs,e⟩:=(f.sl i).uM ha; ⟨_,e⟩) Qe (fun a h=>by cases h)
   ⟨rfl,_,rfl,.dct (fun z=>?_) (.inl hH) hl⟩
  ·rw [eK hu] at st
   exact ⟨_,st⟩
  ·rcases z with z | ⟨j,z⟩
   ·exact (f.new i a (by rw [eo]; exact OB.mpr rfl)).2 z
   ·show 23
    ·subst hj; rw [bC] at z; cases z
    ·rw [cy hj] at z; exact hj (f.dj j i a z (by rw [eo]; exact OB.mpr rfl))
 | om rows =>
  have s:=f.sl i
  rw [e] at s
  obtain ⟨a,ps,eo,hu,hH,hl,i1⟩:=s
  show 24
  have out:∀ b,b∈os i→¬ bR Z (jh os i []) b:=by
   rintro b hb (z | ⟨j,z⟩)
   ·exact (f.new i b hb).2 z
   ·show 23
    ·subst hj; rw [bC] at z; cases z
    ·rw [cy hj] at z; exact hj (f.dj j i b z hb)
  have eY:∀ {ps:List OF} {rows:List (List D)},(∀ p∈ps,p∈os i)→Qv (fun p ds=>∃ vs,H p=some (.lst vs)∧vs.length≤OE∧IsL K H (bR Z os) vs ds) ps rows→IsL K H (bR Z (jh os i [])) ‹55› (rows.map D.lst):=by
   intro ps rows hp r
   induction r with
   | nil=>exact .nil
   | cons h _ ih =>
    obtain ⟨vs,q,hv,j⟩:=h
    exact .cons (.lst (out _ (hp _ ON)) (.inl q) hv (j.kp (Kp.less less))) (ih fun p h=>hp p (OI _ h))
  have st:=f.step (H':=H) (i:=i) hi (o:=[]) (s:=.pu (.lst (rows.map D.lst))) (v:=some (.ref a)) (fun a u e _=>e) (fun a ha=>let ⟨xs,e⟩:=(f.sl i).uM ha; ⟨_,e⟩) Qe (fun a h=>by cases h)
   ⟨rfl,_,rfl,.lst (out a (by rw [eo]; exact ON)) (.inl hH) ‹41› (eY (fun p hp=>by rw [eo]; exact OI _ hp) i1)⟩
  rw [eK hu] at st
  exact ⟨_,st⟩
 | un=>exact ⟨os,f,Kp.refl⟩
 | pu d=>exact ⟨os,f,Kp.refl⟩
 | bo d=>exact ⟨os,f,Kp.refl⟩
 | pm _ _ _=>exact ⟨os,f,Kp.refl⟩
 | pd _ _=>exact ⟨os,f,Kp.refl⟩
@[irreducible] noncomputable def Ad (i:Nat) (s:DS):DS:=fun ρ=>s (jS i ρ)
theorem E6 {t:TS} {s:DS} (i:Nat) (h:di fr K t s):di fr K t (Ad i s):=fun {B Z os ρ σ H E} f p=>by
 obtain ⟨os',f',k⟩:=f.freeze i
 unfold Ad at p
 exact h f' (nR.kp k p)
theorem Fr.KA {B:Hp} (f:Fr K B Z os ρ σ H) {i:Nat} {a:OF} {ds':List D} {vs':List V} (e:ρ.getD i .un=.ol ds) (hu:(σ[i]?).join=some (.ref a)) (hl:vs'.length≤OE) (h:IsL K H (bR Z os) vs' ds') :
 ∃ os',Fr K B Z os' (ρ.set i (.ol ds')) σ (upd H a (.lst vs'))∧Kp (bR Z os) H (bR Z os') (upd H a (.lst vs')):=by
 have s:=f.sl i
 rw [e] at s
 obtain ⟨b,vs,eo,hu',hH,_,_⟩:=s
 rw [hu] at hu'
 cases hu'
 show 24
 have ha:a∈os i:=by rw [eo]; exact OB.mpr rfl
 have st:=f.step (H':=upd H a (.lst vs')) (i:=i) hi (o:=[a]) (s:=.ol ds') (v:=some (.ref a)) (fun b u e n=>by rw [upd_ne (fun z=>n (by rw [z]; exact ha))]; exact e) (fun b hb=>?_) (by simp) (fun b hb=>by rw [OB.mp hb]; exact .inl ha)
  ⟨a,vs',rfl,rfl,aF,hl,h.kp fun b u e z=>⟨?_,fun q=>z ?_⟩⟩
 ·rw [eK hu] at st
  exact ⟨_,st⟩
 ·rw [eo] at hb; rw [OB.mp hb]; exact ⟨_,aF⟩
 ·rw [upd_ne (fun w=>z (.inr ⟨i,by rw [w]; exact ha⟩))]; exact e
 ·rcases q with q | ⟨j,q⟩
  ·exact .inl q
  ·show 23
   ·subst hj; rw [bC] at q; exact .inr ⟨j,by rw [OB.mp q]; exact ha⟩
   ·rw [cy hj] at q; exact .inr ⟨j,q⟩
theorem BY {B:Hp} (f:Fr K B Z os ρ σ H) {i:Nat} (e:ρ.getD i .un=.ol ds):∃ a vs,(σ[i]?).join=some (.ref a)∧H a=some (.lst vs)∧vs.length≤OE∧IsL K H (bR Z os) vs ds:=by
 have s:=f.sl i
 rw [e] at s
 obtain ⟨b,vs,eo,hu',hH,hl,r⟩:=s
 exact ⟨b,vs,hu',hH,hl,r⟩
@[irreducible] noncomputable def Af (i:Nat) (a:DE):DS:=fun ρ=>match ρ.getD i .un with
 | .ol ds=>(match a ρ with
  | some d=>if ds.length<OE then .nx (ρ.set i (.ol (ds++[d]))) else .no
  | none=>.no)
 | _=>.no
theorem zW {i:Nat} (h:af K ta a):di fr K (xW (MT K "list" wK (iJ i) (cz ta fN))) (Af i a):=fun {B Z os ρ σ H E} f p=>by
 unfold Af at p
 split at p
 ·rename_i ds e
  split at p
  ·rename_i d e2
   by_cases hz:ds.length<OE
   ·rw [if_pos hz] at p
    obtain ⟨x,vs,hu,hH,hl,r⟩:=BY f e
    refine ⟨_,join_some hu,.inl ⟨rfl,_,dw.of hH⟩,h f e2 fun v H1 s1 i1=>?_⟩
    have f1:=f.grow s1
    have r1:=r.same s1
    have hlen:vs.length<OE:=by rw [r.length]; exact hz
    obtain ⟨os',f',k⟩:=f1.KA (vs':=vs++[v]) (ds':=ds++[d]) e hu (by rw [O1,Qh]; omega) (r1.append (.one i1))
    exact ⟨x,vs,v,rfl,rfl,s1 _ _ hH,hlen,p os' _ _ f' ((Kp.same s1).trans k)⟩
   ·rw [if_neg hz] at p; exact p.elim
  ·show 17
 ·show 17
@[irreducible] noncomputable def Ae (i:Nat) (a:DE):DS:=fun ρ=>match ρ.getD i .un with
 | .ol ds=>(match a ρ with
  | some (.lst es)=>if ds.length+es.length≤OE then .nx (ρ.set i (.ol (ds++es))) else .no
  | _=>.no)
 | _=>.no
theorem zU {i:Nat} (h:af K ta a):di fr K (xW (MT K "list" Jy (iJ i) (cz ta fN))) (Ae i a):=fun {B Z os ρ σ H E} f p=>by
 unfold Ae at p
 split at p
 ·rename_i ds e
  split at p
  ·rename_i es e2
   by_cases hz:ds.length+es.length≤OE
   ·rw [if_pos hz] at p
    obtain ⟨x,vs,hu,hH,hl,r⟩:=BY f e
    refine ⟨_,join_some hu,.inl ⟨rfl,_,dw.of hH⟩,h f e2 fun v H1 s1 i1=>?_⟩
    obtain ⟨b,us,rfl,_,hb,_,r2⟩:=i1.vp
    have f1:=f.grow s1
    have r1:=r.same s1
    have hlen:vs.length+us.length≤OE:=by rw [r.length,r2.length]; exact hz
    obtain ⟨os',f',k⟩:=f1.KA (vs':=vs++us) (ds':=ds++es) e hu (by rw [O1]; exact hlen) (r1.append r2)
    exact ⟨x,b,vs,us,rfl,rfl,s1 _ _ hH,hb,hlen,p os' _ _ f' ((Kp.same s1).trans k)⟩
   ·rw [if_neg hz] at p; exact p.elim
  ·show 17
 ·show 17
@[irreducible] noncomputable def yc (i:Nat) (b a:DE):DS:=fun ρ=>match ρ.getD i .un with
 | .ol ds=>(match a ρ with
  | some d=>(match b ρ with
   | some (.int n)=>(match ixN ds.length n with
    | some j=>.nx (ρ.set i (.ol (ds.set j d)))
    | none=>.no)
   | _=>.no)
  | none=>.no)
 | _=>.no
theorem wu {i:Nat} {tb:TE} {b:DE} (ha:af K ta a) (hb:bp K tb b):di fr K (uk ta (K9 (iJ i) tb BK)) (yc i b a):=fun {B Z os ρ σ H E} f p=>by
 unfold yc at p
 split at p
 ·rename_i ds e
  split at p
  ·rename_i d e2
   split at p
   ·rename_i n e3
    split at p
    ·rename_i j e4
     obtain ⟨x,vs,hu,hH,hl,r⟩:=BY f e
     refine ha f e2 fun v H1 s1 i1=>⟨_,join_some hu,hb (f.grow s1) e3 fun w H2 s2 i2=>?_⟩
     have s12:=s1.trans s2
     have f1:=f.grow s12
     have r1:=r.same s12
     obtain ⟨os',f',k⟩:=f1.KA (vs':=vs.set j v) (ds':=ds.set j d) e hu (by rw [PH]; exact hl) (r1.set (i1.same s2) j)
     exact ⟨x,vs,n,j,rfl,i2.isInt,s12 _ _ hH,by rw [r.length]; exact e4,p os' _ _ f' ((Kp.same s12).trans k)⟩
    ·show 17
   ·show 17
  ·show 17
 ·show 17
@[irreducible] noncomputable def yf (g:Int→Int→Int) (i:Nat) (a:DE):DS:=fun ρ=>match aj i ρ with
 | some (.int x)=>(match a ρ with
  | some (.int y)=>.nx (ρ.set i (.pu (.int (g x y))))
  | _=>.no)
 | _=>.no
theorem zV {i:Nat} {g:Int→Int→Int} (ha:bp K ta a):di fr K (LZ i ta (M0 g)) (yf g i a):=fun {B Z os ρ σ H E} f p=>by
 unfold yf at p
 split at p
 ·rename_i x e
  split at p
  ·rename_i y e2
   have q:=ab i f (Q:=fun v H'=>v=.int x∧H'=H) e
   obtain ⟨u,hu,ix⟩:∃ u,σ[i]?=some (some u)∧u=.int x:=by
    have s:=f.sl i
    unfold aj at e
    cases e0:ρ.getD i .un with
    | un=>rw [e0] at e; cases e
    | pu d=>rw [e0] at e s; cases e; obtain ⟨_,u,hu,i1⟩:=s; exact ⟨u,join_some hu,i1.isInt⟩
    | bo d=>rw [e0] at e s; cases e; obtain ⟨_,u,hu,i1⟩:=s; exact ⟨u,join_some hu,i1.isInt⟩
    | ol d=>rw [e0] at e; cases e
    | om d=>rw [e0] at e; cases e
    | od d=>rw [e0] at e; cases e
    | pm _ _ d=>rw [e0] at e; cases e
    | pd _ d=>rw [e0] at e; cases e
   refine ⟨u,hu,ha f e2 fun v H1 s1 i1=>⟨x,y,ix,i1.isInt,?_⟩⟩
   obtain ⟨os',f',k⟩:=(f.grow s1).Kl (m:=true) i (v:=.int (g x y)) (d:=.int (g x y)) (.int _)
   exact p os' _ _ f' ((Kp.same s1).trans k)
  ·show 17
 ·show 17
def lA (g:DG) (b:DS):List D→DS
 | [],ρ=>.nx ρ
 | d::ds,ρ=>match g d ρ with
  | none=>.no
  | some ρ1=>match b ρ1 with
   | .nx ρ2=>lA g b ds ρ2
   | .ct ρ2=>lA g b ds ρ2
   | .bk ρ2=>.nx ρ2
   | .rt d=>.rt d
   | .no=>.no
@[irreducible] noncomputable def kI (it:aK→Option (List D)) (g:DG) (b:DS):DS:=fun ρ=>match it ρ with
 | some ds=>lA g b ds ρ
 | none=>.no
theorem fo {m:Bool} {wi:TI} {it:aK→Option (List D)} {g:DG} {b:DS} (hw:d8 K m wi it) (hg:uT K m t g) (hb:di fr K tb b):di fr K (EU wi t tb) (kI it g b):=fun {B Z os ρ σ H E} f p=>by
 unfold kI at p
 split at p
 ·rename_i ds e0
  refine hw f e0 fun J H1 s1 W=>?_
  refine ⟨fun i m σ' H'=>∃ os' ρ',m=ds.length-i∧i≤ds.length∧Fr K B Z os' ρ' σ' H'∧Kp (bR Z os) H1 (bR Z os') H'∧nR fr K B Z os H1 E (lA g b (ds.drop i) ρ'),⟨_,os,ρ,rfl,PV _,f.grow s1,Kp.refl,nR.kp (Kp.same s1) p⟩,?_⟩
  rintro i mm σ2 H2 ⟨os2,ρ2,rfl,hi,f2,k2,p2⟩
  by_cases hlt:i<ds.length
  ·have ex:ds[i]?=some ds[i]:=Ow hlt
   obtain ⟨go,yl⟩:=W.go i ds[i] H2 _ k2 f2.keep f2.Jf ex
   rw [Pg hlt] at p2
   show 12
   obtain ⟨s3,er⟩:=yl x H3 hy
   unfold lA at p2
   split at p2
   ·exact p2.elim
   ·rename_i ρ1 e1
    have er':ER K m B H3 (bR Z os2) x ds[i]:=er
    refine hg (f2.grow s3) er' e1 fun os3 σ3 f3 k3=>hb f3 ?_
    have k13:Kp (bR Z os) H1 (bR Z os3) H3:=(k2.trans (Kp.same s3)).trans k3
    split at p2
    ·rename_i ρ4 e4
     rw [e4]
     show 25
    ·rename_i ρ4 e4
     rw [e4]
     show 25
    ·rename_i ρ4 e4
     rw [e4]
     exact fun os' σ' H' f' k'=>p2 os' σ' H' f' (k13.trans k')
    ·rename_i d e4
     rw [e4]
     exact p2
    ·exact p2.elim
  ·have e:i=ds.length:=by omega
   subst e
   rw [RU] at p2
   exact .inl ⟨W.stop _ H2 _ k2 f2.keep rfl,p2 os2 σ2 H2 f2 k2⟩
 ·show 17
def m8 (c:aK→Option Bool) (b:DS):Nat→DS
 | 0,ρ=>match c ρ with
  | some false=>.nx ρ
  | _=>.no
 | n+1,ρ=>match c ρ with
  | some false=>.nx ρ
  | some true=>(match b ρ with
   | .nx ρ'=>m8 c b n ρ'
   | .ct ρ'=>m8 c b n ρ'
   | .bk ρ'=>.nx ρ'
   | .rt d=>.rt d
   | .no=>.no)
  | none=>.no
@[irreducible] noncomputable def jM (c:aK→Option Bool) (b:DS):DS:=fun ρ=>if h:∃ n,m8 c b n ρ≠.no then m8 c b h.choose ρ else .no
theorem rZ {c:aK→Option Bool} {b:DS}:∀ {n:Nat} {ρ:aK},m8 c b n ρ≠.no→m8 c b (n+1) ρ=m8 c b n ρ
 | 0,ρ,h=>by
  unfold m8 at h ⊢
  split at h
  ·rename_i e; rw [e]
  ·exact absurd rfl h
 | n+1,ρ,h=>by
  have e1:m8 c b (n+1+1) ρ=(match c ρ with | some false=>.nx ρ | some true=>(match b ρ with | .nx ρ'=>m8 c b (n+1) ρ' | .ct ρ'=>m8 c b (n+1) ρ' | .bk ρ'=>.nx ρ' | .rt d=>.rt d | .no=>.no) | none=>.no):=rfl
  have e2:m8 c b (n+1) ρ=(match c ρ with | some false=>.nx ρ | some true=>(match b ρ with | .nx ρ'=>m8 c b n ρ' | .ct ρ'=>m8 c b n ρ' | .bk ρ'=>.nx ρ' | .rt d=>.rt d | .no=>.no) | none=>.no):=rfl
  rw [e1]
  rw [e2] at h ⊢
  cases e3:c ρ with
  | none=>rfl
  | some x =>
   rw [e3] at h
   cases x with
   | false=>rfl
   | true =>
    cases e4:b ρ with
    | nx ρ'=>rw [e4] at h; exact rZ h
    | ct ρ'=>rw [e4] at h; exact rZ h
    | _=>rfl
theorem zH {c:aK→Option Bool} {b:DS} {n:Nat} (h:m8 c b n ρ≠.no):m8 c b (n+k) ρ=m8 c b n ρ:=by
 induction k with
 | zero=>rfl
 | succ k ih=>rw [← Nat.add_assoc,rZ (by rw [ih]; exact h),ih]
theorem C3 {c:aK→Option Bool} {b:DS} {n:Nat} {r:Res} (h:m8 c b n ρ=r) (hr:r≠.no):jM c b ρ=r:=by
 have ex:∃ n,m8 c b n ρ≠.no:=⟨n,by rw [h]; exact hr⟩
 unfold jM
 rw [dif_pos ex]
 have q:=ex.choose_spec
 generalize ex.choose=m at q
 have e1:=zH (k:=n) q
 have e2:=zH (k:=m) (show m8 c b n ρ≠.no by rw [h]; exact hr)
 rw [Nat.add_comm] at e2
 rw [← e1,e2,h]
theorem og {c:aK→Option Bool} {b:DS} (hc:mM K tc c) (hb:di fr K tb b):di fr K (EL tc tb) (jM c b):=fun {B Z os ρ σ H E} f p=>by
 unfold jM at p
 by_cases ex:∃ n,m8 c b n ρ≠.no
 ·rw [dif_pos ex] at p
  generalize ex.choose=n0 at p
  refine ⟨fun m σ' H'=>∃ os' ρ',Fr K B Z os' ρ' σ' H'∧Kp (bR Z os) H (bR Z os') H'∧nR fr K B Z os H E (m8 c b m ρ'),⟨n0,os,ρ,f,Kp.refl,p⟩,?_⟩
  rintro m σ2 H2 ⟨os2,ρ2,f2,k2,p2⟩
  cases m with
  | zero =>
   unfold m8 at p2
   split at p2
   ·rename_i e
    exact hc f2 e fun H3 s3=>xj (p2 os2 σ2 H3 (f2.grow s3) (k2.trans (Kp.same s3)))
   ·exact p2.elim
  | succ m =>
   have p2:nR fr K B Z os H E (match c ρ2 with | some false=>.nx ρ2 | some true=>(match b ρ2 with | .nx ρ'=>m8 c b m ρ' | .ct ρ'=>m8 c b m ρ' | .bk ρ'=>.nx ρ' | .rt d=>.rt d | .no=>.no) | none=>.no):=p2
   cases e:c ρ2 with
   | none=>rw [e] at p2; exact p2.elim
   | some x =>
    rw [e] at p2
    cases x with
    | false=>exact hc f2 e fun H3 s3=>xj (p2 os2 σ2 H3 (f2.grow s3) (k2.trans (Kp.same s3)))
    | true =>
     refine hc f2 e fun H3 s3=>yI ⟨fun σ' H'=>∃ os' ρ',Fr K B Z os' ρ' σ' H'∧Kp (bR Z os) H (bR Z os') H'∧nR fr K B Z os H E (m8 c b m ρ'),fun σ' H' h=>⟨m,Qc _,h⟩,hb (f2.grow s3) ?_⟩
     have k3:=k2.trans (Kp.same s3)
     cases e4:b ρ2 with
     | nx ρ'=>rw [e4] at p2; exact fun os' σ' H' f' k'=>⟨os',_,f',k3.trans k',p2⟩
     | ct ρ'=>rw [e4] at p2; exact fun os' σ' H' f' k'=>⟨os',_,f',k3.trans k',p2⟩
     | bk ρ'=>rw [e4] at p2; exact fun os' σ' H' f' k'=>p2 os' σ' H' f' (k3.trans k')
     | rt d=>rw [e4] at p2; exact p2
     | no=>rw [e4] at p2; exact p2.elim
 ·rw [dif_neg ex] at p; exact p.elim
def gJ (n:Nat) (ms:List Bool) (ds:List D):aK:=Rv ug ms ds++OY (n-ds.length) .un
@[irreducible] def cB (n:Nat) (ms:List Bool) (b:DS) (ds:List D):Option D:=match b (gJ n ms ds) with
 | .rt d=>some d
 | .nx _=>some .non
 | _=>none
@[irreducible] def oA (n:Nat) (ms:List Bool) (b:DS) (ds:List D):Option D:=match b (gJ n ms ds) with
 | .rt d=>some d
 | _=>none
theorem rA {N:List P2} {ms:List Bool} {vs:List V} (hz:ZT Z H) (h:Args K H Z ms vs ds):Fr K H Z (fun _=>[]) (gJ N.length ms ds) (L2.start N vs) H where
 keep:=aW.refl _
 El:=hz.1
 tab:=hz.2
 len:=by
  unfold gJ L2.start
  have:=h.len
  simp only [O1,Oy,Pu,Rr]
  omega
 nd:=fun _=>Qe
 dj:=fun _ _ _ h=>by cases h
 new:=fun _ _ h=>by cases h
 sl:=fun j=>by
  have hl:=h.len
  have key:∀ {ms:List Bool} {vs:List V} {ds:List D} (j:Nat),Args K H Z ms vs ds→j<ms.length→uS K H H (bR Z fun _=>[]) [] (((Rv ug ms ds)[j]?).getD .un) ((vs.map some)[j]?.join):=by
   intro ms vs ds j h
   induction h generalizing j with
   | nil=>intro hj; simp at hj
   | own i _ ih =>
    intro hj
    cases j with
    | zero=>exact ⟨rfl,_,rfl,i.kp (Kp.less fun a z=>z.elim id fun ⟨_,w⟩=>by cases w)⟩
    | succ j=>exact ih j ‹44›
   | any i _ ih =>
    intro hj
    cases j with
    | zero=>exact ⟨rfl,_,rfl,i⟩
    | succ j=>exact ih j ‹44›
  unfold gJ L2.start
  rw [Ox]
  by_cases hj:j<ms.length
  ·rw [Pe (by rw [Rr]; omega),Pe (by rw [Oy]; omega)]
   exact key j h hj
  ·rw [Py (by rw [Rr]; omega),PY]
   split <;> exact rfl
theorem dS.rG {w:PR} {x qual:P2} {N ps:List P2} (F:dS K x qual st f fd) (S:bq N ps (aB st)) (ms:List Bool) (hms:ms.length=ps.length) (b:DS)
 (hbody:∀ (cdv:OD) (A:P8) (outer:List XQ) (s:OG) (H:Hp) (E:XK),fO k (A.deeper (SQ qual (aB st) ‹1› f cdv)) →
  ∃ t,xM ‹28›.Hn (fF st) t∧di .v K t b):dv P w K mg base jq (k+1) f fd ps (kQ .v K ms (cB N.length ms b)):=by
 refine F.ok S (fun vs H Q E h=>?_) (fun cdv A outer s H vs Q E hr h=>?_)
 ·obtain ⟨Z,ds,d,hz,a,_⟩:=h
  rw [a.len.1,hms]
 ·obtain ⟨Z,ds,d,hz,a,e,k⟩:=h
  obtain ⟨t,h1,h2⟩:=hbody cdv A outer s H E hr
  refine ⟨t,h1,h2 (rA hz a) ?_⟩
  unfold cB at e
  split at e
  ·rename_i d' e1
   cases e
   rw [e1]
   exact fun v H' s' i=>k v H' s' i
  ·rename_i ρ e1
   cases e
   rw [e1]
   exact fun os' σ' H' f' _=>k _ H' f'.keep .non
  ·cases e
theorem dS.NS {w:PR} {x qual:P2} {N ps:List P2} (F:dS K x qual st f fd) (S:bq N ps (aB st)) (ms:List Bool) (hms:ms.length=ps.length) (b:DS)
 (hbody:∀ (cdv:OD) (A:P8) (outer:List XQ) (s:OG) (H:Hp) (E:XK),fO k (A.deeper (SQ qual (aB st) ‹1› f cdv)) →
  ∃ t,xM ‹28›.Hn (fF st) t∧di fr K t b) (hfr:∀ E C,fr≠.x E C:=by intro _ _ h; cases h):dv P w K mg base jq (k+1) f fd ps (kQ fr K ms (oA N.length ms b)):=by
 refine F.ok S (fun vs H Q E h=>?_) (fun cdv A outer s H vs Q E hr h=>?_)
 ·obtain ⟨Z,ds,d,hz,a,_⟩:=h
  rw [a.len.1,hms]
 ·obtain ⟨Z,ds,d,hz,a,e,k⟩:=h
  obtain ⟨t,h1,h2⟩:=hbody cdv A outer s H E hr
  refine ⟨t,h1,h2 (rA hz a) ?_⟩
  unfold oA at e
  split at e
  ·rename_i d' e1
   cases e
   rw [e1]
   cases fr with
   | v=>exact fun v H' s' i=>k v H' s' i
   | l=>exact fun v H' s' i=>k v H' s' i
   | m=>exact fun v H' s' i=>k v H' s' i
   | x E0 C=>exact absurd rfl (hfr E0 C)
  ·cases e
end
end
end VL
namespace L2
variable {cl:List (P2×OF)} {scope:Sb} {zs:List P2} {k:Nat} {u:xK} {K:OA} {tl:TE}
open PySem PySem.Spec PyProof.Rows
section
open VL (s0)
section
variable {X:Cx}
inductive SubL (X:Cx):List (P2×OF)→Prop
 | nil:SubL X []
 | cons {z:P2} {c:OF} {r:List (P2×OF)}:X.env.cells.lookup z=some c→SubL X r→SubL X ((z,c)::r)
theorem SubL.sub (h:SubL X cl):∀ x c,cl.lookup x=some c→X.env.cells.lookup x=some c:=by
 induction h with
 | nil=>intro x c e; cases e
 | @cons z c r h _ ih =>
  intro x c' e
  rw [RV] at e
  cases q:x==z with
  | true=>rw [q] at e; cases e; rw [eq_of_beq q]; exact h
  | false=>rw [q] at e; exact ih x c' e
inductive rq (X:Cx) (scope:Sb) (cl:List (P2×OF)):List Nat→List P2→Prop
 | nil:rq X scope cl [] []
 | cons {i:Nat} {z:P2} {c:OF} {is:List Nat} {zs:List P2}:X.N[i]?=some z→‹23›→cl.lookup z=some c →
  (‹25›.names.lookup z=some .cell∨‹25›.names.lookup z=some .free)→rq X scope cl is zs→rq X scope cl (i::is) (z::zs)
theorem rq.get {is:List Nat} (h:rq X scope cl is zs):∀ (j:Nat) (z:P2),zs[j]?=some z→∃ i c,is[j]?=some i∧X.N[i]?=some z∧‹23›∧cl.lookup z=some c ∧
 (‹25›.names.lookup z=some .cell∨‹25›.names.lookup z=some .free):=by
 induction h with
 | nil=>intro j z e; simp at e
 | cons h1 h2 h3 h4 _ ih =>
  intro j z e
  cases j with
  | zero=>cases e; exact ⟨_,_,rfl,h1,h2,h3,h4⟩
  | succ j=>exact ih j z ‹56›
theorem rq.len {is:List Nat} (h:rq X scope cl is zs):is.length=zs.length:=by
 induction h with
 | nil=>rfl
 | cons _ _ _ _ _ ih=>simp [ih]
def Ja (k:Nat) (g:TG):Prop:=∀ x σ H (Q:St→Hp→Prop),g x σ H Q→∃ σ2 H2,Q σ2 H2∧σ2.length=σ.length∧(∀ j,k≤j→σ2[j]?=σ[j]?)∧∀ Q':St→Hp→Prop,Q' σ2 H2→g x σ H Q'
def I0 (k:Nat) (g:xK):Prop:=∀ x σ H (Q:St→Hp→Prop),g x σ H Q→∃ σ2 H2,Q σ2 H2∧σ2.length=σ.length∧(∀ j,k≤j→σ2[j]?=σ[j]?)∧∀ Q':St→Hp→Prop,Q' σ2 H2→g x σ H Q'
theorem aV {i:Nat} (h:i<k):Ja k (ky i):=fun x σ H Q q=>⟨_,_,q,PH,fun j hj=>by rw [Ql ‹5›],fun _ z=>z⟩
theorem oM:I0 k La:=fun x σ H Q q=>⟨_,_,q.2,rfl,fun _ _=>rfl,fun _ z=>⟨q.1,z⟩⟩
theorem lows_cons {t:TG} (h1:Ja k t) (h2:I0 k u):I0 k (Gw t u):=fun x σ H Q q=>by
 obtain ⟨v,r,e,q⟩:=q
 obtain ⟨σ1,H1,q1,l1,k1,g1⟩:=h1 _ _ _ _ q
 obtain ⟨σ2,H2,q2,l2,k2,g2⟩:=h2 _ _ _ _ q1
 exact ⟨σ2,H2,q2,l2.trans l1,fun j hj=>(k2 j hj).trans (k1 j hj),fun Q' z=>⟨v,r,e,g1 _ (g2 Q' z)⟩⟩
theorem rH {n:Nat} (h:I0 k u):Ja k (Iy K n u):=fun x σ H Q q=>by
 rcases q with ⟨a,xs,e,hs,hl,q⟩ | ⟨a,xs,e,hs,hl,q⟩
 ·obtain ⟨σ1,H1,q1,l1,k1,g1⟩:=h _ _ _ _ q
  exact ⟨σ1,H1,q1,l1,k1,fun Q' z=>.inl ⟨a,xs,e,hs,hl,g1 Q' z⟩⟩
 ·obtain ⟨σ1,H1,q1,l1,k1,g1⟩:=h _ _ _ _ q
  exact ⟨σ1,H1,q1,l1,k1,fun Q' z=>.inr ⟨a,xs,e,hs,hl,g1 Q' z⟩⟩
theorem Ja.keep {g:TG} {cs:List Nat} (h:Ja k g) (σ:St):CC g (s0 k cs σ):=fun x H Q q=>by
 obtain ⟨σ1,H1,q1,l1,k1,g1⟩:=h _ _ _ _ q
 refine g1 _ ⟨q1,l1,fun j v e=>?_⟩
 by_cases hj:j<k
 ·unfold s0 at e
  rw [Pe ‹44›,PY,if_pos hj] at e; cases e
 ·rw [k1 j ‹5›]; exact e
variable {tg elt iter c:Qg} {scope:Sb} {cl:List (P2×OF)} {ts zs:List P2} {is:List Nat} {k:Nat} {g:TG} {tt:TT} {te:TE} {wi:TI} {pos:UM}
theorem bh {l:Qg} (h:X.K=K) (hl:PE X l tl):PI X tg l (vq K tl):=by subst h; exact HZ hl
theorem yn {l:Qg} {elts:List Qg} {x1} {tpos p pos:UM} (h:X.K=K) (hg:Gl X "enumerate") (hm:X.mg "enumerate" = none) (hl:PE X l tl) (hs:P0 [l] X.env=[(false,eval l X.env)]:=by rfl):PI X (.Tuple elts x1 tpos) (.Call (.Name "enumerate" p) [l] [] pos) (Cf K tl):=by subst h; exact H0 hg hm hl hs
end
end
end L2
namespace VL
open PySem L2
def Fb [bE] (K:OA):Sp:=fun vs H Q _=>∃ (a:OF) (ns:List Int),vs=[.ref a]∧dw K H a ‹49›∧ns.length≤63∧(∀ m∈ns,QH m≤1048576)∧ua H∧∀ H',Q (.bl true) H'
theorem CW [bE] {K:OA} {F:List D→Option D} (ht:∀ ns:List Int,ns.length≤63→(∀ m∈ns,QH m≤1048576)→F [.scr ns]=some (.bl true)) {vs:List V} {H:Hp} {Q:VK} {E:XK} (h:Fb K vs H Q E):kQ .v K [false] F vs H Q E:=by
 obtain ⟨a,ns,rfl,hS,hl,hb,htab,k⟩:=h
 have hz:ns.length≤OE:=Pq hl ‹11›
 refine ⟨No,[.scr ns],.bl true,⟨fun a z=>z.elim,htab⟩,.any ?_ .nil,ht ns hl hb,fun v H' s i=>by cases i; exact k H'⟩
 rcases hS with hS | hS
 ·exact .scr (fun z=>z) hS hz
 ·exact .scrK hS hz
end VL
namespace L2
open PySem PySem.Spec PyProof.Rows
section
variable {X:Cx} {K:OA}
theorem Lq:PZ "any" = some (.builtin "any"):=by decide +kernel
theorem G3:PZ "zip" = some (.type "zip"):=by decide +kernel
theorem zf:PZ "reversed" = some (.type "reversed"):=by decide +kernel
def EF:V→Option Bool
 | .bl b=>some b
 | .int i=>some (i != 0)
 | _=>none
theorem B9 {s:OG} {h':Qb} {o:Q5} (hk:∀ b x,b∉[‹1›]→(s.heap.push o).get? b=some x→h'.get? b=some x):∀ b x,s.heap.get? b=some x→h'.get? b=some x :=
 fun b x e=>hk b x (fun hm=>by rw [OB.mp hm] at e; exact PB _ (OO e)) (OC _ e)
theorem Ni (bs:List Bool):((O0 bs.length).all fun i=>(bs[i]?).getD true)=bs.all id:=by
 rw [P6,Qu,Qu]
 constructor
 ·intro h x hx
  obtain ⟨i,hi⟩:=Sw hx
  have:=h i (O8.mpr (OR.mp hi).1)
  rw [hi] at this
  exact this
 ·intro h i hi
  have:=O8.mp hi
  rw [Ow this]
  exact h _ (QD this)
theorem Nh (bs:List Bool):((O0 bs.length).any fun i=>(bs[i]?).getD false)=bs.any id:=by
 rw [P6,TH,TH]
 constructor
 ·rintro ⟨i,hi,h⟩
  have:=O8.mp hi
  rw [Ow this] at h
  exact ⟨_,QD this,h⟩
 ·rintro ⟨x,hx,h⟩
  obtain ⟨i,hi⟩:=Sw hx
  exact ⟨i,O8.mpr (OR.mp hi).1,by rw [hi]; exact h⟩
def Mi (K:OA) (f:List Bool→Bool):List V→Hp→VK→Prop:=fun xs H Q=>∃ (p:OF) (vs:List V) (bs:List Bool),xs=[.ref p]∧dw K H p vs∧vs.map EF=bs.map some∧Q (.bl (f bs)) H
theorem EE {vs:List V} {us:List OD} {bs:List Bool} (r:Vals vs us) (h:vs.map EF=bs.map some) {i:Nat} {u:OD} (e:us[i]?=some u):∃ b,bs[i]?=some b∧∀ {prog:PL} {w:PR} {A:P8} {s':OG} {Q:Bool→OG→Prop} {E:OD→OG→Prop},Q b s'→OX ‹13› A (truthy u) Q E s':=by
 have hi:i<vs.length:=by rw [r.length]; exact (OR.mp e).1
 have e1:vs[i]?=some vs[i]:=Ow hi
 obtain ⟨u',e2,ru⟩:=r.get e1
 rw [e] at e2
 cases e2
 have e3:(bs.map some)[i]?=some (EF vs[i]):=by rw [← h,OH,e1]; rfl
 rw [OH] at e3
 cases e4:bs[i]? with
 | none=>rw [e4] at e3; cases e3
 | some b =>
  rw [e4] at e3
  have e5:some b=EF vs[i]:=Pm e3
  refine ⟨b,rfl,fun {prog w A s' Q E} q=>?_⟩
  cases e6:vs[i] with
  | bl c =>
   rw [e6] at e5 ru
   cases e5
   cases ru
   exact Rh q
  | int n =>
   rw [e6] at e5 ru
   have e5:some b=some (n != 0):=e5
   cases e5
   obtain ⟨t,rfl⟩:=ru
   exact WM q
  | _=>rw [e6] at e5; cases e5
theorem vF (hc:X.calm=true) (hK:X.K=K):dG X (.builtin "all") (Mi K fun bs=>bs.all id):=by
 subst hK
 show 5
 obtain ⟨p,vs,bs,rfl,hq,hb,q⟩:=h
 obtain ⟨u,rfl,rx⟩:=vals1 r
 cases rx
 obtain ⟨its,r',pl,hz⟩:=I.list hq
 have hl:=pl.isList
 have hlt:p<s.heap.objs.size:=by obtain ⟨_,e,_⟩:=hl; exact OO e
 refine call_all_walk (Sm hl ?_)
 refine ⟨‹1›,[‹1›,p],[‹1›],its.toArray.size,_,_,fun i=>(bs[i]?).getD true,rfl,Yb (A:=X.A.in1) (I.ok.hd hc) _ p (OS hlt) its.toArray,
  ⟨⟨_,OU _ rfl,rfl,rfl⟩,hl.push _⟩,fun i v s' Q' E' hP hQ=>?_,fun h' tk hk=>?_⟩
 ·obtain ⟨b,e,k⟩:=EE r' hb (i:=i) (u:=v) (by simpa using hP)
  simp only [e,Xy] at hQ
  exact k hQ
 ·have e:((O0 its.toArray.size).all fun i=>(bs[i]?).getD true)=bs.all id:=by
   have:its.length=bs.length:=by
    have:=congrArg XI hb
    rw [Oy,Oy] at this
    rw [← r'.length]; exact this
   rw [OM,this]; exact Ni bs
  rw [e]
  exact ⟨.bl _,H,I.kept (t':=tk) (B9 hk),rfl,q⟩
theorem D5 (hc:X.calm=true) (hK:X.K=K):dG X (.builtin "any") (Mi K fun bs=>bs.any id):=by
 subst hK
 show 5
 obtain ⟨p,vs,bs,rfl,hq,hb,q⟩:=h
 obtain ⟨u,rfl,rx⟩:=vals1 r
 cases rx
 obtain ⟨its,r',pl,hz⟩:=I.list hq
 have hl:=pl.isList
 have hlt:p<s.heap.objs.size:=by obtain ⟨_,e,_⟩:=hl; exact OO e
 refine call_any_walk (Sm hl ?_)
 refine ⟨‹1›,[‹1›,p],[‹1›],its.toArray.size,_,_,fun i=>(bs[i]?).getD false,rfl,Yb (A:=X.A.in1) (I.ok.hd hc) _ p (OS hlt) its.toArray,
  ⟨⟨_,OU _ rfl,rfl,rfl⟩,hl.push _⟩,fun i v s' Q' E' hP hQ=>?_,fun h' tk hk=>?_⟩
 ·obtain ⟨b,e,k⟩:=EE r' hb (i:=i) (u:=v) (by simpa using hP)
  simp only [e,Xy] at hQ
  exact k hQ
 ·have e:((O0 its.toArray.size).any fun i=>(bs[i]?).getD false)=bs.any id:=by
   have:its.length=bs.length:=by
    have:=congrArg XI hb
    rw [Oy,Oy] at this
    rw [← r'.length]; exact this
   rw [OM,this]; exact Nh bs
  rw [e]
  exact ⟨.bl _,H,I.kept (t':=tk) (B9 hk),rfl,q⟩
theorem A3 (hc:X.calm=true) (hK:X.K=K):dG X (.builtin "min") (fun xs H Q=>∃ (p:OF) (ns:List Int),xs=[.ref p]∧dw K H p ‹49›∧ns≠[]∧∀ M,M∈ns→(∀ a,a∈ns→M≤a)→Q (.int M) H):=by
 subst hK
 show 5
 obtain ⟨p,ns,rfl,hq,hne,q⟩:=h
 obtain ⟨u,rfl,rx⟩:=vals1 r
 cases rx
 obtain ⟨its,r',pl,hz⟩:=I.list hq
 have hi:=intsAre_of r'
 obtain ⟨ys,e⟩:=hi.allInts.items
 have hns:ns=ys.toList.map (·.1):=by
  rw [← hi.numsOf,← WI,← e]
 have hsz:0<ys.size:=by
  have h3:=Wu.mpr hne
  rw [hns,Oy,Pr] at h3
  exact h3
 have hl:=pl.isList
 rw [e] at hl
 refine min_intList (I.ok.hd hc) hl hsz fun v h' tk hv hk=>?_
 obtain ⟨t,rfl⟩:=intItems_at hv
 obtain ⟨h1,h2⟩:=argBest_lt (numAt ys) (ys.size-1)
 refine ⟨.int _,H,I.kept hk,⟨t,rfl⟩,q _ ?_ fun a ha=>?_⟩
 ·rw [hns,X9]; exact Ya (by rw [Oy,Pr]; omega)
 ·rw [hns] at ha
  obtain ⟨j,hj,rfl⟩:=mem_getD ha
  rw [Oy,Pr] at hj
  rw [← X9]; exact h2 j ‹5›
end
end L2
namespace VL
variable {x:Bool} {it:aK→Option (List D)} {F:List D→Option D} {neg:Bool} {n:Nat} {ms:List Bool} {P:D→Prop} {α:Type} {ρ:aK} {k:Nat} {cs:List Nat} {el:DE}
open PySem L2
section
open Classical
noncomputable section
section
variable [bE] {K:OA} {ta tb tc:TE} {a b c:DE}
def pH:List D→Option (List Bool)
 | []=>some []
 | .bl b::r=>(pH r).map (b::·)
 | .int i::r=>(pH r).map ((i != 0)::·)
 | _=>none
theorem vT {H:Hp} {Z:OF→Prop}:∀ {vs:List V} {ds:List D} {bs:List Bool},IsL K H Z vs ds→pH ds=some bs→vs.map EF=bs.map some
 | _,[],_,.nil,e=>by cases e; rfl
 | _,d::r,bs,.cons h t,e=>by
  unfold pH at e
  split at e
  ·rename_i q; cases q
  ·rename_i b r' q
   cases q
   cases q:pH r with
   | none=>rw [q] at e; cases e
   | some cs=>rw [q] at e; cases e; rw [O9,O9,vT t q,h.vR]; rfl
  ·rename_i b r' q
   cases q
   cases q:pH r with
   | none=>rw [q] at e; cases e
   | some cs=>rw [q] at e; cases e; rw [O9,O9,vT t q,h.n9]; rfl
  ·cases e
theorem vU:∀ (bs:List Bool),pH (bs.map D.bl)=some bs
 | []=>rfl
 | b::r=>by show (pH (r.map D.bl)).map (b::·)=_; rw [vU r]; rfl
def NC (g:List Bool→Bool):D→Option D
 | .lst ds=>(pH ds).map fun bs=>.bl (g bs)
 | _=>none
theorem Js {g:List Bool→Bool} (ha:bp K ta a):af K (xX (Mi K g) (cz ta fN)) (gI (NC g) a):=by
 refine x8 (fun {H v d e Q} h q=>?_) ha
 cases h with
 | lst hz h hl r =>
  rename_i p vs ds
  have q:(pH ds).map (fun bs=>D.bl (g bs))=some e:=q
  cases q1:pH ds with
  | none=>rw [q1] at q; cases q
  | some bs =>
   rw [q1] at q
   cases q
   exact ⟨rfl,fun k=>⟨p,vs,bs,rfl,.inl h,vT r q1,k⟩⟩
 | _=>cases q
def Ha:D→Option D:=NC fun bs=>bs.all id
def IU:D→Option D:=NC fun bs=>bs.any id
theorem Fl (ha:bp K ta a):af K (xX (Mi K fun bs=>bs.all id) (cz ta fN)) (gI Ha a):=Js ha
theorem Kd (ha:bp K ta a):af K (xX (Mi K fun bs=>bs.any id) (cz ta fN)) (gI IU a):=Js ha
def minD:D→Option D:=ofInts fun ns=>match ns with
 | []=>none
 | x::r=>some (.int (Dh x r))
theorem Ka (ha:bp K ta a):af K (xX (fun xs H Q=>∃ (p:OF) (ns:List Int),xs=[.ref p]∧dw K H p ‹49›∧ns≠[]∧∀ M,M∈ns→(∀ a,a∈ns→M≤a)→Q (.int M) H) (cz ta fN)) (gI minD a):=by
 refine x8 (fun h q=>?_) ha
 obtain ⟨ns,rfl,e⟩:=lg q
 obtain ⟨p,rfl,r⟩:=h.ints
 cases ns with
 | nil=>cases e
 | cons x t =>
  cases e
  refine ⟨rfl,fun k=>⟨p,x::t,rfl,.inl r,by simp,fun M h1 h2=>?_⟩⟩
  rw [FQ h1 h2 (ml t x).1 (ml t x).2]
  exact k
end
end
end
section
open Classical
noncomputable section
instance (priority:=low) noTabs:bE:=⟨[]⟩
structure Wk where
 nx:aK→Prop
 rt:D→Prop
 bk:aK→Prop:=fun _=>False
 ct:aK→Prop:=fun _=>False
@[irreducible] def Wp (s:DS) (ρ:aK) (W:Wk):Prop:=match s ρ with
 | .nx ρ'=>W.nx ρ'
 | .rt d=>W.rt d
 | .bk ρ'=>W.bk ρ'
 | .ct ρ'=>W.ct ρ'
 | .no=>False
section
variable {s u b:DS} {ρ:aK} {W:Wk} {i:Nat} {a e k:DE} {d:D} {c:aK→Option Bool} {es:aK→Option (List D)} {ds:List D} {g:DG}
theorem wp_seq (h:Wp s ρ { W with nx:=fun ρ'=>Wp u ρ' W }):Wp (aL s u) ρ W:=by
 unfold Wp aL at *
 cases e:s ρ <;> rw [e] at h <;> exact h
theorem bY (h:W.nx ρ):Wp df ρ W:=by unfold Wp df; exact h
theorem bM (h:a ρ=some d) (k:W.rt d):Wp (cP a) ρ W:=by unfold Wp cP; rw [h]; exact k
theorem nX (h:c ρ=some x) (ht:x=true→Wp s ρ W) (hf:x=false→Wp u ρ W):Wp (mJ c s u) ρ W:=by
 unfold Wp mJ at *
 rw [h]
 cases x
 ·exact hf rfl
 ·exact ht rfl
theorem Es {p:Prop} {_:Decidable p} (h:c ρ=some (decide p)) (ht:p→Wp s ρ W) (hf:¬ p→Wp u ρ W):Wp (mJ c s u) ρ W:=by
 refine nX h (fun q=>ht (of_decide_eq_true q)) fun q=>hf (of_decide_eq_false q)
theorem mZ (h:c ρ=some true) (ht:Wp s ρ W):Wp (mJ c s u) ρ W:=nX h (fun _=>ht) fun q=>by cases q
theorem dH (h:c ρ=some false) (ht:Wp u ρ W):Wp (mJ c s u) ρ W:=nX h (fun q=>by cases q) fun _=>ht
theorem aI (h:a ρ=some d) (k:W.nx (ρ.set i (.pu d))):Wp (bN i a) ρ W:=by unfold Wp bN; rw [h]; exact k
theorem fV (h:es ρ=some ds) (hi:i < ρ.length) (k:W.nx (ρ.set i (.ol ds))):Wp (iR i es) ρ W:=by unfold Wp iR; rw [h]; simp only [if_pos hi]; exact k
theorem LP {ρ':aK} (h:a ρ=some d) (hg:g d ρ=some ρ') (k:W.nx ρ'):Wp (L8 a g) ρ W:=by unfold Wp L8; rw [h]; simp only [hg]; exact k
theorem Et (h:Wp s (jS i ρ) W):Wp (Ad i s) ρ W:=by unfold Wp Ad at *; exact h
theorem zG (h0:ρ.getD i .un=.ol ds) (h:a ρ=some d) (hl:ds.length<OE) (k:W.nx (ρ.set i (.ol (ds++[d])))):Wp (Af i a) ρ W:=by unfold Wp Af; rw [h0]; simp only [h,if_pos hl]; exact k
theorem zF {es:List D} (h0:ρ.getD i .un=.ol ds) (h:a ρ=some (.lst es)) (hl:ds.length+es.length≤OE) (k:W.nx (ρ.set i (.ol (ds++es)))):Wp (Ae i a) ρ W:=by unfold Wp Ae; rw [h0]; simp only [h,if_pos hl]; exact k
theorem vP {n:Int} {j:Nat} (h0:ρ.getD i .un=.ol ds) (h1:a ρ=some d) (h:e ρ=some (.int n)) (hj:ixN ds.length n=some j) (k:W.nx (ρ.set i (.ol (ds.set j d)))):Wp (yc i e a) ρ W:=by
 unfold Wp yc; rw [h0]; simp only [h,h1,hj]; exact k
theorem pE {f:Int→Int→Int} {x y:Int} (h0:aj i ρ=some (.int x)) (h:a ρ=some (.int y)) (k:W.nx (ρ.set i (.pu (.int (f x y))))):Wp (yf f i a) ρ W:=by
 unfold Wp yf; rw [h0]; simp only [h]; exact k
theorem fk (h:it ρ=some ds) (I:Nat→aK→Prop) (h0:I 0 ρ)
 (hs:∀ (j:Nat) (d:D) (ρ:aK),ds[j]?=some d→I j ρ→∃ ρ1,g d ρ=some ρ1∧Wp b ρ1 { W with nx:=I (j+1),ct:=I (j+1),bk:=W.nx })
 (he:∀ ρ,I ds.length ρ→W.nx ρ):Wp (kI it g b) ρ W:=by
 have key:∀ (n j:Nat) (ρ:aK),n=ds.length-j→j≤ds.length→I j ρ→Wp (fun ρ=>lA g b (ds.drop j) ρ) ρ W:=by
  intro n
  induction n with
  | zero =>
   intro j ρ hn hj hI
   have e:j=ds.length:=by omega
   subst e
   unfold Wp
   simp only [RU,lA]
   exact he ρ hI
  | succ n ih =>
   intro j ρ hn hj hI
   have hlt:j<ds.length:=by omega
   obtain ⟨ρ1,e1,w1⟩:=hs j ds[j] ρ (Ow hlt) hI
   unfold Wp
   show 20
   rw [Pg hlt]
   unfold lA
   rw [e1]
   unfold Wp at w1
   show 20
   cases e2:b ρ1 with
   | nx ρ2=>rw [e2] at w1; have q:=ih (j+1) ρ2 ‹5› hlt w1; unfold Wp at q; exact q
   | ct ρ2=>rw [e2] at w1; have q:=ih (j+1) ρ2 ‹5› hlt w1; unfold Wp at q; exact q
   | bk ρ2=>rw [e2] at w1; exact w1
   | rt d=>rw [e2] at w1; exact w1
   | no=>rw [e2] at w1; exact w1
 have:=key _ 0 ρ rfl (PV _) h0
 unfold Wp at this
 unfold Wp kI
 rw [h]
 exact this
theorem kM (I:Nat→aK→Prop) (n:Nat) (h0:I n ρ) (hs:∀ n ρ,I n ρ→∃ x,c ρ=some x∧(x=true→Wp b ρ { W with nx:=fun ρ'=>∃ m,m<n∧I m ρ',ct:=fun ρ'=>∃ m,m<n∧I m ρ',bk:=W.nx })∧(x=false→W.nx ρ)):Wp (jM c b) ρ W:=by
 have key:∀ n ρ,I n ρ→∃ r,m8 c b (n+1) ρ=r∧r≠.no∧(match r with | .nx ρ'=>W.nx ρ' | .rt d=>W.rt d | .bk ρ'=>W.bk ρ' | .ct ρ'=>W.ct ρ' | .no=>False):=by
  intro n
  induction n using T9 with
  | _ n ih =>
   intro ρ hI
   obtain ⟨x,ec,ht,hf⟩:=hs n ρ hI
   have un:m8 c b (n+1) ρ=(match c ρ with | some false=>Res.nx ρ | some true=>(match b ρ with | .nx ρ'=>m8 c b n ρ' | .ct ρ'=>m8 c b n ρ' | .bk ρ'=>.nx ρ' | .rt d=>.rt d | .no=>.no) | none=>.no):=rfl
   rw [un,ec]
   cases x with
   | false=>exact ⟨.nx ρ,rfl,(fun z=>by cases z),hf rfl⟩
   | true =>
    have w:=ht rfl
    unfold Wp at w
    have step:∀ ρ',(∃ m,m<n∧I m ρ')→∃ r,m8 c b n ρ'=r∧r≠.no∧(match r with | .nx ρ'=>W.nx ρ' | .rt d=>W.rt d | .bk ρ'=>W.bk ρ' | .ct ρ'=>W.ct ρ' | .no=>False):=by
     rintro ρ' ⟨m,hm,hI'⟩
     obtain ⟨r,e,hr,q⟩:=ih m hm ρ' hI'
     refine ⟨r,?_,hr,q⟩
     obtain ⟨k,rfl⟩:∃ k,n=m+1+k:=⟨n-m-1,by omega⟩
     rw [zH (by rw [e]; exact hr),e]
    cases eb:b ρ with
    | nx ρ'=>rw [eb] at w; exact step ρ' w
    | ct ρ'=>rw [eb] at w; exact step ρ' w
    | bk ρ'=>rw [eb] at w; exact ⟨.nx ρ',rfl,(fun z=>by cases z),w⟩
    | rt d=>rw [eb] at w; exact ⟨.rt d,rfl,(fun z=>by cases z),w⟩
    | no=>rw [eb] at w; exact w.elim
 obtain ⟨r,e,hr,q⟩:=key n ρ h0
 unfold Wp
 rw [C3 e hr]
 exact q
end
section
variable {ρ:aK} {a b c:DE} {i j k:Int} {d e:D} {es:aK→Option (List D)} {ds:List D}
theorem fE (ha:a ρ=some (.int i)) (hb:b ρ=some (.int j)):j9 a b ρ=some (.int (i+j)):=by unfold j9 pC; rw [ha,hb]
theorem dR (ha:a ρ=some (.int i)) (hb:b ρ=some (.int j)):jl a b ρ=some (.int (i-j)):=by unfold jl pC; rw [ha,hb]
theorem tH (ha:a ρ=some (.int i)) (hb:b ρ=some (.int j)) (h:VW i j):rn a b ρ=some (.int (i*j)):=by unfold rn pC; rw [ha,hb]; exact xk h
theorem rN (ha:a ρ=some (.int i)) (hb:b ρ=some (.int j)) (h:0<j∧j.natAbs.log2<9000):mS a b ρ=some (.int (i / j)):=by unfold mS pC; rw [ha,hb]; exact xk (C:=fun _ j=>0<j∧j.natAbs.log2<9000) h
theorem jZ (ha:a ρ=some (.int i)) (hb:b ρ=some (.int j)) (h:0<j):lQ a b ρ=some (.int (i % j)):=by unfold lQ pC; rw [ha,hb]; exact xk (C:=fun _ j=>0<j) h
theorem GC (ha:a ρ=some (.int i)) (hb:b ρ=some (.int j)) (h:Eb i j):AX a b ρ=some (.int (i ^ j.toNat)):=by unfold AX pC; rw [ha,hb]; exact xk h
theorem tI (ha:a ρ=some (.int i)) (hb:b ρ=some (.int j)):zy a b ρ=some (.bl (decide (i<j))):=by unfold zy pC; rw [ha,hb]
theorem vy (ha:a ρ=some (.int i)) (hb:b ρ=some (.int j)):Hr a b ρ=some (.bl (decide (i≤j))):=by unfold Hr pC; rw [ha,hb]
theorem iZ (ha:a ρ=some (.int i)) (hb:b ρ=some (.int j)):AZ a b ρ=some (.bl (decide (j<i))):=by unfold AZ pC; rw [ha,hb]
theorem qQ (ha:a ρ=some (.int i)) (hb:b ρ=some (.int j)):DZ a b ρ=some (.bl (decide (j≤i))):=by unfold DZ pC; rw [ha,hb]
theorem jY (ha:a ρ=some (.int i)):jm a ρ=some (.int (-i)):=by unfold jm; rw [ha]
theorem rM (ha:a ρ=some (.int i)) (hb:b ρ=some (.int j)):vC a b ρ=some (.int (max i j)):=by
 have e:(if j > i then j else i)=max i j:=by split <;> omega
 unfold vC pC; rw [ha,hb,← e]
theorem rK (ha:a ρ=some (.int i)) (hb:b ρ=some (.int j)):y7 a b ρ=some (.int (min i j)):=by
 have e:(if j<i then j else i)=min i j:=by split <;> omega
 unfold y7 pC; rw [ha,hb,← e]
theorem dM (ha:a ρ=some (.bl x)):dT a ρ=some x:=by unfold dT; rw [ha]
theorem du (ha:a ρ=some d) (h:EG d=some x):iK a ρ=some x:=by unfold iK; rw [ha]; exact h
theorem qh {p:aK→Option Bool} (ha:p ρ=some x):lP p ρ=some (!x):=by unfold lP; rw [ha]
theorem nE {p q:aK→Option Bool} {y:Bool} (ha:p ρ=some x) (hb:x=true→q ρ=some y):za p q ρ=some (x&&y):=by
 unfold za; rw [ha]; cases x
 ·rfl
 ·rw [hb rfl]; rfl
theorem GD {p q:aK→Option Bool} {y:Bool} (ha:p ρ=some x) (hb:x=false→q ρ=some y):tT p q ρ=some (x || y):=by
 unfold tT; rw [ha]; cases x
 ·rw [hb rfl]; rfl
 ·rfl
theorem mx {y:Bool} (ha:a ρ=some (.bl x)) (hb:x=true→b ρ=some (.bl y)):oW a b ρ=some (.bl (x&&y)):=by
 unfold oW; rw [ha]; cases x
 ·rfl
 ·rw [hb rfl]; rfl
theorem mw (ha:a ρ=some d) (h:d.mI=true):iX a ρ=some d:=by unfold iX; rw [ha]; exact if_pos h
theorem aY (h:es ρ=some ds):bD es ρ=some (.lst ds):=by unfold bD; rw [h]; rfl
theorem AN (h:es ρ=some ds):yZ es ρ=some (.tup ds):=by unfold yZ; rw [h]; rfl
theorem ae (h:a ρ=some d) (h2:es ρ=some ds):ao a es ρ=some (d::ds):=by unfold ao; rw [h,h2]
theorem aM (ha:a ρ=some d) (hb:b ρ=some (.int i)) (h:AD d i=some e):cC a b ρ=some e:=by unfold cC; rw [ha,hb]; exact h
theorem dg {g:D→Option D} (ha:a ρ=some d) (h:g d=some e):gI g a ρ=some e:=by unfold gI; rw [ha]; exact h
theorem aP (h:es ρ=some ds) (h2:F ds=some d):bw F es ρ=some d:=by unfold bw; rw [h]; exact h2
theorem Cp (ha:a ρ=some d) (hb:b ρ=some e) (h:gv 20 d e=true):rp neg a b ρ=some (.bl (if neg=true then !decide (d=e) else decide (d=e))):=by unfold rp; rw [ha,hb]; exact if_pos h
theorem GF (ha:a ρ=some (.int i)) (hb:b ρ=some (.int j)):rp neg a b ρ=some (.bl (if neg=true then !decide (i=j) else decide (i=j))):=by
 rw [Cp ha hb rfl]
 have e:decide (D.int i=D.int j)=decide (i=j):=by rw [oT]; rw [P6]; simp
 rw [e]
theorem lH (ha:a ρ=some (.int i)) (hb:b ρ=some (.int j)):rp false a b ρ=some (.bl (decide (i=j))):=GF (neg:=false) ha hb
theorem AR (ha:a ρ=some (.int i)) (hb:b ρ=some (.int j)):rp true a b ρ=some (.bl (decide (i≠j))):=by
 rw [GF (neg:=true) ha hb,if_pos rfl]
 congr 2
 rw [P6]
 simp
theorem DR {d:D} (ha:a ρ=some d) (hb:b ρ=some d) (h:gv 20 d d=true):rp false a b ρ=some (.bl true):=by
 rw [Cp ha hb h,if_neg O2,decide_eq_true rfl]
theorem bF (ha:a ρ=some d) (h:KN d=some ds):d7 a ρ=some ds:=by unfold d7; rw [ha]; exact h
theorem AO (ha:a ρ=some (.int i)) (h:-(2 ^ 62)≤i∧i.toNat≤OE):nM a ρ=some (Ed 0 i.toNat):=by unfold nM; rw [ha]; exact if_pos h
theorem GB (ha:a ρ=some (.int i)) (hb:b ρ=some (.int j)) (h:-(2 ^ 62)≤i∧i<2 ^ 62∧-(2 ^ 62)≤j∧j<2 ^ 62∧(j-i).toNat≤OE):GN a b ρ=some (Ed i (j-i).toNat):=by unfold GN; rw [ha,hb]; exact if_pos h
theorem AQ (h:es ρ=some ds) (hb:b ρ=some (.int i)) (hc:-(2 ^ 63)≤i∧i<2 ^ 63∧ds.length*i.toNat≤OE):xv es b ρ=some (OY i.toNat ds).flatten:=by unfold xv; rw [h,hb]; exact if_pos hc
theorem JK {lo hi:aK→Option (Option Int)} {l u:Option Int} (h:d7 a ρ=some ds) (h1:lo ρ=some l) (h2:hi ρ=some u):LL a lo hi ρ=some (A0 ds l u):=by unfold LL; rw [h,h1,h2]
theorem Co (h:es ρ=some ds) (hf:kA ds=true):vx es ρ=some ds:=by unfold vx; rw [h]; exact if_pos hf
theorem tJ (h:a ρ=some d) (hl:KN d=some ds):tU a ρ=some ds:=by
 unfold tU; rw [h]
 cases d with
 | lst xs=>exact hl
 | scr ns=>exact hl
 | _=>cases hl
theorem xn {xs ys:List D} (ha:a ρ=some (.lst xs)) (hb:b ρ=some (.lst ys)) (h:xs.length+ys.length≤OE):uP a b ρ=some (xs++ys):=by unfold uP; rw [ha,hb]; exact if_pos h
theorem Fs {b:DS} {ds:List D} (h:Wp b (gJ n ms ds) { nx:=fun _=>P .non,rt:=P }):∃ d,cB n ms b ds=some d∧P d:=by
 unfold Wp at h
 unfold cB
 cases e:b (gJ n ms ds) with
 | nx ρ=>rw [e] at h; exact ⟨_,rfl,h⟩
 | rt d=>rw [e] at h; exact ⟨_,rfl,h⟩
 | bk ρ=>rw [e] at h; exact h.elim
 | ct ρ=>rw [e] at h; exact h.elim
 | no=>rw [e] at h; exact h.elim
theorem run_eq {b:DS} {ds:List D} {d:D} (h:Wp b (gJ n ms ds) { nx:=fun _=>D.non=d,rt:=fun x=>x=d }):cB n ms b ds=some d:=by
 obtain ⟨x,e,rfl⟩:=Fs (P:=fun x=>x=d) h
 exact e
theorem rC {b:DS} (hF:F=cB n ms b) {ds:List D} (h:Wp b (gJ n ms ds) { nx:=fun _=>P .non,rt:=P }):∃ d,F ds=some d∧P d:=by rw [hF]; exact Fs h
theorem cG {b:DS} (hF:F=cB n ms b) {ds:List D} {d:D} (h:Wp b (gJ n ms ds) { nx:=fun _=>D.non=d,rt:=fun x=>x=d }):F ds=some d:=by rw [hF]; exact run_eq h
theorem Gq {i j:Int} (h:(-(2 ^ 64)<i∧i<2 ^ 64)∨(-(2 ^ 64)<j∧j<2 ^ 64)):VW i j:=LI.ok h
theorem NV {ns:List Int} {i:Int} (h0:0≤i) (h1:i<ns.length):AD (.scr ns) i=some (.int (ns.getD i.toNat 0)):=by
 show (kL ns i).map D.int=_
 unfold kL ixN
 rw [if_pos h0,if_pos h1]
 have hi:i.toNat<ns.length:=by omega
 show (ns[i.toNat]?).map D.int=_
 rw [Ow hi,Ox,Ow hi]
 rfl
def LJ (i x y z:Int):Int:=if i=0 then x else if i=1 then y else z
def MV (i x y z u:Int):Int:=if i=0 then x else if i=1 then y else if i=2 then z else u
theorem Mw (c x y z:Int):AD (.lst [.int x,.int y,.int z]) (c % 3)=some (.int (LJ (c % 3) x y z)):=by
 have h:c % 3=0∨c % 3=1∨c % 3=2:=by omega
 rcases h with h | h | h <;> rw [h] <;> rfl
theorem Mv (c x y z u:Int):AD (.lst [.int x,.int y,.int z,.int u]) (c % 4)=some (.int (MV (c % 4) x y z u)):=by
 have h:c % 4=0∨c % 4=1∨c % 4=2∨c % 4=3:=by omega
 rcases h with h | h | h | h <;> rw [h] <;> rfl
theorem Gh {i:Int} (h0:0≤i) (h1:i<n):ixN n i=some i.toNat:=by unfold ixN; rw [if_pos h0,if_pos h1]
end
end
end
section
open Classical
noncomputable section
section
variable [bE] {K:OA} {ta tb tc:TE} {a b c:DE}
theorem IC {j:Int} (h0:0<j) (h1:j<2 ^ 64):0<j∧j.natAbs.log2<9000:=by
 refine ⟨h0,(Nat.log2_lt ‹5›).mpr (OZ (m:=2 ^ 64) ‹5› (Nat.pow_le_pow_right ‹11› ‹11›))⟩
theorem gu {g:DG} {t:aK→Option Bool} (emb:α→D) {xs:List α} (h:it ρ=some (xs.map emb)) (p:α→Bool) (f:α→D)
 (hs:∀ x∈xs,∃ ρ1,g (emb x) (r0 k cs ρ)=some ρ1∧t ρ1=some (p x)∧(p x=true→el ρ1=some (f x))):bX k cs it g t el ρ=some ((xs.filter p).map f):=by
 unfold bX
 rw [h]
 show 20
 clear h
 induction xs with
 | nil=>rfl
 | cons x r ih =>
  obtain ⟨ρ1,e1,e2,e3⟩:=hs x ON
  have ih:=ih fun d hd=>hs d (OI _ hd)
  rw [O9]
  unfold qr
  rw [e1]
  show 20
  rw [e2]
  cases hp:p x with
  | false =>
   show 20
   rw [ih,Rk (by simp [hp])]
  | true =>
   show 20
   rw [e3 hp,ih,QS hp]
   rfl
theorem bS {g:DG} (emb:α→D) {xs:List α} (h:it ρ=some (xs.map emb)) (f:α→D)
 (hs:∀ x∈xs,∃ ρ1,g (emb x) (r0 k cs ρ)=some ρ1∧el ρ1=some (f x)):bX k cs it g cD el ρ=some (xs.map f):=by
 have:=gu (ρ:=ρ) (k:=k) (cs:=cs) (it:=it) (g:=g) (t:=cD) (el:=el) emb h (fun _=>true) f fun d hd=>let ⟨ρ1,e1,e2⟩:=hs d hd; ⟨ρ1,e1,rfl,fun _=>e2⟩
 rw [this,RP.mpr fun _ _=>rfl]
theorem IK {xs ys:List D} (h:∀ x∈xs,∀ y∈ys,gv n x y=true):gv (n+1) (.lst xs) (.lst ys)=true:=by
 show (decide _ || (Sd xs ys).all fun p=>gv n p.1 p.2)=true
 rw [XS]
 refine .inr (Qu.mpr fun q hq=>?_)
 obtain ⟨a,b⟩:=q
 obtain ⟨h1,h2⟩:=Q4 hq
 exact h a h1 b h2
theorem CO (ns:List Int):um (.lst (ns.map D.int))=some (.int ns.sum):=ig _ ns
theorem mq (x:Int) (r:List Int):maxD (.lst ((x::r).map D.int))=some (.int (yA x r)):=ig _ (x::r)
end
end
end
end VL
namespace L2
variable {scope:Sb} {cl:List (P2×OF)} {pos:UM} {pins:List (OF×Q5)} {it:OF} {fp:List OF} {tn:Nat→Qb→Prop} {J:It} {x:P2}
open PySem PySem.Spec PyProof.Rows
section
open VL (s0)
theorem uH {M:Model} {A:P8} {E:OD→OG→Prop} {s:OG} {globals:OF} {qual:P2} {outer:XQ} {Q:XQ→OG→Prop}
 (hQ:Q { scope,locals:=‹1›,globals,cells:=Qo (‹1›+1) scope.names cl,qual,func:=none,code:=outer.code,frame:=outer.frame,builtins:=outer.builtins } { s with heap:=Vb (s.heap.push { cls:=.type "dict", data:=.dict #[] }) scope.names }) :
 OX M A (V4 scope globals cl [] qual none .none (some outer)) Q E s:=by
 simp only [V4,WR,if_true]
 refine Oz (wpAny_alloc ?_)
 refine Oz (wpAny_layCells _ (fun name kind cells=>by cases hkc:kind==WK <;> simp [hkc]) _ _ _ _ ?_)
 rw [show ({ s with heap:=s.heap.push { cls:=.type "dict", data:=.dict #[] } }:OG).heap.objs.size=‹1›+1 from RC ..]
 rw [V5]
 exact Oz (OL (OL hQ))
theorem lR:∀ (names:List (P2×U8)) (h:Qb) (acc:List (P2×OF)) (x:P2) (c:OF),(Qo h.objs.size names acc).lookup x=some c→((Vb h names).IsCell c none∧h.objs.size≤c)∨acc.lookup x=some c
 | [],_,_,_,_,e=>.inr e
 | (name,kind)::r,h,acc,x,c,e=>by
  unfold Qo at e
  unfold Vb
  split at e
  ·rename_i hk
   rw [if_pos hk]
   rcases lR r (h.push { cls:=.type "cell", data:=.cell none }) ((name,h.objs.size)::acc) x c (by rw [RC]; exact e) with ⟨q1,q2⟩ | q
   ·rw [RC] at q2
    exact .inl ⟨q1,by omega⟩
   ·rw [RV] at q
    cases hb:x==name with
    | true =>
     rw [hb] at q
     cases q
     exact .inl ⟨⟨_,VF _ _ _ _ (OU _ rfl),rfl⟩,OT _⟩
    | false=>rw [hb] at q; exact .inr q
  ·rename_i hk
   rw [if_neg hk]
   exact lR r h acc x c e
theorem qu:∀ (names:List (P2×U8)) (n:Nat) (acc:List (P2×OF)),(∀ x y c,acc.lookup x=some c→acc.lookup y=some c→x=y)→(∀ x c,acc.lookup x=some c→c<n)→∀ x y c,(Qo n names acc).lookup x=some c→(Qo n names acc).lookup y=some c→x=y
 | [],_,_,hi,_=>hi
 | (name,kind)::r,n,acc,hi,hb=>by
  unfold Qo
  split
  ·refine qu r (n+1) ((name,n)::acc) (fun x y c h1 h2=>?_) fun x c h=>?_
   ·rw [RV] at h1 h2
    cases e1:x==name with
    | true =>
     cases e2:y==name with
     | true=>rw [eq_of_beq e1,eq_of_beq e2]
     | false =>
      rw [e1] at h1; rw [e2] at h2
      cases h1
      exact absurd (hb _ _ h2) (PB _)
    | false =>
     cases e2:y==name with
     | true =>
      rw [e1] at h1; rw [e2] at h2
      cases h2
      exact absurd (hb _ _ h1) (PB _)
     | false=>rw [e1] at h1; rw [e2] at h2; exact hi x y c h1 h2
   ·rw [RV] at h
    cases e1:x==name with
    | true=>rw [e1] at h; cases h; exact Qc _
    | false=>rw [e1] at h; exact Ph (hb _ _ h)
  ·exact qu r n acc hi hb
theorem qt:∀ (names:List (P2×U8)) (n:Nat) (acc:List (P2×OF)) (x:P2),(names.all fun y=>!(y.2==.cell) || !(y.1==x))=true→(Qo n names acc).lookup x=acc.lookup x
 | [],_,_,_,_=>rfl
 | (name,kind)::r,n,acc,x,h=>by
  have h:((!(kind==.cell) || !(name==x))&&r.all fun y=>!(y.2==.cell) || !(y.1==x))=true:=h
  obtain ⟨h1,h2⟩:=(RA _ _).mp h
  unfold Qo
  split
  ·rename_i hk
   rw [qt r _ _ x h2,RV]
   have:(x==name)=false:=by
    rw [hk] at h1
    have h1:(name==x)=false:=by simpa using h1
    rw [beq_eq_false_iff_ne] at h1 ⊢
    exact fun z=>h1 z.symm
   rw [this]
  ·exact qt r _ _ x h2
def ba (X:Cx) (N':List P2) (scope:Sb) (cl:List (P2×OF)) (C:OF) (s3:OG) (H3:Hp) (fp:List OF) (pins:List (OF×Q5)):Cx :=
 { X with N:=N',s₀:=s3,H₀:=H3,env:=Sx scope (Qo (C+1) scope.names cl) C X.env,outer:=X.stack,stack:=X.stack,ex:=fp,fn:=fun x=>scope.names.lookup x==some .cell,pn:=X.pn++pins,xe:=fun _ _=>False }
structure ki (X:Cx) (N':List P2) (scope:Sb) (cl:List (P2×OF)) (σ σ0:St):Prop where
 sub:∀ x c,cl.lookup x=some c→X.env.cells.lookup x=some c
 vals:∀ (j:Nat) (x:P2) (v:V),N'[j]?=some x→σ0[j]?=some (some v)→∃ (i:Nat) (c:OF),X.N[i]?=some x∧σ[i]?=some (some v)∧Lw X.env.scope x∧X.env.kindOf x≠some .local∧cl.lookup x=some c ∧
  ‹15›
 Nf:∀ (j:Nat) (x:P2) (v:V),N'[j]?=some x→σ0[j]?=some (some v)→(scope.names.all fun y=>!(y.2==.cell) || !(y.1==x))=true
 has:∀ x,‹15›→scope.names.lookup x=some .cell∨(cl.lookup x).isSome=true
 out:∀ x c,(scope.names.lookup x==some .cell)=true→¬ cl.lookup x=some c
 len:σ0.length=N'.length
section
variable {X:Cx} {tg elt iter:Qg} {ifs:List Qg} {scope:Sb} {cl:List (P2×OF)} {N':List P2} {σ0:St→St} {g:TG} {tt:TT} {te:TE}
theorem qU {σ:St} {H1:Hp} {s2:OG} {Q:VK} {RR:OD→OF→VY→OG→Prop}
 (hc:X.calm=true) (hkind:scope.kind=.function)
 (I:Inv X pins σ H1 s2) (T:Turn X.prog X.w X.K tg J fp it tn) (st:tn 0 s2.heap) (hfp:∀ b∈fp,zw X pins H1 b) (fr:ki X N' scope cl σ (σ0 σ)) (hk:CC g (σ0 σ))
 (hg:∀ C s3 H3 fp pins,PG ‹12› tg g)
 (ht:∀ C s3 H3 fp pins (pl:List (OF×Q5)) (s:OG) (σ:St) (H:Hp) (Q:Bool→Hp→Prop),Inv ‹12› pl σ H s→tt σ H Q →
  OX ‹7› X.A (forIn ifs true fun c r=>if r=true then do let ok ← isTrue c ‹17› (eval c ‹17›); pure (Qt ok) else pure (Qt r)) (TP ‹12› pl σ Q) (fun _ _=>False) s)
 (he:∀ C s3 H3 fp pins,PE ‹12› elt te) (hw:JO J g tt te (σ0 σ) H1 Q)
 (hRR:∀ D C s' H' m,Inv X pins σ H' s'→s'.heap.Ns C m→H' C=none→C≠‹27›→‹24›≤C→(∀ x c,X.env.cells.lookup x=some c→c≠C)→(∀ p∈X.pn++pins,p.1≠C)→Q (.ref D) H'→RR (.ref D) C (.ok .next) s') :
 OX ‹7› X.A (newList []) (fun acc s₃=>OX ‹7› X.A (V4 scope X.env.globals cl [] X.env.qual none .none (some X.env)) (fun cenv s₄ =>
  Ti ‹7› X.A (.compStart ‹37› 0 (.ref it) acc { cenv with scope:=relabel scope X.env }) (RR acc cenv.locals) s₄) X.xe s₃) X.xe s2:=by
 refine Qy (hd:=by size_fits) (uH ?_)
 show 20
 have I3:Inv X pins σ (upd H1 s2.heap.objs.size (.lst [])) { s2 with heap:=s2.heap.push { cls:=.type "list", dict:=none,data:=.seq ([]:List OD).toArray } }:=I.KO (t':=s2.toks) (its:=[]) (ys:=[]) .nil (PV _)
 obtain ⟨W,⟨m0,w0⟩,turn⟩:=hw s2.heap.objs.size I.fresh
 have hfpo:=T.obj 0 _ st
 have fpl:∀ b∈fp,b<s2.heap.objs.size:=fun b hb=>by
  obtain ⟨o,e,_⟩:=hfpo b hb
  exact OO e
 have fD:∀ b∈fp,upd H1 s2.heap.objs.size (.lst []) b=none:=fun b hb=>by
  rw [upd_ne (OS (fpl b hb))]
  exact (hfp b hb).1
 generalize hs3:({ s2 with heap:=s2.heap.push { cls:=.type "list", dict:=none,data:=.seq ([]:List OD).toArray } }:OG)=s3 at I3
 have es3:s3.heap=s2.heap.push { cls:=.type "list", dict:=none,data:=.seq ([]:List OD).toArray }:=by rw [← hs3]
 have st3:tn 0 s3.heap:=T.keep _ _ _ st fun b hb o e=>by rw [es3]; exact OC _ e
 rw [← es3]
 have sz3:s2.heap.objs.size<s3.heap.objs.size:=by rw [es3,RC]; exact Qc _
 generalize upd H1 s2.heap.objs.size (.lst [])=H3 at I3 fD w0
 have hns₁:(Vb (s3.heap.push { cls:=.type "dict", data:=.dict #[] }) scope.names).Ns s3.heap.objs.size (fun _=>none):=(Heap.Ns.new s3.heap (.type "dict")).keeps (VF _ _)
 have old:∀ b o,s3.heap.get? b=some o→(Vb (s3.heap.push { cls:=.type "dict", data:=.dict #[] }) scope.names).get? b=some o:=fun b o e=>VF _ _ b o (OC _ e)
 have cnew:=fun x c (e:(Qo (s3.heap.objs.size+1) scope.names cl).lookup x=some c)=>lR scope.names (s3.heap.push { cls:=.type "dict", data:=.dict #[] }) cl x c (by rw [RC]; exact e)
 rw [RC] at cnew
 have below:∀ x c,cl.lookup x=some c→c<s3.heap.objs.size:=fun x c e=>by
  obtain ⟨v,o,ho,_⟩:=I3.cell x c (fr.sub x c e)
  exact OO ho
 generalize Vb (s3.heap.push { cls:=.type "dict", data:=.dict #[] }) scope.names=h₁ at hns₁ old cnew
 have fpl3:∀ b∈fp,b<s3.heap.objs.size:=fun b hb=>Vo (fpl b hb) sz3
 have Jq:∀ b∈fp,b∉Ef X.stack:=fun b hb z=>by
  rcases OP.mp (I3.sh b z) with e | e
  ·exact (hfp b hb).2.1 e
  ·exact (hfp b hb).2.2.1 e
 have ok:‹20›.Ok:=by
  refine ⟨I3.ok.mod,hkind,I3.ok.glob,I3.ok.blt,OT _,qu scope.names _ cl (fun x y c h1 h2=>I3.ok.inj x y c (fr.sub x c h1) (fr.sub y c h2)) (fun x c e=>Ph (below x c e)),fun x h=>?has,fun x c h e=>?cab,I3.ok.hd,I3.ok.frames,.inl rfl,
   fun b hb=>⟨OS (fpl3 b hb),fun x c e=>?exf⟩,I3.bs,Pq I3.ok.Cw I3.sz,fun b o e hb=>?noex,fun b hb=>Jq b hb,I3.stack,I3.wa⟩
  case has=>exact UZ.mp (Tj scope.names _ cl (fr.has x h))
  case cab =>
   rcases cnew x c e with ⟨_,q⟩ | q
   ·exact Pq (R1 _) q
   ·exact absurd q (fr.out x c h)
  case exf =>
   rcases cnew x c e with ⟨_,q⟩ | q
   ·intro z
    have l1:=fpl3 b hb
    rw [← z] at l1
    exact absurd (OZ l1 (Pq (R1 _) q)) (PB _)
   ·exact (hfp b hb).2.2.2.2.1 x c (fr.sub x c q)
  case noex =>
   rcases (hfp b hb).2.2.2.1 with z | z
   ·exact I3.ok.noex b o e z
   ·have l1:b<X.base.objs.size:=OO e
    have l2:X.base.objs.size≤X.s₀.heap.objs.size:=I3.ok.Cw
    have l3:‹24›≤b:=z
    exact absurd (OZ l1 (Pq l2 l3)) (PB _)
 have lt3:‹27›<s3.heap.objs.size:=I3.lt
 have start:Inv ‹20› [] (σ0 σ) H3 { s3 with heap:=h₁ }:=by
  refine ⟨ok,rfl,I3.bare,Un.kept old,⟨_,hns₁,fun j x v e1 e2 _=>?_⟩,fun x c e=>?_,I3.ck.fresh (OT _),fun x c e=>?fc,fun p hp=>?_,I3.ck.kept old,fr.len⟩
  case fc =>
   rcases cnew x c e with ⟨_,q⟩ | q
   ·exact I3.ck.fresh ‹5›
   ·exact I3.iY x c (fr.sub x c q)
  ·obtain ⟨i,c,q1,q2,q3,q4,q5,q6⟩:=fr.vals j x v e1 e2
   obtain ⟨m,hn,hl⟩:=I3.loc
   obtain ⟨u,r,l⟩:=hl i x v q1 q2 q3
   refine ⟨u,r,.inr ⟨q6,c,(qt scope.names _ cl x (fr.Nf j x v e1 e2)).trans q5,?_⟩⟩
   rcases l with ⟨k,_⟩ | ⟨_,c',e',z⟩
   ·exact absurd k q4
   ·rw [fr.sub x c q5] at e'
    cases e'
    obtain ⟨o,ho,hd⟩:=z
    exact ⟨o,old _ _ ho,hd⟩
  ·rcases cnew x c e with ⟨q,_⟩ | q
   ·exact ⟨_,q⟩
   ·obtain ⟨v,o,ho,hd⟩:=I3.cell x c (fr.sub x c q)
    exact ⟨v,o,old _ _ ho,hd⟩
  ·have hp':p∈X.pn++pins:=by simpa [ba] using hp
   obtain ⟨e,n,ne,nf,d⟩:=I3.pin p hp'
   refine ⟨old _ _ e,n,OS (OO e),fun z=>?_,d⟩
   rcases OP.mp (I3.sh p.1 z) with q | q
   ·exact ne q
   ·exact nf q
 have hst₁:tn 0 h₁:=T.keep _ _ _ st3 fun b _ o e=>old b o e
 have fpok:∀ {H':Hp},(∀ b∈fp,H' b=none)→∀ b∈fp,zw ‹20› [] H' b:=fun {H'} hn b hb =>
  ⟨hn b hb,OS (fpl3 b hb),Jq b hb,.inl hb,fun x c e=>by
   rcases cnew x c e with ⟨_,q⟩ | q
   ·intro z
    have l1:=fpl3 b hb
    rw [← z] at l1
    exact absurd (OZ l1 (Pq (R1 _) q)) (PB _)
   ·exact (hfp b hb).2.2.2.2.1 x c (fr.sub x c q),fun p hp=>(hfp b hb).2.2.2.2.2 p (by simpa [ba] using hp)⟩
 have loop:Ti ‹7› X.A (.compLoop ‹37› 0 (.ref it) (.ref s2.heap.objs.size) (Sx scope (Qo (s3.heap.objs.size+1) scope.names cl) s3.heap.objs.size X.env)) (RR (.ref s2.heap.objs.size) s3.heap.objs.size) { s3 with heap:=h₁ }:=by
  refine xw (fun n s'=>∃ i ys H',Inv ‹20› [] (σ0 σ) H' s'∧tn i s'.heap∧(∀ b∈fp,H' b=none)∧W i n ys H') ?_ m0 ⟨0,[],H3,start,hst₁,fD,w0⟩
  rintro n s4 ⟨i,ys,H4,I4,st4,fr4,w4⟩
  rcases turn i n ys H4 w4 with ⟨stop,eD,q⟩ | ⟨go,step⟩
  ·refine cZ (T.done ‹20› rfl rfl rfl hc i [] s4 _ H4 _ I4 (fpok fr4) st4 stop) fun r s5 ⟨hr,I5⟩=>?_
   subst hr
   obtain ⟨m5,n5,_⟩:=I5.loc
   have J5:Inv X pins σ H4 s5:=I3.JP I5.os I5.base I5.ck I5.bare fun b hb=>⟨(hfp b hb).2.2.2.1,(hfp b hb).2.1,(hfp b hb).2.2.2.2.1,(hfp b hb).2.2.2.2.2⟩
   exact hRR _ _ s5 H4 m5 J5 n5 I5.free (QW lt3) I3.sz (fun x c e z=>by
    obtain ⟨v,o,ho,_⟩:=I3.cell x c e
    exact absurd (OO ho) (by rw [z]; exact PB _)) (fun p hp z=>by
    have e:=(I3.pin p hp).1
    exact absurd (OO e) (by rw [z]; exact PB _)) q
  ·refine cZ (T.item ‹20› rfl rfl rfl hc i [] s4 _ H4 _ I4 (fpok fr4) st4 go) fun r s5 ⟨u,hr,h5⟩=>?_
   subst hr
   refine cZ h5 fun _ s6 ⟨x,H6,I6,r6,y6,st6,fr6⟩=>?_
   have I6':=I6.pinned (fpok fr6) (T.obj _ _ st6)
   refine cZ (hg _ _ _ _ _ _ s6 _ H6 x u _ I6' r6 (hk _ _ _ (step x H6 y6))) fun _ s7 ⟨σ7,H7,I7,q7,l7,k7⟩=>?_
   have again:∀ {s8:OG} {H8:Hp} {m:Nat} {zs:List V},Inv ‹20› ([]++sM fp s6.heap) σ7 H8 s8→m<n→W (i+1) m zs H8 →
    ∃ m,m<n∧∃ i ys H',Inv ‹20› [] (σ0 σ) H' s8∧tn i s8.heap∧(∀ b∈fp,H' b=none)∧W i m ys H':=fun {s8 H8 m zs} I8 hm w8=>by
    refine ⟨m,hm,i+1,zs,H8,(Inv.fm I8).weak l7.symm k7,T.keep _ _ _ st6 fun b hb o e=>(I8.pin (b,o) (OJ _ (OJ _ (jQ hb e)))).1,fun b hb=>?_,w8⟩
    obtain ⟨o,e,d⟩:=T.obj _ _ st6 b hb
    exact (I8.pin (b,o) (OJ _ (OJ _ (jQ hb e)))).2.1
   refine cZ (ht _ _ _ _ _ _ s7 σ7 H7 _ I7 q7) fun c s8 ⟨H8,I8,q8⟩=>?_
   cases c with
   | false =>
    rw [if_neg O2] at q8 ⊢
    obtain ⟨m',hm,w8⟩:=q8
    exact again I8 hm w8
   | true =>
    rw [if_pos rfl] at q8 ⊢
    refine cZ (he _ _ _ _ _ _ s8 σ7 H8 _ I8 q8) fun v s9 ⟨y,H9,I9,r9,e9,z9,m',hm,w9⟩=>?_
    exact cZ (h9 _ s9 σ7 H9 (.ref s2.heap.objs.size) [y] (.ref s2.heap.objs.size) [v] (fun _ H'=>H'=upd H9 s2.heap.objs.size (.lst (ys++[y]))) I9 rfl (.cons r9 .nil) ⟨_,ys,y,rfl,rfl,e9,z9,rfl⟩)
     fun _ s10 ⟨_,H10,I10,_,e10⟩=>by subst e10; exact again I10 hm w9
 subst hs3
 exact codeAny_compStart_list loop (T.self _ 0 _ _ _ hst₁ loop)
variable {pos:UM} {wi:TI}
theorem vi (hc:X.calm=true) (hi:PI X tg iter wi) (fr:∀ σ:St,σ.length=X.N.length→ki X N' scope cl σ (σ0 σ)) (hk:∀ σ,CC g (σ0 σ))
 (hg:∀ C s3 H3 fp pins,PG ‹12› tg g)
 (ht:∀ C s3 H3 fp pins (pl:List (OF×Q5)) (s:OG) (σ:St) (H:Hp) (Q:Bool→Hp→Prop),Inv ‹12› pl σ H s→tt σ H Q →
  OX ‹7› X.A (forIn ifs true fun c r=>if r=true then do let ok ← isTrue c ‹17› (eval c ‹17›); pure (Qt ok) else pure (Qt r)) (TP ‹12› pl σ Q) (fun _ _=>False) s)
 (he:∀ C s3 H3 fp pins,PE ‹12› elt te)
 (hclos:S9 scope X.env=pure cl) (hkind:scope.kind=.function) (hnames:∀ y∈scope.names,y.2=.local→scope.names.lookup y.1=some .local)
 (hs:∀ x,Ri iter X.env x=pure x):PE X ‹37› (qG wi g tt te σ0):=by
 show 2
 rw [eval_ListComp]
 refine U2 (use:=none) rfl hs hclos hkind hnames (cZ (hi pins s σ H _ I h) fun v s1 h1=>cZ h1 fun itv s2 h2=>?_)
 obtain ⟨it,fp,tn,J,H2,e,I2,T,st2,f2,q⟩:=h2
 subst e
 refine qU (RR:=fun acc C=>compPost ‹7› X.A X.xe none (EP X pins σ Q) acc C) hc hkind I2 T st2 f2 (fr σ I.len) (hk σ) hg ht he q ?_
 intro D C s' H' m I' hn hC h1 h2 h3 h4 q'
 refine ⟨m,hn,fun h'' hs''=>⟨.ref D,H',?_,rfl,q'⟩⟩
 exact I'.turned (t':=s'.toks) (fun b o hb e=>hs''.extBut b o hb e) hC h1 (.inr h2) h3 h4
theorem vg {i:Nat} {pos' spos:UM} (hN:X.N.Nodup) (hi':X.N[i]?=some x) (hx:Loc X.env.scope x) (hf:X.fn x=true∨X.env.scope.names.lookup x=some .local)
 (hc:X.calm=true) (hi:PI X tg iter wi) (fr:∀ σ:St,σ.length=X.N.length→ki X N' scope cl σ (σ0 σ)) (hk:∀ σ,CC g (σ0 σ))
 (hg:∀ C s3 H3 fp pins,PG ‹12› tg g)
 (ht:∀ C s3 H3 fp pins (pl:List (OF×Q5)) (s:OG) (σ:St) (H:Hp) (Q:Bool→Hp→Prop),Inv ‹12› pl σ H s→tt σ H Q →
  OX ‹7› X.A (forIn ifs true fun c r=>if r=true then do let ok ← isTrue c ‹17› (eval c ‹17›); pure (Qt ok) else pure (Qt r)) (TP ‹12› pl σ Q) (fun _ _=>False) s)
 (he:∀ C s3 H3 fp pins,PE ‹12› elt te)
 (hclos:S9 scope X.env=pure cl) (hkind:scope.kind=.function) (hnames:∀ y∈scope.names,y.2=.local→scope.names.lookup y.1=some .local)
 (hs:∀ x,Ri iter X.env x=pure x) (hsw:U7 ‹37› (some (.Name x pos')) spos.line X.env=pure true) :
 PS X (.Assign [.Name x pos'] ‹37› spos) (uZ (qG wi g tt te σ0) i):=by
 show 21
 rw [exec_Assign_Name_used _ _ _ _ hsw]
 refine Oz (TN (Oz ?_))
 show OX _ X.A (do let _ ← comprehension ‹37› scope X.env _ (newList []) false (eval iter X.env) (some (assign (.Name x pos') X.env))) _ _ s
 refine Oz (Qw (U2 (Q:=fun _ s'=>SP X pins D .next s') (use:=some (assign (.Name x pos') X.env)) rfl hs hclos hkind hnames (cZ (hi pins s σ H _ I h) fun v s1 h1=>cZ h1 fun itv s2 h2=>?_))
  (fun _ s' hq=>OL (OL hq)) fun _ _ e=>e)
 obtain ⟨it,fp,tn,J,H2,e,I2,T,st2,f2,q⟩:=h2
 subst e
 refine qU (RR:=fun acc C=>compPost ‹7› X.A X.xe (some (assign (.Name x pos') X.env)) (fun _ s'=>SP X pins D .next s') acc C) hc hkind I2 T st2 f2 (fr σ I.len) (hk σ) hg ht he q ?_
 intro Dl C s' H' m I' hn hC h1 h2 h3 h4 q'
 show OX _ _ (assign (.Name x pos') X.env (.ref Dl)) _ _ s'
 refine wpAny_assign_Name (u1 (v:=.ref Dl) I' hN hi' hx rfl (fun s'' I'' ⟨a,hsb,ha⟩=>?_) hf)
 have hne:C≠a:=by
  rcases ha with rfl | ha
  ·exact h1
  ·exact P9 (h3 x a ha)
 refine ⟨m,hn.sameBut hsb hne,fun h'' hs''=>⟨_,H',?_,q'⟩⟩
 exact I''.turned (t':=s''.toks) (fun b o hb e=>hs''.extBut b o hb e) hC h1 (.inr h2) h3 h4
theorem ki.many {is:List Nat} {ts zs:List P2} {k:Nat} {σ:St} (hk:ts.length=k) (hs:SubL X cl) (hc:rq X scope cl is zs)
 (ha:(‹25›.names.all fun y=>!(y.2==.cell || y.2==.free) || zs.contains y.1 || (scope.names.lookup y.1==some .cell))=true)
 (ho:(zs.all fun z=>scope.names.all fun y=>!(y.2==.cell) || !(y.1==z))=true) (hcl:(scope.names.all fun y=>!(y.2==.cell) || (cl.lookup y.1).isNone)=true):ki X (ts++zs) scope cl σ (s0 k is σ):=by
 have vals:∀ (j:Nat) (x:P2) (v:V),(ts++zs)[j]?=some x→(s0 k is σ)[j]?=some (some v)→x∈zs∧∃ (i:Nat) (c:OF),X.N[i]?=some x∧σ[i]?=some (some v)∧Lw X.env.scope x∧X.env.kindOf x≠some .local∧cl.lookup x=some c ∧
  ‹15›:=fun j x v e1 e2=>by
  unfold s0 at e2
  by_cases hj:j<k
  ·rw [Pe ‹44›,PY,if_pos hj] at e2; cases e2
  ·rw [Py ‹44›,Pu,OH] at e2
   rw [Py ‹5›,hk] at e1
   obtain ⟨i,c,f1,f2,f3,f4,f5⟩:=hc.get _ _ e1
   rw [f1] at e2
   have e3:(σ[i]?).join=some v:=Pm e2
   refine ⟨PD e1,i,c,f2,VL.join_some e3,?_,?_,f4,f5⟩
   ·rcases f3 with q | q
    ·exact .inr (.inl q)
    ·exact .inr (.inr q)
   ·intro w
    have w:X.env.scope.names.lookup x=some .local:=w
    rcases f3 with q | q <;> rw [q] at w <;> cases w
 refine ⟨hs.sub,fun j x v e1 e2=>(vals j x v e1 e2).2,fun j x v e1 e2=>Qu.mp ho x (vals j x v e1 e2).1,fun x h=>?_,fun x c h e=>?_,by unfold s0; rw [O1,O1,Pu,Oy,hk,hc.len]⟩
 ·have key:∀ kd,‹25›.names.lookup x=some kd→(kd==WK || kd==Yj)=true→x∈zs∨scope.names.lookup x=some .cell:=fun kd e q=>by
   have m:=Qu.mp ha _ (QG e)
   rw [q] at m
   have m':zs.contains x=true∨(scope.names.lookup x==some .cell)=true:=by simpa using m
   rcases m' with m' | m'
   ·exact .inl (VN.mp m')
   ·exact .inr (eq_of_beq m')
  have mem:x∈zs∨scope.names.lookup x=some .cell:=by
   rcases h with h | h
   ·exact key _ h rfl
   ·exact key _ h rfl
  rcases mem with mem | mem
  ·obtain ⟨j,hj⟩:=Sw mem
   obtain ⟨i,c,_,_,_,f4,_⟩:=hc.get j x hj
   exact .inr (by rw [f4]; rfl)
  ·exact .inl mem
 ·have m:=Qu.mp hcl _ (QG (eq_of_beq h))
  rw [e] at m
  simp at m
variable {c:Qg} {ts zs:List P2} {is:List Nat} {k:Nat}
theorem Bn:∀ C s3 H3 fp pins (pl:List (OF×Q5)) (s:OG) (σ:St) (H:Hp) (Q:Bool→Hp→Prop),Inv ‹12› pl σ H s→Bq σ H Q →
 OX ‹7› X.A (forIn ([]:List Qg) true fun c r=>if r=true then do let ok ← isTrue c ‹17› (eval c ‹17›); pure (Qt ok) else pure (Qt r)) (TP ‹12› pl σ Q) (fun _ _=>False) s :=
 fun _ _ _ _ _ _ _ _ H _ I h=>wpAny_tests_nil ⟨H,I,h⟩
theorem Bm (ht:∀ C s3 H3 fp pins,PT ‹12› c tt):∀ C s3 H3 fp pins (pl:List (OF×Q5)) (s:OG) (σ:St) (H:Hp) (Q:Bool→Hp→Prop),Inv ‹12› pl σ H s→tt σ H Q →
 OX ‹7› X.A (forIn [c] true fun c r=>if r=true then do let ok ← isTrue c ‹17› (eval c ‹17›); pure (Qt ok) else pure (Qt r)) (TP ‹12› pl σ Q) (fun _ _=>False) s :=
 fun C s3 H3 fp pins pl s σ H Q I h=>wpAny_tests_one (ht C s3 H3 fp pins pl s σ H Q I h)
theorem dZ (hc:X.calm=true) (hi:PI X tg iter wi) (hk:ts.length=k) (hs:SubL X cl) (hcp:rq X scope cl is zs) (ha:(‹25›.names.all fun y=>!(y.2==.cell || y.2==.free) || zs.contains y.1 || (scope.names.lookup y.1==some .cell))=true)
 (ho:(zs.all fun z=>scope.names.all fun y=>!(y.2==.cell) || !(y.1==z))=true) (hcl:(scope.names.all fun y=>!(y.2==.cell) || (cl.lookup y.1).isNone)=true) (hl:Ja k g)
 (hg:∀ C s3 H3 fp pins,PG ‹21› tg g) (he:∀ C s3 H3 fp pins,PE ‹21› elt te)
 (hclos:S9 scope X.env=pure cl) (hkind:scope.kind=.function) (hnames:∀ y∈scope.names,y.2=.local→scope.names.lookup y.1=some .local)
 (hf:∀ x,Ri iter X.env x=pure x:=by intro _; rfl):PE X (.ListComp elt [⟨tg,iter,[],0⟩] scope pos) (qG wi g Bq te (s0 k is)) :=
 vi hc hi (fun _ _=>ki.many hk hs hcp ha ho hcl) (fun σ=>hl.keep σ) hg Bn he hclos hkind hnames hf
theorem wU (hc:X.calm=true) (hi:PI X tg iter wi) (hk:ts.length=k) (hs:SubL X cl) (hcp:rq X scope cl is zs) (ha:(‹25›.names.all fun y=>!(y.2==.cell || y.2==.free) || zs.contains y.1 || (scope.names.lookup y.1==some .cell))=true)
 (ho:(zs.all fun z=>scope.names.all fun y=>!(y.2==.cell) || !(y.1==z))=true) (hcl:(scope.names.all fun y=>!(y.2==.cell) || (cl.lookup y.1).isNone)=true) (hl:Ja k g)
 (hg:∀ C s3 H3 fp pins,PG ‹21› tg g) (ht:∀ C s3 H3 fp pins,PT ‹21› c tt) (he:∀ C s3 H3 fp pins,PE ‹21› elt te)
 (hclos:S9 scope X.env=pure cl) (hkind:scope.kind=.function) (hnames:∀ y∈scope.names,y.2=.local→scope.names.lookup y.1=some .local)
 (hf:∀ x,Ri iter X.env x=pure x:=by intro _; rfl):PE X (.ListComp elt [⟨tg,iter,[c],0⟩] scope pos) (qG wi g tt te (s0 k is)) :=
 vi hc hi (fun _ _=>ki.many hk hs hcp ha ho hcl) (fun σ=>hl.keep σ) hg (Bm ht) he hclos hkind hnames hf
theorem wN {i:Nat} {pos' spos:UM} (hN:X.N.Nodup) (hi':X.N[i]?=some x) (hxl:X.env.scope.names.lookup x=some .local) (hc:X.calm=true) (hi:PI X tg iter wi) (hk:ts.length=k) (hs:SubL X cl) (hcp:rq X scope cl is zs) (ha:(‹25›.names.all fun y=>!(y.2==.cell || y.2==.free) || zs.contains y.1 || (scope.names.lookup y.1==some .cell))=true)
 (ho:(zs.all fun z=>scope.names.all fun y=>!(y.2==.cell) || !(y.1==z))=true) (hcl:(scope.names.all fun y=>!(y.2==.cell) || (cl.lookup y.1).isNone)=true) (hl:Ja k g)
 (hg:∀ C s3 H3 fp pins,PG ‹21› tg g) (he:∀ C s3 H3 fp pins,PE ‹21› elt te)
 (hclos:S9 scope X.env=pure cl) (hkind:scope.kind=.function) (hnames:∀ y∈scope.names,y.2=.local→scope.names.lookup y.1=some .local)
 (hf:∀ x,Ri iter X.env x=pure x:=by intro _; rfl) (hsw:U7 (.ListComp elt [⟨tg,iter,[],0⟩] scope pos) (some (.Name x pos')) spos.line X.env=pure true:=by rfl):PS X (.Assign [.Name x pos'] (.ListComp elt [⟨tg,iter,[],0⟩] scope pos) spos) (uZ (qG wi g Bq te (s0 k is)) i) :=
 vg hN hi' (.inl hxl) (.inr hxl) hc hi (fun _ _=>ki.many hk hs hcp ha ho hcl) (fun σ=>hl.keep σ) hg Bn he hclos hkind hnames hf hsw
theorem Aj {i:Nat} {pos' spos:UM} (hN:X.N.Nodup) (hi':X.N[i]?=some x) (hxl:X.env.scope.names.lookup x=some .local) (hc:X.calm=true) (hi:PI X tg iter wi) (hk:ts.length=k) (hs:SubL X cl) (hcp:rq X scope cl is zs) (ha:(‹25›.names.all fun y=>!(y.2==.cell || y.2==.free) || zs.contains y.1 || (scope.names.lookup y.1==some .cell))=true)
 (ho:(zs.all fun z=>scope.names.all fun y=>!(y.2==.cell) || !(y.1==z))=true) (hcl:(scope.names.all fun y=>!(y.2==.cell) || (cl.lookup y.1).isNone)=true) (hl:Ja k g)
 (hg:∀ C s3 H3 fp pins,PG ‹21› tg g) (ht:∀ C s3 H3 fp pins,PT ‹21› c tt) (he:∀ C s3 H3 fp pins,PE ‹21› elt te)
 (hclos:S9 scope X.env=pure cl) (hkind:scope.kind=.function) (hnames:∀ y∈scope.names,y.2=.local→scope.names.lookup y.1=some .local)
 (hf:∀ x,Ri iter X.env x=pure x:=by intro _; rfl) (hsw:U7 (.ListComp elt [⟨tg,iter,[c],0⟩] scope pos) (some (.Name x pos')) spos.line X.env=pure true:=by rfl):PS X (.Assign [.Name x pos'] (.ListComp elt [⟨tg,iter,[c],0⟩] scope pos) spos) (uZ (qG wi g tt te (s0 k is)) i) :=
 vg hN hi' (.inl hxl) (.inr hxl) hc hi (fun _ _=>ki.many hk hs hcp ha ho hcl) (fun σ=>hl.keep σ) hg (Bm ht) he hclos hkind hnames hf hsw
end
end
theorem eB {X:Cx} {N':List P2} {i:Nat} {y:P2} {py:UM} {C:OF} {s3:OG} {H3:Hp} (nd:N'.Nodup) (hi:N'[i]?=some y)
 (hx:Loc ‹25› y) (hf:(scope.names.lookup y==some .cell)=true∨‹25›.names.lookup y=some .local):PG ‹12› (.Name y py) (ky i):=bP nd hi hx hf
variable {P:PL} {K:OA} {elts:List Qg}
theorem zJ {w:PR} {x1} {wr:List OF} (hm:it∈fp) (hwr:∀ b∈wr,b∈fp)
 (ho:∀ i h,tn i h→∀ b∈fp,∃ o,h.get? b=some o∧∀ v,o.data≠.cell v) (hk:∀ i h h',tn i h→(∀ b∈fp,∀ o,h.get? b=some o→h'.get? b=some o)→tn i h')
 (hs:∀ (A:P8) (i:Nat) (s:OG) (Q:OD→OG→Prop) (E:OD→OG→Prop),tn i s.heap→Q (.ref it) s→OX (model P w) A (Xt (.ref it)) Q E s)
 (hi:∀ (X:Cx),X.prog=P→X.w=w→X.K=K→X.calm=true→∀ (i:Nat) (pins:List (OF×Q5)) (s:OG) (σ:St) (H:Hp),Inv X pins σ H s→tn i s.heap→J.go i H →
  ∃ f2 n Pt S M,WalksT P w X.A it f2 wr n Pt S M∧i<n∧S i s.heap∧(∀ h,S (i+1) h→tn (i+1) h)∧∀ vals,Pt i vals→∃ ws,ws.length≤OE∧Vals ws vals.toList∧∀ t,H t=none→J.LO i H (.ref t) (upd H t (.tup ws)))
 (hd:∀ (X:Cx),X.prog=P→X.w=w→X.K=K→X.calm=true→∀ (i:Nat) (pins:List (OF×Q5)) (s:OG) (σ:St) (H:Hp),Inv X pins σ H s→tn i s.heap→J.stop i H→∃ f2 Pt S M,WalksT P w X.A it f2 wr i Pt S M∧S i s.heap) :
 Turn P w K (.Tuple elts x1 pos) J fp it tn where
 mem:=hm
 obj:=ho
 keep:=hk
 item:=by
  show 1
  obtain ⟨f2,n,Pt,S,M,W,hin,hS,hback,hpt⟩:=hi X hP hw hK hc i pins s σ H I st hg
  subst hP hw hK
  refine W.item i s _ _ hin hS fun T vals h1 tk hv hT tup1 mid kk1=>⟨_,rfl,?_⟩
  refine W.go elts x1 pos i T _ _ _ mid fun h2 S2 kk2=>?_
  obtain ⟨ws,hz,rv,yl⟩:=hpt vals hv
  have k2:∀ b o,b∉wr→s.heap.get? b=some o→h2.get? b=some o:=fun b o nb e=>kk2 b o nb (kk1 b o nb e)
  have nwr:∀ b u,H b=some u→b∉wr:=fun b u e z=>by rw [(hf b (hwr b z)).1] at e; cases e
  have nH:H T=none:=I.ck.fresh hT
  obtain ⟨o,eo,oc,nn,od⟩:=tup1
  have tup2:h2.get? T=some o:=kk2 T o (W.apart _ _ _ mid) eo
  have loc:‹27›∉wr:=fun z=>(hf _ (hwr _ z)).2.1 rfl
  have all:∀ b∈wr,(b∈X.ex∨‹24›≤b)∧b≠‹27›∧(∀ x c,X.env.cells.lookup x=some c→c≠b)∧∀ p∈X.pn++pins,p.1≠b:=fun b z=>by
   obtain ⟨_,g1,_,g3,g4,g5⟩:=hf b (hwr b z)
   exact ⟨g3,g1,g4,g5⟩
  have nsk:∀ m,s.heap.Ns ‹27› m→h2.Ns ‹27› m:=fun m q=>by
   obtain ⟨oo,es,ep,q1,r⟩:=q
   exact ⟨oo,es,ep,k2 _ oo loc q1,r⟩
  have ok1:jr X.prog X.w H h2:=fun b u q=>by
   refine (I.ck b u q).nc (fun c v hc' q'=>k2 c v ?_ q') (fun _ q'=>q') fun _ _ q'=>q'
   rcases hc' with z | z
   ·rw [z]; exact nwr b u q
   ·exact nwr c _ z
  have upk:∀ {b:OF} {u:HO},H b=some u→upd H T (.tup ws) b=some u:=fun {b u} q=>by rw [upd_ne (br q nH)]; exact q
  have ok2:jr X.prog X.w (upd H T (.tup ws)) h2:=fun b u q=>by
   by_cases hb:b=T
   ·subst hb
    rw [aF] at q
    cases q
    exact ⟨hz,vals.toList,rv,⟨o,tup2,oc,nn,by rw [od]⟩⟩
   ·rw [upd_ne hb] at q
    exact (ok1 b u q).nc (fun c v _ q'=>q') (fun c q'=>upk q') (fun c xs' q'=>upk q') fun c o u q'=>upk q'
  have I2:Inv X pins σ (upd H T (.tup ws)) { s with heap:=h2,toks:=tk } :=
   I.step (g':=s.gens) (d':=s.drawn) (ch:=wr) all (fun b o _ _ hc' q _=>k2 b o hc' q) (fun b o _ _ hc' q _=>⟨o.slots,k2 b o hc' q⟩) (fun b o _ q n=>by rw [upd_ne (fun z=>PB _ (OZ (OO q) (by rw [z]; exact hT)))]; exact n)
    (fun b o hc' q=>⟨o,k2 b o hc' q⟩) (fun b xs' q=>upk q) (fun b o u' q=>upk q) (fun b ps q=>⟨#[],by rw [upk q]; simp⟩) nsk ok2 I.bare
  refine ⟨.ref T,_,I2,rfl,yl T nH,hback _ S2,fun b hb=>?_⟩
  by_cases e:b=T
  ·exfalso
   subst e
   obtain ⟨o',e',_⟩:=ho i s.heap st b hb
   exact PB _ (OZ (OO e') hT)
  ·rw [upd_ne e]; exact (hf b hb).1
 done:=by
  show 1
  obtain ⟨f2,Pt,S,M,W,hS⟩:=hd X hP hw hK hc i pins s σ H I st hg
  subst hP hw hK
  refine W.done s _ _ hS fun h' tk kk=>⟨rfl,?_⟩
  refine I.step (g':=s.gens) (d':=s.drawn) (t':=tk) (ch:=wr) (fun b z=>?_) (fun b o _ _ hc' q _=>kk b o hc' q) (fun b o _ _ hc' q _=>⟨o.slots,kk b o hc' q⟩) (fun _ _ _ _ n=>n) (fun b o hc' q=>⟨o,kk b o hc' q⟩) (fun _ _ q=>q) (fun _ _ _ q=>q) (fun b ps q=>⟨#[],by rw [q]; simp⟩) (fun m q=>?_) (fun b u q=>?_) I.bare
  ·obtain ⟨_,g1,_,g3,g4,g5⟩:=hf b (hwr b z)
   exact ⟨g3,g1,g4,g5⟩
  ·obtain ⟨oo,es,ep,q1,r⟩:=q
   exact ⟨oo,es,ep,kk _ oo (fun z=>(hf _ (hwr _ z)).2.1 rfl) q1,r⟩
  ·refine (I.ck b u q).nc (fun c v hc' q'=>kk c v ?_ q') (fun _ q'=>q') fun _ _ q'=>q'
   rcases hc' with z | z
   ·rw [z]; exact fun w=>by rw [(hf b (hwr b w)).1] at q; cases q
   ·exact fun w=>by rw [(hf c (hwr c w)).1] at z; cases z
 self:=hs
def NI (K:OA) (a b:OF):It :=
 ⟨fun i H=>∃ xs ys x y,dw K H a xs∧dw K H b ys∧xs[i]?=some x∧ys[i]?=some y,fun i H x H'=>∃ (t:OF) (v u:V),x=.ref t∧H t=none∧(∀ xs,dw K H a xs→xs[i]?=some v)∧(∀ ys,dw K H b ys→ys[i]?=some u)∧H'=upd H t (.tup [v,u]),
  fun i H=>∃ xs ys,dw K H a xs∧dw K H b ys∧i=min xs.length ys.length⟩
theorem EB {w:PR} {x1} (a b z TI TO i1 i2:OF) (D:TU z TI TO i1 i2 a b) :
 Turn P w K (.Tuple elts x1 pos) (NI K a b) [z,TI,TO,i1,i2] z (fun i h=>IsZip h z TI TO .none∧U3 h TI (.ref i1) (.ref i2)∧(∃ u v,U3 h TO u v)∧h.IsListIter i1 a i∧h.IsListIter i2 b i):=by
 refine zJ (wr:=[z,TO,i1,i2]) (fp:=[z,TI,TO,i1,i2]) (by simp) (fun c hc=>by simp only [OP,Qj,or_false] at hc ⊢; rcases hc with h | h | h | h <;> simp [h]) (fun i h st c hc=>?_) (fun i h h' st k=>?_) (fun A i s Q E st q=>wpAny_pyIter_zip st.1 q) (fun X hP hw hK hc i pins s σ H I st hg=>?_) (fun X hP hw hK hc i pins s σ H I st hg=>?_)
 ·obtain ⟨hz,hTI,⟨u,v,hTO⟩,h1,h2⟩:=st
  have e1:∃ o:Q5,h.get? z=some o∧∀ v,o.data≠.cell v:=⟨_,hz,fun v q=>by have q':XH _=Wm v:=q; cases q'⟩
  have e2:∃ o:Q5,h.get? TI=some o∧∀ v,o.data≠.cell v:=⟨_,hTI,fun v q=>by have q':Vc _ _=Wm v:=q; cases q'⟩
  have e3:∃ o:Q5,h.get? TO=some o∧∀ v,o.data≠.cell v:=⟨_,hTO,fun v q=>by have q':Vc _ _=Wm v:=q; cases q'⟩
  have e4:∃ o:Q5,h.get? i1=some o∧∀ v,o.data≠.cell v:=let ⟨o,e,_,d⟩:=h1; ⟨o,e,fun v q=>by rw [d] at q; cases q⟩
  have e5:∃ o:Q5,h.get? i2=some o∧∀ v,o.data≠.cell v:=let ⟨o,e,_,d⟩:=h2; ⟨o,e,fun v q=>by rw [d] at q; cases q⟩
  simp only [OP,Qj,or_false] at hc
  rcases hc with rfl | rfl | rfl | rfl | rfl
  ·exact e1
  ·exact e2
  ·exact e3
  ·exact e4
  ·exact e5
 ·obtain ⟨hz,hTI,⟨u,v,hTO⟩,h1,h2⟩:=st
  exact ⟨k z (by simp) _ hz,k TI (by simp) _ hTI,⟨u,v,k TO (by simp) _ hTO⟩,h1.at fun o e=>k i1 (by simp) o e,h2.at fun o e=>k i2 (by simp) o e⟩
 ·subst hP hw hK
  obtain ⟨xs,ys,x,y,qa,qb,ex,ey⟩:=hg
  obtain ⟨us,r1,p1,_⟩:=I.list qa
  obtain ⟨vs,r2,p2,_⟩:=I.list qb
  have lx:=(OR.mp ex).1
  have ly:=(OR.mp ey).1
  have l1:=r1.length
  have l2:=r2.length
  refine ⟨_,_,_,_,_,YC (I.ok.hd hc) z TI TO i1 i2 a b D us.toArray vs.toArray,by simp; omega,⟨st.1,st.2.1,st.2.2.1,st.2.2.2.1,st.2.2.2.2,p1.isList,p2.isList⟩,fun h q=>⟨q.1,q.2.1,q.2.2.1,q.2.2.2.1,q.2.2.2.2.1⟩,?_⟩
  rintro vals ⟨u,v,eu,ev,rfl⟩
  obtain ⟨u',f1,g1⟩:=r1.get ex
  obtain ⟨v',f2,g2⟩:=r2.get ey
  have e1:us[i]?=some u:=by simpa using eu
  have e2:vs[i]?=some v:=by simpa using ev
  rw [e1] at f1; cases f1
  rw [e2] at f2; cases f2
  exact ⟨[x,y],by show 2≤OE; decide,.cons g1 (.cons g2 .nil),fun t nt=>⟨t,x,y,rfl,nt,fun zs hz=>by rw [I.lq hz qa]; exact ex,fun zs hz=>by rw [I.lq hz qb]; exact ey,rfl⟩⟩
 ·subst hP hw hK
  obtain ⟨xs,ys,qa,qb,e⟩:=hg
  obtain ⟨us,r1,p1,_⟩:=I.list qa
  obtain ⟨vs,r2,p2,_⟩:=I.list qb
  have l1:=r1.length
  have l2:=r2.length
  have W:=YC (prog:=X.prog) (w:=X.w) (A:=X.A) (I.ok.hd hc) z TI TO i1 i2 a b D us.toArray vs.toArray
  have en:min us.toArray.size vs.toArray.size=i:=by simp; omega
  rw [en] at W
  exact ⟨_,_,_,_,W,⟨st.1,st.2.1,st.2.2.1,st.2.2.2.1,st.2.2.2.2,p1.isList,p2.isList⟩⟩
theorem Em (n a b:Nat) (ha:a<n) (hb:b<n):TU (n+4) (n+2) (n+3) n (n+1) a b:=by constructor <;> exact fun (e:@Eq Nat _ _)=>by omega
theorem Oc {n c:Nat} (h:c=n+4∨c=n+2∨c=n+3∨c=n∨c=n+1):n≤c:=by omega
section
variable {X:Cx}
def Mx (K:OA) (ta tb:TE):TI:=fun σ H R=>cz ta (cz tb fN) σ H fun vs H1=>∃ a b,vs=[.ref a,.ref b]∧(∃ xs,dw K H1 a xs)∧(∃ ys,dw K H1 b ys)∧R (NI K a b) H1
theorem Ko {l m:Qg} {tl tm:TE} {x1} {tpos p:UM} (hK:X.K=K) (hg:Gl X "zip") (hm:X.mg "zip" = none) (ha:PA X [l,m] (cz tl (cz tm fN))) (hs:P0 [l,m] X.env=(false,eval l X.env)::P0 [m] X.env:=by rfl) (hp:(TC pos (P0 [m] X.env)).any (·.1)=false:=by rfl):PI X (.Tuple elts x1 tpos) (.Call (.Name "zip" p) [l,m] [] pos) (Mx K tl tm):=by
 subst hK
 intro pins s σ H R I h
 refine Call_ (fT I hg hm G3 (P4 (cZ (ha pos pins s σ H _ I h) fun us s1 ⟨vs,H1,I1,r1,q1⟩=>?_) hs hp))
 obtain ⟨a,b,rfl,⟨xs,qa⟩,⟨ys,qb⟩,q⟩:=q1
 cases r1 with
 | cons ra r1 =>
  cases r1 with
  | cons rb r1 =>
   cases r1
   cases ra
   cases rb
   obtain ⟨us,v1,p1,_⟩:=I1.list qa
   obtain ⟨ws,v2,p2,_⟩:=I1.list qb
   have la:a<s1.heap.objs.size:=by obtain ⟨_,e,_⟩:=p1.isList; exact OO e
   have lb:b<s1.heap.objs.size:=by obtain ⟨_,e,_⟩:=p2.isList; exact OO e
   refine call_zip_2 p1.isList p2.isList fun h' hz hTI hTO hi1 hi2 hsz hk=>wpAny_pyIter_zip hz ?_
   have I2:Inv X pins σ H1 { s1 with heap:=h' }:=I1.kept (t':=s1.toks) hk
   refine ⟨_,[‹30›+4,‹30›+2,‹30›+3,‹30›,‹30›+1],_,_,H1,rfl,I2,EB a b _ _ _ _ _ (Em _ _ _ la lb),⟨hz,hTI,⟨_,_,hTO⟩,hi1,hi2⟩,fun c hc=>?_,q⟩
   simp only [OP,Qj,or_false] at hc
   have le:‹30›≤c:=Oc hc
   exact I1.AK le (I1.ck.fresh le)
end
end L2
namespace VL
variable {ρ:aK} {ds:List D} {ta:TE} {a:aK→Option (List (List D))} {Z:OF→Prop} {os:Own} {σ:L2.St} {rows:List (List D)} {ps:List OF} {ds':List D} {vs':List V} {cs:List Nat} {it:aK→Option (List D)} {α:Type} {el:aK→Option (List D)} {F:List D→Option D} {n:Nat} {ms:List Bool}
open PySem L2
section
open Classical
noncomputable section
variable [bE] {K:OA}
def Ec (xs ys:List D):List D:=Rv (fun x y=>.tup [x,y]) xs ys
noncomputable def uN (a b:DE):aK→Option (List D):=fun ρ=>match d7 a ρ with
 | some xs=>(match d7 b ρ with
  | some ys=>some (Ec xs ys)
  | none=>none)
 | none=>none
theorem DX {a b:DE} (h:uN a b ρ=some ds):∃ xs ys,d7 a ρ=some xs∧d7 b ρ=some ys∧ds=Ec xs ys:=by
 unfold uN at h
 split at h
 ·rename_i xs e
  split at h
  ·rename_i ys e2; exact ⟨xs,ys,e,e2,(Pm h).symm⟩
  ·cases h
 ·cases h
theorem Ht (xs ys:List D):(Ec xs ys).length=min xs.length ys.length:=Rr ..
theorem Hu {xs ys:List D} {i:Nat} {d:D} (h:(Ec xs ys)[i]?=some d):∃ x y,xs[i]?=some x∧ys[i]?=some y∧d=.tup [x,y]:=by
 unfold Ec at h
 rw [Tx] at h
 split at h
 ·rename_i x y e1 e2; exact ⟨x,y,e1,e2,(Pm h).symm⟩
 ·cases h
theorem Ex {Bx H1:Hp} {T:OF→Prop} {p q:OF} {vs us:List V} {xs ys:List D} (hl:xs.length≤OE) (h0:∀ H2 T2,Kp T H1 T2 H2→aW Bx H2→dw K H2 p vs∧IsL K H2 T2 vs xs) (h1:∀ H2 T2,Kp T H1 T2 H2→aW Bx H2→dw K H2 q us∧IsL K H2 T2 us ys)
 (hsl:vs.length=xs.length) (hsl2:us.length=ys.length):Walk K true Bx (NI K p q) H1 T (Ec xs ys):=by
 have hlen:=Ht xs ys
 refine ⟨by rw [hlen]; omega,fun i d H2 T2 kp sb hd e=>?_,fun i H2 T2 kp sb hi=>?_⟩
 ·obtain ⟨x,y,ex,ey,rfl⟩:=Hu e
  obtain ⟨s1,r1⟩:=h0 H2 T2 kp sb
  obtain ⟨s2,r2⟩:=h1 H2 T2 kp sb
  obtain ⟨v,e1,i1⟩:=r1.get ex
  obtain ⟨u,e2,i2⟩:=r2.get ey
  refine ⟨⟨vs,us,v,u,s1,s2,e1,e2⟩,fun z H3 hy=>?_⟩
  obtain ⟨t,v',u',ez,nt,hv,hu,e3⟩:=hy
  subst e3 ez
  have q1:=hv vs s1
  have q2:=hu us s2
  rw [e1] at q1; cases q1
  rw [e2] at q2; cases q2
  refine ⟨bL nt,show Is K _ T2 (.ref t) (.tup [x,y]) from .tup (fun z=>?_) aF (by show 2≤OE; decide) ((IsL.cons i1 (.one i2)).same (bL nt))⟩
  obtain ⟨o,qq⟩:=hd t z
  rw [nt] at qq; cases qq
 ·obtain ⟨s1,_⟩:=h0 H2 T2 kp sb
  obtain ⟨s2,_⟩:=h1 H2 T2 kp sb
  exact ⟨vs,us,s1,s2,by rw [← hi,hlen,hsl,hsl2]⟩
theorem J4 {tb:TE} {a b:DE} (ha:af K ta a) (hb:af K tb b):d8 K true (Mx K ta tb) (uN a b):=fun {B Z os ρ σ H R ds} f q k=>by
 obtain ⟨xs,ys,e1,e2,rfl⟩:=DX q
 obtain ⟨d1,e1,l1⟩:=dh e1
 obtain ⟨d2,e2,l2⟩:=dh e2
 show 3
 obtain ⟨p,vs,rfl,hl,hn,hr⟩:=(i1.same s2).seq l1
 obtain ⟨p2,us,rfl,hl2,hn2,hr2⟩:=i2.seq l2
 exact ⟨p,p2,rfl,⟨vs,(hr H2 _ Kp.refl).1⟩,⟨us,(hr2 H2 _ Kp.refl).1⟩,k _ _ (s1.trans s2) (Ex ‹5› (fun H3 T3 kp _=>hr H3 T3 kp) (fun H3 T3 kp _=>hr2 H3 T3 kp) hn hn2)⟩
theorem AM {a b:DE} {xs ys:List D} (ha:d7 a ρ=some xs) (hb:d7 b ρ=some ys):uN a b ρ=some (Ec xs ys):=by unfold uN; rw [ha,hb]
end
end
section
open Classical
noncomputable section
variable [bE] {K:OA} {fr:Fm}
def IW (K:OA) (t:TE) (e:aK→Option (List (List D))):Prop:=∀ {B:Hp} {Z:OF→Prop} {os:Own} {ρ:aK} {σ:L2.St} {H:Hp} {Q:VK} {rows:List (List D)},Fr K B Z os ρ σ H→e ρ=some rows →
 (∀ x ps H',aW H H'→H x=none→(∀ a∈ps,H a=none)→(x::ps).Nodup→H' x=some (.lst ‹55›)→ps.length≤OE→Qv (fun q ds=>∃ vs,H' q=some (.lst vs)∧vs.length≤OE∧IsL K H' (fun a=>(a=x∨a∈ps)∨bR Z os a) vs ds) ps rows→Q (.ref x) H')→t σ H Q
def fQ (rows:List (List D)):D:=.lst (rows.map D.lst)
def Je:D→Option (List D)
 | .lst ds=>some ds
 | _=>none
def vS:List D→Option (List (List D))
 | []=>some []
 | d::r=>match Je d with
  | some x=>(match vS r with
   | some y=>some (x::y)
   | none=>none)
  | none=>none
theorem m9:∀ (rows:List (List D)),vS (rows.map D.lst)=some rows
 | []=>rfl
 | x::r=>by show (match Je (.lst x) with | some x=>(match vS (r.map D.lst) with | some y=>some (x::y) | none=>none) | none=>none)=_; rw [m9 r]; rfl
@[irreducible] noncomputable def sA (i:Nat):DS:=fun ρ=>match ρ.getD i .un with
 | .om rows=>.rt (fQ rows)
 | _=>.no
theorem E2 {i:Nat}:di .m K (EN (iJ i)) (sA i):=fun {B Z os ρ σ H E} f p=>by
 unfold sA at p
 split at p
 ·rename_i rows e
  have s:=f.sl i
  rw [e] at s
  obtain ⟨a,ps,eo,hu,hH,hl,r⟩:=s
  have hn:=f.nd i
  rw [eo] at hn
  have ha:a∈os i:=by rw [eo]; exact ON
  have hp:∀ q∈ps,q∈os i:=fun q hq=>by rw [eo]; exact OI _ hq
  refine ⟨_,join_some hu,p _ _ f.keep ⟨a,ps,rows,rfl,rfl,(f.new i a ha).1,fun q hq=>(f.new i q (hp q hq)).1,hn,hH,hl,Paired.mono r fun q ds _ ⟨vs,h1,h2,h3⟩=>⟨vs,h1,h2,h3.kp (Kp.less fun b z=>?_)⟩⟩⟩
  rcases z with (rfl | z) | z
  ·exact .inr ⟨i,ha⟩
  ·exact .inr ⟨i,hp b z⟩
  ·exact .inl z
 ·show 17
@[irreducible] noncomputable def qI (i:Nat) (a:aK→Option (List (List D))):DS:=fun ρ=>match a ρ with
 | some rows=>if i < ρ.length then .nx (ρ.set i (.om rows)) else .no
 | none=>.no
theorem wq {i:Nat} (h:IW K ta a):di fr K (uk ta (ky i)) (qI i a):=fun {B Z os ρ σ H E} f p=>by
 unfold qI at p
 split at p
 ·rename_i rows e
  by_cases hi:i < ρ.length
  ·rw [if_pos hi] at p
   refine h f e fun x ps H1 s1 hx hps hn hH hl r=>?_
   have st:=f.step (H':=H1) (i:=i) hi (o:=x::ps) (s:=.om rows) (v:=some (.ref x)) (fun a u e _=>s1 _ _ e) (fun a ha=>let ⟨xs,e⟩:=(f.sl i).uM ha; ⟨_,s1 _ _ e⟩) hn (fun a ha=>?_)
    ⟨x,ps,rfl,rfl,hH,hl,Paired.mono r fun q ds _ ⟨vs,h1,h2,h3⟩=>⟨vs,h1,h2,h3.kp (Kp.less fun a z=>?_)⟩⟩
   ·exact p _ _ _ st.1 st.2
   ·rcases OP.mp ha with rfl | ha
    ·exact .inr hx
    ·exact .inr (hps a ha)
   ·rcases z with z | ⟨j,z⟩
    ·exact .inr (.inl z)
    ·show 23
     ·subst hj; rw [bC] at z; exact .inl (OP.mp z)
     ·rw [cy hj] at z; exact .inr (.inr ⟨j,z⟩)
  ·rw [if_neg hi] at p; exact p.elim
 ·show 17
theorem EZ {i:Nat} (h:IW K ta a):di fr K (uZ ta i) (qI i a):=wq (i:=i) h
theorem Paired.setAt {α β:Type} {F G:α→β→Prop} {p:α} {y:β}:∀ {ps:List α} {rows:List β} {r:Nat},Qv F ps rows→ps.Nodup→(∀ q ds,q≠p→F q ds→G q ds)→ps[r]?=some p→G p y→Qv G ps (rows.set r y)
 | _,_,0,.cons h t,hn,hf,e,g=>by
  cases e
  exact .cons g (Paired.mono t fun q ds hq h=>hf q ds (fun z=>(Pc.mp hn).1 (z ▸ hq)) h)
 | _,_,r+1,.cons h t,hn,hf,e,g=>by
  have e':=show _=some p by simpa using e
  exact .cons (hf _ _ (fun z=>(Pc.mp hn).1 (z ▸ PD e')) h) (Paired.setAt t (Pc.mp hn).2 hf e' g)
theorem Paired.DL {α β:Type} {F:α→β→Prop}:∀ {ps:List α} {rows:List β} {r:Nat} {y:β},Qv F ps rows→rows[r]?=some y→∃ p,ps[r]?=some p∧F p y
 | _,_,0,_,.cons h _,e=>by cases e; exact ⟨_,rfl,h⟩
 | _,_,r+1,_,.cons _ t,e=>by
  obtain ⟨p,e1,h⟩:=Paired.DL (r:=r) t ‹56›
  exact ⟨p,by simpa using e1,h⟩
theorem BX {B H:Hp} (f:Fr K B Z os ρ σ H) {i:Nat} (e:ρ.getD i .un=.om rows) :
 ∃ a ps,os i=a::ps∧(σ[i]?).join=some (.ref a)∧H a=some (.lst ‹55›)∧ps.length≤OE∧ps.length=rows.length∧Qv (fun p ds=>∃ vs,H p=some (.lst vs)∧vs.length≤OE∧IsL K H (bR Z os) vs ds) ps rows:=by
 have s:=f.sl i
 rw [e] at s
 obtain ⟨a,ps,h1,h2,h3,h4,h5⟩:=s
 exact ⟨a,ps,h1,h2,h3,h4,QB h5,h5⟩
theorem Fr.JB {B H:Hp} (f:Fr K B Z os ρ σ H) {i r:Nat} {a p:OF} (e:ρ.getD i .un=.om rows) (eo:os i=a::ps) (hu:(σ[i]?).join=some (.ref a)) (hr:ps[r]?=some p) (hl:vs'.length≤OE) (h:IsL K H (bR Z os) vs' ds') :
 Fr K B Z (jh os i (a::ps)) (ρ.set i (.om (rows.set r ds'))) σ (upd H p (.lst vs'))∧Kp (bR Z os) H (bR Z (jh os i (a::ps))) (upd H p (.lst vs')):=by
 have s:=f.sl i
 rw [e] at s
 obtain ⟨b,qs,eo',hu',hH,hlp,i1⟩:=s
 rw [eo] at eo'
 cases eo'
 show 24
 have hn:=f.nd i
 rw [eo] at hn
 have hp:p∈ps:=PD hr
 have hpo:p∈os i:=by rw [eo]; exact OI _ hp
 have hap:a≠p:=fun z=>(Pc.mp hn).1 (z ▸ hp)
 have tt:bR Z (jh os i (a::ps))=bR Z os:=by
  funext c
  apply propext
  constructor
  ·rintro (z | ⟨j,z⟩)
   ·exact .inl z
   ·show 23
    ·subst hj; rw [bC] at z; exact .inr ⟨j,by rw [eo]; exact z⟩
    ·rw [cy hj] at z; exact .inr ⟨j,z⟩
  ·rintro (z | ⟨j,z⟩)
   ·exact .inl z
   ·show 23
    ·subst hj; exact .inr ⟨j,by rw [bC,← eo]; exact z⟩
    ·exact .inr ⟨j,by rw [cy hj]; exact z⟩
 have kp:Kp (bR Z os) H (bR Z os) (upd H p (.lst vs')):=fun b u e z=>⟨by rw [upd_ne (fun w=>z (.inr ⟨i,by rw [w]; exact hpo⟩))]; exact e,z⟩
 have st:=f.step (H':=upd H p (.lst vs')) (i:=i) hi (o:=a::ps) (s:=.om (rows.set r ds')) (v:=some (.ref a)) (fun b u e n=>by rw [upd_ne (fun z=>n (by rw [z]; exact hpo))]; exact e) (fun b hb=>?_) hn (fun b hb=>by rw [← eo] at hb; exact .inl hb)
  ⟨a,ps,rfl,rfl,by rw [upd_ne hap]; exact hH,hlp,?_⟩
 ·rw [eK hu'] at st
  exact st
 ·by_cases hb':b=p
  ·rw [hb']; exact ⟨_,aF⟩
  ·rw [upd_ne hb']; obtain ⟨xs,e⟩:=(f.sl i).uM hb; exact ⟨_,e⟩
 ·rw [tt]
  exact Paired.setAt i1 (Pc.mp hn).2 (fun q ds hq ⟨vs,h1,h2,h3⟩=>⟨vs,by rw [upd_ne hq]; exact h1,h2,h3.kp kp⟩) hr ⟨vs',aF,hl,h.kp kp⟩
theorem Fr.Np {B H:Hp} (f:Fr K B Z os ρ σ H) {i r:Nat} {a p:OF} (e:ρ.getD i .un=.om rows) (eo:os i=a::ps) (hu:(σ[i]?).join=some (.ref a)) (hr:ps[r]?=some p) (hl:vs'.length≤OE) (h:IsL K H (bR Z os) vs' ds') :
 ∃ os',Fr K B Z os' (ρ.set i (.om (rows.set r ds'))) σ (upd H p (.lst vs'))∧Kp (bR Z os) H (bR Z os') (upd H p (.lst vs')):=⟨_,f.JB e eo hu hr hl h⟩
theorem Fu {B H:Hp} (f:Fr K B Z os ρ σ H) {i:Nat} {n:Int} {r:Nat} (e:ρ.getD i .un=.om rows) (hn:ixN rows.length n=some r) (hd:rows[r]?=some ds) :
 ∃ a ps p vs,os i=a::ps∧(σ[i]?).join=some (.ref a)∧H a=some (.lst ‹55›)∧kL ‹55› n=some (V.ref p)∧ps[r]?=some p∧H p=some (.lst vs)∧vs.length≤OE∧IsL K H (bR Z os) vs ds:=by
 obtain ⟨a,ps,h1,h2,h3,h4,h5,h6⟩:=BX f e
 obtain ⟨p,e1,vs,g1,g2,g3⟩:=Paired.DL h6 hd
 refine ⟨a,ps,p,vs,h1,h2,h3,?_,e1,g1,g2,g3⟩
 unfold kL
 rw [Oy,h5,hn]
 show ‹55›[r]?=_
 rw [OH,e1]
 rfl
@[irreducible] noncomputable def yb (i:Nat) (b c a:DE):DS:=fun ρ=>match ρ.getD i .un with
  | .om rows=>(match a ρ with
    | some d=>(match b ρ with
      | some (.int n)=>(match ixN rows.length n with
        | some r=>(match rows[r]? with
          | some ds=>(match c ρ with
            | some (.int m)=>(match ixN ds.length m with
              | some j=>.nx (ρ.set i (.om (rows.set r (ds.set j d))))
              | none=>.no)
            | _=>.no)
          | none=>.no)
        | none=>.no)
      | _=>.no)
    | none=>.no)
  | _=>.no
theorem HM {i:Nat} {tb tc:TE} {a b c:DE} (ha:af K ta a) (hb:bp K tb b) (hc:bp K tc c):di fr K (uk ta (K9 (qF (Jx K) (iJ i) tb) tc BK)) (yb i b c a):=fun {B Z os ρ σ H E} f p=>by
 unfold yb at p
 split at p
 ·rename_i rows e
  split at p
  ·rename_i d e1
   split at p
   ·rename_i n e2
    split at p
    ·rename_i r e3
     split at p
     ·rename_i ds e4
      split at p
      ·rename_i m e5
       split at p
       ·rename_i j e6
        obtain ⟨x,ps,q,vs,eo,hu,hH,hat,hr,hq,hl,il⟩:=Fu f e e3 e4
        refine ha f e1 fun v H1 s1 i1=>⟨_,join_some hu,hb (f.grow s1) e2 fun w H2 s2 i2=>?_⟩
        have s12:=s1.trans s2
        refine .inl ⟨x,ps.map V.ref,n,.ref q,rfl,i2.isInt,dw.of (s12 _ _ hH),hat,hc (f.grow s12) e5 fun u H3 s3 i3=>?_⟩
        have s13:=s12.trans s3
        have f3:=f.grow s13
        obtain ⟨os',f',k⟩:=f3.Np (vs':=vs.set j v) (ds':=ds.set j d) e eo hu hr (by rw [PH]; exact hl) ((il.same s13).set ((i1.same s2).same s3) j)
        exact ⟨q,vs,m,j,rfl,i3.isInt,s13 _ _ hq,by rw [il.length]; exact e6,p os' _ _ f' ((Kp.same s13).trans k)⟩
       ·show 17
      ·show 17
     ·show 17
    ·show 17
   ·show 17
  ·show 17
 ·show 17
end
end
section
open Classical
noncomputable section
variable [bE] {K:OA} {fr:Fm}
theorem zg {B H1 H:Hp} {W:OF→Prop} (f:Fr K B Z os ρ σ H1) (s:aW H1 H) (hw:∀ a,W a→∃ o,H a=some o) (hk:Kp (bR Z os) H1 W H) (k:Nat) (cs:List Nat) :
    Fr K H1 W (fun _=>[]) (r0 k cs ρ) (s0 k cs σ) H where
  keep:=s
  El:=hw
  tab:=f.oa
  len:=by unfold r0 s0; simp
  nd:=fun _=>Qe
  dj:=fun _ _ _ h=>by cases h
  new:=fun _ _ h=>by cases h
  sl:=fun j=>by
    have kp:Kp (bR Z os) H1 (bR W fun _=>[]) H:=fun a u e z=>⟨(hk a u e z).1,fun q=>q.elim (hk a u e z).2 fun ⟨_,q⟩=>by cases q⟩
    unfold r0 s0
    rw [Ox]
    by_cases hj:j<k
    · rw [Pe ‹44›,Pe ‹44›,PY,if_pos hj]
      exact rfl
    · rw [Py ‹44›,Py ‹44›,Pu,Pu,OH,OH]
      cases e:cs[j-k]? with
      | none=>exact rfl
      | some i =>
        have h:=f.sl i
        show uS K _ _ _ _ (view (ρ.getD i .un)) ((σ[i]?).join)
        cases e2:ρ.getD i .un with
        | un=>exact rfl
        | pu d =>
          rw [e2] at h
          obtain ⟨_,u,hu,i1⟩:=h
          exact ⟨rfl,u,hu,i1.kp kp⟩
        | bo d =>
          rw [e2] at h
          obtain ⟨_,u,hu,i1⟩:=h
          exact ⟨rfl,u,hu,i1.same f.keep⟩
        | ol ds =>
          rw [e2] at h
          obtain ⟨a,vs,_,hu,hH,hl,i1⟩:=h
          exact ⟨rfl,_,hu,.lst (fun z=>z) (.inl hH) hl i1.all⟩
        | om rows =>
          rw [e2] at h
          obtain ⟨a,ps,_,hu,hH,hl,i1⟩:=h
          exact ⟨rfl,_,hu,.lst (fun z=>z) (.inl hH) ‹41› (gS i1)⟩
        | od kvs =>
          rw [e2] at h
          obtain ⟨a,_,hu,hH,hl⟩:=h
          exact ⟨rfl,_,hu,.dct (fun z=>z) (.inl hH) hl⟩
        | pm a ps rows =>
          rw [e2] at h
          obtain ⟨_,hu,hH,hl,i1⟩:=h
          exact ⟨rfl,_,hu,.lst (fun z=>z) (.inl hH) ‹41› (gS i1)⟩
        | pd a kvs =>
          rw [e2] at h
          obtain ⟨_,hu,hH,hl⟩:=h
          exact ⟨rfl,_,hu,.dct (fun z=>z) (.inl hH) hl⟩
def ka (g:DG) (t:aK→Option Bool) (e:aK→Option (List D)) (ρ0:aK):List D→Option (List (List D))
  | []=>some []
  | d::ds=>match g d ρ0 with
    | none=>none
    | some ρ1=>match t ρ1 with
      | none=>none
      | some false=>ka g t e ρ0 ds
      | some true=>match e ρ1 with
        | none=>none
        | some y=>match ka g t e ρ0 ds with
          | none=>none
          | some ys=>some (y::ys)
noncomputable def qp (k:Nat) (cs:List Nat) (it:aK→Option (List D)) (g:DG) (t:aK→Option Bool) (e:aK→Option (List D)):aK→Option (List (List D)):=fun ρ=>match it ρ with
 | some ds=>ka g t e (r0 k cs ρ) ds
 | none=>none
theorem HQ {m:Bool} {k:Nat} {wi:TI} {g:TG} {tt:TT} {te:TE} {gd:DG} {td:aK→Option Bool} {ed:aK→Option (List D)} (hw:zr K m wi it) (hg:uT K m g gd) (ht:mM K tt td) (he:bx K te ed) :
 IW K (qG wi g tt te (s0 k cs)) (qp k cs it gd td ed):=fun {B Z os ρ σ H Q ds} f q kk=>by
 unfold qp at q
 split at q
 ·rename_i xs e0
  refine hw f e0 fun J H1 s1 W Dl hD=>?_
  have f1:=f.grow s1
  have sD:∀ {H2:Hp} {ys:List V},aW H1 H2→aW H1 (upd H2 Dl (.lst ys)):=fun {H2 ys} s a o e=>by
   rw [upd_ne (br e hD)]; exact s _ _ e
  let ZZ:List OF→OF→Prop:=fun ps a=>(a=Dl∨a∈ps)∨bR Z os a
  refine ⟨fun i m ys H2=>m=xs.length-i∧i≤xs.length∧aW H1 H2∧H2 Dl=some (.lst ys)∧ys.length≤i∧∃ ps done rest,ys=ps.map V.ref∧(∀ a∈ps,H1 a=none)∧(Dl::ps).Nodup∧Qv (fun q ds=>∃ vs,H2 q=some (.lst vs)∧vs.length≤OE∧IsL K H2 (ZZ ps) vs ds) ps done∧ka gd td ed (r0 k cs ρ) (xs.drop i)=some rest∧done++rest=ds,
   ⟨_,rfl,PV _,sD (aW.refl _),aF,OT _,[],[],ds,rfl,(fun a h=>by cases h),(by simp),.nil,q,rfl⟩,?_⟩
  rintro i mm ys H2 ⟨rfl,hi,s2,eD,hly,ps,done,rest,rfl,hps,hnd,il,q2,ed2⟩
  have zin2:∀ a,ZZ ps a→∃ o,H2 a=some o:=by
   rintro a ((rfl | z) | z)
   ·exact ⟨_,eD⟩
   ·obtain ⟨_,vs,h,_⟩:=Paired.any il z
    exact ⟨_,h⟩
   ·obtain ⟨u,e⟩:=f1.Jf a z
    exact ⟨u,s2 _ _ e⟩
  have kp12:Kp (bR Z os) H1 (ZZ ps) H2:=fun a u e z=>⟨s2 _ _ e,fun w=>by
   rcases w with (rfl | w) | w
   ·rw [hD] at e; cases e
   ·rw [hps a w] at e; cases e
   ·exact z w⟩
  by_cases hlt:i<xs.length
  ·have ex:xs[i]?=some xs[i]:=Ow hlt
   obtain ⟨go,yl⟩:=W.go i xs[i] H2 _ kp12 s2 zin2 ex
   refine .inr ⟨go,fun x H3 hy=>?_⟩
   obtain ⟨s3,er⟩:=yl x H3 hy
   have eD3:=s3 _ _ eD
   have s13:=s2.trans s3
   have kp13:Kp (bR Z os) H1 (ZZ ps) H3:=kp12.trans (Kp.same s3)
   have ef3:=zg f1 s13 (fun a z=>let ⟨o,e⟩:=zin2 a z; ⟨o,s3 _ _ e⟩) kp13 k cs
   rw [Pg hlt] at q2
   unfold ka at q2
   have er':ER K m H1 H3 (bR (ZZ ps) fun _=>[]) x xs[i]:=by
    cases m with
    | false=>exact er
    | true=>exact Is.kp (Kp.less fun a z=>z.elim id fun ⟨_,w⟩=>by cases w) er
   have il3:∀ {H':Hp},aW H2 H'→Qv (fun q ds=>∃ vs,H' q=some (.lst vs)∧vs.length≤OE∧IsL K H' (ZZ ps) vs ds) ps done:=fun {H'} s=>Paired.mono il fun q ds _ ⟨vs,h1,h2,h3⟩=>⟨vs,s _ _ h1,h2,h3.same s⟩
   split at q2
   ·cases q2
   ·rename_i ρ1 e1
    refine hg ef3 er' e1 fun os1 σ1 fr1 k1=>?_
    split at q2
    ·cases q2
    ·rename_i e2
     refine ht fr1 e2 fun H4 s4=>xj ⟨_,by omega,rfl,hlt,s13.trans s4,s4 _ _ eD3,by omega,ps,done,rest,rfl,hps,hnd,il3 (s3.trans s4),q2,ed2⟩
    ·rename_i e2
     refine ht fr1 e2 fun H4 s4=>yI ?_
     split at q2
     ·cases q2
     ·rename_i y e3
      split at q2
      ·cases q2
      ·rename_i rs e4
       cases q2
       refine he (fr1.grow s4) e3 fun x2 vs2 H5 s5 hx2 hH5 hl5 i5=>?_
       have s35:=s4.trans s5
       have s25:=s3.trans s35
       have eD5:=s35 _ _ eD3
       have hl:=W.len
       have hx3:H3 x2=none:=aW.free s4 hx2
       have hxD:x2≠Dl:=fun z=>by rw [z,eD3] at hx3; cases hx3
       have hxps:x2∉ps:=fun z=>by
        obtain ⟨o,e⟩:=zin2 x2 (.inl (.inr z))
        rw [s3 _ _ e] at hx3; cases hx3
       have hxt:¬ bR Z os x2:=fun z=>by
        obtain ⟨o,e⟩:=zin2 x2 (.inr z)
        rw [s3 _ _ e] at hx3; cases hx3
       have sub:∀ a,ZZ (ps++[x2]) a→a=x2∨ZZ ps a:=by
        rintro a ((rfl | z) | z)
        ·exact .inr (.inl (.inl rfl))
        ·rcases O4.mp z with z | z
         ·exact .inr (.inl (.inr z))
         ·exact .inl (OB.mp z)
        ·exact .inr (.inr z)
       have sup:∀ a,a=x2∨ZZ ps a→ZZ (ps++[x2]) a:=by
        rintro a (rfl | (rfl | z) | z)
        ·exact .inl (.inr (by simp))
        ·exact .inl (.inl rfl)
        ·exact .inl (.inr (Pa _ z))
        ·exact .inr z
       have kp5:∀ (zs:List V),Kp (ZZ ps) H2 (ZZ (ps++[x2])) (upd H5 Dl (.lst zs)):=fun zs a u e z=>⟨by rw [upd_ne (fun w=>z (.inl (.inl w)))]; exact s25 _ _ e,fun w=>by
        rcases sub a w with rfl | w
        ·rw [s3 _ _ e] at hx3; cases hx3
        ·exact z w⟩
       have kp6:∀ (zs:List V),Kp (ZZ (ps++[x2])) H5 (ZZ (ps++[x2])) (upd H5 Dl (.lst zs)):=fun zs a u e z=>⟨by rw [upd_ne (fun w=>z (.inl (.inl w)))]; exact e,z⟩
       refine ⟨eD5,by rw [Oy] at hly ⊢; omega,_,by omega,rfl,hlt,sD (s13.trans s35),aF,by rw [O1,Qh]; omega,ps++[x2],done++[y],rs,by rw [O7]; rfl,fun a ha=>?_,?_,?_,e4,by rw [Qx]; exact ed2⟩
       ·rcases O4.mp ha with ha | ha
        ·exact hps a ha
        ·rw [OB.mp ha]; exact aW.free s13 hx3
       ·rw [← TJ,Sn]
        refine ⟨hnd,by simp,fun a h1 b h2=>?_⟩
        rw [OB.mp h2]
        rintro rfl
        rcases OP.mp h1 with z | z
        ·exact hxD z
        ·exact hxps z
       ·refine Paired.append (Paired.mono il fun q ds hq ⟨vs,h1,h2,h3⟩=>⟨vs,?_,h2,h3.kp (kp5 _)⟩) (.cons ⟨vs2,?_,hl5,?_⟩ .nil)
        ·rw [upd_ne (fun z=>by rw [z] at hq; exact (Pc.mp hnd).1 hq)]; exact s25 _ _ h1
        ·rw [upd_ne hxD]; exact hH5
        ·exact (i5.kp (Kp.less fun a z=>by
          rcases sub a z with z | z
          ·exact .inl z
          ·exact .inr (.inl z)):IsL K H5 (ZZ (ps++[x2])) vs2 y).kp (kp6 _)
  ·have e:i=xs.length:=by omega
   subst e
   rw [RU] at q2
   cases q2
   rw [Qs] at ed2
   subst ed2
   have hl:=W.len
   rw [Oy] at hly
   exact .inl ⟨W.stop _ H2 _ kp12 s2 rfl,eD,kk Dl ps H2 (s1.trans s2) (aW.free s1 hD) (fun a ha=>aW.free s1 (hps a ha)) hnd eD ‹5› il⟩
 ·cases q
section
variable {s u b:DS} {ρ:aK} {W:Wk} {i:Nat} {a e k c:DE} {d:D} {rows:List (List D)} {ds:List D}
theorem vO {es:aK→Option (List (List D))} (h:es ρ=some rows) (hi:i < ρ.length) (k:W.nx (ρ.set i (.om rows))):Wp (qI i es) ρ W:=by unfold Wp qI; rw [h]; simp only [if_pos hi]; exact k
theorem Eo (h:ρ.getD i .un=.om rows) (k:W.rt (fQ rows)):Wp (sA i) ρ W:=by unfold Wp sA; rw [h]; exact k
theorem Hz {n m:Int} {r j:Nat} (h0:ρ.getD i .un=.om rows) (h1:a ρ=some d) (h2:e ρ=some (.int n)) (h3:ixN rows.length n=some r) (h4:rows[r]?=some ds) (h5:c ρ=some (.int m)) (h6:ixN ds.length m=some j) (k:W.nx (ρ.set i (.om (rows.set r (ds.set j d))))):Wp (yb i e c a) ρ W:=by
 unfold Wp yb; rw [h0]; simp only [h1,h2,h3,h4,h5,h6]; exact k
theorem GG {k:Nat} {g:DG} {t:aK→Option Bool} (emb:α→D) {xs:List α} (h:it ρ=some (xs.map emb)) (p:α→Bool) (f:α→List D)
 (hs:∀ x∈xs,∃ ρ1,g (emb x) (r0 k cs ρ)=some ρ1∧t ρ1=some (p x)∧(p x=true→el ρ1=some (f x))):qp k cs it g t el ρ=some ((xs.filter p).map f):=by
 unfold qp
 rw [h]
 show ka g t el (r0 k cs ρ) (xs.map emb)=_
 clear h
 induction xs with
 | nil=>rfl
 | cons x r ih =>
  obtain ⟨ρ1,e1,e2,e3⟩:=hs x ON
  rw [O9]
  unfold ka
  rw [e1]
  show 20
  rw [e2]
  have q:=ih fun y hy=>hs y (OI _ hy)
  cases hp:p x with
  | false=>rw [Rk (by rw [hp]; exact O2)]; exact q
  | true =>
   rw [QS hp,O9]
   show 20
   rw [e3 hp]
   show 20
   rw [q]
theorem DT {k:Nat} {g:DG} (emb:α→D) {xs:List α} (h:it ρ=some (xs.map emb)) (f:α→List D)
 (hs:∀ x∈xs,∃ ρ1,g (emb x) (r0 k cs ρ)=some ρ1∧el ρ1=some (f x)):qp k cs it g cD el ρ=some (xs.map f):=by
 have:=GG (k:=k) (cs:=cs) (g:=g) (t:=cD) (el:=el) emb h (fun _=>true) f fun x hx=>let ⟨ρ1,e1,e2⟩:=hs x hx; ⟨ρ1,e1,rfl,fun _=>e2⟩
 rw [this,RP.mpr fun _ _=>rfl]
end
theorem BG {b:DS} (hF:F=oA n ms b) {d:D} (h:Wp b (gJ n ms ds) { nx:=fun _=>False,rt:=fun x=>x=d }):F ds=some d:=by
 rw [hF]
 unfold oA
 unfold Wp at h
 cases e:b (gJ n ms ds) with
 | rt x=>rw [e] at h; show some x=some d; rw [show x=d from h]
 | nx ρ=>rw [e] at h; exact h.elim
 | bk ρ=>rw [e] at h; exact h.elim
 | ct ρ=>rw [e] at h; exact h.elim
 | no=>rw [e] at h; exact h.elim
theorem HW {b:DS} (hF:F=oA n ms b) {P:D→Prop} (h:Wp b (gJ n ms ds) { nx:=fun _=>False,rt:=P }):∃ d,F ds=some d∧P d:=by
 rw [hF]
 unfold oA
 unfold Wp at h
 cases e:b (gJ n ms ds) with
 | rt x=>rw [e] at h; exact ⟨x,rfl,h⟩
 | nx ρ=>rw [e] at h; exact h.elim
 | bk ρ=>rw [e] at h; exact h.elim
 | ct ρ=>rw [e] at h; exact h.elim
 | no=>rw [e] at h; exact h.elim
end
end
section
open Classical
noncomputable section
variable [bE] {K:OA} {fr:Fm}
inductive Puts (K:OA):List (TE×TE)→List (DE×DE)→Prop
 | nil:Puts K [] []
 | cons {tc ta:TE} {c a:DE} {l:List (TE×TE)} {l':List (DE×DE)} (ha:af K ta a) (hc:bp K tc c) (r:Puts K l l'):Puts K ((tc,ta)::l) ((c,a)::l')
end
end
end VL
namespace L2
open PySem PySem.Spec PyProof.Rows
structure Ou (fr ch:List OF) (h h':Qb):Prop where
 keep:∀ b o,b∉fr→b∉ch→h.get? b=some o→h'.get? b=some o
 slot:∀ b o,b∉ch→h.get? b=some o→∃ sl,h'.get? b=some { o with slots:=sl }
structure Out (X:Cx) (pins:List (OF×Q5)) (H:Hp) (b:OF):Prop where
 h:H b=none
 s0:X.s₀.heap.get? b=none
 loc:b≠‹27›
 cell:∀ x c,X.env.cells.lookup x=some c→c≠b
 pin:∀ p∈X.pn++pins,p.1≠b
section
variable {P:PL} {w:PR} {H:Hp} {h:Qb} {a:OF} {o:HO}
theorem cu.live (x:cu P w H h a o):∃ u,h.get? a=some u:=by
 cases o with
 | lst xs=>obtain ⟨_,_,_,_,e⟩:=x; exact ⟨_,e⟩
 | tup xs=>obtain ⟨_,_,_,ob,e,_⟩:=x; exact ⟨_,e⟩
 | dK kvs=>obtain ⟨_,_,_,_,o,_,_,e,_⟩:=x; exact ⟨_,e⟩
 | dT kvs=>obtain ⟨_,_,_,_,o,_,_,e,_⟩:=x; exact ⟨_,e⟩
 | set S n=>obtain ⟨o,_,_,_,e,_⟩:=x; exact ⟨_,e⟩
 | ins C dx fs=>obtain ⟨_,_,_,e,_⟩:=x; exact ⟨_,e⟩
 | own y=>exact x
 | xd fs=>obtain ⟨_,⟨_,_,_,e,_⟩,_⟩:=x; exact ⟨_,e⟩
 | rng lo hi=>obtain ⟨_,_,_,e⟩:=x; exact ⟨_,e⟩
 | jS ob u=>obtain ⟨e,_⟩:=x; exact ⟨_,e⟩
 | tbl ps=>obtain ⟨_,_,_,_,e,_⟩:=x; exact ⟨_,e⟩
 | met f y=>exact ⟨_,show h.get? a=some _ from x⟩
 | ext φ=>obtain ⟨_,e,_⟩:=x; exact e
end
section
variable {X:Cx} {pins:List (OF×Q5)} {σ:St} {H H':Hp} {s:OG}
theorem Inv.out (I:Inv X pins σ H s) (hx:X.ex=[]) {b:OF} (e:s.heap.get? b=none):Out X pins H b where
 h:=by
  cases q:H b with
  | none=>rfl
  | some o=>obtain ⟨u,hu⟩:=(I.ck b o q).live; rw [e] at hu; cases hu
 s0:=by
  cases q:X.s₀.heap.get? b with
  | none=>rfl
  | some o=>obtain ⟨u,hu⟩:=I.base.there b o q (by rw [hx]; simp); rw [e] at hu; cases hu
 loc:=fun z=>by
  obtain ⟨m,⟨o,_,_,ho,_⟩,_⟩:=I.loc
  rw [← z,e] at ho; cases ho
 cell:=fun x c q z=>by
  obtain ⟨v,o,ho,_⟩:=I.cell x c q
  rw [z,e] at ho; cases ho
 pin:=fun p hp z=>by
  have:=(I.pin p hp).1
  rw [z,e] at this; cases this
end
structure Oh (X:Cx):Prop where
 Jq:X.stack=X.env::X.outer
 fr:X.env.frame=some ‹27›
 ex:X.ex=[]
section
variable {X:Cx} {pins:List (OF×Q5)} {σ:St} {H:Hp} {s:OG} {a:OF} {u:HO}
theorem Inv.EH (I:Inv X pins σ H s) (o:Out X pins H a) (ob:cu X.prog X.w (upd H a u) s.heap a u):Inv X pins σ (upd H a u) s:=by
 have ne:∀ b v,H b=some v→b≠a:=fun b v q z=>by rw [z,o.h] at q; cases q
 refine ⟨I.ok,I.os,I.bare,⟨I.base.keep,I.base.slot,fun b v q n hx=>?_,I.base.there,fun b xs q=>?_,fun b v xs q=>?_,fun b ps q=>?_⟩,I.loc,I.cell,?_,fun x c e=>?_,fun p hp=>?_,fun b v q=>?_,I.len⟩
 ·rw [upd_ne (fun z=>by rw [z,o.s0] at q; cases q)]; exact I.base.free b v q n hx
 ·have r:=I.base.uj b xs q; rw [upd_ne (ne b _ r)]; exact r
 ·have r:=I.base.tj b v xs q; rw [upd_ne (ne b _ r)]; exact r
 ·obtain ⟨m,r⟩:=I.base.se b ps q; exact ⟨m,by rw [upd_ne (ne b _ r)]; exact r⟩
 ·rw [upd_ne (P9 o.loc)]; exact I.free
 ·rw [upd_ne (o.cell x c e)]; exact I.iY x c e
 ·obtain ⟨e,n,r⟩:=I.pin p hp
  exact ⟨e,by rw [upd_ne (o.pin p hp)]; exact n,r⟩
 ·by_cases hb:b=a
  ·subst hb; rw [aF] at q; cases q; exact ob
  ·rw [upd_ne hb] at q
   exact (I.ck b v q).nc (fun c y _ r=>r) (fun c r=>by rw [upd_ne (ne c _ r)]; exact r) (fun c xs r=>by rw [upd_ne (ne c _ r)]; exact r) fun c o u r=>by rw [upd_ne (ne c _ r)]; exact r
end
structure Oj (K:OA) (C:OF):Prop where
 ga:QX K (.ref C) "__getattribute__" = some (some (.builtin "BaseException.__getattribute__"))
 gk:QX K (.ref C) "__getattr__" = some none
 hd:W6 K C=true
 ca:QX K (.ref C) "__class__" = some (some ‹42›)
 sp:Th K ‹42› "__get__" = some (some (.builtin "getset_descriptor.__get__"))
 tk:VB K ‹42›=some true
 mro:UY K C (.type "object")=some true
 Ol:UY K C (.type "BaseException")=some true
inductive ud (X:Cx):List Qg→List TE→Prop
 | nil:ud X [] []
 | text {x:P2} {j p es ts} (hx:x.length≤1000) (h:ud X es ts):ud X (.Constant (.str x) j p::es) ts
 | val {e:Qg} {p es ts} {t:TE} (he:PE X e t) (h:ud X es ts):ud X (.FormattedValue e (-1) none p::es) (t::ts)
end L2
namespace VL
variable {a:aK→Option (List D)} {ρ:aK} {σ:L2.St}
open PySem L2
section
open Classical
noncomputable section
variable [bE] {K:OA}
variable {E:XK} {C:OF}
inductive Lx (K:OA):List TE→List DE→Prop
 | nil:Lx K [] []
 | cons {t ts a as} (h:bp K t a) (r:Lx K ts as):Lx K (t::ts) (a::as)
theorem bL {H:Hp} {a:OF} {o:HO} (h:H a=none):aW H (upd H a o):=fun b u e=>by rw [upd_ne (br e h)]; exact e
variable {iv ie:Nat}
end
end
section
open Classical
noncomputable section
variable [bE] {K:OA} {fr:Fm}
noncomputable def GQ:aK→Option (List (List D)):=fun _=>some []
theorem Fe:IW K (J3 fN) GQ:=fun {B Z os ρ σ H Q rows} f q k=>by
 cases q
 exact ⟨PV _,fun p hp=>k p [] _ (bL hp) hp (fun _ z=>nomatch z) (Pc.mpr ⟨(fun z=>by cases z),Qe⟩) aF (PV _) .nil⟩
@[irreducible] noncomputable def vd (i:Nat) (a:aK→Option (List D)):DS:=fun ρ=>match ρ.getD i .un with
 | .om rows=>(match a ρ with
  | some ds=>if rows.length<OE then .nx (ρ.set i (.om (rows++[ds]))) else .no
  | none=>.no)
 | _=>.no
theorem Bv {i:Nat} {ta:TE} (ha:bx K ta a):di fr K (xW (MT K "list" wK (iJ i) (cz ta fN))) (vd i a):=fun {B Z os ρ σ H E} f p=>by
 unfold vd at p
 split at p
 case h_2=>exact p.elim
 case h_1 rows e =>
  split at p
  case h_2=>exact p.elim
  case h_1 ds e1 =>
   by_cases hz:rows.length<OE
   ·rw [if_pos hz] at p
    obtain ⟨o,ps,eo,hu,hH,hl,hln,pr⟩:=BX f e
    refine ⟨_,join_some hu,.inl ⟨rfl,_,dw.of hH⟩,ha f e1 fun x vs H1 s1 hx hx1 hlv iv=>?_⟩
    show 24
    have hn:=f.nd i
    rw [eo] at hn
    have hxo:x∉o::ps:=fun z=>by
     obtain ⟨xs,q⟩:=(f.sl i).uM (by rw [eo]; exact z)
     rw [hx] at q; cases q
    have hxo1:o≠x:=fun z=>hxo (by rw [z]; exact ON)
    have hoi:o∈os i:=by rw [eo]; exact ON
    have sub:∀ c,bR Z (jh os i (o::(ps++[x]))) c→c=x∨bR Z os c:=by
     rintro c (z | ⟨j,z⟩)
     ·exact .inr (.inl z)
     ·show 23
      ·subst hj
       rw [bC] at z
       rcases OP.mp z with z | z
       ·exact .inr (.inr ⟨j,by rw [z]; exact hoi⟩)
       ·rcases O4.mp z with z | z
        ·exact .inr (.inr ⟨j,by rw [eo]; exact OI _ z⟩)
        ·exact .inl (OB.mp z)
      ·rw [cy hj] at z; exact .inr (.inr ⟨j,z⟩)
    have kp:Kp (bR Z os) H (bR Z (jh os i (o::(ps++[x])))) (upd H1 o (.lst ((ps++[x]).map V.ref))):=fun c u q z=>by
     refine ⟨by rw [upd_ne (fun w=>z (.inr ⟨i,by rw [w]; exact hoi⟩))]; exact s1 _ _ q,fun w=>?_⟩
     rcases sub c w with rfl | w
     ·rw [hx] at q; cases q
     ·exact z w
    have kpx:Kp (fun c=>c=x∨bR Z os c) H1 (bR Z (jh os i (o::(ps++[x])))) (upd H1 o (.lst ((ps++[x]).map V.ref))):=fun c u q z=>by
     refine ⟨by rw [upd_ne (fun w=>z (.inr (.inr ⟨i,by rw [w]; exact hoi⟩)))]; exact q,fun w=>z (sub c w)⟩
    have hpo:∀ q∈ps,o≠q:=fun q hq z=>(Pc.mp hn).1 (by rw [z]; exact hq)
    have st:=f.step (H':=upd H1 o (.lst ((ps++[x]).map V.ref))) (i:=i) hi (o:=o::(ps++[x])) (s:=.om (rows++[ds])) (v:=some (.ref o)) (fun c u q nn=>by rw [upd_ne (fun z=>nn (by rw [z]; exact hoi))]; exact s1 _ _ q) (fun c hc=>?_)
     (Pc.mpr ⟨fun z=>?_,?_⟩) (fun c hc=>?_)
     ⟨o,ps++[x],rfl,rfl,aF,by rw [O1,Qh]; omega,Paired.append (Paired.mono pr fun q ds' hq ⟨us,h1,h2,h3⟩=>⟨us,by rw [upd_ne (P9 (hpo q hq))]; exact s1 _ _ h1,h2,h3.kp kp⟩) (.cons ⟨vs,by rw [upd_ne (P9 hxo1)]; exact hx1,hlv,iv.kp kpx⟩ .nil)⟩
    ·rw [eK hu] at st
     refine ⟨o,ps.map V.ref,.ref x,rfl,rfl,s1 _ _ hH,by rw [Oy,hln]; exact hz,?_⟩
     have em:ps.map V.ref++[V.ref x]=(ps++[x]).map V.ref:=by rw [O7]; rfl
     rw [em]
     exact p _ _ _ st.1 st.2
    ·by_cases hc':c=o
     ·rw [hc']; exact ⟨_,aF⟩
     ·obtain ⟨xs,q⟩:=(f.sl i).uM hc
      exact ⟨_,by rw [upd_ne hc']; exact s1 _ _ q⟩
    ·rcases O4.mp z with z | z
     ·exact (Pc.mp hn).1 z
     ·exact hxo1 (OB.mp z)
    ·exact Sn.mpr ⟨(Pc.mp hn).2,Pc.mpr ⟨(fun z=>by cases z),Qe⟩,fun a ha b hb z=>by
      rw [OB.mp hb] at z
      exact hxo (OI _ (by rw [← z]; exact ha))⟩
    ·rcases OP.mp hc with z | z
     ·exact .inl (by rw [z]; exact hoi)
     ·rcases O4.mp z with z | z
      ·exact .inl (by rw [eo]; exact OI _ z)
      ·exact .inr (by rw [OB.mp z]; exact hx)
   ·rw [if_neg hz] at p; exact p.elim
theorem Fr.forget {B H:Hp} {Z:OF→Prop} {os:Own} (f:Fr K B Z os ρ σ H) {r:Nat} (hr:r < ρ.length) (v:Option V):Fr K B Z (jh os r []) (ρ.set r .un) (σ.set r v) H∧Kp (bR Z os) H (bR Z (jh os r [])) H :=
 f.step hr (fun a u e _=>e) (fun a ha=>let ⟨xs,e⟩:=(f.sl r).uM ha; ⟨_,e⟩) Qe (fun a h=>nomatch h) rfl
def Ag (is:List Nat) (σ σ':L2.St):Prop:=σ'.length=σ.length∧∀ j,j∉is→σ'[j]?=σ[j]?
theorem Ag.refl {is:List Nat}:Ag is σ σ:=⟨rfl,fun _ _=>rfl⟩
theorem Ag.set {is:List Nat} {σ σ':L2.St} {i:Nat} {v:Option V} (h:Ag is σ σ') (hi:i∈is):Ag is σ (σ'.set i v) :=
 ⟨by rw [PH]; exact h.1,fun j hj=>by rw [Ql fun z=>hj (by rw [← z]; exact hi)]; exact h.2 j hj⟩
theorem Ag.two {r n:Nat} {σ':L2.St} (h:Ag [r,n] σ σ'):σ'=(σ.set r (σ'[r]?).join).set n (σ'[n]?).join:=by
 refine QY fun j=>?_
 by_cases hn:j=n
 ·subst hn
  by_cases hl:j < σ.length
  ·rw [Qr (by rw [PH]; exact hl),Ow (by rw [h.1]; exact hl)]; rfl
  ·rw [O5 (by rw [h.1]; omega),O5 (by rw [PH,PH]; omega)]
 ·rw [Ql (P9 hn)]
  by_cases hr:j=r
  ·subst hr
   by_cases hl:j < σ.length
   ·rw [Qr hl,Ow (by rw [h.1]; exact hl)]; rfl
   ·rw [O5 (by rw [h.1]; omega),O5 (by rw [PH]; omega)]
  ·rw [Ql (P9 hr)]
   exact h.2 j (by simp [hn,hr])
theorem rz {i:Nat} {rows:List (List D)} {ds:List D} {W:Wk} (h0:ρ.getD i .un=.om rows) (h:a ρ=some ds) (hl:rows.length<OE) (k:W.nx (ρ.set i (.om (rows++[ds])))):Wp (vd i a) ρ W:=by
 unfold Wp vd; rw [h0]; simp only [h,if_pos hl]; exact k
end
end
end VL
namespace zq
open PySem PySem.W PyProof.Rows
variable {p:Array Nat}
def i7 {α:Type} (lt:Nat→Nat→Bool) (n:Nat):KasT α→(α→Prop)→Prop
 | .ret a,Q=>Q a
 | .ask i j k,Q=>i<n∧j<n∧i7 lt n (k (lt i j)) Q
section
variable {lt:Nat→Nat→Bool} {N:Nat}
theorem i7.bind {α β:Type} {f:α→KasT β} {Q:β→Prop}:∀ (t:KasT α),i7 lt N t (fun a=>i7 lt N (f a) Q)→i7 lt N (t.bind f) Q
 | .ret _,h=>h
 | .ask _ _ k,h=>⟨h.1,h.2.1,i7.bind (k _) h.2.2⟩
theorem i7.mono {α:Type} {Q Q':α→Prop} (hq:∀ a,Q a→Q' a):∀ (t:KasT α),i7 lt N t Q→i7 lt N t Q'
 | .ret a,h=>hq a h
 | .ask _ _ k,h=>⟨h.1,h.2.1,i7.mono hq (k _) h.2.2⟩
theorem i7.wp {α:Type} {cmp:Nat→Nat→(Bool→OG→Prop)→OG→Prop} {s:OG} (hc:∀ i j (C:Bool→OG→Prop),i<N→j<N→C (lt i j) s→cmp i j C s) {Q:α→OG→Prop} :
 ∀ (t:KasT α),i7 lt N t (fun a=>Q a s)→t.kasWp cmp Q s
 | .ret _,h=>h
 | .ask i j k,h=>hc i j _ h.1 h.2.1 (i7.wp hc (k _) h.2.2)
structure Ord (lt:Nat→Nat→Bool):Prop where
 tr:∀ a b c,lt b a=false→lt c b=false→lt c a=false
 as:∀ a b,lt a b=true→lt b a=false
abbrev g (p:Array Nat) (i:Nat):Nat:=p.getD i 0
def Up (lt:Nat→Nat→Bool) (p:Array Nat) (k:Nat):Prop:=∀ i j,i≤j→j<k→lt (g p j) (g p i)=false
def Dn (lt:Nat→Nat→Bool) (p:Array Nat) (k:Nat):Prop:=∀ i j,i≤j→j<k→lt (g p i) (g p j)=false
def Eqv (lt:Nat→Nat→Bool) (p:Array Nat) (a b:Nat):Prop:=∀ i j,a≤i→i<b→a≤j→j<b→lt (g p i) (g p j)=false
def Lo (N:Nat) (p:Array Nat):Prop:=p.size=N∧∀ i,g p i<N
theorem Lo.jP {q:Array Nat} (h0:0<N) (h:Lo N p) (hp:q.Perm p):Lo N q:=by
 refine ⟨hp.size_eq.trans h.1,fun i=>?_⟩
 unfold g
 by_cases c:i<q.size
 ·have m:q[i]∈p:=hp.mem_iff.mp (Array.getElem_mem c)
  obtain ⟨j,hj,e⟩:=Array.mem_iff_getElem.mp m
  have:=h.2 j
  unfold g at this
  rw [Pd,O6 hj] at this
  rw [Pd,O6 c]
  show q[i]<N
  rw [← e]
  exact this
 ·rw [Pd,QZ ‹5›]
  exact h0
theorem Cj {i j:Nat} (hj:j≤p.size) (k:Nat):g (Ws p i j) k=if i≤k∧k<j then g p (i+j-1-k) else g p k:=by
 unfold g Ws
 rw [Pd,getElem?_mirror_all hj]
 by_cases c:i≤k∧k<j
 ·rw [if_pos c,if_pos c,Pd]
 ·rw [if_neg c,if_neg c,Pd]
theorem MA {s d:Nat} (hs:s<p.size) (hd:d≤s) (k:Nat):g (bubble p s d) k=if k=s-d then g p s else if s-d<k∧k≤s then g p (k-1) else g p k:=by
 unfold g
 rw [Pd,getElem?_bubble hs d hd]
 by_cases c:k=s-d
 ·rw [if_pos c,if_pos c,Pd]
 ·rw [if_neg c,if_neg c]
  by_cases c2:s-d<k∧k≤s
  ·rw [if_pos c2,if_pos c2,Pd]
  ·rw [if_neg c2,if_neg c2,Pd]
theorem gp {i j:Nat}:(Ws p i j).Perm p:=mirror_perm _ _ _ _
theorem Ee (o:Ord lt) (a:Nat):lt a a=false:=by
 cases h:lt a a with
 | false=>rfl
 | true=>rw [o.as a a h] at h; cases h
theorem A9 (o:Ord lt) {p:Array Nat} (hp:Lo N p):∀ (f n:Nat),1≤n→Up lt p n→i7 lt N (kas_asc p f n) (fun m=>n≤m∧m≤n+f∧Up lt p m∧(m<n+f→lt (g p m) (g p (m-1))=true))
 | 0,n,_,h=>⟨OT _,OT _,h,fun z=>by omega⟩
 | f+1,n,h1,h=>by
  refine ⟨hp.2 n,hp.2 (n-1),?_⟩
  cases c:lt (p.getD n 0) (p.getD (n-1) 0) with
  | true =>
   show 20
   rw [if_pos rfl]
   exact ⟨OT _,by omega,h,fun _=>c⟩
  | false =>
   show 20
   rw [if_neg O2]
   refine i7.mono (fun m q=>⟨by omega,by omega,q.2.2.1,fun z=>q.2.2.2 ‹5›⟩) _ (A9 o hp f (n+1) ‹5› fun i j hij hj=>?_)
   by_cases e:j<n
   ·exact h i j hij e
   ·have:j=n:=by omega
    subst this
    by_cases e2:i=j
    ·subst e2; exact Ee o _
    ·exact o.tr _ (g p (j-1)) _ (h i (j-1) ‹5› ‹5›) c
theorem rP (o:Ord lt) (h0:0<N):∀ (f:Nat) (p:Array Nat) (n q:Nat),Lo N p→1≤n→n+f≤N→q+1≤n→Dn lt p n→Eqv lt p (n-(q+1)) n →
    i7 lt N (kas_desc f p n q) (fun r=>r.1.Perm p∧Dn lt r.1 r.2.1∧n≤r.2.1∧r.2.1≤n+f∧r.2.2+1≤r.2.1∧Eqv lt r.1 (r.2.1-(r.2.2+1)) r.2.1)
  | 0,p,n,q,_,_,_,hq,hd,he=>⟨S5 _,hd,OT _,OT _,hq,he⟩
  | f+1,p,n,q,hp,h1,hn,hq,hd,he=>by
    refine ⟨hp.2 n,hp.2 (n-1),?_⟩
    cases c:lt (p.getD n 0) (p.getD (n-1) 0) with
    | true =>
      show 20
      rw [if_pos rfl]
      by_cases hq0:q > 0
      · rw [if_pos hq0]
        have hsz:n≤p.size:=by rw [hp.1]; omega
        have gr:∀ k,g (Ws p (n-(q+1)) n) k=if n-(q+1)≤k∧k<n then g p (n-(q+1)+n-1-k) else g p k:=Cj hsz
        refine i7.mono (fun r z=>⟨z.1.trans gp,z.2.1,by omega,by omega,z.2.2.2.2.1,z.2.2.2.2.2⟩) _ (rP o h0 f _ (n+1) 0 (hp.jP h0 gp) ‹5› ‹5› ‹5› (fun i j hij hj=>?_) fun i j hi1 hi2 hj1 hj2=>?_)
        · rw [gr i,gr j]
          have key:∀ k,k<n→lt (g p k) (g p n)=false:=fun k hk=>o.tr _ (g p (n-1)) _ (o.as _ _ c) (hd k (n-1) ‹5› ‹5›)
          by_cases cj:n-(q+1)≤j∧j<n
          · rw [if_pos cj]
            by_cases ci:n-(q+1)≤i∧i<n
            · rw [if_pos ci]; exact he _ _ ‹5› ‹5› ‹5› ‹5›
            · rw [if_neg ci]; exact hd _ _ ‹5› ‹5›
          · rw [if_neg cj]
            by_cases ci:n-(q+1)≤i∧i<n
            · rw [if_pos ci]
              have:j=n:=by omega
              subst this
              exact key _ ‹5›
            · rw [if_neg ci]
              by_cases e:j=n
              · subst e
                by_cases e2:i=j
                · subst e2; exact Ee o _
                · exact key _ ‹5›
              · exact hd _ _ hij ‹5›
        · have e1:i=n:=by omega
          have e2:j=n:=by omega
          subst e1; subst e2
          exact Ee o _
      · rw [if_neg hq0]
        refine i7.mono (fun r z=>⟨z.1,z.2.1,by omega,by omega,z.2.2.2.2.1,z.2.2.2.2.2⟩) _ (rP o h0 f p (n+1) 0 hp ‹5› ‹5› ‹5› (fun i j hij hj=>?_) fun i j hi1 hi2 hj1 hj2=>?_)
        · by_cases e:j=n
          · subst e
            by_cases e2:i=j
            · subst e2; exact Ee o _
            · exact o.tr _ (g p (j-1)) _ (o.as _ _ c) (hd i (j-1) ‹5› ‹5›)
          · exact hd _ _ hij ‹5›
        · have e1:i=n:=by omega
          have e2:j=n:=by omega
          subst e1; subst e2
          exact Ee o _
    | false =>
      show 20
      rw [if_neg O2]
      refine ⟨hp.2 (n-1),hp.2 n,?_⟩
      cases d:lt (p.getD (n-1) 0) (p.getD n 0) with
      | true =>
        show 20
        rw [if_pos rfl]
        exact ⟨S5 _,hd,OT _,Nat.le_add_right _ _,hq,he⟩
      | false =>
        show 20
        rw [if_neg O2]
        have key:∀ k,k<n→lt (g p k) (g p n)=false:=fun k hk=>o.tr _ (g p (n-1)) _ d (hd k (n-1) ‹5› ‹5›)
        have key2:∀ k,n-(q+1)≤k→k<n→lt (g p n) (g p k)=false:=fun k hk1 hk2=>o.tr _ (g p (n-1)) _ (he (n-1) k ‹5› ‹5› hk1 hk2) c
        refine i7.mono (fun r z=>⟨z.1,z.2.1,by omega,by omega,z.2.2.2.2.1,z.2.2.2.2.2⟩) _ (rP o h0 f p (n+1) (q+1) hp ‹5› ‹5› ‹5› (fun i j hij hj=>?_) fun i j hi1 hi2 hj1 hj2=>?_)
        · by_cases e:j=n
          · subst e
            by_cases e2:i=j
            · subst e2; exact Ee o _
            · exact key _ ‹5›
          · exact hd _ _ hij ‹5›
        · by_cases e:i=n
          · by_cases e2:j=n
            · rw [e,e2]; exact Ee o _
            · rw [e]; exact key2 _ ‹5› ‹5›
          · by_cases e2:j=n
            · rw [e2]; exact key _ ‹5›
            · exact he _ _ ‹5› ‹5› ‹5› ‹5›
theorem Bo (o:Ord lt) (h0:0<N) {n nrem:Nat} (hp:Lo N p) (h1:1≤n) (hn:n≤nrem) (hr:nrem≤N) (hd:Dn lt p n) :
 i7 lt N (kas_tail3 n nrem p) (fun r=>r.2.Perm p∧Up lt r.2 r.1∧1≤r.1∧r.1≤nrem):=by
 have gr:∀ k,g (Ws p 0 n) k=if 0≤k∧k<n then g p (0+n-1-k) else g p k:=Cj (by rw [hp.1]; omega)
 refine i7.bind _ (i7.mono (fun m z=>?_) _ (A9 o (hp.jP h0 gp) (nrem-n) n h1 fun i j hij hj=>?_))
 ·exact ⟨gp,z.2.2.1,by omega,by omega⟩
 ·rw [gr i,gr j,if_pos ‹5›,if_pos ‹5›]
  exact hd _ _ ‹5› ‹5›
theorem qS (o:Ord lt) (h0:0<N) {n nrem:Nat} (hp:Lo N p) (h1:1≤n) (hn:n+1≤nrem) (hr:nrem≤N) (hd:Dn lt p (n+1)) :
 i7 lt N (kas_descPart n nrem p) (fun r=>r.2.Perm p∧Up lt r.2 r.1∧1≤r.1∧r.1≤nrem):=by
 refine i7.bind _ (i7.mono (fun r z=>?_) _ (rP o h0 (nrem-(n+1)) p (n+1) 0 hp ‹5› ‹5› ‹5› hd fun i j hi1 hi2 hj1 hj2=>?_))
 ·obtain ⟨z1,z2,z3,z4,z5,z6⟩:=z
  have hp1:=hp.jP h0 z1
  by_cases c:r.2.2 > 0
  ·rw [if_pos c]
   have hsz:r.2.1≤r.1.size:=by rw [hp1.1]; omega
   have gr:∀ k,g (Ws r.1 (r.2.1-(r.2.2+1)) r.2.1) k=if r.2.1-(r.2.2+1)≤k∧k<r.2.1 then g r.1 (r.2.1-(r.2.2+1)+r.2.1-1-k) else g r.1 k:=Cj hsz
   refine i7.mono (fun t q=>⟨q.1.trans (gp.trans z1),q.2⟩) _ (Bo o h0 (hp1.jP h0 gp) ‹5› ‹5› hr fun i j hij hj=>?_)
   rw [gr i,gr j]
   by_cases cj:r.2.1-(r.2.2+1)≤j∧j<r.2.1
   ·rw [if_pos cj]
    by_cases ci:r.2.1-(r.2.2+1)≤i∧i<r.2.1
    ·rw [if_pos ci]; exact z6 _ _ ‹5› ‹5› ‹5› ‹5›
    ·rw [if_neg ci]; exact z2 _ _ ‹5› ‹5›
   ·rw [if_neg cj,if_neg ‹5›]; exact z2 _ _ hij ‹5›
  ·rw [if_neg c]
   exact i7.mono (fun t q=>⟨q.1.trans z1,q.2⟩) _ (Bo o h0 hp1 ‹5› ‹5› hr z2)
 ·have e1:i=n:=by omega
  have e2:j=n:=by omega
  subst e1; subst e2
  exact Ee o _
theorem GX (o:Ord lt) (h0:0<N) (hp:Lo N p) :
    i7 lt N (kas_count N p) (fun r=>r.2.Perm p∧Up lt r.2 r.1∧1≤r.1∧r.1≤N):=by
  refine i7.bind _ (i7.mono (fun n z=>?_) _ (A9 o hp (N-1) 1 (OT _) fun i j hij hj=>?_))
  · obtain ⟨z1,z2,z3,z4⟩:=z
    by_cases c:(n==N)=true
    · rw [if_pos c]
      have:=eq_of_beq c
      exact ⟨S5 _,z3,z1,by omega⟩
    · rw [if_neg c]
      have cn:n≠N:=fun e=>c (by rw [e]; exact beq_self_eq_true _)
      have z5:=z4 ‹5›
      by_cases c2:n > 1
      · rw [if_pos c2]
        refine ⟨hp.2 0,hp.2 (n-1),?_⟩
        cases d:lt (p.getD 0 0) (p.getD (n-1) 0) with
        | true =>
          show 20
          rw [if_pos rfl]
          exact ⟨S5 _,z3,z1,by omega⟩
        | false =>
          show 20
          rw [if_neg O2]
          have gr:∀ k,g (Ws p 0 n) k=if 0≤k∧k<n then g p (0+n-1-k) else g p k:=Cj (by rw [hp.1]; omega)
          have eq:∀ i j,i<n→j<n→lt (g p i) (g p j)=false:=fun i j hi hj=>by
            have a1:lt (g p (n-1)) (g p j)=false:=z3 j (n-1) ‹5› ‹5›
            have a2:lt (g p i) (g p 0)=false:=z3 0 i ‹5› hi
            exact o.tr _ (g p 0) _ (o.tr _ (g p (n-1)) _ a1 d) a2
          refine i7.mono (fun t q=>⟨q.1.trans gp,q.2⟩) _ (qS o h0 (hp.jP h0 gp) ‹5› ‹5› (OT _) fun i j hij hj=>?_)
          rw [gr i,gr j]
          by_cases cj:j<n
          · rw [if_pos ‹5›,if_pos ‹5›]; exact eq _ _ ‹5› ‹5›
          · have:j=n:=by omega
            subst this
            rw [if_neg (show ¬ (0≤j∧j<j) by omega)]
            by_cases ci:i<j
            · rw [if_pos ‹5›]
              exact o.tr _ (g p (j-1)) _ (o.as _ _ z5) (eq _ _ ‹5› ‹5›)
            · have:i=j:=by omega
              subst this
              rw [if_neg ‹5›]
              exact Ee o _
      · rw [if_neg c2]
        refine qS o h0 hp ‹5› ‹5› (OT _) fun i j hij hj=>?_
        have n1:n=1:=by omega
        subst n1
        by_cases ci:i=j
        · subst ci; exact Ee o _
        · have e1:i=0:=by omega
          have e2:j=1:=by omega
          subst e1; subst e2
          exact o.as _ _ z5
  · have e1:i=j:=by omega
    subst e1
    exact Ee o _
theorem sL (o:Ord lt) {p:Array Nat} {k:Nat} (hp:Lo N p) (hu:Up lt p k):∀ (f l r:Nat),l≤r→r≤k→r-l≤f→(∀ i,i<l→lt (g p k) (g p i)=false)→(∀ i,r≤i→i<k→lt (g p k) (g p i)=true) →
 i7 lt N (kas_place p k f l r) (fun m=>m≤k∧(∀ i,i<m→lt (g p k) (g p i)=false)∧∀ i,m≤i→i<k→lt (g p k) (g p i)=true)
 | 0,l,r,h1,h2,h3,h4,h5=>⟨by omega,h4,fun i hi=>h5 i ‹5›⟩
 | f+1,l,r,h1,h2,h3,h4,h5=>by
  unfold kas_place
  by_cases c:l ≥ r
  ·rw [if_pos c]; exact ⟨by omega,h4,fun i hi=>h5 i ‹5›⟩
  ·rw [if_neg c]
   refine ⟨hp.2 k,hp.2 ((l+r) / 2),?_⟩
   cases d:lt (p.getD k 0) (p.getD ((l+r) / 2) 0) with
   | true =>
    show 20
    rw [if_pos rfl]
    refine sL o hp hu f l ((l+r) / 2) ‹5› ‹5› ‹5› h4 fun i hi1 hi2=>?_
    cases e:lt (g p k) (g p i) with
    | true=>rfl
    | false =>
     have:=o.tr _ (g p i) _ (hu ((l+r) / 2) i hi1 hi2) e
     rw [show lt (g p k) (g p ((l+r) / 2))=true from d] at this
     cases this
   | false =>
    show 20
    rw [if_neg O2]
    exact sL o hp hu f ((l+r) / 2+1) r ‹5› h2 ‹5› (fun i hi=>o.tr _ (g p ((l+r) / 2)) _ (hu i ((l+r) / 2) ‹5› ‹5›) d) h5
theorem G6 (o:Ord lt) (h0:0<N):∀ (f:Nat) (p:Array Nat) (k:Nat),Lo N p→k+f=N→Up lt p k→i7 lt N (kas_bin f p k) (fun q=>q.Perm p∧Up lt q N)
 | 0,p,k,_,hk,hu=>⟨S5 _,by rw [← hk]; exact hu⟩
 | f+1,p,k,hp,hk,hu=>by
  refine i7.bind _ (i7.mono (fun m z=>?_) _ (sL o hp hu k 0 k (PV _) (OT _) ‹5› (fun i hi=>by omega) fun i hi1 hi2=>by omega))
  obtain ⟨z1,z2,z3⟩:=z
  have gb:∀ j,g (bubble p k (k-m)) j=if j=k-(k-m) then g p k else if k-(k-m)<j∧j≤k then g p (j-1) else g p j:=MA (by rw [hp.1]; omega) ‹5›
  have em:k-(k-m)=m:=by omega
  rw [em] at gb
  refine i7.mono (fun q y=>⟨y.1.trans (bubble_perm _ _ _),y.2⟩) _ (G6 o h0 f _ (k+1) (hp.jP h0 (bubble_perm _ _ _)) ‹5› fun i j hij hj=>?_)
  rw [gb i,gb j]
  by_cases cj:j=m
  ·rw [if_pos cj]
   by_cases ci:i=m
   ·rw [if_pos ci]; exact Ee o _
   ·rw [if_neg ci,if_neg ‹5›]; exact z2 i ‹5›
  ·rw [if_neg cj]
   by_cases cj2:m<j∧j≤k
   ·rw [if_pos cj2]
    by_cases ci:i=m
    ·rw [if_pos ci]; exact o.as _ _ (z3 (j-1) ‹5› ‹5›)
    ·rw [if_neg ci]
     by_cases ci2:m<i∧i≤k
     ·rw [if_pos ci2]; exact hu _ _ ‹5› ‹5›
     ·rw [if_neg ci2]; exact hu _ _ ‹5› ‹5›
   ·rw [if_neg cj2]
    rw [if_neg ‹5›,if_neg ‹5›]
    exact hu _ _ hij ‹5›
theorem BA (o:Ord lt) (h0:0<N):i7 lt N (kas_sort N) (fun p=>p.toList.Perm (O0 N)∧Up lt p N):=by
 have hp:Lo N (RK (O0 N)):=by
  refine ⟨by simp,fun i=>?_⟩
  unfold g
  rw [Pd]
  by_cases c:i<N
  ·simp [c]
  ·rw [QZ (by simpa using c)]
   exact h0
 have done:∀ q:Array Nat,q.Perm (RK (O0 N))→q.toList.Perm (O0 N):=fun q h=>by
  have:=Array.perm_iff_toList_perm.mp h
  simpa using this
 refine i7.bind _ (i7.mono (fun r z=>?_) _ (GX o h0 hp))
 obtain ⟨z1,z2,z3,z4⟩:=z
 by_cases c:r.1<N
 ·rw [if_pos c]
  have e:max r.1 1=r.1:=by omega
  rw [e]
  exact i7.mono (fun q y=>⟨done q (y.1.trans z1),y.2⟩) _ (G6 o h0 (N-r.1) r.2 r.1 (hp.jP h0 z1) ‹5› z2)
 ·rw [if_neg c]
  have e:r.1=N:=by omega
  rw [e] at z2
  exact ⟨done _ z1,z2⟩
end
end zq
namespace L2
open PySem PySem.Spec PyProof.Rows
def lexLt:List Int→List Int→Bool
 | [],[]=>false
 | [],_::_=>true
 | _::_,[]=>false
 | x::xs,y::ys=>if x=y then lexLt xs ys else decide (x<y)
theorem xg:∀ a b:List Int,lexLt a b=true→lexLt b a=false
 | [],[],h=>by cases h
 | [],_::_,_=>rfl
 | _::_,[],h=>by cases h
 | x::xs,y::ys,h=>by
  unfold lexLt at h ⊢
  by_cases c:x=y
  ·subst c; rw [if_pos rfl] at h ⊢; exact xg xs ys h
  ·rw [if_neg c] at h
   rw [if_neg (P9 c)]
   have:=of_decide_eq_true h
   exact decide_eq_false ‹5›
theorem xf:∀ a b c:List Int,lexLt b a=false→lexLt c b=false→lexLt c a=false
 | [],[],[],_,_=>rfl
 | [],[],_::_,_,_=>rfl
 | [],_::_,[],_,h=>by cases h
 | [],_::_,_::_,_,_=>rfl
 | _::_,[],_,h,_=>by cases h
 | _::_,_::_,[],_,h=>by cases h
 | x::xs,y::ys,z::zs,h1,h2=>by
  unfold lexLt at h1 h2 ⊢
  by_cases c1:y=x
  ·subst c1
   rw [if_pos rfl] at h1
   by_cases c2:z=y
   ·subst c2; rw [if_pos rfl] at h2 ⊢; exact xf xs ys zs h1 h2
   ·rw [if_neg c2] at h2 ⊢; exact h2
  ·rw [if_neg c1] at h1
   have k1:=of_decide_eq_false h1
   by_cases c2:z=y
   ·subst c2
    rw [if_neg c1]
    exact h1
   ·rw [if_neg c2] at h2
    have k2:=of_decide_eq_false h2
    rw [if_neg ‹5›]
    exact decide_eq_false ‹5›
theorem B2 (f:Nat→List Int):zq.Ord fun i j=>lexLt (f i) (f j):=⟨fun a b c h1 h2=>xf _ _ _ h1 h2,fun a b h=>xg _ _ h⟩
theorem Az:∀ a b:List Int,lexLt a b=false→lexLt b a=false→a=b
 | [],[],_,_=>rfl
 | [],_::_,h,_=>by cases h
 | _::_,[],_,h=>by cases h
 | x::xs,y::ys,h1,h2=>by
  unfold lexLt at h1 h2
  by_cases c:x=y
  ·subst c; rw [if_pos rfl] at h1 h2; rw [Az xs ys h1 h2]
  ·rw [if_neg c] at h1
   rw [if_neg (P9 c)] at h2
   have:=of_decide_eq_false h1
   have:=of_decide_eq_false h2
   omega
section
variable {X:Cx} {pins:List (OF×Q5)} {σ:St} {H:Hp} {s:OG}
theorem Inv.FO {h':Qb} {D:OF} {o:Q5} {u:HO} {m:P2→Option OD} {t':Nat} (I:Inv X pins σ H s) (hx:X.ex=[]) (F:Fr X.base ‹27› s.heap m) (F':Fr X.base ‹27› h' m)
 (N':Xs X.base ‹27› h' ((D,o)::gh X.base s.heap ‹27›)) (hD:s.heap.get? D=none) (new:cu X.prog X.w (upd H D u) h' D u):Inv X pins σ (upd H D u) { s with heap:=h',toks:=t' }:=by
 have keep:∀ b v,b≠‹27›→s.heap.get? b=some v→h'.get? b=some v:=fun b v hb q=>by
  cases e:X.base.get? b with
  | some y =>
   have e1:=F.keep b y e
   rw [q] at e1
   cases e1
   exact F'.keep b v e
  | none=>exact (N' (b,v) (OI _ (cS hb e q))).1
 obtain ⟨oL,es,ep,hL,rL⟩:=F.ns
 have nL:∀ b w,H b=some w→b≠X.env.locals:=fun b w q z=>by rw [z,I.free] at q; cases q
 have I1:Inv X pins σ H { s with heap:=h',gens:=s.gens,drawn:=s.drawn,toks:=t' }:=by
  refine I.step (ch:=[]) (fun _ z=>nomatch z) (fun b v h1 _ _ q _=>keep b v h1 q) (fun b v h1 _ _ q _=>⟨v.slots,keep b v h1 q⟩) (fun _ _ _ _ n=>n) (fun b v _ q=>?_) (fun _ _ q=>q) (fun _ _ _ q=>q) (fun b ps q=>⟨#[],by rw [q]; simp⟩) (fun m' hm=>?_) (fun b w q=>?_) I.bare
  ·by_cases hb:b=‹27›
   ·subst hb
    obtain ⟨o2,_,_,h2,_⟩:=F'.ns
    exact ⟨o2,h2⟩
   ·exact ⟨v,keep b v hb q⟩
  ·have e1:=hm.eq_nsMap
   have e2:=F.ns.eq_nsMap
   rw [e1,← e2]
   exact F'.ns
  ·refine (I.ck b w q).nc (fun c y hc r=>keep c y ?_ r) (fun _ r=>r) fun _ _ r=>r
   rcases hc with rfl | hc
   ·exact nL _ _ q
   ·exact nL _ _ hc
 exact I1.EH (I.out hx hD) new
end
def MK (H:Hp) (ps:List OF) (zs:List (List Int)):Prop:=Qv (fun p z=>z≠[]∧H p=some (.tup (z.map V.int))) ps zs
theorem yK {prog:PL} {w:PR} {A:P8} {Q:Bool→OG→Prop} {s:OG}:∀ {x y:List Int} {us vs:List OD} (i:Nat),RJ us x→RJ vs y→Q (lexLt x y) s→PySem.W.KatLex prog w A true (decide (x.length<y.length)) Q (us.zip vs) i s
 | [],[],_,_,_,.nil,.nil,h=>VG h
 | [],_::_,_,_,_,.nil,.cons _ _ _,h=>VG h
 | _::_,[],_,_,_,.cons _ _ _,.nil,h=>VG h
 | x::xs,y::ys,_,_,i,.cons _ t r1,.cons _ u r2,h=>by
  refine PySem.W.kat_cons (wpAny_eqBool_int ?_)
  unfold lexLt at h
  have el:decide ((x::xs).length<(y::ys).length)=decide (xs.length<ys.length):=by rw [OW,OW]; congr 1; apply propext; omega
  by_cases c:x=y
  ·subst c
   rw [if_pos rfl] at h
   rw [beq_self_eq_true,el]
   exact PySem.W.kat_yes (yK (i+1) r1 r2 h)
  ·rw [if_neg c] at h
   have e:(x==y)=false:=by simp [c]
   rw [e]
   refine PySem.W.kat_no ?_
   cases i with
   | zero=>exact oneLt_int h
   | succ i=>exact PySem.W.kat_one _ _ (Wv h)
variable {X:Cx}
theorem CK {pins:List (OF×Q5)} {σ:St} {H:Hp} {s:OG} (I:Inv X pins σ H s) {p:OF} {z:List Int} (h:H p=some (.tup (z.map V.int))):∃ (o:Q5) (us:List OD) (n:Nat),s.heap.get? p=some o∧o.cls=.type "tuple" ∧ o.data=.seq us.toArray n∧RJ us z:=by
 obtain ⟨_,its,rv,o,h1,h2,n,h3⟩:=(show cu X.prog X.w H s.heap p (.tup (z.map V.int)) from I.ck p _ h)
 exact ⟨o,its,n,h1,h2,h3,intsAre_of rv⟩
theorem BI {ps:List OF}:∀ {us:List OD},Vals ‹55› us→us=ps.map Pf:=by
 induction ps with
 | nil=>intro us r; cases r; rfl
 | cons p ps ih=>intro us r; cases r with | cons h r=>cases (show _=Pf p from h); rw [ih r]; rfl
theorem uX:∀ ps:List OF,Vals ‹55› (ps.map Pf)
 | []=>.nil
 | _::ps=>.cons rfl (uX ps)
theorem yF {h:Qb}:∀ {ps:List OF},(∀ p∈ps,∃ (o:Q5) (us:List OD) (n:Nat) (x:Int) (t:Yq) (r:List OD),h.get? p=some o∧o.cls=.type "tuple" ∧ o.data=.seq us.toArray n∧us=.int x t::r)→∃ fs,PySem.W.KatTups h (ps.map Pf) fs∧fs.length=ps.length∧∀ f∈fs,∃ (x:Int) (t:Yq),f=.int x t
 | [],_=>⟨[],.nil,rfl,fun _ z=>nomatch z⟩
 | p::ps,hp=>by
  obtain ⟨fs,k,hl,hf⟩:=yF (ps:=ps) fun q hq=>hp q (OI _ hq)
  obtain ⟨o,us,n,x,t,r,h1,h2,h3,rfl⟩:=hp p ON
  refine ⟨.int x t::fs,.cons h1 h2 h3 (by simp) k,by simp [hl],fun f hm=>?_⟩
  rcases OP.mp hm with rfl | hm
  ·exact ⟨x,t,rfl⟩
  ·exact hf f hm
section
open PySem.W
variable {prog:PL} {w:PR} {A:P8} {E:OD→OG→Prop} {s:OG} {a:OF} {n:Nat} {vs:List OD}
theorem Fc {P:Yr→OG→Prop} (hn:vs.length<2) (ho:s.heap.get? a=some (Pp "list" vs.toArray n))
 (k:∀ h' c,(∀ b o,b≠a→s.heap.get? b=some o→h'.get? b=some o)→h'.get? a=some (Pp "list" vs.toArray c)→P (.done (.ret .none)) { s with heap:=h' }) :
 OX ‹13› A (QP.«list.sort» ⟨[.ref a],[]⟩) P E s:=by
 have z:OE=16777216:=Po
 have lt:a<s.heap.objs.size:=OO ho
 obtain ⟨e,o1⟩:∃ e,(s.heap.update a (Pw fun _=>(#[]:Array OD))).get? a=some (Pp "list" #[] e):=⟨_,Ua ho fun _=>#[]⟩
 rw [list_sort_plain]
 refine Oz (Xc ho rfl (Oz (U4 ho rfl (Oz (XN o1 rfl (Oz (V6 (Oz (SX (PQ ?_) (PV _))) (by show vs.length≤_; omega))))) (by rw [OM]; omega) (PV _))))
 show 20
 rw [if_pos (show vs.toArray.size<2 by rw [OM]; omega),if_pos (show vs.toArray.size<2 by rw [OM]; omega)]
 have o2:(((s.heap.update a (Pw fun x=>#[])).push { cls:=QE "tuple", data:=Vc vs.toArray }).push { cls:=QE "list", data:=Vc #[] }).get? a=some (Pp "list" #[] e):=OC _ (OC _ o1)
 refine Oz (OL (Oz (m:=StateT.run (pure ()) _) (OL (Oz (XN o2 rfl ?_)))))
 have em:Ys (fun x=>x.snd) (arrOf (SortSt.mk' general' (vs.toArray.zip vs.toArray) #[] 7 none))=vs.toArray:=by
  show Ys (fun x=>x.snd) (vs.toArray.zip vs.toArray)=vs.toArray
  apply Xz.mp
  rw [XA,XB,XC]
  exact OT _
 refine Oz (U4 o2 rfl ?_ (PV _) (by rw [em,OM]; omega))
 show OX _ _ (if (e != e)=true then _ else _) _ _ _
 rw [bne_self_eq_false,if_neg O2]
 rw [em]
 obtain ⟨c,o3⟩:∃ c,((((s.heap.update a (Pw fun x=>#[])).push { cls:=QE "tuple", data:=Vc vs.toArray }).push { cls:=QE "list", data:=Vc #[] }).update a (Pw fun _=>vs.toArray)).get? a=some (Pp "list" vs.toArray c):=⟨_,Ua o2 fun _=>vs.toArray⟩
 refine OL (k _ c (fun b o hb q=>?_) o3)
 rw [PJ _ _ (P9 hb)]
 exact OC _ (OC _ (by rw [PJ _ _ (P9 hb)]; exact q))
theorem z0 {l:OF} {Q:OD→OG→Prop} (hl:s.heap.IsList l vs.toArray) (hn:vs.length<2)
 (k:∀ h' D c,‹1›≤D→(∀ b o,s.heap.get? b=some o→h'.get? b=some o)→h'.get? D=some (Pp "list" vs.toArray c)→Q (.ref D) { s with heap:=h' }) :
 OX ‹13› A (call (.builtin "sorted") [.ref l]) Q E s:=by
 have z:OE=16777216:=Po
 refine SK V7 Vp Vq (Xd _) ?_
 unfold QP.«sorted»
 refine Oz (m:=WU "sorted" 1 1 _) (OL (Oz (collect_list hl (Oz (SX ?_ ‹5›)) ‹5›)))
 generalize hg:‹45›.update ‹1› (Pw fun x=>x++vs.toArray)=g
 have gs:g.objs.size=‹1›+1:=by rw [← hg,RB,Sy]
 have kg:∀ b o,s.heap.get? b=some o→g.get? b=some o:=fun b o q=>by
  have hb:b<s.heap.objs.size:=OO q
  rw [← hg,PJ _ _ (QW hb)]
  exact OC _ q
 have oD:(g.push ‹47›).get? g.objs.size=some ‹47›:=OU g rfl
 show 20
 refine Oz (PQ (Qp UB ⟨_,oD,rfl⟩ Ub (Fc (s:={ s with heap:=g.push ‹47› }) hn oD fun h' c kp hD=>?_) (V8 _)))
 refine ⟨_,rfl,OL ⟨_,rfl,k h' g.objs.size c ‹5› (fun b o q=>kp b o (OS (by rw [gs]; exact Ph (OO q))) (OC _ (kg b o q))) hD⟩⟩
end
theorem ze {K:OA} (hK:X.K=K):dG X (.builtin "sorted") (fun xs H Q=>∃ a vs,xs=[.ref a]∧dw K H a vs∧vs.length<2∧∀ D,H D=none→Q (.ref D) (upd H D (.lst vs))):=by
 subst hK
 show 5
 obtain ⟨a,vs,rfl,hq,hn,q⟩:=h
 cases r with
 | cons r1 r =>
  cases r
  cases (show _=Pf a from r1)
  obtain ⟨its,rv,pl,hz⟩:=I.list hq
  refine z0 pl.isList (by rw [← rv.length]; exact hn) fun h' D c hD kp oD=>?_
  exact ⟨.ref D,upd H D (.lst vs),I.laid (t':=s.toks) kp hD ⟨hz,its,c,rv,oD⟩,rfl,q D (I.ck.fresh hD)⟩
def kP (zs:List (List Int)):List (List Int):=zs.mergeSort fun a b=>!lexLt b a
theorem hX (zs:List (List Int)):(kP zs).Perm zs:=Uh _ _
theorem rB (zs:List (List Int)):(kP zs).Pairwise fun a b=>lexLt b a=false:=by
 have h:=Td (le:=fun a b=>!lexLt b a) (fun a b c h1 h2=>by
  rw [Xe] at h1 h2 ⊢
  exact xf _ _ _ h1 h2) (fun a b=>by
  cases e:lexLt b a with
  | false=>rfl
  | true=>simp [xg _ _ e]) zs
 exact h.imp fun h=>by simpa using h
theorem u3 {xs zs:List (List Int)} (p:xs.Perm zs) (h:xs.Pairwise fun a b=>lexLt b a=false):xs=kP zs :=
 RN (fun a b _ _ h1 h2=>Az a b h2 h1) h (rB zs) (p.trans (hX zs).symm)
def Ki (K:OA):List V→Hp→VK→Prop:=fun xs H Q=>∃ a vs,xs=[.ref a]∧dw K H a vs∧vs.length<2∧∀ D,H D=none→Q (.ref D) (upd H D (.lst vs))
end L2
namespace VL
open PySem L2
section
open Classical
noncomputable section
variable [bE] {K:OA}
def CL (z:List Int):D:=.tup (z.map D.int)
theorem nr:∀ {a b:List Int},a.map D.int=b.map D.int→a=b
 | [],[],_=>rfl
 | [],_::_,h=>by cases h
 | _::_,[],h=>by cases h
 | x::a,y::b,h=>by
  injection h with h1 h2
  injection h1 with h1
  rw [h1,nr h2]
theorem ED (a b:List Int) (h:CL a=CL b):a=b:=by
 unfold CL at h
 injection h with h
 exact nr h
theorem range_getD (zs:List (List Int)):(O0 zs.length).map (fun i=>zs.getD i [])=zs:=by
 refine RT (by simp) fun i h1 h2=>?_
 simp [h2]
def t3 (z:Int×Int×Int):D:=.tup [.int z.1,.int z.2.1,.int z.2.2]
end
end
end VL
namespace L2
open PySem PySem.Spec PyProof.Rows
theorem CM {a b:Int} {t u:Yq} {c:OD} (l:List OD) (h:U5 l):U5 (l++[.int a t,.int b u,c]):=by
 fun_induction U5 l with
 | case1=>trivial
 | case2 x t y u z rest ih=>exact ih h
 | case3=>exact h.elim
variable {pos:UM}
theorem Ba {a b:Int} {t u:Yq} {c v:OD} (l:List OD) (h:U5 l) (e:U6 pos (l++[.int a t,.int b u,c])=some v):U6 pos l=some v∨v=c:=by
 fun_induction U5 l with
 | case1 =>
  simp only [S3,U6] at e
  split at e
  ·cases e; exact .inr rfl
  ·cases e
 | case2 x t y u z rest ih =>
  simp only [TJ,U6] at e ⊢
  split at e
  ·rename_i q; rw [if_pos q]; exact .inl e
  ·rename_i q; rw [if_neg q]; exact ih h e
 | case3=>exact h.elim
def eJ (mg:P2→Option OD) (base:Qb):Prop:=∃ bm ob,mg "__builtins__" = some (.ref bm)∧bm≠Uu∧base.get? bm=some ob∧ob.cls=.type "module" ∧ ob.dict=some Uu∧ob.data=.plain
structure JQ (X:Cx) (c P:OF):Prop where
 code:X.env.code=.ref c
 hd:TK X.K c P=true
 bm:eJ X.mg X.base
abbrev nv (q:P2) (params:Uq) (body:Qg) (scope:Sb) (cl:List (P2×OF)) (mg:P2→Option OD) (c:OF) (ct:OD):Q5:=PySem.W.kla_obj "<lambda>" q params body scope cl ((mg "__name__").getD .none) c ct
def o6 (mg:P2→Option OD) (H:Hp) (q:P2) (params:Uq) (body:Qg) (scope:Sb) (cl:List (P2×OF)) (o:Q5):Prop :=
 ∃ c ct oc u vs t,o=nv q params body scope cl mg c ct∧H c=some (.jS oc u)∧oc.data=.fields vs∧vs[1]?=some (.str q t)
variable {X:Cx} {pins:List (OF×Q5)} {σ:St} {H:Hp} {q:P2} {params:Uq} {body:Qg} {scope:Sb} {cl:List (P2×OF)}
theorem Gd {s:OG} {c P:OF} {ps:Array OD} {t:Yq} (lo:JQ X c P) (I:Inv X pins σ H s)
 (hP:H P=some (.tbl ps)) (h0:ps[0]?=some (.str q t)) (hq:X.env.qual ++ "<lambda>" = q) (hcl:S9 scope X.env=pure cl) (hdef:defaultsOf params X.env=([],[])) :
 OX ‹7› X.A (eval (.Lambda params body scope pos) X.env) (fun v s'=>∃ f o H',v=.ref f∧Inv X (pins++[(f,o)]) σ H' s'∧(∀ b u,H b=some u→H' b=some u)∧(∀ p∈X.pn++pins,p.1≠f)∧‹24›≤f∧o6 X.mg H' q params body scope cl o) X.xe s:=by
 refine PySem.W.kla_eval hdef ?_
 obtain ⟨q',t',qs,e0,e1,e2,e3⟩:=(show cu X.prog X.w H s.heap P (.tbl ps) from I.ck P _ hP)
 rw [h0] at e0
 cases e0
 have hg:s.heap.Ns OV X.mg:=I.mod.glob.keeps I.bk
 have hgP:OV≠P:=fun z=>by
  obtain ⟨o,es,ep,e,_⟩:=I.mod.glob
  have:=(I.bs _ _ e).2
  rw [z,hP] at this; cases this
 obtain ⟨bm,ob,b1,b2,b3,b4,b5,b6⟩:=lo.bm
 have nG:bm≠OV:=fun z=>by
  obtain ⟨o,es,ep,e,hd,_⟩:=I.mod.glob
  rw [z,e] at b3; cases b3; rw [hd] at b6; cases b6
 have nB:bm≠P:=fun z=>by
  have:=(I.bs _ _ b3).2
  rw [z,hP] at this; cases this
 have hb:s.heap.BuiltinsAt X.mg P:=⟨bm,ob,b1,b2,nG,nB,I.bk _ _ b3,b4,b5,b6⟩
 have C:=(Ww I.mod.MY lo.hd).keeps I.bk
 have Ls:‹27›<s.heap.objs.size:=I.lt
 have fsl:∀ b∈X.fs,b<s.heap.objs.size:=fun b hb=>by
  obtain ⟨_,o,ho,_⟩:=I.ok.p6.mem hb
  exact OZ (OO ho) I.sz
 rw [hq]
 cases hf:U6 pos qs.toList with
 | none =>
  refine PySem.W.kla_makeFunction (mg:=X.mg) hcl I.ok.glob hg lo.code C e1 e2 hf hgP hb fun c' ctv h' tk hx hge hlt hrec htb=>?_
  have hc:H c'=none:=I.ck.fresh hge
  have hcP:c'≠P:=fun z=>by rw [z,hP] at hc; cases hc
  have ge:‹1›≤h'.objs.size:=Pq hge (QO hlt)
  have kp:∀ b u,b≠P→s.heap.get? b=some u→(h'.push (nv q params body scope cl X.mg c' ctv)).get? b=some u:=fun b u hb e=>OC _ (hx b u hb e)
  have nP:∀ b,H b=none→b≠P:=fun b e z=>by rw [z,hP] at e; cases e
  obtain ⟨c2,oc,vs,t2,z1,z2,z3,z4⟩:=hrec
  cases z1
  have up:∀ b u,H b=some u→upd H c' (.jS oc (.own P)) b=some u:=fun b u e=>by rw [upd_ne (br e hc)]; exact e
  have I1:Inv X pins σ (upd H c' (.jS oc (.own P))) { s with heap:=h'.push (nv q params body scope cl X.mg c' ctv),gens:=s.gens,drawn:=s.drawn,toks:=tk }:=by
   refine I.step (ch:=[]) (fun _ z=>nomatch z) (fun b o _ _ _ e n=>kp b o (nP b n) e) (fun b o _ _ _ e n=>⟨o.slots,kp b o (nP b n) e⟩) (fun b o _ e n=>?_) (fun b o _ e=>?_) (fun b xs e=>up _ _ e) (fun b o u e=>up _ _ e) (fun b ps' e=>⟨#[],by rw [up _ _ e]; simp⟩) (fun m hm=>?_) (fun b u e=>?_) I.bare
   ·rw [upd_ne (OS (OZ (OO e) hge))]; exact n
   ·by_cases z:b=P
    ·subst z; exact ⟨_,OC _ htb⟩
    ·exact ⟨o,kp b o z e⟩
   ·exact (hm.extBut hx fun z=>by have:=I.free; rw [z,hP] at this; cases this).push _
   ·by_cases z:b=c'
    ·subst z
     rw [aF] at e
     cases e
     exact ⟨OC _ z2,oc,OC _ z2⟩
    ·rw [upd_ne z] at e
     by_cases z2:b=P
     ·subst z2
      rw [hP] at e
      cases e
      refine ⟨q,t,qs++#[QU pos.line,QU pos.col,.ref c'],h0,OC _ htb,?_,fun pos' v ev=>?_⟩
      ·rw [Wx]; exact CM _ e2
      ·rw [Wx] at ev
       rcases Ba _ e2 ev with ev | rfl
       ·obtain ⟨c3,o,u,vs,t2,y1,y2,y3⟩:=e3 pos' v ev
        exact ⟨c3,o,u,vs,t2,y1,up _ _ y2,y3⟩
       ·exact ⟨c',oc,_,vs,t2,rfl,aF,z3,z4⟩
     ·refine (I.ck b u e).nc (fun x v hxv ex=>kp x v ?_ ex) (fun x ex=>up _ _ ex) (fun x xs ex=>up _ _ ex) fun x o u ex=>up _ _ ex
      rcases hxv with rfl | hxv
      ·exact z2
      ·exact fun w=>by rw [w,hP] at hxv; cases hxv
  have fz:∀ b o,s.heap.get? b=some o→b≠h'.objs.size:=fun b o e=>OS (OZ (OO e) ge)
  refine ⟨h'.objs.size,nv q params body scope cl X.mg c' ctv,upd H c' (.jS oc (.own P)),rfl,I1.jN fun p hp=>?_,up,fun p hp z=>?_,Pq I.sz ge,c',ctv,oc,.own P,vs,t2,rfl,aF,z3,z4⟩
  ·show 7
   ·exact I1.pin p (OJ _ hp)
   ·cases OB.mp hp
    refine ⟨OU _ rfl,?_,QW (OZ Ls ge),fun z=>absurd (OZ (fsl _ z) ge) (PB _),fun v z=>by cases z⟩
    show upd H c' (.jS oc (.own P)) h'.objs.size=none
    rw [upd_ne (QW hlt)]
    exact I.ck.fresh ge
  ·exact fz _ _ (I.pin p hp).1 z
 | some cv =>
  obtain ⟨c',oc,u,vs,t2,rfl,hown,z3,z4⟩:=e3 pos cv hf
  refine PySem.W.kla_makeFunctionHit (mg:=X.mg) hcl I.ok.glob hg lo.code C e1 e2 hf hb fun ctv h' tk hk hsz=>?_
  have kp:∀ b u,s.heap.get? b=some u→(h'.push (nv q params body scope cl X.mg c' ctv)).get? b=some u:=fun b u e=>OC _ (hk b u e)
  have I1:Inv X pins σ H { s with heap:=h'.push (nv q params body scope cl X.mg c' ctv),toks:=tk }:=I.kept kp
  refine ⟨h'.objs.size,nv q params body scope cl X.mg c' ctv,H,rfl,I1.jN fun p hp=>?_,fun _ _ e=>e,fun p hp z=>?_,Pq I.sz hsz,c',ctv,oc,u,vs,t2,rfl,hown,z3,z4⟩
  ·show 7
   ·exact I1.pin p (OJ _ hp)
   ·cases OB.mp hp
    exact ⟨OU _ rfl,I.ck.fresh hsz,QW (OZ Ls hsz),fun z=>absurd (OZ (fsl _ z) hsz) (PB _),fun v z=>by cases z⟩
  ·exact absurd z (OS (OZ (OO (I.pin p hp).1) hsz))
structure kh (X:Cx) (x:P2) (zs:List P2) (is:List Nat) (scope:Sb) (cl:List (P2×OF)):Prop where
 par:scope.names.lookup x=some .local
 sub:∀ y c,cl.lookup y=some c→X.env.cells.lookup y=some c
 IP:∀ (j:Nat) (z:P2),zs[j]?=some z→∃ i c,is[j]?=some i∧X.N[i]?=some z∧‹23›∧cl.lookup z=some c∧scope.names.lookup z=some .free
 has:∀ y,(scope.names.lookup y=some .cell∨scope.names.lookup y=some .free)→∃ c,cl.lookup y=some c
 len:is.length=zs.length
 wY:∀ y∈scope.names,y.2≠.cell
 kind:scope.kind=.function
 co:scope.isCoroutine=false
 gen:scope.isGenerator=false
inductive zu (X:Cx) (scope:Sb) (cl:List (P2×OF)):List Nat→List P2→Prop
 | nil:zu X scope cl [] []
 | cons {i:Nat} {z:P2} {c:OF} {is:List Nat} {zs:List P2}:X.N[i]?=some z→‹23›→cl.lookup z=some c→scope.names.lookup z=some .free→zu X scope cl is zs→zu X scope cl (i::is) (z::zs)
variable {zs:List P2}
theorem zu.get {is:List Nat} (h:zu X scope cl is zs):∀ (j:Nat) (z:P2),zs[j]?=some z→∃ i c,is[j]?=some i∧X.N[i]?=some z∧‹23›∧cl.lookup z=some c∧scope.names.lookup z=some .free:=by
 induction h with
 | nil=>intro j z e; simp at e
 | cons h1 h2 h3 h4 _ ih =>
  intro j z e
  cases j with
  | zero=>cases e; exact ⟨_,_,rfl,h1,h2,h3,h4⟩
  | succ j=>exact ih j z ‹56›
theorem zu.len {is:List Nat} (h:zu X scope cl is zs):is.length=zs.length:=by
 induction h with
 | nil=>rfl
 | cons _ _ _ _ _ ih=>simp [ih]
variable {x:P2}
theorem kh.many {is:List Nat} (hs:SubL X cl) (hc:zu X scope cl is zs) (ha:(scope.names.all fun y=>!(y.2==.cell || y.2==.free) || zs.contains y.1)=true) (par:scope.names.lookup x=some .local)
 (wY:∀ y∈scope.names,y.2≠.cell) (kind:scope.kind=.function) (co:scope.isCoroutine=false) (gen:scope.isGenerator=false):kh X x zs is scope cl where
 par:=par
 sub:=hs.sub
 IP:=hc.get
 has:=fun y h=>by
  have key:∀ kd,scope.names.lookup y=some kd→(kd==WK || kd==Yj)=true→y∈zs:=fun kd e q=>by
   have m:=Qu.mp ha _ (QG e)
   rw [q] at m
   have:zs.contains y=true:=by simpa using m
   exact VN.mp this
  have mem:y∈zs:=by
   rcases h with h | h
   ·exact key _ h rfl
   ·exact key _ h rfl
  obtain ⟨j,hj⟩:=Sw mem
  obtain ⟨i,c,_,_,_,f4,_⟩:=hc.get j y hj
  exact ⟨c,f4⟩
 len:=hc.len
 wY:=wY
 kind:=kind
 co:=co
 gen:=gen
abbrev AA (q:P2) (scope:Sb) (L:OF) (f c:OF) (cl:List (P2×OF)):XQ:=newEnv scope L OV cl (q ++ ".<locals>.") (some f) (.ref c) none Uu
def oO (X:Cx) (N':List P2) (q:P2) (scope:Sb) (cl:List (P2×OF)) (f c:OF) (A:P8) (s:OG) (H:Hp) (pins:List (OF×Q5)):Cx :=
 { X with A:=A.deeper (AA q scope ‹1› f c cl),N:=N',s₀:=s,H₀:=H,env:=AA q scope ‹1› f c cl,outer:=X.stack,stack:=AA q scope ‹1› f c cl::X.stack,ex:=[],fn:=fun _=>false,calm:=true,pn:=X.pn++pins,xe:=fun _ _=>False }
variable {o:Q5} {Q:VK}
theorem Ge {s:OG} {f:OF} {A:P8} {is:List Nat} {te:TE} {v:V} {u:OD}
 (I:Inv X pins σ H s) (L:o6 X.mg H q params body scope cl o) (hf:(f,o)∈X.pn++pins) (fr:kh X x zs is scope cl) (hA:A.frames=some X.stack) (hh:A.handled=none) (hroom:A.depth<RS)
 (hb:∀ (c:OF) (ct u:OD),Ux ‹14› ⟨[u],[]⟩=pure [(x,u)])
 (he:∀ f c s H pins,PE (oO X (x::zs) q scope cl f c A s H pins) body te) (rv:RelV v u) (h:te (some v::is.map fun i=>(σ[i]?).join) H Q) :
 OX ‹7› A (call (.ref f) [u]) (fun r s'=>(∃ y H',Inv X pins σ H' s'∧RelV y r∧Q y H')∧∀ m,s.heap.Ns ‹27› m→s'.heap.Ns ‹27› m) (fun _ _=>False) s:=by
 obtain ⟨c,ct,oc,w',vs,t,rfl,hc,hd,h1⟩:=L
 have ho:=(I.pin _ hf).1
 have hcd:s.heap.CodeRec (.ref c) q:=⟨c,oc,vs,t,rfl,(show cu X.prog X.w H s.heap c (.jS oc w') from I.ck c _ hc).1,hd,h1⟩
 refine X4 (R7 (PySem.W.kla_callFunE (R:=fun r s'=>∃ u,r=.ok (.ret u)∧(∃ y H',Inv X pins σ H' s'∧RelV y u∧Q y H')∧∀ m,s.heap.Ns ‹27› m→s'.heap.Ns ‹27› m) hroom ho rfl fr.co fr.gen rfl hcd ?_) fun r s' hq=>?_)
 ·rw [hb]
  refine OL (wpAny_newFunctionEnv fr.wY (fun y hy=>?_) (fun h₁ hns hsb=>⟨?_,PySem.W.kla_codeExpr ?_⟩) fr.kind)
  ·cases OB.mp hy
   exact fr.par
  ·have old:∀ b o,s.heap.get? b=some o→h₁.get? b=some o:=fun b o e=>hsb.extBut b o (OS (OO e)) (OC _ e)
   exact I.nolimit.keeps old
  ·have old:∀ b o,s.heap.get? b=some o→h₁.get? b=some o:=fun b o e=>hsb.extBut b o (OS (OO e)) (OC _ e)
   have noA:∀ b:OF,b∉([]:List OF):=fun b=>by simp
   have start:Inv (oO X (x::zs) q scope cl f c A s H pins) [] (some v::is.map fun i=>(σ[i]?).join) H { s with heap:=h₁,toks:=s.toks+1 }:=by
    refine ⟨⟨I.ok.mod,fr.kind,rfl,rfl,OT _,fun y z c h1 h2=>I.ok.inj y z c (fr.sub y c h1) (fr.sub z c h2),fun y hy=>fr.has y hy,fun y c h _=>(by cases h),fun _=>hh,VZ hA,.inr ⟨rfl,rfl⟩,fun b z=>absurd z (noA b),I.bs,Pq I.ok.Cw I.sz,fun b _ _=>noA b,fun b z=>absurd z (noA b),I.stack,I.wa⟩,
     rfl,I.bare,Un.kept old,⟨_,hns,fun j y v' e1 e2 _=>?_⟩,fun y c e=>?_,I.ck.fresh (OT _),fun y c e=>I.iY y c (fr.sub y c e),fun p hp=>?_,I.ck.kept old,?_⟩
    ·cases j with
     | zero =>
      cases e1
      cases e2
      exact ⟨u,rv,.inl ⟨fr.par,by simp⟩⟩
     | succ j =>
      have e1:zs[j]?=some y:=by simpa [oO] using e1
      have e2:(is.map fun i=>(σ[i]?).join)[j]?=some (some v'):=by simpa using e2
      obtain ⟨i,c2,f1,f2,f3,f4,f5⟩:=fr.IP j y e1
      rw [OH,f1] at e2
      have e3:(σ[i]?).join=some v':=Pm e2
      obtain ⟨m,hn,hl⟩:=I.loc
      obtain ⟨u2,r2,l⟩:=hl i y v' f2 (VL.join_some e3) (by rcases f3 with z | z; exact .inr (.inl z); exact .inr (.inr z))
      refine ⟨u2,r2,.inr ⟨.inr f5,c2,f4,?_⟩⟩
      rcases l with ⟨k,_⟩ | ⟨_,c',e',z⟩
      ·have k:X.env.scope.names.lookup y=some .local:=k
       rcases f3 with z | z <;> rw [z] at k <;> cases k
      ·rw [fr.sub y c2 f4] at e'
       cases e'
       obtain ⟨o,ho,hd⟩:=z
       exact ⟨o,old _ _ ho,hd⟩
    ·obtain ⟨v,o,ho,hd⟩:=I.cell y c (fr.sub y c e)
     exact ⟨v,o,old _ _ ho,hd⟩
    ·have hp':p∈X.pn++pins:=by simpa [oO] using hp
     obtain ⟨e,n,ne,nf,d⟩:=I.pin p hp'
     refine ⟨old _ _ e,n,OS (OO e),fun z=>?_,d⟩
     rcases OP.mp (I.sh p.1 z) with q | q
     ·exact ne q
     ·exact nf q
    ·show _=(x::zs).length
     rw [OW,Oy,OW,fr.len]
   refine Qw (he f c s H pins [] _ _ H _ start h) (fun r s' hq=>?_) fun _ _ z=>z.elim
   obtain ⟨y,H',J,ry,qy⟩:=hq
   refine ⟨r,rfl,⟨y,H',I.JP J.os J.base J.ck J.bare (fun b z=>absurd z (noA b)),ry,qy⟩,fun m hm=>?_⟩
   obtain ⟨o,es,ep,e1,e2⟩:=hm
   obtain ⟨sl,e3⟩:=J.base.any (b:=‹27›) e1 I.free (noA _)
   exact ⟨_,es,ep,e3,e2⟩
 ·obtain ⟨u,rfl,hq⟩:=hq
  exact hq
section
variable {X:Cx} {pins:List (OF×Q5)} {σ:St} {H:Hp} {s:OG} {m:P2→Option OD} {h':Qb} {kS:OF} {ok:Q5}
theorem Inv.Nu (I:Inv X pins σ H s) (hm:s.heap.Ns ‹27› m):Fr X.base ‹27› s.heap m:=⟨hm,I.bk,Pq I.ok.Cw I.ok.above⟩
theorem DA (F':Fr X.base ‹27› h' m) (N':Xs X.base ‹27› h' ((kS,o)::rest X.base s.heap ‹27› kS)) (I:Inv X pins σ H s):∀ b v,b≠‹27›→b≠kS→s.heap.get? b=some v→h'.get? b=some v:=fun b v hb hk q=>by
 cases e:X.base.get? b with
 | some y =>
  have e1:=I.bk b y e
  rw [q] at e1
  cases e1
  exact F'.keep b v e
 | none=>exact (N' (b,v) (OI _ (P5.mpr ⟨cS hb e q,by simpa using hk⟩))).1
theorem Inv.sI {t':Nat} (I:Inv X pins σ H s) (hm:s.heap.Ns ‹27› m) (F':Fr X.base ‹27› h' m) (N':Xs X.base ‹27› h' ((kS,o)::rest X.base s.heap ‹27› kS))
 (h0:H kS=none) (h1:‹24›≤kS) (h2:kS≠‹27›) (h3:∀ x c,X.env.cells.lookup x=some c→c≠kS) (h4:∀ p∈X.pn++pins,p.1≠kS):Inv X pins σ H { s with heap:=h',toks:=t' }:=by
 have keep:=DA F' N' I
 refine I.step (g':=s.gens) (d':=s.drawn) (ch:=[kS]) (fun b hb=>?_) (fun b v q1 _ q2 q _=>keep b v q1 (fun z=>q2 (by rw [z]; exact OB.mpr rfl)) q) (fun b v q1 _ q2 q _=>⟨v.slots,keep b v q1 (fun z=>q2 (by rw [z]; exact OB.mpr rfl)) q⟩) (fun _ _ _ _ n=>n) (fun b v hb q=>?_) (fun _ _ q=>q) (fun _ _ _ q=>q) (fun b ps q=>⟨#[],by rw [q]; simp⟩) (fun m' hm'=>?_) (fun b w q=>?_) I.bare
 ·rw [OB.mp hb]; exact ⟨.inr h1,h2,h3,h4⟩
 ·by_cases hL:b=‹27›
  ·subst hL
   obtain ⟨o2,_,_,e2,_⟩:=F'.ns
   exact ⟨o2,e2⟩
  ·exact ⟨v,keep b v hL (fun z=>hb (by rw [z]; exact OB.mpr rfl)) q⟩
 ·have e1:=hm'.eq_nsMap
  have e2:=hm.eq_nsMap
  rw [e1,← e2]
  exact F'.ns
 ·have nL:∀ b w,H b=some w→b≠X.env.locals:=fun b w q z=>by rw [z,I.free] at q; cases q
  have nK:∀ b w,H b=some w→b≠kS:=fun b w q z=>by rw [z,h0] at q; cases q
  refine (I.ck b w q).nc (fun c y hc r=>keep c y ?_ ?_ r) (fun _ r=>r) fun _ _ r=>r
  ·rcases hc with rfl | hc
   ·exact nL _ _ q
   ·exact nL _ _ hc
  ·rcases hc with rfl | hc
   ·exact nK _ _ q
   ·exact nK _ _ hc
end
def Hk (H H':Hp):Prop:=∀ b u,H b=some u→H' b=some u
theorem o6.grow {mg:P2→Option OD} {H':Hp} (L:o6 mg H q params body scope cl o) (g:Hk H H'):o6 mg H' q params body scope cl o:=by
 obtain ⟨c,ct,oc,u,vs,t,e1,e2,e3⟩:=L
 exact ⟨c,ct,oc,u,vs,t,e1,g _ _ e2,e3⟩
variable {xs:List V} {us:List OD} {vs:List V} {kw:List (P2×OD)} {a:OF} {P:Yr→OG→Prop} {f:OD} {k:Nat}
def oQ (te:TE) (fs:List (Option V)) (Fin:List V→Hp→Prop):List V→List V→Hp→Prop
 | [],ks,H=>Fin ks H
 | v::r,ks,H=>te (some v::fs) H fun k H'=>Hk H H'∧oQ te fs Fin r (ks++[k]) H'
section
variable {X:Cx} {pins:List (OF×Q5)} {σ:St} {m:P2→Option OD} {kS f:OF} {o:Q5} {q:P2} {params:Uq} {body:Qg} {scope:Sb} {cl:List (P2×OF)} {A:P8} {x:P2} {zs:List P2} {is:List Nat} {te:TE} {Fin:List V→Hp→Prop}
theorem sX (fr:kh X x zs is scope cl) (hA:A.frames=some X.stack) (hh:A.handled=none) (hroom:A.depth<RS)
 (hb:∀ (c:OF) (ct u:OD),Ux ‹14› ⟨[u],[]⟩=pure [(x,u)])
 (he:∀ f c s H pins,PE (oO X (x::zs) q scope cl f c A s H pins) body te) (hf:(f,o)∈pins) (h1:‹24›≤kS) (h4:∀ p∈X.pn++pins,p.1≠kS):∀ {r:List V} {rv:List OD} {ks:List V} {kvs:List OD} {e:Nat} {H:Hp} {s:OG},
 Vals r rv→Vals ks kvs→Inv X (pins++[(kS,Pp "list" kvs.toArray e)]) σ H s→s.heap.Ns ‹27› m→o6 X.mg H q params body scope cl o→oQ te (is.map fun i=>(σ[i]?).join) Fin r ks H →
 PySem.W.KatKeys X.prog X.w A X.base ‹27› m kS (.ref f) (fun kvs' e' s'=>∃ ks' H',Inv X (pins++[(kS,Pp "list" kvs'.toArray e')]) σ H' s'∧s'.heap.Ns ‹27› m∧Vals ks' kvs'∧Fin ks' H') rv kvs e s
 | [],_,ks,kvs,e,H,s,.nil,rk,I,hm,L,h=>YE ⟨ks,H,I,hm,rk,h⟩
 | v::r,_,ks,kvs,e,H,s,.cons rv1 rv,rk,I,hm,L,h=>by
  refine YD (Qw (Ge I L (OJ _ (Pa _ hf)) fr hA hh hroom hb he rv1 h) (fun k s' hq=>?_) fun _ _ z=>z)
  obtain ⟨⟨y,H',J,ry,g,hk⟩,hns⟩:=hq
  have hm':=hns m hm
  obtain ⟨p1,p2,p3,p4,p5⟩:=J.pin (kS,Pp "list" kvs.toArray e) ‹58›
  have hbase:X.base.get? kS=none:=by
   cases eb:X.base.get? kS with
   | none=>rfl
   | some y=>exact absurd (OZ (OO eb) (Pq J.ok.Cw h1)) (PB _)
  refine Yz (J.Nu hm') (oJ p3 hbase p1) (.head fun p hp=>by simpa using (P5.mp hp).2) fun h2 c F2 N2=>?_
  have J0:Inv X pins σ H' s':=J.fm
  have cells:∀ x c,X.env.cells.lookup x=some c→c≠kS:=fun x c e z=>by
   obtain ⟨v,o,ho,hd⟩:=J.cell x c e
   rw [z,p1] at ho
   cases ho
   exact p5 v hd
  have J1:Inv X pins σ H' { s' with heap:=h2,toks:=s'.toks }:=J0.sI hm' F2 N2 p2 h1 p3 cells h4
  have J2:Inv X (pins++[(kS,Pp "list" (kvs++[k]).toArray c)]) σ H' { s' with heap:=h2,toks:=s'.toks }:=J1.jN fun p hp=>by
   show 7
   ·exact J1.pin p (OJ _ hp)
   ·cases OB.mp hp
    exact ⟨(N2 _ ON).1,p2,p3,p4,fun v z=>by cases z⟩
  exact sX fr hA hh hroom hb he hf h1 h4 rv (rk.append (.cons ry .nil)) J2 F2.ns (L.grow g) hk
structure Nil (X:Cx) (pins:List (OF×Q5)) (H:Hp) (b:OF):Prop where
 h:H b=none
 cell:∀ x c,X.env.cells.lookup x=some c→c≠b
 pin:∀ p∈X.pn++pins,p.1≠b
 fs:b∉X.fs
theorem Inv.nil {s:OG} (I:Inv X pins σ H s) {b:OF} (e:s.heap.get? b=none):Nil X pins H b where
 h:=by
  cases q:H b with
  | none=>rfl
  | some o=>obtain ⟨u,hu⟩:=(I.ck b o q).live; rw [e] at hu; cases hu
 cell:=fun x c q z=>by
  obtain ⟨v,o,ho,_⟩:=I.cell x c q
  rw [z,e] at ho; cases ho
 pin:=fun p hp z=>by
  have:=(I.pin p hp).1
  rw [z,e] at this; cases this
 fs:=fun z=>by
  obtain ⟨_,o,ho,_⟩:=I.ok.p6.mem z
  obtain ⟨o',h'⟩:=I.base.there b o ho fun hx=>I.ok.Gz b hx z
  rw [e] at h'; cases h'
theorem EA (h:Vals xs us):Vals xs.reverse us.reverse:=by
 induction h with
 | nil=>exact .nil
 | cons a _ ih=>rw [To,To]; exact ih.append (.cons a .nil)
theorem qC (b:Bool) (h:Vals xs us):Vals (Q0 b xs) (Q0 b us):=by
 cases b with
 | false=>exact h
 | true=>exact EA h
theorem xT {xs:List V} {us:List OD} (h:Vals xs us):∀ {l:List Nat},(∀ i∈l,i<xs.length)→Vals (l.map fun i=>xs.getD i .non) (l.map fun i=>us.getD i Qi)
 | [],_=>.nil
 | i::l,hl=>by
  have hi:=hl i ON
  obtain ⟨w,ew,rw'⟩:=h.get (Ow hi)
  refine .cons ?_ (xT h fun j hj=>hl j (OI _ hj))
  have ev:xs.getD i .non=xs[i]:=by rw [Ox,Ow hi]; rfl
  have eu:us.getD i Qi=w:=by rw [Ox,ew]; rfl
  show RelV (xs.getD i .non) (us.getD i Qi)
  rw [ev,eu]
  exact rw'
def Jc (X:Cx) (b:Bool) (vs:List V) (Q:VK) (ks:List V) (H:Hp):Prop:=∃ lt:Nat→Nat→Bool,zq.Ord lt ∧
 (∀ (pins:List (OF×Q5)) (σ:St) (s:OG) (kvs:List OD),Inv X pins σ H s→Vals ks kvs→2≤kvs.length→∃ κ,(∀ Q':SortKind→OG→Prop,Q' κ s→OX ‹7› X.A.in1.in1 (keyKind' (RK kvs)) Q' (fun _ _=>False) s) ∧
  ∀ i j (C:Bool→OG→Prop),i<kvs.length→j<kvs.length→C (lt i j) s→Uc X.prog X.w X.A.in1.in1 κ (Q0 b kvs) i j C s) ∧
 ∀ p:List Nat,p.Perm (O0 ks.length)→(p.Pairwise fun i j=>lt j i=false)→∀ D,H D=none→Q (.ref D) (upd H D (.lst (Q0 b (p.map fun i=>(Q0 b vs).getD i .non))))
def Ea (vs:List V) (Q:VK) (ks:List V) (H:Hp):Prop:=∃ (ps:List OF) (kz:List (List Int)),ks=ps.map V.ref∧MK H ps kz ∧
 ∀ idx:List Nat,idx.Perm (O0 kz.length)→(idx.Pairwise fun i j=>lexLt (kz.getD j []) (kz.getD i [])=false)→∀ D,H D=none→Q (.ref D) (upd H D (.lst (idx.map fun i=>vs.getD i .non)))
theorem Ea.g {ks:List V} (h:Ea vs Q ks H):Jc X false vs Q ks H:=by
 obtain ⟨ps,kz,rfl,tz,qf⟩:=h
 have hlp:ps.length=kz.length:=QB tz
 refine ⟨fun i j=>lexLt (kz.getD i []) (kz.getD j []),B2 fun i=>kz.getD i [],fun pins σ s kvs J rk h2=>?_,fun p pm up D hD=>qf p (by rw [Oy,hlp] at pm; exact pm) up D hD⟩
 have ek:=BI rk
 subst ek
 rw [Oy] at h2
 have it:∀ i,i<kz.length→∃ p z o us n,ps[i]?=some p∧kz[i]?=some z∧z≠[]∧s.heap.get? p=some o∧o.cls=.type "tuple" ∧ o.data=.seq us.toArray n∧RJ us z:=fun i hi=>by
  obtain ⟨p,e1,g1,g2⟩:=VL.Paired.DL tz (Ow hi)
  obtain ⟨o,us,n,k1,k2,k3,k4⟩:=CK J g2
  exact ⟨p,_,o,us,n,e1,Ow hi,g1,k1,k2,k3,k4⟩
 obtain ⟨fs,kt,fl,ff⟩:=yF (h:=s.heap) (ps:=ps) fun p hp=>by
  obtain ⟨i,hi,rfl⟩:=TV.mp hp
  obtain ⟨p',z,o,us,n,e1,e2,g1,k1,k2,k3,k4⟩:=it i ‹5›
  rw [Ow hi] at e1
  cases e1
  cases k4 with
  | nil=>exact absurd rfl g1
  | cons x t r=>exact ⟨o,_,n,x,t,_,k1,k2,k3,rfl⟩
 refine ⟨_,fun Q' hq=>PySem.W.kat_kind (T:=.type "int") kt ‹5› (fun v hv=>?_) ‹11› hq,fun i j C hi hj hC=>?_⟩
 ·obtain ⟨x,t,rfl⟩:=ff v hv
  exact PySem.W.Looks.of_pure rfl
 ·rw [Oy] at hi hj
  obtain ⟨p,z,o,us,n,e1,e2,g1,k1,k2,k3,k4⟩:=it i ‹5›
  obtain ⟨p',z',o',us',n',e1',e2',g1',k1',k2',k3',k4'⟩:=it j ‹5›
  have ei:(ps.map Pf).getD i Qi=.ref p:=by rw [Ox,OH,e1]; rfl
  have ej:(ps.map Pf).getD j Qi=.ref p':=by rw [Ox,OH,e1']; rfl
  have zi:kz.getD i []=z:=by rw [Ox,e2]; rfl
  have zj:kz.getD j []=z':=by rw [Ox,e2']; rfl
  unfold Uc
  show OX _ _ (keyLt' _ ((ps.map Pf).getD i Qi) ((ps.map Pf).getD j Qi)) _ _ _
  rw [ei,ej]
  dsimp only at hC
  rw [zi,zj] at hC
  refine PySem.W.kat_lt k1 k3 k1' k3' ?_
  have l1:=Tp k4
  have l2:=Tp k4'
  have lx:=yK (prog:=X.prog) (w:=X.w) (A:=X.A.in1.in1) (s:=s) 0 k4 k4' hC
  rw [← l1,← l2] at lx
  exact lx
theorem C0 {b:Bool} {s:OG} (I:Inv X (pins++[(f,o)]) σ H s) (hff:∀ p∈X.pn++pins,p.1≠f) (hf0:‹24›≤f) (L:o6 X.mg H q params body scope cl o)
 (fr:kh X x zs is scope cl) (hh:X.A.handled=none) (hroom:X.A.in1.in1.depth<RS) (hA:X.A.in1.in1.frames=some X.stack) (hh2:X.A.in1.in1.handled=none)
 (hb:∀ (c:OF) (ct u:OD),Ux ‹14› ⟨[u],[]⟩=pure [(x,u)])
 (he:∀ f c s H pins,PE (oO X (x::zs) q scope cl f c X.A.in1.in1 s H pins) body te)
 (hq:dw X.K H a vs) (h2:2≤vs.length) (h64:vs.length<64) (h:oQ te (is.map fun i=>(σ[i]?).join) Fin vs [] H) (hg:∀ ks H,ks.length=vs.length→Fin ks H→Jc X b vs Q ks H)
 (ha1:UC "sorted" ⟨[.ref a],kw⟩) (ha2:∀ x,UC "list.sort" ⟨[.ref x],kw⟩) (ht:∀ x,QP.«list.sort» ⟨[.ref x],kw⟩=Tz x (.ref f) b) :
 OX ‹7› X.A (call (.builtin "sorted") [.ref a] kw) (EP X pins σ Q) X.xe s:=by
 obtain ⟨its,rv,pl,_⟩:=I.list hq
 have hlv:its.length=vs.length:=rv.length.symm
 obtain ⟨m,F⟩:=I.fr
 have fin:(f,o)∈gh X.base s.heap X.env.locals:=by
  obtain ⟨p1,p2,p3,p4,p5⟩:=I.pin (f,o) ‹58›
  refine cS p3 ?_ p1
  cases eb:X.base.get? f with
  | none=>rfl
  | some y=>exact absurd (OZ (OO eb) (Pq I.ok.Cw hf0)) (PB _)
 refine PySem.W.kat_sortedK (vs:=its) (b:=b) (f:=.ref f) F (oK (h:=s.heap)) pl.isList ‹5› ‹5› ha1 ha2 ht fun D kS e1 h' F' N' hDk hlt=>?_
 have nK:=N' _ ON
 have nD:=N' _ (OI _ ON)
 have fD:f<D:=hlt _ fin
 have gD:s.heap.get? D=none:=by
  cases e:s.heap.get? D with
  | none=>rfl
  | some o=>exact absurd (hlt (D,o) (cS nD.2.1 nD.2.2 e)) (PB _)
 have gK:s.heap.get? kS=none:=by
  cases e:s.heap.get? kS with
  | none=>rfl
  | some o=>exact absurd (Vo hDk (hlt (kS,o) (cS nK.2.1 nK.2.2 e))) (PB _)
 have s0D:‹24›≤D:=Pq hf0 (QO fD)
 have s0K:‹24›≤kS:=Pq s0D (QO hDk)
 have zD:=I.nil gD
 have zK:=I.nil gK
 have N2:Xs X.base ‹27› h' ((kS,Pp "list" #[] 0)::rest X.base s.heap ‹27› kS):=fun p hp=>by
  show 19
  ·exact nK
  ·exact N' p (OI _ (OI _ (P5.mp hp).1))
 have I1:Inv X (pins++[(f,o)]) σ H { s with heap:=h',toks:=s.toks }:=I.sI F.ns F' N2 zK.h s0K nK.2.1 zK.cell zK.pin
 have I2:Inv X ((pins++[(f,o),(D,Pp "list" #[] e1)])++[(kS,Pp "list" ([]:List OD).toArray 0)]) σ H { s with heap:=h',toks:=s.toks }:=I1.jN fun p hp=>by
  show 7
  ·show 7
   ·exact I1.pin p (OJ _ (Pa _ hp))
   ·show 19
    ·exact I1.pin _ ‹58›
    ·cases OB.mp hp
     exact ⟨nD.1,zD.h,nD.2.1,zD.fs,fun v z=>by cases z⟩
  ·cases OB.mp hp
   exact ⟨nK.1,zK.h,nK.2.1,zK.fs,fun v z=>by cases z⟩
 have h4:∀ p∈X.pn++(pins++[(f,o),(D,Pp "list" #[] e1)]),p.1≠kS:=fun p hp=>by
  show 7
  ·exact zK.pin p (Pa _ hp)
  ·show 7
   ·exact zK.pin p (OJ _ (Pa _ hp))
   ·show 19
    ·exact zK.pin _ ‹58›
    ·cases OB.mp hp
     exact OS hDk
 refine VO (sX fr hA hh2 hroom hb he (OJ _ ON) s0K h4 rv .nil I2 F'.ns L h) fun kvs e3 s3 hl3 hfin=>?_
 obtain ⟨ks,H3,J,hm3,rk,fin⟩:=hfin
 have hl3:kvs.length=vs.length:=by rw [hl3,Pb]; omega
 have hlz:=rk.length
 obtain ⟨lt,ord,ask,qf⟩:=hg _ _ ‹5› fin
 obtain ⟨κ,kind,ask⟩:=ask _ _ _ _ J rk ‹5›
 refine kind _ ?_
 show (PySem.W.kas_sort its.length).kasWp (Uc _ _ _ _ (Q0 b kvs)) _ _
 have hlk:its.length=kvs.length:=by omega
 rw [hlk]
 refine zq.i7.wp (lt:=lt) (N:=kvs.length) ask _ (zq.i7.mono (fun p hp=>?_) _ (zq.BA ord ‹5›))
 obtain ⟨pm,up⟩:=hp
 have hlen:p.toList.length=kvs.length:=by rw [pm.length_eq,PK]
 have lt_:∀ i∈p.toList,i<kvs.length:=fun i hi=>O8.mp (pm.mem_iff.mp hi)
 have upw:p.toList.Pairwise fun i j=>lt j i=false:=by
  rw [SN]
  intro i j hi hj hij
  have hu:=up i j ‹5› ‹5›
  have gi:zq.g p i=p.toList[i]:=by unfold zq.g; rw [Pd,O6 (by simpa using hi)]; rfl
  have gj:zq.g p j=p.toList[j]:=by unfold zq.g; rw [Pd,O6 ‹44›]; rfl
  rw [gi,gj] at hu
  exact hu
 obtain ⟨p1,p2,p3,p4,p5⟩:=J.pin (kS,Pp "list" kvs.toArray e3) ‹58›
 refine V9 (J.Nu hm3) (oJ p3 nK.2.2 p1) (.head rD) fun h5 c5 F5 N5=>?_
 have cells:∀ x c,X.env.cells.lookup x=some c→c≠kS:=fun x c e z=>by
  obtain ⟨v,o,ho,hd⟩:=J.cell x c e
  rw [z,p1] at ho
  cases ho
  exact p5 v hd
 have J5:Inv X (pins++[(f,o),(D,Pp "list" #[] e1)]) σ H3 { s3 with heap:=h5,toks:=s3.toks }:=(Inv.fm J).sI hm3 F5 N5 p2 s0K p3 cells h4
 obtain ⟨d1,d2,d3,d4,d5⟩:=J5.pin (D,Pp "list" #[] e1) (OJ _ (OJ _ (OI _ (OB.mpr rfl))))
 refine TX F5 (oJ d3 nD.2.2 d1) (.head rD) fun h6 c6 F6 N6=>?_
 have J6:Inv X pins σ H3 { s3 with heap:=h5,toks:=s3.toks }:=J5.fm
 have cellsD:∀ x c,X.env.cells.lookup x=some c→c≠D:=fun x c e z=>by
  obtain ⟨v,o,ho,hd⟩:=J5.cell x c e
  rw [z,d1] at ho
  cases ho
  exact d5 v hd
 have pinD:∀ p∈X.pn++pins,p.1≠D:=fun p hp=>by
  refine zD.pin p ?_
  show 7
  ·exact Pa _ hp
  ·exact OJ _ (Pa _ hp)
 have J7:Inv X pins σ H3 { s3 with heap:=h6,toks:=s3.toks }:=J6.sI F5.ns F6 N6 d2 s0D d3 cellsD pinD
 have out:Out X pins H3 D:=⟨d2,RH s0D,d3,cellsD,pinD⟩
 have rvs:=qC b (xT (qC b rv) (l:=p.toList) fun i hi=>by rw [XT]; have:=lt_ i hi; omega)
 refine ⟨.ref D,upd H3 D (.lst (Q0 b (p.toList.map fun i=>(Q0 b vs).getD i .non))),J7.EH out ?_,rfl,qf p.toList (by rw [hlz]; exact pm) upw D d2⟩
 refine ⟨by rw [XT,Oy,hlen]; have:=Po; omega,_,c6,rvs,?_⟩
 exact (N6 _ ON).1
end
section
open PySem.Calls
section
open PySem.W
variable {prog:PL} {w:PR} {A:P8} {E:OD→OG→Prop} {s:OG} {h₀:Qb} {L kS a:OF} {m:P2→Option OD} {news:List (OF×Q5)} {vs:List OD}
theorem oR {α:Type} (b:Bool) {l:List α} (h:l.length<2):katRev b l=l:=by
 cases b with
 | false=>rfl
 | true =>
  match l,h with
  | [],_=>rfl
  | [_],_=>rfl
  | _::_::_,h=>exact absurd h (by simp only [OW]; omega)
theorem IB {b:Bool} {e e1:Nat} {ks:List OD} (hl:ks.length=vs.length) (h2:vs.length<2)
 (h:Yx h₀ L m kS a ks e e1 vs (fun s3=>P (.done (.ret .none)) s3) s):OX ‹13› A (ksk_end a b vs.toArray e1 (.ref kS) (RK ks)) P E s:=by
 have step:∀ t:Sem Yr,OX ‹13› A t P E s→OX ‹13› A (if b=true then (do let _ ← rule "list.sort.reverse"; t) else t) P E s:=by
  intro t ht
  split
  ·exact Oz (Ta ht)
  ·exact ht
 have hn2:vs.toArray.size<2:=by rw [OM]; omega
 unfold ksk_end
 try dsimp only
 refine step _ ?_
 rw [if_pos hn2,if_pos hn2,kat_pairs b hl,oR b h2,oR b (show ks.length<2 by omega)]
 refine Oz (OL (Oz (m:=StateT.run (pure ()) _) (OL ?_)))
 have h':Yx h₀ L m kS a ks e e1 (katRev b vs) (fun s3=>P (.done (.ret .none)) s3) s:=by rw [oR b h2]; exact h
 refine kat_tail (b:=b) (out:=vs) ?_ ‹5› ‹5› rfl h'
 show Ys (fun x=>x.snd) ((RK ks).zip vs.toArray)=vs.toArray
 apply Xz.mp
 rw [XA,XB,XC]
 exact Tn hl.symm
theorem Gy {b:Bool} {e1:Nat} (hk:s.heap.get? kS=some (Pp "list" #[] 0)) (h2:vs.length<2)
 (h:KatKeys prog w A h₀ L m kS f (fun ks e s'=>Yx h₀ L m kS a ks e e1 vs (fun s4=>P (.done (.ret .none)) s4) s') vs [] 0 s) :
 OX ‹13› A (ksk_rest a f b vs.toArray e1 (.ref kS)) P E s:=by
 unfold ksk_rest
 refine Oz (Ta ?_)
 first
  | rw [UD]
  | (rw [← WV]; simp only [List.toList_toArray])
  | rw [← WV]
 refine Oz (Qw (kat_fold (show vs.length<64 by omega) (fun x ks e s' C hz hx=>?_) vs [] 0 s (by simp) hk h) (fun _ s' hd=>?_) fun _ _ x=>x)
 ·refine Oz (Sg (Qw hx (fun k s'' hk=>?_) fun _ _ hF=>hF.elim))
  obtain ⟨news',g,F',N',U,c⟩:=hk
  obtain ⟨pre,post,e0,hg,x1,x2⟩:=U.split
  rw [e0] at N'
  have nk:=N' (kS,Pp "list" (RK ks) e) (OJ _ (.head _))
  have s1:=Q3 s''.heap kS (Pw (·.push k))
  have ea:(RK ks).push k=RK (ks++[k]):=by simp
  obtain ⟨c2,hc2⟩:∃ c2,(s''.heap.update kS (Pw (·.push k))).get? kS=some (Pp "list" (RK (ks++[k])) c2):=⟨_,by rw [← ea]; exact Ua nk.1 (·.push k)⟩
  try dsimp only
  refine Oz (U4 nk.1 rfl ?_ (by rw [OM,Po]; omega) (Pq (Tn (XU ..)) (by rw [OM,Po]; omega)))
  exact OL ⟨rfl,k,c2,hc2,c _ c2 (kas_fr F' s1 nk.2.1 nk.2.2) (by rw [hg]; exact news_set N' x1 x2 s1 hc2)⟩
 ·obtain ⟨ks,e,hk',hl,fin⟩:=hd
  try dsimp only
  refine Oz (Xc hk' rfl ?_)
  exact IB hl h2 fin
theorem DO {b:Bool} {n:Nat} (F:Fr h₀ L s.heap m) (N:Xs h₀ L s.heap news) (ho:s.heap.get? a=some (Pp "list" vs.toArray n)) (haL:a≠L) (ha0:h₀.get? a=none) (hna:∀ p∈news,p.1≠a)
 (h2:vs.length<2)
 (h:∀ kS e1 h',Fr h₀ L h' m→Xs h₀ L h' ((kS,Pp "list" #[] 0)::(a,Pp "list" #[] e1)::news)→a<kS→(∀ q∈news,q.1<kS) →
  KatKeys prog w A h₀ L m kS f (fun ks e s'=>Yx h₀ L m kS a ks e e1 vs (fun s4=>P (.done (.ret .none)) s4) s') vs [] 0 { s with heap:=h' }) :
 OX ‹13› A (ksk_tree a f b) P E s:=by
 have ha:a<s.heap.objs.size:=OO ho
 have s1:=Q3 s.heap a (Pw fun _=>(#[]:Array OD))
 obtain ⟨e1,ho1⟩:∃ e1,(s.heap.update a (Pw fun _=>(#[]:Array OD))).get? a=some (Pp "list" #[] e1):=⟨_,Ua ho fun _=>#[]⟩
 have F1:=kas_fr F s1 haL ha0
 have N1:=kas_news N s1 hna
 have hkS:‹33›.objs.size=‹1›+1:=by rw [Sy,RB]
 have hLk:L<‹33›.objs.size:=(F1.push _).ns.lt
 unfold ksk_tree
 refine Oz (Xc ho rfl ?_)
 refine Oz (U4 ho rfl ?_ (by rw [OM,Po]; omega) (PV _))
 refine Oz (XN ho1 rfl ?_)
 refine Oz (V6 ?_ (by show vs.length≤_; rw [Po]; omega))
 refine Oz (SX ?_ (PV _))
 refine PQ ?_
 refine Gy (s:={ s with heap:=‹33›.push (Pp "list" #[] 0) }) (kS:=‹33›.objs.size)
  (OU _ rfl) h2 (h _ e1 _ ((F1.push _).push _) (fun p hp=>?_) (by rw [hkS]; exact Ph ha) fun q hq=>by rw [hkS]; exact Ph (OO (N q hq).1))
 show 19
 ·exact ⟨OU _ rfl,QW hLk,RH (Pq F.above (QO hLk))⟩
 ·show 19
  ·exact ⟨OC _ (OC _ ho1),haL,ha0⟩
  ·exact ⟨OC _ (OC _ (N1 p hp).1),(N1 p hp).2⟩
theorem yS {l:OF} {b:Bool} {Q:OD→OG→Prop} (F:Fr h₀ L s.heap m) (N:Xs h₀ L s.heap news) (hl:s.heap.IsList l vs.toArray) (h2:vs.length<2)
 (ha1:UC "sorted" ⟨[.ref l],kw⟩) (ha2:∀ x,UC "list.sort" ⟨[.ref x],kw⟩) (ht:∀ x,QP.«list.sort» ⟨[.ref x],kw⟩=ksk_tree x f b)
 (h:∀ D kS e1 h',Fr h₀ L h' m→Xs h₀ L h' ((kS,Pp "list" #[] 0)::(D,Pp "list" #[] e1)::news)→D<kS→(∀ q∈news,q.1<D) →
  KatKeys prog w A.in1.in1 h₀ L m kS f (fun ks e s'=>Yx h₀ L m kS D ks e e1 vs (fun s4=>Q (.ref D) s4) s') vs [] 0 { s with heap:=h' }) :
 OX ‹13› A (call (.builtin "sorted") [.ref l] kw) Q E s:=by
 refine call_function_entry_kw V7 Vp Vq ha1 ?_
 unfold QP.«sorted»
 refine Oz (m:=WU "sorted" 1 1 _) (OL ?_)
 refine Oz (collect_list hl ?_ (by rw [Po]; omega))
 refine Oz (SX ?_ (by rw [Po]; omega))
 have hsz:(‹45›.update ‹1› (Pw (·++vs.toArray))).objs.size=‹1›+1:=by
  rw [RB,Sy]
 have hoL:((‹45›.update ‹1› (Pw (·++vs.toArray))).push ‹47›).get? (‹1›+1)=some ‹47›:=by
  rw [← hsz]; exact OU _ rfl
 have keep:∀ b o,s.heap.get? b=some o→((‹45›.update ‹1› (Pw (·++vs.toArray))).push ‹47›).get? b=some o:=fun b o q=>by
  have hlt:b<s.heap.objs.size:=OO q
  rw [Xf _ _ _ (by rw [hsz]; exact OS (Ph hlt)),Heap.get?_update_ne _ _ _ _ (OS hlt),Xf _ _ _ (OS hlt)]
  exact q
 have hL:L<s.heap.objs.size:=F.ns.lt
 show OX _ _ _ _ _ { s with heap:=(‹45›.update ‹1› (Pw (·++vs.toArray))).push ‹47› }
 rw [hsz]
 refine Oz (PQ (wpAny_call_entry_kw UB ⟨_,hoL,rfl⟩ Ub ?body (ha2 _)))
 case body =>
  have ht':=ht (‹1›+1)
  show OX ‹13› A.in1.in1 (QP.«list.sort» ⟨[.ref (‹1›+1)],kw⟩) _ _ _
  rw [ht']
  refine DO (s:={ s with heap:=(‹45›.update ‹1› (Pw (·++vs.toArray))).push ‹47› })
   (F.kept keep) (N.grown keep) hoL (QW (Ph hL)) (RH (Pq F.above (Nat.le_succ_of_le (QO hL))))
   (fun p hp=>OS (Ph (OO (N p hp).1))) h2 fun kS e1 h' F' N' l0 l1=>?_
  refine kat_keys_mono (h _ kS e1 h' F' N' l0 fun q hq=>Ph (OO (N q hq).1)) fun ks e s' hl' hd=>?_
  exact hd.mono fun s4 hq=>⟨_,rfl,OL ⟨_,rfl,hq⟩⟩
end
section
variable {X:Cx} {pins:List (OF×Q5)} {σ:St} {m:P2→Option OD} {kS f:OF} {o:Q5} {q:P2} {params:Uq} {body:Qg} {scope:Sb} {cl:List (P2×OF)} {A:P8} {x:P2} {zs:List P2} {is:List Nat} {te:TE} {Fin:List V→Hp→Prop}
theorem CZ {b:Bool} {s:OG} (I:Inv X (pins++[(f,o)]) σ H s) (hff:∀ p∈X.pn++pins,p.1≠f) (hf0:‹24›≤f) (L:o6 X.mg H q params body scope cl o)
 (fr:kh X x zs is scope cl) (hh:X.A.handled=none) (hroom:X.A.in1.in1.depth<RS) (hA:X.A.in1.in1.frames=some X.stack) (hh2:X.A.in1.in1.handled=none)
 (hb:∀ (c:OF) (ct u:OD),Ux ‹14› ⟨[u],[]⟩=pure [(x,u)])
 (he:∀ f c s H pins,PE (oO X (x::zs) q scope cl f c X.A.in1.in1 s H pins) body te)
 (hq:dw X.K H a vs) (h2:vs.length<2) (h:oQ te (is.map fun i=>(σ[i]?).join) Fin vs [] H) (hg:∀ ks H,ks.length=vs.length→Fin ks H→Jc X b vs Q ks H)
 (ha1:UC "sorted" ⟨[.ref a],kw⟩) (ha2:∀ x,UC "list.sort" ⟨[.ref x],kw⟩) (ht:∀ x,QP.«list.sort» ⟨[.ref x],kw⟩=Tz x (.ref f) b) :
 OX ‹7› X.A (call (.builtin "sorted") [.ref a] kw) (EP X pins σ Q) X.xe s:=by
 obtain ⟨its,rv,pl,_⟩:=I.list hq
 have hlv:its.length=vs.length:=rv.length.symm
 obtain ⟨m,F⟩:=I.fr
 have fin:(f,o)∈gh X.base s.heap X.env.locals:=by
  obtain ⟨p1,p2,p3,p4,p5⟩:=I.pin (f,o) ‹58›
  refine cS p3 ?_ p1
  cases eb:X.base.get? f with
  | none=>rfl
  | some y=>exact absurd (OZ (OO eb) (Pq I.ok.Cw hf0)) (PB _)
 refine yS (b:=b) (vs:=its) (f:=.ref f) F (oK (h:=s.heap)) pl.isList ‹5› ha1 ha2 ht fun D kS e1 h' F' N' hDk hlt=>?_
 have nK:=N' _ ON
 have nD:=N' _ (OI _ ON)
 have fD:f<D:=hlt _ fin
 have gD:s.heap.get? D=none:=by
  cases e:s.heap.get? D with
  | none=>rfl
  | some o=>exact absurd (hlt (D,o) (cS nD.2.1 nD.2.2 e)) (PB _)
 have gK:s.heap.get? kS=none:=by
  cases e:s.heap.get? kS with
  | none=>rfl
  | some o=>exact absurd (Vo hDk (hlt (kS,o) (cS nK.2.1 nK.2.2 e))) (PB _)
 have s0D:‹24›≤D:=Pq hf0 (QO fD)
 have s0K:‹24›≤kS:=Pq s0D (QO hDk)
 have zD:=I.nil gD
 have zK:=I.nil gK
 have N2:Xs X.base ‹27› h' ((kS,Pp "list" #[] 0)::rest X.base s.heap ‹27› kS):=fun p hp=>by
  show 19
  ·exact nK
  ·exact N' p (OI _ (OI _ (P5.mp hp).1))
 have I1:Inv X (pins++[(f,o)]) σ H { s with heap:=h',toks:=s.toks }:=I.sI F.ns F' N2 zK.h s0K nK.2.1 zK.cell zK.pin
 have I2:Inv X ((pins++[(f,o),(D,Pp "list" #[] e1)])++[(kS,Pp "list" ([]:List OD).toArray 0)]) σ H { s with heap:=h',toks:=s.toks }:=I1.jN fun p hp=>by
  show 7
  ·show 7
   ·exact I1.pin p (OJ _ (Pa _ hp))
   ·show 19
    ·exact I1.pin _ ‹58›
    ·cases OB.mp hp
     exact ⟨nD.1,zD.h,nD.2.1,zD.fs,fun v z=>by cases z⟩
  ·cases OB.mp hp
   exact ⟨nK.1,zK.h,nK.2.1,zK.fs,fun v z=>by cases z⟩
 have h4:∀ p∈X.pn++(pins++[(f,o),(D,Pp "list" #[] e1)]),p.1≠kS:=fun p hp=>by
  show 7
  ·exact zK.pin p (Pa _ hp)
  ·show 7
   ·exact zK.pin p (OJ _ (Pa _ hp))
   ·show 19
    ·exact zK.pin _ ‹58›
    ·cases OB.mp hp
     exact OS hDk
 refine VO (sX fr hA hh2 hroom hb he (OJ _ ON) s0K h4 rv .nil I2 F'.ns L h) fun kvs e3 s3 hl3 hfin=>?_
 obtain ⟨ks,H3,J,hm3,rk,fin⟩:=hfin
 have hl3:kvs.length=vs.length:=by rw [hl3,Pb]; omega
 have hlz:=rk.length
 obtain ⟨lt,ord,ask,qf⟩:=hg _ _ ‹5› fin
 obtain ⟨p1,p2,p3,p4,p5⟩:=J.pin (kS,Pp "list" kvs.toArray e3) ‹58›
 refine V9 (J.Nu hm3) (oJ p3 nK.2.2 p1) (.head rD) fun h5 c5 F5 N5=>?_
 have cells:∀ x c,X.env.cells.lookup x=some c→c≠kS:=fun x c e z=>by
  obtain ⟨v,o,ho,hd⟩:=J.cell x c e
  rw [z,p1] at ho
  cases ho
  exact p5 v hd
 have J5:Inv X (pins++[(f,o),(D,Pp "list" #[] e1)]) σ H3 { s3 with heap:=h5,toks:=s3.toks }:=(Inv.fm J).sI hm3 F5 N5 p2 s0K p3 cells h4
 obtain ⟨d1,d2,d3,d4,d5⟩:=J5.pin (D,Pp "list" #[] e1) (OJ _ (OJ _ (OI _ (OB.mpr rfl))))
 refine TX F5 (oJ d3 nD.2.2 d1) (.head rD) fun h6 c6 F6 N6=>?_
 have J6:Inv X pins σ H3 { s3 with heap:=h5,toks:=s3.toks }:=J5.fm
 have cellsD:∀ x c,X.env.cells.lookup x=some c→c≠D:=fun x c e z=>by
  obtain ⟨v,o,ho,hd⟩:=J5.cell x c e
  rw [z,d1] at ho
  cases ho
  exact d5 v hd
 have pinD:∀ p∈X.pn++pins,p.1≠D:=fun p hp=>by
  refine zD.pin p ?_
  show 7
  ·exact Pa _ hp
  ·exact OJ _ (Pa _ hp)
 have J7:Inv X pins σ H3 { s3 with heap:=h6,toks:=s3.toks }:=J6.sI F5.ns F6 N6 d2 s0D d3 cellsD pinD
 have out:Out X pins H3 D:=⟨d2,RH s0D,d3,cellsD,pinD⟩
 have er:Q0 b ((O0 ks.length).map fun i=>(Q0 b vs).getD i V.non)=vs:=by
  have e:(O0 ks.length).map (fun i=>vs.getD i V.non)=vs:=by
   rw [hlz,hl3]
   refine RT (by simp) fun i h1 h2=>?_
   simp [h2]
  rw [oR b h2,e,oR b h2]
 refine ⟨.ref D,upd H3 D (.lst vs),J7.EH out ?_,rfl,?_⟩
 ·refine ⟨by have:=Po; omega,its,c6,rv,?_⟩
  exact (N6 _ ON).1
 ·have:=qf (O0 ks.length) (Yc _) ?_ D d2
  ·rw [er] at this; exact this
  ·have hn:ks.length<2:=by omega
   match ks.length,hn with
   | 0,_=>exact .nil
   | 1,_=>exact .cons (fun _ h=>by cases h) .nil
   | n+2,h=>exact absurd h ‹5›
theorem CY {b:Bool} {s:OG} (I:Inv X (pins++[(f,o)]) σ H s) (hff:∀ p∈X.pn++pins,p.1≠f) (hf0:‹24›≤f) (L:o6 X.mg H q params body scope cl o)
 (fr:kh X x zs is scope cl) (hr:fO k X.A) (hc:X.calm=true)
 (hb:∀ (c:OF) (ct u:OD),Ux ‹14› ⟨[u],[]⟩=pure [(x,u)])
 (he:∀ f c s H pins,PE (oO X (x::zs) q scope cl f c X.A.in1.in1 s H pins) body te)
 (hq:dw X.K H a vs) (h64:vs.length<64) (h:oQ te (is.map fun i=>(σ[i]?).join) Fin vs [] H) (hg:∀ ks H,ks.length=vs.length→Fin ks H→Jc X b vs Q ks H)
 (ha1:UC "sorted" ⟨[.ref a],kw⟩) (ha2:∀ x,UC "list.sort" ⟨[.ref x],kw⟩) (ht:∀ x,QP.«list.sort» ⟨[.ref x],kw⟩=Tz x (.ref f) b) :
 OX ‹7› X.A (call (.builtin "sorted") [.ref a] kw) (EP X pins σ Q) X.xe s:=by
 have room:X.A.in1.in1.depth<RS:=by
  have:=hr.dp
  show X.A.depth < _
  omega
 have hh:=I.ok.hd hc
 by_cases h2:2≤vs.length
 ·exact C0 I hff hf0 L fr hh room I.ok.frames hh hb he hq h2 h64 h hg ha1 ha2 ht
 ·exact CZ I hff hf0 L fr hh room I.ok.frames hh hb he hq ‹5› h hg ha1 ha2 ht
def EM (K:OA) (P:OF) (q:P2) (tl te:TE) (is:List Nat):TE:=fun σ H Q=>tl σ H fun v H1=>∃ (a:OF) (vs:List V) (ps:Array OD) (t:Yq),v=.ref a∧dw K H1 a vs∧vs.length<64∧H1 P=some (.tbl ps)∧ps[0]?=some (.str q t) ∧
 ∀ H2,Hk H1 H2→oQ te (is.map fun i=>(σ[i]?).join) (Ea vs Q) vs [] H2
theorem FE {K:OA} {c P:OF} {l:Qg} {tl:TE} {p lpos kpos cpos:UM} (hK:X.K=K) (lo:JQ X c P) (hr:fO k X.A) (hc:X.calm=true) (hg:Gl X "sorted") (hm:X.mg "sorted" = none) (hl:PE X l tl) (fr:kh X x zs is scope cl)
 (hq:X.env.qual ++ "<lambda>" = q) (hcl:S9 scope X.env=pure cl)
 (he:∀ f c s H pins,PE (oO X (x::zs) q scope cl f c X.A.in1.in1 s H pins) body te)
 (hdef:defaultsOf params X.env=([],[]):=by rfl)
 (hb:∀ (c:OF) (ct u:OD),Ux ‹14› ⟨[u],[]⟩=pure [(x,u)]:=by intro _ _ _; rfl)
 (hst:P0 [l] X.env=[(false,eval l X.env)]:=by rfl) (hv:PZ "sorted" = some (.builtin "sorted"):=by rfl) :
 PE X (.Call (.Name "sorted" p) [l] [⟨some "key", .Lambda params body scope lpos,kpos⟩] cpos) (EM K P q tl te is):=by
 subst hK
 show 2
 refine Q6 (fT I hg hm hv ?_ ‹11› ‹11›)
 refine PyProof.Rows.callWith_kw (e:=l) (rest:=[]) ?_ (by rw [hst]; rfl) (by rw [hst]; rfl) rfl rfl
 have ha:=aa hl ak (hs:=by rw [hst]; rfl)
 refine cZ (ha cpos pins s σ H (fun xs H1=>match xs with
  | [v]=>∃ (a:OF) (vs:List V) (ps:Array OD) (t:Yq),v=.ref a∧dw X.K H1 a vs∧vs.length<64∧H1 P=some (.tbl ps)∧ps[0]?=some (.str q t)∧∀ H2,Hk H1 H2→oQ te (is.map fun i=>(σ[i]?).join) (Ea vs Q) vs [] H2
  | _=>False) I h) fun us s1 ⟨vs0,H1,I1,r1,q1⟩=>?_
 match vs0,q1 with
 | [v],q1 =>
 obtain ⟨a,vs,ps,t,rfl,hsq,h64,hP,h0,hw⟩:=q1
 cases r1 with
 | cons r1 r2 =>
 cases r2
 cases (show _=Pf a from r1)
 show OX _ _ (evalAll [(do let v ← eval (.Lambda params body scope lpos) X.env; standAt cpos; pure v)]) _ _ s1
 refine wpAny_evalAll_cons (Oz (cZ (Gd lo I1 hP h0 hq hcl hdef) fun u s2 ⟨f,o,H2,eu,I2,gr,pf,s0f,L⟩=>Oz (TN (OL (wpAny_evalAll_nil ?_)))))
 subst eu
 have hs2:dw X.K H2 a vs:=by
  rcases hsq with (z | ⟨o,z⟩) | z
  ·exact .inl (.inl (gr _ _ z))
  ·exact .inl (.inr ⟨o,gr _ _ z⟩)
  ·exact .inr z
 exact CY I2 pf s0f L fr hr hc hb he hs2 h64 (hw H2 gr) (fun _ _ hl h=>h.g) (PyProof.Rows.ksk_s1 _ _) (fun _=>PyProof.Rows.ksk_l1 _ _) (fun x=>PyProof.Rows.ksk_t1 f x)
end
end
end L2
namespace VL
open PySem L2
section
open Classical
noncomputable section
variable [bE] {K:OA}
def kR (cs:List Nat) (ρ:aK) (d:D):aK:=(r0 1 cs ρ).set 0 (.pu d)
theorem Cd {H:Hp} {T:OF→Prop} {vs:List V} {ds:List D} (h:IsL K H T vs ds):∀ {idx:List Nat},(∀ i∈idx,i<ds.length)→IsL K H T (idx.map fun i=>vs.getD i .non) (idx.map fun i=>ds.getD i .non)
 | [],_=>.nil
 | i::idx,hl=>by
  have hi:=hl i ON
  obtain ⟨v,e1,i1⟩:=h.get (Ow hi)
  refine .cons ?_ (Cd h fun j hj=>hl j (OI _ hj))
  have ev:vs.getD i .non=v:=by rw [Ox,e1]; rfl
  have ed:ds.getD i .non=ds[i]:=by rw [Ox,Ow hi]; rfl
  show Is K H T (vs.getD i .non) (ds.getD i .non)
  rw [ev,ed]
  exact i1
end
end
end VL
namespace L2
open PySem PySem.Spec PyProof.Rows
def oa (ts:List (OF×P2)):Hp:=fun b=>(ts.lookup b).map fun q=>.tbl #[.str q 0]
variable {x:P2}
theorem Dv {P:PL} {w:PR} {K:OA} {mg mb:P2→Option OD} {CX:Eh} {k:Nat} {fa a:OF} {fd:PN} {sp:Sp} {s₁:OG} {vs:List OD} {ns:List Int} (ts:List (OF×P2))
 (KX:K.In s₁.heap) (hns:s₁.heap.Ns OV mg) (hb:s₁.heap.Ns Uu mb) (hbb:∀ x:P2,x ≠ "__name__" → mb x=PZ x) (hlim:s₁.heap.NoLimit) (hg:s₁.gens=#[]) (hbm:eJ mg s₁.heap)
 (hts:∀ p q,ts.lookup p=some q→s₁.heap.get? p=some (Wa #[])∧K.lookup p=none∧∃ c,PySem.W.CodeHd s₁.heap c p)
 (ha:s₁.heap.get? a=some { cls:=.type "list", data:=.seq vs.toArray }) (hi:RJ vs ns) (hl:ns.length≤OE) (hr:fO k Xg)
 (F:∀ base:Qb,K.In base→base.Ns OV mg→eJ mg base→dv P w K mg base CX k fa fd [x] sp) (hbind:∀ (s:OG) (u:OD),Wn s fd ⟨[u],[]⟩ [(x,u)])
 (hsp:∀ H:Hp,(∀ p q,ts.lookup p=some q→H p=some (.tbl #[.str q 0]))→dw K H a ‹49›→sp [.ref a] H (fun v _=>v=.bl true) fun _ _ _=>False)
 (hCX:∀ H e s',CX [] H s₁ (fun _ _ _=>False) e s'→False) :
 Ti (model P w) Xg (.call (.ref fa) ⟨[.ref a],[]⟩) (fun r s'=>r=.ok (.ret (.bool true))∧OldK s₁.heap s'.heap∧s'.os=s₁.os∧Vh s'.gens) s₁:=by
 have rv:=js hi
 have lenV:=hi.length
 have naT:ts.lookup a=none:=by
  cases e:ts.lookup a with
  | none=>rfl
  | some q=>have:=(hts a q e).1; rw [ha] at this; cases this
 have core:∀ H:Hp,(∀ b,b≠a→H b=oa ts b)→(H a=none∨∃ o xs,H a=some (.jS o (.lst xs)))→dw K H a ‹49›→jr P w H s₁.heap→(H a≠none→K.lookup a=none) →
  Ti (model P w) Xg (.call (.ref fa) ⟨[.ref a],[]⟩) (fun r s'=>r=.ok (.ret (.bool true))∧OldK s₁.heap s'.heap∧s'.os=s₁.os∧Vh s'.gens) s₁:=by
  intro H hH hO hS ck hK
  have tabs:∀ p q,ts.lookup p=some q→H p=some (.tbl #[.str q 0]):=fun p q e=>by
   rw [hH p (fun z=>by rw [z,naT] at e; cases e)]
   unfold oa
   rw [e]; rfl
  have isT:∀ b u,H b=some u→b≠a→∃ q,ts.lookup b=some q:=fun b u e hb=>by
   rw [hH b hb] at e
   unfold oa at e
   cases z:ts.lookup b with
   | none=>rw [z] at e; cases e
   | some q=>exact ⟨q,rfl⟩
  have base_of:∀ {b:OF} {o:Q5},s₁.heap.get? b=some o→H b=none→(uL s₁.heap H).get? b=some o:=fun e n=>Gs e n
  have none_of:∀ {b:OF} {o:Q5},s₁.heap.get? b=some o→o.cls≠.none→(∀ xs n,o.data≠.seq xs n)→H b=none:=fun {b o} e hc hd=>by
   cases q:H b with
   | none=>rfl
   | some u =>
    by_cases hba:b=a
    ·subst hba
     rw [ha] at e; cases e
     exact absurd rfl (hd _ _)
    ·obtain ⟨q',z⟩:=isT b u q hba
     have:=(hts b q' z).1
     rw [e] at this
     cases this
     exact absurd rfl hc
  have noA:∀ {b:OF} {o:Q5} {es:Array DictEntry} {ep:Nat},s₁.heap.get? b=some o→o.data=.dict es ep→H b=none:=fun {b o es ep} e d=>by
   cases q:H b with
   | none=>rfl
   | some u =>
    by_cases hba:b=a
    ·subst hba
     rw [ha] at e; cases e
     have d':Vc vs.toArray _=Data.dict es ep:=d
     cases d'
    ·obtain ⟨q',z⟩:=isT b u q hba
     have:=(hts b q' z).1
     rw [e] at this
     cases this
     cases d
  have nsK:∀ {b:OF} {m:P2→Option OD},s₁.heap.Ns b m→(uL s₁.heap H).Ns b m:=fun {b m} ⟨o,es,ep,e,d,r⟩=>⟨o,es,ep,base_of e (noA e d),d,r⟩
  have hKb:K.In (uL s₁.heap H):=fun b o e=>base_of (KX b o e) (by
   cases q:H b with
   | none=>rfl
   | some u =>
    by_cases hba:b=a
    ·subst hba
     rw [hK (by rw [q]; simp)] at e; cases e
    ·obtain ⟨q',z⟩:=isT b u q hba
     rw [(hts b q' z).2.1] at e; cases e)
  have hBm:eJ mg (uL s₁.heap H):=by
   obtain ⟨bm,ob,b1,b2,b3,b4,b5,b6⟩:=hbm
   exact ⟨bm,ob,b1,b2,base_of b3 (none_of b3 (by rw [b4]; exact nofun) fun xs n z=>by rw [b6] at z; cases z),b4,b5,b6⟩
  have hM:Mod K mg (uL s₁.heap H):=⟨hKb,nsK hns,⟨mb,nsK hb,hbb⟩,let ⟨mc,h1,h2⟩:=hlim; ⟨mc,nsK h1,h2⟩⟩
  have e0:Jd P w K mg (uL s₁.heap H) Xg [] s₁ H:=⟨rfl,hM,fun b o e=>Ig e,Tn (DK _ _),trivial,fun b hb=>absurd (show b∈([]:List OF) from hb) (by simp),ck,.of_eq hg⟩
  refine R7 ((F _ hKb (nsK hns) hBm).run Xg [] s₁ H ⟨[.ref a],[]⟩ [.ref a] [.ref a] _ _ hr e0 (hbind s₁ (.ref a)) ‹53› (hsp H tabs hS)) fun r s' h=>?_
  cases r with
  | error e=>exact (hCX H e s' h).elim
  | ok fl =>
   cases fl with
   | next=>exact R5 h
   | brk=>exact R5 h
   | cont=>exact R5 h
   | ret u =>
    obtain ⟨v,H',os,bare,un,hok',r',q⟩:=h
    have q':v=.bl true:=q
    subst q'
    obtain rfl:u=WL true:=r'
    have kept:∀ b o,s₁.heap.get? b=some o→ts.lookup b=none→s'.heap.get? b=some o:=fun b o e hn=>by
     cases q:H b with
     | none=>exact un.keep b o e q (by intro z; exact absurd (show b∈([]:List OF) from z) (by simp)) (by simp)
     | some u =>
      by_cases hba:b=a
      ·subst hba
       rcases hO with z | ⟨ob,xs,z⟩
       ·rw [q] at z; cases z
       ·have z2:=un.tj b ob _ z
        obtain ⟨e1,_⟩:=ck b _ z
        obtain ⟨e2,_⟩:=hok' b _ z2
        rw [e] at e1; cases e1
        exact e2
      ·obtain ⟨q',z⟩:=isT b u q hba
       rw [hn] at z; cases z
    refine ⟨rfl,⟨fun b o e=>?_,fun b o e=>un.there b o e (by simp)⟩,os,bare⟩
    cases ht:ts.lookup b with
    | none=>exact .inl (kept b o e ht)
    | some q =>
     obtain ⟨t1,t2,c,t3⟩:=hts b q ht
     rw [e] at t1
     cases t1
     obtain ⟨more,e2⟩:=un.se b _ (tabs b q ht)
     obtain ⟨q2,tk,qs,_,e3,_⟩:=(show cu P w H' s'.heap b (.tbl _) from hok' b _ e2)
     exact .inr (.inl ⟨(t3.tab e).isCodeTable,rfl,#[],qs,rfl,by rw [Array.empty_append]; exact e3⟩)
 have tabOk:∀ H:Hp,(∀ b,b≠a→H b=oa ts b)→∀ b u,b≠a→H b=some u→cu P w H s₁.heap b u:=fun H hH b u hb e=>by
  rw [hH b hb] at e
  unfold oa at e
  cases z:ts.lookup b with
  | none=>rw [z] at e; cases e
  | some q =>
   rw [z] at e
   cases e
   exact ⟨q,0,#[],rfl,(hts b q z).1,trivial,fun pos v ev=>by cases ev⟩
 cases hk:K.lookup a with
 | some o =>
  have e:=KX a o hk
  rw [ha] at e
  cases e
  have hHa:oa ts a=none:=by unfold oa; rw [naT]; rfl
  refine core (oa ts) ‹8› (.inl hHa) (.inr ⟨_,vs.toArray,_,hk,rfl,rfl,rfl,by rw [OM,lenV]; exact hl,by simpa using rv⟩) (fun b u z=>?_) fun z=>absurd hHa z
  exact tabOk _ ‹8› b u (fun w=>by rw [w,hHa] at z; cases z) z
 | none =>
  refine core (fun b=>if b=a then some (.jS { cls:=.type "list", data:=.seq vs.toArray } (.lst ‹49›)) else oa ts b) (fun b hb=>if_neg hb) (.inr ⟨_,_,if_pos rfl⟩) (.inl (.inr ⟨{ cls:=.type "list", data:=.seq vs.toArray },if_pos rfl⟩)) (fun b u z=>?_) fun _=>hk
  by_cases hba:b=a
  ·have z':=(if_pos hba).symm.trans z
   cases z'
   subst hba
   exact ⟨ha,by rw [Oy]; exact hl,vs,_,rv,ha⟩
  ·exact tabOk _ (fun b hb=>if_neg hb) b u hba z
theorem Ez {l:XW} {n k:Nat} {q:PL} {loose:List P2} {XP:(P2→Option OD)→Qb→Prop} {YP:PR→Qb→Prop} {d:DefRec} {K:Params→OA} {CX:PR→Eh} {sp:PR→Sp} (ts:List (OF×P2))
 (hn:l.most=some n) (hn2:n≤OE) (hdf:d.params.defaults=[]) (hr:fO k Xg)
 (hY:∀ (w:PR) (h:Qb),YP w h→(K w.params).In h)
 (hT:∀ (w:PR) (h:Qb),YP w h→∀ p q,ts.lookup p=some q→h.get? p=some (Wa #[]))
 (hN:∀ (w:PR) p q,ts.lookup p=some q→(K w.params).lookup p=none∧∃ c,TK (K w.params) c p=true)
 (F:∀ (w:PR) (mg:P2→Option OD) (fa:OF) (h:Qb),(K w.params).In h→h.Ns OV mg→mg d.name=some (.ref fa) →
  ∃ fd:PN,(∀ (s:OG) (u:OD),Wn s fd ⟨[u],[]⟩ [(x,u)]) ∧
   ∀ base:Qb,(K w.params).In base→base.Ns OV mg→eJ mg base→dv l.prog w (K w.params) mg base (CX w) k fa fd [x] (sp w))
 (hsp:∀ (w:PR) (H:Hp) (a:OF) (ns:List Int),ns.length≤n→(∀ m∈ns,QH m≤1048576)→(∀ p q,ts.lookup p=some q→H p=some (.tbl #[.str q 0]))→dw (K w.params) H a ‹49›→sp w [.ref a] H (fun v _=>v=.bl true) fun _ _ _=>False)
 (hCX:∀ (w:PR) (H:Hp) (s:OG) (e:OD) (s':OG),CX w [] H s (fun _ _ _=>False) e s'→False) :
 Yk q loose XP YP l.row.toRowW d [] (fun f vs=>PySem.call f vs):=by
 intro w s₀ s₁ mg mb G Y fa o pm cd doc dV kV ho hd hcd hD hmg hg args vals as hpre hlay hrd hwl hlo
 obtain rfl:dV=.none:=PySem.W.Dflts.none hD hdf
 obtain rfl:kV=.none:=PySem.W.Dflts.noKw hD
 obtain ⟨a,vs,ns,rfl,rfl,hobj,hints,hlen⟩:=NL.C2 hn hpre hwl
 have KX:=hY w _ Y
 obtain ⟨fd,hb,hF⟩:=F w mg fa _ KX G.T.g hmg
 refine PySem.W.enter_call (R7 (Dv ts KX G.T.g G.T.b G.T.builtins G.T.nolimit hg G.T.bmain (fun p q e=>⟨hT w _ Y p q e,(hN w p q e).1,let ⟨c,h⟩:=(hN w p q e).2; ⟨c,Ww KX h⟩⟩) hobj hints (Pq hlen hn2) hr hF hb (fun H hO hS=>hsp w H a ns hlen (zh hlay) hO hS) fun H e s'=>hCX w H s₁ e s') fun r s' hq=>?_)
 obtain ⟨rfl,h2,h3,h4⟩:=hq
 exact ⟨.inl ⟨.bool true,.bool true,[],rfl,fun _=>rfl,.bool true,NL.C6 l _,fun _=>⟨List.Pairwise.nil,fun _ hm=>(nomatch hm)⟩⟩,h2,h3,h4⟩
end L2
namespace VL
open PySem L2
section
open Classical
noncomputable section
variable [bE] {K:OA}
def zY (ns:List Int):List Int:=ns.mergeSort fun a b=>decide (a≤b)
omit [bE] in
theorem lY (ns:List Int):(zY ns).Perm ns:=Uh _ _
omit [bE] in
theorem By (ns:List Int):(zY ns).Pairwise (·≤·):=by
 have h:=Td (le:=fun a b:Int=>decide (a≤b)) (fun a b c h1 h2=>by simp at *; omega) (fun a b=>by simp; omega) ns
 exact h.imp fun h=>by simpa using h
omit [bE] in
theorem u5 {xs ns:List Int} (p:xs.Perm ns) (h:xs.Pairwise (·≤·)):xs=zY ns :=
 RN (fun a b _ _ h1 h2=>by omega) h (By ns) (p.trans (lY ns).symm)
end
end
end VL
namespace L2
open PySem PySem.Spec PyProof.Rows
theorem dS.Ob {P:PL} {w:PR} {K:OA} {mg:P2→Option OD} {base:Qb} {x qual:P2} {st:RE} {f:OF} {fd:PN} {N ps:List P2} {k:Nat} {sp:Sp} (F:dS K x qual st f fd) (S:bq N ps (aB st)) (len:∀ vs H Q E,sp vs H Q E→vs.length=ps.length)
 (hbody:∀ (cdv:OD),fd.code=cdv→∀ (A:P8) (outer:List XQ) (s:OG) (H:Hp) (vs:List V) (Q:VK) (E:XK),fO k (A.deeper (Vj qual (aB st) ‹1› f cdv))→sp vs H Q E →
  ∃ t,xM ‹28›.Hn (fF st) t∧t { nx:=fun _ H'=>Q .non H',rt:=Q } (start N vs) H):dv P w K mg base jq (k+1) f fd ps sp:=by
 obtain ⟨oc,od,kV,doc,pm,an,cdv,ct,osl,rfl,lk,hcd⟩:=F.ex
 refine JI lk hcd S len fun A outer s H vs Q E hr hsp=>?_
 obtain ⟨t,h,q⟩:=hbody cdv rfl A outer s H vs Q E hr hsp
 exact ⟨t,h.Hn,q⟩
end L2
namespace PySem.SeqAt
open AutoSeq1 (wpAny_loadPart')
section
open MeetsSeq MeetsSeq2 MeetsSeq3
def D9 (A:P8) (s:OG) (y x:OD) (b:Bool):Prop :=
 ∀ (prog:PL) (w:PR) (E:OD→OG→Prop) (Q:OD→OG→Prop),Q (.bool b) s→OX ‹13› A (richCompare .Lt y x) Q E s
def gH (e l:Nat→Bool) (fin:Bool):Nat→Nat→Bool
 | 0,_=>fin
 | k+1,i=>if e i=true then gH e l fin k (i+1) else l i
theorem Dq (l b:OF) (items items2:Array OD) (n n2:Nat) (dd dd2:Option OF) (sl sl2:Array (Option OD)) (e lt:Nat→Bool) (k:Nat) :
 ∀ i:Nat,i≤min items.size items2.size→min items.size items2.size-i=k→Meets (QP.«list.__eq__.loop» ⟨[.ref l,.ref b,QU i,QU 0],[]⟩)
  (fun A R s=>s.heap.get? l=some { cls:=.type "list", dict:=dd,data:=.seq items n,slots:=sl }∧s.heap.get? b=some { cls:=.type "list", dict:=dd2,data:=.seq items2 n2,slots:=sl2 } ∧
   (∀ j (h1:j<items.size) (h2:j<items2.size),EqAt A.in1 s items[j] items2[j] (e j))∧(∀ j (h1:j<items.size) (h2:j<items2.size),e j=false→D9 A.in1 s items[j] items2[j] (lt j)) ∧
   R (.ok (.ret (.bool (gH e lt (decide (items.size<items2.size)) k i)))) s):=by
 induction k with
 | zero =>
  intro i hi hk prog w A R s h
  show 8
  show 18
  by_cases hc:items.size≤i
  ·have hi1:items[((i:Nat):Int).toNat]?=none:=by simp; omega
   rw [hi1]
   show 18
   exact h
  ·have hi2:items2[((i:Nat):Int).toNat]?=none:=by simp; omega
   have hi1:items[((i:Nat):Int).toNat]?=some (items[i]'‹5›):=by simp
   rw [hi1,hi2]
   show 18
   exact h
 | succ k ih =>
  intro i hi hk prog w A R s h
  show 8
  show 18
  have hlt1:i<items.size:=by omega
  have hlt2:i<items2.size:=by omega
  have hi1:items[((i:Nat):Int).toNat]?=some items[i]:=by simp [hlt1]
  have hi2:items2[((i:Nat):Int).toNat]?=some items2[i]:=by simp [hlt2]
  have hc:((i:Int)+1)=((i+1:Nat):Int):=by push_cast; rfl
  unfold gH at h
  rw [hi1,hi2]
  refine Oz (he i hlt1 hlt2 prog w _ _ ?_)
  cases hb':e i with
  | true =>
   rw [hb',if_pos rfl] at h
   wp_walk
   rw [hc]
   exact ⟨QL plain_eq_loop _,Qk entry_eq_loop (by
    rw [PX plain_eq_loop _]
    exact ih (i+1) ‹5› ‹5› prog w A R _ ⟨hl,hb,he,hlt,h⟩)⟩
  | false =>
   rw [hb',if_neg O2] at h
   show 18
   rw [hi1,hi2]
   show 20
   refine Oz (hlt i hlt1 hlt2 hb' prog w _ _ ?_)
   wp_walk
   exact h
theorem Ds (l b:OF) (items items2:Array OD) (n n2:Nat) (dd dd2:Option OF) (sl sl2:Array (Option OD)) (e lt:Nat→Bool) :
 Meets (QP.«list.__lt__» ⟨[.ref l,.ref b],[]⟩)
  (fun A R s=>s.heap.get? l=some { cls:=.type "list", dict:=dd,data:=.seq items n,slots:=sl }∧s.heap.get? b=some { cls:=.type "list", dict:=dd2,data:=.seq items2 n2,slots:=sl2 } ∧
   (∀ j (h1:j<items.size) (h2:j<items2.size),EqAt A.in1 s items[j] items2[j] (e j))∧(∀ j (h1:j<items.size) (h2:j<items2.size),e j=false→D9 A.in1 s items[j] items2[j] (lt j)) ∧
   R (.ok (.ret (.bool (gH e lt (decide (items.size<items2.size)) (min items.size items2.size) 0)))) s):=by
 intro prog w A R s h
 show 8
 have f3:=Vr
 show 18
 exact ⟨QL plain_eq_loop _,Qk entry_eq_loop (by
  rw [PX plain_eq_loop _]
  exact Dq l b items items2 n n2 dd dd2 sl sl2 e lt _ 0 (PV _) rfl prog w A R _ ⟨hl,hb,he,hlt,h⟩)⟩
section
variable {A:P8} {s:OG}
theorem D9.ints (a b:Int) (t u:Yq):D9 A s (.int a t) (.int b u) (decide (a<b)):=fun prog w E Q h=>Wv h
end
end
end PySem.SeqAt
namespace VL
open PySem L2
section
open Classical
noncomputable section
variable {K:OA}
def Ic:Nat→D→D→Bool
 | _,.int _,.int _=>true
 | n+1,.lst xs,.lst ys=>(Sd xs ys).all fun p=>gv n p.1 p.2&&Ic n p.1 p.2
 | n+1,.tup xs,.tup ys=>(Sd xs ys).all fun p=>gv n p.1 p.2&&Ic n p.1 p.2
 | _,_,_=>false
section
variable {X:Cx} {pins:List (OF×Q5)} {σ:L2.St} {H:Hp} {s:OG}
inductive Om:Nat→D→D→Prop
 | int {n:Nat} (a b:Int):Om n (.int a) (.int b)
 | lst {n:Nat} {xs ys:List D} (h:(Sd xs ys).all (fun p=>gv n p.1 p.2&&Ic n p.1 p.2)=true):Om (n+1) (.lst xs) (.lst ys)
 | tup {n:Nat} {xs ys:List D} (h:(Sd xs ys).all (fun p=>gv n p.1 p.2&&Ic n p.1 p.2)=true):Om (n+1) (.tup xs) (.tup ys)
end
end
end
end VL
namespace PySem.SeqAt
theorem Ao {prog:PL} {w:PR} {A:P8} {E:OD→OG→Prop} {Q:Bool→OG→Prop} {s:OG} {l b:OF} {items items2:Array OD} {e lt:Nat→Bool} (hl:s.heap.IsList l items) (hb:s.heap.IsList b items2) (hu:A.units<Tw)
 (he:∀ j (h1:j<items.size) (h2:j<items2.size),EqAt A.in1 s items[j] items2[j] (e j)) (hlt:∀ j (h1:j<items.size) (h2:j<items2.size),e j=false→D9 A.in1 s items[j] items2[j] (lt j)) (h:Q (gH e lt (decide (items.size<items2.size)) (min items.size items2.size) 0) s) :
 OX ‹13› A (PyProof.Rows.oneLt' true (.ref l) (.ref b)) Q E s:=by
 obtain ⟨⟨cls,dd,data,sl⟩,ho,hc,n,hd⟩:=id hl
 obtain ⟨⟨cls2,dd2,data2,sl2⟩,ho2,hc2,n2,hd2⟩:=id hb
 simp only at hc hd hc2 hd2
 subst hc hd hc2 hd2
 rw [PyProof.Rows.oneLt'_eq]
 simp only [if_true]
 refine Oz (wpAny_cRoomFor hu ?_)
 refine Oz (wpAny_callSpecialIfBound?_slot ⟨_,ho,rfl⟩ F.slot_list_lt (Vn F.slot_list_lt ⟨_,ho,rfl⟩ F.entry_list_lt (F.args_list_lt_2 _ _) (Ds l b items items2 n n2 dd dd2 sl sl2 e lt) ⟨ho,ho2,he,hlt,?_⟩))
 exact Rh h
end PySem.SeqAt
namespace L2
open PySem PySem.Spec PyProof.Rows
theorem qN (ds es:List Int):∀ k i,i≤min ds.length es.length→min ds.length es.length-i=k→SeqAt.gH (fun j=>ds.getD j 0==es.getD j 0) (fun j=>decide (ds.getD j 0<es.getD j 0)) (decide (ds.length<es.length)) k i=lexLt (ds.drop i) (es.drop i)
 | 0,i,hi,hk=>by
  unfold SeqAt.gH
  by_cases h1:ds.length≤es.length
  ·have e1:ds.drop i=[]:=R9 ‹5›
   rw [e1]
   by_cases h2:ds.length<es.length
   ·rw [Pg (show i<es.length by omega),decide_eq_true h2]; rfl
   ·have e2:es.drop i=[]:=R9 ‹5›
    rw [e2,decide_eq_false h2]; rfl
  ·have e2:es.drop i=[]:=R9 ‹5›
   rw [e2,Pg (show i<ds.length by omega),decide_eq_false ‹5›]; rfl
 | k+1,i,hi,hk=>by
  have h1:i<ds.length:=by omega
  have h2:i<es.length:=by omega
  unfold SeqAt.gH
  rw [Pg h1,Pg h2,qN ds es k (i+1) ‹5› ‹5›]
  have g1:ds.getD i 0=ds[i]:=by rw [Ox,Ow h1]; rfl
  have g2:es.getD i 0=es[i]:=by rw [Ox,Ow h2]; rfl
  rw [g1,g2]
  show _=if ds[i]=es[i] then lexLt (ds.drop (i+1)) (es.drop (i+1)) else decide (ds[i]<es[i])
  by_cases c:ds[i]=es[i]
  ·rw [if_pos c,if_pos (by simpa using c)]
  ·rw [if_neg c,if_neg (by simpa using c)]
def MO (H:Hp) (ps:List OF) (zs:List (List Int)):Prop:=Qv (fun p z=>Rd H p (.lst (z.map V.int))) ps zs
def Fx (K:OA):List V→Hp→VK→Prop:=fun xs H Q=>∃ (a:OF) (ps:List OF) (zs:List (List Int)),xs=[.ref a]∧dw K H a ‹55›∧MO H ps zs∧2≤zs.length∧zs.length<64 ∧
 ∀ idx:List Nat,idx.Perm (O0 zs.length)→(idx.Pairwise fun i j=>lexLt (zs.getD j []) (zs.getD i [])=false)→∀ D,H D=none→Q (.ref D) (upd H D (.lst (idx.map fun i=>V.ref (ps.getD i 0))))
variable {X:Cx} {K:OA} {k:Nat}
theorem A1 (hK:X.K=K) (hx:X.ex=[]) (hr:fO k X.A):dG X (.builtin "sorted") (Fx K):=by
 subst hK
 show 5
 obtain ⟨a,ps,zs,rfl,hq,tz,h2,h64,q⟩:=h
 cases r with
 | cons r1 r =>
  cases r
  cases (show _=Pf a from r1)
  obtain ⟨its,rv,pl,_⟩:=I.list hq
  have ei:=BI rv
  subst ei
  have hl:ps.length=zs.length:=QB tz
  obtain ⟨m,F⟩:=I.fr
  have at_:∀ i,i<zs.length→∃ p z,ps[i]?=some p∧zs[i]?=some z∧Rd H p (.lst (z.map V.int)):=fun i hi=>by
   obtain ⟨p,e1,g1⟩:=VL.Paired.DL tz (Ow hi)
   exact ⟨p,_,e1,Ow hi,g1⟩
  have hne:∀ {p:OF} {z:List Int},Rd H p (.lst (z.map V.int))→H p≠none:=fun {p z} h e=>by
   rcases h with h | ⟨o,h⟩
   ·rw [h] at e; cases e
   ·rw [h] at e; cases e
  have keepN:∀ (h':Qb),Xs X.base ‹27› h' (gh X.base s.heap ‹27›)→∀ p o,H p≠none→s.heap.get? p=some o→h'.get? p=some o:=fun h' N' p o hp e=>by
   have hb:p≠X.env.locals:=fun z=>hp (by rw [z]; exact I.free)
   cases eb:X.base.get? p with
   | some y=>exact absurd (I.bs p y eb).2 hp
   | none=>exact (N' (p,o) (cS hb eb e)).1
  have it:∀ (h':Qb),Xs X.base ‹27› h' (gh X.base s.heap ‹27›)→∀ i,i<zs.length→∃ p z us n,ps[i]?=some p∧zs[i]?=some z∧h'.get? p=some { cls:=.type "list", data:=.seq us.toArray n }∧RJ us z:=fun h' N' i hi=>by
   obtain ⟨p,z,e1,e2,g⟩:=at_ i hi
   obtain ⟨_,us,n,k1,_,o1⟩:=I.rj g
   exact ⟨p,z,us,n,e1,e2,keepN h' N' p _ (hne g) o1,intsAre_of k1⟩
  refine PySem.W.kas_sorted (T:=.type "list") (vs:=ps.map Pf) F (oK (h:=s.heap)) pl.isList (by rw [Oy]; omega) (by rw [Oy]; omega) (fun h' F' N' v hv=>?_) ‹11› fun D e1 h' F' N' hlt=>?_
  ·obtain ⟨p,hp,rfl⟩:=Pj.mp hv
   obtain ⟨i,hi,rfl⟩:=TV.mp hp
   obtain ⟨p',z,us,n,e1,e2,o1,_⟩:=it h' N' i ‹5›
   rw [Ow hi] at e1
   cases e1
   exact (PySem.W.Looks.ld o1).andThen PySem.W.Looks.now
  ·have N0:Xs X.base ‹27› h' (gh X.base s.heap ‹27›):=fun p hp=>N' p (OI _ hp)
   rw [Oy,hl]
   refine zq.i7.wp (lt:=fun i j=>lexLt (zs.getD i []) (zs.getD j [])) (N:=zs.length) (fun i j C hi hj hC=>?_) _ (zq.i7.mono (fun p hp=>?_) _ (zq.BA (B2 fun i=>zs.getD i []) ‹5›))
   ·obtain ⟨p,z,us,n,e1,e2,k1,k4⟩:=it h' N0 i hi
    obtain ⟨p',z',us',n',e1',e2',k1',k4'⟩:=it h' N0 j hj
    have ei:(ps.map Pf).getD i Qi=.ref p:=by rw [Ox,OH,e1]; rfl
    have ej:(ps.map Pf).getD j Qi=.ref p':=by rw [Ox,OH,e1']; rfl
    have zi:zs.getD i []=z:=by rw [Ox,e2]; rfl
    have zj:zs.getD j []=z':=by rw [Ox,e2']; rfl
    unfold Uc
    rw [ei,ej]
    rw [zi,zj] at hC
    have l1:=Tp k4
    have l2:=Tp k4'
    rw [PyProof.Rows.keyLt'_oneType]
    have iat:∀ {us:List OD} {z:List Int},RJ us z→∀ j (h:j<us.toArray.size),∃ t,us.toArray[j]=.int (z.getD j 0) t:=fun {us z} k j h=>by
     have rk:=js k
     have hj:j<z.length:=by rw [OM] at h; have:=Tp k; omega
     have e:(z.map V.int)[j]?=some (.int (z.getD j 0)):=by rw [OH,Ox,Ow hj]; rfl
     obtain ⟨u,eu,t,rfl⟩:=rk.get e
     refine ⟨t,?_⟩
     have:us[j]?=some us[j]:=Ow (by simpa using h)
     rw [this] at eu
     simpa using eu
    refine SeqAt.Ao (items:=us.toArray) (items2:=us'.toArray) (e:=fun j=>z.getD j 0==z'.getD j 0) (lt:=fun j=>decide (z.getD j 0<z'.getD j 0)) ⟨_,k1,rfl,_,rfl⟩ ⟨_,k1',rfl,_,rfl⟩ (by have:=hr.un; show X.A.units+1+1 < _; omega) (fun j h1 h2=>?_) (fun j h1 h2 _=>?_) ?_
    ·obtain ⟨t,e⟩:=iat k4 j h1
     obtain ⟨t',e'⟩:=iat k4' j h2
     rw [e,e']
     exact UA _ t _ t'
    ·obtain ⟨t,e⟩:=iat k4 j h1
     obtain ⟨t',e'⟩:=iat k4' j h2
     rw [e,e']
     exact SeqAt.D9.ints _ _ t t'
    ·rw [OM,OM,l1,l2,qN z z' (min z.length z'.length) 0 (PV _) rfl]
     exact hC
   ·obtain ⟨pm,up⟩:=hp
    have hlen:p.toList.length=zs.length:=by rw [pm.length_eq,PK]
    have lt_:∀ i∈p.toList,i<zs.length:=fun i hi=>O8.mp (pm.mem_iff.mp hi)
    refine TX F' N' (.head fun q hq=>OS (hlt q hq)) fun h'' c F'' N''=>?_
    have nD:=N' _ ON
    have hD:s.heap.get? D=none:=by
     cases e:s.heap.get? D with
     | none=>rfl
     | some o=>exact absurd (hlt (D,o) (cS nD.2.1 nD.2.2 e)) (PB _)
    have hn:H D=none:=(I.out hx hD).h
    have eo:(p.toList.map fun i=>(ps.map Pf).getD i Qi)=(p.toList.map fun i=>ps.getD i 0).map Pf:=by
     rw [O3]
     refine PU fun i hi=>?_
     have h1:i<ps.length:=by rw [hl]; exact lt_ i hi
     show (ps.map Pf).getD i Qi=Pf (ps.getD i 0)
     rw [Ox,OH,Ow h1,Ox,Ow h1]
     rfl
    have ev:(p.toList.map fun i=>V.ref (ps.getD i 0))=(p.toList.map fun i=>ps.getD i 0).map V.ref:=by rw [O3]; rfl
    refine ⟨.ref D,upd H D (.lst (p.toList.map fun i=>V.ref (ps.getD i 0))),I.FO (t':=s.toks) hx F F'' N'' hD ?_,rfl,q p.toList pm ?_ D hn⟩
    ·rw [eo] at N''
     refine ⟨by rw [Oy,hlen]; have:=Po; omega,(p.toList.map fun i=>ps.getD i 0).map Pf,c,by rw [ev]; exact uX _,?_⟩
     exact (N'' _ ON).1
    ·rw [SN]
     intro i j hi hj hij
     have hu:=up i j ‹5› ‹5›
     have gi:zq.g p i=p.toList[i]:=by unfold zq.g; rw [Pd,O6 (by simpa using hi)]; rfl
     have gj:zq.g p j=p.toList[j]:=by unfold zq.g; rw [Pd,O6 ‹44›]; rfl
     rw [gi,gj] at hu
     exact hu
def Jw (K:OA):List V→Hp→VK→Prop:=fun xs H Q=>Fx K xs H Q∨Ki K xs H Q
theorem D3 (hK:X.K=K) (hx:X.ex=[]) (hr:fO k X.A):dG X (.builtin "sorted") (Jw K):=dG.or (A1 hK hx hr) (ze hK)
end L2
namespace VL
variable {a:DE} {ρ:aK} {zs:List (List Int)} {idx:List Nat} {α:Type} {cs:List Nat}
open PySem L2
section
open Classical
noncomputable section
variable [bE] {K:OA}
def ij (z:List Int):D:=.lst (z.map D.int)
omit [bE] in
theorem FX (a b:List Int) (h:ij a=ij b):a=b:=by
 unfold ij at h
 injection h with h
 exact nr h
noncomputable def tS (a:DE):aK→Option (List D):=fun ρ=>match d7 a ρ with
 | some ds=>if h:∃ zs:List (List Int),ds=zs.map ij∧zs.length<64 then some ((kP h.choose).map ij) else none
 | none=>none
omit [bE] in
theorem GJ (e:d7 a ρ=some (zs.map ij)) (hl:zs.length<64):tS a ρ=some ((kP zs).map ij):=by
 have h:∃ zs':List (List Int),zs.map ij=zs'.map ij∧zs'.length<64:=⟨zs,rfl,hl⟩
 unfold tS
 rw [e]
 show (if h:∃ zs':List (List Int),zs.map ij=zs'.map ij∧zs'.length<64 then some ((kP h.choose).map ij) else none)=_
 rw [dif_pos h,← (List.map_inj_right FX).mp h.choose_spec.1]
omit [bE] in
theorem AW {ds:List D} (q:tS a ρ=some ds):∃ zs,d7 a ρ=some (zs.map ij)∧zs.length<64∧ds=(kP zs).map ij:=by
 unfold tS at q
 split at q
 ·rename_i es e
  split at q
  ·rename_i h
   cases q
   exact ⟨h.choose,by rw [e]; exact congrArg some h.choose_spec.1,h.choose_spec.2,rfl⟩
  ·cases q
 ·cases q
theorem yJ {H:Hp} {T:OF→Prop}:∀ {zs:List (List Int)} {vs:List V},IsL K H T vs (zs.map ij)→∃ ps:List OF,vs=ps.map V.ref∧MO H ps zs
 | [],_,.nil=>⟨[],rfl,.nil⟩
 | z::zs,_,.cons h r=>by
  obtain ⟨ps,rfl,hp⟩:=yJ r
  obtain ⟨p,us,rfl,hz,hr,hl,i⟩:=(show Is K H T _ (.lst (z.map D.int)) from h).vp
  have e:=IsL.ints i
  subst e
  exact ⟨p::ps,rfl,.cons hr hp⟩
omit [bE] in
theorem E8 (pm:idx.Perm (O0 zs.length)) (up:idx.Pairwise fun i j=>L2.lexLt (zs.getD j []) (zs.getD i [])=false):idx.map (fun i=>zs.getD i [])=kP zs:=by
 refine u3 ?_ ?_
 ·have:=pm.map fun i=>zs.getD i []
  rw [range_getD] at this
  exact this
 ·exact QJ.mpr up
omit [bE] in
theorem E9 (h:¬ 2≤zs.length):zs=kP zs:=by
 refine u3 (Yc _) ?_
 match zs,h with
 | [],_=>exact .nil
 | [z],_=>exact .cons (fun _ h=>by cases h) .nil
 | _::_::_,h=>exact absurd (by simp) h
theorem DD {H:Hp} {T:OF→Prop} {ps:List OF} (il:IsL K H T ‹55› (zs.map ij)) (hi:∀ i∈idx,i<zs.length):IsL K H T (idx.map fun i=>V.ref (ps.getD i 0)) ((idx.map fun i=>zs.getD i []).map ij):=by
 have hl:=il.length
 rw [Oy,Oy] at hl
 have:=Cd il (idx:=idx) (fun i h=>by rw [Oy]; exact hi i h)
 have e1:(idx.map fun i=>‹55›.getD i .non)=idx.map fun i=>V.ref (ps.getD i 0):=PU fun i h=>by
  have:=hi i h
  rw [Ox,OH,Ow ‹5›,Ox,Ow ‹5›]; rfl
 have e2:(idx.map fun i=>(zs.map ij).getD i .non)=(idx.map fun i=>zs.getD i []).map ij:=by
  rw [O3]
  exact PU fun i h=>by
   have:=hi i h
   show (zs.map ij).getD i .non=ij (zs.getD i [])
   rw [Ox,OH,Ow ‹5›,Ox,Ow ‹5›]; rfl
 rw [e1,e2] at this
 exact this
theorem HF {ta:TE} (ha:He K ta a):d8 K false (vq K (xX (Jw K) (cz ta fN))) (tS a):=fun {B Z os ρ σ H R ds} f q k=>by
 obtain ⟨zs,e,hl,rfl⟩:=AW q
 obtain ⟨d,e,ed⟩:=dh e
 refine ha f e fun v H1 s1 i1=>?_
 obtain ⟨p,vs,rfl,hlv,hn,hr⟩:=i1.seq ed
 obtain ⟨hqB,ilB⟩:=hr B No Kp.refl
 obtain ⟨hq,il⟩:=hr H1 No (Kp.same (f.keep.trans s1))
 obtain ⟨ps,rfl,hp⟩:=yJ il
 have hpl:ps.length=zs.length:=QB hp
 have hs:OE=16777216:=Po
 have f1:=f.grow s1
 have new:∀ (D:OF) (vs':List V),H1 D=none→IsL K B No vs' ((kP zs).map ij)→∃ q,V.ref D=.ref q∧(∃ xs,dw K (upd H1 D (.lst vs')) q xs)∧R (M8 K q) (upd H1 D (.lst vs')):=fun D vs' hD il'=>by
  have nt:¬ bR Z os D:=fun z=>by obtain ⟨o,e⟩:=f1.Jf D z; rw [hD] at e; cases e
  have hln:vs'.length=((kP zs).map ij).length:=il'.length
  refine ⟨D,rfl,⟨vs',dw.of aF⟩,k _ _ (s1.trans (bL hD)) (pF (vs:=vs') (by rw [Oy,(hX zs).length_eq]; omega) (fun H2 T2 kp sb=>?_) hln fun H2 T2 i v d kp sb e1 e2=>?_)⟩
  ·exact dw.of (kp D _ aF nt).1
  ·obtain ⟨v',g1,i2⟩:=il'.get e2
   rw [e1] at g1
   cases g1
   exact i2
 by_cases h2:2≤zs.length
 ·refine .inl ⟨p,ps,zs,rfl,hq,hp,h2,hl,fun idx pm up D hD=>?_⟩
  have lt_:∀ i∈idx,i<zs.length:=fun i hi=>O8.mp (pm.mem_iff.mp hi)
  have il2:=DD ilB lt_
  rw [E8 pm up] at il2
  exact new D _ hD il2
 ·refine .inr ⟨p,ps.map V.ref,rfl,hq,by rw [Oy,hpl]; omega,fun D hD=>?_⟩
  refine new D _ hD ?_
  rw [← E9 h2]
  exact ilB
end
end
section
open Classical
noncomputable section
variable [bE] {K:OA}
def MZ (cs:List Nat) (ρ:aK) (d:D):aK:=(r0 1 cs ρ).set 0 (.bo d)
def uw {α:Type} (kf:α→List Int) (xs:List α):List α:=xs.mergeSort fun x y=>!L2.lexLt (kf y) (kf x)
omit [bE] in
theorem pJ (kf:α→List Int) (xs:List α):(uw kf xs).Perm xs:=Uh _ _
omit [bE] in
theorem Bz (kf:α→List Int) (xs:List α):(uw kf xs).Pairwise fun a b=>L2.lexLt (kf b) (kf a)=false:=by
 have h:=Td (le:=fun x y=>!L2.lexLt (kf y) (kf x)) (fun a b c h1 h2=>by
  rw [Xe] at h1 h2 ⊢
  exact xf _ _ _ h1 h2) (fun a b=>by
  cases e:L2.lexLt (kf b) (kf a) with
  | false=>rfl
  | true=>simp [xg _ _ e]) xs
 exact h.imp fun h=>by simpa using h
omit [bE] in
theorem B0 {α:Type} {kf:α→List Int}:∀ {xs:List α},(xs.map kf).Nodup→∀ {a b:α},a∈xs→b∈xs→kf a=kf b→a=b
 | d::ds,h,a,b,ha,hb,e=>by
  rw [O9] at h
  obtain ⟨h1,h2⟩:=Pc.mp h
  rcases OP.mp ha with ea | ha2
  ·rcases OP.mp hb with eb | hb2
   ·rw [ea,eb]
   ·exact absurd (show kf d∈ds.map kf from Pj.mpr ⟨b,hb2,by rw [← e,ea]⟩) h1
  ·rcases OP.mp hb with eb | hb2
   ·exact absurd (show kf d∈ds.map kf from Pj.mpr ⟨a,ha2,by rw [e,eb]⟩) h1
   ·exact B0 h2 ha2 hb2 e
omit [bE] in
theorem pI {kf kg:α→List Int} {xs ds:List α} (hk:∀ d∈ds,kf d=kg d) (hn:(ds.map kf).Nodup) (p:xs.Perm ds) (h:xs.Pairwise fun a b=>L2.lexLt (kg b) (kg a)=false):xs=uw kf ds:=by
 refine RN (le:=fun a b=>L2.lexLt (kf b) (kf a)=false) (fun a b ha hb h1 h2=>B0 hn (p.mem_iff.mp ha) ((pJ kf ds).mem_iff.mp hb) (Az _ _ h2 h1)) ?_ (Bz kf ds) (p.trans (pJ kf ds).symm)
 refine Ra (fun {a b} ha hb z=>?_) h
 rw [hk a (p.mem_iff.mp ha),hk b (p.mem_iff.mp hb)]
 exact z
@[irreducible] noncomputable def sE (i:Nat) (cs:List Nat) (e:DE):DS:=fun ρ=>match ρ.getD i .un with
 | .om rows=>if h:∃ kf:List D→List Int,(∀ r∈rows,e (MZ cs ρ (.lst r))=some (CL (kf r))∧kf r≠[])∧(rows.map kf).Nodup∧rows.length<64 then .rt (fQ (uw h.choose rows)) else .no
 | _=>.no
omit [bE] in
theorem Er {i:Nat} {e:DE} {rows:List (List D)} {W:Wk} (kf:List D→List Int) (h0:ρ.getD i .un=.om rows) (hk:∀ r∈rows,e (MZ cs ρ (.lst r))=some (CL (kf r))∧kf r≠[]) (hn:(rows.map kf).Nodup) (hl:rows.length<64) (k:W.rt (fQ (uw kf rows))):Wp (sE i cs e) ρ W:=by
 have hh:∃ kf:List D→List Int,(∀ r∈rows,e (MZ cs ρ (.lst r))=some (CL (kf r))∧kf r≠[])∧(rows.map kf).Nodup∧rows.length<64:=⟨kf,hk,hn,hl⟩
 have es:uw hh.choose rows=uw kf rows:=by
  refine pI (kg:=hh.choose) (fun d hd=>?_) hn (pJ _ _) (Bz _ _)
  have h1:=(hk d hd).1
  rw [(hh.choose_spec.1 d hd).1] at h1
  exact (ED _ _ (Pm h1)).symm
 unfold Wp sE
 rw [h0]
 show 20
 rw [dif_pos hh,es]
 exact k
theorem E4 {P:OF} {q:P2} {i:Nat} {te:TE} {e:DE} (hP:(P,q)∈bE.ts) (he:af K te e):di .m K (EN (EM K P q (iJ i) te cs)) (sE i cs e):=fun {B Z os ρ σ H E} f p=>by
 unfold sE at p
 split at p
 ·rename_i rows e0
  split at p
  ·rename_i hh
   obtain ⟨hk,hn,hl⟩:=hh.choose_spec
   generalize hh.choose=kf at *
   obtain ⟨a,ps,eo,hu,hH,hls,hpl,pr⟩:=BX f e0
   have hs:OE=16777216:=Po
   obtain ⟨t,eP⟩:=f.oa _ hP
   refine ⟨_,join_some hu,a,ps.map V.ref,_,t,rfl,dw.of hH,by rw [Oy]; omega,eP,rfl,fun H2 gr=>?_⟩
   have hnd:=f.nd i
   rw [eo] at hnd
   obtain ⟨hna,hnp⟩:=Pc.mp hnd
   have hin:∀ q∈ps,q∈os i:=fun q hq=>by rw [eo]; exact OI _ hq
   have key:∀ (r:List OF) (rr dd:List (List D)) (pk:List OF) (H3:Hp),aW H H3→Qv (fun p ds=>∃ vs,H p=some (.lst vs)∧vs.length≤OE∧IsL K H (bR Z os) vs ds) r rr→dd++rr=rows→MK H3 pk (dd.map kf)→oQ te (cs.map fun i=>(σ[i]?).join) (Ea ‹55› E.rt) (r.map V.ref) (pk.map V.ref) H3:=by
    intro r
    induction r with
    | nil =>
     intro rr dd pk H3 s3 pr3 hd tz
     cases pr3
     rw [Qs] at hd
     subst hd
     refine ⟨pk,dd.map kf,rfl,tz,fun idx pm up Dn hD=>?_⟩
     rw [Oy] at pm
     have lt_:∀ i∈idx,i<dd.length:=fun i hi=>O8.mp (pm.mem_iff.mp hi)
     have er:∀ {α:Type} (l:List α) (d:α),(O0 l.length).map (fun i=>l.getD i d)=l:=fun l d=>by
      refine RT (by simp) fun i h1 h2=>?_
      simp [h2]
     have ex:idx.map (fun i=>dd.getD i [])=uw kf dd:=by
      refine pI (kg:=kf) ‹8› hn ?_ ?_
      ·have:=pm.map fun i=>dd.getD i []
       rw [er] at this
       exact this
      ·rw [QJ]
       refine Ra (fun {i j} hi hj z=>?_) up
       have gi:∀ i,i<dd.length→(dd.map kf).getD i []=kf (dd.getD i []):=fun i hi=>by
        rw [Ox,OH,Ow hi,Ox,Ow hi]; rfl
       rw [gi _ (lt_ i hi),gi _ (lt_ j hj)] at z
       exact z
     have ep:(idx.map fun i=>‹55›.getD i .non)=(idx.map fun i=>ps.getD i 0).map V.ref:=by
      rw [O3]
      exact PU fun i hi=>by
       have:=lt_ i hi
       show ‹55›.getD i .non=V.ref (ps.getD i 0)
       rw [Ox,OH,Ow ‹5›,Ox,Ow ‹5›]; rfl
     have pp:(idx.map fun i=>ps.getD i 0).Perm ps:=by
      have:=pm.map fun i=>ps.getD i 0
      rw [← hpl,er] at this
      exact this
     have hHD:H Dn=none:=aW.free s3 hD
     have hBD:B Dn=none:=aW.free f.keep hHD
     have hDp:Dn∉idx.map fun i=>ps.getD i 0:=fun z=>by
      have:=pp.mem_iff.mp z
      obtain ⟨j,hj,e'⟩:=TV.mp this
      obtain ⟨x',ex0,vs',hv,_⟩:=VL.Paired.DL pr (Ow (show j<dd.length by omega))
      rw [Ow hj,e'] at ex0
      rw [← Pm ex0] at hv
      rw [hHD] at hv; cases hv
     refine p _ _ (f.keep.trans (s3.trans (bL hD))) ⟨Dn,idx.map fun i=>ps.getD i 0,uw kf dd,rfl,rfl,hBD,fun x hx=>(f.new i x (hin x (pp.mem_iff.mp hx))).1,Pc.mpr ⟨hDp,pp.nodup_iff.mpr hnp⟩,by rw [ep]; exact aF,by rw [pp.length_eq]; exact hls,?_⟩
     rw [← ex]
     have pick:∀ (l:List Nat),(∀ i∈l,i<dd.length)→Qv (fun x ds=>∃ vs,upd H3 Dn (.lst (idx.map fun i=>‹55›.getD i .non)) x=some (.lst vs)∧vs.length≤OE∧IsL K (upd H3 Dn (.lst (idx.map fun i=>‹55›.getD i .non))) (fun b=>(b=Dn∨b∈idx.map fun i=>ps.getD i 0)∨Z b) vs ds) (l.map fun i=>ps.getD i 0) (l.map fun i=>dd.getD i []):=by
      intro l
      induction l with
      | nil=>intro _; exact .nil
      | cons j l ih =>
       intro hl'
       have hj:=hl' j ON
       obtain ⟨x,ex',vs,h1,h2,h3⟩:=VL.Paired.DL pr (Ow hj)
       refine .cons ?_ (ih fun i hi=>hl' i (OI _ hi))
       have e1:ps.getD j 0=x:=by rw [Ox,ex']; rfl
       have e2:dd.getD j []=dd[j]:=by rw [Ox,Ow hj]; rfl
       show 20
       rw [e1,e2]
       have kp:Kp (bR Z os) H (fun b=>(b=Dn∨b∈idx.map fun i=>ps.getD i 0)∨Z b) (upd H3 Dn (.lst (idx.map fun i=>‹55›.getD i .non))):=fun b o hb nb=>by
        have nD:b≠Dn:=fun z=>by rw [z,hHD] at hb; cases hb
        refine ⟨by rw [upd_ne nD]; exact s3 _ _ hb,fun z=>?_⟩
        rcases z with (z | z) | z
        ·exact nD z
        ·exact nb (.inr ⟨i,hin b (pp.mem_iff.mp z)⟩)
        ·exact nb (.inl z)
       have nx:x≠Dn:=fun z=>by rw [z,hHD] at h1; cases h1
       exact ⟨vs,by rw [upd_ne nx]; exact s3 _ _ h1,h2,h3.kp kp⟩
     exact pick idx lt_
    | cons x r ih =>
     intro rr dd pk H3 s3 pr3 hd tz
     cases pr3 with
     | @cons _ d _ rr' g pr' =>
      obtain ⟨vs,h1,h2,h3⟩:=g
      have hdm:d∈rows:=by rw [← hd]; exact OJ _ ON
      have ef:=zg (k:=1) (cs:=cs) f s3 (W:=bR Z os) (fun a z=>let ⟨o,e⟩:=f.Jf a z; ⟨o,s3 _ _ e⟩) (Kp.same s3)
      have hg:uT K false (ky 0) (gN false 0):=aD 0
      have er:ER K false H H3 (bR (bR Z os) fun _=>[]) (.ref x) (.lst d):=.lst (fun z=>z) (.inl h1) h2 (h3.kp (Kp.less fun _ z=>z.elim))
      refine hg (Q:=fun σ2 H2=>te σ2 H2 fun k H'=>Hk H3 H'∧oQ te (cs.map fun i=>(σ[i]?).join) (Ea ‹55› E.rt) (r.map V.ref) (pk.map V.ref++[k]) H') ef er (show gN false 0 (.lst d) (r0 1 cs ρ)=some (MZ cs ρ (.lst d)) from rfl) fun os1 σ1 fr1 _=>?_
      refine he fr1 (hk d hdm).1 fun u H4 s4 i4=>⟨s4,?_⟩
      obtain ⟨p4,us,rfl,_,hr4,_,iu⟩:=(show Is K H4 _ u (.tup ((kf d).map D.int)) from i4).isTup
      have eu:=IsL.ints iu
      subst eu
      have em:pk.map V.ref++[V.ref p4]=(pk++[p4]).map V.ref:=by rw [O7]; rfl
      rw [em]
      refine ih rr' (dd++[d]) (pk++[p4]) H4 (s3.trans s4) pr' (by rw [Qx]; exact hd) ?_
      rw [O7]
      exact Paired.append (Paired.mono tz fun p z _ hz=>⟨hz.1,s4 _ _ hz.2⟩) (.cons ⟨(hk d hdm).2,hr4⟩ .nil)
   exact key ps rows [] [] H2 gr pr rfl .nil
  ·show 17
 ·show 17
end
end
section
open Classical
noncomputable section
variable [bE] {K:OA}
theorem dS.Nl {fr:Fm} {P:PL} {w:PR} {mg:P2→Option OD} {base:Qb} {x qual:P2} {st:RE} {f:OF} {fd:PN} {N ps:List P2} {k:Nat} (F:dS K x qual st f fd) (S:bq N ps (aB st)) (ms:List Bool) (hms:ms.length=ps.length) (b:DS)
 (hbody:∀ (cdv:OD),fd.code=cdv→∀ (A:P8) (outer:List XQ) (s:OG) (H:Hp) (E:XK),fO k (A.deeper (SQ qual (aB st) ‹1› f cdv)) →
  ∃ t,xM ‹28›.Hn (fF st) t∧di fr K t b) (hfr:∀ E C,fr≠.x E C:=by intro _ _ h; cases h):dv P w K mg base jq (k+1) f fd ps (kQ fr K ms (oA N.length ms b)):=by
 refine L2.dS.Ob F S (fun vs H Q E h=>?_) (fun cdv hcd A outer s H vs Q E hr h=>?_)
 ·obtain ⟨Z,ds,d,hz,a,_⟩:=h
  rw [a.len.1,hms]
 ·obtain ⟨Z,ds,d,hz,a,e,k⟩:=h
  obtain ⟨t,h1,h2⟩:=hbody cdv hcd A outer s H E hr
  refine ⟨t,h1,h2 (rA hz a) ?_⟩
  unfold oA at e
  split at e
  ·rename_i d' e1
   cases e
   rw [e1]
   cases fr with
   | v=>exact fun v H' s' i=>k v H' s' i
   | l=>exact fun v H' s' i=>k v H' s' i
   | m=>exact fun v H' s' i=>k v H' s' i
   | x E0 C=>exact absurd rfl (hfr E0 C)
  ·cases e
end
end
end VL
namespace L2
open PySem PySem.Spec PyProof.Rows VL
def Rs (xs:Array Nat):Prop:=xs.toList.Pairwise (· < ·)
variable {xs:Array Nat} {j:Nat}
theorem Rs.lt (h:Rs xs) {i:Nat} (hij:i<j) (hj:j<xs.size):xs[i]'‹5›<xs[j]:=by
 have:=(SN.mp h) i j (by simp; omega) ‹44› hij
 simpa using this
theorem t5 {xs:Array Nat} (h:Rs xs) (j:Nat):∀ (f lo hi:Nat),hi-lo≤f→lo≤hi→hi≤xs.size→(∀ k,(hk:k<xs.size)→k<lo→xs[k]<j)→(∀ k,(hk:k<xs.size)→hi≤k→j≤xs[k]) →
 Tq xs j f lo hi≤xs.size∧(∀ k,(hk:k<xs.size)→k<Tq xs j f lo hi→xs[k]<j)∧∀ k,(hk:k<xs.size)→Tq xs j f lo hi≤k→j≤xs[k]
 | 0,lo,hi,hf,h1,h2,a,b=>by
  have e:lo=hi:=by omega
  subst e
  exact ⟨h2,a,b⟩
 | f+1,lo,hi,hf,h1,h2,a,b=>by
  unfold Tq
  by_cases c:lo<hi
  ·rw [if_pos c]
   have hm:(lo+hi) / 2<xs.size:=by omega
   have hg:xs.getD ((lo+hi) / 2) j=xs[(lo+hi) / 2]:=by simp [Yd,hm]
   show 20
   rw [hg]
   by_cases d:xs[(lo+hi) / 2]<j
   ·rw [if_pos d]
    refine t5 h j f _ hi ‹5› ‹5› h2 (fun k hk hk2=>?_) b
    by_cases e:k=(lo+hi) / 2
    ·subst e; exact d
    ·have:=h.lt (i:=k) (j:=(lo+hi) / 2) ‹5› hm; omega
   ·rw [if_neg d]
    refine t5 h j f lo _ ‹5› ‹5› ‹5› a fun k hk hk2=>?_
    by_cases e:k=(lo+hi) / 2
    ·subst e; omega
    ·have:=h.lt (i:=(lo+hi) / 2) (j:=k) ‹5› hk; omega
  ·rw [if_neg c]
   have e:lo=hi:=by omega
   subst e
   exact ⟨h2,a,b⟩
theorem t4 (h:Rs xs) (j:Nat):Qf xs j≤xs.size∧(∀ k,(hk:k<xs.size)→k<Qf xs j→xs[k]<j)∧∀ k,(hk:k<xs.size)→Qf xs j≤k→j≤xs[k] :=
 t5 h j xs.size 0 xs.size ‹5› ‹5› (OT _) (fun k hk z=>by omega) fun k hk z=>by omega
variable {α:Type}
theorem yN (xs:Array α) (p:Nat) (x:α):(UU xs p x).toList=xs.toList.take p++x::xs.toList.drop p:=by
 unfold UU
 simp
 exact R8 (by simp)
theorem DI (h:Rs xs) (hn:(xs[Qf xs j]?==some j)=false):Rs (UU xs (Qf xs j) j):=by
 obtain ⟨b1,b2,b3⟩:=t4 h j
 unfold Rs
 rw [yN]
 generalize hb:Qf xs j=b at *
 refine QA.mpr ⟨VP (W9 _ _) h,Qm.mpr ⟨fun y hy=>?_,VP (Xh _ _) h⟩,fun y hy z hz=>?_⟩
 ·obtain ⟨i,hi,e⟩:=Rt hy
  rw [Xi] at e
  have hi':b+i<xs.size:=by simp at hi; omega
  have h1:=b3 (b+i) hi' ‹5›
  have e':xs[b+i]=y:=by simpa using e
  by_cases c:i=0
  ·subst c
   have:xs[b]?=some xs[b]:=O6 ‹5›
   rw [this] at hn
   have ne:xs[b]≠j:=fun z=>by rw [z] at hn; simp at hn
   simp only [Nat.add_zero] at e' h1
   omega
  ·have h2:=h.lt (i:=b) (j:=b+i) ‹5› hi'
   have h3:=b3 b ‹5› (OT _)
   omega
 ·obtain ⟨i,hi,e⟩:=Rt hy
  rw [List.getElem_take] at e
  have hib:i<b:=by simp at hi; omega
  have hi':i<xs.size:=by omega
  have h1:=b2 i hi' hib
  have e':xs[i]=y:=by simpa using e
  rcases OP.mp hz with rfl | hz
  ·omega
  ·obtain ⟨k,hk,ek⟩:=Rt hz
   rw [Xi] at ek
   have hk':b+k<xs.size:=by simp at hk; omega
   have ek':xs[b+k]=z:=by simpa using ek
   have h2:=b3 (b+k) hk' ‹5›
   omega
def Au (t:SA) (j:Nat):Prop:=(t.place[Qf t.place j]?==some j)=false
theorem pQ (t:SA) (f:Nat→Int) (h:Int):∀ (n:Nat) (p:SetTable.Probe),(∀ d,p.dummy=some d→Au t d)→∀ j d,Xj t f h n p=some (.empty j d)→Au t (d.getD j)
 | 0,p,hp,j,d,e=>by cases e
 | n+1,p,hp,j,d,e=>by
  unfold Xj at e
  cases hs:t.slot p.j with
  | empty =>
   rw [hs] at e
   dsimp only at e
   have hoff:Au t p.j:=by
    unfold Yl at hs
    dsimp only at hs
    unfold Au
    by_cases c:(t.place[Qf t.place p.j]?==some p.j)=true
    ·rw [if_pos c] at hs; cases hs
    ·simpa using c
   injection e with e
   injection e with e1 e2
   subst e1
   subst e2
   cases hd:p.dummy with
   | none=>exact hoff
   | some x=>exact hp x hd
  | dummy =>
   rw [hs] at e
   dsimp only at e
   have hoff:Au t p.j:=by
    unfold Yl at hs
    dsimp only at hs
    unfold Au
    by_cases c:(t.place[Qf t.place p.j]?==some p.j)=true
    ·rw [if_pos c] at hs; cases hs
    ·simpa using c
   refine pQ t f h n _ (fun x hx=>?_) j d e
   unfold XD at hx
   split at hx
   ·cases hx; exact hoff
   ·cases hx; exact hoff
  | live i =>
   rw [hs] at e
   dsimp only at e
   split at e
   ·injection e with e; cases e
   ·refine pQ t f h n _ (fun x hx=>?_) j d e
    unfold XD at hx
    split at hx
    ·exact hp x hx
    ·exact hp x hx
variable {t:SA}
theorem xl {h:Int} {b:Bool} (e:t.freeSlot h=some (j,b)):Au t j:=by
 unfold SetTable.freeSlot at e
 split at e
 ·rename_i j' d' e'
  injection e with e
  injection e with e1 e2
  subst e1
  exact pQ t _ h _ _ (fun d hd=>by unfold SetTable.probeStart at hd; cases hd) _ _ e'
 ·cases e
theorem Fw (n:Nat):Rs (Array.range n):=by
 unfold Rs
 rw [Array.toList_range]
 exact Tr
structure o4 (led:Bool) (t:SA):Prop where
 led:t.led=led
 up:Rs t.place
variable {led:Bool}
theorem lX (g:o4 led t) (n:Nat):o4 led (t.standIn n):=⟨g.led,Fw n⟩
theorem Ga (g:o4 led t) (es:Array (Int×OD)) (h:Int) (x:OD):o4 led (layNew t es h x).2.1:=by
 unfold layNew
 split
 ·rename_i j b e
  show o4 led (WW _ _)
  have g2:o4 led (t.put j).1:=⟨g.led,DI g.up (xl e)⟩
  unfold WW
  split
  ·exact g2
  ·exact lX g2 _
 ·exact lX g _
theorem IA (f:Nat→Option α) (n:Nat):(((O0 n).filterMap fun j=>(f j).map (j,·)).map (·.1)).Pairwise (· < ·):=by
 rw [QJ]
 refine List.Pairwise.filterMap _ (R:=(· < ·)) (fun a a' h b hb b' hb'=>?_) Tr
 cases e:f a with
 | none=>rw [e] at hb; cases hb
 | some u=>cases e':f a' with
  | none=>rw [e'] at hb'; cases hb'
  | some u' =>
   rw [e] at hb; rw [e'] at hb'
   cases hb; cases hb'
   exact h
theorem Ah (g:o4 led t) (es:Array (Int×OD)) (n:Nat):o4 led (Wb t es n).2.1:=by
 unfold Wb
 split
 ·rename_i t' o e
  show 20
  split
  ·unfold SetTable.relaid SetTable.laid at e
   obtain ⟨ow,e1,e2⟩:=Option.bind_eq_some_iff.mp e
   cases e2
   refine ⟨g.led,?_⟩
   unfold Rs
   show 20
   exact IA _ _
  ·exact lX g _
 ·exact lX g _
def keyOf (e:Int×OD):Int:=match e.2 with
 | .int k _=>k
 | _=>0
def ML (e:Int×OD):Prop:=∃ (k:Int) (t:Yq),e=(Vf k,.int k t)
abbrev fS (es:Array (Int×OD)) (ep:Nat) (t:SA):Q5:={ cls:=.type "set", data:=.set es ep t }
variable {k:Int} {S:OF} {ks:List Int} {tk:Yq}
def ub (led:Bool) (h:Qb) (S:OF) (ks:List Int):Prop:=∃ (es:Array (Int×OD)) (ep:Nat) (t:SA),h.get? S=some (fS es ep t)∧(∀ e∈es.toList,ML e)∧es.toList.map keyOf=ks∧t.fits es.size=true∧o4 led t
section
variable {prog:PL} {w:PR} {A:P8} {E:OD→OG→Prop} {s:OG}
theorem De {l:List (Int×OD)} (h:∀ e∈l,ML e):ElemsOf (Vg prog w) l:=fun e he=>by
 obtain ⟨k,t,rfl⟩:=h e he
 exact ⟨⟨k,Vs _ _ _ _,rfl⟩,rfl⟩
theorem find_key {l:List (Int×OD)} (h:∀ e∈l,ML e):(∃ e∈l,(Vg prog w).is k e.2=true)↔k∈l.map keyOf:=by
 rw [Pj]
 constructor
 ·rintro ⟨e,he,q⟩
  obtain ⟨j,t,rfl⟩:=h e he
  exact ⟨_,he,(Vg prog w).inj (.int j t) j k (Vs _ _ _ _) q⟩
 ·rintro ⟨e,he,q⟩
  obtain ⟨j,t,rfl⟩:=h e he
  cases q
  exact ⟨_,he,Vs _ _ _ _⟩
theorem vf {h:Qb} {es es':Array (Int×OD)} {ep:Nat} {t':SA} (ho:h.get? S=some (fS es ep t)):(h.update S (Ye es' t')).get? S=some (fS es' (ep+1) t'):=by
 have q:=P1 (Ye es' t') ho (by rw [putSet_of es' t' rfl]; rfl)
 rwa [putSet_of es' t' rfl] at q
theorem add_int {Q:Bool→OG→Prop} (hS:ub led s.heap S ks) (hroom:ks.length+1<Us)
    (h:∀ (b:Bool) (g:Qb) (ks':List Int),RI S s.heap g→ub led g S ks'→ks'.Perm (if k∈ks then ks else ks++[k])→Q b { s with heap:=g }):OX ‹13› A (setAddHashed S (.int k tk) (Vf k)) Q E s:=by
  obtain ⟨es,ep,t,ho,ck,rfl,hf,tg⟩:=id hS
  have hlen:es.size+1<Us:=by rw [Oy,Pr] at hroom; exact hroom
  have hel:=De (prog:=prog) (w:=w) ck
  have hky:=find_key (prog:=prog) (w:=w) (k:=k) ck
  unfold setAddHashed setAddHashedIn
  refine PQ (Oz (Q1 ho rfl hf ?_))
  show 20
  rw [byScan_of (knd:=Vg prog w) (x:=.int k tk) rfl ‹5› hel]
  simp only [if_true]
  unfold setAddByScan
  refine Oz (Oz (Ta ?_))
  refine Oz (wpAny_setScan_of (knd:=Vg prog w) (k:=k) (x:=.int k tk) (Vs _ _ _ _) ho rfl hf hel ?_)
  cases hr:List.findIdx? (fun e=>(Vg prog w).is k e.2) es.toList with
  | some j =>
    show 20
    obtain ⟨hj,hpj,_⟩:=List.findIdx?_eq_some_iff_getElem.mp hr
    have hm:k∈es.toList.map keyOf:=hky.mp ⟨es.toList[j],QD hj,hpj⟩
    refine OL (OL ?_)
    have q:=h false s.heap _ (Xa S s.heap) hS (by rw [if_pos hm])
    exact q
  | none =>
    show 20
    have hm:k∉es.toList.map keyOf:=fun z=>by
      obtain ⟨e,he,hp⟩:=hky.mpr z
      have:=List.findIdx?_eq_none_iff.mp hr e he
      rw [hp] at this; cases this
    have gw:∀ (b:Bool) {u:OG} {R:Unit→OG→Prop},R () u→OX ‹13› A (match b with | true=>rule "set.scan.the-table-gave-way" | false=>pure ()) R E u:=fun b _ _ q=>by cases b <;> first | exact OL q | exact Ta q
    have pm:=layNew_perm t es (Vf k) (.int k tk)
    have fi:=layNew_fits t es (Vf k) (.int k tk)
    have tg1:=Ga tg es (Vf k) (.int k tk)
    generalize layNew t es (Vf k) (.int k tk)=N at pm fi tg1 ⊢
    obtain ⟨es1,t1,dum,gave⟩:=N
    dsimp only at pm fi tg1 ⊢
    rw [Xk] at pm
    have ok1:∀ e∈es1.toList,ML e:=fun e he=>by
      rcases O4.mp (pm.mem_iff.mp he) with q | q
      · exact ck e q
      · rw [OB.mp q]; exact ⟨k,tk,rfl⟩
    have pk:(es1.toList.map keyOf).Perm (es.toList.map keyOf++[k]):=by
      have:=pm.map keyOf
      rwa [O7] at this
    have sz:es1.size<Us:=by rw [← Pr,pm.length_eq,O1,Pr]; exact hlen
    refine Oz (gw _ ?_)
    have tail:∀ (gf:Bool→Sem Unit) (hgf:∀ (b:Bool) (u:OG) (R:Unit→OG→Prop),R () u→OX ‹13› A (gf b) R E u) (t2:SA),t2.fits es1.size=true→o4 led t2→OX ‹13› A (do
        storeSet S es1 t2
        if (!dum&&t2.tooFull)=true then do
            gf (Wb t2 es1 (RW es1.size)).2.2
            storeSet S (Wb t2 es1 (RW es1.size)).1 (Wb t2 es1 (RW es1.size)).2.1
            pure (some true)
          else pure (some true)) (fun r u=>OX ‹13› A (match r with | some b=>pure b | none=>setAddHashedIn S (.int k tk) (Vf k) 99999) Q E u) E s:=by
      intro gf hgf t2 f2 g2
      refine Oz (wpAny_storeSet_of ho rfl ?_ (fits_of_scanBound sz))
      have h1:=vf (es':=es1) (t':=t2) ho
      have sb:=Q3 s.heap S (Ye es1 t2)
      split
      · have p2:=relayAll_perm t2 es1 (RW es1.size)
        have f3:=relayAll_fits t2 es1 (RW es1.size)
        have g3:=Ah g2 es1 (RW es1.size)
        generalize Wb t2 es1 (RW es1.size)=R at p2 f3 g3 ⊢
        obtain ⟨es2,t3,gave2⟩:=R
        dsimp only at p2 f3 g3 ⊢
        have sz2:es2.size=es1.size:=by rw [← Pr,p2.length_eq,Pr]
        refine Oz (hgf _ _ _ ?_)
        refine Oz (wpAny_storeSet_of h1 rfl ?_ (fits_of_scanBound (by rw [sz2]; exact sz)))
        refine OL (OL (h true _ _ (sb.trans (Q3 _ S _)) ⟨es2,_,t3,vf h1,fun e he=>ok1 e (p2.mem_iff.mp he),rfl,f3,g3⟩ ?_))
        rw [if_neg hm]
        exact (p2.map keyOf).trans pk
      · refine OL (OL (h true _ _ sb ⟨es1,_,t2,h1,ok1,rfl,f2,g2⟩ ?_))
        rw [if_neg hm]
        exact pk
    split
    · refine Oz ?_
      rw [hashByValue_scannable 8 (x:=.int k tk) rfl]
      refine OL ?_
      exact tail _ (fun b _ _ q=>by cases b <;> first | exact OL q | exact Ta q) _ fi tg1
    · refine Oz (OL ?_)
      simp only [if_true]
      exact tail _ (fun b _ _ q=>by cases b <;> first | exact OL q | exact Ta q) _ fi tg1
end
structure Once (val:Nat→Int) (i:Nat) (ks:List Int):Prop where
 nd:ks.Nodup
 mem:∀ x,x∈ks↔∃ j,j<i∧val j=x
 len:ks.length≤i
theorem Once.next {val:Nat→Int} {i:Nat} {ks':List Int} (h:Once val i ks) (p:ks'.Perm (if val i∈ks then ks else ks++[val i])):Once val (i+1) ks':=by
 have hl:=h.len
 by_cases c:val i∈ks
 ·rw [if_pos c] at p
  refine ⟨p.nodup_iff.mpr h.nd,fun x=>?_,by rw [p.length_eq]; omega⟩
  rw [p.mem_iff,h.mem]
  constructor
  ·rintro ⟨j,hj,e⟩; exact ⟨j,by omega,e⟩
  ·rintro ⟨j,hj,e⟩
   by_cases z:j=i
   ·subst z; exact (h.mem x).mp (e ▸ c)
   ·exact ⟨j,by omega,e⟩
 ·rw [if_neg c] at p
  refine ⟨p.nodup_iff.mpr (Sn.mpr ⟨h.nd,by simp,fun a ha b hb z=>?_⟩),fun x=>?_,by rw [p.length_eq,O1,Qh]; omega⟩
  ·rw [OB.mp hb] at z; subst z; exact c ha
  ·rw [p.mem_iff,O4,h.mem,OB]
   constructor
   ·rintro (⟨j,hj,e⟩ | rfl)
    ·exact ⟨j,by omega,e⟩
    ·exact ⟨i,by omega,rfl⟩
   ·rintro ⟨j,hj,e⟩
    by_cases z:j=i
    ·subst z; exact .inr e.symm
    ·exact .inl ⟨j,by omega,e⟩
variable {Q:OD→OG→Prop}
theorem ub.at {h h':Qb} (x:ub led h S ks) (hk:∀ o,h.get? S=some o→h'.get? S=some o):ub led h' S ks:=by
 obtain ⟨es,ep,t,ho,r⟩:=x
 exact ⟨es,ep,t,hk _ ho,r⟩
section
variable {prog:PL} {w:PR} {A:P8} {R:VY→OG→Prop} {I:OF} {fp wr:List OF} {Gn:Array X1→Array X1→Prop} {n:Nat} {P:Nat→OD→Prop} {St:Nat→OG→Prop}
theorem Fo (W:WalksS prog w A.in1 I fp wr Gn n P St) (S:OF) (hSf:S∉fp) (val:Nat→Int) (hv:∀ j v,P j v→∃ t,v=.int (val j) t) (hn:n+1<Us) :
 ∀ (k i:Nat) (s:OG) (ks:List Int),n-i=k→i≤n→St i s→ub led s.heap S ks→Once val i ks→(∀ (u:OG) (us:List Int),Moved (S::wr) Gn s u→ub led u.heap S us→Once val n us→R (.ok (.ret .none)) u) →
  Ti ‹13› A (.builtin "set.update.loop" ⟨[.ref S,.ref I],[]⟩) R s:=by
 have nw:S∉wr:=fun z=>hSf (W.sub _ z)
 have sub:∀ b∈wr,b∈S::wr:=fun b z=>OI _ z
 intro k
 induction k with
 | zero =>
  intro i s ks hk hi st hS ho hR
  have e:i=n:=by omega
  subst e
  refine Qk SR ?_
  rw [PX Ru _]
  show OX _ A.in1 (R6 (.ref I) >>= _) _ _ _
  refine Oz (W.done s _ _ st fun u mv=>?_)
  exact OL (hR u ks (mv.mono sub) (hS.at fun o e=>mv.heap S _ nw e) ho)
 | succ k ih =>
  intro i s ks hk hi st hS ho hR
  have lt:i<n:=by omega
  refine Qk SR ?_
  rw [PX Ru _]
  show OX _ A.in1 (R6 (.ref I) >>= _) _ _ _
  refine Oz (W.item i s _ _ lt st fun v u pv st' mv=>?_)
  obtain ⟨t,rfl⟩:=hv i v pv
  have hS':=hS.at (h':=u.heap) fun o e=>mv.heap S _ nw e
  show OX _ A.in1 (holding [.int (val i) t] (setAdd S (.int (val i) t)) >>= _) _ _ _
  refine Oz (PQ ?_)
  unfold setAdd
  refine PQ (Oz ((Vg prog w).pyHash (k:=val i) (Vs _ _ _ _) ?_))
  have room:ks.length+1<Us:=by have:=ho.len; omega
  refine add_int (s:={ u with toks:=u.toks+1 }) hS' room fun b g ks' sb hS2 pm=>?_
  refine OL ⟨QL Ru _,ih (i+1) _ ks' ‹5› lt (W.frame _ u _ _ st' (R1 _) fun b hb o e=>?_) hS2 (ho.next pm) fun u2 us m2 h2 o2=>?_⟩
  ·rw [sb.2 b fun z=>hSf (z ▸ hb)]; exact e
  ·refine hR u2 us (Moved.trans W.gtrans ((mv.mono sub).then_heap (R1 _) fun b o hb e=>?_) m2) h2 o2
   rw [sb.2 b fun z=>hb (z ▸ ON)]; exact e
end
section
variable {prog:PL} {w:PR} {A:P8} {E:OD→OG→Prop} {s:OG}
def lr (w:PR):Bool:=!(w.params.followText "set-order")
theorem Ih (a:OD) (h:Q (.ref ‹1›) { s with heap:=s.heap.push (fS #[] 0 (.fresh 0 0 (lr w))) }):Ti ‹13› A (.call (.builtin "set.__new__") ⟨[.type "set", a],[]⟩) (wants Q E) s:=by
 refine codeAny_of_tree ?_
 show OX _ A.in1 (checkBuiltinCall "set.__new__" ⟨[.type "set", a],[]⟩ >>= fun _=>again (.builtin "set.__new__" ⟨[.type "set", a],[]⟩)) _ _ _
 refine Oz (XO (PySem.F.newCall_set_1 a) (OL ⟨QL VQ _,Qk PySem.F.entry_set_new ?_⟩))
 rw [PX VQ _]
 unfold QP.«set.__new__» Yf
 have hsub:=sub_set_self
 obtain ⟨hp,gs,dr,tk,os⟩:=s
 show 20
 wp_walk
 refine RX (OL ?_)
 show 20
 simp only [newObj]
 exact Oz (wpAny_alloc (OL (OL h)))
theorem Iz (led:Bool) (h:Qb) (S:OF) (e:h.get? S=some (fS #[] 0 (.fresh 0 0 led))):ub led h S []:=⟨#[],0,_,e,fun e he=>(by simp at he),rfl,rfl,⟨rfl,by unfold Rs SetTable.fresh; simp⟩⟩
set_option maxHeartbeats 3200000 in
theorem G0 {l:OF} {items:Array OD} {ns:List Int} (hh:A.handled=none) (hl:s.heap.IsList l items) (hi:RJ items.toList ns) (hb:items.size+1<Us)
 (h:∀ (g:Qb) (tk:Nat) (ks:List Int),ub (lr w) g ‹1› ks→Once (fun i=>ns.getD i 0) items.size ks→(∀ b o,b<‹1›→s.heap.get? b=some o→g.get? b=some o)→Q (.ref ‹1›) { s with heap:=g,toks:=tk }) :
 OX ‹13› A (call (.type "set") [.ref l]) Q E s:=by
 obtain ⟨c,tl,hmro⟩:=QQ.mro
 have hmade:=QQ.made
 have hsub:=QQ.sub
 refine X4 (codeAny_of_tree ?_)
 show OX _ _ (callAny (.type "set") _) _ _ _
 refine OL ⟨Code.quiet_builtin _ ‹4›,Qk PySem.F.entry_type_call ?_⟩
 rw [Around.under_plain (weight_type_call_type "set" [.ref l] []) rfl]
 have q1:=QQ.notType
 have q2:=QQ.canCreate
 have q3:=PySem.F.typeCall_set_1 (.ref l)
 repeat (any_goals (first | assumption | wp_step))
 refine R7 (Ih (.ref l) (E:=E) (Q:=fun v u=>v=.ref ‹1›∧u={ s with heap:=s.heap.push (fS #[] 0 (.fresh 0 0 (lr w))) }) ⟨rfl,rfl⟩) fun r u hr=>?_
 cases r with
 | error e=>exact hr
 | ok fl =>
  cases fl with
  | ret v =>
   obtain ⟨rfl,rfl⟩:=hr
   generalize hled:lr w=led at *
   have at0:‹43›.get? ‹1›=some (fS #[] 0 (.fresh 0 0 led)):=OU _ rfl
   have ty:Shared.TypeIs { s with heap:=s.heap.push (fS #[] 0 (.fresh 0 0 led)) } (.ref ‹1›) "set" := ⟨_,at0,rfl⟩
   have q4:=QQ.init.lookup
   have q5:=QQ.init.bind (.ref ‹1›)
   repeat (any_goals (first | assumption | wp_step))
   refine R7 (codeAny_call_builtin (R:=wants (fun r u=>r=.none∧∃ g tk ks,u={ s with heap:=g,toks:=tk }∧ub led g ‹1› ks∧Once (fun i=>ns.getD i 0) items.size ks∧∀ b o,b<‹1›→s.heap.get? b=some o→g.get? b=some o) E) QQ.init.plain PySem.F.entry_set_init (check_set_init_1 ty ?_)) fun r2 u2 h2=>?_
   ·obtain ⟨ol,hol,hcl,nl,hdl⟩:=hl
    obtain ⟨ocls,odict,odata,oslots⟩:=ol
    simp only at hcl hdl
    subst hcl
    subst hdl
    have holp:‹43›.get? l=some { cls:=.type "list", dict:=odict,data:=.seq items nl,slots:=oslots }:=OC _ hol
    have q6:=PySem.F.sub_list_set
    have q7:=PySem.F.sub_list_frozenset
    have q8:(QE "list" == QE "dict")=false:=by decide
    have isl:‹43›.IsList l items:=⟨_,holp,rfl,nl,rfl⟩
    unfold QP.«set.__init__» noKeywords XX
    generalize hpi:Xt=pit
    wp_walk
    subst hpi
    refine Sm isl ?_
    refine Oz (Wc ?_)
    have ll:l<s.heap.objs.size:=OO hol
    have h3:A.in1.in1.in1.handled=none:=by simp [hh]
    have zz:‹43›.objs.size=‹1›+1:=Sy ..
    have nI:l≠‹43›.objs.size:=by rw [zz]; exact OS (Ph ll)
    have nS:‹1›∉[‹43›.objs.size,l]:=by
     rw [zz]
     simp only [OP,Qj,or_false,not_or]
     exact ⟨OS (Qc _),QW ll⟩
    have hval:∀ (i:Nat) (v:OD),items[i]?=some v→∃ t,v=.int ((fun i=>ns.getD i 0) i) t:=fun i v hv=>IntsAre.int_at hi i v (by rw [RD]; exact hv)
    refine Fo ((Yb h3 _ l nI items).toS) (led:=led) ‹1› nS (fun i=>ns.getD i 0) hval hb (items.size-0) 0 _ [] ‹5› (PV _) ⟨⟨_,OU _ rfl,rfl,rfl⟩,isl.push _⟩ (Iz led _ _ (OC _ at0)) ⟨Qe,fun x=>⟨fun z=>by (cases z),fun ⟨j,hj,_⟩=>by omega⟩,OT _⟩ fun u us mv hS ho=>?_
    obtain ⟨g,gs,dr,tk,os⟩:=u
    have e1:gs=s.gens:=mv.gens
    have e2:dr=s.drawn:=mv.drawn
    have e3:os=s.os:=mv.os
    subst e1
    subst e2
    subst e3
    show OX _ _ _ _ _ _
    refine OL ?_
    show OX _ _ (ret Qi) _ _ _
    refine OL ⟨rfl,g,tk,us,rfl,hS,ho,fun b o hb e=>?_⟩
    refine mv.heap b o ?_ (OC _ (OC _ e))
    rw [zz]
    simp only [OP,Qj,or_false,not_or]
    exact ⟨OS hb,OS (Ph hb)⟩
   ·cases r2 with
    | error e=>exact h2
    | ok f2 =>
     cases f2 with
     | ret r =>
      obtain ⟨rfl,g,tk,ks,rfl,hS,ho,hk⟩:=h2
      repeat (any_goals (first | assumption | wp_step))
      exact h _ _ _ hS ho hk
     | _=>exact h2.elim
  | _=>exact hr.elim
end
theorem cf:Slot "set_iterator" "__next__" "set_iterator.__next__" := .of (owner := "set_iterator") (n := "__next__") (by rw [Ud,Sh]; kernel_rfl) ‹4› ‹4› ‹4› (by first | exact .inl ‹4› | exact .inr ‹4›) (by rw [Wd]; kernel_rfl)
theorem oi:Slot "set_iterator" "__iter__" "set_iterator.__iter__" := .of (owner := "set_iterator") (n := "__iter__") (by rw [Ud,Sh]; kernel_rfl) ‹4› ‹4› ‹4› (by first | exact .inl ‹4› | exact .inr ‹4›) (by rw [Wd]; kernel_rfl)
theorem gZ:entryFor table "set_iterator.__next__" = some QP.«set_iterator.__next__»:=entryFor_of_tree (by kernel_rfl)
theorem xo:entryFor table "set_iterator.__iter__" = some QP.«dict_keyiterator.__iter__»:=entryFor_alias (id' := "dict_keyiterator.__iter__") (by kernel_rfl) rfl ‹4› (by kernel_rfl)
theorem yX:entryFor table "set.__iter__" = some QP.«frozenset.__iter__»:=entryFor_alias (id' := "frozenset.__iter__") (by kernel_rfl) rfl ‹4› (by kernel_rfl)
theorem g6 (a:OD):UC "set_iterator.__next__" ⟨[a],[]⟩:=by unfold UC; kernel_rfl
theorem xI (a:OD):UC "set_iterator.__iter__" ⟨[a],[]⟩:=by unfold UC; kernel_rfl
def nT (h:Qb) (I S:OF) (n ep:Nat) (first:OD) (i:Nat):Prop:=∃ o,h.get? I=some o∧o.cls=.type "set_iterator" ∧ o.data=.fields #[first,.int (i:Int) 0,.ref S,.int (n:Int) 0,.int (ep:Int) 0]
variable {f:OD}
theorem nT.ty {s:OG} {I:OF} {n ep:Nat} {i:Nat} (h:nT s.heap I S n ep f i):s.TypeIs (.ref I) "set_iterator" := let ⟨o,ho,hc,_⟩:=h; ⟨o,ho,hc⟩
variable {slot:Nat} {x:OD} {T:OF}
theorem nT.at {h h':Qb} {I:OF} {n ep:Nat} {i:Nat} (x:nT h I S n ep f i) (e:∀ o,h.get? I=some o→h'.get? I=some o):nT h' I S n ep f i:=let ⟨o,ho,r⟩:=x; ⟨o,e _ ho,r⟩
section
variable {prog:PL} {w:PR} {A:P8} {E:OD→OG→Prop} {s:OG} {I S:OF} {n ep:Nat} {es:Array (Int×OD)} {t:SA}
theorem pL {i:Nat} (h:nT s.heap I S n ep f i) (q:Q (.ref I) s):OX ‹13› A (Xt (.ref I)) Q E s:=by
 refine UW h.ty oi (Qp oi h.ty xo ?_ (xI _))
 show OX _ _ (ret (.ref I)) _ _ _
 exact OL ⟨_,rfl, "set_iterator", _,h.ty,cf.lookup,q⟩
theorem JA {i nx:Nat} {Q:Option OD→OG→Prop} (h:nT s.heap I S es.size ep (.int (slot:Int) 0) i) (hS:s.heap.get? S=some (fS es ep t)) (hf:t.fits es.size=true)
 (hn:∀ (E':OD→OG→Prop) (Q':Option (OD×Nat)→OG→Prop),Q' (some (x,nx)) s→OX ‹13› A.in1 (Xl S slot i ep) Q' E' s)
 (q:∀ g,nT g I S es.size ep (.int (nx:Int) 0) (i+1)→RI I s.heap g→Q (some x) { s with heap:=g }):OX ‹13› A (R6 (.ref I)) Q E s:=by
 obtain ⟨o,ho,hc,hd⟩:=id h
 unfold R6
 refine Oz ‹39›
 unfold QP.«set_iterator.__next__»
 refine Oz (OL ?_)
 refine Oz (UE ho hd ?_)
 show 20
 refine Oz (RQ hS rfl hf ?_)
 rw [if_neg (by simp)]
 refine Oz ?_
 simp only [QK]
 refine hn _ _ ?_
 show 20
 refine Oz (SD ho hd (by simp) ?_)
 have h1:(s.heap.update I (Obj.mapFields (·.setIfInBounds 0 (QU (nx:Int))))).get? I=some _:=P1 _ ho (Si (QR hd _))
 have d1:=QR hd (·.setIfInBounds 0 (QU (nx:Int)))
 refine Oz (SD h1 d1 (by simp) ?_)
 refine OL ⟨_,rfl,OL (q _ ⟨_,P1 _ h1 (Si (QR d1 _)),(UX ..).trans ((UX ..).trans hc),by rw [QR d1]; simp [QU]⟩ ((Q3 ..).trans (Q3 ..)))⟩
theorem JM {i:Nat} {Q:Option OD→OG→Prop} (hh:A.handled=none) (h:nT s.heap I S es.size ep (.int (slot:Int) 0) i) (hS:s.heap.get? S=some (fS es ep t)) (hf:t.fits es.size=true)
 (hn:∀ (E':OD→OG→Prop) (Q':Option (OD×Nat)→OG→Prop),Q' none s→OX ‹13› A.in1 (Xl S slot i ep) Q' E' s)
 (q:∀ g,V3 I s.heap g→Q none { s with heap:=g }):OX ‹13› A (R6 (.ref I)) Q E s:=by
 obtain ⟨o,ho,hc,hd⟩:=id h
 unfold R6
 refine Oz ‹39›
 unfold QP.«set_iterator.__next__»
 refine Oz (OL ?_)
 refine Oz (UE ho hd ?_)
 show 20
 refine Oz (RQ hS rfl hf ?_)
 rw [if_neg (by simp)]
 refine Oz ?_
 simp only [QK]
 refine hn _ _ ?_
 show 20
 refine Oz (SD ho hd (by simp) ?_)
 refine Oz ?_
 simp only [newExc,Yg]
 refine Oz (Qy ?_ (by size_fits))
 refine Oz (m:=UG _ _) (XO (a:=Qi) (by first | rfl | (simp only [UG]; rfl)) ?_)
 refine Qy ?_ (by size_fits)
 simp only [raiseNew]
 refine Oz (wpAny_handled ?_)
 rw [show A.in1.handled=none from hh]
 refine Oz (OL (wpAny_throw ?_))
 refine Oz (TL (T := "StopIteration") (b:=true) ⟨_,OU _ rfl,rfl⟩ We ?_)
 refine OL (q _ fun b u hb e=>?_)
 exact OC _ (OC _ ((PJ _ _ (P9 hb)).trans e))
theorem Mq {i:Nat} {pl:Array OD} {c p:Nat} {hx:Int} {Q:Option OD→OG→Prop} (h:nT s.heap I S es.size ep (.ref T) i) (hS:s.heap.get? S=some (fS es ep t)) (hf:t.fits es.size=true)
 (hT:s.heap.get? T=some (Pp "tuple" pl c)) (hp:pl[i]?=some (.int (p:Int) tk)) (he:es[p]?=some (hx,x))
 (q:∀ g,nT g I S es.size ep (.ref T) (i+1)→RI I s.heap g→Q (some x) { s with heap:=g }):OX ‹13› A (R6 (.ref I)) Q E s:=by
 obtain ⟨o,ho,hc,hd⟩:=id h
 unfold R6
 refine Oz ‹39›
 unfold QP.«set_iterator.__next__»
 refine Oz (OL ?_)
 refine Oz (UE ho hd ?_)
 show 20
 refine Oz (RQ hS rfl hf ?_)
 rw [if_neg (by simp)]
 refine Oz (Ts hT rfl ?_)
 simp only [QK]
 rw [hp]
 show 20
 refine Oz ?_
 unfold setNextDrawn
 refine Oz (Q1 hS rfl hf ?_)
 show 20
 simp only [QK,bne_self_eq_false,Qz,if_false]
 rw [he]
 refine OL ?_
 refine Oz (SD ho hd (by simp) ?_)
 refine OL ⟨_,rfl,OL (q _ ⟨_,P1 _ ho (Si (QR hd _)),(UX ..).trans hc,by rw [QR hd]; simp [QU]⟩ (Q3 ..))⟩
theorem MG {i:Nat} {pl:Array OD} {c:Nat} {Q:Option OD→OG→Prop} (hh:A.handled=none) (h:nT s.heap I S es.size ep (.ref T) i) (hS:s.heap.get? S=some (fS es ep t)) (hf:t.fits es.size=true)
 (hT:s.heap.get? T=some (Pp "tuple" pl c)) (hp:pl[i]?=none)
 (q:∀ g,V3 I s.heap g→Q none { s with heap:=g }):OX ‹13› A (R6 (.ref I)) Q E s:=by
 obtain ⟨o,ho,hc,hd⟩:=id h
 unfold R6
 refine Oz ‹39›
 unfold QP.«set_iterator.__next__»
 refine Oz (OL ?_)
 refine Oz (UE ho hd ?_)
 show 20
 refine Oz (RQ hS rfl hf ?_)
 rw [if_neg (by simp)]
 refine Oz (Ts hT rfl ?_)
 simp only [QK]
 rw [hp]
 show 20
 refine Oz (SD ho hd (by simp) ?_)
 have h1:(s.heap.update I (Obj.mapFields (·.setIfInBounds 0 (QU 0)))).get? I=some _:=P1 _ ho (Si (QR hd _))
 have d1:=QR hd (·.setIfInBounds 0 (QU 0))
 refine Oz (SD h1 d1 (by simp) ?_)
 refine Oz ?_
 simp only [newExc,Yg]
 refine Oz (Qy ?_ (by size_fits))
 refine Oz (m:=UG _ _) (XO (a:=Qi) (by first | rfl | (simp only [UG]; rfl)) ?_)
 refine Qy ?_ (by size_fits)
 simp only [raiseNew]
 refine Oz (wpAny_handled ?_)
 rw [show A.in1.handled=none from hh]
 refine Oz (OL (wpAny_throw ?_))
 refine Oz (TL (T := "StopIteration") (b:=true) ⟨_,OU _ rfl,rfl⟩ We ?_)
 refine OL (q _ fun b u hb e=>?_)
 exact OC _ (OC _ ((PJ _ _ (P9 hb)).trans ((PJ _ _ (P9 hb)).trans e)))
end
theorem tK {l:List α} {i:Nat} (h:i<l.length):(l[i]::l.eraseIdx i).Perm l:=by
 have e:l=l.take i++l[i]::l.drop (i+1):=by rw [List.getElem_cons_drop,TB]
 rw [List.eraseIdx_eq_take_drop_succ]
 conv=>rhs; rw [e]
 exact List.perm_middle.symm
theorem BP {α:Type} (nx:Nat→Nat):∀ (f k:Nat) (left:List α) (out:Array α),left.length=f→(Yy nx f k left out).toList.Perm (out.toList++left)
 | 0,k,left,out,h=>by
  rw [TY h,Qs]
  exact .refl _
 | f+1,k,left,out,h=>by
  have hl:nx k % left.length<left.length:=Nat.mod_lt _ ‹5›
  unfold Yy
  rw [Ow hl]
  show 20
  refine (BP nx f (k+1) _ _ (by rw [UH hl]; omega)).trans ?_
  rw [Xk,Qx]
  exact (tK hl).append_left _
theorem pS (nx:Nat→Nat) (xs:Array α):(Ut nx xs).toList.Perm xs.toList:=by
 have:=BP nx xs.size 0 xs.toList #[] (by simp)
 unfold Ut
 simpa using this
section
variable {prog:PL} {w:PR} {A:P8} {E:OD→OG→Prop} {s:OG} {I S:OF} {ep:Nat} {es:Array (Int×OD)} {t:SA}
theorem wp_choose {src:Source} {n:Nat} {Q:Nat→OG→Prop} (hn:n≠0) (h:∀ (i:Nat) (d:W4),i<n→Q i { s with drawn:=d }):OX ‹13› A (choose src n) Q E s:=fun Γ p _=>by
 show Sem.wp _ Γ (.choose src n .pure) _ _ _ _
 rw [Sem.wp_choose]
 exact ⟨hn,h _ _ (Nat.mod_lt _ (Nat.pos_of_ne_zero hn))⟩
theorem Be {α:Type}:∀ (n:Nat) (xs:List α) (s:OG) {Q:List α→OG→Prop},xs.length=n→(∀ (ys:List α) (d:W4),ys.Perm xs→Q ys { s with drawn:=d })→OX ‹13› A (drawOrder n xs) Q E s
 | 0,xs,s,Q,hl,h=>by
  rw [TY hl] at h ⊢
  exact OL (h [] s.drawn (.refl _))
 | n+1,[],s,Q,hl,h=>by cases hl
 | n+1,x::r,s,Q,hl,h=>by
  unfold drawOrder
  refine Oz (wp_choose (by simp) fun i d hi=>?_)
  rw [Ow hi]
  show 20
  refine Oz (Be n _ _ (by rw [UH hi]; simp at hl ⊢; exact hl) fun ys d' pm=>OL (h _ _ ?_))
  exact (pm.cons _).trans (tK hi)
theorem u7 {i:Nat} {Q:Option (OD×Nat)→OG→Prop} (hb:w.params.followText "set-order" = true) (hS:s.heap.get? S=some (fS es ep t)) (hf:t.fits es.size=true)
 (h:Q (((Ut (w.params.setOrder S ep) es)[i]?).map fun e=>(e.2,slot)) s):OX ‹13› A (Xl S slot i ep) Q E s:=by
 unfold Xl
 refine Oz (Q1 hS rfl hf ?_)
 show 20
 unfold WX
 refine Oz (Oz (RX (OL ?_)))
 refine Rp (fun _=>?_) fun z=>absurd hb z
 simp only [bne_self_eq_false,Qz,if_false]
 refine Oz ?_
 unfold setWalk
 refine Oz (Q1 hS rfl hf ?_)
 show 20
 unfold WX
 refine Oz (Oz (RX (OL ?_)))
 refine Rp (fun _=>?_) fun z=>absurd hb z
 refine Oz (RX (OL ?_))
 exact OL h
theorem u9 {i:Nat} {Q:Option (OD×Nat)→OG→Prop} (hb:w.params.followText "set-order" = false) (hd:(!t.plain&&decide (es.size > 1))=false) (hled:t.led=true) (hS:s.heap.get? S=some (fS es ep t)) (hf:t.fits es.size=true)
 (h:Q (match es[Qf t.place slot]?,t.place[Qf t.place slot]? with | some (_,x),some j=>some (x,j+1) | _,_=>none) s):OX ‹13› A (Xl S slot i ep) Q E s:=by
 unfold Xl
 refine Oz (Q1 hS rfl hf ?_)
 show 20
 unfold WX
 refine Oz (Oz (RX (OL ?_)))
 refine Rp (fun z=>?_) fun _=>?_
 ·have z:w.params.followText "set-order" = true:=z
  rw [hb] at z; cases z
 refine Rp (fun z=>?_) fun _=>?_
 ·have z:(!t.plain&&decide (es.size > 1))=true:=z
  rw [hd] at z; cases z
 refine Oz ?_
 show OX _ _ (if (!t.led&&!es.isEmpty)=true then unsupported "set:maker-not-led" else pure PUnit.unit) _ _ _
 rw [if_neg (by rw [hled]; simp)]
 exact OL (OL h)
theorem A5 (h:Rs xs):Qf xs 0=0:=by
 obtain ⟨b1,b2,_⟩:=t4 h 0
 by_cases c:0<Qf xs 0
 ·have:=b2 0 ‹5› c; omega
 ·omega
theorem A6 (h:Rs xs) {i:Nat} (hi:i<xs.size):Qf xs (xs[i]+1)=i+1:=by
 obtain ⟨b1,b2,b3⟩:=t4 h (xs[i]+1)
 generalize Qf xs (xs[i]+1)=b at *
 by_cases c:b≤i
 ·have:=b3 i hi c; omega
 ·by_cases d:i+1<b
  ·have h1:=b2 (i+1) ‹5› d
   have h2:=h.lt (i:=i) (j:=i+1) ‹5› ‹5›
   omega
  ·omega
theorem DN {t:SA} {n:Nat} (h:t.fits n=true):t.place.size=n:=by
 unfold SetTable.fits at h
 simp at h
 exact h.1
theorem JS (hb:w.params.followText "set-order" = true) (hf:t.fits es.size=true) (hne:S≠I) (A':P8) (hh:A'.handled=none) :
 Walks prog w A' I [I,S] [I] es.size (fun i v=>((Ut (w.params.setOrder S ep) es).toList.map fun e=>e.2)[i]?=some v) (fun i g=>nT g I S es.size ep (.int ((0:Nat):Int) 0) i∧g.get? S=some (fS es ep t)) where
 sub:=fun b hb=>by simp at hb; simp [hb]
 frame:=fun _ _ _ st hk=>⟨st.1.at fun o e=>hk I (by simp) o e,hk S (by simp) _ st.2⟩
 item:=fun i s Q E hi st q=>by
  have hl:i<(Ut (w.params.setOrder S ep) es).size:=by
   have:=(pS (w.params.setOrder S ep) es).length_eq
   simp at this; omega
  refine JA (x:=(Ut (w.params.setOrder S ep) es)[i].2) (nx:=0) (t:=t) st.1 st.2 hf (fun E' Q' z=>u7 hb st.2 hf (by rw [O6 hl]; exact z)) fun g it sb=>?_
  refine q _ g s.toks ?_ ⟨it,(sb.2 S hne).trans st.2⟩ fun b o hb e=>sb.extBut b o (fun z=>hb (by simp [z])) e
  rw [OH,RD,O6 hl]; rfl
 done:=fun s Q E st q=>by
  refine JM (t:=t) hh st.1 st.2 hf (fun E' Q' z=>u7 hb st.2 hf ?_) fun g ex=>q g s.toks fun b o hb e=>ex b o (fun z=>hb (by simp [z])) e
  rw [QZ (by have:=(pS (w.params.setOrder S ep) es).length_eq; simp at this; omega)]
  exact z
 self:=fun _ _ _ _ st q=>pL st.1 q
theorem JT (hb:w.params.followText "set-order" = false) (hd:(!t.plain&&decide (es.size > 1))=false) (tg:o4 (lr w) t) (hf:t.fits es.size=true) (hne:S≠I) (A':P8) (hh:A'.handled=none) :
 Walks prog w A' I [I,S] [I] es.size (fun i v=>(es.toList.map fun e=>e.2)[i]?=some v) (fun i g=>(∃ sl:Nat,nT g I S es.size ep (.int (sl:Int) 0) i∧Qf t.place sl=i)∧g.get? S=some (fS es ep t)) where
 sub:=fun b hb=>by simp at hb; simp [hb]
 frame:=fun _ _ _ st hk=>⟨let ⟨sl,x,y⟩:=st.1; ⟨sl,x.at fun o e=>hk I (by simp) o e,y⟩,hk S (by simp) _ st.2⟩
 item:=fun i s Q E hi st q=>by
  obtain ⟨⟨sl,it0,hbl⟩,hS⟩:=st
  have hled:t.led=true:=by rw [tg.led]; unfold lr; rw [hb]; rfl
  have hp:=DN hf
  have hip:i<t.place.size:=by omega
  refine JA (x:=es[i].2) (nx:=t.place[i]+1) (t:=t) it0 hS hf (fun E' Q' z=>u9 hb hd hled hS hf ?_) fun g it sb=>?_
  ·rw [hbl,O6 hi,O6 hip]
   exact z
  ·refine q _ g s.toks ?_ ⟨⟨_,it,A6 tg.up hip⟩,(sb.2 S hne).trans hS⟩ fun b o hb e=>sb.extBut b o (fun z=>hb (by simp [z])) e
   rw [OH,RD,O6 hi]; rfl
 done:=fun s Q E st q=>by
  obtain ⟨⟨sl,it0,hbl⟩,hS⟩:=st
  have hled:t.led=true:=by rw [tg.led]; unfold lr; rw [hb]; rfl
  refine JM (t:=t) hh it0 hS hf (fun E' Q' z=>u9 hb hd hled hS hf ?_) fun g ex=>q g s.toks fun b o hb e=>ex b o (fun z=>hb (by simp [z])) e
  rw [hbl,QZ (OT _)]
  exact z
 self:=fun _ _ _ _ st q=>let ⟨_,x,_⟩:=st.1; pL x q
theorem JU {ys:List Nat} (hy:ys.Perm (O0 es.size)) (hf:t.fits es.size=true) (hne:S≠I) (hnT:T≠I) (A':P8) (hh:A'.handled=none) :
 Walks prog w A' I [I,S,T] [I] es.size (fun i v=>(ys.map fun p=>(es.getD p (0,.none)).2)[i]?=some v) (fun i g=>nT g I S es.size ep (.ref T) i∧g.get? S=some (fS es ep t)∧g.get? T=some ‹16›) where
 sub:=fun b hb=>by simp at hb; simp [hb]
 frame:=fun _ _ _ st hk=>⟨st.1.at fun o e=>hk I (by simp) o e,hk S (by simp) _ st.2.1,hk T (by simp) _ st.2.2⟩
 item:=fun i s Q E hi st q=>by
  have hl:i<ys.length:=by rw [hy.length_eq,PK]; exact hi
  have hp:ys[i]<es.size:=O8.mp (hy.mem_iff.mp (QD hl))
  refine Mq (p:=ys[i]) (tk:=0) (x:=es[ys[i]].2) (hx:=es[ys[i]].1) (t:=t) st.1 st.2.1 hf st.2.2 (by simp [hl,QU]) (O6 hp) fun g it sb=>?_
  refine q _ g s.toks ?_ ⟨it,(sb.2 S hne).trans st.2.1,(sb.2 T hnT).trans st.2.2⟩ fun b o hb e=>sb.extBut b o (fun z=>hb (by simp [z])) e
  rw [OH,Ow hl]
  simp [Yd,hp]
 done:=fun s Q E st q=>by
  refine MG (t:=t) hh st.1 st.2.1 hf st.2.2 ?_ fun g ex=>q g s.toks fun b o hb e=>ex b o (fun z=>hb (by simp [z])) e
  have:ys.length=es.size:=by rw [hy.length_eq,PK]
  simp [this]
 self:=fun _ _ _ _ st q=>pL st.1 q
theorem Gi (hS:s.heap.get? S=some (fS es ep t)) (hf:t.fits es.size=true) (tg:o4 (lr w) t) (hsz:es.size≤OE)
 (h:∀ (g:Qb) (d:W4) (I:OF) (ord:List OD) (fp:List OF) (St:Nat→Qb→Prop),ord.Perm (es.toList.map fun e=>e.2)→(∀ b o,s.heap.get? b=some o→g.get? b=some o)→(∀ b∈fp,b<‹1›→b=S)→(∀ b∈fp,b<g.objs.size)→‹1›≤I →
  (∀ A':P8,A'.handled=none→Walks prog w A' I fp [I] es.size (fun i v=>ord[i]?=some v) St)→St 0 g→Q (.ref I) { s with heap:=g,drawn:=d }):OX ‹13› A (Xt (.ref S)) Q E s:=by
 have ty:s.TypeIs (.ref S) "set" := ⟨_,hS,rfl⟩
 have lS:S<s.heap.objs.size:=OO hS
 refine UW ty VR (Qp VR ty yX ?_ (PySem.F.args_set_iter_1 _))
 unfold QP.«frozenset.__iter__»
 refine Oz ?_
 unfold Yt
 refine Oz (OL (OL ?_))
 refine Oz ?_
 unfold Ym
 refine Oz (RQ hS rfl hf (OL ?_))
 refine Oz ?_
 unfold setDrawn
 refine Oz (Q1 hS rfl hf ?_)
 show 20
 unfold WX
 refine Oz (Oz (RX (OL ?_)))
 refine OL ?_
 have nI:S≠s.heap.objs.size:=OS lS
 refine Rp (fun z=>?_) fun z=>?_
 ·refine Oz (Be es.size (O0 es.size) _ (by simp) fun ys d pm=>?_)
  simp only [Yg]
  refine Oz (Qy ?_ (by show (ys.map fun (i:Nat)=>QU (i:Int)).toArray.size≤OE; simp [pm.length_eq]; exact hsz))
  have hS1:(s.heap.push ‹16›).get? S=some (fS es ep t):=OC _ hS
  have hT1:(s.heap.push ‹16›).get? ‹1›=some ‹16›:=OU _ rfl
  have zz:(s.heap.push ‹16›).objs.size=‹1›+1:=Sy ..
  have kp:∀ b o,s.heap.get? b=some o→(s.heap.push ‹16›).get? b=some o:=fun b o e=>OC _ e
  show OX _ _ _ _ _ { s with heap:=s.heap.push ‹16›,drawn:=d }
  generalize s.heap.push ‹16›=g1 at *
  refine Oz ?_
  unfold setEpoch
  refine Oz (Q1 hS1 rfl hf (OL ?_))
  unfold newFields
  refine Oz (Qy ?_ (by size_fits))
  refine OL ⟨_,rfl, "set_iterator", _,⟨_,OU _ rfl,rfl⟩,cf.lookup,?_⟩
  have n1:S≠g1.objs.size:=by rw [zz]; exact OS (Ph lS)
  have n2:‹1›≠g1.objs.size:=by rw [zz]; exact OS (Qc _)
  refine h _ d g1.objs.size (ys.map fun p=>(es.getD p (0,.none)).2) [g1.objs.size,S,‹1›] _ ?_ (fun b o e=>OC _ (kp b o e)) (fun b hb lt=>?_) (fun b hb=>?_) (by rw [zz]; exact R1 _) (fun A' hh=>JU (t:=t) (ep:=ep) pm hf n1 n2 A' hh) ⟨⟨_,OU _ rfl,rfl,rfl⟩,OC _ hS1,OC _ hT1⟩
  ·refine (pm.map _).trans (List.Perm.of_eq ?_)
   refine RT (by simp) fun i h1 h2=>?_
   have hi:i<es.size:=by simpa using h1
   simp [Yd,hi]
  ·simp only [OP,Qj,or_false] at hb
   rcases hb with rfl | rfl | rfl
   ·rw [zz] at lt; exact absurd lt (Nat.not_lt.mpr (R1 _))
   ·rfl
   ·exact absurd lt (PB _)
  ·rw [Sy,zz]
   simp only [OP,Qj,or_false] at hb
   rcases hb with rfl | rfl | rfl
   ·rw [zz]; exact Qc _
   ·exact Ph (Ph lS)
   ·exact Ph (Qc _)
 ·refine Oz (OL ?_)
  refine Oz ?_
  unfold setEpoch
  refine Oz (Q1 hS rfl hf (OL ?_))
  unfold newFields
  refine Oz (Qy ?_ (by size_fits))
  refine OL ⟨_,rfl, "set_iterator", _,⟨_,OU _ rfl,rfl⟩,cf.lookup,?_⟩
  have fpl:∀ b∈[‹1›,S],b<‹1›→b=S:=fun b hb lt=>by
   simp only [OP,Qj,or_false] at hb
   rcases hb with rfl | rfl
   ·exact absurd lt (PB _)
   ·rfl
  have fpt:∀ (o:Q5),∀ b∈[‹1›,S],b<(s.heap.push o).objs.size:=fun o b hb=>by
   rw [Sy]
   simp only [OP,Qj,or_false] at hb
   rcases hb with rfl | rfl
   ·exact Qc _
   ·exact Ph lS
  cases hb:w.params.followText "set-order" with
  | true =>
   refine h _ s.drawn ‹1› ((Ut (w.params.setOrder S ep) es).toList.map fun e=>e.2) [‹1›,S] _ ((pS _ _).map _) (fun b o e=>OC _ e) fpl (fpt _) (OT _) (fun A' hh=>JS (t:=t) hb hf nI A' hh) ⟨⟨_,OU _ rfl,rfl,rfl⟩,OC _ hS⟩
  | false =>
   have hd:(!t.plain&&decide (es.size > 1))=false:=by
    have z:¬ ((!w.params.followText "set-order" && (!t.plain&&decide (es.size > 1)))=true):=z
    rw [hb] at z
    simpa using z
   refine h _ s.drawn ‹1› (es.toList.map fun e=>e.2) [‹1›,S] _ (.refl _) (fun b o e=>OC _ e) fpl (fpt _) (OT _) (fun A' hh=>JT (t:=t) (ep:=ep) hb hd tg hf nI A' hh) ⟨⟨0,⟨_,OU _ rfl,rfl,rfl⟩,A5 tg.up⟩,OC _ hS⟩
end
section
variable {prog:PL} {w:PR} {A:P8} {E:OD→OG→Prop} {s:OG} {S:OF} {ep:Nat} {es:Array (Int×OD)} {t:SA}
theorem Gr {Q:Bool→OG→Prop} (ty:s.TypeIs (.ref S) "set") (q:Q false s):OX ‹13› A (So (.ref S)) Q E s:=by
 unfold So
 refine Oz (S4 ty PySem.F.slot_set_len.lookup ?_)
 generalize hi:("set.__len__" : String)=i0
 wp_delta
 rw [show splitId i0=some ("set", "__len__") from by subst hi; decide +kernel]
 subst hi
 refine Oz (TL (T := "set") (b:=true) ty (by rw [Wd]; kernel_rfl) ?_)
 refine Rp (fun z=>absurd z ‹11›) fun _=>?_
 refine Rp (fun _=>?_) fun z=>absurd ‹4› z
 exact Oz (Xm ty (OL q))
theorem AL (hh:A.handled=none) (hS:s.heap.get? S=some (fS es ep t)) (hf:t.fits es.size=true) (tg:o4 (lr w) t) (hsz:es.size≤OE) {L:OF} (hL:s.heap.get? L=some (Pp "list" #[] 0)) {R:VY→OG→Prop}
 (h:∀ (g:Qb) (tk:Nat) (d:W4) (acc:Array OD) (c:Nat),acc.toList.Perm (es.toList.map fun e=>e.2)→g.get? L=some (Pp "list" acc c)→(∀ b o,b≠L→s.heap.get? b=some o→g.get? b=some o)→R (.ok (.ret (.ref L))) { s with heap:=g,toks:=tk,drawn:=d }) :
 OX ‹13› A.in1 (Qa (.ref L) (.ref S) (.ref L)) (fun fin u=>match fin with | .done f=>R (.ok f) u | .again c=>c.quiet=true∧Ti ‹13› A c R u) (fun e u=>R (.error e) u) s:=by
 have ty:s.TypeIs (.ref S) "set" := ⟨_,hS,rfl⟩
 have ne:L≠S:=fun z=>by
  rw [z,hS] at hL
  have q:QE "set" = QE "list" := congrArg Obj.cls (Pm hL)
  injection q with q
  exact absurd q ‹11›
 unfold Qa
 refine Oz (Xm ty ?_)
 have n1:RO (.ref L) (.ref S)=false:=by simp [RO,ne]
 have n2:(QE "set" == QE "list")=false:=by decide
 have n3:(QE "set" == QE "tuple")=false:=by decide
 simp only [n1,n2,n3,WG,Qz,if_false]
 refine Oz (Gi hS hf tg hsz fun g d I ord fp St pm kp fpl fpt hI W st=>?_)
 have W:=W A.in1 hh
 have hL1:=kp _ _ hL
 have nL:L∉fp:=fun z=>ne (fpl L z (OO hL))
 have key:∀ (g2:Qb) (c1 tk:Nat),St 0 g2→(∀ b o,b≠L→s.heap.get? b=some o→g2.get? b=some o)→g2.get? L=some (Pp "list" #[] c1)→Ti ‹13› A (.builtin "list.extend.loop" ⟨[.ref L,.ref I,.ref L],[]⟩) R { s with heap:=g2,toks:=tk,drawn:=d }:=by
  intro g2 c1 tk hst hk hL2
  refine codeAny_extend_loopS W.toS hsz L nL (.ref L) es.size 0 _ #[] c1 rfl (PV _) hst hL2 (ItemsOf.nil _) fun u acc c mv hu hacc=>?_
  rw [Moved.eq_with mv]
  refine h u.heap u.toks d acc c ?_ hu fun b o hb e=>mv.heap b o (fun z=>?_) (hk b o hb e)
  ·have e:acc.toList=ord:=by
    refine QY fun j=>?_
    have hl:ord.length=es.size:=by rw [pm.length_eq]; simp
    by_cases c:j<es.size
    ·rw [RD,O6 (by rw [hacc.1]; exact c)]
     exact (hacc.2 j _ (O6 (by rw [hacc.1]; exact c))).symm
    ·rw [O5 (by rw [Pr,hacc.1]; omega),O5 ‹5›]
   rw [e]; exact pm
  ·rcases OP.mp z with z | z
   ·exact hb z
   ·have:=OO e
    rw [OB.mp z] at this
    exact absurd (OZ this hI) (PB _)
 refine Oz (PQ (Gr ⟨_,kp _ _ hS,rfl⟩ ?_))
 refine Rp (fun _=>?_) fun _=>OL ⟨QL UN _,key g 0 s.toks st (fun b o _ e=>kp b o e) hL1⟩
 refine Oz (Ta (Oz ?_))
 show OX _ _ (Vd L (·.push .none) >>= fun _=>Vd L (·.pop)) _ _ _
 have hL2:(g.update L (Pw (·.push Qi))).get? L=some _:=P1 _ hL1 rfl
 refine Oz (Se hL1 rfl ?_)
 refine Se (hz:=by seq_fits) hL2 rfl ?_
 have hL3:((g.update L (Pw (·.push Qi))).update L (Pw (·.pop))).get? L=some _:=P1 _ hL2 rfl
 have oth:∀ b o,b≠L→g.get? b=some o→((g.update L (Pw (·.push Qi))).update L (Pw (·.pop))).get? b=some o:=fun b o hb e=>(PJ _ _ (P9 hb)).trans ((PJ _ _ (P9 hb)).trans e)
 exact OL ⟨QL UN _,key _ _ _ (W.frame 0 _ _ st fun b hb o e=>oth b o (fun z=>nL (z ▸ hb)) e) (fun b o hb e=>oth b o hb (kp b o e)) hL3⟩
theorem zb (hh:A.handled=none) (hS:s.heap.get? S=some (fS es ep t)) (hf:t.fits es.size=true) (tg:o4 (lr w) t) (hsz:es.size≤OE) {R:List OD→OG→Prop}
 (h:∀ (g:Qb) (tk:Nat) (d:W4) (vs:List OD),vs.Perm (es.toList.map fun e=>e.2)→(∀ b o,s.heap.get? b=some o→g.get? b=some o)→‹1›<g.objs.size→R vs { s with heap:=g,toks:=tk,drawn:=d }):OX ‹13› A (collect (.ref S)) R E s:=by
 unfold collect
 refine Oz (Wc (Qk Wf ?_))
 rw [PX Uk _]
 show OX _ A.in1 (newList [] >>= fun v=>again (.builtin "list.__iadd__" ⟨[v,.ref S],[]⟩)) _ _ _
 refine Oz (Qy ?_)
 refine OL ⟨QL RY _,Qk entry_list_iadd' ?_⟩
 rw [PX RY _]
 have hL:‹45›.get? ‹1›=some (Pp "list" #[] 0):=OU _ rfl
 show OX _ A.in1 (Qa (.ref ‹1›) (.ref S) (.ref ‹1›)) _ _ { s with heap:=s.heap.push (Pp "list" #[] 0) }
 have key:=AL (prog:=prog) (w:=w) (A:=A) (s:={ s with heap:=s.heap.push (Pp "list" #[] 0) }) hh (OC _ hS) hf tg hsz hL (R:=fun (q:VY) (u:OG)=>∃ (g:Qb) (tk:Nat) (d:W4) (acc:Array OD) (c:Nat),q=.ok (.ret (.ref ‹1›))∧u={ s with heap:=g,toks:=tk,drawn:=d }∧acc.toList.Perm (es.toList.map fun e=>e.2)∧g.get? ‹1›=some (Pp "list" acc c)∧∀ b o,s.heap.get? b=some o→g.get? b=some o)
  fun g tk d acc c pm hg kp=>⟨g,tk,d,acc,c,rfl,rfl,pm,hg,fun b o e=>kp b o (OS (OO e)) (OC _ e)⟩
 refine Qw key (fun fin u x=>?_) fun e u x=>?_
 ·cases fin with
  | done f =>
   obtain ⟨g,tk,d,acc,c,e,rfl,pm,hg,kp⟩:=x
   cases e
   refine Oz (WY hg ?_)
   exact OL (h g tk d _ pm kp (OO hg))
  | again c1 =>
   refine ⟨x.1,R7 x.2 fun q u2 y=>?_⟩
   obtain ⟨g,tk,d,acc,c,rfl,rfl,pm,hg,kp⟩:=y
   refine Oz (WY hg ?_)
   exact OL (h g tk d _ pm kp (OO hg))
 ·obtain ⟨_,_,_,_,_,e',_⟩:=x
  cases e'
theorem HB {l:List (Int×OD)} (h:∀ e∈l,ML e):∀ {vs:List OD},vs.Perm (l.map fun e=>e.2)→∃ ns:List Int,RJ vs ns∧ns.Perm (l.map keyOf):=by
 have hv:∀ vs:List OD,(∀ v∈vs,∃ k t,v=.int k t)→RJ vs (vs.map fun v=>match v with | .int k _=>k | _=>0):=by
  intro vs
  induction vs with
  | nil=>intro _; exact .nil
  | cons v r ih =>
   intro hz
   obtain ⟨k,t,rfl⟩:=hz v ON
   exact .cons k t (ih fun u hu=>hz u (OI _ hu))
 intro vs pm
 refine ⟨_,hv vs fun v z=>?_,?_⟩
 ·obtain ⟨e,he,rfl⟩:=Pj.mp (pm.mem_iff.mp z)
  obtain ⟨k,t,rfl⟩:=h e he
  exact ⟨k,t,rfl⟩
 ·have:=pm.map fun v=>match v with | .int k _=>k | _=>(0:Int)
  rw [O3] at this
  exact this
theorem zZ (hh:A.handled=none) (hS:ub (lr w) s.heap S ks) (hl:ks.length<64)
 (h:∀ (g:Qb) (tk:Nat) (d:W4) (D:OF) (out:List OD) (ms:List Int) (c:Nat),RJ out ms→ms.Perm ks→ms.Pairwise (·≤·)→‹1›≤D→g.get? D=some (Pp "list" out.toArray c)→(∀ b o,s.heap.get? b=some o→g.get? b=some o)→Q (.ref D) { s with heap:=g,toks:=tk,drawn:=d }):OX ‹13› A (call (.builtin "sorted") [.ref S]) Q E s:=by
 obtain ⟨es,ep,t,ho,ck,rfl,hf,tg⟩:=hS
 show 11
 rw [Oy,Pr] at hl
 refine SK V7 Vp Vq (Xd _) ?_
 unfold QP.«sorted»
 refine Oz (m:=WU "sorted" 1 1 _) (OL ?_)
 refine Oz (zb (A:=A.in1) hh ho hf tg ‹5› fun g tk d vs pm kp big=>?_)
 obtain ⟨ns,hi,pn⟩:=HB ck pm
 have hvl:vs.length<64:=by rw [pm.length_eq,Oy,Pr]; exact hl
 refine Oz (SX ?_ ‹5›)
 have hD:(g.push ‹47›).get? g.objs.size=some ‹47›:=OU _ rfl
 show OX _ _ _ _ _ { s with heap:=g.push ‹47›,toks:=tk,drawn:=d }
 refine Oz (PQ (Qp UB ⟨_,hD,rfl⟩ Ub (list_sort_tree hD hi ‹5› fun out ms a1 a2 a3=>⟨_,rfl,?_⟩) (V8 _)))
 obtain ⟨c,hc⟩:=sortedHeap_at (out:=out) hD
 exact OL ⟨_,rfl,h _ tk d g.objs.size out.toList ms c a1 (a2.trans pn) a3 (QO big) (by rw [Wg]; exact hc) fun b o e=>(sortedHeap_old (OS (OO (kp b o e))) (by rw [Sy]; exact Ph (OO (kp b o e)))).trans (OC _ (kp b o e))⟩
end
variable {X:Cx}
theorem Inv.Og {pins:List (OF×Q5)} {σ:St} {H:Hp} {s:OG} {d:W4} (I:Inv X pins σ H s):Inv X pins σ H { s with drawn:=d }:=⟨I.ok,I.os,I.bare,I.base,I.loc,I.cell,I.free,I.iY,I.pin,I.ck,I.len⟩
def mL (ns ms:List Int):Prop:=ms.Nodup∧(∀ x,x∈ms↔x∈ns)∧ms.Pairwise (·≤·)
def Jh (K:OA) (ta:TE):TE:=fun σ H Q=>ta σ H fun v H1=>∃ (a:OF) (ns:List Int),v=.ref a∧dw K H1 a ‹49›∧ns.length<64∧∀ ms,mL ns ms→∀ D,H1 D=none→Q (.ref D) (upd H1 D (.lst (ms.map V.int)))
theorem vh {K:OA} {a:Qg} {ta:TE} {p1 p2 q1 q2:UM} (hK:X.K=K) (hc:X.calm=true) (hg1:Gl X "sorted") (hm1:X.mg "sorted" = none) (hg2:Gl X "set") (hm2:X.mg "set" = none) (ha:PE X a ta)
 (e1:P0 [.Call (.Name "set" p2) [a] [] q2] X.env=[(false,eval (.Call (.Name "set" p2) [a] [] q2) X.env)]:=by rfl) (e2:P0 [a] X.env=[(false,eval a X.env)]:=by rfl) :
 PE X (.Call (.Name "sorted" p1) [.Call (.Name "set" p2) [a] [] q2] [] q1) (Jh K ta):=by
 subst hK
 show 2
 have hh:=I.ok.hd hc
 refine Q6 (fT I hg1 hm1 qw ?_ ‹11› ‹11›)
 refine TF (rest:=[]) ?_ (by rw [e1]; rfl) rfl
 rw [e1]
 show OX _ _ (spliced [(false,eval (.Call (.Name "set" p2) [a] [] q2) X.env)]) _ _ s
 refine Uw ?_
 refine Q6 (fT I hg2 hm2 Ln ?_ ‹11› ‹11›)
 refine P4 (rest:=[]) ?_ (by rw [e2]; rfl) rfl
 refine cZ (aa ha ak (hs:=by rw [e2]; rfl) q2 pins s σ H (fun xs H1=>match xs with
  | [v]=>∃ (a:OF) (ns:List Int),v=.ref a∧dw X.K H1 a ‹49›∧ns.length<64∧∀ ms,mL ns ms→∀ D,H1 D=none→Q (.ref D) (upd H1 D (.lst (ms.map V.int)))
  | _=>False) I h) fun us s1 ⟨vs0,H1,I1,r1,z1⟩=>?_
 match vs0,z1 with
 | [v],z1 =>
 obtain ⟨b,ns,rfl,hq,hl,hQ⟩:=z1
 cases r1 with
 | cons r1 r2 =>
 cases r2
 cases (show _=Pf b from r1)
 obtain ⟨its,rv,pl,_⟩:=I1.list hq
 have hi:=intsAre_of rv
 have hil:its.length=ns.length:=by rw [← rv.length,Oy]
 have hsb:Us=4096:=rfl
 refine G0 hh pl.isList (by simpa using hi) (by rw [OM]; omega) fun g tk ks hS ho kp=>?_
 refine UR ?_
 have I2:Inv X pins σ H1 { s1 with heap:=g,toks:=tk }:=I1.kept fun b u e=>kp b u (OO e) e
 have hkl:=ho.len
 rw [OM] at hkl
 refine zZ hh hS ‹5› fun g2 tk2 d D out ms c i1 pm up big hD kp2=>?_
 have hml:ms.length=ks.length:=pm.length_eq
 have I3:=I2.laid (a:=D) (o:=.lst (ms.map V.int)) (t':=tk2) kp2 big ⟨by rw [Oy,hml]; have:=Po; omega,out,c,js i1,hD⟩
 refine ⟨.ref D,upd H1 D (.lst (ms.map V.int)),I3.Og,rfl,hQ ms ⟨pm.nodup_iff.mpr ho.nd,fun x=>?_,up⟩ D (I2.ck.fresh big)⟩
 rw [pm.mem_iff,ho.mem,OM]
 constructor
 ·rintro ⟨j,hj,e⟩
  rw [← e]
  show ns.getD j 0∈ns
  rw [Ox,Ow ‹5›]
  exact QD _
 ·intro hx
  obtain ⟨j,hj,e⟩:=Rt hx
  exact ⟨j,by omega,by rw [Ox,Ow hj]; exact e⟩
end L2
namespace VL
variable {a:DE}
open PySem L2
section
open Classical
noncomputable section
variable [bE] {K:OA}
omit [bE] in
theorem u4 {ns a b:List Int} (h1:mL ns a) (h2:mL ns b):a=b:=by
 refine RN (fun x y _ _ p q=>by omega) h1.2.2 h2.2.2 ?_
 refine (UI h1.1 h2.1).mpr fun x=>(h1.2.1 x).trans (h2.2.1 x).symm
noncomputable def tQ (a:DE):aK→Option (List D):=fun ρ=>match d7 a ρ with
 | some ds=>(match fU ds with
  | some ns=>if h:ns.length<64∧∃ ms,mL ns ms then some ((h.2.choose).map D.int) else none
  | none=>none)
 | none=>none
omit [bE] in
theorem y0 {ρ:aK} {ns ms:List Int} (h:d7 a ρ=some (ns.map D.int)) (hl:ns.length<64) (hm:mL ns ms):tQ a ρ=some (ms.map D.int):=by
 have hh:ns.length<64∧∃ ms,mL ns ms:=⟨hl,ms,hm⟩
 unfold tQ
 rw [h]
 show 20
 rw [iD]
 show 20
 rw [dif_pos hh,u4 hh.2.choose_spec hm]
theorem BD {ta:TE} (ha:bp K ta a):bx K (Jh K ta) (tQ a):=fun {B Z os ρ σ H Q es} f q k=>by
 unfold tQ at q
 split at q
 ·rename_i ds e0
  split at q
  ·rename_i ns e1
   split at q
   ·rename_i hh
    cases q
    obtain ⟨d,e0,ed⟩:=dh e0
    refine ha f e0 fun v H1 s1 i1=>?_
    obtain ⟨p,vs,rfl,hlv,hn,hr⟩:=i1.seq ed
    obtain ⟨hq,il⟩:=hr H1 _ Kp.refl
    have ei:=gx e1
    subst ei
    have ev:=IsL.ints il
    subst ev
    refine ⟨p,ns,rfl,hq,hh.1,fun ms hm D hD=>?_⟩
    rw [u4 hm hh.2.choose_spec]
    have hs:OE=16777216:=Po
    have hlen:hh.2.choose.length≤ns.length:=by
     have sp:=hh.2.choose_spec
     exact RZ sp.1 fun x hx=>(sp.2.1 x).mp hx
    exact k D _ _ (s1.trans (bL hD)) (aW.free s1 hD) aF (by rw [Oy]; have:=hh.1; omega) (.ofInts _)
   ·cases q
  ·cases q
 ·cases q
theorem Bw:∀ ns:List Int,∃ ms,mL ns ms:=by
 intro ns
 have key:∀ l:List Int,∃ ms:List Int,ms.Nodup∧∀ x,x∈ms↔x∈l:=by
  intro l
  induction l with
  | nil=>exact ⟨[],Qe,fun x=>Iff.rfl⟩
  | cons y r ih =>
   obtain ⟨ms,h1,h2⟩:=ih
   by_cases c:y∈ms
   ·refine ⟨ms,h1,fun x=>?_⟩
    rw [h2,OP]
    constructor
    ·exact .inr
    ·rintro (rfl | z)
     ·exact (h2 _).mp c
     ·exact z
   ·exact ⟨y::ms,Pc.mpr ⟨c,h1⟩,fun x=>by rw [OP,OP,h2]⟩
 obtain ⟨ms,h1,h2⟩:=key ns
 exact ⟨zY ms,(lY ms).nodup_iff.mpr h1,fun x=>by rw [(lY ms).mem_iff]; exact h2 x,By ms⟩
end
end
end VL
namespace L2
open PySem PySem.Spec PyProof.Rows VL
def stepI (lo hi st:Option Int) (n:Nat):List Nat:=Vt (Rx lo hi st n).1 (Rx lo hi st n).2.1 (Rx lo hi st n).2.2
def gq {α:Type} (xs:List α) (is:List Nat):List α:=is.filterMap fun i=>xs[i]?
theorem pR {vs:List V} {us:List OD} (r:Vals vs us):∀ is:List Nat,Vals (gq vs is) (gq us is)
 | []=>.nil
 | i::is=>by
  unfold gq
  rw [QF,QF]
  have hl:=r.length
  by_cases c:i<vs.length
  ·obtain ⟨u,e,ru⟩:=r.get (Ow c)
   rw [Ow c,e]
   exact .cons ru (pR r is)
  ·rw [O5 ‹5›,O5 ‹5›]
   exact pR r is
def Nj (K:OA):V→Option Int→Option Int→Option Int→Hp→VK→Prop:=fun x lo hi st H Q=>∃ a xs,x=.ref a∧dw K H a xs∧st≠some 0∧(gq xs (stepI lo hi st xs.length)).length≤OE∧∀ p,H p=none→Q (.ref p) (upd H p (.lst (gq xs (stepI lo hi st xs.length))))
def LV (K:OA) (te:TE) (tl th ts:TO):TE:=fun σ H Q=>te σ H fun x H1=>tl σ H1 fun l H2=>th σ H2 fun u H3=>ts σ H3 fun w H4=>Nj K x l u w H4 Q
theorem mi {X:Cx} {K:OA} {e:Qg} {te:TE} {lo hi:Option Qg} {st:Qg} {tl th ts:TO} {pos p2:UM} (hK:X.K=K) (he:PE X e te) (hl:PO X lo tl) (hu:PO X hi th) (hw:PO X (some st) ts):PE X (.Subscript e (.Slice lo hi (some st) p2) pos) (LV K te tl th ts):=by
 subst hK
 show 2
 refine WO (cZ (he pins s σ H _ I h) fun v s1 ⟨x,H1,I1,r1,q1⟩=>?_)
 refine wpAny_Slice (cZ (hl pins s1 σ H1 _ I1 q1) fun vl s2 ⟨l,H2,I2,pl,q2⟩=>cZ (hu pins s2 σ H2 _ I2 q2) fun vu s3 ⟨u,H3,I3,pu,q3⟩=>cZ (hw pins s3 σ H3 _ I3 q3) fun vw s4 ⟨w,H4,I4,pw,q4⟩=>?_)
 obtain ⟨a,xs,rfl,hx,hz,hlen,q⟩:=q4
 cases r1
 have I5:Inv X pins σ H4 { s4 with heap:=s4.heap.push { cls:=.type "slice", data:=.fields #[vl,vu,vw] } }:=I4.kept (t':=s4.toks) fun b ob q=>OC _ q
 obtain ⟨its,r,ht,hsz⟩:=I5.list hx
 have hlen2:=r.length
 show OX ‹7› X.A (U0 e (.Slice lo hi (some st) p2) (.ref a) (.ref s4.heap.objs.size)) (EP X pins σ Q) X.xe { s4 with heap:=s4.heap.push { cls:=.type "slice", data:=.fields #[vl,vu,vw] } }
 refine tail_any (ops:=[.ref a,.ref s4.heap.objs.size]) ht.isList.typeIs US.lookup ?_ (by with_unfolding_all rfl)
 refine U1 ht.isList (WQ ..) pl pu pw hz ?_ (by rw [OM] <;> omega)
 have ep:Xw its.toArray l u w=(gq its (stepI l u w xs.length)).toArray:=by
  unfold Xw gq stepI
  rw [OM,hlen2]
  simp
 rw [ep]
 refine ⟨.ref _,upd H4 _ (.lst (gq xs (stepI l u w xs.length))),I5.laid (t':=s4.toks) (fun b ob q=>OC _ q) (OT _) ⟨hlen,_,0,pR r _,OU _ rfl⟩,rfl,q _ (I5.ck.fresh (OT _))⟩
theorem FD {α:Type} (xs:List α):∀ is:List Nat,(gq xs is).length≤is.length:=fun is=>List.length_filterMap_le _ _
end L2
namespace VL
variable {a:DE} {ρ:aK} {ds:List D} {ta:TE} {H:Hp} {Z:OF→Prop} {kvs:List (Int×Int)} {W:Wk} {rows:List (List D)} {ms:List Bool} {ip:Nat} {ps:List OF} {tr:TA} {es:aK→Option (List D)} {F:OF→List OF→List D→Option (List (List D))}
open PySem L2
section
open Classical
noncomputable section
variable [bE] {K:OA}
theorem wO {H:Hp} {Z:OF→Prop} {vs:List V} {ds:List D} (r:IsL K H Z vs ds):∀ is:List Nat,IsL K H Z (gq vs is) (gq ds is)
 | []=>.nil
 | i::is=>by
  unfold gq
  rw [QF,QF]
  have hl:=r.length
  by_cases c:i<vs.length
  ·obtain ⟨d,e⟩:∃ d,ds[i]?=some d:=⟨_,Ow ‹5›⟩
   obtain ⟨v,ev,iv⟩:=r.get e
   rw [e,ev]
   exact .cons iv (wO r is)
  ·rw [O5 ‹5›,O5 ‹5›]
   exact wO r is
noncomputable def xu (a:DE) (lo hi st:aK→Option (Option Int)):aK→Option (List D):=fun ρ=>match d7 a ρ with
 | some ds=>(match lo ρ,hi ρ,st ρ with
  | some l,some h,some w=>if w≠some 0∧(stepI l h w ds.length).length≤OE then some (gq ds (stepI l h w ds.length)) else none
  | _,_,_=>none)
 | _=>none
omit [bE] in
theorem Lb {lo hi st:aK→Option (Option Int)} {l h w:Option Int} (ha:d7 a ρ=some ds) (h1:lo ρ=some l) (h2:hi ρ=some h) (h3:st ρ=some w) (hc:w≠some 0∧(stepI l h w ds.length).length≤OE):xu a lo hi st ρ=some (gq ds (stepI l h w ds.length)):=by
 unfold xu; rw [ha,h1,h2,h3]; exact if_pos hc
theorem wC {tl th ts:TO} {lo hi st:aK→Option (Option Int)} (ha:af K ta a) (hl:Bb K tl lo) (hh:Bb K th hi) (hs:Bb K ts st):bx K (LV K ta tl th ts) (xu a lo hi st):=fun {B Z os ρ σ H Q ds} f q k=>by
 unfold xu at q
 split at q
 ·rename_i es e1
  split at q
  ·rename_i l u w e2 e3 e4
   split at q
   ·rename_i hc
    cases q
    obtain ⟨d,e1,ed⟩:=dh e1
    refine ha f e1 fun v H1 s1 i1=>hl (f.grow s1) e2 fun H2 s2=>hh (f.grow (s1.trans s2)) e3 fun H3 s3=>hs (f.grow ((s1.trans s2).trans s3)) e4 fun H4 s4=>?_
    obtain ⟨p,vs,rfl,hn,_,hr⟩:=i1.seq ed
    obtain ⟨hr,r⟩:=hr H4 _ (Kp.same ((s2.trans s3).trans s4))
    have s14:=((s1.trans s2).trans s3).trans s4
    have hvl:=r.length
    rw [← hvl] at hc k
    have hpl:(gq vs (stepI l u w vs.length)).length≤OE:=Pq (FD _ _) hc.2
    exact ⟨p,vs,rfl,hr,hc.1,hpl,fun n hn'=>k n _ _ (s14.trans (bL hn')) (aW.free s14 hn') aF hpl ((wO r _).kp (lu hn'))⟩
   ·cases q
  ·cases q
 ·cases q
end
end
section
open Classical
noncomputable section
variable [bE] {K:OA} {fr:Fm}
def pZ (kvs:List (Int×Int)) (k:Int):Option Int:=(kvs.find? fun p=>decide (p.1=k)).map (·.2)
def nh (kvs:List (Int×Int)) (k v:Int):List (Int×Int):=if kvs.any (fun p=>decide (p.1=k)) then kvs.map fun p=>if p.1=k then (p.1,v) else p else kvs++[(k,v)]
omit [bE] in
theorem vQ (k:Int):∀ kvs:List (Int×Int),L2.sd (kvs.map lI) (.inl k)=(pZ kvs k).map V.int
 | []=>rfl
 | p::r=>by
  rw [O9]
  by_cases e:p.1=k
  ·rw [L2.nZ (show (lI p).1=.inl k by show SG p.1=_; rw [e])]
   unfold pZ
   rw [List.find?_cons_of_pos ‹56›]
   rfl
  ·rw [L2.n8 (show ¬ (lI p).1=.inl k from fun z=>e (VU z)),vQ k r]
   unfold pZ
   rw [List.find?_cons_of_neg ‹56›]
theorem Is.JE {v:V} (h:Is K H Z v (.dct kvs)):∃ a,v=.ref a∧Rd H a (.dK (kvs.map lI))∧kvs.length≤OE:=by
 cases h with
 | dct hz h hl=>exact ⟨_,rfl,h,hl⟩
noncomputable def GU (neg:Bool) (a b:DE):DE:=fun ρ=>match a ρ,b ρ with
 | some (.int k),some (.dct kvs)=>some (.bl (if neg=true then !(pZ kvs k).isSome else (pZ kvs k).isSome))
 | _,_=>none
omit [bE] in
theorem Le {neg:Bool} {b:DE} {k:Int} (ha:a ρ=some (.int k)) (hb:b ρ=some (.dct kvs)):GU neg a b ρ=some (.bl (if neg=true then !(pZ kvs k).isSome else (pZ kvs k).isSome)):=by unfold GU; rw [ha,hb]
theorem C1 {tb:TE} {b:DE} (ha:bp K ta a) (hb:bp K tb b):af K (Bs ta tb) (GU true a b):=fun {B Z os ρ σ H Q d} f q k=>by
 unfold GU at q
 split at q
 ·rename_i i kvs e1 e2
  cases q
  refine ha f e1 fun v H1 s1 i1=>hb (f.grow s1) e2 fun w H2 s2 i2=>?_
  cases (i1.isInt)
  obtain ⟨x,rfl,rd,_⟩:=i2.JE
  refine ⟨x,_,rfl,.inl ⟨_,.inl i,rd,rfl,rfl⟩,?_⟩
  rw [vQ,UT]
  exact k _ _ (s1.trans s2) (.bl _)
 ·cases q
noncomputable def tV (a b:DE):DE:=fun ρ=>match a ρ,b ρ with
 | some (.dct kvs),some (.int k)=>(pZ kvs k).map D.int
 | _,_=>none
omit [bE] in
theorem ID {b:DE} {k v:Int} (ha:a ρ=some (.dct kvs)) (hb:b ρ=some (.int k)) (h:pZ kvs k=some v):tV a b ρ=some (.int v):=by unfold tV; rw [ha,hb]; dsimp only; rw [h]; rfl
theorem BC {tb:TE} {b:DE} (ha:bp K ta a) (hb:bp K tb b):af K (Jn ta tb) (tV a b):=fun {B Z os ρ σ H Q d} f q k=>by
 unfold tV at q
 split at q
 ·rename_i kvs i e1 e2
  obtain ⟨v,ev,rfl⟩:=P7.mp q
  refine ha f e1 fun w H1 s1 i1=>hb (f.grow s1) e2 fun u H2 s2 i2=>?_
  cases (i2.isInt)
  obtain ⟨x,rfl,rd,_⟩:=(i1.same s2).JE
  refine ⟨x,.int v,rfl,.inl ⟨_,.inl i,rd,rfl,?_⟩,k _ _ (s1.trans s2) (.int _)⟩
  rw [vQ,ev]; rfl
 ·cases q
end
end
section
open Classical
noncomputable section
variable [bE] {K:OA} {fr:Fm}
@[irreducible] noncomputable def x9 (i:Nat):DS:=fun ρ=>if i < ρ.length then .nx (ρ.set i (.od [])) else .no
theorem HK {i:Nat}:di fr K (uk EV (ky i)) (x9 i):=fun {B Z os ρ σ H E} f p=>by
 unfold x9 at p
 by_cases hi:i < ρ.length
 ·rw [if_pos hi] at p
  intro x hx
  have st:=f.step (H':=upd H x (.dK [])) (i:=i) hi (o:=[x]) (s:=.od []) (v:=some (.ref x)) (fun a u e _=>bL hx _ _ e) (fun a ha=>let ⟨u,e⟩:=(f.sl i).uM ha; ⟨_,bL hx _ _ e⟩) (by simp) (fun a ha=>by rw [OB.mp ha]; exact .inr hx)
   ⟨x,rfl,rfl,aF,PV _⟩
  exact p _ _ _ st.1 st.2
 ·rw [if_neg hi] at p; exact p.elim
omit [bE] in
theorem Cz (k:Int):∀ kvs:List (Int×Int),((kvs.map lI).any fun kv=>decide (kv.1=SG k))=kvs.any fun p=>decide (p.1=k)
 | []=>rfl
 | p::r=>by
  rw [O9,TQ,TQ,Cz k r]
  have e:decide ((lI p).1=SG k)=decide (p.1=k):=by
   rw [P6,decide_eq_true_iff,decide_eq_true_iff]
   exact ⟨fun h=>VU h,fun h=>by show SG p.1=_; rw [h]⟩
  rw [e]
omit [bE] in
theorem BM (kvs:List (Int×Int)) (k v:Int):L2.putK (kvs.map lI) (.inl k) (.int v)=(nh kvs k v).map lI:=by
 unfold L2.putK nh
 rw [Cz]
 split
 ·rw [O3,O3]
  refine PU fun p _=>?_
  show (if (lI p).1=SG k then ((lI p).1,V.int v) else lI p)=lI (if p.1=k then (p.1,v) else p)
  by_cases e:p.1=k
  ·rw [if_pos e,if_pos (by show SG p.1=_; rw [e])]; rfl
  ·rw [if_neg e,if_neg (show ¬ (lI p).1=SG k from fun z=>e (VU z))]
 ·rw [O7]; rfl
omit [bE] in
theorem yj (kvs:List (Int×Int)) (k v:Int):(nh kvs k v).length≤kvs.length+1:=by
 unfold nh
 split
 ·rw [Oy]; omega
 ·rw [O1,Qh]; omega
@[irreducible] noncomputable def ya (i:Nat) (b a:DE):DS:=fun ρ=>match ρ.getD i .un with
 | .od kvs=>(match a ρ with
  | some (.int v)=>(match b ρ with
   | some (.int k)=>if kvs.length<OE then .nx (ρ.set i (.od (nh kvs k v))) else .no
   | _=>.no)
  | _=>.no)
 | _=>.no
omit [bE] in
theorem Hx {i:Nat} (hi:i < ρ.length) (k:W.nx (ρ.set i (.od []))):Wp (x9 i) ρ W:=by unfold Wp x9; rw [if_pos hi]; exact k
omit [bE] in
theorem Hy {i:Nat} {b:DE} {k v:Int} (h0:ρ.getD i .un=.od kvs) (ha:a ρ=some (.int v)) (hb:b ρ=some (.int k)) (hl:kvs.length<OE) (q:W.nx (ρ.set i (.od (nh kvs k v)))):Wp (ya i b a) ρ W:=by
 unfold Wp ya; rw [h0]; dsimp only; rw [ha]; dsimp only; rw [hb]; dsimp only; rw [if_pos hl]; exact q
theorem HL {i:Nat} {tb:TE} {b:DE} (ha:bp K ta a) (hb:bp K tb b):di fr K (Fq (iJ i) tb ta) (ya i b a):=fun {B Z os ρ σ H E} f p=>by
 unfold ya at p
 split at p
 ·rename_i kvs e
  split at p
  ·rename_i v e1
   split at p
   ·rename_i k e2
    by_cases hl:kvs.length<OE
    ·rw [if_pos hl] at p
     have s:=f.sl i
     rw [e] at s
     obtain ⟨x,eo,hu,hH,hlen⟩:=s
     show 24
     refine ha f e1 fun w H1 s1 i1=>⟨_,join_some hu,hb (f.grow s1) e2 fun y H2 s2 i2=>?_⟩
     cases (i1.isInt)
     cases (i2.isInt)
     have s12:=s1.trans s2
     have f2:=f.grow s12
     have hx:x∈os i:=by rw [eo]; exact OB.mpr rfl
     have st:=f2.step (H':=upd H2 x (.dK ((nh kvs k v).map lI))) (i:=i) hi (o:=[x]) (s:=.od (nh kvs k v)) (v:=some (.ref x)) (fun b u e n=>by rw [upd_ne (fun z=>n (by rw [z]; exact hx))]; exact e) (fun b hb=>by rw [eo] at hb; rw [OB.mp hb]; exact ⟨_,aF⟩) (by simp) (fun b hb=>by rw [OB.mp hb]; exact .inl hx)
      ⟨x,rfl,rfl,aF,by have:=yj kvs k v; omega⟩
     rw [eK hu] at st
     refine ⟨x,_,rfl,.inl ⟨_,.inl k,s12 _ _ hH,rfl,by rw [Oy]; exact hl,rfl⟩,?_⟩
     rw [BM]
     exact p _ _ _ st.1 ((Kp.same s12).trans st.2)
    ·rw [if_neg hl] at p; exact p.elim
   ·show 17
  ·show 17
 ·show 17
end
end
section
open Classical
noncomputable section
variable [bE] {K:OA} {fr:Fm}
section
variable {B H:Hp} {Z:OF→Prop} {os:Own} {ρ:aK} {σ:L2.St} {i:Nat} {a:OF} {ps:List OF} {rows:List (List D)}
theorem Fr.LR (f:Fr K B Z os ρ σ H) (e:ρ.getD i .un=.pm a ps rows):Fr K B Z os (ρ.set i (.om rows)) σ H∧os i=a::ps:=by
 have s:=f.sl i
 rw [e] at s
 obtain ⟨eo,hu,hH,hl,r⟩:=s
 show 24
 refine ⟨⟨f.keep,f.El,by rw [PH]; exact f.len,f.nd,f.dj,f.new,fun j=>?_,f.tab⟩,eo⟩
 show 23
 ·subst hj
  rw [dQ hi]
  exact ⟨a,ps,eo,hu,hH,hl,r⟩
 ·rw [iW hj]
  exact f.sl j
theorem Fr.pin (f:Fr K B Z os ρ σ H) (e:ρ.getD i .un=.om rows) (eo:os i=a::ps):Fr K B Z os (ρ.set i (.pm a ps rows)) σ H:=by
 have s:=f.sl i
 rw [e] at s
 obtain ⟨b,qs,eo',hu,hH,hl,r⟩:=s
 rw [eo] at eo'
 cases eo'
 show 24
 refine ⟨f.keep,f.El,by rw [PH]; exact f.len,f.nd,f.dj,f.new,fun j=>?_,f.tab⟩
 show 23
 ·subst hj
  rw [dQ hi]
  exact ⟨eo,hu,hH,hl,r⟩
 ·rw [iW hj]
  exact f.sl j
end
@[irreducible] noncomputable def pO (g:Int→Int→Int) (i:Nat) (b c a:DE):DS:=fun ρ=>match ρ.getD i .un with
  | .pm q0 qs rows=>(match b ρ with
    | some (.int n)=>(match ixN rows.length n with
      | some r=>(match rows[r]? with
        | some ds=>(match c ρ with
          | some (.int m)=>(match ixN ds.length m with
            | some j=>(match ds[j]? with
              | some (.int x)=>(match a ρ with
                | some (.int y)=>.nx (ρ.set i (.pm q0 qs (rows.set r (ds.set j (.int (g x y))))))
                | _=>.no)
              | _=>.no)
            | none=>.no)
          | _=>.no)
        | none=>.no)
      | none=>.no)
    | _=>.no)
  | _=>.no
theorem xZ {i:Nat} {g:Int→Int→Int} {tb tc:TE} {b c:DE} (hb:bp K tb b) (hc:bp K tc c) (ha:bp K ta a):di fr K (Jo (qF (Jx K) (iJ i) tb) tc ta (Fz K) (M0 g) BK) (pO g i b c a):=fun {B Z os ρ σ H E} f p=>by
 unfold pO at p
 split at p
 ·rename_i q0 qs rows e
  split at p
  ·rename_i n e2
   split at p
   ·rename_i r e3
    split at p
    ·rename_i ds e4
     split at p
     ·rename_i m e5
      split at p
      ·rename_i j e6
       split at p
       ·rename_i z e7
        split at p
        ·rename_i y e8
         obtain ⟨f0,eo0⟩:=f.LR e
         show 24
         have e':(ρ.set i (.om rows)).getD i .un=.om rows:=dQ hi
         obtain ⟨x,ps,q,vs,eo,hu,hH,hat,hr,hq,hl,il⟩:=Fu f0 e' e3 e4
         rw [eo0] at eo
         cases eo
         refine ⟨_,join_some hu,hb f e2 fun w H2 s2 i2=>.inl ⟨q0,qs.map V.ref,n,.ref q,rfl,i2.isInt,dw.of (s2 _ _ hH),hat,hc (f.grow s2) e5 fun u H3 s3 i3=>?_⟩⟩
         have s13:=s2.trans s3
         obtain ⟨v,ev,iv⟩:=il.get e7
         refine ⟨q,vs,m,v,rfl,i3.isInt,dw.of (s13 _ _ hq),?_,ha (f.grow s13) e8 fun u' H4 s4 i4=>⟨z,y,iv.isInt,i4.isInt,?_⟩⟩
         ·unfold kL; rw [il.length,e6]; exact ev
         ·have s14:=s13.trans s4
          have f4:=f0.grow s14
          obtain ⟨f',k⟩:=f4.JB (vs':=vs.set j (.int (g z y))) (ds':=ds.set j (.int (g z y))) e' eo0 hu hr (by rw [PH]; exact hl) ((il.same s14).set (.int _) j)
          have f'':=f'.pin (a:=q0) (ps:=qs) (dQ (by rw [PH]; exact hi)) bC
          rw [Xn,Xn] at f''
          exact ⟨q,vs,m,j,rfl,i3.isInt,s14 _ _ hq,by rw [il.length]; exact e6,p _ _ _ f'' ((Kp.same s14).trans k)⟩
        ·show 17
       ·show 17
      ·show 17
     ·show 17
    ·show 17
   ·show 17
  ·show 17
 ·show 17
theorem xQ {g:Int→Int→Int} {i:Nat} {e c:DE} {q0:OF} {qs:List OF} {n m x y:Int} {r j:Nat} (h0:ρ.getD i .un=.pm q0 qs rows) (h2:e ρ=some (.int n)) (h3:ixN rows.length n=some r) (h4:rows[r]?=some ds) (h5:c ρ=some (.int m)) (h6:ixN ds.length m=some j) (h7:ds[j]?=some (.int x)) (h8:a ρ=some (.int y)) (k:W.nx (ρ.set i (.pm q0 qs (rows.set r (ds.set j (.int (g x y))))))):Wp (pO g i e c a) ρ W:=by
 unfold Wp pO; rw [h0]; simp only [h2,h3,h4,h5,h6,h7,h8]; exact k
theorem KC (h:(ms.set ip true).all id=true):∀ j,j≠ip→ms.getD j true=true:=fun j hj=>by
 rw [Ox]
 by_cases c:j<ms.length
 ·have e:(ms.set ip true)[j]?=ms[j]?:=Ql (P9 hj)
  rw [Ow c] at e
  have:=Qu.mp h ms[j] (PD e)
  rw [Ow c]
  exact this
 ·rw [O5 ‹5›]; rfl
theorem J9 {n:Nat} {j:Nat} {d:D} (h:(gJ n ms ds).getD j .un=.bo d):ms.getD j true=false:=by
 unfold gJ at h
 rw [Ox] at h
 by_cases hj:j<(Rv ug ms ds).length
 ·rw [Pe hj,Tx] at h
  rw [Rr] at hj
  rw [Ow (show j<ms.length by omega),Ow (show j<ds.length by omega)] at h
  rw [Ox,Ow (show j<ms.length by omega)]
  cases e:ms[j] with
  | false=>rfl
  | true=>rw [e] at h; cases h
 ·rw [Py ‹5›,PY] at h
  split at h <;> cases h
theorem Mm {N:List P2} {vs:List V} {a:OF} (hz:ZT Z H) (h:Args K H Z ms vs ds) (hm:∀ j,j≠ip→ms.getD j true=true) (hip:ip<N.length) (hv:vs[ip]?=some (.ref a)) (hn:(a::ps).Nodup) (hZ:∀ b∈a::ps,Z b) (hH:H a=some (.lst ‹55›)) (hl:ps.length≤OE)
 (hp:Qv (fun p ds=>∃ vs,H p=some (.lst vs)∧vs.length≤OE∧IsL K H Z vs ds) ps rows) :
 Fr K (fun b=>if b∈a::ps then none else H b) (fun b=>Z b∧b∉a::ps) (fun j=>if j=ip then a::ps else []) ((gJ N.length ms ds).set ip (.pm a ps rows)) (L2.start N vs) H:=by
 have f0:=rA (N:=N) hz h
 have tt:∀ b,bR (fun b=>Z b∧b∉a::ps) (fun j=>if j=ip then a::ps else []) b→Z b:=by
  rintro b (z | ⟨j,z⟩)
  ·exact z.1
  ·by_cases hj:j=ip
   ·have z:b∈(if j=ip then a::ps else []):=z
    rw [if_pos hj] at z; exact hZ b z
   ·have z:b∈(if j=ip then a::ps else []):=z
    rw [if_neg hj] at z; cases z
 have uM:∀ b∈a::ps,∃ vs,H b=some (.lst vs):=fun b hb=>by
  rcases OP.mp hb with rfl | hb
  ·exact ⟨_,hH⟩
  ·obtain ⟨_,vs,q,_⟩:=Paired.any hp hb
   exact ⟨_,q⟩
 refine ⟨fun b o e=>?_,fun b z=>hz.1 b z.1,by rw [PH]; exact f0.len,fun j=>?_,fun i j b h1 h2=>?_,fun i b hb=>?_,fun j=>?_,fun p hp'=>?_⟩
 ·split at e
  ·cases e
  ·exact e
 ·split
  ·exact hn
  ·exact Qe
 ·split at h1
  ·split at h2
   ·rename_i x y; rw [x,y]
   ·cases h2
  ·cases h1
 ·split at hb
  ·exact ⟨if_pos hb,fun z=>z.2 hb⟩
  ·cases hb
 ·by_cases hj:j=ip
  ·subst hj
   have hlen:j<(gJ N.length ms ds).length:=by rw [← f0.len]; unfold L2.start; rw [O1,Oy,Pu]; omega
   rw [dQ hlen]
   refine ⟨if_pos rfl,?_,hH,hl,Paired.mono hp fun q ds _ ⟨vs,h1,h2,h3⟩=>⟨vs,h1,h2,h3.kp (Kp.less tt)⟩⟩
   unfold L2.start
   have hjv:=(OR.mp hv).1
   rw [Pe (by rw [Oy]; exact hjv),OH,hv]
   rfl
  ·rw [iW hj]
   rw [if_neg hj]
   have s:=f0.sl j
   cases e:(gJ N.length ms ds).getD j .un with
   | un=>exact rfl
   | pu d=>rw [e] at s; obtain ⟨_,u,hu,i1⟩:=s; exact ⟨rfl,u,hu,i1.kp (Kp.less fun b z=>.inl (tt b z))⟩
   | bo d=>have:=J9 e; rw [hm j hj] at this; cases this
   | ol d=>rw [e] at s; obtain ⟨_,_,z,_⟩:=s; cases z
   | om d=>rw [e] at s; obtain ⟨_,_,z,_⟩:=s; cases z
   | od d=>rw [e] at s; obtain ⟨_,z,_⟩:=s; cases z
   | pm _ _ d=>rw [e] at s; obtain ⟨z,_⟩:=s; cases z
   | pd _ d=>rw [e] at s; obtain ⟨z,_⟩:=s; cases z
 ·obtain ⟨t,e⟩:=hz.2 p hp'
  refine ⟨t,?_⟩
  rw [if_neg]
  ·exact e
  ·intro hb
   obtain ⟨vs,q⟩:=uM _ hb
   rw [e] at q; cases q
@[irreducible] def C4 (n ip:Nat) (ms:List Bool) (b:DS) (a:OF) (ps:List OF) (ds:List D):Option (List (List D)):=match ds[ip]? with
 | some (.lst rs)=>(match vS rs with
  | some rows=>(match b ((gJ n ms ds).set ip (.pm a ps rows)) with
   | .nx ρ=>(match ρ.getD ip .un with
    | .pm a' ps' rows'=>if a'=a∧ps'=ps then some rows' else none
    | _=>none)
   | _=>none)
  | none=>none)
 | _=>none
def MU (K:OA) (ip:Nat) (ms:List Bool) (F:OF→List OF→List D→Option (List (List D))):Sp:=fun vs H Q _=>∃ (Z:OF→Prop) (ds:List D) (a:OF) (ps:List OF) (rows rows':List (List D)),
 ZT Z H∧Args K H Z ms vs ds∧vs[ip]?=some (.ref a)∧ds[ip]?=some (fQ rows)∧(a::ps).Nodup∧(∀ b∈a::ps,Z b)∧H a=some (.lst ‹55›)∧ps.length≤OE∧Qv (fun p ds=>∃ vs,H p=some (.lst vs)∧vs.length≤OE∧IsL K H Z vs ds) ps rows∧F a ps ds=some rows' ∧
 ∀ H',(∀ b o,H b=some o→b∉a::ps→H' b=some o)→H' a=some (.lst ‹55›)→Qv (fun p ds=>∃ vs,H' p=some (.lst vs)∧vs.length≤OE∧IsL K H' Z vs ds) ps rows'→Q .non H'
theorem dS.Oa {P:PL} {w:PR} {mg:P2→Option OD} {base:Qb} {x qual:P2} {st:RE} {f:OF} {fd:PN} {N qs:List P2} {k:Nat} (F:dS K x qual st f fd) (S:bq N qs (aB st)) (ip:Nat) (ms:List Bool) (hms:ms.length=qs.length) (hm:∀ j,j≠ip→ms.getD j true=true) (hip:ip<N.length) (b:DS)
    (hbody:∀ (cdv:OD) (A:P8) (outer:List XQ) (s:OG) (H:Hp) (E:XK),fO k (A.deeper (SQ qual (aB st) ‹1› f cdv)) →
      ∃ t,xM ‹28›.Hn (fF st) t∧di .v K t b):dv P w K mg base jq (k+1) f fd qs (MU K ip ms (C4 N.length ip ms b)):=by
  refine F.ok S (fun vs H Q E h=>?_) (fun cdv A outer s H vs Q E hr h=>?_)
  · obtain ⟨Z,ds,_,_,_,_,hz,a,_⟩:=h
    rw [a.len.1,hms]
  · obtain ⟨Z,ds,a,ps,rows,rows',hz,ar,hv,hd,hn,hZ,hH,hl,hp,hF,k⟩:=h
    obtain ⟨t,h1,h2⟩:=hbody cdv A outer s H E hr
    refine ⟨t,h1,h2 (Mm hz ar hm hip hv hn hZ hH hl hp) ?_⟩
    unfold C4 at hF
    rw [hd] at hF
    unfold fQ at hF
    dsimp only at hF
    rw [m9] at hF
    dsimp only at hF
    split at hF
    · rename_i ρ e1
      rw [e1]
      split at hF
      · rename_i a' ps' r' e2
        split at hF
        · rename_i e3
          obtain ⟨rfl,rfl⟩:=e3
          cases hF
          intro os' σ' H' f' _
          have s':=f'.sl ip
          rw [e2] at s'
          obtain ⟨eo,hu,hH',hl',pr⟩:=s'
          refine k H' (fun b o e n=>f'.keep b o ?_) hH' (Paired.mono pr fun q ds _ ⟨us,g1,g2,g3⟩=>⟨us,g1,g2,g3.kp (Kp.less fun b z=>?_)⟩)
          · rw [if_neg n]; exact e
          · by_cases hb:b∈a'::ps'
            · exact .inr ⟨ip,by rw [eo]; exact hb⟩
            · exact .inl ⟨z,hb⟩
        · cases hF
      · cases hF
    · cases hF
def IV (K:OA) (i ip:Nat) (ms:List Bool) (t:TA) (e:aK→Option (List D)):Prop:=∀ {B:Hp} {Z:OF→Prop} {os:Own} {ρ:aK} {σ:L2.St} {H:Hp} {Q:List V→Hp→Prop} {ds:List D},Fr K B Z os ρ σ H→e ρ=some ds→(∀ vs H',aW H H'→Args K H' (bR Z os) ms vs ds→vs[ip]?=(σ[i]?).join→ds[ip]?=aj i ρ→Q vs H')→t σ H Q
theorem HI {i:Nat} (hr:uU K ms tr es):IV K i 0 (false::ms) (cz (iJ i) tr) (ao (aj i) es):=fun {B Z os ρ σ H Q ds} f q k=>by
 obtain ⟨d,r,e1,e2,rfl⟩:=j8 q
 have hv:∃ u,(σ[i]?).join=some u∧Is K H No u d:=by
  have:=ab (K:=K) i f (Q:=fun v H'=>(σ[i]?).join=some v∧H'=H∧Is K H No v d) e1
  have s:=f.sl i
  unfold aj at e1
  cases e:ρ.getD i .un with
  | un=>rw [e] at e1; cases e1
  | pu d'=>rw [e] at e1 s; cases e1; obtain ⟨_,u,hu,i1⟩:=s; exact ⟨u,hu,i1.all⟩
  | bo d'=>rw [e] at e1 s; cases e1; obtain ⟨_,u,hu,i1⟩:=s; exact ⟨u,hu,i1.same f.keep⟩
  | ol ds=>rw [e] at e1 s; cases e1; obtain ⟨a,vs,_,hu,hH,hl,i1⟩:=s; exact ⟨_,hu,.lst (fun z=>z) (.inl hH) hl i1.all⟩
  | om rows=>rw [e] at e1 s; cases e1; obtain ⟨a,ps,_,hu,hH,hl,i1⟩:=s; exact ⟨_,hu,.lst (fun z=>z) (.inl hH) ‹41› (gS i1)⟩
  | od kvs=>rw [e] at e1 s; cases e1; obtain ⟨a,_,hu,hH,hl⟩:=s; exact ⟨_,hu,.dct (fun z=>z) (.inl hH) hl⟩
  | pm a ps rows=>rw [e] at e1 s; cases e1; obtain ⟨_,hu,hH,hl,i1⟩:=s; exact ⟨_,hu,.lst (fun z=>z) (.inl hH) ‹41› (gS i1)⟩
  | pd a kvs=>rw [e] at e1 s; cases e1; obtain ⟨_,hu,hH,hl⟩:=s; exact ⟨_,hu,.dct (fun z=>z) (.inl hH) hl⟩
 obtain ⟨u,hu,iu⟩:=hv
 exact ⟨u,join_some hu,hr f e2 fun vs H' s a=>k (u::vs) H' s (.any (iu.same s) a) (by rw [hu]; rfl) (by rw [e1]; rfl)⟩
theorem vW {i:Nat} (ha:af K ta a) (hr:IV K i ip ms tr es):IV K i (ip+1) (true::ms) (cz ta tr) (ao a es):=fun {B Z os ρ σ H Q ds} f q k=>by
 obtain ⟨d,r,e1,e2,rfl⟩:=j8 q
 exact ha f e1 fun v H1 s1 i1=>hr (f.grow s1) e2 fun vs H2 s2 ar hv hd=>k (v::vs) H2 (s1.trans s2) (.own (i1.same s2) ar) hv hd
@[irreducible] noncomputable def sF (i:Nat) (F:OF→List OF→List D→Option (List (List D))) (es:aK→Option (List D)):DS:=fun ρ=>match ρ.getD i .un with
 | .om rows=>(match es ρ with
  | some ds=>if h:∃ rows',∀ a ps,ps.length=rows.length→F a ps ds=some rows' then .nx (ρ.set i (.om h.choose)) else .no
  | none=>.no)
 | _=>.no
theorem Eu {i:Nat} {rows':List (List D)} (h0:ρ.getD i .un=.om rows) (h1:es ρ=some ds) (h2:∀ a ps,ps.length=rows.length→F a ps ds=some rows') (k:W.nx (ρ.set i (.om rows'))):Wp (sF i F es) ρ W:=by
 have ex:∃ rows',∀ a ps,ps.length=rows.length→F a ps ds=some rows':=⟨_,h2⟩
 have e:ex.choose=rows':=by
  have q:=ex.choose_spec 0 (OY rows.length 0) (Pu ..)
  rw [h2 0 _ (Pu ..)] at q
  exact (Pm q).symm
 unfold Wp sF
 rw [h0]
 simp only [h1]
 rw [dif_pos ex,e]
 exact k
theorem E7 {i:Nat} {t:TA} {E0:XK} (hu:IV K i ip ms t es):di fr K (xW (Bt (MU K ip ms F) [] E0 t)) (sF i F es):=fun {B Z os ρ σ H E} f p=>by
 unfold sF at p
 split at p
 ·rename_i rows e
  split at p
  ·rename_i ds e1
   split at p
   ·rename_i ex
    have hF:=ex.choose_spec
    generalize ex.choose=rows' at p hF
    refine hu f e1 fun vs H1 s1 ar hv hd=>?_
    show MU K ip ms F (vs++[]) H1 _ E0
    rw [Qs]
    have f1:=f.grow s1
    obtain ⟨a,ps,eo,hua,hH,hl,hln,pr⟩:=BX f1 e
    have hn:=f1.nd i
    rw [eo] at hn
    show 24
    refine ⟨bR Z os,ds,a,ps,rows,rows',f1.zt,ar,by rw [hv,hua],by rw [hd]; unfold aj; rw [e]; rfl,hn,fun b hb=>.inr ⟨i,by rw [eo]; exact hb⟩,hH,hl,pr,hF a ps hln,fun H' hk ha hp=>?_⟩
    have tt:bR Z (jh os i (a::ps))=bR Z os:=by
     funext c
     apply propext
     constructor
     ·rintro (z | ⟨j,z⟩)
      ·exact .inl z
      ·show 23
       ·subst hj; rw [bC] at z; exact .inr ⟨j,by rw [eo]; exact z⟩
       ·rw [cy hj] at z; exact .inr ⟨j,z⟩
     ·rintro (z | ⟨j,z⟩)
      ·exact .inl z
      ·show 23
       ·subst hj; exact .inr ⟨j,by rw [bC,← eo]; exact z⟩
       ·exact .inr ⟨j,by rw [cy hj]; exact z⟩
    have st:=f1.step (H':=H') (i:=i) hi (o:=a::ps) (s:=.om rows') (v:=some (.ref a)) (fun b u e n=>hk b u e (by rw [← eo]; exact n)) (fun b hb=>?_) hn (fun b hb=>by rw [← eo] at hb; exact .inl hb)
     ⟨a,ps,rfl,rfl,ha,hl,by rw [tt]; exact hp⟩
    ·rw [eK hua] at st
     exact p _ _ _ st.1 ((Kp.same s1).trans st.2)
    ·rw [eo] at hb
     rcases OP.mp hb with rfl | hb
     ·exact ⟨_,ha⟩
     ·obtain ⟨_,us,q,_⟩:=Paired.any hp hb
      exact ⟨_,q⟩
   ·show 17
  ·show 17
 ·show 17
theorem HX {n:Nat} {b:DS} (hF:F=C4 n ip ms b) {a:OF} {rows':List (List D)} (hd:ds[ip]?=some (fQ rows)) (h:Wp b ((gJ n ms ds).set ip (.pm a ps rows)) { nx:=fun ρ=>ρ.getD ip .un=.pm a ps rows',rt:=fun _=>False }):F a ps ds=some rows':=by
 subst hF
 unfold C4
 rw [hd]
 unfold fQ
 show 20
 rw [m9]
 show 20
 unfold Wp at h
 split at h
 ·rename_i ρ e
  rw [e]
  show 20
  rw [show ρ.getD ip .un=.pm a ps rows' from h]
  exact if_pos ⟨rfl,rfl⟩
 ·exact h.elim
 ·exact h.elim
 ·exact h.elim
 ·exact h.elim
end
end
end VL
namespace L2
variable {H:Hp} {d:OF} {P:PL} {es:Array _} {ep:Nat} {K:OA} {tl:TE}
open PySem PySem.Spec PyProof.Rows VL
section
variable {X:Cx} {tg:Qg}
theorem Inv.Nt {pins:List (OF×Q5)} {σ:List (Option V)} {s:OG} {kvs:List (Key×V)} {ob:Q5} (I:Inv X pins σ H s) (e:H d=some (.dK kvs)) (eo:s.heap.get? d=some ob):Inv X pins σ (upd H d (.jS ob (.dK kvs))) s:=by
 have q:=I.ck d _ e
 exact I.un (h':=s.heap) (t':=s.toks) (Un.write (by rw [e]; trivial) (.inl rfl) (fun b u _ q=>q) ⟨_,eo⟩) (I.ck.write (by rw [e]; trivial) (.inl rfl) (fun b u _ q=>q) ⟨_,eo⟩ ⟨eo,q⟩)
def N3 (d:OF) (o:Q5) (kvs:List (Int×Int)):It :=
 ⟨fun i H=>H d=some (.jS o (.dK (kvs.map lI)))∧i<kvs.length,fun i H x H'=>H'=H∧∃ p,kvs[i]?=some p∧x=.int p.1,fun i H=>H d=some (.jS o (.dK (kvs.map lI)))∧kvs.length≤i⟩
theorem Cs {w:PR} {h:Qb} {o:Q5} {kvs:List (Int×Int)} (hd:o.data=.dict es ep) (x:cu P w H h d (.jS o (.dK (kvs.map lI)))):∃ vs,KV (kvs.map lI) vs∧h.DictAt (cY P w) d vs ep∧(d==Rl)=false:=by
 obtain ⟨e,_,lo,vs,r,o',es',ep',e1,c1,c2,c3⟩:=x
 rw [e] at e1
 cases e1
 rw [hd] at c2
 cases c2
 exact ⟨vs,r,⟨o,es,e,c1,hd,c3⟩,lo⟩
theorem CJ {w:PR} {tg:Qg} (d it:OF) (o:Q5) (kvs:List (Int×Int)) (hd:o.data=.dict es ep):Turn P w K tg (N3 d o kvs) [it] it (fun i h=>h.IsKeyIter it d i kvs.length ep) where
 mem:=by simp
 obj:=fun i h st b hb=>by
  have e:b=it:=by simpa using hb
  subst e
  obtain ⟨o,e,c,d⟩:=st
  exact ⟨o,e,fun v z=>by rw [d] at z; cases z⟩
 keep:=fun i h h' st k=>st.at fun o e=>k it (by simp) o e
 item:=by
  show 1
  subst hP hw hK
  obtain ⟨hq,hi⟩:=hg
  obtain ⟨vs,r,hat,lo⟩:=Cs hd (I.ck d _ hq)
  have hl:kvs.length=vs.length:=by rw [← QB r,Oy]
  show 6
  have e1:(kvs.map lI)[i]?=some (lI kvs[i]):=by rw [OH,Ow hi]; rfl
  obtain ⟨q,eq,h1,h2⟩:∃ q,vs[i]?=some q∧(lI kvs[i]).1=q.1∧RelV (lI kvs[i]).2 q.2:=by
   have:∀ {l:List (Key×V)} {m:List (Key×OD)} {i:Nat} {p:Key×V},KV l m→l[i]?=some p→∃ q,m[i]?=some q∧p.1=q.1∧RelV p.2 q.2:=by
    intro l m i p r
    induction r generalizing i with
    | nil=>intro e; simp at e
    | cons h _ ih =>
     intro e
     cases i with
     | zero=>cases e; exact ⟨_,rfl,h⟩
     | succ i=>exact ih ‹56›
   exact this r e1
  rw [hl] at st
  refine wpAny_pyNext_dict_item st hat (k:=q.1) (v:=q.2) (by rw [eq]) fun key h' hk st' sb=>?_
  rw [← hl] at st'
  show 16
  obtain ⟨o2,e2,c2,d2⟩:=id st'
  rw [← h1] at hk
  have hk':qP (.inl kvs[i].1) key=true:=hk
  rcases cJ hk' with ⟨n,t,z1,rfl⟩ | ⟨x,t,z1,_⟩
  ·cases z1
   exact ⟨_,rfl,Cg (s:={ s with heap:=h' }) e2 c2 d2 ‹11› ⟨.int kvs[i].1,H,I1,⟨t,rfl⟩,⟨rfl,kvs[i],Ow hi,rfl⟩,st',fun b hb=>(hf b hb).1⟩⟩
  ·cases z1
 done:=by
  show 1
  subst hP hw hK
  obtain ⟨hq,hi⟩:=hg
  obtain ⟨vs,r,hat,lo⟩:=Cs hd (I.ck d _ hq)
  have hl:kvs.length=vs.length:=by rw [← QB r,Oy]
  show 6
  rw [hl] at st
  exact wpAny_pyNext_dict_end (I.ok.hd hc) st hat (by simp; omega) fun h' eb=>⟨rfl,I.turned (t':=s.toks) (fun b o hb e=>eb b o hb e) f0 f1 f3 f4 f5⟩
 self:=fun _ _ _ _ _ st h=>wpAny_pyIter_keyiter st h
def JH (tl:TE):TI:=fun σ H R=>tl σ H fun x H1=>∃ a kvs,x=.ref a∧H1 a=some (.dK (kvs.map lI))∧∀ o,R (N3 a o kvs) (upd H1 a (.jS o (.dK (kvs.map lI))))
theorem Ia {l:Qg} (hl:PE X l tl):PI X tg l (JH tl):=by
 intro pins s σ H R I h
 refine cZ (hl pins s σ H _ I h) fun v s1 ⟨x,H1,I1,r1,q1⟩=>?_
 obtain ⟨a,kvs,e,hq,q⟩:=q1
 subst e
 cases r1
 obtain ⟨hz,lo,vs,r,o,es,ep,e1,c1,c2,c3⟩:=I1.ck a _ hq
 have hat:s1.heap.DictAt (cY X.prog X.w) a vs ep:=⟨o,es,e1,c1,c2,c3⟩
 have hlen:vs.length=kvs.length:=by rw [← QB r,Oy]
 refine wpAny_pyIter_dict lo hat ?_
 have I2:=I1.Nt hq e1
 rw [hlen]
 refine ⟨‹30›,[‹30›],_,_,_,rfl,I2.kept (t':=s1.toks) fun b o e=>OC _ e,CJ a _ o kvs c2,⟨_,OU _ rfl,rfl,rfl⟩,fun b hb=>?_,q o⟩
 have e:b=s1.heap.objs.size:=by simpa using hb
 subst e
 exact I2.AK (OT _) (I2.ck.fresh (OT _))
def M7 (K:OA) (a:OF) (n:Nat):It :=
 ⟨fun i H=>i<n∧∃ xs,dw K H a xs∧xs.length=n,fun i H x H'=>H'=H∧∀ xs,dw K H a xs→xs.length=n→xs[n-1-i]?=some x,fun i H=>n≤i⟩
theorem EC {w:PR} {tg:Qg} (a it:OF) (n:Nat):Turn P w K tg (M7 K a n) [it] it (fun i h=>i≤n∧h.IsRevIter it a ((n:Int)-1-(i:Int))) where
 mem:=by simp
 obj:=fun i h st b hb=>by
  have e:b=it:=by simpa using hb
  subst e
  obtain ⟨_,o,e,c,d⟩:=st
  exact ⟨o,e,fun v z=>by rw [d] at z; cases z⟩
 keep:=fun i h h' st k=>⟨st.1,st.2.at fun o e=>k it (by simp) o e⟩
 item:=by
  show 1
  subst hP hw hK
  obtain ⟨hi,xs,hq,hn⟩:=hg
  obtain ⟨its,rv,p,hz⟩:=I.list hq
  have hi':n-1-i<xs.length:=by omega
  obtain ⟨u,hu,ru⟩:=rv.get (Ow hi')
  show 6
  have e:(n:Int)-1-(i:Int)=((n-1-i:Nat):Int):=by omega
  have hit:=st.2
  rw [e] at hit
  refine wpAny_pyNext_rev_item hit p.isList (x:=u) (by simpa using hu) fun h' st' sb=>?_
  have e2:((n-1-i:Nat):Int)-1=(n:Int)-1-((i+1:Nat):Int):=by omega
  rw [e2] at st'
  show 16
  obtain ⟨o,e,c,d⟩:=id st'
  exact ⟨u,rfl,Cg (s:={ s with heap:=h' }) e c d ‹11› ⟨xs[n-1-i],H,I1,ru,⟨rfl,fun ys hy _=>by rw [I.lq hy hq]; exact Ow hi'⟩,⟨hi,st'⟩,fun b hb=>(hf b hb).1⟩⟩
 done:=by
  show 1
  subst hP hw hK
  have hg:n≤i:=hg
  have ei:i=n:=by have:=st.1; omega
  subst ei
  show 6
  have hit:=st.2
  rw [show (i:Int)-1-(i:Int)=-1 by omega] at hit
  exact wpAny_pyNext_rev_end (I.ok.hd hc) hit fun h' eb=>⟨rfl,I.turned (t':=s.toks) (fun b o hb e=>eb b o hb e) f0 f1 f3 f4 f5⟩
 self:=fun _ _ _ _ _ st h=>Wh st.2 h
def Mz (K:OA) (tl:TE):TI:=fun σ H R=>tl σ H fun x H1=>∃ a xs,x=.ref a∧dw K H1 a xs∧R (M7 K a xs.length) H1
theorem Kq {l:Qg} {p pos:UM} (hK:X.K=K) (hg:Gl X "reversed") (hm:X.mg "reversed" = none) (hl:PE X l tl) (hs:P0 [l] X.env=[(false,eval l X.env)]:=by rfl):PI X tg (.Call (.Name "reversed" p) [l] [] pos) (Mz K tl):=by
 subst hK
 intro pins s σ H R I h
 have ha:PA X [l] (cz tl fN):=aa hl ak hs
 refine Call_ (fT I hg hm zf (P4 (cZ (ha pos pins s σ H (fun vs H1=>match vs with | [x]=>∃ a xs,x=.ref a∧dw X.K H1 a xs∧R (M7 X.K a xs.length) H1 | _=>False) I h) fun us s1 ⟨vs,H1,I1,r1,q1⟩=>?_) hs rfl))
 ·match vs,r1,q1 with
  | [x],r1,q1 =>
  obtain ⟨a,xs,rfl,hq,q⟩:=q1
  obtain ⟨u,rfl,ru⟩:=vals1 r1
  cases ru
  obtain ⟨its,rv,pl,hz⟩:=I1.list hq
  have hlen:=rv.length
  refine call_reversed_list pl.isList ?_
  have hit:(s1.heap.push (revObj a (((its.toArray).size:Int)-1))).IsRevIter ‹30› a ((xs.length:Int)-1-((0:Nat):Int)):=by
   rw [show (xs.length:Int)-1-((0:Nat):Int)=((its.toArray).size:Int)-1 by rw [OM]; omega]
   exact ⟨_,OU _ rfl,rfl,rfl⟩
  refine Wh hit ?_
  have I2:Inv X pins σ H1 { s1 with heap:=s1.heap.push (revObj a (((its.toArray).size:Int)-1)) }:=I1.kept (t':=s1.toks) fun b o e=>OC _ e
  refine ⟨‹30›,[‹30›],_,_,H1,rfl,I2,EC a _ xs.length,⟨PV _,hit⟩,fun b hb=>?_,q⟩
  have e:b=s1.heap.objs.size:=by simpa using hb
  subst e
  exact I1.AK (OT _) (I1.ck.fresh (OT _))
end
end L2
namespace VL
variable {m:Bool} {t:TG} {tb:TS} {ds:List D} {ρ:aK} {W:Wk} {kvs:List (Int×Int)} {F:List D→Option D} {es:aK→Option (List D)} {a:DE}
open PySem L2
section
open Classical
noncomputable section
variable [bE] {K:OA} {fr:Fm}
theorem Gx {J:It} {g:DG} {b:DS} {B H1:Hp} {Z:OF→Prop} {os:Own} {σ:L2.St} {E:Ends} (f:Fr K B Z os ρ σ H1) (W:Walk K m B J H1 (bR Z os) ds) (hg:uT K m t g) (hb:di fr K tb b) (p:nR fr K B Z os H1 E (lA g b ds ρ)):EU (fun σ H R=>R J H) t tb E σ H1:=by
 refine ⟨fun i m σ' H'=>∃ os' ρ',m=ds.length-i∧i≤ds.length∧Fr K B Z os' ρ' σ' H'∧Kp (bR Z os) H1 (bR Z os') H'∧nR fr K B Z os H1 E (lA g b (ds.drop i) ρ'),⟨_,os,ρ,rfl,PV _,f,Kp.refl,p⟩,?_⟩
 rintro i mm σ2 H2 ⟨os2,ρ2,rfl,hi,f2,k2,p2⟩
 by_cases hlt:i<ds.length
 ·have ex:ds[i]?=some ds[i]:=Ow hlt
  obtain ⟨go,yl⟩:=W.go i ds[i] H2 _ k2 f2.keep f2.Jf ex
  rw [Pg hlt] at p2
  show 12
  obtain ⟨s3,er⟩:=yl x H3 hy
  unfold lA at p2
  split at p2
  ·exact p2.elim
  ·rename_i ρ1 e1
   have er':ER K m B H3 (bR Z os2) x ds[i]:=er
   refine hg (f2.grow s3) er' e1 fun os3 σ3 f3 k3=>hb f3 ?_
   have k13:Kp (bR Z os) H1 (bR Z os3) H3:=(k2.trans (Kp.same s3)).trans k3
   split at p2
   ·rename_i ρ4 e4
    rw [e4]
    show 25
   ·rename_i ρ4 e4
    rw [e4]
    show 25
   ·rename_i ρ4 e4
    rw [e4]
    exact fun os' σ' H' f' k'=>p2 os' σ' H' f' (k13.trans k')
   ·rename_i d e4
    rw [e4]
    exact p2
   ·exact p2.elim
 ·have e:i=ds.length:=by omega
  subst e
  rw [RU] at p2
  exact .inl ⟨W.stop _ H2 _ k2 f2.keep rfl,p2 os2 σ2 H2 f2 k2⟩
def kx (kvs:List (Int×Int)):List D:=kvs.map fun p=>.int p.1
@[irreducible] noncomputable def yd (i:Nat) (g:DG) (b:DS):DS:=fun ρ=>match ρ.getD i .un with
 | .od kvs=>lA g b (kx kvs) (ρ.set i (.pu (.dct kvs)))
 | _=>.no
theorem HN {i:Nat} {g:DG} {b:DS} (hg:uT K true t g) (hb:di fr K tb b):di fr K (EU (JH (iJ i)) t tb) (yd i g b):=fun {B Z os ρ σ H E} f p=>by
 unfold yd at p
 split at p
 ·rename_i kvs e
  have s:=f.sl i
  rw [e] at s
  obtain ⟨a,eo,hu,hH,hl⟩:=s
  show 24
  refine ⟨_,join_some hu,a,kvs,rfl,hH,fun o=>?_⟩
  have nt:¬ bR Z (jh os i []) a:=by
   rintro (z | ⟨j,z⟩)
   ·exact (f.new i a (by rw [eo]; exact OB.mpr rfl)).2 z
   ·show 23
    ·subst hj; rw [bC] at z; cases z
    ·rw [cy hj] at z; exact hj (f.dj j i a z (by rw [eo]; exact OB.mpr rfl))
  have st:=f.step (H':=upd H a (.jS o (.dK (kvs.map lI)))) (i:=i) hi (o:=[]) (s:=.pu (.dct kvs)) (v:=some (.ref a)) (fun b u e n=>by rw [upd_ne (fun z=>n (by rw [z,eo]; exact OB.mpr rfl))]; exact e) (fun b hb=>by rw [eo] at hb; rw [OB.mp hb]; exact ⟨_,aF⟩) Qe (fun b h=>by cases h)
   ⟨rfl,_,rfl,.dct nt (.inr ⟨o,aF⟩) hl⟩
  rw [eK hu] at st
  refine Gx st.1 (m:=true) (ds:=kx kvs) ⟨by unfold kx; rw [Oy]; exact hl,fun j d H2 T2 kp _ hd e2=>?_,fun j H2 T2 kp _ hj=>?_⟩ hg hb (nR.kp st.2 p)
  ·unfold kx at e2
   rw [OH] at e2
   cases e3:kvs[j]? with
   | none=>rw [e3] at e2; cases e2
   | some q =>
    rw [e3] at e2
    cases e2
    refine ⟨⟨(kp a _ aF nt).1,(OR.mp e3).1⟩,fun x H3 ⟨z1,q',z2,z3⟩=>?_⟩
    subst z1 z3
    rw [e3] at z2
    cases z2
    exact ⟨aW.refl _,.int _⟩
  ·exact ⟨(kp a _ aF nt).1,by rw [← hj]; unfold kx; rw [Oy]; exact OT _⟩
 ·show 17
theorem HA {i:Nat} {g:DG} {b:DS} (h0:ρ.getD i .un=.od kvs) (Iv:Nat→aK→Prop) (h1:Iv 0 (ρ.set i (.pu (.dct kvs))))
 (hs:∀ j ρ' p,kvs[j]?=some p→Iv j ρ'→∃ ρ1,g (.int p.1) ρ'=some ρ1∧Wp b ρ1 { nx:=Iv (j+1),ct:=Iv (j+1),bk:=W.nx,rt:=W.rt }) (hd:∀ ρ',Iv kvs.length ρ'→W.nx ρ'):Wp (yd i g b) ρ W:=by
 have key:∀ (n j:Nat) (ρ':aK),kvs.length-j=n→j≤kvs.length→Iv j ρ'→Wp (lA g b ((kx kvs).drop j)) ρ' W:=by
  intro n
  induction n with
  | zero =>
   intro j ρ' e hj iv
   have:j=kvs.length:=by omega
   subst this
   rw [show (kx kvs).drop kvs.length=[] by rw [List.drop_eq_nil_iff]; unfold kx; rw [Oy]; exact OT _]
   unfold Wp lA
   exact hd ρ' iv
  | succ n ih =>
   intro j ρ' e hj iv
   have hlt:j<kvs.length:=by omega
   have e1:(kx kvs).drop j=.int kvs[j].1::(kx kvs).drop (j+1):=by
    rw [Pg (by unfold kx; rw [Oy]; exact hlt)]
    unfold kx; rw [List.getElem_map]
   obtain ⟨ρ1,g1,w1⟩:=hs j ρ' kvs[j] (Ow hlt) iv
   rw [e1]
   unfold Wp at w1 ⊢
   unfold lA
   rw [g1]
   show 20
   cases e2:b ρ1 with
   | nx ρ2 =>
    rw [e2] at w1
    have:=ih (j+1) ρ2 ‹5› hlt w1
    unfold Wp at this
    exact this
   | ct ρ2 =>
    rw [e2] at w1
    have:=ih (j+1) ρ2 ‹5› hlt w1
    unfold Wp at this
    exact this
   | bk ρ2=>rw [e2] at w1; exact w1
   | rt d=>rw [e2] at w1; exact w1
   | no=>rw [e2] at w1; exact w1
 have:=key kvs.length 0 _ rfl (PV _) h1
 unfold Wp at this ⊢
 unfold yd
 rw [h0]
 exact this
@[irreducible] noncomputable def sC (i:Nat):DS:=fun ρ=>match ρ.getD i .un with
 | .od kvs=>.rt (.dct kvs)
 | _=>.no
theorem E3 {i:Nat}:di .l K (EN (iJ i)) (sC i):=fun {B Z os ρ σ H E} f p=>by
 unfold sC at p
 split at p
 ·rename_i kvs e
  have s:=f.sl i
  rw [e] at s
  obtain ⟨a,eo,hu,hH,hl⟩:=s
  have ha:a∈os i:=by rw [eo]; exact OB.mpr rfl
  exact ⟨_,join_some hu,p _ _ f.keep (.inr ⟨a,kvs,rfl,rfl,(f.new i a ha).1,hH,hl⟩)⟩
 ·show 17
theorem Ep {i:Nat} (h:ρ.getD i .un=.od kvs) (k:W.rt (.dct kvs)):Wp (sC i) ρ W:=by unfold Wp sC; rw [h]; exact k
@[irreducible] noncomputable def sv (i:Nat) (F:List D→Option D) (es:aK→Option (List D)):DS:=fun ρ=>match bw F es ρ with
 | some (.dct kvs)=>if i < ρ.length then .nx (ρ.set i (.od kvs)) else .no
 | _=>.no
theorem E1 {i:Nat} {ms:List Bool} {t:TA} {E0:XK} (ha:uU K ms t es):di fr K (uk (Bt (kQ .l K ms F) [] E0 t) (ky i)) (sv i F es):=fun {B Z os ρ σ H E} f p=>by
 unfold sv at p
 split at p
 ·rename_i kvs e1
  by_cases hi:i < ρ.length
  ·rw [if_pos hi] at p
   unfold bw at e1
   split at e1
   ·rename_i as e
    refine ha f e fun vs H1 s1 a=>?_
    show kQ .l K ms F (vs++[]) H1 _ E0
    rw [Qs]
    refine ⟨bR Z os,as,.dct kvs,(f.grow s1).zt,a,e1,fun v H2 s2 i2=>?_⟩
    rcases i2 with ⟨q,us,ds',rfl,ed,hb,hh,hl,r⟩ | ⟨q,kvs',rfl,ed,hb,hh,hl⟩
    ·cases ed
    ·cases ed
     have hq:H q=none:=aW.free s1 hb
     have s12:=s1.trans s2
     have st:=f.step (H':=H2) (i:=i) hi (o:=[q]) (s:=.od kvs) (v:=some (.ref q)) (fun a u e _=>s12 _ _ e) (fun a ha=>let ⟨xs,e⟩:=(f.sl i).uM ha; ⟨_,s12 _ _ e⟩) (by simp) (fun a ha=>by rw [OB.mp ha]; exact .inr hq)
      ⟨q,rfl,rfl,hh,hl⟩
     exact p _ _ _ st.1 st.2
   ·cases e1
  ·rw [if_neg hi] at p; exact p.elim
 ·show 17
theorem En {i:Nat} {xs:List D} (h:es ρ=some xs) (h2:F xs=some (.dct kvs)) (hi:i < ρ.length) (k:W.nx (ρ.set i (.od kvs))):Wp (sv i F es) ρ W:=by
 unfold Wp sv bw; rw [h]; dsimp only; rw [h2]; dsimp only; rw [if_pos hi]; exact k
noncomputable def GO (a:DE):aK→Option (List D):=fun ρ=>(d7 a ρ).map List.reverse
theorem Lc (h:d7 a ρ=some ds):GO a ρ=some ds.reverse:=by unfold GO; rw [h]; rfl
theorem Ey {Bx H1:Hp} {T:OF→Prop} {p:OF} {vs:List V} (hl:ds.length≤OE) (hd0:∀ H2 T2,Kp T H1 T2 H2→aW Bx H2→dw K H2 p vs) (hn:vs.length=ds.length)
 (hi:∀ H2 T2 (i:Nat) v d,Kp T H1 T2 H2→aW Bx H2→vs[i]?=some v→ds[i]?=some d→ER K m Bx H2 T2 v d):Walk K m Bx (M7 K p vs.length) H1 T ds.reverse:=by
 refine ⟨by rw [SS]; exact hl,fun i d H2 T2 kp sb hd e=>?_,fun i H2 T2 kp sb hi=>?_⟩
 ·have hr2:=hd0 H2 T2 kp sb
  have hi0:=(OR.mp e).1
  rw [SS] at hi0
  rw [List.getElem?_reverse hi0] at e
  refine ⟨⟨by omega,vs,hr2,rfl⟩,fun x H3 ⟨e3,hx⟩=>?_⟩
  subst e3
  have:=hx vs hr2 rfl
  rw [hn] at this
  exact ⟨aW.refl _,hi _ T2 _ _ d kp sb this e⟩
 ·rw [SS] at hi
  show vs.length≤i
  omega
theorem EW {tl:TE} (ha:bp K tl a):zr K false (Mz K tl) (GO a):=fun {B Z os ρ σ H R ds} f q k=>by
 unfold GO at q
 cases e0:d7 a ρ with
 | none=>rw [e0] at q; cases q
 | some es =>
  rw [e0] at q
  cases q
  obtain ⟨d,q,ed⟩:=dh e0
  refine ha f q fun v H1 s1 i1=>?_
  obtain ⟨p,vs,rfl,hl,hn,hr⟩:=i1.seq ed
  refine ⟨p,vs,rfl,(hr H1 _ Kp.refl).1,k _ _ s1 (Ey (vs:=vs) ‹5› (fun H2 T2 kp sb=>(hr H2 No (Kp.same sb)).1) hn fun H2 T2 i v d kp sb e1 e2=>?_)⟩
  obtain ⟨v',f1,i2⟩:=(hr H1 No Kp.refl).2.get e2
  rw [e1] at f1
  cases f1
  exact i2
end
end
end VL
namespace PySem
variable {z:OF} {i1:OF} {i2:OF} {l1:OF} {l2:OF} {bb:Bool} {xs:Array OD} {ys:Array OD} {Q:Option OD→OG→Prop}
open Sem (wp)
section
variable {prog:PL} {w:PR} {A:P8} {E:OD→OG→Prop} {s:OG}
theorem nY {M:Model} {a:OF} {Q:Option Q5→OG→Prop} (h:Q (s.heap.get? a) s):OX M A (loadIfAlive a) Q E s:=fun Γ p _=>h
abbrev nU (h:Qb) (z TI TO:OF) (f0:OD) (b:Bool):Prop :=
 h.get? z=some { cls:=.type "zip", dict:=none,data:=.fields #[f0,.bool b,.bool false,.ref TI,.ref TO],slots:=#[] }
theorem nW {TI TO T:OF} {b:Bool} {Q:Bool→OG→Prop} (hz:nU s.heap z TI TO (QU T) b) (hT:∃ o,s.heap.get? T=some o)
 (h:∀ h',nU h' z TI TO (QU T) true→RI z s.heap h'→Q false { s with heap:=h' }):OX ‹13› A (QM (.ref z)) Q E s:=by
 obtain ⟨o,ho⟩:=hT
 unfold QM
 refine Oz (TZ hz rfl (x:=QU T) rfl ?_)
 show OX _ _ (loadIfAlive ((T:Int).toNat) >>= _) _ _ _
 refine Oz (nY ?_)
 rw [QK,ho]
 show OX _ _ (field (.ref z) 1 >>= _) _ _ _
 refine Oz (TZ hz rfl (x:=.bool b) rfl ?_)
 cases b with
 | true =>
  show OX _ _ (pure false) _ _ _
  exact OL (h s.heap hz ⟨rfl,fun _ _=>rfl⟩)
 | false =>
  show OX _ _ (setField (.ref z) 1 (.bool true) >>= _) _ _ _
  refine Oz (wpAny_setField_rec hz (by simp) fun h₁ hz₁ hs₁=>?_)
  exact OL (h h₁ hz₁ hs₁)
theorem rV {TI TO T:OF} {k1 k2:Nat} {x y a b:OD} {Q:OD→OG→Prop} (D:TU z TI TO i1 i2 l1 l2)
 (hz:nU s.heap z TI TO (QU T) bb) (hT:∃ o,s.heap.get? T=some o) (hTI:U3 s.heap TI (.ref i1) (.ref i2)) (hTO:U3 s.heap TO a b)
 (h1:s.heap.IsListIter i1 l1 k1) (h2:s.heap.IsListIter i2 l2 k2) (hl1:s.heap.IsList l1 xs) (hl2:s.heap.IsList l2 ys) (hx:xs[k1]?=some x) (hy:ys[k2]?=some y)
 (hQ:∀ h',nU h' z TI TO (QU T) true→h'.IsListIter i1 l1 (k1+1)→h'.IsListIter i2 l2 (k2+1)→U3 h' ‹1› x y→h'.objs.size=‹1›+1 →
  (∀ c o,c≠z→c≠i1→c≠i2→s.heap.get? c=some o→h'.get? c=some o)→Q (.ref ‹1›) { s with heap:=h' }) :
 OX ‹13› A (QP.«zip.__next__» ⟨[.ref z],[]⟩) (fun fin s'=>∃ v,fin=.done (.ret v)∧Q v s') E s:=by
 show OX _ _ (field (.ref z) 2 >>= _) _ _ _
 refine Oz (TZ hz rfl (x:=.bool false) rfl ?_)
 show OX _ _ (field (.ref z) 3 >>= _) _ _ _
 refine Oz (TZ hz rfl (x:=.ref TI) rfl ?_)
 refine Oz (Ts hTI rfl ?_)
 show OX _ _ (QM (.ref z) >>= _) _ _ _
 refine Oz (nW hz hT fun h₁ hz₁ hs₁=>?_)
 simp only [Qz,if_false]
 refine Oz ?_
 simp only [UD,XY,V5]
 refine Oz (Oz (PQ ?_))
 show OX _ _ (RF (.ref i1) >>= _) _ _ _
 refine Oz (Tt (h1.extBut hs₁.extBut D.i1z) (hl1.extBut hs₁.extBut D.l1z) hx fun h₂ h1₂ hs₂=>OL (OL ?_))
 refine Oz (Oz (PQ ?_))
 show OX _ _ (RF (.ref i2) >>= _) _ _ _
 refine Oz (Tt ((h2.extBut hs₁.extBut D.i2z).extBut hs₂.extBut D.i12.symm) ((hl2.extBut hs₁.extBut D.l2z).extBut hs₂.extBut D.l2i1) hy fun h₃ h2₃ hs₃=>OL (OL (OL ?_)))
 show OX _ _ (Yg [x,y] >>= _) _ _ _
 refine Oz (V6 ?_)
 have hsz:h₃.objs.size=s.heap.objs.size:=by rw [hs₃.1,hs₂.1,hs₁.1]
 have hk:∀ c o,c≠z→c≠i1→c≠i2→s.heap.get? c=some o→h₃.get? c=some o:=fun c o c1 c3 c4 e=>hs₃.extBut _ _ c4 (hs₂.extBut _ _ c3 (hs₁.extBut _ _ c1 e))
 have hz₃:nU h₃ z TI TO (QU T) true:=hs₃.extBut _ _ D.i2z.symm (hs₂.extBut _ _ D.i1z.symm hz₁)
 have h1₃:h₃.IsListIter i1 l1 (k1+1):=h1₂.extBut hs₃.extBut D.i12
 refine OL ⟨_,rfl,?_⟩
 show Q (.ref h₃.objs.size) _
 have g:U3 (h₃.push { cls:=.type "tuple", data:=.seq #[x,y] }) h₃.objs.size x y:=OU _ rfl
 rw [hsz] at g ⊢
 exact hQ _ (OC _ hz₃) (h1₃.at fun o e=>OC _ e) (h2₃.at fun o e=>OC _ e) g (by rw [RC,hsz]) fun c o c1 c3 c4 e=>OC _ (hk c o c1 c3 c4 e)
end
namespace F
theorem zB:WN (.type "zip") "__len__" = pure none:=by rw [Ud,Sh]; kernel_rfl
theorem xN:WN (.type "zip") "__length_hint__" = pure none:=by rw [Ud,Sh]; kernel_rfl
end F
section
variable {prog:PL} {w:PR} {A:P8} {E:OD→OG→Prop} {s:OG}
theorem uh {TI TO T:OF} {k1 k2:Nat} {Q:Fin→OG→Prop} (hh:A.handled=none) (D:TU z TI TO i1 i2 l1 l2)
 (hz:nU s.heap z TI TO (QU T) bb) (hT:∃ o,s.heap.get? T=some o) (hTI:U3 s.heap TI (.ref i1) (.ref i2))
 (h1:s.heap.IsListIter i1 l1 k1) (h2:s.heap.IsListIter i2 l2 k2) (hl1:s.heap.IsList l1 xs) (hl2:s.heap.IsList l2 ys) (hend:xs[k1]?=none∨ys[k2]?=none)
 (hE:∀ h' e,(∀ c o,c≠z→c≠i1→c≠i2→s.heap.get? c=some o→h'.get? c=some o)→(∃ o,h'.get? e=some o∧o.cls=.type "StopIteration")→E (.ref e) { s with heap:=h' }) :
 OX ‹13› A (QP.«zip.__next__» ⟨[.ref z],[]⟩) Q E s:=by
 show OX _ _ (field (.ref z) 2 >>= _) _ _ _
 refine Oz (TZ hz rfl (x:=.bool false) rfl ?_)
 show OX _ _ (field (.ref z) 3 >>= _) _ _ _
 refine Oz (TZ hz rfl (x:=.ref TI) rfl ?_)
 refine Oz (Ts hTI rfl ?_)
 show OX _ _ (QM (.ref z) >>= _) _ _ _
 refine Oz (nW hz hT fun h₁ hz₁ hs₁=>?_)
 simp only [Qz,if_false]
 refine Oz ?_
 simp only [UD,XY,V5]
 refine Oz (Oz (PQ ?_))
 show OX _ _ (RF (.ref i1) >>= _) _ _ _
 cases hx:xs[k1]? with
 | none =>
  refine Oz (VS hh (h1.extBut hs₁.extBut D.i1z) (hl1.extBut hs₁.extBut D.l1z) hx fun h₂ e hs₂ he=>?_)
  exact hE h₂ e (fun c o c1 c3 _ x=>hs₂ _ _ c3 (hs₁.extBut _ _ c1 x)) he
 | some x =>
  have hy:ys[k2]?=none:=by rcases hend with h | h; rw [hx] at h; cases h; exact h
  refine Oz (Tt (h1.extBut hs₁.extBut D.i1z) (hl1.extBut hs₁.extBut D.l1z) hx fun h₂ h1₂ hs₂=>OL (OL ?_))
  refine Oz (Oz (PQ ?_))
  show OX _ _ (RF (.ref i2) >>= _) _ _ _
  refine Oz (VS hh ((h2.extBut hs₁.extBut D.i2z).extBut hs₂.extBut D.i12.symm) ((hl2.extBut hs₁.extBut D.l2z).extBut hs₂.extBut D.l2i1) hy fun h₃ e hs₃ he=>?_)
  exact hE h₃ e (fun c o c1 c3 c4 x=>hs₃ _ _ c4 (hs₂.extBut _ _ c3 (hs₁.extBut _ _ c1 x))) he
def oZ (z TI TO i1 i2 l1 l2:OF) (xs ys:Array OD) (i:Nat) (h:Qb):Prop :=
 (IsZip h z TI TO .none∨∃ (T:OF) (b:Bool),nU h z TI TO (QU T) b∧∃ o,h.get? T=some o)∧U3 h TI (.ref i1) (.ref i2)∧(∃ a b,U3 h TO a b)∧h.IsListIter i1 l1 i∧h.IsListIter i2 l2 i∧h.IsList l1 xs∧h.IsList l2 ys
theorem oZ.keeps {TI TO:OF} {i:Nat} {h h':Qb} {S:OF} (x:oZ z TI TO i1 i2 l1 l2 xs ys i h) (k:∀ b o,b≠S→h.get? b=some o→h'.get? b=some o) (kS:(∃ o,h.get? S=some o)→∃ o,h'.get? S=some o)
 (n1:z≠S) (n2:TI≠S) (n3:TO≠S) (n4:i1≠S) (n5:i2≠S) (n6:l1≠S) (n7:l2≠S):oZ z TI TO i1 i2 l1 l2 xs ys i h':=by
 obtain ⟨hz,hTI,⟨a,b,hTO⟩,h1,h2,hl1,hl2⟩:=x
 refine ⟨?_,k _ _ n2 hTI,⟨a,b,k _ _ n3 hTO⟩,h1.at fun o e=>k _ o n4 e,h2.at fun o e=>k _ o n5 e,hl1.at fun o e=>k _ o n6 e,hl2.at fun o e=>k _ o n7 e⟩
 rcases hz with hz | ⟨T,b,hz,o,ho⟩
 ·exact .inl (k _ _ n1 hz)
 ·refine .inr ⟨T,b,k _ _ n1 hz,?_⟩
  by_cases c:T=S
  ·subst c; exact kS ⟨o,ho⟩
  ·exact ⟨o,k _ _ c ho⟩
theorem zE {TI TO:OF} {i:Nat} {x y:OD} (D:TU z TI TO i1 i2 l1 l2) (st:oZ z TI TO i1 i2 l1 l2 xs ys i s.heap) (hx:xs[i]?=some x) (hy:ys[i]?=some y)
 (hQ:∀ h',oZ z TI TO i1 i2 l1 l2 xs ys (i+1) h'→U3 h' ‹1› x y→h'.objs.size=‹1›+1→(∀ c o,c≠z→c≠TO→c≠i1→c≠i2→s.heap.get? c=some o→h'.get? c=some o)→Q (some (.ref ‹1›)) { s with heap:=h' }) :
 OX ‹13› A (R6 (.ref z)) Q E s:=by
 obtain ⟨hz,hTI,⟨a,b,hTO⟩,h1,h2,hl1,hl2⟩:=st
 rcases hz with hz | ⟨T,bb,hz,hT⟩
 ·refine wpAny_pyNext_zip_item D hz hTI hTO h1 h2 hl1 hl2 hx hy fun h' a1 a2 a3 a4 a5 a6 hk=>?_
  exact hQ h' ⟨.inr ⟨_,false,a1,_,a5⟩,hk _ _ D.TIz D.TITO D.TIi1 D.TIi2 hTI,⟨_,_,a2⟩,a3,a4,hl1.at fun o e=>hk _ o D.l1z D.l1TO D.l1i1 D.l1i2 e,hl2.at fun o e=>hk _ o D.l2z D.l2TO D.l2i1 D.l2i2 e⟩ a5 a6 hk
 ·have hTy:s.TypeIs (.ref z) "zip" := ⟨_,hz,rfl⟩
  unfold R6
  refine Oz (Sg (QT (name:=SI "__next__") hTy S6
   (Qp S6 hTy XE
    (rV D hz hT hTI hTO h1 h2 hl1 hl2 hx hy fun h' a1 a3 a4 a5 a6 hk=>OL ?_) (Xo _))))
  have hTz:∃ o,h'.get? T=some o:=by
   obtain ⟨o,ho⟩:=hT
   by_cases c1:T=z
   ·exact ⟨_,by rw [c1]; exact a1⟩
   ·by_cases c3:T=i1
    ·obtain ⟨o,e,_⟩:=a3; exact ⟨o,by rw [c3]; exact e⟩
    ·by_cases c4:T=i2
     ·obtain ⟨o,e,_⟩:=a4; exact ⟨o,by rw [c4]; exact e⟩
     ·exact ⟨o,hk _ _ c1 c3 c4 ho⟩
  exact hQ h' ⟨.inr ⟨T,true,a1,hTz⟩,hk _ _ D.TIz D.TIi1 D.TIi2 hTI,⟨a,b,hk _ _ D.TOz D.TOi1 D.TOi2 hTO⟩,a3,a4,hl1.at fun o e=>hk _ o D.l1z D.l1i1 D.l1i2 e,hl2.at fun o e=>hk _ o D.l2z D.l2i1 D.l2i2 e⟩ a5 a6 fun c o c1 _ c3 c4 e=>hk c o c1 c3 c4 e
theorem CF {TI TO:OF} {i:Nat} (hh:A.handled=none) (D:TU z TI TO i1 i2 l1 l2) (st:oZ z TI TO i1 i2 l1 l2 xs ys i s.heap) (hend:xs[i]?=none∨ys[i]?=none)
 (hQ:∀ h',(∀ c o,c≠z→c≠TO→c≠i1→c≠i2→s.heap.get? c=some o→h'.get? c=some o)→Q none { s with heap:=h' }):OX ‹13› A (R6 (.ref z)) Q E s:=by
 obtain ⟨hz,hTI,⟨a,b,hTO⟩,h1,h2,hl1,hl2⟩:=st
 rcases hz with hz | ⟨T,bb,hz,hT⟩
 ·exact wpAny_pyNext_zip_end hh D hz hTI hTO h1 h2 hl1 hl2 hend hQ
 ·have hTy:s.TypeIs (.ref z) "zip" := ⟨_,hz,rfl⟩
  unfold R6
  refine Oz (Sg (QT (name:=SI "__next__") hTy S6
   (Qp S6 hTy XE (uh hh D hz hT hTI h1 h2 hl1 hl2 hend fun h' e hk he=>?_) (Xo _))))
  obtain ⟨o,ho,hc⟩:=he
  refine Oz (TL (T := "StopIteration") (b:=true) ⟨o,ho,hc⟩ We ?_)
  exact OL (hQ _ fun c o c1 _ c3 c4 e=>hk c o c1 c3 c4 e)
theorem mR {a b lo:Nat} (h:a<lo) (g:lo≤b):b≠a:=by omega
def qA (xs ys:Array OD) (lo:Nat) (h:Qb) (acc:List OF):Prop:=acc.Nodup∧∀ (j:Nat) (T:OF),acc[j]?=some T→lo≤T∧∃ x y,xs[j]?=some x∧ys[j]?=some y∧U3 h T x y
theorem Ej {TI TO S:OF} {n lo:Nat} {res:OD} {R:VY→OG→Prop} (hh:A.handled=none) (D:TU z TI TO i1 i2 l1 l2) (hn:n=min xs.size ys.size) (hsz:n≤OE)
 (n1:z≠S) (n2:TI≠S) (n3:TO≠S) (n4:i1≠S) (n5:i2≠S) (n6:l1≠S) (n7:l2≠S) (hlo:z<lo∧TI<lo∧TO<lo∧i1<lo∧i2<lo∧S<lo) :
 ∀ (k i:Nat) (s:OG) (acc:List OF) (c:Nat),n-i=k→i≤n→lo≤‹1›→oZ z TI TO i1 i2 l1 l2 xs ys i s.heap→s.heap.get? S=some { cls:=.type "list", dict:=none,data:=.seq (acc.map Pf).toArray c,slots:=#[] }→acc.length=i→qA xs ys lo s.heap acc →
 (∀ h' acc' c',(∀ b o,b≠S→b≠z→b≠TO→b≠i1→b≠i2→s.heap.get? b=some o→h'.get? b=some o)→h'.get? S=some { cls:=.type "list", dict:=none,data:=.seq ((acc':List OF).map Pf).toArray c',slots:=#[] }→acc'.length=n→qA xs ys lo h' acc'→R (.ok (.ret res)) { s with heap:=h' }) →
 Ti ‹13› A (.builtin "list.extend.loop" ⟨[.ref S,.ref z,res],[]⟩) R s:=by
 intro k
 induction k with
 | zero =>
  intro i s acc c hk hi hlos hst hS hacc hgot hR
  have hin:i=n:=by omega
  subst hin
  refine Qk Wz ?_
  rw [PX SU _]
  show OX _ A.in1 (R6 (.ref z) >>= _) _ _ s
  have hend:xs[i]?=none∨ys[i]?=none:=by
   rcases Nat.le_total xs.size ys.size with h | h
   ·exact .inl (by rw [hn,Nat.min_eq_left h]; exact QZ (OT _))
   ·exact .inr (by rw [hn,Nat.min_eq_right h]; exact QZ (OT _))
  refine Oz (CF hh D hst hend fun h' hk'=>?_)
  exact OL (hR h' acc c (fun b o _ b1 b2 b3 b4 e=>hk' b o b1 b2 b3 b4 e) (hk' _ _ (P9 n1) (P9 n3) (P9 n4) (P9 n5) hS) hacc ⟨hgot.1,fun j T e=>by
   obtain ⟨g1,x,y,g2,g3,g4⟩:=hgot.2 j T e
   exact ⟨g1,x,y,g2,g3,hk' _ _ (mR hlo.1 g1) (mR hlo.2.2.1 g1) (mR hlo.2.2.2.1 g1) (mR hlo.2.2.2.2.1 g1) g4⟩⟩)
 | succ k ih =>
  intro i s acc c hk hi hlos hst hS hacc hgot hR
  have hlt:i<n:=by omega
  have hix:i<xs.size:=by omega
  have hiy:i<ys.size:=by omega
  refine Qk Wz ?_
  rw [PX SU _]
  show OX _ A.in1 (R6 (.ref z) >>= _) _ _ s
  refine Oz (zE D hst (O6 hix) (O6 hiy) fun h' hst' hpr hz' hk'=>?_)
  have hS':=hk' _ _ (P9 n1) (P9 n3) (P9 n4) (P9 n5) hS
  show OX _ A.in1 (Vd S (·.push (.ref ‹1›)) >>= _) _ _ _
  refine Oz ?_
  have oth:∀ b o,b≠S→h'.get? b=some o→(h'.update S (Pw (·.push (Pf ‹1›)))).get? b=some o:=fun b o hb e=>(PJ _ _ (P9 hb)).trans e
  have hS2:=P1 (Pw (·.push (Pf ‹1›))) hS' rfl
  have hSs:S≠s.heap.objs.size:=(mR hlo.2.2.2.2.2 hlos).symm
  obtain ⟨c2,hS3⟩:∃ c2,(h'.update S (Pw (·.push (Pf ‹1›)))).get? S=some { cls:=.type "list", dict:=none,data:=.seq ((acc++[‹1›]).map Pf).toArray c2,slots:=#[] }:=by
   rw [O7]
   have:((acc.map Pf)++[‹1›].map Pf).toArray=(acc.map Pf).toArray.push (.ref ‹1›):=by simp
   rw [this]
   exact ⟨_,hS2⟩
  refine Se hS' rfl (OL ⟨QL SU _,ih (i+1) _ (acc++[‹1›]) c2 ‹5› hlt ?_ (hst'.keeps (S:=S) (fun b o hb e=>oth b o hb e) (fun _=>⟨_,hS2⟩) n1 n2 n3 n4 n5 n6 n7) hS3 (by rw [O1,hacc]; rfl) ?_ fun h'' acc' c' hk'' hS'' hacc' hgot'=>?_⟩)
   (by rw [OM,Oy]; omega) (by show ((acc.map Pf).toArray.push _).size≤OE+1; rw [XU,OM,Oy]; omega)
  ·show lo≤(h'.update S _).objs.size
   rw [RB,hz']; omega
  ·refine ⟨Sn.mpr ⟨hgot.1,by simp,fun T hT u hu=>?_⟩,?_⟩
   ·obtain ⟨j,e⟩:=Sj.mp hT
    obtain ⟨_,_,_,_,_,g4⟩:=hgot.2 j T e
    rw [OB.mp hu]
    exact OS (OO g4)
   intro j T e
   by_cases hj:j<acc.length
   ·rw [Pe hj] at e
    obtain ⟨g1,x,y,g2,g3,g4⟩:=hgot.2 j T e
    exact ⟨g1,x,y,g2,g3,oth _ _ (mR hlo.2.2.2.2.2 g1) (hk' _ _ (mR hlo.1 g1) (mR hlo.2.2.1 g1) (mR hlo.2.2.2.1 g1) (mR hlo.2.2.2.2.1 g1) g4)⟩
   ·rw [Py ‹5›] at e
    have e0:j-acc.length=0:=by
     cases h:j-acc.length with
     | zero=>rfl
     | succ k=>rw [h] at e; simp at e
    rw [e0] at e
    cases e
    have:j=i:=by omega
    subst this
    exact ⟨hlos,_,_,O6 hix,O6 hiy,oth _ _ (P9 hSs) hpr⟩
  ·exact hR h'' acc' c' (fun b o b0 b1 b2 b3 b4 e=>hk'' b o b0 b1 b2 b3 b4 (oth b o b0 (hk' b o b1 b2 b3 b4 e))) hS'' hacc' hgot'
theorem zC {TI TO S:OF} {n:Nat} {res:OD} {c₀:Nat} {R:VY→OG→Prop} (hh:A.handled=none) (D:TU z TI TO i1 i2 l1 l2) (hn:n=min xs.size ys.size) (hsz:n≤OE)
 (n1:z≠S) (n2:TI≠S) (n3:TO≠S) (n4:i1≠S) (n5:i2≠S) (n6:l1≠S) (n7:l2≠S) (hlo:z<‹1›∧TI<‹1›∧TO<‹1›∧i1<‹1›∧i2<‹1›∧S<‹1›)
 (hst:oZ z TI TO i1 i2 l1 l2 xs ys 0 s.heap) (hS:s.heap.get? S=some { cls:=.type "list", data:=.seq #[] c₀ })
 (hR:∀ h' acc' c',(∀ b o,b≠S→b≠z→b≠TO→b≠i1→b≠i2→s.heap.get? b=some o→h'.get? b=some o)→h'.get? S=some { cls:=.type "list", dict:=none,data:=.seq ((acc':List OF).map Pf).toArray c',slots:=#[] }→acc'.length=n→qA xs ys ‹1› h' acc'→R (.ok (.ret res)) { s with heap:=h' }) :
 OX ‹13› A.in1 (Qa (.ref S) (.ref z) res)
  (fun fin s'=>match fin with | .done f=>R (.ok f) s' | .again c'=>c'.quiet=true∧Ti ‹13› A c' R s') (fun e s'=>R (.error e) s') s:=by
 have hT:s.TypeIs (.ref z) "zip" := by
  rcases hst.1 with hz | ⟨T,b,hz,_⟩
  ·exact ⟨_,hz,rfl⟩
  ·exact ⟨_,hz,rfl⟩
 unfold Qa
 refine Oz (Xm hT ?_)
 have h1:RO (.ref S) (.ref z)=false:=by simp [RO,P9 n1]
 have h2:(QE "zip" == QE "list")=false:=by decide
 have h3:(QE "zip" == QE "tuple")=false:=by decide
 simp only [h1,h2,h3,WG,Qz,if_false]
 refine Oz ?_
 refine UW hT F.slot_zip_iter (Qp F.slot_zip_iter hT F.entry_zip_iter ?_ (F.args_zip_iter_1 _))
 show OX _ _ (ret (.ref z)) _ _ s
 refine OL ⟨_,rfl, "zip", _,hT,S6.lookup,?_⟩
 refine Oz (PQ ?_)
 unfold So
 refine Oz (S4 hT F.zB ?_)
 show OX _ A.in1 (specialOf (Pf z) (SI "__length_hint__") >>= _) _ _ _
 refine Oz (S4 hT F.xN ?_)
 refine OL ?_
 show OX _ A.in1 (rule "list.extend.makes-room" >>= fun _=>Builtin.List.listTouch (.ref S) >>= fun _ =>
  again (.builtin "list.extend.loop" ⟨[.ref S,.ref z,res],[]⟩)) _ _ _
 refine Oz (Ta ?_)
 refine Oz ?_
 show OX _ A.in1 (Vd S (·.push .none) >>= fun _=>Vd S (·.pop)) _ _ _
 refine Oz (Se hS rfl ?_)
 have hS₂:=P1 (Pw (·.push Qi)) hS rfl
 refine Se (hz:=by seq_fits) hS₂ rfl ?_
 have hS₃:=P1 (Pw (·.pop)) hS₂ rfl
 have oth:∀ b o,b≠S→s.heap.get? b=some o→((s.heap.update S (Pw (·.push Qi))).update S (Pw (·.pop))).get? b=some o :=
  fun b o hb e=>(PJ _ _ (P9 hb)).trans ((PJ _ _ (P9 hb)).trans e)
 have hsize:((s.heap.update S (Pw (·.push Qi))).update S (Pw (·.pop))).objs.size=s.heap.objs.size:=by rw [RB,RB]
 refine OL ⟨QL SU _,Ej hh D hn hsz n1 n2 n3 n4 n5 n6 n7 hlo n 0 _ [] _ rfl (PV _) (Tn hsize.symm) (hst.keeps (S:=S) oth (fun _=>⟨_,hS₃⟩) n1 n2 n3 n4 n5 n6 n7) hS₃ rfl ⟨Qe,fun j T e=>by simp at e⟩ fun h' acc' c' hk hS' hacc hgot=>?_⟩
 exact hR h' acc' c' (fun b o b0 b1 b2 b3 b4 e=>hk b o b0 b1 b2 b3 b4 (oth b o b0 e)) hS' hacc hgot
theorem uQ {TI TO:OF} {Q:OD→OG→Prop} (hh:A.handled=none) (D:TU z TI TO i1 i2 l1 l2) (hsz:min xs.size ys.size≤OE)
 (hlo:z<‹1›∧TI<‹1›∧TO<‹1›∧i1<‹1›∧i2<‹1›∧l1<‹1›∧l2<‹1›)
 (hst:oZ z TI TO i1 i2 l1 l2 xs ys 0 s.heap)
 (hQ:∀ h' acc' c',(∀ b o,b≠z→b≠TO→b≠i1→b≠i2→s.heap.get? b=some o→h'.get? b=some o)→h'.get? ‹1›=some { cls:=.type "list", dict:=none,data:=.seq ((acc':List OF).map Pf).toArray c',slots:=#[] }→acc'.length=min xs.size ys.size→qA xs ys (‹1›+1) h' acc'→Q (.ref ‹1›) { s with heap:=h' }) :
 OX ‹13› A (call (.type "list") [.ref z]) Q E s:=by
 refine callType_codes (Q₁:=fun obj s₁=>obj=.ref ‹1›∧s₁={ s with heap:=s.heap.push { cls:=.type "list", data:=.seq #[] } }) F.called_list (F.typeCall_list_1 _) F.entry_list_init
  (code_list_new _ ⟨rfl,rfl⟩) fun obj s₁ h₁=>?_
 obtain ⟨rfl,rfl⟩:=h₁
 have hS:(s.heap.push { cls:=.type "list", data:=.seq #[] }).get? ‹1›=some { cls:=.type "list", data:=.seq #[] }:=OU _ rfl
 obtain ⟨m1,m2,m3,m4,m5,m6,m7⟩:=hlo
 refine ⟨⟨_,hS,rfl⟩,F.args_list_init_2 _ _,?_⟩
 show OX _ _ (do let old ← Vu (.ref ‹1›); Builtin.List.listUpdate (.ref ‹1›) (fun _=>#[]); letGo old.toList.reverse; Qa (.ref ‹1›) (.ref z) .none) _ _ _
 refine Oz ?_
 unfold Vu
 refine Oz (Ts hS rfl (OL ?_))
 show OX _ _ (Vd ‹1› (fun _=>#[]) >>= fun _=>letGo (#[]:Array OD).toList.reverse >>= fun _=>Qa (.ref ‹1›) (.ref z) .none) _ _ _
 refine Oz (Se hS rfl ?_)
 have hS₂:=P1 (Pw (fun _=>(#[]:Array OD))) hS rfl
 have oth:∀ b o,b≠‹1›→s.heap.get? b=some o→((s.heap.push { cls:=.type "list", data:=.seq #[] }).update ‹1› (Pw (fun _=>(#[]:Array OD)))).get? b=some o :=
  fun b o hb e=>(PJ _ _ (P9 hb)).trans (OC _ e)
 have hsize:((s.heap.push { cls:=.type "list", data:=.seq #[] }).update ‹1› (Pw (fun _=>(#[]:Array OD)))).objs.size=‹1›+1:=by rw [RB,RC]
 refine Oz (wpAny_letGo ?_)
 refine zC (xs:=xs) (ys:=ys) (n:=min xs.size ys.size) hh D rfl hsz (OS m1) (OS m2) (OS m3) (OS m4) (OS m5) (OS m6) (OS m7) ?_ (hst.keeps (S:=‹1›) oth (fun _=>⟨_,hS₂⟩) (OS m1) (OS m2) (OS m3) (OS m4) (OS m5) (OS m6) (OS m7)) hS₂ fun h' acc' c' hk hS' hacc hgot=>?_
 ·show _<(Heap.update _ _ _).objs.size∧_
  rw [hsize]
  exact ⟨Ph m1,Ph m2,Ph m3,Ph m4,Ph m5,Qc _⟩
 ·have hgot':qA xs ys (‹1›+1) h' acc':=by rw [← hsize]; exact hgot
  exact ⟨rfl,hQ h' acc' c' (fun b o b1 b2 b3 b4 e=>hk b o (OS (OO e)) b1 b2 b3 b4 (oth b o (OS (OO e)) e)) hS' hacc hgot'⟩
end
end PySem
namespace L2
open PySem PySem.Spec PyProof.Rows VL
section
variable {P:PL} {w:PR} {H:Hp} {h:Qb}
theorem jr.add {a:OF} {o:HO} (x:jr P w H h) (hn:H a=none) (new:cu P w (upd H a o) h a o):jr P w (upd H a o) h:=fun b u e=>by
 by_cases hb:b=a
 ·subst hb; rw [aF] at e; cases e; exact new
 ·rw [upd_ne hb] at e
  exact (x b u e).nc (fun c v _ q=>q) (fun c q=>by rw [upd_ne (br q hn)]; exact q) fun c xs q=>by rw [upd_ne (br q hn)]; exact q
def uJ:List (OF×List V)→Hp→Hp
 | [],H=>H
 | p::r,H=>upd (uJ r H) p.1 (.tup p.2)
theorem oN:∀ {l:List (OF×List V)} {H:Hp} {b:OF},b∉l.map Sf→uJ l H b=H b
 | [],_,_,_=>rfl
 | p::r,H,b,h=>by
  rw [O9,OP,not_or] at h
  show upd (uJ r H) p.1 _ b=_
  rw [upd_ne h.1,oN h.2]
theorem B6:∀ {l:List (OF×List V)} {H:Hp} {p:OF×List V},(l.map Sf).Nodup→p∈l→uJ l H p.1=some (.tup p.2)
 | [],_,_,_,h=>by cases h
 | q::r,H,p,nd,h=>by
  rw [O9,Pc] at nd
  show upd (uJ r H) q.1 _ p.1=_
  rcases OP.mp h with rfl | h
  ·exact aF
  ·rw [upd_ne (fun z=>nd.1 (by rw [← z]; exact Pj.mpr ⟨p,h,rfl⟩)),B6 nd.2 h]
theorem B5:∀ {l:List (OF×List V)} {H:Hp},jr P w H h→(l.map Sf).Nodup→(∀ p∈l,H p.1=none∧p.2.length≤OE∧∃ its:List OD,Vals p.2 its∧IsTup h p.1 its.toArray)→jr P w (uJ l H) h
 | [],_,x,_,_=>x
 | p::r,H,x,nd,hp=>by
  rw [O9,Pc] at nd
  obtain ⟨h1,h2,h3⟩:=hp p ON
  exact jr.add (B5 x nd.2 fun q hq=>hp q (OI _ hq)) (by rw [oN nd.1]; exact h1) ⟨h2,h3⟩
theorem Un.news {fs ex:List OF} {H':Hp} {h':Qb} (k:∀ b u,h.get? b=some u→h'.get? b=some u) (e1:∀ b,b<h.objs.size→H' b=H b) (e2:aW H H'):Un fs ex H H' h h' where
 keep:=fun b u q _ _ _=>k b u q
 slot:=fun b u q _ _ _=>⟨u.slots,k b u q⟩
 free:=fun b u q n _=>by rw [e1 b (OO q)]; exact n
 there:=fun b u q _=>⟨u,k b u q⟩
 uj:=fun b xs q=>e2 _ _ q
 tj:=fun b u xs q=>e2 _ _ q
 se:=fun b ps q=>⟨#[],by rw [e2 _ _ q]; simp⟩
end
theorem Hv {xs ys:List V} {us ws:List OD} {lo:Nat} {h:Qb} (r1:Vals xs us) (r2:Vals ys ws) {acc:List OF} (g:qA us.toArray ws.toArray lo h acc):∀ (n:Nat),n=acc.length→∃ l:List (OF×List V),l.map Sf=acc∧l.map Xp=(Rv (fun x y=>[x,y]) xs ys).take n∧∀ p∈l,lo≤p.1∧p.2.length≤OE∧∃ its:List OD,Vals p.2 its∧IsTup h p.1 its.toArray:=by
 intro n hn
 have hl1:=r1.length
 have hl2:=r2.length
 have key:∀ k,k≤acc.length→∃ l:List (OF×List V),l.map Sf=acc.take k∧l.map Xp=(Rv (fun x y=>[x,y]) xs ys).take k∧∀ p∈l,lo≤p.1∧p.2.length≤OE∧∃ its:List OD,Vals p.2 its∧IsTup h p.1 its.toArray:=by
  intro k
  induction k with
  | zero=>exact fun _=>⟨[],by simp,by simp,fun p hp=>by cases hp⟩
  | succ k ih =>
   intro hk
   obtain ⟨l,e1,e2,e3⟩:=ih ‹5›
   have hT:acc[k]?=some acc[k]:=Ow ‹5›
   obtain ⟨g1,u,v,g2,g3,g4⟩:=g.2 k _ hT
   have g2':us[k]?=some u:=by simpa using g2
   have g3':ws[k]?=some v:=by simpa using g3
   have hk1:k<xs.length:=by rw [hl1]; exact (OR.mp g2').1
   have hk2:k<ys.length:=by rw [hl2]; exact (OR.mp g3').1
   obtain ⟨u',f1,q1⟩:=r1.get (Ow hk1)
   obtain ⟨v',f2,q2⟩:=r2.get (Ow hk2)
   rw [g2'] at f1; cases f1
   rw [g3'] at f2; cases f2
   refine ⟨l++[(acc[k],[xs[k],ys[k]])],?_,?_,fun p hp=>?_⟩
   ·rw [O7,e1,QN,hT]; rfl
   ·rw [O7,e2,QN,Tx,Ow hk1,Ow hk2]; rfl
   ·show 7
    ·exact e3 p hp
    ·rw [OB.mp hp]
     exact ⟨g1,by show 2≤OE; decide,[u,v],.cons q1 (.cons q2 .nil),⟨_,g4,rfl,_,rfl⟩⟩
 obtain ⟨l,e1,e2,e3⟩:=key n ‹5›
 exact ⟨l,by rw [e1,hn,Qd],e2,e3⟩
def Jm (K:OA) (t:TA):TE:=fun σ H Q=>t σ H fun vs H1=>∃ a b xs ys,vs=[.ref a,.ref b]∧dw K H1 a xs∧dw K H1 b ys∧∀ S (l:List (OF×List V)) H',aW H1 H'→H1 S=none→H' S=some (.lst (l.map fun p=>.ref p.1))→l.map Xp=Rv (fun x y=>[x,y]) xs ys→l.length≤OE→(∀ p∈l,H1 p.1=none∧H' p.1=some (.tup p.2))→Q (.ref S) H'
theorem BQ {X:Cx} {K:OA} {a b:Qg} {ta:TA} {p1 p2 q1 q2:UM} (hK:X.K=K) (hc:X.calm=true) (hg1:Gl X "list") (hm1:X.mg "list" = none) (hg2:Gl X "zip") (hm2:X.mg "zip" = none) (ha:PA X [a,b] ta)
    (e1:P0 [.Call (.Name "zip" p2) [a,b] [] q2] X.env=[(false,eval (.Call (.Name "zip" p2) [a,b] [] q2) X.env)]:=by rfl) (hs:P0 [a,b] X.env=(false,eval a X.env)::P0 [b] X.env:=by rfl) (hp:(TC q2 (P0 [b] X.env)).any (·.1)=false:=by rfl) :
    PE X (.Call (.Name "list" p1) [.Call (.Name "zip" p2) [a,b] [] q2] [] q1) (Jm K ta):=by
  subst hK
  show 2
  have hh:=I.ok.hd hc
  refine Q6 (fT I hg1 hm1 gg ?_ ‹11› ‹11›)
  refine P4 (rest:=[]) ?_ (by rw [e1]; rfl) rfl
  rw [e1]
  show OX _ _ (spliced [(false,eval (.Call (.Name "zip" p2) [a,b] [] q2) X.env)]) _ _ s
  refine Uw ?_
  refine Call_ (fT I hg2 hm2 G3 (P4 (cZ (ha q2 pins s σ H _ I h) fun us s1 ⟨vs,H1,I1,r1,q1⟩=>?_) hs hp))
  obtain ⟨x,y,xs,ys,rfl,qa,qb,q⟩:=q1
  cases r1 with
  | cons ra r1 =>
    cases r1 with
    | cons rb r1 =>
      cases r1
      cases ra
      cases rb
      obtain ⟨us,v1,pl1,z1⟩:=I1.list qa
      obtain ⟨ws,v2,pl2,z2⟩:=I1.list qb
      have l1:=v1.length
      have l2:=v2.length
      have la:x<s1.heap.objs.size:=by obtain ⟨_,e,_⟩:=pl1.isList; exact OO e
      have lb:y<s1.heap.objs.size:=by obtain ⟨_,e,_⟩:=pl2.isList; exact OO e
      refine call_zip_2 pl1.isList pl2.isList fun h1 hz hTI hTO hi1 hi2 hsz hk=>?_
      refine UR ?_
      have hm:min us.toArray.size ws.toArray.size≤OE:=by
        rw [OM,OM]; omega
      refine uQ (s:={ s1 with heap:=h1 }) hh (Em _ _ _ la lb) hm ?_ ⟨.inl hz,hTI,⟨_,_,hTO⟩,hi1,hi2,pl1.isList.at fun o e=>hk _ o e,pl2.isList.at fun o e=>hk _ o e⟩ fun h' acc c hk' hS hacc hgot=>?_
      · have f:∀ n m:Nat,m=n+5→∀ i j:Nat,i<n→j<n→n+4<m∧n+2<m∧n+3<m∧n<m∧n+1<m∧i<m∧j<m:=by intros; omega
        exact f ‹30› h1.objs.size hsz x y la lb
      · obtain ⟨l,e1,e2,e3⟩:=Hv v1 v2 hgot acc.length rfl
        have hlen:l.length=acc.length:=by rw [← e1,Oy]
        have hzl:(Rv (fun x y=>[x,y]) xs ys).length=acc.length:=by
          have hacc':acc.length=min us.toArray.size ws.toArray.size:=hacc
          rw [Rr,hacc',OM,OM,l1,l2]
        rw [R8 ‹5›] at e2
        have big:∀ b:Nat,h1.objs.size≤b→‹30›≤b:=fun b hb=>by omega
        have kall:∀ b u,s1.heap.get? b=some u→h'.get? b=some u:=fun b u e=>by
          have hb:=OO e
          have f:∀ n i b:Nat,b<n→b≠n+i:=by intros; omega
          exact hk' b u (f _ 4 b hb) (f _ 3 b hb) (f _ 0 b hb) (f _ 1 b hb) (hk b u e)
        have fr:∀ b:Nat,h1.objs.size≤b→H1 b=none:=fun b hb=>I1.ck.fresh (big b hb)
        have nd:(l.map Sf).Nodup:=by rw [e1]; exact hgot.1
        have hS0:H1 h1.objs.size=none:=fr _ (OT _)
        have hSl:h1.objs.size∉l.map Sf:=fun z=>by
          obtain ⟨p,hp,e⟩:=Pj.mp z
          have:=(e3 p hp).1
          have f:∀ n m:Nat,n+1≤m→m≠n:=by intros; omega
          exact f _ _ this e
        have hT:∀ p∈l,H1 p.1=none:=fun p hp=>fr _ (Nat.le_of_succ_le (e3 p hp).1)
        have ok1:jr X.prog X.w (uJ l H1) h':=B5 (I1.ck.kept kall) nd fun p hp=>⟨hT p hp,(e3 p hp).2⟩
        have er:acc.map Pf=l.map fun p=>Pf p.1:=by rw [← e1,O3]; rfl
        have vr:∀ l:List (OF×List V),Vals (l.map fun p=>V.ref p.1) (l.map fun p=>Pf p.1):=by
          intro l
          induction l with
          | nil=>exact .nil
          | cons p r ih=>exact .cons rfl ih
        have ok2:jr X.prog X.w (upd (uJ l H1) h1.objs.size (.lst (l.map fun p=>V.ref p.1))) h':=jr.add ok1 (by rw [oN hSl]; exact hS0) ⟨by rw [Oy]; have hacc':acc.length=min us.toArray.size ws.toArray.size:=hacc; omega,_,c,vr l,by rw [← er]; exact hS⟩
        have s12:aW H1 (upd (uJ l H1) h1.objs.size (.lst (l.map fun p=>V.ref p.1))):=fun b o e=>by
          rw [upd_ne (br e hS0),oN (fun z=>?_)]
          · exact e
          · obtain ⟨p,hp,e'⟩:=Pj.mp z
            have:=hT p hp
            rw [e',e] at this; cases this
        have I2:Inv X pins σ (upd (uJ l H1) h1.objs.size (.lst (l.map fun p=>V.ref p.1))) { s1 with heap:=h' }:=I1.un (t':=s1.toks) (Un.news kall (fun b hb=>by
          rw [upd_ne (fun z => by have f:∀ n m b:Nat,b<n→m=n+5→b≠m:=by intros; omega
                                  exact f _ _ _ hb hsz z),oN (fun z=>?_)]
          obtain ⟨p,hp,e'⟩:=Pj.mp z
          have g:=(e3 p hp).1
          have f:∀ n m b p:Nat,b<n→m=n+5→m+1≤p→p≠b:=by intros; omega
          exact f _ _ _ _ hb hsz g e') s12) ok2
        exact ⟨.ref _,_,I2,rfl,q _ l _ s12 hS0 aF e2 (by have hacc':acc.length=min us.toArray.size ws.toArray.size:=hacc; omega) fun p hp=>⟨hT p hp,by rw [upd_ne (fun z=>hSl (by rw [← z]; exact Pj.mpr ⟨p,hp,rfl⟩)),B6 nd hp]⟩⟩
end L2
namespace VL
open PySem L2
section
open Classical
noncomputable section
variable [bE] {K:OA}
theorem BE {ta tb:TE} {a b:DE} (ha:af K ta a) (hb:af K tb b):bx K (Jm K (cz ta (cz tb fN))) (uN a b):=fun {B Z os ρ σ H Q ds} f q k=>by
 unfold uN at q
 cases ea:d7 a ρ with
 | none=>rw [ea] at q; cases q
 | some xs =>
  cases eb:d7 b ρ with
  | none=>rw [ea,eb] at q; cases q
  | some ys =>
   rw [ea,eb] at q
   cases q
   obtain ⟨da,ea,eda⟩:=dh ea
   obtain ⟨db,eb,edb⟩:=dh eb
   refine ha f ea fun v H1 s1 i1=>hb (f.grow s1) eb fun u H2 s2 i2=>?_
   obtain ⟨p1,vs,rfl,hl1,hn1,hr1⟩:=i1.seq eda
   obtain ⟨p2,us,rfl,hl2,hn2,hr2⟩:=i2.seq edb
   have s12:=s1.trans s2
   have f2:=f.grow s12
   obtain ⟨g1,r1⟩:=hr1 H2 _ (Kp.same s2)
   obtain ⟨g2,r2⟩:=hr2 H2 _ Kp.refl
   refine ⟨p1,p2,vs,us,rfl,g1,g2,fun S l H' s3 hS hS' e2 hl hT=>?_⟩
   refine k S _ H' (s12.trans s3) (aW.free s12 hS) hS' ‹41› ?_
   have main:∀ {vs us:List V} {xs ys:List D} {l:List (OF×List V)},IsL K H2 (bR Z os) vs xs→IsL K H2 (bR Z os) us ys→l.map Xp=Rv (fun x y=>[x,y]) vs us→(∀ p∈l,H2 p.1=none∧H' p.1=some (.tup p.2))→IsL K H' (fun a=>a=S∨bR Z os a) (l.map fun p=>V.ref p.1) (Ec xs ys):=by
    intro vs us xs ys l
    induction l generalizing vs us xs ys with
    | nil =>
     intro r1 r2 e _
     cases r1 with
     | nil=>exact .nil
     | cons h r =>
      cases r2 with
      | nil=>exact .nil
      | cons h2 r2=>cases e
    | cons p l ih =>
     intro r1 r2 e hT
     cases r1 with
     | nil=>cases e
     | @cons v d vs xs h r =>
      cases r2 with
      | nil=>cases e
      | @cons u d2 us ys h2 r2 =>
       have e':p.2::l.map Xp=[v,u]::Rv (fun x y=>[x,y]) vs us:=e
       obtain ⟨e4,e5⟩:=List.cons.inj e'
       obtain ⟨t1,t2⟩:=hT p ON
       rw [e4] at t2
       have kp:Kp (bR Z os) H2 (fun a=>a=S∨bR Z os a) H':=fun a o e z=>⟨s3 _ _ e,fun w=>w.elim (fun w=>by rw [w,hS] at e; cases e) z⟩
       refine .cons (.tup ?_ t2 (by show 2≤OE; decide) (.cons (h.kp kp) (.one (h2.kp kp)))) (ih r r2 e5 fun q hq=>hT q (OI _ hq))
       rintro (z | z)
       ·rw [z,hS'] at t2; cases t2
       ·exact f2.out t1 z
   exact main r1 r2 e2 hT
end
end
section
open Classical
noncomputable section
variable [bE] {K:OA}
def HC:List D→Option (List Int)
 | []=>some []
 | .int n::r=>(HC r).map (n::·)
 | _=>none
omit [bE] in
theorem Bl:∀ ns:List Int,HC (ns.map D.int)=some ns
 | []=>rfl
 | n::r=>by show (HC (r.map D.int)).map (n::·)=_; rw [Bl r]; rfl
omit [bE] in
theorem xV:∀ {ds:List D} {ns:List Int},HC ds=some ns→ds=ns.map D.int
 | [],_,h=>by cases h; rfl
 | .int n::r,ns,h=>by
  have h:(HC r).map (n::·)=some ns:=h
  cases e:HC r with
  | none=>rw [e] at h; cases h
  | some ms=>rw [e] at h; cases h; rw [xV e]; rfl
def jt (ns:List Int) (kvs:List (Int×Int)):List (Int×Int):=ns.foldl (fun m n=>nh m n n) kvs
omit [bE] in
theorem pM:∀ (ns:List Int) (kvs:List (Int×Int)),(jt ns kvs).length≤kvs.length+ns.length
 | [],kvs=>OT _
 | n::r,kvs=>by
  have h1:=pM r (nh kvs n n)
  have h2:=yj kvs n n
  show (jt r (nh kvs n n)).length≤_
  rw [OW]; omega
@[irreducible] noncomputable def oz (i j k:Nat):DS:=fun ρ=>match ρ.getD i .un with
 | .ol ds=>(match ρ.getD j .un with
  | .od kvs=>(match HC ds with
   | some ns=>if k < ρ.length∧i≠j∧i≠k∧j≠k∧kvs.length+ns.length<OE then .nx ((ρ.set j (.od (jt ns kvs))).set k .un) else .no
   | none=>.no)
  | _=>.no)
 | _=>.no
omit [bE] in
theorem CG {i j k:Nat} {ρ:aK} {W:Wk} {ns:List Int} {kvs:List (Int×Int)} (h0:ρ.getD i .un=.ol (ns.map D.int)) (h1:ρ.getD j .un=.od kvs) (hc:k < ρ.length∧i≠j∧i≠k∧j≠k∧kvs.length+ns.length<OE) (q:W.nx ((ρ.set j (.od (jt ns kvs))).set k .un)):Wp (oz i j k) ρ W:=by
 unfold Wp oz
 rw [h0]
 show 20
 rw [h1]
 show 20
 rw [Bl]
 show 20
 rw [if_pos hc]
 exact q
theorem CV {fr:Fm} {i j k:Nat}:di fr K (EU (vq K (iJ i)) (ky k) (Fq (iJ j) (iJ k) (iJ k))) (oz i j k):=fun {B Z os ρ σ H E} f p=>by
 unfold oz at p
 split at p
 case h_2=>exact p.elim
 case h_1 ds e =>
  split at p
  case h_2=>exact p.elim
  case h_1 kvs e2 =>
   split at p
   case h_2=>exact p.elim
   case h_1 ns e3 =>
    split at p
    case isFalse=>exact p.elim
    case isTrue hc =>
     obtain ⟨hk,hij,hik,hjk,hsm⟩:=hc
     have hds:=xV e3
     subst hds
     obtain ⟨a,vs,hu,hH,hl,r⟩:=BY f e
     have hvs:=r.ints
     subst hvs
     have s:=f.sl j
     rw [e2] at s
     obtain ⟨x,eo,hux,hHx,hlx⟩:=s
     have hj:=eC e2 ‹50›
     have kl:k < σ.length:=by rw [f.len]; exact hk
     have hax:a≠x:=fun z=>by rw [z,hHx] at hH; cases hH
     refine ⟨_,join_some hu,a,rfl,⟨_,dw.of hH⟩,fun t m σ' H'=>m=ns.length-t∧t≤ns.length∧(∀ b,H' b=if b=x then some (.dK ((jt (ns.take t) kvs).map lI)) else H b)∧Ag [k,k] σ σ',⟨ns.length,by omega,by omega,fun b=>?_,Ag.refl⟩,?_⟩
     ·split
      ·rename_i z; rw [z,hHx]; rfl
      ·rfl
     rintro t m σ1 H1 ⟨rfl,ht,h1,ag⟩
     have hH1:H1 a=some (.lst ‹49›):=by rw [h1,if_neg hax]; exact hH
     by_cases htl:t<ns.length
     ·right
      refine ⟨⟨ns.map V.int,.int ns[t],dw.of hH1,by rw [OH,Ow htl]; rfl⟩,fun σ' H'=>(∀ b,H' b=if b=x then some (.dK ((jt (ns.take (t+1)) kvs).map lI)) else H b)∧Ag [k,k] σ σ',fun σ' H' h=>⟨ns.length-(t+1),by omega,rfl,by omega,h.1,h.2⟩,?_⟩
      rintro y H' ⟨rfl,hx⟩
      have hx:=hx _ (dw.of hH1)
      rw [OH,Ow htl] at hx
      cases hx
      have ag2:=ag.set (v:=some (V.int ns[t])) (i:=k) (by simp)
      have hHx1:H' x=some (.dK ((jt (ns.take t) kvs).map lI)):=by rw [h1,if_pos rfl]
      have sk:(σ1.set k (some (V.int ns[t])))[k]?=some (some (V.int ns[t])):=Qr (by rw [ag.1]; exact kl)
      have sj:(σ1.set k (some (V.int ns[t])))[j]?=some (some (V.ref x)):=by
       rw [ag2.2 j (by simp [hjk])]
       exact join_some hux
      have hlen:=pM (ns.take t) kvs
      have M3:(ns.take t).length≤ns.length:=by rw [U9]; omega
      refine ⟨_,sk,_,sj,_,sk,x,_,rfl,.inl ⟨_,.inl ns[t],hHx1,rfl,by rw [Oy]; omega,rfl⟩,fun b=>?_,ag2⟩
      have tk:jt (ns.take (t+1)) kvs=nh (jt (ns.take t) kvs) ns[t] ns[t]:=by
       unfold jt
       rw [QN,Ow htl,Tu]
       rfl
      rw [tk,← BM]
      by_cases hb:b=x
      ·subst hb; rw [aF,if_pos rfl]
      ·rw [upd_ne hb,h1,if_neg hb,if_neg hb]
     ·left
      refine ⟨⟨_,dw.of hH1,by rw [Oy]; omega⟩,?_⟩
      have ht':t=ns.length:=by omega
      subst ht'
      rw [Qd] at h1
      have hx:x∈os j:=by rw [eo]; exact OB.mpr rfl
      have st:=f.step (H':=H1) (i:=j) hj (o:=[x]) (s:=.od (jt ns kvs)) (v:=some (.ref x)) (fun b u e n=>by rw [h1,if_neg (fun z=>n (by rw [z]; exact hx))]; exact e) (fun b hb=>by rw [eo] at hb; rw [OB.mp hb]; exact ⟨_,by rw [h1,if_pos rfl]⟩) (by simp) (fun b hb=>by rw [OB.mp hb]; exact .inl hx)
       ⟨x,rfl,rfl,by rw [h1,if_pos rfl],by have:=pM ns kvs; omega⟩
      rw [eK hux] at st
      obtain ⟨f2,k2⟩:=st.1.forget (r:=k) (by rw [PH]; exact hk) (σ1[k]?).join
      have e5:σ1=σ.set k (σ1[k]?).join:=by
       have:=ag.two
       rw [Xn] at this
       exact this
      rw [← e5] at f2
      exact p _ _ _ f2 (st.2.trans k2)
end
end
end VL
namespace L2
open PySem PySem.Spec PyProof.Rows VL
structure Oq (K:OA) (C:OF):Prop where
 makes:XR K C=true
 init:QX K (.ref C) "__init__" = some (some (.builtin "object.__init__"))
 kp:Sr K (.ref C)=true
section
variable {X:Cx}
inductive LG (X:Cx) (m:P2):List (OF×Sp)→Prop
 | nil:LG X m []
 | cons {C f:OF} {fd:PN} {ps:List P2} {sp:Sp} {k:Nat} {tbl:List (OF×Sp)} (c:MR X.K C) (hm:Meth X.K C m f) (F:dv X.prog X.w X.K X.mg X.base jq k f fd ps sp) (hr:fO k X.A) (hb:Binds X.K fd ps []) (r:LG X m tbl):LG X m ((C,sp)::tbl)
structure NJ (K:OA) (C:OF):Prop where
 cl:MR K C
 ha:QX K (.ref C) "__class__" = some (some ‹42›)
 hn:Th K ‹42› "__get__" = some (some (.builtin "getset_descriptor.__get__"))
 M3:VB K ‹42›=some true
 hm:UY K C (.type "object")=some true
end
end L2
namespace VL
open PySem L2
section
open Classical
noncomputable section
variable [bE] {K:OA} {ta tb:TE} {a b:DE}
inductive KTab (K:OA) (c:OF):List (OF×Bool)→Prop
 | nil:KTab K c []
 | cons {C:OF} {b:Bool} {r:List (OF×Bool)} (k:NJ K C) (e:Ss K (.ref C) (.ref c)=some b) (h:KTab K c r):KTab K c ((C,b)::r)
end
end
end VL
namespace PySem.SeqAt
open AutoSeq1 (wpAny_loadPart')
section
open MeetsSeq MeetsSeq2 MeetsSeq3
def xJ (A:P8) (s:OG) (y x:OD) (b:Bool):Prop :=
 ∀ (prog:PL) (w:PR) (E:OD→OG→Prop) (Q:OD→OG→Prop),Q (.bool b) s→OX ‹13› A (richCompare .LtE y x) Q E s
theorem Du (l b:OF) (items items2:Array OD) (n n2:Nat) (dd dd2:Option OF) (sl sl2:Array (Option OD)) (e lt:Nat→Bool) (k:Nat) :
 ∀ i:Nat,i≤min items.size items2.size→min items.size items2.size-i=k→Meets (QP.«list.__eq__.loop» ⟨[.ref l,.ref b,QU i,QU 1],[]⟩)
  (fun A R s=>s.heap.get? l=some { cls:=.type "list", dict:=dd,data:=.seq items n,slots:=sl }∧s.heap.get? b=some { cls:=.type "list", dict:=dd2,data:=.seq items2 n2,slots:=sl2 } ∧
   (∀ j (h1:j<items.size) (h2:j<items2.size),EqAt A.in1 s items[j] items2[j] (e j))∧(∀ j (h1:j<items.size) (h2:j<items2.size),e j=false→xJ A.in1 s items[j] items2[j] (lt j)) ∧
   R (.ok (.ret (.bool (gH e lt (decide (items.size≤items2.size)) k i)))) s):=by
 induction k with
 | zero =>
  intro i hi hk prog w A R s h
  show 8
  show 18
  by_cases hc:items.size≤i
  ·have hi1:items[((i:Nat):Int).toNat]?=none:=by simp; omega
   rw [hi1]
   show 18
   exact h
  ·have hi2:items2[((i:Nat):Int).toNat]?=none:=by simp; omega
   have hi1:items[((i:Nat):Int).toNat]?=some (items[i]'‹5›):=by simp
   rw [hi1,hi2]
   show 18
   exact h
 | succ k ih =>
  intro i hi hk prog w A R s h
  show 8
  show 18
  have hlt1:i<items.size:=by omega
  have hlt2:i<items2.size:=by omega
  have hi1:items[((i:Nat):Int).toNat]?=some items[i]:=by simp [hlt1]
  have hi2:items2[((i:Nat):Int).toNat]?=some items2[i]:=by simp [hlt2]
  have hc:((i:Int)+1)=((i+1:Nat):Int):=by push_cast; rfl
  unfold gH at h
  rw [hi1,hi2]
  refine Oz (he i hlt1 hlt2 prog w _ _ ?_)
  cases hb':e i with
  | true =>
   rw [hb',if_pos rfl] at h
   wp_walk
   rw [hc]
   exact ⟨QL plain_eq_loop _,Qk entry_eq_loop (by
    rw [PX plain_eq_loop _]
    exact ih (i+1) ‹5› ‹5› prog w A R _ ⟨hl,hb,he,hlt,h⟩)⟩
  | false =>
   rw [hb',if_neg O2] at h
   show 18
   rw [hi1,hi2]
   show 20
   refine Oz (hlt i hlt1 hlt2 hb' prog w _ _ ?_)
   wp_walk
   exact h
theorem Dt (l b:OF) (items items2:Array OD) (n n2:Nat) (dd dd2:Option OF) (sl sl2:Array (Option OD)) (e lt:Nat→Bool) :
 Meets (QP.«list.__le__» ⟨[.ref l,.ref b],[]⟩)
  (fun A R s=>s.heap.get? l=some { cls:=.type "list", dict:=dd,data:=.seq items n,slots:=sl }∧s.heap.get? b=some { cls:=.type "list", dict:=dd2,data:=.seq items2 n2,slots:=sl2 } ∧
   (∀ j (h1:j<items.size) (h2:j<items2.size),EqAt A.in1 s items[j] items2[j] (e j))∧(∀ j (h1:j<items.size) (h2:j<items2.size),e j=false→xJ A.in1 s items[j] items2[j] (lt j)) ∧
   R (.ok (.ret (.bool ‹35›))) s):=by
 intro prog w A R s h
 show 8
 have f3:=Vr
 show 18
 exact ⟨QL plain_eq_loop _,Qk entry_eq_loop (by
  rw [PX plain_eq_loop _]
  exact Du l b items items2 n n2 dd dd2 sl sl2 e lt _ 0 (PV _) rfl prog w A R _ ⟨hl,hb,he,hlt,h⟩)⟩
section
variable {A:P8} {s:OG}
theorem xJ.lists {l b:OF} {items items2:Array OD} {e lt:Nat→Bool} (hl:s.heap.IsList l items) (hb:s.heap.IsList b items2) (hu:A.units<Tw)
 (he:∀ j (h1:j<items.size) (h2:j<items2.size),EqAt A.in1 s items[j] items2[j] (e j)) (hlt:∀ j (h1:j<items.size) (h2:j<items2.size),e j=false→xJ A.in1 s items[j] items2[j] (lt j)):xJ A s (.ref l) (.ref b) ‹35›:=fun prog w E Q h=>by
 obtain ⟨⟨cls,dd,data,sl⟩,ho,hc,n,hd⟩:=id hl
 obtain ⟨⟨cls2,dd2,data2,sl2⟩,ho2,hc2,n2,hd2⟩:=id hb
 simp only at hc hd hc2 hd2
 subst hc hd hc2 hd2
 exact richCompare_meets_room (op:=.LtE) ⟨_,ho,rfl⟩ ⟨_,ho2,rfl⟩ F.slot_list_le F.entry_list_le (F.args_list_le_2 _ _) (Dt l b items items2 n n2 dd dd2 sl sl2 e lt)
  ⟨ho,ho2,he,hlt,show WL ‹35›≠Value.notImplemented∧Q (.bool ‹35›) s from ⟨(fun x=>nomatch x),h⟩⟩ hu
theorem xJ.ints (a b:Int) (t u:Yq):xJ A s (.int a t) (.int b u) (decide (a≤b)):=fun prog w E Q h=>PyProof.Rows.le_int h
end
end
end PySem.SeqAt
namespace VL
open PySem L2
section
open Classical
noncomputable section
variable [bE] {K:OA} {ta tb:TE} {a b:DE}
def lexLe:List Int→List Int→Bool
 | [],_=>true
 | _::_,[]=>false
 | x::xs,y::ys=>if x=y then lexLe xs ys else decide (x≤y)
omit [bE] in
theorem FY {ns ms:List Int} (hl:ns.length=ms.length):∀ (k i:Nat),i+k=ns.length→SeqAt.gH (fun j=>ns.getD j 0==ms.getD j 0) (fun j=>decide (ns.getD j 0≤ms.getD j 0)) true k i=lexLe (ns.drop i) (ms.drop i):=by
 intro k
 induction k with
 | zero =>
  intro i h
  rw [R9 (show ns.length≤i by omega)]
  rfl
 | succ k ih =>
  intro i h
  have h1:i<ns.length:=by omega
  have h2:i<ms.length:=by omega
  have e1:ns.getD i 0=ns[i]:=by rw [Ox,Ow h1]; rfl
  have e2:ms.getD i 0=ms[i]:=by rw [Ox,Ow h2]; rfl
  rw [Pg h1,Pg h2]
  unfold SeqAt.gH lexLe
  rw [ih (i+1) ‹5›,e1,e2]
  by_cases c:ns[i]=ms[i]
  ·rw [if_pos (beq_iff_eq.mpr c),if_pos c]
  ·rw [if_neg (fun z=>c (beq_iff_eq.mp z)),if_neg c]
end
end
end VL
namespace L2
open PySem PySem.Spec PyProof.Rows VL
def Mf:R2:=fun x y H Q=>∃ p q ns ms,x=.ref p∧y=.ref q∧Rd H p (.lst ‹49›)∧Rd H q (.lst (ms.map V.int))∧ns.length=ms.length∧Q (.bl (lexLe ns ms)) H
theorem Kx {X:Cx} (hu:X.A.units+64<Tw):rT X (Rz .LtE) Mf:=by
 show 4
 obtain ⟨p,q,ns,ms,rfl,rfl,h1,h2,hl,h⟩:=h
 cases rx
 cases ry
 obtain ⟨_,us,m1,k1,n1,o1⟩:=I.rj h1
 obtain ⟨_,ws,m2,k2,n2,o2⟩:=I.rj h2
 rw [Oy] at n1 n2
 have it:∀ {ns:List Int} {us:List OD},Vals ‹49› us→∀ j (h:j<us.toArray.size),∃ t,us.toArray[j]=.int (ns.getD j 0) t:=fun {ns us} k j h=>by
  have hj:j<ns.length:=by have:=k.length; rw [Oy] at this; rw [OM] at h; omega
  obtain ⟨u,q1,t,e⟩:=k.get (show ‹49›[j]?=some (.int (ns.getD j 0)) by rw [OH,Ox,Ow hj]; rfl)
  refine ⟨t,?_⟩
  rw [← e]
  rw [OM] at h
  rw [Ow h] at q1
  simpa using q1
 have L:=SeqAt.xJ.lists (A:=X.A) (s:=s) (l:=p) (b:=q) (items:=us.toArray) (items2:=ws.toArray) (e:=fun j=>ns.getD j 0==ms.getD j 0) (lt:=fun j=>decide (ns.getD j 0≤ms.getD j 0)) ⟨_,o1,rfl,_,rfl⟩ ⟨_,o2,rfl,_,rfl⟩ ‹5› (fun j a b=>by
  obtain ⟨t1,e1⟩:=it k1 j a
  obtain ⟨t2,e2⟩:=it k2 j b
  rw [e1,e2]
  exact UA _ _ _ _) fun j a b _=>by
  obtain ⟨t1,e1⟩:=it k1 j a
  obtain ⟨t2,e2⟩:=it k2 j b
  rw [e1,e2]
  exact SeqAt.xJ.ints _ _ _ _
 have e1:us.toArray.size=ns.length:=by rw [OM]; omega
 have e2:ws.toArray.size=ms.length:=by rw [OM]; omega
 rw [e1,e2,← hl,Xb,decide_eq_true (OT _),FY hl ns.length 0 ‹5›] at L
 exact L X.prog X.w X.xe _ ⟨.bl _,H,I,rfl,h⟩
end L2
namespace VL
open PySem L2
section
open Classical
noncomputable section
variable [bE] {K:OA} {ta tb:TE} {a b:DE}
noncomputable def GR (a b:DE):DE:=fun ρ=>match a ρ with
 | some (.lst xs)=>(match b ρ with
  | some (.lst ys)=>(match fU xs with
   | some ns=>(match fU ys with
    | some ms=>if ns.length=ms.length then some (.bl (lexLe ns ms)) else none
    | none=>none)
   | none=>none)
  | _=>none)
 | _=>none
theorem Ld {ρ:aK} {ns ms:List Int} (ha:a ρ=some (.lst (ns.map D.int))) (hb:b ρ=some (.lst (ms.map D.int))) (h:ns.length=ms.length):GR a b ρ=some (.bl (lexLe ns ms)):=by
 unfold GR
 rw [ha,hb]
 show 20
 rw [iD,iD]
 exact if_pos h
theorem Kb (ha:bp K ta a) (hb:bp K tb b):af K (qF Mf ta tb) (GR a b):=fun {B Z os ρ σ H Q d} f q k=>by
  unfold GR at q
  split at q
  · rename_i xs e1
    split at q
    · rename_i ys e2
      split at q
      · rename_i ns e3
        split at q
        · rename_i ms e4
          split at q
          · rename_i hl
            cases q
            show 3
            obtain ⟨p,vs,rfl,_,h1,l1,g1⟩:=(i1.kp (Kp.same s2)).mN
            obtain ⟨q,ws,rfl,_,h2,l2,g2⟩:=i2.mN
            have x1:=gx e3
            have x2:=gx e4
            subst x1
            subst x2
            have y1:=IsL.ints g1
            have y2:=IsL.ints g2
            subst y1
            subst y2
            exact ⟨p,q,ns,ms,rfl,rfl,h1,h2,hl,k _ _ (s1.trans s2) (.bl _)⟩
          · cases q
        · cases q
      · cases q
    · cases q
  · cases q
end
end
end VL
namespace L2
open PySem PySem.Spec PyProof.Rows VL
theorem Ce:∀ (vs:List OD) (ns:List Int),vs.length=ns.length→(∀ (j:Nat) (v:OD),vs[j]?=some v→∃ t,v=.int (ns.getD j 0) t)→RJ vs ns
 | [],[],_,_=>.nil
 | v::vs,n::ns,h,hv=>by
  obtain ⟨t,e⟩:=hv 0 v rfl
  have e:v=.int n t:=e
  rw [e]
  exact .cons n t (Ce vs ns (by simpa using h) fun j u hu=>hv (j+1) u hu)
 | [],_::_,h,_=>by cases h
 | _::_,[],h,_=>by cases h
variable {prog:PL} {A:P8} {E:OD→OG→Prop} {d:OF}
theorem xx {w:PR} {s:OG} {n:Nat} {T:String} {Pk:Nat→OD→Prop} {OK:Qb→Prop} (src:PySem.W.KdlSrc prog w T d d n Pk OK) (hh:A.handled=none) (ck:OK s.heap) (hn:n≤OE) {R:List OD→OG→Prop}
 (h:∀ (g:Qb) (tk:Nat) (acc:Array OD),ItemsOf Pk acc n→(∀ b o,s.heap.get? b=some o→g.get? b=some o)→‹1›<g.objs.size→R acc.toList { s with heap:=g,toks:=tk }):OX ‹13› A (collect (.ref d)) R E s:=by
 have hd:=(src.there _ ck).1
 unfold collect
 refine Oz (Wc (Qk Wf ?_))
 rw [PX Uk _]
 show OX _ A.in1 (newList [] >>= fun v=>again (.builtin "list.__iadd__" ⟨[v,.ref d],[]⟩)) _ _ _
 refine Oz (Qy ?_)
 refine OL ⟨QL RY _,Qk entry_list_iadd' ?_⟩
 rw [PX RY _]
 have hL:‹45›.get? ‹1›=some (Pp "list" #[] 0):=OU _ rfl
 show OX _ A.in1 (Qa (.ref ‹1›) (.ref d) (.ref ‹1›)) _ _ { s with heap:=s.heap.push (Pp "list" #[] 0) }
 have run:=PySem.W.kdl_extend (A:=A) (s:={ s with heap:=s.heap.push (Pp "list" #[] 0) }) (R:=fun (q:VY) (u:OG)=>∃ (g:Qb) (tk:Nat) (acc:Array OD) (c:Nat),q=.ok (.ret (.ref ‹1›))∧u={ s with heap:=g,toks:=tk }∧ItemsOf Pk acc n∧g.get? ‹1›=some (Pp "list" acc c)∧∀ b o,s.heap.get? b=some o→g.get? b=some o)
  src hh (src.keep _ _ ck fun b _ o e=>OC _ e) ‹1› (QW hd) (QW hd) (.ref ‹1›) 0 hL
  (fun g tk acc c kp hg ha=>⟨g,tk,acc,c,rfl,rfl,ha,hg,fun b o e=>kp b o (OS (OO e)) (OC _ e)⟩) hn
 refine Qw run (fun fin u x=>?_) fun e u x=>?_
 ·cases fin with
  | done f =>
   obtain ⟨g,tk,acc,c,e,rfl,ha,hg,kp⟩:=x
   cases e
   refine Oz (WY hg ?_)
   exact OL (h g tk _ ha kp (OO hg))
  | again c1 =>
   refine ⟨x.1,R7 x.2 fun q u2 y=>?_⟩
   obtain ⟨g,tk,acc,c,rfl,rfl,ha,hg,kp⟩:=y
   refine Oz (WY hg ?_)
   exact OL (h g tk _ ha kp (OO hg))
 ·obtain ⟨_,_,_,_,e',_⟩:=x
  cases e'
theorem x6 {w:PR} {s:OG} {ep:Nat} {kvs:List (Key×OD)} (hh:A.handled=none) (hat:s.heap.DictAt (cY prog w) d kvs ep) (lo:(d==Rl)=false) {ns:List Int} (hn:kvs.length=ns.length) (hk:∀ (i:Nat) (p:Key×OD),kvs[i]?=some p→p.1=.inl (ns.getD i 0)) (hl:ns.length<64) {Q:OD→OG→Prop}
 (h:∀ (g:Qb) (tk:Nat) (D:OF) (out:List OD) (ms:List Int) (c:Nat),RJ out ms→ms.Perm ns→ms.Pairwise (·≤·)→‹1›≤D→g.get? D=some (Pp "list" out.toArray c)→(∀ b o,s.heap.get? b=some o→g.get? b=some o)→Q (.ref D) { s with heap:=g,toks:=tk }):OX ‹13› A (call (.builtin "sorted") [.ref d]) Q E s:=by
 show 11
 refine SK V7 Vp Vq (Xd _) ?_
 unfold QP.«sorted»
 refine Oz (m:=WU "sorted" 1 1 _) (OL ?_)
 refine Oz (xx (A:=A.in1) (PySem.W.kdl_dict (kvs:=kvs) (ep:=ep) lo) hh hat ‹5› fun g tk acc ha kp big=>?_)
 have hi:RJ acc.toList ns:=by
  refine Ce _ _ (by rw [Pr,ha.1,hn]) fun j v hv=>?_
  obtain ⟨k,x,e1,e2⟩:=ha.2 j v (by rw [← RD]; exact hv)
  have ek:=hk j _ e1
  have ek:k=.inl (ns.getD j 0):=ek
  rw [ek] at e2
  have e2:qP (.inl (ns.getD j 0)) v=true:=e2
  rcases cJ e2 with ⟨n,t,z1,rfl⟩ | ⟨x,t,z1,_⟩
  ·cases z1; exact ⟨t,rfl⟩
  ·cases z1
 refine Oz (SX ?_ (by rw [Pr,ha.1]; omega))
 have hD:(g.push (Pp "list" acc.toList.toArray 0)).get? g.objs.size=some (Pp "list" acc.toList.toArray 0):=OU _ rfl
 show OX _ _ _ _ _ { s with heap:=g.push (Pp "list" acc.toList.toArray 0),toks:=tk }
 have hal:acc.toList.length=ns.length:=by rw [Pr,ha.1,hn]
 refine Oz (PQ (Qp UB ⟨_,hD,rfl⟩ Ub (list_sort_tree hD hi ‹5› fun out ms a1 a2 a3=>⟨_,rfl,?_⟩) (V8 _)))
 obtain ⟨c,hc⟩:=sortedHeap_at (out:=out) hD
 exact OL ⟨_,rfl,h _ tk g.objs.size out.toList ms c a1 a2 a3 (QO big) (by rw [Wg]; exact hc) fun b o e=>(sortedHeap_old (OS (OO (kp b o e))) (by rw [Sy]; exact Ph (OO (kp b o e)))).trans (OC _ (kp b o e))⟩
def Fy:List V→Hp→VK→Prop:=fun xs H Q=>∃ (a:OF) (kvs:List (Int×Int)),xs=[.ref a]∧Rd H a (.dK (kvs.map lI))∧kvs.length<64∧∀ ms:List Int,ms.Perm (kvs.map fun p=>p.1)→ms.Pairwise (·≤·)→∀ D,H D=none→Q (.ref D) (upd H D (.lst (ms.map V.int)))
theorem A2 {X:Cx} (hc:X.calm=true):dG X (.builtin "sorted") Fy:=by
 show 5
 obtain ⟨a,kvs,rfl,hr,hl,q⟩:=h
 cases r with
 | cons r1 r =>
  cases r
  cases (show _=Pf a from r1)
  obtain ⟨vs,ep,hv,hat,lo⟩:∃ vs ep,KV (kvs.map lI) vs∧s.heap.DictAt (cY X.prog X.w) a vs ep∧(a==Rl)=false:=by
   rcases hr with hr | ⟨o,hr⟩
   ·obtain ⟨hz,lo,vs,r,o,es,ep,e1,c1,c2,c3⟩:=I.ck a _ hr
    exact ⟨vs,ep,r,⟨o,es,e1,c1,c2,c3⟩,lo⟩
   ·obtain ⟨e,_,lo,vs,r,o',es',ep',e1,c1,c2,c3⟩:=I.ck a _ hr
    exact ⟨vs,ep',r,⟨o',es',e1,c1,c2,c3⟩,lo⟩
  have hvl:vs.length=kvs.length:=by rw [← QB hv,Oy]
  refine x6 (ns:=kvs.map fun p=>p.1) (I.ok.hd hc) hat lo (by rw [Oy]; exact hvl) (fun i p hp=>?_) ‹41› fun g tk D out ms c i1 pm up big hD kp=>?_
  ·have hi:i<kvs.length:=by rw [← hvl]; exact (OR.mp hp).1
   have:∀ {l:List (Key×V)} {m:List (Key×OD)} {i:Nat} {x:Key×V} {y:Key×OD},KV l m→l[i]?=some x→m[i]?=some y→x.1=y.1:=by
    intro l m i x y r
    induction r generalizing i with
    | nil=>intro e; simp at e
    | cons h _ ih =>
     intro e1 e2
     cases i with
     | zero=>cases e1; cases e2; exact h.1
     | succ i=>exact ih (by simpa using e1) (by simpa using e2)
   have e:=this hv (x:=lI kvs[i]) (by rw [OH,Ow hi]; rfl) hp
   rw [← e,Ox,OH,Ow hi]
   rfl
  ·have I3:=I.laid (a:=D) (o:=.lst (ms.map V.int)) (t':=tk) kp big ⟨by rw [Oy,pm.length_eq,Oy]; have:=Po; omega,out,c,js i1,hD⟩
   exact ⟨.ref D,upd H D (.lst (ms.map V.int)),I3,rfl,q ms pm up D (I.ck.fresh big)⟩
end L2
namespace VL
variable {a:DE}
open PySem L2
section
open Classical
noncomputable section
variable [bE] {K:OA}
noncomputable def y4 (a:DE):aK→Option (List D):=fun ρ=>match a ρ with
 | some (.dct kvs)=>if kvs.length<64 then some ((zY (kvs.map fun p=>p.1)).map D.int) else none
 | _=>none
theorem GK {ρ:aK} {kvs:List (Int×Int)} (h:a ρ=some (.dct kvs)) (hl:kvs.length<64):y4 a ρ=some ((zY (kvs.map fun p=>p.1)).map D.int):=by unfold y4; rw [h]; exact if_pos hl
theorem HV {ta:TE} (ha:bp K ta a):bx K (xX Fy (cz ta fN)) (y4 a):=fun {B Z os ρ σ H Q es} f q k=>by
 unfold y4 at q
 split at q
 ·rename_i kvs e0
  split at q
  ·rename_i hl
   cases q
   refine ha f e0 fun v H1 s1 i1=>?_
   cases i1 with
   | dct hz hr hl2 =>
    refine ⟨_,kvs,rfl,hr,hl,fun ms pm up D hD=>?_⟩
    rw [u5 pm up]
    have hs:OE=16777216:=Po
    exact k D _ _ (s1.trans (bL hD)) (aW.free s1 hD) aF (by rw [Oy,(lY _).length_eq,Oy]; omega) (.ofInts _)
  ·cases q
 ·cases q
end
end
end VL
set_option maxHeartbeats 4000000
namespace My
variable {n:Nat} {j:Nat} {d:D} {k:Nat} {α:Type} {T:List (List Int)} {m:Nat} {a:Int} {kvs:List (Nat×Nat)} {p:Nat} {edge:Nat→Nat→Prop} {place:Nat} {xs:List D} {ρ:aK} {r:List Int} {w0:Nat} {sl:Nat} {es:List Int} {hs:List Int} {h:Int} {E:Int} {N:Nat}
open PySem L2 VL
section
def top (i:Nat):RE:=PySem.Challenge.pw_leastfloor_k44_whole_windows_and_benches.main.body.getD i (.Pass ⟨0,0,0,0⟩)
noncomputable abbrev gR:RE:=top 4
noncomputable abbrev iN:RE:=top 6
noncomputable abbrev gQ:RE:=top 7
noncomputable abbrev lZ:RE:=top 8
noncomputable abbrev ou:RE:=top 13
noncomputable abbrev ft:RE:=top 14
noncomputable abbrev fA:RE:=top 15
noncomputable abbrev ma:RE:=top 16
noncomputable abbrev gM:RE:=top 17
noncomputable abbrev ot:RE:=top 18
noncomputable abbrev gO:RE:=top 19
noncomputable abbrev gP:RE:=top 20
noncomputable abbrev iL:RE:=top 21
noncomputable abbrev fv:RE:=top 22
noncomputable abbrev oy:RE:=top 28
noncomputable abbrev mh:RE:=top 29
noncomputable abbrev fX:RE:=top 31
noncomputable abbrev fu:RE:=top 32
noncomputable abbrev iM:RE:=top 33
noncomputable abbrev md:RE:=top 35
noncomputable abbrev iQ:RE:=top 36
noncomputable abbrev me:RE:=top 37
noncomputable abbrev mf:RE:=top 38
noncomputable abbrev iO:RE:=top 39
noncomputable abbrev jL:RE:=top 40
noncomputable abbrev ox:RE:=top 41
noncomputable abbrev iP:RE:=top 42
noncomputable abbrev BF:RE:=top 43
theorem uA:bq ["total", "parts"] ["total", "parts"] (aB gR):=⟨rfl,rfl,rfl,by decide +kernel,rfl,by decide +kernel,by decide +kernel⟩
theorem wG:bq ["hours", "benches"] ["hours", "benches"] (aB iN):=⟨rfl,rfl,rfl,by decide +kernel,rfl,by decide +kernel,by decide +kernel⟩
theorem uz:bq ["hours", "benches"] ["hours", "benches"] (aB gQ):=⟨rfl,rfl,rfl,by decide +kernel,rfl,by decide +kernel,by decide +kernel⟩
theorem cA:bq ["hours", "benches", "end", "least", "rows", "bench", "moment", "work", "wanted", "left", "stop"] ["hours", "benches", "end"] (aB lZ):=⟨rfl,rfl,rfl,by decide +kernel,rfl,by decide +kernel,by decide +kernel⟩
theorem ju:bq ‹34› ["works", "benches"] (aB ou):=⟨rfl,rfl,rfl,by decide +kernel,rfl,by decide +kernel,by decide +kernel⟩
theorem kn:bq ["works", "moments"] ["works"] (aB ft):=⟨rfl,rfl,rfl,by decide +kernel,rfl,by decide +kernel,by decide +kernel⟩
theorem eO:bq ["works", "benches", "stretches", "table", "sources", "place", "number"] ["works", "benches", "stretches", "table"] (aB fA):=⟨rfl,rfl,rfl,by decide +kernel,rfl,by decide +kernel,by decide +kernel⟩
theorem dX:bq ["works", "stretches", "table", "places", "sources", "place", "looked", "source", "near"] ["works", "stretches", "table"] (aB ma):=⟨rfl,rfl,rfl,by decide +kernel,rfl,by decide +kernel,by decide +kernel⟩
theorem mQ:bq ["works", "stretches", "table", "place", "many"] ["works", "stretches", "table", "place"] (aB gM):=⟨rfl,rfl,rfl,by decide +kernel,rfl,by decide +kernel,by decide +kernel⟩
theorem vb:bq ["sources", "place", "many", "places"] ["sources", "place", "many"] (aB ot):=⟨rfl,rfl,rfl,by decide +kernel,rfl,by decide +kernel,by decide +kernel⟩
theorem cF:bq ["works", "benches", "stretches", "table", "way", "gains", "losses", "amounts", "amount", "work", "number"] ‹34› (aB gO):=⟨rfl,rfl,rfl,by decide +kernel,rfl,by decide +kernel,by decide +kernel⟩
theorem uy:bq ["works", "table", "work"] ["works", "table", "work"] (aB gP):=⟨rfl,rfl,rfl,by decide +kernel,rfl,by decide +kernel,by decide +kernel⟩
theorem jK:bq ["works", "stretches", "table", "work", "number", "begin", "end"] ["works", "stretches", "table", "work", "number"] (aB iL):=⟨rfl,rfl,rfl,by decide +kernel,rfl,by decide +kernel,by decide +kernel⟩
theorem ko:bq ["benches", "stretches", "table", "number", "length"] ["benches", "stretches", "table", "number"] (aB fv):=⟨rfl,rfl,rfl,by decide +kernel,rfl,by decide +kernel,by decide +kernel⟩
theorem pN:bq ["rows", "fewest", "row"] ["rows"] (aB oy):=⟨rfl,rfl,rfl,by decide +kernel,rfl,by decide +kernel,by decide +kernel⟩
theorem Ac:bq ["row", "later"] ["row", "later"] (aB mh):=⟨rfl,rfl,rfl,by decide +kernel,rfl,by decide +kernel,by decide +kernel⟩
theorem cW:bq ["works", "benches", "told", "stretches", "table", "rows", "number", "stretch"] ["works", "benches"] (aB fX):=⟨rfl,rfl,rfl,by decide +kernel,rfl,by decide +kernel,by decide +kernel⟩
theorem gE:bq ["stretch", "hours", "benches", "begin", "length"] ["stretch", "hours", "benches"] (aB fu):=⟨rfl,rfl,rfl,by decide +kernel,rfl,by decide +kernel,by decide +kernel⟩
theorem et:bq ["works", "benches", "told", "stretches", "places", "many", "some"] ["works", "benches"] (aB iM):=⟨rfl,rfl,rfl,by decide +kernel,rfl,by decide +kernel,by decide +kernel⟩
theorem Ab:bq ["_law_found"] ["_law_found"] (aB md):=⟨rfl,rfl,rfl,by decide +kernel,rfl,by decide +kernel,by decide +kernel⟩
theorem wH:bq ["_law_script", "_law_k"] ["_law_script", "_law_k"] (aB iQ):=⟨rfl,rfl,rfl,by decide +kernel,rfl,by decide +kernel,by decide +kernel⟩
theorem su:bq ["_law_cell", "_law_k", "_law_number"] ["_law_cell", "_law_k"] (aB me):=⟨rfl,rfl,rfl,by decide +kernel,rfl,by decide +kernel,by decide +kernel⟩
theorem dJ:bq ["_law_script", "_law_cell", "_law_many", "_law_numbers", "_law_k", "_law_mode", "_law_hours_here", "_law_far"] ["_law_script"] (aB mf):=⟨rfl,rfl,rfl,by decide +kernel,rfl,by decide +kernel,by decide +kernel⟩
theorem cg:bq ‹52› ["_law_works", "_law_number", "_law_rows"] (aB iO):=⟨rfl,rfl,rfl,by decide +kernel,rfl,by decide +kernel,by decide +kernel⟩
theorem dY:bq ["_law_works", "_law_stretches", "_law_ends", "_law_work", "_law_stretch"] ["_law_works", "_law_stretches"] (aB jL):=⟨rfl,rfl,rfl,by decide +kernel,rfl,by decide +kernel,by decide +kernel⟩
theorem eX:bq ["_law_works", "_law_number", "_law_some", "_law_stretches", "_law_total", "_law_begin", "_law_end", "_law_inside", "_law_many"] ‹48› (aB ox):=⟨rfl,rfl,rfl,by decide +kernel,rfl,by decide +kernel,by decide +kernel⟩
theorem dI:bq ["_law_works", "_law_number", "_law_found", "_law_ahead", "_law_work", "_law_stretch"] ["_law_works", "_law_number", "_law_found"] (aB iP):=⟨rfl,rfl,rfl,by decide +kernel,rfl,by decide +kernel,by decide +kernel⟩
theorem jf:bq ["_law_script", "_law_hours_here", "_law_cell", "_law_number", "_law_least", "_law_found", "_law_end", "_law_works", "_law_rows", "_law_none"] ["_law_script"] (aB BF):=⟨rfl,rfl,rfl,by decide +kernel,rfl,by decide +kernel,by decide +kernel⟩
set_option genInjectivity false in
set_option genSizeOf false in
structure Nb where
 jX:OF
 j7:PN
 lD:OF
 lL:PN
 jW:OF
 j6:PN
 p8:OF
 qi:PN
 tx:OF
 tN:PN
 ik:OF
 iz:PN
 iw:OF
 iC:PN
 p9:OF
 qj:PN
 jT:OF
 j3:PN
 tw:OF
 tM:PN
 jU:OF
 j4:PN
 jV:OF
 j5:PN
 lB:OF
 lJ:PN
 ir:OF
 iB:PN
 tF:OF
 oU:PN
 qg:OF
 qo:PN
 jj:OF
 jk:PN
 iq:OF
 iA:PN
 lC:OF
 lK:PN
 qc:OF
 qk:PN
 lG:OF
 lO:PN
 qd:OF
 ql:PN
 qe:OF
 qm:PN
 lE:OF
 lM:PN
 nC:OF
 nJ:PN
 tE:OF
 tO:PN
 lF:OF
 lN:PN
 yT:OF
 vB:PN
 yG:OF
 yo:OF
structure Txt [bE] (K:OA) (mg:P2→Option OD) (a:Nb):Prop where
 dt:dS K "divided_up" "divided_up" gR a.jX a.j7
 xH:Binds K a.j7 ["total", "parts"] []
 xc:mg "divided_up" = some (.ref a.jX)
 cV:dS K "least_end" "least_end" iN a.lD a.lL
 qW:Binds K a.lL ["hours", "benches"] []
 qM:mg "least_end" = some (.ref a.lD)
 dq:dS K "even_share" "even_share" gQ a.jW a.j6
 xG:Binds K a.j6 ["hours", "benches"] []
 xb:mg "even_share" = some (.ref a.jW)
 fe:dS K "wrapped" "wrapped" lZ a.p8 a.qi
 D6:Binds K a.qi ["hours", "benches", "end"] []
 Dk:mg "wrapped" = some (.ref a.p8)
 cQ:dS K "shares" "shares" ou a.tx a.tN
 zk:Binds K a.tN ["works", "benches"] []
 yB:mg "shares" = some (.ref a.tx)
 cL:dS K "stretches_of" "stretches_of" ft a.ik a.iz
 t7:Binds K a.iz ["works"] []
 sU:mg "stretches_of" = some (.ref a.ik)
 bB:dS K "shortest_way" "shortest_way" fA a.iw a.iC
 lU:Binds K a.iC ["works", "benches", "stretches", "table"] []
 lp:mg "shortest_way" = some (.ref a.iw)
 dB:dS K "reached" "reached" ma a.p9 a.qj
 vK:Binds K a.qj ["works", "stretches", "table"] []
 vn:mg "reached" = some (.ref a.p9)
 dk:dS K "neighbours" "neighbours" gM a.jT a.j3
 xE:Binds K a.j3 ["works", "stretches", "table", "place"] []
 w6:mg "neighbours" = some (.ref a.jT)
 gy:dS K "way_to" "way_to" ot a.tw a.tM
 G7:Binds K a.tM ["sources", "place", "many"] []
 FU:mg "way_to" = some (.ref a.tw)
 dm:dS K "move_hours" "move_hours" gO a.jU a.j4
 xF:Binds K a.j4 ‹34› []
 xa:mg "move_hours" = some (.ref a.jU)
 bz:dS K "hours_left" "hours_left" gP a.jV a.j5
 ke:Binds K a.j5 ["works", "table", "work"] []
 jR:mg "hours_left" = some (.ref a.jV)
 cU:dS K "work_room" "work_room" iL a.lB a.lJ
 qV:Binds K a.lJ ["works", "stretches", "table", "work", "number"] []
 qL:mg "work_room" = some (.ref a.lB)
 bA:dS K "stretch_room" "stretch_room" fv a.ir a.iB
 lT:Binds K a.iB ["benches", "stretches", "table", "number"] []
 lh:mg "stretch_room" = some (.ref a.ir)
 fI:dS K "joined" "joined" oy a.tF a.oU
 G9:Binds K a.oU ["rows"] []
 FW:mg "joined" = some (.ref a.tF)
 fj:dS K "goes_on" "goes_on" mh a.qg a.qo
 D8:Binds K a.qo ["row", "later"] []
 Dp:mg "goes_on" = some (.ref a.qg)
 cH:dS K "window_plan" "window_plan" fX a.jj a.jk
 uR:Binds K a.jk ["works", "benches"] []
 uI:mg "window_plan" = some (.ref a.jj)
 cM:dS K "stretch_rows" "stretch_rows" fu a.iq a.iA
 t8:Binds K a.iA ["stretch", "hours", "benches"] []
 sV:mg "stretch_rows" = some (.ref a.iq)
 cN:dS K "no_window" "no_window" iM a.lC a.lK
 zl:Binds K a.lK ["works", "benches"] []
 yC:mg "no_window" = some (.ref a.lC)
 cm:dS K "_law_whole" "_law_whole" md a.qc a.qk
 mz:Binds K a.qk ["_law_found"] []
 mr:mg "_law_whole" = some (.ref a.qc)
 bQ:dS K "_law_cell_at" "_law_cell_at" iQ a.lG a.lO
 i6:Binds K a.lO ["_law_script", "_law_k"] []
 iV:mg "_law_cell_at" = some (.ref a.lG)
 de:dS K "_law_mixed" "_law_mixed" me a.qd a.ql
 qz:Binds K a.ql ["_law_cell", "_law_k"] []
 pW:mg "_law_mixed" = some (.ref a.qd)
 fg:dS K "_law_hours" "_law_hours" mf a.qe a.qm
 D7:Binds K a.qm ["_law_script"] []
 Dm:mg "_law_hours" = some (.ref a.qe)
 dE:dS K "_law_is_plan" "_law_is_plan" iO a.lE a.lM
 zm:Binds K a.lM ["_law_works", "_law_number", "_law_rows"] []
 yD:mg "_law_is_plan" = some (.ref a.lE)
 d9:dS K "_law_pieces" "_law_pieces" jL a.nC a.nJ
 A7:Binds K a.nJ ["_law_works", "_law_stretches"] []
 Ay:mg "_law_pieces" = some (.ref a.nC)
 fH:dS K "_law_room" "_law_room" ox a.tE a.tO
 G8:Binds K a.tO ‹48› []
 FV:mg "_law_room" = some (.ref a.tE)
 dF:dS K "_law_is_none" "_law_is_none" iP a.lF a.lN
 zo:Binds K a.lN ["_law_works", "_law_number", "_law_found"] []
 yE:mg "_law_is_none" = some (.ref a.lF)
 vN:dS K "law" "law" BF a.yT a.vB
 NX:Binds K a.vB ["_law_script"] []
 NT:mg "law" = some (.ref a.yT)
 DB:a.oU.code=.ref a.yG
 Dx:TK K a.yG a.yo=true
 Dw:(a.yo,("joined.<locals>.<lambda>" : P2))∈bE.ts
 z_all:mg "all" = none
 z_any:mg "any" = none
 z_bool:mg "bool" = none
 z_enumerate:mg "enumerate" = none
 z_int:mg "int" = none
 z_isinstance:mg "isinstance" = none
 z_len:mg "len" = none
 z_list:mg "list" = none
 z_max:mg "max" = none
 z_min:mg "min" = none
 z_range:mg "range" = none
 z_reversed:mg "reversed" = none
 z_set:mg "set" = none
 z_sorted:mg "sorted" = none
 z_sum:mg "sum" = none
 z_tuple:mg "tuple" = none
 z_zip:mg "zip" = none
 c_BEGIN:∃ t,mg "BEGIN" = some (.int 2 t)
 c_BENCH:∃ t,mg "BENCH" = some (.int 0 t)
 c_COME:∃ t,mg "COME" = some (.int 0 t)
 c_DUE:∃ t,mg "DUE" = some (.int 1 t)
 c_END:∃ t,mg "END" = some (.int 3 t)
 c_HOURS:∃ t,mg "HOURS" = some (.int 2 t)
 c_WORK:∃ t,mg "WORK" = some (.int 1 t)
noncomputable section
theorem uv (x0 x1:D):gJ 2 [false,false] [x0,x1]=[.bo x0,.bo x1]:=rfl
noncomputable def hJ:DS:=(aL (mJ (iK (lQ (aj 0) (aj 1)))
 (cP (j9 (mS (aj 0) (aj 1)) ‹29›))
      df)
 (cP (mS (aj 0) (aj 1))))
@[irreducible] noncomputable def dt:List D→Option D:=cB 2 [false,false] hJ
theorem jG:dt=cB 2 [false,false] hJ:=by unfold dt; rfl
theorem uu (x0 x1:D):gJ 2 [false,false] [x0,x1]=[.bo x0,.bo x1]:=rfl
noncomputable def hG:DS:=(cP (bw dt (ao (gI um (aj 0)) (ao (aj 1) bu))))
@[irreducible] noncomputable def dq:List D→Option D:=cB 2 [false,false] hG
theorem jF:dq=cB 2 [false,false] hG:=by unfold dq; rfl
theorem wd (x0 x1:D):gJ 2 [false,false] [x0,x1]=[.bo x0,.bo x1]:=rfl
noncomputable def ja:DS:=(aL (mJ (lP (iK (aj 0)))
 (cP ‹22›)
      df)
 (cP (vC (gI maxD (aj 0)) (bw dq (ao (aj 0) (ao (aj 1) bu))))))
@[irreducible] noncomputable def cV:List D→Option D:=cB 2 [false,false] ja
theorem kE:cV=cB 2 [false,false] ja:=by unfold cV; rfl
theorem zN (x0 x1 x2:D):gJ 11 [false,false,false] [x0,x1,x2]=[.bo x0,.bo x1,.bo x2,.un,.un,.un,.un,.un,.un,.un,.un]:=rfl
noncomputable def mC:DS:=(aL (bN 3 (bw cV (ao (aj 0) (ao (aj 1) bu))))
 (aL (mJ (dT (zy (aj 2) (aj 3)))
      Ng
      df)
 (aL (qI 4 GQ)
 (aL (bN 5 ‹22›)
 (aL (bN 6 ‹22›)
 (aL (kI (GV (nA (tP 0))) (Gv 2 (cO (gN true 7) (cO (gN true 8) lz)))
 (aL (bN 9 (av 8))
 (jM (dT (AZ (aj 9) ‹22›))
 (aL (mJ (dT (rp false (aj 6) (aj 2)))
 (aL (yf (fun x y=>x+y) 5 ‹29›)
 (bN 6 ‹22›))
      df)
 (aL (bN 10 (y7 (j9 (aj 6) (aj 9)) (aj 2)))
 (aL (vd 4 (ao (av 5) (ao (av 7) (ao (av 6) (ao (av 10) bu)))))
 (aL (yf (fun x y=>x-y) 9 (jl (aj 10) (aj 6)))
 (bN 6 (av 10)))))))))
 (sA 4)))))))
@[irreducible] noncomputable def fe:List D→Option D:=oA 11 [false,false,false] mC
theorem mT:fe=oA 11 [false,false,false] mC:=by unfold fe; rfl
theorem ur (x0 x1 x2:D):gJ 3 [true,false,false] [x0,x1,x2]=[.pu x0,.bo x1,.bo x2]:=rfl
noncomputable def g9:DS:=(cP (jl (cC (cC (aj 0) (aj 2)) (dC (.int 2))) (gI um (cC (aj 1) (aj 2)))))
@[irreducible] noncomputable def bz:List D→Option D:=cB 3 [true,false,false] g9
theorem jE:bz=cB 3 [true,false,false] g9:=by unfold bz; rfl
theorem q9 (x0 x1 x2 x3:D):gJ 5 [true,true,false,false] [x0,x1,x2,x3]=[.pu x0,.pu x1,.bo x2,.bo x3,.un]:=rfl
noncomputable def fL:DS:=(aL (bN 4 (jl (cC (cC (aj 1) (aj 3)) ‹29›) (cC (cC (aj 1) (aj 3)) ‹22›)))
 (cP (jl (rn (aj 4) (aj 0)) (gI um (bD (bX 1 [3] (d7 (aj 2)) (gN false 0) cD (iX (cC (aj 0) (aj 1)))))))))
@[irreducible] noncomputable def bA:List D→Option D:=cB 5 [true,true,false,false] fL
theorem iH:bA=cB 5 [true,true,false,false] fL:=by unfold bA; rfl
theorem wb (x0 x1 x2 x3 x4:D):gJ 7 [true,true,false,false,false] [x0,x1,x2,x3,x4]=[.pu x0,.pu x1,.bo x2,.bo x3,.bo x4,.un,.un]:=rfl
noncomputable def i8:DS:=(aL (bN 5 (cC (cC (av 1) (aj 4)) ‹22›))
 (aL (bN 6 (cC (cC (av 1) (aj 4)) ‹29›))
 (aL (mJ (tT (dT (zy (aj 5) (cC (cC (aj 0) (aj 3)) ‹22›))) (dT (AZ (aj 6) (cC (cC (aj 0) (aj 3)) ‹29›))))
 (cP ‹22›)
      df)
 (cP (jl (jl (aj 6) (aj 5)) (cC (cC (aj 2) (aj 3)) (aj 4)))))))
@[irreducible] noncomputable def cU:List D→Option D:=cB 7 [true,true,false,false,false] i8
theorem kC:cU=cB 7 [true,true,false,false,false] i8:=by unfold cU; rfl
theorem uq (x0 x1 x2 x3 x4:D):gJ 11 [true,true,true,false,true] [x0,x1,x2,x3,x4]=[.pu x0,.pu x1,.pu x2,.bo x3,.pu x4,.un,.un,.un,.un,.un,.un]:=rfl
noncomputable def g8:DS:=(aL (bN 5 (bD (uN (bD (xu (av 4) (jw ‹22›) oI (jw (dC (.int 2))))) (bD (xu (av 4) (jw ‹29›) oI (jw (dC (.int 2))))))))
 (aL (bN 6 (bD (uN (bD (xu (av 4) (jw (dC (.int 2))) oI (jw (dC (.int 2))))) (bD (xu (av 4) (jw ‹29›) oI (jw (dC (.int 2))))))))
 (aL (iR 7 (ao (bw bz (ao (av 0) (ao (aj 3) (ao (cC (aj 4) ‹22›) bu)))) (ao (bw bA (ao (av 1) (ao (av 2) (ao (aj 3) (ao (cC (aj 4) (jm ‹29›)) bu))))) bu)))
 (aL (Ae 7 (bD (bX 2 [0,2,3] (d7 (av 5)) (Gv 2 (cO (gN true 0) (cO (gN true 1) lz))) cD (bw cU (ao (av 2) (ao (av 3) (ao (aj 4) (ao (aj 0) (ao (aj 1) bu)))))))))
 (aL (Ae 7 (bD (bX 2 [3] (d7 (av 6)) (Gv 2 (cO (gN true 0) (cO (gN true 1) lz))) cD (iX (cC (cC (aj 2) (aj 0)) (aj 1))))))
 (aL (bN 8 (gI minD (aj 7)))
 (aL (kI (d7 (av 5)) (Gv 2 (cO (gN true 9) (cO (gN true 10) lz)))
 (pO (fun x y=>x+y) 3 (aj 9) (aj 10) (aj 8)))
 (kI (d7 (av 6)) (Gv 2 (cO (gN true 9) (cO (gN true 10) lz)))
 (pO (fun x y=>x-y) 3 (aj 9) (aj 10) (aj 8))))))))))
@[irreducible] noncomputable def dm:OF→List OF→List D→Option (List (List D)):=C4 11 3 [true,true,true,false,true] g8
theorem jD:dm=C4 11 3 [true,true,true,false,true] g8:=by unfold dm; rfl
theorem uo (x0 x1 x2 x3:D):gJ 5 [true,true,false,false] [x0,x1,x2,x3]=[.pu x0,.pu x1,.bo x2,.bo x3,.un]:=rfl
noncomputable def g7:DS:=(aL (bN 4 (gI d6 (aj 0)))
 (aL (mJ (dT (DZ (aj 3) (aj 4)))
 (cP (bD (bX 1 [2,3,4] (nM (aj 4)) (gN true 0) (dT (AZ (cC (cC (aj 1) (aj 0)) (jl (aj 2) (aj 3))) ‹22›)) (av 0))))
      df)
 (cP (bD (bX 1 [0,1,2,3,4] (nM (gI d6 (aj 1))) (gN true 0) (dT (AZ (bw cU (ao (av 1) (ao (av 2) (ao (aj 3) (ao (aj 4) (ao (aj 0) bu)))))) ‹22›)) (j9 (aj 5) (aj 0)))))))
@[irreducible] noncomputable def dk:List D→Option D:=cB 5 [true,true,false,false] g7
theorem jC:dk=cB 5 [true,true,false,false] g7:=by unfold dk; rfl
theorem zO (x0 x1 x2:D):gJ 9 [true,true,false] [x0,x1,x2]=[.pu x0,.pu x1,.bo x2,.un,.un,.un,.un,.un,.un]:=rfl
noncomputable def mD:DS:=(aL (iR 3 (bX 1 [0,2] (nM (gI d6 (aj 0))) (gN true 0) (dT ‹64›) (av 0)))
 (aL (x9 4)
 (aL (oz 3 4 5)
 (aL (bN 6 ‹22›)
 (aL (jM (dT (zy (aj 6) (gI d6 (aj 3))))
 (aL (bN 7 (GS 3 (aj 6)))
 (aL (yf (fun x y=>x+y) 6 ‹29›)
 (kI (d7 (bw dk (ao (av 0) (ao (av 1) (ao (aj 2) (ao (aj 7) bu)))))) (gN true 8)
 (mJ (dT (GU true (aj 8) (aj 4)))
 (aL (ya 4 (aj 8) (aj 7))
 (Af 3 (av 8)))
  df)))))
 (sC 4))))))
@[irreducible] noncomputable def dB:List D→Option D:=oA 9 [true,true,false] mD
theorem mU:dB=oA 9 [true,true,false] mD:=by unfold dB; rfl
theorem CQ (x0 x1 x2:D):gJ 4 [true,true,true] [x0,x1,x2]=[.pu x0,.pu x1,.pu x2,.un]:=rfl
noncomputable def pj:DS:=(aL (iR 3 (ao (av 1) bu))
 (aL (jM (dT (rp true (tV (aj 0) (cC (aj 3) (jm ‹29›))) (cC (aj 3) (jm ‹29›))))
 (Af 3 (tV (aj 0) (cC (aj 3) (jm ‹29›)))))
 (cP (bD (bX 1 [2] (GO (aj 3)) (gN false 0) cD (MJ (dT (zy (aj 0) (aj 1))) (iX (aj 0)) (jl (aj 0) (aj 1))))))))
@[irreducible] noncomputable def gy:List D→Option D:=cB 4 [true,true,true] pj
theorem o7:gy=cB 4 [true,true,true] pj:=by unfold gy; rfl
theorem rf (x0 x1 x2 x3:D):gJ 7 [true,true,true,false] [x0,x1,x2,x3]=[.pu x0,.pu x1,.pu x2,.bo x3,.un,.un,.un]:=rfl
noncomputable def fM:DS:=(aL (sv 4 dB (ao (av 0) (ao (av 2) (ao (aj 3) bu))))
 (aL (yd 4 (gN true 5)
 (aL (bN 6 (jl (aj 5) (gI d6 (aj 0))))
 (mJ (za (dT (DZ (aj 6) ‹22›)) (dT (AZ (bw bA (ao (av 1) (ao (av 2) (ao (aj 3) (ao (aj 6) bu))))) ‹22›)))
 (cP (bw gy (ao (av 4) (ao (av 5) (ao (gI d6 (aj 0)) bu)))))
      df)))
 (cP (bD bu))))
@[irreducible] noncomputable def bB:List D→Option D:=cB 7 [true,true,true,false] fM
theorem iI:bB=cB 7 [true,true,true,false] fM:=by unfold bB; rfl
theorem qY (x0:D):gJ 2 [true] [x0]=[.pu x0,.un]:=rfl
noncomputable def fJ:DS:=(aL (bN 1 (bD (tQ (bD (uP (bD (bX 1 [] (d7 (av 0)) (gN true 0) cD (cC (av 0) ‹22›))) (bD (bX 1 [] (d7 (av 0)) (gN true 0) cD (cC (av 0) ‹29›))))))))
 (cP (bD (bX 2 [] (uN (av 1) (bD (LL (av 1) (jw ‹29›) oI))) (Gv 2 (cO (gN true 0) (cO (gN true 1) lz))) cD (bD (ao (av 0) (ao (av 1) bu)))))))
@[irreducible] noncomputable def cL:List D→Option D:=cB 2 [true] fJ
theorem iF:cL=cB 2 [true] fJ:=by unfold cL; rfl
theorem CS (x0 x1:D):gJ 5 [true,true] [x0,x1]=[.pu x0,.pu x1,.un,.un,.un]:=rfl
noncomputable def pz:DS:=(aL (bN 2 (bw cL (ao (av 0) bu)))
 (aL (qI 3 (qp 1 [2] (d7 (av 0)) (gN true 0) cD (xv (ao ‹22› bu) (gI d6 (aj 1)))))
 (aL (bN 4 (bw bB (ao (av 0) (ao (av 1) (ao (av 2) (ao (aj 3) bu))))))
 (aL (jM (iK (aj 4))
 (aL (sF 3 dm (ao (av 0) (ao (av 1) (ao (av 2) (ao (aj 3) (ao (av 4) bu))))))
 (bN 4 (bw bB (ao (av 0) (ao (av 1) (ao (av 2) (ao (aj 3) bu))))))))
  (Ad 3 (cP (yZ (ao (av 2) (ao (av 3) bu)))))))))
@[irreducible] noncomputable def cQ:List D→Option D:=cB 5 [true,true] pz
theorem o8:cQ=cB 5 [true,true] pz:=by unfold cQ; rfl
theorem zT (x0 x1:D):gJ 2 [false,false] [x0,x1]=[.bo x0,.bo x1]:=rfl
noncomputable def mH:DS:=(cP (oW (rp false (cC (aj 0) ‹22›) (cC (aj 1) ‹22›)) (oW (rp false (cC (aj 0) ‹29›) (cC (aj 1) ‹29›)) (rp false (cC (aj 0) (dC (.int 3))) (cC (aj 1) (dC (.int 2)))))))
@[irreducible] noncomputable def fj:List D→Option D:=cB 2 [false,false] mH
theorem mY:fj=cB 2 [false,false] mH:=by unfold fj; rfl
theorem CU (x0:D):gJ 3 [false] [x0]=[.bo x0,.un,.un]:=rfl
noncomputable def pB:DS:=(aL (qI 1 GQ)
 (aL (kI (tS (tP 0)) (gN false 2)
 (mJ (za (iK (aj 1)) (iK (bw fj (ao (cC (aj 1) (jm ‹29›)) (ao (aj 2) bu)))))
 (yb 1 (jm ‹29›) (dC (.int 3)) (iX (cC (aj 2) (dC (.int 3)))))
 (vd 1 (vx (tU (aj 2))))))
 (sE 1 [] (yZ (ao (iX (cC (aj 0) (dC (.int 2)))) (ao (iX (cC (aj 0) ‹22›)) bu))))))
@[irreducible] noncomputable def fI:List D→Option D:=oA 3 [false] pB
theorem ph:fI=oA 3 [false] pB:=by unfold fI; rfl
theorem qZ (x0 x1 x2:D):gJ 5 [true,true,true] [x0,x1,x2]=[.pu x0,.pu x1,.pu x2,.un,.un]:=rfl
noncomputable def fK:DS:=(aL (bN 3 (cC (av 0) ‹22›))
 (aL (bN 4 (jl (cC (aj 0) ‹29›) (aj 3)))
 (cP (bD (bX 4 [3] (d7 (bw fe (ao (aj 1) (ao (aj 2) (ao (aj 4) bu))))) (Gv 4 (cO (gN true 0) (cO (gN true 1) (cO (gN true 2) (cO (gN true 3) lz))))) cD (bD (ao (av 0) (ao (av 1) (ao (j9 (aj 4) (aj 2)) (ao (j9 (aj 4) (aj 3)) bu))))))))))
@[irreducible] noncomputable def cM:List D→Option D:=cB 5 [true,true,true] fK
theorem iG:cM=cB 5 [true,true,true] fK:=by unfold cM; rfl
theorem kO (x0 x1:D):gJ 8 [true,true] [x0,x1]=[.pu x0,.pu x1,.un,.un,.un,.un,.un,.un]:=rfl
noncomputable def eN:DS:=(aL (bN 2 (bw cQ (ao (av 0) (ao (av 1) bu))))
 (aL (bN 3 (cC (av 2) ‹22›))
 (aL (bN 4 (cC (av 2) ‹29›))
 (aL (mJ (iK (gI IU (bD (bX 1 [0,4] (nM (gI d6 (aj 0))) (gN true 0) cD ‹64›))))
 (cP (dC .non))
      df)
 (aL (iR 5 bu)
 (aL (kI (GV (av 3)) (Gv 2 (cO (gN true 6) (cO (gN true 7) lz)))
      (Ae 5 (bw cM (ao (av 7) (ao (bD (bX 1 [6] (d7 (av 4)) (gN true 0) cD (cC (av 0) (aj 1)))) (ao (av 1) bu))))))
 (cP (bw fI (ao (aj 5) bu)))))))))
@[irreducible] noncomputable def cH:List D→Option D:=cB 8 [true,true] eN
theorem fG:cH=cB 8 [true,true] eN:=by unfold cH; rfl
theorem wc (x0 x1:D):gJ 7 [true,true] [x0,x1]=[.pu x0,.pu x1,.un,.un,.un,.un,.un]:=rfl
noncomputable def i9:DS:=(aL (bN 2 (bw cQ (ao (av 0) (ao (av 1) bu))))
 (aL (bN 3 (cC (av 2) ‹22›))
 (aL (bN 4 (bD (y4 (bw dB (ao (av 0) (ao (av 3) (ao (cC (aj 2) ‹29›) bu)))))))
 (aL (mJ (lP (iK (aj 4)))
 (cP (dC .non))
      df)
 (aL (bN 5 (gI d6 (aj 0)))
 (aL (bN 6 (bD (bX 1 [5] (d7 (av 4)) (gN true 0) (dT (zy (aj 0) (aj 1))) (av 0))))
 (cP (yZ (ao (av 6) (ao (bD (bX 1 [5,3] (d7 (av 4)) (gN true 0) (dT (DZ (aj 0) (aj 1))) (cC (av 2) (jl (aj 0) (aj 1))))) bu))))))))))
@[irreducible] noncomputable def cN:List D→Option D:=cB 7 [true,true] i9
theorem kD:cN=cB 7 [true,true] i9:=by unfold cN; rfl
theorem zP (x0:D):gJ 1 [false] [x0]=[.bo x0]:=rfl
noncomputable def mE:DS:=(cP (oW (uO "int" (aj 0)) (GP (uO "bool" (aj 0)))))
@[irreducible] noncomputable def cm:List D→Option D:=cB 1 [false] mE
theorem mV:cm=cB 1 [false] mE:=by unfold cm; rfl
theorem wm (x0 x1:D):gJ 2 [false,false] [x0,x1]=[.bo x0,.bo x1]:=rfl
noncomputable def jd:DS:=(aL (mJ (dT (zy (aj 1) (gI d6 (aj 0))))
 (cP (iX (cC (aj 0) (aj 1))))
      df)
 (cP ‹22›))
@[irreducible] noncomputable def bQ:List D→Option D:=cB 2 [false,false] jd
theorem kH:bQ=cB 2 [false,false] jd:=by unfold bQ; rfl
theorem zQ (x0 x1:D):gJ 3 [false,false] [x0,x1]=[.bo x0,.bo x1,.un]:=rfl
noncomputable def mF:DS:=(aL (bN 2 (lQ (j9 (j9 (rn (aj 0) (dC (.int 48271))) (rn (rn (aj 1) (aj 1)) (dC (.int 69621)))) (dC (.int 3))) (dC (.int 2147483647))))
 (cP (lQ (rn (aj 2) (aj 2)) (dC (.int 2147483629)))))
@[irreducible] noncomputable def de:List D→Option D:=cB 3 [false,false] mF
theorem mW:de=cB 3 [false,false] mF:=by unfold de; rfl
theorem zS (x0:D):gJ 8 [false] [x0]=[.bo x0,.un,.un,.un,.un,.un,.un,.un]:=rfl
noncomputable def mG:DS:=(aL (bN 1 (bw bQ (ao (aj 0) (ao ‹22› bu))))
 (aL (bN 2 (cC (bD (ao (lQ (mS (aj 1) (dC (.int 3))) (dC (.int 9))) (ao (dC (.int 8)) (ao (lQ (mS (aj 1) (dC (.int 3))) (dC (.int 9))) bu)))) (lQ (aj 1) (dC (.int 3)))))
 (aL (iR 3 (bX 1 [0] (nM (dC (.int 8))) (gN true 0) cD (bw de (ao (bw bQ (ao (aj 1) (ao ‹29› bu))) (ao (j9 (dC (.int 40)) (aj 0)) bu)))))
 (aL (kI (GN (dC (.int 3)) (y7 (dC (.int 63)) (gI d6 (aj 0)))) (gN true 4)
 (yc 3 (lQ (aj 4) (dC (.int 8))) (bw de (ao (j9 (cC (aj 3) (lQ (aj 4) (dC (.int 8)))) (cC (aj 0) (aj 4))) (ao (aj 4) bu)))))
 (aL (bN 5 (lQ (bw bQ (ao (aj 0) (ao (dC (.int 2)) bu))) (dC (.int 4))))
 (aL (iR 6 bu)
 (aL (kI (nM (aj 2)) (gN true 4)
 (aL (bN 7 (j9 (rn (cC (aj 3) (aj 4)) (AX (dC (.int 10)) (dC (.int 39)))) (bw de (ao (cC (aj 3) (aj 4)) (ao (dC (.int 7)) bu)))))
 (Af 6 (cC (bD (ao (lQ (cC (aj 3) (aj 4)) (dC (.int 7))) (ao (rn (aj 7) (lQ (lQ (cC (aj 3) (aj 4)) (dC (.int 3))) (dC (.int 2)))) (ao (av 7) (ao (AX (dC (.int 10)) (dC (.int 30))) bu))))) (aj 5)))))
  (Ad 6 (cP (av 6))))))))))
@[irreducible] noncomputable def fg:List D→Option D:=cB 8 [false] mG
theorem mX:fg=cB 8 [false] mG:=by unfold fg; rfl
theorem we (x0 x1 x2:D):gJ 12 [false,false,true] [x0,x1,x2]=[.bo x0,.bo x1,.pu x2,.un,.un,.un,.un,.un,.un,.un,.un,.un]:=rfl
noncomputable def jb:DS:=(aL (mJ (lP (iK (uO "list" (aj 2))))
 (cP (dC (.bl false)))
      df)
 (aL (iR 3 (xv (ao ‹22› bu) (gI d6 (aj 0))))
 (aL (iR 4 (bX 1 [] (nM (aj 1)) (gN true 0) cD (bD (ao (jm ‹29›) (ao (jm ‹29›) bu)))))
 (aL (iR 5 (xv (ao ‹22› bu) (gI d6 (aj 0))))
 (aL (bN 6 (bD (ao (jm ‹29›) (ao (jm ‹29›) bu))))
 (aL (kI (d7 (av 2)) (gN true 7)
 (aL (mJ (tT (lP (iK (uO "list" (aj 7)))) (tT (dT (rp true (gI d6 (aj 7)) (dC (.int 4)))) (lP (iK (gI Ha (bD (bX 1 [] (d7 (av 7)) (gN true 0) cD (bw cm (ao (aj 0) bu)))))))))
 (cP (dC (.bl false)))
      df)
 (aL (L8 (av 7) (Gv 4 (cO (gN true 8) (cO (gN true 9) (cO (gN true 10) (cO (gN true 11) lz))))))
 (aL (mJ (tT (dT (zy (aj 8) ‹22›)) (tT (dT (DZ (aj 8) (aj 1))) (tT (dT (zy (aj 9) ‹22›)) (dT (DZ (aj 9) (gI d6 (aj 0)))))))
 (cP (dC (.bl false)))
      df)
 (aL (mJ (tT (dT (GR (bD (ao (av 10) (ao (av 8) bu))) (aj 6))) (tT (dT (DZ (aj 10) (aj 11))) (dT (zy (aj 10) (vC (cC (cC (aj 4) (aj 8)) ‹29›) (cC (aj 5) (aj 9)))))))
 (cP (dC (.bl false)))
      df)
 (aL (mJ (tT (dT (rp false (cC (aj 4) (aj 8)) (bD (ao (av 9) (ao (av 10) bu))))) (tT (dT (zy (aj 10) (cC (cC (aj 0) (aj 9)) ‹22›))) (dT (AZ (aj 11) (cC (cC (aj 0) (aj 9)) ‹29›)))))
 (cP (dC (.bl false)))
      df)
 (aL (bN 6 (bD (ao (av 10) (ao (av 8) bu))))
 (aL (yc 4 (aj 8) (bD (ao (av 9) (ao (av 11) bu))))
 (aL (yc 5 (aj 9) (av 11))
 (yc 3 (aj 9) (jl (j9 (cC (aj 3) (aj 9)) (aj 11)) (aj 10))))))))))))
 (cP (rp false (aj 3) (bD (bX 1 [] (d7 (aj 0)) (gN false 0) cD (iX (cC (aj 0) (dC (.int 2))))))))))))))
@[irreducible] noncomputable def dE:List D→Option D:=cB 12 [false,false,true] jb
theorem kF:dE=cB 12 [false,false,true] jb:=by unfold dE; rfl
theorem xY (x0 x1:D):gJ 5 [true,true] [x0,x1]=[.pu x0,.pu x1,.un,.un,.un]:=rfl
noncomputable def kj:DS:=(aL (bN 2 (bD bu))
 (aL (kI (d7 (av 0)) (gN true 3)
 (bN 2 (bD (uP (av 2) (bD (ao (cC (av 3) ‹22›) (ao (cC (av 3) ‹29›) bu)))))))
 (aL (kI (d7 (av 1)) (gN true 4)
 (bN 2 (bD (uP (av 2) (av 4)))))
 (aL (bN 2 (bD (tQ (aj 2))))
 (cP (bD (bX 1 [2] (nM (jl (gI d6 (aj 2)) ‹29›)) (gN true 0) cD (bD (ao (cC (av 1) (aj 0)) (ao (cC (av 1) (j9 (aj 0) ‹29›)) bu))))))))))
@[irreducible] noncomputable def d9:List D→Option D:=cB 5 [true,true] kj
theorem lV:d9=cB 5 [true,true] kj:=by unfold d9; rfl
theorem CT (x0 x1 x2 x3:D):gJ 9 [true,false,true,true] [x0,x1,x2,x3]=[.pu x0,.bo x1,.pu x2,.pu x3,.un,.un,.un,.un,.un]:=rfl
noncomputable def pA:DS:=(aL (bN 4 ‹22›)
 (aL (kI (d7 (bw d9 (ao (av 0) (ao (av 3) bu)))) (Gv 2 (cO (gN true 5) (cO (gN true 6) lz)))
 (aL (bN 7 (bD (bX 1 [5,6] (d7 (av 3)) (gN true 0) (za (dT (Hr (cC (aj 0) ‹22›) (aj 1))) (dT (Hr (aj 2) (cC (aj 0) ‹29›)))) (av 0))))
 (aL (bN 8 (iX (aj 1)))
 (aL (mJ (dT (rp false (aj 7) (bD bu)))
 (bN 8 (gI d6 (bD (bX 1 [0,5,6] (d7 (av 2)) (gN true 0) (za (dT (Hr (cC (cC (aj 1) (aj 0)) ‹22›) (aj 2))) (dT (Hr (aj 3) (cC (cC (aj 1) (aj 0)) ‹29›)))) (av 0)))))
  df)
 (bN 4 (j9 (aj 4) (rn (aj 8) (jl (aj 6) (aj 5)))))))))
 (cP (av 4))))
@[irreducible] noncomputable def fH:List D→Option D:=cB 9 [true,false,true,true] pA
theorem o9:fH=cB 9 [true,false,true,true] pA:=by unfold fH; rfl
theorem wg (x0 x1 x2:D):gJ 6 [true,false,true] [x0,x1,x2]=[.pu x0,.bo x1,.pu x2,.un,.un,.un]:=rfl
noncomputable def jc:DS:=(aL (mJ (tT (lP (iK (uO "tuple" (aj 2)))) (dT (rp true (gI d6 (aj 2)) (dC (.int 2)))))
 (cP (dC (.bl false)))
      df)
 (aL (mJ (tT (lP (iK (uO "list" (cC (aj 2) ‹22›)))) (lP (iK (uO "list" (cC (aj 2) ‹29›)))))
 (cP (dC (.bl false)))
      df)
 (aL (bN 3 (jm ‹29›))
 (aL (kI (d7 (cC (av 2) ‹22›)) (gN true 4)
 (aL (mJ (tT (lP (iK (bw cm (ao (aj 4) bu)))) (tT (dT (Hr (aj 4) (aj 3))) (dT (DZ (aj 4) (gI d6 (aj 0))))))
 (cP (dC (.bl false)))
      df)
 (bN 3 (av 4))))
 (aL (bN 3 ‹22›)
 (aL (kI (d7 (cC (av 2) ‹29›)) (gN true 5)
 (aL (mJ (tT (lP (iK (uO "list" (aj 5)))) (tT (dT (rp true (gI d6 (aj 5)) (dC (.int 2)))) (lP (iK (gI Ha (bD (bX 1 [] (d7 (av 5)) (gN true 0) cD (bw cm (ao (aj 0) bu)))))))))
 (cP (dC (.bl false)))
      df)
 (aL (mJ (tT (dT (zy (cC (aj 5) ‹22›) (aj 3))) (dT (Hr (cC (aj 5) ‹29›) (cC (aj 5) ‹22›))))
 (cP (dC (.bl false)))
      df)
 (bN 3 (cC (av 5) ‹29›)))))
 (cP (AZ (gI um (bD (bX 1 [0] (d7 (cC (av 2) ‹22›)) (gN true 0) cD (cC (cC (av 1) (aj 0)) (dC (.int 2)))))) (bw fH (ao (av 0) (ao (aj 1) (ao (cC (av 2) ‹22›) (ao (cC (av 2) ‹29›) bu)))))))))))))
@[irreducible] noncomputable def dF:List D→Option D:=cB 6 [true,false,true] jc
theorem kG:dF=cB 6 [true,false,true] jc:=by unfold dF; rfl
theorem J8 (x0:D):gJ 10 [false] [x0]=[.bo x0,.un,.un,.un,.un,.un,.un,.un,.un,.un]:=rfl
noncomputable def CD:DS:=(aL (bN 1 (bw fg (ao (aj 0) bu)))
 (aL (bN 2 (mS (bw bQ (ao (aj 0) (ao (dC (.int 2)) bu))) (dC (.int 4))))
 (aL (bN 3 (j9 ‹29› (lQ (mS (aj 2) (dC (.int 3))) (dC (.int 8)))))
 (aL (bN 4 (gI maxD (bD (uP (av 1) (bD (ao (jl ‹22› (mS (jl ‹22› (gI um (aj 1))) (aj 3))) bu))))))
 (aL (bN 5 (bw cV (ao (bD (tU (av 1))) (ao (aj 3) bu))))
 (aL (mJ (tT (lP (iK (bw cm (ao (aj 5) bu)))) (dT (rp true (aj 5) (aj 4))))
 (cP (dC (.bl false)))
      df)
 (aL (bN 6 (vC ‹22› (j9 (aj 4) (cC (bD (ao ‹22› (ao ‹29› (ao (jm ‹29›) bu)))) (lQ (aj 2) (dC (.int 3)))))))
 (aL (bN 7 (bD (bX 1 [6] (d7 (av 1)) (gN true 0) cD (bD (ao ‹22› (ao (av 1) (ao (av 0) bu)))))))
 (aL (bN 8 (bw cH (ao (bD (bX 1 [] (d7 (av 7)) (gN true 0) cD (bD (tU (av 0))))) (ao (av 3) bu))))
 (aL (bN 9 (bw cN (ao (bD (bX 1 [] (d7 (av 7)) (gN true 0) cD (bD (tU (av 0))))) (ao (av 3) bu))))
 (aL (mJ (dT (DZ (aj 6) (aj 4)))
 (cP (oW (AY (aj 9)) (bw dE (ao (aj 7) (ao (aj 3) (ao (av 8) bu))))))
      df)
 (cP (oW (AY (aj 8)) (bw dF (ao (av 7) (ao (aj 3) (ao (av 9) bu)))))))))))))))))
@[irreducible] noncomputable def vN:List D→Option D:=cB 10 [false] CD
theorem vM:vN=cB 10 [false] CD:=by unfold vN; rfl
end
section
variable [bE] {P:PL} {w:PR} {K:OA} {mg:P2→Option OD} {base:Qb} {ad:Nb}
theorem uF (T:Txt K mg ad) (hbm:eJ mg base):dv P w K mg base jq 1 ad.jX ad.j7 ["total", "parts"] (kQ .v K [false,false] dt):=by
 rw [jG]
 exact dS.rG (N:=["total", "parts"]) T.dt uA [false,false] rfl hJ fun cdv A outer s H E hr=>⟨_,
 (ai (dO (bW (K:=K) rfl (aU fB (pv 0) (pv 1)) (fun _=>rfl))
 (aA (bc (aU eR (aU ic (pv 0) (pv 1)) aw)))
 cb)
 (aA (bc (aU ic (pv 0) (pv 1))))),
 (ay (dN (dW (K:=K) (af.b (fq (ab 0) (ab 1))))
 (bt (eQ (af.b (jJ (ab 0) (ab 1))) (af.b aq)))
 bZ)
 (bt (jJ (ab 0) (ab 1))))⟩
theorem uE (T:Txt K mg ad) (hbm:eJ mg base):dv P w K mg base jq 2 ad.jW ad.j6 ["hours", "benches"] (kQ .v K [false,false] dq):=by
 rw [jF]
 exact dS.rG (N:=["hours", "benches"]) T.dq uz [false,false] rfl hG fun cdv A outer s H E hr=>⟨_,
 (aA (bc (aQ (uF T hbm) ‹9› rfl T.xc T.dt.kp T.xH .nil bT (aa (aH (jB (K:=K) rfl rfl) rfl T.z_sum tY (aa (pv 0) ak)) (aa (pv 1) ak))))),
 (bt (aS (aN (af.b (sq (ab 0))) (aN (ab 1) aE))))⟩
theorem oH (T:Txt K mg ad) (hbm:eJ mg base):dv P w K mg base jq 3 ad.lD ad.lL ["hours", "benches"] (kQ .v K [false,false] cV):=by
 rw [kE]
 exact dS.rG (N:=["hours", "benches"]) T.cV wG [false,false] rfl ja fun cdv A outer s H E hr=>⟨_,
 (ai (dO (gF (bW (K:=K) rfl (pv 0) (fun _=>rfl)))
 (aA (bc aw))
 cb)
 (aA (bc (aH (qv rfl) rfl T.z_max tZ (aa (aH (tX (K:=K) rfl rfl) rfl T.z_max tZ (aa (pv 0) ak)) (aa (aQ (uE T hbm) ‹9› rfl T.xb T.dq.kp T.xG .nil bT (aa (pv 0) (aa (pv 1) ak))) ak)))))),
 (ay (dN (gA (dW (K:=K) (ab 0)))
 (bt aq)
 bZ)
 (bt (wA (af.b (Fh (ab 0))) (af.b (aS (aN (ab 0) (aN (ab 1) aE)))))))⟩
theorem Aq (T:Txt K mg ad) (hbm:eJ mg base):dv P w K mg base jq 4 ad.p8 ad.qi ["hours", "benches", "end"] (kQ .m K [false,false,false] fe):=by
 rw [mT]
 exact dS.NS (N:=["hours", "benches", "end", "least", "rows", "bench", "moment", "work", "wanted", "left", "stop"]) T.fe cA [false,false,false] rfl mC fun cdv A outer s H E hr=>⟨_,
 (ai (aJ (i:=3) cA.nd rfl (OQ rfl) (aQ (oH T hbm) ‹9› rfl T.qM T.cV.kp T.qW .nil bT (aa (pv 0) (aa (pv 1) ak))))
 (ai (dO (aT kZ (pv 2) (pv 3) (aX _))
 (aA FC)
 cb)
 (ai (aJ (i:=4) cA.nd rfl (OQ rfl) (cw ak))
 (ai (aJ (i:=5) cA.nd rfl (OQ rfl) aw)
 (ai (aJ (i:=6) cA.nd rfl (OQ rfl) aw)
 (ai (eF PM rfl (yn (K:=K) rfl rfl T.z_enumerate (pv 0)) (fZ (K:=K) rfl rfl (bH (bP (i:=7) cA.nd rfl (OQ rfl)) (bH (bP (i:=8) cA.nd rfl (OQ rfl)) fY)))
 (ai (aJ (i:=9) cA.nd rfl (OQ rfl) (pv 8))
 (aA (oB PM (aT oF (pv 9) aw (aX _))
 (ai (dO (aT (nj (K:=K) hr.units) (pv 6) (pv 2) (aX _))
 (ai (Ak (i:=5) cA.nd rfl (OQ rfl) aw AG)
 (aA (aJ (i:=6) cA.nd rfl (OQ rfl) aw)))
 cb)
 (ai (aJ (i:=10) cA.nd rfl (OQ rfl) (aH (vE rfl) rfl T.z_min A4 (aa (aU eR (pv 6) (pv 9)) (aa (pv 2) ak))))
 (ai (gW (qJ Qq Rb Rc h9 (pv 4) (aa (cw (aa (pv 5) (aa (pv 7) (aa (pv 6) (aa (pv 10) ak))))) ak)))
 (ai (Ak (i:=9) cA.nd rfl (OQ rfl) (aU eG (pv 10) (pv 6)) Gm)
 (aA (aJ (i:=6) cA.nd rfl (OQ rfl) (pv 10)))))))))))
 (aA (bc (pv 4))))))))),
 (ay (aO (aS (aN (ab 0) (aN (ab 1) aE))))
 (ay (dN (aR (af.b (kU (ab 2) (ab 3))))
 E5
 bZ)
 (ay (wq Fe)
 (ay (aO aq)
 (ay (aO aq)
 (ay (fo (m:=true) (EX (Fd 0)) (mP (bG (aD 7) (bG (aD 8) fW)))
 (ay (aO (au 8))
 (og (aR (af.b (oj (ab 9) (af.b aq))))
 (ay (dN (aR (af.b (km (neg:=false) (ab 6) (ab 2))))
 (ay (zV (af.b aq))
 (aO aq))
 bZ)
 (ay (aO (BB (af.b (eQ (ab 6) (ab 9))) (ab 2)))
 (ay (Bv (cI (n:=4) (az (au 5) (az (au 7) (az (au 6) (az (au 10) aE)))) ‹11›))
 (ay (zV (af.b (eE (ab 10) (ab 6))))
 (aO (au 10)))))))))
 E2))))))⟩
theorem ji (T:Txt K mg ad) (hbm:eJ mg base):dv P w K mg base jq 1 ad.jV ad.j5 ["works", "table", "work"] (kQ .v K [true,false,false] bz):=by
 rw [jE]
 exact dS.rG (N:=["works", "table", "work"]) T.bz uy [true,false,false] rfl g9 fun cdv A outer s H E hr=>⟨_,
 (aA (bc (aU eG (aG ‹6› (aG ‹6› (pv 0) (pv 2) ‹8›) (cX rfl T.c_HOURS) ‹8›) (aH (jB (K:=K) rfl rfl) rfl T.z_sum tY (aa (aG ‹6› (pv 1) (pv 2) ‹8›) ak))))),
 (bt (eE (aZ (aZ (ab 0) (ab 2)) (af.b aq)) (af.b (sq (aZ (ab 1) (ab 2))))))⟩
theorem kr (T:Txt K mg ad) (hbm:eJ mg base):dv P w K mg base jq 1 ad.ir ad.iB ["benches", "stretches", "table", "number"] (kQ .v K [true,true,false,false] bA):=by
 rw [iH]
 exact dS.rG (N:=["benches", "stretches", "table", "number", "length"]) T.bA ko [true,true,false,false] rfl fL fun cdv A outer s H E hr=>⟨_,
 (ai (aJ (i:=4) ko.nd rfl (OQ rfl) (aU eG (aG ‹6› (aG ‹6› (pv 1) (pv 3) ‹8›) aw ‹8›) (aG ‹6› (aG ‹6› (pv 1) (pv 3) ‹8›) aw ‹8›)))
 (aA (bc (aU eG (aU iU (pv 4) (pv 0)) (aH (jB (K:=K) rfl rfl) rfl T.z_sum tY (aa (dZ rfl (bh (K:=K) rfl (pv 2)) (ts:=["row"]) (zs:=["number"]) (k:=1) (is:=[3]) rfl ‹53› ‹2› rfl rfl rfl ‹63› ‹0› (fun _ _ _ _ _=>(aG ‹6› (pv 0) (pv 1) ‹8›)) rfl rfl ‹4›) ak)))))),
 (ay (aO (eE (aZ (aZ (ab 1) (ab 3)) (af.b aq)) (aZ (aZ (ab 1) (ab 3)) (af.b aq))))
 (bt (eE (af.b (kT (ab 4) (ab 0))) (af.b (sq (af.b (bx.l (bJ (m:=false) (k:=1) (cs:=[3]) (u0 (ab 2)) (aD 0) cE (bp.i (aZ (ab 0) (ab 1)))))))))))⟩
theorem oG (T:Txt K mg ad) (hbm:eJ mg base):dv P w K mg base jq 1 ad.lB ad.lJ ["works", "stretches", "table", "work", "number"] (kQ .v K [true,true,false,false,false] cU):=by
 rw [kC]
 exact dS.rG (N:=["works", "stretches", "table", "work", "number", "begin", "end"]) T.cU jK [true,true,false,false,false] rfl i8 fun cdv A outer s H E hr=>⟨_,
 (ai (aJ (i:=5) jK.nd rfl (OQ rfl) (aG ‹6› (aG ‹6› (pv 1) (pv 4) ‹8›) aw ‹8›))
 (ai (aJ (i:=6) jK.nd rfl (OQ rfl) (aG ‹6› (aG ‹6› (pv 1) (pv 4) ‹8›) aw ‹8›))
 (ai (dO (PW.pt (fR (aT kZ (pv 5) (aG ‹6› (aG ‹6› (pv 0) (pv 3) ‹8›) (cX rfl T.c_COME) ‹8›) (aX _)) (ib (aT oF (pv 6) (aG ‹6› (aG ‹6› (pv 0) (pv 3) ‹8›) (cX rfl T.c_DUE) ‹8›) (aX _)))))
 (aA (bc aw))
 cb)
 (aA (bc (aU eG (aU eG (pv 6) (pv 5)) (aG ‹6› (aG ‹6› (pv 2) (pv 3) ‹8›) (pv 4) ‹8›))))))),
 (ay (aO (dD (dD (au 1) (ab 4)) (af.b aq)))
 (ay (aO (dD (dD (au 1) (ab 4)) (af.b aq)))
 (ay (dN (fP (aR (af.b (kU (ab 5) (aZ (aZ (ab 0) (ab 3)) (af.b aq))))) (aR (af.b (oj (ab 6) (aZ (aZ (ab 0) (ab 3)) (af.b aq))))))
 (bt aq)
 bZ)
 (bt (eE (af.b (eE (ab 6) (ab 5))) (aZ (aZ (ab 2) (ab 3)) (ab 4)))))))⟩
theorem uD (T:Txt K mg ad) (hbm:eJ mg base):dv P w K mg base jq 2 ad.jU ad.j4 ‹34› (MU K 3 [true,true,true,false,true] dm):=by
 rw [jD]
 exact dS.Oa (N:=["works", "benches", "stretches", "table", "way", "gains", "losses", "amounts", "amount", "work", "number"]) T.dm cF 3 [true,true,true,false,true] rfl (KC rfl) ‹11› g8 fun cdv A outer s H E hr=>⟨_,
 (ai (aJ (i:=5) cF.nd rfl (OQ rfl) (BQ (K:=K) rfl rfl rfl T.z_list rfl T.z_zip (aa (mi (K:=K) rfl (pv 4) (gX aw) oC (gX aw)) (aa (mi (K:=K) rfl (pv 4) (gX aw) oC (gX aw)) ak))))
 (ai (aJ (i:=6) cF.nd rfl (OQ rfl) (BQ (K:=K) rfl rfl rfl T.z_list rfl T.z_zip (aa (mi (K:=K) rfl (pv 4) (gX aw) oC (gX aw)) (aa (mi (K:=K) rfl (pv 4) (gX aw) oC (gX aw)) ak))))
 (ai (aJ (i:=7) cF.nd rfl (OQ rfl) (cw (aa (aQ (ji T hbm) ‹9› rfl T.jR T.bz.kp T.ke .nil bT (aa (pv 0) (aa (pv 3) (aa (aG ‹6› (pv 4) aw ‹8›) ak)))) (aa (aQ (kr T hbm) ‹9› rfl T.lh T.bA.kp T.lT .nil bT (aa (pv 1) (aa (pv 2) (aa (pv 3) (aa (aG ‹6› (pv 4) (kq gz aw) ‹8›) ak))))) ak))))
 (ai (gW (qJ Qq SY S0 wZ (pv 7) (aa (dZ rfl (bh (K:=K) rfl (pv 5)) (ts:=["work", "number"]) (zs:=["works", "stretches", "table"]) (k:=2) (is:=[0,2,3]) rfl (.cons rfl (.cons rfl ‹53›)) (.cons rfl (OQ rfl) rfl ‹3› ‹60›) rfl rfl rfl (rH (lows_cons ‹63› (lows_cons ‹63› oM))) ‹59› (fun _ _ _ _ _=>(aQ (oG T hbm) ‹9› rfl T.qL T.cU.kp T.qV .nil bT (aa (pv 2) (aa (pv 3) (aa (pv 4) (aa (pv 0) (aa (pv 1) ak))))))) rfl rfl ‹4›) ak)))
 (ai (gW (qJ Qq SY S0 wZ (pv 7) (aa (dZ rfl (bh (K:=K) rfl (pv 6)) (ts:=["work", "number"]) (zs:=["table"]) (k:=2) (is:=[3]) rfl ‹53› ‹2› rfl rfl rfl (rH (lows_cons ‹63› (lows_cons ‹63› oM))) ‹59› (fun _ _ _ _ _=>(aG ‹6› (aG ‹6› (pv 2) (pv 0) ‹8›) (pv 1) ‹8›)) rfl rfl ‹4›) ak)))
 (ai (aJ (i:=8) cF.nd rfl (OQ rfl) (aH (A3 (K:=K) rfl rfl) rfl T.z_min A4 (aa (pv 7) ak)))
 (ai (eF PM rfl (bh (K:=K) rfl (pv 5)) (fZ (K:=K) rfl rfl (bH (bP (i:=9) cF.nd rfl (OQ rfl)) (bH (bP (i:=10) cF.nd rfl (OQ rfl)) fY)))
 (aA (BO (aG ‹6› (pv 3) (pv 9) ‹8›) (pv 10) (vv (K:=K) rfl) (pv 8) AG set_list)))
 (aA (eF PM rfl (bh (K:=K) rfl (pv 6)) (fZ (K:=K) rfl rfl (bH (bP (i:=9) cF.nd rfl (OQ rfl)) (bH (bP (i:=10) cF.nd rfl (OQ rfl)) fY)))
 (aA (BO (aG ‹6› (pv 3) (pv 9) ‹8›) (pv 10) (vv (K:=K) rfl) (pv 8) Gm set_list))))))))))),
 (ay (aO (bx.l (BE (bx.l (wC (au 4) (gL (af.b aq)) oh (gL (af.b aq)))) (bx.l (wC (au 4) (gL (af.b aq)) oh (gL (af.b aq)))))))
 (ay (aO (bx.l (BE (bx.l (wC (au 4) (gL (af.b aq)) oh (gL (af.b aq)))) (bx.l (wC (au 4) (gL (af.b aq)) oh (gL (af.b aq)))))))
 (ay (jI (cI (n:=2) (az (aS (az (au 0) (aN (ab 3) (aN (aZ (ab 4) (af.b aq)) aE)))) (az (aS (az (au 1) (az (au 2) (aN (ab 3) (aN (aZ (ab 4) (af.b (gB (af.b aq)))) aE))))) aE)) ‹11›))
 (ay (zU (bx.l (bJ (m:=true) (k:=2) (cs:=[0,2,3]) (d8.c (bO (au 5))) (mP (bG (aD 0) (bG (aD 1) fW))) cE (aS (az (au 2) (az (au 3) (aN (ab 4) (aN (ab 0) (aN (ab 1) aE)))))))))
 (ay (zU (bx.l (bJ (m:=true) (k:=2) (cs:=[3]) (d8.c (bO (au 6))) (mP (bG (aD 0) (bG (aD 1) fW))) cE (bp.i (aZ (aZ (ab 2) (ab 0)) (ab 1))))))
 (ay (aO (Ka (ab 7)))
 (ay (fo (m:=true) (bO (au 5)) (mP (bG (aD 9) (bG (aD 10) fW)))
 (xZ (ab 9) (ab 10) (ab 8)))
 (fo (m:=true) (bO (au 6)) (mP (bG (aD 9) (bG (aD 10) fW)))
 (xZ (ab 9) (ab 10) (ab 8))))))))))⟩
theorem uC (T:Txt K mg ad) (hbm:eJ mg base):dv P w K mg base jq 2 ad.jT ad.j3 ["works", "stretches", "table", "place"] (kQ .v K [true,true,false,false] dk):=by
 rw [jC]
 exact dS.rG (N:=["works", "stretches", "table", "place", "many"]) T.dk mQ [true,true,false,false] rfl g7 fun cdv A outer s H E hr=>⟨_,
 (ai (aJ (i:=4) mQ.nd rfl (Pn rfl) ‹10›)
 (ai (dO (aT qK (pv 3) (pv 4) (aX _))
 (aA (bc (wU rfl (eZ rfl T.z_range (aa (pv 4) ak)) (ts:=["work"]) (zs:=["table", "place", "many"]) (k:=1) (is:=[2,3,4]) rfl (.cons rfl (.cons rfl ‹53›)) (.cons rfl (OQ rfl) rfl ‹3› ‹60›) rfl rfl rfl ‹63› ‹0› (fun _ _ _ _ _=>(aT oF (aG ‹6› (aG ‹6› (pv 1) (pv 0) ‹8›) (aU eG (pv 2) (pv 3)) ‹8›) aw (aX _))) (fun _ _ _ _ _=>(pv 0)) rfl rfl ‹4›)))
 cb)
 (aA (bc (wU rfl (eZ rfl T.z_range (aa (aH (bI (K:=K) rfl) rfl T.z_len dA (aa (pv 1) ak)) ak)) (ts:=["number"]) (zs:=["works", "stretches", "table", "place", "many"]) (k:=1) (is:=[0,1,2,3,4]) rfl (.cons rfl (.cons rfl (.cons rfl (.cons rfl ‹53›)))) (.cons rfl (OQ rfl) rfl ‹3› (.cons rfl (OQ rfl) rfl ‹3› (.cons rfl (OQ rfl) rfl ‹3› ‹60›))) rfl rfl rfl ‹63› ‹0› (fun _ _ _ _ _=>(aT oF (aQ (oG T hbm) ‹9› rfl T.qL T.cU.kp T.qV .nil bT (aa (pv 1) (aa (pv 2) (aa (pv 3) (aa (pv 4) (aa (pv 0) ak)))))) aw (aX _))) (fun _ _ _ _ _=>(aU eR (pv 5) (pv 0))) rfl rfl ‹4›))))),
 (ay (aO (dy (ab 0)))
 (ay (dN (aR (af.b (qH (ab 3) (ab 4))))
 (bt (bx.l (bJ (m:=true) (k:=1) (cs:=[2,3,4]) (d8.c (eV (ab 4))) (aD 0) (aR (af.b (oj (aZ (aZ (ab 1) (ab 0)) (af.b (eE (ab 2) (ab 3)))) (af.b aq)))) (au 0))))
 bZ)
 (bt (bx.l (bJ (m:=true) (k:=1) (cs:=[0,1,2,3,4]) (d8.c (eV (af.b (dy (ab 1))))) (aD 0) (aR (af.b (oj (af.b (aS (az (au 1) (az (au 2) (aN (ab 3) (aN (ab 4) (aN (ab 0) aE))))))) (af.b aq)))) (eQ (ab 5) (ab 0)))))))⟩
theorem sR (T:Txt K mg ad) (hbm:eJ mg base):dv P w K mg base jq 3 ad.p9 ad.qj ["works", "stretches", "table"] (kQ .l K [true,true,false] dB):=by
 rw [mU]
 exact dS.NS (N:=["works", "stretches", "table", "places", "sources", "place", "looked", "source", "near"]) T.dB dX [true,true,false] rfl mD fun cdv A outer s H E hr=>⟨_,
 (ai (Aj (i:=3) dX.nd rfl rfl rfl (eZ rfl T.z_range (aa ‹10› ak)) (ts:=["number"]) (zs:=["works", "table"]) (k:=1) (is:=[0,2]) rfl (.cons rfl ‹53›) ‹60› rfl rfl rfl ‹63› ‹0› (fun _ _ _ _ _=>(aT oF (aQ (ji T hbm) ‹9› rfl T.jR T.bz.kp T.ke .nil bT (aa (pv 1) (aa (pv 2) (aa (pv 0) ak)))) aw (aX _))) (fun _ _ _ _ _=>(pv 0)) rfl rfl ‹4›)
 (ai (aJ (i:=4) dX.nd rfl (OQ rfl) FH)
 (ai (eF PM rfl (bh (K:=K) rfl (pv 3)) (bP (i:=5) dX.nd rfl (OQ rfl)) (aA (BN (yO hr) (pv 4) (pv 5) (pv 5) rfl)))
 (ai (aJ (i:=6) dX.nd rfl (OQ rfl) aw)
 (ai (oB PM (aT kZ (pv 6) (aH (bI (K:=K) rfl) rfl T.z_len dA (aa (pv 3) ak)) (aX _))
 (ai (aJ (i:=7) dX.nd rfl (OQ rfl) (aG ‹6› (pv 3) (pv 6) ‹8›))
 (ai (Ak (i:=6) dX.nd rfl (OQ rfl) aw AG)
 (aA (eF PM rfl (bh (K:=K) rfl (aQ (uC T hbm) ‹9› rfl T.w6 T.dk.kp T.xE .nil bT (aa (pv 0) (aa (pv 1) (aa (pv 2) (aa (pv 7) ak)))))) (bP (i:=8) dX.nd rfl (OQ rfl))
 (aA (dO (Km (C8 (yO hr) (pv 8) (pv 4)))
 (ai (BN (yO hr) (pv 4) (pv 8) (pv 7) rfl)
 (aA (gW (qJ Qq Rb Rc h9 (pv 3) (aa (pv 8) ak)))))
 cb)))))))
 (aA (bc (pv 4)))))))),
 (ay (si (bJ (m:=true) (k:=1) (cs:=[0,2]) (d8.c (eV (af.b (dy (ab 0))))) (aD 0) (aR (af.b (oj (af.b (aS (az (au 1) (aN (ab 2) (aN (ab 0) aE))))) (af.b aq)))) (au 0)))
 (ay HK
 (ay CV
 (ay (aO aq)
 (ay (og (aR (af.b (kU (ab 6) (af.b (dy (ab 3))))))
 (ay (aO (Kc (ab 6)))
 (ay (zV (af.b aq))
 (fo (m:=true) (bO (aS (az (au 0) (az (au 1) (aN (ab 2) (aN (ab 7) aE)))))) (aD 8)
 (dN (aR (af.b (C1 (ab 8) (ab 4))))
 (ay (HL (ab 7) (ab 8))
 (zW (au 8)))
 bZ)))))
 E3)))))⟩
theorem C9 (T:Txt K mg ad) (hbm:eJ mg base):dv P w K mg base jq 1 ad.tw ad.tM ["sources", "place", "many"] (kQ .v K [true,true,true] gy):=by
 rw [o7]
 exact dS.rG (N:=["sources", "place", "many", "places"]) T.gy vb [true,true,true] rfl pj fun cdv A outer s H E hr=>⟨_,
 (ai (aJ (i:=3) vb.nd rfl (OQ rfl) (cw (aa (pv 1) ak)))
 (ai (oB PM (aT (sP (K:=K) hr.units) (BR (yO hr) (pv 0) (aG ‹6› (pv 3) (kq gz aw) ‹8›) ‹8›) (aG ‹6› (pv 3) (kq gz aw) ‹8›) (aX _))
 (aA (gW (qJ Qq Rb Rc h9 (pv 3) (aa (BR (yO hr) (pv 0) (aG ‹6› (pv 3) (kq gz aw) ‹8›) ‹8›) ak)))))
 (aA (bc (dZ rfl (Kq (K:=K) rfl rfl T.z_reversed (pv 3)) (ts:=["each"]) (zs:=["many"]) (k:=1) (is:=[2]) rfl ‹53› ‹2› rfl rfl rfl ‹63› ‹0› (fun _ _ _ _ _=>(FG (aT kZ (pv 0) (pv 1) (aX _)) (pv 0) (aU eG (pv 0) (pv 1)))) rfl rfl ‹4›))))),
 (ay (jI (cI (n:=1) (az (au 1) aE) ‹11›))
 (ay (og (aR (af.b (km (neg:=true) (af.b (BC (ab 0) (aZ (ab 3) (af.b (gB (af.b aq)))))) (aZ (ab 3) (af.b (gB (af.b aq)))))))
 (zW (BC (ab 0) (aZ (ab 3) (af.b (gB (af.b aq)))))))
 (bt (bx.l (bJ (m:=false) (k:=1) (cs:=[2]) (EW (ab 3)) (aD 0) cE (L6 (aR (af.b (kU (ab 0) (ab 1)))) (bp.i (ab 0)) (eE (ab 0) (ab 1))))))))⟩
theorem ku (T:Txt K mg ad) (hbm:eJ mg base):dv P w K mg base jq 4 ad.iw ad.iC ["works", "benches", "stretches", "table"] (kQ .v K [true,true,true,false] bB):=by
 rw [iI]
 exact dS.rG (N:=["works", "benches", "stretches", "table", "sources", "place", "number"]) T.bB eO [true,true,true,false] rfl fM fun cdv A outer s H E hr=>⟨_,
 (ai (aJ (i:=4) eO.nd rfl (OQ rfl) (aQ (sR T hbm) ‹9› rfl T.vn T.dB.kp T.vK .nil bT (aa (pv 0) (aa (pv 2) (aa (pv 3) ak)))))
 (ai (eF PM rfl (Ia (pv 4)) (bP (i:=5) eO.nd rfl (OQ rfl))
 (ai (aJ (i:=6) eO.nd rfl (OQ rfl) (aU eG (pv 5) ‹10›))
 (aA (dO (PW.pt (wM (aT qK (pv 6) aw (aX _)) (rE (aT oF (aQ (kr T hbm) ‹9› rfl T.lh T.bA.kp T.lT .nil bT (aa (pv 1) (aa (pv 2) (aa (pv 3) (aa (pv 6) ak))))) aw (aX _)))))
 (aA (bc (aQ (C9 T hbm) ‹9› rfl T.FU T.gy.kp T.G7 .nil bT (aa (pv 4) (aa (pv 5) (aa ‹10› ak))))))
 cb))))
 (aA (bc (cw ak))))),
 (ay (E1 (az (au 0) (az (au 2) (aN (ab 3) aE))))
 (ay (HN (aD 5)
 (ay (aO (eE (ab 5) (af.b (dy (ab 0)))))
 (dN (wo (aR (af.b (qH (ab 6) (af.b aq)))) (aR (af.b (oj (af.b (aS (az (au 1) (az (au 2) (aN (ab 3) (aN (ab 6) aE)))))) (af.b aq)))))
 (bt (aS (az (au 4) (az (au 5) (az (dy (ab 0)) aE)))))
 bZ)))
 (bt (bx.l (cI (n:=0) aE ‹11›)))))⟩
theorem rg (T:Txt K mg ad) (hbm:eJ mg base):dv P w K mg base jq 1 ad.ik ad.iz ["works"] (kQ .v K [true] cL):=by
 rw [iF]
 exact dS.rG (N:=["works", "moments"]) T.cL kn [true] rfl fJ fun cdv A outer s H E hr=>⟨_,
 (ai (aJ (i:=1) kn.nd rfl (OQ rfl) (vh (K:=K) rfl rfl rfl T.z_sorted rfl T.z_set (aU rF (dZ rfl (bh (K:=K) rfl (pv 0)) (ts:=["work"]) (zs:=[]) (k:=1) (is:=[]) rfl .nil .nil rfl rfl rfl ‹63› ‹0› (fun _ _ _ _ _=>(aG ‹6› (pv 0) (cX rfl T.c_COME) ‹8›)) rfl rfl ‹4›) (dZ rfl (bh (K:=K) rfl (pv 0)) (ts:=["work"]) (zs:=[]) (k:=1) (is:=[]) rfl .nil .nil rfl rfl rfl ‹63› ‹0› (fun _ _ _ _ _=>(aG ‹6› (pv 0) (cX rfl T.c_DUE) ‹8›)) rfl rfl ‹4›))))
 (aA (bc (dZ rfl (Ko (K:=K) rfl rfl T.z_zip (aa (pv 1) (aa (FF (Ff (K:=K) rfl) (pv 1) (gX aw) oC) ak))) (ts:=["begin", "end"]) (zs:=[]) (k:=2) (is:=[]) rfl .nil .nil rfl rfl rfl (rH (lows_cons ‹63› (lows_cons ‹63› oM))) ‹59› (fun _ _ _ _ _=>(cw (aa (pv 0) (aa (pv 1) ak)))) rfl rfl ‹4›)))),
 (ay (aO (bx.l (BD (af.b (bx.l (wF (bx.l (bJ (m:=true) (k:=1) (cs:=[]) (d8.c (bO (au 0))) (aD 0) cE (dD (au 0) (af.b aq)))) (bx.l (bJ (m:=true) (k:=1) (cs:=[]) (d8.c (bO (au 0))) (aD 0) cE (dD (au 0) (af.b aq))))))))))
 (bt (bx.l (bJ (m:=true) (k:=2) (cs:=[]) (d8.c (J4 (au 1) (bx.l (L7 (au 1) (gL (af.b aq)) oh)))) (mP (bG (aD 0) (bG (aD 1) fW))) cE (bx.l (cI (n:=2) (az (au 0) (az (au 1) aE)) ‹11›))))))⟩
theorem vm (T:Txt K mg ad) (hbm:eJ mg base):dv P w K mg base jq 5 ad.tx ad.tN ["works", "benches"] (kQ .v K [true,true] cQ):=by
 rw [o8]
 exact dS.rG (N:=‹34›) T.cQ ju [true,true] rfl pz fun cdv A outer s H E hr=>⟨_,
 (ai (aJ (i:=2) ju.nd rfl (Pn rfl) (aQ (rg T hbm) ‹9› rfl T.sU T.cL.kp T.t7 .nil bT (aa (pv 0) ak)))
 (ai (wN (i:=3) ju.nd rfl rfl rfl (bh (K:=K) rfl (pv 0)) (ts:=["work"]) (zs:=["stretches"]) (k:=1) (is:=[2]) rfl ‹53› ‹2› rfl rfl rfl ‹63› ‹0› (fun _ _ _ _ _=>(aU An (cw (aa aw ak)) (aH (bI (K:=K) rfl) rfl T.z_len dA (aa (pv 1) ak)))) rfl rfl ‹4›)
 (ai (aJ (i:=4) ju.nd rfl (OQ rfl) (aQ (ku T hbm) ‹9› rfl T.lp T.bB.kp T.lU .nil bT (aa (pv 0) (aa (pv 1) (aa (pv 2) (aa (pv 3) ak))))))
 (ai (oB PM (bW (K:=K) rfl (pv 4) (fun _=>rfl))
 (ai (gW (aQ (uD T hbm) ‹9› rfl T.xa T.dm.kp T.xF .nil bT (aa (pv 0) (aa (pv 1) (aa (pv 2) (aa (pv 3) (aa (pv 4) ak)))))))
 (aA (aJ (i:=4) ju.nd rfl (OQ rfl) (aQ (ku T hbm) ‹9› rfl T.lp T.bB.kp T.lU .nil bT (aa (pv 0) (aa (pv 1) (aa (pv 2) (aa (pv 3) ak)))))))))
 (aA (bc (Am (aa (pv 2) (aa (pv 3) ak))))))))),
 (ay (aO (aS (az (au 0) aE)))
 (ay (EZ (HQ (m:=true) (k:=1) (cs:=[2]) (d8.c (bO (au 0))) (aD 0) cE (z8 (cI (n:=1) (az aq aE) ‹11›) (af.b (dy (ab 1))))))
 (ay (aO (aS (az (au 0) (az (au 1) (az (au 2) (aN (ab 3) aE))))))
 (ay (og (dW (K:=K) (ab 4))
 (ay (E7 (i:=3) (vW (au 0) (vW (au 1) (vW (au 2) (HI (az (au 4) aE))))))
 (aO (aS (az (au 0) (az (au 1) (az (au 2) (aN (ab 3) aE))))))))
 (E6 3 (bt (z7 (n:=2) (az (au 2) (az (au 3) aE)) ‹11›)))))))⟩
theorem As (T:Txt K mg ad) (hbm:eJ mg base):dv P w K mg base jq 1 ad.qg ad.qo ["row", "later"] (kQ .v K [false,false] fj):=by
 rw [mY]
 exact dS.rG (N:=["row", "later"]) T.fj Ac [false,false] rfl mH fun cdv A outer s H E hr=>⟨_,
 (aA (bc (sO (iS (nj (K:=K) hr.units) (aG ‹6› (pv 0) (cX rfl T.c_BENCH) ‹8›) (aG ‹6› (pv 1) (cX rfl T.c_BENCH) ‹8›) (aX _)) (sO (iS (nj (K:=K) hr.units) (aG ‹6› (pv 0) (cX rfl T.c_WORK) ‹8›) (aG ‹6› (pv 1) (cX rfl T.c_WORK) ‹8›) (aX _)) (wQ (iS (nj (K:=K) hr.units) (aG ‹6› (pv 0) (cX rfl T.c_END) ‹8›) (aG ‹6› (pv 1) (cX rfl T.c_BEGIN) ‹8›) (aX _))))))),
 (bt (oq (af.b (km (neg:=false) (aZ (ab 0) (af.b aq)) (aZ (ab 1) (af.b aq)))) (oq (af.b (km (neg:=false) (aZ (ab 0) (af.b aq)) (aZ (ab 1) (af.b aq)))) (km (neg:=false) (aZ (ab 0) (af.b aq)) (aZ (ab 1) (af.b aq))))))⟩
theorem Dd (T:Txt K mg ad) (hbm:eJ mg base):dv P w K mg base jq 2 ad.tF ad.oU ["rows"] (kQ .m K [false] fI):=by
 rw [ph]
 exact dS.Nl (N:=["rows", "fewest", "row"]) T.fI pN [false] rfl pB fun cdv hcd A outer s H E hr=>⟨_,
 (ai (aJ (i:=1) pN.nd rfl (OQ rfl) (cw ak))
 (ai (eF PM rfl (bh (K:=K) rfl (aH (D3 (K:=K) rfl rfl hr) rfl T.z_sorted qw (aa (pv 0) ak))) (bP (i:=2) pN.nd rfl (OQ rfl))
 (aA (dO (PW.pt (wM (bW (K:=K) rfl (pv 1) (fun _=>rfl)) (rE (bW (K:=K) rfl (aQ (As T hbm) ‹9› rfl T.Dp T.fj.kp T.D8 .nil bT (aa (aG ‹6› (pv 1) (kq gz aw) ‹8›) (aa (pv 2) ak))) (fun _=>rfl)))))
 (aA (pP (aG ‹6› (pv 2) (cX rfl T.c_END) ‹8›) (sN (aG ‹6› (pv 1) (kq gz aw) ‹8›) (cX rfl T.c_END) set_list)))
 (aA (gW (qJ Qq Rb Rc h9 (pv 1) (aa (mj (gc (K:=K) rfl) rfl T.z_list gg (aa (pv 2) ak)) ak)))))))
 (aA (bc (FE (K:=K) (x := "each") (zs:=[]) (is:=[]) (q := "joined.<locals>.<lambda>") rfl ⟨hcd.symm.trans T.DB,T.Dx,hbm⟩ hr rfl rfl T.z_sorted (pv 1) (kh.many .nil .nil ‹4› rfl ‹4› rfl rfl rfl) (by first | rfl | decide +kernel) rfl (fun _ _ _ _ _=>(Am (aa (aG ‹6› (pv 0) (cX rfl T.c_BEGIN) ‹8›) (aa (aG ‹6› (pv 0) (cX rfl T.c_BENCH) ‹8›) ak))))))))),
 (ay (wq Fe)
 (ay (fo (m:=false) (HF (Fd 0)) (aD 2)
 (dN (wo (dW (K:=K) (ab 1)) (dW (K:=K) (af.b (aS (aN (aZ (ab 1) (af.b (gB (af.b aq)))) (aN (ab 2) aE))))))
 (HM (bp.i (aZ (ab 2) (af.b aq))) (af.b (gB (af.b aq))) (af.b aq))
 (Bv (Fn (ab 2)))))
 (E4 (i:=1) (cs:=[]) T.Dw (z7 (n:=2) (az (bp.i (aZ (ab 0) (af.b aq))) (az (bp.i (aZ (ab 0) (af.b aq))) aE)) ‹11›))))⟩
theorem rh (T:Txt K mg ad) (hbm:eJ mg base):dv P w K mg base jq 5 ad.iq ad.iA ["stretch", "hours", "benches"] (kQ .v K [true,true,true] cM):=by
 rw [iG]
 exact dS.rG (N:=["stretch", "hours", "benches", "begin", "length"]) T.cM gE [true,true,true] rfl fK fun cdv A outer s H E hr=>⟨_,
 (ai (aJ (i:=3) gE.nd rfl (Pn rfl) (aG ‹6› (pv 0) aw ‹8›))
 (ai (aJ (i:=4) gE.nd rfl (OQ rfl) (aU eG (aG ‹6› (pv 0) aw ‹8›) (pv 3)))
 (aA (bc (dZ rfl (bh (K:=K) rfl (aQ (Aq T hbm) ‹9› rfl T.Dk T.fe.kp T.D6 .nil bT (aa (pv 1) (aa (pv 2) (aa (pv 4) ak))))) (ts:=["bench", "work", "first", "last"]) (zs:=["begin"]) (k:=4) (is:=[3]) rfl ‹53› ‹2› rfl rfl rfl (rH (lows_cons ‹63› (lows_cons ‹63› (lows_cons ‹63› (lows_cons ‹63› oM))))) (fun _ _ _ _ _=>(fZ (K:=K) rfl rfl (bH (eB (i:=0) ‹4› rfl (OQ rfl) (Pn rfl)) (bH (eB (i:=1) ‹4› rfl (OQ rfl) (Pn rfl)) (bH (eB (i:=2) ‹4› rfl (OQ rfl) (Pn rfl)) (bH (eB (i:=3) ‹4› rfl (OQ rfl) (Pn rfl)) fY)))))) (fun _ _ _ _ _=>(cw (aa (pv 0) (aa (pv 1) (aa (aU eR (pv 4) (pv 2)) (aa (aU eR (pv 4) (pv 3)) ak)))))) rfl rfl ‹4›))))),
 (ay (aO (dD (au 0) (af.b aq)))
 (ay (aO (eE (aZ (ab 0) (af.b aq)) (ab 3)))
 (bt (bx.l (bJ (m:=true) (k:=4) (cs:=[3]) (d8.c (bO (aS (aN (ab 1) (aN (ab 2) (aN (ab 4) aE)))))) (mP (bG (aD 0) (bG (aD 1) (bG (aD 2) (bG (aD 3) fW))))) cE (bx.l (cI (n:=4) (az (au 0) (az (au 1) (az (eQ (ab 4) (ab 2)) (az (eQ (ab 4) (ab 3)) aE)))) ‹11›)))))))⟩
theorem sQ (T:Txt K mg ad) (hbm:eJ mg base):dv P w K mg base jq 6 ad.jj ad.jk ["works", "benches"] (kQ .v K [true,true] cH):=by
 rw [fG]
 exact dS.rG (N:=["works", "benches", "told", "stretches", "table", "rows", "number", "stretch"]) T.cH cW [true,true] rfl eN fun cdv A outer s H E hr=>⟨_,
 (ai (aJ (i:=2) cW.nd rfl (OQ rfl) (aQ (vm T hbm) ‹9› rfl T.yB T.cQ.kp T.zk .nil bT (aa (pv 0) (aa (pv 1) ak))))
 (ai (aJ (i:=3) cW.nd rfl (OQ rfl) ‹62›)
 (ai (aJ (i:=4) cW.nd rfl (Pn rfl) ‹62›)
 (ai (dO (bW (K:=K) rfl (aH (D5 (K:=K) rfl rfl) rfl T.z_any Lq (aa (dZ rfl (eZ rfl T.z_range (aa ‹10› ak)) (ts:=["work"]) (zs:=["works", "table"]) (k:=1) (is:=[0,4]) rfl (.cons rfl ‹53›) ‹60› rfl rfl rfl ‹63› ‹0› (fun _ _ _ _ _=>(iS oF (aQ (ji T hbm) ‹9› rfl T.jR T.bz.kp T.ke .nil bT (aa (pv 1) (aa (pv 2) (aa (pv 0) ak)))) aw (aX _))) rfl rfl ‹4›) ak)) (fun _=>rfl))
 (aA (bc wR))
 cb)
 (ai (aJ (i:=5) cW.nd rfl (OQ rfl) (cw ak))
 (ai (eF PM rfl (yn (K:=K) rfl rfl T.z_enumerate (pv 3)) (fZ (K:=K) rfl rfl (bH (bP (i:=6) cW.nd rfl (Pn rfl)) (bH (bP (i:=7) cW.nd rfl (OQ rfl)) fY)))
 (aA (gW (qJ Qq SY S0 wZ (pv 5) (aa (aQ (rh T hbm) ‹9› rfl T.sV T.cM.kp T.t8 .nil bT (aa (pv 7) (aa (dZ rfl (bh (K:=K) rfl (pv 4)) (ts:=["row"]) (zs:=["number"]) (k:=1) (is:=[6]) rfl ‹53› ‹2› rfl rfl rfl ‹63› ‹0› (fun _ _ _ _ _=>(aG ‹6› (pv 0) (pv 1) ‹8›)) rfl rfl ‹4›) (aa (pv 1) ak)))) ak)))))
 (aA (bc (aQ (Dd T hbm) ‹9› rfl T.FW T.fI.kp T.G9 .nil bT (aa (pv 5) ak)))))))))),
 (ay (aO (aS (az (au 0) (az (au 1) aE))))
 (ay (aO (dD (au 2) (af.b aq)))
 (ay (aO (dD (au 2) (af.b aq)))
 (ay (dN (dW (K:=K) (af.b (Kd (af.b (bx.l (bJ (m:=true) (k:=1) (cs:=[0,4]) (d8.c (eV (af.b (dy (ab 0))))) (aD 0) cE (oj (af.b (aS (az (au 1) (aN (ab 2) (aN (ab 0) aE))))) (af.b aq))))))))
 (bt wz)
 bZ)
 (ay (jI (cI (n:=0) aE ‹11›))
 (ay (fo (m:=true) (HG (au 3)) (mP (bG (aD 6) (bG (aD 7) fW)))
 (zU (aS (az (au 7) (az (bx.l (bJ (m:=true) (k:=1) (cs:=[6]) (d8.c (bO (au 4))) (aD 0) cE (dD (au 0) (ab 1)))) (az (au 1) aE))))))
 (bt (aS (aN (ab 5) aE)))))))))⟩
theorem wV (T:Txt K mg ad) (hbm:eJ mg base):dv P w K mg base jq 6 ad.lC ad.lK ["works", "benches"] (kQ .v K [true,true] cN):=by
 rw [kD]
 exact dS.rG (N:=["works", "benches", "told", "stretches", "places", "many", "some"]) T.cN et [true,true] rfl i9 fun cdv A outer s H E hr=>⟨_,
 (ai (aJ (i:=2) et.nd rfl (OQ rfl) (aQ (vm T hbm) ‹9› rfl T.yB T.cQ.kp T.zk .nil bT (aa (pv 0) (aa (pv 1) ak))))
 (ai (aJ (i:=3) et.nd rfl (Pn rfl) ‹62›)
 (ai (aJ (i:=4) et.nd rfl (OQ rfl) (aH (A2 rfl) rfl T.z_sorted qw (aa (aQ (sR T hbm) ‹9› rfl T.vn T.dB.kp T.vK .nil bT (aa (pv 0) (aa (pv 3) (aa ‹62› ak)))) ak)))
 (ai (dO (gF (bW (K:=K) rfl (pv 4) (fun _=>rfl)))
 (aA (bc wR))
 cb)
 (ai (aJ (i:=5) et.nd rfl (Pn rfl) ‹10›)
 (ai (Aj (i:=6) et.nd rfl rfl rfl (bh (K:=K) rfl (pv 4)) (ts:=["place"]) (zs:=["many"]) (k:=1) (is:=[5]) rfl ‹53› ‹2› rfl rfl rfl ‹63› ‹0› (fun _ _ _ _ _=>(aT kZ (pv 0) (pv 1) (aX _))) (fun _ _ _ _ _=>(pv 0)) rfl rfl ‹4›)
 (aA (bc (Am (aa (pv 6) (aa (wU rfl (bh (K:=K) rfl (pv 4)) (ts:=["place"]) (zs:=["many", "stretches"]) (k:=1) (is:=[5,3]) rfl (.cons rfl ‹53›) ‹60› rfl rfl rfl ‹63› ‹0› (fun _ _ _ _ _=>(aT qK (pv 0) (pv 1) (aX _))) (fun _ _ _ _ _=>(aG ‹6› (pv 2) (aU eG (pv 0) (pv 1)) ‹8›)) rfl rfl ‹4›) ak))))))))))),
 (ay (aO (aS (az (au 0) (az (au 1) aE))))
 (ay (aO (dD (au 2) (af.b aq)))
 (ay (aO (bx.l (HV (af.b (aS (az (au 0) (az (au 3) (aN (aZ (ab 2) (af.b aq)) aE))))))))
 (ay (dN (gA (dW (K:=K) (ab 4)))
 (bt wz)
 bZ)
 (ay (aO (dy (ab 0)))
 (ay (wt (bx.l (bJ (m:=true) (k:=1) (cs:=[5]) (d8.c (bO (au 4))) (aD 0) (aR (af.b (kU (ab 0) (ab 1)))) (au 0))))
 (bt (z7 (n:=2) (az (au 6) (az (bx.l (bJ (m:=true) (k:=1) (cs:=[5,3]) (d8.c (bO (au 4))) (aD 0) (aR (af.b (qH (ab 0) (ab 1)))) (dD (au 2) (af.b (eE (ab 0) (ab 1)))))) aE)) ‹11›))))))))⟩
theorem jO (T:Txt K mg ad) (hbm:eJ mg base):dv P w K mg base jq 1 ad.qc ad.qk ["_law_found"] (kQ .v K [false] cm):=by
 rw [mV]
 exact dS.rG (N:=["_law_found"]) T.cm Ab [false] rfl mE fun cdv A outer s H E hr=>⟨_,
 (aA (bc (sO (aH (fb (K:=K) rfl) rfl T.z_isinstance cT (aa (pv 0) (aa (iT (v:=.ty "int") rfl T.z_int Lp rfl) ak))) (wQ (Kv (aH (fb (K:=K) rfl) rfl T.z_isinstance cT (aa (pv 0) (aa (iT (v:=.ty "bool") rfl T.z_bool IQ rfl) ak)))))))),
 (bt (oq (af.b (kW (n := "int") (ab 0))) (HS (af.b (kW (n := "bool") (ab 0))))))⟩
theorem gY (T:Txt K mg ad) (hbm:eJ mg base):dv P w K mg base jq 1 ad.lG ad.lO ["_law_script", "_law_k"] (kQ .v K [false,false] bQ):=by
 rw [kH]
 exact dS.rG (N:=["_law_script", "_law_k"]) T.bQ wH [false,false] rfl jd fun cdv A outer s H E hr=>⟨_,
 (ai (dO (aT kZ (pv 1) ‹10› (aX _))
 (aA (bc (aG ‹6› (pv 0) (pv 1) ‹8›)))
 cb)
 (aA (bc aw))),
 (ay (dN (aR (af.b (kU (ab 1) (af.b (dy (ab 0))))))
 (bt (bp.i (aZ (ab 0) (ab 1))))
 bZ)
 (bt aq))⟩
theorem nq (T:Txt K mg ad) (hbm:eJ mg base):dv P w K mg base jq 1 ad.qd ad.ql ["_law_cell", "_law_k"] (kQ .v K [false,false] de):=by
 rw [mW]
 exact dS.rG (N:=["_law_cell", "_law_k", "_law_number"]) T.de su [false,false] rfl mF fun cdv A outer s H E hr=>⟨_,
 (ai (aJ (i:=2) su.nd rfl (OQ rfl) (aU fB (aU eR (aU eR (aU iU (pv 0) aw) (aU iU (aU iU (pv 1) (pv 1)) aw)) aw) aw))
 (aA (bc (aU fB (aU iU (pv 2) (pv 2)) aw)))),
 (ay (aO (fq (af.b (eQ (af.b (eQ (af.b (kT (ab 0) (af.b aq))) (af.b (kT (af.b (kT (ab 1) (ab 1))) (af.b aq))))) (af.b aq))) (af.b aq)))
 (bt (fq (af.b (kT (ab 2) (ab 2))) (af.b aq))))⟩
theorem Ar (T:Txt K mg ad) (hbm:eJ mg base):dv P w K mg base jq 2 ad.qe ad.qm ["_law_script"] (kQ .v K [false] fg):=by
 rw [mX]
 exact dS.rG (N:=["_law_script", "_law_cell", "_law_many", "_law_numbers", "_law_k", "_law_mode", "_law_hours_here", "_law_far"]) T.fg dJ [false] rfl mG fun cdv A outer s H E hr=>⟨_,
 (ai (aJ (i:=1) dJ.nd rfl (OQ rfl) (aQ (gY T hbm) ‹9› rfl T.iV T.bQ.kp T.i6 .nil bT (aa (pv 0) (aa aw ak))))
 (ai (aJ (i:=2) dJ.nd rfl (OQ rfl) (aG ‹6› (cw (aa (aU fB (aU ic (pv 1) aw) aw) (aa aw (aa (aU fB (aU ic (pv 1) aw) aw) ak)))) (aU fB (pv 1) aw) ‹8›))
 (ai (wN (i:=3) dJ.nd rfl rfl rfl (eZ rfl T.z_range (aa aw ak)) (ts:=["_law_k"]) (zs:=["_law_script"]) (k:=1) (is:=[0]) rfl ‹53› ‹2› rfl rfl rfl ‹63› ‹0› (fun _ _ _ _ _=>(aQ (nq T hbm) ‹9› rfl T.pW T.de.kp T.qz .nil bT (aa (aQ (gY T hbm) ‹9› rfl T.iV T.bQ.kp T.i6 .nil bT (aa (pv 1) (aa aw ak))) (aa (aU eR aw (pv 0)) ak)))) rfl rfl ‹4›)
 (ai (eF PM rfl (C7 rfl T.z_range (aa aw (aa (aH (vE rfl) rfl T.z_min A4 (aa aw (aa ‹10› ak))) ak))) (bP (i:=4) dJ.nd rfl (OQ rfl))
 (aA (pP (aQ (nq T hbm) ‹9› rfl T.pW T.de.kp T.qz .nil bT (aa (aU eR (aG ‹6› (pv 3) (aU fB (pv 4) aw) ‹8›) (aG ‹6› (pv 0) (pv 4) ‹8›)) (aa (pv 4) ak))) (sN (pv 3) (aU fB (pv 4) aw) set_list))))
 (ai (aJ (i:=5) dJ.nd rfl (OQ rfl) (aU fB (aQ (gY T hbm) ‹9› rfl T.iV T.bQ.kp T.i6 .nil bT (aa (pv 0) (aa aw ak))) aw))
 (ai (aJ (i:=6) dJ.nd rfl (OQ rfl) (cw ak))
 (ai (eF PM rfl (eZ rfl T.z_range (aa (pv 2) ak)) (bP (i:=4) dJ.nd rfl (OQ rfl))
 (ai (aJ (i:=7) dJ.nd rfl (OQ rfl) (aU eR (aU iU (aG ‹6› (pv 3) (pv 4) ‹8›) (aU FK aw aw)) (aQ (nq T hbm) ‹9› rfl T.pW T.de.kp T.qz .nil bT (aa (aG ‹6› (pv 3) (pv 4) ‹8›) (aa aw ak)))))
 (aA (gW (qJ Qq Rb Rc h9 (pv 6) (aa (aG ‹6› (cw (aa (aU fB (aG ‹6› (pv 3) (pv 4) ‹8›) aw) (aa (aU iU (pv 7) (aU fB (aU fB (aG ‹6› (pv 3) (pv 4) ‹8›) aw) aw)) (aa (pv 7) (aa (aU FK aw aw) ak))))) (pv 5) ‹8›) ak))))))
 (aA (bc (pv 6)))))))))),
 (ay (aO (aS (aN (ab 0) (aN (af.b aq) aE))))
 (ay (aO (dD (bx.l (cI (n:=3) (az (fq (af.b (jJ (ab 1) (af.b aq))) (af.b aq)) (az aq (az (fq (af.b (jJ (ab 1) (af.b aq))) (af.b aq)) aE))) ‹11›)) (af.b (fq (ab 1) (af.b aq)))))
 (ay (si (bJ (m:=true) (k:=1) (cs:=[0]) (d8.c (eV (af.b aq))) (aD 0) cE (aS (aN (af.b (aS (aN (ab 1) (aN (af.b aq) aE)))) (aN (af.b (eQ (af.b aq) (ab 0))) aE)))))
 (ay (fo (m:=true) (CN (af.b aq) (af.b (BB (af.b aq) (af.b (dy (ab 0)))))) (aD 4)
 (wu (aS (aN (af.b (eQ (aZ (ab 3) (af.b (fq (ab 4) (af.b aq)))) (aZ (ab 0) (ab 4)))) (aN (ab 4) aE))) (af.b (fq (ab 4) (af.b aq)))))
 (ay (aO (fq (af.b (aS (aN (ab 0) (aN (af.b aq) aE)))) (af.b aq)))
 (ay (jI (cI (n:=0) aE ‹11›))
 (ay (fo (m:=true) (eV (ab 2)) (aD 4)
 (ay (aO (eQ (af.b (kT (aZ (ab 3) (ab 4)) (af.b (Fg (af.b aq) (af.b aq))))) (af.b (aS (aN (aZ (ab 3) (ab 4)) (aN (af.b aq) aE))))))
 (zW (dD (bx.l (cI (n:=4) (az (fq (aZ (ab 3) (ab 4)) (af.b aq)) (az (kT (ab 7) (af.b (fq (af.b (fq (aZ (ab 3) (ab 4)) (af.b aq))) (af.b aq)))) (az (au 7) (az (Fg (af.b aq) (af.b aq)) aE)))) ‹11›)) (ab 5)))))
 (E6 6 (bt (au 6))))))))))⟩
theorem wW (T:Txt K mg ad) (hbm:eJ mg base):dv P w K mg base jq 2 ad.lE ad.lM ["_law_works", "_law_number", "_law_rows"] (kQ .v K [false,false,true] dE):=by
 rw [kF]
 exact dS.rG (N:=‹52›) T.dE cg [false,false,true] rfl jb fun cdv A outer s H E hr=>⟨_,
 (ai (dO (gF (bW (K:=K) rfl (aH (fb (K:=K) rfl) rfl T.z_isinstance cT (aa (pv 2) ‹46›)) (fun _=>rfl)))
 (aA (bc kY))
 cb)
 (ai (aJ (i:=3) cg.nd rfl (OQ rfl) (aU An (cw (aa aw ak)) ‹10›))
 (ai (wN (i:=4) cg.nd rfl rfl rfl (eZ rfl T.z_range (aa (pv 1) ak)) (ts:=["_law_k"]) (zs:=[]) (k:=1) (is:=[]) rfl .nil .nil rfl rfl rfl ‹63› ‹0› (fun _ _ _ _ _=>(cw (aa (kq gz aw) (aa (kq gz aw) ak)))) rfl rfl ‹4›)
 (ai (aJ (i:=5) cg.nd rfl (OQ rfl) (aU An (cw (aa aw ak)) ‹10›))
 (ai (aJ (i:=6) cg.nd rfl (OQ rfl) (cw (aa (kq gz aw) (aa (kq gz aw) ak))))
 (ai (eF PM rfl (bh (K:=K) rfl (pv 2)) (bP (i:=7) cg.nd rfl (OQ rfl))
 (ai (dO (PW.pt (fR (gF (bW (K:=K) rfl (aH (fb (K:=K) rfl) rfl T.z_isinstance cT (aa (pv 7) ‹46›)) (fun _=>rfl))) (fR (aT (sP (K:=K) hr.units) (aH (bI (K:=K) rfl) rfl T.z_len dA (aa (pv 7) ak)) aw (aX _)) (ib (gF (bW (K:=K) rfl (aH (vF (K:=K) rfl rfl) rfl T.z_all G5 (aa (dZ rfl (bh (K:=K) rfl (pv 7)) (ts:=["_law_one"]) (zs:=[]) (k:=1) (is:=[]) rfl .nil .nil rfl rfl rfl ‹63› ‹0› (fun _ _ _ _ _=>(aQ (jO T hbm) ‹9› rfl T.mr T.cm.kp T.mz .nil bT (aa (pv 0) ak))) rfl rfl ‹4›) ak)) (fun _=>rfl)))))))
 (aA (bc kY))
 cb)
 (ai (pP (pv 7) (fZ (K:=K) rfl rfl (bH (bP (i:=8) cg.nd rfl (OQ rfl)) (bH (bP (i:=9) cg.nd rfl (OQ rfl)) (bH (bP (i:=10) cg.nd rfl (OQ rfl)) (bH (bP (i:=11) cg.nd rfl (OQ rfl)) fY))))))
 (ai (dO (PW.pt (fR (aT kZ (pv 8) aw (aX _)) (fR (aT qK (pv 8) (pv 1) (aX _)) (fR (aT kZ (pv 9) aw (aX _)) (ib (aT qK (pv 9) ‹10› (aX _)))))))
 (aA (bc kY))
 cb)
 (ai (dO (PW.pt (fR (aT (Kx hr.units) (cw (aa (pv 10) (aa (pv 8) ak))) (pv 6) (aX _)) (fR (aT qK (pv 10) (pv 11) (aX _)) (ib (aT kZ (pv 10) (aH (qv rfl) rfl T.z_max tZ (aa (aG ‹6› (aG ‹6› (pv 4) (pv 8) ‹8›) aw ‹8›) (aa (aG ‹6› (pv 5) (pv 9) ‹8›) ak))) (aX _))))))
 (aA (bc kY))
 cb)
 (ai (dO (PW.pt (fR (aT (nj (K:=K) hr.units) (aG ‹6› (pv 4) (pv 8) ‹8›) (cw (aa (pv 9) (aa (pv 10) ak))) (aX _)) (fR (aT kZ (pv 10) (aG ‹6› (aG ‹6› (pv 0) (pv 9) ‹8›) aw ‹8›) (aX _)) (ib (aT oF (pv 11) (aG ‹6› (aG ‹6› (pv 0) (pv 9) ‹8›) aw ‹8›) (aX _))))))
 (aA (bc kY))
 cb)
 (ai (aJ (i:=6) cg.nd rfl (OQ rfl) (cw (aa (pv 10) (aa (pv 8) ak))))
 (ai (pP (cw (aa (pv 9) (aa (pv 11) ak))) (sN (pv 4) (pv 8) set_list))
 (ai (pP (pv 11) (sN (pv 5) (pv 9) set_list))
 (aA (pP (aU eG (aU eR (aG ‹6› (pv 3) (pv 9) ‹8›) (pv 11)) (pv 10)) (sN (pv 3) (pv 9) set_list))))))))))))
 (aA (bc (iS (nj (K:=K) hr.units) (pv 3) (dZ rfl (bh (K:=K) rfl (pv 0)) (ts:=["_law_work"]) (zs:=[]) (k:=1) (is:=[]) rfl .nil .nil rfl rfl rfl ‹63› ‹0› (fun _ _ _ _ _=>(aG ‹6› (pv 0) aw ‹8›)) rfl rfl ‹4›) (aX _)))))))))),
 (ay (dN (gA (dW (K:=K) (af.b (kW (n := "list") (ab 2)))))
 (bt kX)
 bZ)
 (ay (jI (z8 (cI (n:=1) (az aq aE) ‹11›) (af.b (dy (ab 0)))))
 (ay (si (bJ (m:=true) (k:=1) (cs:=[]) (d8.c (eV (ab 1))) (aD 0) cE (bx.l (cI (n:=2) (az (gB (af.b aq)) (az (gB (af.b aq)) aE)) ‹11›))))
 (ay (jI (z8 (cI (n:=1) (az aq aE) ‹11›) (af.b (dy (ab 0)))))
 (ay (aO (bx.l (cI (n:=2) (az (gB (af.b aq)) (az (gB (af.b aq)) aE)) ‹11›)))
 (ay (fo (m:=true) (bO (au 2)) (aD 7)
 (ay (dN (fP (gA (dW (K:=K) (af.b (kW (n := "list") (ab 7))))) (fP (aR (af.b (km (neg:=true) (af.b (dy (ab 7))) (af.b aq)))) (gA (dW (K:=K) (af.b (Fl (af.b (bx.l (bJ (m:=true) (k:=1) (cs:=[]) (d8.c (bO (au 7))) (aD 0) cE (aS (aN (ab 0) aE)))))))))))
 (bt kX)
 bZ)
 (ay (L3 (au 7) (mP (bG (aD 8) (bG (aD 9) (bG (aD 10) (bG (aD 11) fW))))))
 (ay (dN (fP (aR (af.b (kU (ab 8) (af.b aq)))) (fP (aR (af.b (qH (ab 8) (ab 1)))) (fP (aR (af.b (kU (ab 9) (af.b aq)))) (aR (af.b (qH (ab 9) (af.b (dy (ab 0)))))))))
 (bt kX)
 bZ)
 (ay (dN (fP (aR (af.b (Kb (af.b (bx.l (cI (n:=2) (az (au 10) (az (au 8) aE)) ‹11›))) (ab 6)))) (fP (aR (af.b (qH (ab 10) (ab 11)))) (aR (af.b (kU (ab 10) (af.b (wA (aZ (aZ (ab 4) (ab 8)) (af.b aq)) (aZ (ab 5) (ab 9)))))))))
 (bt kX)
 bZ)
 (ay (dN (fP (aR (af.b (km (neg:=false) (aZ (ab 4) (ab 8)) (af.b (bx.l (cI (n:=2) (az (au 9) (az (au 10) aE)) ‹11›)))))) (fP (aR (af.b (kU (ab 10) (aZ (aZ (ab 0) (ab 9)) (af.b aq))))) (aR (af.b (oj (ab 11) (aZ (aZ (ab 0) (ab 9)) (af.b aq)))))))
 (bt kX)
 bZ)
 (ay (aO (bx.l (cI (n:=2) (az (au 10) (az (au 8) aE)) ‹11›)))
 (ay (wu (bx.l (cI (n:=2) (az (au 9) (az (au 11) aE)) ‹11›)) (ab 8))
 (ay (wu (au 11) (ab 9))
 (wu (eE (af.b (eQ (aZ (ab 3) (ab 9)) (ab 11))) (ab 10)) (ab 9)))))))))))
 (bt (km (neg:=false) (ab 3) (af.b (bx.l (bJ (m:=false) (k:=1) (cs:=[]) (u0 (ab 0)) (aD 0) cE (bp.i (aZ (ab 0) (af.b aq))))))))))))))⟩
theorem yt (T:Txt K mg ad) (hbm:eJ mg base):dv P w K mg base jq 1 ad.nC ad.nJ ["_law_works", "_law_stretches"] (kQ .v K [true,true] d9):=by
 rw [lV]
 exact dS.rG (N:=["_law_works", "_law_stretches", "_law_ends", "_law_work", "_law_stretch"]) T.d9 dY [true,true] rfl kj fun cdv A outer s H E hr=>⟨_,
 (ai (aJ (i:=2) dY.nd rfl (Pn rfl) (cw ak))
 (ai (eF PM rfl (bh (K:=K) rfl (pv 0)) (bP (i:=3) dY.nd rfl (OQ rfl))
 (aA (aJ (i:=2) dY.nd rfl (Pn rfl) (aU rF (pv 2) (cw (aa (aG ‹6› (pv 3) aw ‹8›) (aa (aG ‹6› (pv 3) aw ‹8›) ak)))))))
 (ai (eF PM rfl (bh (K:=K) rfl (pv 1)) (bP (i:=4) dY.nd rfl (OQ rfl))
 (aA (aJ (i:=2) dY.nd rfl (Pn rfl) (aU rF (pv 2) (pv 4)))))
 (ai (aJ (i:=2) dY.nd rfl (Pn rfl) (vh (K:=K) rfl rfl rfl T.z_sorted rfl T.z_set (pv 2)))
 (aA (bc (dZ rfl (eZ rfl T.z_range (aa (aU eG (aH (bI (K:=K) rfl) rfl T.z_len dA (aa (pv 2) ak)) aw) ak)) (ts:=["_law_k"]) (zs:=["_law_ends"]) (k:=1) (is:=[2]) rfl ‹53› ‹2› rfl rfl rfl ‹63› ‹0› (fun _ _ _ _ _=>(cw (aa (aG ‹6› (pv 1) (pv 0) ‹8›) (aa (aG ‹6› (pv 1) (aU eR (pv 0) aw) ‹8›) ak)))) rfl rfl ‹4›))))))),
 (ay (aO (bx.l (cI (n:=0) aE ‹11›)))
 (ay (fo (m:=true) (bO (au 0)) (aD 3)
 (aO (bx.l (wF (au 2) (bx.l (cI (n:=2) (az (dD (au 3) (af.b aq)) (az (dD (au 3) (af.b aq)) aE)) ‹11›))))))
 (ay (fo (m:=true) (bO (au 1)) (aD 4)
 (aO (bx.l (wF (au 2) (au 4)))))
 (ay (aO (bx.l (BD (ab 2))))
 (bt (bx.l (bJ (m:=true) (k:=1) (cs:=[2]) (d8.c (eV (af.b (eE (af.b (dy (ab 2))) (af.b aq))))) (aD 0) cE (bx.l (cI (n:=2) (az (dD (au 1) (ab 0)) (az (dD (au 1) (af.b (eQ (ab 0) (af.b aq)))) aE)) ‹11›)))))))))⟩
theorem Dc (T:Txt K mg ad) (hbm:eJ mg base):dv P w K mg base jq 2 ad.tE ad.tO ‹48› (kQ .v K [true,false,true,true] fH):=by
 rw [o9]
 exact dS.rG (N:=["_law_works", "_law_number", "_law_some", "_law_stretches", "_law_total", "_law_begin", "_law_end", "_law_inside", "_law_many"]) T.fH eX [true,false,true,true] rfl pA fun cdv A outer s H E hr=>⟨_,
 (ai (aJ (i:=4) eX.nd rfl (OQ rfl) aw)
 (ai (eF PM rfl (bh (K:=K) rfl (aQ (yt T hbm) ‹9› rfl T.Ay T.d9.kp T.A7 .nil bT (aa (pv 0) (aa (pv 3) ak)))) (fZ (K:=K) rfl rfl (bH (bP (i:=5) eX.nd rfl (Pn rfl)) (bH (bP (i:=6) eX.nd rfl (Pn rfl)) fY)))
 (ai (Aj (i:=7) eX.nd rfl rfl rfl (bh (K:=K) rfl (pv 3)) (ts:=["_law_stretch"]) (zs:=["_law_begin", "_law_end"]) (k:=1) (is:=[5,6]) rfl (.cons rfl ‹53›) ‹60› rfl rfl rfl ‹63› ‹0› (fun _ _ _ _ _=>(PW.pt (wM (aT vk (aG ‹6› (pv 0) aw ‹8›) (pv 1) (aX _)) (rE (aT vk (pv 2) (aG ‹6› (pv 0) aw ‹8›) (aX _)))))) (fun _ _ _ _ _=>(pv 0)) rfl rfl ‹4›)
 (ai (aJ (i:=8) eX.nd rfl (OQ rfl) (pv 1))
 (ai (dO (aT (nj (K:=K) hr.units) (pv 7) (cw ak) (aX _))
 (aA (aJ (i:=8) eX.nd rfl (OQ rfl) (aH (bI (K:=K) rfl) rfl T.z_len dA (aa (wU rfl (bh (K:=K) rfl (pv 2)) (ts:=["_law_k"]) (zs:=["_law_works", "_law_begin", "_law_end"]) (k:=1) (is:=[0,5,6]) rfl (.cons rfl (.cons rfl ‹53›)) (.cons rfl (OQ rfl) rfl ‹3› ‹60›) rfl rfl rfl ‹63› ‹0› (fun _ _ _ _ _=>(PW.pt (wM (aT vk (aG ‹6› (aG ‹6› (pv 1) (pv 0) ‹8›) aw ‹8›) (pv 2) (aX _)) (rE (aT vk (pv 3) (aG ‹6› (aG ‹6› (pv 1) (pv 0) ‹8›) aw ‹8›) (aX _)))))) (fun _ _ _ _ _=>(pv 0)) rfl rfl ‹4›) ak))))
 cb)
 (aA (aJ (i:=4) eX.nd rfl (OQ rfl) (aU eR (pv 4) (aU iU (pv 8) (aU eG (pv 6) (pv 5))))))))))
 (aA (bc (pv 4))))),
 (ay (aO aq)
 (ay (fo (m:=true) (bO (aS (az (au 0) (az (au 3) aE)))) (mP (bG (aD 5) (bG (aD 6) fW)))
 (ay (wt (bx.l (bJ (m:=true) (k:=1) (cs:=[5,6]) (d8.c (bO (au 3))) (aD 0) (wo (aR (af.b (u6 (aZ (ab 0) (af.b aq)) (ab 1)))) (aR (af.b (u6 (ab 2) (aZ (ab 0) (af.b aq)))))) (au 0))))
 (ay (aO (bp.i (ab 1)))
 (ay (dN (aR (af.b (km (neg:=false) (ab 7) (af.b (bx.l (cI (n:=0) aE ‹11›))))))
 (aO (dy (af.b (bx.l (bJ (m:=true) (k:=1) (cs:=[0,5,6]) (d8.c (bO (au 2))) (aD 0) (wo (aR (af.b (u6 (aZ (aZ (ab 1) (ab 0)) (af.b aq)) (ab 2)))) (aR (af.b (u6 (ab 3) (aZ (aZ (ab 1) (ab 0)) (af.b aq)))))) (au 0))))))
 bZ)
 (aO (eQ (ab 4) (af.b (kT (ab 8) (af.b (eE (ab 6) (ab 5)))))))))))
 (bt (au 4))))⟩
theorem wX (T:Txt K mg ad) (hbm:eJ mg base):dv P w K mg base jq 3 ad.lF ad.lN ["_law_works", "_law_number", "_law_found"] (kQ .v K [true,false,true] dF):=by
 rw [kG]
 exact dS.rG (N:=["_law_works", "_law_number", "_law_found", "_law_ahead", "_law_work", "_law_stretch"]) T.dF dI [true,false,true] rfl jc fun cdv A outer s H E hr=>⟨_,
 (ai (dO (PW.pt (fR (gF (bW (K:=K) rfl (aH (fb (K:=K) rfl) rfl T.z_isinstance cT (aa (pv 2) (aa (iT (v:=.ty "tuple") rfl T.z_tuple G4 rfl) ak))) (fun _=>rfl))) (ib (aT (sP (K:=K) hr.units) (aH (bI (K:=K) rfl) rfl T.z_len dA (aa (pv 2) ak)) aw (aX _)))))
 (aA (bc kY))
 cb)
 (ai (dO (PW.pt (fR (gF (bW (K:=K) rfl (aH (fb (K:=K) rfl) rfl T.z_isinstance cT (aa ‹62› ‹46›)) (fun _=>rfl))) (ib (gF (bW (K:=K) rfl (aH (fb (K:=K) rfl) rfl T.z_isinstance cT (aa ‹62› ‹46›)) (fun _=>rfl))))))
 (aA (bc kY))
 cb)
 (ai (aJ (i:=3) dI.nd rfl (OQ rfl) (kq gz aw))
 (ai (eF PM rfl (bh (K:=K) rfl ‹62›) (bP (i:=4) dI.nd rfl (OQ rfl))
 (ai (dO (PW.pt (fR (gF (bW (K:=K) rfl (aQ (jO T hbm) ‹9› rfl T.mr T.cm.kp T.mz .nil bT (aa (pv 4) ak)) (fun _=>rfl))) (fR (aT vk (pv 4) (pv 3) (aX _)) (ib (aT qK (pv 4) ‹10› (aX _))))))
 (aA (bc kY))
 cb)
 (aA (aJ (i:=3) dI.nd rfl (OQ rfl) (pv 4)))))
 (ai (aJ (i:=3) dI.nd rfl (OQ rfl) aw)
 (ai (eF PM rfl (bh (K:=K) rfl ‹62›) (bP (i:=5) dI.nd rfl (OQ rfl))
 (ai (dO (PW.pt (fR (gF (bW (K:=K) rfl (aH (fb (K:=K) rfl) rfl T.z_isinstance cT (aa (pv 5) ‹46›)) (fun _=>rfl))) (fR (aT (sP (K:=K) hr.units) (aH (bI (K:=K) rfl) rfl T.z_len dA (aa (pv 5) ak)) aw (aX _)) (ib (gF (bW (K:=K) rfl (aH (vF (K:=K) rfl rfl) rfl T.z_all G5 (aa (dZ rfl (bh (K:=K) rfl (pv 5)) (ts:=["_law_one"]) (zs:=[]) (k:=1) (is:=[]) rfl .nil .nil rfl rfl rfl ‹63› ‹0› (fun _ _ _ _ _=>(aQ (jO T hbm) ‹9› rfl T.mr T.cm.kp T.mz .nil bT (aa (pv 0) ak))) rfl rfl ‹4›) ak)) (fun _=>rfl)))))))
 (aA (bc kY))
 cb)
 (ai (dO (PW.pt (fR (aT kZ (aG ‹6› (pv 5) aw ‹8›) (pv 3) (aX _)) (ib (aT vk (aG ‹6› (pv 5) aw ‹8›) (aG ‹6› (pv 5) aw ‹8›) (aX _)))))
 (aA (bc kY))
 cb)
 (aA (aJ (i:=3) dI.nd rfl (OQ rfl) (aG ‹6› (pv 5) aw ‹8›))))))
 (aA (bc (iS oF (aH (jB (K:=K) rfl rfl) rfl T.z_sum tY (aa (dZ rfl (bh (K:=K) rfl ‹62›) (ts:=["_law_work"]) (zs:=["_law_works"]) (k:=1) (is:=[0]) rfl ‹53› ‹2› rfl rfl rfl ‹63› ‹0› (fun _ _ _ _ _=>(aG ‹6› (aG ‹6› (pv 1) (pv 0) ‹8›) aw ‹8›)) rfl rfl ‹4›) ak)) (aQ (Dc T hbm) ‹9› rfl T.FV T.fH.kp T.G8 .nil bT (aa (pv 0) (aa (pv 1) (aa ‹62› (aa ‹62› ak))))) (aX _)))))))))),
 (ay (dN (fP (gA (dW (K:=K) (af.b (kW (n := "tuple") (ab 2))))) (aR (af.b (km (neg:=true) (af.b (dy (ab 2))) (af.b aq)))))
 (bt kX)
 bZ)
 (ay (dN (fP (gA (dW (K:=K) (af.b (kW (n := "list") (aZ (ab 2) (af.b aq)))))) (gA (dW (K:=K) (af.b (kW (n := "list") (aZ (ab 2) (af.b aq)))))))
 (bt kX)
 bZ)
 (ay (aO (gB (af.b aq)))
 (ay (fo (m:=true) (bO (dD (au 2) (af.b aq))) (aD 4)
 (ay (dN (fP (gA (dW (K:=K) (af.b (aS (aN (ab 4) aE))))) (fP (aR (af.b (u6 (ab 4) (ab 3)))) (aR (af.b (qH (ab 4) (af.b (dy (ab 0))))))))
 (bt kX)
 bZ)
 (aO (au 4))))
 (ay (aO aq)
 (ay (fo (m:=true) (bO (dD (au 2) (af.b aq))) (aD 5)
 (ay (dN (fP (gA (dW (K:=K) (af.b (kW (n := "list") (ab 5))))) (fP (aR (af.b (km (neg:=true) (af.b (dy (ab 5))) (af.b aq)))) (gA (dW (K:=K) (af.b (Fl (af.b (bx.l (bJ (m:=true) (k:=1) (cs:=[]) (d8.c (bO (au 5))) (aD 0) cE (aS (aN (ab 0) aE)))))))))))
 (bt kX)
 bZ)
 (ay (dN (fP (aR (af.b (kU (aZ (ab 5) (af.b aq)) (ab 3)))) (aR (af.b (u6 (aZ (ab 5) (af.b aq)) (aZ (ab 5) (af.b aq))))))
 (bt kX)
 bZ)
 (aO (dD (au 5) (af.b aq))))))
 (bt (oj (af.b (sq (af.b (bx.l (bJ (m:=true) (k:=1) (cs:=[0]) (d8.c (bO (dD (au 2) (af.b aq)))) (aD 0) cE (dD (dD (au 1) (ab 0)) (af.b aq))))))) (af.b (aS (az (au 0) (aN (ab 1) (az (dD (au 2) (af.b aq)) (az (dD (au 2) (af.b aq)) aE))))))))))))))⟩
theorem Ky (T:Txt K mg ad) (hbm:eJ mg base):dv P w K mg base jq 7 ad.yT ad.vB ["_law_script"] (kQ .v K [false] vN):=by
 rw [vM]
 exact dS.rG (N:=["_law_script", "_law_hours_here", "_law_cell", "_law_number", "_law_least", "_law_found", "_law_end", "_law_works", "_law_rows", "_law_none"]) T.vN jf [false] rfl CD fun cdv A outer s H E hr=>⟨_,
 (ai (aJ (i:=1) jf.nd rfl (OQ rfl) (aQ (Ar T hbm) ‹9› rfl T.Dm T.fg.kp T.D7 .nil bT (aa (pv 0) ak)))
 (ai (aJ (i:=2) jf.nd rfl (OQ rfl) (aU ic (aQ (gY T hbm) ‹9› rfl T.iV T.bQ.kp T.i6 .nil bT (aa (pv 0) (aa aw ak))) aw))
 (ai (aJ (i:=3) jf.nd rfl (OQ rfl) (aU eR aw (aU fB (aU ic (pv 2) aw) aw)))
 (ai (aJ (i:=4) jf.nd rfl (OQ rfl) (aH (tX (K:=K) rfl rfl) rfl T.z_max tZ (aa (aU rF (pv 1) (cw (aa (aU eG aw (aU ic (aU eG aw (aH (jB (K:=K) rfl rfl) rfl T.z_sum tY (aa (pv 1) ak))) (pv 3))) ak))) ak)))
 (ai (aJ (i:=5) jf.nd rfl (OQ rfl) (aQ (oH T hbm) ‹9› rfl T.qM T.cV.kp T.qW .nil bT (aa (mj (gc (K:=K) rfl) rfl T.z_list gg (aa (pv 1) ak)) (aa (pv 3) ak))))
 (ai (dO (PW.pt (fR (gF (bW (K:=K) rfl (aQ (jO T hbm) ‹9› rfl T.mr T.cm.kp T.mz .nil bT (aa (pv 5) ak)) (fun _=>rfl))) (ib (aT (sP (K:=K) hr.units) (pv 5) (pv 4) (aX _)))))
 (aA (bc kY))
 cb)
 (ai (aJ (i:=6) jf.nd rfl (Pn rfl) (aH (qv rfl) rfl T.z_max tZ (aa aw (aa (aU eR (pv 4) (aG ‹6› (cw (aa aw (aa aw (aa (kq gz aw) ak)))) (aU fB (pv 2) aw) ‹8›)) ak))))
 (ai (wN (i:=7) jf.nd rfl rfl rfl (bh (K:=K) rfl (pv 1)) (ts:=["_law_one"]) (zs:=["_law_end"]) (k:=1) (is:=[6]) rfl ‹53› ‹2› rfl rfl rfl ‹63› ‹0› (fun _ _ _ _ _=>(cw (aa aw (aa (pv 1) (aa (pv 0) ak))))) rfl rfl ‹4›)
 (ai (aJ (i:=8) jf.nd rfl (OQ rfl) (aQ (sQ T hbm) ‹9› rfl T.uI T.cH.kp T.uR .nil bT ‹61›))
 (ai (aJ (i:=9) jf.nd rfl (OQ rfl) (aQ (wV T hbm) ‹9› rfl T.yC T.cN.kp T.zl .nil bT ‹61›))
 (ai (dO (aT qK (pv 6) (pv 4) (aX _))
 (aA (bc (sO (iS FL (pv 9) wR (aX _)) (wQ (aQ (wW T hbm) ‹9› rfl T.yD T.dE.kp T.zm .nil bT (aa (pv 7) (aa (pv 3) (aa (pv 8) ak))))))))
 cb)
 (aA (bc (sO (iS FL (pv 8) wR (aX _)) (wQ (aQ (wX T hbm) ‹9› rfl T.yE T.dF.kp T.zo .nil bT (aa (pv 7) (aa (pv 3) (aa (pv 9) ak))))))))))))))))))),
 (ay (aO (aS (aN (ab 0) aE)))
 (ay (aO (jJ (af.b (aS (aN (ab 0) (aN (af.b aq) aE)))) (af.b aq)))
 (ay (aO (eQ (af.b aq) (af.b (fq (af.b (jJ (ab 2) (af.b aq))) (af.b aq)))))
 (ay (aO (Fh (af.b (bx.l (wF (au 1) (bx.l (cI (n:=1) (az (eE (af.b aq) (af.b (jJ (af.b (eE (af.b aq) (af.b (sq (ab 1))))) (ab 3)))) aE) ‹11›)))))))
 (ay (aO (aS (aN (af.b (bx.l (wD (au 1)))) (aN (ab 3) aE))))
 (ay (dN (fP (gA (dW (K:=K) (af.b (aS (aN (ab 5) aE))))) (aR (af.b (km (neg:=true) (ab 5) (ab 4)))))
 (bt kX)
 bZ)
 (ay (aO (wA (af.b aq) (af.b (eQ (ab 4) (aZ (af.b (bx.l (cI (n:=3) (az aq (az aq (az (gB (af.b aq)) aE))) ‹11›))) (af.b (fq (ab 2) (af.b aq))))))))
 (ay (wt (bx.l (bJ (m:=true) (k:=1) (cs:=[6]) (d8.c (bO (au 1))) (aD 0) cE (bx.l (cI (n:=3) (az aq (az (au 1) (az (au 0) aE))) ‹11›)))))
 (ay (aO (aS (az (bx.l (bJ (m:=true) (k:=1) (cs:=[]) (d8.c (bO (au 7))) (aD 0) cE (bx.l (wD (au 0))))) (az (au 3) aE))))
 (ay (aO (aS (az (bx.l (bJ (m:=true) (k:=1) (cs:=[]) (d8.c (bO (au 7))) (aD 0) cE (bx.l (wD (au 0))))) (az (au 3) aE))))
 (ay (dN (aR (af.b (qH (ab 6) (ab 4))))
 (bt (oq (af.b (Fj (ab 9) (af.b wz))) (aS (aN (ab 7) (aN (ab 3) (az (au 8) aE))))))
 bZ)
 (bt (oq (af.b (Fj (ab 8) (af.b wz))) (aS (az (au 7) (aN (ab 3) (az (au 9) aE)))))))))))))))))⟩
end
local macro_rules | `(tactic| walk_at "sd")=>`(tactic| first | assumption | omega | decide | (simp only [List.length_map,List.length_cons,List.length_nil]; omega) | ((with_reducible apply And.intro) <;> walk_at "sd"))
local macro_rules | `(tactic| walk_at "fn")=>`(tactic| assumption)
local macro_rules | `(tactic| walk_at "ix")=>`(tactic| first | exact NV (by omega) (by omega) | exact ixI (by omega) (by omega) | exact ix2I _ _ _ | exact Mw _ _ _ _ | exact Mv _ _ _ _ _ | rfl)
local macro_rules | `(tactic| walk_at "ev")=>`(tactic| first
 | ((with_reducible first | apply fE | apply dR | apply tI | apply vy | apply iZ | apply qQ | apply rM | apply rK | apply ae | apply lH | apply AR); (· walk_at "ev"); (· walk_at "ev"))
 | ((with_reducible first | apply jY | apply dM | apply qh | apply ev_notV | apply aY | apply AN | apply ev_oSome); (· walk_at "ev"))
 | ((with_reducible first | apply du | apply mw | apply dg | apply bF | apply tJ); (· walk_at "ev"); (· rfl))
 | ((with_reducible first | apply nE | apply GD | apply mx | apply ev_orV); (· walk_at "ev"); (· intro _; walk_at "ev"))
 | ((with_reducible first | show aj _ _=_ | show av _ _=_ | show tP _ _=_ | show dC _ _=_ | show bu _=_ | show oI _=_ | show cD _=_); rfl)
 | ((with_reducible apply aM); (· walk_at "ev"); (· walk_at "ev"); (· walk_at "ix"))
 | ((with_reducible apply aP); (· walk_at "ev"); (· walk_at "fn"))
 | ((with_reducible first | apply ev_chain | apply JK); (· walk_at "ev"); (· walk_at "ev"); (· walk_at "ev"))
 | ((with_reducible apply tH); (· walk_at "ev"); (· walk_at "ev"); (· first | assumption | (apply Gq; omega)))
 | ((with_reducible apply rN); (· walk_at "ev"); (· walk_at "ev"); (· first | exact IC (by omega) (by omega) | walk_at "sd"))
 | ((with_reducible first | apply jZ | apply GB); (· walk_at "ev"); (· walk_at "ev"); (· walk_at "sd"))
 | ((with_reducible apply AO); (· walk_at "ev"); (· walk_at "sd"))
 | ((with_reducible apply AQ); (· walk_at "ev"); (· walk_at "ev"); (· simp only [OW,Pb]; walk_at "sd")))
local macro_rules | `(tactic| walk_at "st")=>`(tactic| dsimp only [List.set_cons_succ,List.set_cons_zero])
local macro_rules | `(tactic| walk_at "go")=>`(tactic| ((try dsimp only); walk_at "go1"))
local macro_rules | `(tactic| walk_at "go1")=>`(tactic| first
 | ((with_reducible apply wp_seq); walk_at "go")
 | ((with_reducible apply Et); dsimp only [jS,WA,WB,PF,Px]; walk_at "go")
 | ((with_reducible apply aI); (· walk_at "ev"); walk_at "st"; walk_at "go")
 | ((with_reducible apply fV); (· walk_at "ev"); (· simp only [OW,Pb]; omega); walk_at "st"; walk_at "go")
 | ((with_reducible apply pE); (· rfl); (· walk_at "ev"); walk_at "st"; walk_at "go")
 | ((with_reducible apply bY); (try dsimp only); walk_at "go")
 | skip)
theorem my (ns:List Int) (k:Int) (h:0≤k):bQ [.scr ns,.int k]=some (.int (ns.getD k.toNat 0)):=by
 refine cG kH ?_
 rw [wm]
 unfold jd
 walk_at "go"
 refine Es (by walk_at "ev") (fun c=>?_) fun c=>?_
 ·refine bM (by walk_at "ev") rfl
 ·walk_at "go"
  refine bM (by walk_at "ev") ?_
  rw [Ox,O5 ‹5›]
  rfl
def pV (c k:Int):Int:=(c*48271+k*k*69621+3) % 2147483647*((c*48271+k*k*69621+3) % 2147483647) % 2147483629
theorem mixed (c k:Int) (h0:0≤k) (h:k<2 ^ 31):de [.int c,.int k]=some (.int (pV c k)):=by
 refine cG mW ?_
 rw [zQ]
 unfold mF
 have hk:k*k<2 ^ 64:=by
  have:=Int.mul_le_mul (a:=k) (b:=k) (c:=2 ^ 31) (d:=2 ^ 31) ‹5› ‹5› h0 ‹5›
  omega
 have hk0:0≤k*k:=Tv h0 h0
 walk_at "go"
 refine bM (by walk_at "ev") ?_
 rfl
theorem pT (c k:Int):0≤pV c k:=S7 _ ‹11›
local macro_rules | `(tactic| walk_at "fn")=>`(tactic| first | exact my _ _ (by omega) | exact mixed _ _ (by omega) (by omega))
theorem JV {lo:Int} (h:(Ed lo n)[j]?=some d):j<n∧d=.int (lo+j):=Bj h
theorem DM {xs:List Int} {v:Int} (h:j<xs.length):(xs.set j v).getD k 0=if k=j then v else xs.getD k 0:=by
 rw [Ox,Sq,Ox]
 by_cases c:j=k
 ·subst c
  rw [if_pos rfl,if_pos h,if_pos rfl]
  rfl
 ·rw [if_neg c,if_neg (P9 c)]
theorem sr (xs:List Int) (j:Nat) (v:Int):(xs.map D.int).set j (.int v)=(xs.set j v).map D.int:=by rw [Ul]
theorem mem_getD {p:List Int} (hk:k<p.length):p.getD k 0∈p:=by rw [Ox,Ow hk]; exact QD hk
def SM {α:Type} (l:List α) (f:α→Int):Int:=(l.map f).sum
theorem Ly (f:α→Int):SM [] f=0:=rfl
theorem cR (x:α) (l:List α) (f:α→Int):SM (x::l) f=f x+SM l f:=by unfold SM; rw [O9,Ry]
theorem iE {l:List α} {f g:α→Int} (h:∀ x∈l,f x=g x):SM l f=SM l g:=by unfold SM; rw [PU h]
theorem LA (l:List α) (f g:α→Int):SM l (fun x=>f x+g x)=SM l f+SM l g:=by
 induction l with
 | nil=>rfl
 | cons x l ih=>rw [cR,cR,cR,ih]; omega
theorem Hf (l:List α) (f g:α→Int):SM l (fun x=>f x-g x)=SM l f-SM l g:=by
 induction l with
 | nil=>rfl
 | cons x l ih=>rw [cR,cR,cR,ih]; omega
theorem rS (l:List α):SM l (fun _=>0)=0:=by
 induction l with
 | nil=>rfl
 | cons x l ih=>rw [cR,ih]; rfl
def oE:List Int→List (Int×Int)
 | x::y::r=>(x,y)::oE (y::r)
 | _=>[]
theorem FI:∀ {es:List Int},es.Pairwise (· < ·)→∀ p∈oE es,p.1<p.2∧p.1∈es∧p.2∈es
 | [],_,p,hp=>by cases hp
 | [x],_,p,hp=>by cases hp
 | x::y::r,h,p,hp=>by
  obtain ⟨h1,h2⟩:=Qm.mp h
  show 19
  ·exact ⟨h1 y (by simp),by simp,by simp⟩
  ·obtain ⟨a,b,c⟩:=FI h2 p hp
   exact ⟨a,OI _ b,OI _ c⟩
abbrev I2:=Int×Int
def Gp (s p:I2):Prop:=s.1≤p.1∧p.2≤s.2
instance (s p:I2):Decidable (Gp s p):=by unfold Gp; infer_instance
structure Oo (S:List I2):Prop where
 le:∀ s∈S,s.1≤s.2
 dj:S.Pairwise fun x y=>x.2≤y.1∨y.2≤x.1
def jA (l:List Int) (j:Nat):Int:=l.getD j 0
def iy (T:List (List Int)) (i:Nat):List Int:=T.getD i []
def eM (T:List (List Int)) (i j:Nat):Int:=jA (iy T i) j
def kJ (T:List (List Int)) (i:Nat):Int:=(iy T i).sum
def nN (T:List (List Int)) (j:Nat):Int:=(T.map fun r=>jA r j).sum
def eU (T:List (List Int)) (n m:Nat):Prop:=T.length=n∧∀ i,i<n→(iy T i).length=m
def nQ (T:List (List Int)) (i j:Nat) (a:Int):List (List Int):=T.set i ((iy T i).set j (eM T i j+a))
theorem yW {l:List Int} (h:j<l.length) (x:Int) (k:Nat):jA (l.set j x) k=if j=k then x else jA l k:=by
 unfold jA
 rw [Ox,Sq]
 split
 ·rename_i e; subst e; simp [h]
 ·rw [Ox]
theorem tL {i:Nat} (h:i<T.length) (x:List Int) (k:Nat):iy (T.set i x) k=if i=k then x else iy T k:=by
 unfold iy
 rw [Ox,Sq]
 split
 ·rename_i e; subst e; simp [h]
 ·rw [Ox]
theorem sum_set:∀ (l:List Int) (j:Nat) (x:Int),j<l.length→(l.set j x).sum=l.sum-jA l j+x
 | [],_,_,h=>by simp at h
 | y::l,0,x,_=>by
  show (x::l).sum=(y::l).sum-y+x
  rw [Ry,Ry]; omega
 | y::l,j+1,x,h=>by
  have:=sum_set l j x (by simpa using h)
  show (y::l.set j x).sum=(y::l).sum-jA l j+x
  rw [Ry,Ry,this]; omega
theorem eU.add {i:Nat} (h:eU T n m):eU (nQ T i j a) n m:=by
 unfold nQ
 refine ⟨by rw [PH]; exact h.1,fun k hk=>?_⟩
 by_cases hi:i<T.length
 ·rw [tL hi]
  split
  ·rename_i e; subst e; rw [PH]; exact h.2 _ hk
  ·exact h.2 k hk
 ·rw [SW ‹5›]; exact h.2 k hk
theorem IM {i:Nat} (h:eU T n m) (hi:i<n) (hj:j<m) (k l:Nat):eM (nQ T i j a) k l=eM T k l+if i=k∧j=l then a else 0:=by
 have hi':i<T.length:=by rw [h.1]; exact hi
 unfold nQ
 show jA (iy (T.set i _) k) l=_
 rw [tL hi']
 by_cases e:i=k
 ·subst e
  rw [if_pos rfl,yW (by rw [h.2 i hi]; exact hj)]
  by_cases e2:j=l
  ·subst e2; rw [if_pos rfl,if_pos ⟨rfl,rfl⟩]
  ·rw [if_neg e2,if_neg (fun z=>e2 z.2),Rw]; rfl
 ·rw [if_neg e,if_neg (fun z=>e z.1),Rw]; rfl
theorem Fv {i:Nat} (h:eU T n m) (hi:i<n) (hj:j<m) (k:Nat):kJ (nQ T i j a) k=kJ T k+if i=k then a else 0:=by
 have hi':i<T.length:=by rw [h.1]; exact hi
 unfold nQ kJ
 rw [tL hi']
 by_cases e:i=k
 ·subst e
  rw [if_pos rfl,if_pos rfl,sum_set _ _ _ (by rw [h.2 i hi]; exact hj)]
  unfold eM; omega
 ·rw [if_neg e,if_neg e,Rw]
theorem GY {i:Nat} (h:eU T n m) (hi:i<n) (hj:j<m) (l:Nat):nN (nQ T i j a) l=nN T l+if j=l then a else 0:=by
 have hi':i<T.length:=by rw [h.1]; exact hi
 unfold nQ nN
 rw [Ul,sum_set _ _ _ (by rw [Oy]; exact hi')]
 have e1:jA (T.map fun r=>jA r l) i=eM T i l:=by
  unfold jA eM iy
  rw [Ox,OH,Ox (l:=T),Ow hi']
  rfl
 rw [e1,yW (by rw [h.2 i hi]; exact hj)]
 by_cases e:j=l
 ·subst e; rw [if_pos rfl,if_pos rfl]; omega
 ·rw [if_neg e,if_neg e]; show _-eM T i l+eM T i l=_; omega
def cK (T:List (List Int)) (ps:List (Nat×Nat)) (a:Int):List (List Int):=ps.foldl (fun T p=>nQ T p.1 p.2 a) T
def cnt {α:Type} (f:α→Bool) (l:List α):Int:=(l.countP f:Nat)
theorem cnt_nil (f:α→Bool):cnt f []=0:=rfl
theorem cnt_cons (f:α→Bool) (x:α) (l:List α):cnt f (x::l)=cnt f l+if f x=true then 1 else 0:=by
 unfold cnt; rw [XF]; split <;> simp
theorem mB {n m:Nat} {a:Int}:∀ {ps:List (Nat×Nat)} {T:List (List Int)},eU T n m→(∀ p∈ps,p.1<n∧p.2<m) →
 eU (cK T ps a) n m∧(∀ k l,eM (cK T ps a) k l=eM T k l+a*cnt (fun p=>decide (p=(k,l))) ps)∧(∀ k,kJ (cK T ps a) k=kJ T k+a*cnt (fun p=>decide (p.1=k)) ps)∧∀ l,nN (cK T ps a) l=nN T l+a*cnt (fun p=>decide (p.2=l)) ps
 | [],T,h,_=>⟨h,fun k l=>by rw [cnt_nil,RL,Rw]; rfl,fun k=>by rw [cnt_nil,RL,Rw]; rfl,fun k=>by rw [cnt_nil,RL,Rw]; rfl⟩
 | p::ps,T,h,hp=>by
  obtain ⟨p1,p2⟩:=hp p (by simp)
  obtain ⟨r,c,w,s⟩:=mB (a:=a) (ps:=ps) (h.add (i:=p.1) (j:=p.2) (a:=a)) fun q hq=>hp q (OI _ hq)
  refine ⟨r,fun k l=>?_,fun k=>?_,fun l=>?_⟩
  ·rw [show cK T (p::ps) a=cK (nQ T p.1 p.2 a) ps a from rfl,c,IM h p1 p2,cnt_cons,T4]
   have:(p=(k,l))↔(p.1=k∧p.2=l):=by constructor <;> intro z; (subst z; exact ⟨rfl,rfl⟩); (exact Prod.ext z.1 z.2)
   by_cases e:p.1=k∧p.2=l
   ·rw [if_pos e,if_pos (by simpa using this.mpr e)]; omega
   ·rw [if_neg e,if_neg (by simpa using fun z=>e (this.mp z))]; omega
  ·rw [show cK T (p::ps) a=cK (nQ T p.1 p.2 a) ps a from rfl,w,Fv h p1 p2,cnt_cons,T4]
   by_cases e:p.1=k
   ·rw [if_pos e,if_pos ‹56›]; omega
   ·rw [if_neg e,if_neg ‹56›]; omega
  ·rw [show cK T (p::ps) a=cK (nQ T p.1 p.2 a) ps a from rfl,s,GY h p1 p2,cnt_cons,T4]
   by_cases e:p.2=l
   ·rw [if_pos e,if_pos ‹56›]; omega
   ·rw [if_neg e,if_neg ‹56›]; omega
def cq (ws ss:List Nat):List (Nat×Nat):=ws.zip ss
def bK (ws ss:List Nat):List (Nat×Nat):=(ws.drop 1).zip ss
theorem xB:∀ {ws ss:List Nat} (k:Nat),ws.length≤ss.length→cnt (fun p:Nat×Nat=>decide (p.1=k)) (ws.zip ss)=cnt (fun x=>decide (x=k)) ws
 | [],ss,k,_=>by simp [cnt]
 | w::ws,[],k,h=>by simp at h
 | w::ws,s::ss,k,h=>by
  rw [Sa,cnt_cons,cnt_cons,xB k (by simpa using h)]
theorem xA:∀ {ws ss:List Nat} (k:Nat),cnt (fun p:Nat×Nat=>decide (p.2=k)) (ws.zip ss)=cnt (fun x=>decide (x=k)) (ss.take ws.length)
 | [],ss,k=>by simp [cnt]
 | w::ws,[],k=>by simp [cnt]
 | w::ws,s::ss,k=>by
  rw [Sa,cnt_cons,OW,Ug,cnt_cons,xA k]
theorem nO:∀ {ws ss:List Nat} (k l:Nat),ws.Nodup→cnt (fun p:Nat×Nat=>decide (p=(k,l))) (ws.zip ss)≤1
 | [],ss,k,l,_=>by simp [cnt]
 | w::ws,[],k,l,_=>by simp [cnt]
 | w::ws,s::ss,k,l,h=>by
  obtain ⟨h1,h2⟩:=Pc.mp h
  rw [Sa,cnt_cons]
  split
  ·rename_i e
   have e:(w,s)=(k,l):=by simpa using e
   cases e
   have:cnt (fun p:Nat×Nat=>decide (p=(w,s))) (ws.zip ss)=0:=by
    unfold cnt
    rw [WC.mpr fun q hq=>?_]; rfl
    have:=(Q4 (a:=q.1) (b:=q.2) hq).1
    simp only [decide_eq_true_eq]
    rintro rfl
    exact h1 this
   omega
  ·have:=nO (ss:=ss) k l h2
   omega
theorem kc (f:α→Bool) (l:List α):0≤cnt f l:=by unfold cnt; omega
theorem zc {f:α→Bool} {l:List α} (h:∀ x∈l,f x=false):cnt f l=0:=by
 unfold cnt; rw [WC.mpr fun x hx=>by rw [h x hx]; simp]; rfl
structure Hl (n m:Nat) (IP:Nat→Nat→Int) (DJ bnd:Nat→Int) (T:List (List Int)):Prop where
 jg:eU T n m
 lo:∀ i j,i<n→j<m→0≤eM T i j
 hi:∀ i j,i<n→j<m→eM T i j≤IP i j
 row:∀ i,i<n→kJ T i≤DJ i
 col:∀ j,j<m→nN T j≤bnd j
def moved (T:List (List Int)) (ws ss:List Nat) (a:Int):List (List Int):=cK (cK T (cq ws ss) a) (bK ws ss) (-a)
theorem Hl.moved {n m:Nat} {IP:Nat→Nat→Int} {DJ bnd:Nat→Int} {T:List (List Int)} (h:Hl n m IP DJ bnd T) {w0:Nat} {ws ss:List Nat} {sl:Nat} {a:Int} (ha:0≤a) (hl:(w0::ws).length=ss.length) (hlast:ss=ss.take ws.length++[sl]) (hw:∀ w∈w0::ws,w<n) (hs:∀ s∈ss,s<m) (nd:(w0::ws).Nodup)
 (h0:kJ T w0+a≤DJ w0) (h1:nN T sl+a≤bnd sl) (hg:∀ p∈cq (w0::ws) ss,eM T p.1 p.2+a≤IP p.1 p.2) (hlo:∀ p∈bK (w0::ws) ss,a≤eM T p.1 p.2) :
 Hl n m IP DJ bnd (My.moved T (w0::ws) ss a)∧(∀ k,kJ (My.moved T (w0::ws) ss a) k=kJ T k+if w0=k then a else 0):=by
 have hz:∀ {vs us:List Nat} {p:Nat×Nat},p∈vs.zip us→p.1∈vs∧p.2∈us:=fun {vs us p} hp=>Q4 (a:=p.1) (b:=p.2) hp
 obtain ⟨r1,c1,w1,s1⟩:=mB (a:=a) (ps:=cq (w0::ws) ss) h.jg fun p hp=>⟨hw _ (hz hp).1,hs _ (hz hp).2⟩
 obtain ⟨r2,c2,w2,s2⟩:=mB (a:=-a) (ps:=bK (w0::ws) ss) r1 fun p hp=>⟨hw _ (SE (hz hp).1),hs _ (hz hp).2⟩
 have row:∀ k,kJ (My.moved T (w0::ws) ss a) k=kJ T k+if w0=k then a else 0:=fun k=>by
  show kJ (cK _ _ _) k=_
  rw [w2,w1]
  unfold cq bK
  rw [xB k (by rw [hl]; exact OT _),Yn,Yh,xB k (by rw [← hl]; simp),cnt_cons]
  by_cases e:w0=k
  ·rw [if_pos e,if_pos ‹56›,T4,Te]; omega
  ·rw [if_neg e,if_neg ‹56›,Rw,Te]; omega
 have col:∀ l,nN (My.moved T (w0::ws) ss a) l=nN T l+if sl=l then a else 0:=fun l=>by
  show nN (cK _ _ _) l=_
  rw [s2,s1]
  unfold cq bK
  rw [xA,Yn,Yh,xA,hl,Qd]
  have e:cnt (fun x=>decide (x=l)) ss=cnt (fun x=>decide (x=l)) (ss.take ws.length)+if sl=l then 1 else 0:=by
   conv=>lhs; rw [hlast]
   unfold cnt
   rw [List.countP_append,XF]
   by_cases e:sl=l
   ·rw [if_pos ‹56›,if_pos e]; simp
   ·rw [if_neg ‹56›,if_neg e]; simp
  rw [e,T4,Te]
  by_cases e:sl=l
  ·rw [if_pos e,if_pos e]; omega
  ·rw [if_neg e,if_neg e]; omega
 refine ⟨⟨r2,fun i j hi hj=>?_,fun i j hi hj=>?_,fun i hi=>?_,fun j hj=>?_⟩,row⟩
 ·show 0≤eM (cK _ _ _) i j
  rw [c2,c1]
  have n1:=kc ‹51› ‹38›
  have a1:=Tv ha n1
  have l0:=h.lo i j hi hj
  by_cases e:(i,j)∈bK (w0::ws) ss
  ·have b1:=nO (ws:=ws) (ss:=ss) i j (Pc.mp nd).2
   have b0:=kc ‹51› ‹57›
   have b1:cnt ‹51› ‹57›≤1:=b1
   have b2:=hlo _ e
   have b3:a*cnt ‹51› ‹57›≤a:=by
    rcases WD.mp b1 with z | z
    ·rw [show cnt ‹51› ‹57›=0 by omega,RL]; exact ha
    ·rw [z,UQ]; exact Rf _
   rw [Te]
   have b2:a≤eM T i j:=b2
   omega
  ·rw [zc (l:=bK (w0::ws) ss) fun p hp=>by simp only [decide_eq_false_iff_not]; rintro rfl; exact e hp,RL]
   omega
 ·show eM (cK _ _ _) i j≤_
  rw [c2,c1]
  have n1:=kc ‹51› ‹57›
  have a1:=Tv ha n1
  have l0:=h.hi i j hi hj
  rw [Te]
  by_cases e:(i,j)∈cq (w0::ws) ss
  ·have b1:cnt ‹51› ‹38›≤1:=nO (ws:=w0::ws) (ss:=ss) i j nd
   have b0:=kc ‹51› ‹38›
   have b2:eM T i j+a≤IP i j:=hg _ e
   have b3:a*cnt ‹51› ‹38›≤a:=by
    rcases WD.mp b1 with z | z
    ·rw [show cnt ‹51› ‹38›=0 by omega,RL]; exact ha
    ·rw [z,UQ]; exact Rf _
   omega
  ·rw [zc (l:=cq (w0::ws) ss) fun p hp=>by simp only [decide_eq_false_iff_not]; rintro rfl; exact e hp,RL]
   omega
 ·rw [row]
  have:=h.row i hi
  by_cases e:w0=i
  ·subst e; rw [if_pos rfl]; exact h0
  ·rw [if_neg e]; omega
 ·rw [col]
  have:=h.col j hj
  by_cases e:sl=j
  ·subst e; rw [if_pos rfl]; exact h1
  ·rw [if_neg e]; omega
structure Bf (root:Nat→Prop) (edge:Nat→Nat→Prop) (kvs:List (Nat×Nat)):Prop where
 nd:(kvs.map Sf).Nodup
 src:∀ (t p q:Nat),kvs[t]?=some (p,q)→(q=p∧root p)∨∃ u r,u<t∧kvs[u]?=some (q,r)∧edge q p
def NK (R:Nat→Nat→Prop):List Nat→Prop
 | x::y::r=>R x y∧NK R (y::r)
 | _=>True
def key (kvs:List (Nat×Nat)) (t p:Nat):Prop:=∃ q,kvs[t]?=some (p,q)
theorem B8 (h:(kvs.map Sf).Nodup) {t u:Nat} (a:key kvs t p) (b:key kvs u p):t=u:=by
 obtain ⟨q,a⟩:=a
 obtain ⟨r,b⟩:=b
 have a':(kvs.map Sf)[t]?=some p:=by rw [OH,a]; rfl
 have b':(kvs.map Sf)[u]?=some p:=by rw [OH,b]; rfl
 have ht:=(OR.mp a').1
 exact (List.getElem?_inj ht h).mp (a'.trans b'.symm)
structure Bk (edge:Nat→Nat→Prop) (kvs:List (Nat×Nat)) (place t:Nat) (L:List Nat):Prop where
 front:∃ x r,L=x::r∧key kvs t x
 NW:NK edge L
 last:L.getLast?=some place
 up:∀ y∈L,∃ u,t≤u∧key kvs u y
 nd:L.Nodup
theorem Bk.one {t:Nat} (h:key kvs t place):Bk edge kvs place t [place] :=
 ⟨⟨place,[],rfl,h⟩,trivial,rfl,fun y hy=>by rw [OB.mp hy]; exact ⟨t,OT _,h⟩,by simp⟩
theorem Bk.step {root:Nat→Prop} (B:Bf root edge kvs) {t x q:Nat} {r:List Nat} (h:Bk edge kvs place t (x::r)) (e:kvs[t]?=some (x,q)) (hq:q≠x):∃ u,u<t∧Bk edge kvs place u (q::x::r):=by
 rcases B.src t x q e with ⟨z,_⟩ | ⟨u,s,hu,eu,ed⟩
 ·exact absurd z hq
 ·refine ⟨u,hu,⟨q,_,rfl,s,eu⟩,⟨ed,h.NW⟩,by have:=h.last; simpa using this,fun y hy=>?_,Pc.mpr ⟨fun z=>?_,h.nd⟩⟩
  ·rcases OP.mp hy with rfl | hy
   ·exact ⟨u,OT _,s,eu⟩
   ·obtain ⟨v,hv,k⟩:=h.up y hy
    exact ⟨v,by omega,k⟩
  ·obtain ⟨v,hv,k⟩:=h.up q z
   have:=B8 B.nd k ⟨s,eu⟩
   omega
theorem Bf.root {root:Nat→Prop} {edge:Nat→Nat→Prop} {kvs:List (Nat×Nat)} (B:Bf root edge kvs) {t x:Nat} (e:kvs[t]?=some (x,x)):root x:=by
 rcases B.src t x x e with ⟨_,z⟩ | ⟨u,s,hu,eu,ed⟩
 ·exact z
 ·have:=B8 B.nd ⟨_,e⟩ ⟨s,eu⟩
  omega
def dP (n:Nat):List Nat→List Nat→List Nat
 | w::ws,s::ss=>w::(n+s)::dP n ws ss
 | _,_=>[]
theorem alt {n m:Nat} {wr tb:Nat→Nat→Prop}:∀ (k:Nat) (x:Nat) (P:List Nat),P.length≤k→NK (fun u v=>(u<n∧n≤v∧v<n+m∧wr u (v-n))∨(n≤u∧v<n∧tb v (u-n))) (x::P)→x<n→∀ place,(x::P).getLast?=some place→n≤place →
 ∃ ws ss,x::P=dP n (x::ws) ss∧(x::ws).length=ss.length∧(∀ p∈cq (x::ws) ss,p.2<m∧wr p.1 p.2)∧(∀ p∈bK (x::ws) ss,tb p.1 p.2)∧(∀ w∈x::ws,w<n)∧(x::ws).Sublist (x::P)∧ss=ss.take ws.length++[place-n]
 | k,x,[],_,_,hx,place,hl,hp=>by
  have:x=place:=by simpa using hl
  omega
 | k,x,[y],_,hc,hx,place,hl,hp=>by
  have e:y=place:=by simpa using hl
  subst e
  rcases hc.1 with ⟨_,h2,h3,h4⟩ | ⟨h1,_⟩
  ·refine ⟨[],[y-n],?_,rfl,fun p hp=>?_,fun p hp=>?_,fun w hw=>?_,?_,rfl⟩
   ·show [x,y]=[x,n+(y-n)]
    rw [show n+(y-n)=y by omega]
   ·have:p=(x,y-n):=by simpa [cq] using hp
    rw [this]; exact ⟨by show y-n<m; omega,h4⟩
   ·simp [bK] at hp
   ·rw [OB.mp hw]; exact hx
   ·simp
  ·omega
 | 0,x,y::z::P,h,_,_,_,_,_=>by simp at h
 | k+1,x,y::z::P,h,hc,hx,place,hl,hp=>by
  obtain ⟨c1,c2,c3⟩:=hc
  rcases c1 with ⟨_,h2,h3,h4⟩ | ⟨h1,_⟩
  ·rcases c2 with ⟨q1,_⟩ | ⟨q1,q2,q3⟩
   ·omega
   ·obtain ⟨ws,ss,e1,e2,e3,e4,e5,e6,e7⟩:=alt k z P (by simp at h; omega) c3 q2 place (by simpa using hl) hp
    refine ⟨z::ws,(y-n)::ss,?_,by simpa using e2,fun p hp=>?_,fun p hp=>?_,fun w hw=>?_,?_,?_⟩
    ·show x::y::z::P=x::(n+(y-n))::dP n (z::ws) ss
     rw [← e1,show n+(y-n)=y by omega]
    ·have hp':p∈(x,y-n)::cq (z::ws) ss:=hp
     rcases OP.mp hp' with rfl | hp'
     ·exact ⟨by show y-n<m; omega,h4⟩
     ·exact e3 p hp'
    ·have hp':p∈(z,y-n)::bK (z::ws) ss:=hp
     rcases OP.mp hp' with rfl | hp'
     ·exact q3
     ·exact e4 p hp'
    ·rcases OP.mp hw with rfl | hw
     ·exact hx
     ·exact e5 w hw
    ·exact (e6.cons y).cons_cons x
    ·rw [OW,Ug,TJ,← e7]
  ·omega
def xm {α:Type}:List α→List α
 | x::_::r=>x::xm r
 | [x]=>[x]
 | []=>[]
theorem tG (n:Nat):∀ (ws ss:List Nat),ws.length=ss.length→xm (dP n ws ss)=ws
 | [],[],_=>rfl
 | w::ws,s::ss,h=>by show w::xm (dP n ws ss)=_; rw [tG n ws ss (by simpa using h)]
 | [],s::ss,h=>by simp at h
 | w::ws,[],h=>by simp at h
theorem yu (n:Nat):∀ (ws ss:List Nat),ws.length=ss.length→xm ((dP n ws ss).drop 1)=ss.map (n+·)
 | [],[],_=>rfl
 | [w],[s],_=>rfl
 | w::w2::ws,s::s2::ss,h=>by
  have:=yu n (w2::ws) (s2::ss) (by simpa using h)
  show (n+s)::xm ((n+s2)::dP n ws ss)=_
  rw [O9]
  exact congrArg _ this
 | [],s::ss,h=>by simp at h
 | w::ws,[],h=>by simp at h
 | [w],s::s2::ss,h=>by simp at h
 | w::w2::ws,[s],h=>by simp at h
theorem DP (n:Nat):∀ (ws ss:List Nat),ws.length=ss.length→xm ((dP n ws ss).drop 2)=ws.drop 1
 | [],[],_=>rfl
 | w::ws,s::ss,h=>by show xm (dP n ws ss)=ws; exact tG n ws ss (by simpa using h)
 | [],s::ss,h=>by simp at h
 | w::ws,[],h=>by simp at h
theorem yM (n:Nat):∀ (ws ss:List Nat),ws.length=ss.length→(dP n ws ss).length=2*ws.length
 | [],[],_=>rfl
 | w::ws,s::ss,h=>by
  have:=yM n ws ss (by simpa using h)
  show (dP n ws ss).length+1+1=2*(ws.length+1)
  omega
 | [],s::ss,h=>by simp at h
 | w::ws,[],h=>by simp at h
theorem yL {n:Nat}:∀ (ws ss:List Nat),(∀ w∈ws,w<n)→(dP n ws ss).map (fun e=>if e<n then e else e-n)=dP 0 ws ss
 | [],_,_=>rfl
 | _::_,[],_=>rfl
 | w::ws,s::ss,h=>by
  show (if w<n then w else w-n)::(if n+s<n then n+s else n+s-n)::(dP n ws ss).map _=w::(0+s)::dP 0 ws ss
  rw [if_pos (h w (by simp)),if_neg ‹5›,yL ws ss fun v hv=>h v (OI _ hv),show n+s-n=0+s by omega]
theorem FP {α:Type} [DecidableEq α]:∀ {l m:List α},l.Nodup→(∀ x∈l,x∈m)→l.length≤m.length
 | [],_,_,_=>PV _
 | x::l,m,h,hs=>by
  obtain ⟨h1,h2⟩:=Pc.mp h
  have hx:x∈m:=hs x ON
  have:=FP (m:=m.erase x) h2 fun y hy=>(List.mem_erase_of_ne (fun z:y=x=>h1 (z ▸ hy))).mpr (hs y (OI _ hy))
  rw [List.length_erase_of_mem hx] at this
  have:=List.length_pos_of_mem hx
  show l.length+1≤_
  omega
def keys (kvs:List (Nat×Nat)):List Nat:=kvs.map Sf
theorem oP (h:p∈keys kvs):∃ t,key kvs t p:=by
 obtain ⟨q,hq,rfl⟩:=Pj.mp h
 obtain ⟨t,ht⟩:=Sj.mp hq
 exact ⟨t,q.2,ht⟩
theorem xi {t:Nat} (h:key kvs t p):p∈keys kvs:=by
 obtain ⟨q,h⟩:=h
 exact Pj.mpr ⟨_,PD h,rfl⟩
theorem K1 {t:Nat} (h:(keys kvs)[t]?=some p):key kvs t p:=by
 unfold keys at h
 rw [OH] at h
 cases e:kvs[t]? with
 | none=>rw [e] at h; cases h
 | some q=>rw [e] at h; cases h; exact ⟨q.2,e⟩
theorem Bf.roots {root:Nat→Prop} {rs:List Nat} (nd:rs.Nodup) (h:∀ r∈rs,root r):Bf root edge (rs.map fun r=>(r,r)):=by
 refine ⟨by rw [O3,show (Sf∘fun r:Nat=>(r,r))=id from rfl,T5]; exact nd,fun t p q e=>.inl ?_⟩
 rw [OH] at e
 cases e2:rs[t]? with
 | none=>rw [e2] at e; cases e
 | some r=>rw [e2] at e; cases e; exact ⟨rfl,h _ (PD e2)⟩
theorem Bf.more {root:Nat→Prop} (B:Bf root edge kvs) {q:Nat} (hp:p∉keys kvs) (hq:q∈keys kvs) (he:edge q p):Bf root edge (kvs++[(p,q)]):=by
 refine ⟨?_,fun t a b e=>?_⟩
 ·rw [O7]
  refine Sn.mpr ⟨B.nd,by simp,fun x hx y hy z=>?_⟩
  have:y=p:=by simpa using hy
  exact hp (by rw [← this,← z]; exact hx)
 ·by_cases ht:t<kvs.length
  ·rw [Pe ht] at e
   rcases B.src t a b e with z | ⟨u,r,hu,eu,ed⟩
   ·exact .inl z
   ·exact .inr ⟨u,r,hu,by rw [Pe ‹5›]; exact eu,ed⟩
  ·rw [Py ‹5›] at e
   have e0:t-kvs.length=0:=by
    cases h:t-kvs.length with
    | zero=>rfl
    | succ k=>rw [h] at e; simp at e
   rw [e0] at e
   cases e
   obtain ⟨u,r,eu⟩:=oP hq
   have hu:u<kvs.length:=(OR.mp eu).1
   exact .inr ⟨u,r,by omega,by rw [Pe hu]; exact eu,he⟩
theorem jy (kvs:List (Nat×Nat)):(keys kvs).length=kvs.length:=Oy ..
theorem jx (kvs:List (Nat×Nat)) (p q:Nat):keys (kvs++[(p,q)])=keys kvs++[p]:=by unfold keys; rw [O7]; rfl
theorem sW {l:List Nat} (h:l.Nodup) (hl:∀ x∈l,x<n):l.length≤n:=by
 have:=FP (m:=O0 n) h fun x hx=>O8.mpr (hl x hx)
 rw [PK] at this
 exact this
theorem yU {α:Type}:∀ (l:List α),(O0 ((l.length+1) / 2)).filterMap (fun k=>l[2*k]?)=xm l
 | []=>by
  rw [show (([]:List α).length+1) / 2=0 by simp]
  rfl
 | [x]=>by
  rw [show ([x].length+1) / 2=1 by simp]
  rfl
 | x::y::r=>by
  have ih:=yU r
  rw [show ((x::y::r).length+1) / 2=(r.length+1) / 2+1 by simp only [OW]; omega,Vv,QF]
  show x::_=x::xm r
  rw [WZ,← ih]
  congr 1
theorem GA (l:List α) (a n:Nat) (hn:n=l.length) (ha:a≤n):((O0 ((n-a+1) / 2)).map fun k=>a+2*k).filterMap (fun i=>l[i]?)=xm (l.drop a):=by
 rw [WZ,← yU (l.drop a),Va,hn]
 congr 1
 funext k
 show l[a+2*k]?=_
 rw [List.getElem?_drop]
theorem Cn {α β:Type} (f:α→β):∀ l:List α,xm (l.map f)=(xm l).map f
 | []=>rfl
 | [x]=>rfl
 | x::y::r=>by show f x::xm (r.map f)=f x::(xm r).map f; rw [Cn f r]
def Al:List Int→Prop
 | []=>True
 | b::e::r=>b≤e∧Al r
 | [_]=>False
theorem Jr (n a:Nat) (o:Option Int) (h:o=some (a:Int)∨(o=none∧a=0)):L2.stepI o none (some 2) n=(O0 ((n-min a n+1) / 2)).map fun k=>min a n+2*k:=by
 have e:L2.stepI o none (some 2) n=Vt ((min a n:Nat):Int) (n:Int) 2:=by
  unfold L2.stepI Rx
  rcases h with rfl | ⟨rfl,rfl⟩
  ·show Vt (max 0 (min (if (a:Int)<0 then (a:Int)+n else (a:Int)) n)) n 2=_
   rw [if_neg ‹5›,show max 0 (min (a:Int) (n:Int))=((min a n:Nat):Int) by omega]
  ·show Vt 0 n 2=_
   rw [show ((min 0 n:Nat):Int)=0 by omega]
 rw [e]
 generalize ha:min a n=b
 have hb:b≤n:=by omega
 unfold Vt
 simp only [show (2:Int) > 0 from by decide,if_true]
 have e2:(if (b:Int)<(n:Int) then ((n:Int)-b+2-1) / 2 else 0).toNat=(n-b+1) / 2:=by
  split
  ·omega
  ·omega
 rw [e2]
 refine PU fun k _=>?_
 omega
theorem Mn (l:List α) (a:Nat) (o:Option Int) (h:o=some (a:Int)∨(o=none∧a=0)):L2.gq l (L2.stepI o none (some 2) l.length)=xm (l.drop a):=by
 rw [Jr l.length a o h]
 unfold L2.gq
 rw [GA l (min a l.length) l.length rfl ‹5›]
 by_cases c:a≤l.length
 ·rw [show min a l.length=a by omega]
 ·rw [show min a l.length=l.length by omega,RU,List.drop_eq_nil_of_le ‹5›]
theorem CP (o:Option Int) (n:Nat) (a:Nat) (h:o=some (a:Int)∨(o=none∧a=0)):(L2.stepI o none (some 2) n).length≤n:=by
 rw [Jr n a o h,Oy,PK]
 omega
theorem pU (c k:Int):pV c k<2147483629:=Tc _ ‹11›
abbrev jo:=Int×Int×Int
def sH (w:jo):List D:=[.int w.1,.int w.2.1,.int w.2.2]
def aC (W:List jo):D:=.lst (W.map fun w=>.lst (sH w))
theorem hV {W:List jo} (hk:k<W.length):(W.map fun w=>D.lst (sH w))[k]?=some (.lst (sH (W.getD k (0,0,0)))):=by
 rw [OH,Ox,Ow hk]; rfl
theorem sY {a:Nat} (h:a<n):ixN n (a:Int)=some a:=by rw [Gh ‹5› ‹5›]; simp
theorem zx {a:Nat} (h:xs[a]?=some d):AD (.lst xs) (a:Int)=some d:=by
 have hl:=(OR.mp h).1
 show kL xs (a:Int)=some d
 unfold kL
 rw [sY hl]
 exact h
theorem AB {i:Int} {a:Nat} (e:i=(a:Int)) (h:xs[a]?=some d):AD (.lst xs) i=some d:=by rw [e]; exact zx h
theorem int_at {L:List Int} {i:Nat} (h:i<L.length):(L.map D.int)[i]?=some (.int (L.getD i 0)):=by
 rw [OH,Ox,Ow h]; rfl
def Hq (l:List Int):D:=.lst (l.map D.int)
def Gf (w:jo):Prop:=0≤w.1∧w.1≤w.2.1∧0≤w.2.2
theorem Mu {B:List (List Int)} {i:Nat} (h:i<B.length):(B.map Hq)[i]?=some (Hq (B.getD i [])):=by
 rw [OH,Ox,Ow h]; rfl
theorem K6 {i:Nat} {b:DE} {k:Int} {a:Nat} (h0:ρ.getD i .un=.ol xs) (hb:b ρ=some (.int k)) (e:k=(a:Int)) (h:xs[a]?=some d):GS i b ρ=some d:=by
 unfold GS
 rw [h0]
 show 20
 rw [hb]
 show 20
 have hl:=(OR.mp h).1
 unfold kL
 rw [e,sY hl]
 exact h
theorem jH (ns:List Int):um (.lst (ns.map D.int))=some (.int ns.sum):=ig _ ns
theorem Di (x:Int) (r:List Int):minD (.lst ((x::r).map D.int))=some (.int (Dh x r)):=ig _ (x::r)
theorem BH (n:Nat):(OY n [D.int 0]).flatten=(OY n (0:Int)).map D.int:=by
 induction n with
 | zero=>rfl
 | succ n ih=>rw [Qn,Qn,Rj,ih]; rfl
def natD (x:Nat):D:=.int (x:Int)
def mO (s:I2):D:=.lst [.int s.1,.int s.2]
def bU (S:List I2):D:=.lst (S.map mO)
def tD (T:List (List Int)):D:=.lst (T.map Hq)
theorem lW (T:List (List Int)):fQ (T.map fun r=>r.map D.int)=tD T:=by unfold fQ tD; rw [O3]; rfl
theorem Bp {i:Nat} (h:i<T.length):AD (tD T) (i:Int)=some (Hq (iy T i)):=zx (Mu h)
theorem EK {i:Nat} (h:eU T n m) (hi:i<n) (hj:j<m):AD (Hq (iy T i)) (j:Int)=some (.int (eM T i j)):=zx (int_at (by rw [h.2 i hi]; exact hj))
theorem eU.mem (h:eU T n m) (hr:r∈T):r.length=m:=by
 obtain ⟨i,e⟩:=Sj.mp hr
 have hi:=(OR.mp e).1
 have:=h.2 i (by rw [← h.1]; exact hi)
 unfold iy at this
 rw [Ox,e] at this
 exact this
abbrev wk (W:List jo) (i:Nat):jo:=W.getD i (0,0,0)
abbrev sg (S:List I2) (j:Nat):I2:=S.getD j (0,0)
theorem vc {S:List I2} (h:j<S.length):(S.map mO)[j]?=some (mO (sg S j)):=by
 unfold sg
 rw [OH,Ox,Ow h]; rfl
theorem fC (xs:List D):d6 (.lst xs)=some (.int (xs.length:Int)):=rfl
def kK (W:List jo) (T:List (List Int)) (i:Nat):Int:=(wk W i).2.2-kJ T i
def ue (W:List jo) (S:List I2) (T:List (List Int)) (i j:Nat):Int:=if (sg S j).1<(wk W i).1∨(wk W i).2.1<(sg S j).2 then 0 else (sg S j).2-(sg S j).1-eM T i j
def uf (N:Nat) (S:List I2) (T:List (List Int)) (j:Nat):Int:=((sg S j).2-(sg S j).1)*N-nN T j
section
variable {W:List jo} {S:List I2} {T:List (List Int)} {n m N:Nat}
theorem ny (hW:W.length=n) (h:eU T n m) {i:Nat} (hi:i<n):bz [aC W,tD T,.int (i:Int)]=some (.int (kK W T i)):=by
 refine cG jE ?_
 rw [ur]
 unfold g9
 exact bM (dR (aM (aM rfl rfl (zx (hV ‹5›))) rfl rfl) (dg (aM rfl rfl (Bp (by rw [h.1]; exact hi))) (jH _))) rfl
theorem Ll (h:eU T n m) (hj:j<m) {it:aK→Option (List D)} {cs:List Nat} {g:DG} {el:DE} (hi:it ρ=some (T.map Hq)) (hs:∀ r∈T,∃ ρ1,g (Hq r) (r0 k cs ρ)=some ρ1∧el ρ1=some (.int (jA r j))):gI um (bD (bX k cs it g cD el)) ρ=some (.int (nN T j)):=by
 refine dg (aY ?_) (jH (T.map fun r=>jA r j))
 rw [O3]
 exact bS Hq hi (fun r=>D.int (jA r j)) hs
theorem Md (h:eU T n m) (hj:j<m) (hr:r∈T):AD (Hq r) (j:Int)=some (.int (jA r j)):=zx (int_at (by rw [h.mem hr]; exact hj))
theorem oe (hN:N≤8) (hS:S.length=m) (h:eU T n m) (hj:j<m):bA [.int (N:Int),bU S,tD T,.int (j:Int)]=some (.int (uf N S T j)):=by
 refine cG iH ?_
 rw [q9]
 unfold fL
 refine wp_seq (aI (dR (aM (aM rfl rfl (zx (vc ‹5›))) rfl rfl) (aM (aM rfl rfl (zx (vc ‹5›))) rfl rfl)) ?_)
 show 0
 exact bM (dR (tH rfl rfl (Gq (.inr ⟨by omega,by omega⟩))) (Ll h hj (bF rfl rfl) fun r hr=>⟨_,rfl,mw (aM rfl rfl (Md h hj hr)) rfl⟩)) rfl
theorem uV (hW:W.length=n) (hS:S.length=m) (h:eU T n m) {i:Nat} (hi:i<n) (hj:j<m):cU [aC W,bU S,tD T,.int (i:Int),.int (j:Int)]=some (.int (ue W S T i j)):=by
 refine cG kC ?_
 rw [wb]
 unfold i8
 refine wp_seq (aI (aM (aM rfl rfl (zx (vc ‹5›))) rfl rfl) ?_)
 show 0
 refine wp_seq (aI (aM (aM rfl rfl (zx (vc ‹5›))) rfl rfl) ?_)
 show 0
 refine wp_seq (nX (GD (dM (tI rfl (aM (aM rfl rfl (zx (hV ‹5›))) rfl rfl))) fun _=>dM (iZ rfl (aM (aM rfl rfl (zx (hV ‹5›))) rfl rfl))) (fun c=>?_) fun c=>?_)
 ·rw [XS,decide_eq_true_iff,decide_eq_true_iff] at c
  exact bM rfl (by unfold ue; rw [if_pos c])
 ·rw [Bool.or_eq_false_iff,decide_eq_false_iff_not,decide_eq_false_iff_not] at c
  refine bY (bM (dR (dR rfl rfl) (aM (aM rfl rfl (Bp (by rw [h.1]; exact hi))) rfl (EK h hi hj))) ?_)
  unfold ue
  rw [if_neg (by rintro (z | z); exact c.1 z; exact c.2 z)]
def Ho (W:List jo) (S:List I2) (T:List (List Int)) (n m p:Nat):List Nat :=
 if n≤p then (O0 n).filter fun w=>decide (0<eM T w (p-n)) else ((O0 m).filter fun j=>decide (0<ue W S T p j)).map (n+·)
def AS (W:List jo) (S:List I2) (T:List (List Int)) (n m u v:Nat):Prop:=(u<n∧n≤v∧v<n+m∧0<ue W S T u (v-n))∨(n≤u∧v<n∧0<eM T v (u-n))
theorem B1 {v:Nat}:v∈Ho W S T n m p↔AS W S T n m p v:=by
 unfold Ho AS
 by_cases c:n≤p
 ·rw [if_pos c,P5,O8,decide_eq_true_iff]
  constructor
  ·exact fun h=>.inr ⟨c,h.1,h.2⟩
  ·rintro (h | h)
   ·omega
   ·exact ⟨h.2.1,h.2.2⟩
 ·rw [if_neg c,Pj]
  constructor
  ·rintro ⟨j,hj,rfl⟩
   rw [P5,O8,decide_eq_true_iff] at hj
   exact .inl ⟨by omega,by omega,by omega,by rw [show n+j-n=j by omega]; exact hj.2⟩
  ·rintro (h | h)
   ·exact ⟨v-n,by rw [P5,O8,decide_eq_true_iff]; exact ⟨by omega,h.2.2.2⟩,by omega⟩
   ·omega
theorem ng {a:DE} (h:a ρ=some (.int (k:Int))) (hk:k≤1000):nM a ρ=some ((O0 k).map natD):=by
 show 11
 rw [AO (i:=(k:Int)) h ⟨by omega,by omega⟩,QK]
 unfold Ed
 congr 1
 refine PU fun i _=>?_
 show D.int (0+(i:Int))=D.int (i:Int)
 rw [Um]
theorem Av (hW:W.length=n) (hS:S.length=m) (hn:n≤8) (hm:m≤20) (h:eU T n m) (hp:p<n+m):dk [aC W,bU S,tD T,.int (p:Int)]=some (.lst ((Ho W S T n m p).map natD)):=by
 show 13
 have eS:d6 (bU S)=some (.int (m:Int)):=by unfold bU; rw [fC,Oy,hS]
 refine cG jC ?_
 rw [uo]
 unfold g7
 refine wp_seq (aI (dg rfl eW) ?_)
 show 0
 refine wp_seq (Es (p:=(n:Int)≤(p:Int)) (dM (qQ rfl rfl)) (fun c=>?_) fun c=>?_)
 ·have c':n≤p:=by omega
  refine bM (aY (gu natD (xs:=O0 n) (ng rfl ‹5›) (fun w=>decide (0<eM T w (p-n))) natD fun w hw=>⟨_,rfl,dM (iZ (aM (aM rfl rfl (Bp (i:=w) ?_)) (dR rfl rfl) ?_) rfl),fun _=>rfl⟩)) ?_
  ·rw [h.1]; exact O8.mp hw
  ·rw [show (p:Int)-(n:Int)=((p-n:Nat):Int) by omega]
   exact EK h (O8.mp hw) ‹5›
  ·unfold Ho; rw [if_pos c']
 ·have c':¬ n≤p:=by omega
  refine bY (bM (aY (gu natD (xs:=O0 m) (ng (dg rfl eS) ‹5›) (fun j=>decide (0<ue W S T p j)) (fun j=>natD (n+j)) fun j hj=>⟨_,rfl,dM (iZ (aP (ae rfl (ae rfl (ae rfl ‹19›))) (uV hW hS h ‹5› (O8.mp hj))) rfl),fun _=>?_⟩)) ?_)
  ·rw [fE (i:=(n:Int)) (j:=(j:Int)) rfl rfl]
   show some (D.int ((n:Int)+(j:Int)))=some (D.int ((n+j:Nat):Int))
   rw [VH]
  ·unfold Ho; rw [if_neg c',O3]; rfl
end
def zz (p:Nat×Nat):Int×Int:=((p.1:Int),(p.2:Int))
theorem Ci (p:Nat):(pZ (kvs.map zz) (p:Int)).isSome=decide (p∈keys kvs):=by
 unfold pZ keys
 induction kvs with
 | nil=>rfl
 | cons q r ih =>
  rw [O9,O9,Ro]
  by_cases c:q.1=p
  ·rw [show decide ((zz q).1=(p:Int))=true by simp [zz,c]]
   simp [c]
  ·rw [show decide ((zz q).1=(p:Int))=false from decide_eq_false (by show ¬ ((q.1:Int)=(p:Int)); omega)]
   show 20
   rw [ih]
   have c':¬ p=q.1:=fun z=>c z.symm
   simp only [OP,c',false_or]
theorem Iw (nd:(keys kvs).Nodup) {t q:Nat} (e:kvs[t]?=some (p,q)):pZ (kvs.map zz) (p:Int)=some (q:Int):=by
 unfold pZ
 unfold keys at nd
 induction kvs generalizing t with
 | nil=>simp at e
 | cons x r ih =>
  rw [O9,Pc] at nd
  rw [O9,Ro]
  cases t with
  | zero =>
   cases e
   rw [show decide ((zz (p,q)).1=(p:Int))=true by simp [zz]]
   rfl
  | succ t =>
   have e:r[t]?=some (p,q):=by simpa using e
   have:x.1≠p:=fun z=>nd.1 (by rw [z]; exact Pj.mpr ⟨_,PD e,rfl⟩)
   rw [show decide ((zz x).1=(p:Int))=false from decide_eq_false (by show ¬ ((x.1:Int)=(p:Int)); omega)]
   exact ih nd.2 e
theorem yi (h:p∉keys kvs) (q:Nat):nh (kvs.map zz) (p:Int) (q:Int)=(kvs++[(p,q)]).map zz:=by
 unfold nh
 rw [if_neg,O7]
 ·rfl
 ·rw [List.any_map,TH]
  rintro ⟨x,hx,e⟩
  have e:(zz x).1=(p:Int):=by simpa using e
  have:x.1=p:=by unfold zz at e; omega
  exact h (by rw [← this]; exact Pj.mpr ⟨x,hx,rfl⟩)
theorem va:∀ {rs:List Nat} {kvs:List (Nat×Nat)},rs.Nodup→(∀ r∈rs,r∉keys kvs)→jt (rs.map fun r:Nat=>(r:Int)) (kvs.map zz)=(kvs++rs.map fun r=>(r,r)).map zz
 | [],kvs,_,_=>by rw [Q9,Q9,Qs]; rfl
 | r::rs,kvs,nd,h=>by
  obtain ⟨n1,n2⟩:=Pc.mp nd
  show jt (rs.map fun r:Nat=>(r:Int)) (nh (kvs.map zz) (r:Int) (r:Int))=_
  rw [yi (h r ON),va n2 fun s hs=>?_]
  ·rw [Qx]; rfl
  ·rw [jx,O4,not_or]
   exact ⟨h s (OI _ hs),fun z=>n1 (by rw [← OB.mp z]; exact hs)⟩
theorem yx (l:List Nat):l.map natD=(l.map fun r:Nat=>(r:Int)).map D.int:=by rw [O3]; rfl
structure Eg (W:List jo) (S:List I2) (T:List (List Int)) (n m:Nat) (kvs:List (Nat×Nat)):Prop where
 bf:Bf (fun r=>r<n∧0<kK W T r) (AS W S T n m) kvs
 roots:∀ r,r<n→0<kK W T r→r∈keys kvs
 lt:∀ p∈keys kvs,p<n+m
section
variable {W:List jo} {S:List I2} {T:List (List Int)} {n m N:Nat}
theorem Lh {u v:Nat} (h:AS W S T n m u v):v<n+m:=by
 unfold AS at h
 omega
theorem Eg.len (h:Eg W S T n m kvs):kvs.length≤n+m:=by
 rw [← jy]
 exact sW h.bf.nd h.lt
theorem wI (hW:W.length=n) (hS:S.length=m) (hn:n≤8) (hm:m≤20) (h:eU T n m):∃ kvs:List (Nat×Nat),dB [aC W,bU S,tD T]=some (.dct (kvs.map zz))∧Eg W S T n m kvs∧∀ p∈keys kvs,∀ v,AS W S T n m p v→v∈keys kvs:=by
  show 11
  show 13
  obtain ⟨d,e,kvs,rfl,hk⟩:=HW mU (ds:=[aC W,bU S,tD T]) (P:=fun d=>∃ kvs:List (Nat×Nat),d=.dct (kvs.map zz)∧Eg W S T n m kvs∧∀ p∈keys kvs,∀ v,AS W S T n m p v→v∈keys kvs) (by
    rw [zO]
    unfold mD
    generalize DJ:(O0 n).filter (fun i=>decide (0<kK W T i))=rs
    have rnd:rs.Nodup:=by rw [← DJ]; exact Ve.filter _
    have rmem:∀ r,r∈rs↔r<n∧0<kK W T r:=fun r=>by rw [← DJ,P5,O8,decide_eq_true_iff]
    have rlen:rs.length≤n:=sW rnd fun r hr=>((rmem r).mp hr).1
    refine wp_seq (fV (ds:=rs.map natD) ?_ ‹18› ?_)
    · rw [← DJ]
      exact gu natD (xs:=O0 n) (ng (dg rfl eW) ‹5›) (fun i=>decide (0<kK W T i)) natD fun i hi=>⟨_,rfl,dM (iZ (aP (ae rfl ‹19›) (ny hW h (O8.mp hi))) rfl),fun _=>rfl⟩
    show 0
    refine wp_seq (Hx ‹18› ?_)
    show 0
    refine wp_seq (CG (ns:=rs.map fun r:Nat=>(r:Int)) (kvs:=([]:List (Nat×Nat)).map zz) (by rw [← yx]; rfl) rfl ⟨by simp only [OW,Pb]; omega,by decide,by decide,by decide,by simp only [Q9,Pb,Oy]; omega⟩ ?_)
    rw [va rnd fun r _ z=>by cases z]
    rw [S3]
    show 0
    refine wp_seq (aI rfl ?_)
    show 0
    have R0:Eg W S T n m (rs.map fun r=>(r,r)):=by
      refine ⟨Bf.roots rnd fun r hr=>(rmem r).mp hr,fun r h1 h2=>?_,fun p hp=>?_⟩
      · exact Pj.mpr ⟨(r,r),Pj.mpr ⟨r,(rmem r).mpr ⟨h1,h2⟩,rfl⟩,rfl⟩
      · obtain ⟨q,hq,rfl⟩:=Pj.mp hp
        obtain ⟨r,hr,rfl⟩:=Pj.mp hq
        have:=((rmem r).mp hr).1
        show r<n+m
        omega
    have k0:rs.map natD=(keys (rs.map fun r=>(r,r))).map natD:=by
      unfold keys
      rw [O3,O3]
      rfl
    rw [k0]
    refine wp_seq (kM (fun k ρ=>∃ (kvs:List (Nat×Nat)) (l:Nat) (v7 v8:Sl),k=n+m-l∧l≤kvs.length∧Eg W S T n m kvs∧(∀ t p,t<l→key kvs t p→∀ v,AS W S T n m p v→v∈keys kvs)∧ρ=[.pu (aC W),.pu (bU S),.bo (tD T),.ol ((keys kvs).map natD),.od (kvs.map zz),.un,.pu (.int (l:Int)),v7,v8]) (n+m) ⟨_,0,_,_,rfl,PV _,R0,fun t p ht=>by omega,rfl⟩ ?_)
    rintro k ρ ⟨kvs,l,v7,v8,rfl,hl,R,cl,rfl⟩
    have hkl:=R.len
    refine ⟨_,dM (tI rfl (dg rfl (fC _))),fun c=>?_,fun c=>?_⟩
    · have c:(l:Int)<(((keys kvs).map natD).length:Int):=by simpa using c
      rw [Oy,jy] at c
      have hlt:l<kvs.length:=by omega
      obtain ⟨p,hp⟩:∃ p,(keys kvs)[l]?=some p:=⟨_,Ow (by rw [jy]; exact hlt)⟩
      have hpk:=K1 hp
      have hpl:=R.lt p (xi hpk)
      refine wp_seq (aI (d:=natD p) (K6 rfl rfl rfl (by rw [OH,hp]; rfl)) ?_)
      show 0
      refine wp_seq (pE (x:=(l:Int)) (y:=1) rfl rfl ?_)
      show 0
      refine fk (ds:=(Ho W S T n m p).map natD) (bF (aP (ae rfl (ae rfl ‹19›)) (Av hW hS hn hm h hpl)) rfl) (fun j ρ=>∃ (kvs':List (Nat×Nat)) (v8:Sl),Eg W S T n m kvs'∧(∃ more,kvs'=kvs++more)∧(∀ v∈(Ho W S T n m p).take j,v∈keys kvs')∧ρ=[.pu (aC W),.pu (bU S),.bo (tD T),.ol ((keys kvs').map natD),.od (kvs'.map zz),.un,.pu (.int ((l:Int)+1)),.pu (natD p),v8]) ⟨kvs,_,R,⟨[],by rw [Qs]⟩,fun v hv=>by simp at hv,rfl⟩ ?_ ?_
      · rintro j d ρ hd ⟨kvs',v8,R',⟨more,em⟩,hv,rfl⟩
        rw [OH] at hd
        cases ed:(Ho W S T n m p)[j]? with
        | none=>rw [ed] at hd; cases hd
        | some v =>
          rw [ed] at hd
          cases hd
          show 15
          show 10
          have hpm:p∈keys kvs':=by rw [em]; unfold keys; rw [O7]; exact Pa _ (xi hpk)
          have hev:AS W S T n m p v:=B1.mp (PD ed)
          have tk:(Ho W S T n m p).take (j+1)=(Ho W S T n m p).take j++[v]:=by rw [QN,ed]; rfl
          have hl':=R'.len
          refine nX (dM (Le (k:=(v:Int)) (kvs:=kvs'.map zz) rfl rfl)) (fun c=>?_) fun c=>?_
          · have c:v∉keys kvs':=by
              rw [if_pos rfl,Ci] at c
              simpa using c
            refine wp_seq (Hy (kvs:=kvs'.map zz) (k:=(v:Int)) (v:=(p:Int)) rfl rfl rfl (by rw [Oy]; omega) ?_)
            show 0
            rw [yi c p]
            refine zG (ds:=(keys kvs').map natD) (d:=natD v) rfl rfl (by rw [Oy,jy]; omega) ?_
            show 0
            refine ⟨kvs'++[(v,p)],_,⟨R'.bf.more c hpm hev,fun r h1 h2=>?_,fun q hq=>?_⟩,⟨more++[(v,p)],by rw [em,Qx]⟩,fun w hw=>?_,by rw [jx,O7 (f:=natD)]; rfl⟩
            · rw [jx]; exact Pa _ (R'.roots r h1 h2)
            · rw [jx] at hq
              rcases O4.mp hq with hq | hq
              · exact R'.lt q hq
              · rw [OB.mp hq]; exact Lh hev
            · rw [jx]
              rw [tk] at hw
              rcases O4.mp hw with hw | hw
              · exact Pa _ (hv w hw)
              · exact OJ _ hw
          · have c:v∈keys kvs':=by
              rw [if_pos rfl,Ci] at c
              simpa using c
            refine bY ⟨kvs',_,R',⟨more,em⟩,fun w hw=>?_,rfl⟩
            rw [tk] at hw
            rcases O4.mp hw with hw | hw
            · exact hv w hw
            · rw [OB.mp hw]; exact c
      · rintro ρ ⟨kvs',v8,R',⟨more,em⟩,hv,rfl⟩
        rw [Oy,Qd] at hv
        refine ⟨n+m-(l+1),by omega,kvs',l+1,_,_,rfl,by rw [em,O1]; omega,R',fun t q ht hk v hq=>?_,rfl⟩
        have hk':key kvs t q:=by
          obtain ⟨r,hr⟩:=hk
          rw [em,Pe ‹5›] at hr
          exact ⟨r,hr⟩
        by_cases ht':t<l
        · have:=cl t q ht' hk' v hq
          rw [em]; unfold keys; rw [O7]; exact Pa _ this
        · have:t=l:=by omega
          subst this
          have:q=p:=by
            obtain ⟨r1,h1⟩:=hk'
            obtain ⟨r2,h2⟩:=hpk
            rw [h1] at h2
            cases h2; rfl
          subst this
          exact hv v (B1.mpr hq)
    · have c:¬ (l:Int)<(((keys kvs).map natD).length:Int):=by simpa using c
      rw [Oy,jy] at c
      have:l=kvs.length:=by omega
      subst this
      refine Ep rfl ⟨kvs,rfl,R,fun p hp v hv=>?_⟩
      obtain ⟨t,ht⟩:=oP hp
      have htl:t<kvs.length:=by obtain ⟨q,e⟩:=ht; exact (OR.mp e).1
      exact cl t p htl ht v hv)
  exact ⟨kvs,e,hk⟩
end
theorem Lf {c:aK→Option Bool} {a b:DE} {x:Bool} (h:c ρ=some x) (h1:x=true→a ρ=some d) (h2:x=false→b ρ=some d):MJ c a b ρ=some d:=by
 unfold MJ
 rw [h]
 cases x with
 | true=>exact h1 rfl
 | false=>exact h2 rfl
theorem Cb (xs:List D) (d:D):AD (.lst (xs++[d])) (-1)=some d:=by
 show kL (xs++[d]) (-1)=some d
 unfold kL ixN
 rw [if_neg ‹5›,O1,Qh,if_pos ‹5›]
 rw [show ((-1:Int)+((xs.length+1:Nat):Int)).toNat=xs.length by omega]
 show (xs++[d])[xs.length]?=some d
 rw [Py (OT _),Uo]
 rfl
structure Wy (W:List jo) (S:List I2) (T:List (List Int)) (n m w0:Nat) (ws ss:List Nat) (sl:Nat):Prop where
 len:(w0::ws).length=ss.length
 last:ss=ss.take ws.length++[sl]
 gn:∀ p∈cq (w0::ws) ss,p.2<m∧0<ue W S T p.1 p.2
 ls:∀ p∈bK (w0::ws) ss,0<eM T p.1 p.2
 lt:∀ w∈w0::ws,w<n
 nd:(w0::ws).Nodup
 root:0<kK W T w0
theorem Bd:∀ {ws ss:List Nat},ws.length=ss.length→∀ s∈ss,∃ p∈ws.zip ss,p.2=s
 | [],[],_,s,h=>by cases h
 | w::ws,t::ss,hl,s,h=>by
  rcases OP.mp h with rfl | h
  ·exact ⟨(w,s),by rw [Sa]; exact ON,rfl⟩
  ·obtain ⟨p,hp,e⟩:=Bd (ws:=ws) (by simpa using hl) s h
   exact ⟨p,by rw [Sa]; exact OI _ hp,e⟩
 | [],t::ss,hl,_,_=>by simp at hl
 | w::ws,[],hl,_,_=>by simp at hl
section
variable {W:List jo} {S:List I2} {T:List (List Int)} {n m N:Nat}
theorem Wy.slt {ws ss:List Nat} (h:Wy W S T n m w0 ws ss sl):∀ s∈ss,s<m:=fun s hs=>by
 obtain ⟨p,hp,e⟩:=Bd h.len s hs
 rw [← e]
 exact (h.gn p hp).1
theorem Wy.L5 {ws ss:List Nat} (h:Wy W S T n m w0 ws ss sl):sl<m:=h.slt sl (by rw [h.last]; simp)
theorem JR (hn:n≤8) (hm:m≤20) (R:Eg W S T n m kvs) (hp:place∈keys kvs) (hpl:n≤place):∃ (w0:Nat) (ws ss:List Nat),gy [.dct (kvs.map zz),.int (place:Int),.int (n:Int)]=some (.lst ‹26›)∧Wy W S T n m w0 ws ss (place-n):=by
  show 11
  obtain ⟨t0,ht0⟩:=oP hp
  obtain ⟨d,e,w0,ws,ss,rfl,hk⟩:=rC o7 (ds:=[.dct (kvs.map zz),.int (place:Int),.int (n:Int)]) (P:=fun d=>∃ (w0:Nat) (ws ss:List Nat),d=.lst ‹26›∧Wy W S T n m w0 ws ss (place-n)) (by
    rw [CQ]
    unfold pj
    refine wp_seq (fV (ds:=[place].reverse.map natD) rfl ‹18› ?_)
    show 0
    refine wp_seq (kM (fun t ρ=>∃ (x:Nat) (r:List Nat),Bk (AS W S T n m) kvs place t (x::r)∧ρ=[.pu (.dct (kvs.map zz)),.pu (.int (place:Int)),.pu (.int (n:Int)),.ol ((x::r).reverse.map natD)]) t0 ⟨place,[],Bk.one ht0,rfl⟩ ?_)
    rintro t ρ ⟨x,r,B,rfl⟩
    obtain ⟨x',r',e1,q,eq⟩:=B.front
    cases e1
    have el:∀ ρ:aK,aj 3 ρ=some (.lst ((x::r).reverse.map natD))→cC (aj 3) (jm ‹29›) ρ=some (natD x):=fun ρ h=>by
      refine aM h (jY rfl) ?_
      rw [To,O7]
      exact Cb _ _
    have eg:∀ ρ:aK,aj 0 ρ=some (.dct (kvs.map zz))→aj 3 ρ=some (.lst ((x::r).reverse.map natD))→tV (aj 0) (cC (aj 3) (jm ‹29›)) ρ=some (natD q):=fun ρ h0 h3=>ID h0 (el ρ h3) (Iw R.bf.nd eq)
    have hlen:(x::r).length≤n+m:=sW B.nd fun y hy=>by
      obtain ⟨u,_,hu⟩:=B.up y hy
      exact R.lt y (xi hu)
    refine ⟨_,dM (AR (eg _ rfl rfl) (el _ rfl)),fun c=>?_,fun c=>?_⟩
    · have c:q≠x:=by
        have c:¬ ((q:Int)=(x:Int)):=by simpa using c
        intro z; exact c (by rw [z])
      obtain ⟨u,hu,B'⟩:=Bk.step R.bf B eq c
      refine zG (ds:=(x::r).reverse.map natD) (d:=natD q) rfl (eg _ rfl rfl) (by rw [Oy,SS]; omega) ?_
      show 0
      refine ⟨u,hu,q,x::r,B',?_⟩
      rw [To (a:=q),O7]
      rfl
    · have c:q=x:=by
        have c:(q:Int)=(x:Int):=by simpa using c
        omega
      subst c
      have hr:=R.bf.root eq
      obtain ⟨ws,ss,a1,a2,a3,a4,a5,a6,a7⟩:=alt (n:=n) (m:=m) (wr:=fun u j=>0<ue W S T u j) (tb:=fun v j=>0<eM T v j) r.length q r (OT _) B.NW hr.1 place B.last hpl
      refine bM (aY (bS natD (xs:=q::r) ?_ (fun e=>natD (if e<n then e else e-n)) fun e he=>⟨_,rfl,?_⟩)) ⟨q,ws,ss,?_,a2,a7,a3,a4,a5,a6.nodup B.nd,hr.2⟩
      · rw [Lc (ds:=(q::r).reverse.map natD) (bF rfl rfl),← List.map_reverse,List.reverse_reverse]
      · refine Lf (dM (tI (i:=(e:Int)) (j:=(n:Int)) rfl rfl)) (fun z=>?_) fun z=>?_
        · have z:(e:Int)<(n:Int):=by simpa using z
          rw [if_pos ‹5›]
          exact mw rfl rfl
        · have z:¬ (e:Int)<(n:Int):=by simpa using z
          rw [if_neg ‹5›,dR (i:=(e:Int)) (j:=(n:Int)) rfl rfl]
          show some (D.int ((e:Int)-(n:Int)))=some (D.int ((e-n:Nat):Int))
          rw [show (e:Int)-(n:Int)=((e-n:Nat):Int) by omega]
      · have:=yL (n:=n) (q::ws) ss a5
        rw [← a1] at this
        rw [← this,O3]
        rfl)
  exact ⟨w0,ws,ss,e,hk⟩
theorem wB (hW:W.length=n) (hS:S.length=m) (hn:n≤8) (hm:m≤20) (hN:N≤8) (h:eU T n m) :
    (bB [aC W,.int (N:Int),bU S,tD T]=some (.lst [])∧∃ kvs,Eg W S T n m kvs∧(∀ p∈keys kvs,∀ v,AS W S T n m p v→v∈keys kvs)∧∀ j,n+j∈keys kvs→uf N S T j≤0) ∨
    ∃ (w0:Nat) (ws ss:List Nat) (sl:Nat),bB [aC W,.int (N:Int),bU S,tD T]=some (.lst ‹26›)∧Wy W S T n m w0 ws ss sl∧0<uf N S T sl:=by
  show 13
  obtain ⟨kvs,ek,R,cl⟩:=wI hW hS hn hm h
  obtain ⟨d,e,hd⟩:=rC iI (ds:=[aC W,.int (N:Int),bU S,tD T]) (P:=fun d=>(d=.lst []∧∀ j,n+j∈keys kvs→uf N S T j≤0)∨∃ (w0:Nat) (ws ss:List Nat) (sl:Nat),d=.lst ‹26›∧Wy W S T n m w0 ws ss sl∧0<uf N S T sl) (by
    rw [rf]
    unfold fM
    refine wp_seq (En (ae rfl ‹19›) ek ‹18› ?_)
    show 0
    refine wp_seq (HA (kvs:=kvs.map zz) rfl (fun j ρ=>∃ (v5 v6:Sl),(∀ i p,i<j→(keys kvs)[i]?=some p→∀ k,p=n+k→uf N S T k≤0)∧ρ=[.pu (aC W),.pu (.int (N:Int)),.pu (bU S),.bo (tD T),.pu (.dct (kvs.map zz)),v5,v6]) ⟨_,_,fun i p hi=>by omega,rfl⟩ ?_ ?_)
    · rintro j ρ p hp ⟨v5,v6,hv,rfl⟩
      rw [OH] at hp
      cases ep:kvs[j]? with
      | none=>rw [ep] at hp; cases hp
      | some q =>
        rw [ep] at hp
        cases hp
        show 15
        show 10
        have hkj:(keys kvs)[j]?=some q.1:=by unfold keys; rw [OH,ep]; rfl
        have hq:q.1∈keys kvs:=PD hkj
        have hql:=R.lt _ hq
        refine wp_seq (aI (d:=.int ((q.1:Int)-(n:Int))) (dR rfl (dg rfl eW)) ?_)
        show 0
        by_cases c:n≤q.1
        · have es:bA [.int (N:Int),bU S,tD T,.int ((q.1:Int)-(n:Int))]=some (.int (uf N S T (q.1-n))):=by
            rw [show (q.1:Int)-(n:Int)=((q.1-n:Nat):Int) by omega]
            exact oe hN hS h ‹5›
          refine nX (nE (dM (qQ rfl rfl)) fun _=>dM (iZ (aP (ae rfl (ae rfl ‹19›)) es) rfl)) (fun z=>?_) fun z=>?_
          · rw [RA,decide_eq_true_iff,decide_eq_true_iff] at z
            obtain ⟨w0,ws,ss,ew,hw⟩:=JR hn hm R hq c
            exact bM (aP (ae rfl (ae rfl (ae (dg rfl eW) rfl))) ew) (.inr ⟨w0,ws,ss,_,rfl,hw,z.2⟩)
          · refine bY ⟨_,_,fun i p hi ei k ek=>?_,rfl⟩
            by_cases hij:i<j
            · exact hv i p hij ei k ek
            · have:i=j:=by omega
              subst this
              rw [hkj] at ei
              cases ei
              rw [Bool.and_eq_false_iff,decide_eq_false_iff_not,decide_eq_false_iff_not] at z
              rw [show q.1-n=k by omega] at z
              omega
        · refine dH ?_ (bY ⟨_,_,fun i p hi ei k ek=>?_,rfl⟩)
          · refine (nE (x:=false) (y:=false) (dM ?_) fun z=>by cases z)
            rw [qQ (i:=(q.1:Int)-(n:Int)) (j:=0) rfl rfl]
            exact congrArg (fun b=>some (D.bl b)) (decide_eq_false ‹5›)
          · by_cases hij:i<j
            · exact hv i p hij ei k ek
            · have:i=j:=by omega
              subst this
              rw [hkj] at ei
              cases ei
              omega
    · rintro ρ ⟨v5,v6,hv,rfl⟩
      refine bM rfl (.inl ⟨rfl,fun j hj=>?_⟩)
      obtain ⟨t,ht⟩:=Sj.mp hj
      refine hv t _ ?_ ht j rfl
      rw [Oy,← jy]
      exact (OR.mp ht).1)
  rcases hd with ⟨rfl,hj⟩ | ⟨w0,ws,ss,sl,rfl,hw⟩
  · exact .inl ⟨e,kvs,R,cl,hj⟩
  · exact .inr ⟨w0,ws,ss,sl,e,hw⟩
end
def pD (p:Nat×Nat):D:=.tup [natD p.1,natD p.2]
theorem zA:∀ (ws ss:List Nat),Ec (ws.map natD) (ss.map natD)=(ws.zip ss).map pD
 | [],_=>rfl
 | _::_,[]=>rfl
 | w::ws,s::ss=>by
  have:=zA ws ss
  unfold Ec at this ⊢
  rw [O9,O9,Vw,this]
  rfl
def tR (T:List (List Int)):List (List D):=T.map fun r=>r.map D.int
theorem EO (T:List (List Int)):(tR T).length=T.length:=Oy ..
theorem Ji {i:Nat} (h:i<T.length):(tR T)[i]?=some ((iy T i).map D.int):=by
 unfold tR iy
 rw [OH,Ox,Ow h]; rfl
theorem ES {i:Nat}:(tR T).set i (((iy T i).map D.int).set j (.int (eM T i j+a)))=tR (nQ T i j a):=by
 unfold nQ tR
 rw [Ul,Ul]
theorem Ii {l:List Int} (h:l≠[]):∃ a,minD (.lst (l.map D.int))=some (.int a)∧a∈l∧∀ x∈l,a≤x:=by
 cases l with
 | nil=>exact absurd rfl h
 | cons x r=>exact ⟨_,Di x r,ml r x⟩
section
variable {W:List jo} {S:List I2} {T:List (List Int)} {n m N:Nat}
theorem t9 {ps:List (Nat×Nat)} (hr:eU T n m) (hp:∀ p∈ps,p.1<n∧p.2<m) (j:Nat):eU (cK T (ps.take j) a) n m:=(mB (a:=a) hr fun p hp'=>hp p (SF hp')).1
theorem qX (T:List (List Int)) (ps:List (Nat×Nat)) (p:Nat×Nat) (a:Int):cK T (ps++[p]) a=nQ (cK T ps a) p.1 p.2 a:=by unfold cK; rw [Tu]; rfl
theorem Aw (hW:W.length=n) (hS:S.length=m) (hn:n≤8) (hm:m≤20) (hN:N≤8) (h:eU T n m) {ws ss:List Nat} (y:Wy W S T n m w0 ws ss sl) (hs:0<uf N S T sl):∃ a:Int,0<a∧a≤kK W T w0∧a≤uf N S T sl∧(∀ p∈cq (w0::ws) ss,a≤ue W S T p.1 p.2)∧(∀ p∈bK (w0::ws) ss,a≤eM T p.1 p.2) ∧
 ∀ q qs,dm q qs [aC W,.int (N:Int),bU S,tD T,.lst ‹26›]=some (tR (moved T (w0::ws) ss a)):=by
 show 11
 have hwl:(w0::ws).length≤n:=sW y.nd y.lt
 generalize hl:(kK W T w0::uf N S T sl::(‹38›.map fun p=>ue W S T p.1 p.2))++(‹57›.map fun p=>eM T p.1 p.2)=l
 obtain ⟨a,ea,ha,hmin⟩:=Ii (l:=l) (by rw [← hl]; simp)
 have pos:∀ x∈l,0<x:=fun x hx=>by
  rw [← hl] at hx
  rcases O4.mp hx with hx | hx
  ·rcases OP.mp hx with rfl | hx
   ·exact y.root
   ·rcases OP.mp hx with rfl | hx
    ·exact hs
    ·obtain ⟨p,hp,rfl⟩:=Pj.mp hx
     exact (y.gn p hp).2
  ·obtain ⟨p,hp,rfl⟩:=Pj.mp hx
   exact y.ls p hp
 have inL:∀ x,x∈l↔x∈(kK W T w0::uf N S T sl::(‹38›.map fun p=>ue W S T p.1 p.2))++(‹57›.map fun p=>eM T p.1 p.2):=fun x=>by rw [hl]
 refine ⟨a,pos a ha,hmin _ ((inL _).mpr (Pa _ ON)),hmin _ ((inL _).mpr (Pa _ (OI _ ON))),fun p hp=>hmin _ ((inL _).mpr (Pa _ (OI _ (OI _ (Pj.mpr ⟨p,hp,rfl⟩))))),fun p hp=>hmin _ ((inL _).mpr (OJ _ (Pj.mpr ⟨p,hp,rfl⟩))),fun q qs=>?_⟩
 have gl:∀ p∈cq (w0::ws) ss,p.1<n∧p.2<m:=fun p hp=>⟨y.lt _ (Q4 (a:=p.1) (b:=p.2) hp).1,(y.gn p hp).1⟩
 have ll:∀ p∈bK (w0::ws) ss,p.1<n∧p.2<m:=fun p hp=>⟨y.lt _ (SE (Q4 (a:=p.1) (b:=p.2) hp).1),y.slt _ (Q4 (a:=p.1) (b:=p.2) hp).2⟩
 refine HX jD (rows:=tR T) (by rw [show fQ (tR T)=tD T from lW T]; rfl) ?_
 rw [uq]
 dsimp only [PF,Px]
 unfold g8
 have il:=yM 0 (w0::ws) ss y.len
 have sl2:∀ (ρ:aK) (lo:aK→Option (Option Int)) (k:Nat),av 4 ρ=some (.lst ‹26›)→lo ρ=some (some (k:Int))→bD (xu (av 4) lo oI (jw (dC (.int 2)))) ρ=some (.lst ((xm ((dP 0 (w0::ws) ss).drop k)).map natD)):=fun ρ lo k h4 hlo=>by
  have q:=Lb (a:=av 4) (lo:=lo) (hi:=oI) (st:=jw (dC (.int 2))) (ds:=(dP 0 (w0::ws) ss).map natD) (bF h4 rfl) hlo rfl rfl ⟨by decide,by have:=CP (some (k:Int)) ‹26›.length k (.inl rfl); rw [Oy] at this ⊢; omega⟩
  rw [Mn _ k _ (.inl rfl),← Yo,Cn] at q
  exact aY q
 have e0:xm ((dP 0 (w0::ws) ss).drop 0)=w0::ws:=tG 0 (w0::ws) ss y.len
 have e1:xm ((dP 0 (w0::ws) ss).drop 1)=ss:=by rw [yu 0 (w0::ws) ss y.len]; rw [show (fun x:Nat=>0+x)=id from funext fun x=>Nat.zero_add x,T5]
 have e2:xm ((dP 0 (w0::ws) ss).drop 2)=(w0::ws).drop 1:=DP 0 (w0::ws) ss y.len
 refine wp_seq (aI (d:=.lst (‹38›.map pD)) (aY ?_) ?_)
 ·rw [AM (bF (sl2 _ _ 0 rfl rfl) rfl) (bF (sl2 _ _ 1 rfl rfl) rfl),e0,e1,zA]; rfl
 show 0
 refine wp_seq (aI (d:=.lst (‹57›.map pD)) (aY ?_) ?_)
 ·rw [AM (bF (sl2 _ _ 2 rfl rfl) rfl) (bF (sl2 _ _ 1 rfl rfl) rfl),e2,e1,zA]; rfl
 show 0
 have t0:∀ ρ:aK,ρ.getD 3 .un=.pm q qs (tR T)→aj 3 ρ=some (tD T):=fun ρ h3=>by unfold aj; rw [h3]; dsimp only; rw [← lW]; rfl
 obtain ⟨ss',ess⟩:∃ ss',ss=ss'++[sl]:=⟨_,y.last⟩
 have elast:∃ xs,(dP 0 (w0::ws) ss).map natD=xs++[natD sl]:=by
  have key:∀ (ws us:List Nat),ws.length=us.length+1→∃ xs,(dP 0 ws (us++[sl])).map natD=xs++[natD sl]:=by
   intro ws us
   induction us generalizing ws with
   | nil =>
    intro h
    match ws,h with
    | [w],_=>exact ⟨[natD w],by show [natD w,natD (0+sl)]=_; rw [Nat.zero_add]; rfl⟩
   | cons u us ih =>
    intro h
    match ws,h with
    | w::ws,h =>
     obtain ⟨xs,e⟩:=ih ws (by simpa using h)
     exact ⟨natD w::natD (0+u)::xs,by show natD w::natD (0+u)::(dP 0 ws (us++[sl])).map natD=_; rw [e]; rfl⟩
  have hlen:=y.len
  rw [ess] at hlen ⊢
  exact key (w0::ws) ss' (by rw [hlen,O1]; rfl)
 have ehead:∃ xs,(dP 0 (w0::ws) ss).map natD=natD w0::xs:=by
  have hlen:=y.len
  cases ss with
  | nil=>simp at hlen
  | cons s r=>exact ⟨_,rfl⟩
 obtain ⟨x1,ex1⟩:=elast
 obtain ⟨x2,ex2⟩:=ehead
 have hl0:∀ ρ:aK,av 0 ρ=some (aC W)→ρ.getD 3 .un=.pm q qs (tR T)→aj 4 ρ=some (.lst ‹26›)→bw bz (ao (av 0) (ao (aj 3) (ao (cC (aj 4) ‹22›) bu))) ρ=some (.int (kK W T w0)):=fun ρ h0 h3 h4=>aP (ae h0 (ae (t0 ρ h3) (ae (aM (e:=natD w0) h4 rfl (by rw [ex2]; exact AB (a:=0) rfl rfl)) rfl))) (ny hW h (y.lt _ ON))
 have hr0:∀ ρ:aK,av 1 ρ=some (.int (N:Int))→av 2 ρ=some (bU S)→ρ.getD 3 .un=.pm q qs (tR T)→aj 4 ρ=some (.lst ‹26›)→bw bA (ao (av 1) (ao (av 2) (ao (aj 3) (ao (cC (aj 4) (jm ‹29›)) bu)))) ρ=some (.int (uf N S T sl)):=fun ρ h1 h2 h3 h4=>aP (ae h1 (ae h2 (ae (t0 ρ h3) (ae (aM (e:=natD sl) h4 (jY rfl) (by rw [ex1]; exact Cb _ _)) rfl)))) (oe hN hS h y.L5)
 refine wp_seq (fV (ds:=[kK W T w0,uf N S T sl].map D.int) (ae (hl0 _ rfl rfl rfl) (ae (hr0 _ rfl rfl rfl rfl) rfl)) ‹18› ?_)
 show 0
 have gln:‹38›.length≤8:=by unfold cq; rw [XZ]; omega
 have lln:‹57›.length≤8:=by unfold bK; rw [XZ,Va]; omega
 have vw:∀ (k:Nat) (cs:List Nat) (ρ:aK),True:=fun _ _ _=>trivial
 refine wp_seq (zF (ds:=[kK W T w0,uf N S T sl].map D.int) (es:=(‹38›.map fun p=>ue W S T p.1 p.2).map D.int) rfl (aY ?_) (by rw [Oy,Oy,Oy,OW,OW,Pb]; omega) ?_)
 ·rw [show (‹38›.map fun p=>ue W S T p.1 p.2).map D.int=‹38›.map fun p=>D.int (ue W S T p.1 p.2) by rw [O3]; rfl]
  refine bS pD (xs:=cq (w0::ws) ss) ?_ (fun p=>D.int (ue W S T p.1 p.2)) ?_
  ·exact bF rfl rfl
  intro p hp
  show 15
  refine aP (ae rfl (ae rfl (ae (d:=tD T) ?_ ‹19›))) (uV hW hS h (gl p hp).1 (gl p hp).2)
  show some (D.lst ((tR T).map D.lst))=_
  rw [← lW]; rfl
 show 0
 refine wp_seq (zF (ds:=[kK W T w0,uf N S T sl].map D.int++(‹38›.map fun p=>ue W S T p.1 p.2).map D.int) (es:=(‹57›.map fun p=>eM T p.1 p.2).map D.int) rfl (aY ?_) (by rw [O1,Oy,Oy,Oy,Oy,Oy,OW,OW,Pb]; omega) ?_)
 ·rw [show (‹57›.map fun p=>eM T p.1 p.2).map D.int=‹57›.map fun p=>D.int (eM T p.1 p.2) by rw [O3]; rfl]
  refine bS pD (xs:=bK (w0::ws) ss) ?_ (fun p=>D.int (eM T p.1 p.2)) ?_
  ·exact bF rfl rfl
  intro p hp
  show 15
  refine mw (aM (aM (d:=tD T) ?_ rfl (Bp (by rw [h.1]; exact (ll p hp).1))) rfl (EK h (ll p hp).1 (ll p hp).2)) rfl
  show some (D.lst ((tR T).map D.lst))=_
  rw [← lW]; rfl
 show 0
 rw [← O7,← O7,show ([kK W T w0,uf N S T sl]++‹38›.map fun p=>ue W S T p.1 p.2)++(‹57›.map fun p=>eM T p.1 p.2)=l from hl]
 refine wp_seq (aI (d:=.int a) (dg rfl ea) ?_)
 show 0
 refine wp_seq (fk (ds:=‹38›.map pD) (bF rfl rfl) (fun j ρ=>∃ v9 v10:Sl,ρ=[.pu (aC W),.pu (.int (N:Int)),.pu (bU S),.pm q qs (tR (cK T (‹38›.take j) a)),.pu (.lst ‹26›),.pu (.lst (‹38›.map pD)),.pu (.lst (‹57›.map pD)),.ol (l.map D.int),.pu (.int a),v9,v10]) ⟨_,_,rfl⟩ ?_ ?_)
 ·rintro j d ρ hd ⟨v9,v10,rfl⟩
  rw [OH] at hd
  cases ed:‹38›[j]? with
  | none=>rw [ed] at hd; cases hd
  | some p =>
   rw [ed] at hd
   cases hd
   show 15
   show 10
   obtain ⟨p1,p2⟩:=gl p (PD ed)
   have hR:=t9 (a:=a) h gl j
   rw [QN,ed,show (some p).toList=[p] from rfl,qX]
   generalize cK T (‹38›.take j) a=T1 at hR
   show 9
   rw [ES]
   exact ⟨_,_,rfl⟩
 ·rintro ρ ⟨v9,v10,rfl⟩
  rw [Oy,Qd]
  have hR1:=t9 (a:=a) h gl ‹38›.length
  rw [Qd] at hR1
  refine fk (ds:=‹57›.map pD) (bF rfl rfl) (fun j ρ=>∃ v9 v10:Sl,ρ=[.pu (aC W),.pu (.int (N:Int)),.pu (bU S),.pm q qs (tR (cK (cK T ‹38› a) (‹57›.take j) (-a))),.pu (.lst ‹26›),.pu (.lst (‹38›.map pD)),.pu (.lst (‹57›.map pD)),.ol (l.map D.int),.pu (.int a),v9,v10]) ⟨_,_,rfl⟩ ?_ ?_
  ·rintro j d ρ hd ⟨v9,v10,rfl⟩
   rw [OH] at hd
   cases ed:‹57›[j]? with
   | none=>rw [ed] at hd; cases hd
   | some p =>
    rw [ed] at hd
    cases hd
    show 15
    show 10
    obtain ⟨p1,p2⟩:=ll p (PD ed)
    have hR:=t9 (a:=-a) hR1 ll j
    rw [QN,ed,show (some p).toList=[p] from rfl,qX]
    generalize cK (cK T ‹38› a) (‹57›.take j) (-a)=T1 at hR
    show 9
    rw [show eM T1 p.1 p.2-a=eM T1 p.1 p.2+-a from Int.sub_eq_add_neg,ES]
    exact ⟨_,_,rfl⟩
  ·rintro ρ ⟨v9,v10,rfl⟩
   rw [Oy,Qd]
   rfl
end
def kB (W:List jo):List Int:=(W.map fun w=>w.1)++W.map fun w=>w.2.1
theorem vz (W:List jo):(kB W).length=2*W.length:=by unfold kB; rw [O1,Oy,Oy]; omega
theorem zX {ns ms:List Int} (h:mL ns ms):ms.Pairwise (· < ·):=by
 have h1:=h.1
 have h2:=h.2.2
 refine Ra (fun {a b} _ _ q=>?_) (List.Pairwise.and h1 h2)
 have:=q.1
 have:=q.2
 omega
theorem HP {W:List jo} (he:mL (kB W) es):es.length≤2*W.length:=by
 rw [← vz]
 exact RZ he.1 fun x hx=>(he.2.1 x).mp hx
theorem BU:∀ es:List Int,(oE es).length=es.length-1
 | []=>rfl
 | [x]=>rfl
 | x::y::r=>by
  have:=BU (y::r)
  show (oE (y::r)).length+1=_
  rw [this]
  simp
theorem BS:∀ es:List Int,oE es=es.zip (es.drop 1)
 | []=>rfl
 | [x]=>rfl
 | x::y::r=>by
  have:=BS (y::r)
  show (x,y)::oE (y::r)=_
  rw [this]
  rfl
theorem vj:∀ es:List Int,oE es=(O0 (es.length-1)).map fun k=>(es.getD k 0,es.getD (k+1) 0)
 | []=>rfl
 | [x]=>rfl
 | x::y::r=>by
  have ih:=vj (y::r)
  show (x,y)::oE (y::r)=_
  rw [ih,show (x::y::r).length-1=r.length+1 from rfl,Vv,O9,O3]
  rfl
theorem IE {W:List jo} (hW:W.length≤8) (he:mL (kB W) es) {a b:DE} (ha:a ρ=some (.lst ((W.map fun w=>w.1).map D.int))) (hb:b ρ=some (.lst ((W.map fun w=>w.2.1).map D.int))):bD (tQ (bD (uP a b))) ρ=some (.lst (es.map D.int)):=by
 show 11
 refine aY (y0 (ns:=kB W) (bF (aY (xn ha hb (by rw [Oy,Oy,Oy,Oy]; omega))) ?_) (by rw [vz]; omega) he)
 unfold kB
 rw [O7]
 rfl
theorem Ei:∀ (xs ys:List Int),Ec (xs.map D.int) (ys.map D.int)=(xs.zip ys).map fun p=>D.tup [.int p.1,.int p.2]
 | [],_=>rfl
 | _::_,[]=>rfl
 | x::xs,y::ys=>by
  have:=Ei xs ys
  unfold Ec at this ⊢
  rw [O9,O9,Vw,this]
  rfl
theorem Nz (ds:List D):A0 ds (some 1) none=ds.drop 1:=by
 unfold A0
 cases ds with
 | nil=>rfl
 | cons d r =>
  have e1:HT.uB (d::r).length 0 (some 1)=1:=by simp [HT.uB]
  have e2:HT.uB (d::r).length (d::r).length none=(d::r).length:=rfl
  rw [e1,e2]
  show ((d::r).take (d::r).length).drop 1=_
  rw [Qd]
theorem vX {W:List jo} (hW:W.length≤8) (he:mL (kB W) es):cL [aC W]=some (bU (oE es)):=by
 refine cG iF ?_
 rw [qY]
 unfold fJ
 refine wp_seq (aI (IE hW he (aY ?_) (aY ?_)) ?_)
 ·rw [O3]
  exact bS (fun w:jo=>D.lst (sH w)) (bF rfl rfl) (fun w=>D.int w.1) fun w _=>⟨_,rfl,aM rfl rfl rfl⟩
 ·rw [O3]
  exact bS (fun w:jo=>D.lst (sH w)) (bF rfl rfl) (fun w=>D.int w.2.1) fun w _=>⟨_,rfl,aM rfl rfl rfl⟩
 show 0
 refine bM (d:=bU (oE es)) (aY ?_) rfl
 rw [BS]
 refine bS (fun p:I2=>D.tup [.int p.1,.int p.2]) ?_ mO fun p _=>⟨_,rfl,aY ‹19›⟩
 rw [AM (xs:=es.map D.int) (ys:=(es.drop 1).map D.int) (bF rfl rfl) (bF (aY (JK (bF rfl rfl) rfl rfl)) (by rw [Nz,← Yo]; rfl)),Ei]
def D2 (W:List jo) (S:List I2) (i j:Nat):Int:=if (sg S j).1<(wk W i).1∨(wk W i).2.1<(sg S j).2 then 0 else (sg S j).2-(sg S j).1
abbrev qB (W:List jo) (S:List I2) (N n m:Nat) (T:List (List Int)):Prop:=Hl n m (D2 W S) (fun i=>(wk W i).2.2) (fun j=>((sg S j).2-(sg S j).1)*N) T
theorem Hw {W:List jo} {S:List I2} {i:Nat} (h:0<ue W S T i j):ue W S T i j=D2 W S i j-eM T i j:=by
 unfold ue D2 at *
 by_cases c:(sg S j).1<(wk W i).1∨(wk W i).2.1<(sg S j).2
 ·rw [if_pos c] at h; omega
 ·rw [if_neg c,if_neg c]
theorem Bc {a:Int}:∀ {l:List Nat} {w:Nat},l.Nodup→w∈l→SM l (fun i=>if w=i then a else 0)=a
 | [],_,_,h=>by cases h
 | x::l,w,nd,h=>by
  obtain ⟨n1,n2⟩:=Pc.mp nd
  rw [cR]
  by_cases c:w=x
  ·subst c
   rw [if_pos rfl,iE (g:=fun _=>0) fun i hi=>if_neg fun z=>n1 (by rw [z]; exact hi),rS]
   omega
  ·rw [if_neg c,Bc n2 (by rcases OP.mp h with z | z; exact absurd z c; exact z)]
   omega
theorem Hg {α:Type} {f:α→Int}:∀ {l:List α},(∀ x∈l,0≤f x)→0≤SM l f
 | [],_=>Rf _
 | x::l,h=>by
  rw [cR]
  have:=h x ON
  have:=Hg (f:=f) (l:=l) fun y hy=>h y (OI _ hy)
  omega
def Full (W:List jo) (S:List I2) (N n m:Nat) (T:List (List Int)):Prop:=∃ kvs,Eg W S T n m kvs∧(∀ p∈keys kvs,∀ v,AS W S T n m p v→v∈keys kvs)∧∀ j,n+j∈keys kvs→uf N S T j≤0
theorem rW {i:Nat} (h:i<n):iy (OY n (OY m (0:Int))) i=OY m 0:=by
 unfold iy; rw [Ox,PY,if_pos h]; rfl
theorem xO (m:Nat):(OY m (0:Int)).sum=0:=by
 induction m with
 | zero=>rfl
 | succ m ih=>rw [Qn,Ry,ih]; rfl
theorem xP:jA (OY m (0:Int)) j=0:=by
 unfold jA; rw [Ox,PY]; split <;> rfl
section
variable {W:List jo} {S:List I2} {n m N:Nat}
theorem Nv (hg:∀ w∈W,Gf w) (hW:W.length=n) (hS:S.length=m) (hlt:∀ s∈S,s.1<s.2):qB W S N n m (OY n (OY m 0)):=by
 have hs:∀ j,j<m→(sg S j).1<(sg S j).2:=fun j hj=>hlt _ (by
  unfold sg; rw [Ox,Ow ‹5›]; exact QD _)
 have hw:∀ i,i<n→0≤(wk W i).2.2:=fun i hi=>(hg _ (by
  unfold wk; rw [Ox,Ow ‹5›]; exact QD _)).2.2
 have hc:∀ i j,i<n→eM (OY n (OY m 0)) i j=0:=fun i j hi=>by unfold eM; rw [rW hi,xP]
 refine ⟨⟨Pu,fun i hi=>by rw [rW hi,Pu]⟩,fun i j hi hj=>by rw [hc i j hi]; exact Rf _,fun i j hi hj=>?_,fun i hi=>?_,fun j hj=>?_⟩
 ·rw [hc i j hi]
  have:=hs j hj
  unfold D2
  split <;> omega
 ·unfold kJ
  rw [rW hi,xO]
  exact hw i hi
 ·unfold nN
  rw [UJ,xP,xO]
  have:=hs j hj
  exact Tv ‹5› ‹5›
theorem Ke (hW:W.length=n) (hn:n≤8) (hN:N≤8) (hg:∀ w∈W,Gf w) (he:mL (kB W) es):∃ T,cQ [aC W,.int (N:Int)]=some (.tup [bU (oE es),tD T])∧qB W (oE es) N n (oE es).length T∧Full W (oE es) N n (oE es).length T:=by
  show 11
  have hel:=HP he
  have hlt:=zX he
  generalize hS:oE es=S
  have hSl:S.length≤20:=by rw [← hS,BU]; omega
  have hSlt:∀ s∈S,s.1<s.2:=fun s hs=>by rw [← hS] at hs; exact (FI hlt s hs).1
  have eS:=vX ‹5› he
  rw [hS] at eS
  generalize hm:S.length=m
  have hm20:m≤20:=by omega
  have eL:d6 (bU S)=some (.int (m:Int)):=by unfold bU; rw [fC,Oy,hm]
  obtain ⟨d,e,T,rfl,hT⟩:=rC o8 (ds:=[aC W,.int (N:Int)]) (P:=fun d=>∃ T,d=.tup [bU S,tD T]∧qB W S N n m T∧Full W S N n m T) (by
    rw [CS]
    unfold pz
    refine wp_seq (aI (aP (ae rfl rfl) eS) ?_)
    show 0
    refine wp_seq (vO (rows:=tR (OY n (OY m 0))) ?_ ‹18› ?_)
    · have:=DT (ρ:=[.pu (aC W),.pu (.int (N:Int)),.pu (bU S),.un,.un]) (k:=1) (cs:=[2]) (it:=d7 (av 0)) (g:=gN true 0) (el:=xv (ao ‹22› bu) (gI d6 (aj 1))) (fun w:jo=>D.lst (sH w)) (xs:=W) (bF rfl rfl) (fun _=>(OY m (0:Int)).map D.int) fun w _=>⟨_,rfl,by
        rw [AQ (ds:=[.int 0]) (i:=(m:Int)) rfl (dg rfl eL) ⟨by omega,by omega,by simp; omega⟩,QK,BH]⟩
      rw [this]
      unfold tR
      simp only [VI,UJ,hW]
    show 0
    have F0:=Nv (N:=N) hg hW hm hSlt
    have tv:∀ (T:List (List Int)) (ρ:aK),ρ.getD 3 .un=.om (tR T)→aj 3 ρ=some (tD T):=fun T ρ h3=>by unfold aj; rw [h3]; dsimp only; rw [← lW]; rfl
    generalize OY n (OY m (0:Int))=T0 at F0
    /- ahead of each turn: a way,or none -/
    have fin:∀ (T:List (List Int)) (v4:Sl),qB W S N n m T→Full W S N n m T→Wp (Ad 3 (cP (yZ (ao (av 2) (ao (av 3) bu))))) [.pu (aC W),.pu (.int (N:Int)),.pu (bU S),.om (tR T),v4] { nx:=fun _=>∃ T,D.non=.tup [bU S,tD T]∧qB W S N n m T∧Full W S N n m T,rt:=fun d=>∃ T,d=.tup [bU S,tD T]∧qB W S N n m T∧Full W S N n m T }:=by
      intro T v4 F1 F2
      refine Et ?_
      dsimp only [jS,WA,WB,PF,Px]
      refine bM (d:=.tup [bU S,tD T]) (AN (ae rfl (ae ?_ rfl))) ⟨T,rfl,F1,F2⟩
      rw [← lW]; rfl
    have way:∀ T,qB W S N n m T→∃ d,bB [aC W,.int (N:Int),bU S,tD T]=some d∧((d=.lst []∧Full W S N n m T)∨∃ (w0:Nat) (ws ss:List Nat) (sl:Nat),d=.lst ‹26›∧Wy W S T n m w0 ws ss sl∧0<uf N S T sl):=fun T F1=>by
      rcases wB hW hm hn hm20 hN F1.jg with ⟨e1,kvs,k1,k2,k3⟩ | ⟨w0,ws,ss,sl,e1,y,hs⟩
      · exact ⟨_,e1,.inl ⟨rfl,kvs,k1,k2,k3⟩⟩
      · exact ⟨_,e1,.inr ⟨w0,ws,ss,sl,rfl,y,hs⟩⟩
    obtain ⟨d0,ed0,hd0⟩:=way T0 F0
    refine wp_seq (aI (aP (ae rfl (ae rfl (ae rfl (ae (tv T0 _ rfl) rfl)))) ed0) ?_)
    show 0
    refine wp_seq (kM (fun k ρ=>∃ (T:List (List Int)) (d:D),k=(SM (O0 n) (kK W T)).toNat∧qB W S N n m T∧((d=.lst []∧Full W S N n m T)∨∃ (w0:Nat) (ws ss:List Nat) (sl:Nat),d=.lst ‹26›∧Wy W S T n m w0 ws ss sl∧0<uf N S T sl)∧ρ=[.pu (aC W),.pu (.int (N:Int)),.pu (bU S),.om (tR T),.pu d]) _ ⟨T0,d0,rfl,F0,hd0,rfl⟩ ?_)
    rintro k ρ ⟨T,d,rfl,F1,hd,rfl⟩
    rcases hd with ⟨rfl,hF⟩ | ⟨w0,ws,ss,sl,rfl,y,hs⟩
    · exact ⟨false,du rfl rfl,fun z=>(by cases z),fun _=>fin T _ F1 hF⟩
    · have hne:EG (.lst ‹26›)=some true:=by
        have hlen:=y.len
        cases ss with
        | nil=>simp at hlen
        | cons s r=>rfl
      refine ⟨true,du rfl hne,fun _=>?_,fun z=>(by cases z)⟩
      obtain ⟨a,a0,a1,a2,a3,a4,a5⟩:=Aw hW hm hn hm20 hN F1.jg y hs
      refine wp_seq (Eu (rows:=tR T) rfl (ae rfl (ae rfl (ae rfl (ae (tv T _ rfl) (ae rfl rfl))))) (fun q qs _=>a5 q qs) ?_)
      show 0
      obtain ⟨F2,hrow⟩:=Hl.moved F1 (w0:=w0) (ws:=ws) (ss:=ss) (sl:=sl) (a:=a) ‹5› y.len y.last y.lt y.slt y.nd (by unfold kK at a1; omega) (by unfold uf at a2; omega) (fun p hp=>by
        have h1:=Hw (y.gn p hp).2
        have h2:=a3 p hp
        omega) a4
      obtain ⟨d2,ed2,hd2⟩:=way _ F2
      refine aI (aP (ae rfl (ae rfl (ae rfl (ae (tv _ _ rfl) rfl)))) ed2) ?_
      refine ⟨(SM (O0 n) (kK W (moved T (w0::ws) ss a))).toNat,?_,_,d2,rfl,F2,hd2,rfl⟩
      have e1:SM (O0 n) (kK W (moved T (w0::ws) ss a))=SM (O0 n) (kK W T)-a:=by
        have e2:SM (O0 n) (kK W (moved T (w0::ws) ss a))=SM (O0 n) fun i=>kK W T i-if w0=i then a else 0:=iE fun i _=>by
          unfold kK
          rw [hrow i]
          omega
        rw [e2,Hf,Bc Ve (O8.mpr (y.lt _ ON))]
      have nn:0≤SM (O0 n) (kK W (moved T (w0::ws) ss a)):=Hg fun i hi=>by
        have:=F2.row i (O8.mp hi)
        unfold kK
        omega
      omega)
  exact ⟨T,e,hT⟩
end
namespace Wr
local macro_rules | `(tactic| walk_at "fn")=>`(tactic| first | exact my _ _ (by omega))
theorem sY {a:Nat} (h:a<n):ixN n (a:Int)=some a:=by rw [Gh ‹5› ‹5›]; simp
structure Na (hs:List Int):Prop where
 len:hs.length≤20
 bd:∀ h∈hs,0≤h∧h<10 ^ 50
def nF (h b:Int):Int:=if h % b≠0 then h / b+1 else h / b
theorem AV (h b:Int) (h0:0<b) (h1:b<2 ^ 64):dt [.int h,.int b]=some (.int (nF h b)):=by
 refine cG jG ?_
 rw [uv]
 unfold hJ
 walk_at "go"
 refine nX (by walk_at "ev") (fun c=>?_) (fun c=>?_)
 ·refine bM (by walk_at "ev") ?_
  unfold nF
  rw [if_pos (by simpa using c)]
 ·walk_at "go"
  refine bM (by walk_at "ev") ?_
  unfold nF
  rw [if_neg (by simpa using c)]
def zL:List Int→Int
 | []=>0
 | x::r=>yA x r
def eI (hs:List Int) (b:Int):Int:=max (zL hs) (nF hs.sum b)
theorem mq (x:Int) (r:List Int):maxD (.lst ((x::r).map D.int))=some (.int (yA x r)):=ig _ (x::r)
theorem Nw (hs:List Int) (b:Int) (h0:0<b) (h1:b<2 ^ 64):dq [.lst (hs.map D.int),.int b]=some (.int (nF hs.sum b)):=by
 refine cG jF ?_
 rw [uu]
 unfold hG
 exact bM (aP (ae (dg rfl (CO _)) (ae rfl rfl)) (AV _ _ h0 h1)) rfl
theorem least (hs:List Int) (b:Int) (h0:0<b) (h1:b<2 ^ 64):cV [.lst (hs.map D.int),.int b]=some (.int (eI hs b)):=by
 refine cG kE ?_
 rw [wd]
 unfold ja
 cases hs with
 | nil =>
  refine wp_seq (mZ (qh (x:=false) (du rfl rfl)) (bM rfl ?_))
  unfold eI zL nF
  simp
 | cons x r =>
  refine wp_seq (dH (qh (x:=true) (du rfl rfl)) (bY ?_))
  exact bM (rM (dg rfl (mq _ _)) (aP ‹19› (Nw _ _ h0 h1))) rfl
theorem EI (hh:h∈hs):h≤zL hs:=by
 cases hs with
 | nil=>cases hh
 | cons x r=>exact (ia r x).2 h hh
theorem Li {t b:Int} (hb:0<b):t≤b*nF t b:=by
 have h1:=Sk t b
 have h2:=S7 t (show b≠0 by omega)
 have h3:=Tc t hb
 unfold nF
 split
 ·rw [T4,UQ]; omega
 ·omega
theorem EY:∀ {hs:List Int} {B:Int},(∀ h∈hs,0≤h∧h<B)→0≤hs.sum∧hs.sum≤hs.length*B
 | [],B,_=>by simp
 | x::r,B,h=>by
  have h1:=h x ON
  have h2:=EY (hs:=r) fun y hy=>h y (OI _ hy)
  rw [Ry,OW]
  have:((r.length+1:Nat):Int)*B=(r.length:Int)*B+B:=by rw [VH,R3]; omega
  omega
theorem FZ {b:Int} (h:Na hs) (h0:0<b):0≤eI hs b∧eI hs b<10 ^ 53:=by
 have s:=EY h.bd
 have hl:=h.len
 have s2:hs.sum≤20*10 ^ 50:=by
  have:(hs.length:Int)*10 ^ 50≤20*10 ^ 50:=by omega
  omega
 have d0:0≤hs.sum / b:=X0 s.1 ‹5›
 have d1:hs.sum / b≤hs.sum:=Int.ediv_le_self _ s.1
 have d:0≤nF hs.sum b∧nF hs.sum b≤hs.sum+1:=by unfold nF; split <;> omega
 have t:zL hs<10 ^ 50:=by
  cases hs with
  | nil=>unfold zL; decide
  | cons x r=>exact (h.bd _ (ia r x).1).2
 unfold eI
 omega
def je (e w b a:Int):List (List Int):=if b<a then (if min a ((b / e+1)*e)<a then [[b / e,w,b-b / e*e,min a ((b / e+1)*e)-b / e*e],[b / e+1,w,0,a-(b / e+1)*e]] else [[b / e,w,b-b / e*e,min a ((b / e+1)*e)-b / e*e]]) else []
def pre (hs:List Int) (j:Nat):Int:=(hs.take j).sum
def gm (e:Int) (hs:List Int):Nat→List (List Int)
 | 0=>[]
 | j+1=>gm e hs j++je e j (pre hs j) (pre hs (j+1))
theorem Fp (e w b a:Int):(je e w b a).length≤2:=by
 unfold je
 split
 ·split <;> simp
 ·simp
theorem sG (e:Int) (hs:List Int):∀ j,(gm e hs j).length≤2*j
 | 0=>OT _
 | j+1=>by
  have h1:=sG e hs j
  have h2:=Fp e j (pre hs j) (pre hs (j+1))
  show (gm e hs j++je e j (pre hs j) (pre hs (j+1))).length≤_
  rw [O1]; omega
theorem yk (e:hs[j]?=some h):pre hs (j+1)=pre hs j+h:=by
 unfold pre
 rw [QN,e,Ue]
 simp
def Mb (z:List Int):List D:=z.map D.int
def eY (zs:List (List Int)):List (List D):=zs.map Mb
def KI (zs:List (List Int)):List D:=zs.map fun z=>D.lst (Mb z)
theorem ve (R:List (List Int)) (a b c d:Int):eY R++[[.int a,.int b,.int c,.int d]]=eY (R++[[a,b,c,d]]):=by unfold eY; rw [O7]; rfl
theorem HY (R:List (List Int)):fQ (eY R)=.lst (KI R):=by unfold fQ eY KI; rw [O3]; rfl
theorem GI {e k r b:Int} (he:0<e) (h:k*e+r=b) (h0:0≤r) (h1:r<e):b / e=k:=by
 rw [← h,Int.add_comm,Int.add_mul_ediv_right _ _ ‹5›,Int.ediv_eq_zero_of_lt h0 h1,Um]
structure Hl (hs:List Int) (b e:Int):Prop where
 DJ:Na hs
 b0:1≤b∧b≤20
 le:eI hs b≤e
 e0:0≤e∧e<10 ^ 60
theorem Hl.hour {b e:Int} (f:Hl hs b e) (hh:h∈hs):0≤h∧h≤e:=by
 have h1:=EI hh
 have h2:=f.le
 have h3:=f.DJ.bd h hh
 unfold eI at h2
 omega
theorem Kn (h:∀ x∈hs,0≤x):∀ j,0≤pre hs j∧pre hs j≤hs.sum:=by
 have key:∀ (hs:List Int),(∀ x∈hs,0≤x)→0≤hs.sum:=fun hs=>by
  induction hs with
  | nil=>intro _; simp
  | cons x r ih=>intro h; rw [Ry]; have:=h x ON; have:=ih fun y hy=>h y (OI _ hy); omega
 intro j
 have e:hs.sum=pre hs j+(hs.drop j).sum:=by
  unfold pre
  rw [← Ue,TB]
 have k1:=key (hs.take j) fun x hx=>h x (SF hx)
 have k2:=key (hs.drop j) fun x hx=>h x (SE hx)
 unfold pre at *
 omega
theorem Of {a:DE} (h:a ρ=some ‹40›):GV (nA a) ρ=some (DU (hs.map D.int)):=by
 have hf:kA (hs.map D.int)=true:=by
  unfold kA
  rw [List.all_map]
  exact Qu.mpr fun _ _=>rfl
 have e1:nA a ρ=some ‹40›:=by
  unfold nA
  rw [bF h rfl]
  exact if_pos hf
 unfold GV
 rw [bF e1 rfl]
theorem Lg (ds:List D):(DU ds).length=ds.length:=by unfold DU; rw [WT]
theorem wrapped {b e:Int} (f:Hl hs b e):fe [.lst (hs.map D.int),.int b,.int e]=some (fQ (eY (gm e hs hs.length))):=by
 show 11
 have hb:=f.b0
 have hlen:=f.DJ.len
 refine BG mT ?_
 rw [zN]
 unfold mC
 refine wp_seq (aI (aP ‹19› (least hs b ‹5› ‹5›)) ?_)
 show 0
 have hle:=f.le
 refine wp_seq (dH (by rw [dM (tI rfl rfl),decide_eq_false ‹5›]) (bY ?_))
 generalize eI hs b=L
 refine wp_seq (vO (rows:=eY []) rfl ‹18› ?_)
 show 0
 refine wp_seq (aI rfl ?_)
 show 0
 refine wp_seq (aI rfl ?_)
 show 0
 refine wp_seq (fk (Of rfl) (fun j ρ=>∃ (k m:Int) (v7 v8 v9 v10:Sl),k*e+m=pre hs j∧0≤m∧m≤e∧ρ=[.bo ‹40›,.bo (.int b),.bo (.int e),.pu (.int L),.om (eY (gm e hs j)),.pu (.int k),.pu (.int m),v7,v8,v9,v10]) ⟨0,0,_,_,_,_,by unfold pre; simp,by omega,by have:=f.e0; omega,rfl⟩ ?_ ?_)
 ·rintro j d ρ hd ⟨k,m,v7,v8,v9,v10,hkm,hm0,hme,rfl⟩
  obtain ⟨e',he',rfl⟩:=xp hd
  rw [OH] at he'
  obtain ⟨h,hh,rfl⟩:=P7.mp he'
  have hmem:=PD hh
  have hj:j<hs.length:=(OR.mp hh).1
  have fh:=f.hour hmem
  have ps:=yk hh
  have rl:=sG e hs j
  show 15
  show 10
  show Wp _ _ { nx:=fun ρ=>∃ (k m:Int) (v7 v8 v9 v10:Sl),k*e+m=pre hs (j+1)∧0≤m∧m≤e∧ρ=[.bo ‹40›,.bo (.int b),.bo (.int e),.pu (.int L),.om (eY (gm e hs j++je e j (pre hs j) (pre hs (j+1)))),.pu (.int k),.pu (.int m),v7,v8,v9,v10],rt:=_,bk:=_,ct:=_ }
  generalize hR:gm e hs j=R at rl
  generalize hp:pre hs j=p at hkm ps
  rw [ps]
  refine wp_seq (aI rfl ?_)
  show 0
  by_cases hh0:h=0
  ·-- nothing to lay
   subst hh0
   refine kM (fun _ ρ=>ρ=[.bo ‹40›,.bo (.int b),.bo (.int e),.pu (.int L),.om (eY R),.pu (.int k),.pu (.int m),.pu (.int (j:Int)),.pu (.int 0),.pu (.int 0),v10]) 0 rfl ?_
   rintro n ρ rfl
   show 22
   have hs0:je e j p (p+0)=[]:=by unfold je; rw [if_neg ‹5›]
   show 20
   rw [hs0,Qs]
   exact ⟨k,m,_,_,_,_,by omega,hm0,hme,rfl⟩
  ·have he:0<e:=by omega
   have hpos:0<h:=by omega
   obtain ⟨k0,m0,hkm0,hm00,hm0e⟩:∃ k0 m0:Int,k0*e+m0=p∧0≤m0∧m0<e:=by
    refine ⟨p / e,p % e,?_,S7 _ ‹5›,Tc _ he⟩
    rw [SJ]; exact Sk p e
   have hdiv:=GI he hkm0 hm00 hm0e
   have e1:(k0+1)*e=k0*e+e:=by rw [R3,Tf]
   have hseg:je e j p (p+h)=if p+h≤k0*e+e then [[k0,(j:Int),m0,m0+h]] else [[k0,(j:Int),m0,e],[k0+1,(j:Int),0,p+h-(k0*e+e)]]:=by
    unfold je
    rw [if_pos ‹5›,hdiv,e1]
    by_cases c:p+h≤k0*e+e
    ·rw [if_neg ‹5›,if_pos c]
     have a1:p-k0*e=m0:=by omega
     have a2:min (p+h) (k0*e+e)-k0*e=m0+h:=by omega
     rw [a1,a2]
    ·rw [if_pos ‹5›,if_neg c]
     have a1:p-k0*e=m0:=by omega
     have a2:min (p+h) (k0*e+e)-k0*e=e:=by omega
     rw [a1,a2]
   rw [hseg]
   have hst:(k=k0∧m=m0)∨(m=e∧k0=k+1∧m0=0):=by
    by_cases c:m=e
    ·right
     have:p / e=k+1:=GI he (k:=k+1) (r:=0) (by rw [R3,Tf]; omega) ‹5› he
     have hk1:k0=k+1:=by omega
     have e2:(k+1)*e=k*e+e:=by rw [R3,Tf]
     subst hk1
     exact ⟨c,rfl,by omega⟩
    ·left
     have:=GI he hkm hm0 ‹5›
     have hk1:k=k0:=by omega
     subst hk1
     exact ⟨rfl,by omega⟩
   refine kM (fun n ρ=>(n=2∧∃ v10,ρ=[.bo ‹40›,.bo (.int b),.bo (.int e),.pu (.int L),.om (eY R),.pu (.int k),.pu (.int m),.pu (.int (j:Int)),.pu (.int h),.pu (.int h),v10]) ∨
    (n=1∧p+h≤k0*e+e∧∃ v10,ρ=[.bo ‹40›,.bo (.int b),.bo (.int e),.pu (.int L),.om (eY (R++[[k0,(j:Int),m0,m0+h]])),.pu (.int k0),.pu (.int (m0+h)),.pu (.int (j:Int)),.pu (.int h),.pu (.int 0),v10]) ∨
    (n=1∧¬ p+h≤k0*e+e∧∃ v10,ρ=[.bo ‹40›,.bo (.int b),.bo (.int e),.pu (.int L),.om (eY (R++[[k0,(j:Int),m0,e]])),.pu (.int k0),.pu (.int e),.pu (.int (j:Int)),.pu (.int h),.pu (.int (p+h-(k0*e+e))),v10]) ∨
    (n=0∧¬ p+h≤k0*e+e∧∃ v10,ρ=[.bo ‹40›,.bo (.int b),.bo (.int e),.pu (.int L),.om (eY (R++[[k0,(j:Int),m0,e],[k0+1,(j:Int),0,p+h-(k0*e+e)]])),.pu (.int (k0+1)),.pu (.int (p+h-(k0*e+e))),.pu (.int (j:Int)),.pu (.int h),.pu (.int 0),v10])) 2 (.inl ⟨rfl,_,rfl⟩) ?_
   rintro n ρ (⟨rfl,v,rfl⟩ | ⟨rfl,c,v,rfl⟩ | ⟨rfl,c,v,rfl⟩ | ⟨rfl,c,v,rfl⟩)
   ·refine ⟨true,by rw [dM (iZ rfl rfl),decide_eq_true hpos],fun _=>?_,fun z=>by cases z⟩
    have norm:∀ (s:DS) (W:Wk),Wp s [.bo ‹40›,.bo (.int b),.bo (.int e),.pu (.int L),.om (eY R),.pu (.int k0),.pu (.int m0),.pu (.int (j:Int)),.pu (.int h),.pu (.int h),v] W →
     Wp (aL (mJ (dT (rp false (aj 6) (aj 2))) (aL (yf (fun x y=>x+y) 5 ‹29›) (bN 6 ‹22›)) df) s) [.bo ‹40›,.bo (.int b),.bo (.int e),.pu (.int L),.om (eY R),.pu (.int k),.pu (.int m),.pu (.int (j:Int)),.pu (.int h),.pu (.int h),v] W:=by
     intro s W hW
     rcases hst with ⟨rfl,rfl⟩ | ⟨rfl,rfl,rfl⟩
     ·exact wp_seq (dH (by rw [dM (lH rfl rfl),decide_eq_false ‹5›]) (bY hW))
     ·refine wp_seq (mZ (by rw [dM (lH rfl rfl),decide_eq_true rfl]) (wp_seq (pE rfl rfl ?_)))
      show 0
      exact aI rfl hW
    refine norm _ _ ?_
    refine wp_seq (aI (rK (fE rfl rfl) rfl) ?_)
    show 0
    refine wp_seq (rz rfl rfl (by unfold eY; rw [Oy]; omega) ?_)
    show 0
    rw [ve]
    refine wp_seq (pE rfl (dR rfl rfl) ?_)
    show 0
    refine aI rfl ?_
    show 0
    by_cases c:p+h≤k0*e+e
    ·refine ⟨1,by omega,.inr (.inl ⟨rfl,c,.pu (.int (m0+h)),?_⟩)⟩
     have a1:min (m0+h) e=m0+h:=by omega
     have a2:h-(m0+h-m0)=0:=by omega
     rw [a1,a2]
    ·refine ⟨1,by omega,.inr (.inr (.inl ⟨rfl,c,.pu (.int e),?_⟩))⟩
     have a1:min (m0+h) e=e:=by omega
     have a2:h-(e-m0)=p+h-(k0*e+e):=by omega
     rw [a1,a2]
   ·show 22
    show 20
    rw [if_pos c]
    exact ⟨k0,m0+h,_,_,_,_,by omega,by omega,by omega,rfl⟩
   ·refine ⟨true,by rw [dM (iZ rfl rfl),decide_eq_true ‹5›],fun _=>?_,fun z=>by cases z⟩
    refine wp_seq (mZ (by rw [dM (lH rfl rfl),decide_eq_true rfl]) (wp_seq (pE rfl rfl ?_)))
    show 0
    refine aI rfl ?_
    show 0
    refine wp_seq (aI (rK (fE rfl rfl) rfl) ?_)
    show 0
    refine wp_seq (rz rfl rfl (by unfold eY; rw [Oy,O1,Qh]; omega) ?_)
    show 0
    rw [ve]
    refine wp_seq (pE rfl (dR rfl rfl) ?_)
    show 0
    refine aI rfl ?_
    show 0
    refine ⟨0,by omega,.inr (.inr (.inr ⟨rfl,c,.pu (.int (p+h-(k0*e+e))),?_⟩))⟩
    have a1:min (0+(p+h-(k0*e+e))) e=p+h-(k0*e+e):=by omega
    have a2:p+h-(k0*e+e)-(p+h-(k0*e+e)-0)=0:=by omega
    rw [a1,a2,Qx]
    rfl
   ·show 22
    show 20
    rw [if_neg c]
    exact ⟨k0+1,p+h-(k0*e+e),_,_,_,_,by omega,by omega,by omega,rfl⟩
 ·rintro ρ ⟨k,m,v7,v8,v9,v10,_,_,_,rfl⟩
  refine Eo rfl ?_
  rw [Lg,Oy]
end Wr
abbrev R4:=Int×Int×Int×Int
namespace R4
abbrev b (r:R4):Int:=r.1
abbrev w (r:R4):Int:=r.2.1
abbrev s (r:R4):Int:=r.2.2.1
abbrev e (r:R4):Int:=r.2.2.2
end R4
def Dj (x y:R4):Prop:=x.b=y.b→x.e≤y.s∨y.e≤x.s
structure Ap (rs:List R4):Prop where
 pos:∀ r∈rs,r.s<r.e
 dj:rs.Pairwise Dj
def Nx (x y:R4):Prop:=y.b=x.b∧y.w=x.w∧y.s=x.e
instance (x y:R4):Decidable (Nx x y):=by unfold Nx; infer_instance
def Hj (x y:R4):Prop:=x.b<y.b∨(x.b=y.b∧(x.w<y.w∨(x.w=y.w∧(x.s<y.s∨(x.s=y.s∧x.e≤y.e)))))
theorem Dj.symm {x y:R4} (h:Dj x y):Dj y x:=fun q=>(h q.symm).symm
theorem Ap.perm {rs ss:List R4} (h:Ap rs) (p:ss.Perm rs):Ap ss:=⟨fun r hr=>h.pos r (p.mem_iff.mp hr),(p.pairwise_iff fun h=>Dj.symm h).mpr h.dj⟩
theorem BL {α:Type} {R:α→α→Prop} (sy:∀ x y,R x y→R y x):∀ {l:List α},l.Pairwise R→∀ {x y:α},x∈l→y∈l→x=y∨R x y
 | a::l,h,x,y,hx,hy=>by
  obtain ⟨h1,h2⟩:=Qm.mp h
  rcases OP.mp hx with ex | hx <;> rcases OP.mp hy with ey | hy
  ·exact .inl (ex.trans ey.symm)
  ·exact .inr (ex ▸ h1 y hy)
  ·exact .inr (ey ▸ sy _ _ (h1 x hx))
  ·exact BL sy h2 hx hy
theorem Ap.two {rs:List R4} (h:Ap rs) {x y:R4} (hx:x∈rs) (hy:y∈rs) (eb:x.b=y.b) (es:x.s=y.s):x=y:=by
 have h1:=h.pos x hx
 have h2:=h.pos y hy
 rcases BL (fun _ _ q=>Dj.symm q) h.dj hx hy with q | q
 ·exact q
 ·rcases q eb with q | q <;> omega
inductive Fi (rs:List R4):R4→Int→Prop
 | stop {x:R4}:(∀ q∈rs,¬ Nx x q)→Fi rs x x.e
 | step {x q:R4} {E:Int}:q∈rs→Nx x q→Fi rs q E→Fi rs x E
theorem Fi.uniq {rs:List R4} (h:Ap rs) {x:R4} {F:Int} (a:Fi rs x E) (c:Fi rs x F):E=F:=by
 induction a with
 | stop h0 =>
  cases c with
  | stop=>rfl
  | step hq hn _=>exact absurd hn (h0 _ hq)
 | step hq hn _ ih =>
  cases c with
  | stop h0=>exact absurd hn (h0 _ hq)
  | step hq' hn' c' =>
   have:=h.two hq hq' (by have:=hn.1; have:=hn'.1; omega) (by have:=hn.2.2; have:=hn'.2.2; omega)
   subst this
   exact ih c'
theorem Fi.perm {rs ss:List R4} (p:rs.Perm ss) {x:R4} (a:Fi rs x E):Fi ss x E:=by
 induction a with
 | stop h0=>exact .stop fun q hq=>h0 q (p.mem_iff.mpr hq)
 | step hq hn _ ih=>exact .step (p.mem_iff.mp hq) hn ih
def Bg (rs:List R4) (x:R4):Prop:=∀ q∈rs,¬ Nx q x
instance (rs:List R4) (x:R4):Decidable (Bg rs x):=by unfold Bg; infer_instance
def bg (rs:List R4) (x:R4):Bool:=decide (Bg rs x)
open Classical in
noncomputable def fin (rs:List R4) (x:R4):Int:=if h:∃ E,Fi rs x E then h.choose else 0
theorem p7 {rs:List R4} (h:Ap rs) {x:R4} (a:Fi rs x E):fin rs x=E:=by
 have hh:∃ E,Fi rs x E:=⟨E,a⟩
 unfold fin
 rw [dif_pos hh]
 exact Fi.uniq h hh.choose_spec a
def nV (x:R4) (E:Int):R4:=(x.b,x.w,x.s,E)
def rJ:List R4→List R4
 | []=>[]
 | x::xs=>match rJ xs with
  | []=>[x]
  | y::ys=>if Nx x y then nV x y.e::ys else x::y::ys
theorem yP (x:R4) (xs:List R4):∃ E ys,rJ (x::xs)=nV x E::ys:=by
 show ∃ E ys,(match rJ xs with | []=>[x] | y::ys=>if Nx x y then nV x y.e::ys else x::y::ys)=_
 split
 ·exact ⟨x.e,[],rfl⟩
 ·rename_i y ys _
  split
  ·exact ⟨_,_,rfl⟩
  ·exact ⟨x.e,_,rfl⟩
def JC (x:R4):List R4→List R4
 | []=>[x]
 | y::ys=>if Nx x y then JC (nV x y.e) ys else x::JC y ys
theorem K8 (x y:R4) (h:Nx x y) (T:List R4):rJ (nV x y.e::T)=rJ (x::y::T):=by
 have e1:rJ (x::y::T)=match rJ (y::T) with | []=>[x] | z::ys=>if Nx x z then nV x z.e::ys else x::z::ys:=rfl
 have e2:rJ (y::T)=match rJ T with | []=>[y] | z::ys=>if Nx y z then nV y z.e::ys else y::z::ys:=rfl
 have e3:rJ (nV x y.e::T)=match rJ T with | []=>[nV x y.e] | z::ys=>if Nx (nV x y.e) z then nV (nV x y.e) z.e::ys else nV x y.e::z::ys:=rfl
 rw [e3,e1,e2]
 cases rJ T with
 | nil=>exact (if_pos h).symm
 | cons z ys =>
  by_cases c:Nx y z
  ·have c':Nx (nV x y.e) z:=⟨c.1.trans h.1,c.2.1.trans h.2.1,c.2.2⟩
   simp only []
   rw [if_pos c,if_pos c']
   exact (if_pos (show Nx x (nV y z.e) from h)).symm
  ·have c':¬ Nx (nV x y.e) z:=fun q=>c ⟨q.1.trans h.1.symm,q.2.1.trans h.2.1.symm,q.2.2⟩
   simp only []
   rw [if_neg c,if_neg c']
   exact (if_pos h).symm
theorem w5:∀ (T:List R4) (x:R4),JC x T=rJ (x::T)
 | [],x=>rfl
 | y::T,x=>by
  by_cases h:Nx x y
  ·rw [JC,if_pos h,w5 T,K8 x y h]
  ·rw [JC,if_neg h,w5 T]
   obtain ⟨E,ys,e⟩:=yP y T
   show _=match rJ (y::T) with | []=>[x] | z::ys=>if Nx x z then nV x z.e::ys else x::z::ys
   rw [e]
   exact (if_neg (show ¬ Nx x (nV y E) from h)).symm
theorem AI {S:List R4} (ap:Ap S) (so:S.Pairwise Hj):∀ (T P:List R4) (x:R4),S=P++x::T→Fi S x (fin S x)∧rJ (x::T)=nV x (fin S x)::(T.filter (bg S)).map fun r=>nV r (fin S r)
 | [],P,x,e=>by
  have st:∀ q∈S,¬ Nx x q:=fun q hq hn=>by
   have hx:x∈S:=by rw [e]; simp
   have p1:=ap.pos x hx
   rw [e] at hq so
   have hq':q∈P∨q=x:=by simpa using hq
   rcases hq' with hq' | hq'
   ·have:=(QA.mp so).2.2 q hq' x (by simp)
    unfold Hj at this; obtain ⟨n1,n2,n3⟩:=hn; omega
   ·subst hq'; have:=hn.2.2; omega
  have f:=Fi.stop st
  rw [p7 ap f]
  exact ⟨f,rfl⟩
 | y::T,P,x,e=>by
  obtain ⟨fy,ih⟩:=AI ap so T (P++[x]) y (by rw [e]; simp)
  have hx:x∈S:=by rw [e]; simp
  have hy:y∈S:=by rw [e]; simp
  have px:=ap.pos x hx
  have py:=ap.pos y hy
  have so':=so
  rw [e] at so'
  obtain ⟨soP,soT,soPT⟩:=QA.mp so'
  obtain ⟨sx,sT⟩:=Qm.mp soT
  obtain ⟨sy,_⟩:=Qm.mp sT
  have mem:∀ q∈S,q∈P∨q=x∨q=y∨q∈T:=fun q hq=>by rw [e] at hq; simpa using hq
  have djxy:Dj x y:=by
   have:=ap.dj
   rw [e] at this
   exact (Qm.mp (QA.mp this).2.1).1 y (by simp)
  have xy:=sx y (by simp)
  have nxt:∀ q∈S,Nx x q→q=y:=fun q hq hn=>by
   have pq:=ap.pos q hq
   obtain ⟨n1,n2,n3⟩:=hn
   rcases mem q hq with h | h | h | h
   ·have:=soPT q h x (by simp)
    unfold Hj at this; omega
   ·subst h; omega
   ·exact h
   ·have yq:=sy q h
    unfold Hj at xy yq
    have eb:x.b=y.b:=by omega
    refine ap.two hq hy ‹5› ?_
    rcases djxy eb with d | d <;> omega
  have prv:∀ q∈S,Nx q y→q=x:=fun q hq hn=>by
   have pq:=ap.pos q hq
   obtain ⟨n1,n2,n3⟩:=hn
   rcases mem q hq with h | h | h | h
   ·have qx:=soPT q h x (by simp)
    unfold Hj at xy qx
    have eb:q.b=x.b:=by omega
    rcases BL (fun _ _ q=>Dj.symm q) ap.dj hq hx with z | z
    ·exact z
    ·rcases z eb with d | d
     ·rcases djxy ‹5› with d2 | d2 <;> omega
     ·omega
   ·exact h
   ·subst h; omega
   ·have:=sy q h
    unfold Hj at this; omega
  have eg:rJ (x::y::T)=if Nx x y then nV x (fin S y)::(T.filter (bg S)).map (fun r=>nV r (fin S r)) else x::nV y (fin S y)::(T.filter (bg S)).map fun r=>nV r (fin S r):=by
   show (match rJ (y::T) with | []=>[x] | z::ys=>if Nx x z then nV x z.e::ys else x::z::ys)=_
   rw [ih]; rfl
  rw [eg]
  by_cases h:Nx x y
  ·have fx:Fi S x (fin S y):=.step hy h fy
   rw [if_pos h,p7 ap fx,Rk]
   ·exact ⟨fx,rfl⟩
   ·unfold bg; rw [decide_eq_true_iff]; exact fun z=>z x hx h
  ·have fx:Fi S x x.e:=.stop fun q hq hn=>h (nxt q hq hn ▸ hn)
   rw [if_neg h,p7 ap fx,QS]
   ·exact ⟨fx,rfl⟩
   ·unfold bg; rw [decide_eq_true_iff]; exact fun q hq hn=>h (prv q hq hn ▸ hn)
theorem Ir {S:List R4} (ap:Ap S) (so:S.Pairwise Hj):rJ S=(S.filter (bg S)).map fun r=>nV r (fin S r):=by
 cases S with
 | nil=>rfl
 | cons x T =>
  obtain ⟨_,h⟩:=AI ap so T [] x rfl
  rw [h,QS]
  ·rfl
  ·unfold bg; rw [decide_eq_true_iff]
   intro q hq hn
   have p1:=ap.pos q hq
   have p2:=ap.pos x (by simp)
   rcases OP.mp hq with z | z
   ·subst z; have:=hn.2.2; omega
   ·have:=(Qm.mp so).1 q z
    unfold Hj at this; obtain ⟨n1,n2,n3⟩:=hn; omega
abbrev jv (r:R4):List D:=[.int r.b,.int r.w,.int r.s,.int r.e]
abbrev gT (r:R4):D:=.lst (jv r)
def zR (r:R4):List Int:=[r.b,r.w,r.s,r.e]
theorem Iu (x y:R4):fj [gT x,gT y]=some (.bl (decide (Nx x y))):=by
 refine cG mY ?_
 rw [zT]
 unfold mH
 have e:∀ a b:Int,rp false (dC (.int a)) (dC (.int b)) []=some (.bl (decide (a=b))):=fun a b=>lH rfl rfl
 refine bM (mx (lH ‹32› ‹32›) fun _=>mx (lH ‹32› ‹32›) fun _=>lH ‹32› ‹32›) ?_
 refine congrArg D.bl ?_
 rw [P6]
 simp only [RA,decide_eq_true_iff]
 unfold Nx
 constructor
 ·rintro ⟨h1,h2,h3⟩; exact ⟨h1.symm,h2.symm,h3.symm⟩
 ·rintro ⟨h1,h2,h3⟩; exact ⟨h1.symm,h2.symm,h3.symm⟩
def JW (z:List Int):R4:=(z.getD 0 0,z.getD 1 0,z.getD 2 0,z.getD 3 0)
theorem LQ (r:R4):JW (zR r)=r:=rfl
noncomputable def s4 (rs:List R4):List R4:=(kP (rs.map zR)).map JW
theorem L9 (rs:List R4):(s4 rs).map zR=kP (rs.map zR):=by
 unfold s4
 rw [O3]
 conv=>rhs; rw [← T5 (kP (rs.map zR))]
 refine PU fun z hz=>?_
 obtain ⟨r,_,rfl⟩:=Pj.mp ((hX _).mem_iff.mp hz)
 rfl
theorem eA (rs:List R4):(s4 rs).Perm rs:=by
 have:=(hX (rs.map zR)).map JW
 rw [O3,show (JW∘zR)=id from funext LQ,T5] at this
 exact this
theorem Nq {x y:R4} (h:L2.lexLt (zR y) (zR x)=false):Hj x y:=by
 unfold zR at h
 simp only [L2.lexLt] at h
 unfold Hj
 split at h
 ·split at h
  ·split at h
   ·split at h
    ·omega
    ·have:=of_decide_eq_false h; omega
   ·have:=of_decide_eq_false h; omega
  ·have:=of_decide_eq_false h; omega
 ·have:=of_decide_eq_false h; omega
theorem Jt (rs:List R4):(s4 rs).Pairwise Hj:=by
 have h:=rB (rs.map zR)
 rw [← L9,QJ] at h
 exact h.imp fun h=>Nq h
def Bu (acc:List R4) (r:R4):List R4:=match acc.getLast? with
 | some x=>if Nx x r then acc.dropLast++[nV x r.e] else acc++[r]
 | none=>acc++[r]
theorem vZ (acc:List R4) (x r:R4):Bu (acc++[x]) r=if Nx x r then acc++[nV x r.e] else acc++[x]++[r]:=by
 unfold Bu
 rw [List.getLast?_concat]
 simp only [List.dropLast_concat]
theorem tp:∀ (T acc:List R4) (x:R4),T.foldl Bu (acc++[x])=acc++JC x T
 | [],acc,x=>rfl
 | y::T,acc,x=>by
  rw [VC,vZ]
  by_cases h:Nx x y
  ·rw [if_pos h,tp T,JC,if_pos h]
  ·rw [if_neg h,tp T,JC,if_neg h,Qx]; rfl
theorem yR (S:List R4):S.foldl Bu []=rJ S:=by
 cases S with
 | nil=>rfl
 | cons x T =>
  have:=tp T [] x
  rw [w5] at this
  exact this
theorem HJ (acc:List R4) (r:R4):(Bu acc r).length≤acc.length+1:=by
 unfold Bu
 split
 ·split
  ·simp
  ·simp
 ·simp
theorem tq:∀ (T acc:List R4),(T.foldl Bu acc).length≤acc.length+T.length
 | [],acc=>by simp
 | r::T,acc=>by
  have h1:=tq T (Bu acc r)
  have h2:=HJ acc r
  rw [VC,OW]; omega
theorem JJ (r:R4):kA (jv r)=true:=rfl
def kR (l:List D):List Int:=match l with
 | [.int b,.int _,.int s,.int _]=>[s,b]
 | _=>[]
noncomputable def jn (rs:List R4):List (List D):=uw kR ((rJ (s4 rs)).map jv)
theorem DC {rs:List R4} (hl:rs.length<64) (hn:(((rJ (s4 rs)).map jv).map kR).Nodup):fI [.lst (rs.map gT)]=some (fQ (jn rs)):=by
 refine BG ph ?_
 rw [CU]
 unfold pB
 have hs:OE=16777216:=Po
 refine wp_seq (vO (rows:=(([]:List R4).map jv)) rfl ‹18› ?_)
 show 0
 have esrt:tS (tP 0) [.bo (.lst (rs.map gT)),.om (([]:List R4).map jv),.un]=some ((s4 rs).map gT):=by
  have:=GJ (a:=tP 0) (ρ:=[.bo (.lst (rs.map gT)),.om (([]:List R4).map jv),.un]) (zs:=rs.map zR) (by
   rw [O3]; rfl) ‹41›
  rw [this,← L9,O3]; rfl
 have hsl:(s4 rs).length<64:=by rw [(eA rs).length_eq]; exact hl
 refine wp_seq (fk esrt (fun j ρ=>∃ v2:Sl,ρ=[.bo (.lst (rs.map gT)),.om ((((s4 rs).take j).foldl Bu []).map jv),v2]) ⟨_,rfl⟩ ?_ ?_)
 ·rintro j d ρ hd ⟨v2,rfl⟩
  rw [OH] at hd
  obtain ⟨r,hr,rfl⟩:=P7.mp hd
  show 15
  show 10
  have tk:((s4 rs).take (j+1)).foldl Bu []=Bu (((s4 rs).take j).foldl Bu []) r:=by rw [QN,hr]; simp [Tu]
  have al:(((s4 rs).take j).foldl Bu []).length<64:=by
   have h1:=tq ((s4 rs).take j) []
   have h2:=WE j (s4 rs)
   have h3:((s4 rs).take j).length≤(s4 rs).length:=T6 j (s4 rs)
   simp only [Pb] at h1; omega
  rw [tk]
  generalize ((s4 rs).take j).foldl Bu []=acc at al
  rcases List.eq_nil_or_concat acc with rfl | ⟨init,x,rfl⟩
  ·refine nX (x:=false) (nE (x:=false) (y:=false) (du (d:=.lst []) rfl rfl) fun z=>by cases z) (fun z=>by cases z) fun _=>?_
   refine rz rfl (Co (tJ rfl rfl) (JJ r)) (by simp; omega) ?_
   exact ⟨_,rfl⟩
  ·rw [List.concat_eq_append] at *
   have hL:((init++[x]).map jv).length=init.length+1:=by simp
   have t1:EG (fQ ((init++[x]).map jv))=some true:=by
    show some (!(((init++[x]).map jv).map D.lst).isEmpty)=_
    simp
   have ixl:ixN (init.length+1) (-1)=some init.length:=by
    unfold ixN
    rw [if_neg ‹5›,if_pos ‹5›]
    exact congrArg some ‹5›
   have ix:AD (fQ ((init++[x]).map jv)) (-1)=some (gT x):=by
    show kL (((init++[x]).map jv).map D.lst) (-1)=_
    unfold kL
    rw [Oy,hL,ixl]
    simp
   refine nX (nE (du rfl t1) fun _=>du (aP (ae (aM rfl rfl ix) (ae rfl rfl)) (Iu x r)) rfl) (fun h=>?_) fun h=>?_
   ·have h:Nx x r:=by simpa using h
    refine Hz (r:=init.length) (j:=3) (ds:=jv x) (n:=-1) (m:=3) (d:=.int r.e) rfl rfl rfl ?_ ?_ rfl rfl ?_
    ·rw [hL]; exact ixl
    ·rw [O7,Py (by simp)]; simp
    ·refine ⟨.bo (gT r),?_⟩
     rw [vZ,if_pos h,O7,List.set_append_right _ _ (by simp)]
     simp only [Oy,Uo,O7,O9,Q9,Px]
     rfl
   ·have h:¬ Nx x r:=by simpa using h
    refine rz rfl (Co (tJ rfl rfl) (JJ r)) (by simp only [hL]; simp at al; omega) ?_
    refine ⟨.bo (gT r),?_⟩
    rw [vZ,if_neg h,O7 (l₁:=init++[x])]
    rfl
 ·rintro ρ ⟨v2,rfl⟩
  rw [Oy,Qd,yR]
  have hg:(rJ (s4 rs)).length<64:=by
   rw [← yR]
   have:=tq (s4 rs) []
   simp only [Pb] at this; omega
  refine Er kR rfl (fun l hl'=>?_) hn (by rw [Oy]; exact hg) rfl
  obtain ⟨r,_,rfl⟩:=Pj.mp hl'
  exact ⟨rfl,by intro z; cases z⟩
theorem MD {rs:List R4} (ap:Ap rs) {r:R4} (h:r∈rs):Fi rs r (fin rs r):=by
 have ap2:=ap.perm (eA rs)
 obtain ⟨P,T,e⟩:=List.append_of_mem ((eA rs).mem_iff.mpr h)
 have f:=Fi.perm (eA rs) (AI ap2 (Jt rs) T P r e).1
 rw [p7 ap f]
 exact f
theorem IT {rs ss:List R4} (p:ss.Perm rs) (r:R4):bg ss r=bg rs r:=by
 unfold bg
 rw [P6,decide_eq_true_iff,decide_eq_true_iff]
 exact ⟨fun h q hq=>h q (p.mem_iff.mpr hq),fun h q hq=>h q (p.mem_iff.mp hq)⟩
noncomputable def IS (rs:List R4):List R4:=rs.filter (bg rs)
noncomputable def full (rs:List R4) (r:R4):R4:=nV r (fin rs r)
theorem AH {rs:List R4} (ap:Ap rs):rJ (s4 rs)=((s4 rs).filter (bg rs)).map (full rs):=by
 have ap2:=ap.perm (eA rs)
 rw [Ir ap2 (Jt rs),show bg (s4 rs)=bg rs from funext fun r=>IT (eA rs) r]
 refine PU fun r hr=>?_
 have hm:=(eA rs).mem_iff.mp ((P5.mp hr).1)
 exact congrArg (nV r) (p7 ap2 (Fi.perm (eA rs).symm (MD ap hm)))
def dz (r:R4):List Int:=[r.s,r.b,r.w,r.e]
def LS (z:List Int):R4:=(z.getD 1 0,z.getD 2 0,z.getD 0 0,z.getD 3 0)
noncomputable def out (rs:List R4):List R4:=(kP ((IS rs).map fun r=>dz (full rs r))).map LS
theorem FJ (rs:List R4):kP ((IS rs).map fun r=>dz (full rs r))=(out rs).map dz:=by
 unfold out
 rw [O3]
 conv=>lhs; rw [← T5 (kP _)]
 refine PU fun z hz=>?_
 obtain ⟨r,_,rfl⟩:=Pj.mp ((hX _).mem_iff.mp hz)
 rfl
theorem yp (rs:List R4):(out rs).Perm ((IS rs).map (full rs)):=by
 have:=(hX ((IS rs).map fun r=>dz (full rs r))).map LS
 rw [O3] at this
 exact this
theorem Ik {x y:R4} (h:L2.lexLt (dz y) (dz x)=false):L2.lexLt (kR (jv y)) (kR (jv x))=false:=by
 show L2.lexLt [y.s,y.b] [x.s,x.b]=false
 unfold dz at h
 simp only [L2.lexLt] at h ⊢
 split at h
 ·rename_i e
  rw [if_pos e]
  split at h
  ·rename_i e2; rw [if_pos e2]
  ·rename_i e2; rw [if_neg e2]; exact h
 ·rename_i e
  rw [if_neg e]; exact h
theorem B7 {rs:List R4} (ap:Ap rs) {l:List R4} (hl:l.Nodup) (hm:∀ r∈l,r∈rs):(((l.map (full rs)).map jv).map kR).Nodup:=by
 rw [O3,O3]
 refine QJ.mpr (Ra (fun {x y} hx hy ne e=>ne ?_) hl)
 have e:[x.s,x.b]=[y.s,y.b]:=e
 injection e with e1 e2
 injection e2 with e2 _
 exact ap.two (hm x hx) (hm y hy) e2 e1
theorem Ap.nodup {rs:List R4} (ap:Ap rs):rs.Nodup:=by
 refine Ra (fun {x y} hx hy d e=>?_) ap.dj
 subst e
 have:=ap.pos x hx
 rcases d rfl with h | h <;> omega
theorem K2 {rs:List R4} (ap:Ap rs):jn rs=(out rs).map jv:=by
 unfold jn
 have p0:((s4 rs).filter (bg rs)).Perm (IS rs):=(eA rs).filter _
 have nd:(((rJ (s4 rs)).map jv).map kR).Nodup:=by
  rw [AH ap]
  exact B7 ap (W0 Ui (ap.perm (eA rs)).nodup) fun r hr=>(eA rs).mem_iff.mp ((P5.mp hr).1)
 refine (pI (kg:=kR) ‹8› nd ?_ ?_).symm
 ·rw [AH ap]
  exact ((yp rs).trans (p0.map _).symm).map jv
 ·have h:=rB ((IS rs).map fun r=>dz (full rs r))
  rw [FJ,QJ] at h
  rw [QJ]
  exact h.imp fun h=>Ik h
theorem joined {rs:List R4} (ap:Ap rs) (hl:rs.length<64):fI [.lst (rs.map gT)]=some (.lst ((out rs).map gT)):=by
 rw [DC hl,K2 ap]
 ·unfold fQ; rw [O3]; rfl
 ·rw [AH ap]
  exact B7 ap (W0 Ui (ap.perm (eA rs)).nodup) fun r hr=>(eA rs).mem_iff.mp ((P5.mp hr).1)
open Wr (je pre gm)
theorem Aa {e w b:Int} (he:0<e) (hb:0≤b) (h:b≤a) (hl:a≤b+e) :
 (b=a∧je e w b a=[])∨(∃ k:Int,0≤k∧k*e≤b∧a≤k*e+e∧b<a∧je e w b a=[[k,w,b-k*e,a-k*e]]) ∨
 ∃ k:Int,0≤k∧k*e≤b∧b<k*e+e∧k*e+e<a∧je e w b a=[[k,w,b-k*e,e],[k+1,w,0,a-(k*e+e)]]:=by
 unfold je
 by_cases c:b<a
 ·have k0:0≤b / e:=X0 hb ‹5›
  have k1:b / e*e≤b:=Int.ediv_mul_le b ‹5›
  have k2:b<(b / e+1)*e:=Int.lt_ediv_add_one_mul_self b he
  rw [R3,Tf] at k2
  rw [if_pos c,R3,Tf]
  by_cases d:min a (b / e*e+e)<a
  ·rw [if_pos d]
   refine .inr (.inr ⟨b / e,k0,k1,k2,by omega,?_⟩)
   rw [show min a (b / e*e+e)-b / e*e=e by omega]
  ·rw [if_neg d]
   refine .inr (.inl ⟨b / e,k0,k1,by omega,c,?_⟩)
   rw [show min a (b / e*e+e)=a by omega]
 ·rw [if_neg c]
  exact .inl ⟨by omega,rfl⟩
def rws (e:Int) (hs:List Int) (j:Nat):List R4:=(gm e hs j).map JW
abbrev gs (e:Int) (r:R4):Int:=r.b*e+r.s
abbrev ge (e:Int) (r:R4):Int:=r.b*e+r.e
structure M5 (e:Int) (hs:List Int) (j:Nat) (L:List R4):Prop where
 all:∀ r∈L,∃ i:Nat,i<j∧r.w=(i:Int)∧0≤r.s∧r.s<r.e∧r.e≤e∧0≤r.b∧pre hs i≤gs e r∧ge e r≤pre hs (i+1)
 ord:L.Pairwise fun x y=>ge e x≤gs e y
 wk:L.Pairwise fun x y=>x.w=y.w→x.b≠y.b∧y.e≤x.s
 sum:∀ i:Nat,i<j→SM L (fun r=>if r.w=(i:Int) then r.e-r.s else 0)=hs.getD i 0
theorem ym (h:∀ x∈hs,0≤x) {i:Nat} (hij:i≤j):pre hs i≤pre hs j:=by
 unfold pre
 have:hs.take j=hs.take i++(hs.drop i).take (j-i):=by
  rw [← List.take_add]
  congr 1
  omega
 rw [this,Ue]
 have:∀ l:List Int,(∀ x∈l,0≤x)→0≤l.sum:=fun l=>by
  induction l with
  | nil=>intro _; simp
  | cons x r ih=>intro h; rw [Ry]; have:=h x ON; have:=ih fun y hy=>h y (OI _ hy); omega
 have:=this ((hs.drop i).take (j-i)) fun x hx=>h x (SE (SF hx))
 omega
theorem Lz (l m:List α) (f:α→Int):SM (l++m) f=SM l f+SM m f:=by unfold SM; rw [O7,Ue]
theorem NR {e:Int} (he:0<e) {hs:List Int} (h:∀ x∈hs,0≤x∧x≤e):∀ j,j≤hs.length→M5 e hs j (rws e hs j)
 | 0,_=>⟨fun r hr=>(by cases hr),.nil,.nil,fun i hi=>by omega⟩
 | j+1,hj=>by
  have S:=NR he h j ‹5›
  have hj2:j<hs.length:=by omega
  have ep:pre hs (j+1)=pre hs j+hs.getD j 0:=by
   rw [Ox,Ow hj2]
   exact Wr.yk (Ow hj2)
  have hx:0≤hs.getD j 0∧hs.getD j 0≤e:=by
   rw [Ox,Ow hj2]
   exact h _ (QD hj2)
  have p0:=(Wr.Kn (fun x hx=>(h x hx).1) j).1
  have er:rws e hs (j+1)=rws e hs j++(je e j (pre hs j) (pre hs (j+1))).map JW:=by
   unfold rws
   rw [show gm e hs (j+1)=gm e hs j++je e j (pre hs j) (pre hs (j+1)) from rfl,O7]
  have below:∀ x∈rws e hs j,x.w≠(j:Int)∧ge e x≤pre hs j:=fun x hxm=>by
   obtain ⟨i,hi,hw,_,_,_,_,_,hp⟩:=S.all x hxm
   exact ⟨by omega,Int.le_trans hp (ym (fun x hx=>(h x hx).1) ‹5›)⟩
  have oldsum:SM (rws e hs j) (fun r=>if r.w=(j:Int) then r.e-r.s else 0)=0:=by
   rw [iE (g:=fun _=>0) fun x hx=>if_neg (below x hx).1,rS]
  have build:∀ L2:List R4,(∀ r∈L2,r.w=(j:Int)∧0≤r.s∧r.s<r.e∧r.e≤e∧0≤r.b∧pre hs j≤gs e r∧ge e r≤pre hs (j+1))→L2.Pairwise (fun x y=>ge e x≤gs e y)→L2.Pairwise (fun x y=>x.w=y.w→x.b≠y.b∧y.e≤x.s)→SM L2 (fun r=>if r.w=(j:Int) then r.e-r.s else 0)=hs.getD j 0→M5 e hs (j+1) (rws e hs j++L2):=fun L2 a o w sm=>by
   refine ⟨fun r hr=>?_,?_,?_,fun i hi=>?_⟩
   ·rcases O4.mp hr with q | q
    ·obtain ⟨i,hi,z⟩:=S.all r q
     exact ⟨i,by omega,z⟩
    ·exact ⟨j,by omega,a r q⟩
   ·refine QA.mpr ⟨S.ord,o,fun x hx y hy=>?_⟩
    exact Int.le_trans (below x hx).2 (a y hy).2.2.2.2.2.1
   ·refine QA.mpr ⟨S.wk,w,fun x hx y hy z=>?_⟩
    exact absurd (z.trans (a y hy).1) (below x hx).1
   ·rw [Lz]
    by_cases c:i=j
    ·subst c
     rw [oldsum,sm,Um]
    ·rw [S.sum i ‹5›,iE (l:=L2) (g:=fun _=>0) fun x hx=>if_neg (by rw [(a x hx).1]; omega),rS,Rw]
  rw [er]
  rcases Aa (w:=(j:Int)) he p0 (show pre hs j≤pre hs (j+1) by omega) ‹5› with ⟨q,es⟩ | ⟨k,k0,k1,k2,k3,es⟩ | ⟨k,k0,k1,k2,k3,es⟩
  ·rw [es]
   refine build _ (fun r hr=>by cases hr) .nil .nil ?_
   show (0:Int)=_
   omega
  ·rw [es]
   refine build [(k,(j:Int),pre hs j-k*e,pre hs (j+1)-k*e)] (fun r hr=>?_) (Tg _ _) (Tg _ _) ?_
   ·rw [OB.mp hr]
    refine ⟨rfl,?_⟩
    show 0≤pre hs j-k*e∧pre hs j-k*e<pre hs (j+1)-k*e∧pre hs (j+1)-k*e≤e∧0≤k∧pre hs j≤k*e+(pre hs j-k*e)∧k*e+(pre hs (j+1)-k*e)≤pre hs (j+1)
    omega
   ·show (if (j:Int)=(j:Int) then pre hs (j+1)-k*e-(pre hs j-k*e) else 0)+0=_
    rw [if_pos rfl]
    omega
  ·rw [es]
   have ek:(k+1)*e=k*e+e:=by rw [R3,Tf]
   refine build [(k,(j:Int),pre hs j-k*e,e),(k+1,(j:Int),0,pre hs (j+1)-(k*e+e))] (fun r hr=>?_) ?_ ?_ ?_
   ·rcases OP.mp hr with q | q
    ·rw [q]
     refine ⟨rfl,?_⟩
     show 0≤pre hs j-k*e∧pre hs j-k*e<e∧e≤e∧0≤k∧pre hs j≤k*e+(pre hs j-k*e)∧k*e+e≤pre hs (j+1)
     omega
    ·rw [OB.mp q]
     refine ⟨rfl,?_⟩
     show 0≤(0:Int)∧0<pre hs (j+1)-(k*e+e)∧pre hs (j+1)-(k*e+e)≤e∧0≤k+1∧pre hs j≤(k+1)*e+0∧(k+1)*e+(pre hs (j+1)-(k*e+e))≤pre hs (j+1)
     rw [ek]
     omega
   ·refine UK.mpr ?_
    show k*e+e≤(k+1)*e+0
    rw [ek]
    omega
   ·refine UK.mpr fun _=>?_
    show k≠k+1∧pre hs (j+1)-(k*e+e)≤pre hs j-k*e
    omega
   ·show (if (j:Int)=(j:Int) then e-(pre hs j-k*e) else 0)+((if (j:Int)=(j:Int) then pre hs (j+1)-(k*e+e)-0 else 0)+0)=_
    rw [if_pos rfl,if_pos rfl]
    omega
open Wr (je pre gm)
structure Pl (e:Int) (N:Int) (hs:List Int) (L:List R4):Prop where
 all:∀ r∈L,(∃ i:Nat,i<hs.length∧r.w=(i:Int))∧0≤r.s∧r.s<r.e∧r.e≤e∧0≤r.b∧r.b<N
 bj:L.Pairwise fun x y=>x.b=y.b→x.e≤y.s∨y.e≤x.s
 wj:L.Pairwise fun x y=>x.w=y.w→x.b≠y.b∧(x.e≤y.s∨y.e≤x.s)
 sum:∀ i:Nat,i<hs.length→SM L (fun r=>if r.w=(i:Int) then r.e-r.s else 0)=hs.getD i 0
theorem IX {l m:List α} (p:l.Perm m) (f:α→Int):SM l f=SM m f:=by
 induction p with
 | nil=>rfl
 | cons x _ ih=>rw [cR,cR,ih]
 | swap x y l=>rw [cR,cR,cR,cR]; omega
 | trans _ _ a b=>exact a.trans b
theorem Pl.perm {e N:Int} {L M:List R4} (h:Pl e N hs L) (p:M.Perm L):Pl e N hs M where
 all:=fun r hr=>h.all r (p.mem_iff.mp hr)
 bj:=(p.pairwise_iff fun {x y} z q=>(z q.symm).symm).mpr h.bj
 wj:=(p.pairwise_iff fun {x y} z q=>⟨fun w=>(z q.symm).1 w.symm,(z q.symm).2.symm⟩).mpr h.wj
 sum:=fun i hi=>(IX p _).trans (h.sum i hi)
theorem M5.pl {e:Int} (he:0<e) {L:List R4} (S:M5 e hs hs.length L) {N:Int} (hN:hs.sum≤N*e) (h0:∀ x∈hs,0≤x):Pl e N hs L where
 all:=fun r hr=>by
  obtain ⟨i,hi,hw,a1,a2,a3,a4,a5,a6⟩:=S.all r hr
  refine ⟨⟨i,hi,hw⟩,a1,a2,a3,a4,?_⟩
  have p:=ym h0 (show i+1≤hs.length by omega)
  have pe:pre hs hs.length=hs.sum:=by unfold pre; rw [Qd]
  have:r.b*e<N*e:=by
   have:ge e r=r.b*e+r.e:=rfl
   omega
  exact UL this ‹5›
 bj:=S.ord.imp fun {x y} z q=>.inl (by
  have z:x.b*e+x.e≤y.b*e+y.s:=z
  rw [q] at z
  omega)
 wj:=S.wk.imp fun {x y} z q=>⟨(z q).1,.inr (z q).2⟩
 sum:=S.sum
theorem Pl.ap {e N:Int} {L:List R4} (h:Pl e N hs L):Ap L:=⟨fun r hr=>(h.all r hr).2.2.1,h.bj.imp fun z q=>z q⟩
theorem Pl.no {e N:Int} {L:List R4} (h:Pl e N hs L) {x y:R4} (hx:x∈L) (hy:y∈L):¬ Nx x y:=fun z=>by
 have p:=(h.all x hx).2.2.1
 rcases BL (R:=fun x y:R4=>x.w=y.w→x.b≠y.b) (fun x y z q w=>z q.symm w.symm) (h.wj.imp fun z q=>(z q).1) hx hy with q | q
 ·subst q
  have:=z.2.2
  omega
 ·exact q z.2.1.symm z.1.symm
theorem Pl.out {e N:Int} {hs:List Int} {L:List R4} (h:Pl e N hs L):(out L).Perm L:=by
 refine (yp L).trans ?_
 have e1:IS L=L:=by
  unfold IS
  refine RP.mpr fun r hr=>?_
  unfold bg
  exact decide_eq_true fun q hq=>h.no hq hr
 rw [e1]
 have e2:L.map (full L)=L:=by
  conv=>rhs; rw [← T5 L]
  refine PU fun r hr=>?_
  unfold full
  rw [p7 h.ap (.stop fun q hq=>h.no hr hq)]
  rfl
 rw [e2]
def LN (x y:R4):Prop:=x.s<y.s∨(x.s=y.s∧x.b≤y.b)
theorem Kw (L:List R4):(out L).Pairwise LN:=by
 have h:=rB ((IS L).map fun r=>dz (full L r))
 rw [FJ,QJ] at h
 refine h.imp fun {x y} z=>?_
 unfold dz at z
 simp only [L2.lexLt] at z
 unfold LN
 split at z
 ·split at z
  ·omega
  ·have:=of_decide_eq_false z; omega
 ·have:=of_decide_eq_false z; omega
def cc (e:Int) (hs:List Int):List jo:=hs.map fun h=>(0,e,h)
theorem rY {e:Int} {i:Nat} (h:i<hs.length):wk (cc e hs) i=(0,e,hs.getD i 0):=by
 unfold cc
 show (hs.map fun h=>((0:Int),e,h)).getD i (0,0,0)=_
 rw [Ox,OH,Ow h,Ox,Ow h]
 rfl
theorem Ju {i:Nat} (h:eU T n 1) (hi:i<n):kJ T i=eM T i 0:=by
 unfold kJ eM jA
 match e:iy T i,h.2 i hi with
 | [x],_=>simp
theorem Cv (h:eU T n 1):nN T 0=SM (O0 n) fun i=>eM T i 0:=by
 unfold nN SM
 congr 1
 refine QY fun i=>?_
 rw [OH,OH]
 by_cases c:i<n
 ·have hc:i<T.length:=by rw [h.1]; exact c
  have e:iy T i=T[i]:=by
   unfold iy
   rw [Ox,Ow hc]
   rfl
  rw [Q2 c,Ow hc,Rn,Rn]
  unfold eM
  rw [e]
 ·rw [O5 (by rw [h.1]; omega),O5 (by rw [PK]; omega)]
  rfl
theorem zM (hs:List Int):hs.sum=SM (O0 hs.length) fun i=>hs.getD i 0:=by
 unfold SM
 congr 1
 refine QY fun i=>?_
 rw [OH]
 by_cases c:i<hs.length
 ·rw [Q2 c,Ow c,Rn,Ox,Ow c]
  rfl
 ·rw [O5 ‹5›,O5 (by rw [PK]; omega)]
  rfl
theorem Hi {l:List α} {f g:α→Int} (h:∀ x∈l,f x≤g x):SM l f≤SM l g:=by
 have:=Hg (f:=fun x=>g x-f x) (l:=l) fun x hx=>by have:=h x hx; omega
 rw [Hf] at this
 omega
theorem CB {l:List Nat} (nd:l.Nodup) {f g:Nat→Int} (h:∀ x∈l,f x≤g x) (hk:k∈l) (hlt:f k<g k):SM l f<SM l g:=by
 have h1:SM l (fun i=>f i+if k=i then g k-f k else 0)≤SM l g:=Hi fun x hx=>by
  by_cases c:k=x
  ·subst c; rw [if_pos rfl]; omega
  ·rw [if_neg c]; have:=h x hx; omega
 rw [LA,Bc nd hk] at h1
 omega
section
variable {e:Int} {hs:List Int} {N:Nat} {T:List (List Int)}
abbrev S1 (e:Int):List I2:=[(0,e)]
theorem NA {i:Nat} (hi:i<hs.length):D2 (cc e hs) (S1 e) i 0=e:=by
 unfold D2
 rw [rY hi]
 show (if (0:Int)<0∨e<e then 0 else e-0)=e
 rw [if_neg ‹5›]
 omega
theorem Nc {i:Nat} (hi:i<hs.length):ue (cc e hs) (S1 e) T i 0=e-eM T i 0:=by
 unfold ue
 rw [rY hi]
 show (if (0:Int)<0∨e<e then 0 else e-0-eM T i 0)=_
 rw [if_neg ‹5›]
 omega
theorem Ij {i:Nat} (hi:i<hs.length) (hr:eU T hs.length 1):kK (cc e hs) T i=hs.getD i 0-eM T i 0:=by
 unfold kK
 rw [rY hi,Ju hr hi]
theorem L4 (hr:eU T hs.length 1):uf N (S1 e) T 0=e*N-SM (O0 hs.length) (fun i=>eM T i 0):=by
 unfold uf
 rw [Cv hr]
 show (e-0)*(N:Int) - _=_
 rw [Vx]
theorem t6 (F:qB (cc e hs) (S1 e) N hs.length 1 T) {i:Nat} (hi:i<hs.length):0≤eM T i 0∧eM T i 0≤e∧eM T i 0≤hs.getD i 0:=by
 refine ⟨F.lo i 0 hi ‹5›,?_,?_⟩
 ·have:=F.hi i 0 hi ‹5›
  rw [NA hi] at this
  exact this
 ·have:=F.row i hi
  rw [Ju F.jg hi] at this
  have e2:(wk (cc e hs) i).2.2=hs.getD i 0:=by rw [rY hi]
  rw [← e2]
  exact this
theorem L1 (F:qB (cc e hs) (S1 e) N hs.length 1 T):SM (O0 hs.length) (fun i=>eM T i 0)≤e*N:=by
 have:=F.col 0 ‹5›
 rw [Cv F.jg] at this
 have e2:((sg (S1 e) 0).2-(sg (S1 e) 0).1)*(N:Int)=e*N:=by show (e-0)*(N:Int)=_; rw [Vx]
 omega
theorem JL {i:Nat} (hi:i<hs.length):AS (cc e hs) (S1 e) T hs.length 1 i hs.length↔eM T i 0<e:=by
 unfold AS
 rw [Uo,Nc hi]
 constructor
 ·rintro (⟨_,_,_,h⟩ | ⟨h,_⟩)
  ·omega
  ·omega
 ·intro h
  exact .inl ⟨hi,OT _,by omega,by omega⟩
theorem JN (F:qB (cc e hs) (S1 e) N hs.length 1 T) (hF:Full (cc e hs) (S1 e) N hs.length 1 T) (hle:∀ h∈hs,h≤e) (hsum:hs.sum≤e*N) {i:Nat} (hi:i<hs.length):eM T i 0=hs.getD i 0:=by
 obtain ⟨b0,b1,b2⟩:=t6 F hi
 refine Int.le_antisymm b2 (Vy.mp fun c=>?_)
 obtain ⟨kvs,R,cl,fl⟩:=hF
 have hl:0<kK (cc e hs) T i:=by rw [Ij hi F.jg]; omega
 have hk:=R.roots i hi hl
 have he:hs.getD i 0≤e:=by
  rw [Ox,Ow hi]
  exact hle _ (QD hi)
 have hk2:=cl i hk hs.length ((JL hi).mpr ‹5›)
 have hs0:=fl 0 hk2
 rw [L4 F.jg] at hs0
 rw [zM] at hsum
 have:=CB (l:=O0 hs.length) (Ve) (f:=fun i=>eM T i 0) (g:=fun i=>hs.getD i 0) (fun x hx=>(t6 F (O8.mp hx)).2.2) (O8.mpr hi) c
 omega
theorem KS (F:qB (cc e hs) (S1 e) N hs.length 1 T) (h:(∃ x∈hs,e<x)∨e*N<hs.sum):∃ i,i<hs.length∧eM T i 0<hs.getD i 0:=by
 rcases h with ⟨x,hx,hlt⟩ | h
 ·obtain ⟨i,hi,ex⟩:=Rt hx
  refine ⟨i,hi,?_⟩
  have:=(t6 F hi).2.1
  rw [Ox,Ow hi,ex]
  show _<x
  omega
 ·refine SO fun z=>?_
  have:=L1 F
  have h2:SM (O0 hs.length) (fun i=>hs.getD i 0)≤SM (O0 hs.length) (fun i=>eM T i 0):=Hi fun i hi=>Vy.mp fun c=>z ⟨i,O8.mp hi,c⟩
  rw [zM] at h
  omega
end
theorem Gg {W:List jo} {S:List I2} {kvs2:List (Nat×Nat)} (R:Eg W S T n m kvs) (R2:Eg W S T n m kvs2) (cl:∀ p∈keys kvs2,∀ v,AS W S T n m p v→v∈keys kvs2):∀ p∈keys kvs,p∈keys kvs2:=by
 have key:∀ (t p q:Nat),kvs[t]?=some (p,q)→p∈keys kvs2:=by
  intro t
  induction t using T9 with
  | _ t ih =>
   intro p q e
   rcases R.bf.src t p q e with ⟨_,hr⟩ | ⟨u,r,hu,eu,ed⟩
   ·exact R2.roots p hr.1 hr.2
   ·exact cl q (ih u hu q r eu) p ed
 intro p hp
 obtain ⟨t,q,e⟩:=oP hp
 exact key t p q e
open Wr (je pre gm)
theorem ME {a:DE} {ds:List D} (h:d7 a ρ=some ds):GV a ρ=some (DU ds):=by unfold GV; rw [h]
theorem Lu {bs:List Bool}:IU (.lst (bs.map D.bl))=some (.bl (bs.any id)):=by
 show (pH _).map _=_
 rw [vU]; rfl
theorem Mo {e:Int} (he:0≤e):∀ {es:List Int},es.Pairwise (· < ·)→(∀ x∈es,x=0∨x=e)→(0:Int)∈es→e∈es→oE es=if e=0 then [] else S1 e
 | [],_,_,h0,_=>by cases h0
 | [x],_,_,h0,h1=>by
  have a:=OB.mp h0
  have b:=OB.mp h1
  rw [if_pos ‹5›]
  rfl
 | [x,y],hlt,h,_,_=>by
  have l:=UK.mp hlt
  have a:=h x (by simp)
  have b:=h y (by simp)
  have e1:x=0:=by omega
  have e2:y=e:=by omega
  rw [if_neg ‹5›,e1,e2]
  rfl
 | x::y::z::r,hlt,h,_,_=>by
  have l1:=(Qm.mp hlt).1 y (by simp)
  have l2:=(Qm.mp (Qm.mp hlt).2).1 z (by simp)
  have a:=h x (by simp)
  have b:=h y (by simp)
  have c:=h z (by simp)
  omega
theorem mn {e x:Int}:x∈kB (cc e hs)↔hs≠[]∧(x=0∨x=e):=by
 unfold kB cc
 rw [O3,O3,O4,Pj,Pj]
 constructor
 ·rintro (⟨h,hh,z⟩ | ⟨h,hh,z⟩)
  ·exact ⟨W2 hh,.inl z.symm⟩
  ·exact ⟨W2 hh,.inr z.symm⟩
 ·rintro ⟨hn,hx⟩
  obtain ⟨h,hh⟩:=UO hs hn
  rcases hx with z | z
  ·exact .inl ⟨h,hh,z.symm⟩
  ·exact .inr ⟨h,hh,z.symm⟩
theorem Nk {e:Int} (he:0≤e) (h:mL (kB (cc e hs)) es):oE es=if hs=[]∨e=0 then [] else S1 e:=by
 by_cases c:hs=[]
 ·rw [if_pos (.inl c),List.eq_nil_iff_forall_not_mem.mpr fun x hx=>(mn.mp ((h.2.1 x).mp hx)).1 c]
  rfl
 ·rw [Mo he (zX h) (fun x hx=>(mn.mp ((h.2.1 x).mp hx)).2) ((h.2.1 _).mpr (mn.mpr ⟨c,.inl rfl⟩)) ((h.2.1 _).mpr (mn.mpr ⟨c,.inr rfl⟩))]
  by_cases d:e=0
  ·rw [if_pos d,if_pos (.inr d)]
  ·rw [if_neg d,if_neg fun z=>z.elim c d]
theorem dU (e:Int) (hs:List Int):(cc e hs).length=hs.length:=Oy ..
def Rm (e:Int) (N:Nat) (hs:List Int):Prop:=(∀ h∈hs,h≤e)∧hs.sum≤e*N
theorem Ma {i:Nat} (h:eU T n 0) (hi:i<n):kJ T i=0:=by
 unfold kJ
 rw [List.length_eq_zero_iff.mp (h.2 i hi)]
 rfl
structure Tb (e:Int) (N:Nat) (hs:List Int) (S:List I2) (T:List (List Int)):Prop where
 fit:qB (cc e hs) S N hs.length S.length T
 full:Full (cc e hs) S N hs.length S.length T
 is:(S=[]∧(hs=[]∨e=0))∨(0<e∧S=S1 e)
theorem HU {e:Int} (he:0≤e) (hn:hs.length≤8) (hN:N≤8) (h0:∀ h∈hs,0≤h):∃ S T,cQ [aC (cc e hs),.int (N:Int)]=some (.tup [bU S,tD T])∧Tb e N hs S T:=by
 obtain ⟨es,hes⟩:=Bw (kB (cc e hs))
 obtain ⟨T,eT,F,G⟩:=Ke (W:=cc e hs) (dU e hs) hn hN (fun w hw=>by
  obtain ⟨h,hh,rfl⟩:=Pj.mp hw
  exact ⟨Rf _,he,h0 h hh⟩) hes
 refine ⟨oE es,T,eT,F,G,?_⟩
 rw [Nk he hes]
 by_cases c:hs=[]∨e=0
 ·rw [if_pos c]
  exact .inl ⟨rfl,c⟩
 ·rw [if_neg c]
  exact .inr ⟨by omega,rfl⟩
section
variable {e:Int} {hs:List Int} {N:Nat} {S:List I2} {T:List (List Int)}
theorem KP {i:Nat} (hi:i<hs.length) (hr:eU T hs.length 0):kK (cc e hs) T i=hs.getD i 0:=by
 unfold kK
 rw [rY hi,Ma hr hi]
 show hs.getD i 0-0=_
 omega
theorem get_mem {i:Nat} (hi:i<hs.length):hs.getD i 0∈hs:=mem_getD hi
theorem Tb.none (h:Tb e N hs S T) (r:Rm e N hs) {i:Nat} (hi:i<hs.length):kK (cc e hs) T i≤0:=by
 rcases h.is with ⟨rfl,z⟩ | ⟨z,rfl⟩
 ·rw [KP hi h.fit.jg]
  rcases z with z | z
  ·rw [z] at hi
   cases hi
  ·have:=r.1 _ (get_mem hi)
   omega
 ·rw [Ij hi h.fit.jg,JN h.fit h.full r.1 r.2 hi]
  omega
theorem Tb.some (h:Tb e N hs S T) (he:0≤e) (r:¬ Rm e N hs):∃ i,i<hs.length∧0<kK (cc e hs) T i:=by
 have r:(∃ x∈hs,e<x)∨e*N<hs.sum:=by
  refine SO fun z=>r ⟨fun x hx=>Vy.mp fun c=>z (.inl ⟨x,hx,c⟩),Vy.mp fun c=>z (.inr c)⟩
 rcases h.is with ⟨rfl,z⟩ | ⟨z,rfl⟩
 ·refine SO fun c=>?_
  have al:∀ i,i<hs.length→hs.getD i 0≤0:=fun i hi=>Vy.mp fun q=>c ⟨i,hi,by rw [KP hi h.fit.jg]; exact q⟩
  have sm:hs.sum≤0:=by
   rw [zM]
   have:=Hi (l:=O0 hs.length) (f:=fun i=>hs.getD i 0) (g:=fun _=>0) fun i hi=>al i (O8.mp hi)
   rw [rS] at this
   exact this
  rcases r with ⟨x,hx,q⟩ | q
  ·obtain ⟨i,hi,ex⟩:=Rt hx
   have:=al i hi
   rw [Ox,Ow hi,ex] at this
   have:x≤0:=this
   omega
  ·have:=Tv he (show (0:Int)≤N by omega)
   omega
 ·obtain ⟨i,hi,q⟩:=KS h.fit r
  exact ⟨i,hi,by rw [Ij hi h.fit.jg]; omega⟩
end
theorem Ft {e:Int} {hs:List Int}:∀ j,gm e hs j=(rws e hs j).map zR
 | 0=>rfl
 | j+1=>by
  have ih:=Ft (e:=e) (hs:=hs) j
  have er:rws e hs (j+1)=rws e hs j++(je e j (pre hs j) (pre hs (j+1))).map JW:=by
   unfold rws
   rw [show gm e hs (j+1)=gm e hs j++je e j (pre hs j) (pre hs (j+1)) from rfl,O7]
  rw [er,O7,← ih]
  show gm e hs j++_=_
  congr 1
  unfold je
  split
  ·split <;> rfl
  ·rfl
theorem vY {e:Int} (f:Wr.Hl hs N e):cM [mO (0,e),.lst (hs.map D.int),.int (N:Int)]=some (.lst ((rws e hs hs.length).map gT)):=by
 have ew:=Wr.wrapped f
 rw [Ft,Wr.HY] at ew
 unfold Wr.KI at ew
 rw [O3] at ew
 refine cG iG ?_
 rw [qZ]
 unfold fK
 refine wp_seq (aI (d:=.int 0) ‹32› ?_)
 show 0
 refine wp_seq (aI (d:=.int e) (by rw [dR (i:=e) (j:=0) ‹32› rfl,Vx]) ?_)
 show 0
 refine bM (aY (bS gT (xs:=rws e hs hs.length) (bF (aP (ae rfl ‹19›) ew) rfl) (fun r=>D.lst [.int r.b,.int r.w,.int (0+r.s),.int (0+r.e)]) fun r _=>⟨_,rfl,aY (ae rfl (ae rfl (ae (fE rfl rfl) (ae (fE rfl rfl) rfl))))⟩)) ?_
 refine congrArg D.lst (PU fun r _=>?_)
 rw [Um,Um]
theorem B3 {W:List jo} (hW:W.length=n) (hn:n≤8) (h:eU T n m) (h0:aj 0 ρ=some (aC W)) (h4:ρ.getD 4 .un=.pu (tD T)) (h00:ρ.getD 0 .un=.pu (aC W)):gI IU (bD (bX 1 [0,4] (nM (gI d6 (aj 0))) (gN true 0) cD ‹64›)) ρ=some (.bl ((O0 n).any fun i=>decide (0<kK W T i))):=by
 show 13
 have e1:bX 1 [0,4] (nM (gI d6 (aj 0))) (gN true 0) cD ‹64› ρ=some (((O0 n).map fun i=>decide (0<kK W T i)).map D.bl):=by
  rw [O3]
  refine bS natD (ng (dg h0 eW) ‹5›) (fun i=>D.bl (decide (0<kK W T i))) fun i hi=>?_
  unfold r0
  rw [O9,O9,Q9,h4,h00]
  exact ⟨_,rfl,iZ (aP (ae rfl ‹19›) (ny hW h (O8.mp hi))) rfl⟩
 rw [dg (aY e1) Lu,List.any_map]
 rfl
theorem xS {W:List jo} {S:List I2} (hW:W.length=n) (hn:n≤8) (h:eU T n m) (es:cQ [aC W,.int (N:Int)]=some (.tup [bU S,tD T])) (hl:∃ i,i<n∧0<kK W T i):cH [aC W,.int (N:Int)]=some .non:=by
 obtain ⟨i,hi,hl⟩:=hl
 refine cG fG ?_
 rw [kO]
 unfold eN
 refine wp_seq (aI (aP ‹19› es) ?_)
 show 0
 refine wp_seq (aI ‹32› ?_)
 show 0
 refine wp_seq (aI ‹32› ?_)
 show 0
 refine wp_seq (mZ (du (B3 hW hn h rfl rfl rfl) ?_) (bM rfl rfl))
 exact congrArg some (TH.mpr ⟨i,O8.mpr hi,decide_eq_true hl⟩)
theorem xR {e:Int} {S:List I2} (hn:hs.length≤8) (f:Wr.Hl hs N e) (t:Tb e N hs S T) (r:Rm e N hs) (es:cQ [aC (cc e hs),.int (N:Int)]=some (.tup [bU S,tD T])):∃ L,cH [aC (cc e hs),.int (N:Int)]=some (.lst ((out L).map gT))∧Pl e N hs L:=by
  show 11
  have h0:∀ x∈hs,0≤x:=fun x hx=>(f.DJ.bd x hx).1
  obtain ⟨L,hL,hP,hlen⟩:∃ L,((S=[]∧L=[])∨(S=S1 e∧L=rws e hs hs.length∧T.map (fun r=>jA r 0)=hs))∧Pl e N hs L∧L.length<64:=by
    rcases t.is with ⟨z,q⟩ | ⟨z,q⟩
    · refine ⟨[],.inl ⟨z,rfl⟩,⟨fun r hr=>(by cases hr),.nil,.nil,fun i hi=>?_⟩,by decide⟩
      show (0:Int)=_
      have a:=r.1 _ (get_mem hi)
      have b:=h0 _ (get_mem hi)
      rcases q with q | q
      · rw [q] at hi
        cases hi
      · omega
    · refine ⟨rws e hs hs.length,.inr ⟨q,rfl,?_⟩,(NR z (fun x hx=>⟨h0 x hx,r.1 x hx⟩) hs.length (OT _)).pl z (by rw [SJ]; exact r.2) h0,?_⟩
      · subst q
        refine QY fun i=>?_
        rw [OH]
        by_cases c:i<hs.length
        · have hc:i<T.length:=by rw [t.fit.jg.1]; exact c
          have d:=JN t.fit t.full r.1 r.2 c
          unfold eM iy at d
          rw [Ox,Ow hc,Ox,Ow c] at d
          rw [Ow hc,Ow c]
          exact congrArg some d
        · rw [O5 (by rw [t.fit.jg.1]; omega),O5 ‹5›]
          rfl
      · unfold rws
        rw [Oy]
        have:=Wr.sG e hs hs.length
        omega
  refine ⟨L,?_,hP⟩
  refine cG fG ?_
  rw [kO]
  unfold eN
  refine wp_seq (aI (aP ‹19› es) ?_)
  show 0
  refine wp_seq (aI ‹32› ?_)
  show 0
  refine wp_seq (aI ‹32› ?_)
  show 0
  refine wp_seq (dH (du (B3 (dU e hs) hn t.fit.jg rfl rfl rfl) ?_) (bY ?_))
  · refine congrArg some (W5.mpr fun i hi=>?_)
    have:=t.none r (O8.mp hi)
    rw [decide_eq_true_iff]
    omega
  refine wp_seq (fV (ds:=[]) rfl ‹18› ?_)
  show 0
  refine wp_seq (fk (ME (bF rfl rfl)) (fun j ρ=>∃ v6 v7:Sl,ρ=[.pu (aC (cc e hs)),.pu (.int (N:Int)),.pu (.tup [bU S,tD T]),.pu (bU S),.pu (tD T),.ol (if j=0 then [] else L.map gT),v6,v7]) ⟨_,_,rfl⟩ ?_ ?_)
  · rintro j d ρ hd ⟨v6,v7,rfl⟩
    obtain ⟨s,hs',rfl⟩:=xp hd
    rcases hL with ⟨rfl,rfl⟩ | ⟨rfl,rfl,ec⟩
    · cases hs'
    · have hj:j=0:=by
        have:=(OR.mp hs').1
        have:j<1:=this
        omega
      subst hj
      cases hs'
      show 15
      show 10
      have e1:∀ ρ:aK,av 4 ρ=some (tD T)→ρ.getD 6 .un=.pu (.int (0:Nat))→bD (bX 1 [6] (d7 (av 4)) (gN true 0) cD (cC (av 0) (aj 1))) ρ=some ‹40›:=fun ρ q4 q6=>by
        rw [← ec,O3]
        refine aY (bS Hq (bF q4 rfl) (fun r=>D.int (jA r 0)) fun r hr=>?_)
        unfold r0
        rw [O9,Q9,q6]
        exact ⟨_,rfl,aM rfl rfl (Md t.fit.jg (Qc 0) hr)⟩
      rw [if_pos rfl]
      refine zF rfl (aP (ae rfl (ae (e1 _ rfl rfl) (ae rfl rfl))) (vY f)) (by rw [Oy]; simp only [Pb]; omega) ⟨_,_,rfl⟩
  · rintro ρ ⟨v6,v7,rfl⟩
    have:(if (DU (S.map mO)).length=0 then [] else L.map gT)=L.map gT:=by
      rcases hL with ⟨rfl,rfl⟩ | ⟨rfl,_⟩
      · rfl
      · rfl
    rw [this]
    exact bM (aP (ae rfl rfl) (joined hP.ap hlen)) rfl
theorem BZ {W:List jo} {S:List I2} (hW:W.length=n) (es:cQ [aC W,.int (N:Int)]=some (.tup [bU S,tD T])) (er:dB [aC W,bU S,tD T]=some (.dct (kvs.map zz))) (hk:kvs.length<64) {xs ys:List Nat} (hp:(xs++ys).Perm (keys kvs)) (hs:(xs++ys).Pairwise (·≤·)) (hx:∀ k∈xs,k<n) (hy:∀ k∈ys,n≤k∧k<n+S.length):cN [aC W,.int (N:Int)]=some (if xs++ys=[] then .non else .tup [.lst (xs.map natD),bU (ys.map fun k=>sg S (k-n))]):=by
 show 13
 have e1:zY ((kvs.map zz).map fun p=>p.1)=(xs++ys).map fun k:Nat=>(k:Int):=by
  refine (u5 ?_ ?_).symm
  ·rw [O3]
   have:=hp.map fun k:Nat=>(k:Int)
   unfold keys at this
   rw [O3] at this
   exact this
  ·rw [QJ]
   exact hs.imp fun h=>by omega
 have fx:(xs++ys).filter (fun k:Nat=>decide ((k:Int)<(n:Int)))=xs:=by
  rw [W3,RP.mpr fun k hk=>decide_eq_true (by have:=hx k hk; omega),Vz.mpr fun k hk=>by have:=hy k hk; rw [decide_eq_true_iff]; omega,Qs]
 have fy:(xs++ys).filter (fun k:Nat=>decide ((n:Int)≤(k:Int)))=ys:=by
  rw [W3,Vz.mpr fun k hk=>by have:=hx k hk; rw [decide_eq_true_iff]; omega,RP.mpr fun k hk=>decide_eq_true (by have:=hy k hk; omega),S3]
 refine cG kD ?_
 rw [wc]
 unfold i9
 refine wp_seq (aI (aP ‹19› es) ?_)
 show 0
 refine wp_seq (aI ‹32› ?_)
 show 0
 refine wp_seq (aI (d:=.lst ((xs++ys).map natD)) (aY ?_) ?_)
 ·rw [GK (aP (ae rfl (ae rfl (ae ‹32› rfl))) er) (by rw [Oy]; omega),e1,yx]
 show 0
 by_cases c:xs++ys=[]
 ·rw [if_pos c]
  refine wp_seq (mZ (qh (x:=false) (du rfl ?_)) (bM rfl rfl))
  rw [c]
  rfl
 ·rw [if_neg c]
  refine wp_seq (dH (qh (x:=true) (du rfl ?_)) (bY ?_))
  ·show some (!((xs++ys).map natD).isEmpty)=_
   rw [List.isEmpty_map]
   cases h:xs++ys with
   | nil=>exact absurd h c
   | cons=>rfl
  refine wp_seq (aI (dg rfl eW) ?_)
  show 0
  refine wp_seq (aI (d:=.lst (xs.map natD)) (aY ?_) ?_)
  ·have:=gu (ρ:=[.pu (aC W),.pu (.int (N:Int)),.pu (.tup [bU S,tD T]),.pu (bU S),.pu (.lst ((xs++ys).map natD)),.pu (.int (n:Int)),.un]) (k:=1) (cs:=[5]) (it:=d7 (av 4)) (g:=gN true 0) (t:=dT (zy (aj 0) (aj 1))) (el:=av 0) natD (xs:=xs++ys) rfl (fun k=>decide ((k:Int)<(n:Int))) natD fun k _=>⟨_,rfl,dM (tI rfl rfl),fun _=>rfl⟩
   rw [fx] at this
   exact this
  show 0
  refine bM (AN (ae rfl (ae (aY (ds:=ys.map fun k=>mO (sg S (k-n))) ?_) rfl))) (by unfold bU; rw [O3]; rfl)
  have:=gu (ρ:=[.pu (aC W),.pu (.int (N:Int)),.pu (.tup [bU S,tD T]),.pu (bU S),.pu (.lst ((xs++ys).map natD)),.pu (.int (n:Int)),.pu (.lst (xs.map natD))]) (k:=1) (cs:=[5,3]) (it:=d7 (av 4)) (g:=gN true 0) (t:=dT (DZ (aj 0) (aj 1))) (el:=cC (av 2) (jl (aj 0) (aj 1))) natD (xs:=xs++ys) rfl (fun k=>decide ((n:Int)≤(k:Int))) (fun k=>mO (sg S (k-n))) fun k hk=>⟨_,rfl,dM (qQ rfl rfl),fun c=>by
   have c:=of_decide_eq_true c
   have hk:k<n+S.length:=by
    rcases O4.mp hk with q | q
    ·have:=hx k q
     omega
    ·exact (hy k q).2
   exact aM rfl (dR rfl rfl) (AB (a:=k-n) ‹5› (vc ‹5›))⟩
  rw [fy] at this
  exact this
theorem o5 {α:Type} (c:Int):∀ l:List α,SM l (fun _=>c)=(l.length:Int)*c
 | []=>by rw [Ly]; simp
 | x::l=>by rw [cR,o5 c l,OW,VH,R3]; omega
theorem vL {α:Type} (p:α→Bool) (f:α→Int):∀ l:List α,SM (l.filter p) f=SM l fun x=>if p x=true then f x else 0
 | []=>rfl
 | x::l=>by
  rw [cR,← vL p f l]
  by_cases c:p x=true
  ·rw [QS c,if_pos c,cR]
  ·rw [Rk c,if_neg c]
   omega
section
variable {e:Int} {hs:List Int} {N:Nat} {S:List I2} {T:List (List Int)}
theorem Tb.len (t:Tb e N hs S T):S.length≤20:=by
 rcases t.is with ⟨z,_⟩ | ⟨_,z⟩
 ·rw [z]
  decide
 ·rw [z]
  exact VT rfl
theorem Dg (hn:hs.length≤8) (t:Tb e N hs S T) (r:Rm e N hs) (es:cQ [aC (cc e hs),.int (N:Int)]=some (.tup [bU S,tD T])):cN [aC (cc e hs),.int (N:Int)]=some .non:=by
 obtain ⟨kvs,er,R,_⟩:=wI (W:=cc e hs) (S:=S) (dU e hs) rfl hn t.len t.fit.jg
 have h0:kvs=[]:=by
  cases kvs with
  | nil=>rfl
  | cons p q =>
   rcases R.bf.src 0 p.1 p.2 rfl with ⟨_,z⟩ | ⟨u,_,hu,_⟩
   ·have:=t.none r z.1
    have:=z.2
    omega
   ·omega
 subst h0
 exact BZ (dU e hs) es er ‹11› (xs:=[]) (ys:=[]) (.refl _) .nil (fun k h=>by cases h) (fun k h=>by cases h)
theorem FN (hn:hs.length≤8) (he:0≤e) (h0:∀ h∈hs,0≤h) (t:Tb e N hs S T) (r:¬ Rm e N hs) (es:cQ [aC (cc e hs),.int (N:Int)]=some (.tup [bU S,tD T])):∃ (xs:List Nat) (U:List I2),cN [aC (cc e hs),.int (N:Int)]=some (.tup [.lst (xs.map natD),bU U])∧xs.Pairwise (· < ·)∧(∀ k∈xs,k<hs.length)∧((U=[]∧(xs.length:Int)*e<SM xs fun k=>hs.getD k 0)∨(0<e∧U=S1 e∧(N:Int)*e<SM xs fun k=>hs.getD k 0)):=by
  obtain ⟨kvs,er,R,cl⟩:=wI (W:=cc e hs) (S:=S) (dU e hs) rfl hn t.len t.fit.jg
  obtain ⟨kv2,R2,cl2,fl⟩:=t.full
  have sub:=Gg R R2 cl2
  obtain ⟨i0,hi0,hl0⟩:=t.some he r
  have hk0:=R.roots i0 hi0 hl0
  have hkl:kvs.length<64:=by
    have:=R.len
    have:=t.len
    omega
  obtain ⟨xs,exs⟩:∃ xs,xs=(O0 hs.length).filter fun k=>decide (k∈keys kvs):=⟨_,rfl⟩
  have hx:∀ k,k∈xs↔k<hs.length∧k∈keys kvs:=fun k=>by rw [exs,P5,O8,decide_eq_true_iff]
  have up:xs.Pairwise (· < ·):=by rw [exs]; exact Tr.sublist Ui
  have nd:xs.Nodup:=up.imp fun h=>OS h
  have hi1:i0∈xs:=(hx i0).mpr ⟨hi0,hk0⟩
  have go:∀ ys:List Nat,(ys=[]∧hs.length∉keys kvs)∨(ys=[hs.length]∧hs.length∈keys kvs∧S.length=1)→S.length≤1→cN [aC (cc e hs),.int (N:Int)]=some (.tup [.lst (xs.map natD),bU (ys.map fun k=>sg S (k-hs.length))]):=fun ys hy hS=>by
    have hyk:∀ k,k∈ys↔k=hs.length∧hs.length∈keys kvs:=fun k=>by
      rcases hy with ⟨z,q⟩ | ⟨z,q,_⟩
      · rw [z]
        exact ⟨fun w=>(by cases w),fun w=>absurd w.2 q⟩
      · rw [z,OB]
        exact ⟨fun w=>⟨w,q⟩,fun w=>w.1⟩
    have ynd:ys.Pairwise (· < ·):=by
      rcases hy with ⟨z,q⟩ | ⟨z,q⟩
      · rw [z]
        exact .nil
      · rw [z]
        exact Tg _ _
    have all:(xs++ys).Pairwise (· < ·):=QA.mpr ⟨up,ynd,fun a ha b hb=>by rw [((hyk b).mp hb).1]; exact ((hx a).mp ha).1⟩
    have e1:=BZ (dU e hs) es er hkl (xs:=xs) (ys:=ys) ((UI (all.imp fun h=>OS h) R.bf.nd).mpr fun a=>by
      rw [O4,hx,hyk]
      constructor
      · rintro (h | ⟨h,q⟩)
        · exact h.2
        · rw [h]
          exact q
      · intro h
        have:=R.lt a h
        by_cases c:a<hs.length
        · exact .inl ⟨c,h⟩
        · have c:a=hs.length:=by omega
          exact .inr ⟨c,by rw [← c]; exact h⟩) (all.imp fun h=>QO h) (fun k hk=>((hx k).mp hk).1) (fun k hk=>by
      rcases hy with ⟨z,q⟩ | ⟨z,q,w⟩
      · rw [z] at hk
        cases hk
      · have:=((hyk k).mp hk).1
        omega)
    rw [if_neg fun z=>by rw [(List.append_eq_nil_iff.mp z).1] at hi1; cases hi1] at e1
    exact e1
  rcases t.is with ⟨z,q⟩ | ⟨z,q⟩
  · have en:hs.length∉keys kvs:=fun w=>by
      have:=R.lt _ w
      rw [z] at this
      simp at this
    refine ⟨xs,[],go [] (.inl ⟨rfl,en⟩) (by rw [z]; decide),up,fun k hk=>((hx k).mp hk).1,.inl ⟨rfl,?_⟩⟩
    have e0:e=0:=by
      rcases q with q | q
      · rw [q] at hi0
        cases hi0
      · exact q
    subst z
    rw [KP hi0 t.fit.jg] at hl0
    rw [e0,← o5 (0:Int) xs]
    exact CB nd (fun k hk=>h0 _ (get_mem ((hx k).mp hk).1)) hi1 hl0
  · subst q
    have hb:=fun k (hk:k∈xs)=>t6 t.fit ((hx k).mp hk).1
    rw [Ij hi0 t.fit.jg] at hl0
    by_cases c:hs.length∈keys kvs
    · refine ⟨xs,S1 e,?_,up,fun k hk=>((hx k).mp hk).1,.inr ⟨z,rfl,?_⟩⟩
      · have:=go [hs.length] (.inr ⟨rfl,c,rfl⟩) (OT _)
        rw [O9,Q9,Uo] at this
        exact this
      · have f0:=fl 0 (sub _ c)
        rw [L4 t.fit.jg] at f0
        have e1:SM xs (fun i=>eM T i 0)=SM (O0 hs.length) fun i=>eM T i 0:=by
          rw [exs,vL]
          refine iE fun i hi=>?_
          have hi:=O8.mp hi
          by_cases d:i∈keys kvs
          · rw [if_pos (decide_eq_true d)]
          · rw [if_neg (by rw [decide_eq_true_iff]; exact d)]
            have:=(t6 t.fit hi).1
            have:¬ 0<eM T i 0:=fun w=>d (cl _ c i (.inr ⟨OT _,hi,by rw [Uo]; exact w⟩))
            omega
        have:=CB nd (f:=fun i=>eM T i 0) (g:=fun i=>hs.getD i 0) (fun k hk=>(hb k hk).2.2) hi1 ‹5›
        rw [SJ]
        omega
    · refine ⟨xs,[],go [] (.inl ⟨rfl,c⟩) (OT _),up,fun k hk=>((hx k).mp hk).1,.inl ⟨rfl,?_⟩⟩
      have ce:∀ k∈xs,eM T k 0=e:=fun k hk=>by
        have h1:=(hb k hk).2.1
        have h2:¬ eM T k 0<e:=fun w=>c (cl k ((hx k).mp hk).2 _ ((JL ((hx k).mp hk).1).mpr w))
        omega
      rw [← o5 e xs]
      refine CB nd (fun k hk=>?_) hi1 ?_
      · have h1:=(hb k hk).2.2
        have h2:=ce k hk
        omega
      · have h2:=ce i0 hi1
        omega
end
def Bh (W:List jo) (k:Nat):I2:=((W.getD k (0,0,0)).1,(W.getD k (0,0,0)).2.1)
theorem Hh {β:Type} (l:List α) (g:α→β) (f:β→Int):SM (l.map g) f=SM l fun x=>f (g x):=by unfold SM; rw [O3]; rfl
def qR (W:List jo) (S:List I2):List Int:=(W.flatMap fun w=>[w.1,w.2.1])++S.flatMap fun s=>[s.1,s.2]
theorem Ck {l:List α} {x:α} (f:α→List Int) (h:l[j]?=some x):(l.take (j+1)).flatMap f=(l.take j).flatMap f++f x:=by
 rw [QN,h]
 simp
theorem tu {α:Type} (f:α→List Int) (h:∀ x,(f x).length=2):∀ l:List α,(l.flatMap f).length=2*l.length
 | []=>rfl
 | x::r=>by rw [List.flatMap_cons,O1,h,tu f h r,OW]; omega
theorem pieces {W:List jo} {S:List I2} (hW:W.length≤8) (hS:S.length≤20) (he:mL (qR W S) es):d9 [aC W,bU S]=some (bU (oE es)):=by
 show 11
 have l1:=tu (fun w:jo=>[w.1,w.2.1]) (fun _=>rfl) W
 have l2:=tu (fun s:I2=>[s.1,s.2]) (fun _=>rfl) S
 refine cG lV ?_
 rw [xY]
 unfold kj
 refine wp_seq (aI (d:=.lst (((W.take 0).flatMap fun w=>[w.1,w.2.1]).map D.int)) rfl ?_)
 show 0
 refine wp_seq (fk (ds:=W.map fun w=>D.lst (sH w)) (bF rfl rfl) (fun j ρ=>∃ v3,ρ=[.pu (aC W),.pu (bU S),.pu (.lst (((W.take j).flatMap fun w=>[w.1,w.2.1]).map D.int)),v3,.un]) ⟨_,rfl⟩ ?_ ?_)
 ·rintro j d ρ hd ⟨v3,rfl⟩
  rw [OH] at hd
  obtain ⟨w,hw,rfl⟩:=P7.mp hd
  show 15
  show 10
  have lj:=tu (fun w:jo=>[w.1,w.2.1]) (fun _=>rfl) (W.take j)
  have lt:=WE j W
  rw [Ck _ hw]
  refine aI (d:=.lst ((((W.take j).flatMap fun w=>[w.1,w.2.1])++[w.1,w.2.1]).map D.int)) (aY ?_) ⟨_,rfl⟩
  rw [O7]
  exact xn rfl (aY (ae ‹32› (ae ‹32› rfl))) (by
   have:(W.take j).length≤W.length:=T6 j W
   rw [Oy,lj]; simp; omega)
 ·rintro ρ ⟨v3,rfl⟩
  rw [Oy,Qd]
  refine wp_seq (fk (ds:=S.map mO) (bF rfl rfl) (fun j ρ=>∃ v4,ρ=[.pu (aC W),.pu (bU S),.pu (.lst (((W.flatMap fun w=>[w.1,w.2.1])++(S.take j).flatMap fun s=>[s.1,s.2]).map D.int)),v3,v4]) ⟨.un,by simp⟩ ?_ ?_)
  ·rintro j d ρ hd ⟨v4,rfl⟩
   rw [OH] at hd
   obtain ⟨s,hs,rfl⟩:=P7.mp hd
   show 15
   show 10
   have lj:=tu (fun s:I2=>[s.1,s.2]) (fun _=>rfl) (S.take j)
   rw [Ck _ hs,← Qx]
   refine aI (d:=.lst ((((W.flatMap fun w=>[w.1,w.2.1])++(S.take j).flatMap fun s=>[s.1,s.2])++[s.1,s.2]).map D.int)) (aY ?_) ⟨_,rfl⟩
   rw [O7 (l₁:=(W.flatMap fun w=>[w.1,w.2.1])++(S.take j).flatMap fun s=>[s.1,s.2])]
   exact xn rfl rfl (by
    have:(S.take j).length≤S.length:=T6 j S
    rw [Oy,O1,l1,lj]; simp; omega)
  ·rintro ρ ⟨v4,rfl⟩
   rw [Oy,Qd]
   have hel:es.length≤(qR W S).length:=RZ he.1 fun x hx=>(he.2.1 x).mp hx
   have hE:(qR W S).length≤56:=by unfold qR; rw [O1,l1,l2]; omega
   refine wp_seq (aI (d:=.lst (es.map D.int)) (aY (y0 (ns:=qR W S) (bF rfl rfl) ‹5› he)) ?_)
   show 0
   refine bM (d:=bU (oE es)) (aY ?_) rfl
   rw [vj,O3]
   refine bS natD (xs:=O0 (es.length-1)) ?_ (fun k=>mO (es.getD k 0,es.getD (k+1) 0)) fun k hk=>⟨_,rfl,?_⟩
   ·rw [AO (i:=(es.length:Int)-1) (dR (dg rfl (by show some (D.int ((es.map D.int).length:Nat))=_; rw [Oy])) rfl) ⟨by omega,by omega⟩]
    rw [show ((es.length:Int)-1).toNat=es.length-1 by omega]
    unfold Ed
    refine congrArg some (PU fun i _=>?_)
    unfold natD
    rw [show (0:Int)+(i:Int)=(i:Int) by omega]
   ·have hk:=O8.mp hk
    exact aY (ae (aM rfl rfl (zx (int_at ‹5›))) (ae (aM rfl (fE rfl rfl) (AB (a:=k+1) ‹5› (int_at ‹5›))) rfl))
theorem GW (l:List Nat) (p:Nat→Bool):((l.filter p).length:Int)=SM l fun k=>if p k=true then 1 else 0:=by
 induction l with
 | nil=>rfl
 | cons x l ih =>
  rw [cR,← ih]
  by_cases c:p x=true
  ·rw [QS c,if_pos c,OW]; omega
  ·rw [Rk c,if_neg c]; omega
open Classical in
noncomputable def gG (W:List jo) (N:Int) (xs:List Nat) (S:List I2) (p:I2):Int:=if ∃ s∈S,Gp s p then N else SM (xs.map (Bh W)) fun w=>if Gp w p then 1 else 0
theorem IJ (xs:List D):gv 20 (.lst xs) (.lst [])=true:=by
 show (decide (xs.length≠([]:List D).length) || (Sd xs []).all fun p=>gv 19 p.1 p.2)=true
 rw [List.zip_nil_right]
 simp
theorem DQ {a:DE} (ha:a ρ=some (.lst xs)):rp false a (bD bu) ρ=some (.bl (decide (xs=[]))):=by
 rw [Cp (neg:=false) ha (e:=.lst []) rfl (IJ xs)]
 cases xs with
 | nil=>simp
 | cons x r=>simp
theorem yV {a:DE} (ha:a ρ=some (.lst xs)):dT (rp false a (bD bu)) ρ=some (decide (xs=[])):=dM (DQ ha)
theorem vV {l:List α} {x:α} (f:α→Int) (h:l[j]?=some x):SM (l.take (j+1)) f=SM (l.take j) f+f x:=by
 unfold SM
 rw [QN,h]
 simp
theorem KU {W:List jo} {S:List I2} (hW:W.length≤8) (hS:S.length≤20) (he:mL (qR W S) es) (hN:N≤8) {xs:List Nat} (hx:∀ k∈xs,k<W.length) (hxl:xs.length≤8):fH [aC W,.int (N:Int),.lst (xs.map natD),bU S]=some (.int (SM (oE es) fun p=>gG W N xs S p*(p.2-p.1))):=by
 refine cG o9 ?_
 rw [CT]
 unfold pA
 refine wp_seq (aI (d:=.int (SM ((oE es).take 0) fun p=>gG W N xs S p*(p.2-p.1))) rfl ?_)
 show 0
 refine wp_seq (fk (ds:=(oE es).map mO) (bF (aP ‹19› (pieces hW hS he)) rfl) (fun j ρ=>∃ v5 v6 v7 v8,ρ=[.pu (aC W),.bo (.int (N:Int)),.pu (.lst (xs.map natD)),.pu (bU S),.pu (.int (SM ((oE es).take j) fun p=>gG W N xs S p*(p.2-p.1))),v5,v6,v7,v8]) ⟨_,_,_,_,rfl⟩ ?_ ?_)
 ·rintro j d ρ hd ⟨v5,v6,v7,v8,rfl⟩
  rw [OH] at hd
  obtain ⟨p,hp,rfl⟩:=P7.mp hd
  show 15
  show 10
  rw [vV _ hp]
  generalize SM ((oE es).take j) (fun p=>gG W N xs S p*(p.2-p.1))=bR
  refine wp_seq (aI (d:=.lst ((S.filter fun s=>decide (s.1≤p.1)&&decide (p.2≤s.2)).map mO)) (aY (gu mO (bF rfl rfl) (fun s=>decide (s.1≤p.1)&&decide (p.2≤s.2)) mO fun s _=>⟨_,rfl,nE (dM (vy ‹32› rfl)) fun _=>dM (vy rfl ‹32›),fun _=>rfl⟩)) ?_)
  show 0
  refine wp_seq (aI (mw rfl rfl) ?_)
  show 0
  have mem:∀ s,s∈S.filter (fun s=>decide (s.1≤p.1)&&decide (p.2≤s.2))↔s∈S∧Gp s p:=fun s=>by
   rw [P5]; unfold Gp; simp
  have fin:∀ (v7:Sl) (q:Int),0≤q→q≤8→gG W N xs S p=q→Wp (bN 4 (j9 (aj 4) (rn (aj 8) (jl (aj 6) (aj 5))))) [.pu (aC W),.bo (.int (N:Int)),.pu (.lst (xs.map natD)),.pu (bU S),.pu (.int bR),.pu (.int p.1),.pu (.int p.2),v7,.pu (.int q)] { nx:=fun ρ=>∃ v5 v6 v7 v8,ρ=[.pu (aC W),.bo (.int (N:Int)),.pu (.lst (xs.map natD)),.pu (bU S),.pu (.int (bR+gG W N xs S p*(p.2-p.1))),v5,v6,v7,v8],rt:=fun x=>x=.int (SM (oE es) fun p=>gG W N xs S p*(p.2-p.1)),ct:=fun ρ=>∃ v5 v6 v7 v8,ρ=[.pu (aC W),.bo (.int (N:Int)),.pu (.lst (xs.map natD)),.pu (bU S),.pu (.int (bR+gG W N xs S p*(p.2-p.1))),v5,v6,v7,v8],bk:=fun ρ=>Wp (cP (av 4)) ρ { nx:=fun _=>D.non=.int (SM (oE es) fun p=>gG W N xs S p*(p.2-p.1)),rt:=fun x=>x=.int (SM (oE es) fun p=>gG W N xs S p*(p.2-p.1)) } }:=fun v7 q h0 h1 hq=>by
   rw [hq]
   exact aI (fE rfl (tH rfl (dR rfl rfl) (Gq (.inl ⟨by omega,by omega⟩)))) ⟨_,_,_,_,rfl⟩
  cases e:S.filter (fun s=>decide (s.1≤p.1)&&decide (p.2≤s.2)) with
  | nil =>
   rw [e] at mem
   have no:¬ ∃ s∈S,Gp s p:=fun ⟨s,hs,z⟩=>by
    have:=(mem s).mpr ⟨hs,z⟩
    cases this
   have ec:=GW xs fun k=>decide ((Bh W k).1≤p.1)&&decide (p.2≤(Bh W k).2)
   have lc:(xs.filter fun k=>decide ((Bh W k).1≤p.1)&&decide (p.2≤(Bh W k).2)).length≤xs.length:=List.length_filter_le _ _
   have em:gG W N xs S p=((xs.filter fun k=>decide ((Bh W k).1≤p.1)&&decide (p.2≤(Bh W k).2)).length:Int):=by
    unfold gG
    rw [if_neg no,ec,Hh]
    refine iE fun k _=>?_
    by_cases c:Gp (Bh W k) p
    ·rw [if_pos c,if_pos (by unfold Gp at c; simpa using c)]
    ·rw [if_neg c,if_neg (by unfold Gp at c; simpa using c)]
   refine wp_seq (mZ (yV (xs:=[]) rfl) (aI (d:=.int ((xs.filter fun k=>decide ((Bh W k).1≤p.1)&&decide (p.2≤(Bh W k).2)).length:Int)) ?_ ?_))
   ·refine dg (aY (gu natD (bF rfl rfl) (fun k=>decide ((Bh W k).1≤p.1)&&decide (p.2≤(Bh W k).2)) natD fun k hk=>⟨_,rfl,nE (dM (vy (aM (aM rfl rfl (zx (hV (hx k hk)))) rfl rfl) rfl)) fun _=>dM (vy rfl (aM (aM rfl rfl (zx (hV (hx k hk)))) rfl rfl)),fun _=>rfl⟩)) ?_
    show some (D.int (((xs.filter _).map natD).length:Nat))=_
    rw [Oy]
   ·show 0
    exact fin _ _ ‹5› ‹5› em
  | cons s r =>
   rw [e] at mem
   have ye:∃ s∈S,Gp s p:=by
    obtain ⟨h1,h2⟩:=(mem s).mp ON
    exact ⟨s,h1,h2⟩
   refine wp_seq (dH (by rw [yV (xs:=(s::r).map mO) rfl]; simp) (bY (fin _ _ ‹5› ‹5› ?_)))
   unfold gG
   rw [if_pos ye]
 ·rintro ρ ⟨v5,v6,v7,v8,rfl⟩
  rw [Oy,Qd]
  exact bM rfl rfl
theorem Lv {bs:List Bool}:Ha (.lst (bs.map D.bl))=some (.bl (bs.all id)):=by
 show (pH _).map _=_
 rw [vU]; rfl
theorem whole (x:Int):cm [.int x]=some (.bl true):=by
 refine cG mV ?_
 rw [zP]
 unfold mE
 exact bM (mx (x:=true) (y:=true) rfl fun _=>rfl) rfl
section
variable {a b:DE} {ρ:aK} {i j:Int}
theorem yr {p q:aK→Option Bool} (ha:p ρ=some false) (hb:q ρ=some false):tT p q ρ=some false:=GD (x:=false) (y:=false) ha fun _=>hb
theorem uG {p:aK→Option Bool} (ha:p ρ=some true):lP p ρ=some false:=qh (x:=true) ha
theorem Ms (ha:a ρ=some (.int i)) (hb:b ρ=some (.int j)) (h:j≤i):dT (zy a b) ρ=some false:=by rw [dM (tI ha hb),decide_eq_false ‹5›]
theorem NU (ha:a ρ=some (.int i)) (hb:b ρ=some (.int j)) (h:j<i):dT (Hr a b) ρ=some false:=by rw [dM (vy ha hb),decide_eq_false ‹5›]
theorem M4 (ha:a ρ=some (.int i)) (hb:b ρ=some (.int j)) (h:i<j):dT (DZ a b) ρ=some false:=by rw [dM (qQ ha hb),decide_eq_false ‹5›]
theorem Od (ha:a ρ=some (.int i)) (hb:b ρ=some (.int j)) (h:i≤j):dT (AZ a b) ρ=some false:=by rw [dM (iZ ha hb),decide_eq_false ‹5›]
theorem MX (ha:a ρ=some (.int i)) (hb:b ρ=some (.int i)):dT (rp true a b) ρ=some false:=by rw [dM (AR ha hb),decide_eq_false ‹5›]
theorem Ew (hk:k < ρ.length) {zs:List Int} (h:ρ.getD k .un=.pu (.lst (zs.map D.int))):iK (gI Ha (bD (bX 1 [] (d7 (av k)) (gN true 0) cD (bw cm (ao (aj 0) bu))))) ρ=some true:=by
 have e0:av k ρ=some (.lst (zs.map D.int)):=by
  unfold av
  rw [h]
 have e1:bX 1 [] (d7 (av k)) (gN true 0) cD (bw cm (ao (aj 0) bu)) ρ=some ((zs.map fun _=>true).map D.bl):=by
  rw [O3]
  exact bS D.int (bF e0 rfl) (fun _=>D.bl true) fun z _=>⟨_,rfl,aP (ae rfl rfl) (whole z)⟩
 refine du (dg (aY e1) Lv) ?_
 show some _=some _
 simp
end
theorem rX {e:Int} {i:Nat} (hi:i<hs.length):AD (aC (cc e hs)) (i:Int)=some (.lst [.int 0,.int e,.int (hs.getD i 0)]):=by
 have:=zx (hV (W:=cc e hs) (k:=i) (by rw [dU]; exact hi))
 rw [show (cc e hs).getD i (0,0,0)=(0,e,hs.getD i 0) from rY hi] at this
 exact this
theorem KR (e:Int) (hs:List Int):d6 (aC (cc e hs))=some (.int (hs.length:Int)):=by unfold aC; rw [fC,Oy,dU]
theorem Nd {e:Int} {i:Nat} (hi:i<hs.length):Bh (cc e hs) i=(0,e):=by
 unfold Bh
 rw [show (cc e hs).getD i (0,0,0)=(0,e,hs.getD i 0) from rY hi]
theorem Mc {e:Int} (he:0≤e) (hn:hs.length≤8) (hne:hs≠[]) (hN:N≤8) {xs:List Nat} (hx:∀ k∈xs,k<hs.length) (hxl:xs.length≤8) {U:List I2} (hU:U=[]∨(0<e∧U=S1 e)):fH [aC (cc e hs),.int (N:Int),.lst (xs.map natD),bU U]=some (.int (if U=[] then (xs.length:Int)*e else (N:Int)*e)):=by
 obtain ⟨es,hes⟩:=Bw (qR (cc e hs) U)
 have mem:∀ x,x∈es↔x=0∨x=e:=fun x=>by
  rw [hes.2.1]
  unfold qR
  rw [O4,XG,XG]
  constructor
  ·rintro (⟨w,hw,hx⟩ | ⟨s,hs,hx⟩)
   ·obtain ⟨h,_,rfl⟩:=Pj.mp hw
    simpa using hx
   ·rcases hU with z | ⟨_,z⟩
    ·rw [z] at hs
     cases hs
    ·rw [z] at hs
     rw [OB.mp hs] at hx
     simpa using hx
  ·intro hx
   obtain ⟨h,hh⟩:=UO hs hne
   exact .inl ⟨(0,e,h),Pj.mpr ⟨h,hh,rfl⟩,by simpa using hx⟩
 have ep:=Mo he (zX hes) (fun x hx=>(mem x).mp hx) ((mem 0).mpr (.inl rfl)) ((mem e).mpr (.inr rfl))
 have hUl:U.length≤20:=by
  rcases hU with z | ⟨_,z⟩
  ·rw [z]
   decide
  ·rw [z]
   exact VT rfl
 rw [KU (by rw [dU]; exact hn) hUl hes hN (fun k hk=>by rw [dU]; exact hx k hk) hxl,ep]
 refine congrArg (fun z=>some (D.int z)) ?_
 by_cases c:e=0
 ·rw [if_pos c,c,RL,RL,ite_self]
  rfl
 ·rw [if_neg c]
  show gG (cc e hs) N xs U (0,e)*(e-0)+0=_
  have em:gG (cc e hs) N xs U (0,e)=if U=[] then (xs.length:Int) else (N:Int):=by
   unfold gG
   rcases hU with z | ⟨_,z⟩
   ·rw [z,if_neg (fun ⟨s,hs,_⟩=>by cases hs),if_pos rfl,Hh,iE (g:=fun _=>1) fun k hk=>?_,o5,UQ]
    rw [Nd (hx k hk),if_pos ⟨Rf _,Rf _⟩]
   ·rw [z,if_pos ⟨(0,e),OB.mpr rfl,Rf _,Rf _⟩,if_neg (by intro w; cases w)]
  rw [em,Vx,Rw]
  split <;> rfl
theorem is_none {e:Int} (he:0≤e) (hn:hs.length≤8) (hN:N≤8) {xs:List Nat} {U:List I2} (up:xs.Pairwise (· < ·)) (hx:∀ k∈xs,k<hs.length) (hne:hs≠[]) (hU:(U=[]∧(xs.length:Int)*e<SM xs fun k=>hs.getD k 0)∨(0<e∧U=S1 e∧(N:Int)*e<SM xs fun k=>hs.getD k 0)):dF [aC (cc e hs),.int (N:Int),.tup [.lst (xs.map natD),bU U]]=some (.bl true):=by
 have hxl:xs.length≤8:=Pq (sW (up.imp fun h=>OS h) hx) hn
 have er:=Mc he hn hne hN hx hxl (U:=U) (hU.imp And.left fun z=>⟨z.1,z.2.1⟩)
 refine cG kG ?_
 rw [wg]
 unfold jc
 refine wp_seq (dH (yr (uG (du (d:=.bl true) rfl rfl)) (MX (i:=2) (dg rfl rfl) rfl)) (bY ?_))
 refine wp_seq (dH (yr (uG (du (d:=.bl true) rfl rfl)) (uG (du (d:=.bl true) rfl rfl))) (bY ?_))
 refine wp_seq (aI (jY rfl) ?_)
 show 0
 refine wp_seq (fk (ds:=xs.map natD) (bF ‹32› rfl) (fun j ρ=>∃ (a:Int) (v4:Sl),(∀ k∈xs.drop j,a<(k:Int))∧ρ=[.pu (aC (cc e hs)),.bo (.int (N:Int)),.pu (.tup [.lst (xs.map natD),bU U]),.pu (.int a),v4,.un]) ⟨_,_,fun k _=>by omega,rfl⟩ ?_ ?_)
 ·rintro j d ρ hd ⟨a,v4,ha,rfl⟩
  rw [OH] at hd
  obtain ⟨k,hk,rfl⟩:=P7.mp hd
  have hjl:=(OR.mp hk).1
  have ed:xs.drop j=k::xs.drop (j+1):=by rw [Pg hjl,(OR.mp hk).2]
  rw [ed] at ha
  have pd:(k::xs.drop (j+1)).Pairwise (· < ·):=by rw [← ed]; exact up.sublist (Xh _ _)
  have h1:=ha k ON
  have h2:=hx k (PD hk)
  show 15
  show 10
  refine wp_seq (dH (yr (uG (du (aP (ae rfl rfl) (whole _)) rfl)) (yr (NU rfl rfl h1) (M4 rfl (dg rfl (KR e hs)) ‹5›))) (bY ?_))
  refine aI rfl ⟨_,_,fun q hq=>?_,rfl⟩
  have:=(Qm.mp pd).1 q hq
  omega
 ·rintro ρ ⟨a,v4,_,rfl⟩
  refine wp_seq (aI rfl ?_)
  show 0
  refine wp_seq (fk (ds:=U.map mO) (bF ‹32› rfl) (fun j ρ=>∃ (a:Int) (v5:Sl),(j=0→a=0)∧ρ=[.pu (aC (cc e hs)),.bo (.int (N:Int)),.pu (.tup [.lst (xs.map natD),bU U]),.pu (.int a),v4,v5]) ⟨_,_,fun _=>rfl,rfl⟩ ?_ ?_)
  ·rintro j d ρ hd ⟨a,v5,ha,rfl⟩
   rcases hU with ⟨rfl,_⟩ | ⟨z,rfl,_⟩
   ·cases hd
   ·have hj:j=0:=by
     have:=(OR.mp hd).1
     have:j<1:=this
     omega
    subst hj
    cases hd
    rw [ha rfl]
    show 15
    show 10
    refine wp_seq (dH (yr (uG (du (d:=.bl true) rfl rfl)) (yr (MX (i:=2) (dg rfl rfl) rfl) (uG (Ew (k:=5) (zs:=[0,e]) ‹18› rfl)))) (bY ?_))
    refine wp_seq (dH (yr (Ms ‹32› rfl (Rf _)) (NU ‹32› ‹32› z)) (bY ?_))
    exact aI ‹32› ⟨_,_,(fun w=>by cases w),rfl⟩
  ·rintro ρ ⟨a,v5,_,rfl⟩
   have es:∀ ρ:aK,av 2 ρ=some (.tup [.lst (xs.map natD),bU U])→ρ.getD 0 .un=.pu (aC (cc e hs))→gI um (bD (bX 1 [0] (d7 (cC (av 2) ‹22›)) (gN true 0) cD (cC (cC (av 1) (aj 0)) (dC (.int 2))))) ρ=some (.int (SM xs fun k=>hs.getD k 0)):=fun ρ q2 q0=>by
    have e1:bX 1 [0] (d7 (cC (av 2) ‹22›)) (gN true 0) cD (cC (cC (av 1) (aj 0)) (dC (.int 2))) ρ=some ((xs.map fun k=>hs.getD k 0).map D.int):=by
     rw [O3]
     refine bS natD (bF (aM q2 rfl rfl) rfl) (fun k=>D.int (hs.getD k 0)) fun k hk=>?_
     unfold r0
     rw [O9,Q9,q0]
     exact ⟨_,rfl,aM (aM rfl rfl (rX (hx k hk))) rfl rfl⟩
    exact dg (aY e1) (jH _)
   refine bM (iZ (es _ rfl rfl) (aP (ae rfl (ae rfl (ae ‹32› (ae ‹32› rfl)))) er)) (congrArg D.bl (decide_eq_true ?_))
   rcases hU with ⟨z,q⟩ | ⟨_,z,q⟩
   ·rw [if_pos z]
    exact q
   ·rw [if_neg (by rw [z]; intro w; cases w)]
    exact q
theorem wL {R:α→α→Prop} {l:List α} {y:α} (h:l.Pairwise R) (hy:l[j]?=some y):∀ x∈l.take j,R x y:=fun x hx=>by
 have hj:=(OR.mp hy).1
 have ed:l=l.take j++y::l.drop (j+1):=by
  rw [← (OR.mp hy).2,← Pg hj,TB]
 rw [ed] at h
 exact (QA.mp h).2.2 x hx y ON
theorem EJ {l:List α} {y:α} (hy:l[j]?=some y):y∈l.take (j+1)∧∀ x∈l.take j,x∈l.take (j+1):=by
 rw [QN,hy]
 exact ⟨OJ _ (by simp),fun x hx=>Pa _ hx⟩
theorem IL (n:Nat) (xs ys:List Int):gv (n+1) (.lst (xs.map D.int)) (.lst (ys.map D.int))=true:=by
 refine IK fun x hx y hy=>?_
 obtain ⟨p,_,rfl⟩:=Pj.mp hx
 obtain ⟨q,_,rfl⟩:=Pj.mp hy
 cases n <;> rfl
def fw (i:Nat) (r:R4):Int:=if r.w=(i:Int) then r.e-r.s else 0
def dn (n:Nat) (L:List R4):List Int:=(O0 n).map fun i=>SM L (fw i)
theorem AU (n:Nat) (L:List R4):(dn n L).length=n:=by unfold dn; rw [Oy,PK]
theorem MH {i:Nat} (L:List R4) (h:i<n):(dn n L).getD i 0=SM L (fw i):=by
 unfold dn
 rw [Ox,OH,Q2 h]
 rfl
theorem IG {i:Nat} {Q:List R4} {r:R4} (hr:Q[j]?=some r) (hw:r.w=(i:Int)) (hi:i<n):(dn n (Q.take j)).set i (SM (Q.take j) (fw i)+r.e-r.s)=dn n (Q.take (j+1)):=by
 refine QY fun k=>?_
 rw [Sq]
 by_cases c:i=k
 ·subst c
  rw [if_pos rfl,if_pos (by rw [AU]; exact hi)]
  unfold dn
  rw [OH,Q2 hi,Rn,vV _ hr]
  unfold fw
  rw [if_pos hw]
  exact congrArg some ‹5›
 ·rw [if_neg c]
  unfold dn
  rw [OH,OH]
  by_cases d:k<n
  ·rw [Q2 d,Rn,Rn,vV _ hr]
   unfold fw
   rw [if_neg (show ¬ r.w=(k:Int) by omega),Rw]
  ·rw [O5 (by rw [PK]; omega)]
   rfl
theorem Io {e:Int} (hn:hs.length≤8) (hN:N≤8) {Q:List R4} (P:Pl e N hs Q) (up:Q.Pairwise LN):dE [aC (cc e hs),.int (N:Int),.lst (Q.map gT)]=some (.bl true):=by
 show 11
 refine cG kF ?_
 rw [we]
 unfold jb
 refine wp_seq (dH (uG (du (d:=.bl true) rfl rfl)) (bY ?_))
 have rep:∀ ρ:aK,aj 0 ρ=some (aC (cc e hs))→xv (ao ‹22› bu) (gI d6 (aj 0)) ρ=some ((OY hs.length (0:Int)).map D.int):=fun ρ q=>by
  rw [AQ (ds:=[.int 0]) (i:=(hs.length:Int)) rfl (dg q (KR e hs)) ⟨by omega,by omega,by simp only [OW,Pb]; omega⟩,QK,BH]
 refine wp_seq (fV (rep _ rfl) ‹18› ?_)
 show 0
 refine wp_seq (fV (ds:=(OY N ((-1,-1):I2)).map mO) ?_ ‹18› ?_)
 ·have:=bS (ρ:=[.bo (aC (cc e hs)),.bo (.int (N:Int)),.pu (.lst (Q.map gT)),.ol ((OY hs.length (0:Int)).map D.int),.un,.un,.un,.un,.un,.un,.un,.un]) (k:=1) (cs:=[]) (g:=gN true 0) (el:=bD (ao (jm ‹29›) (ao (jm ‹29›) bu))) natD (ng (a:=aj 1) (k:=N) rfl ‹5›) (fun _=>mO (-1,-1)) fun k _=>⟨_,rfl,aY (ae (jY rfl) (ae (jY rfl) rfl))⟩
  rw [this,VI,PK,UJ]
 show 0
 refine wp_seq (fV (rep _ rfl) ‹18› ?_)
 show 0
 refine wp_seq (aI (d:=mO (-1,-1)) (aY (ae (jY rfl) (ae (jY rfl) rfl))) ?_)
 show 0
 have d0:OY hs.length (0:Int)=dn hs.length (Q.take 0):=by
  unfold dn
  rw [show (fun i=>SM (Q.take 0) (fw i))=fun _=>(0:Int) from rfl,VI,PK]
 refine wp_seq (fk (ds:=Q.map gT) (bF rfl rfl) (fun j ρ=>∃ (ls:List I2) (fr:List Int) (ah:I2) (v7 v8 v9 v10 v11:Sl),ls.length=N∧fr.length=hs.length∧(∀ b,b<N→ls.getD b (0,0)=(-1,-1)∨∃ r∈Q.take j,r.b=(b:Int)∧ls.getD b (0,0)=(r.w,r.e))∧(∀ i,i<hs.length→fr.getD i 0=0∨∃ r∈Q.take j,r.w=(i:Int)∧fr.getD i 0=r.e)∧(ah=(-1,-1)∨∃ r∈Q.take j,ah=(r.s,r.b))∧ρ=[.bo (aC (cc e hs)),.bo (.int (N:Int)),.pu (.lst (Q.map gT)),.ol ((dn hs.length (Q.take j)).map D.int),.ol (ls.map mO),.ol (fr.map D.int),.pu (mO ah),v7,v8,v9,v10,v11]) ⟨OY N (-1,-1),OY hs.length 0,(-1,-1),_,_,_,_,_,Pu,Pu,fun b hb=>.inl (by rw [Ox,PY,if_pos hb]; rfl),fun i hi=>.inl (by rw [Ox,PY,if_pos hi]; rfl),.inl rfl,by rw [← d0]⟩ ?_ ?_)
 ·rintro j d ρ hd ⟨ls,fr,ah,v7,v8,v9,v10,v11,hll,hfl,hls,hfr,hah,rfl⟩
  rw [OH] at hd
  obtain ⟨r,hr,rfl⟩:=P7.mp hd
  obtain ⟨⟨i,hi,hw⟩,a1,a2,a3,a4,a5⟩:=P.all r (PD hr)
  have pu:=wL up hr
  have pb:=wL P.bj hr
  have pw:=wL P.wj hr
  have pos:∀ x∈Q.take j,x.s<x.e∧0≤x.w:=fun x hx=>by
   obtain ⟨⟨k,_,q⟩,_,q2,_⟩:=P.all x (SF hx)
   exact ⟨q2,by omega⟩
  obtain ⟨b,hb⟩:∃ b:Nat,r.b=(b:Int):=⟨r.b.toNat,by omega⟩
  have hbN:b<N:=by omega
  obtain ⟨tm,tk⟩:=EJ hr
  show 15
  show 10
  refine wp_seq (dH (yr (uG (du (d:=.bl true) rfl rfl)) (yr (MX (i:=4) (dg rfl rfl) rfl) (uG (Ew (k:=7) (zs:=zR r) ‹18› rfl)))) (bY ?_))
  refine wp_seq (LP (d:=gT r) rfl rfl ?_)
  show 10
  refine wp_seq (dH (yr (Ms rfl rfl a4) (yr (M4 rfl rfl a5) (yr (Ms rfl rfl (by show 0≤r.w; omega)) (M4 rfl (dg rfl (KR e hs)) (by show r.w < _; omega))))) (bY ?_))
  have exL:∀ ρ:aK,aj 4 ρ=some (.lst (ls.map mO))→aj 8 ρ=some (.int r.b)→cC (aj 4) (aj 8) ρ=some (mO (ls.getD b (0,0))):=fun ρ q1 q2=>aM q1 q2 (AB (a:=b) hb (vc ‹5›))
  have hlb:(ls.getD b (0,0)).2≤r.s∧((ls.getD b (0,0)).1≠r.w):=by
   rcases hls b hbN with z | ⟨x,hx,z1,z2⟩
   ·rw [z]
    show -1≤r.s∧(-1:Int)≠r.w
    omega
   ·rw [z2]
    show x.e≤r.s∧x.w≠r.w
    have q1:=pu x hx
    have q2:=pb x hx ‹5›
    have q3:=pos x hx
    unfold LN at q1
    exact ⟨by omega,fun w=>(pw x hx w).1 ‹5›⟩
  have hfw:fr.getD i 0≤r.s:=by
   rcases hfr i hi with z | ⟨x,hx,z1,z2⟩
   ·omega
   ·rw [z2]
    have q1:=pu x hx
    have q2:=(pw x hx ‹5›).2
    have q3:=pos x hx
    unfold LN at q1
    omega
  have hlx:lexLe [r.s,r.b] [ah.1,ah.2]=false:=by
   unfold lexLe
   rcases hah with z | ⟨x,hx,z⟩
   ·rw [z]
    show (if r.s=-1 then _ else decide (r.s≤-1))=false
    rw [if_neg ‹5›]
    exact decide_eq_false ‹5›
   ·rw [z]
    have q1:=pu x hx
    have q2:=pb x hx
    have q3:=pos x hx
    unfold LN at q1
    show (if r.s=x.s then lexLe [r.b] [x.b] else decide (r.s≤x.s))=false
    by_cases c:r.s=x.s
    ·rw [if_pos c]
     show (if r.b=x.b then _ else decide (r.b≤x.b))=false
     have:r.b≠x.b:=fun w=>by
      have:=q2 w.symm
      omega
     rw [if_neg this]
     exact decide_eq_false ‹5›
    ·rw [if_neg c]
     exact decide_eq_false ‹5›
  refine wp_seq (dH (yr ?_ (yr (M4 rfl rfl a2) (Ms rfl (rM (aM (exL _ rfl rfl) rfl rfl) (aM rfl rfl (AB (a:=i) hw (int_at ‹5›)))) ‹5›))) (bY ?_))
  ·rw [dM (Ld (ns:=[r.s,r.b]) (ms:=[ah.1,ah.2]) rfl rfl rfl),hlx]
  refine wp_seq (dH (yr ?_ (yr (Ms rfl (aM (aM rfl rfl (by rw [hw]; exact rX hi)) rfl rfl) a1) (Od rfl (aM (aM rfl rfl (by rw [hw]; exact rX hi)) rfl rfl) a3))) (bY ?_))
  ·have ne:mO (ls.getD b (0,0))≠D.lst [.int r.w,.int r.s]:=fun w=>by
    unfold mO at w
    injection w with w
    injection w with w _
    injection w with w
    exact hlb.2 w
   rw [dM (Cp (neg:=false) (exL _ rfl rfl) (aY ‹19›) rfl)]
   simp only [Qz,if_false,ne,decide_false]
  refine wp_seq (aI (d:=mO (r.s,r.b)) (aY ‹19›) ?_)
  show 0
  refine wp_seq (vP (n:=r.b) (j:=b) (d:=mO (r.w,r.e)) rfl (aY ‹19›) rfl (by rw [Oy,hb,hll]; exact sY hbN) ?_)
  show 0
  refine wp_seq (vP (n:=r.w) (j:=i) (d:=.int r.e) rfl rfl rfl (by rw [Oy,hw,hfl]; exact sY hi) ?_)
  show 0
  refine vP (n:=r.w) (j:=i) (d:=.int (SM (Q.take j) (fw i)+r.e-r.s)) rfl (dR (fE (aM rfl rfl (AB (a:=i) hw (by rw [int_at (by rw [AU]; exact hi),MH _ hi]))) rfl) rfl) rfl (by rw [Oy,hw,AU]; exact sY hi) ?_
  show 0
  refine ⟨ls.set b (r.w,r.e),fr.set i r.e,(r.s,r.b),_,_,_,_,_,by rw [PH]; exact hll,by rw [PH]; exact hfl,fun c hc=>?_,fun c hc=>?_,.inr ⟨r,tm,rfl⟩,by rw [sr,sr,IG hr hw hi,show (ls.map mO).set b (mO (r.w,r.e))=(ls.set b (r.w,r.e)).map mO from Ul.symm]⟩
  ·rw [Ox,Sq]
   by_cases q:b=c
   ·subst q
    rw [if_pos rfl,if_pos ‹5›]
    exact .inr ⟨r,tm,hb,rfl⟩
   ·rw [if_neg q,← Ox]
    rcases hls c hc with z | ⟨x,hx,z⟩
    ·exact .inl z
    ·exact .inr ⟨x,tk x hx,z⟩
  ·rw [DM ‹5›]
   by_cases q:c=i
   ·subst q
    rw [if_pos rfl]
    exact .inr ⟨r,tm,hw,rfl⟩
   ·rw [if_neg q]
    rcases hfr c hc with z | ⟨x,hx,z⟩
    ·exact .inl z
    ·exact .inr ⟨x,tk x hx,z⟩
 ·rintro ρ ⟨ls,fr,ah,v7,v8,v9,v10,v11,hll,hfl,hls,hfr,hah,rfl⟩
  rw [Oy,Qd]
  have ed:dn hs.length Q=hs:=by
   refine QY fun k=>?_
   unfold dn
   rw [OH]
   by_cases c:k<hs.length
   ·rw [Q2 c,Rn,Ow c]
    have:=P.sum k c
    rw [Ox,Ow c] at this
    exact congrArg some this
   ·rw [O5 (by rw [PK]; omega),O5 ‹5›]
    rfl
  rw [ed]
  refine bM (DR rfl (aY ?_) (IL 19 hs hs)) rfl
  have:=bS (ρ:=[.bo (aC (cc e hs)),.bo (.int (N:Int)),.pu (.lst (Q.map gT)),.ol (hs.map D.int),.ol (ls.map mO),.ol (fr.map D.int),.pu (mO ah),v7,v8,v9,v10,v11]) (k:=1) (cs:=[]) (it:=d7 (aj 0)) (g:=gN false 0) (el:=iX (cC (aj 0) (dC (.int 2)))) (fun w:jo=>D.lst (sH w)) (xs:=cc e hs) rfl (fun w=>D.int w.2.2) fun w _=>⟨_,rfl,mw ‹32› rfl⟩
  rw [this]
  unfold cc
  rw [O3]
  rfl
theorem Mj:AX (dC (.int 10)) (dC (.int 39)) ρ=some (.int (10 ^ 39)):=GC (i:=10) (j:=39) rfl rfl (by unfold Eb; decide)
theorem Ml:AX (dC (.int 10)) (dC (.int 30)) ρ=some (.int (10 ^ 30)):=GC (i:=10) (j:=30) rfl rfl (by unfold Eb; decide)
theorem Il (ns:List Int) (hl:ns.length≤63):∃ hs,fg [.scr ns]=some ‹40›∧hs.length≤8∧Wr.Na hs:=by
  show 11
  obtain ⟨d,e,hs,rfl,hh⟩:=rC mX (ds:=[.scr ns]) (P:=fun d=>∃ hs:List Int,d=.lst (hs.map D.int)∧hs.length≤8∧Wr.Na hs) (by
    rw [zS]
    unfold mG
    refine wp_seq (aI (aP ‹19› (my _ _ ‹11›)) ?_)
    show 0
    generalize ns.getD (0:Int).toNat 0=c
    refine wp_seq (aI (d:=.int (LJ (c % 3) (c / 3 % 9) 8 (c / 3 % 9))) (by walk_at "ev") ?_)
    show 0
    generalize hm:LJ (c % 3) (c / 3 % 9) 8 (c / 3 % 9)=m
    have hm1:0≤m∧m≤8:=by rw [← hm]; unfold LJ; split <;> (try split) <;> omega
    have hm2:∃ n:Nat,m=(n:Int)∧n≤8:=⟨m.toNat,by omega,by omega⟩
    obtain ⟨n,rfl,hn⟩:=hm2
    refine wp_seq (fV (ds:=((O0 8).map fun k:Nat=>pV (ns.getD (1:Int).toNat 0) (40+(k:Int))).map D.int) ?_ ‹18› ?_)
    · rw [O3]
      refine bS natD (ng (k:=8) rfl ‹5›) (fun k=>D.int (pV (ns.getD (1:Int).toNat 0) (40+(k:Int)))) fun k hk=>⟨_,rfl,?_⟩
      have:=O8.mp hk
      exact aP (ae (aP ‹19› (my _ _ ‹11›)) (ae (fE rfl rfl) rfl)) (mixed _ _ ‹5› ‹5›)
    show 0
    refine wp_seq (fk (GB (i:=3) (j:=min 63 (ns.length:Int)) rfl (rK rfl (dg rfl rfl)) ⟨by omega,by omega,by omega,by omega,by omega⟩) (fun j ρ=>∃ (qs:List Int) (v4:Sl),qs.length=8∧(∀ q∈qs,0≤q∧q<2147483629)∧ρ=[.bo (.scr ns),.pu (.int c),.pu (.int (n:Int)),.ol (qs.map D.int),v4,.un,.un,.un]) ⟨_,_,by rw [Oy,PK],fun q hq=>by
      obtain ⟨k,_,rfl⟩:=Pj.mp hq
      exact ⟨pT _ _,pU _ _⟩,rfl⟩ ?_ ?_)
    · rintro j d ρ hd ⟨qs,v4,hq8,hqb,rfl⟩
      obtain ⟨hj,rfl⟩:=JV hd
      show 15
      show 10
      generalize hK:(3:Int)+(j:Int)=k
      have hk:0≤k∧k<ns.length∧k<63:=by omega
      have hr:k % 8=((k % 8).toNat:Int)∧(k % 8).toNat<8:=by omega
      refine vP (n:=k % 8) (j:=(k % 8).toNat) rfl (aP (ae (fE (aM rfl (jZ rfl rfl ‹11›) (AB hr.1 (int_at ‹5›))) (aM rfl rfl (NV ‹5› ‹5›))) (ae rfl rfl)) (mixed _ _ ‹5› ‹5›)) (jZ rfl rfl ‹11›) (by rw [Oy,hq8,hr.1]; exact sY hr.2) ?_
      show 0
      rw [sr]
      refine ⟨_,_,by rw [PH]; exact hq8,fun q hq=>?_,rfl⟩
      rcases List.mem_or_eq_of_mem_set hq with z | z
      · exact hqb q z
      · rw [z]
        exact ⟨pT _ _,pU _ _⟩
    · rintro ρ ⟨qs,v4,hq8,hqb,rfl⟩
      refine wp_seq (aI (jZ (aP ‹19› (my _ _ ‹11›)) rfl ‹11›) ?_)
      show 0
      generalize ns.getD (2:Int).toNat 0=u
      refine wp_seq (fV (ds:=([]:List Int).map D.int) rfl ‹18› ?_)
      show 0
      refine wp_seq (fk (ng (k:=n) rfl ‹5›) (fun j ρ=>∃ (hs:List Int) (v4 v7:Sl),hs.length=j∧(∀ h∈hs,0≤h∧h<10 ^ 50)∧ρ=[.bo (.scr ns),.pu (.int c),.pu (.int (n:Int)),.ol (qs.map D.int),v4,.pu (.int (u % 4)),.ol (hs.map D.int),v7]) ⟨[],_,_,rfl,fun h hh=>(by cases hh),rfl⟩ ?_ ?_)
      · rintro j d ρ hd ⟨hs,v4,v7,hl1,hb1,rfl⟩
        rw [OH] at hd
        obtain ⟨k,hk,rfl⟩:=P7.mp hd
        have hj:=(OR.mp hk).1
        rw [PK] at hj
        have hk:=O8.mp (PD hk)
        show 15
        show 10
        have hx:=hqb (qs.getD k 0) (mem_getD ‹5›)
        have ex:∀ ρ:aK,aj 3 ρ=some (.lst (qs.map D.int))→aj 4 ρ=some (natD k)→cC (aj 3) (aj 4) ρ=some (.int (qs.getD k 0)):=fun ρ q1 q2=>aM q1 q2 (zx (int_at ‹5›))
        generalize qs.getD k 0=x at hx ex
        have m0:=pT x 7
        have m1:=pU x 7
        refine wp_seq (aI (fE (tH (ex _ rfl rfl) Mj (Gq (.inl ⟨by omega,by omega⟩))) (aP (ae (ex _ rfl rfl) (ae rfl rfl)) (mixed _ _ ‹11› ‹11›))) ?_)
        show 0
        generalize hf:x*10 ^ 39+pV x 7=f
        have hf1:0≤f∧f<10 ^ 49:=by omega
        have hc:x % 3 % 2=0∨x % 3 % 2=1:=by omega
        have hfc:0≤f*(x % 3 % 2)∧f*(x % 3 % 2)<10 ^ 49:=by
          rcases hc with z | z <;> rw [z] <;> omega
        refine zG (d:=.int (MV (u % 4) (x % 7) (f*(x % 3 % 2)) f (10 ^ 30))) rfl (aM (aY (ae (jZ (ex _ rfl rfl) rfl ‹11›) (ae (tH rfl (jZ (jZ (ex _ rfl rfl) rfl ‹11›) rfl ‹11›) (Gq (.inr ‹5›))) (ae rfl (ae Ml rfl))))) rfl (Mv _ _ _ _ _)) (by rw [Oy]; omega) ?_
        show 0
        refine ⟨hs++[MV (u % 4) (x % 7) (f*(x % 3 % 2)) f (10 ^ 30)],_,_,by rw [O1,Qh,hl1],fun h hh=>?_,by rw [O7]; rfl⟩
        rcases O4.mp hh with z | z
        · exact hb1 h z
        · rw [OB.mp z]
          unfold MV
          split
          · omega
          · split
            · omega
            · split <;> omega
      · rintro ρ ⟨hs,v4,v7,hl1,hb1,rfl⟩
        rw [Oy,PK] at hl1
        walk_at "go"
        exact bM rfl ⟨hs,rfl,by omega,by omega,hb1⟩)
  exact ⟨hs,e,hh⟩
theorem least_le {e:Int} (hN:0<N) (he:0≤e):Wr.eI hs N≤e↔Rm e N hs:=by
 have hb:(0:Int)<N:=by omega
 have ht:Wr.zL hs≤e↔∀ h∈hs,h≤e:=by
  constructor
  ·intro z h hh
   have:=Wr.EI hh
   omega
  ·intro z
   cases hs with
   | nil=>exact he
   | cons x r=>exact z _ (ia r x).1
 have hd:Wr.nF hs.sum N≤e↔hs.sum≤e*N:=by
  constructor
  ·intro z
   have h1:=Wr.Li (t:=hs.sum) hb
   have h2:=Int.mul_le_mul_of_nonneg_right z (show (0:Int)≤N by omega)
   rw [SJ] at h1
   omega
  ·intro z
   have h1:=Sk hs.sum N
   have h2:=S7 hs.sum (show (N:Int)≠0 by omega)
   rw [SJ] at h1
   unfold Wr.nF
   split
   ·rename_i c
    have:hs.sum / N*N<e*N:=by omega
    have:=UL this ‹5›
    omega
   ·exact Int.le_of_mul_le_mul_right (show hs.sum / N*N≤e*N by omega) hb
 unfold Wr.eI Rm
 rw [← ht,← hd]
 omega
theorem IF {t b:Int} (hb:0<b):0-(0-t) / b=Wr.nF t b:=by
 have h1:=Sk t b
 have h2:=S7 t (show b≠0 by omega)
 have h3:=Tc t hb
 unfold Wr.nF
 split
 ·rename_i c
  rw [Wr.GI hb (k:=-(t / b+1)) (r:=b-t % b) (by rw [Te,R3,Tf,SJ]; omega) ‹5› ‹5›]
  omega
 ·rename_i c
  rw [Wr.GI hb (k:=-(t / b)) (r:=0) (by rw [Te,SJ]; omega) ‹5› ‹5›]
  omega
theorem FT (hs:List Int) (c:Int) (h:hs=[]→0≤c):maxD (.lst ((hs++[c]).map D.int))=some (.int (max (Wr.zL hs) c)):=by
 cases hs with
 | nil =>
  have:=h rfl
  rw [S3,Wr.mq]
  show some (D.int c)=some (D.int (max 0 c))
  rw [show max 0 c=c by omega]
 | cons x r =>
  rw [TJ,Wr.mq]
  refine congrArg (fun z=>some (D.int z)) ?_
  show (r++[c]).foldl max x=max (r.foldl max x) c
  rw [Tu]
  rfl
theorem Gb (ns:List Int) (hl:ns.length≤63) (hb:∀ m∈ns,QH m≤1048576):vN [.scr ns]=some (.bl true):=by
 show 11
 obtain ⟨hs,eh,hn,H⟩:=Il ns hl
 refine cG vM ?_
 rw [J8]
 unfold CD
 refine wp_seq (aI (aP (ae rfl rfl) eh) ?_)
 show 0
 refine wp_seq (aI (rN (aP ‹19› (my _ _ ‹11›)) rfl (IC ‹11› ‹11›)) ?_)
 show 0
 generalize ns.getD (2:Int).toNat 0 / 4=c
 obtain ⟨N,hN,hN1,hN8⟩:∃ N:Nat,1+c / 3 % 8=(N:Int)∧0<N∧N≤8:=⟨(1+c / 3 % 8).toNat,by omega,by omega,by omega⟩
 refine wp_seq (aI (d:=.int (N:Int)) (by rw [fE (i:=1) (j:=c / 3 % 8) rfl (jZ (rN rfl rfl (IC ‹11› ‹11›)) rfl ‹11›),hN]) ?_)
 show 0
 refine wp_seq (aI (d:=.int (Wr.eI hs N)) ?_ ?_)
 ·unfold Wr.eI
  rw [← IF (t:=hs.sum) (b:=(N:Int)) ‹5›]
  refine dg (aY (ds:=(hs++[0-(0-hs.sum) / (N:Int)]).map D.int) ?_) (FT hs _ fun z=>?_)
  ·rw [O7]
   exact xn rfl (aY (ae (dR rfl (rN (dR rfl (dg rfl (jH _))) rfl (IC ‹5› ‹5›))) rfl)) (by rw [Oy]; show hs.length+1≤_; omega)
  ·rw [z]
   simp
 show 0
 refine wp_seq (aI (aP (ae (aY (tJ rfl rfl)) (ae rfl rfl)) (Wr.least hs N ‹5› ‹5›)) ?_)
 show 0
 refine wp_seq (dH (yr (uG (du (aP (ae rfl rfl) (whole _)) rfl)) (MX rfl rfl)) (bY ?_))
 have lb:=Wr.FZ (b:=(N:Int)) H ‹5›
 obtain ⟨e,ee,he,he1⟩:∃ e,max 0 (Wr.eI hs N+LJ (c % 3) 0 1 (-1))=e∧0≤e∧e<10 ^ 60:=⟨_,rfl,by omega,by unfold LJ; split <;> (try split) <;> omega⟩
 refine wp_seq (aI (d:=.int e) (by rw [← ee]; exact rM rfl (fE rfl (aM (aY (ae rfl (ae rfl (ae (jY rfl) rfl)))) (jZ rfl rfl ‹11›) (Mw _ _ _ _)))) ?_)
 show 0
 refine wp_seq (aI (d:=aC (cc e hs)) (aY ?_) ?_)
 ·have:=bS (ρ:=[.bo (.scr ns),.pu ‹40›,.pu (.int c),.pu (.int (N:Int)),.pu (.int (Wr.eI hs N)),.pu (.int (Wr.eI hs N)),.pu (.int e),.un,.un,.un]) (k:=1) (cs:=[6]) (it:=d7 (av 1)) (g:=gN true 0) (el:=bD (ao ‹22› (ao (av 1) (ao (av 0) bu)))) D.int (xs:=hs) rfl (fun h=>D.lst (sH (0,e,h))) fun h _=>⟨_,rfl,aY (ae rfl ‹19›)⟩
  rw [this]
  unfold cc
  rw [O3]
  rfl
 show 0
 have ec:∀ ρ:aK,av 7 ρ=some (aC (cc e hs))→bD (bX 1 [] (d7 (av 7)) (gN true 0) cD (bD (tU (av 0)))) ρ=some (aC (cc e hs)):=fun ρ q=>aY (bS (fun w:jo=>D.lst (sH w)) (bF q rfl) (fun w=>D.lst (sH w)) fun w _=>⟨_,rfl,aY (tJ rfl rfl)⟩)
 have h0:∀ x∈hs,0≤x:=fun x hx=>(H.bd x hx).1
 obtain ⟨S,T,es,t⟩:=HU (hs:=hs) he hn hN8 h0
 by_cases r:Rm e N hs
 ·have le:=(least_le hN1 he).mpr r
  obtain ⟨L,ew,P⟩:=xR hn ⟨H,⟨by omega,by omega⟩,le,he,he1⟩ t r es
  refine wp_seq (aI (aP (ae (ec _ rfl) (ae rfl rfl)) ew) ?_)
  show 0
  refine wp_seq (aI (aP (ae (ec _ rfl) (ae rfl rfl)) (Dg hn t r es)) ?_)
  show 0
  refine wp_seq (mZ (by rw [dM (qQ rfl rfl),decide_eq_true le]) (bM (mx (x:=true) (y:=true) rfl fun _=>aP (ae rfl ‹19›) (Io hn hN8 (P.perm P.out) (Kw L))) rfl))
 ·have le:¬ Wr.eI hs N≤e:=fun z=>r ((least_le hN1 he).mp z)
  obtain ⟨xs,U,en,up,hx,hU⟩:=FN hn he h0 t r es
  refine wp_seq (aI (aP (ae (ec _ rfl) (ae rfl rfl)) (xS (dU e hs) hn t.fit.jg es (t.some he r))) ?_)
  show 0
  refine wp_seq (aI (aP (ae (ec _ rfl) (ae rfl rfl)) en) ?_)
  show 0
  refine wp_seq (dH (by rw [dM (qQ rfl rfl),decide_eq_false le]) (bY ?_))
  have hne:hs≠[]:=fun z=>by
   obtain ⟨i,hi,_⟩:=t.some he r
   rw [z] at hi
   cases hi
  exact bM (mx (x:=true) (y:=true) rfl fun _=>aP (ae rfl ‹19›) (is_none he hn hN8 up hx hne hU)) rfl
instance (priority:=high) tabsI:bE:=⟨[((125:OF),("joined.<locals>.<lambda>" : P2))]⟩
abbrev LkF (K:OA) (f:OF) (oc:OD) (od:Option OF) (n q:P2) (s:RE) (kV dc pm:OD) (an:Option OF) (cd ct:OD) (sl:Array (Option OD)):Prop:=K.lookup f=some ⟨oc,od,.func (SH n q (oS s) (fF s) (aB s) .none kV dc pm an cd ct),sl⟩
set_option autoImplicit true in
set_option relaxedAutoImplicit true in
open PySem.W in
theorem all_mk {K:Frag} {h:Qb} {mg:P2→Option OD} {fa:OF} (X:K.In h) (G:h.Ns OV mg) (hfa:mg "law" = some (.ref fa))
 (a0:Rq K OV "divided_up" = some (some (.ref f0))) (l0:LkF K f0 oc0 od0 "divided_up" "divided_up" gR kV0 dc0 pm0 an0 cd0 ct0 sl0) (c0:Q7 K cd0 "divided_up" = true) (k0:Q8 K (.ref f0)=true)
 (a1:Rq K OV "least_end" = some (some (.ref f1))) (l1:LkF K f1 oc1 od1 "least_end" "least_end" iN kV1 dc1 pm1 an1 cd1 ct1 sl1) (c1:Q7 K cd1 "least_end" = true) (k1:Q8 K (.ref f1)=true)
 (a2:Rq K OV "even_share" = some (some (.ref f2))) (l2:LkF K f2 oc2 od2 "even_share" "even_share" gQ kV2 dc2 pm2 an2 cd2 ct2 sl2) (c2:Q7 K cd2 "even_share" = true) (k2:Q8 K (.ref f2)=true)
 (a3:Rq K OV "wrapped" = some (some (.ref f3))) (l3:LkF K f3 oc3 od3 "wrapped" "wrapped" lZ kV3 dc3 pm3 an3 cd3 ct3 sl3) (c3:Q7 K cd3 "wrapped" = true) (k3:Q8 K (.ref f3)=true)
 (a4:Rq K OV "shares" = some (some (.ref f4))) (l4:LkF K f4 oc4 od4 "shares" "shares" ou kV4 dc4 pm4 an4 cd4 ct4 sl4) (c4:Q7 K cd4 "shares" = true) (k4:Q8 K (.ref f4)=true)
 (a5:Rq K OV "stretches_of" = some (some (.ref f5))) (l5:LkF K f5 oc5 od5 "stretches_of" "stretches_of" ft kV5 dc5 pm5 an5 cd5 ct5 sl5) (c5:Q7 K cd5 "stretches_of" = true) (k5:Q8 K (.ref f5)=true)
 (a6:Rq K OV "shortest_way" = some (some (.ref f6))) (l6:LkF K f6 oc6 od6 "shortest_way" "shortest_way" fA kV6 dc6 pm6 an6 cd6 ct6 sl6) (c6:Q7 K cd6 "shortest_way" = true) (k6:Q8 K (.ref f6)=true)
 (a7:Rq K OV "reached" = some (some (.ref f7))) (l7:LkF K f7 oc7 od7 "reached" "reached" ma kV7 dc7 pm7 an7 cd7 ct7 sl7) (c7:Q7 K cd7 "reached" = true) (k7:Q8 K (.ref f7)=true)
 (a8:Rq K OV "neighbours" = some (some (.ref f8))) (l8:LkF K f8 oc8 od8 "neighbours" "neighbours" gM kV8 dc8 pm8 an8 cd8 ct8 sl8) (c8:Q7 K cd8 "neighbours" = true) (k8:Q8 K (.ref f8)=true)
 (a9:Rq K OV "way_to" = some (some (.ref f9))) (l9:LkF K f9 oc9 od9 "way_to" "way_to" ot kV9 dc9 pm9 an9 cd9 ct9 sl9) (c9:Q7 K cd9 "way_to" = true) (k9:Q8 K (.ref f9)=true)
 (a10:Rq K OV "move_hours" = some (some (.ref f10))) (l10:LkF K f10 oc10 od10 "move_hours" "move_hours" gO kV10 dc10 pm10 an10 cd10 ct10 sl10) (c10:Q7 K cd10 "move_hours" = true) (k10:Q8 K (.ref f10)=true)
 (a11:Rq K OV "hours_left" = some (some (.ref f11))) (l11:LkF K f11 oc11 od11 "hours_left" "hours_left" gP kV11 dc11 pm11 an11 cd11 ct11 sl11) (c11:Q7 K cd11 "hours_left" = true) (k11:Q8 K (.ref f11)=true)
 (a12:Rq K OV "work_room" = some (some (.ref f12))) (l12:LkF K f12 oc12 od12 "work_room" "work_room" iL kV12 dc12 pm12 an12 cd12 ct12 sl12) (c12:Q7 K cd12 "work_room" = true) (k12:Q8 K (.ref f12)=true)
 (a13:Rq K OV "stretch_room" = some (some (.ref f13))) (l13:LkF K f13 oc13 od13 "stretch_room" "stretch_room" fv kV13 dc13 pm13 an13 cd13 ct13 sl13) (c13:Q7 K cd13 "stretch_room" = true) (k13:Q8 K (.ref f13)=true)
 (a14:Rq K OV "joined" = some (some (.ref f14))) (l14:LkF K f14 oc14 od14 "joined" "joined" oy kV14 dc14 pm14 an14 cd14 ct14 sl14) (c14:Q7 K cd14 "joined" = true) (k14:Q8 K (.ref f14)=true)
 (a15:Rq K OV "goes_on" = some (some (.ref f15))) (l15:LkF K f15 oc15 od15 "goes_on" "goes_on" mh kV15 dc15 pm15 an15 cd15 ct15 sl15) (c15:Q7 K cd15 "goes_on" = true) (k15:Q8 K (.ref f15)=true)
 (a16:Rq K OV "window_plan" = some (some (.ref f16))) (l16:LkF K f16 oc16 od16 "window_plan" "window_plan" fX kV16 dc16 pm16 an16 cd16 ct16 sl16) (c16:Q7 K cd16 "window_plan" = true) (k16:Q8 K (.ref f16)=true)
 (a17:Rq K OV "stretch_rows" = some (some (.ref f17))) (l17:LkF K f17 oc17 od17 "stretch_rows" "stretch_rows" fu kV17 dc17 pm17 an17 cd17 ct17 sl17) (c17:Q7 K cd17 "stretch_rows" = true) (k17:Q8 K (.ref f17)=true)
 (a18:Rq K OV "no_window" = some (some (.ref f18))) (l18:LkF K f18 oc18 od18 "no_window" "no_window" iM kV18 dc18 pm18 an18 cd18 ct18 sl18) (c18:Q7 K cd18 "no_window" = true) (k18:Q8 K (.ref f18)=true)
 (a19:Rq K OV "_law_whole" = some (some (.ref f19))) (l19:LkF K f19 oc19 od19 "_law_whole" "_law_whole" md kV19 dc19 pm19 an19 cd19 ct19 sl19) (c19:Q7 K cd19 "_law_whole" = true) (k19:Q8 K (.ref f19)=true)
 (a20:Rq K OV "_law_cell_at" = some (some (.ref f20))) (l20:LkF K f20 oc20 od20 "_law_cell_at" "_law_cell_at" iQ kV20 dc20 pm20 an20 cd20 ct20 sl20) (c20:Q7 K cd20 "_law_cell_at" = true) (k20:Q8 K (.ref f20)=true)
 (a21:Rq K OV "_law_mixed" = some (some (.ref f21))) (l21:LkF K f21 oc21 od21 "_law_mixed" "_law_mixed" me kV21 dc21 pm21 an21 cd21 ct21 sl21) (c21:Q7 K cd21 "_law_mixed" = true) (k21:Q8 K (.ref f21)=true)
 (a22:Rq K OV "_law_hours" = some (some (.ref f22))) (l22:LkF K f22 oc22 od22 "_law_hours" "_law_hours" mf kV22 dc22 pm22 an22 cd22 ct22 sl22) (c22:Q7 K cd22 "_law_hours" = true) (k22:Q8 K (.ref f22)=true)
 (a23:Rq K OV "_law_is_plan" = some (some (.ref f23))) (l23:LkF K f23 oc23 od23 "_law_is_plan" "_law_is_plan" iO kV23 dc23 pm23 an23 cd23 ct23 sl23) (c23:Q7 K cd23 "_law_is_plan" = true) (k23:Q8 K (.ref f23)=true)
 (a24:Rq K OV "_law_pieces" = some (some (.ref f24))) (l24:LkF K f24 oc24 od24 "_law_pieces" "_law_pieces" jL kV24 dc24 pm24 an24 cd24 ct24 sl24) (c24:Q7 K cd24 "_law_pieces" = true) (k24:Q8 K (.ref f24)=true)
 (a25:Rq K OV "_law_room" = some (some (.ref f25))) (l25:LkF K f25 oc25 od25 "_law_room" "_law_room" ox kV25 dc25 pm25 an25 cd25 ct25 sl25) (c25:Q7 K cd25 "_law_room" = true) (k25:Q8 K (.ref f25)=true)
 (a26:Rq K OV "_law_is_none" = some (some (.ref f26))) (l26:LkF K f26 oc26 od26 "_law_is_none" "_law_is_none" iP kV26 dc26 pm26 an26 cd26 ct26 sl26) (c26:Q7 K cd26 "_law_is_none" = true) (k26:Q8 K (.ref f26)=true)
 (a27:Rq K OV "law" = some (some (.ref f27))) (l27:LkF K f27 oc27 od27 "law" "law" BF kV27 dc27 pm27 an27 cd27 ct27 sl27) (c27:Q7 K cd27 "law" = true) (k27:Q8 K (.ref f27)=true)
 (z_all:Rq K OV "all" = some none)
 (z_any:Rq K OV "any" = some none)
 (z_bool:Rq K OV "bool" = some none)
 (z_enumerate:Rq K OV "enumerate" = some none)
 (z_int:Rq K OV "int" = some none)
 (z_isinstance:Rq K OV "isinstance" = some none)
 (z_len:Rq K OV "len" = some none)
 (z_list:Rq K OV "list" = some none)
 (z_max:Rq K OV "max" = some none)
 (z_min:Rq K OV "min" = some none)
 (z_range:Rq K OV "range" = some none)
 (z_reversed:Rq K OV "reversed" = some none)
 (z_set:Rq K OV "set" = some none)
 (z_sorted:Rq K OV "sorted" = some none)
 (z_sum:Rq K OV "sum" = some none)
 (z_tuple:Rq K OV "tuple" = some none)
 (z_zip:Rq K OV "zip" = some none)
 (c_BEGIN:Rq K OV "BEGIN" = some (some (.int 2 t_BEGIN)))
 (c_BENCH:Rq K OV "BENCH" = some (some (.int 0 t_BENCH)))
 (c_COME:Rq K OV "COME" = some (some (.int 0 t_COME)))
 (c_DUE:Rq K OV "DUE" = some (some (.int 1 t_DUE)))
 (c_END:Rq K OV "END" = some (some (.int 3 t_END)))
 (c_HOURS:Rq K OV "HOURS" = some (some (.int 2 t_HOURS)))
 (c_WORK:Rq K OV "WORK" = some (some (.int 1 t_WORK)))
 (e_joined:cd14=.ref 129) (h_joined:codeHdIn K 129 125=true) (tb_joined:((125:OF),("joined.<locals>.<lambda>" : P2))∈bE.ts) :
 ∃ a:Nb,Txt K mg a∧a.yT=fa∧∀ (s:OG) (v:OD),Wn s a.vB ⟨[v],[]⟩ [("_law_script", v)]:=by
 have e:=hfa.symm.trans (Rg X G a27)
 cases e
 have F0:=cx (st:=gR) l0 c0 k0
 have F1:=cx (st:=iN) l1 c1 k1
 have F2:=cx (st:=gQ) l2 c2 k2
 have F3:=cx (st:=lZ) l3 c3 k3
 have F4:=cx (st:=ou) l4 c4 k4
 have F5:=cx (st:=ft) l5 c5 k5
 have F6:=cx (st:=fA) l6 c6 k6
 have F7:=cx (st:=ma) l7 c7 k7
 have F8:=cx (st:=gM) l8 c8 k8
 have F9:=cx (st:=ot) l9 c9 k9
 have F10:=cx (st:=gO) l10 c10 k10
 have F11:=cx (st:=gP) l11 c11 k11
 have F12:=cx (st:=iL) l12 c12 k12
 have F13:=cx (st:=fv) l13 c13 k13
 have F14:=cx (st:=oy) l14 c14 k14
 have F15:=cx (st:=mh) l15 c15 k15
 have F16:=cx (st:=fX) l16 c16 k16
 have F17:=cx (st:=fu) l17 c17 k17
 have F18:=cx (st:=iM) l18 c18 k18
 have F19:=cx (st:=md) l19 c19 k19
 have F20:=cx (st:=iQ) l20 c20 k20
 have F21:=cx (st:=me) l21 c21 k21
 have F22:=cx (st:=mf) l22 c22 k22
 have F23:=cx (st:=iO) l23 c23 k23
 have F24:=cx (st:=jL) l24 c24 k24
 have F25:=cx (st:=ox) l25 c25 k25
 have F26:=cx (st:=iP) l26 c26 k26
 have F27:=cx (st:=BF) l27 c27 k27
 have b0:=F0.binds (ps:=["total", "parts"]) fun _ _ _ _ _ _ us hl=>match us,hl with | [_,_],_=>rfl
 have b1:=F1.binds (ps:=["hours", "benches"]) fun _ _ _ _ _ _ us hl=>match us,hl with | [_,_],_=>rfl
 have b2:=F2.binds (ps:=["hours", "benches"]) fun _ _ _ _ _ _ us hl=>match us,hl with | [_,_],_=>rfl
 have b3:=F3.binds (ps:=["hours", "benches", "end"]) fun _ _ _ _ _ _ us hl=>match us,hl with | [_,_,_],_=>rfl
 have b4:=F4.binds (ps:=["works", "benches"]) fun _ _ _ _ _ _ us hl=>match us,hl with | [_,_],_=>rfl
 have b5:=F5.binds (ps:=["works"]) fun _ _ _ _ _ _ us hl=>match us,hl with | [_],_=>rfl
 have b6:=F6.binds (ps:=["works", "benches", "stretches", "table"]) fun _ _ _ _ _ _ us hl=>match us,hl with | [_,_,_,_],_=>rfl
 have b7:=F7.binds (ps:=["works", "stretches", "table"]) fun _ _ _ _ _ _ us hl=>match us,hl with | [_,_,_],_=>rfl
 have b8:=F8.binds (ps:=["works", "stretches", "table", "place"]) fun _ _ _ _ _ _ us hl=>match us,hl with | [_,_,_,_],_=>rfl
 have b9:=F9.binds (ps:=["sources", "place", "many"]) fun _ _ _ _ _ _ us hl=>match us,hl with | [_,_,_],_=>rfl
 have b10:=F10.binds (ps:=‹34›) fun _ _ _ _ _ _ us hl=>match us,hl with | [_,_,_,_,_],_=>rfl
 have b11:=F11.binds (ps:=["works", "table", "work"]) fun _ _ _ _ _ _ us hl=>match us,hl with | [_,_,_],_=>rfl
 have b12:=F12.binds (ps:=["works", "stretches", "table", "work", "number"]) fun _ _ _ _ _ _ us hl=>match us,hl with | [_,_,_,_,_],_=>rfl
 have b13:=F13.binds (ps:=["benches", "stretches", "table", "number"]) fun _ _ _ _ _ _ us hl=>match us,hl with | [_,_,_,_],_=>rfl
 have b14:=F14.binds (ps:=["rows"]) fun _ _ _ _ _ _ us hl=>match us,hl with | [_],_=>rfl
 have b15:=F15.binds (ps:=["row", "later"]) fun _ _ _ _ _ _ us hl=>match us,hl with | [_,_],_=>rfl
 have b16:=F16.binds (ps:=["works", "benches"]) fun _ _ _ _ _ _ us hl=>match us,hl with | [_,_],_=>rfl
 have b17:=F17.binds (ps:=["stretch", "hours", "benches"]) fun _ _ _ _ _ _ us hl=>match us,hl with | [_,_,_],_=>rfl
 have b18:=F18.binds (ps:=["works", "benches"]) fun _ _ _ _ _ _ us hl=>match us,hl with | [_,_],_=>rfl
 have b19:=F19.binds (ps:=["_law_found"]) fun _ _ _ _ _ _ us hl=>match us,hl with | [_],_=>rfl
 have b20:=F20.binds (ps:=["_law_script", "_law_k"]) fun _ _ _ _ _ _ us hl=>match us,hl with | [_,_],_=>rfl
 have b21:=F21.binds (ps:=["_law_cell", "_law_k"]) fun _ _ _ _ _ _ us hl=>match us,hl with | [_,_],_=>rfl
 have b22:=F22.binds (ps:=["_law_script"]) fun _ _ _ _ _ _ us hl=>match us,hl with | [_],_=>rfl
 have b23:=F23.binds (ps:=["_law_works", "_law_number", "_law_rows"]) fun _ _ _ _ _ _ us hl=>match us,hl with | [_,_,_],_=>rfl
 have b24:=F24.binds (ps:=["_law_works", "_law_stretches"]) fun _ _ _ _ _ _ us hl=>match us,hl with | [_,_],_=>rfl
 have b25:=F25.binds (ps:=‹48›) fun _ _ _ _ _ _ us hl=>match us,hl with | [_,_,_,_],_=>rfl
 have b26:=F26.binds (ps:=["_law_works", "_law_number", "_law_found"]) fun _ _ _ _ _ _ us hl=>match us,hl with | [_,_,_],_=>rfl
 have b27:=F27.binds (ps:=["_law_script"]) fun _ _ _ _ _ _ us hl=>match us,hl with | [_],_=>rfl
 exact ⟨⟨f0,_,f1,_,f2,_,f3,_,f4,_,f5,_,f6,_,f7,_,f8,_,f9,_,f10,_,f11,_,f12,_,f13,_,f14,_,f15,_,f16,_,f17,_,f18,_,f19,_,f20,_,f21,_,f22,_,f23,_,f24,_,f25,_,f26,_,f27,_,129,125⟩,⟨F0,b0,Rg X G a0,F1,b1,Rg X G a1,F2,b2,Rg X G a2,F3,b3,Rg X G a3,F4,b4,Rg X G a4,F5,b5,Rg X G a5,F6,b6,Rg X G a6,F7,b7,Rg X G a7,F8,b8,Rg X G a8,F9,b9,Rg X G a9,F10,b10,Rg X G a10,F11,b11,Rg X G a11,F12,b12,Rg X G a12,F13,b13,Rg X G a13,F14,b14,Rg X G a14,F15,b15,Rg X G a15,F16,b16,Rg X G a16,F17,b17,Rg X G a17,F18,b18,Rg X G a18,F19,b19,Rg X G a19,F20,b20,Rg X G a20,F21,b21,Rg X G a21,F22,b22,Rg X G a22,F23,b23,Rg X G a23,F24,b24,Rg X G a24,F25,b25,Rg X G a25,F26,b26,Rg X G a26,F27,b27,Rg X G a27,e_joined,h_joined,tb_joined,QI X G z_all,QI X G z_any,QI X G z_bool,QI X G z_enumerate,QI X G z_int,QI X G z_isinstance,QI X G z_len,QI X G z_list,QI X G z_max,QI X G z_min,QI X G z_range,QI X G z_reversed,QI X G z_set,QI X G z_sorted,QI X G z_sum,QI X G z_tuple,QI X G z_zip,⟨_,Rg X G c_BEGIN⟩,⟨_,Rg X G c_BENCH⟩,⟨_,Rg X G c_COME⟩,⟨_,Rg X G c_DUE⟩,⟨_,Rg X G c_END⟩,⟨_,Rg X G c_HOURS⟩,⟨_,Rg X G c_WORK⟩⟩,rfl,fun s v=>.of_eq rfl⟩
theorem pX {p:OF} {q:P2}:∀ {l:List (OF×P2)},l.lookup p=some q→(p,q)∈l
 | [],h=>by cases h
 | (a,b)::l,h=>by
  rw [RV] at h
  cases e:p==a with
  | true=>rw [e] at h; cases h; rw [beq_iff_eq.mp e]; exact ON
  | false=>rw [e] at h; exact OI _ (pX h)
theorem walk {l:XW} {q:PL} {loose:List P2} {XP:(P2→Option OD)→Qb→Prop} {YP:PR→Qb→Prop} {d:DefRec} {K:Params→OA} (hn:l.most=some 63) (hdf:d.params.defaults=[])
 (hY:∀ (w:PR) (h:Qb),YP w h→(K w.params).In h) (hT0:∀ (w:PR) (h:Qb),YP w h→h.get? 125=some (Wa #[])) (hN0:∀ w:PR,(K w.params).lookup 125=none) (hC0:∀ w:PR,TK (K w.params) 129 125=true)
 (F:∀ (w:PR) (mg:P2→Option OD) (fa:OF) (h:Qb),(K w.params).In h→h.Ns OV mg→mg d.name=some (.ref fa)→∃ a:Nb,Txt (K w.params) mg a∧a.yT=fa∧∀ (s:OG) (v:OD),Wn s a.vB ⟨[v],[]⟩ [("_law_script", v)]) :
 Yk q loose XP YP l.row.toRowW d [] (fun f vs=>PySem.call f vs) :=
 L2.Ez (n:=63) (k:=7) (x := "_law_script") (CX:=fun _=>jq) (sp:=fun w=>Fb (K w.params)) [((125:OF),("joined.<locals>.<lambda>" : P2))] hn ‹11› hdf ⟨rfl,by decide,by decide⟩ hY
  (fun w h Y p q e=>by
   have m:=pX e; simp only [OP,Yp,Qj,or_false] at m; rcases m with ⟨rfl,_⟩
   ·exact hT0 w h Y)
  (fun w p q e=>by
   have m:=pX e; simp only [OP,Yp,Qj,or_false] at m; rcases m with ⟨rfl,_⟩
   ·exact ⟨hN0 w,129,hC0 w⟩)
  (fun w mg fa h KX G e=>by
   obtain ⟨a,T,rfl,hb⟩:=F w mg fa h KX G e
   exact ⟨a.vB,hb,fun base kb nb bm=>(Ky T bm).imp fun vs H Q E h=>CW Gb h⟩)
  (fun _ H a ns hl hbits ht hS=>⟨a,ns,rfl,hS,hl,hbits,(fun p hp=>by
   have m:p∈([((125:OF),("joined.<locals>.<lambda>" : P2))]:List (OF×P2)):=hp
   simp only [OP,Qj,or_false] at m
   rcases m with rfl
   ·exact ⟨0,ht _ _ (by first | rfl | simp)⟩),fun _=>rfl⟩) fun _ _ _ _ _ z=>z
end
end My
namespace PySem.W.Fast
theorem tw12416748828207602989:True:=⟨⟩
theorem tw4175176809979480906:True:=⟨⟩
theorem tw7441478127114543104:True:=⟨⟩
theorem tw13619790993172573601:True:=⟨⟩
theorem tw13131817507315139938:True:=⟨⟩
theorem tw3138854400372253474:True:=⟨⟩
theorem tw14479380650533057541:True:=⟨⟩
theorem tw18211431866366439205:True:=⟨⟩
theorem tw5459132191644449798:True:=⟨⟩
theorem tw6812540978804173222:True:=⟨⟩
theorem tw2142923693037482758:True:=⟨⟩
theorem tw2672239853652279143:True:=⟨⟩
theorem tw9636075295138582824:True:=⟨⟩
theorem tw8341717380105554600:True:=⟨⟩
theorem tw15071209367337912232:True:=⟨⟩
theorem tw6764242473638351593:True:=⟨⟩
theorem tw4284057675499180969:True:=⟨⟩
theorem tw3807767225895260172:True:=⟨⟩
theorem tw12915599519676768429:True:=⟨⟩
theorem tw5191195694708389453:True:=⟨⟩
theorem tw3826657261877617261:True:=⟨⟩
theorem tw11435858392388772493:True:=⟨⟩
theorem tw15686803248809421517:True:=⟨⟩
theorem tw98202499532709967:True:=⟨⟩
theorem tw16032265255051428431:True:=⟨⟩
theorem tw13908304442465531599:True:=⟨⟩
theorem tw6229575401319955536:True:=⟨⟩
theorem tw8538493702739152017:True:=⟨⟩
theorem tw17371733217975726833:True:=⟨⟩
theorem tw9173650026199722961:True:=⟨⟩
theorem tw12323979463709244466:True:=⟨⟩
theorem tw4878656158613193842:True:=⟨⟩
theorem tw5091210901999853171:True:=⟨⟩
theorem tw4214632606930271891:True:=⟨⟩
theorem tw16219915224659677139:True:=⟨⟩
theorem tw13606949784007391156:True:=⟨⟩
theorem tw18006387639071814581:True:=⟨⟩
theorem tw3837556036593852118:True:=⟨⟩
theorem tw13697893191118092535:True:=⟨⟩
theorem tw4507883949055927992:True:=⟨⟩
theorem tw7178308903963916409:True:=⟨⟩
theorem tw9940145342273968377:True:=⟨⟩
theorem tw2343251092243152986:True:=⟨⟩
theorem tw1573274570383201658:True:=⟨⟩
theorem tw6991040707789864091:True:=⟨⟩
theorem tw3296594455587529979:True:=⟨⟩
theorem tw301865329353531707:True:=⟨⟩
theorem tw8640198920836813339:True:=⟨⟩
theorem tw16658097798053529692:True:=⟨⟩
theorem tw7933450686153791772:True:=⟨⟩
theorem tw8900498153424929981:True:=⟨⟩
theorem tw3232871440686828189:True:=⟨⟩
theorem tw939411375301702302:True:=⟨⟩
theorem tw16641955913358131775:True:=⟨⟩
theorem tw82310088567883196:True:=⟨⟩
theorem tw7532080948751181433:True:=⟨⟩
theorem tw12480002462194647318:True:=⟨⟩
theorem tw274060802862279924:True:=⟨⟩
theorem tw14891943881592454886:True:=⟨⟩
theorem tw9002262356235308046:True:=⟨⟩
theorem tw5952705041068223675:True:=⟨⟩
theorem tw14080122703636602476:True:=⟨⟩
theorem tw5377967046135756993:True:=⟨⟩
theorem tw11874043351904708229:True:=⟨⟩
end PySem.W.Fast
open PySem PySem.W PyProof.Rows
set_option maxRecDepth 100000 in
set_option maxHeartbeats 0 in
theorem PySem.Challenge.cw_leastfloor_k44_whole_windows_and_benches_holds : PySem.Challenge.rw_leastfloor_k44_whole_windows_and_benches.Holds := by
  w_on; o_law; k_head; (case hw => w_witness2)
  k_fill
  refine My.walk (l := PySem.Challenge.rw_leastfloor_k44_whole_windows_and_benches) rfl rfl (fun w h Y => by first | exact PySem.W.kIn_of Y | exact PySem.W.km_in_of Y) (fun w h Y => PySem.W.km_tabs_of Y _ (by k_mem)) (fun w => by kernel_rfl) (fun w => by kernel_rfl) ?F
  case F =>
    intro w mg fa h KX G hmg
    refine' My.all_mk KX G hmg ?a0 ?l0 ?c0 ?k0 ?a1 ?l1 ?c1 ?k1 ?a2 ?l2 ?c2 ?k2 ?a3 ?l3 ?c3 ?k3 ?a4 ?l4 ?c4 ?k4 ?a5 ?l5 ?c5 ?k5 ?a6 ?l6 ?c6 ?k6 ?a7 ?l7 ?c7 ?k7 ?a8 ?l8 ?c8 ?k8 ?a9 ?l9 ?c9 ?k9 ?a10 ?l10 ?c10 ?k10 ?a11 ?l11 ?c11 ?k11 ?a12 ?l12 ?c12 ?k12 ?a13 ?l13 ?c13 ?k13 ?a14 ?l14 ?c14 ?k14 ?a15 ?l15 ?c15 ?k15 ?a16 ?l16 ?c16 ?k16 ?a17 ?l17 ?c17 ?k17 ?a18 ?l18 ?c18 ?k18 ?a19 ?l19 ?c19 ?k19 ?a20 ?l20 ?c20 ?k20 ?a21 ?l21 ?c21 ?k21 ?a22 ?l22 ?c22 ?k22 ?a23 ?l23 ?c23 ?k23 ?a24 ?l24 ?c24 ?k24 ?a25 ?l25 ?c25 ?k25 ?a26 ?l26 ?c26 ?k26 ?a27 ?l27 ?c27 ?k27 ?z_all ?z_any ?z_bool ?z_enumerate ?z_int ?z_isinstance ?z_len ?z_list ?z_max ?z_min ?z_range ?z_reversed ?z_set ?z_sorted ?z_sum ?z_tuple ?z_zip ?c_BEGIN ?c_BENCH ?c_COME ?c_DUE ?c_END ?c_HOURS ?c_WORK ?e_joined ?h_joined ?tb_joined
    all_goals try unfold My.LkF
    case a0|l0|c0|k0|a1|l1|c1|k1|a2|l2|c2|k2|a3|l3|c3|k3|a4|l4|c4|k4|a5|l5|c5|k5|a6|l6|c6|k6|a7|l7|c7|k7|a8|l8|c8|k8|a9|l9|c9|k9 => k_is
    case a10|l10|c10|k10|a11|l11|c11|k11|a12|l12|c12|k12|a13|l13|c13|k13|a14|l14|c14|k14|a15|l15|c15|k15|a16|l16|c16|k16|a17|l17|c17|k17|a18|l18|c18|k18|a19|l19|c19|k19 => k_is
    case a20|l20|c20|k20|a21|l21|c21|k21|a22|l22|c22|k22|a23|l23|c23|k23|a24|l24|c24|k24|a25|l25|c25|k25|a26|l26|c26|k26|a27|l27|c27|k27|z_all|z_any|z_bool|z_enumerate|z_int|z_isinstance|z_len|z_list => k_is
    case z_max|z_min|z_range|z_reversed|z_set|z_sorted|z_sum|z_tuple|z_zip|c_BEGIN|c_BENCH|c_COME|c_DUE|c_END|c_HOURS|c_WORK => k_is
    case e_joined => rfl
    case h_joined => kernel_rfl
    case tb_joined => exact List.mem_cons_self
#print axioms PySem.Challenge.cw_leastfloor_k44_whole_windows_and_benches_holds
