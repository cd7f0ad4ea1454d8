import PyProof.Rows.All
import OpenK.KLine
import OpenK.KOwn
import KE.RegKIsAll
import KE.RegKTryMore
import Wide.Line
import Wide.Tac
import Open.Line
import KE.KItem
import KE.KDictList
import KE.KIntText
import KE.IntBitsLaws
import PySem.Challenge.RW_leastfloor_k85_rows_refused
set_option compiler.extract_closed false
set_option genSizeOfSpec false
set_option Elab.async false
set_option linter.all false
set_option maxRecDepth 100000
set_option maxHeartbeats 4000000
noncomputable section
open Array renaming getElem?_eq_some_iff→Sm,length_toList→SK,getElem?_toList→Ur,all_toList→YM
open Bool renaming false_ne_true→Rn,eq_iff_iff→RG,and_eq_true→RS,and_false→SX,or_eq_true→TJ,false_or→Uo,eq_false_iff→Uu,not_eq_false'→U2,false_and→Ve,and_true→VB,true_and→VC,or_eq_false_iff→VH,decide_and→Xo,false_eq_true→Yb,true_or→Yu
open Classical renaming byContradiction→UJ,propDecidable→U8,not_forall→VF,not_imp→Ww
open Decidable renaming byContradiction→Wi
open False renaming elim→S1
open ForInStep renaming yield→SV
open Int renaming toNat_natCast→Tz,toNat_of_nonneg→VQ,emod_lt_of_pos→Wf,eq_ofNat_of_zero_le→W3,zero_add→Xe,emod_nonneg→Xp
open List renaming mem_singleton→Q3,length_map→Q5,getElem?_eq_getElem→Q8,mem_cons_self→Q9,mem_cons_of_mem→Ra,getD_eq_getElem?_getD→Rc,mem_cons→Ri,range→Rl,getElem?_map→Ro,getElem?_eq_some_iff→Rp,size_toArray→Rr,length_cons→Rt,length_append→Ru,replicate→Rx,all_eq_true→Ry,getElem?_append_left→Rz,mem_append_right→RA,mem_of_getElem?→RB,mem_append→RD,getElem?_append_right→RO,length_replicate→RV,mem_map→RY,set_cons_succ→RZ,set_cons_zero→R0,map_cons→R4,length_range→R6,map_map→R7,mem_range→Sa,getElem?_replicate→Sb,getElem?_eq_none→Sf,lookup_cons→Sr,append_nil→Ss,length_set→Su,map_congr_left→Sx,drop_eq_getElem_cons→Sz,nodup_cons→SE,getElem?_set_ne→SH,append_assoc→SR,getElem?_set_self→SS,map_append→SW,length_drop→SY,replicate_succ→S0,mem_append_left→S7,length_singleton→Tc,length_nil→Tf,all_map→Tn,length_zipWith→Tp,nodup_nil→Tw,flatten_cons→TB,nil_append→TH,getElem?_range→TL,take_of_length_le→TQ,not_mem_nil→TU,getElem_mem→Uc,cons_append→Ud,mem_filterMap→Ug,find?_cons→Uk,getElem?_zipWith→Uq,lookup→Uy,getElem?_of_mem→UB,exists_cons_of_ne_nil→UC,drop_length→UI,filterMap_cons→UK,getD_cons_succ→UM,getD_cons_zero→UN,foldl_cons→UY,getElem?_drop→U1,filter_cons_of_neg→U5,filter_cons_of_pos→U6,zipWith→Vi,length_take→Vt,any_eq_true→Vu,all_cons→Vz,any_cons→VA,length→VE,mem_of_mem_drop→VG,range_succ→VN,filter_eq_self→VP,drop_zero→V6,filterMap_map→Wd,drop_left→We,getElem?_set→Wt,foldl_append→Wx,getElem?_take_of_lt→WC,set_eq_of_length_le→WD,zip→WT,take_length→W0,map_zip_eq_zipWith→W2,map_nil→Xc,drop_eq_nil_of_le→Xi,of_mem_zip→Xk,contains_iff_mem→Xt,mem_of_mem_take→XN,take_left→XO,drop_drop→XQ,pairwise_cons→Yf,map_inj_right→Yg,foldl_toArray→Yh,any_eq_false→Yn,any_map→Yv,map_set→Yz,ext_getElem→YG,filter_cons→YI,map_id→YS,mem_filter→YU,all_append→Y0,foldl→Y8,take_succ→Zc,foldl_nil→Zd
open List.cons renaming inj→Ub
open Nat renaming le_refl→Rq,lt_of_lt_of_le→RC,le_trans→RE,ne_of_lt→RX,lt_irrefl→Sg,lt_succ_self→SO,lt_trans→S5,zero_le→Th,ne_of_gt→UE,strongRecOn→UZ,le_succ→VD,mul_le_mul_right→VI,le_of_eq→VT,lt_succ_of_lt→Ws,log2_lt→Wv,le_of_lt→W6,toDigits→Xh,min_self→Yw,not_lt_zero→YZ
open Ne renaming symm→S6
open Option renaming map_eq_some_iff→S9,isSome_iff_exists→UQ,bind_some→Vv,isSome_map→Wq,isSome_some→Yc,getD_none→YF,getD_some→YJ,map_some→YV,none→Zp
open Option.some renaming inj→R5,injEq→Ym
open Or renaming inl→Se,inr→SI
open PyProof.Rows renaming envOfC→TM,joinParts_cons→TX,callWith_type1→Ut,Keyed→UA,JoinedStr_many→Wc,AllBare→Wm,joinParts_nil→WE,slot_str_getitem→WO,envOfC→W9,subscriptTail_builtinR→Xa,sortedS→Xg,formatField_str→Xn,FormattedValue_plain→XH,seqObj→XM,subscriptTail→X2,StrsAre→Y1,Subscript_→Y6
open PySem renaming sizeLine→Q4,Addr→Q6,Value→Q7,Shared→Rb,Str→Rf,wpAny_bind→Rg,wpAny→Rv,sizeLine_eq→Rw,starEach→RH,strLen_append→RJ,wpAny_pure→RM,Program→Sd,World→Sn,Expr→Sv,Heap→SA,mainGlobals→SF,Around→SG,Stmt→SJ,FuncData→SM,wpAny_mono→SN,cellsFrom→SQ,bootBuiltins→S3,wpAny_truthy_bool→S4,compareOp→S8,Paired→Ta,mem_of_lookup→Tb,wpAny_holding→Td,wpAny_execs_nil→Te,wpAny_Call_Name_kw→Tg,assignEach→Ti,sysModules→Tu,foldedSetIterable→Tx,noteFrame→TC,Obj→TK,backTo→TN,compEnvC→TV,wpAny_passesOwn→T5,bindArgs→T7,wpAny_field→Ue,typeIs_str→Ui,swapsWith→Ul,wpAny_execs_cons→UD,codeAny→UG,codeAny_mono→UH,wpAny_comprehension_free→UT,letOwnedTupleGo→UX,call_meets→U0,sliceBounds→U3,keywordEach→U4,Scope→Va,wpAny_pyIter_list→Vf,wpAny_newObj_type→Vj,intText?→Vl,rawInt→Vp,wpAny_call→Vs,behindInMarks→Vx,wpAny_standAt→Vy,Pos→VJ,holding→VS,DictEntry→VW,getMethod→VX,setFlight→VZ,wpAny_Expr_any→V1,cLine→V3,tupleKind_room_in1→V7,newFunctionEnv→V8,closureFor→V9,wpAny_setField→Wa,wpAny_FormattedValue_repr→Wh,valueAt→Wo,slicePicked→Wu,attributeBase→WB,binaryOp→WL,NameKind→WN,backToKw→WQ,pushCells→WU,wpAny_getItem_str_slice→WW,wpAny_Try_except→WY,standAt→W7,wpAny_pyNext_list_item→W8,codeAny_compStart_list→Xd,pushCells_keeps→Xm,wpAny_isTrue_Compare1→Xq,wpAny_pyNext_list_end→Xr,codeAny_handlers_test→Xv,wpAny_loadName_local→Xy,IntMulOk→Xz,subscripted→XC,compPost→XF,codeAny_call_builtin→XG,lookup_relabel_local→XI,tupleKind→XU,notedBy→XW,Env→XX,wpAny_loadName_cell→XY,wpAny_handleBy_cons→X0,sliceRange→Ye,BindsTo→Yk,Within→Yl,getItem→Yr,seqIndex_neg→Ys,callerA→Yt,reprText→Yx,callWith→Yy,Result→YC,seqIndex_of→YQ,atKey→YR,builtinsNs→Y2,wpAny_Name→Y3,bindL→Y4,bindC→Y5,typeIs_int→Y7,isInstance→Za,handleBy→Zb,Model→Zk,pyNext→Zl,passOn→Zn
open PySem.Around renaming under_plainId→XJ,under→Yp
open PySem.Builtin.Int renaming intBits→RU
open PySem.Builtin.List renaming listTooLong→UR
open PySem.Builtin.ObjectAttr renaming bindTo→Ze
open PySem.Builtin.Str renaming strKind→Tq,strSub→TZ,tooLong→UO,glued→YA
open PySem.Calls renaming Constant_str→Uh,evalArgs_plain→Uz,callWith_builtin→Vh,Name_function_global→V0,spliced_cons→V4,spliced_nil→Wn
open PySem.Code renaming isFrame→Yq
open PySem.Data renaming cell→YB,seq→Zo
open PySem.EntryCells renaming newEntry→XZ
open PySem.EqNone renaming eq_none_int→WA
open PySem.F renaming plainAttrs_str→Rj,excBase_ValueError→RP,slot_str_split→R3,slot_str_join→R8,type_str_join→R9,type_str_split→Sj,slot_str_partition→To,type_str_partition→TY,slot_str_startswith→Uv,args_str_split_2→UU,entry_str_split→U7,type_str_startswith→VV,slot_dict_getitem→Wg,slot_list_append→WG,type_list_append→WH,plainAttrs_dict→WR,attr_ValueError→WV,plain_list_iadd→WZ,plainAttrs_list→W4,slot_dict_pop→Xs,slot_dict_get→Xw
open PySem.Heap renaming get?_push_of_some→Rk,lt_size→Rm,get?_push_size→RI,get?_update_other→Si,size_push→Tj,get?_update_self→Tt,SameBut→Vd,get?_none_of_le→Xx
open PySem.NameKind renaming cell→X3,free→Zh
open PySem.Obj renaming isFreed_of_fields→T1,data_mapFields→Uj,mapSeq→Xb
open PySem.P renaming truthy_int→X8
open PySem.Paired renaming length→UP,snoc→Zq
open PySem.PassesOwn renaming never→Ts,leaving→T9
open PySem.SeqAt renaming EqAt→Ua,RcNeAt→Zm
open PySem.SeqAt.EqAt renaming same→VM,bool_bool→XD,int_str→X4,str_int→X5,int_int→X9,str_str→Ya,of_refs→Yd
open PySem.SeqAt.RcAt renaming lists_lengths→US
open PySem.SeqAt.RcNeAt renaming lists_lengths→V5
open PySem.Str renaming join→Rh,length_append→RL,ofString→Vk,empty→WI,append_assoc→YL
open PySem.StrLaws renaming glued_eq_join→Sw,partsFrom→TF,strSub_toList→Us,At→Vw,partsBetween_eq→W5,reprText_len→XR,subAt_eq→YK
open PySem.Value renaming ref→RQ,str→Vn,none→Vo,int→WJ,bool→X6,type→X7,bytes→YN,float→YO,isStrOf→Zf,builtin→Zi
open PySem.W renaming Frag→Q2,findIn→Sk,emptyDict→So,instObj→SD,keepIn→SU,callWith_K→Tv,methodCall_KW→T4,fnOf→T6,nsIn→T8,Looks→Um,kitOne→Uw,looks_findIn→Ux,callWith_K0→UL,makesIn→UW,hasDictIn→U9,codeIn→Vb,exmOne→Vc,cellsFrom_some→Vg,plainGet→Vm,any_some→Vq,plainGet_of→VO,isFn→VR,lookIn→V2,kitAny→Wb,methodObj→Wl,mg_of→Wy,excIn→Wz,makes_of→WM,takerIn→Xj,InstAt→XB,mroIn→X1,plainOver→Yi,specialIn→Yj,make_core→Yo,handedIn→YD,InitBack→YE,takesIn→YT,OpenLaw→YW,findObj→YX,exm_one→YY,notCls→Y9,WalkO→Zg,clsIn→Zj
open PySem.W.Looks renaming ld→WX,andThen→Xu
open PySem.W.WData renaming weight→VU,int→VY,weightAll→Xl,layableAll→YH
open PySem.WalksT renaming zip2→Zr
open Sum renaming inr→R1,inl→XS
open Sum.inr renaming inj→Wj
open True renaming intro→Vr
namespace PySem.W.Fast
theorem tw9002141246614945126:True:=⟨⟩
theorem tw11588069987835083375:True:=⟨⟩
theorem tw11262895994331362531:True:=⟨⟩
theorem tw12345267467767687971:True:=⟨⟩
theorem tw14156519413552771971:True:=⟨⟩
theorem tw2901554832286038083:True:=⟨⟩
theorem tw7983620794534622403:True:=⟨⟩
theorem tw6445983820193009603:True:=⟨⟩
theorem tw13124027753460358642:True:=⟨⟩
theorem tw2525293562293955058:True:=⟨⟩
theorem tw9542284926292212946:True:=⟨⟩
theorem tw7263518270949005074:True:=⟨⟩
theorem tw13802927461978186866:True:=⟨⟩
theorem tw9632768900659266674:True:=⟨⟩
theorem tw4921822152762467218:True:=⟨⟩
theorem tw11432835142404944978:True:=⟨⟩
theorem tw17531355168374878482:True:=⟨⟩
theorem tw6320906609696717202:True:=⟨⟩
theorem tw2635485185317354898:True:=⟨⟩
theorem tw8191166110686656465:True:=⟨⟩
theorem tw9475557757745339569:True:=⟨⟩
theorem tw6778423287299897521:True:=⟨⟩
theorem tw9102054269561714417:True:=⟨⟩
theorem tw9251226163108155520:True:=⟨⟩
theorem tw12904801206533132768:True:=⟨⟩
theorem tw18120681031531795776:True:=⟨⟩
theorem tw13608913123195304448:True:=⟨⟩
theorem tw7870824316480473440:True:=⟨⟩
theorem tw16245356139023294432:True:=⟨⟩
theorem tw1484122642867813568:True:=⟨⟩
theorem tw11226026698739647200:True:=⟨⟩
theorem tw7698822971059132128:True:=⟨⟩
theorem tw7801665005440894463:True:=⟨⟩
theorem tw12630557982784062079:True:=⟨⟩
theorem tw2445603020374813375:True:=⟨⟩
theorem tw7375856845661796031:True:=⟨⟩
theorem tw13768504887227277791:True:=⟨⟩
theorem tw6659847984067443807:True:=⟨⟩
theorem tw1557555430674731103:True:=⟨⟩
theorem tw11770177331112724734:True:=⟨⟩
theorem tw5236802087979930622:True:=⟨⟩
theorem tw5526456253922920190:True:=⟨⟩
theorem tw123587886503253086:True:=⟨⟩
theorem tw13403211837064563550:True:=⟨⟩
theorem tw11666119236983139390:True:=⟨⟩
theorem tw10062965448570170494:True:=⟨⟩
theorem tw16063330948861200429:True:=⟨⟩
theorem tw11416468490688408397:True:=⟨⟩
theorem tw72414932140011245:True:=⟨⟩
theorem tw4068335703659632365:True:=⟨⟩
theorem tw12903940807105917389:True:=⟨⟩
theorem tw9299788381185204813:True:=⟨⟩
theorem tw1211872999033610700:True:=⟨⟩
theorem tw17548194621850235692:True:=⟨⟩
theorem tw11741807097939665548:True:=⟨⟩
theorem tw7512073400476689164:True:=⟨⟩
theorem tw2512268148639004812:True:=⟨⟩
theorem tw15856195192439957996:True:=⟨⟩
theorem tw15834519515626044460:True:=⟨⟩
theorem tw3498244310688687115:True:=⟨⟩
theorem tw13315402402708665707:True:=⟨⟩
theorem tw10278890656172598699:True:=⟨⟩
theorem tw17087085759439457178:True:=⟨⟩
theorem tw7014984099407345754:True:=⟨⟩
theorem tw7684332388219822010:True:=⟨⟩
theorem tw13319722465711899034:True:=⟨⟩
theorem tw6921137399268570138:True:=⟨⟩
theorem tw9463562133230145625:True:=⟨⟩
theorem tw14280118911513131097:True:=⟨⟩
theorem tw11412302092655689369:True:=⟨⟩
theorem tw12151845339847148089:True:=⟨⟩
theorem tw2426707145762088345:True:=⟨⟩
theorem tw565975062936362681:True:=⟨⟩
theorem tw10316976218296715033:True:=⟨⟩
theorem tw12491400504398673448:True:=⟨⟩
theorem tw15643237514224608808:True:=⟨⟩
theorem tw13402863407280171304:True:=⟨⟩
theorem tw7787690052748325480:True:=⟨⟩
theorem tw6721576500076905032:True:=⟨⟩
theorem tw2741337095052970568:True:=⟨⟩
theorem tw11403470683222063912:True:=⟨⟩
theorem tw10873986869066677447:True:=⟨⟩
theorem tw2078027879049033671:True:=⟨⟩
theorem tw14626877548011625479:True:=⟨⟩
theorem tw15315119576128733319:True:=⟨⟩
theorem tw11782776748754089095:True:=⟨⟩
theorem tw10720159000381404871:True:=⟨⟩
theorem tw5821823472377634567:True:=⟨⟩
theorem tw13364154431112915399:True:=⟨⟩
theorem tw8896764774555203751:True:=⟨⟩
theorem tw14900366907257198311:True:=⟨⟩
theorem tw1049677702092224135:True:=⟨⟩
theorem tw663660874123737382:True:=⟨⟩
theorem tw860029184327589190:True:=⟨⟩
theorem tw13903591382898872486:True:=⟨⟩
theorem tw11109024945397406502:True:=⟨⟩
theorem tw14267554026638641798:True:=⟨⟩
theorem tw6614832796568917702:True:=⟨⟩
theorem tw4367470100209106741:True:=⟨⟩
theorem tw7825121665987498325:True:=⟨⟩
theorem tw16531273567535687061:True:=⟨⟩
theorem tw5756500795165123412:True:=⟨⟩
theorem tw4647623404472975188:True:=⟨⟩
theorem tw583441472157006708:True:=⟨⟩
theorem tw10074173887524908756:True:=⟨⟩
theorem tw4862448420623102676:True:=⟨⟩
theorem tw7642813114723554772:True:=⟨⟩
theorem tw17110719038900629267:True:=⟨⟩
theorem tw4885002266414062387:True:=⟨⟩
theorem tw15747441432442398131:True:=⟨⟩
theorem tw14720305843067810803:True:=⟨⟩
theorem tw850170687259682355:True:=⟨⟩
theorem tw6383805897121326931:True:=⟨⟩
theorem tw13833252730031642003:True:=⟨⟩
theorem tw12890102417665695874:True:=⟨⟩
theorem tw6353254623150603234:True:=⟨⟩
theorem tw14259802618486029922:True:=⟨⟩
theorem tw3834347833418582082:True:=⟨⟩
theorem tw7330979174317782722:True:=⟨⟩
theorem tw13546378439934567682:True:=⟨⟩
theorem tw9209012794049689826:True:=⟨⟩
theorem tw4284958699584726529:True:=⟨⟩
theorem tw9798050290976068673:True:=⟨⟩
theorem tw8501526026475521825:True:=⟨⟩
theorem tw6181584663134031489:True:=⟨⟩
theorem tw8557981256398128993:True:=⟨⟩
theorem tw973359145349688737:True:=⟨⟩
theorem tw9009846856320113697:True:=⟨⟩
theorem tw7391388064154205793:True:=⟨⟩
theorem tw9476505993898833168:True:=⟨⟩
theorem tw12290626519824884336:True:=⟨⟩
theorem tw7561743191316503888:True:=⟨⟩
theorem tw14280456402328676239:True:=⟨⟩
theorem tw18179952851230996271:True:=⟨⟩
theorem tw15873910620322658735:True:=⟨⟩
theorem tw12657155671721162735:True:=⟨⟩
theorem tw11493442975953877839:True:=⟨⟩
theorem tw4546943411925764271:True:=⟨⟩
theorem tw1462773967573850350:True:=⟨⟩
theorem tw8074122397434506222:True:=⟨⟩
theorem tw15682508066019177742:True:=⟨⟩
theorem tw4987394294933755630:True:=⟨⟩
theorem tw11502729321313337934:True:=⟨⟩
theorem tw6381541318834389934:True:=⟨⟩
theorem tw2738579900228177966:True:=⟨⟩
theorem tw13356742157548325885:True:=⟨⟩
theorem tw879885482364873629:True:=⟨⟩
theorem tw6834679879285644253:True:=⟨⟩
theorem tw17487739768683733821:True:=⟨⟩
theorem tw8935631555078081181:True:=⟨⟩
theorem tw9012717294462107005:True:=⟨⟩
theorem tw407563670777079741:True:=⟨⟩
theorem tw3637764231217583613:True:=⟨⟩
theorem tw3790609407547244125:True:=⟨⟩
theorem tw9608428384918708412:True:=⟨⟩
theorem tw17732718995274198556:True:=⟨⟩
theorem tw431240989296642876:True:=⟨⟩
theorem tw14485457151661966044:True:=⟨⟩
theorem tw10412174223161470012:True:=⟨⟩
theorem tw8296029404100735036:True:=⟨⟩
theorem tw10571235019072029084:True:=⟨⟩
theorem tw10943175620116466587:True:=⟨⟩
theorem tw7729739692920381179:True:=⟨⟩
theorem tw10707559155902140923:True:=⟨⟩
theorem tw2508132227128221083:True:=⟨⟩
theorem tw16244219474372827867:True:=⟨⟩
theorem tw13882687575447164251:True:=⟨⟩
theorem tw6866185078160155434:True:=⟨⟩
theorem tw11280593580518890410:True:=⟨⟩
theorem tw1060201128779138730:True:=⟨⟩
theorem tw13356939528207205674:True:=⟨⟩
theorem tw5186922138461473546:True:=⟨⟩
theorem tw11010167039940524457:True:=⟨⟩
theorem tw8331647686544537065:True:=⟨⟩
theorem tw529145347129780841:True:=⟨⟩
theorem tw7042746841224229961:True:=⟨⟩
theorem tw4337484924856078697:True:=⟨⟩
theorem tw15536140233578744169:True:=⟨⟩
theorem tw12309483007818096553:True:=⟨⟩
theorem tw14440634473794107928:True:=⟨⟩
theorem tw5393121475550395192:True:=⟨⟩
theorem tw2908690865751000504:True:=⟨⟩
theorem tw18270671275980106520:True:=⟨⟩
theorem tw17906754423351918072:True:=⟨⟩
theorem tw7844869300109134487:True:=⟨⟩
theorem tw10946563236898305687:True:=⟨⟩
theorem tw11720747197232559031:True:=⟨⟩
theorem tw6900390407397835607:True:=⟨⟩
theorem tw6676983193498425015:True:=⟨⟩
theorem tw7396307554121194775:True:=⟨⟩
theorem tw16494174562492496470:True:=⟨⟩
theorem tw7344369984331713398:True:=⟨⟩
theorem tw18165642044922956790:True:=⟨⟩
theorem tw6782027523742734422:True:=⟨⟩
theorem tw10156292231179270021:True:=⟨⟩
theorem tw6077033514162774437:True:=⟨⟩
theorem tw5078202193625952421:True:=⟨⟩
theorem tw5654949408616933509:True:=⟨⟩
theorem tw12445721352917372772:True:=⟨⟩
theorem tw13184951536047286468:True:=⟨⟩
theorem tw10569657693299815012:True:=⟨⟩
theorem tw17300148209780858980:True:=⟨⟩
theorem tw14830724147674655844:True:=⟨⟩
theorem tw8281025707836109601:True:=⟨⟩
theorem tw9043213925311284348:True:=⟨⟩
theorem tw10433782865210580322:True:=⟨⟩
theorem tw6480917408609482976:True:=⟨⟩
theorem tw12874368441528503435:True:=⟨⟩
theorem tw9464755943480301143:True:=⟨⟩
theorem tw16544182419410430238:True:=⟨⟩
theorem tw529416409370851517:True:=⟨⟩
theorem tw12874621449164409490:True:=⟨⟩
theorem tw3775991449346132612:True:=⟨⟩
theorem tw11417419658469995487:True:=⟨⟩
theorem tw2263009754861099705:True:=⟨⟩
theorem tw8732047652086628022:True:=⟨⟩
theorem tw2590443308392204284:True:=⟨⟩
theorem tw8258935249689543199:True:=⟨⟩
theorem tw8306858879272652745:True:=⟨⟩
theorem tw12070573576187443993:True:=⟨⟩
theorem tw13829371927093448525:True:=⟨⟩
theorem tw4252169977663045275:True:=⟨⟩
theorem tw10675876447389035698:True:=⟨⟩
theorem tw6960520123380472680:True:=⟨⟩
theorem tw16332948831974297753:True:=⟨⟩
theorem tw13918670052879819114:True:=⟨⟩
theorem tw13178087679007473773:True:=⟨⟩
theorem tw8844799790833043192:True:=⟨⟩
theorem tw12146389924602033906:True:=⟨⟩
theorem tw1759240881999828800:True:=⟨⟩
theorem tw9328836154246896167:True:=⟨⟩
theorem tw2828895907490755277:True:=⟨⟩
theorem tw14479943889519509907:True:=⟨⟩
theorem tw3834141355999890754:True:=⟨⟩
theorem tw6629317497833710499:True:=⟨⟩
theorem tw2484148307588563183:True:=⟨⟩
theorem tw5726112247691530884:True:=⟨⟩
theorem tw10036835044629835105:True:=⟨⟩
theorem tw6611835043472482458:True:=⟨⟩
theorem tw5038662982799020725:True:=⟨⟩
theorem tw3789399343417337574:True:=⟨⟩
theorem tw17208455153897613286:True:=⟨⟩
theorem tw17717006166036202146:True:=⟨⟩
theorem tw14112772788829515430:True:=⟨⟩
theorem tw2334990471470440145:True:=⟨⟩
theorem tw310537423534317999:True:=⟨⟩
theorem tw12077927442347662574:True:=⟨⟩
theorem tw6293074014429588393:True:=⟨⟩
theorem tw1036224115224625863:True:=⟨⟩
theorem tw8180642319687630915:True:=⟨⟩
theorem tw1573441545583679899:True:=⟨⟩
theorem tw8979434464285184343:True:=⟨⟩
theorem tw4043424925015390538:True:=⟨⟩
theorem tw5557774036968139327:True:=⟨⟩
theorem tw15532658552914475334:True:=⟨⟩
theorem tw9772219290305663221:True:=⟨⟩
theorem tw14534101448585269811:True:=⟨⟩
theorem tw9783016055049476396:True:=⟨⟩
theorem tw17610196256415385561:True:=⟨⟩
theorem tw9783833925789265718:True:=⟨⟩
theorem tw5478486193308792111:True:=⟨⟩
theorem tw1021774980023125637:True:=⟨⟩
theorem tw11753491207755079634:True:=⟨⟩
theorem tw16614756755523654614:True:=⟨⟩
theorem tw11899090514990184219:True:=⟨⟩
theorem tw5450008178678884891:True:=⟨⟩
theorem tw15867269574064221447:True:=⟨⟩
theorem tw5566435392870025979:True:=⟨⟩
theorem tw18375871654158870096:True:=⟨⟩
theorem tw12490965877515391478:True:=⟨⟩
theorem tw5029722553217335535:True:=⟨⟩
theorem tw15847825366509396647:True:=⟨⟩
theorem tw10793150741768434782:True:=⟨⟩
theorem tw17390113899876038420:True:=⟨⟩
theorem tw6570793027052268767:True:=⟨⟩
theorem tw3940990638148908622:True:=⟨⟩
theorem tw100979207537015626:True:=⟨⟩
theorem tw16421671075701742363:True:=⟨⟩
theorem tw17162029524616512600:True:=⟨⟩
theorem tw10179927207188555476:True:=⟨⟩
theorem tw4919487781080671454:True:=⟨⟩
theorem tw14522244721519739202:True:=⟨⟩
theorem tw10936769174047188238:True:=⟨⟩
theorem tw10644539329473106710:True:=⟨⟩
theorem tw17637438379036732865:True:=⟨⟩
theorem tw561267612266519472:True:=⟨⟩
theorem tw1415537556302951468:True:=⟨⟩
theorem tw13582082515623407199:True:=⟨⟩
theorem tw18173991137807917471:True:=⟨⟩
theorem tw4286496008365905378:True:=⟨⟩
theorem tw4674114421177698212:True:=⟨⟩
theorem tw2357412894492479544:True:=⟨⟩
theorem tw17774020973410715706:True:=⟨⟩
theorem tw13361535436033630846:True:=⟨⟩
theorem tw16617556636339088267:True:=⟨⟩
theorem tw5899328966845573718:True:=⟨⟩
theorem tw12636701067703333292:True:=⟨⟩
theorem tw15266491690268181276:True:=⟨⟩
theorem tw4133818802913703938:True:=⟨⟩
theorem tw1390700315315525666:True:=⟨⟩
theorem tw13666744748746451132:True:=⟨⟩
theorem tw12840043810495398415:True:=⟨⟩
theorem tw11008936709319310209:True:=⟨⟩
theorem tw5246045564022409481:True:=⟨⟩
theorem tw9980111433871042710:True:=⟨⟩
theorem tw5957558708406316473:True:=⟨⟩
theorem tw5068977863074694977:True:=⟨⟩
theorem tw17067956147940873426:True:=⟨⟩
theorem tw15463049941655399214:True:=⟨⟩
theorem tw17983312548680553443:True:=⟨⟩
theorem tw12485393357395886658:True:=⟨⟩
theorem tw3825706028813817301:True:=⟨⟩
theorem tw1270697476918485138:True:=⟨⟩
theorem tw9627704582884565749:True:=⟨⟩
theorem tw6052178243135282679:True:=⟨⟩
theorem tw14342826805086101653:True:=⟨⟩
theorem tw14380377490527660259:True:=⟨⟩
theorem tw17596430705862791217:True:=⟨⟩
theorem tw9541152122027192069:True:=⟨⟩
theorem tw5749822713490787765:True:=⟨⟩
theorem tw12986754870272887670:True:=⟨⟩
theorem tw3727183780421138074:True:=⟨⟩
theorem tw146938441832963220:True:=⟨⟩
theorem tw387178324511202585:True:=⟨⟩
theorem tw12121456531962156082:True:=⟨⟩
theorem tw9982963451423800935:True:=⟨⟩
theorem tw8763194176474307496:True:=⟨⟩
theorem tw5188920338100193321:True:=⟨⟩
theorem tw7661124664660169420:True:=⟨⟩
theorem tw17546830930350631198:True:=⟨⟩
theorem tw16896415226796553829:True:=⟨⟩
theorem tw1674310055394273711:True:=⟨⟩
theorem tw1125140694956492694:True:=⟨⟩
theorem tw10108853252993323929:True:=⟨⟩
theorem tw3218745138439235923:True:=⟨⟩
theorem tw8901823319558832538:True:=⟨⟩
theorem tw688006588494323361:True:=⟨⟩
theorem tw10040951426872325416:True:=⟨⟩
theorem tw10377187305671455353:True:=⟨⟩
theorem tw13182568513132437690:True:=⟨⟩
theorem tw10503728366213045885:True:=⟨⟩
theorem tw4481318393606941838:True:=⟨⟩
theorem tw13258197213501603617:True:=⟨⟩
theorem tw4069078003171446562:True:=⟨⟩
theorem tw18205422105777002901:True:=⟨⟩
theorem tw6093120063684393236:True:=⟨⟩
theorem tw7424294030540662172:True:=⟨⟩
theorem tw5286722679903434001:True:=⟨⟩
theorem tw7786675200721141502:True:=⟨⟩
theorem tw2904545229991885373:True:=⟨⟩
theorem tw2821555435042377383:True:=⟨⟩
theorem tw14197385198034614917:True:=⟨⟩
theorem tw12314993180385819963:True:=⟨⟩
theorem tw3956187588502706885:True:=⟨⟩
theorem tw14361703286746045598:True:=⟨⟩
theorem tw2548453333201703877:True:=⟨⟩
theorem tw13182038768589363548:True:=⟨⟩
theorem tw4996001843071013594:True:=⟨⟩
theorem tw7459209878015396947:True:=⟨⟩
theorem tw15000134607066247702:True:=⟨⟩
theorem tw14837628016822825753:True:=⟨⟩
theorem tw11713697483465610776:True:=⟨⟩
theorem tw7618442756694119505:True:=⟨⟩
theorem tw10729035008275326106:True:=⟨⟩
theorem tw10765122167621817080:True:=⟨⟩
theorem tw264592025436330420:True:=⟨⟩
theorem tw9799457917807359876:True:=⟨⟩
theorem tw3795368378456084732:True:=⟨⟩
theorem tw932982029901103720:True:=⟨⟩
theorem tw16806071925669446101:True:=⟨⟩
theorem tw14578936202013533428:True:=⟨⟩
theorem tw4973020855301957280:True:=⟨⟩
theorem tw8774929164300548245:True:=⟨⟩
theorem tw2986396382874284391:True:=⟨⟩
theorem tw5678022553510330429:True:=⟨⟩
theorem tw8390365169070013089:True:=⟨⟩
theorem tw3683353869349811653:True:=⟨⟩
theorem tw9162721542120127830:True:=⟨⟩
theorem tw1538319653517162821:True:=⟨⟩
theorem tw3926403070871257996:True:=⟨⟩
theorem tw3342975085248143295:True:=⟨⟩
theorem tw420907585369292940:True:=⟨⟩
theorem tw12573727048858967632:True:=⟨⟩
theorem tw12632931843003461255:True:=⟨⟩
theorem tw12502355842325164450:True:=⟨⟩
theorem tw11264595280001397016:True:=⟨⟩
theorem tw10113625958434769776:True:=⟨⟩
theorem tw16918817118566746712:True:=⟨⟩
theorem tw8576733825917262282:True:=⟨⟩
theorem tw7158679793421325962:True:=⟨⟩
theorem tw13776015998435697393:True:=⟨⟩
theorem tw16623284786897180808:True:=⟨⟩
theorem tw14476559294107630747:True:=⟨⟩
theorem tw12537989451670833535:True:=⟨⟩
theorem tw11157355131053465948:True:=⟨⟩
theorem tw7748255750670719122:True:=⟨⟩
theorem tw2172817228017899223:True:=⟨⟩
theorem tw11515902340645402489:True:=⟨⟩
theorem tw880780050005302559:True:=⟨⟩
theorem tw130944890462532621:True:=⟨⟩
theorem tw9748697105472873334:True:=⟨⟩
theorem tw3693407079027869518:True:=⟨⟩
theorem tw16434258152867461593:True:=⟨⟩
theorem tw1423323283353346044:True:=⟨⟩
theorem tw9134642427976194452:True:=⟨⟩
theorem tw8842242086546733728:True:=⟨⟩
theorem tw3544341903682421397:True:=⟨⟩
theorem tw8545996576444420387:True:=⟨⟩
theorem tw11717039292368873154:True:=⟨⟩
theorem tw15888506031043807556:True:=⟨⟩
theorem tw13555874853995494419:True:=⟨⟩
theorem tw13051192815975612090:True:=⟨⟩
theorem tw8703012826637771329:True:=⟨⟩
theorem tw6932161569418973543:True:=⟨⟩
theorem tw7534624342536476213:True:=⟨⟩
theorem tw5335184177777555415:True:=⟨⟩
theorem tw13131514283793742321:True:=⟨⟩
theorem tw4553848547887523515:True:=⟨⟩
theorem tw3003614202995277381:True:=⟨⟩
theorem tw5953178822469011819:True:=⟨⟩
theorem tw16347368675445322029:True:=⟨⟩
theorem tw17341609239623309946:True:=⟨⟩
theorem tw8406782203384859729:True:=⟨⟩
theorem tw2739641914956681223:True:=⟨⟩
theorem tw1566846036064835940:True:=⟨⟩
theorem tw13123639902971317059:True:=⟨⟩
theorem tw6253470586292755864:True:=⟨⟩
theorem tw10908761417325759495:True:=⟨⟩
theorem tw7225773646826329649:True:=⟨⟩
theorem tw16159688469029664392:True:=⟨⟩
theorem tw2780322153101406660:True:=⟨⟩
theorem tw17061274591673928652:True:=⟨⟩
theorem tw1764180381174828835:True:=⟨⟩
theorem tw17610578847793078828:True:=⟨⟩
theorem tw12167305522229936102:True:=⟨⟩
theorem tw4483367738186614494:True:=⟨⟩
theorem tw9117977305443424030:True:=⟨⟩
theorem tw12360423250189825419:True:=⟨⟩
theorem tw1586696302641889602:True:=⟨⟩
theorem tw6102981337759272168:True:=⟨⟩
theorem tw6671840634692013360:True:=⟨⟩
theorem tw4240786097456493432:True:=⟨⟩
theorem tw18405396720693702394:True:=⟨⟩
theorem tw5373727898828075943:True:=⟨⟩
theorem tw9601638326077403063:True:=⟨⟩
theorem tw6558485862287093807:True:=⟨⟩
theorem tw15871068845449825399:True:=⟨⟩
theorem tw12630618276668691674:True:=⟨⟩
theorem tw4451384287079430086:True:=⟨⟩
theorem tw4105145502822205457:True:=⟨⟩
theorem tw8965119239995778102:True:=⟨⟩
theorem tw7925199212868611226:True:=⟨⟩
theorem tw7083617831582818116:True:=⟨⟩
theorem tw2897644525003887005:True:=⟨⟩
theorem tw181937484998399716:True:=⟨⟩
theorem tw4359108427019273005:True:=⟨⟩
theorem tw8038124227072182863:True:=⟨⟩
theorem tw10232422783416199495:True:=⟨⟩
theorem tw12965636414819877801:True:=⟨⟩
theorem tw1567182362816751980:True:=⟨⟩
theorem tw13691530770003910545:True:=⟨⟩
theorem tw4743622703206890758:True:=⟨⟩
theorem tw15865076453242790439:True:=⟨⟩
theorem tw5235657805415590599:True:=⟨⟩
theorem tw7724589935595821633:True:=⟨⟩
theorem tw5090906845307090850:True:=⟨⟩
theorem tw2286200985581385749:True:=⟨⟩
theorem tw6166844145989113893:True:=⟨⟩
theorem tw1882587148114910379:True:=⟨⟩
theorem tw1667552625164415298:True:=⟨⟩
theorem tw11052904637730323422:True:=⟨⟩
theorem tw14797202455680732432:True:=⟨⟩
theorem tw3936653492282507167:True:=⟨⟩
theorem tw7554451084093343856:True:=⟨⟩
theorem tw540145475114396878:True:=⟨⟩
theorem tw13945843876453012700:True:=⟨⟩
theorem tw1358187613571373667:True:=⟨⟩
theorem tw3348758455366040646:True:=⟨⟩
theorem tw11702429247099084130:True:=⟨⟩
theorem tw14922255781166224575:True:=⟨⟩
theorem tw3637240009561124700:True:=⟨⟩
theorem tw1730475351242960905:True:=⟨⟩
theorem tw10302621666302175134:True:=⟨⟩
theorem tw4879609028805397505:True:=⟨⟩
theorem tw8279586576335615114:True:=⟨⟩
theorem tw6319598949848492239:True:=⟨⟩
theorem tw3820725870930663851:True:=⟨⟩
theorem tw2441746334584274058:True:=⟨⟩
theorem tw14136860554356401830:True:=⟨⟩
theorem tw13261466790766043780:True:=⟨⟩
theorem tw7363069124075325471:True:=⟨⟩
theorem tw785913145052555121:True:=⟨⟩
theorem tw542402608728019914:True:=⟨⟩
theorem tw14113566410556130919:True:=⟨⟩
theorem tw15542368947824259742:True:=⟨⟩
theorem tw10472773382036664090:True:=⟨⟩
theorem tw429050148506950294:True:=⟨⟩
theorem tw2378045464174701961:True:=⟨⟩
theorem tw18234123129598666342:True:=⟨⟩
theorem tw16205532305656561679:True:=⟨⟩
theorem tw7902447315231182204:True:=⟨⟩
theorem tw2255070818350208855:True:=⟨⟩
theorem tw4256623550532429169:True:=⟨⟩
theorem tw9040399994472044160:True:=⟨⟩
theorem tw3920013325286055475:True:=⟨⟩
theorem tw2424858280840162571:True:=⟨⟩
theorem tw14542963984834834755:True:=⟨⟩
theorem tw3296349348523097025:True:=⟨⟩
theorem tw14098877361268914017:True:=⟨⟩
theorem tw11153163099397063134:True:=⟨⟩
theorem tw7124507291106526476:True:=⟨⟩
theorem tw9213213713176460963:True:=⟨⟩
theorem tw7263904810936765311:True:=⟨⟩
theorem tw5215423976631519016:True:=⟨⟩
theorem tw17512752333296234371:True:=⟨⟩
theorem tw12038561464989268409:True:=⟨⟩
theorem tw4136698391372918818:True:=⟨⟩
theorem tw8283540436020619884:True:=⟨⟩
theorem tw18434323867194247958:True:=⟨⟩
theorem tw16165162498562236261:True:=⟨⟩
theorem tw11175278001734730432:True:=⟨⟩
theorem tw15552827759987178151:True:=⟨⟩
theorem tw12647919235322722497:True:=⟨⟩
theorem tw12508822423380257272:True:=⟨⟩
theorem tw6571084087150469518:True:=⟨⟩
theorem tw3412651987242692391:True:=⟨⟩
theorem tw11500229078491665010:True:=⟨⟩
theorem tw4113567222576991741:True:=⟨⟩
theorem tw12607521007319781811:True:=⟨⟩
theorem tw9486606862069079150:True:=⟨⟩
theorem tw12948495686901452597:True:=⟨⟩
theorem tw3665698009234882608:True:=⟨⟩
theorem tw9612758840393480750:True:=⟨⟩
theorem tw12090521202094132223:True:=⟨⟩
theorem tw1988565449240598284:True:=⟨⟩
theorem tw8824343456703725745:True:=⟨⟩
theorem tw4565245147385949819:True:=⟨⟩
theorem tw8890824421625207450:True:=⟨⟩
theorem tw858614406486351223:True:=⟨⟩
theorem tw15051894152318310387:True:=⟨⟩
theorem tw17919486601767642591:True:=⟨⟩
theorem tw988702336348141836:True:=⟨⟩
theorem tw10420781523696801136:True:=⟨⟩
theorem tw5235608690290759885:True:=⟨⟩
theorem tw13904477665850904446:True:=⟨⟩
theorem tw7259778875397295425:True:=⟨⟩
theorem tw14839069509880899097:True:=⟨⟩
theorem tw13595538524115326196:True:=⟨⟩
theorem tw13479318323542214109:True:=⟨⟩
theorem tw9976696007453682198:True:=⟨⟩
theorem tw3244987480310888464:True:=⟨⟩
theorem tw13294629570675813981:True:=⟨⟩
theorem tw6363228009615229140:True:=⟨⟩
theorem tw1943035240110621491:True:=⟨⟩
theorem tw223020342826236049:True:=⟨⟩
theorem tw9192388357345539600:True:=⟨⟩
theorem tw16911936630198745853:True:=⟨⟩
theorem tw3020956616354173313:True:=⟨⟩
theorem tw2383000870546770894:True:=⟨⟩
theorem tw7324900309429310158:True:=⟨⟩
theorem tw6721354491018588445:True:=⟨⟩
theorem tw17257147668252867542:True:=⟨⟩
theorem tw11758303840565056082:True:=⟨⟩
theorem tw10242824634418234180:True:=⟨⟩
theorem tw15561769718294875778:True:=⟨⟩
theorem tw11266111120656360679:True:=⟨⟩
theorem tw15566128888476863274:True:=⟨⟩
theorem tw1266495954447298505:True:=⟨⟩
theorem tw63298032779032903:True:=⟨⟩
theorem tw2323043399175784243:True:=⟨⟩
theorem tw13250038802303427271:True:=⟨⟩
theorem tw11979894598924081327:True:=⟨⟩
theorem tw10910245513254562438:True:=⟨⟩
theorem tw10130756965957725694:True:=⟨⟩
theorem tw6052246612628790578:True:=⟨⟩
theorem tw12415066917588094680:True:=⟨⟩
theorem tw4034929867891815865:True:=⟨⟩
theorem tw11478883564062233487:True:=⟨⟩
theorem tw13838021860174326260:True:=⟨⟩
theorem tw7647078180800471815:True:=⟨⟩
theorem tw1356054969156788438:True:=⟨⟩
theorem tw6578616437705735639:True:=⟨⟩
theorem tw4205396144511890756:True:=⟨⟩
theorem tw2298446790129687080:True:=⟨⟩
theorem tw16697573814274332167:True:=⟨⟩
theorem tw11908930553055478365:True:=⟨⟩
theorem tw9672315482722877585:True:=⟨⟩
theorem tw7082428759460152091:True:=⟨⟩
theorem tw16874033677673482309:True:=⟨⟩
theorem tw1124226932607626085:True:=⟨⟩
theorem tw525043111100208383:True:=⟨⟩
theorem tw12142753935107384424:True:=⟨⟩
theorem tw11497177345837116578:True:=⟨⟩
theorem tw1094901969663808873:True:=⟨⟩
theorem tw9170075628871775799:True:=⟨⟩
theorem tw6953982081405518043:True:=⟨⟩
theorem tw6328168262091396593:True:=⟨⟩
theorem tw2928875852526226742:True:=⟨⟩
theorem tw1633828663883719748:True:=⟨⟩
theorem tw15898876490577784637:True:=⟨⟩
theorem tw15636980215216688189:True:=⟨⟩
theorem tw15483942607019092153:True:=⟨⟩
theorem tw14416925101166091312:True:=⟨⟩
end PySem.W.Fast
namespace L2
open PySem PySem.Spec PyProof.Rows
section
variable {K:Q2}
structure uT (K:Q2) (C:Q6):Prop where
 pg:Vm K C WI=true
 hd:U9 K C=true
 po:Yi K C=true
 sa:Sk K (.ref C) "__setattr__" = some (some (.builtin "object.__setattr__"))
structure Meth (K:Q2) (C:Q6) (m:Rf) (f:Q6):Prop where
 at_:Sk K (.ref C) m=some (some (.ref f))
 fn:VR K (.ref f)=true
 kp:SU K (.ref f)=true
def mL (s:SJ):Arguments:=match s with
 | .FunctionDef _ a _ _ _ _ _ _ _ _=>a
 | _=>{ posonlyargs:=[],args:=[],vararg:=none,kwonlyargs:=[],kw_defaults:=[],kwarg:=none,defaults:=[] }
def eU (s:SJ):List SJ:=match s with
 | .FunctionDef _ _ b _ _ _ _ _ _ _=>b
 | _=>[]
def aI (s:SJ):Va:=match s with
 | .FunctionDef _ _ _ _ _ _ sc _ _ _=>sc
 | _=>{ kind:=.function,names:=[],isGenerator:=false,isCoroutine:=false }
structure eQ (K:Q2) (x qual:Rf) (st:SJ) (f:Q6) (fd:SM):Prop where
 ex:∃ (oc:Q7) (od:Option Q6) (kV doc pm:Q7) (an:Option Q6) (cdv ct:Q7) (osl:Array (Option Q7)),
  fd=T6 x qual (mL st) (eU st) (aI st) .none kV doc pm an cdv ct∧K.lookup f=some ⟨oc,od,.func fd,osl⟩∧Vb K cdv qual=true
 kp:SU K (.ref f)=true
theorem Im {x qual:Rf} {st:SJ} {f:Q6} {oc:Q7} {od an:Option Q6} {osl:Array (Option Q7)} {kV doc pm cdv ct:Q7} (l:K.lookup f=some ⟨oc,od,.func (T6 x qual (mL st) (eU st) (aI st) .none kV doc pm an cdv ct),osl⟩)
 (c:Vb K cdv qual=true) (k:SU K (.ref f)=true):eQ K x qual st f (T6 x qual (mL st) (eU st) (aI st) .none kV doc pm an cdv ct):=⟨⟨oc,od,kV,doc,pm,an,cdv,ct,osl,rfl,l,c⟩,k⟩
end
end L2
namespace VL
open PySem L2
class cu where
 ts:List (Q6×Rf)
instance (priority:=low) noTabs:cu:=⟨[]⟩
end VL
namespace L2
variable {mg:Rf→Option Q7} {x:Rf} {st:SJ} {ps:List Rf} {f:Q6} {sl:Array (Option Q7)} {fd:SM} {t:Nat}
open PySem PySem.Spec PyProof.Rows
section
variable {K:Q2}
structure BO (K:Q2) (C:Q6):Prop where
 ga:Sk K (.ref C) "__getattribute__" = some (some (.builtin "BaseException.__getattribute__"))
 gk:Sk K (.ref C) "__getattr__" = some none
 hd:U9 K C=true
 ca:Sk K (.ref C) "__class__" = some (some (.builtin "object.__class__"))
 sp:Yj K (.builtin "object.__class__") "__get__" = some (some (.builtin "getset_descriptor.__get__"))
 tk:YT K (.builtin "object.__class__")=some true
 mro:X1 K C (.type "object")=some true
 QS:X1 K C (.type "BaseException")=some true
structure PF (K:Q2) (C:Q6):Prop where
 makes:UW K C=true
 init:Sk K (.ref C) "__init__" = some (some (.builtin "object.__init__"))
 kp:SU K (.ref C)=true
structure Pn (K:Q2) (C:Q6):Prop where
 cl:uT K C
 ha:Sk K (.ref C) "__class__" = some (some (.builtin "object.__class__"))
 hn:Yj K (.builtin "object.__class__") "__get__" = some (some (.builtin "getset_descriptor.__get__"))
 Q0:YT K (.builtin "object.__class__")=some true
 hm:X1 K C (.type "object")=some true
structure FT (K:Q2) (mg:Rf→Option Q7) (x:Rf) (st:SJ) (ps:List Rf) (c:Option Q6) (f:Q6) (d:SM):Prop where
 F:eQ K x x st f d
 b0:∀ us:List Q7,us.length=ps.length→T7 d ⟨us,[]⟩=pure (ps.zip us)
 m:mg x=some (.ref f)
 c:∀ k,c=some k→d.code=.ref k
theorem FT.ex {K:Q2} {h:SA} (I:K.In h) (G:h.Ns SF mg) {c:Option Q6} {oc kV dc pm cd ct:Q7} {od an:Option Q6} (a:T8 K SF x=some (some (.ref f)))
 (l:K.lookup f=some ⟨oc,od,.func (T6 x x (mL st) (eU st) (aI st) .none kV dc pm an cd ct),sl⟩) (hc:Vb K cd x=true) (k:SU K (.ref f)=true) (hb:∀ us:List Q7,us.length=ps.length→T7 (T6 x x (mL st) (eU st) (aI st) .none kV dc pm an cd ct) ⟨us,[]⟩=pure (ps.zip us))
 (hk:∀ k,c=some k→cd=.ref k):∃ f d,FT K mg x st ps c f d:=⟨_,_,Im l hc k,hb,Wy I G a,hk⟩
def FAll (K:Q2) (mg:Rf→Option Q7) (tp:Nat→SJ):List (Rf×Nat×List Rf×Option Q6)→Prop
 | []=>True
 | (x,i,ps,c)::r=>FAll K mg tp r∧∃ f d,FT K mg x (tp i) ps c f d
theorem FAll.nil {K:Q2} {tp:Nat→SJ}:FAll K mg tp []:=trivial
theorem FAll.cons {K:Q2} {mg:Rf→Option Q7} {tp:Nat→SJ} {x:Rf} {i:Nat} {ps:List Rf} {c:Option Q6} {r:List (Rf×Nat×List Rf×Option Q6)} (h:FAll K mg tp r) (e:∃ f d,FT K mg x (tp i) ps c f d):FAll K mg tp ((x,i,ps,c)::r):=⟨h,e⟩
abbrev Lg (l:List (Rf×Nat×List Rf×Option Q6)) (i:Nat):Rf×Nat×List Rf×Option Q6:=l.getD i ("", 0,[],none)
theorem FAll.ex {K:Q2} {mg:Rf→Option Q7} {tp:Nat→SJ}:∀ {r:List (Rf×Nat×List Rf×Option Q6)},FAll K mg tp r→∃ (f:Nat→Q6) (d:Nat→SM),∀ i,decide (i<r.length)=true→FT K mg (Lg r i).1 (tp (Lg r i).2.1) (Lg r i).2.2.1 (Lg r i).2.2.2 (f i) (d i)
 | [],_=>⟨fun _=>0,fun _=>default,fun i h=>by simp at h⟩
 | (x,i,ps,c)::r,⟨h,f0,d0,e⟩=>by
  obtain ⟨f,d,F⟩:=h.ex;refine ⟨fun | 0=>f0 | n+1=>f n,fun | 0=>d0 | n+1=>d n,fun i h=>?_⟩;cases i with
  | zero=>exact e
  | succ n=>exact F n (by simpa using h)
theorem bind1 (h:∀ a,T7 fd ⟨[a],[]⟩=pure [(x,a)]):∀ us:List Q7,us.length=[x].length→T7 fd ⟨us,[]⟩=pure ([x].zip us)
 | [a],_=>h a
theorem bind2 {y:Rf} (h:∀ a b,T7 fd ⟨[a,b],[]⟩=pure [(x,a),(y,b)]):∀ us:List Q7,us.length=[x,y].length→T7 fd ⟨us,[]⟩=pure ([x,y].zip us)
 | [a,b],_=>h a b
theorem bind3 {y z:Rf} (h:∀ a b c,T7 fd ⟨[a,b,c],[]⟩=pure [(x,a),(y,b),(z,c)]):∀ us:List Q7,us.length=[x,y,z].length→T7 fd ⟨us,[]⟩=pure ([x,y,z].zip us)
 | [a,b,c],_=>h a b c
theorem bind4 {y z w:Rf} (h:∀ a b c d,T7 fd ⟨[a,b,c,d],[]⟩=pure [(x,a),(y,b),(z,c),(w,d)]):∀ us:List Q7,us.length=[x,y,z,w].length→T7 fd ⟨us,[]⟩=pure ([x,y,z,w].zip us)
 | [a,b,c,d],_=>h a b c d
theorem hk0 {v:Q7}:∀ k:Q6,(none:Option Q6)=some k→v=.ref k:=fun _ h=>nomatch h
theorem hk1 {c:Q6}:∀ k:Q6,some c=some k→RQ c=.ref k:=fun _ h=>by cases h; rfl
structure xB (w:Sn) (K:Q2) (a:Q6) (kvs:List (Rf×Int)):Prop where
 ok:∃ (o:TK) (es:List VW) (ep:Nat),K.lookup a=some o∧o.cls=.type "dict" ∧ o.dict=none∧o.slots=#[]∧o.data=.dict es.toArray ep∧Ta (fun (e:VW) (p:Rf×Int)=>e.hash=hashStr w p.1∧(∃ t,e.key=.str p.1 t)∧∃ t,e.val=.int p.2 t) es kvs
 nd:(kvs.map (·.1)).Nodup
 sm:(a==Tu)=false
def AllL {α:Type} (p:α→Prop):List α→Prop
 | []=>True
 | a::r=>p a∧AllL p r
theorem AllL.nil {α:Type} {p:α→Prop}:AllL p []:=trivial
theorem AllL.cons {α:Type} {p:α→Prop} {a:α} {r:List α} (t:AllL p r) (h:p a):AllL p (a::r):=⟨h,t⟩
theorem AllL.imp {α:Type} {p q:α→Prop} (f:∀ a,p a→q a):∀ {l:List α},AllL p l→AllL q l
 | [],_=>trivial
 | _::_,⟨h,t⟩=>⟨f _ h,t.imp f⟩
abbrev Jc {α:Type} (p:α→Prop) (l:List α) (d:α):Prop:=∀ i,decide (i<l.length)=true→p (l.getD i d)
theorem AllL.JZ {α:Type} {p:α→Prop} {d:α}:∀ {l:List α},AllL p l→Jc p l d
 | [],_,i,h=>by simp at h
 | _::_,⟨h,_⟩,0,_=>h
 | _::_,⟨_,t⟩,i+1,hi=>t.JZ i (by simpa using hi)
def DepOn {T:Prop} (_:T) (X:Prop):Prop:=X
theorem DepOn.out {T X:Prop} {W:T} (h:DepOn W X):X:=h
inductive GV | no | ref (a:Q6) | str (s:Rf) | int (i:Int)
def Qk (mg:Rf→Option Q7) (p:Rf×GV):Prop:=match p.2 with
 | .no=>mg p.1=none
 | .ref a=>mg p.1=some (.ref a)
 | .str s=>∃ t,mg p.1=some (.str s t)
 | .int i=>∃ t,mg p.1=some (.int i t)
noncomputable def GK (K:Q2) (p:Rf×GV):Prop:=match p.2 with
 | .no=>T8 K SF p.1=some none
 | .ref a=>T8 K SF p.1=some (some (.ref a))
 | .str s=>∃ t,T8 K SF p.1=some (some (.str s t))
 | .int i=>∃ t,T8 K SF p.1=some (some (.int i t))
theorem GK.ok {K:Q2} {h:SA} (X:K.In h) (G:h.Ns SF mg):∀ p:Rf×GV,GK K p→Qk mg p
 | (_,.no),k=>PySem.W.mg_none_of X G k
 | (_,.ref _),k=>Wy X G k
 | (_,.str _),⟨t,k⟩=>⟨t,Wy X G k⟩
 | (_,.int _),⟨t,k⟩=>⟨t,Wy X G k⟩
theorem gk_no {K:Q2} (h:T8 K SF x=some none):GK K (x,.no):=h
theorem gk_ref {K:Q2} {a:Q6} (h:T8 K SF x=some (some (.ref a))):GK K (x,.ref a):=h
theorem gk_str {K:Q2} {s:Rf} (h:T8 K SF x=some (some (.str s t))):GK K (x,.str s):=⟨t,h⟩
theorem gk_int {K:Q2} {i:Int} (h:T8 K SF x=some (some (.int i t))):GK K (x,.int i):=⟨t,h⟩
structure MT (K:Q2) (C:Q6) (m q:Rf) (st:SJ) (ps:List Rf) (f:Q6) (d:SM):Prop where
 F:eQ K m q st f d
 b0:∀ us:List Q7,us.length=ps.length→T7 d ⟨us,[]⟩=pure (ps.zip us)
 t:Meth K C m f
theorem MT.ex {K:Q2} {C:Q6} {m q:Rf} {oc kV dc pm cd ct:Q7} {od an:Option Q6} (a:Sk K (.ref C) m=some (some (.ref f)))
 (l:K.lookup f=some ⟨oc,od,.func (T6 m q (mL st) (eU st) (aI st) .none kV dc pm an cd ct),sl⟩) (hc:Vb K cd q=true) (k:SU K (.ref f)=true) (n:VR K (.ref f)=true) (hb:∀ us:List Q7,us.length=ps.length→T7 (T6 m q (mL st) (eU st) (aI st) .none kV dc pm an cd ct) ⟨us,[]⟩=pure (ps.zip us)):∃ f d,MT K C m q st ps f d:=⟨_,_,Im l hc k,hb,a,n,k⟩
abbrev MR:=Q6×Rf×Rf×Nat×Nat×List Rf
def MAll (K:Q2) (tp:Nat→Nat→SJ):List MR→Prop
 | []=>True
 | (C,m,q,i,j,ps)::r=>MAll K tp r∧∃ f d,MT K C m q (tp i j) ps f d
theorem MAll.nil {K:Q2} {tp:Nat→Nat→SJ}:MAll K tp []:=trivial
theorem MAll.cons {K:Q2} {tp:Nat→Nat→SJ} {C:Q6} {m q:Rf} {i j:Nat} {ps:List Rf} {r:List MR} (h:MAll K tp r) (e:∃ f d,MT K C m q (tp i j) ps f d):MAll K tp ((C,m,q,i,j,ps)::r):=⟨h,e⟩
abbrev FV (l:List MR) (i:Nat):MR:=l.getD i (0, "", "", 0,0,[])
theorem MAll.ex {K:Q2} {tp:Nat→Nat→SJ}:∀ {r:List MR},MAll K tp r→∃ (f:Nat→Q6) (d:Nat→SM),∀ i,decide (i<r.length)=true→MT K (FV r i).1 (FV r i).2.1 (FV r i).2.2.1 (tp (FV r i).2.2.2.1 (FV r i).2.2.2.2.1) (FV r i).2.2.2.2.2 (f i) (d i)
 | [],_=>⟨fun _=>0,fun _=>default,fun i h=>by simp at h⟩
 | _::r,⟨h,f0,d0,e⟩=>by
  obtain ⟨f,d,F⟩:=h.ex;refine ⟨fun | 0=>f0 | n+1=>f n,fun | 0=>d0 | n+1=>d n,fun i h=>?_⟩;cases i with
  | zero=>exact e
  | succ n=>exact F n (by simpa using h)
theorem bind0 (h:T7 fd ⟨[],[]⟩=pure []):∀ us:List Q7,us.length=([]:List Rf).length→T7 fd ⟨us,[]⟩=pure (([]:List Rf).zip us)
 | [],_=>h
abbrev excA (K:Q2) (c:Q6):Prop:=Wz K c [.type "ValueError", .type "Exception", .type "BaseException", .type "object"] "ValueError.__new__" = true
abbrev exmA (K:Q2) (p:Q6×Q6):Prop:=Vc K (.ref p.1) (.ref p.2)=some true
abbrev kitA (K:Q2) (p:Q6×Q7×Bool):Prop:=Uw K (.ref p.1) p.2.1=some p.2.2
abbrev mthA (K:Q2) (p:Q6×Rf):Prop:=∃ g,Meth K p.1 p.2 g
theorem mthA.of {K:Q2} {C g:Q6} {m:Rf} (a:Sk K (.ref C) m=some (some (.ref g))) (n:VR K (.ref g)=true) (k:SU K (.ref g)=true):mthA K (C,m):=⟨g,a,n,k⟩
end
end L2
namespace My
open PySem L2 VL
def top (i:Nat):SJ:=PySem.Challenge.pw_leastfloor_k85_rows_refused.main.body.getD i (.Pass ⟨0,0,0,0⟩)
def clsAt (s:SJ) (j:Nat):SJ:=match s with
 | .ClassDef _ _ _ b _ _ _ _ _ _ _=>b.getD j (.Pass ⟨0,0,0,0⟩)
 | _=>.Pass ⟨0,0,0,0⟩
def mD:List (Rf×Int):=[("names", 1),("drop", 2),("show", 2),("plan", 2),("end", 2),("why", 2),("busy", 3)]
def dQ:List (Rf×Int):=[("floor", 3),("late", 3),("keeps", 3),("shows", 3)]
set_option genInjectivity false in
set_option genSizeOf false in
structure Adr where
 f:Nat→Q6
 d:Nat→SM
 g:Nat→Q6
 e:Nat→SM
noncomputable def tab:List (Rf×Nat×List Rf×Option Q6):=(.append [("tells_one", 12,["numbers", "least", "most"],none),("none_below", 13,["numbers", "least"],none),("ahead_of", 54,["many", "needs"],none),("told_order", 55,["many", "needs"],none),("either", 56,["truths", "others"],none),("levels", 86,["behind"],none),("level_of", 87,["behind", "work"],none),("kinds", 123,[],none),("kind_of", 124,["word"],none),("is_name", 132,["text"],none),("is_number", 133,["text"],none),("read_number", 134,["text"],none),("read_rows", 135,["text"],none),("read_row", 136,["text"],none),("shown_rows", 137,["rows"],none),("shown_row", 138,["row"],none),("read_floor", 139,["text"],none),("is_row", 146,["words"],none),("with_rows", 148,["floor", "later"],none),("answer", 149,["asked", "floor", "text"],none),("read_moment", 150,["text"],none),("pairs_or_none", 153,["pairs"],none),("yes_or_no", 154,["truth"],none),("_law_mix", 156,["_law_number", "_law_k"],none)] [("_law_cell_at", 157,["_law_script", "_law_k"],none),("_law_names", 158,["_law_cell"],none),("_law_no_name", 159,["_law_name", "_law_cell"],none),("_law_rows_of_words", 160,["_law_g", "_law_u"],none),("_law_rows_of_names", 161,["_law_u", "_law_m"],none),("_law_rows_of_texts", 162,["_law_g", "_law_t", "_law_u"],none),("_law_refused", 163,["_law_desk", "_law_row"],none),("law", 164,["_law_script"],none)])
noncomputable def K4:List MR:=[(711, "word", "Alike.word", 116,0,["self"]),(711, "fits", "Alike.fits", 116,1,["self", "rows"]),(768, "word", "Open.word", 117,0,["self"]),(768, "fits", "Open.fits", 117,1,["self", "rows"]),(825, "word", "Tails.word", 118,0,["self"]),(825, "fits", "Tails.fits", 118,1,["self", "rows"]),(880, "word", "Windows.word", 119,0,["self"]),(880, "fits", "Windows.fits", 119,1,["self", "rows"]),(1000, "word", "Tree.word", 121,0,["self"]),(1000, "fits", "Tree.fits", 121,1,["self", "rows"]),(1064, "word", "Pairs.word", 122,0,["self"]),(1064, "fits", "Pairs.fits", 122,1,["self", "rows"]),(1164, "__init__", "Desk.__init__", 145,0,["self"]),(1164, "say", "Desk.say", 145,1,["self", "row"]),(1164, "put", "Desk.put", 145,2,["self", "name", "floor"]),(1164, "drop", "Desk.drop", 145,3,["self", "name"])]
abbrev N1 (i j:Nat):SJ:=clsAt (top i) j
noncomputable def Ng:List (Rf×GV):=(.append [("ValueError", .no),("all", .no),("any", .no),("int", .no),("isinstance", .no),("len", .no),("range", .no),("sorted", .no),("str", .no),("zip", .no),("FIGURES", .str "0123456789"),("LETTERS", .str "abcdefghijklmnopqrstuvwxyz"),("MOST_FIGURES", .int 60),("MOST_LETTERS", .int 8),("NO_NUMBERS", .str "."),("NO_ROWS", .str "-"),("OK", .str "ok"),("NoOrder", .ref 49),("Alike", .ref 711),("Open", .ref 768),("Tails", .ref 825),("Windows", .ref 880),("Tree", .ref 1000),("Pairs", .ref 1064)] [("NoKind", .ref 73),("NoText", .ref 61),("NoFloor", .ref 85),("Desk", .ref 1164),("NoRow", .ref 97),("NoName", .ref 109),("FloorError", .ref 24),("NoRoom", .ref 37),("OR_MORE", .ref 1126),("JUST", .ref 1125),("is_row_desk", .ref 1175),("is_row", .ref 1175)])
def Qp:List Q6:=[49,73,61,85,97,109]
def Qo:List (Q6×Q6):=[(49,49),(85,24),(73,24),(61,24),(109,24),(97,24)]
noncomputable def Qq:List (Q6×Q7×Bool):=(.append [(85,.ref 37,false),(85,.ref 49,false),(85,.ref 61,false),(85,.ref 109,false),(85,.ref 97,false),(85,.ref 73,false),(85,.type "ValueError", true),(85,.ref 85,true),(73,.ref 37,false),(73,.ref 49,false),(73,.ref 61,false),(73,.ref 109,false),(73,.ref 97,false),(73,.ref 73,true),(73,.type "ValueError", true),(73,.ref 85,false),(61,.ref 37,false),(61,.ref 49,false),(61,.ref 61,true),(61,.ref 109,false),(61,.ref 97,false),(61,.ref 73,false),(61,.type "ValueError", true),(61,.ref 85,false)] [(109,.ref 37,false),(109,.ref 49,false),(109,.ref 61,false),(109,.ref 109,true),(109,.ref 97,false),(109,.ref 73,false),(109,.type "ValueError", true),(109,.ref 85,false),(97,.ref 37,false),(97,.ref 49,false),(97,.ref 61,false),(97,.ref 109,false),(97,.ref 97,true),(97,.ref 73,false),(97,.type "ValueError", true),(97,.ref 85,false)])
def N3:List (Q6×Rf):=[(1000, "keeps"),(825, "keeps"),(1000, "shows"),(825, "shows"),(1000, "busy_at"),(825, "busy_at")]
def N5:List Q6:=[85,73,61,109,97]
def N6:List Q6:=[1064,1000,880,825,768,711,1164]
def N4:List Q6:=[711,768,825,880,1000,1064]
structure Txt [cu] (w:Sn) (K:Q2) (mg:Rf→Option Q7) (a:Adr):Prop where
 F:∀ i,decide (i<tab.length)=true→FT K mg (Lg tab i).1 (top (Lg tab i).2.1) (Lg tab i).2.2.1 (Lg tab i).2.2.2 (a.f i) (a.d i)
 M:∀ i,decide (i<K4.length)=true→MT K (FV K4 i).1 (FV K4 i).2.1 (FV K4 i).2.2.1 (N1 (FV K4 i).2.2.2.1 (FV K4 i).2.2.2.2.1) (FV K4 i).2.2.2.2.2 (a.g i) (a.e i)
 G:Jc (Qk mg) Ng ("", .no)
 hq:Jc (excA K) Qp 0
 hx:Jc (exmA K) Qo (0,0)
 hi:Jc (kitA K) Qq (0,.none,true)
 NT:Jc (mthA K) N3 (0, "")
 oq:Jc (BO K) N5 0
 eN:Jc (Pn K) N6 0
 NU:Jc (PF K) N4 0
 dQ:xB w K 1126 dQ
 mD:xB w K 1125 mD
 dR:mg "is_row_desk" = some (.ref (a.f 17))
 na_floors:Sk K (.ref 1164) "floors" = some none
 dm_Desk:UW K 1164=true
 dk_Desk:SU K (.ref 1164)=true
theorem kdic_of {w:Sn} {K:Q2} {a:Q6} {kvs:List (Rf×Int)} {o:TK} (h:K.lookup a=some o) (e:∃ (es:List VW) (ep:Nat),o.cls=.type "dict" ∧ o.dict=none∧o.slots=#[]∧o.data=.dict es.toArray ep∧Ta (fun (e:VW) (p:Rf×Int)=>e.hash=hashStr w p.1∧(∃ t,e.key=.str p.1 t)∧∃ t,e.val=.int p.2 t) es kvs) (nd:(kvs.map (·.1)).Nodup) (sm:(a==Tu)=false):xB w K a kvs:=let ⟨es,ep,h1,h2,h3,h4,h5⟩:=e; ⟨⟨o,es,ep,h,h1,h2,h3,h4,h5⟩,nd,sm⟩
set_option autoImplicit true in
set_option relaxedAutoImplicit true in
open PySem.W in
theorem all_mk {w:Sn} {K:Frag} {h:SA} {mg:Rf→Option Q7} {fa:Q6} (X:K.In h) (G:h.Ns SF mg) (hfa:mg "law" = some (.ref fa)) (H:FAll K mg top tab) (HM:MAll K N1 K4) (HG:AllL (GK K) Ng)
 (Hq:AllL (excA K) Qp)
 (Hx:AllL (exmA K) Qo)
 (Hi:AllL (kitA K) Qq)
 (Hmt:AllL (mthA K) N3)
 (Hkx:AllL (BO K) N5)
 (Hki:AllL (Pn K) N6)
 (Hmk:AllL (PF K) N4)
 (kd_OR_MORE':xB w K 1126 dQ)
 (kd_JUST':xB w K 1125 mD)
 (na_floors:findIn K (.ref 1164) "floors" = some none)
 (dm_Desk:makesIn K 1164=true)
 (dk_Desk:keepIn K (.ref 1164)=true) :
 ∃ a:Adr,Txt w K mg a∧a.f 31=fa∧∀ (s:Rb) (v:Q7),Yk s (a.d 31) ⟨[v],[]⟩ [("_law_script", v)]:=by
 obtain ⟨f,d,F⟩:=H.ex;have e:=hfa.symm.trans (F 31 rfl).m;cases e;have hG:Jc (Qk mg) Ng ("", .no):=(HG.imp (GK.ok X G)).JZ;obtain ⟨g,e,M⟩:=HM.ex;exact ⟨⟨f,d,g,e⟩,⟨F,M,hG,Hq.JZ,Hx.JZ,Hi.JZ,Hmt.JZ,Hkx.JZ,Hki.JZ,Hmk.JZ,kd_OR_MORE',kd_JUST',(hG 34 rfl).trans ((hG 35 rfl).symm.trans (F 17 rfl).m),na_floors,dm_Desk,dk_Desk⟩,rfl,fun s v=>.of_eq ((F 31 rfl).b0 [v] rfl)⟩
end My
section
open PySem PySem.W PyProof.Rows
set_option hygiene false in
local macro_rules
  | `(tactic| refine $f:ident $xs*) => do
    if xs.size < 9 || !(xs.back!.raw.isOfKind ``Lean.Parser.Term.syntheticHole && xs.back!.raw[1].getId.eraseMacroScopes == `hc) then Lean.Macro.throwUnsupported
    let ys := xs.pop.push (← `((L2.DepOn.out (W := @W) $(Lean.TSyntax.mk xs.back!.raw))))
    `(tactic| refine $f:ident $ys*)
set_option maxRecDepth 100000 in
set_option maxHeartbeats 0 in
theorem hd0 (W : ∀ {l : PySem.W.OpenLaw} {q : Program} {loose : List Str} {XP : (Str → Option Value) → Heap → Prop} {YP : World → Heap → Prop} {d : DefRec} {K : Params → PySem.W.Frag} (hn : l.most = some 63) (hdf : d.params.defaults = [])
    (hY : ∀ (w : World) (h : Heap), YP w h → (K w.params).In h)
    (F : ∀ (w : World) (mg : Str → Option Value) (fa : Addr) (h : Heap), (K w.params).In h → h.Ns mainGlobals mg → mg d.name = some (.ref fa) → ∃ a : My.Adr, My.Txt w (K w.params) mg a ∧ (a.f 31) = fa ∧ ∀ (s : Shared) (v : Value), BindsTo s (a.d 31) ⟨[v], []⟩ [("_law_script", v)]),
    PySem.W.WalkO q loose XP YP l.row.toRowW d [] (fun f vs => PySem.call f vs)) : PySem.Challenge.rw_leastfloor_k85_rows_refused.Holds := by
  w_on; o_law; k_head; (case hw => w_witness2)
  k_fill
  unfold L2.DepOn
  refine W (l := PySem.Challenge.rw_leastfloor_k85_rows_refused) rfl rfl (fun w h Y => by first | exact PySem.W.kIn_of Y | exact PySem.W.km_in_of Y) ?F
  case F =>
    intro w mg fa h KX G hmg
    refine' My.all_mk KX G hmg ?H ?HM ?HG ?Hq ?Hx ?Hi ?Hmt ?Hkx ?Hki ?Hmk ?kd_OR_MORE' ?kd_JUST' ?na_floors ?dm_Desk ?dk_Desk
    case H =>
      repeat refine' L2.FAll.cons ?_ (L2.FT.ex KX G ?_ ?_ ?_ ?_ ?_ ?_)
      · exact L2.FAll.nil
      any_goals first | k_is | exact L2.bind1 fun _ => rfl | exact L2.bind2 fun _ _ => rfl | exact L2.bind3 fun _ _ _ => rfl | exact L2.bind4 fun _ _ _ _ => rfl | exact L2.bind0 rfl | exact L2.hk0 | exact L2.hk1
    case HM =>
      repeat refine' L2.MAll.cons ?_ (L2.MT.ex ?_ ?_ ?_ ?_ ?_ ?_)
      · exact L2.MAll.nil
      any_goals first | k_is | exact L2.bind1 fun _ => rfl | exact L2.bind2 fun _ _ => rfl | exact L2.bind3 fun _ _ _ => rfl | exact L2.bind4 fun _ _ _ _ => rfl | exact L2.bind0 rfl
    case HG =>
      repeat refine' L2.AllL.cons ?_ ?_
      · exact L2.AllL.nil
      any_goals first | exact L2.gk_no (by k_is) | exact L2.gk_ref (by k_is) | exact L2.gk_str (by k_is) | exact L2.gk_int (by k_is)
    case Hq =>
      repeat refine' L2.AllL.cons ?_ ?_
      · exact L2.AllL.nil
      all_goals (unfold L2.excA; k_exc)
    case Hx =>
      repeat refine' L2.AllL.cons ?_ ?_
      · exact L2.AllL.nil
      all_goals (dsimp only [L2.exmA]; kts_exm)
    case Hi =>
      repeat refine' L2.AllL.cons ?_ ?_
      · exact L2.AllL.nil
      all_goals (dsimp only [L2.kitA]; kit_is)
    case Hmt =>
      repeat refine' L2.AllL.cons ?_ ?_
      · exact L2.AllL.nil
      all_goals exact L2.mthA.of (by k_is) (by k_is) (by k_is)
    case Hkx =>
      repeat refine' L2.AllL.cons ?_ ?_
      · exact L2.AllL.nil
      all_goals (refine' ⟨?_, ?_, ?_, ?_, ?_, ?_, ?_, ?_⟩ <;> k_is)
    case Hki =>
      repeat refine' L2.AllL.cons ?_ ?_
      · exact L2.AllL.nil
      all_goals (refine' ⟨⟨?_, ?_, ?_, ?_⟩, ?_, ?_, ?_, ?_⟩ <;> k_is)
    case Hmk =>
      repeat refine' L2.AllL.cons ?_ ?_
      · exact L2.AllL.nil
      all_goals (refine' ⟨?_, ?_, ?_⟩ <;> k_is)
    case kd_OR_MORE' =>
      refine' My.kdic_of ?h ?e (by decide +kernel) (by decide)
      case h => k_is
      case e => exact ⟨[_, _, _, _], _, rfl, rfl, rfl, rfl, by repeat (first | exact .nil | refine .cons ⟨rfl, ⟨_, rfl⟩, ⟨_, rfl⟩⟩ ?_)⟩
    case kd_JUST' =>
      refine' My.kdic_of ?h ?e (by decide +kernel) (by decide)
      case h => k_is
      case e => exact ⟨[_, _, _, _, _, _, _], _, rfl, rfl, rfl, rfl, by repeat (first | exact .nil | refine .cons ⟨rfl, ⟨_, rfl⟩, ⟨_, rfl⟩⟩ ?_)⟩
    case na_floors =>
      k_is
    case dm_Desk =>
      k_is
    case dk_Desk =>
      k_is
end
set_option hygiene false
local macro_rules|`(‹0›)=>`((by decide +kernel))
local macro_rules|`(‹1›)=>`((b9 (a8 (K:=K) rfl (n6 (tbl:=spT K [true] [(711,bM),(768,bW),(825,bK),(880,bA),(1000,bV),(1064,bL)]) (gD (iQ T) (T.F 8 rfl) hr (aa (pv 2) aj)) (.cons (T.eN 5 rfl).cl (T.M 1 rfl).t (gw T) (hr.mono (by decide)) (T.M 1 rfl).b (.cons (T.eN 4 rfl).cl (T.M 3 rfl).t (hJ T) (hr.mono (by decide)) (T.M 3 rfl).b (.cons (T.eN 3 rfl).cl (T.M 5 rfl).t (gp T) (hr.mono (by decide)) (T.M 5 rfl).b (.cons (T.eN 2 rfl).cl (T.M 7 rfl).t (e8 T) (hr.mono (by decide)) (T.M 7 rfl).b (.cons (T.eN 1 rfl).cl (T.M 9 rfl).t (hE T) (hr.mono (by decide)) (T.M 9 rfl).b (.cons (T.eN 0 rfl).cl (T.M 11 rfl).t (gv T) (hr.mono (by decide)) (T.M 11 rfl).b .nil)))))) (aa (pv 3) aj)) (fun _=>rfl))))
local macro_rules|`(‹2›)=>`((hr.mono (by decide)))
local macro_rules|`(‹3›)=>`((model X.prog X.w))
local macro_rules|`(‹4›)=>`((aS (ai.b (bR (neg:=false) (bF (ae 2) aD) (ai.b au)))))
local macro_rules|`(‹5›)=>`((a6 (bH (K:=K) hr.units) (pX K (pv 2) aB) av (aY _)))
local macro_rules|`(‹6›)=>`((by decide))
local macro_rules|`(‹7›)=>`(s.heap.objs.size)
local macro_rules|`(‹8›)=>`((ay (ai.b (ay (ai.b au) (ae 0))) (ai.b au)))
local macro_rules|`(‹9›)=>`((bb (bN (K:=K) rfl) rfl (T.G 5 rfl) dq (aa (pv 0) aj)))
local macro_rules|`(‹10›)=>`((aA (aA rfl rfl) rfl))
local macro_rules|`(‹11›)=>`((.cons rfl (Se rfl) rfl (by first | exact Se rfl | exact SI rfl) .nil))
local macro_rules|`(‹12›)=>`((aS (ai.b (bR (neg:=false) (ae 0) (ai.b au)))))
local macro_rules|`(‹13›)=>`((bH (K:=K) hr.units))
local macro_rules|`(‹14›)=>`((ay (ai.b (ay (ai.b au) (ae 2))) (ai.b au)))
local macro_rules|`(‹15›)=>`((iH.passes (E:=E) (fun _ _ h=>h) ⟨rfl,rfl,rfl⟩))
local macro_rules|`(‹16›)=>`((pA 4 bt.nd (qM (K:=K) rfl (dJ Rj R8 R9 (fU (K:=K) rfl) av (aa (dP (fB (K:=K) rfl) (pv 2) (eJ aB) fq) aj)))))
local macro_rules|`(‹17›)=>`((cY (ak 2) (dC (.int 0))))
local macro_rules|`(‹18›)=>`((bP X N' scope cl C s3 H3 fp pins))
local macro_rules|`(‹19›)=>`((cc (cb (K:=K) (ai.b (oY (ms:=[true]) (tbl:=[(711,bM),(768,bW),(825,bK),(880,bA),(1000,bV),(1064,bL)]) (ai.b (aR (aG (ae 2) aC))) (aF (aZ 3) aC))))))
local macro_rules|`(‹20›)=>`((af rfl (af rfl rfl)))
local macro_rules|`(‹21›)=>`((aE ao (aE ao av (pv 0)) av))
local macro_rules|`(‹22›)=>`((aL (dC (.str "floor ")) (ak 2)))
local macro_rules|`(‹23›)=>`(((relabel scope X.env).names.lookup x=some .cell∨(relabel scope X.env).names.lookup x=some .free))
local macro_rules|`(‹24›)=>`((cc (cb (K:=K) (ai.b (aR (aG (ae 2) aC))))))
local macro_rules|`(‹25›)=>`((bS 4 (iG (dC (.str " ")) (bw (yn (aX 2) (eM (dC (.int 2))) ft)))))
local macro_rules|`(‹26›)=>`((af rfl rfl))
local macro_rules|`(‹27›)=>`((dC (.int 1)))
local macro_rules|`(‹28›)=>`((b9 (a8 (K:=K) rfl (gD (ee T) (T.F 9 rfl) hr (aa (pv 3) aj)) (fun _=>rfl))))
local macro_rules|`(‹29›)=>`(s3.heap.objs.size)
local macro_rules|`(‹30›)=>`((pA 2 bt.nd (qM (K:=K) rfl (dJ Rj R3 Sj fK (pv 1) (aa av aj)))))
local macro_rules|`(‹31›)=>`((dC (.int 0)))
local macro_rules|`(‹32›)=>`((TV scope (SQ (C+1) scope.names cl) C X.env))
local macro_rules|`(‹33›)=>`((ay (ai.b (ay (ai.b au) (ae 1))) (ai.b au)))
local macro_rules|`(‹34›)=>`((fun i j=>decide (i≤j)))
local macro_rules|`(‹35›)=>`((dF (dw (lL [(711,bM),(768,bW),(825,bK),(880,bA),(1000,bV),(1064,bL)] (aJ dD (aq (ak 2) aP)) (aq (aX 3) aP)))))
local macro_rules|`(‹36›)=>`((aE ao (aE ao av (pv 2)) av))
local macro_rules|`(‹37›)=>`((relabel scope X.env))
local macro_rules|`(‹38›)=>`((b9 (a8 (K:=K) rfl (gD (jx T) (T.F 0 rfl) hr (aa (pX K (pv 1) aB) (aa aB (aa aB aj)))) (fun _=>rfl))))
local macro_rules|`(‹39›)=>`((dC (.str " ")))
local macro_rules|`(‹40›)=>`((model prog w))
local macro_rules|`(‹41›)=>`((x==("__debug__" : Rf)))
local macro_rules|`(‹42›)=>`((BQ (dT (dN true (aJ cU (fg ax 1 (aq (dC (.str "names")) aP))) (ak 8))) (BQ (dT (dN true (aJ cU (fg ax 1 (aq (aL (dC (.str "show ")) (ak 2)) aP))) (ak 7))) (dT (dN true (aJ cU (fg ax 1 (aq (aL (dC (.str "show ")) (ak 3)) aP))) (dC (.str "tree 2 / 1 -1")))))))
local macro_rules|`(‹43›)=>`((.dk ax [g,t] [jA "tails" (nE c n),jA "tree" TR]))
local macro_rules|`(‹44›)=>`((aa (pv 0) aj))
local macro_rules|`(‹45›)=>`((a7 (fS (ai.b au) (ai.b (bC.l (pN (aZ 2) (eI aD) fo))))))
local macro_rules|`(‹46›)=>`((.pu (.str (Rh " " (gT [g,t])))))
local macro_rules|`(‹47›)=>`((bb (bN (K:=K) rfl) rfl (T.G 5 rfl) dq (aa (pv 1) aj)))
local macro_rules|`(‹48›)=>`((s1.trans s2))
local macro_rules|`(‹49›)=>`(["self", "row", "words", "name", "text"])
local macro_rules|`(‹50›)=>`((cB I q (by simp)))
local macro_rules|`(‹51›)=>`((fg ax 0 (aq (aX 1) aP)))
local macro_rules|`(‹52›)=>`((iA "floor" ((aQ x " ").length+2)=true∧("floor" : Rf) ≠ "names" ∧ Lt x))
local macro_rules|`(‹53›)=>`((ns.getD j default=ms.getD j default))
local macro_rules|`(‹54›)=>`((b9 (a8 (K:=K) rfl (gD (ee T) (T.F 9 rfl) hr (aa (pv 2) aj)) (fun _=>rfl))))
local macro_rules|`(‹55›)=>`((pX K (pv 1) aB))
local macro_rules|`(‹56›)=>`((aS (ai.b (lz (T.eN 6 rfl).cl T.na_floors (ae 3) (ae 0)))))
local macro_rules|`(‹57›)=>`(s2.heap.objs.size)
local macro_rules|`(‹58›)=>`((.ListComp elt [⟨tg,iter,ifs,0⟩] scope pos))
local macro_rules|`(‹59›)=>`((sZ gW P w K mg base N qual (aI st) f cdv A outer s H E))
local macro_rules|`(‹60›)=>`((bP X (ts++zs) scope cl C s3 H3 fp pins))
local macro_rules|`(‹61›)=>`((.ListComp elt [⟨tg,iter,[],0⟩] scope pos))
local macro_rules|`(‹62›)=>`(["self", "rows"])
local macro_rules|`(‹63›)=>`((Kp.less fun a z=>z.elim id fun ⟨_,w⟩=>by cases w))
local macro_rules|`(‹64›)=>`((cc (Gy (aS (ai.b (gi (p:=fun i j=>decide (i≤j)) (q:=fun i j=>decide (i<j)) aD (ae 3) (ae 0)))) (aS (ai.b (gi (p:=fun i j=>decide (i≤j)) (q:=fun i j=>decide (i<j)) aD (ae 4) (ae 0)))))))
local macro_rules|`(‹65›)=>`((aE ao (aE ao av (pv 1)) av))
local macro_rules|`(‹66›)=>`((.Call (.Attribute o m apos) (e::es) [] pos))
local macro_rules|`(‹67›)=>`((cc (cb (K:=K) (ai.b (aR (aG (bF (ae 1) aD) (aG aD (aG aD aC))))))))
local macro_rules|`(‹68›)=>`((cc (cb (K:=K) (ai.b (aR (aG (ae 3) aC))))))
local macro_rules|`(‹69›)=>`((cn (K:=K) rfl (qM (K:=K) rfl (dJ Rj R3 Sj fK (pv 0) (aa av aj)))))
local macro_rules|`(‹70›)=>`((f.grow s1))
local macro_rules|`(‹71›)=>`((dF (dw (aJ eR (aq (ak 2) aP)))))
local macro_rules|`(‹72›)=>`((cP (hi pins s σ H _ I h) fun v s1 h1=>cP h1 fun itv s2 h2=>?_))
local macro_rules|`(‹73›)=>`((pA 1 bG.nd (qM (K:=K) rfl (dJ Rj To TY uH (pv 0) (aa av aj)))))
local macro_rules|`(‹74›)=>`((fun _ s''=>nQ X.prog X.w X.outer X.H₀ X.s₀ E (.ref a) s''))
local macro_rules|`(‹75›)=>`(X.env.locals)
local macro_rules|`(‹76›)=>`((bS 10 (bw (gI (bw (gI (aJ dz (aq (ak 2) (aq (ak 4) aP))) (aJ dB (aq (ak 4) (aq (aJ fQ (aq (ak 2) (aq (ak 9) aP))) aP))))) (aJ dA (aq (ak 2) (aq (ak 3) (aq (ak 4) aP))))))))
local macro_rules|`(‹77›)=>`((i9 (nT (T.eN 6 rfl).cl (T.M 14 rfl).t rfl (ae 0) (ju (ae 3) (gz (yM (aG (ae 4) aC)))))))
local macro_rules|`(‹78›)=>`(X.s₀.heap.objs.size)
local macro_rules|`(‹79›)=>`((g7 (K:=K) hr.units))
local macro_rules|`(‹80›)=>`((cy (dC (.bl false))))
local macro_rules|`(‹81›)=>`(["_law_script", "_law_desk", "_law_g", "_law_t", "_law_u", "_law_cell", "_law_works", "_law_text", "_law_listed", "_law_one", "_law_rows", "_law_row", "_law_mark"])
local macro_rules|`(‹82›)=>`((ha pins s σ H _ I h))
local macro_rules|`(‹83›)=>`((by simpa using hj))
local macro_rules|`(‹84›)=>`((fun a=>a=Dl∨cE Z os a))
local macro_rules|`(‹85›)=>`((EP X pins σ Q))
local macro_rules|`(‹86›)=>`((s.heap.push { cls:=.type "range", data:=.fields #[.int lo t,.int hi u,.int 1 v] }))
local macro_rules|`(‹87›)=>`((ai.b (dn (ae 0))))
local macro_rules|`(‹88›)=>`((a7 (bC.l (fE (ae 1) (ai.b au)))))
local macro_rules|`(‹89›)=>`((t.all (fun r=>decide (r.length=2))&&decide (Pr.Ok (h.getD 0 0).toNat (t.map CD))))
local macro_rules|`(‹90›)=>`((bp (aN (af (h.rs rfl) rfl) (jP h.gr hs)) ?_))
local macro_rules|`(‹91›)=>`((fun cdv A outer s H vs Q E hr h=>?_))
local macro_rules|`(‹92›)=>`((dF (dw (aJ cZ (aq (ak 3) aP)))))
local macro_rules|`(‹93›)=>`((T.M 13 rfl))
local macro_rules|`(‹94›)=>`((A.under (.builtin "type.__call__" ⟨.ref C::us,kw⟩)))
local macro_rules|`(‹95›)=>`((aN (af (c0 (e:=.lst (gG (M'.getD a []))) rfl rfl (Nc (lC sq' ha))) (af (c0 (e:=.lst (gG (M'.getD c []))) rfl rfl (Nc (lC sq' hc))) rfl)) (either _ _)))
local macro_rules|`(‹96›)=>`((fun _ _ _ _ _=>(iP (i:=0) ‹0› rfl (Se rfl) (SI rfl))))
local macro_rules|`(‹97›)=>`((b9 (a8 (K:=K) rfl (cM (iR T) ‹2› rfl T.dR (T.F 17 rfl).F.kp (T.F 17 rfl).b .nil eZ (aa (pv 2) aj)) (fun _=>rfl))))
local macro_rules|`(‹98›)=>`((a6 ‹13› (xX (tbl:=spT K [] [(711,cV),(768,du),(825,cS),(880,cq),(1000,dr),(1064,cT)]) (pv 1) (.cons (T.eN 5 rfl).cl (T.M 0 rfl).t (pT T) ‹2› (T.M 0 rfl).b (.cons (T.eN 4 rfl).cl (T.M 2 rfl).t (rQ T) ‹2› (T.M 2 rfl).b (.cons (T.eN 3 rfl).cl (T.M 4 rfl).t (pR T) ‹2› (T.M 4 rfl).b (.cons (T.eN 2 rfl).cl (T.M 6 rfl).t (m6 T) ‹2› (T.M 6 rfl).b (.cons (T.eN 1 rfl).cl (T.M 8 rfl).t (rP T) ‹2› (T.M 8 rfl).b (.cons (T.eN 0 rfl).cl (T.M 10 rfl).t (pS T) ‹2› (T.M 10 rfl).b .nil))))))) (pv 0) (aY _)))
local macro_rules|`(‹99›)=>`((af ‹10› (af ‹10› (af ‹10› rfl))))
local macro_rules|`(‹100›)=>`((dT (dN false ‹17› (dC (.str "names")))))
local macro_rules|`(‹101›)=>`((dT (dN false ‹17› (dC (.str "floor")))))
local macro_rules|`(‹102›)=>`((dS X N' scope cl ‹29› s3 H3 fp pins xe))
local macro_rules|`(‹103›)=>`((cm (cf (x:=true) (cj (aN ‹26› (by rw [kx h.gq,hq])) rfl)) (bj ?_)))
local macro_rules|`(‹104›)=>`((fun e s₁=>Rv ‹3› X.A (TC e X.env) (fun _ s₂=>Rv ‹3› X.A (VZ e none) (fun _ s₃=>Rv ‹3› X.A (Zb e X.env [.ExceptHandler (some (.Name y p4)) (some n) [.Assign [.Name v p5] (.Name n p6) p7] p8]) (SP X pins D) X.xe s₃) X.xe s₂) X.xe s₁))
local macro_rules|`(‹105›)=>`((a6 ‹13› (pv 0) av (aY _)))
local macro_rules|`(‹106›)=>`((bP X N' scope cl ‹29› s3 H3 fp pins))
local macro_rules|`(‹107›)=>`((gI (bw (c8 1 [12] (ig (dC (.int 5))) (gN true 0) cO (dN false (ak 1) (pK (ak 0) ‹27›)))) (bw (aq (dC (.bl true)) aP))))
local macro_rules|`(‹108›)=>`((aq (dC (.str "")) (aq (aL (ak 0) (dC (.str "abcdefgh"))) (aq (aL (k8 (ak 0) (eM ‹27›) ft) (dC (.str "A"))) (aq (aL (FH (ak 0) ft (eM (wz ‹27›))) (dC (.str "1"))) (aq (aL (k8 (ak 0) (eM ‹27›) ft) (dC (.str "-"))) aP))))))
local macro_rules|`(‹109›)=>`((bS 2 (bw (fh (ak 1) ‹39›))))
local macro_rules|`(‹110›)=>`((A.deeper (TM qual (aI st) ‹7› f cdv)))
local macro_rules|`(‹111›)=>`((eY (C:=ax) (T.eN 6 rfl).cl ‹93›.t (gP T) ‹2› ‹93›.b eZ (pv 1) (aa av aj)))
local macro_rules|`(‹112›)=>`((o7 _ s9 σ7 H9 (.ref ‹57›) [y] (.ref ‹57›) [v] (fun _ H'=>H'=upd H9 ‹57› (.lst (ys++[y]))) I9 rfl (.cons r9 .nil) ⟨_,ys,y,rfl,rfl,e9,z9,rfl⟩))
local macro_rules|`(‹113›)=>`((XW ‹40› A env fun e s'=>R (.error e) s'))
local macro_rules|`(‹114›)=>`((pA 3 bG.nd (gD (g9 T) (T.F 12 rfl) hr (aa ‹55› aj))))
local macro_rules|`(‹115›)=>`((a8 (K:=K) rfl (bb (yp (K:=K) rfl rfl) rfl (T.G 2 rfl) IM (aa (d9 rfl (cX rfl (T.G 6 rfl) ‹44›) (ts:=["work"]) (zs:=["before"]) (k:=1) (is:=[2]) rfl (.cons rfl .nil) ‹11› rfl rfl rfl (bO ‹6›) ‹96› (fun _ _ _ _ _=>(pX K (pX K (pv 1) (pv 0)) (pv 0))) rfl rfl ‹0›) aj)) (fun _=>rfl)))
local macro_rules|`(‹116›)=>`((zC (i:=2) dH.nd rfl rfl rfl (cX rfl (T.G 6 rfl) ‹44›) (ts:=["work"]) (zs:=["many"]) (k:=1) (is:=[0]) rfl (.cons rfl .nil) ‹11› rfl rfl rfl (bO ‹6›) ‹96› (fun _ _ _ _ _=>(aE Hw (cv (aa gO aj)) (pv 1))) rfl rfl ‹0›))
local macro_rules|`(‹117›)=>`((az (aW (d9 rfl (cn (K:=K) rfl (pv 2)) (ts:=["_law_row"]) (zs:=[]) (k:=1) (is:=[]) rfl .nil .nil rfl rfl rfl (bO ‹6›) ‹96› (fun _ _ _ _ _=>(kU (aa (pv 0) (aa aB aj)))) rfl rfl ‹0›))))
local macro_rules|`(tactic|show 0)=>`(tactic|(unfold CR at hq;dsimp only at hq ⊢;obtain ⟨a,T,cls,H',rfl,I',rc,o1,o2,C,rfl,hx,q'⟩:=I1.raised ow.ex hq;refine o6 (base:=X.base) (outer:=X.outer) (by rw [← ow.mY]; exact I'.ok.frames) (by rw [← ow.mY]; exact I'.stack) ow.fr rc fun h1 T' n1 r1 g1=>?_;have o3:=I'.out ow.ex n1;rw [← ow.mY] at g1))
local macro_rules|`(tactic|show 1)=>`(tactic|(obtain ⟨p,xs,rfl,z1,h1,l1,g1⟩:=i1.tI;obtain ⟨q,ys,rfl,z2,h2,l2,g2⟩:=i2.tI;cases rx;cases ry;obtain ⟨_,us,m1,k1,n1,o1⟩:=I.Bg h1;obtain ⟨_,ws,m2,k2,n2,o2⟩:=I.Bg h2;rw [z8] at h;have e1:=g1.length;have e2:=g2.length;by_cases hl:ds.length=es.length))
local macro_rules|`(tactic|show 2)=>`(tactic|(rw [TL ha] at hd;cases hd;have sq':=sq.inner hc (j:=a) (by lia);rw [fold_succ];generalize (Rl a).foldl (gM c) M=M' at sq' ⊢;refine ⟨_,rfl,?_⟩;dsimp only [gN,wW,RZ,R0];refine qQ (cj (uR sq' ha hc rfl rfl rfl) rfl) (fun e=>?_) fun e=>bj ?_))
local macro_rules|`(tactic|show 3)=>`(tactic|(subst hK;intro pins s σ H xs us Q I r h;obtain ⟨p,vs,bs,rfl,hq,hb,q⟩:=h;obtain ⟨u,rfl,rx⟩:=vals1 r;cases rx;obtain ⟨its,r',pl,hz⟩:=I.list hq;have hl:=pl.isList;have hlt:p<s.heap.objs.size:=by obtain ⟨_,e,_⟩:=hl; exact Rm e))
local macro_rules|`(tactic|show 4)=>`(tactic|(generalize hs3:({ s2 with heap:=s2.heap.push { cls:=.type "list", dict:=none,data:=.seq ([]:List Q7).toArray } }:Rb)=s3 at I3;have es3:s3.heap=s2.heap.push { cls:=.type "list", dict:=none,data:=.seq ([]:List Q7).toArray }:=by rw [← hs3]))
local macro_rules|`(tactic|show 5)=>`(tactic|(refine ⟨m,hm,i+1,zs,H8,(Inv.nR I8).weak l7.symm k7,T.keep _ _ _ st6 fun b hb o e=>(I8.pin (b,o) (RA _ (RA _ (iS hb e)))).1,fun b hb=>?_,w8⟩;obtain ⟨o,e,d⟩:=T.obj _ _ st6 b hb;exact (I8.pin (b,o) (RA _ (RA _ (iS hb e)))).2.1))
local macro_rules|`(tactic|show 6)=>`(tactic|(refine land (env:=X.env) (outer:=X.outer) (s:={ s' with heap:=h1 }) r1 fun h2 r2 g2=>?_;rw [← ow.mY] at g2;have I2:Inv X pins σ H' { s' with heap:=h2,toks:=s'.toks }:=I1.D9 g2 fun b hb=>by rw [Q3.mp hb]; exact o3))
local macro_rules|`(tactic|show 7)=>`(tactic|(refine land (env:=X.env) (outer:=X.outer) (s:={ s with heap:=h1 }) r1 fun h2 r2 p2=>?_;rw [← ow.mY] at p2;have I2:Inv X pins σ H { s with heap:=h2,toks:=s.toks }:=I1.D9 p2 fun b hb=>by rw [Q3.mp hb]; exact o3))
local macro_rules|`(tactic|show 8)=>`(tactic|(refine X0 (Xv (i4 (X:=X.marked (.ref a)) (I2.marked _) hy my ?_ hdy)) (by intro z; cases z);have LT:Um ‹3› h2 (typeOf (.ref a)) (.ref C):=by obtain ⟨o,e1,e2,_⟩:=r2.exc;exact e2 ▸ (WX e1).andThen .now))
local macro_rules|`(tactic|show 9)=>`(tactic|(rename_i xs e0;refine hw f e0 fun J H1 s1 W Dl hD=>?_;have f1:=f.grow s1;have sD:∀ {H2:Hp} {ys:List V},bu H1 H2→bu H1 (upd H2 Dl (.lst ys)):=fun {H2 ys} s a o e=>by rw [a5 (bT e hD)]; exact s _ _ e))
local macro_rules|`(tactic|show 10)=>`(tactic|(by_cases hj:j=i))
local macro_rules|`(tactic|show 11)=>`(tactic|(obtain ⟨Z,ds,d,x,dx,p,ks,es,hz,a,hv,hd,hk,e,k⟩:=h;obtain ⟨t,h1,h2⟩:=hbody cdv A outer s H E hr;refine ⟨t,h1,h2 (startK hz a hN hv hd hk) ?_⟩;unfold fF at e;split at e))
local macro_rules|`(tactic|show 12)=>`(tactic|(exact p.elim))
local macro_rules|`(tactic|show 13)=>`(tactic|(rw [cL hj] at z; exact .inr ⟨j,z⟩))
set_option hygiene true
namespace L2
open PySem PySem.Spec PyProof.Rows
abbrev Key:=Sum Int Rf
def vT:Key→Q7→Bool
 | .inl k,v=>Value.isInt k v
 | .inr x,v=>Zf x v
def P5 (w:Sn):Key→Int
 | .inl k=>hashInt k
 | .inr x=>hashStr w x
theorem dM:∀ {k:Key} {v:Q7},vT k v=true→(∃ i t,k=XS i∧v=WJ i t)∨(∃ x t,k=R1 x∧v=Vn x t)
 | .inl i,v,h=>by obtain ⟨t,e⟩:=Value.isInt_shape (k:=i) (v:=v) h;exact .inl ⟨i,t,rfl,e⟩
 | .inr x,v,h=>by obtain ⟨t,e⟩:=Value.isStrOf_shape (x:=x) (v:=v) h;exact .inr ⟨x,t,rfl,e⟩
theorem Fq (i:Int) (t:Tok):vT (.inl i) (.int i t)=true:=by simp [vT,Value.isInt]
theorem Fp (x:Rf) (t:Tok):vT (.inr x) (.str x t)=true:=by simp [vT,Zf]
theorem M7 (a b:Int):decide ((XS a:Key)=XS b)=(a==b):=by
 by_cases e:a=b
 ·subst e; simp
 ·have h:¬ (XS a:Key)=XS b:=fun q=>e (Sum.inl.inj q);rw [decide_eq_false h];exact (beq_eq_false_iff_ne.mpr e).symm
theorem M4 (a b:Rf):decide ((R1 a:Key)=R1 b)=decide (a=b):=by
 by_cases e:a=b
 ·subst e; simp
 ·have h:¬ (R1 a:Key)=R1 b:=fun q=>e (Wj q);rw [decide_eq_false h,decide_eq_false e]
theorem M6 (a:Int) (b:Rf):decide ((XS a:Key)=R1 b)=false:=decide_eq_false (fun q=>nomatch q)
theorem M5 (a:Rf) (b:Int):decide ((R1 a:Key)=XS b)=false:=decide_eq_false (fun q=>nomatch q)
noncomputable def di (prog:Sd) (w:Sn):PySem.KeyKind prog w Key where
 is:=vT
 hash:=P5 w
 inj:=fun v a b ha hb=>by
  rcases dM ha with ⟨i,t,rfl,rfl⟩ | ⟨x,t,rfl,rfl⟩
  ·rcases dM hb with ⟨j,u,rfl,e⟩ | ⟨y,u,rfl,e⟩
   ·injection e with e1 _; rw [e1]
   ·exact nomatch e
  ·rcases dM hb with ⟨j,u,rfl,e⟩ | ⟨y,u,rfl,e⟩
   ·exact nomatch e
   ·injection e with e1 _; rw [e1]
 byValue:=fun k v h=>by rcases dM h with ⟨i,t,rfl,rfl⟩ | ⟨x,t,rfl,rfl⟩ <;> rfl
 pyHash:=fun hv h=>by
  rcases dM hv with ⟨i,t,rfl,rfl⟩ | ⟨x,t,rfl,rfl⟩
  ·exact wpAny_pyHash_int h
  ·exact wpAny_pyHash_str h
 eqBool:=fun hu hv h=>by
  rcases dM hu with ⟨i,t,rfl,rfl⟩ | ⟨x,t,rfl,rfl⟩
  ·rcases dM hv with ⟨j,u,rfl,rfl⟩ | ⟨y,u,rfl,rfl⟩
   ·rw [M7] at h; exact wpAny_eqBool_int h
   ·rw [M6] at h; exact X4 i t y u _ _ _ _ h
  ·rcases dM hv with ⟨j,u,rfl,rfl⟩ | ⟨y,u,rfl,rfl⟩
   ·rw [M5] at h; exact X5 x t j u _ _ _ _ h
   ·rw [M4] at h; exact wpAny_eqBool_str h
 «strs»:=fun k x t v h=>by
  rcases dM h with ⟨i,u,rfl,e⟩ | ⟨y,u,rfl,e⟩
  ·exact nomatch e
  ·injection e with e1 _;subst e1;cases v <;> rfl
theorem Be (prog:Sd) (w:Sn) (i:Int) (t:Tok):(di prog w).is (.inl i) (.int i t)=true:=Fq i t
theorem og (prog:Sd) (w:Sn) (x:Rf) (t:Tok):(di prog w).is (.inr x) (.str x t)=true:=Fp x t
inductive V where
 | non | bl (b:Bool) | int (i:Int) | str (x:Rf) | byt (b:Array UInt8) | flt (b:UInt64) | ref (a:Q6) | ty (n:String)
 deriving DecidableEq
noncomputable def RelV:V→Q7→Prop
 | .non,u=>u=Vo
 | .bl b,u=>u=X6 b
 | .int i,u=>∃ t,u=WJ i t
 | .str x,u=>∃ t,u=Vn x t
 | .byt b,u=>∃ t,u=YN b t
 | .flt b,u=>∃ t,u=YO b t
 | .ref a,u=>u=RQ a
 | .ty n,u=>u=X7 n
abbrev Vals:List V→List Q7→Prop:=Ta RelV
theorem Vals.length {xs:List V} {us:List Q7} (r:Vals xs us):xs.length=us.length:=UP r
theorem Vals.get:∀ {xs:List V} {us:List Q7} {i:Nat} {x:V},Vals xs us→xs[i]?=some x→∃ u,us[i]?=some u∧RelV x u
 | _,_,_,_,.nil,e=>by simp at e
 | _,_,0,_,.cons r _,e=>by simp at e; subst e; exact ⟨_,rfl,r⟩
 | _,_,i+1,x,.cons _ t,e=>by obtain ⟨u,h1,h2⟩:=Vals.get (i:=i) (x:=x) t (by simpa using e);exact ⟨u,by simpa using h1,h2⟩
theorem Vals.set {x:V} {u:Q7} (r:RelV x u):∀ {xs:List V} {us:List Q7} (i:Nat),Vals xs us→Vals (xs.set i x) (us.set i u)
 | _,_,_,.nil=>.nil
 | _,_,0,.cons _ t=>.cons r t
 | _,_,i+1,.cons q t=>.cons q (Vals.set r i t)
theorem Vals.append:∀ {xs ys:List V} {us ws:List Q7},Vals xs us→Vals ys ws→Vals (xs++ys) (us++ws)
 | _,_,_,_,.nil,s=>s
 | _,_,_,_,.cons r t,s=>.cons r (Vals.append t s)
theorem Vals.take:∀ {xs:List V} {us:List Q7} (n:Nat),Vals xs us→Vals (xs.take n) (us.take n)
 | _,_,0,_=>.nil
 | _,_,_+1,.nil=>.nil
 | _,_,n+1,.cons r t=>.cons r (Vals.take n t)
theorem Vals.drop:∀ {xs:List V} {us:List Q7} (n:Nat),Vals xs us→Vals (xs.drop n) (us.drop n)
 | _,_,0,r=>r
 | _,_,_+1,.nil=>.nil
 | _,_,n+1,.cons _ t=>Vals.drop n t
def lQ:Option V→Option Q7→Prop
 | some v,some u=>RelV v u
 | none,none=>True
 | _,_=>False
def KV {κ:Type}:List (κ×V)→List (κ×Q7)→Prop:=Ta fun (p:κ×V) (q:κ×Q7)=>p.1=q.1∧RelV p.2 q.2
def kV:Key→V
 | .inl i=>.int i
 | .inr x=>.str x
inductive HO where
 | lst (xs:List V)
 | tup (xs:List V)
 | dK (kvs:List (Key×V)) | dT (kvs:List (List Key×V))
 | set (S:Int→Bool) (n:Nat)
 | ins (C dx:Q6) (fs:List (Rf×V))
 | own (x:Q6)
 | xd (fs:List (Rf×V))
 | met (f x:Q6)
 | rng (lo hi:Int)
 | uM (o:TK) (u:HO)
 | tbl (ps:Array Q7)
 | ext (φ:SA→Prop)
abbrev Hp:=Q6→Option HO
def upd (H:Hp) (a:Q6) (o:HO):Hp:=fun b=>if b=a then some o else H b
variable {H:Hp} {a:Q6}
theorem br {o:HO}:upd H a o a=some o:=by unfold upd; rw [if_pos rfl]
theorem a5 {b:Q6} {o:HO} (h:b≠a):upd H a o b=H b:=by unfold upd; rw [if_neg h]
theorem OE {b:Q6} {o u:HO} (h:H a=some o) (h':H b=some u) (d:o≠u):a≠b:=by intro e; subst e; rw [h] at h'; exact d (R5 h')
theorem bT {b:Q6} {o:HO} (h:H a=some o) (h':H b=none):a≠b:=by intro e; subst e; rw [h] at h'; cases h'
section
variable (P:Sd) (w:Sn)
noncomputable def eF (H:Hp) (h:SA) (a:Q6):HO→Prop
 | .lst xs=>xs.length≤Q4∧∃ (its:List Q7) (n:Nat),Vals xs its∧h.get? a=some { cls:=.type "list", data:=.seq its.toArray n }
 | .tup xs=>xs.length≤Q4∧∃ its:List Q7,Vals xs its∧IsTup h a its.toArray
 | .dK kvs=>kvs.length≤Q4∧(a==Tu)=false∧∃ vs,KV kvs vs∧h.DictOf (di P w) a vs
 | .dT kvs=>kvs.length≤Q4∧(a==Tu)=false∧∃ xs:List (List Key×Q6×Q7),
  Ta (fun (p:List Key×V) (q:List Key×Q6×Q7)=>p.1=q.1∧H q.2.1=some (.tup (p.1.map kV))∧RelV p.2 q.2.2) kvs xs ∧
  ∃ o es ep,h.get? a=some o∧o.ExactDict∧o.data=.dict es ep∧es.toList=xs.map (entryOfKey (XU (di P w)))∧(xs.map (·.1)).Nodup
 | .set S n=>h.SetOf (intKind P w) a S n
 | .ins C dx fs=>H dx=some (.own a)∧fs.length≤1000∧dx≠a∧h.get? a=some (SD C dx) ∧
  ∃ mA,h.Ns1 dx mA∧(∀ f,lQ (fs.lookup f) (mA f))∧Yl mA (fs.map (·.1))
 | .own _=>∃ o,h.get? a=some o
 | .xd fs=>∃ mA,h.Ns1 a mA∧∀ f,lQ (fs.lookup f) (mA f)
 | .rng lo hi=>∃ t u v,h.get? a=some { cls:=.type "range", data:=.fields #[.int lo t,.int hi u,.int 1 v] }
 | .uM o u=>h.get? a=some o∧eF H h a u
 | .tbl ps=>∃ (q:Rf) (t:Tok) (qs:Array Q7),ps[0]?=some (.str q t)∧h.get? a=some { cls:=.none,data:=.fields qs }∧TriplesOk qs.toList ∧
  ∀ pos v,codeAmong pos qs.toList=some v→∃ c o u vs t,v=.ref c∧H c=some (.uM o u)∧o.data=.fields vs∧vs[1]?=some (.str q t)
 | .met f x=>h.get? a=some (Wl (.ref f) (.ref x))
 | .ext φ=>φ h∧(∃ o,h.get? a=some o)∧∀ h1 h2:SA,φ h1→(∀ o,h1.get? a=some o→h2.get? a=some o)→φ h2
def pL (H:Hp) (h:SA):Prop:=∀ a o,H a=some o→eF P w H h a o
end
section
variable {P:Sd} {w:Sn} {H H':Hp} {h h':SA} {a:Q6} {o:HO}
theorem eF.lt (x:eF P w H h a o):a<h.objs.size:=by
 cases o with
 | lst xs=>obtain ⟨_,_,_,_,e⟩:=x; exact Rm e
 | tup xs=>obtain ⟨_,_,_,p⟩:=x; exact p.lt
 | dK kvs=>obtain ⟨_,_,_,_,o,_,_,e,_⟩:=x; exact Rm e
 | dT kvs=>obtain ⟨_,_,_,_,o,_,_,e,_⟩:=x; exact Rm e
 | set S n=>obtain ⟨o,_,_,_,e,_⟩:=x; exact Rm e
 | ins C dx fs=>obtain ⟨_,_,_,e,_⟩:=x; exact Rm e
 | own y=>obtain ⟨_,e⟩:=x; exact Rm e
 | xd fs=>obtain ⟨_,⟨_,_,_,e,_⟩,_⟩:=x; exact Rm e
 | rng lo hi=>obtain ⟨_,_,_,e⟩:=x; exact Rm e
 | uM ob u=>obtain ⟨e,_⟩:=x; exact Rm e
 | tbl ps=>obtain ⟨_,_,_,_,e,_⟩:=x; exact Rm e
 | met f y=>exact Rm (show h.get? a=some _ from x)
 | ext φ=>obtain ⟨_,⟨_,e⟩,_⟩:=x; exact Rm e
theorem Paired.MV {α β:Type} {F G:α→β→Prop}:∀ {l₁:List α} {l₂:List β},Ta F l₁ l₂→(∀ a b,F a b→G a b)→Ta G l₁ l₂
 | _,_,.nil,_=>.nil
 | _,_,.cons r t,f=>.cons (f _ _ r) (Paired.MV t f)
theorem eF.t7 (x:eF P w H h a o) (k:∀ b u,(b=a∨H b=some (.own a))→h.get? b=some u→h'.get? b=some u)
 (ho:∀ b,H b=some (.own a)→H' b=some (.own a)) (ht:∀ b xs,H b=some (.tup xs)→H' b=some (.tup xs)) (hz:∀ b o u,H b=some (.uM o u)→H' b=some (.uM o u):=by first | exact fun _ _ _ q=>q | (intro b o u q; rw [a5 (bT q (by assumption))]; exact q)):eF P w H' h' a o:=by
 induction o with
 | lst xs=>obtain ⟨z,its,n,r,e⟩:=x; exact ⟨z,its,n,r,k _ _ (.inl rfl) e⟩
 | tup xs=>obtain ⟨z,its,r,ob,e,c⟩:=x; exact ⟨z,its,r,ob,k _ _ (.inl rfl) e,c⟩
 | dK kvs=>obtain ⟨z,y,vs,r,ob,es,ep,e,c⟩:=x; exact ⟨z,y,vs,r,ob,es,ep,k _ _ (.inl rfl) e,c⟩
 | dT kvs =>obtain ⟨z,y,xs,r,ob,es,ep,e,c⟩:=x;exact ⟨z,y,xs,Paired.MV r fun p q z=>⟨z.1,ht _ _ z.2.1,z.2.2⟩,ob,es,ep,k _ _ (.inl rfl) e,c⟩
 | set S n=>obtain ⟨ob,es,ep,t,e,c⟩:=x; exact ⟨ob,es,ep,t,k _ _ (.inl rfl) e,c⟩
 | ins C dx fs =>obtain ⟨d,z,ne,e,mA,⟨od,es,ep,e2,c⟩,r⟩:=x;exact ⟨ho _ d,z,ne,k _ _ (.inl rfl) e,mA,⟨od,es,ep,k _ _ (.inr d) e2,c⟩,r⟩
 | own y=>obtain ⟨ob,e⟩:=x; exact ⟨ob,k _ _ (.inl rfl) e⟩
 | xd fs=>obtain ⟨mA,⟨od,es,ep,e,c⟩,r⟩:=x; exact ⟨mA,⟨od,es,ep,k _ _ (.inl rfl) e,c⟩,r⟩
 | rng lo hi=>obtain ⟨t,u,v,e⟩:=x; exact ⟨t,u,v,k _ _ (.inl rfl) e⟩
 | uM ob u ih=>obtain ⟨e,q⟩:=x; exact ⟨k _ _ (.inl rfl) e,ih q⟩
 | tbl ps =>obtain ⟨q,t,qs,h0,h1,h2,h3⟩:=x;refine ⟨q,t,qs,h0,k _ _ (.inl rfl) h1,h2,fun pos v e=>?_⟩;obtain ⟨c,o,u,vs,t2,e1,e2,e3⟩:=h3 pos v e;exact ⟨c,o,u,vs,t2,e1,hz _ _ _ e2,e3⟩
 | met f y =>have e:h.get? a=some (Wl (.ref f) (.ref y)):=x;show h'.get? a=some (Wl (.ref f) (.ref y));exact k a _ (.inl rfl) e
 | ext φ=>obtain ⟨p,⟨o,e⟩,st⟩:=x; exact ⟨st _ _ p fun o q=>k _ _ (.inl rfl) q,⟨o,k _ _ (.inl rfl) e⟩,st⟩
theorem pL.lt (x:pL P w H h) (e:H a=some o):a<h.objs.size:=(x a o e).lt
theorem pL.fresh (x:pL P w H h) (e:h.objs.size≤a):H a=none:=by
 cases q:H a with
 | none=>rfl
 | some u=>exact absurd (RC (x.lt q) e) (Sg _)
theorem pL.kept (x:pL P w H h) (k:∀ b u,h.get? b=some u→h'.get? b=some u):pL P w H h':=fun a o e =>(x a o e).t7 (fun b u _ q=>k b u q) (fun _ q=>q) fun _ _ q=>q
theorem pL.laid (x:pL P w H h) (k:∀ b u,h.get? b=some u→h'.get? b=some u) (hp:h.objs.size≤a) (new:eF P w (upd H a o) h' a o):pL P w (upd H a o) h':=fun b u e=>by
 have hn:=x.fresh hp;by_cases hb:b=a
 ·subst hb; rw [br] at e; cases e; exact new
 ·rw [a5 hb] at e;exact (x b u e).t7 (fun c v _ q=>k c v q) (fun c q=>by rw [a5 (bT q hn)]; exact q) fun c xs q=>by rw [a5 (bT q hn)]; exact q
end
def Rd (H:Hp) (a:Q6) (u:HO):Prop:=H a=some u∨∃ o,H a=some (.uM o u)
variable {P:Sd}
theorem Rd.ok {w:Sn} {h:SA} {u:HO} (r:Rd H a u) (x:pL P w H h):eF P w H h a u:=by
 rcases r with r | ⟨o,r⟩
 ·exact x a u r
 ·obtain ⟨_,q⟩:=x a _ r;exact q
def Pl:Option HO→Prop
 | some (.lst _)=>True
 | some (.dK _)=>True
 | some (.dT _)=>True
 | some (.set _ _)=>True
 | some (.ins _ _ _)=>True
 | some (.ext _)=>True
 | _=>False
section
variable {P:Sd} {w:Sn} {H:Hp} {h h':SA} {x e:Q6} {o':HO}
theorem pL.write (ok:pL P w H h) (mu:Pl (H x)) (he:e=x∨H e=some (.own x)) (k:∀ b u,b≠e→h.get? b=some u→h'.get? b=some u) (heo:∃ u,h'.get? e=some u)
 (new:eF P w (upd H x o') h' x o'):pL P w (upd H x o') h':=fun b u q=>by
 have nown:∀ c y,H c=some (.own y)→c≠x:=fun c y r z=>by subst z; rw [r] at mu; exact mu
 have ntup:∀ c xs,H c=some (.tup xs)→c≠x:=fun c xs r z=>by subst z; rw [r] at mu; exact mu
 have nfrz:∀ c o u,H c=some (.uM o u)→c≠x:=fun c o u r z=>by subst z; rw [r] at mu; exact mu
 by_cases hb:b=x
 ·subst hb; rw [br] at q; cases q; exact new
 ·rw [a5 hb] at q;by_cases hbe:b=e
  ·have q':H b=some (.own x):=by
    rcases he with z | z
    ·exact absurd (hbe.trans z) hb
    ·rw [hbe]; exact z
   rw [q] at q'; cases q';obtain ⟨v,hv⟩:=heo;exact ⟨v,by rw [hbe]; exact hv⟩
  ·refine (ok b u q).t7 (fun c v hc r=>k c v ?_ r) (fun c r=>by rw [a5 (nown c b r)]; exact r) (fun c xs r=>by rw [a5 (ntup c xs r)]; exact r) fun c o u r=>by rw [a5 (nfrz c o u r)]; exact r
   rcases hc with rfl | hc
   ·exact hbe
   ·rintro rfl;rcases he with z | z
    ·exact nown c b hc z
    ·rw [hc] at z; cases z; exact hb rfl
end
structure Un (fs ex:List Q6) (H H':Hp) (h h':SA):Prop where
 keep:∀ b o,h.get? b=some o→H b=none→b∉fs→b∉ex→h'.get? b=some o
 slot:∀ b o,h.get? b=some o→H b=none→b∈fs→b∉ex→∃ sl,h'.get? b=some { o with slots:=sl }
 free:∀ b o,h.get? b=some o→H b=none→b∉ex→H' b=none
 there:∀ b o,h.get? b=some o→b∉ex→∃ o',h'.get? b=some o'
 u7:∀ b xs,H b=some (.tup xs)→H' b=some (.tup xs)
 uh:∀ b o u,H b=some (.uM o u)→H' b=some (.uM o u)
 u9:∀ b ps,H b=some (.tbl ps)→∃ more,H' b=some (.tbl (ps++more))
section
variable {fs fs' ex ex':List Q6} {H H1 H2:Hp} {h h1 h2 h':SA} {a x e:Q6} {o:HO}
theorem Un.any (u:Un fs ex H H1 h h1) {b:Q6} {ob:TK} (q:h.get? b=some ob) (n:H b=none) (hx:b∉ex):∃ sl,h1.get? b=some { ob with slots:=sl }:=by
 by_cases hb:b∈fs
 ·exact u.slot b ob q n hb hx
 ·exact ⟨ob.slots,u.keep b ob q n hb hx⟩
theorem Un.kept (k:∀ b u,h.get? b=some u→h'.get? b=some u):Un fs ex H H h h' :=
 ⟨fun b ob q _ _ _=>k b ob q,fun b ob q _ _ _=>⟨ob.slots,k b ob q⟩,fun _ _ _ n _=>n,fun b ob q _=>⟨ob,k b ob q⟩,fun _ _ q=>q,fun _ _ _ q=>q,fun _ ps q=>⟨#[],by rw [q]; simp⟩⟩
theorem Un.refl:Un fs ex H H h h:=Un.kept fun _ _ q=>q
theorem Un.laid (k:∀ b u,h.get? b=some u→h'.get? b=some u) (hp:h.objs.size≤a) (hn:H a=none):Un fs ex H (upd H a o) h h' where
 keep:=fun b u q _ _ _=>k b u q
 slot:=fun b u q _ _ _=>⟨u.slots,k b u q⟩
 free:=fun b u q n _=>by rw [a5 (RX (RC (Rm q) hp))]; exact n
 there:=fun b u q _=>⟨u,k b u q⟩
 u7:=fun b xs q=>by rw [a5 (bT q hn)]; exact q
 uh:=fun b u xs q=>by rw [a5 (bT q hn)]; exact q
 u9:=fun b ps q=>⟨#[],by rw [a5 (bT q hn),q]; simp⟩
theorem Un.write (mu:Pl (H x)) (he:e=x∨H e=some (.own x)) (k:∀ b u,b≠e→h.get? b=some u→h'.get? b=some u) (heo:∃ u,h'.get? e=some u):Un fs ex H (upd H x o) h h':=by
 have hx:∀ b,H b=none→b≠x:=fun b n z=>by subst z; rw [n] at mu; exact mu
 have hb:∀ b,H b=none→b≠e:=fun b n z=>by
  subst z;rcases he with r | r
  ·exact hx b n r
  ·rw [n] at r; cases r
 have hm:∀ b u,H b=some u→¬ Pl (some u)→b≠x:=fun b u q nm z=>by subst z; rw [q] at mu; exact nm mu
 refine ⟨fun b u q n _ _=>k b u (hb b n) q,fun b u q n _ _=>⟨u.slots,k b u (hb b n) q⟩,fun b u q n _=>by rw [a5 (hx b n)]; exact n,fun b u q _=>?_,
  fun b xs q=>by rw [a5 (hm b _ q fun z=>z)]; exact q,fun b u xs q=>by rw [a5 (hm b _ q fun z=>z)]; exact q,fun b ps q=>⟨#[],by rw [a5 (hm b _ q fun z=>z),q]; simp⟩⟩
 by_cases hbe:b=e
 ·subst hbe; exact heo
 ·exact ⟨u,k b u hbe q⟩
end
def Po (h:SA) (H:Hp):List Q6:=(Rl h.objs.size).filter fun a=>(H a).isSome
def zW (h:SA) (H:Hp):SA:=PySem.W.hideAll h (Po h H)
theorem Fy (h:SA) (H:Hp):(zW h H).objs.size=h.objs.size:=PySem.W.hideAll_size _ _
variable {o:TK}
theorem Ie {h:SA} {b:Q6} (e:h.get? b=some o) (n:H b=none):(zW h H).get? b=some o :=
 PySem.W.hideAll_get _ e fun hm=>by have q:(H b).isSome=true:=(YU.mp hm).2;rw [n] at q; simp at q
theorem JY {h:SA} {b:Q6} (e:(zW h H).get? b=some o):h.get? b=some o∧H b=none:=by
 have e':h.get? b=some o:=PySem.W.of_hideAll (Po h H) e;refine ⟨e',?_⟩;cases q:H b with
 | none=>rfl
 | some x =>have hm:b∈Po h H:=YU.mpr ⟨Sa.mpr (Rm e'),by simp [q]⟩;have z:(zW h H).get? b=none:=PySem.W.hideAll_none (Po h H) hm;rw [z] at e; cases e
def r8 (g h:SA) (L:Q6):List (Q6×TK):=(Rl h.objs.size).filterMap fun a=>if a=L∨(g.get? a).isSome=true then none else (h.get? a).map fun o=>(a,o)
variable {L:Q6}
theorem Bf {g h:SA} (h1:a≠L) (h2:g.get? a=none) (h3:h.get? a=some o):(a,o)∈r8 g h L :=
 Ug.mpr ⟨a,Sa.mpr (Rm h3),by simp [h1,h2,h3]⟩
theorem vI {g h:SA} {p:Q6×TK} (hp:p∈r8 g h L):p.1≠L∧g.get? p.1=none∧h.get? p.1=some p.2:=by
 obtain ⟨b,_,e⟩:=Ug.mp hp;split at e
 ·cases e
 ·rename_i hn;cases q:h.get? b with
  | none=>rw [q] at e; simp at e
  | some u =>
   rw [q] at e;simp only [YV,Ym] at e;subst e;refine ⟨fun z=>hn (.inl z),?_,q⟩;show g.get? b=none;cases r:g.get? b with
   | none=>rfl
   | some v=>exact (hn (.inr (by simp [r]))).elim
def rest (g h:SA) (L d:Q6):List (Q6×TK):=(r8 g h L).filter fun p=>decide (p.1≠d)
theorem HH {g h:SA}:News g L h (r8 g h L):=fun p hp=>let ⟨a,b,c⟩:=vI hp; ⟨c,a,b⟩
structure Mod (K:Q2) (mg:Rf→Option Q7) (base:SA):Prop where
 Jb:K.In base
 glob:base.Ns SF mg
 blt:∃ mb,base.Ns Y2 mb∧∀ x:Rf,x ≠ "__name__" → mb x=S3 x
 nolimit:base.NoLimit
structure Cx where
 prog:Sd
 w:Sn
 K:Q2
 mg:Rf→Option Q7
 base:SA
 A:SG
 N:List Rf
 s₀:Rb
 H₀:Hp
 env:XX
 outer:List XX
 stack:List XX
 ex:List Q6
 fn:Rf→Bool
 calm:Bool
 pn:List (Q6×TK)
 xe:Q7→Rb→Prop
def ui (l:List XX):List Q6:=l.filterMap (·.frame)
abbrev Cx.fs (X:Cx):List Q6:=ui X.outer
def LO (sc:Va) (x:Rf):Prop:=sc.names.lookup x=some .local∨sc.names.lookup x=some .cell∨sc.names.lookup x=some .free
def Loc (sc:Va) (x:Rf):Prop:=sc.names.lookup x=some .local∨sc.names.lookup x=some .cell
def Look (env:XX) (h:SA) (m:Rf→Option Q7) (x:Rf) (u:Q7):Prop :=
 (env.kindOf x=some .local∧m x=some u)∨((env.kindOf x=some .cell∨env.kindOf x=some .free)∧∃ c,env.cells.lookup x=some c∧h.IsCell c (some u))
structure Cx.Ok (X:Cx):Prop where
 mod:Mod X.K X.mg X.base
 kind:X.env.scope.kind=.function
 glob:X.env.globals=SF
 blt:X.env.builtins=Y2
 above:‹78›≤‹75›
 inj:∀ x y c,X.env.cells.lookup x=some c→X.env.cells.lookup y=some c→x=y
 has:∀ x,(X.env.kindOf x=some .cell∨X.env.kindOf x=some .free)→∃ c,X.env.cells.lookup x=some c
 cab:∀ x c,X.fn x=true→X.env.cells.lookup x=some c→‹78›≤c
 hd:X.calm=true→X.A.handled=none
 frames:X.A.frames=some X.stack
 mY:X.stack=X.outer∨(X.stack=X.env::X.outer∧X.env.frame=some ‹75›)
 exf:∀ b∈X.ex,b≠‹75›∧∀ x c,X.env.cells.lookup x=some c→c≠b
 bs:∀ b o,X.base.get? b=some o→X.s₀.heap.get? b=some o∧X.H₀ b=none
 FR:X.base.objs.size≤‹78›
 noex:∀ b o,X.base.get? b=some o→b∉X.ex
 Iq:∀ b∈X.ex,b∉X.fs
 sU:X.s₀.heap.FunFrames X.base X.outer
 LG:∀ b∈X.fs,X.H₀ b=none
variable {ch:List Q6} {t':Nat} {it:Q6} {x:Rf} {M:Zk} {A:SG} {E:Q7→Rb→Prop} {u:Q7}
structure Inv (X:Cx) (pins:List (Q6×TK)) (σ:List (Option V)) (H:Hp) (s:Rb):Prop where
 ok:X.Ok
 os:s.os=X.s₀.os
 bare:Wm s.gens
 base:Un X.fs X.ex X.H₀ H X.s₀.heap s.heap
 loc:∃ m,s.heap.Ns ‹75› m∧∀ (i:Nat) (x:Rf) (v:V),X.N[i]?=some x→σ[i]?=some (some v)→LO X.env.scope x→∃ u,RelV v u∧Look X.env s.heap m x u
 cell:∀ x c,X.env.cells.lookup x=some c→∃ v,s.heap.IsCell c v
 free:H ‹75›=none
 jh:∀ x c,X.env.cells.lookup x=some c→H c=none
 pin:∀ p∈X.pn++pins,s.heap.get? p.1=some p.2∧H p.1=none∧p.1≠‹75›∧p.1∉X.fs∧∀ v,p.2.data≠.cell v
 dm:pL X.prog X.w H s.heap
 len:σ.length=X.N.length
section
variable {X:Cx} {pins:List (Q6×TK)} {σ:List (Option V)} {H H':Hp} {s:Rb} {h':SA}
theorem Cx.Ok.P0 (ok:X.Ok) {b:Q6} (e:X.base.get? b=some o):b∉X.fs:=fun hb=>by have:=(ok.sU.mem hb).1;rw [e] at this; cases this
theorem Inv.bs (I:Inv X pins σ H s):∀ b o,X.base.get? b=some o→s.heap.get? b=some o∧H b=none:=fun b o e =>⟨I.base.keep b o (I.ok.bs b o e).1 (I.ok.bs b o e).2 (I.ok.P0 e) (I.ok.noex b o e),I.base.free b o (I.ok.bs b o e).1 (I.ok.bs b o e).2 (I.ok.noex b o e)⟩
theorem Inv.bk (I:Inv X pins σ H s):∀ b o,X.base.get? b=some o→s.heap.get? b=some o:=fun b o e=>(I.bs b o e).1
theorem Inv.mod (I:Inv X pins σ H s):Mod X.K X.mg X.base:=I.ok.mod
theorem Inv.qw (I:Inv X pins σ H s):X.K.In s.heap:=I.ok.mod.Jb.keeps I.bk
theorem Inv.fr (I:Inv X pins σ H s):∃ m,Fr X.base ‹75› s.heap m :=
 let ⟨m,hn,_⟩:=I.loc
 ⟨m,hn,I.bk,RE I.ok.FR I.ok.above⟩
theorem Inv.lt (I:Inv X pins σ H s):‹75›<s.heap.objs.size:=let ⟨_,hn,_⟩:=I.loc; hn.lt
theorem Inv.sz (I:Inv X pins σ H s):‹78›≤s.heap.objs.size:=RE I.ok.above (W6 I.lt)
theorem Inv.PZ (I:Inv X pins σ H s) (h:‹7›≤a):a∉X.fs:=fun hb=>by obtain ⟨_,o,ho,_⟩:=I.ok.sU.mem hb;exact absurd (RC (Rm ho) (RE I.sz h)) (Sg _)
theorem Inv.LN (I:Inv X pins σ H s):∀ x c,X.env.cells.lookup x=some c→c≠X.env.locals:=fun x c e z=>by obtain ⟨v,o,ho,hd⟩:=I.cell x c e;obtain ⟨m,⟨o',es,ep,ho',hd',_⟩,_⟩:=I.loc;rw [z,ho'] at ho; cases ho; rw [hd'] at hd; cases hd
theorem Inv.sU (I:Inv X pins σ H s):s.heap.FunFrames X.base X.outer:=by
 have all:∀ (l:List XX),(∀ b∈ui l,b∈X.fs)→X.s₀.heap.FunFrames X.base l→s.heap.FunFrames X.base l:=by
  intro l;induction l with
  | nil=>intro _ _; trivial
  | cons env r ih =>intro hs hl;obtain ⟨hk,⟨L,o,hf,hn,ho,hd⟩,hr⟩:=hl;have hL:L∈X.fs:=hs L (by unfold ui; rw [UK,hf]; exact Q9);obtain ⟨sl,e⟩:=I.base.slot L o ho (I.ok.LG L hL) hL fun z=>I.ok.Iq L z hL;exact ⟨hk,⟨L,_,hf,hn,e,hd⟩,ih (fun b hb=>hs b (by unfold ui; rw [UK,hf]; exact Ra _ hb)) hr⟩
 exact all X.outer (fun _ hb=>hb) I.ok.sU
theorem Inv.stack (I:Inv X pins σ H s):s.heap.FunFrames X.base X.stack:=by
 rcases I.ok.mY with e | ⟨e,hf⟩
 ·rw [e]; exact I.sU
 ·rw [e];obtain ⟨m,hn,_⟩:=I.loc;refine .cons (by rw [I.ok.kind]; decide) hf hn ?_ I.sU;exact Xx (RE I.ok.FR I.ok.above)
theorem Inv.qc (I:Inv X pins σ H s):∀ b∈ui X.stack,b∈X.env.locals::X.fs:=fun b hb=>by
 rcases I.ok.mY with e | ⟨e,hf⟩
 ·rw [e] at hb; exact Ra _ hb
 ·rw [e] at hb;unfold ui at hb;rw [UK,hf] at hb;exact hb
theorem Inv.ux (I:Inv X pins σ H s):∀ b∈ui X.stack,H b=none:=fun b hb=>by
 rcases Ri.mp (I.qc b hb) with e | hb
 ·rw [e]; exact I.free
 ·obtain ⟨_,o,ho,_⟩:=I.ok.sU.mem hb;exact I.base.free b o ho (I.ok.LG b hb) fun z=>I.ok.Iq b z hb
theorem Inv.step {g':Array GenState} {t':Nat} {d':Drawn} (I:Inv X pins σ H s)
 (hch:∀ b∈ch,(b∈X.ex∨‹78›≤b)∧b≠‹75›∧(∀ x c,X.env.cells.lookup x=some c→c≠b)∧∀ p∈X.pn++pins,p.1≠b)
 (keep:∀ b o,b≠‹75›→b∉X.fs→b∉ch→s.heap.get? b=some o→H b=none→h'.get? b=some o)
 (slot:∀ b o,b≠‹75›→b∈X.fs→b∉ch→s.heap.get? b=some o→H b=none→∃ sl,h'.get? b=some { o with slots:=sl }) (free:∀ b o,b∉ch→s.heap.get? b=some o→H b=none→H' b=none)
 (there:∀ b o,b∉ch→s.heap.get? b=some o→∃ o',h'.get? b=some o')
 (u7:∀ b xs,H b=some (.tup xs)→H' b=some (.tup xs)) (uh:∀ b o u,H b=some (.uM o u)→H' b=some (.uM o u)) (u9:∀ b ps,H b=some (.tbl ps)→∃ more,H' b=some (.tbl (ps++more)))
 (ns:∀ m,s.heap.Ns ‹75› m→h'.Ns ‹75› m) (dm:pL X.prog X.w H' h') (hg:Wm g') :
 Inv X pins σ H' { s with heap:=h',gens:=g',drawn:=d',toks:=t' }:=by
 have neL:∀ b o,X.s₀.heap.get? b=some o→b≠X.env.locals:=fun b o e=>RX (RC (Rm e) I.ok.above)
 have neC:∀ b o,X.s₀.heap.get? b=some o→b∉X.ex→b∉ch:=fun b o e hx hb=>by
  rcases (hch b hb).1 with z | z
  ·exact hx z
  ·exact absurd (RC (Rm e) z) (Sg _)
 have cellK:∀ x c,X.env.cells.lookup x=some c→∀ v,s.heap.IsCell c v→h'.IsCell c v:=fun x c e v ⟨o,ho,hd⟩=>by
  have nch:c∉ch:=fun z=>(hch c z).2.2.1 x c e rfl;by_cases hc:c∈X.fs
  ·obtain ⟨sl,q⟩:=slot c o (I.LN x c e) hc nch ho (I.jh x c e);exact ⟨_,q,hd⟩
  ·exact ⟨o,keep c o (I.LN x c e) hc nch ho (I.jh x c e),hd⟩
 refine ⟨I.ok,I.os,hg,⟨fun b o e n hb hx=>?_,fun b o e n hb hx=>?_,fun b o e n hx=>?_,fun b o e hx=>?_,fun b xs e=>u7 b xs (I.base.u7 b xs e),fun b o xs e=>uh b o xs (I.base.uh b o xs e),fun b ps e=>?_⟩,?_,fun x c e=>?_,?_,fun x c e=>?_,fun p hp=>?_,dm,I.len⟩
 ·exact keep b o (neL b o e) hb (neC b o e hx) (I.base.keep b o e n hb hx) (I.base.free b o e n hx)
 ·obtain ⟨sl,e1⟩:=I.base.slot b o e n hb hx;obtain ⟨sl',e2⟩:=slot b _ (neL b o e) hb (neC b o e hx) e1 (I.base.free b o e n hx);exact ⟨sl',e2⟩
 ·obtain ⟨o',e1⟩:=I.base.there b o e hx;exact free b o' (neC b o e hx) e1 (I.base.free b o e n hx)
 ·obtain ⟨o',e1⟩:=I.base.there b o e hx;exact there b o' (neC b o e hx) e1
 ·obtain ⟨m1,e1⟩:=I.base.u9 b ps e;obtain ⟨m2,e2⟩:=u9 b _ e1;exact ⟨m1++m2,by rw [e2,Array.append_assoc]⟩
 ·obtain ⟨m,hn,hl⟩:=I.loc;refine ⟨m,ns m hn,fun i x v e1 e2 e3=>?_⟩;obtain ⟨u,r,l⟩:=hl i x v e1 e2 e3;refine ⟨u,r,?_⟩;rcases l with l | ⟨k,c,e,z⟩
  ·exact .inl l
  ·exact .inr ⟨k,c,e,cellK x c e _ z⟩
 ·obtain ⟨v,z⟩:=I.cell x c e;exact ⟨v,cellK x c e v z⟩
 ·obtain ⟨m,⟨o,_,_,ho,_⟩,_⟩:=I.loc;exact free _ o (fun z=>(hch _ z).2.1 rfl) ho I.free
 ·obtain ⟨v,o,ho,hd⟩:=I.cell x c e;exact free c o (fun z=>(hch c z).2.2.1 x c e rfl) ho (I.jh x c e)
 ·obtain ⟨e,n,ne,nf,d⟩:=I.pin p hp;have nch:p.1∉ch:=fun z=>(hch p.1 z).2.2.2 p hp rfl;exact ⟨keep p.1 p.2 ne nf nch e n,free p.1 p.2 nch e n,ne,nf,d⟩
theorem Inv.un (I:Inv X pins σ H s) (u:Un X.fs [] H H' s.heap h') (dm:pL X.prog X.w H' h'):Inv X pins σ H' { s with heap:=h',toks:=t' }:=by obtain ⟨m,⟨o,es,ep,ho,r⟩,_⟩:=id I.loc;obtain ⟨sl,hL⟩:=u.any ho I.free (by simp);exact I.step (g':=s.gens) (d':=s.drawn) (ch:=[]) (fun _ z=>nomatch z) (fun b o _ hb _ e n=>u.keep b o e n hb (by simp)) (fun b o _ hb _ e n=>u.slot b o e n hb (by simp)) (fun b o _ e n=>u.free b o e n (by simp)) (fun b o _ e=>u.there b o e (by simp)) u.u7 u.uh u.u9 (fun m' hm=>by obtain ⟨o',es',ep',ho',r'⟩:=hm;rw [ho] at ho'; cases ho';exact ⟨_,es',ep',hL,r'⟩) dm I.bare
theorem Inv.call {g':Array GenState} {d':Drawn} (I:Inv X pins σ H s) (u:Un (ui X.stack) ch H H' s.heap h') (dm:pL X.prog X.w H' h') (hg:Wm g')
 (hch:∀ b∈ch,(b∈X.ex∨‹78›≤b)∧b≠‹75›∧(∀ x c,X.env.cells.lookup x=some c→c≠b)∧∀ p∈X.pn++pins,p.1≠b) :
 Inv X pins σ H' { s with heap:=h',gens:=g',drawn:=d',toks:=t' }:=by
 obtain ⟨m,⟨o,es,ep,ho,r⟩,_⟩:=id I.loc;obtain ⟨sl,hL⟩:=u.any ho I.free fun z=>(hch _ z).2.1 rfl;exact I.step (ch:=ch) hch (fun b o hL hb hc e n=>u.keep b o e n (fun z=>(Ri.mp (I.qc b z)).elim hL hb) hc) (fun b o _ _ hc e n=>u.any e n hc) (fun b o hc e n=>u.free b o e n hc) (fun b o hc e=>u.there b o e hc) u.u7 u.uh u.u9 (fun m' hm=>by obtain ⟨o',es',ep',ho',r'⟩:=hm;rw [ho] at ho'; cases ho';exact ⟨_,es',ep',hL,r'⟩) dm hg
theorem Inv.turned (I:Inv X pins σ H s) (k:∀ b o,b≠it→s.heap.get? b=some o→h'.get? b=some o) (hn:H it=none) (hL:it≠‹75›)
 (h1:it∈X.ex∨‹78›≤it) (h2:∀ x c,X.env.cells.lookup x=some c→c≠it) (h3:∀ p∈X.pn++pins,p.1≠it):Inv X pins σ H { s with heap:=h',toks:=t' }:=by
 have nit:∀ b u,H b=some u→b≠it:=fun b u e z=>by rw [z,hn] at e; cases e
 refine I.step (g':=s.gens) (d':=s.drawn) (ch:=[it]) (fun b hb=>?_) (fun b o _ _ hc e _=>k b o (fun z=>hc (by simp [z])) e) (fun b o _ _ hc e _=>⟨o.slots,k b o (fun z=>hc (by simp [z])) e⟩) (fun _ _ _ _ n=>n)
  (fun b o hc e=>⟨o,k b o (fun z=>hc (by simp [z])) e⟩) (fun _ _ e=>e) (fun _ _ _ e=>e) (fun b ps e=>⟨#[],by rw [e]; simp⟩) (fun m hm=>?_) (fun b u e=>?_) I.bare
 ·have e:b=it:=by simpa using hb
  subst e;exact ⟨h1,hL,h2,h3⟩
 ·obtain ⟨o,es,ep,ho,r⟩:=hm;exact ⟨o,es,ep,k _ o (S6 hL) ho,r⟩
 ·refine (I.dm b u e).t7 (fun c v hc q=>k c v ?_ q) (fun _ q=>q) fun _ _ q=>q;rcases hc with z | z
  ·rw [z]; exact nit b u e
  ·exact nit c _ z
theorem Inv.tok (I:Inv X pins σ H s) (t:Nat):Inv X pins σ H { s with toks:=t }:=I.un (h':=s.heap) (t':=t) Un.refl I.dm
theorem Inv.kept {t':Nat} (I:Inv X pins σ H s) (k:∀ b u,s.heap.get? b=some u→h'.get? b=some u):Inv X pins σ H { s with heap:=h',toks:=t' }:=I.un (Un.kept k) (I.dm.kept k)
theorem Inv.laid {a:Q6} {o:HO} {t':Nat} (I:Inv X pins σ H s) (k:∀ b u,s.heap.get? b=some u→h'.get? b=some u) (hp:‹7›≤a) (new:eF X.prog X.w (upd H a o) h' a o) :
 Inv X pins σ (upd H a o) { s with heap:=h',toks:=t' }:=I.un (Un.laid k hp (I.dm.fresh hp)) (I.dm.laid k hp new)
theorem Inv.write {x e:Q6} {o:HO} {t':Nat} (I:Inv X pins σ H s) (mu:Pl (H x)) (he:e=x∨H e=some (.own x)) (k:∀ b u,b≠e→s.heap.get? b=some u→h'.get? b=some u) (heo:∃ u,h'.get? e=some u)
 (new:eF X.prog X.w (upd H x o) h' x o):Inv X pins σ (upd H x o) { s with heap:=h',toks:=t' }:=I.un (Un.write mu he k heo) (I.dm.write mu he k heo new)
theorem Inv.weak {σ':List (Option V)} (I:Inv X pins σ H s) (hl:σ'.length=σ.length) (w:∀ (i:Nat) v,σ'[i]?=some (some v)→σ[i]?=some (some v)):Inv X pins σ' H s :=
 ⟨I.ok,I.os,I.bare,I.base,let ⟨m,hn,hl'⟩:=I.loc; ⟨m,hn,fun i x v e1 e2 e3=>hl' i x v e1 (w i v e2) e3⟩,I.cell,I.free,I.jh,I.pin,I.dm,hl.trans I.len⟩
theorem Inv.DW {pins':List (Q6×TK)} (I:Inv X pins σ H s) (h:∀ p∈pins',s.heap.get? p.1=some p.2∧H p.1=none∧p.1≠‹75›∧p.1∉X.fs∧∀ v,p.2.data≠.cell v):Inv X pins' σ H s :=
 ⟨I.ok,I.os,I.bare,I.base,I.loc,I.cell,I.free,I.jh,fun p hp=>(RD.mp hp).elim (fun z=>I.pin p (S7 _ z)) (h p),I.dm,I.len⟩
theorem vJ {N:List Rf} (hN:N.Nodup) {i j:Nat} (a:N[i]?=some x) (b:N[j]?=some x):i=j:=by obtain ⟨h1,e1⟩:=Rp.mp a;obtain ⟨h2,e2⟩:=Rp.mp b;exact (List.getElem_inj hN).mp (e1.trans e2.symm)
theorem xI {i:Nat} {v:V} {Q:Unit→Rb→Prop} (I:Inv X pins σ H s) (hN:X.N.Nodup) (hi:X.N[i]?=some x) (hx:Loc X.env.scope x) (r:RelV v u)
 (h:∀ s',Inv X pins (σ.set i (some v)) H s'→(∃ a,Vd a s.heap s'.heap∧(a=‹75›∨X.env.cells.lookup x=some a))→Q () s') (hf:X.fn x=true∨X.env.scope.names.lookup x=some .local:=by first | exact .inl rfl | exact .inr rfl | assumption):Rv M A (storeName X.env x u) Q E s:=by
 obtain ⟨m,hn,hl⟩:=id I.loc;have hcls:(X.env.scope.kind==.class || (X.env.scope.kind==.module&&‹75› != X.env.globals))=false:=by rw [I.ok.kind]; rfl
 have hiσ:i < σ.length:=by rw [I.len]; exact (Rp.mp hi).1
 have LN:=I.LN
 have tracked:∀ {a:Q6} {h':SA},(∃ o,s.heap.get? a=some o∧H a=none)→Vd a s.heap h'→pL X.prog X.w H h':=fun {a h'} ha hs b ob e=>by
  obtain ⟨_,_,hfree⟩:=ha;refine (I.dm b ob e).t7 (fun c w' hc q=>(hs.2 c ?_).trans q) (fun _ q=>q) fun _ _ q=>q;rintro rfl;rcases hc with rfl | hc
  ·rw [hfree] at e; cases e
  ·rw [hfree] at hc; cases hc
 rcases hx with hk | hk
 ·refine wpAny_storeName_local hk hn (fun h' hn' hs=>?_) hcls;obtain ⟨oL,_,_,hoL,_⟩:=id hn;refine h _ ⟨I.ok,I.os,I.bare,⟨fun b o e n hb hx=>?_,fun b o e n hb hx=>?_,I.base.free,fun b o e hx=>?_,I.base.u7,I.base.uh,I.base.u9⟩,⟨_,hn',fun j y v' e1 e2 e3=>?_⟩,fun y c e=>?_,I.free,I.jh,fun p hp=>?_,tracked ⟨oL,hoL,I.free⟩ hs,by simpa using I.len⟩ ⟨_,hs,.inl rfl⟩
  ·exact (hs.2 b (RX (RC (Rm e) I.ok.above))).trans (I.base.keep b o e n hb hx)
  ·obtain ⟨sl,e1⟩:=I.base.slot b o e n hb hx;exact ⟨sl,(hs.2 b (RX (RC (Rm e) I.ok.above))).trans e1⟩
  ·obtain ⟨o',e1⟩:=I.base.there b o e hx;exact ⟨o',(hs.2 b (RX (RC (Rm e) I.ok.above))).trans e1⟩
  ·show 10
   ·subst hj;rw [hi] at e1; cases e1;rw [SS hiσ] at e2;cases e2;exact ⟨u,r,.inl ⟨hk,by simp⟩⟩
   ·rw [SH (S6 hj)] at e2;obtain ⟨u',r',q⟩:=hl j y v' e1 e2 e3;refine ⟨u',r',?_⟩;rcases q with ⟨k,e⟩ | ⟨k,c,e,z⟩
    ·refine .inl ⟨k,?_⟩;have:y≠x:=fun e=>hj (vJ hN e1 (e ▸ hi));simp [this,e]
    ·exact .inr ⟨k,c,e,z.sameBut hs (LN y c e)⟩
  ·obtain ⟨w',z⟩:=I.cell y c e;exact ⟨w',z.sameBut hs (LN y c e)⟩
  ·obtain ⟨e,n,ne,nf,d⟩:=I.pin p hp;exact ⟨(hs.2 p.1 ne).trans e,n,ne,nf,d⟩
 ·have hfn:X.fn x=true:=by
   rcases hf with z | z
   ·exact z
   ·rw [z] at hk; cases hk
  obtain ⟨c,hc⟩:=I.ok.has x (.inl hk);obtain ⟨w',z⟩:=I.cell x c hc;refine wpAny_storeName_cell I.ok.kind hk hc z (fun h' hc' hs=>?_);obtain ⟨oc,hoc,hocd⟩:=id z;refine h { s with heap:=h' } ⟨I.ok,I.os,I.bare,⟨fun b o e n hb hx=>?_,fun b o e n hb hx=>?_,I.base.free,fun b o e hx=>?_,I.base.u7,I.base.uh,I.base.u9⟩,⟨m,hn.sameBut hs (S6 (LN x c hc)),fun j y v' e1 e2 e3=>?_⟩,fun y c' e=>?_,I.free,I.jh,fun p hp=>?_,tracked ⟨oc,hoc,I.jh x c hc⟩ hs,by simpa using I.len⟩ ⟨c,hs,.inr hc⟩
  ·exact (hs.2 b (RX (RC (Rm e) (I.ok.cab x c hfn hc)))).trans (I.base.keep b o e n hb hx)
  ·obtain ⟨sl,e1⟩:=I.base.slot b o e n hb hx;exact ⟨sl,(hs.2 b (RX (RC (Rm e) (I.ok.cab x c hfn hc)))).trans e1⟩
  ·obtain ⟨o',e1⟩:=I.base.there b o e hx;exact ⟨o',(hs.2 b (RX (RC (Rm e) (I.ok.cab x c hfn hc)))).trans e1⟩
  ·show 10
   ·subst hj;rw [hi] at e1; cases e1;rw [SS hiσ] at e2;cases e2;exact ⟨u,r,.inr ⟨.inl hk,c,hc,hc'⟩⟩
   ·rw [SH (S6 hj)] at e2;obtain ⟨u',r',q⟩:=hl j y v' e1 e2 e3;refine ⟨u',r',?_⟩;rcases q with q | ⟨k,c',e,z'⟩
    ·exact .inl q
    ·refine .inr ⟨k,c',e,z'.sameBut hs ?_⟩;rintro rfl;exact hj (vJ hN e1 (I.ok.inj _ _ _ e hc ▸ hi))
  ·by_cases hcc:c'=c
   ·subst hcc; exact ⟨_,hc'⟩
   ·obtain ⟨w2,z2⟩:=I.cell y c' e;exact ⟨w2,z2.sameBut hs hcc⟩
  ·obtain ⟨e,n,ne,nf,d⟩:=I.pin p hp;refine ⟨(hs.2 p.1 ?_).trans e,n,ne,nf,d⟩;intro q;rw [q,hoc] at e;have q':oc=p.2:=R5 e;exact d w' (by rw [← q']; exact hocd)
theorem qX {i:Nat} {v:V} {Q:Unit→Rb→Prop} (I:Inv X pins σ H s) (hN:X.N.Nodup) (hi:X.N[i]?=some x) (hx:Loc X.env.scope x) (r:RelV v u)
 (h:∀ s',Inv X pins (σ.set i (some v)) H s'→Q () s') (hf:X.fn x=true∨X.env.scope.names.lookup x=some .local:=by first | exact .inl rfl | exact .inr rfl | assumption):Rv M A (storeName X.env x u) Q E s :=
 xI I hN hi hx r (fun s' I' _=>h s' I') hf
theorem Inv.yq {s':Rb} (I:Inv X pins σ H s) (ho:s'.os=s.os) (u:Un (ui X.stack) ch H H' s.heap s'.heap) (dm:pL X.prog X.w H' s'.heap) (hg:Wm s'.gens)
 (hch:∀ b∈ch,(b∈X.ex∨‹78›≤b)∧b≠‹75›∧(∀ x c,X.env.cells.lookup x=some c→c≠b)∧∀ p∈X.pn++pins,p.1≠b):Inv X pins σ H' s':=by
 obtain ⟨h',g',d',t',o'⟩:=s';have e:o'=s.os:=ho;subst e;exact I.call (g':=g') (t':=t') (d':=d') u dm hg hch
end
abbrev XK:=Q7→Option Q6→Hp→Prop
abbrev St:=List (Option V)
abbrev VK:=V→Hp→Prop
abbrev TE:=St→Hp→VK→Prop
abbrev TT:=St→Hp→(Bool→Hp→Prop)→Prop
abbrev TA:=St→Hp→(List V→Hp→Prop)→Prop
structure Ends where
 nx:St→Hp→Prop
 rt:VK
 bk:St→Hp→Prop:=fun _ _=>False
 ct:St→Hp→Prop:=fun _ _=>False
abbrev TS:=Ends→St→Hp→Prop
def EP (X:Cx) (pins:List (Q6×TK)) (σ:St) (Q:VK) (u:Q7) (s':Rb):Prop:=∃ v H',Inv X pins σ H' s'∧RelV v u∧Q v H'
def TP (X:Cx) (pins:List (Q6×TK)) (σ:St) (Q:Bool→Hp→Prop) (b:Bool) (s':Rb):Prop:=∃ H',Inv X pins σ H' s'∧Q b H'
def AP (X:Cx) (pins:List (Q6×TK)) (σ:St) (Q:List V→Hp→Prop) (us:List Q7) (s':Rb):Prop:=∃ vs H',Inv X pins σ H' s'∧Vals vs us∧Q vs H'
noncomputable def SP (X:Cx) (pins:List (Q6×TK)) (D:Ends) (f:Flow) (s':Rb):Prop :=
 match f with
 | .next=>∃ σ' H',Inv X pins σ' H' s'∧D.nx σ' H'
 | .brk=>∃ σ' H',Inv X pins σ' H' s'∧D.bk σ' H'
 | .cont=>∃ σ' H',Inv X pins σ' H' s'∧D.ct σ' H'
 | .ret u=>∃ v σ' H',Inv X pins σ' H' s'∧RelV v u∧D.rt v H'
def PE (X:Cx) (e:Sv) (t:TE):Prop :=
 ∀ (pins:List (Q6×TK)) (s:Rb) (σ:St) (H:Hp) (Q:VK),Inv X pins σ H s→t σ H Q→Rv ‹3› X.A (eval e X.env) ‹85› X.xe s
def PT (X:Cx) (e:Sv) (t:TT):Prop :=
 ∀ (pins:List (Q6×TK)) (s:Rb) (σ:St) (H:Hp) (Q:Bool→Hp→Prop),Inv X pins σ H s→t σ H Q→Rv ‹3› X.A (isTrue e X.env (eval e X.env)) (TP X pins σ Q) X.xe s
def PW (X:Cx) (e:Sv) (t:TT):Prop :=
 ∀ (whole:Sem Q7) (pins:List (Q6×TK)) (s:Rb) (σ:St) (H:Hp) (Q:Bool→Hp→Prop),Inv X pins σ H s→t σ H Q→Rv ‹3› X.A (isTrue e X.env whole) (TP X pins σ Q) X.xe s
variable {X:Cx} {e:Sv}
theorem PW.pt {t:TT} (h:PW X e t):PT X e t:=h _
noncomputable def PA (X:Cx) (es:List Sv) (t:TA):Prop :=
 ∀ (pos:VJ) (pins:List (Q6×TK)) (s:Rb) (σ:St) (H:Hp) (Q:List V→Hp→Prop),Inv X pins σ H s→t σ H Q→Rv ‹3› X.A (spliced (TN pos (RH es X.env))) (AP X pins σ Q) X.xe s
def PS (X:Cx) (st:SJ) (t:TS):Prop :=
 ∀ (pins:List (Q6×TK)) (s:Rb) (σ:St) (H:Hp) (D:Ends),Inv X pins σ H s→t D σ H→Rv ‹3› X.A (exec st X.env) (SP X pins D) X.xe s
def wI (X:Cx) (st:List SJ) (t:TS):Prop :=
 ∀ (pins:List (Q6×TK)) (s:Rb) (σ:St) (H:Hp) (D:Ends),Inv X pins σ H s→t D σ H→Rv ‹3› X.A (execs st X.env) (SP X pins D) X.xe s
variable {Q:Q7→Rb→Prop} {s:Rb} {pos:VJ} {pins:List (Q6×TK)} {σ:St} {op:CmpOp} {t:TE}
theorem cP {α:Type} {t:Sem α} {Q Q':α→Rb→Prop} (h:Rv M A t Q E s) (hQ:∀ a s,Q a s→Q' a s):Rv M A t Q' E s:=SN h hQ fun _ _ x=>x
section
variable {X:Cx}
def i8 (i:Nat):TE:=fun σ H Q=>∃ v,σ[i]?=some (some v)∧Q v H
def tC (v:V):TE:=fun _ H Q=>Q v H
theorem Hj {i:Nat} (hN:X.N[i]?=some x) (hv:LO X.env.scope x) (hd:‹41›=false:=by decide) (hcd:(x==("__classdict__" : Rf))=false:=by decide):PE X (.Name x pos) (i8 i):=by
 intro pins s σ H Q I h;obtain ⟨v,e,h⟩:=h;obtain ⟨m,hn,hl⟩:=I.loc;obtain ⟨u,r,l⟩:=hl i x v hN e hv;have fin:EP X pins σ Q u s:=⟨v,H,I,r,h⟩
 rcases l with ⟨hk,hm⟩ | ⟨hk,c,hc,hcell⟩
 ·exact Y3 (Xy I.ok.kind hk hn hm fin) hd
 ·rcases hk with hk | hk
  ·exact Y3 (XY I.ok.kind hk hc hcell fin) hd
  ·exact Y3 (wpAny_loadName_free I.ok.kind hk hc hcell fin hcd) hd
theorem aB {i j pos}:PE X (.Constant (.int i) j pos) (tC (.int i)):=fun _ _ _ H _ I h=>wpAny_Constant_int ⟨.int i,H,I.tok _,⟨_,rfl⟩,h⟩
theorem gO {b j pos}:PE X (.Constant (.bool b) j pos) (tC (.bl b)):=fun _ _ _ H _ I h=>Constant_bool ⟨.bl b,H,I,rfl,h⟩
theorem ME {j pos}:PE X (.Constant .none j pos) (tC .non):=fun _ _ _ H _ I h=>Constant_none ⟨.non,H,I,rfl,h⟩
theorem av {x j pos}:PE X (.Constant (.str x) j pos) (tC (.str x)):=fun _ _ _ H _ I h=>Uh ⟨.str x,H,I.tok _,⟨_,rfl⟩,h⟩
def Gl (X:Cx) (x:Rf):Prop:=X.env.kindOf x=some .globalImplicit
theorem i4 (I:Inv X pins σ H s) (hg:Gl X x) (hm:X.mg x=some u) (h:Q u s)
 (hd:‹41›=false:=by decide):Rv ‹3› X.A (eval (.Name x pos) X.env) Q E s :=
 V0 I.ok.kind hg (Calls.loadGlobal_global (by rw [I.ok.glob]; exact I.mod.glob.keeps I.bk) hm h) hd
theorem vQ (I:Inv X pins σ H s) (hg:Gl X x) (hm:X.mg x=none) (hv:S3 x=some u) (h:Q u s)
 (hn:x ≠ "__name__" := by decide) (hd:‹41›=false:=by decide):Rv ‹3› X.A (eval (.Name x pos) X.env) Q E s:=by
 obtain ⟨mb,h1,h2⟩:=I.mod.blt;exact V0 I.ok.kind hg (Calls.loadGlobal_builtin (by rw [I.ok.glob]; exact I.mod.glob.keeps I.bk) hm (by rw [I.ok.blt]; exact h1.keeps I.bk) ((h2 x hn).trans hv) h) hd
theorem gB {v:V} (hg:Gl X x) (hm:X.mg x=some u) (r:RelV v u) (hd:‹41›=false:=by decide):PE X (.Name x pos) (tC v) :=
 fun _ _ _ H _ I h=>i4 I hg hm ⟨v,H,I,r,h⟩ hd
theorem JW {v:V} (hg:Gl X x) (hm:X.mg x=none) (hv:S3 x=some u) (r:RelV v u) (hn:x ≠ "__name__" := by decide) (hd:‹41›=false:=by decide):PE X (.Name x pos) (tC v) :=
 fun _ _ _ H _ I h=>vQ I hg hm hv ⟨v,H,I,r,h⟩ hn hd
variable {a b:Sv} {ta tb:TE} {pos:VJ}
noncomputable def PC (X:Cx) (op:CmpOp) (a b:Sv) (t:TE):Prop :=
 ∀ (pins:List (Q6×TK)) (s:Rb) (σ:St) (H:Hp) (Q:VK),Inv X pins σ H s→t σ H Q →
  Rv ‹3› X.A (eval a X.env) (fun v s₁=>Rv ‹3› X.A (eval b X.env) (fun u s₂=>Rv ‹3› X.A (S8 op v u) ‹85› X.xe s₂) X.xe s₁) X.xe s
def tB (t:TE):TT:=fun σ H Q=>t σ H fun x H1=>∃ c,x=.bl c∧Q c H1
theorem sM (h:PC X op a b t) (h1:Vx op b=false:=by first | exact nobehind _ ‹6› ‹6› | rfl):PT X (.Compare a [op] [b] pos) (tB t):=by intro pins s σ H Q I hw;refine Xq (cP (h pins s σ H _ I hw) fun v s1 h1=>cP h1 fun u s2 h2=>cP h2 fun c s3 ⟨x,H1,I1,r1,q1⟩=>?_) h1;obtain ⟨d,rfl,q⟩:=q1;cases r1;exact S4 ⟨H1,I1,q⟩
variable {tA tB':TT} {rest:List Sv}
def Od (t u:TT):TT:=fun σ H Q=>t σ H fun c H1=>if c=true then u σ H1 Q else Q false H1
def PM (t u:TT):TT:=fun σ H Q=>t σ H fun c H1=>if c=true then Q true H1 else u σ H1 Q
def Ma (t:TT):TT:=fun σ H Q=>t σ H fun c H1=>Q (!c) H1
theorem DR (ha:PT X a tA):PW X (.BoolOp .And [a] pos) tA:=by
 intro wh pins s σ H Q I h;refine isTrue_and (cP (ha pins s σ H Q I h) fun c s1 e=>?_);cases c with
 | true=>exact isTrue_and_nil e
 | false=>exact e
theorem mv (ha:PT X a tA):PW X (.BoolOp .Or [a] pos) tA:=by
 intro wh pins s σ H Q I h;refine isTrue_or (cP (ha pins s σ H Q I h) fun c s1 e=>?_);cases c with
 | false=>exact isTrue_or_nil e
 | true=>exact e
theorem Ha (ha:PT X a tA) (hb:PW X (.BoolOp .And (b::rest) pos) tB'):PW X (.BoolOp .And (a::b::rest) pos) (Od tA tB'):=by
 intro wh pins s σ H Q I h;refine isTrue_and (cP ‹82› fun c s1 ⟨H1,I1,q1⟩=>?_);cases c with
 | true=>exact hb wh pins s1 σ H1 Q I1 q1
 | false=>exact ⟨H1,I1,q1⟩
theorem mZ (ha:PT X a tA) (hb:PW X (.BoolOp .Or (b::rest) pos) tB'):PW X (.BoolOp .Or (a::b::rest) pos) (PM tA tB'):=by
 intro wh pins s σ H Q I h;refine isTrue_or (cP ‹82› fun c s1 ⟨H1,I1,q1⟩=>?_);cases c with
 | true=>exact ⟨H1,I1,q1⟩
 | false=>exact hb wh pins s1 σ H1 Q I1 q1
theorem b9 (ha:PT X a tA):PT X (.UnaryOp .Not a pos) (Ma tA):=by intro pins s σ H Q I h;exact isTrue_not (ha pins s σ H (fun c H1=>Q (!c) H1) I h)
def Lh (ta tb:TE):TE:=fun σ H Q=>ta σ H fun x H1=>∃ c,x=.bl c∧if c=true then tb σ H1 Q else Q (.bl false) H1
def N8 (ta tb:TE):TE:=fun σ H Q=>ta σ H fun x H1=>∃ c,x=.bl c∧if c=true then Q (.bl true) H1 else tb σ H1 Q
def K9 (ta:TE):TE:=fun σ H Q=>ta σ H fun x H1=>∃ c,x=.bl c∧Q (.bl (!c)) H1
theorem kW {op} (h:PE X a t):PE X (.BoolOp op [a] pos) t:=fun pins s σ H Q I hw=>BoolOp_one (h pins s σ H Q I hw)
theorem jX (ha:PE X a ta) (hb:PE X (.BoolOp .And (b::rest) pos) tb):PE X (.BoolOp .And (a::b::rest) pos) (Lh ta tb):=by
 intro pins s σ H Q I h;refine BoolOp_and (cP ‹82› fun v s1 ⟨x,H1,I1,r1,q1⟩=>?_);obtain ⟨c,rfl,q1⟩:=q1;cases r1;refine S4 ?_;cases c with
 | true=>exact hb pins s1 σ H1 Q I1 q1
 | false=>exact ⟨.bl false,H1,I1,rfl,q1⟩
theorem Ls (ha:PE X a ta) (hb:PE X (.BoolOp .Or (b::rest) pos) tb):PE X (.BoolOp .Or (a::b::rest) pos) (N8 ta tb):=by
 intro pins s σ H Q I h;refine BoolOp_or (cP ‹82› fun v s1 ⟨x,H1,I1,r1,q1⟩=>?_);obtain ⟨c,rfl,q1⟩:=q1;cases r1;refine S4 ?_;cases c with
 | false=>exact hb pins s1 σ H1 Q I1 q1
 | true=>exact ⟨.bl true,H1,I1,rfl,q1⟩
theorem MD (ha:PE X a ta):PE X (.UnaryOp .Not a pos) (K9 ta):=by intro pins s σ H Q I h;refine UnaryOp_ (cP ‹82› fun v s1 ⟨x,H1,I1,r1,q1⟩=>?_);obtain ⟨c,rfl,q1⟩:=q1;cases r1;exact not_of (S4 ⟨.bl (!c),H1,I1,rfl,q1⟩)
def Qs (t:TT) (ta tb:TE):TE:=fun σ H Q=>t σ H fun c H1=>if c=true then ta σ H1 Q else tb σ H1 Q
theorem Hn {c:Sv} (hc:PT X c tA) (ha:PE X a ta) (hb:PE X b tb):PE X (.IfExp c a b pos) (Qs tA ta tb):=by
 intro pins s σ H Q I h;refine wpAny_IfExp (cP (hc pins s σ H _ I h) fun d s1 ⟨H1,I1,q1⟩=>?_);cases d with
 | true=>exact ha pins s1 σ H1 Q I1 q1
 | false=>exact hb pins s1 σ H1 Q I1 q1
end
noncomputable def mS (K:Q2) (H:Hp) (a:Q6) (xs:List V):Prop :=
 Rd H a (.lst xs) ∨
  ∃ (o:TK) (its:Array Q7) (n:Nat),K.lookup a=some o∧o.cls=.type "list" ∧ o.dict=none∧o.data=.seq its n∧its.size≤Q4∧Vals xs its.toList
def LP (K:Q2) (H:Hp) (a:Q6) (xs:List V):Prop :=
 Rd H a (.tup xs) ∨
  ∃ (o:TK) (its:Array Q7) (n:Nat),K.lookup a=some o∧o.cls=.type "tuple" ∧ o.data=.seq its n∧its.size≤Q4∧Vals xs its.toList
noncomputable def Qb:Q7→Option V
 | .none=>some .non
 | .bool b=>some (.bl b)
 | .int i _=>some (.int i)
 | .str x _=>some (.str x)
 | .bytes b _=>some (.byt b)
 | .float b _=>some (.flt b)
 | .ref a=>some (.ref a)
 | .type n=>some (.ty n)
 | _=>none
theorem RelV.abs {x:V} (r:RelV x u):Qb u=some x:=by
 cases x with
 | non=>cases r; rfl
 | bl _=>cases r; rfl
 | int _=>obtain ⟨t,rfl⟩:=r; rfl
 | str _=>obtain ⟨t,rfl⟩:=r; rfl
 | byt _=>obtain ⟨t,rfl⟩:=r; rfl
 | flt _=>obtain ⟨t,rfl⟩:=r; rfl
 | ref _=>cases r; rfl
 | ty _=>cases r; rfl
theorem RelV.inj {x y:V} {u:Q7} (r:RelV x u) (q:RelV y u):x=y:=R5 (r.abs.symm.trans q.abs)
variable {K:Q2}
theorem Vals.inj:∀ {xs ys:List V} {us:List Q7},Vals xs us→Vals ys us→xs=ys
 | _,_,_,.nil,.nil=>rfl
 | _,_,_,.cons r t,.cons r' t'=>by rw [r.inj r',Vals.inj t t']
section
variable {X:Cx} {pins:List (Q6×TK)} {σ:St} {H:Hp} {s:Rb} {a:Q6} {xs ys:List V}
theorem mS.of (h:H a=some (.lst xs)):mS K H a xs:=.inl (.inl h)
theorem Inv.list (I:Inv X pins σ H s) (h:mS X.K H a xs):∃ its:List Q7,Vals xs its∧PlainL s.heap a its.toArray∧xs.length≤Q4:=by
 rcases h with h | ⟨o,its,n,hk,hc,hd,hs,hz,r⟩
 ·obtain ⟨z,its,n,r,e⟩:=h.ok I.dm;exact ⟨its,r,⟨_,n,e,rfl,rfl,rfl⟩,z⟩
 ·refine ⟨its.toList,r,⟨o,n,I.qw a o hk,hc,hd,by simpa using hs⟩,?_⟩;have e:=r.length;simp only [SK] at e;lia
theorem Inv.tuple (I:Inv X pins σ H s) (h:LP X.K H a xs):∃ its:List Q7,Vals xs its∧IsTup s.heap a its.toArray∧xs.length≤Q4:=by
 rcases h with h | ⟨o,its,n,hk,hc,hs,hz,r⟩
 ·obtain ⟨z,its,r,p⟩:=h.ok I.dm;exact ⟨its,r,p,z⟩
 ·refine ⟨its.toList,r,⟨o,I.qw a o hk,hc,n,by simpa using hs⟩,?_⟩;have e:=r.length;simp only [SK] at e;lia
theorem Inv.vN (I:Inv X pins σ H s) (h:mS X.K H a xs) (h':mS X.K H a ys):xs=ys:=by
 obtain ⟨its,r,⟨o,n,e,_,_,d⟩,_⟩:=I.list h;obtain ⟨its',r',⟨o',n',e',_,_,d'⟩,_⟩:=I.list h';rw [e] at e'; cases e';rw [d] at d';injection d' with d1 _;have:its=its':=by simpa using congrArg Array.toList d1
 subst this;exact r.inj r'
end
abbrev Cx.jR (X:Cx) (E:Q7→Rb→Prop):Cx:={ X with xe:=E }
abbrev Cx.Lx (X:Cx):Cx:=X.jR fun _ _=>False
theorem Cx.Ok.jR {X:Cx} (ok:X.Ok) (E:Q7→Rb→Prop):(X.jR E).Ok :=
 ⟨ok.mod,ok.kind,ok.glob,ok.blt,ok.above,ok.inj,ok.has,ok.cab,ok.hd,ok.frames,ok.mY,ok.exf,ok.bs,ok.FR,ok.noex,ok.Iq,ok.sU,ok.LG⟩
variable {tc:TT}
theorem Cx.Ok.gX (ok:(X.jR E).Ok):X.Ok :=
 ⟨ok.mod,ok.kind,ok.glob,ok.blt,ok.above,ok.inj,ok.has,ok.cab,ok.hd,ok.frames,ok.mY,ok.exf,ok.bs,ok.FR,ok.noex,ok.Iq,ok.sU,ok.LG⟩
section
variable {X:Cx} {pins:List (Q6×TK)} {σ:St} {H:Hp} {s:Rb} {E:Q7→Rb→Prop}
theorem Inv.jR (I:Inv X pins σ H s) (E:Q7→Rb→Prop):Inv (X.jR E) pins σ H s:=⟨I.ok.jR E,I.os,I.bare,I.base,I.loc,I.cell,I.free,I.jh,I.pin,I.dm,I.len⟩
theorem Inv.gX (I:Inv (X.jR E) pins σ H s):Inv X pins σ H s:=⟨I.ok.gX,I.os,I.bare,I.base,I.loc,I.cell,I.free,I.jh,I.pin,I.dm,I.len⟩
theorem SP.gX {D:Ends} {f:Flow} {s':Rb} (h:SP (X.jR E) pins D f s'):SP X pins D f s':=by
 cases f with
 | next=>obtain ⟨σ',H',I,q⟩:=h; exact ⟨σ',H',I.gX,q⟩
 | brk=>obtain ⟨σ',H',I,q⟩:=h; exact ⟨σ',H',I.gX,q⟩
 | cont=>obtain ⟨σ',H',I,q⟩:=h; exact ⟨σ',H',I.gX,q⟩
 | ret u=>obtain ⟨v,σ',H',I,r,q⟩:=h; exact ⟨v,σ',H',I.gX,r,q⟩
theorem wI.Lx {st:List SJ} {t:TS} (h:wI X.Lx st t):wI X st t:=fun pins s σ H D I hw =>SN (h pins s σ H D (I.jR _) hw) (fun _ _ q=>q.gX) fun _ _ z=>S1 z
end
section
variable {X:Cx} {st:SJ} {rest:List SJ} {t u:TS} {e:Sv} {te:TE} {pos:VJ}
def Dt:TS:=fun D σ H=>D.nx σ H
def t6 (t u:TS):TS:=fun D σ H=>t { D with nx:=u D } σ H
theorem aH:wI X [] Dt:=fun _ _ σ H _ I h=>Te ⟨σ,H,I,h⟩
theorem ah (h1:PS X st t) (h2:wI X rest u):wI X (st::rest) (t6 t u):=by
 intro pins s σ H D I h;refine UD (cP (h1 pins s σ H { D with nx:=u D } I h) fun f s1 q=>?_);cases f with
 | next =>obtain ⟨σ',H',I',q⟩:=q;exact h2 pins s1 σ' H' D I' q
 | ret v=>exact q
 | brk=>exact q
 | cont=>exact q
theorem az (h1:PS X st t):wI X [st] t:=by
 intro pins s σ H D I h;refine UD (cP (h1 pins s σ H D I h) fun f s1 q=>?_);cases f with
 | next=>exact Te q
 | ret v=>exact q
 | brk=>exact q
 | cont=>exact q
theorem Inv.quiet (I:Inv X pins σ H s):interactive X.env=false:=by simp [interactive,I.ok.kind]
def Ar (te:TE):TS:=fun D σ H=>te σ H fun _ H1=>D.nx σ H1
theorem zB (he:PE X e te) (hs:Ul e none pos.line X.env=pure false:=by rfl):PS X (.Expr e pos) (Ar te):=by intro pins s σ H D I h;exact V1 (cP (he pins s σ H _ I h) fun v s1 ⟨x,H1,I1,r1,q1⟩=>⟨σ,H1,I1,q1⟩) I.quiet hs
def sE (te:TE):TS:=fun D σ H=>te σ H D.rt
theorem aW (he:PE X e te):PS X (.Return (some e) pos) (sE te):=by intro pins s σ H D I h;exact wpAny_Return_some (cP (he pins s σ H _ I h) fun v s1 ⟨x,H1,I1,r1,q1⟩=>⟨x,σ,H1,I1,r1,q1⟩)
def ED (c:TT) (t u:TS):TS:=fun D σ H=>c σ H fun b H1=>if b=true then t D σ H1 else u D σ H1
theorem a9 {c:Sv} {a b:List SJ} (hc:PT X c tc) (ha:wI X a t) (hb:wI X b u):PS X (.If c a b pos) (ED tc t u):=by
 intro pins s σ H D I h;refine wpAny_If (cP (hc pins s σ H _ I h) fun d s1 ⟨H1,I1,q1⟩=>?_);cases d with
 | true=>exact ha pins s1 σ H1 D I1 q1
 | false=>exact hb pins s1 σ H1 D I1 q1
def B6:TS:=fun _ _ _=>False
theorem cG:PS X st B6:=fun _ _ _ _ _ _ h=>h.elim
theorem aV {sts:List SJ}:wI X sts B6:=fun _ _ _ _ _ _ h=>h.elim
end
abbrev TG:=V→St→Hp→(St→Hp→Prop)→Prop
abbrev Am:=List V→St→Hp→(St→Hp→Prop)→Prop
noncomputable def PG (X:Cx) (target:Sv) (t:TG):Prop :=
 ∀ (pins:List (Q6×TK)) (s:Rb) (σ:St) (H:Hp) (v:V) (u:Q7) (Q:St→Hp→Prop),Inv X pins σ H s→RelV v u→t v σ H Q →
  Rv ‹3› X.A (assign target X.env u) (fun _ s'=>∃ σ' H',Inv X pins σ' H' s'∧Q σ' H') X.xe s
noncomputable def NM (X:Cx) (ts:List Sv) (t:Am):Prop :=
 ∀ (pins:List (Q6×TK)) (s:Rb) (σ:St) (H:Hp) (vs:List V) (us:List Q7) (Q:St→Hp→Prop),Inv X pins σ H s→Vals vs us→t vs σ H Q →
  Rv ‹3› X.A (assignInOrder ((Ti ts X.env).map (·.2)) us) (fun _ s'=>∃ σ' H',Inv X pins σ' H' s'∧Q σ' H') X.xe s
abbrev NK:=V→V→V→Hp→(Hp→Prop)→Prop
noncomputable def Pj (X:Cx) (t:NK):Prop :=
 ∀ (pins:List (Q6×TK)) (s:Rb) (σ:St) (H:Hp) (o i v:V) (ov iv u:Q7) (Q:Hp→Prop),Inv X pins σ H s→RelV o ov→RelV i iv→RelV v u→t o i v H Q →
  Rv ‹3› X.A (setItem ov iv u) (fun _ s'=>∃ H',Inv X pins σ H' s'∧Q H') X.xe s
abbrev Px:=V→V→Hp→VK→Prop
variable {es:List Sv} {n:Nat} {tg:Sv} {te:TE} {pos':VJ} {tb:TS}
noncomputable def QI (X:Cx) (op:Operator) (t:Px):Prop :=
 ∀ (pins:List (Q6×TK)) (s:Rb) (σ:St) (H:Hp) (x y:V) (v u:Q7) (Q:VK),Inv X pins σ H s→RelV x v→RelV y u→t x y H Q →
  Rv ‹3› X.A (inplaceOp op v u) ‹85› X.xe s
section
variable {X:Cx} {pos:VJ}
def kA (i:Nat):TG:=fun v σ H Q=>Q (σ.set i (some v)) H
theorem zE {i:Nat} (hN:X.N.Nodup) (hi:X.N[i]?=some x) (hx:Loc X.env.scope x) (hf:X.fn x=true∨X.env.scope.names.lookup x=some .local:=by first | exact .inl rfl | exact .inr rfl | assumption):PG X (.Name x pos) (kA i):=by intro pins s σ H v u Q I r h;exact wpAny_assign_Name (qX I hN hi hx r (fun s' I'=>⟨_,H,I',h⟩) hf)
def Nj:Am:=fun vs σ H Q=>vs=[]∧Q σ H
def Ik (t:TG) (u:Am):Am:=fun vs σ H Q=>∃ v r,vs=v::r∧t v σ H fun σ' H'=>u r σ' H' Q
theorem rH:NM X [] Nj:=by intro pins s σ H vs us Q I r h;obtain ⟨e,h⟩:=h;subst e;cases r;exact assignInOrder_nil ⟨σ,H,I,h⟩
theorem fH {t:TG} {u:Am} (h1:PG X e t) (h2:NM X es u)
 (hs:(Ti (e::es) X.env).map (·.2)=assign e X.env::(Ti es X.env).map (·.2):=by rfl):NM X (e::es) (Ik t u):=by
 intro pins s σ H vs us Q I r h;obtain ⟨v,vr,e1,h⟩:=h;subst e1;cases r with
 | cons r rr =>rw [hs];refine assignInOrder_cons (cP (h1 pins s σ H _ _ _ I r h) fun _ s1 ⟨σ1,H1,I1,q1⟩=>?_);exact h2 pins s1 σ1 H1 _ _ Q I1 rr q1
def OZ (K:Q2) (n:Nat) (t:Am):TG:=fun v σ H Q=>∃ a xs,v=.ref a∧LP K H a xs∧xs.length=n∧t xs σ H Q
theorem Mz {k:Nat} {t:Am} (hc:X.calm=true) (h:NM X es t)
 (hn:(Ti es X.env).length=n:=by rfl) (hst:(Ti es X.env).findIdx? (·.1)=none:=by rfl):PG X (.Tuple es k pos) (OZ X.K n t):=by
 intro pins s σ H v u Q I r hw;obtain ⟨a,xs,e1,hq,hl,hw⟩:=hw;subst e1;cases r;obtain ⟨its,rv,ht,hz⟩:=I.tuple hq;refine assign_Tuple_tuple (I.ok.hd hc) ht (by simp [hn,← hl,rv.length]) hst fun h' hx=>?_;have I1:Inv X pins σ H { s with heap:=h' }:=I.kept (t':=s.toks) fun b o e=>hx b o (RX (Rm e)) e;exact h pins _ σ H xs _ Q I1 (by simpa using rv) hw
def Ni (to ti:TE) (t:NK):TG:=fun v σ H Q=>to σ H fun o H1=>ti σ H1 fun i H2=>t o i v H2 fun H3=>Q σ H3
theorem zD {o i:Sv} {to ti:TE} {t:NK} (ho:PE X o to) (hi:PE X i ti) (hs:Pj X t)
 (ha:∀ v,assign (.Subscript o i pos) X.env v=(do
  let ov ← VS [v] (eval o X.env)
  let iv ← VS [v,ov] (eval i X.env)
  W7 pos
  VS [v,ov,iv] (setItem ov iv v)
  release [v,ov,iv] []):=by intro _; rfl):PG X (.Subscript o i pos) (Ni to ti t):=by
 intro pins s σ H v u Q I r h;rw [ha];refine Rg (Td (cP (ho pins s σ H _ I h) fun ov s1 ⟨x,H1,I1,r1,q1⟩=>?_));refine Rg (Td (cP (hi pins s1 σ H1 _ I1 q1) fun iv s2 ⟨y,H2,I2,r2,q2⟩=>?_));refine Rg (Vy (Rg (Td (cP (hs pins s2 σ H2 x y v ov iv u _ I2 r1 r2 r q2) fun _ s3 ⟨H3,I3,q3⟩=>?_))));exact wpAny_release ⟨σ,H3,I3,q3⟩
def sF (te:TE) (g:TG):TS:=fun D σ H=>te σ H fun x H1=>g x σ H1 D.nx
theorem sN {g:TG} (he:PE X e te) (hg:PG X tg g) (hs:swapsWithSole [tg] e pos.line X.env=pure false:=by rfl) (hw:swappedStores [tg] e X.env=pure none:=by rfl)
 (h1:(Ti [tg] X.env).map (·.2)=[assign tg X.env]:=by rfl):PS X (.Assign [tg] e pos) (sF te g):=by
 intro pins s σ H D I h;refine wpAny_Assign_stores (cP (he pins s σ H _ I h) fun v s1 ⟨x,H1,I1,r1,q1⟩=>?_) hs hw;rw [h1];exact cP (hg pins s1 σ H1 x v _ I1 r1 q1) fun _ s2 q=>q
theorem He {i:Nat} (hN:X.N.Nodup) (hi:X.N[i]?=some x) (hx:Loc X.env.scope x) (he:PE X e te) (hs:Ul e (some (.Name x pos')) pos.line X.env=pure false:=by rfl) (hf:X.fn x=true∨X.env.scope.names.lookup x=some .local:=by first | exact .inl rfl | exact .inr rfl | assumption) :
 PS X (.Assign [.Name x pos'] e pos) (sF te (kA i)):=by
 intro pins s σ H D I h;refine wpAny_Assign_Name (cP (he pins s σ H _ I h) fun v s1 ⟨y,H1,I1,r1,q1⟩=>?_) hs;exact qX I1 hN hi hx r1 (fun s2 I2=>⟨_,H1,I2,q1⟩) hf
def Oc (i:Nat) (te:TE) (ti:Px):TS:=fun D σ H=>∃ x,σ[i]?=some (some x)∧te σ H fun y H1=>ti x y H1 fun z H2=>D.nx (σ.set i (some z)) H2
theorem Hf {i:Nat} {op:Operator} {ti:Px} (hN:X.N.Nodup) (hi:X.N[i]?=some x) (hx:Loc X.env.scope x) (he:PE X e te) (ho:QI X op ti) (hf:X.fn x=true∨X.env.scope.names.lookup x=some .local:=by first | exact .inl rfl | exact .inr rfl | assumption) :
 PS X (.AugAssign (.Name x pos') op e pos) (Oc i te ti):=by
 intro pins s σ H D I h;obtain ⟨v,e1,h⟩:=h;obtain ⟨m,hn,hl⟩:=I.loc;have vis:LO X.env.scope x:=by rcases hx with k | k; exact .inl k; exact .inr (.inl k)
 obtain ⟨u,r,l⟩:=hl i x v hi e1 vis;refine wpAny_AugAssign_Name ?_;have go:Rv ‹3› X.A (eval e X.env) (fun w s₂=>Rv ‹3› X.A (inplaceOp op u w) (fun r s₃=>Rv ‹3› X.A (storeName X.env x r) (fun _=>SP X pins D .next) X.xe s₃) X.xe s₂) X.xe s:=by refine cP (he pins s σ H _ I h) fun w s1 ⟨y,H1,I1,r1,q1⟩=>?_;refine cP (ho pins s1 σ H1 v y u w _ I1 r r1 q1) fun z s2 ⟨zv,H2,I2,r2,q2⟩=>?_;exact qX I2 hN hi hx r2 (fun s3 I3=>⟨_,H2,I3,q2⟩) hf
 rcases l with ⟨hk,hm⟩ | ⟨hk,c,hc,hcell⟩
 ·exact Xy I.ok.kind hk hn hm go
 ·rcases hk with hk | hk
  ·exact XY I.ok.kind hk hc hcell go
  ·rcases hx with k | k
   ·have:X.env.scope.names.lookup x=some .free:=hk;rw [k] at this; cases this
   ·have:X.env.scope.names.lookup x=some .free:=hk;rw [k] at this; cases this
def Qz (f:Int→Int→Int):Px:=fun x y H Q=>∃ i j,x=.int i∧y=.int j∧Q (.int (f i j)) H
theorem HY:QI X .Add (Qz fun i j=>i+j):=by intro pins s σ H x y v u Q I r1 r2 h;obtain ⟨i,j,e1,e2,q⟩:=h;subst e1; subst e2;obtain ⟨t,rfl⟩:=r1;obtain ⟨t',rfl⟩:=r2;exact iadd_int ⟨.int _,H,I.tok _,⟨_,rfl⟩,q⟩
end
section
variable {X:Cx} {pos:VJ}
noncomputable def Gk (c:TT) (tb:TS):TS:=fun D σ H=>∃ W:Nat→St→Hp→Prop,(∃ m,W m σ H)∧∀ m σ H,W m σ H →
 c σ H fun b H1=>if b=true then ∃ N:St→Hp→Prop,(∀ σ' H',N σ' H'→∃ m',m'<m∧W m' σ' H')∧tb { D with nx:=N,ct:=N,bk:=D.nx } σ H1 else D.nx σ H1
theorem A3 {c:Sv} {body:List SJ} (hp:PassesOwn ‹3› X.A X.env X.xe) (hc:PT X c tc) (hb:wI X body tb):PS X (.While c body [] pos) (Gk tc tb):=by
 intro pins s σ H D I h;obtain ⟨W,⟨m0,w0⟩,turn⟩:=h;refine wpAny_While (codeAny_whileLoop (fun n s'=>∃ σ' H',Inv X pins σ' H' s'∧W n σ' H') ?_ m0 ⟨σ,H,I,w0⟩);rintro n s1 ⟨σ1,H1,I1,w1⟩;refine T5 hp (cP (hc pins s1 σ1 H1 _ I1 (turn n σ1 H1 w1)) fun b s2 ⟨H2,I2,q2⟩=>?_);cases b with
 | true =>
  obtain ⟨N,hN,q2⟩:=q2;rw [if_pos rfl];refine T5 hp (cP (hb pins s2 σ1 H2 _ I2 q2) fun f s3 q3=>?_);cases f with
  | next =>obtain ⟨σ3,H3,I3,n3⟩:=q3;obtain ⟨m',hm,w3⟩:=hN σ3 H3 n3;exact ⟨m',hm,σ3,H3,I3,w3⟩
  | cont =>obtain ⟨σ3,H3,I3,n3⟩:=q3;obtain ⟨m',hm,w3⟩:=hN σ3 H3 n3;exact ⟨m',hm,σ3,H3,I3,w3⟩
  | brk=>exact q3
  | ret v=>exact q3
 | false =>rw [if_neg Rn];exact Te ⟨σ1,H2,I2,q2⟩
end
structure It where
 go:Nat→Hp→Prop
 NR:Nat→Hp→V→Hp→Prop
 stop:Nat→Hp→Prop
def xC (X:Cx) (pins:List (Q6×TK)) (H:Hp) (b:Q6):Prop :=
 H b=none∧b≠‹75›∧b∉X.fs∧(b∈X.ex∨‹78›≤b)∧(∀ x c,X.env.cells.lookup x=some c→c≠b)∧∀ p∈X.pn++pins,p.1≠b
theorem Inv.Kv {H':Hp} {b:Q6} (I:Inv X pins σ H s) (hb:‹7›≤b) (hn:H' b=none):xC X pins H' b:=by
 refine ⟨hn,UE (RC I.lt hb),I.PZ hb,.inr (RE I.sz hb),fun x c e z=>?_,fun p hp z=>?_⟩
 ·obtain ⟨v,q⟩:=I.cell x c e;exact absurd (RC q.lt (by rw [z]; exact hb)) (Sg _)
 ·exact absurd (RC (Rm (I.pin p hp).1) (by rw [z]; exact hb)) (Sg _)
structure Turn (P:Sd) (w:Sn) (K:Q2) (tg:Sv) (J:It) (fp:List Q6) (it:Q6) (tn:Nat→SA→Prop):Prop where
 mem:it∈fp
 obj:∀ i h,tn i h→∀ b∈fp,∃ o,h.get? b=some o∧∀ v,o.data≠.cell v
 keep:∀ i h h',tn i h→(∀ b∈fp,∀ o,h.get? b=some o→h'.get? b=some o)→tn i h'
 item:∀ (X:Cx),X.prog=P→X.w=w→X.K=K→X.calm=true→∀ (i:Nat) (pins:List (Q6×TK)) (s:Rb) (σ:St) (H:Hp) (E:Q7→Rb→Prop),Inv X pins σ H s→(∀ b∈fp,xC X pins H b)→tn i s.heap→J.go i H →
  Rv (model P w) X.A (Zl (.ref it)) (fun r s1=>∃ u,r=some u ∧
   Rv (model P w) X.A (UX tg (.ref it) u) (fun _ s2=>∃ x H',Inv X pins σ H' s2∧RelV x u∧J.NR i H x H'∧tn (i+1) s2.heap∧∀ b∈fp,H' b=none) E s1) E s
 done:∀ (X:Cx),X.prog=P→X.w=w→X.K=K→X.calm=true→∀ (i:Nat) (pins:List (Q6×TK)) (s:Rb) (σ:St) (H:Hp) (E:Q7→Rb→Prop),Inv X pins σ H s→(∀ b∈fp,xC X pins H b)→tn i s.heap→J.stop i H →
  Rv (model P w) X.A (Zl (.ref it)) (fun r s1=>r=none∧Inv X pins σ H s1) E s
 self:∀ (A:SG) (i:Nat) (s:Rb) (Q:Q7→Rb→Prop) (E:Q7→Rb→Prop),tn i s.heap→Q (.ref it) s→Rv (model P w) A (pyIter (.ref it)) Q E s
abbrev TI:=St→Hp→(It→Hp→Prop)→Prop
noncomputable def QJ (X:Cx) (pins:List (Q6×TK)) (σ:St) (tg:Sv) (R:It→Hp→Prop) (itv:Q7) (s2:Rb):Prop :=
 ∃ (it:Q6) (fp:List Q6) (tn:Nat→SA→Prop) (J:It) (H':Hp),itv=.ref it∧Inv X pins σ H' s2∧Turn X.prog X.w X.K tg J fp it tn∧tn 0 s2.heap∧(∀ b∈fp,xC X pins H' b)∧R J H'
noncomputable def PI (X:Cx) (tg iter:Sv) (wi:TI):Prop :=
 ∀ (pins:List (Q6×TK)) (s:Rb) (σ:St) (H:Hp) (R:It→Hp→Prop),Inv X pins σ H s→wi σ H R →
  Rv ‹3› X.A (eval iter X.env) (fun v s1=>Rv ‹3› X.A (pyIter v) (QJ X pins σ tg R) X.xe s1) X.xe s
theorem Ig {n:String} {vs:Array Q7} {Q:Unit→Rb→Prop} (ho:s.heap.get? it=some o) (hc:o.cls=.type n) (hd:o.data=.fields vs)
    (hn:["enumerate", "zip", "dict_itemiterator", "dict_reverseitemiterator", "odict_iterator", "itertools.zip_longest", "itertools.pairwise"].contains n=false) (hQ:Q () s):Rv M A (UX tg (.ref it) u) Q E s:=by
  unfold UX
  cases tg <;> first
    | exact RM hQ
    | (cases u <;> first
        | exact RM hQ
        | (refine wpAny_bind (wpAny_load ho ?_)
           rw [hc,hd];show Rv M A (if (["enumerate", "zip", "dict_itemiterator", "dict_reverseitemiterator", "odict_iterator", "itertools.zip_longest", "itertools.pairwise"].contains n&&vs[0]?==some (Vp _))=true then _ else _) Q E s;rw [if_neg (by intro h; rw [hn,Ve] at h; cases h)];exact RM hQ))
def Qj (K:Q2) (a:Q6):It :=
 ⟨fun i H=>∃ xs x,mS K H a xs∧xs[i]?=some x,fun i H x H'=>H'=H∧∀ xs,mS K H a xs→xs[i]?=some x,fun i H=>∃ xs,mS K H a xs∧xs.length≤i⟩
def PH (lo:Int) (n:Nat):It:=⟨fun i _=>i<n,fun i H x H'=>H'=H∧x=.int (lo+i),fun i _=>n≤i⟩
theorem Ez {w:Sn} (a it:Q6):Turn P w K tg (Qj K a) [it] it (fun i h=>h.IsListIter it a i) where
 mem:=by simp
 obj:=fun i h st b hb=>by
  have e:b=it:=by simpa using hb
  subst e;obtain ⟨o,e,c,d⟩:=st;exact ⟨o,e,fun v z=>by rw [d] at z; cases z⟩
 keep:=fun i h h' st k=>st.at fun o e=>k it (by simp) o e
 item:=by intro X hP hw hK hc i pins s σ H E I hf st hg;subst hP hw hK;obtain ⟨xs,x,hq,hx⟩:=hg;obtain ⟨its,rv,p,hz⟩:=I.list hq;obtain ⟨u,hu,ru⟩:=rv.get hx;obtain ⟨f0,f1,f2,f3,f4,f5⟩:=hf it (by simp);refine W8 st p.isList (x:=u) (by simpa using hu) fun h' st' sb=>?_;have I1:Inv X pins σ H { s with heap:=h' }:=I.turned (t':=s.toks) (fun b o hb e=>(sb.2 b hb).trans e) f0 f1 f3 f4 f5;obtain ⟨o,e,c,d⟩:=id st';exact ⟨u,rfl,Ig (s:={ s with heap:=h' }) e c d ‹6› ⟨x,H,I1,ru,⟨rfl,fun ys hy=>by rw [I.vN hy hq]; exact hx⟩,st',fun b hb=>(hf b hb).1⟩⟩
 done:=by intro X hP hw hK hc i pins s σ H E I hf st hg;subst hP hw hK;obtain ⟨xs,hq,hx⟩:=hg;obtain ⟨its,rv,p,hz⟩:=I.list hq;obtain ⟨f0,f1,f2,f3,f4,f5⟩:=hf it (by simp);have hl:=rv.length;exact Xr (I.ok.hd hc) st p.isList (by simp; lia) fun h' eb=>⟨rfl,I.turned (t':=s.toks) (fun b o hb e=>eb b o hb e) f0 f1 f3 f4 f5⟩
 self:=fun _ _ _ _ _ st h=>wpAny_pyIter_listiter st h
variable {fp:List Q6}
theorem B0 {w:Sn} (it:Q6) (lo:Int) (n:Nat):Turn P w K tg (PH lo n) [it] it (fun i h=>IsRangeIter h it (lo+(i:Nat)*1) ((n:Int)-(i:Nat)) 1) where
 mem:=by simp
 obj:=fun i h st b hb=>by
  have e:b=it:=by simpa using hb
  subst e;exact ⟨_,st,fun v z=>by have z':Data.fields _=YB v:=z;cases z'⟩
 keep:=fun i h h' st k=>k it (by simp) _ st
 item:=by intro X hP hw hK hc i pins s σ H E I hf st hg;subst hP hw hK;obtain ⟨f0,f1,f2,f3,f4,f5⟩:=hf it (by simp);have W:=Walks.range (prog:=X.prog) (w:=X.w) (I.ok.hd hc) it lo 1 n;refine W.item i s _ _ hg st fun v h' tk hv st' kk=>?_;obtain ⟨t,rfl⟩:=hv;have I1:Inv X pins σ H { s with heap:=h',toks:=tk }:=I.turned (fun b o hb e=>kk b o (by simpa using hb) e) f0 f1 f3 f4 f5;refine ⟨_,rfl,Ig (s:={ s with heap:=h',toks:=tk }) (n := "range_iterator") st' rfl rfl ‹6› ⟨.int (lo+i),H,I1,⟨t,?_⟩,⟨rfl,rfl⟩,st',fun b hb=>(hf b hb).1⟩⟩;rw [Int.mul_one]
 done:=by intro X hP hw hK hc i pins s σ H E I hf st hg;subst hP hw hK;obtain ⟨f0,f1,f2,f3,f4,f5⟩:=hf it (by simp);exact wpAny_pyNext_range_end (I.ok.hd hc) st (by have:n≤i:=hg; lia) fun h' eb=>⟨rfl,I.turned (t':=s.toks) (fun b o hb e=>eb b o hb e) f0 f1 f3 f4 f5⟩
 self:=fun _ _ _ _ _ st h=>wpAny_pyIter_rangeiter st h
section
variable {X:Cx} {tg:Sv}
def Bl (K:Q2) (tl:TE):TI:=fun σ H R=>tl σ H fun x H1=>∃ a,x=.ref a∧(∃ xs,mS K H1 a xs)∧R (Qj K a) H1
theorem JU {l:Sv} {tl:TE} (hl:PE X l tl):PI X tg l (Bl X.K tl):=by
 intro pins s σ H R I h;refine cP (hl pins s σ H _ I h) fun v s1 ⟨x,H1,I1,r1,q1⟩=>?_;obtain ⟨a,e,⟨xs,hq⟩,q⟩:=q1;subst e;cases r1;obtain ⟨its,rv,p,hz⟩:=I1.list hq;refine Vf p.isList ?_;refine ⟨s1.heap.objs.size,[s1.heap.objs.size],_,_,H1,rfl,I1.kept (t':=s1.toks) fun b o e=>Rk _ e,Ez a _,⟨_,RI _ rfl,rfl,rfl⟩,fun b hb=>?_,q⟩;have e:b=s1.heap.objs.size:=by simpa using hb
 subst e;exact I1.Kv (Rq _) (I1.dm.fresh (Rq _))
theorem G5 {R:It→Hp→Prop} {lo hi:Int} {t u v:Tok} {tk:Nat} (I:Inv X pins σ H s) (h1:-(2 ^ 62)≤lo) (h2:lo<2 ^ 62) (h3:-(2 ^ 62)≤hi) (h4:hi<2 ^ 62)
 (q:R (PH lo (hi-lo).toNat) H):Rv ‹3› X.A (pyIter (.ref ‹7›)) (QJ X pins σ tg R) E { s with heap:=s.heap.push { cls:=.type "range", data:=.fields #[.int lo t,.int hi u,.int 1 v] },toks:=tk }:=by
 refine wpAny_pyIter_range (IsRange.new ..) (small_one h1 h2 h3 h4) ?_;have I1:Inv X pins σ H { s with heap:=s.heap.push { cls:=.type "range", data:=.fields #[.int lo t,.int hi u,.int 1 v] },toks:=tk }:=I.kept fun b o e=>Rk _ e
 refine ⟨‹86›.objs.size,[‹86›.objs.size],_,_,H,rfl,
  I1.kept (t':=tk) fun b o e=>Rk _ e,B0 _ lo (hi-lo).toNat,?_,fun b hb=>?_,q⟩
 ·have e1:lo+((0:Nat):Int)*1=lo:=by simp
  have e2:(((hi-lo).toNat:Nat):Int)-((0:Nat):Int)=Builtin.Range.rangeSize lo hi 1:=by rw [rangeSize_one]; split <;> lia
  show IsRangeIter _ _ (lo+((0:Nat):Int)*1) ((((hi-lo).toNat:Nat):Int)-((0:Nat):Int)) 1;rw [e1,e2];exact RI _ rfl
 ·have e:b=‹86›.objs.size:=by simpa using hb
  subst e;exact I1.Kv (Rq _) (I1.dm.fresh (Rq _))
def LF (ta:TA):TI:=fun σ H R=>ta σ H fun vs H1=>∃ j:Int,vs=[.int j]∧-(2 ^ 62)≤j∧j<2 ^ 62∧R (PH 0 j.toNat) H1
theorem cX {a:Sv} {ta:TA} {p:VJ} (hg:Gl X "range") (hm:X.mg "range" = none) (ha:PA X [a] ta) (hs:RH [a] X.env=[(false,eval a X.env)]:=by rfl):PI X tg (.Call (.Name "range" p) [a] [] pos) (LF ta):=by
 intro pins s σ H R I h;refine Call_ (vQ I hg hm boot_range (Ut (cP (ha pos pins s σ H _ I h) fun us s1 ⟨vs,H1,I1,r1,q1⟩=>?_) hs rfl));obtain ⟨j,e,q1,q2,q⟩:=q1;subst e;cases r1 with
 | cons r rr =>cases rr;obtain ⟨t,rfl⟩:=r;exact call_range_1 (G5 I1 (by lia) (by lia) q1 q2 (by simpa using q))
noncomputable def Ob (wi:TI) (g:TG) (tb:TS):TS:=fun D σ H=>wi σ H fun J H1=>∃ W:Nat→Nat→St→Hp→Prop,(∃ m,W 0 m σ H1)∧∀ i m σ H,W i m σ H →
 (J.stop i H∧D.nx σ H)∨(J.go i H∧∃ N:St→Hp→Prop,(∀ σ' H',N σ' H'→∃ m',m'<m∧W (i+1) m' σ' H')∧∀ x H',J.NR i H x H'→g x σ H' fun σ2 H2=>tb { D with nx:=N,ct:=N,bk:=D.nx } σ2 H2)
def sO (fp:List Q6) (h:SA):List (Q6×TK):=fp.filterMap fun b=>(h.get? b).map fun o=>(b,o)
theorem iS {h:SA} {b:Q6} (hb:b∈fp) (e:h.get? b=some o):(b,o)∈sO fp h:=Ug.mpr ⟨b,hb,by rw [e]; rfl⟩
theorem Fd {h:SA} {p:Q6×TK} (hp:p∈sO fp h):p.1∈fp∧h.get? p.1=some p.2:=by
 obtain ⟨b,hb,e⟩:=Ug.mp hp;cases q:h.get? b with
 | none=>rw [q] at e; cases e
 | some o =>rw [q] at e;have e':(b,o)=p:=R5 e;subst e';exact ⟨hb,q⟩
theorem Inv.pinned (I:Inv X pins σ H s) (hf:∀ b∈fp,xC X pins H b) (ho:∀ b∈fp,∃ o,s.heap.get? b=some o∧∀ v,o.data≠.cell v):Inv X (pins++sO fp s.heap) σ H s :=
 I.DW fun p hp=>(RD.mp hp).elim (fun z=>I.pin p (RA _ z)) fun z=>by obtain ⟨hb,e⟩:=Fd z;obtain ⟨f0,f1,f2,_⟩:=hf p.1 hb;obtain ⟨o,e',d⟩:=ho p.1 hb;rw [e] at e'; cases e';exact ⟨e,f0,f1,f2,d⟩
theorem Inv.nR {pl:List (Q6×TK)} (I:Inv X (pins++pl) σ H s):Inv X pins σ H s:=I.DW fun p hp=>I.pin p (RA _ (S7 _ hp))
theorem iO {iter:Sv} {body:List SJ} {wi:TI} {g:TG} (hp:PassesOwn ‹3› X.A X.env X.xe) (hc:X.calm=true) (hi:PI X tg iter wi) (hg:PG X tg g) (hb:wI X body tb)
 (hs:∀ x,Tx iter X.env x=pure x:=by intro _; rfl):PS X (.For tg iter body [] pos) (Ob wi g tb):=by
 intro pins s σ H D I h;refine wpAny_For ‹72› hs;obtain ⟨it,fp,tn,J,H2,e,I2,T,st2,f2,W,⟨m0,w0⟩,turn⟩:=h2;subst e;have stat:∀ {H':Hp},(∀ b∈fp,H' b=none)→∀ b∈fp,xC X pins H' b:=fun hn b hb=>⟨hn b hb,(f2 b hb).2⟩
 refine codeAny_forLoop_any (fun n s'=>∃ i σ' H',Inv X pins σ' H' s'∧tn i s'.heap∧(∀ b∈fp,H' b=none)∧W i n σ' H') ?_ m0 ⟨0,σ,H2,I2,st2,fun b hb=>(f2 b hb).1,w0⟩;rintro n s3 ⟨i,σ3,H3,I3,st3,fr3,w3⟩;rcases turn i n σ3 H3 w3 with ⟨stop,qn⟩ | ⟨go,N,hN,step⟩
 ·refine T5 hp (cP (T.done X rfl rfl rfl hc i pins s3 σ3 H3 X.xe I3 (stat fr3) st3 stop) fun r s4 ⟨hr,I4⟩=>?_);subst hr;exact Te ⟨σ3,H3,I4,qn⟩
 ·refine T5 hp (cP (T.item X rfl rfl rfl hc i pins s3 σ3 H3 X.xe I3 (stat fr3) st3 go) fun r s4 ⟨u,hr,h4⟩=>?_);subst hr;refine T5 hp (cP h4 fun _ s5 ⟨x,H5,I5,r5,y5,st5,fr5⟩=>?_);have I5':=I5.pinned (stat fr5) (T.obj _ _ st5);refine T5 hp (cP (hg _ s5 σ3 H5 x u _ I5' r5 (step x H5 y5)) fun _ s6 ⟨σ6,H6,I6,q6⟩=>?_);refine T5 hp (cP (hb _ s6 σ6 H6 _ I6 q6) fun f s7 q7=>?_);have again:∀ {σ7:St} {H7:Hp},Inv X (pins++sO fp s5.heap) σ7 H7 s7→N σ7 H7→∃ m,m<n∧∃ i σ' H',Inv X pins σ' H' s7∧tn i s7.heap∧(∀ b∈fp,H' b=none)∧W i m σ' H':=fun {σ7 H7} I7 n7=>by obtain ⟨m',hm,w7⟩:=hN σ7 H7 n7;refine ⟨m',hm,i+1,σ7,H7,I7.nR,T.keep _ _ _ st5 fun b hb o e=>(I7.pin (b,o) (RA _ (RA _ (iS hb e)))).1,fun b hb=>?_,w7⟩;obtain ⟨o,e,d⟩:=T.obj _ _ st5 b hb;exact (I7.pin (b,o) (RA _ (RA _ (iS hb e)))).2.1
  cases f with
  | next=>obtain ⟨σ7,H7,I7,n7⟩:=q7; exact again I7 n7
  | cont=>obtain ⟨σ7,H7,I7,n7⟩:=q7; exact again I7 n7
  | brk=>obtain ⟨σ7,H7,I7,q7⟩:=q7; exact ⟨σ7,H7,I7.nR,q7⟩
  | ret v=>obtain ⟨x7,σ7,H7,I7,r7,q7⟩:=q7; exact ⟨x7,σ7,H7,I7.nR,r7,q7⟩
end
abbrev R2:=V→V→Hp→VK→Prop
noncomputable def sx (X:Cx) (f:Q7→Q7→Sem Q7) (r:R2):Prop :=
 ∀ (pins:List (Q6×TK)) (s:Rb) (σ:St) (H:Hp) (x y:V) (v u:Q7) (Q:VK),Inv X pins σ H s→RelV x v→RelV y u→r x y H Q →
  Rv ‹3› X.A (f v u) ‹85› X.xe s
noncomputable def Qd (X:Cx) (f:Q7→Sem Q7) (r:V→Hp→VK→Prop):Prop :=
 ∀ (pins:List (Q6×TK)) (s:Rb) (σ:St) (H:Hp) (x:V) (v:Q7) (Q:VK),Inv X pins σ H s→RelV x v→r x H Q →
  Rv ‹3› X.A (f v) ‹85› X.xe s
noncomputable def ma (X:Cx) (f:Q7) (r:List V→Hp→VK→Prop):Prop :=
 ∀ (pins:List (Q6×TK)) (s:Rb) (σ:St) (H:Hp) (xs:List V) (us:List Q7) (Q:VK),Inv X pins σ H s→Vals xs us→r xs H Q →
  Rv ‹3› X.A (call f us) ‹85› X.xe s
noncomputable def Qe (X:Cx) (r:V→Hp→(Bool→Hp→Prop)→Prop):Prop :=
 ∀ (pins:List (Q6×TK)) (s:Rb) (σ:St) (H:Hp) (x:V) (v:Q7) (Q:Bool→Hp→Prop),Inv X pins σ H s→RelV x v→r x H Q →
  Rv ‹3› X.A (truthy v) (TP X pins σ Q) X.xe s
def tJ (r:R2) (ta tb:TE):TE:=fun σ H Q=>ta σ H fun x H1=>tb σ H1 fun y H2=>r x y H2 Q
def Qr (r:V→Hp→VK→Prop) (ta:TE):TE:=fun σ H Q=>ta σ H fun x H1=>r x H1 Q
def rI (C:Int→Int→Prop) (g:Int→Int→V):R2:=fun x y H Q=>∃ i j,x=.int i∧y=.int j∧C i j∧Q (g i j) H
def CC (g:Int→Int→V):R2:=fun x y H Q=>∃ i j,x=.int i∧y=.int j∧Q (g i j) H
variable {r:R2} {f:Q7→Q7→Sem Q7}
def rU (g:Int→V):V→Hp→VK→Prop:=fun x H Q=>∃ i,x=.int i∧Q (g i) H
section
variable {X:Cx} {a b c:Sv} {ta tb tc:TE} {pos:VJ}
theorem NH (ha:PE X a ta) (hb:PE X b tb) {R:V→V→Hp→Prop} (I:Inv X pins σ H s)
 (h:ta σ H fun x H1=>tb σ H1 fun y H2=>R x y H2) {Q:Q7→Rb→Prop} {f:Q7→Q7→Sem Q7}
 (hf:∀ v u s2 x y H2,Inv X pins σ H2 s2→RelV x v→RelV y u→R x y H2→Rv ‹3› X.A (f v u) Q X.xe s2) :
 Rv ‹3› X.A (eval a X.env) (fun v s₁=>Rv ‹3› X.A (eval b X.env) (fun u s₂=>Rv ‹3› X.A (f v u) Q X.xe s₂) X.xe s₁) X.xe s:=by
 refine cP ‹82› fun v s1 ⟨x,H1,I1,r1,q1⟩=>?_;refine cP (hb pins s1 σ H1 _ I1 q1) fun u s2 ⟨y,H2,I2,r2,q2⟩=>?_;exact hf v u s2 x y H2 I2 r1 r2 q2
theorem aE {op:Operator} (ho:sx X (WL op) r) (ha:PE X a ta) (hb:PE X b tb):PE X (.BinOp a op b pos) (tJ r ta tb):=by intro pins s σ H Q I h;exact wpAny_BinOp (NH ha hb I h fun v u s2 x y H2 I2 rx ry q=>ho pins s2 σ H2 x y v u Q I2 rx ry q)
theorem A4 {op:UnaryOp} {r:V→Hp→VK→Prop} (ho:Qd X (unaryOp op) r) (ha:PE X a ta):PE X (.UnaryOp op a pos) (Qr r ta):=by intro pins s σ H Q I h;exact UnaryOp_ (cP ‹82› fun v s1 ⟨x,H1,I1,r1,q1⟩=>ho pins s1 σ H1 x v Q I1 r1 q1)
theorem Qt {C:Int→Int→Prop} {g:Int→Int→Int}
 (rule:∀ (i j:Int) (t u:Tok) (s:Rb) (Q:Q7→Rb→Prop) (E:Q7→Rb→Prop),C i j→Q (.int (g i j) s.toks) { s with toks:=s.toks+1 }→Rv ‹3› X.A (f (.int i t) (.int j u)) Q E s) :
 sx X f (rI C fun i j=>.int (g i j)):=by
 intro pins s σ H x y v u Q I rx ry h;obtain ⟨i,j,rfl,rfl,hc,q⟩:=h;obtain ⟨t,rfl⟩:=rx;obtain ⟨t',rfl⟩:=ry;exact rule i j t t' s _ _ hc ⟨.int (g i j),H,I.tok _,⟨_,rfl⟩,q⟩
theorem PY {g:Int→Int→Int}
 (rule:∀ (i j:Int) (t u:Tok) (s:Rb) (Q:Q7→Rb→Prop) (E:Q7→Rb→Prop),Q (.int (g i j) s.toks) { s with toks:=s.toks+1 }→Rv ‹3› X.A (f (.int i t) (.int j u)) Q E s) :
 sx X f (CC fun i j=>.int (g i j)):=by
 intro pins s σ H x y v u Q I rx ry h;obtain ⟨i,j,rfl,rfl,q⟩:=h;obtain ⟨t,rfl⟩:=rx;obtain ⟨t',rfl⟩:=ry;exact rule i j t t' s _ _ ⟨.int (g i j),H,I.tok _,⟨_,rfl⟩,q⟩
theorem JX {g:Int→Int→Bool}
 (rule:∀ (i j:Int) (t u:Tok) (s:Rb) (Q:Q7→Rb→Prop) (E:Q7→Rb→Prop),Q (.bool (g i j)) s→Rv ‹3› X.A (f (.int i t) (.int j u)) Q E s) :
 sx X f (CC fun i j=>.bl (g i j)):=by
 intro pins s σ H x y v u Q I rx ry h;obtain ⟨i,j,rfl,rfl,q⟩:=h;obtain ⟨t,rfl⟩:=rx;obtain ⟨t',rfl⟩:=ry;exact rule i j t t' s _ _ ⟨.bl (g i j),H,I,rfl,q⟩
def NQ (i j:Int):Prop:=(-(2 ^ 64)<i∧i<2 ^ 64)∨(-(2 ^ 64)<j∧j<2 ^ 64)
theorem NQ.ok {i j:Int} (h:NQ i j):Xz i j:=by
 rcases h with ⟨h1,h2⟩ | ⟨h1,h2⟩
 ·exact .of_left (intBits_le_64 h1 h2)
 ·exact .of_right (intBits_le_64 h1 h2)
theorem n8:sx X (WL .Add) (CC fun i j=>.int (i+j)):=PY fun _ _ _ _ _ _ _ q=>add_int q
theorem mz:sx X (WL .Mod) (rI (fun _ j=>0<j) fun i j=>.int (i % j)):=Qt fun i j _ _ _ _ _ hc q=>by have h1:(0:Int)<j:=hc;exact mod_int' (by lia) (by rw [Int.fmod_eq_emod_of_nonneg i (by lia)]; exact q)
theorem PL {f:Q7→Sem Q7} {g:Int→Int}
 (rule:∀ (i:Int) (t:Tok) (s:Rb) (Q:Q7→Rb→Prop) (E:Q7→Rb→Prop),Q (.int (g i) s.toks) { s with toks:=s.toks+1 }→Rv ‹3› X.A (f (.int i t)) Q E s) :
 Qd X f (rU fun i=>.int (g i)):=by
 intro pins s σ H x v Q I rx h;obtain ⟨i,rfl,q⟩:=h;obtain ⟨t,rfl⟩:=rx;exact rule i t s _ _ ⟨.int (g i),H,I.tok _,⟨_,rfl⟩,q⟩
theorem u5:Qd X (unaryOp .USub) (rU fun i=>.int (-i)):=PL fun _ _ _ _ _ q=>neg_int q
end
noncomputable def pB:V→V→Bool
 | .non,.non=>true | .non,.int _=>true | .int _,.non=>true | .non,.bl _=>true | .bl _,.non=>true | .non,.str _=>true | .str _,.non=>true
 | .int _,.int _=>true | .bl _,.bl _=>true | .str _,.str _=>true | .byt _,.byt _=>true
 | .int _,.str _=>true | .str _,.int _=>true | .bl _,.str _=>true | .str _,.bl _=>true
 | _,_=>false
def QP:R2:=fun x y H Q=>pB x y=true∧Q (.bl (decide (x=y))) H
def QO:R2:=fun x y H Q=>pB x y=true∧Q (.bl (!decide (x=y))) H
theorem rW {i j:Int}:decide (V.int i=V.int j)=(i==j):=by rw [RG];simp
theorem Ab {i j:Bool}:decide (V.bl i=V.bl j)=(i==j):=by rw [RG];simp
theorem uP {i j:Rf}:decide (V.str i=V.str j)=(i==j):=by rw [RG];simp
variable {us:List Q7}
theorem Eh {i j:Array UInt8}:decide (V.byt i=V.byt j)=(i.toList==j.toList):=by rw [RG];cases i;cases j;simp
section
variable {X:Cx} {a b c:Sv} {ta tb tc:TE} {pos:VJ}
theorem cB {Q:VK} {k k':Bool} (I:Inv X pins σ H s) (q:Q (.bl k) H) (e:k=k'):EP X pins σ Q (.bool k') s:=by subst e;exact ⟨.bl k,H,I,rfl,q⟩
theorem D0:sx X (S8 .Eq) QP:=by
 intro pins s σ H x y v u Q I rx ry h;obtain ⟨hs,q⟩:=h;cases x with
 | non =>
  cases rx;cases y with
  | non=>cases ry; exact PySem.EqNone.eq_none_none ‹50›
  | bl j=>cases ry; exact PySem.EqNone.eq_none_bool ‹50›
  | int j=>obtain ⟨t',rfl⟩:=ry; exact WA ‹50›
  | str j=>obtain ⟨t',rfl⟩:=ry; exact PySem.EqNone.eq_none_str ‹50›
  | _=>exact absurd (show false=true from hs) Rn
 | bl i =>
  cases rx;cases y with
  | non=>cases ry; exact PySem.EqNone.eq_bool_none ‹50›
  | bl j=>cases ry; exact eq_bool (cB I q Ab)
  | str j=>obtain ⟨t',rfl⟩:=ry; exact PySem.EqMixed.eq_bool_str ‹50›
  | _=>exact absurd (show false=true from hs) Rn
 | int i =>
  obtain ⟨t,rfl⟩:=rx;cases y with
  | non=>cases ry; exact PySem.EqNone.eq_int_none ‹50›
  | int j=>obtain ⟨t',rfl⟩:=ry; exact eq_int (cB I q rW)
  | str j=>obtain ⟨t',rfl⟩:=ry; exact PySem.EqMixed.eq_int_str ‹50›
  | _=>exact absurd (show false=true from hs) Rn
 | str i =>
  obtain ⟨t,rfl⟩:=rx;cases y with
  | non=>cases ry; exact PySem.EqNone.eq_str_none ‹50›
  | bl j=>cases ry; exact PySem.EqMixed.eq_str_bool ‹50›
  | int j=>obtain ⟨t',rfl⟩:=ry; exact PySem.EqMixed.eq_str_int ‹50›
  | str j=>obtain ⟨t',rfl⟩:=ry; exact eq_str (cB I q uP)
  | _=>exact absurd (show false=true from hs) Rn
 | byt i =>
  obtain ⟨t,rfl⟩:=rx;cases y with
  | byt j=>obtain ⟨t',rfl⟩:=ry; exact PySem.W.eq_bytes (cB I q Eh)
  | _=>exact absurd (show false=true from hs) Rn
 | _=>cases y <;> exact absurd (show false=true from hs) Rn
theorem DY:sx X (S8 .NotEq) QO:=by
 intro pins s σ H x y v u Q I rx ry h;obtain ⟨hs,q⟩:=h;cases x with
 | non =>
  cases rx;cases y with
  | non=>cases ry; exact PySem.EqNone.ne_none_none ‹50›
  | bl j=>cases ry; exact PySem.EqNone.ne_none_bool ‹50›
  | int j=>obtain ⟨t',rfl⟩:=ry; exact PySem.EqNone.ne_none_int ‹50›
  | str j=>obtain ⟨t',rfl⟩:=ry; exact PySem.EqNone.ne_none_str ‹50›
  | _=>exact absurd (show false=true from hs) Rn
 | bl i =>
  cases rx;cases y with
  | non=>cases ry; exact PySem.EqNone.ne_bool_none ‹50›
  | bl j=>cases ry; exact ne_bool (cB I q (congrArg not Ab))
  | str j=>obtain ⟨t',rfl⟩:=ry; exact PySem.EqMixed.ne_bool_str ‹50›
  | _=>exact absurd (show false=true from hs) Rn
 | int i =>
  obtain ⟨t,rfl⟩:=rx;cases y with
  | non=>cases ry; exact PySem.EqNone.ne_int_none ‹50›
  | int j=>obtain ⟨t',rfl⟩:=ry; exact ne_int (cB I q (congrArg not rW))
  | str j=>obtain ⟨t',rfl⟩:=ry; exact PySem.EqMixed.ne_int_str ‹50›
  | _=>exact absurd (show false=true from hs) Rn
 | str i =>
  obtain ⟨t,rfl⟩:=rx;cases y with
  | non=>cases ry; exact PySem.EqNone.ne_str_none ‹50›
  | bl j=>cases ry; exact PySem.EqMixed.ne_str_bool ‹50›
  | int j=>obtain ⟨t',rfl⟩:=ry; exact PySem.EqMixed.ne_str_int ‹50›
  | str j=>obtain ⟨t',rfl⟩:=ry; exact ne_str (cB I q (congrArg not uP))
  | _=>exact absurd (show false=true from hs) Rn
 | byt i =>
  obtain ⟨t,rfl⟩:=rx;cases y with
  | byt j=>obtain ⟨t',rfl⟩:=ry; exact PySem.W.ne_bytes (cB I q (congrArg not Eh))
  | _=>exact absurd (show false=true from hs) Rn
 | _=>cases y <;> exact absurd (show false=true from hs) Rn
theorem tP:sx X (S8 .Lt) (CC fun i j=>.bl (decide (i<j))):=JX fun _ _ _ _ _ _ _ q=>lt_int q
theorem g8:sx X (S8 .LtE) (CC fun i j=>.bl (decide (i≤j))):=JX fun _ _ _ _ _ _ _ q=>le_int q
theorem DZ:sx X (S8 .Gt) (CC fun i j=>.bl (decide (j<i))):=JX fun _ _ _ _ _ _ _ q=>gt_int q
theorem Lu:sx X (S8 .GtE) (CC fun i j=>.bl (decide (j≤i))):=JX fun _ _ _ _ _ _ _ q=>ge_int q
theorem x4:sx X (S8 .In) (fun x y H Q=>∃ i j,x=.str i∧y=.str j∧Q (.bl (!(Builtin.Str.occurrences j i 0 j.length 1).isEmpty)) H):=by intro pins s σ H x y v u Q I rx ry h;obtain ⟨i,j,rfl,rfl,q⟩:=h;obtain ⟨t,rfl⟩:=rx;obtain ⟨t',rfl⟩:=ry;exact in_str (cB I q rfl)
theorem aY (b:Sv) (h:op≠.In:=by decide) (h2:op≠.NotIn:=by decide):Vx op b=false:=by
 have e1:(op==CmpOp.In)=false:=by cases op <;> first | rfl | exact absurd rfl h
 have e2:(op==CmpOp.NotIn)=false:=by cases op <;> first | rfl | exact absurd rfl h2
 cases b <;> simp [Vx,e1,e2]
theorem df (ho:sx X (S8 op) r) (ha:PE X a ta) (hb:PE X b tb) (hm:Vx op b=false):PE X (.Compare a [op] [b] pos) (tJ r ta tb):=by intro pins s σ H Q I h;exact wpAny_Compare1 (NH ha hb I h fun v u s2 x y H2 I2 rx ry q=>ho pins s2 σ H2 x y v u Q I2 rx ry q) hm
def Dq (t:TE):TT:=fun σ H Q=>t σ H fun x H'=>∃ k,x=.bl k∧Q k H'
theorem a6 (ho:sx X (S8 op) r) (ha:PE X a ta) (hb:PE X b tb) (hm:Vx op b=false):PT X (.Compare a [op] [b] pos) (Dq (tJ r ta tb)):=by intro pins s σ H Q I h;refine Xq (cP ‹82› fun v s1 ⟨x,H1,I1,r1,q1⟩=>cP (hb pins s1 σ H1 _ I1 q1) fun u s2 ⟨y,H2,I2,r2,q2⟩ =>cP (ho pins s2 σ H2 x y v u _ I2 r1 r2 q2) fun c s3 ⟨z,H3,I3,r3,k,e,q3⟩=>?_) hm;subst e;cases r3;exact S4 ⟨H3,I3,q3⟩
def Ca (r r':R2) (ta tb tc:TE):TE:=fun σ H Q=>ta σ H fun x H1=>tb σ H1 fun y H2=>r x y H2 fun z H3=>∃ k,z=.bl k ∧
 (if k=true then tc σ H3 fun w' H4=>r' y w' H4 Q else Q (.bl false) H3)
theorem A6 {op':CmpOp} {r':R2} (ho:sx X (S8 op) r) (ho':sx X (S8 op') r') (ha:PE X a ta) (hb:PE X b tb) (hc:PE X c tc)
 (hm:lastMarks [op,op'] [b,c]=false:=by with_unfolding_all rfl):PE X (.Compare a [op,op'] [b,c] pos) (Ca r r' ta tb tc):=by
 intro pins s σ H Q I h;refine Compare_chain (cP ‹82› fun v s1 ⟨x,H1,I1,r1,q1⟩=>chain_link (cP (hb pins s1 σ H1 _ I1 q1) fun u s2 ⟨y,H2,I2,r2,q2⟩ =>cP (ho pins s2 σ H2 x y v u _ I2 r1 r2 q2) fun d s3 ⟨z,H3,I3,r3,k,e,q3⟩=>?_)) hm;subst e;cases r3;refine S4 ?_;cases k with
 | false=>exact ite_ff ⟨.bl false,H3,I3,rfl,q3⟩
 | true=>exact ite_tt (chain_last (cP (hc pins s3 σ H3 _ I3 q3) fun w' s4 ⟨z',H4,I4,r4,q4⟩=>ho' pins s4 σ H4 y z' u w' Q I4 r2 r4 q4))
theorem jd {op':CmpOp} {r':R2} (ho:sx X (S8 op) r) (ho':sx X (S8 op') r') (ha:PE X a ta) (hb:PE X b tb) (hc:PE X c tc)
 (hm:lastMarks [op,op'] [b,c]=false:=by with_unfolding_all rfl):PT X (.Compare a [op,op'] [b,c] pos) (Dq (Ca r r' ta tb tc)):=by
 intro pins s σ H Q I h;refine isTrue_chain (cP ‹82› fun v s1 ⟨x,H1,I1,r1,q1⟩=>test_link (cP (hb pins s1 σ H1 _ I1 q1) fun u s2 ⟨y,H2,I2,r2,q2⟩ =>cP (ho pins s2 σ H2 x y v u _ I2 r1 r2 q2) fun d s3 ⟨z,H3,I3,r3,k,e,q3⟩=>?_)) hm;subst e;cases r3;refine S4 ?_;cases k with
 | false =>obtain ⟨k',e',q'⟩:=q3;cases e';exact ite_ff ⟨H3,I3,q'⟩
 | true =>refine ite_tt (test_last (cP (hc pins s3 σ H3 _ I3 q3) fun w' s4 ⟨z',H4,I4,r4,q4⟩=>cP (ho' pins s4 σ H4 y z' u w' _ I4 r2 r4 q4) fun d' s5 ⟨z2,H5,I5,r5,k2,e2,q5⟩=>?_));subst e2;cases r5;exact S4 ⟨H5,I5,q5⟩
noncomputable def C9 (K:Q2) (x:V) (H:Hp) (k:Bool):Prop :=
 match x with
 | .non=>k=false
 | .bl b=>k=b
 | .int i=>k=(i != 0)
 | .str y=>y.length≤Q4∧k=((y.length:Int) != 0)
 | .byt y=>y.size≤Q4∧k=((y.size:Int) != 0)
 | .ref p=>(∃ xs,mS K H p xs∧k=!xs.isEmpty)∨(∃ xs,LP K H p xs∧k=!xs.isEmpty)∨∃ kvs,H p=some (.dK kvs)∧k=!kvs.isEmpty
 | _=>False
theorem CT {κ:Type} {kvs:List (κ×V)} {vs:List (κ×Q7)} (r:KV kvs vs):(!vs.isEmpty)=!kvs.isEmpty:=by cases r <;> rfl
theorem vY {xs:List V} {its:List Q7} (r:Vals xs its):(!its.toArray.isEmpty)=!xs.isEmpty:=by cases r <;> simp
theorem sQ:(Q4:Nat)<2 ^ 63:=by rw [Rw]; decide
theorem L6:Qe X (fun x H Q=>∃ k,C9 X.K x H k∧Q k H):=by
 intro pins s σ H x v Q I rx h;obtain ⟨k,e,q⟩:=h;have hl:=sQ;have hs:Q4=16777216:=Rw;cases x with
 | non =>cases rx;have e':k=false:=e;subst e';exact truthy_none ⟨H,I,q⟩
 | bl b =>cases rx;have e':k=b:=e;subst e';exact S4 ⟨H,I,q⟩
 | int i =>obtain ⟨t,rfl⟩:=rx;have e':k=(i != 0):=e;subst e';exact X8 ⟨H,I,q⟩
 | str y =>obtain ⟨t,rfl⟩:=rx;obtain ⟨hy,e'⟩:y.length≤Q4∧k=((y.length:Int) != 0):=e;subst e';exact PySem.P.truthy_str (by lia) ⟨H,I.tok _,q⟩
 | byt y =>obtain ⟨t,rfl⟩:=rx;obtain ⟨hy,e'⟩:y.size≤Q4∧k=((y.size:Int) != 0):=e;subst e';exact PySem.W.truthy_bytes (by lia) ⟨H,I.tok _,q⟩
 | ref p =>
  cases rx;have e':(∃ xs,mS X.K H p xs∧k=!xs.isEmpty)∨(∃ xs,LP X.K H p xs∧k=!xs.isEmpty)∨∃ kvs,H p=some (.dK kvs)∧k=!kvs.isEmpty:=e;rcases e' with ⟨xs,hx,e'⟩ | ⟨xs,hx,e'⟩ | ⟨kvs,hx,e'⟩
  ·subst e';obtain ⟨its,r,pl,hz⟩:=I.list hx;have hlen:=r.length;exact wpAny_truthy_list pl.isList (by simp only [Rr]; lia) ⟨H,I.tok _,by rw [vY r]; exact q⟩
  ·subst e';obtain ⟨its,r,pl,hz⟩:=I.tuple hx;have hlen:=r.length;exact truthy_tuple pl (by simp only [Rr]; lia) ⟨H,I.tok _,by rw [vY r]; exact q⟩
  ·subst e';obtain ⟨hz,hS,vs,r,m⟩:kvs.length≤Q4∧(p==Tu)=false∧∃ vs,KV kvs vs∧s.heap.DictOf (di X.prog X.w) p vs:=I.dm p _ hx;have hlen:kvs.length=vs.length:=UP r;exact wpAny_truthy_dict hS m (by lia) ⟨H,I.tok _,by rw [CT r]; exact q⟩
 | _=>exact (show False from e).elim
theorem Hc (ha:PE X a ta) (he:∀ whole,isTrue a X.env whole=(do let v ← whole; W7 a.pos; VS [v] (truthy v))) :
 PT X a (fun σ H Q=>ta σ H fun x H'=>∃ k,C9 X.K x H' k∧Q k H'):=by
 intro pins s σ H Q I h;exact isTrue_plain (cP ‹82› fun v s1 ⟨x,H1,I1,r1,q1⟩=>L6 pins s1 σ H1 x v Q I1 r1 q1) (he _)
theorem ao:sx X (WL .Add) (fun x y H Q=>∃ i j,x=.str i∧y=.str j∧i.length+j.length≤Q4∧Q (.str (i++j)) H):=by intro pins s σ H x y v u Q I rx ry h;obtain ⟨i,j,rfl,rfl,hz,q⟩:=h;obtain ⟨t,rfl⟩:=rx;obtain ⟨t',rfl⟩:=ry;exact add_str (fun t' tk=>⟨.str (i++j),H,I.tok _,⟨_,rfl⟩,q⟩) hz
theorem vals1 {x:V} (r:Vals [x] us):∃ u,us=[u]∧RelV x u:=by
 cases r with
 | cons r1 r2=>cases r2; exact ⟨_,rfl,r1⟩
theorem FQ:ma X (.type "int") (fun xs H Q=>(∃ i,xs=[.int i]∧Q (.int i) H)∨∃ k,xs=[.bl k]∧Q (.int (if k then 1 else 0)) H):=by
 intro pins s σ H xs us Q I r h;rcases h with ⟨i,rfl,q⟩ | ⟨k,rfl,q⟩
 ·obtain ⟨u,rfl,t,rfl⟩:=vals1 r;exact call_int_int ⟨.int i,H,I,⟨_,rfl⟩,q⟩
 ·obtain ⟨u,rfl,r1⟩:=vals1 r;cases r1;exact call_int_bool ⟨.int (if k then 1 else 0),H,I.tok _,⟨_,rfl⟩,q⟩
theorem mQ:ma X (.type "str") (fun xs H Q=>∃ i,xs=[.int i]∧i.natAbs.log2<1920∧Q (.str (toString i)) H):=by intro pins s σ H xs us Q I r h;obtain ⟨i,rfl,hz,q⟩:=h;obtain ⟨u,rfl,t,rfl⟩:=vals1 r;exact PySem.P.str_of_int hz ⟨.str _,H,I.tok _,⟨_,rfl⟩,q⟩
noncomputable def KW (K:Q2) (x:V) (H:Hp) (n:Nat):Prop :=
 match x with
 | .str y=>y.length≤Q4∧n=y.length
 | .byt y=>y.size≤Q4∧n=y.size
 | .ref p=>(∃ xs,mS K H p xs∧n=xs.length)∨∃ xs,LP K H p xs∧n=xs.length
 | _=>False
theorem IK:ma X (.builtin "len") (fun xs H Q=>∃ x n,xs=[x]∧KW X.K x H n∧Q (.int n) H):=by
 intro pins s σ H xs us Q I r h;obtain ⟨x,n,rfl,e,q⟩:=h;obtain ⟨u,rfl,rx⟩:=vals1 r;have hl:=sQ;have hs:Q4=16777216:=Rw;cases x with
 | str y =>obtain ⟨t,rfl⟩:=rx;obtain ⟨hy,e'⟩:y.length≤Q4∧n=y.length:=e;subst e';exact len_str (by lia) ⟨.int _,H,I.tok _,⟨_,rfl⟩,q⟩
 | byt y =>obtain ⟨t,rfl⟩:=rx;obtain ⟨hy,e'⟩:y.size≤Q4∧n=y.size:=e;subst e';exact PySem.W.len_bytes (by lia) ⟨.int _,H,I.tok _,⟨_,rfl⟩,q⟩
 | ref p =>
  cases rx;have e':(∃ xs,mS X.K H p xs∧n=xs.length)∨∃ xs,LP X.K H p xs∧n=xs.length:=e;rcases e' with ⟨xs,hx,e'⟩ | ⟨xs,hx,e'⟩
  ·subst e';obtain ⟨its,r',pl,hz⟩:=I.list hx;have hlen:=r'.length;exact Calls.call_len_list pl.isList (by simp only [Rr]; lia) ⟨.int xs.length,H,I.tok _,⟨_,by simp only [Rr]; rw [hlen]⟩,q⟩
  ·subst e';obtain ⟨its,r',pl,hz⟩:=I.tuple hx;have hlen:=r'.length;exact len_tuple pl (by simp only [Rr]; lia) ⟨.int xs.length,H,I.tok _,⟨_,by simp only [Rr]; rw [hlen]⟩,q⟩
 | _=>exact (show False from e).elim
end
structure Dd (h:SA) (x dx C:Q6) (mA:Rf→Option Q7):Prop where
 obj:h.get? x=some (SD C dx)
 ns:h.Ns1 dx mA
 ne:dx≠x
variable {mA:Rf→Option Q7}
theorem Fn {h:SA} {dx:Q6} (n:h.Ns1 dx mA):∃ od,h.get? dx=some od∧∀ name,V2 name od=some (mA name):=by
 obtain ⟨o,es,ep,ho,hd,hk,_,hm⟩:=n;refine ⟨o,ho,fun name=>?_⟩;have e:=hm name;unfold nsFind findBy at e;rw [← Array.find?_toList] at e;unfold V2;rw [hd];dsimp only;split
 ·rename_i y q;rw [q] at e;exact congrArg some e
 ·rename_i q;rw [q] at e;have a:es.toList.any (·.refKey)=false:=by rw [Yn];intro y hy;obtain ⟨z,t,hkey⟩:=hk y (Array.mem_toList_iff.mp hy);simp [DictEntry.refKey,hkey]
  have a':¬ es.toList.any (·.refKey)=true:=by rw [a]; exact Rn
  rw [if_neg a'];exact congrArg some e
variable {C:Q6} {pl:Sem Bool} {R:YC→Rb→Prop} {kw:List (Rf×Q7)}
theorem Dd.look {h:SA} {x dx:Q6} (I:Dd h x dx C mA):∃ od,XB h x (SD C dx) C (some od)∧∀ name,V2 name od=some (mA name) :=
 let ⟨od,ho,hl⟩:=Fn I.ns
 ⟨od,⟨I.obj,rfl,rfl,ho⟩,hl⟩
section
variable {prog:Sd} {w:Sn} {A:SG} {E:Q7→Rb→Prop} {s:Rb} {K:Q2} {x dx C f:Q6} {mA:Rf→Option Q7} {name:Rf} {v:Q7}
theorem get_map {expr:Bool} (X:K.In s.heap) (I:Dd s.heap x dx C mA) (hg:Vm K C name=true) (hh:U9 K C=true)
 (ha:Sk K (.ref C) name=some none) (hv:mA name=some v) (hv':YD v=true) (h:Q v { s with toks:=s.toks+1 }) :
 Rv ‹40› A (getAttr (.ref x) name expr) Q E s:=by
 obtain ⟨od,J,hl⟩:=I.look;exact PySem.W.get_value X J (VO hg).1 (PySem.W.findObj_own hh ha rfl (by rw [hl,hv])) hv' h
theorem Ih {Q:Q7×List Q7→Rb→Prop} (X:K.In s.heap) (I:Dd s.heap x dx C mA) (hg:Vm K C name=true)
 (hf:Sk K (.ref C) name=some (some (.ref f))) (ht:VR K (.ref f)=true) (hv:mA name=none) (h:Q (.ref f,[.ref x]) s) :
 Rv ‹40› A (VX (.ref x) name pl) Q E s:=by
 obtain ⟨od,J,hl⟩:=I.look;exact PySem.W.method_fn X J (VO hg).1 (VO hg).2 hf (beq_iff_eq.mp ht) (by show (V2 name od).map (·.isSome)=some false; rw [hl,hv]; rfl) h
theorem JH {ns:List Rf} {Q:Unit→Rb→Prop} (X:K.In s.heap) (I:Dd s.heap x dx C mA)
 (hs:Sk K (.ref C) "__setattr__" = some (some (.builtin "object.__setattr__"))) (hp:Yi K C=true) (ht:Xj K C name=some none) (hh:U9 K C=true)
 (hw:Yl mA ns) (hsz:ns.length≤Q4)
 (h:∀ h',Dd h' x dx C (fun y=>if y=name then some v else mA y)→Vd dx s.heap h'→Q () { s with heap:=h',toks:=s.toks+2 }) :
 Rv ‹40› A (setAttr (.ref x) name v) Q E s:=by
 obtain ⟨od,J,hl⟩:=I.look;refine PySem.W.set_plain X J hs (PySem.W.osa_open (s:={ s with toks:=s.toks+1 }) (r:=none) X J hp ht fun b=>?_);obtain ⟨cd,hc,hd'⟩:=Vq hh;have hx:s.heap.get? x=some ⟨.ref C,some dx,.plain,#[]⟩:=I.obj;refine Rg (RM (Rg (Rg (wpAny_loadPart hx (Rg (PySem.W.Looks.here (s:={ s with toks:=s.toks+1 }) (PySem.W.looks_clsIn X hc) ?_))))));rw [hd'];refine RM (a:=some dx) (Rg (RM (Rg ?_)));refine wpAny_nsSet1 (s:={ s with toks:=s.toks+1 }) I.ns fun h' hn2 hs2=>?_;obtain ⟨oD,esD,epD,hoD,hdD,hcD⟩:=hn2.count (PySem.Within.cons name v hw);refine Rg (wpAny_lookBehind hoD (by rw [hdD]; exact pastItsLine_dict (RE hcD (by rw [Rt]; lia))) ?_);exact RM (h _ ⟨(hs2.2 _ (S6 I.ne)).trans I.obj,hn2,I.ne⟩ hs2)
theorem HN {vs:List Q7} (X:K.In s.heap) (hm:UW K C=true)
 (hi:Sk K (.ref C) "__init__" = some (some (.ref f))) (hf:PySem.W.typeIn K (.ref f)=some (.type "function"))
 (h:UG ‹40› (A.under (.builtin "type.__call__" ⟨.ref C::vs,kw⟩)) (.call (.ref f) ⟨.ref (‹7›+1)::vs,kw⟩) (YE (‹7›+1) R)
  { s with heap:=(s.heap.push So).push (SD C ‹7›) }) :
 UG ‹40› A (.call (.ref C) ⟨vs,kw⟩) R s:=by
 obtain ⟨hh,g,d,t,os⟩:=s;exact Yo (WM X hm) (Ux X hi) (fun self=>PySem.W.bind_fn X self hf) (.inl rfl) h
theorem Fj (X:K.In s.heap) (hm:UW K C=true)
 (hi:Sk K (.ref C) "__init__" = some (some (.builtin "object.__init__")))
 (hb:∀ self,Um ‹40› s.heap (bindSpecial (.builtin "object.__init__") self) (.builtin "object.__init__", [self]))
 (h:UG ‹40› (A.under (.builtin "type.__call__" ⟨[.ref C],[]⟩)) (.call (.builtin "object.__init__") ⟨[.ref (‹7›+1)],[]⟩) (YE (‹7›+1) R)
  { s with heap:=(s.heap.push So).push (SD C ‹7›) }) :
 UG ‹40› A (.call (.ref C) ⟨[],[]⟩) R s:=by
 obtain ⟨hh,g,d,t,os⟩:=s;exact Yo (WM X hm) (Ux X hi) hb (.inr ⟨rfl,rfl⟩) h
end
def pE (f:Rf) (v:V):List (Rf×V)→List (Rf×V)
 | []=>[(f,v)]
 | (g,x)::r=>if g=f then (g,v)::r else (g,x)::pE f v r
theorem tS (f g:Rf) (v:V):∀ fs:List (Rf×V),(pE f v fs).lookup g=if g=f then some v else fs.lookup g
 | []=>by
  show Uy g [(f,v)]=_;by_cases h:g=f
  ·have hb:(g==f)=true:=beq_iff_eq.mpr h;simp only [Uy,hb,if_pos h]
  ·have hb:(g==f)=false:=beq_eq_false_iff_ne.mpr h;simp only [Uy,hb,if_neg h]
 | (k,x)::r=>by
  have ih:=tS f g v r;rw [show pE f v ((k,x)::r)=(if k=f then (k,v)::r else (k,x)::pE f v r) from rfl];by_cases hk:k=f
  ·rw [if_pos hk];by_cases h:g=k
   ·have hb:(g==k)=true:=beq_iff_eq.mpr h;simp only [Uy,hb,if_pos (h.trans hk)]
   ·have hb:(g==k)=false:=beq_eq_false_iff_ne.mpr h;simp only [Uy,hb,if_neg (fun e:g=f=>h (e.trans hk.symm))]
  ·rw [if_neg hk];by_cases h:g=k
   ·have hb:(g==k)=true:=beq_iff_eq.mpr h;simp only [Uy,hb,if_neg (fun e:g=f=>hk (h.symm.trans e))]
   ·have hb:(g==k)=false:=beq_eq_false_iff_ne.mpr h;simp only [Uy,hb];exact ih
theorem sR (f:Rf) (v:V):∀ fs:List (Rf×V),f∈(pE f v fs).map (·.1)∧∀ g,g∈fs.map (·.1)→g∈(pE f v fs).map (·.1)
 | []=>⟨by simp [pE],fun g h=>by simp at h⟩
 | (k,x)::r=>by
  obtain ⟨i1,i2⟩:=sR f v r;rw [show pE f v ((k,x)::r)=(if k=f then (k,v)::r else (k,x)::pE f v r) from rfl];by_cases hk:k=f
  ·rw [if_pos hk];subst hk;exact ⟨by simp,fun g h=>by simpa using h⟩
  ·rw [if_neg hk];refine ⟨?_,fun g h=>?_⟩
   ·rw [R4];exact Ra _ i1
   ·rw [R4] at h ⊢;rcases Ri.mp h with e | e
    ·exact Ri.mpr (.inl e)
    ·exact Ra _ (i2 g e)
theorem tU (f:Rf) (v:V):∀ fs:List (Rf×V),(pE f v fs).length≤fs.length+1
 | []=>by simp [pE]
 | (k,x)::r=>by
  have ih:=tU f v r;rw [show pE f v ((k,x)::r)=(if k=f then (k,v)::r else (k,x)::pE f v r) from rfl];by_cases hk:k=f
  ·rw [if_pos hk,Rt,Rt]; lia
  ·rw [if_neg hk,Rt,Rt]; lia
theorem lQ.some_of {v:V} {o:Option Q7} (r:lQ (some v) o):∃ u,o=some u∧RelV v u:=by
 cases o with
 | none=>exact (show False from r).elim
 | some u=>exact ⟨u,rfl,r⟩
theorem lQ.none_of {o:Option Q7} (r:lQ none o):o=none:=by
 cases o with
 | none=>rfl
 | some u=>exact (show False from r).elim
theorem Fz {v:V} (r:RelV v u):YD u=true:=by
 cases v with
 | non=>cases (show u=Vo from r); rfl
 | bl b=>cases (show u=X6 b from r); rfl
 | int i=>obtain ⟨t,e⟩:=(show ∃ t,u=WJ i t from r); cases e; rfl
 | str x=>obtain ⟨t,e⟩:=(show ∃ t,u=Vn x t from r); cases e; rfl
 | byt b=>obtain ⟨t,e⟩:=(show ∃ t,u=YN b t from r); cases e; rfl
 | flt b=>obtain ⟨t,e⟩:=(show ∃ t,u=YO b t from r); cases e; rfl
 | ref a=>cases (show u=RQ a from r); rfl
 | ty n=>cases (show u=X7 n from r); rfl
section
variable {P:Sd} {w:Sn} {H H':Hp} {h h':SA} {a C dx:Q6} {fs fs':List (Rf×V)}
theorem zV (dm:pL P w H h) (e:H a=some (.ins C dx fs)):∃ mA,Dd h a dx C mA∧(∀ f,lQ (fs.lookup f) (mA f))∧Yl mA (fs.map (·.1))∧fs.length≤1000∧H dx=some (.own a):=by
 obtain ⟨d,z,ne,ob,mA,n,r,q⟩:=(show eF P w H h a (.ins C dx fs) from dm a _ e)
 exact ⟨mA,⟨ob,n,ne⟩,r,q,z,d⟩
end
theorem uT.get (c:uT K C) (f:Rf):Vm K C f=true:=c.pg
def iV (K:Q2) (C:Q6) (f:Rf):Prop:=Sk K (.ref C) f=some none
theorem iV.N2 {f:Rf} (n:iV K C f):Xj K C f=some none:=by unfold Xj;rw [show Sk K (.ref C) f=some none from n];rfl
section
variable {X:Cx} {pins:List (Q6×TK)} {σ:St} {H:Hp} {s:Rb} {a C dx:Q6} {fs:List (Rf×V)} {f:Rf} {v:V} {A:SG} {E:Q7→Rb→Prop}
theorem CU {b:Bool} (I:Inv X pins σ H s) (e:H a=some (.ins C dx fs)) (c:uT X.K C) (n:iV X.K C f) (l:fs.lookup f=some v)
 (h:∀ u s',Inv X pins σ H s'→RelV v u→Q u s'):Rv ‹3› A (getAttr (.ref a) f b) Q E s:=by
 obtain ⟨mA,O,r,_,_,_⟩:=zV I.dm e;obtain ⟨u,hu,ru⟩:=lQ.some_of (v:=v) (o:=mA f) (by rw [← l]; exact r f);exact get_map I.qw O (c.get f) c.hd n hu (Fz ru) (h u _ (I.tok _) ru)
theorem j4 {m:Rf} {g:Q6} {Q:Q7×List Q7→Rb→Prop} (I:Inv X pins σ H s) (e:H a=some (.ins C dx fs)) (c:uT X.K C) (k:Meth X.K C m g) (l:fs.lookup m=none)
 (h:Q (.ref g,[.ref a]) s):Rv ‹3› A (VX (.ref a) m pl) Q E s:=by
 obtain ⟨mA,O,r,_,_,_⟩:=zV I.dm e;have hn:mA m=none:=lQ.none_of (by rw [← l]; exact r m);exact Ih I.qw O (c.get m) k.at_ k.fn hn h
theorem Cn {y:V} {Q:Unit→Rb→Prop} (I:Inv X pins σ H s) (e:H a=some (.ins C dx fs)) (c:uT X.K C) (n:iV X.K C f) (hl:fs.length<1000) (ry:RelV y u)
 (h:∀ s',Inv X pins σ (upd H a (.ins C dx (pE f y fs))) s'→Q () s'):Rv ‹3› A (setAttr (.ref a) f u) Q E s:=by
 obtain ⟨mA,O,r,wi,_,ho⟩:=zV I.dm e;have hz:(fs.map (·.1)).length≤Q4:=by rw [Q5,Rw]; lia
 refine JH I.qw O c.sa c.po n.N2 c.hd wi hz fun h' O' sb=>h _ ?_;have hd:∃ o,h'.get? dx=some o:=let ⟨o,_,_,e',_⟩:=O'.ns; ⟨o,e'⟩
 refine I.write (x:=a) (e:=dx) (by rw [e]; exact Vr) (.inr ho) (fun b q hb z=>(sb.2 b hb).trans z) hd ?_;refine ⟨by rw [a5 O.ne]; exact ho,?_,O.ne,O'.obj,_,O'.ns,fun g=>?_,fun g hg=>?_⟩
 ·have:=tU f y fs; lia
 ·show lQ ((pE f y fs).lookup g) (if g=f then some u else mA g);rw [tS];by_cases q:g=f
  ·rw [if_pos q,if_pos q]; exact ry
  ·rw [if_neg q,if_neg q]; exact r g
 ·by_cases q:g=f
  ·rw [q]; exact (sR f y fs).1
  ·refine (sR f y fs).2 g (wi g fun z=>hg ?_);show (if g=f then some u else mA g)=none;rw [if_neg q]; exact z
theorem Inv.made (I:Inv X pins σ H s):Inv X pins σ (upd (upd H ‹7› (.own (‹7›+1))) (‹7›+1) (.ins C ‹7› []))
 { s with heap:=(s.heap.push So).push (SD C ‹7›) }:=by
 have e1:(s.heap.push So).get? ‹7›=some So:=RI s.heap rfl
 have e2:((s.heap.push So).push (SD C ‹7›)).get? (‹7›+1)=some (SD C ‹7›):=by
  have:=RI (s.heap.push So) (o:=SD C ‹7›) rfl
  rwa [Tj] at this
 have e3:(s.heap.push So).Ns ‹7› (fun _=>none):=⟨So,#[],_,e1,rfl,(fun e he=>absurd he (by simp)),fun _=>rfl⟩
 have I1:=I.laid (a:=‹7›) (o:=.own (‹7›+1)) (h':=s.heap.push So) (t':=s.toks) (fun b u q=>Rk _ q) (Rq _) ⟨_,e1⟩;refine I1.laid (a:=‹7›+1) (o:=.ins C ‹7› []) (t':=s.toks) (fun b u q=>Rk _ q) (VT (Tj _ _)) ?_;have ne:‹7›≠‹7›+1:=RX (SO _);refine ⟨by rw [a5 ne,br],Th _,ne,e2,fun _=>none,(Heap.Ns1.of_empty e3).at fun o q=>Rk _ q,fun _=>Vr,fun y hy=>absurd rfl hy⟩
theorem KP {prog:Sd} {w:Sn} {env:XX} {f:Rf} {s:Rb} (hb:WB e f env (eval e env)=eval e env)
 (h:Rv ‹40› A (eval e env) (fun o s₁=>Rv ‹40› A (getAttr o f true) Q E s₁) E s):Rv ‹40› A (eval (.Attribute e f pos) env) Q E s :=
 Attribute_any_ h (by rw [arm_eval_Attribute,hb])
end
def B9 (K:Q2) (ta:TE) (f:Rf):TE:=fun σ H Q=>ta σ H fun x H1=>∃ a C dx fs v,x=.ref a∧H1 a=some (.ins C dx fs)∧uT K C∧iV K C f∧fs.lookup f=some v∧Q v H1
def Ol (K:Q2) (ta tv:TE) (f:Rf):TS:=fun D σ H=>tv σ H fun y H1=>ta σ H1 fun x H2=>∃ a C dx fs,x=.ref a∧H2 a=some (.ins C dx fs)∧uT K C∧iV K C f∧fs.length<1000 ∧
 D.nx σ (upd H2 a (.ins C dx (pE f y fs)))
section
variable {X:Cx} {o e value:Sv} {f:Rf} {pos pos' tpos:VJ} {ta tv:TE}
theorem jl (he:PE X e ta) (hb:WB e f X.env (eval e X.env)=eval e X.env):PE X (.Attribute e f pos) (B9 X.K ta f):=by intro pins s σ H Q I h;refine KP hb (cP (he pins s σ H _ I h) fun u s1 ⟨x,H1,I1,rx,a,C,dx,fs,v,ex,ea,c,n,l,q⟩=>?_);subst ex;obtain rfl:u=RQ a:=rx;exact CU I1 ea c n l fun u' s2 I2 ru=>⟨v,H1,I2,ru,q⟩
theorem Ms (ha:PE X o ta) (hv:PE X value tv) (hs:Ul value (some (.Attribute o f pos')) pos.line X.env=pure false):PS X (.Assign [.Attribute o f pos'] value pos) (Ol X.K ta tv f):=by intro pins s σ H D I h;refine plainObj_wpAny_Assign_Attribute (cP (hv pins s σ H _ I h) fun u s1 ⟨y,H1,I1,ry,q⟩=>cP (ha pins s1 σ H1 _ I1 q) fun ov s2 ⟨x,H2,I2,rx,a,C,dx,fs,ex,ea,c,n,l,q2⟩=>?_) hs;subst ex;obtain rfl:ov=RQ a:=rx;exact Cn I2 ea c n l ry fun s3 I3=>⟨σ,_,I3,q2⟩
end
structure fk (k:Nat) (A:SG):Prop where
 hd:A.handled=none
 dp:A.depth+3*k+5<recursionLimit
 un:A.units+16*k+200<V3
theorem fk.mono {j k:Nat} (r:fk k A) (h:j≤k):fk j A:=⟨r.hd,by have:=r.dp; lia,by have:=r.un; lia⟩
theorem fk.deeper {k:Nat} {A:SG} (r:fk (k+1) A) (env:XX):fk k (A.deeper env) :=
 ⟨r.hd,by have:=r.dp; show A.depth+1+3*k+5 < _; lia,by have:=r.un; show A.units+3+16*k+200 < _; lia⟩
theorem CS:‹94›.depth=A.depth+1:=by first | rfl | simp [Yp,Code.weight,Code.isCreation,Code.isGuard,Code.isCaller,Code.frames,Yq,guardIds]
theorem CQ:‹94›.units=A.units+1:=by first | rfl | simp [Yp,Code.cUnits,Code.frames,Yq]
theorem fk.make {k:Nat} (r:fk (k+1) A) (C:Q6) (us:List Q7) (kw:List (Rf×Q7)):fk k ‹94› :=
 ⟨r.hd,by have:=r.dp; rw [CS]; lia,by have:=r.un; rw [CQ]; lia⟩
theorem fk.depth {k:Nat} {A:SG} (r:fk k A):A.depth<recursionLimit:=by have:=r.dp; lia
theorem fk.units {k:Nat} {A:SG} (r:fk k A):A.units+64<V3:=by have:=r.un; lia
def fA:TA:=fun _ H Q=>Q [] H
def cF (ta:TE) (tr:TA):TA:=fun σ H Q=>ta σ H fun x H1=>tr σ H1 fun xs H2=>Q (x::xs) H2
section
variable {X:Cx} {e:Sv} {es:List Sv} {te:TE} {t:TA} {pos:VJ}
theorem aj:PA X [] fA:=fun _ _ _ _ H Q I h=>Wn ⟨[],H,I,.nil,h⟩
theorem aa (ha:PE X e te) (hr:PA X es t) (hs:RH (e::es) X.env=(false,eval e X.env)::RH es X.env:=by rfl):PA X (e::es) (cF te t):=by intro pos pins s σ H Q I h;rw [hs];show Rv _ _ (spliced ((false,eval e X.env)::TN pos (RH es X.env))) _ _ s;refine V4 (cP ‹82› fun u s1 ⟨x,H1,I1,r1,q1⟩=>?_);exact cP (hr pos pins s1 σ H1 _ I1 q1) fun us s2 ⟨xs,H2,I2,r2,q2⟩=>⟨x::xs,H2,I2,.cons r1 r2,q2⟩
def L9 (t:TA):TE:=fun σ H Q=>t σ H fun xs H1=>xs.length≤Q4∧∀ p,H1 p=none→Q (.ref p) (upd H1 p (.tup xs))
def Jr (t:TA):TE:=fun σ H Q=>t σ H fun xs H1=>xs.length≤Q4∧∀ p,H1 p=none→Q (.ref p) (upd H1 p (.lst xs))
theorem kU {x1} (h:PA X es t):PE X (.Tuple es x1 pos) (L9 t):=by intro pins s σ H Q I hq;refine wpAny_Tuple_spliced (cP (h pos pins s σ H _ I hq) fun us s1 ⟨xs,H1,I1,r,z,q⟩=>⟨by rw [← r.length]; exact z,?_⟩);have hf:H1 s1.heap.objs.size=none:=I1.dm.fresh (Rq _);refine ⟨.ref s1.heap.objs.size,upd H1 s1.heap.objs.size (.tup xs),I1.laid (t':=s1.toks) (fun b u e=>Rk _ e) (Rq _) ?_,rfl,q _ hf⟩;exact ⟨z,us,r,⟨_,RI _ rfl,rfl,_,rfl⟩⟩
theorem cv (h:PA X es t):PE X (.List es pos) (Jr t):=by intro pins s σ H Q I hq;refine wpAny_List_spliced (cP (h pos pins s σ H _ I hq) fun us s1 ⟨xs,H1,I1,r,z,q⟩=>⟨by rw [← r.length]; exact z,?_⟩);have hf:H1 s1.heap.objs.size=none:=I1.dm.fresh (Rq _);refine ⟨.ref s1.heap.objs.size,upd H1 s1.heap.objs.size (.lst xs),I1.laid (t':=s1.toks) (fun b u e=>Rk _ e) (Rq _) ?_,rfl,q _ hf⟩;exact ⟨z,us,0,r,RI _ rfl⟩
end
abbrev Sp:=List V→Hp→VK→XK→Prop
abbrev Eu:=List XX→Hp→Rb→XK→Q7→Rb→Prop
structure Df (P:Sd) (w:Sn) (K:Q2) (mg:Rf→Option Q7) (base:SA) (A:SG) (outer:List XX) (s:Rb) (H:Hp):Prop where
 frames:A.frames=some outer
 mod:Mod K mg base
 bs:∀ b o,base.get? b=some o→s.heap.get? b=some o∧H b=none
 FR:base.objs.size≤‹7›
 sU:s.heap.FunFrames base outer
 LG:∀ b∈ui outer,H b=none
 dm:pL P w H s.heap
 bare:Wm s.gens
def CE (outer:List XX) (P:Sd) (w:Sn) (H:Hp) (s:Rb) (Q:VK) (u:Q7) (s':Rb):Prop :=
 ∃ v H',s'.os=s.os∧Wm s'.gens∧Un (ui outer) [] H H' s.heap s'.heap∧pL P w H' s'.heap∧RelV v u∧Q v H'
def CR (CX:Eu) (outer:List XX) (P:Sd) (w:Sn) (H:Hp) (s:Rb) (Q:VK) (E:XK) (r:YC) (s':Rb):Prop :=
 match r with
 | .ok (.ret u)=>CE outer P w H s Q u s'
 | .ok _=>False
 | .error e=>CX outer H s E e s'
structure bQ (P:Sd) (w:Sn) (K:Q2) (mg:Rf→Option Q7) (base:SA) (CX:Eu) (k:Nat) (f:Q6) (fd:SM) (ps:List Rf) (sp:Sp):Prop where
 len:∀ vs H Q E,sp vs H Q E→vs.length=ps.length
 run:∀ (A:SG) (outer:List XX) (s:Rb) (H:Hp) (args:Args) (us:List Q7) (vs:List V) (Q:VK) (E:XK),fk k A→Df P w K mg base A outer s H→Yk s fd args (ps.zip us)→Vals vs us→sp vs H Q E →
  UG (model P w) A (.call (.ref f) args) (CR CX outer P w H s Q E) s
variable {mg:Rf→Option Q7} {base:SA} {CX:Eu} {fd:SM} {ps:List Rf}
theorem bQ.imp {w:Sn} {k:Nat} {f:Q6} {sp sp':Sp} (F:bQ P w K mg base CX k f fd ps sp)
 (h:∀ vs H Q E,sp' vs H Q E→sp vs H Q E):bQ P w K mg base CX k f fd ps sp' :=
 ⟨fun vs H Q E q=>F.len vs H Q E (h _ _ _ _ q),fun A outer s H args us vs Q E hr he hb hv hs=>F.run A outer s H args us vs Q E hr he hb hv (h _ _ _ _ hs)⟩
variable {outer:List XX}
theorem Df.make {w:Sn} (e:Df P w K mg base A outer s H) (C:Q6) (us:List Q7) (kw:List (Rf×Q7)) :
 Df P w K mg base ‹94› outer s H:=⟨by first | exact e.frames | (simpa [Yp,Code.envs,Yq,pushEnvs] using e.frames),e.mod,e.bs,e.FR,e.sU,e.LG,e.dm,e.bare⟩
section
variable {X:Cx} {pins:List (Q6×TK)} {σ:St} {H:Hp} {s s':Rb}
theorem Inv.KI (I:Inv X pins σ H s):Df X.prog X.w X.K X.mg X.base X.A X.stack s H :=
 ⟨I.ok.frames,I.ok.mod,I.bs,RE I.ok.FR I.sz,I.stack,I.ux,I.dm,I.bare⟩
theorem Inv.after {Q:VK} (I:Inv X pins σ H s) (h:CE X.stack X.prog X.w H s Q u s'):EP X pins σ Q u s':=by obtain ⟨v,H',os,bare,un,dm,r,q⟩:=h;obtain ⟨hh,g,d,t,os'⟩:=s';obtain rfl:os'=s.os:=os;exact ⟨v,H',I.call (h':=hh) (g':=g) (d':=d) (t':=t) (ch:=[]) un dm bare (fun b z=>absurd z (by simp)),r,q⟩
end
def nS (sp:Sp) (dvs:List V) (E:XK) (t:TA):TE:=fun σ H Q=>t σ H fun vs H1=>sp (vs++dvs) H1 Q E
noncomputable def La (C:Q6) (sp:Sp) (dvs:List V) (E:XK) (t:TA):TE:=fun σ H Q=>t σ H fun vs H1=>∀ x dx,H1 x=none→H1 dx=none→dx≠x →
 sp (.ref x::(vs++dvs)) (upd (upd H1 dx (.own x)) x (.ins C dx [])) (fun v H2=>v=.non∧Q (.ref x) H2) E
def Binds (K:Q2) (fd:SM) (ps:List Rf) (ds:List Q7):Prop :=
 ∀ (s:Rb) (us:List Q7),K.In s.heap→(us++ds).length=ps.length→Yk s fd ⟨us,[]⟩ (ps.zip (us++ds))
theorem Binds.all (h:∀ us:List Q7,us.length=ps.length→T7 fd ⟨us,[]⟩=pure (ps.zip us)):Binds K fd ps []:=fun s us _ hl=>by rw [Ss] at hl ⊢;exact .of_eq (h us hl)
variable {vs:List V}
def Passes (CX:Eu) (X:Cx) (E:XK):Prop:=∀ (pins:List (Q6×TK)) (σ:St) (H:Hp) (s:Rb) (e:Q7) (s':Rb),Inv X pins σ H s→CX X.stack H s E e s'→X.xe e s'
section
variable {X:Cx} {CX:Eu} {k:Nat} {f C:Q6} {fd:SM} {ps:List Rf} {sp:Sp} {dvs:List V} {ds:List Q7} {E:XK} {x m:Rf} {p pos apos:VJ} {e o:Sv} {es:List Sv} {ta:TE} {t:TA}
theorem vy {Q:VK} (F:bQ X.prog X.w X.K X.mg X.base CX k f fd ps sp) (hr:fk k X.A) (hb:Binds X.K fd ps ds) (hd:Vals dvs ds) (hx:Passes CX X E)
 (I:Inv X pins σ H s) (r:Vals vs us) (h:sp (vs++dvs) H Q E):Rv ‹3› X.A (call (.ref f) us) ‹85› X.xe s:=by
 have r2:Vals (vs++dvs) (us++ds):=r.append hd;have hl:(us++ds).length=ps.length:=by rw [← r2.length]; exact F.len _ _ _ _ h
 refine Vs (UH (F.run X.A X.stack s H ⟨us,[]⟩ (us++ds) (vs++dvs) Q E hr I.KI (hb s us I.qw hl) r2 h) fun r s' hq=>?_);cases r with
 | error e=>exact hx pins σ H s e s' I hq
 | ok fl =>
  cases fl with
  | ret u=>exact I.after hq
  | next=>exact S1 hq
  | brk=>exact S1 hq
  | cont=>exact S1 hq
theorem cM (F:bQ X.prog X.w X.K X.mg X.base CX k f fd ps sp) (hr:fk k X.A) (hg:Gl X x) (hm:X.mg x=some (.ref f)) (hk:SU X.K (.ref f)=true) (hb:Binds X.K fd ps ds) (hd:Vals dvs ds) (hx:Passes CX X E)
 (ha:PA X (e::es) t) (hdb:‹41›=false:=by decide) (he:RH (e::es) X.env=(false,eval e X.env)::RH es X.env:=by rfl) (hpl:(TN pos (RH es X.env)).any (·.1)=false:=by rfl) :
 PE X (.Call (.Name x p) (e::es) [] pos) (nS sp dvs E t):=by
 intro pins s σ H Q I h;refine Tg (i4 I hg hm ?_ hdb);refine Tv (h₀:=X.base) I.ok.mod.Jb hk (cP (ha pos pins s σ H _ I h) fun us s1 ⟨vs,H1,I1,r,q⟩=>⟨I1.qw,?_⟩) he hpl;exact vy F hr hb hd hx I1 r q
theorem A7 (F:bQ X.prog X.w X.K X.mg X.base CX k f fd ps sp) (hr:fk k X.A) (hg:Gl X x) (hm:X.mg x=some (.ref f)) (hk:SU X.K (.ref f)=true) (hb:Binds X.K fd ps ds) (hd:Vals dvs ds) (hx:Passes CX X E)
 (hdb:‹41›=false:=by decide):PE X (.Call (.Name x p) [] [] pos) (nS sp dvs E fA):=by
 intro pins s σ H Q I h;refine Tg (i4 I hg hm ?_ hdb);exact UL I.qw hk (vy (us:=[]) F hr hb hd hx I .nil h)
structure Mk (K:Q2) (C f:Q6):Prop where
 makes:UW K C=true
 init:Sk K (.ref C) "__init__" = some (some (.ref f))
 fn:VR K (.ref f)=true
 kp:SU K (.ref C)=true
theorem G3 {Q:VK} (M:Mk X.K C f) (F:bQ X.prog X.w X.K X.mg X.base CX k f fd ps sp) (hr:fk (k+1) X.A) (hb:Binds X.K fd ps ds) (hd:Vals dvs ds)
 (hx:Passes CX X E) (I:Inv X pins σ H s) (r:Vals vs us)
 (h:∀ x dx,H x=none→H dx=none→dx≠x→sp (.ref x::(vs++dvs)) (upd (upd H dx (.own x)) x (.ins C dx [])) (fun v H2=>v=.non∧Q (.ref x) H2) E) :
 Rv ‹3› X.A (call (.ref C) us) ‹85› X.xe s:=by
 have hq:=h (‹7›+1) ‹7› (I.dm.fresh (VD _)) (I.dm.fresh (Rq _)) (RX (SO _));have I2:=Inv.made (C:=C) I;have r2:Vals (V.ref (‹7›+1)::(vs++dvs)) (RQ (‹7›+1)::(us++ds)):=.cons rfl (r.append hd);have hl:(RQ (‹7›+1)::us++ds).length=ps.length:=by have e:=r2.length;rw [F.len _ _ _ _ hq] at e;exact e.symm
 refine Vs (HN (f:=f) I.qw M.makes M.init (beq_iff_eq.mp M.fn) (UH (F.run _ X.stack _ _ ⟨RQ (‹7›+1)::us,[]⟩ (RQ (‹7›+1)::(us++ds)) _ _ E (hr.make C us [])
  (I2.KI.make C us []) (hb _ (RQ (‹7›+1)::us) I2.qw hl) r2 hq) fun r s' hq'=>?_))
 cases r with
 | error e=>exact hx pins σ _ _ e s' I2 hq'
 | ok fl =>
  cases fl with
  | ret u =>obtain ⟨v,H',I3,rv,ev,q3⟩:=I2.after hq';subst ev;exact ⟨rv,⟨V.ref (‹7›+1),H',I3,rfl,q3⟩⟩
  | next=>exact S1 hq'
  | brk=>exact S1 hq'
  | cont=>exact S1 hq'
theorem Hl (M:Mk X.K C f) (F:bQ X.prog X.w X.K X.mg X.base CX k f fd ps sp) (hr:fk (k+1) X.A) (hg:Gl X x) (hm:X.mg x=some (.ref C)) (hb:Binds X.K fd ps ds) (hd:Vals dvs ds) (hx:Passes CX X E)
 (hdb:‹41›=false:=by decide):PE X (.Call (.Name x p) [] [] pos) (La C sp dvs E fA):=by
 intro pins s σ H Q I h;refine Tg (i4 I hg hm ?_ hdb);exact UL I.qw M.kp (G3 (us:=[]) M F hr hb hd hx I .nil h)
end
structure ba (N P:List Rf) (sc:Va):Prop where
 kind:sc.kind=.function
 co:sc.isCoroutine=false
 gen:sc.isGenerator=false
 nd:N.Nodup
 pre:N.take P.length=P
 par:∀ x∈P,sc.names.lookup x=some .local∨sc.names.lookup x=some .cell
 MO:∀ y∈sc.names,y.2≠.free
theorem yr {kindOf:Rf→Option WN} {x:Rf}:∀ {binds:List (Rf×Q7)} {m:Rf→Option Q7},(∀ v,(x,v)∉binds)→Y4 kindOf binds m x=m x
 | [],_,_=>rfl
 | (n,v)::r,m,h=>by
  unfold Y4;rw [yr fun w hw=>h w (Ra _ hw)];split
  ·have:x≠n:=by rintro rfl; exact h v Q9
   simp [this]
  ·rfl
theorem yu {kindOf:Rf→Option WN} {x:Rf}:∀ {binds:List (Rf×Q7)} {m:Rf→Option Q7},(∀ v,(x,v)∉binds)→Y5 kindOf binds m x=m x
 | [],_,_=>rfl
 | (n,v)::r,m,h=>by
  unfold Y5;rw [yu fun w hw=>h w (Ra _ hw)];split
  ·rfl
  ·have:x≠n:=by rintro rfl; exact h v Q9
   simp [this]
theorem yt {kindOf:Rf→Option WN} {x:Rf} {v:Q7}:∀ {P:List Rf} {vs:List Q7} {i:Nat} {m:Rf→Option Q7},P.Nodup→P[i]?=some x→vs[i]?=some v→kindOf x=some .local →
 Y4 kindOf (P.zip vs) m x=some v
 | [],_,_,_,_,h,_,_=>by simp at h
 | _::_,[],_,_,_,_,h,_=>by simp at h
 | p::P,w::vs,0,m,nd,h1,h2,hk=>by simp at h1 h2; subst h1; subst h2;show Y4 kindOf ((p,w)::P.zip vs) m p=_;unfold Y4;rw [yr fun v hv=>(SE.mp nd).1 (Xk hv).1,if_pos hk];simp
 | p::P,w::vs,i+1,m,nd,h1,h2,hk=>by show Y4 kindOf ((p,w)::P.zip vs) m x=_;unfold Y4;exact yt (i:=i) (SE.mp nd).2 (by simpa using h1) (by simpa using h2) hk
theorem yv {kindOf:Rf→Option WN} {x:Rf} {v:Q7}:∀ {P:List Rf} {vs:List Q7} {i:Nat} {m:Rf→Option Q7},P.Nodup→P[i]?=some x→vs[i]?=some v→kindOf x≠some .local →
 Y5 kindOf (P.zip vs) m x=some v
 | [],_,_,_,_,h,_,_=>by simp at h
 | _::_,[],_,_,_,_,h,_=>by simp at h
 | p::P,w::vs,0,m,nd,h1,h2,hk=>by simp at h1 h2; subst h1; subst h2;show Y5 kindOf ((p,w)::P.zip vs) m p=_;unfold Y5;rw [yu fun v hv=>(SE.mp nd).1 (Xk hv).1,if_neg hk];simp
 | p::P,w::vs,i+1,m,nd,h1,h2,hk=>by show Y5 kindOf ((p,w)::P.zip vs) m x=_;unfold Y5;exact yv (i:=i) (SE.mp nd).2 (by simpa using h1) (by simpa using h2) hk
def start (N:List Rf) (vs:List V):St:=vs.map some++Rx (N.length-vs.length) none
noncomputable def sZ (CX:Eu) (P:Sd) (w:Sn) (K:Q2) (mg:Rf→Option Q7) (base:SA) (N:List Rf) (qual:Rf) (scope:Va) (f:Q6) (cd:Q7) (A:SG) (outer:List XX) (s:Rb) (H:Hp) (E:XK):Cx where
 prog:=P
 w:=w
 K:=K
 mg:=mg
 base:=base
 A:=A.deeper (W9 qual scope ‹7› f cd)
 N:=N
 s₀:=s
 H₀:=H
 env:=W9 qual scope ‹7› f cd
 outer:=outer
 stack:=W9 qual scope ‹7› f cd::outer
 ex:=[]
 calm:=true
 fn:=fun _=>true
 pn:=[]
 xe:=fun e s'=>Rv (model P w) (A.deeper (W9 qual scope ‹7› f cd)) (leaving (W9 qual scope ‹7› f cd) e) (fun _ s''=>CX outer H s E e s'') (fun e' s''=>CX outer H s E e' s'') s'
theorem BH {sc:Va} (h:sc.names.lookup x=some .cell):∃ c,(SQ n sc.names []).lookup x=some c:=by have q:=Vg sc.names n [] (.inl h);exact UQ.mp q
variable {scope:Va}
theorem Fv {w:Sn} {N:List Rf} {qual:Rf} {f:Q6} {cd:Q7} {s1:Rb} {E:XK}
 (S:ba N ps scope) (hd:A.handled=none) (e0:Df P w K mg base A outer s H) (hl:vs.length=ps.length) (r:Vals vs us)
 (x:InCallC s ‹7› (Y4 (W9 qual scope ‹7› f cd).kindOf (ps.zip us) fun _=>none) (SQ (‹7›+1) scope.names []) (Y5 (W9 qual scope ‹7› f cd).kindOf (ps.zip us) fun _=>none) s1) :
 Inv (sZ CX P w K mg base N qual scope f cd A outer s H E) [] (start N vs) H s1:=by
 have hpl:ps.length≤N.length:=by have:=congrArg VE S.pre; rw [Vt] at this; lia
 obtain ⟨h1,tk,rfl,hk⟩:=x.done;have noA:∀ b:Q6,b∉(sZ CX P w K mg base N qual scope f cd A outer s H E).ex:=fun b z=>absurd (show b∈([]:List Q6) from z) (by simp)
 refine ⟨⟨e0.mod,S.kind,rfl,rfl,Rq _,fun y z c h1 h2=>?_,fun y hy=>?_,fun y c _ h=>?_,fun _=>hd,Around.frames_deeper e0.frames,.inr ⟨rfl,rfl⟩,fun b z=>absurd z (noA b),e0.bs,e0.FR,fun b _ _=>noA b,fun b z=>absurd z (noA b),e0.sU,e0.LG⟩,
  rfl,e0.bare,Un.kept hk,⟨_,x.toInCall.ns,fun i y v h1 h2 h3=>?_⟩,fun y c h=>⟨_,x.cell y c h⟩,e0.dm.fresh (Rq _),fun y c h=>?_,fun p hp=>absurd (show p∈([]:List (Q6×TK)) from hp) (by simp),e0.dm.kept hk,?_⟩
 ·exact name_of_addr x.apart (Tb h1) (Tb h2)
 ·have hy:scope.names.lookup y=some .cell∨scope.names.lookup y=some .free:=hy;rcases hy with hy | hy
  ·exact BH hy
  ·exact absurd rfl (S.MO _ (Tb hy))
 ·exact W6 (x.above y c (Tb h))
 ·have hi:i<vs.length:=by
   unfold start at h2;by_cases hi:i<vs.length
   ·exact hi
   ·rw [RO (by simpa using hi)] at h2;rw [Sb] at h2;split at h2 <;> cases h2
  have ha:vs[i]?=some v:=by
   unfold start at h2;rw [Rz (by simpa using hi),Ro] at h2;cases e:vs[i]? with
   | none=>rw [e] at h2; cases h2
   | some a=>rw [e] at h2; cases h2; rfl
  obtain ⟨u,hu,rv⟩:=r.get ha;have hp:ps[i]?=some y:=by rw [← S.pre,WC (by lia)]; exact h1
  have ndP:ps.Nodup:=by rw [← S.pre]; exact S.nd.sublist (List.take_sublist _ _)
  refine ⟨u,rv,?_⟩;rcases S.par y (RB hp) with k | k
  ·exact .inl ⟨k,yt ndP hp hu k⟩
  ·obtain ⟨c,e⟩:=BH (n:=‹7›+1) k;refine .inr ⟨.inl k,c,e,?_⟩;have q:=x.cell y c e;rw [yv ndP hp hu (by show scope.names.lookup y≠_; rw [k]; decide)] at q;exact q
 ·exact e0.dm.fresh (W6 (x.above y c (Tb h)))
 ·unfold start;show _=N.length;rw [Ru,Q5,RV];lia
theorem LH {w:Sn} {k:Nat} {f:Q6} {name qual:Rf} {params:Arguments} {body:List SJ} {dV kV doc pm cdv ct oc:Q7} {an od:Option Q6}
 {osl:Array (Option Q7)} {N ps:List Rf} {sp:Sp} (lk:K.lookup f=some ⟨oc,od,.func (T6 name qual params body scope dV kV doc pm an cdv ct),osl⟩) (hcd:Vb K cdv qual=true) (S:ba N ps scope)
 (len:∀ vs H Q E,sp vs H Q E→vs.length=ps.length)
 (hbody:∀ (A:SG) (outer:List XX) (s:Rb) (H:Hp) (vs:List V) (Q:VK) (E:XK),fk k (A.deeper (W9 qual scope ‹7› f cdv))→sp vs H Q E →
  ∃ t,wI (sZ CX P w K mg base N qual scope f cdv A outer s H E) body t∧t { nx:=fun _ H'=>Q .non H',rt:=Q } (start N vs) H) :
 bQ P w K mg base CX (k+1) f (T6 name qual params body scope dV kV doc pm an cdv ct) ps sp:=by
 refine ⟨len,fun A outer s H args us vs Q E hr e0 hb r hsp=>?_⟩;have hl:=len _ _ _ _ hsp;have KX:K.In s.heap:=e0.mod.Jb.keeps fun b o e=>(e0.bs b o e).1;have lim:s.heap.NoLimit:=e0.mod.nolimit.keeps fun b o e=>(e0.bs b o e).1
 have hkind:∀ y∈ps.zip us,scope.names.lookup y.1=some .local∨(scope.names.lookup y.1=some .cell∧((SQ (‹7›+1) scope.names []).lookup y.1).isSome=true):=fun ⟨n,v⟩ hy=>by
  rcases S.par n (Xk hy).1 with q | q
  ·exact .inl q
  ·exact .inr ⟨q,Vg _ _ _ (.inl q)⟩
 refine codeAny_call_function hr.depth (KX _ _ lk) rfl S.co S.gen rfl (PySem.W.codeRec_of KX hcd) (hb _ _ _ _ ?_);refine wpAny_newFunctionEnv_cells S.kind hkind fun env he s1 x=>?_;subst he;refine ⟨lim.keeps x.toInCall.keep,codeAny_func ?_⟩;obtain ⟨t,ht,hq⟩:=hbody A outer s H vs Q E (hr.deeper _) hsp;have I:Inv (sZ CX P w K mg base N qual scope f cdv A outer s H E) [] (start N vs) H s1:=Fv S hr.hd e0 hl r x;refine SN (ht [] s1 (start N vs) H _ I hq) (fun fl s' hs=>?_) fun e s' hs=>hs
 have fin:∀ {σ':St} {H':Hp} {v:V} {u:Q7},Inv (sZ CX P w K mg base N qual scope f cdv A outer s H E) [] σ' H' s'→RelV v u→Q v H'→CE outer P w H s Q u s' :=
  fun {σ' H' v u} J rv q=>⟨v,H',J.os,J.bare,J.base,J.dm,rv,q⟩
 cases fl with
 | ret u =>obtain ⟨v,σ',H',J,rv,q⟩:=hs;exact fin J rv q
 | next =>obtain ⟨σ',H',J,q⟩:=hs;exact fin (v:=V.non) (u:=Vo) J rfl q
 | brk =>obtain ⟨_,_,_,q⟩:=hs;exact S1 q
 | cont =>obtain ⟨_,_,_,q⟩:=hs;exact S1 q
section
variable {X:Cx} {x:Rf} {p pos:VJ} {e:Sv} {es:List Sv} {t:TA} {id T:String} {r:List V→Hp→VK→Prop}
def Dv (r:List V→Hp→VK→Prop) (t:TA):TE:=fun σ H Q=>t σ H fun vs H1=>r vs H1 Q
theorem bb (hc:ma X (.builtin id) r) (hg:Gl X x) (hm:X.mg x=none) (hv:S3 x=some (.builtin id)) (ha:PA X (e::es) t) (hn:x ≠ "__name__" := by decide) (hdb:‹41›=false:=by decide)
 (he:RH (e::es) X.env=(false,eval e X.env)::RH es X.env:=by rfl) (hpl:(TN pos (RH es X.env)).any (·.1)=false:=by rfl):PE X (.Call (.Name x p) (e::es) [] pos) (Dv r t):=by
 intro pins s σ H Q I h;refine Tg (vQ I hg hm hv ?_ hn hdb);exact PyProof.Rows.callWith_builtin1 (cP (ha pos pins s σ H _ I h) fun us s1 ⟨vs,H1,I1,r1,q1⟩=>hc pins s1 σ H1 vs us Q I1 r1 q1) he hpl
theorem lE (hc:ma X (.type T) r) (hg:Gl X x) (hm:X.mg x=none) (hv:S3 x=some (.type T)) (ha:PA X (e::es) t) (hn:x ≠ "__name__" := by decide) (hdb:‹41›=false:=by decide)
 (he:RH (e::es) X.env=(false,eval e X.env)::RH es X.env:=by rfl) (hpl:(TN pos (RH es X.env)).any (·.1)=false:=by rfl):PE X (.Call (.Name x p) (e::es) [] pos) (Dv r t):=by
 intro pins s σ H Q I h;refine Tg (vQ I hg hm hv ?_ hn hdb);exact Ut (cP (ha pos pins s σ H _ I h) fun us s1 ⟨vs,H1,I1,r1,q1⟩=>hc pins s1 σ H1 vs us Q I1 r1 q1) he hpl
end
end L2
namespace HT
open PySem PyProof.Rows
section
variable {prog:Sd} {w:Sn} {A:SG} {E:Q7→Rb→Prop} {s:Rb}
def uB (n d:Nat):Option Int→Nat
 | none=>d
 | some v=>if v<0 then (v+(n:Int)).toNat else min v.toNat n
theorem G1 (n d:Nat):uB n d none=d:=rfl
theorem JM (n d k:Nat):uB n d (some (k:Int))=min k n:=by show (if (k:Int)<0 then ((k:Int)+(n:Int)).toNat else min (k:Int).toNat n)=min k n;rw [if_neg (by lia),Tz]
end
end HT
namespace L2
open PySem PySem.Spec PyProof.Rows
abbrev TO:=St→Hp→(Option Int→Hp→Prop)→Prop
noncomputable def PO (X:Cx) (e:Option Sv) (t:TO):Prop :=
 ∀ (pins:List (Q6×TK)) (s:Rb) (σ:St) (H:Hp) (Q:Option Int→Hp→Prop),Inv X pins σ H s→t σ H Q →
  Rv ‹3› X.A (evalPart e X.env) (fun u s'=>∃ o H',Inv X pins σ H' s'∧IsPart u o∧Q o H') X.xe s
def Ds:TO:=fun _ H Q=>Q none H
def K8 (t:TE):TO:=fun σ H Q=>t σ H fun x H1=>∃ i,x=.int i∧Q (some i) H1
section
variable {X:Cx} {e:Sv} {te:TE} {lo hi:Option Sv} {tl th:TO} {pos p2:VJ}
theorem fq:PO X none Ds:=by intro pins s σ H Q I h;rw [evalPart_none];exact RM ⟨none,H,I,.none,h⟩
theorem eJ (h:PE X e te):PO X (some e) (K8 te):=by intro pins s σ H Q I hw;rw [evalPart_some];refine cP (h pins s σ H _ I hw) fun u s1 ⟨x,H1,I1,r1,q1⟩=>?_;obtain ⟨i,rfl,q⟩:=q1;obtain ⟨t,rfl⟩:=r1;exact ⟨some i,H1,I1,.int i t,q⟩
noncomputable def Pd (X:Cx) (r:V→Option Int→Option Int→Hp→VK→Prop):Prop :=
 ∀ (pins:List (Q6×TK)) (s:Rb) (σ:St) (H:Hp) (x:V) (v vl vu:Q7) (lo hi:Option Int) (sl:Q6) (Q:VK),Inv X pins σ H s→RelV x v→s.heap.IsSliceOf sl vl vu .none→IsPart vl lo→IsPart vu hi→r x lo hi H Q →
  ∃ T id,typeLookup (.type T) "__getitem__" = pure (some (.builtin id))∧s.TypeIs v T∧Rv ‹3› X.A (Yr v (.ref sl)) ‹85› X.xe s
def N7 (r:V→Option Int→Option Int→Hp→VK→Prop) (te:TE) (tl th:TO):TE:=fun σ H Q=>te σ H fun x H1=>tl σ H1 fun l H2=>th σ H2 fun u H3=>r x l u H3 Q
theorem dP {r:V→Option Int→Option Int→Hp→VK→Prop} (hr:Pd X r) (he:PE X e te) (hl:PO X lo tl) (hu:PO X hi th):PE X (.Subscript e (.Slice lo hi none p2) pos) (N7 r te tl th):=by intro pins s σ H Q I h;refine Y6 (cP (he pins s σ H _ I h) fun v s1 ⟨x,H1,I1,r1,q1⟩=>?_);refine wpAny_Slice (cP (hl pins s1 σ H1 _ I1 q1) fun vl s2 ⟨l,H2,I2,pl,q2⟩=>cP (hu pins s2 σ H2 _ I2 q2) fun vu s3 ⟨u,H3,I3,pu,q3⟩=>?_);rw [evalPart_none];refine RM ?_;have I4:Inv X pins σ H3 { s3 with heap:=s3.heap.push { cls:=.type "slice", data:=.fields #[vl,vu,.none] } }:=I3.kept (t':=s3.toks) fun b ob q=>Rk _ q;obtain ⟨T,id,hT,ht,hg⟩:=hr pins { s3 with heap:=s3.heap.push { cls:=.type "slice", data:=.fields #[vl,vu,.none] } } σ H3 x v vl vu l u ‹29› Q I4 r1 (Heap.IsSliceOf.new ..) pl pu q3;show Rv ‹3› X.A (X2 e (.Slice lo hi none p2) v (.ref ‹29›)) ‹85› X.xe { s3 with heap:=s3.heap.push { cls:=.type "slice", data:=.fields #[vl,vu,.none] } };exact tail_any (ops:=[.ref ‹29›,v]) ht hT hg (by with_unfolding_all rfl)
def FL (xs:List V) (lo hi:Option Int):List V:=(xs.drop (HT.uB xs.length 0 lo)).take (HT.uB xs.length xs.length hi-HT.uB xs.length 0 lo)
theorem oF (xs:List V) (lo hi:Option Int):(FL xs lo hi).length≤xs.length:=by unfold FL;rw [Vt,SY];lia
end
def ixN (n:Nat) (i:Int):Option Nat:=if 0≤i then (if i<n then some i.toNat else none) else if -(n:Int)≤i then some (i+n).toNat else none
def lh {α:Type} (xs:List α) (i:Int):Option α:=(ixN xs.length i).bind fun j=>xs[j]?
variable {n:Nat}
theorem D5 {i:Int} {j:Nat} (h:ixN n i=some j):seqIndex? i n=some j∧j<n∧-(n:Int)≤i∧i<n:=by
 unfold ixN at h;by_cases h0:0≤i
 ·rw [if_pos h0] at h;by_cases h1:i<n
  ·rw [if_pos h1] at h;have e:i.toNat=j:=R5 h;exact ⟨by rw [YQ h0 h1,e],by lia,by lia,h1⟩
  ·rw [if_neg h1] at h; cases h
 ·rw [if_neg h0] at h;by_cases h1:-(n:Int)≤i
  ·rw [if_pos h1] at h;have e:(i+n).toNat=j:=R5 h;exact ⟨by rw [Ys (by lia) h1,e],by lia,h1,by lia⟩
  ·rw [if_neg h1] at h; cases h
variable {α:Type}
theorem Ah {xs:List α} {i:Int} {v:α} (h:lh xs i=some v):∃ j,seqIndex? i xs.length=some j∧xs[j]?=some v∧j<xs.length∧-(xs.length:Int)≤i∧i<xs.length:=by
 unfold lh at h;cases e:ixN xs.length i with
 | none=>rw [e] at h; cases h
 | some j =>rw [e] at h;obtain ⟨h1,h2,h3,h4⟩:=D5 e;exact ⟨j,h1,h,h2,h3,h4⟩
def Er (b:Sv):Prop:=∀ o i,XC b false o i=operate [o,i] (Yr o i)
noncomputable def Jd (X:Cx) (r:R2):Prop :=
 ∀ (value slice:Sv) (pins:List (Q6×TK)) (s:Rb) (σ:St) (H:Hp) (x y:V) (v u:Q7) (Q:VK),Inv X pins σ H s→RelV x v→RelV y u→r x y H Q →
  XC slice false v u=operate [v,u] (Yr v u)→Rv ‹3› X.A (X2 value slice v u) ‹85› X.xe s
variable {pins:List (Q6×TK)} {σ:St} {H:Hp} {s:Rb} {its:List Q7}
noncomputable def QY (X:Cx) (id:String) (r:V→List V→Hp→VK→Prop):Prop :=
 ∀ (pins:List (Q6×TK)) (s:Rb) (σ:St) (H:Hp) (x:V) (xs:List V) (v:Q7) (us:List Q7) (Q:VK),Inv X pins σ H s→RelV x v→Vals xs us→r x xs H Q →
  Rv ‹3› X.A (call (.builtin id) (v::us)) ‹85› X.xe s
section
variable {X:Cx} {a b:Sv} {ta tb:TE} {pos:VJ}
theorem Jd.or {r r':R2} (h:Jd X r) (h':Jd X r'):Jd X (fun x y H Q=>r x y H Q∨r' x y H Q):=by
 intro value slice pins s σ H x y v u Q I rx ry q hs;rcases q with q | q
 ·exact h value slice pins s σ H x y v u Q I rx ry q hs
 ·exact h' value slice pins s σ H x y v u Q I rx ry q hs
theorem Oy {r:R2} (hr:Jd X r) (ha:PE X a ta) (hb:PE X b tb) (hs:Er b):PE X (.Subscript a b pos) (tJ r ta tb):=by intro pins s σ H Q I h;exact Y6 (NH ha hb I h fun v u s2 x y H2 I2 rx ry q=>hr a b pins s2 σ H2 x y v u Q I2 rx ry q (hs _ _))
def Ou (K:Q2):R2:=fun x y H Q=>∃ p xs i v,x=.ref p∧y=.int i∧mS K H p xs∧lh xs i=some v∧Q v H
def Oq (K:Q2):R2:=fun x y H Q=>∃ p xs i v,x=.ref p∧y=.int i∧LP K H p xs∧lh xs i=some v∧Q v H
def Ot:R2:=fun x y H Q=>∃ z i c,x=.str z∧y=.int i∧z.length≤Q4∧lh z.cps.toList i=some c∧Q (.str ⟨#[c]⟩) H
theorem Kk:Jd X (Ou X.K):=by
 intro value slice pins s σ H x y v u Q I rx ry h hs;obtain ⟨p,xs,i,z,rfl,rfl,hq,he,q⟩:=h;cases rx;obtain ⟨t,rfl⟩:=ry;obtain ⟨its,r,pl,hz⟩:=I.list hq;obtain ⟨j,h1,h2,h3,h4,h5⟩:=Ah he;obtain ⟨w,ew,rw'⟩:=r.get h2;have hl:=r.length;have hn:=sQ;have fin:EP X pins σ Q w s:=⟨z,H,I,rw',q⟩
 by_cases h0:0≤i
 ·have hj:i.toNat=j:=by rw [YQ h0 h5] at h1;exact R5 h1
  exact item_listR pl.isList h0 (by lia) (by rw [hj]; simpa using ew) fin hs
 ·have hj:(i+(its.toArray.size:Int)).toNat=j:=by rw [Ys (by lia) h4] at h1;rw [Rr,← hl];exact R5 h1
  exact Xa (x:=w) pl.isList.typeIs slot_list_getitem.lookup
   (wpAny_getItem_list_neg (Q:=fun r s'=>r=w∧EP X pins σ Q r s') pl.isList (by lia) (by rw [Rr] <;> lia) (by lia) (by rw [hj]; simpa using ew) ⟨rfl,fin⟩) hs
theorem M8:Jd X (Oq X.K):=by
 intro value slice pins s σ H x y v u Q I rx ry h hs;obtain ⟨p,xs,i,z,rfl,rfl,hq,he,q⟩:=h;cases rx;obtain ⟨t,rfl⟩:=ry;obtain ⟨its,r,pl,hz⟩:=I.tuple hq;obtain ⟨j,h1,h2,h3,h4,h5⟩:=Ah he;obtain ⟨w,ew,rw'⟩:=r.get h2;have hl:=r.length;have hn:=sQ;have fin:EP X pins σ Q w s:=⟨z,H,I,rw',q⟩
 exact Xa (x:=w) pl.typeIs slot_tuple_getitem.lookup
  (getItem_tuple (j:=j) (Q:=fun r s'=>r=w∧EP X pins σ Q r s') pl (by lia) (by lia) (by rw [Rr,← hl]; exact h1) (by simpa using ew) ⟨rfl,fin⟩) hs
theorem M9:Jd X Ot:=by
 intro value slice pins s σ H x y v u Q I rx ry h hs;obtain ⟨z,i,c,rfl,rfl,hz,he,q⟩:=h;obtain ⟨t,rfl⟩:=rx;obtain ⟨t',rfl⟩:=ry;obtain ⟨j,h1,h2,h3,h4,h5⟩:=Ah he;have hl:z.cps.toList.length=z.length:=by simp [Str.length]
 rw [hl] at h1 h4 h5;have hn:=sQ;exact tail_any (Ui s z t) WO.lookup (getItem_str (c:=c) (by have e1:decide (i < -(2 ^ 63:Int))=false:=decide_eq_false (by lia);have e2:decide (i ≥ 2 ^ 63)=false:=decide_eq_false (by lia);rw [e1,e2,Bool.or_false]) (by rw [h1]; simpa using h2) ⟨.str ⟨#[c]⟩,H,I.tok _,⟨_,rfl⟩,q⟩) hs
def Mp (K:Q2):R2:=fun x y H Q=>Ou K x y H Q∨Oq K x y H Q∨Ot x y H Q
theorem Na:Jd X (Mp X.K):=Kk.or (M8.or M9)
theorem CP (its:List Q7) (n j:Nat) (u:Q7):Xb (·.setIfInBounds j u) { cls:=.type "list", data:=.seq its.toArray n }={ cls:=.type "list", data:=.seq (its.set j u).toArray n }:=by simp [Xb]
theorem Inv.lst {pins:List (Q6×TK)} {σ:St} {H:Hp} {s:Rb} {p:Q6} {xs:List V} (I:Inv X pins σ H s) (h:H p=some (.lst xs)) :
 ∃ (its:List Q7) (n:Nat),Vals xs its∧s.heap.get? p=some { cls:=.type "list", data:=.seq its.toArray n }∧xs.length≤Q4:=by
 obtain ⟨z,its,n,r,e⟩:=I.dm p _ h;exact ⟨its,n,r,e,z⟩
theorem Inv.MW {p:Q6} {xs ys:List V} {its':List Q7} {n':Nat} {f:TK→TK} (I:Inv X pins σ H s) (h:H p=some (.lst xs))
 (ho:s.heap.get? p=some { cls:=.type "list", data:=.seq its.toArray n }) (hf:f { cls:=.type "list", data:=.seq its.toArray n }={ cls:=.type "list", data:=.seq its'.toArray n' }) (r:Vals ys its') (hz:ys.length≤Q4) (t:Nat) :
 Inv X pins σ (upd H p (.lst ys)) { s with heap:=s.heap.update p f,toks:=t }:=by
 have e:(s.heap.update p f).get? p=some { cls:=.type "list", data:=.seq its'.toArray n' }:=by rw [Tt f ho (by rw [hf] <;> rfl),hf]
 refine I.write (x:=p) (e:=p) (by rw [h]; trivial) (.inl rfl) (fun b u hb q=>(Si _ _ (S6 hb)).trans q) ⟨_,e⟩ ?_;exact ⟨hz,its',n',r,e⟩
def G8:V→V→V→Hp→(Hp→Prop)→Prop:=fun o i v H Q=>∃ p xs k j,o=.ref p∧i=.int k∧H p=some (.lst xs)∧ixN xs.length k=some j∧Q (upd H p (.lst (xs.set j v)))
theorem set_list:Pj X G8:=by
 intro pins s σ H o i v ov iv u Q I ro ri rv h;obtain ⟨p,xs,k,j,rfl,rfl,hp,hj,q⟩:=h;cases ro;obtain ⟨t,rfl⟩:=ri;obtain ⟨its,n,r,ho,hz⟩:=I.lst hp;obtain ⟨h1,h2,h3,h4⟩:=D5 hj;have hl:=r.length;have hn:=sQ
 have I':Inv X pins σ (upd H p (.lst (xs.set j v))) { s with heap:=s.heap.update p (Xb (·.setIfInBounds j u)) } :=
  I.MW hp ho (CP its n j u) (r.set rv j) (by rw [Su]; exact hz) s.toks
 by_cases h0:0≤k
 ·have hk:k.toNat=j:=by rw [YQ h0 h4] at h1;exact R5 h1
  exact PySem.W.ki_setAt ho h0 (by lia) (by rw [Rr,← hl]; exact h4) (by rw [hk]; exact ⟨_,I',q⟩)
 ·have hk:(k+(its.toArray.size:Int)).toNat=j:=by rw [Ys (by lia) h3] at h1;rw [Rr,← hl];exact R5 h1
  exact PySem.W.ki_setBack ho (by lia) (by rw [Rr,← hl]; exact h3) (by lia) (by rw [hk]; exact ⟨_,I',q⟩)
theorem y4 (lo hi:Option Int) (n:Nat):(U3 lo hi none n).1=((HT.uB n 0 lo:Nat):Int)∧(U3 lo hi none n).2.1=((HT.uB n n hi:Nat):Int)∧(U3 lo hi none n).2.2=1:=by
 refine ⟨?_,?_,rfl⟩
 ·cases lo with
  | none=>simp [U3,HT.uB]
  | some i =>
   simp only [U3,HT.uB,YF,show (1:Int) > 0 by decide,if_true];by_cases h:i<0
   ·simp only [h,if_true] <;> lia
   ·simp only [h,if_false] <;> lia
 ·cases hi with
  | none=>simp [U3,HT.uB]
  | some i =>
   simp only [U3,HT.uB,YF,show (1:Int) > 0 by decide,if_true];by_cases h:i<0
   ·simp only [h,if_true] <;> lia
   ·simp only [h,if_false] <;> lia
theorem wX (its:List Q7) (lo hi:Option Int):slicePick its.toArray lo hi none=((its.drop (HT.uB its.length 0 lo)).take (HT.uB its.length its.length hi-HT.uB its.length 0 lo)).toArray:=by obtain ⟨h1,h2,h3⟩:=y4 lo hi its.toArray.size;unfold slicePick;rw [h1,h2,h3];simp only [sliceRange_one,pick_run,Rr] <;> rfl
def JP (K:Q2):V→Option Int→Option Int→Hp→VK→Prop:=fun x lo hi H Q=>∃ a xs,x=.ref a∧mS K H a xs∧∀ p,H p=none→Q (.ref p) (upd H p (.lst (FL xs lo hi)))
theorem JA:Pd X (JP X.K):=by intro pins s σ H x v vl vu lo hi sl Q I rx hs pl pu h;obtain ⟨a,xs,rfl,hx,q⟩:=h;cases rx;obtain ⟨its,r,ht,hz⟩:=I.list hx;have hlen:=r.length;refine ⟨"list", _,slot_list_getitem.lookup,ht.isList.typeIs,?_⟩;refine wpAny_getItem_list_slice ht.isList hs pl pu .none (by simp) ?_ (by rw [Rr] <;> lia);rw [wX,← hlen];refine ⟨.ref ‹7›,_,I.laid (t':=s.toks) (o:=.lst (FL xs lo hi)) (fun b ob q=>Rk _ q) (Rq _) ?_,rfl,q _ (I.dm.fresh (Rq _))⟩;exact ⟨RE (oF xs lo hi) hz,_,0,(r.drop (HT.uB xs.length 0 lo)).take (HT.uB xs.length xs.length hi-HT.uB xs.length 0 lo),RI _ rfl⟩
def ou:V→Bool
 | .non=>true
 | .bl _=>true
 | .int _=>true
 | .str _=>true
 | _=>false
def LJ:V→V→Bool
 | .non,.non=>true
 | .bl a,.bl b=>a==b
 | .bl a,.int b=>(if a then 1 else 0)==b
 | .int a,.bl b=>a==(if b then 1 else 0)
 | .int a,.int b=>a==b
 | .str a,.str b=>a==b
 | _,_=>false
theorem Nz {A:SG} {y x:V} {u v:Q7} (ry:RelV y u) (rx:RelV x v) (fy:ou y=true) (fx:ou x=true):Ua A s u v (LJ y x):=by
 cases y with
 | non =>
  cases ry;cases x with
  | non=>cases rx; exact VM _
  | bl b=>cases rx; exact SeqAt.EqAt.none_bool b
  | int b=>obtain ⟨t,rfl⟩:=rx; exact SeqAt.EqAt.none_int b t
  | str b=>obtain ⟨t,rfl⟩:=rx; exact SeqAt.EqAt.none_str b t
  | _=>exact absurd (show false=true from fx) Rn
 | bl a =>
  cases ry;cases x with
  | non=>cases rx; exact SeqAt.EqAt.bool_none a
  | bl b=>cases rx; exact XD a b
  | int b=>obtain ⟨t,rfl⟩:=rx; exact SeqAt.EqAt.bool_int a b t
  | str b=>obtain ⟨t,rfl⟩:=rx; exact SeqAt.EqAt.bool_str a b t
  | _=>exact absurd (show false=true from fx) Rn
 | int a =>
  obtain ⟨t',rfl⟩:=ry;cases x with
  | non=>cases rx; exact SeqAt.EqAt.int_none a t'
  | bl b=>cases rx; exact SeqAt.EqAt.int_bool a t' b
  | int b=>obtain ⟨t,rfl⟩:=rx; exact X9 a t' b t
  | str b=>obtain ⟨t,rfl⟩:=rx; exact X4 a t' b t
  | _=>exact absurd (show false=true from fx) Rn
 | str a =>
  obtain ⟨t',rfl⟩:=ry;cases x with
  | non=>cases rx; exact SeqAt.EqAt.str_none a t'
  | bl b=>cases rx; exact SeqAt.EqAt.str_bool a t' b
  | int b=>obtain ⟨t,rfl⟩:=rx; exact X5 a t' b t
  | str b=>obtain ⟨t,rfl⟩:=rx; exact Ya a t' b t
  | _=>exact absurd (show false=true from fx) Rn
 | _=>exact absurd (show false=true from fy) Rn
def KH (x:V) (u:Q7):Bool:=match u with
 | .none=>LJ .non x
 | .bool b=>LJ (.bl b) x
 | .int i _=>LJ (.int i) x
 | .str z _=>LJ (.str z) x
 | _=>false
theorem IA {x y:V} {u:Q7} (r:RelV y u) (f:ou y=true):KH x u=LJ y x:=by
 cases y with
 | non=>cases r; rfl
 | bl b=>cases r; rfl
 | int i=>obtain ⟨t,rfl⟩:=r; rfl
 | str z=>obtain ⟨t,rfl⟩:=r; rfl
 | _=>exact absurd (show false=true from f) Rn
theorem Ai {x:V}:∀ {xs:List V} {us:List Q7},Vals xs us→xs.all ou=true→us.any (KH x)=xs.any fun y=>LJ y x
 | _,_,.nil,_=>rfl
 | y::xs,u::us,.cons r t,f=>by rw [Vz,RS] at f;rw [VA,VA,IA r f.1,Ai t f.2]
theorem vL {A:SG} {s:Rb} {x:V} {v:Q7} (rx:RelV x v) (fx:ou x=true):∀ {xs:List V} {us:List Q7},Vals xs us→xs.all ou=true→∀ u∈us,Ua A s u v (KH x u)
 | _,_,.nil,_=>fun u hu=>by cases hu
 | y::xs,u::us,.cons r t,f=>fun u' hu=>by
  rw [Vz,RS] at f;rcases Ri.mp hu with rfl | hu
  ·rw [IA r f.1]; exact Nz r rx f.1 fx
  ·exact vL rx fx t f.2 u' hu
def OT (x:V) (xs:List V):Bool:=xs.any fun y=>LJ y x
def PX (K:Q2) (neg:Bool):R2:=fun x y H Q=>∃ p xs,y=.ref p∧(mS K H p xs∨LP K H p xs)∧ou x=true∧xs.all ou=true∧Q (.bl (if neg then !OT x xs else OT x xs)) H
theorem E9:sx X (S8 .In) (PX X.K false):=by
 intro pins s σ H x y v u Q I rx ry h;obtain ⟨p,xs,rfl,hq,fx,fs,q⟩:=h;cases ry;rcases hq with hq | hq
 ·obtain ⟨its,r,pl,hz⟩:=I.list hq;refine SeqAt.in_listAt (KH x) pl.isList (fun w hw=>vL rx fx r fs w (by simpa using hw)) ⟨.bl _,H,I,rfl,?_⟩;rw [show its.toArray.any (KH x)=its.any (KH x) by simp,Ai r fs];exact q
 ·obtain ⟨its,r,pl,hz⟩:=I.tuple hq;refine SeqAt.in_tupleAt (KH x) pl (fun w hw=>vL rx fx r fs w (by simpa using hw)) ⟨.bl _,H,I,rfl,?_⟩;rw [show its.toArray.any (KH x)=its.any (KH x) by simp,Ai r fs];exact q
noncomputable def Qn (K:Q2) (T:String) (x:V) (H:Hp):Prop:=match x with
 | .str _=>T = "str"
 | .int _=>T = "int"
 | .ref p=>(T = "list" ∧ ∃ xs,mS K H p xs)∨(T = "tuple" ∧ ∃ o,K.lookup p=some o∧o.cls=.type "tuple" ∧ o.dict=none) ∨
  (T = "dict" ∧ ((∃ kvs,H p=some (.dK kvs))∨∃ kvs,H p=some (.dT kvs)))∨(T = "set" ∧ ∃ S n,H p=some (.set S n))
 | _=>False
theorem LZ {T:String} {x:V} {v:Q7} (I:Inv X pins σ H s) (r:RelV x v) (ty:Qn X.K T x H) :
 s.TypeIs v T∧∀ a,v=.ref a→∃ ob,s.heap.get? a=some ob∧ob.dict=none:=by
 cases x with
 | str z =>obtain ⟨t,rfl⟩:=r;cases (show T = "str" from ty);exact ⟨Ui s z t,fun _ e=>nomatch e⟩
 | int i =>obtain ⟨t,rfl⟩:=r;cases (show T = "int" from ty);exact ⟨Y7 s i t,fun _ e=>nomatch e⟩
 | ref p =>
  cases r;rcases ty with ⟨rfl,xs,hq⟩ | ⟨rfl,o,hk,hc,hd⟩ | ⟨rfl,hk⟩ | ⟨rfl,S,n,hk⟩
  ·obtain ⟨its,_,pl,_⟩:=I.list hq;refine ⟨pl.isList.typeIs,fun a e=>?_⟩;cases e;obtain ⟨o,n,e,c,hd,_⟩:=pl;exact ⟨o,e,hd⟩
  ·refine ⟨⟨o,I.qw p o hk,hc⟩,fun a e=>?_⟩;cases e;exact ⟨o,I.qw _ o hk,hd⟩
  ·have z:∃ o,s.heap.get? p=some o∧o.ExactDict:=by
    rcases hk with ⟨kvs,hk⟩ | ⟨kvs,hk⟩
    ·obtain ⟨_,_,_,_,o,_,_,e,ex,_⟩:=I.dm p _ hk;exact ⟨o,e,ex⟩
    ·obtain ⟨_,_,_,_,o,_,_,e,ex,_⟩:=I.dm p _ hk;exact ⟨o,e,ex⟩
   obtain ⟨o,e,ex⟩:=z;refine ⟨⟨o,e,ex.1⟩,fun a e2=>?_⟩;cases e2;exact ⟨o,e,ex.2.1⟩
  ·obtain ⟨o,_,_,_,e,ex,_⟩:=I.dm p _ hk;refine ⟨⟨o,e,ex.1⟩,fun a e2=>?_⟩;cases e2;exact ⟨o,e,ex.2.1⟩
 | _=>exact S1 ty
def Lf (K:Q2) (T:String) (r:V→List V→Hp→VK→Prop) (to:TE) (t:TA):TE:=fun σ H Q=>to σ H fun x H1=>Qn K T x H1∧t σ H1 fun xs H2=>r x xs H2 Q
variable {o e:Sv} {es:List Sv} {to:TE} {t:TA} {name:Rf} {apos cpos:VJ} {T id:String} {r:V→List V→Hp→VK→Prop}
theorem dJ (pa:PlainAttrs T) (slot:Slot T name id) (hty:typeOf (.builtin id)=pure (.type "method_descriptor")) (hm:QY X id r) (ho:PE X o to) (ha:PA X (e::es) t)
 (hbase:WB o name X.env (eval o X.env)=eval o X.env:=by rfl)
 (hfew:((TN cpos (RH (e::es) X.env)).all (fun x=>!x.1)&&(WQ cpos (U4 [] X.env)).all (fun x=>x.1.isSome)
  && decide ((e::es).length+([]:List Keyword).length+(if ([]:List Keyword).isEmpty then 0 else 1)<30))=true:=by rfl)
 (hline:(apos.endLine==cpos.line)=true:=by rfl) (hs:RH (e::es) X.env=(false,eval e X.env)::RH es X.env:=by rfl) (hplain:(TN cpos (RH es X.env)).any (·.1)=false:=by rfl) :
 PE X (.Call (.Attribute o name apos) (e::es) [] cpos) (Lf X.K T r to t):=by
 intro pins s σ H Q I h;refine wpAny_Call_method_late hbase hfew hline rfl (cP (ho pins s σ H _ I h) fun v s1 ⟨x,H1,I1,r1,ty,q1⟩=>?_);obtain ⟨h1,h2⟩:=LZ I1 r1 ty;refine ⟨T,id,pa,slot,hty,h1,h2,?_⟩;have hA:=ha cpos pins s1 σ H1 _ I1 q1;rw [hs] at hA ⊢;refine Vh (by show (false || (TN cpos (RH es X.env)).any (·.1))=false; rw [hplain] <;> rfl) (Uz ?_);exact cP hA fun us s2 ⟨vs,H2,I2,r2,q2⟩=>hm pins s2 σ H2 x vs v us Q I2 r1 r2 q2
end
noncomputable def Pm (X:Cx) (id:String) (r:V→List V→Hp→VK→Prop):Prop :=
 ∀ (pins:List (Q6×TK)) (s:Rb) (σ:St) (H:Hp) (x:V) (xs:List V) (v:Q7) (us:List Q7) (Q:VK),Inv X pins σ H s→RelV x v→Vals xs us→r x xs H Q →
  Rv ‹3› X.A (call (.builtin id) (v::us)) ‹85› X.xe s
theorem Vals.one:∀ {x:V} {us:List Q7},Vals [x] us→∃ u,us=[u]∧RelV x u
 | _,_,.cons r .nil=>⟨_,rfl,r⟩
theorem Vals.rep {xs:List V} {us:List Q7} (h:Vals xs us):∀ k:Nat,Vals (Rx k xs).flatten (Rx k us).flatten
 | 0=>.nil
 | k+1=>by rw [S0,S0,TB,TB];exact Vals.append h (Vals.rep h k)
theorem foldl_rep (its:List Q7):∀ (k:Nat) (acc:List Q7),
 Y8 (fun x1 x2=>x1++x2) acc.toArray (Rx k its.toArray)=(acc++(Rx k its).flatten).toArray
 | 0,acc=>by simp
 | k+1,acc=>by
  have e:acc.toArray++its.toArray=(acc++its).toArray:=by simp
  have e2:(acc++its)++(Rx k its).flatten=acc++(Rx (k+1) its).flatten:=by rw [S0,TB,SR]
  rw [← e2,← foldl_rep its k (acc++its),← e,S0,UY]
section
variable {X:Cx} {pins:List (Q6×TK)} {σ:St} {H:Hp} {s:Rb} {l b:Q6} {xs ys zs:List V}
theorem Inv.P4 {its':List Q7} {f:Array Q7→Array Q7} {t':Nat} (I:Inv X pins σ H s) (hH:H l=some (.lst xs))
 (e:s.heap.get? l=some { cls:=.type "list", data:=.seq its.toArray n }) (hf:f its.toArray=its'.toArray) (hv:Vals ys its') (hz:ys.length≤Q4) :
 Inv X pins σ (upd H l (.lst ys)) { s with heap:=s.heap.update l (Xb f),toks:=t' }:=by
 have q:=PySem.IsL.update e f;rw [hf] at q;refine I.write (x:=l) (e:=l) (by rw [hH]; exact trivial) (.inl rfl) (fun b' u hb hu=>(Si s.heap (Xb f) (S6 hb)).trans hu) ⟨_,q⟩ ?_;exact ⟨hz,its',_,hv,q⟩
theorem Inv.Kf {t':Nat} (I:Inv X pins σ H s) (hv:Vals ys its) (hz:ys.length≤Q4) :
 Inv X pins σ (upd H ‹7› (.lst ys)) { s with heap:=s.heap.push { cls:=.type "list", data:=.seq its.toArray },toks:=t' } :=
 I.laid (fun _ _ q=>Rk _ q) (Rq _) ⟨hz,its,0,hv,RI _ rfl⟩
theorem Inv.fresh (I:Inv X pins σ H s):H ‹7›=none:=I.dm.fresh (Rq _)
theorem Inv.OO (I:Inv X pins σ H s) (hH:H l=some (.lst xs)):xs.length≤Q4∧∃ (its:List Q7) (n:Nat),Vals xs its∧xs.length=its.length∧s.heap.get? l=some { cls:=.type "list", data:=.seq its.toArray n }:=by obtain ⟨z,its,n,r,e⟩:=I.dm l _ hH;exact ⟨z,its,n,r,r.length,e⟩
theorem HD (h:n≤Q4):UR n=false:=by unfold UR;exact decide_eq_false (by lia)
end
section
variable {X:Cx}
def DQ:V→List V→Hp→VK→Prop:=fun x vs H Q=>∃ l xs y,x=.ref l∧vs=[y]∧H l=some (.lst xs)∧xs.length<Q4∧Q .non (upd H l (.lst (xs++[y])))
theorem o7:Pm X "list.append" DQ:=by intro pins s σ H x vs v us Q I rx rv h;obtain ⟨l,xs,y,rfl,rfl,hH,hz,q⟩:=h;cases rx;obtain ⟨u,rfl,ru⟩:=rv.one;obtain ⟨z,its,n,r,hl,e⟩:=I.OO hH;refine U0 F.slot_list_append ⟨_,e,rfl⟩ F.entry_list_append (F.args_list_append_2 _ _) (PySem.list_append l its.toArray n u (by rw [Rr]; lia)) ⟨e,?_⟩;refine ⟨.non,_,I.P4 (its':=its++[u]) hH e (by simp) (r.append (.cons ru .nil)) ?_,rfl,q⟩;rw [Ru,Tc];lia
def Oo:R2:=fun x y H Q=>∃ l k xs,x=.ref l∧y=.int k∧H l=some (.lst xs)∧-(2 ^ 63)≤k∧k<2 ^ 63∧xs.length*k.toNat≤Q4 ∧
 ∀ p,H p=none→Q (.ref p) (upd H p (.lst (Rx k.toNat xs).flatten))
theorem len_rep (xs:List α) (k:Nat):(Rx k xs).flatten.length=k*xs.length:=by
 induction k with
 | zero=>simp
 | succ k ih=>rw [S0,TB,Ru,ih,Nat.succ_mul,Nat.add_comm]
theorem Hw:sx X (WL .Mult) Oo:=by
 intro pins s σ H x y v u Q I rx ry h;obtain ⟨l,k,xs,rfl,rfl,hH,h1,h2,hz,q⟩:=h;cases rx;obtain ⟨t,rfl⟩:=ry;obtain ⟨z,its,n,r,hl,e⟩:=I.OO hH;have hlen:its.toArray.size*k.toNat≤Q4:=by rw [Rr,← hl]; exact hz
 have hcap:¬ its.toArray.size*k.toNat > (2 ^ 63-1) / 8:=by
  have:(Q4:Nat)≤(2 ^ 63-1) / 8:=by decide
  lia
 have hfit:¬ (!Builtin.List.listFitsIndex k)=true:=by rw [fitsIndex_both h1 h2];exact Rn
 have hlong:¬ UR (its.toArray.size*k.toNat)=true:=by rw [HD hlen];exact Rn
 have hnew:Y8 (fun x1 x2=>x1++x2) #[] (Rx (if its.toArray.isEmpty=true then 0 else k.toNat) its.toArray)=(Rx k.toNat its).flatten.toArray:=by
  have f0:∀ m:Nat,Y8 (fun x1 x2=>x1++x2) #[] (Rx m its.toArray)=(Rx m its).flatten.toArray:=fun m=>by have:=foldl_rep its m [];rw [TH] at this;exact this
  rw [f0];cases its with
  | nil=>simp
  | cons a r'=>rw [if_neg (by simp)]
 refine wpAny_binaryOp_repeat_ref (T := "list") (U := "int") ‹6› ⟨_,e,rfl⟩ (fun s'=>Y7 s' k t) noFill_list_mul F.fills_int_mul F.slot_int_rmul repeat_list F.slot_int_index.lookup
  (U0 F.slot_int_rmul (Y7 s k t) F.entry_int_rmul (F.args_int_rmul_2 _ _) (int___rmul___int_list k t l its.toArray n)
   ⟨e,rfl,⟨_,e,rfl⟩,U0 F.slot_list_mul ⟨_,e,rfl⟩ F.entry_list_mul (F.args_list_mul_2 _ _) (AutoListH.list___mul___list_int_3 l its.toArray n k t hfit hcap hlong) ⟨e,?_⟩⟩)
 rw [hnew];exact ⟨.ref _,_,I.Kf (t':=s.toks) (r.rep k.toNat) (by rw [len_rep,Nat.mul_comm]; exact hz),rfl,q _ I.fresh⟩
end
end L2
namespace Ql
open PySem PySem.W PySem.Calls PyProof.Rows
variable {P:Params}
theorem ug {h:SA}:∀ (ns:List Int) (vs:List Q7),WellAll P h vs (ns.map VY)→IntsAre vs ns:=by
 intro ns;induction ns with
 | nil =>intro vs w;rw [Xc] at w;cases w;exact .nil
 | cons n ns ih =>
  intro vs w;rw [R4] at w;cases w with
  | cons a b =>cases a;exact .cons _ _ (ih _ b)
theorem EN {l:OpenLaw} {n:Nat} (hn:l.most=some n) {h:SA} {args:List WData} {vals:List Q7}
 (hpre:l.row.toRowW.claim.pre args=true) (hwl:WellAll P h vals args) :
 ∃ a vs ns,vals=[RQ a]∧args=[WData.list (ns.map VY)]∧h.get? a=some { cls:=.type "list", data:=.seq vs.toArray }∧IntsAre vs ns∧ns.length≤n:=by
 have hsh:WShape.hasAll [] args [.list .int]=true:=(pre_splitW hpre).1;have hc:l.pre.holds [] { args:=args }=true:=(pre_splitW hpre).2;obtain ⟨d,r,rfl,h1,h2⟩:=hasAllW_cons hsh;obtain rfl:=hasAllW_nil h2;obtain ⟨xs,rfl,h3⟩:=hasW_list h1;obtain ⟨ns,rfl⟩:=items_int h3
 have hlen:ns.length≤n:=by
  unfold OpenLaw.pre at hc;have h4:(WTm.not (.lt (.lit (.int (n:Int))) (.len (.arg 0)))).holds [] { args:=[.list (ns.map .int)] }=true:=by have h4:=(holds_andW hc).1;rw [hn] at h4;exact h4
  have h5:=condW_of h4 (w_not (w_lt w_lit (w_len_list (w_arg rfl))));rw [Q5] at h5;refine Nat.le_of_not_lt fun q=>?_;have q':(n:Int)<((ns.length:Nat):Int):=by lia
  first
   | (rw [decide_eq_true q'] at h5; exact absurd h5 ‹6›)
   | (simp at h5; lia)
 cases hwl with
 | cons w1 w2 =>
  cases w2;cases w1 with
  | list ho hall=>exact ⟨_,_,ns,rfl,rfl,ho,ug ns _ hall,hlen⟩
theorem E5 (l:OpenLaw) (args:List WData):l.row.toRowW.claim.post args (.bool true) args=true :=
 postW_of (r:=l.row.toRowW) (X:=(true==true))
  (show WShape.has [] (.bool true) .bool=true by first | rfl | decide | simp [WShape.has,WShape.arms,WShape.armsAll])
  (show (WTm.eq .res (.lit (.bool true))).value [] { args:=args,res:=some (.bool true),after:=args }=some (.bool (true==true)) from w_eq_bool (w_res rfl) w_lit) rfl
section
variable {prog:Sd} {w:Sn} {A:SG} {E:Q7→Rb→Prop} {s:Rb} {K:Frag}
def ledger (h:SA) (L d:Q6):List (Q6×TK):=(Rl h.objs.size).filterMap fun a=>if a=L∨a=d then none else (h.get? a).map fun o=>(a,o)
end
end Ql
namespace L2
open PySem PySem.Spec PyProof.Rows
theorem xF:∀ {vs:List Q7} {ns:List Int},IntsAre vs ns→Vals (ns.map V.int) vs
 | _,_,.nil=>.nil
 | _,_,.cons n t h=>.cons ⟨t,rfl⟩ (xF h)
def NN (H:Hp):Prop:=∀ b,H b=none∨∃ o xs,H b=some (.uM o (.lst xs))
variable {a:Q6} {x:Rf} {ns:List Int}
theorem HV {P:Sd} {w:Sn} {K:Q2} {mg mb:Rf→Option Q7} {CX:Eu} {k:Nat} {fa:Q6} {fd:SM} {sp:Sp} {s₁:Rb} {vs:List Q7}
 (KX:K.In s₁.heap) (hns:s₁.heap.Ns SF mg) (hb:s₁.heap.Ns Y2 mb) (hbb:∀ x:Rf,x ≠ "__name__" → mb x=S3 x) (hlim:s₁.heap.NoLimit) (hg:s₁.gens=#[])
 (ha:s₁.heap.get? a=some { cls:=.type "list", data:=.seq vs.toArray }) (hi:IntsAre vs ns) (hl:ns.length≤Q4) (hr:fk k Yt)
 (F:∀ base:SA,K.In base→base.Ns SF mg→bQ P w K mg base CX k fa fd [x] sp) (hbind:∀ (s:Rb) (u:Q7),Yk s fd ⟨[u],[]⟩ [(x,u)])
 (hsp:∀ H:Hp,NN H→mS K H a (ns.map V.int)→sp [.ref a] H (fun v _=>v=.bl true) fun _ _ _=>False)
 (hCX:∀ H e s',CX [] H s₁ (fun _ _ _=>False) e s'→False) :
 UG (model P w) Yt (.call (.ref fa) ⟨[.ref a],[]⟩) (fun r s'=>r=.ok (.ret (.bool true))∧OldK s₁.heap s'.heap∧s'.os=s₁.os∧Wm s'.gens) s₁:=by
 have rv:=xF hi;have lenV:=hi.length
 have core:∀ H:Hp,NN H→mS K H a (ns.map V.int)→pL P w H s₁.heap→(∀ b,H b≠none→b=a)→(H a≠none→K.lookup a=none) →
  UG (model P w) Yt (.call (.ref fa) ⟨[.ref a],[]⟩) (fun r s'=>r=.ok (.ret (.bool true))∧OldK s₁.heap s'.heap∧s'.os=s₁.os∧Wm s'.gens) s₁:=by
  intro H hO hS dm hA hK;have base_of:∀ {b:Q6} {o:TK},s₁.heap.get? b=some o→H b=none→(zW s₁.heap H).get? b=some o:=fun e n=>Ie e n
  have noA:∀ {b:Q6} {o:TK} {es:Array VW} {ep:Nat},s₁.heap.get? b=some o→o.data=.dict es ep→H b=none:=fun {b o es ep} e d=>by
   cases q:H b with
   | none=>rfl
   | some u =>have e':b=a:=hA b (by rw [q]; simp);subst e';rw [ha] at e; cases e;have d':Zo vs.toArray _=Data.dict es ep:=d;cases d'
  have nsK:∀ {b:Q6} {m:Rf→Option Q7},s₁.heap.Ns b m→(zW s₁.heap H).Ns b m:=fun {b m} ⟨o,es,ep,e,d,r⟩=>⟨o,es,ep,base_of e (noA e d),d,r⟩
  have hKb:K.In (zW s₁.heap H):=fun b o e=>base_of (KX b o e) (by
   cases q:H b with
   | none=>rfl
   | some u =>have e':b=a:=hA b (by rw [q]; simp);subst e';rw [hK (by rw [q]; simp)] at e; cases e)
  have hM:Mod K mg (zW s₁.heap H):=⟨hKb,nsK hns,⟨mb,nsK hb,hbb⟩,let ⟨mc,h1,h2⟩:=hlim; ⟨mc,nsK h1,h2⟩⟩
  have e0:Df P w K mg (zW s₁.heap H) Yt [] s₁ H:=⟨rfl,hM,fun b o e=>JY e,VT (Fy _ _),trivial,fun b hb=>absurd (show b∈([]:List Q6) from hb) (by simp),dm,.of_eq hg⟩
  refine UH ((F _ hKb (nsK hns)).run Yt [] s₁ H ⟨[.ref a],[]⟩ [.ref a] [.ref a] _ _ hr e0 (hbind s₁ (.ref a)) (.cons rfl .nil) (hsp H hO hS)) fun r s' h=>?_;cases r with
  | error e=>exact (hCX H e s' h).elim
  | ok fl =>
   cases fl with
   | next=>exact S1 h
   | brk=>exact S1 h
   | cont=>exact S1 h
   | ret u =>
    obtain ⟨v,H',os,bare,un,hok',r',q⟩:=h;have q':v=.bl true:=q;subst q';obtain rfl:u=X6 true:=r';refine ⟨rfl,OldK.of_keep fun b o e=>?_,os,bare⟩;cases q:H b with
    | none=>exact un.keep b o e q (by intro z; exact absurd (show b∈([]:List Q6) from z) (by simp)) (by simp)
    | some u =>
     rcases hO b with z | ⟨ob,xs,z⟩
     ·rw [q] at z; cases z
     ·have z2:=un.uh b ob _ z;obtain ⟨e1,_⟩:=dm b _ z;obtain ⟨e2,_⟩:=hok' b _ z2;rw [e] at e1; cases e1;exact e2
 cases hk:K.lookup a with
 | some o =>have e:=KX a o hk;rw [ha] at e;cases e;refine core (fun _=>none) (fun _=>.inl rfl) (.inr ⟨_,vs.toArray,_,hk,rfl,rfl,rfl,by rw [Rr,lenV]; exact hl,by simpa using rv⟩) (fun b u z=>by have z':(none:Option HO)=some u:=z; cases z') (fun b z=>absurd rfl z) fun z=>absurd rfl z
 | none =>
  refine core (fun b=>if b=a then some (.uM { cls:=.type "list", data:=.seq vs.toArray } (.lst (ns.map V.int))) else none) (fun b=>?_) (.inl (.inr ⟨{ cls:=.type "list", data:=.seq vs.toArray },if_pos rfl⟩)) (fun b u z=>?_) (fun b z=>?_) fun _=>hk
  ·by_cases hb:b=a
   ·exact .inr ⟨_,_,if_pos hb⟩
   ·exact .inl (if_neg hb)
  ·by_cases hb:b=a
   ·have z':=(if_pos hb).symm.trans z;cases z';subst hb;exact ⟨ha,by rw [Q5]; exact hl,vs,_,rv,ha⟩
   ·have z':=(if_neg hb).symm.trans z;cases z'
  ·by_cases hb:b=a
   ·exact hb
   ·exact absurd (if_neg hb) z
abbrev Q1 {K:Q2} {h:SA} (_:K.In h):Q2:=K
abbrev gW:Eu:=fun _ _ _ _ _ _=>False
abbrev E0:XK:=fun _ _ _=>False
variable {X:Cx}
theorem eZ:Passes gW X E0:=fun _ _ _ _ _ _ _ h=>h.elim
section
variable {P:Sd} {w:Sn} {K:Q2} {mg:Rf→Option Q7} {base:SA}
theorem eQ.ok {qual:Rf} {st:SJ} {f:Q6} {fd:SM} {N ps:List Rf} {k:Nat} {sp:Sp} (F:eQ K x qual st f fd) (S:ba N ps (aI st)) (len:∀ vs H Q E,sp vs H Q E→vs.length=ps.length)
 (hbody:∀ (cdv:Q7) (A:SG) (outer:List XX) (s:Rb) (H:Hp) (vs:List V) (Q:VK) (E:XK),fk k (A.deeper (W9 qual (aI st) ‹7› f cdv))→sp vs H Q E →
  ∃ t,wI ‹59›.Lx (eU st) t∧t { nx:=fun _ H'=>Q .non H',rt:=Q } (start N vs) H):bQ P w K mg base gW (k+1) f fd ps sp:=by
 obtain ⟨oc,od,kV,doc,pm,an,cdv,ct,osl,rfl,lk,hcd⟩:=F.ex;refine LH lk hcd S len fun A outer s H vs Q E hr hsp=>?_;obtain ⟨t,h,q⟩:=hbody cdv A outer s H vs Q E hr hsp;exact ⟨t,h.Lx,q⟩
end
variable {A:SG} {pos:VJ}
theorem pV {k:Nat} (hr:fk k A):A.units+1<V3:=Nat.lt_of_le_of_lt (Nat.add_le_add_left (by decide:1≤64) _) hr.units
section
variable {X:Cx}
theorem pv (i:Nat) (hN:X.N[i]?=some x:=by rfl) (hv:LO X.env.scope x:=by first | exact Se rfl | exact SI (Se rfl) | exact SI (SI rfl)) (hd:‹41›=false:=by decide)
 (hcd:(x==("__classdict__" : Rf))=false:=by decide):PE X (.Name x pos) (i8 i):=Hj hN hv hd hcd
end
theorem rR {A B:Prop} (h:B):if false=true then A else B:=by rw [if_neg Rn];exact h
theorem uf {A B:Prop} (h:A):if true=true then A else B:=by rw [if_pos rfl];exact h
def bu (H H':Hp):Prop:=∀ b o,H b=some o→H' b=some o
theorem bu.refl (H:Hp):bu H H:=fun _ _ h=>h
variable {H:Hp}
theorem bu.trans {H1 H2:Hp} (a:bu H H1) (b:bu H1 H2):bu H H2:=fun c o h=>b c o (a c o h)
variable {H':Hp} {α:Type} {s:Rb}
theorem bu.free (e:bu H H') {l:Q6} (h:H' l=Zp):H l=Zp:=by
 cases q:H l with
 | none=>rfl
 | some o =>rw [e l o q] at h;cases h
section
variable {X:Cx}
theorem mw:sx X (WL .Mult) (rI Xz fun i j=>.int (i*j)):=Qt fun _ _ _ _ _ _ _ hc q=>mul_int q hc
theorem jw [DecidableEq α] {ns ms:List α} (d:α) (h:ns.length=ms.length):((Rl ns.length).all fun j=>decide (ns.getD j d=ms.getD j d))=decide (ns=ms):=by
 rw [RG,Ry,decide_eq_true_iff];constructor
 ·intro H;refine YG h fun i h1 h2=>?_;have:=of_decide_eq_true (H i (Sa.mpr h1));rw [Rc,Rc,Q8 h1,Q8 h2] at this;exact this
 ·rintro rfl i _;simp
theorem mK [DecidableEq α] {us ws:List Q7} {ns ms:List α} {d:α} (hl:us.length=ns.length) (hl2:ws.length=ms.length)
 (h:∀ (j:Nat) (u v:Q7) (a b:α),us[j]?=some u→ws[j]?=some v→ns[j]?=some a→ms[j]?=some b→Ua A s u v (decide (a=b))) :
 ∀ j (h1:j<us.toArray.size) (h2:j<ws.toArray.size),Ua A s us.toArray[j] ws.toArray[j] (decide (ns.getD j d=ms.getD j d)):=by
 intro j h1 h2;have h1':j<us.length:=by simpa using h1
 have h2':j<ws.length:=by simpa using h2
 have q:=h j us[j] ws[j] ns[j] ms[j] (Q8 h1') (Q8 h2') (Q8 (by lia)) (Q8 (by lia));have e1:ns.getD j d=ns[j]:=by rw [Rc,Q8 (by lia)]; rfl
 have e2:ms.getD j d=ms[j]:=by rw [Rc,Q8 (by lia)]; rfl
 rw [e1,e2];simpa using q
theorem vD [DecidableEq α] [Inhabited α] {l b:Q6} {us ws:List Q7} {ns ms:List α} (p1:s.heap.IsList l us.toArray) (p2:s.heap.IsList b ws.toArray) (hl:us.length=ns.length) (hl2:ws.length=ms.length) (hu:A.units<V3)
 (h:∀ (j:Nat) (u v:Q7) (a b:α),us[j]?=some u→ws[j]?=some v→ns[j]?=some a→ms[j]?=some b→Ua A.in1 s u v (decide (a=b))) :
 SeqAt.RcAt A s (.ref l) (.ref b) (decide (ns=ms)):=by
 by_cases hs:ns.length=ms.length
 ·have q:=SeqAt.RcAt.lists (e:=fun j=>decide ‹53›) p1 p2 (by simp; lia) hu (mK hl hl2 h);have e:((Rl us.toArray.size).all fun j=>decide ‹53›)=decide (ns=ms):=by rw [Rr,hl]; exact jw default hs
  rw [e] at q;exact q
 ·have q:=US p1 p2 (by simp; lia) hu;have e:decide (ns=ms)=false:=decide_eq_false fun z=>hs (by rw [z]);rw [e];exact q
theorem zA [DecidableEq α] [Inhabited α] {l b:Q6} {us ws:List Q7} {ns ms:List α} (p1:s.heap.IsList l us.toArray) (p2:s.heap.IsList b ws.toArray) (hl:us.length=ns.length) (hl2:ws.length=ms.length) (hu:A.units<V3)
 (h:∀ (j:Nat) (u v:Q7) (a b:α),us[j]?=some u→ws[j]?=some v→ns[j]?=some a→ms[j]?=some b→Ua A.in1 s u v (decide (a=b))) :
 Zm A s (.ref l) (.ref b) (!decide (ns=ms)):=by
 by_cases hs:ns.length=ms.length
 ·have q:=SeqAt.RcNeAt.lists (e:=fun j=>decide ‹53›) p1 p2 (by simp; lia) hu (mK hl hl2 h);have e:((Rl us.toArray.size).all fun j=>decide ‹53›)=decide (ns=ms):=by rw [Rr,hl]; exact jw default hs
  rw [e] at q;exact q
 ·have q:=V5 p1 p2 (by simp; lia) hu;have e:decide (ns=ms)=false:=decide_eq_false fun z=>hs (by rw [z]);rw [e];exact q
end
open PySem.W in
theorem BJ (h:YH [WData.list (ns.map VY)]=true):∀ n∈ns,RU n≤1048576:=by
 have w:VU (.list (ns.map VY))≤2 ^ 20:=by unfold YH WData.layable at h;simp only [Vz,List.all_nil,VB,RS,decide_eq_true_eq] at h;exact h.2
 have key:∀ (ms:List Int),∀ n∈ms,RU n≤Xl (ms.map VY):=by
  intro ms;induction ms with
  | nil=>intro n hn; cases hn
  | cons m ms ih =>
   intro n hn;rw [R4,Xl];rcases Ri.mp hn with rfl | hn
   ·have e:VU (.int n)=RU n:=by simp [VU,RU]
    lia
   ·have:=ih n hn;lia
 intro n hn;have q:=key ns n hn;have e:VU (.list (ns.map VY))=Xl (ns.map VY):=by simp [VU]
 rw [e] at w;exact RE q w
theorem F8 {l:YW} {n k:Nat} {q:Sd} {loose:List Rf} {XP:(Rf→Option Q7)→SA→Prop} {YP:Sn→SA→Prop} {d:DefRec} {K:Params→Q2} {CX:Sn→Eu} {sp:Sn→Sp}
 (hn:l.most=some n) (hn2:n≤Q4) (hdf:d.params.defaults=[]) (hr:fk k Yt)
 (hY:∀ (w:Sn) (h:SA),YP w h→(K w.params).In h)
 (F:∀ (w:Sn) (mg:Rf→Option Q7) (fa:Q6) (h:SA),(K w.params).In h→h.Ns SF mg→mg d.name=some (.ref fa) →
  ∃ fd:SM,(∀ (s:Rb) (u:Q7),Yk s fd ⟨[u],[]⟩ [(x,u)]) ∧
   ∀ base:SA,(K w.params).In base→base.Ns SF mg→bQ l.prog w (K w.params) mg base (CX w) k fa fd [x] (sp w))
 (hsp:∀ (w:Sn) (H:Hp) (a:Q6) (ns:List Int),ns.length≤n→(∀ m∈ns,RU m≤1048576)→NN H→mS (K w.params) H a (ns.map V.int)→sp w [.ref a] H (fun v _=>v=.bl true) fun _ _ _=>False)
 (hCX:∀ (w:Sn) (H:Hp) (s:Rb) (e:Q7) (s':Rb),CX w [] H s (fun _ _ _=>False) e s'→False) :
 Zg q loose XP YP l.row.toRowW d [] (fun f vs=>PySem.call f vs):=by
 intro w s₀ s₁ mg mb G Y fa o pm cd doc dV kV ho hd hcd hD hmg hg args vals as hpre hlay hrd hwl hlo;obtain rfl:dV=.none:=PySem.W.Dflts.none hD hdf;obtain rfl:kV=.none:=PySem.W.Dflts.noKw hD;obtain ⟨a,vs,ns,rfl,rfl,hobj,hints,hlen⟩:=Ql.EN hn hpre hwl;have KX:=hY w _ Y;obtain ⟨fd,hb,hF⟩:=F w mg fa _ KX G.T.g hmg;refine PySem.W.enter_call (UH (HV KX G.T.g G.T.b G.T.builtins G.T.nolimit hg hobj hints (RE hlen hn2) hr hF hb (fun H hO hS=>hsp w H a ns hlen (BJ hlay) hO hS) fun H e s'=>hCX w H s₁ e s') fun r s' hq=>?_);obtain ⟨rfl,h2,h3,h4⟩:=hq;exact ⟨.inl ⟨.bool true,.bool true,[],rfl,fun _=>rfl,.bool true,Ql.E5 l _,fun _=>⟨List.Pairwise.nil,fun _ hm=>(nomatch hm)⟩⟩,h2,h3,h4⟩
structure Es (X:Cx) (N':List Rf) (scope:Va) (cl:List (Rf×Q6)) (σ σ0:St):Prop where
 sub:∀ x c,cl.lookup x=some c→X.env.cells.lookup x=some c
 vals:∀ (j:Nat) (x:Rf) (v:V),N'[j]?=some x→σ0[j]?=some (some v)→∃ (i:Nat) (c:Q6),X.N[i]?=some x∧σ[i]?=some (some v)∧LO X.env.scope x∧X.env.kindOf x≠some .local∧cl.lookup x=some c ∧
  ‹23›
 has:∀ x,‹23›→∃ c,cl.lookup x=some c
 len:σ0.length=N'.length
section
variable {prog:Sd} {w:Sn} {A:SG} {R:YC→Rb→Prop} {s:Rb}
theorem Ad {elt target iter:Sv} {ifs:List Sv} {scope:Va} {pos:VJ} {it acc:Q7} {env:XX} (I:Nat→Rb→Prop)
 (turn:∀ n s,I n s→Rv ‹40› A (Zl it) (fun r s₁=>match r with
  | none=>R (.ok .next) s₁
  | some v=>Rv ‹40› A (UX target it v) (fun _ s₀=>Rv ‹40› A (assign target env v) (fun _ s₂ =>
   Rv ‹40› A (forIn ifs true fun c r=>if r=true then do let ok ← isTrue c env (eval c env); pure (SV ok) else pure (SV r)) (fun ok s₃ =>
    if ok=true then Rv ‹40› A (eval elt env) (fun x s₄ =>Rv ‹40› A (call (.builtin "list.append") [acc,x]) (fun _ s₅=>∃ m,m<n∧I m s₅) (fun _ _=>False) s₄) (fun _ _=>False) s₃
    else ∃ m,m<n∧I m s₃) (fun _ _=>False) s₂) (fun _ _=>False) s₀) (fun _ _=>False) s₁) (fun _ _=>False) s)
 (n:Nat) (h:I n s) :
 UG ‹40› A (.compLoop (.ListComp elt [⟨target,iter,ifs,0⟩] scope pos) 0 it acc env) R s:=by
 refine codeAny_loop rfl I (fun n s hI=>?_) n h;show Rv _ A ((compTurn (.ListComp elt [⟨target,iter,ifs,0⟩] scope pos) 0 it acc env).onRaise (fun x=>do TC x env; theTreesLotGoes x)) _ _ s;refine wpAny_noted ?_;rw [compTurn_list];refine Rg (Vy (Rg (SN (turn n s hI) (fun r s₁ h₁=>?_) fun _ _ h'=>h'.elim)));cases r with
 | none=>exact RM h₁
 | some v =>
  refine Rg (SN h₁ (fun _ s₀ h₀=>?_) fun _ _ h'=>h'.elim);refine Rg (SN h₀ (fun _ s₂ h₂=>Rg (SN h₂ (fun ok s₃ h₃=>?_) fun _ _ h'=>h'.elim)) fun _ _ h'=>h'.elim);cases ok with
  | false=>exact RM ⟨rfl,h₃⟩
  | true =>exact Rg (Rg (SN h₃ (fun x s₄ h₄=>Rg (SN h₄ (fun _ s₅ h₅=>RM (RM ⟨rfl,h₅⟩)) fun _ _ h'=>h'.elim)) fun _ _ h'=>h'.elim))
end
noncomputable def LM (J:It) (g:TG) (tt:TT) (te:TE) (σ0:St) (H1:Hp) (Q:VK):Prop:=∀ D,H1 D=none→∃ W:Nat→Nat→List V→Hp→Prop,(∃ m,W 0 m [] (upd H1 D (.lst []))) ∧
 ∀ i m ys H,W i m ys H→(J.stop i H∧H D=some (.lst ys)∧Q (.ref D) H) ∨
  (J.go i H∧∀ x H',J.NR i H x H'→g x σ0 H' fun σ2 H2=>tt σ2 H2 fun c H3 =>
   if c=true then te σ2 H3 fun v H4=>H4 D=some (.lst ys)∧ys.length<Q4∧∃ m',m'<m∧W (i+1) m' (ys++[v]) (upd H4 D (.lst (ys++[v])))
   else ∃ m',m'<m∧W (i+1) m' ys H3)
def BM (g:TG) (σ0:St):Prop:=∀ x H (Q:St→Hp→Prop),g x σ0 H Q→g x σ0 H fun σ2 H2=>Q σ2 H2∧σ2.length=σ0.length∧∀ (j:Nat) v,σ0[j]?=some (some v)→σ2[j]?=some (some v)
section
variable {X:Cx} {tg elt iter:Sv} {ifs:List Sv} {scope:Va} {cl:List (Rf×Q6)} {N':List Rf} {σ0:St→St} {g:TG} {tt:TT} {te:TE}
def vc (wi:TI) (g:TG) (tt:TT) (te:TE) (σ0:St→St):TE:=fun σ H Q=>wi σ H fun J H1=>LM J g tt te (σ0 σ) H1 Q
def Dp:TT:=fun _ H Q=>Q true H
variable {pos:VJ} {wi:TI}
def Dr (t:TE) (i:Nat):TS:=fun D σ H=>t σ H fun x H1=>D.nx (σ.set i (some x)) H1
end
section
variable {X:Cx}
theorem A5 {i:Int} (hg:Gl X x) (hm:∃ t,X.mg x=some (.int i t)) (hd:‹41›=false:=by decide):PE X (.Name x pos) (tC (.int i)):=by obtain ⟨t,e⟩:=hm;exact gB hg e ⟨t,rfl⟩ hd
end
theorem dq:S3 "len" = some (.builtin "len"):=by decide +kernel
theorem eh:S3 "isinstance" = some (.builtin "isinstance"):=by decide +kernel
theorem tD:S3 "sorted" = some (.builtin "sorted"):=by decide +kernel
theorem qH:S3 "all" = some (.builtin "all"):=by decide +kernel
theorem IL:S3 "int" = some (.type "int"):=by decide +kernel
theorem cx {o:HO} (h:H a=none):bu H (upd H a o):=fun b u e=>by rw [a5 (bT e h)];exact e
theorem Paired.mono {α β:Type} {F G:α→β→Prop}:∀ {as:List α} {bs:List β},Ta F as bs→(∀ a b,a∈as→F a b→G a b)→Ta G as bs
 | _,_,.nil,_=>.nil
 | _,_,.cons r t,h=>.cons (h _ _ Q9 r) (Paired.mono t fun a b m=>h a b (Ra _ m))
theorem Paired.append {α β:Type} {F:α→β→Prop}:∀ {as cs:List α} {bs ds:List β},Ta F as bs→Ta F cs ds→Ta F (as++cs) (bs++ds)
 | _,_,_,_,.nil,s=>s
 | _,_,_,_,.cons r t,s=>.cons r (Paired.append t s)
theorem Paired.take {α β:Type} {F:α→β→Prop}:∀ (n:Nat) {as:List α} {bs:List β},Ta F as bs→Ta F (as.take n) (bs.take n)
 | 0,_,_,_=>.nil
 | _+1,_,_,.nil=>.nil
 | n+1,_,_,.cons r t=>.cons r (Paired.take n t)
variable {t:Q6} {items:Array Q7} {env:XX} {o:Option V} {y:V} {u:Q7}
theorem Paired.drop {α β:Type} {F:α→β→Prop}:∀ (n:Nat) {as:List α} {bs:List β},Ta F as bs→Ta F (as.drop n) (bs.drop n)
 | 0,_,_,h=>h
 | _+1,_,_,.nil=>.nil
 | n+1,_,_,.cons _ t=>Paired.drop n t
section
variable {X:Cx} {K:Q2}
theorem fB (h:X.K=K):Pd X (JP K):=by subst h; exact JA
theorem CH (h:X.K=K):sx X (S8 .In) (PX K false):=by subst h; exact E9
theorem a8 {a:Sv} {ta:TE} (h:X.K=K) (ha:PE X a ta) (he:∀ whole,isTrue a X.env whole=(do let v ← whole; W7 a.pos; VS [v] (truthy v))) :
 PT X a (fun σ H Q=>ta σ H fun x H'=>∃ k,C9 K x H' k∧Q k H'):=by subst h; exact Hc ha he
end
section
variable {prog:Sd} {w:Sn} {A:SG} {E:Q7→Rb→Prop}
theorem yj {it t:Q6} {items:Array Q7} (hne:t≠it):∀ (n i:Nat) (s:Rb) (Q:List Q7→Rb→Prop),s.heap.IsListIter it t i→s.heap.IsList t items→i+n≤items.size →
 (∀ h',h'.IsListIter it t (i+n)→Vd it s.heap h'→Q ((items.toList.drop i).take n) { s with heap:=h' })→Rv ‹40› A (draw (.ref it) n) Q E s
 | 0,i,s,Q,hit,_,_,hQ=>by show Rv _ _ (pure []) Q E s;exact RM (by simpa using hQ s.heap hit (Heap.SameBut.refl ..))
 | n+1,i,s,Q,hit,ht,hle,hQ=>by
  have hlt:i<items.size:=by lia
  show Rv _ _ (Zl (.ref it) >>= _) Q E s;refine Rg (W8 hit ht (x:=items[i]) (by simp [hlt]) fun h₁ hit₁ hs₁=>?_);refine Rg (Td (yj hne n (i+1) _ _ hit₁ (ht.extBut hs₁.extBut hne) (by lia) fun h₂ hit₂ hs₂=>RM ?_));have hd:items.toList.drop i=items[i]::items.toList.drop (i+1):=by simp [Sz,hlt]
  have:=hQ h₂ (by rw [show i+(n+1)=i+1+n by lia]; exact hit₂) (hs₁.trans hs₂);rw [hd,List.take_succ_cons] at this;exact this
theorem sC {Q:List Q7→Rb→Prop} (hh:A.handled=none) (ht:s.heap.IsList t items)
 (hQ:∀ h',Heap.ExtBut ‹7› s.heap h'→Q items.toList { s with heap:=h' }):Rv ‹40› A (unpackItems (.ref t) items.size none) Q E s:=by
 have hlt:t≠s.heap.objs.size:=by obtain ⟨o,ho,_⟩:=ht; exact RX (Rm ho)
 unfold unpackItems;refine Rg ?_
 ·unfold notIterableAtAll;refine Rg (wpAny_specialOf ht.typeIs F.slot_list_iter.lookup ?_);refine RM ?_;simp only [Yb,if_false];refine Rg (Td (Vf ht ?_));refine Rg (Td (yj hlt items.size 0 _ _ ⟨_,RI _ rfl,rfl,rfl⟩ (ht.push _) (by lia) fun h₁ hit₁ hs₁=>?_));have hall:List.take items.size (List.drop 0 items.toList)=items.toList:=by rw [V6]; exact TQ (by simp)
  rw [hall];rw [if_neg (by simp)];have ht₁:h₁.IsList t items:=(ht.push _).extBut hs₁.extBut hlt;refine Rg (Td (Xr hh hit₁ ht₁ (by simp) fun h₂ he₂=>?_));simp only [Option.isSome_none,Yb,if_false];refine RM (hQ h₂ fun b o hb e=>he₂ b o hb (hs₁.extBut b o hb (Rk _ e)))
theorem rZ {elts:List Sv} {x1} {pos:VJ} {Q:Unit→Rb→Prop} (hh:A.handled=none) (ht:s.heap.IsList t items)
 (hn:(Ti elts env).length=items.size) (hstar:(Ti elts env).findIdx? (·.1)=none)
 (h:∀ h',Heap.ExtBut ‹7› s.heap h'→Rv ‹40› A (assignInOrder ((Ti elts env).map (·.2)) items.toList) Q E { s with heap:=h' }) :
 Rv ‹40› A (assign (.Tuple elts x1 pos) env (.ref t)) Q E s:=by
 rw [arm_assign_Tuple];refine Rg (Vy ?_);unfold unpack;rw [hn,hstar];exact Rg (Td (sC hh ht h))
end
section
variable {X:Cx} {pos:VJ}
def O0 (K:Q2) (n:Nat) (t:Am):TG:=fun v σ H Q=>∃ a xs,v=.ref a∧mS K H a xs∧xs.length=n∧t xs σ H Q
theorem MC {es:List Sv} {k:Nat} {t:Am} {n:Nat} (hc:X.calm=true) (h:NM X es t)
 (hn:(Ti es X.env).length=n:=by rfl) (hst:(Ti es X.env).findIdx? (·.1)=none:=by rfl):PG X (.Tuple es k pos) (O0 X.K n t):=by
 intro pins s σ H v u Q I r hw;obtain ⟨a,xs,e1,hq,hl,hw⟩:=hw;subst e1;cases r;obtain ⟨its,rv,ht,hz⟩:=I.list hq;refine rZ (I.ok.hd hc) ht.isList (by simp [hn,← hl,rv.length]) hst fun h' hx=>?_;have I1:Inv X pins σ H { s with heap:=h' }:=I.kept (t':=s.toks) fun b o e=>hx b o (RX (Rm e)) e;exact h pins _ σ H xs _ Q I1 (by simpa using rv) hw
end
section
variable {κ:Type} [DecidableEq κ]
def jS (kvs:List (κ×V)) (k:κ):Option V:=(kvs.find? fun kv=>decide (kv.1=k)).map (·.2)
def putK (kvs:List (κ×V)) (k:κ) (v:V):List (κ×V) :=
 if (kvs.any fun kv=>decide (kv.1=k))=true then kvs.map (fun kv=>if kv.1=k then (kv.1,v) else kv) else kvs++[(k,v)]
def rV (kvs:List (κ×V)) (k:κ):List (κ×V):=kvs.filter fun kv=>decide (kv.1≠k)
theorem ll {p:κ×V} {r:List (κ×V)} {k:κ} (e:p.1=k):jS (p::r) k=some p.2:=by simp [jS,Uk,e]
theorem lp {p:κ×V} {r:List (κ×V)} {k:κ} (e:¬ p.1=k):jS (p::r) k=jS r k:=by simp [jS,Uk,e]
theorem u4 (k:κ):∀ kvs:List (κ×V),(kvs.any fun kv=>decide (kv.1=k))=(jS kvs k).isSome
 | []=>rfl
 | p::r=>by
  rw [VA];by_cases e:p.1=k
  ·simp only [ll e,decide_eq_true e,Yu,Yc]
  ·rw [lp e,decide_eq_false e,Uo]; exact u4 k r
theorem tT (kvs:List (κ×V)) (k:κ) (v:V):(putK kvs k v).length≤kvs.length+1:=by
 unfold putK;split
 ·rw [Q5]; lia
 ·rw [Ru,Rt,Tf]; lia
theorem Hb {kvs:List (κ×V)} {k:κ} (v:V) (h:jS kvs k=none):putK kvs k v=kvs++[(k,v)]:=by unfold putK;rw [u4,h];exact if_neg ‹6›
theorem lQ.o9 {u:Option Q7} (r:lQ o u):o.isSome=u.isSome:=by
 cases o with
 | none=>cases u with
  | none=>rfl
  | some _=>exact (show False from r).elim
 | some _=>cases u with
  | none=>exact (show False from r).elim
  | some _=>rfl
theorem lQ.getD {o:Option V} {u:Option Q7} {d:V} {d':Q7} (r:lQ o u) (rd:RelV d d'):RelV (o.getD d) (u.getD d'):=by
 cases o with
 | none=>cases u with
  | none=>exact rd
  | some _=>exact (show False from r).elim
 | some _=>cases u with
  | none=>exact (show False from r).elim
  | some _=>exact r
theorem KV.val {kvs:List (κ×V)} {vs:List (κ×Q7)} (r:KV kvs vs) (k:κ):lQ (jS kvs k) (Wo vs k):=by
 unfold KV at r;induction r with
 | nil=>exact Vr
 | @cons p q ps qs h t ih =>
  obtain ⟨h1,h2⟩:=h;by_cases e:p.1=k
  ·have e':q.1=k:=h1.symm.trans e;have b:Wo (q::qs) k=some q.2:=by simp [Wo,Uk,e']
   rw [ll e,b]; exact h2
  ·have e':¬ q.1=k:=fun z=>e (h1.trans z);have b:Wo (q::qs) k=Wo qs k:=by simp [Wo,Uk,e']
   rw [lp e,b]; exact ih
theorem KV.any {kvs:List (κ×V)} {vs:List (κ×Q7)} (r:KV kvs vs) (k:κ):(kvs.any fun kv=>decide (kv.1=k))=vs.any fun kv=>decide (kv.1=k):=by
 unfold KV at r;induction r with
 | nil=>rfl
 | cons h t ih=>rw [VA,VA,ih,h.1]
theorem KV.Mn {kvs:List (κ×V)} {vs:List (κ×Q7)} (r:KV kvs vs) (k:κ) (ry:RelV y u) :
 KV (kvs.map fun kv=>if kv.1=k then (kv.1,y) else kv) (vs.map fun kv=>if kv.1=k then (kv.1,u) else kv):=by
 unfold KV at r ⊢;induction r with
 | nil=>exact .nil
 | @cons p q ps qs h t ih =>
  rw [R4,R4];refine .cons ?_ ih;obtain ⟨h1,h2⟩:=h;by_cases e:p.1=k
  ·rw [if_pos e,if_pos (h1.symm.trans e)]; exact ⟨h1,ry⟩
  ·rw [if_neg e,if_neg (fun z=>e (h1.trans z))]; exact ⟨h1,h2⟩
theorem KV.put {kvs:List (κ×V)} {vs:List (κ×Q7)} (r:KV kvs vs) (k:κ) (ry:RelV y u):KV (putK kvs k y) (stored vs k u):=by
 unfold putK stored;rw [r.any k];by_cases e:(vs.any fun kv=>decide (kv.1=k))=true
 ·rw [if_pos e,if_pos e]; exact r.Mn k ry
 ·rw [if_neg e,if_neg e]; exact Zq r ⟨rfl,ry⟩
theorem KV.drop {kvs:List (κ×V)} {vs:List (κ×Q7)} (r:KV kvs vs) (k:κ):KV (rV kvs k) (without vs k):=by
 unfold KV at r ⊢;unfold rV without;induction r with
 | nil=>exact .nil
 | @cons p q ps qs h t ih =>
  obtain ⟨h1,h2⟩:=h;rw [YI,YI];by_cases e:p.1=k
  ·have a:¬ decide (p.1≠k)=true:=by simp [e]
   have b:¬ decide (q.1≠k)=true:=by simp [h1.symm.trans e]
   rw [if_neg a,if_neg b]; exact ih
  ·have e':¬ q.1=k:=fun z=>e (h1.trans z);have a:decide (p.1≠k)=true:=by simp [e]
   have b:decide (q.1≠k)=true:=by simp [e']
   rw [if_pos a,if_pos b]; exact .cons ⟨h1,h2⟩ ih
theorem KV.keys {kvs:List (κ×V)} {vs:List (κ×Q7)} (r:KV kvs vs):kvs.map (·.1)=vs.map (·.1):=by
 unfold KV at r;induction r with
 | nil=>rfl
 | cons h t ih=>rw [R4,R4,ih,h.1]
theorem KV.length {kvs:List (κ×V)} {vs:List (κ×Q7)} (r:KV kvs vs):kvs.length=vs.length:=UP r
theorem Bv (kvs:List (κ×V)) (k:κ):(rV kvs k).length≤kvs.length:=List.length_filter_le _ _
end
variable {P:Sd}
theorem tV {w:Sn} {k:Key} (r:RelV (kV k) u):(di P w).is k u=true:=by
 cases k with
 | inl i=>obtain ⟨t,e⟩:=(show ∃ t,u=WJ i t from r); subst e; exact Be P w i t
 | inr x=>obtain ⟨t,e⟩:=(show ∃ t,u=Vn x t from r); subst e; exact og P w x t
theorem yb {P:Sd} {w:Sn}:∀ {ks:List Key} {us:List Q7},Vals (ks.map kV) us→ItemsAre (di P w) ks us
 | [],_,r=>by rw [Xc] at r; cases r; exact .nil
 | k::ks,_,r=>by
  rw [R4] at r;cases r with
  | cons h t=>exact .cons (tV h) (yb t)
abbrev KT (H:Hp):List (List Key×V)→List (List Key×Q6×Q7)→Prop:=Ta fun p q=>p.1=q.1∧H q.2.1=some (.tup (p.1.map kV))∧RelV p.2 q.2.2
theorem KT.val {H:Hp} {kvs:List (List Key×V)} {xs:List (List Key×Q6×Q7)} (r:KT H kvs xs) (k:List Key):lQ (jS kvs k) ((YR xs k).map (·.2)):=by
 induction r with
 | nil=>exact Vr
 | @cons p q ps qs h t ih =>
  obtain ⟨h1,_,h2⟩:=h;by_cases e:p.1=k
  ·have e':q.1=k:=h1.symm.trans e;have b:YR (q::qs) k=some q.2:=by simp [YR,Uk,e']
   rw [ll e,b]; exact h2
  ·have e':¬ q.1=k:=fun z=>e (h1.trans z);have b:YR (q::qs) k=YR qs k:=by simp [YR,Uk,e']
   rw [lp e,b]; exact ih
variable {kvs:List (List Key×V)} {xs:List (List Key×Q6×Q7)}
theorem KT.Mn (r:KT H kvs xs) (k:List Key) (ry:RelV y u) :
 KT H (kvs.map fun kv=>if kv.1=k then (kv.1,y) else kv) (xs.map (putAt k u)):=by
 induction r with
 | nil=>exact .nil
 | @cons p q ps qs h t ih =>
  rw [R4,R4];refine .cons ?_ ih;obtain ⟨h1,h2,h3⟩:=h;unfold putAt;by_cases e:p.1=k
  ·rw [if_pos e,if_pos (h1.symm.trans e)]; exact ⟨h1,h2,ry⟩
  ·rw [if_neg e,if_neg (fun z=>e (h1.trans z))]; exact ⟨h1,h2,h3⟩
theorem KT.put (r:KT H kvs xs) (k:List Key) {b:Q6} (hb:H b=some (.tup (k.map kV))) (ry:RelV y u) :
 KT H (putK kvs k y) (storedH xs k b u):=by
 have e:(kvs.any fun kv=>decide (kv.1=k))=(YR xs k).isSome:=by rw [u4,(r.val k).o9,Wq]
 unfold putK storedH;rw [e];by_cases q:(YR xs k).isSome=true
 ·rw [if_pos q,if_pos q]; exact r.Mn k ry
 ·rw [if_neg q,if_neg q]; exact Zq r ⟨rfl,hb,ry⟩
theorem KT.keeps (r:KT H kvs xs) (ht:∀ b ys,H b=some (.tup ys)→H' b=some (.tup ys)):KT H' kvs xs :=
 Paired.MV r fun _ _ z=>⟨z.1,ht _ _ z.2.1,z.2.2⟩
section
variable {P:Sd} {w:Sn} {H:Hp} {h:SA} {a:Q6}
theorem Lo {u:HO} (ok:pL P w H h) (e:Rd H a u):eF P w H h a u:=e.ok ok
theorem Bw {kvs:List (Key×V)} (ok:pL P w H h) (e:Rd H a (.dK kvs)):kvs.length≤Q4∧(a==Tu)=false∧∃ vs,KV kvs vs∧h.DictOf (di P w) a vs :=
 show eF P w H h a (.dK kvs) from Lo ok e
theorem LK {kvs:List (Key×V)} (ok:pL P w H h) (e:H a=some (.dK kvs)):kvs.length≤Q4∧(a==Tu)=false∧∃ vs,KV kvs vs∧h.DictOf (di P w) a vs:=Bw ok (.inl e)
theorem zQ {ks:List Key} (ok:pL P w H h) (e:H a=some (.tup (ks.map kV))):(XU (di P w)).is h ks a:=by
 obtain ⟨_,its,r,o,h1,h2,n,h3⟩:=(show eF P w H h a (.tup (ks.map kV)) from ok a _ e)
 exact ⟨o,its.toArray,n,h1,h2,h3,by simpa using yb r⟩
theorem Bt (ok:pL P w H h) (e:Rd H a (.dT kvs)):kvs.length≤Q4∧(a==Tu)=false ∧
 ∃ xs,KT H kvs xs∧h.DictOfH (XU (di P w)) a xs:=by
 obtain ⟨z,y,xs,r,o,es,ep,h1,h2,h3,h4,h5⟩:=(show eF P w H h a (.dT kvs) from Lo ok e)
 refine ⟨z,y,xs,r,o,es,ep,h1,h2,h3,h4,fun x hx=>?_,h5⟩
 have all:∀ {l:List (List Key×V)} {m:List (List Key×Q6×Q7)},KT H l m→∀ x∈m,(XU (di P w)).is h x.1 x.2.1:=by
  intro l m q;induction q with
  | nil=>intro x hx; exact nomatch hx
  | @cons p q ps qs hq t ih =>
   intro x hx;rcases Ri.mp hx with e | hx
   ·subst e;exact zQ ok (by rw [← hq.1]; exact hq.2.1)
   ·exact ih x hx
 exact all r x hx
theorem O3 (ok:pL P w H h) (e:H a=some (.dT kvs)):kvs.length≤Q4∧(a==Tu)=false ∧
 ∃ xs,KT H kvs xs∧h.DictOfH (XU (di P w)) a xs:=Bt ok (.inl e)
end
def xD (H:Hp) (a:Q6) (y:V) (r:Option V):Prop :=
 (∃ kvs k,Rd H a (.dK kvs)∧y=kV k∧r=jS kvs k)∨∃ kvs k b,Rd H a (.dT kvs)∧y=.ref b∧H b=some (.tup (k.map kV))∧r=jS kvs k
noncomputable def IX (H:Hp) (a:Q6) (y v:V) (H':Hp):Prop :=
 (∃ kvs k,H a=some (.dK kvs)∧y=kV k∧kvs.length<Q4∧H'=upd H a (.dK (putK kvs k v))) ∨
 ∃ kvs k b,H a=some (.dT kvs)∧y=.ref b∧H b=some (.tup (k.map kV))∧kvs.length<Q4∧H'=upd H a (.dT (putK kvs k v))
theorem xD.k {H:Hp} {a:Q6} {kvs:List (Key×V)} {k:Key} (e:H a=some (.dK kvs)):xD H a (kV k) (jS kvs k):=.inl ⟨kvs,k,.inl e,rfl,rfl⟩
variable {Q:Q7→Rb→Prop} {h':SA}
theorem IX.k {H:Hp} {a:Q6} {kvs:List (Key×V)} {k:Key} {v:V} (e:H a=some (.dK kvs)) (hl:kvs.length<Q4):IX H a (kV k) v (upd H a (.dK (putK kvs k v))):=.inl ⟨kvs,k,e,rfl,hl,rfl⟩
section
variable {X:Cx} {pins:List (Q6×TK)} {σ:St} {H:Hp} {s:Rb} {a:Q6} {y v:V} {u r:Q7} {o:Option V} {A:SG} {E:Q7→Rb→Prop}
theorem Inv.big (I:Inv X pins σ H s):Tu<s.heap.objs.size:=by have h:SF<s.heap.objs.size:=(I.mod.glob.keeps I.bk).lt;exact S5 ‹6› h
theorem FG (hu:A.units+1<V3) (I:Inv X pins σ H s) (g:xD H a y (some v)) (ry:RelV y u) (h:∀ w' s',Inv X pins σ H s'→RelV v w'→Q w' s') :
 Rv ‹3› A (Yr (.ref a) u) Q E s:=by
 rcases g with ⟨kvs,k,e,ey,l⟩ | ⟨kvs,k,b,e,ey,eb,l⟩
 ·subst ey;obtain ⟨z,hd,vs,rel,dd⟩:=Bw I.dm e;obtain ⟨w',hw,rw'⟩:=lQ.some_of (v:=v) (o:=Wo vs k) (by rw [l]; exact rel.val k);exact wpAny_getItem_of (tV ry) dd.mapOf hw (h w' _ (I.tok _) rw')
 ·subst ey;cases (show u=RQ b from ry);obtain ⟨z,hd,xs,rel,dd⟩:=Bt I.dm e;obtain ⟨w',hw,rw'⟩:=lQ.some_of (v:=v) (o:=(YR xs k).map (·.2)) (by rw [l]; exact rel.val k);obtain ⟨p,hp,hp2⟩:=S9.mp hw;refine wpAny_getItem_heap (V7 hu) (zQ I.dm eb) dd hp ?_;rw [hp2];exact h w' _ (I.tok _) rw'
theorem KJ (hu:A.units+1<V3) (I:Inv X pins σ H s) (g:xD H a y o) (ry:RelV y u) (h:∀ s',Inv X pins σ H s'→Q (.bool (!o.isSome)) s') :
 Rv ‹3› A (S8 .NotIn u (.ref a)) Q E s:=by
 rcases g with ⟨kvs,k,e,ey,l⟩ | ⟨kvs,k,b,e,ey,eb,l⟩
 ·subst ey;obtain ⟨z,hd,vs,rel,dd⟩:=Bw I.dm e;refine wpAny_notIn_of (tV ry) hd dd.mapOf ?_;rw [← (rel.val k).o9,← l];exact h _ (I.tok _)
 ·subst ey;cases (show u=RQ b from ry);obtain ⟨z,hd,xs,rel,dd⟩:=Bt I.dm e;refine wpAny_notIn_heap (V7 hu) (zQ I.dm eb) hd dd ?_;have q:=(rel.val k).o9;rw [Wq] at q;rw [← q,← l];exact h _ (I.tok _)
theorem Ac {t':Nat} {ob:HO} (I:Inv X pins σ H s) (mu:Pl (H a)) (hs:Vd a s.heap h') (he:∃ q,h'.get? a=some q) (new:eF X.prog X.w (upd H a ob) h' a ob) :
 Inv X pins σ (upd H a ob) { s with heap:=h',toks:=t' } :=
 I.write (x:=a) (e:=a) mu (.inl rfl) (fun b q hb z=>(hs.2 b hb).trans z) he new
theorem IC {w:Sn} {kvs:List (Key×V)} {vs:List (Key×Q7)} (z:kvs.length≤Q4) (hd:(a==Tu)=false) (rel:KV kvs vs) (dd:h'.DictOf (di P w) a vs) :
 eF P w H' h' a (.dK kvs):=⟨z,hd,vs,rel,dd⟩
theorem FF {Q:Unit→Rb→Prop} (hu:A.units+1<V3) (I:Inv X pins σ H s) (g:IX H a y v H') (ry:RelV y u) (rv:RelV v r) (h:∀ s',Inv X pins σ H' s'→Q () s') :
 Rv ‹3› A (setItem (.ref a) u r) Q E s:=by
 rcases g with ⟨kvs,k,e,ey,l,eH⟩ | ⟨kvs,k,b,e,ey,eb,l,eH⟩
 ·subst ey eH;obtain ⟨z,hd,vs,rel,dd⟩:=LK I.dm e;have hz:vs.length≤Q4:=by rw [← rel.length]; exact z
  have hl:(putK kvs k v).length≤Q4:=by have:=tT kvs k v; lia
  refine wpAny_setItem_pairs (hsz:=hz) (tV ry) dd fun h' dd' hs=>h _ ?_;have he:∃ q,h'.get? a=some q:=let ⟨q,_,_,hq,_⟩:=dd'; ⟨q,hq⟩
  exact Ac I (by rw [e]; exact Vr) hs he (IC hl hd (rel.put k rv) dd')
 ·subst ey eH;cases (show u=RQ b from ry);obtain ⟨z,hd,xs,rel,dd⟩:=O3 I.dm e;have hz:xs.length≤Q4:=by rw [← UP rel]; exact z
  have hl:(putK kvs k v).length≤Q4:=by have:=tT kvs k v; lia
  refine wpAny_setItem_heap (hsz:=hz) (V7 hu) (zQ I.dm eb) dd fun h' dd' hs=>h _ ?_;obtain ⟨q,es,ep,hq,h2,h3,h4,_,h5⟩:=dd';refine Ac I (by rw [e]; exact Vr) hs ⟨q,hq⟩ ⟨hl,hd,_,(rel.put k eb rv).keeps fun c ys ec=>?_,q,es,ep,hq,h2,h3,h4,h5⟩;rw [a5 (OE ec e (fun z=>nomatch z))];exact ec
end
section
variable {X:Cx} {pins:List (Q6×TK)} {σ:St} {H:Hp} {s:Rb} {a:Q6} {kvs:List (Key×V)} {k:Key} {u:Q7} {A:SG} {E:Q7→Rb→Prop}
theorem O4 {v:V} {more:List Q7} (I:Inv X pins σ H s) (e:H a=some (.dK kvs)) (ry:RelV (kV k) u) (l:jS kvs k=some v) (hm:more=[]∨∃ x,more=[x])
 (h:∀ w' s',Inv X pins σ (upd H a (.dK (rV kvs k))) s'→RelV v w'→Q w' s'):Rv ‹3› A (call (.builtin "dict.pop") (.ref a::u::more)) Q E s:=by
 obtain ⟨z,hd,vs,rel,dd⟩:=LK I.dm e;obtain ⟨w',hw,rw'⟩:=lQ.some_of (v:=v) (o:=Wo vs k) (by rw [← l]; exact rel.val k)
 have hp:(keyPart u).isSome=true:=by
  cases k with
  | inl i=>obtain ⟨t,q⟩:=(show ∃ t,u=WJ i t from ry); subst q; rfl
  | inr x=>obtain ⟨t,q⟩:=(show ∃ t,u=Vn x t from ry); subst q; rfl
 have ha:argsOk "dict.pop" ⟨.ref a::u::more,[]⟩:=by
  rcases hm with q | ⟨x,q⟩
  ·subst q; exact PySem.F.args_dict_pop_2 _ _
  ·subst q; exact PySem.F.args_dict_pop_3 _ _ _
 refine call_meetsIn Xs dd.typeIs PySem.F.entry_dict_pop ha (meets_dict_pop_there (di X.prog X.w) a (tV ry) more hm hp)
  ⟨vs,w',dd,by rw [← rel.length]; exact z,hw,fun h' dd' hs=>h w' _ ?_ rw'⟩
 have he:∃ q,h'.get? a=some q:=let ⟨q,_,_,hq,_⟩:=dd'; ⟨q,hq⟩
 exact Ac I (by rw [e]; exact Vr) hs he (IC (RE (Bv kvs k) z) hd (rel.drop k) dd')
end
def NO (i:Sv):Prop:=∀ ov iv,XC i false ov iv=operate [ov,iv] (Yr ov iv)
theorem Dw {prog:Sd} {w:Sn} {E:Q7→Rb→Prop} {value slice:Sv} {T id:String}
 (hl:typeLookup (.type T) "__getitem__" = pure (some (.builtin id))) (hs:NO slice)
 (h:Rv ‹40› A (eval value env) (fun o s₁=>Rv ‹40› A (eval slice env) (fun i s₂=>s₂.TypeIs o T∧Rv ‹40› A (Yr o i) Q E s₂) E s₁) E s) :
 Rv ‹40› A (eval (.Subscript value slice pos) env) Q E s:=by
 refine Y6 (SN h (fun o s₁ h₁=>SN h₁ (fun i s₂ h₂=>?_) fun _ _ x=>x) fun _ _ x=>x);obtain ⟨hT,h₂⟩:=h₂;unfold X2;refine Rg ?_;rw [getitemInPython_of_ne hT.not_modules];refine Rg (wpAny_specialOf hT hl ?_);have fin:Rv ‹40› A (XC slice false o i) (fun r s₃=>Rv ‹40› A (letTemporaryGo value o r >>= fun _=>pure r) Q E s₃) E s₂:=by rw [hs o i];exact wpAny_operating (SN h₂ (fun r s₃ h₃=>Rg (wpAny_letTemporaryGo (RM h₃))) fun _ _ x=>x)
 first
  | exact RM (Rg fin)
  | exact Rg (RM (Rg fin))
  | exact Rg fin
variable {pins:List (Q6×TK)} {σ:St}
theorem Bz (I:Inv X pins σ H s) (g:xD H a y o):s.TypeIs (.ref a) "dict" := by
 rcases g with ⟨kvs,k,e,_,_⟩ | ⟨kvs,k,b,e,_,_,_⟩
 ·obtain ⟨_,_,vs,_,dd⟩:=Bw I.dm e;exact dd.typeIs
 ·obtain ⟨_,_,xs,_,dd⟩:=Bt I.dm e;exact dd.typeIs
def Ld (td ty:TE):TE:=fun σ H Q=>td σ H fun x H1=>ty σ H1 fun y H2=>∃ a v,x=.ref a∧xD H2 a y (some v)∧Q v H2
def Du (ty td:TE):TE:=fun σ H Q=>ty σ H fun y H1=>td σ H1 fun x H2=>∃ a o,x=.ref a∧xD H2 a y o∧Q (.bl (!o.isSome)) H2
def Lm (td ty tv:TE):TS:=fun D σ H=>tv σ H fun v H1=>td σ H1 fun x H2=>ty σ H2 fun y H3=>∃ a H4,x=.ref a∧IX H3 a y v H4∧D.nx σ H4
section
variable {X:Cx} {o i e value:Sv} {pos pos' tpos:VJ} {td ty tv:TE}
theorem uF (hu:X.A.units+1<V3) (ho:PE X o td) (hi:PE X i ty) (hs:NO i):PE X (.Subscript o i pos) (Ld td ty):=by intro pins s σ H Q I h;refine Dw Wg.lookup hs (cP (ho pins s σ H _ I h) fun u s1 ⟨x,H1,I1,rx,q1⟩=>cP (hi pins s1 σ H1 _ I1 q1) fun iv s2 ⟨y,H2,I2,ry,a,v,ex,g,q2⟩=>?_);subst ex;obtain rfl:u=RQ a:=rx;exact ⟨Bz I2 g,FG hu I2 g ry fun w' s3 I3 rw'=>⟨v,H2,I3,rw',q2⟩⟩
theorem lF (hu:X.A.units+1<V3) (hi:PE X i ty) (ho:PE X o td):PC X .NotIn i o (Du ty td):=by intro pins s σ H Q I h;refine cP (hi pins s σ H _ I h) fun iv s1 ⟨y,H1,I1,ry,q1⟩=>cP (ho pins s1 σ H1 _ I1 q1) fun u s2 ⟨x,H2,I2,rx,a,ov,ex,g,q2⟩=>?_;subst ex;obtain rfl:u=RQ a:=rx;exact KJ hu I2 g ry fun s3 I3=>⟨.bl (!ov.isSome),H2,I3,rfl,q2⟩
theorem JS (hu:X.A.units+1<V3) (ho:PE X o td) (hi:PE X i ty) (hv:PE X value tv) (hs:Ul value (some (.Subscript o i pos')) pos.line X.env=pure false) :
 PS X (.Assign [.Subscript o i pos'] value pos) (Lm td ty tv):=by
 intro pins s σ H D I h;refine wpAny_Assign_Subscript (cP (hv pins s σ H _ I h) fun r s1 ⟨v,H1,I1,rv,q1⟩=>cP (ho pins s1 σ H1 _ I1 q1) fun u s2 ⟨x,H2,I2,rx,q2⟩=>cP (hi pins s2 σ H2 _ I2 q2) fun iv s3 ⟨y,H3,I3,ry,a,H4,ex,g,q3⟩=>?_) hs;subst ex;obtain rfl:u=RQ a:=rx;exact FF hu I3 g ry rv fun s4 I4=>⟨σ,H4,I4,q3⟩
end
theorem ID {w:Sn} (h:SA) (hb:Tu<h.objs.size):eF P w H (h.push { cls:=.type "dict", data:=.dict #[] }) h.objs.size (.dK []) :=
 ⟨Th _,beq_eq_false_iff_ne.mpr (S6 (RX hb)),[],.nil,Heap.DictOf.new h⟩
def Gq:TE:=fun _ H Q=>∀ p,H p=none→Q (.ref p) (upd H p (.dK []))
section
variable {X:Cx} {pos:VJ}
theorem Hr:PE X (.Dict [] [] pos) Gq:=fun pins s σ H Q I h =>wpAny_Dict_empty ⟨.ref ‹7›,_,I.laid (a:=‹7›) (o:=.dK []) (t':=s.toks) (fun _ _ q=>Rk _ q) (Rq _) (ID s.heap I.big),rfl,h _ (I.dm.fresh (Rq _))⟩
end
structure M1 (X:Cx) (o:Sv) (m:Rf) (apos:VJ) (e:Sv) (cpos:VJ):Prop where
 base:WB o m X.env (eval o X.env)=eval o X.env
 QB:((TN cpos (RH [e] X.env)).all (fun x=>!x.1)&&(WQ cpos (U4 [] X.env)).all (fun x=>x.1.isSome)
  && decide (([e]:List Sv).length+([]:List Keyword).length+(if ([]:List Keyword).isEmpty then 0 else 1)<30))=true
 line:(apos.endLine==cpos.line)=true
 trees:TN cpos (RH [e] X.env)=[(false,eval e X.env)]
def QL (H:Hp) (a:Q6):Prop:=(∃ kvs,Rd H a (.dK kvs))∨∃ kvs,Rd H a (.dT kvs)
theorem Nf (I:Inv X pins σ H s) (d:QL H a) :
 s.TypeIs (.ref a) "dict" ∧ (∀ b,RQ a=.ref b→∃ ob,s.heap.get? b=some ob∧ob.dict=none)∧(a==Tu)=false:=by
 rcases d with ⟨kvs,e⟩ | ⟨kvs,e⟩
 ·obtain ⟨_,hd,vs,_,dd⟩:=Bw I.dm e;refine ⟨dd.typeIs,fun b q=>?_,hd⟩;cases q;obtain ⟨ob,_,_,h1,h2,_⟩:=dd;exact ⟨ob,h1,h2.2.1⟩
 ·obtain ⟨_,hd,xs,_,dd⟩:=Bt I.dm e;refine ⟨dd.typeIs,fun b q=>?_,hd⟩;cases q;obtain ⟨ob,_,_,h1,h2,_⟩:=dd;exact ⟨ob,h1,h2.2.1⟩
def Gp (td ty:TE):TE:=fun σ H Q=>td σ H fun x H1=>∃ a,x=.ref a∧QL H1 a∧ty σ H1 fun y H2=>∃ kvs k v,H2 a=some (.dK kvs)∧y=kV k∧jS kvs k=some v∧Q v (upd H2 a (.dK (rV kvs k)))
section
variable {X:Cx} {o e f:Sv} {apos cpos:VJ} {td ty tx:TE}
theorem Ho (ho:PE X o td) (he:PE X e ty) (m:M1 X o "pop" apos e cpos):PE X (.Call (.Attribute o "pop" apos) [e] [] cpos) (Gp td ty):=by intro pins s σ H Q I h;refine wpAny_Call_method m.base m.QB m.line WR Xs PySem.F.type_dict_pop (cP (ho pins s σ H _ I h) fun u s1 ⟨x,H1,I1,rx,a,ex,d,q1⟩=>?_);subst ex;obtain rfl:u=RQ a:=rx;obtain ⟨t1,t2,_⟩:=Nf I1 d;refine ⟨t1,t2,?_⟩;rw [m.trees];refine Vh rfl (Uz (V4 (cP (he pins s1 σ H1 _ I1 q1) fun iv s2 ⟨y,H2,I2,ry,kvs,k,v,ea,ey,l,q2⟩=>Wn ?_)));subst ey;exact O4 I2 ea ry l (.inl rfl) fun w' s3 I3 rw'=>⟨v,_,I3,rw',q2⟩
end
end L2
namespace Tm
open PySem PyProof.Rows
section pure
variable {α:Type} {C:α→α→Bool}
def Le (C:α→α→Bool) (x y:α):Prop:=C y x=false
abbrev Pc (C:α→α→Bool) (l:List α):Prop:=l.Pairwise (Le C)
structure ML (C:α→α→Bool) (L out A B:List α):Prop where
 so:Pc C out
 oa:∀ x∈out,∀ y∈A,Le C x y
 ob:∀ x∈out,∀ y∈B,Le C x y
 pm:(out++(A++B)).Perm L
 sa:Pc C A
 sb:Pc C B
end pure
section
variable {C:UA→UA→Bool}
variable {M:Zk} {A:SG} {E:Q7→Rb→Prop} {s:Rb} {κ:SortKind} {G:UA→Prop}
structure MA (C:UA→UA→Bool) (a b out:Array UA) (ia ib:Nat):Prop where
 ml:ML C (a.toList++b.toList) out.toList (a.toList.drop ia) (b.toList.drop ib)
 la:ia≤a.size
 lb:ib≤b.size
end
section
variable {M:Zk} {A:SG} {E:Q7→Rb→Prop} {s:Rb} {κ:SortKind} {G:UA→Prop} {C:UA→UA→Bool} {a b out:Array UA} {ia ib mg k k1 ac bc n:Nat} {st:SortSt}
def KL (C:UA→UA→Bool) (a b out:Array UA) (ia ib:Nat):Prop:=MA C a b out ia ib∧ia+1<a.size∧ib<b.size
end
def gk (xs:Array UA) (i:Nat):UA:=xs[i]?.getD (.none,.none)
def Up (C:UA→UA→Bool) (xs:Array UA) (lo hi:Nat):Prop:=∀ i j,lo≤i→i≤j→j<hi→Le C (gk xs i) (gk xs j)
def Good (G:UA→Prop) (a₀:Array UA):Prop:=∀ x∈a₀.toList,G x
end Tm
set_option pp.maxSteps 1000000
set_option pp.deepTerms true
namespace Tm
open PySem PyProof.Rows
section
variable {C:UA→UA→Bool}
theorem Cf {α:Type} {l:List α} {i:Nat} (h:i+1<l.length):∃ L1 a b L2,l=L1++a::b::L2∧L1.length=i:=by
 refine ⟨l.take i,l[i],l[i+1],l.drop (i+2),?_,by rw [Vt]; lia⟩
 conv=>lhs; rw [← List.take_append_drop i l,Sz (by lia),Sz (by lia)]
variable {M:Zk} {A:SG} {E:Q7→Rb→Prop} {s:Rb} {κ:SortKind} {G:UA→Prop} {a₀:Array UA}
end
end Tm
namespace VL
variable {Z:Q6→Prop} {H:Hp} {T:Q6→Prop} {ks:List Rf} {o:List Q6} {α:Type} {vs:List V} {C:Int→Int→Prop}
open PySem L2
section
open Classical
inductive D where
 | non | bl (b:Bool) | int (i:Int) | str (x:Rf) | ty (n:String)
 | lst (xs:List D) | tup (xs:List D) | ins (C:Q6) | scr (ns:List Int) | dct (kvs:List (Int×Int)) | dsk (C:Q6) (ks:List Rf) (ds:List D)
def Pw (p:Int×Int):Key×V:=(.inl p.1,.int p.2)
abbrev No:Q6→Prop:=fun _=>False
def KL (K:Q2) (a:Q6) (xs:List V):Prop :=
 ∃ (o:TK) (its:Array Q7) (n:Nat),K.lookup a=some o∧o.cls=.type "list" ∧ o.dict=none∧o.data=.seq its n∧its.size≤Q4∧Vals xs its.toList
mutual
inductive Is (K:Q2) (H:Hp) (Z:Q6→Prop):V→D→Prop
 | non:Is K H Z .non .non
 | bl (b:Bool):Is K H Z (.bl b) (.bl b)
 | int (i:Int):Is K H Z (.int i) (.int i)
 | str (x:Rf):Is K H Z (.str x) (.str x)
 | ty (n:String):Is K H Z (.ty n) (.ty n)
 | lst {a:Q6} {vs:List V} {ds:List D} (hz:¬ Z a) (h:Rd H a (.lst vs)) (hl:vs.length≤Q4) (r:IsL K H Z vs ds):Is K H Z (.ref a) (.lst ds)
 | tup {a:Q6} {vs:List V} {ds:List D} (hz:¬ Z a) (h:H a=some (.tup vs)) (hl:vs.length≤Q4) (r:IsL K H Z vs ds):Is K H Z (.ref a) (.tup ds)
 | ins {a C dx:Q6} (hz:¬ Z a) (h:H a=some (.ins C dx [])):Is K H Z (.ref a) (.ins C)
 | dct {a:Q6} {kvs:List (Int×Int)} (hz:¬ Z a) (h:Rd H a (.dK (kvs.map Pw))) (hl:kvs.length≤Q4):Is K H Z (.ref a) (.dct kvs)
 | dsk {a C dx p:Q6} {kvs:List (Key×V)} {ks:List Rf} {ds:List D} (hz:¬ Z a) (hy:¬ Z p) (h:H a=some (.ins C dx [("floors", .ref p)])) (hp:H p=some (.dK kvs)) (hk:kvs.map (·.1)=ks.map R1) (hl:kvs.length≤1000) (r:IsL K H Z (kvs.map (·.2)) ds):Is K H Z (.ref a) (.dsk C ks ds)
 | scr {a:Q6} {ns:List Int} (hz:¬ Z a) (h:Rd H a (.lst (ns.map V.int))) (hl:ns.length≤Q4):Is K H Z (.ref a) (.scr ns)
 | scrK {a:Q6} {ns:List Int} (h:KL K a (ns.map V.int)) (hl:ns.length≤Q4):Is K H Z (.ref a) (.scr ns)
inductive IsL (K:Q2) (H:Hp) (Z:Q6→Prop):List V→List D→Prop
 | nil:IsL K H Z [] []
 | cons {v:V} {d:D} {vs:List V} {ds:List D} (h:Is K H Z v d) (r:IsL K H Z vs ds):IsL K H Z (v::vs) (d::ds)
end
def Kp (Z:Q6→Prop) (H:Hp) (Z':Q6→Prop) (H':Hp):Prop:=∀ a o,H a=some o→¬ Z a→H' a=some o∧¬ Z' a
theorem Kp.refl:Kp Z H Z H:=fun _ _ h z=>⟨h,z⟩
theorem Kp.trans {Z1 Z2:Q6→Prop} {H1 H2:Hp} (a:Kp Z H Z1 H1) (b:Kp Z1 H1 Z2 H2):Kp Z H Z2 H2:=fun c o h z=>b c o (a c o h z).1 (a c o h z).2
theorem Kp.same {H':Hp} (s:bu H H'):Kp Z H Z H':=fun _ _ h z=>⟨s _ _ h,z⟩
theorem Kp.less {Z':Q6→Prop} (h:∀ a,Z' a→Z a):Kp Z H Z' H:=fun a _ e z=>⟨e,fun q=>z (h a q)⟩
theorem Rd.kp {Z':Q6→Prop} {H':Hp} {a:Q6} {u:HO} (k:Kp Z H Z' H') (hz:¬ Z a) (h:Rd H a u):Rd H' a u∧¬ Z' a:=by
 rcases h with h | ⟨o,h⟩
 ·exact ⟨.inl (k _ _ h hz).1,(k _ _ h hz).2⟩
 ·exact ⟨.inr ⟨o,(k _ _ h hz).1⟩,(k _ _ h hz).2⟩
mutual
theorem Is.kp {Z Z':Q6→Prop} {H H':Hp} (k:Kp Z H Z' H'):∀ {v:V} {d:D},Is K H Z v d→Is K H' Z' v d
 | _,_,.non=>.non
 | _,_,.bl b=>.bl b
 | _,_,.int b=>.int b
 | _,_,.str b=>.str b
 | _,_,.ty b=>.ty b
 | _,_,.lst hz h hl r=>.lst (Rd.kp k hz h).2 (Rd.kp k hz h).1 hl (IsL.kp k r)
 | _,_,.tup hz h hl r=>.tup (k _ _ h hz).2 (k _ _ h hz).1 hl (IsL.kp k r)
 | _,_,.ins hz h=>.ins (k _ _ h hz).2 (k _ _ h hz).1
 | _,_,.dct hz h hl=>.dct (Rd.kp k hz h).2 (Rd.kp k hz h).1 hl
 | _,_,.dsk hz hy h hp hk hl r=>.dsk (k _ _ h hz).2 (k _ _ hp hy).2 (k _ _ h hz).1 (k _ _ hp hy).1 hk hl (IsL.kp k r)
 | _,_,.scr hz h hl=>.scr (Rd.kp k hz h).2 (Rd.kp k hz h).1 hl
 | _,_,.scrK h hl=>.scrK h hl
theorem IsL.kp {Z Z':Q6→Prop} {H H':Hp} (k:Kp Z H Z' H'):∀ {v:List V} {d:List D},IsL K H Z v d→IsL K H' Z' v d
 | _,_,.nil=>.nil
 | _,_,.cons h r=>.cons (Is.kp k h) (IsL.kp k r)
end
theorem Is.same {Z:Q6→Prop} {H H':Hp} {v:V} {d:D} (h:Is K H Z v d) (s:bu H H'):Is K H' Z v d:=h.kp (Kp.same s)
theorem IsL.same {Z:Q6→Prop} {H H':Hp} {v:List V} {d:List D} (h:IsL K H Z v d) (s:bu H H'):IsL K H' Z v d:=h.kp (Kp.same s)
theorem Is.all {v:V} {d:D} (h:Is K H Z v d):Is K H No v d:=h.kp (Kp.less fun _ z=>z.elim)
theorem IsL.all {v:List V} {d:List D} (h:IsL K H Z v d):IsL K H No v d:=h.kp (Kp.less fun _ z=>z.elim)
def D.pB:D→Bool
 | .lst _=>false
 | .tup _=>false
 | .ins _=>false
 | .scr _=>false
 | .dct _=>false
 | .dsk _ _ _=>false
 | _=>true
theorem Is.pB {Z Z':Q6→Prop} {H H':Hp} {v:V} {d:D} (h:Is K H Z v d) (e:d.pB=true):Is K H' Z' v d:=by
 cases h with
 | non=>exact .non
 | bl b=>exact .bl b
 | int b=>exact .int b
 | str b=>exact .str b
 | ty b=>exact .ty b
 | lst _ _ _ _=>cases e
 | tup _ _ _ _=>cases e
 | ins _ _=>cases e
 | dct _ _ _=>cases e
 | dsk _ _ _ _ _ _ _=>cases e
 | scr _ _ _=>cases e
 | scrK _ _=>cases e
section
variable {H:Hp} {Z:Q6→Prop}
theorem IsL.paired:∀ {vs:List V} {ds:List D},IsL K H Z vs ds→Ta (Is K H Z) vs ds
 | _,_,.nil=>.nil
 | _,_,.cons h r=>.cons h (IsL.paired r)
theorem IsL.of:∀ {vs:List V} {ds:List D},Ta (Is K H Z) vs ds→IsL K H Z vs ds
 | _,_,.nil=>.nil
 | _,_,.cons h r=>.cons h (IsL.of r)
theorem IsL.length {vs:List V} {ds:List D} (h:IsL K H Z vs ds):vs.length=ds.length:=UP h.paired
theorem IsL.get:∀ {vs:List V} {ds:List D} {i:Nat} {d:D},IsL K H Z vs ds→ds[i]?=some d→∃ v,vs[i]?=some v∧Is K H Z v d
 | _,_,0,_,.cons h _,e=>by cases e; exact ⟨_,rfl,h⟩
 | _,_,i+1,_,.cons _ r,e=>by obtain ⟨v,e1,h1⟩:=IsL.get (i:=i) r (by simpa using e);exact ⟨v,by simpa using e1,h1⟩
theorem IsL.append {vs us:List V} {ds es:List D} (a:IsL K H Z vs ds) (b:IsL K H Z us es):IsL K H Z (vs++us) (ds++es):=.of (Paired.append a.paired b.paired)
theorem IsL.take (n:Nat) {vs:List V} {ds:List D} (a:IsL K H Z vs ds):IsL K H Z (vs.take n) (ds.take n):=.of (Paired.take n a.paired)
theorem IsL.drop (n:Nat) {vs:List V} {ds:List D} (a:IsL K H Z vs ds):IsL K H Z (vs.drop n) (ds.drop n):=.of (Paired.drop n a.paired)
theorem IsL.set {v:V} {d:D} (q:Is K H Z v d):∀ {vs:List V} {ds:List D} (n:Nat),IsL K H Z vs ds→IsL K H Z (vs.set n v) (ds.set n d)
 | _,_,_,.nil=>.nil
 | _,_,0,.cons _ r=>.cons q r
 | _,_,n+1,.cons h r=>.cons h (IsL.set q n r)
theorem IsL.one {v:V} {d:D} (q:Is K H Z v d):IsL K H Z [v] [d]:=.cons q .nil
theorem IsL.ints:∀ {vs:List V} {ns:List Int},IsL K H Z vs (ns.map D.int)→vs=ns.map V.int
 | _,[],.nil=>rfl
 | _,n::ns,.cons (.int _) r=>by rw [IsL.ints (ns:=ns) r]; rfl
theorem IsL.ofInts:∀ (ns:List Int),IsL K H Z (ns.map V.int) (ns.map D.int)
 | []=>.nil
 | n::ns=>.cons (.int n) (IsL.ofInts ns)
end
inductive Sl where
 | un | pu (d:D) | bo (d:D) | ol (ds:List D) | om (rows:List (List D)) | od (kvs:List (Int×Int))
 | pm (a:Q6) (ps:List Q6) (rows:List (List D)) | pd (a:Q6) (kvs:List (Int×Int))
 | dk (C:Q6) (ks:List Rf) (ds:List D) | pk (x dx p C:Q6) (ks:List Rf) (ds:List D) | bk (C:Q6) (ks:List Rf) (ds:List D)
abbrev aU:=List Sl
abbrev Own:=Nat→List Q6
def cE (Z:Q6→Prop) (os:Own):Q6→Prop:=fun a=>Z a∨∃ i,a∈os i
noncomputable def BP (K:Q2) (H:Hp) (T:Q6→Prop) (x dx p C:Q6) (ks:List Rf) (ds:List D):Prop :=
 H x=some (.ins C dx [("floors", .ref p)])∧H dx=some (.own x)∧∃ kvs,H p=some (.dK kvs)∧kvs.map (·.1)=ks.map R1∧kvs.length≤1000∧IsL K H T (kvs.map (·.2)) ds
theorem BP.is {x dx p C:Q6} {ds:List D} (h:BP K H T x dx p C ks ds):Is K H No (.ref x) (.dsk C ks ds):=by obtain ⟨h1,_,kvs,h2,h3,h4,h5⟩:=h;exact .dsk (fun z=>z) (fun z=>z) h1 h2 h3 h4 h5.all
theorem BP.kp {H H':Hp} {T T':Q6→Prop} {x dx p C:Q6} {ks:List Rf} {ds:List D} (h:BP K H T x dx p C ks ds) (k:Kp T H T' H') (ho:∀ a∈[x,dx,p],∀ u,H a=some u→H' a=some u):BP K H' T' x dx p C ks ds:=by obtain ⟨h1,h0,kvs,h2,h3,h4,h5⟩:=h;exact ⟨ho _ (by simp) _ h1,ho _ (by simp) _ h0,kvs,ho _ (by simp) _ h2,h3,h4,h5.kp k⟩
theorem BP.xu {x dx p C a:Q6} {ds:List D} (h:BP K H T x dx p C ks ds) (ha:a∈[x,dx,p]):∃ u,H a=some u:=by
 obtain ⟨h1,h0,kvs,h2,_⟩:=h;simp only [Ri,TU,or_false] at ha;rcases ha with rfl | rfl | rfl
 ·exact ⟨_,h1⟩
 ·exact ⟨_,h0⟩
 ·exact ⟨_,h2⟩
noncomputable def NY (K:Q2) (B H:Hp) (T:Q6→Prop) (x dx p C:Q6) (ks:List Rf) (ds:List D):Prop :=
 B x=some (.ins C dx [("floors", .ref p)])∧B dx=some (.own x)∧∃ kvs,B p=some (.dK kvs)∧kvs.map (·.1)=ks.map R1∧kvs.length≤1000∧IsL K H T (kvs.map (·.2)) ds
theorem NY.h {B H:Hp} {T:Q6→Prop} {x dx p C:Q6} {ks:List Rf} {ds:List D} (h:NY K B H T x dx p C ks ds) (s:bu B H):BP K H T x dx p C ks ds:=by obtain ⟨h1,h0,kvs,h2,h3,h4,h5⟩:=h;exact ⟨s _ _ h1,s _ _ h0,kvs,s _ _ h2,h3,h4,h5⟩
theorem NY.kp {B B' H H':Hp} {T T':Q6→Prop} {x dx p C:Q6} {ks:List Rf} {ds:List D} (h:NY K B H T x dx p C ks ds) (k:Kp T H T' H') (s:bu B B'):NY K B' H' T' x dx p C ks ds:=by obtain ⟨h1,h0,kvs,h2,h3,h4,h5⟩:=h;exact ⟨s _ _ h1,s _ _ h0,kvs,s _ _ h2,h3,h4,h5.kp k⟩
noncomputable def xy (K:Q2) (B H:Hp) (T:Q6→Prop) (o:List Q6):Sl→Option V→Prop
 | .un,_=>o=[]
 | .pu d,v=>o=[]∧∃ u,v=some u∧Is K H T u d
 | .bo d,v=>o=[]∧∃ u,v=some u∧Is K B No u d
 | .ol ds,v=>∃ a vs,o=[a]∧v=some (.ref a)∧H a=some (.lst vs)∧vs.length≤Q4∧IsL K H T vs ds
 | .om rows,v=>∃ a ps,o=a::ps∧v=some (.ref a)∧H a=some (.lst (ps.map V.ref))∧ps.length≤Q4∧Ta (fun p ds=>∃ vs,H p=some (.lst vs)∧vs.length≤Q4∧IsL K H T vs ds) ps rows
 | .od kvs,v=>∃ a,o=[a]∧v=some (.ref a)∧H a=some (.dK (kvs.map Pw))∧kvs.length≤Q4
 | .pm a ps rows,v=>o=a::ps∧v=some (.ref a)∧H a=some (.lst (ps.map V.ref))∧ps.length≤Q4∧Ta (fun p ds=>∃ vs,H p=some (.lst vs)∧vs.length≤Q4∧IsL K H T vs ds) ps rows
 | .pd a kvs,v=>o=[a]∧v=some (.ref a)∧H a=some (.dK (kvs.map Pw))∧kvs.length≤Q4
 | .dk C ks ds,v=>∃ x dx p,o=[x,dx,p]∧v=some (.ref x)∧BP K H T x dx p C ks ds
 | .pk x dx p C ks ds,v=>o=[x,dx,p]∧v=some (.ref x)∧BP K H T x dx p C ks ds
 | .bk C ks ds,v=>o=[]∧∃ x dx p,v=some (.ref x)∧NY K B H T x dx p C ks ds
def wH [cu] (H:Hp):Prop:=∀ p∈cu.ts,∃ t,H p.1=some (.tbl #[.str p.2 t])
theorem wH.same [cu] {H':Hp} (h:wH H) (s:bu H H'):wH H':=fun p hp=>let ⟨t,e⟩:=h p hp; ⟨t,s _ _ e⟩
def ZT [cu] (Z:Q6→Prop) (H:Hp):Prop:=(∀ a,Z a→∃ o,H a=some o)∧wH H
structure Fr [cu] (K:Q2) (B:Hp) (Z:Q6→Prop) (os:Own) (ρ:aU) (σ:St) (H:Hp):Prop where
 keep:bu B H
 F0:∀ a,Z a→∃ o,H a=some o
 len:σ.length=ρ.length
 nd:∀ i,(os i).Nodup
 dj:∀ i j a,a∈os i→a∈os j→i=j
 new:∀ i a,a∈os i→B a=none∧¬ Z a
 sl:∀ i,xy K B H (cE Z os) (os i) (ρ.getD i .un) ((σ[i]?).join)
 tab:wH B
variable [cu]
theorem Fr.Jp {B:Hp} {os:Own} {ρ:aU} {σ:St} (f:Fr K B Z os ρ σ H):wH H:=f.tab.same f.keep
theorem Paired.any {α β:Type} {F:α→β→Prop}:∀ {as:List α} {bs:List β} {a:α},Ta F as bs→a∈as→∃ b,F a b
 | _,_,_,.cons r t,h=>by
  rcases Ri.mp h with rfl | h
  ·exact ⟨_,r⟩
  ·exact Paired.any t h
theorem xy.xu {B H:Hp} {T:Q6→Prop} {o:List Q6} {s:Sl} {v:Option V} (h:xy K B H T o s v) {a:Q6} (ha:a∈o):∃ u,H a=some u:=by
 cases s with
 | un=>cases h; cases ha
 | pu d=>obtain ⟨rfl,_⟩:=h; cases ha
 | bo d=>obtain ⟨rfl,_⟩:=h; cases ha
 | ol ds =>obtain ⟨b,vs,rfl,_,e,_⟩:=h;cases Q3.mp ha;exact ⟨_,e⟩
 | om rows =>
  obtain ⟨b,ps,rfl,_,e,_,r⟩:=h;rcases Ri.mp ha with rfl | ha
  ·exact ⟨_,e⟩
  ·obtain ⟨_,vs,q,_⟩:=Paired.any r ha;exact ⟨_,q⟩
 | od kvs =>obtain ⟨b,rfl,_,e,_⟩:=h;cases Q3.mp ha;exact ⟨_,e⟩
 | pm b ps rows =>
  obtain ⟨rfl,_,e,_,r⟩:=h;rcases Ri.mp ha with rfl | ha
  ·exact ⟨_,e⟩
  ·obtain ⟨_,vs,q,_⟩:=Paired.any r ha;exact ⟨_,q⟩
 | pd b kvs =>obtain ⟨rfl,_,e,_⟩:=h;cases Q3.mp ha;exact ⟨_,e⟩
 | dk C ks ds=>obtain ⟨x,dx,p,rfl,_,q⟩:=h; exact q.xu ha
 | pk x dx p C ks ds=>obtain ⟨rfl,_,q⟩:=h; exact q.xu ha
 | bk C ks ds=>obtain ⟨rfl,_⟩:=h; cases ha
theorem xy.kp {B B' H H':Hp} {T T':Q6→Prop} {o:List Q6} {s:Sl} {v:Option V} (h:xy K B H T o s v) (k:Kp T H T' H') (hb:bu B B') (ho:∀ a∈o,∀ u,H a=some u→H' a=some u):xy K B' H' T' o s v:=by
 cases s with
 | un=>exact h
 | pu d=>obtain ⟨e,u,e2,i⟩:=h; exact ⟨e,u,e2,i.kp k⟩
 | bo d=>obtain ⟨e,u,e2,i⟩:=h; exact ⟨e,u,e2,i.same hb⟩
 | ol ds=>obtain ⟨a,vs,rfl,e2,e3,hl,i⟩:=h; exact ⟨a,vs,rfl,e2,ho _ (Q3.mpr rfl) _ e3,hl,i.kp k⟩
 | om rows =>obtain ⟨a,ps,rfl,e2,e3,hl,i⟩:=h;exact ⟨a,ps,rfl,e2,ho _ Q9 _ e3,hl,Paired.mono i fun p ds hp ⟨vs,q,hv,j⟩=>⟨vs,ho _ (Ra _ hp) _ q,hv,j.kp k⟩⟩
 | od kvs=>obtain ⟨a,rfl,e2,e3,hl⟩:=h; exact ⟨a,rfl,e2,ho _ (Q3.mpr rfl) _ e3,hl⟩
 | pm a ps rows =>obtain ⟨rfl,e2,e3,hl,i⟩:=h;exact ⟨rfl,e2,ho _ Q9 _ e3,hl,Paired.mono i fun p ds hp ⟨vs,q,hv,j⟩=>⟨vs,ho _ (Ra _ hp) _ q,hv,j.kp k⟩⟩
 | pd a kvs=>obtain ⟨rfl,e2,e3,hl⟩:=h; exact ⟨rfl,e2,ho _ (Q3.mpr rfl) _ e3,hl⟩
 | dk C ks ds=>obtain ⟨x,dx,p,rfl,e2,q⟩:=h; exact ⟨x,dx,p,rfl,e2,q.kp k ho⟩
 | pk x dx p C ks ds=>obtain ⟨rfl,e2,q⟩:=h; exact ⟨rfl,e2,q.kp k ho⟩
 | bk C ks ds=>obtain ⟨e,x,dx,p,e2,q⟩:=h; exact ⟨e,x,dx,p,e2,q.kp k hb⟩
section
variable {B H H':Hp} {Z:Q6→Prop} {os:Own} {ρ:aU} {σ:St}
theorem Fr.grow (f:Fr K B Z os ρ σ H) (s:bu H H'):Fr K B Z os ρ σ H' where
 keep:=f.keep.trans s
 F0:=fun a z=>let ⟨o,e⟩:=f.F0 a z; ⟨o,s _ _ e⟩
 len:=f.len
 nd:=f.nd
 dj:=f.dj
 new:=f.new
 sl:=fun i=>(f.sl i).kp (Kp.same s) (bu.refl _) fun a _ u e=>s _ _ e
 tab:=f.tab
theorem Fr.out (f:Fr K B Z os ρ σ H) {p:Q6} (hp:H p=none):¬ cE Z os p:=by
 rintro (z | ⟨i,z⟩)
 ·obtain ⟨o,e⟩:=f.F0 p z;rw [hp] at e; cases e
 ·obtain ⟨xs,e⟩:=(f.sl i).xu z;rw [hp] at e; cases e
def nG (os:Own) (i:Nat) (o:List Q6):Own:=fun j=>if j=i then o else os j
theorem b8 {os:Own} {i:Nat}:nG os i o i=o:=if_pos rfl
theorem cL {os:Own} {i j:Nat} (h:j≠i):nG os i o j=os j:=if_neg h
theorem kY {l:List α} {i:Nat} {x d:α} (h:i<l.length):(l.set i x).getD i d=x:=by rw [Rc,SS h]; rfl
theorem ot {l:List α} {i j:Nat} {x d:α} (h:j≠i):(l.set i x).getD j d=l.getD j d:=by rw [Rc,SH (S6 h),← Rc]
theorem Fr.step (f:Fr K B Z os ρ σ H) {i:Nat} (hi:i < ρ.length) {s:Sl} {v:Option V}
 (hk:∀ a u,H a=some u→a∉os i→H' a=some u) (hs:∀ a,a∈os i→∃ u,H' a=some u) (hn:o.Nodup) (ho:∀ a∈o,a∈os i∨H a=none) (ok:xy K B H' (cE Z (nG os i o)) o s v) :
 Fr K B Z (nG os i o) (ρ.set i s) (σ.set i v) H'∧Kp (cE Z os) H (cE Z (nG os i o)) H':=by
 have no:∀ a u,H a=some u→a∉os i→a∉o:=fun a u e n q=>by
  rcases ho a q with z | z
  ·exact n z
  ·rw [z] at e; cases e
 have kp:Kp (cE Z os) H (cE Z (nG os i o)) H':=fun a u e t=>by
  have ni:a∉os i:=fun q=>t (.inr ⟨i,q⟩);refine ⟨hk a u e ni,?_⟩;rintro (z | ⟨j,z⟩)
  ·exact t (.inl z)
  ·show 10
   ·subst hj; rw [b8] at z; exact no a u e ni z
   ·rw [cL hj] at z; exact t (.inr ⟨j,z⟩)
 refine ⟨⟨fun a u e=>hk a u (f.keep a u e) fun q=>?_,fun a z=>?_,?_,fun j=>?_,fun j k a h1 h2=>?_,fun j a h=>?_,fun j=>?_,f.tab⟩,kp⟩
 ·have:=(f.new i a q).1; rw [e] at this; cases this
 ·obtain ⟨u,e⟩:=f.F0 a z;exact ⟨u,hk a u e fun q=>(f.new i a q).2 z⟩
 ·rw [Su,Su]; exact f.len
 ·show 10
  ·subst hj; rw [b8]; exact hn
  ·rw [cL hj]; exact f.nd j
 ·have xu:∀ k,a∈os k→∃ u,H a=some u:=fun k z=>let ⟨xs,e⟩:=(f.sl k).xu z; ⟨_,e⟩
  show 10
  ·by_cases hk':k=i
   ·rw [hj,hk']
   ·subst hj;rw [b8] at h1; rw [cL hk'] at h2;rcases ho a h1 with z | z
    ·exact f.dj _ _ a z h2
    ·obtain ⟨u,e⟩:=xu k h2; rw [z] at e; cases e
  ·by_cases hk':k=i
   ·subst hk';rw [cL hj] at h1; rw [b8] at h2;rcases ho a h2 with z | z
    ·exact f.dj _ _ a h1 z
    ·obtain ⟨u,e⟩:=xu j h1; rw [z] at e; cases e
   ·rw [cL hj] at h1; rw [cL hk'] at h2;exact f.dj _ _ a h1 h2
 ·show 10
  ·subst hj;rw [b8] at h;rcases ho a h with z | z
   ·exact f.new _ a z
   ·exact ⟨bu.free f.keep z,fun q=>f.out z (.inl q)⟩
  ·rw [cL hj] at h; exact f.new j a h
 ·show 10
  ·subst hj;have hσ:j < σ.length:=by rw [f.len]; exact hi
   rw [b8,kY hi,SS hσ];exact ok
  ·rw [cL hj,ot hj,SH (S6 hj)];exact (f.sl j).kp kp (bu.refl _) fun a ha u e=>hk a u e fun q=>hj (f.dj _ _ a ha q)
theorem Fr.put (f:Fr K B Z os ρ σ H) {i:Nat} (hi:i < ρ.length) {v:V} {d:D} (h:Is K H (cE Z os) v d) :
 Fr K B Z (nG os i []) (ρ.set i (.pu d)) (σ.set i (some v)) H∧Kp (cE Z os) H (cE Z (nG os i [])) H:=by
 refine f.step hi (fun a u e _=>e) (fun a ha=>let ⟨xs,e⟩:=(f.sl i).xu ha; ⟨_,e⟩) Tw (fun a h=>by cases h) ⟨rfl,v,rfl,h.kp (Kp.less ?_)⟩;rintro a (z | ⟨j,z⟩)
 ·exact .inl z
 ·show 10
  ·subst hj; rw [b8] at z; cases z
  ·show 13
end
end
section
open Classical
section
abbrev DE:=aU→Option D
section
variable [cu] {K:Q2}
def bD (K:Q2) (t:TE) (e:DE):Prop:=∀ {B:Hp} {Z:Q6→Prop} {os:Own} {ρ:aU} {σ:L2.St} {H:Hp} {Q:VK} {d:D},Fr K B Z os ρ σ H→e ρ=some d→(∀ v H',bu H H'→Is K H' No v d→Q v H')→t σ H Q
def ai (K:Q2) (t:TE) (e:DE):Prop:=∀ {B:Hp} {Z:Q6→Prop} {os:Own} {ρ:aU} {σ:L2.St} {H:Hp} {Q:VK} {d:D},Fr K B Z os ρ σ H→e ρ=some d→(∀ v H',bu H H'→Is K H' (cE Z os) v d→Q v H')→t σ H Q
noncomputable def bC (K:Q2) (t:TE) (e:aU→Option (List D)):Prop:=∀ {B:Hp} {Z:Q6→Prop} {os:Own} {ρ:aU} {σ:L2.St} {H:Hp} {Q:VK} {ds:List D},Fr K B Z os ρ σ H→e ρ=some ds →
 (∀ p vs H',bu H H'→H p=none→H' p=some (.lst vs)→vs.length≤Q4→IsL K H' (fun a=>a=p∨cE Z os a) vs ds→Q (.ref p) H')→t σ H Q
def nO (K:Q2) (t:TT) (e:aU→Option Bool):Prop:=∀ {B:Hp} {Z:Q6→Prop} {os:Own} {ρ:aU} {σ:L2.St} {H:Hp} {Q:Bool→Hp→Prop} {b:Bool},Fr K B Z os ρ σ H→e ρ=some b→(∀ H',bu H H'→Q b H')→t σ H Q
inductive Args (K:Q2) (H:Hp) (T:Q6→Prop):List Bool→List V→List D→Prop
 | nil:Args K H T [] [] []
 | own {ms:List Bool} {v:V} {d:D} {vs:List V} {ds:List D}:Is K H T v d→Args K H T ms vs ds→Args K H T (true::ms) (v::vs) (d::ds)
 | any {ms:List Bool} {v:V} {d:D} {vs:List V} {ds:List D}:Is K H No v d→Args K H T ms vs ds→Args K H T (false::ms) (v::vs) (d::ds)
noncomputable def mT (K:Q2) (ms:List Bool) (t:TA) (e:aU→Option (List D)):Prop:=∀ {B:Hp} {Z:Q6→Prop} {os:Own} {ρ:aU} {σ:L2.St} {H:Hp} {Q:List V→Hp→Prop} {ds:List D},Fr K B Z os ρ σ H→e ρ=some ds→(∀ vs H',bu H H'→Args K H' (cE Z os) ms vs ds→Q vs H')→t σ H Q
theorem Args.len {ms:List Bool} {ds:List D} (a:Args K H T ms vs ds):vs.length=ms.length∧ds.length=ms.length:=by
 induction a with
 | nil=>exact ⟨rfl,rfl⟩
 | own h _ ih=>simp [ih.1,ih.2]
 | any h _ ih=>simp [ih.1,ih.2]
theorem Args.MX {H:Hp} {T:Q6→Prop}:∀ {n:Nat} {vs:List V} {ds:List D},Args K H T (Rx n true) vs ds→IsL K H T vs ds
 | 0,_,_,.nil=>.nil
 | _+1,_,_,.own h r=>.cons h r.MX
theorem ai.b {t:TE} {e:DE} (h:ai K t e):bD K t e:=fun f q k=>h f q fun v H' s i=>k v H' s i.all
theorem bC.i {t:TE} {e:aU→Option (List D)} (h:bC K t e):ai K t (fun ρ=>(e ρ).map D.lst):=fun {B Z os ρ σ H Q d} f q k=>by
 dsimp only at q;cases q1:e ρ with
 | none=>rw [q1] at q; cases q
 | some ds =>rw [q1] at q;cases q;refine h f q1 fun p vs H' s hp hp' hl i=>k _ _ s (.lst (f.out hp) (.inl hp') hl (i.kp (Kp.less fun a z=>.inr z)))
def Pq:D→Option (List D)
 | .lst ds=>some ds
 | .scr ns=>some (ns.map D.int)
 | _=>none
theorem Is.seq {v:V} {d:D} {ds:List D} (h:Is K H Z v d) (e:Pq d=some ds):∃ p vs,v=.ref p∧vs.length≤Q4∧vs.length=ds.length∧∀ H' Z',Kp Z H Z' H'→mS K H' p vs∧IsL K H' Z' vs ds:=by
 cases h with
 | lst hz h hl r=>cases e; exact ⟨_,_,rfl,hl,r.length,fun H' Z' k=>⟨.inl (Rd.kp k hz h).1,r.kp k⟩⟩
 | scr hz h hl=>cases e; exact ⟨_,_,rfl,by rw [Q5]; exact hl,by simp,fun H' Z' k=>⟨.inl (Rd.kp k hz h).1,.ofInts _⟩⟩
 | scrK h hl=>cases e; exact ⟨_,_,rfl,by rw [Q5]; exact hl,by simp,fun H' Z' k=>⟨.inr h,.ofInts _⟩⟩
 | _=>cases e
def j5 (e:DE):DE:=fun ρ=>match e ρ with
 | some d=>if d.pB=true then some d else none
 | none=>none
theorem bD.i {t:TE} {e:DE} (h:bD K t e):ai K t (j5 e):=fun {B Z os ρ σ H Q d} f q k=>by
 unfold j5 at q;cases q1:e ρ with
 | none=>rw [q1] at q; cases q
 | some d' =>
  rw [q1] at q;have q':(if d'.pB=true then some d' else none)=some d:=q;by_cases c:d'.pB=true
  ·rw [if_pos c] at q';cases q';exact h f q1 fun v H' s i=>k v H' s (i.pB c)
  ·rw [if_neg c] at q'; cases q'
noncomputable def ak (i:Nat):DE:=fun ρ=>match ρ.getD i .un with
 | .pu d=>some d
 | .bo d=>some d
 | .ol ds=>some (.lst ds)
 | .om rows=>some (.lst (rows.map D.lst))
 | .od kvs=>some (.dct kvs)
 | .pm _ _ rows=>some (.lst (rows.map D.lst))
 | .pd _ kvs=>some (.dct kvs)
 | .dk C ks ds=>some (.dsk C ks ds)
 | .pk _ _ _ C ks ds=>some (.dsk C ks ds)
 | .bk C ks ds=>some (.dsk C ks ds)
 | .un=>none
def aX (i:Nat):DE:=fun ρ=>match ρ.getD i .un with
 | .pu d=>some d
 | _=>none
omit [cu] in
theorem join_some {o:Option (Option α)} {u:α} (h:o.join=some u):o=some (some u):=by
 cases o with
 | none=>cases h
 | some x=>rw [show x=some u from h]
theorem mn {H:Hp} {T:Q6→Prop}:∀ {ps:List Q6} {rows:List (List D)},Ta (fun p ds=>∃ vs,H p=some (.lst vs)∧vs.length≤Q4∧IsL K H T vs ds) ps rows→IsL K H No (ps.map V.ref) (rows.map D.lst)
 | _,_,.nil=>.nil
 | _,_,.cons ⟨vs,e,hl,i⟩ r=>.cons (.lst (fun z=>z) (.inl e) hl i.all) (mn r)
theorem ae (i:Nat):bD K (i8 i) (ak i):=fun {B Z os ρ σ H Q d} f q k=>by
 have s:=f.sl i;unfold ak at q;cases e:ρ.getD i .un with
 | un=>rw [e] at q; cases q
 | pu d' =>rw [e] at q s;cases q;obtain ⟨_,u,hu,i⟩:=s;exact ⟨u,join_some hu,k u H (bu.refl _) i.all⟩
 | bo d' =>rw [e] at q s;cases q;obtain ⟨_,u,hu,i⟩:=s;exact ⟨u,join_some hu,k u H (bu.refl _) (i.same f.keep)⟩
 | ol ds =>rw [e] at q s;cases q;obtain ⟨a,vs,_,hu,hH,hl,i⟩:=s;exact ⟨_,join_some hu,k _ H (bu.refl _) (.lst (fun z=>z) (.inl hH) hl i.all)⟩
 | om rows =>rw [e] at q s;cases q;obtain ⟨a,ps,_,hu,hH,hl,i⟩:=s;exact ⟨_,join_some hu,k _ H (bu.refl _) (.lst (fun z=>z) (.inl hH) (by rw [Q5]; exact hl) (mn i))⟩
 | od kvs =>rw [e] at q s;cases q;obtain ⟨a,_,hu,hH,hl⟩:=s;exact ⟨_,join_some hu,k _ H (bu.refl _) (.dct (fun z=>z) (.inl hH) hl)⟩
 | pm a ps rows =>rw [e] at q s;cases q;obtain ⟨_,hu,hH,hl,i⟩:=s;exact ⟨_,join_some hu,k _ H (bu.refl _) (.lst (fun z=>z) (.inl hH) (by rw [Q5]; exact hl) (mn i))⟩
 | pd a kvs =>rw [e] at q s;cases q;obtain ⟨_,hu,hH,hl⟩:=s;exact ⟨_,join_some hu,k _ H (bu.refl _) (.dct (fun z=>z) (.inl hH) hl)⟩
 | dk C ks ds =>rw [e] at q s;cases q;obtain ⟨x,dx,p,_,hu,h⟩:=s;exact ⟨_,join_some hu,k _ H (bu.refl _) h.is⟩
 | pk x dx p C ks ds =>rw [e] at q s;cases q;obtain ⟨_,hu,h⟩:=s;exact ⟨_,join_some hu,k _ H (bu.refl _) h.is⟩
 | bk C ks ds =>rw [e] at q s;cases q;obtain ⟨_,x,dx,p,hu,h⟩:=s;exact ⟨_,join_some hu,k _ H (bu.refl _) (h.h f.keep).is⟩
theorem aZ (i:Nat):ai K (i8 i) (aX i):=fun {B Z os ρ σ H Q d} f q k=>by
 have s:=f.sl i;unfold aX at q;cases e:ρ.getD i .un with
 | pu d' =>rw [e] at q s;cases q;obtain ⟨_,u,hu,i⟩:=s;exact ⟨u,join_some hu,k u H (bu.refl _) i⟩
 | _=>rw [e] at q; cases q
def dC (d:D):DE:=fun _=>some d
theorem gY {i:Int}:ai K (tC (.int i)) (dC (.int i)):=fun f q k=>by cases q; exact k _ _ (bu.refl _) (.int i)
theorem iB {i:Bool}:ai K (tC (.bl i)) (dC (.bl i)):=fun f q k=>by cases q; exact k _ _ (bu.refl _) (.bl i)
theorem Mg:ai K (tC .non) (dC .non):=fun f q k=>by cases q; exact k _ _ (bu.refl _) .non
theorem au {x:Rf}:ai K (tC (.str x)) (dC (.str x)):=fun f q k=>by cases q; exact k _ _ (bu.refl _) (.str x)
def Al (f:Int→Int→Option D) (a b:DE):DE:=fun ρ=>match a ρ with
 | some (.int i)=>(match b ρ with
  | some (.int j)=>f i j
  | _=>none)
 | _=>none
theorem BF {f:Int→Int→Option D} {a b:DE} {ρ:aU} {d:D} (h:Al f a b ρ=some d):∃ i j,a ρ=some (.int i)∧b ρ=some (.int j)∧f i j=some d:=by
 unfold Al at h;split at h
 ·rename_i i e1;split at h
  ·rename_i j e2;exact ⟨i,j,e1,e2,h⟩
  ·cases h
 ·cases h
theorem Is.isInt {v:V} {i:Int} (h:Is K H Z v (.int i)):v=.int i:=by cases h; rfl
theorem Is.Fu {v:V} {i:Bool} (h:Is K H Z v (.bl i)):v=.bl i:=by cases h; rfl
theorem Is.isStr {v:V} {i:Rf} (h:Is K H Z v (.str i)):v=.str i:=by cases h; rfl
variable {ta tb tc:TE} {a b c:DE}
theorem vm {g:Int→Int→V} (gd:Int→Int→D) (hg:∀ i j H Z,Is K H Z (g i j) (gd i j)) (ha:bD K ta a) (hb:bD K tb b):ai K (tJ (CC g) ta tb) (Al (fun i j=>some (gd i j)) a b):=fun {B Z os ρ σ H Q d} f q k=>by obtain ⟨i,j,e1,e2,e3⟩:=BF q;cases e3;refine ha f e1 fun v H1 s1 i1=>hb ‹70› e2 fun u H2 s2 i2=>?_;exact ⟨i,j,i1.isInt,i2.isInt,k _ _ ‹48› (hg i j _ _)⟩
def gC (C:Int→Int→Prop) (g:Int→Int→D):Int→Int→Option D:=fun i j=>if C i j then some (g i j) else none
theorem Il {g:Int→Int→D} {i j:Int} (h:C i j):gC C g i j=some (g i j):=if_pos h
theorem GO {g:Int→Int→V} (gd:Int→Int→D) (hg:∀ i j H Z,Is K H Z (g i j) (gd i j)) (ha:bD K ta a) (hb:bD K tb b):ai K (tJ (rI C g) ta tb) (Al (gC C gd) a b):=fun {B Z os ρ σ H Q d} f q k=>by
 obtain ⟨i,j,e1,e2,e3⟩:=BF q;unfold gC at e3;by_cases c:C i j
 ·rw [if_pos c] at e3;cases e3;refine ha f e1 fun v H1 s1 i1=>hb ‹70› e2 fun u H2 s2 i2=>?_;exact ⟨i,j,i1.isInt,i2.isInt,c,k _ _ ‹48› (hg i j _ _)⟩
 ·rw [if_neg c] at e3; cases e3
def pK:DE→DE→DE:=Al fun i j=>some (.int (i+j))
def uk:DE→DE→DE:=Al (gC Xz fun i j=>.int (i*j))
def qE:DE→DE→DE:=Al (gC (fun _ j=>0<j) fun i j=>.int (i % j))
def O5:DE→DE→DE:=Al fun i j=>some (.bl (decide (i<j)))
def KN:DE→DE→DE:=Al fun i j=>some (.bl (decide (i≤j)))
def KO:DE→DE→DE:=Al fun i j=>some (.bl (decide (j<i)))
def O6:DE→DE→DE:=Al fun i j=>some (.bl (decide (j≤i)))
theorem nV (ha:bD K ta a) (hb:bD K tb b):ai K (tJ (CC fun i j=>.int (i+j)) ta tb) (pK a b):=vm (fun i j=>.int (i+j)) (fun _ _ _ _=>.int _) ha hb
theorem qj (ha:bD K ta a) (hb:bD K tb b):ai K (tJ (rI Xz fun i j=>.int (i*j)) ta tb) (uk a b):=GO (fun i j=>.int (i*j)) (fun _ _ _ _=>.int _) ha hb
theorem mf (ha:bD K ta a) (hb:bD K tb b):ai K (tJ (rI (fun _ j=>0<j) fun i j=>.int (i % j)) ta tb) (qE a b):=GO (fun i j=>.int (i % j)) (fun _ _ _ _=>.int _) ha hb
theorem Lj (ha:bD K ta a) (hb:bD K tb b):ai K (tJ (CC fun i j=>.bl (decide (i<j))) ta tb) (O5 a b):=vm (fun i j=>.bl (decide (i<j))) (fun _ _ _ _=>.bl _) ha hb
theorem Ax (ha:bD K ta a) (hb:bD K tb b):ai K (tJ (CC fun i j=>.bl (decide (i≤j))) ta tb) (KN a b):=vm (fun i j=>.bl (decide (i≤j))) (fun _ _ _ _=>.bl _) ha hb
theorem DI (ha:bD K ta a) (hb:bD K tb b):ai K (tJ (CC fun i j=>.bl (decide (j<i))) ta tb) (KO a b):=vm (fun i j=>.bl (decide (j<i))) (fun _ _ _ _=>.bl _) ha hb
theorem Lk (ha:bD K ta a) (hb:bD K tb b):ai K (tJ (CC fun i j=>.bl (decide (j≤i))) ta tb) (O6 a b):=vm (fun i j=>.bl (decide (j≤i))) (fun _ _ _ _=>.bl _) ha hb
def wz (a:DE):DE:=fun ρ=>match a ρ with
 | some (.int i)=>some (.int (-i))
 | _=>none
theorem vn (ha:bD K ta a):ai K (Qr (rU fun i=>.int (-i)) ta) (wz a):=fun {B Z os ρ σ H Q d} f q k=>by
 unfold wz at q;split at q
 ·rename_i i e1;cases q;exact ha f e1 fun v H1 s1 i1=>⟨i,i1.isInt,k _ _ s1 (.int _)⟩
 ·cases q
noncomputable def fM (p q:Int→Int→Bool) (a b c:DE):DE:=fun ρ=>match a ρ with
 | some (.int i)=>(match b ρ with
  | some (.int j)=>if p i j=true then (match c ρ with
   | some (.int k)=>some (.bl (q j k))
   | _=>none) else some (.bl false)
  | _=>none)
 | _=>none
theorem gi {p q:Int→Int→Bool} (ha:bD K ta a) (hb:bD K tb b) (hc:bD K tc c):ai K (Ca (CC fun i j=>.bl (p i j)) (CC fun i j=>.bl (q i j)) ta tb tc) (fM p q a b c):=fun {B Z os ρ σ H Q d} f e k=>by
 unfold fM at e;split at e
 ·rename_i i e1;split at e
  ·rename_i j e2;refine ha f e1 fun v H1 s1 i1=>hb ‹70› e2 fun u H2 s2 i2=>⟨i,j,i1.isInt,i2.isInt,p i j,rfl,?_⟩
   by_cases hp:p i j=true
   ·rw [if_pos hp] at e ⊢;split at e
    ·rename_i l e3;cases e;exact hc (f.grow ‹48›) e3 fun w H3 s3 i3=>⟨j,l,i2.isInt,i3.isInt,k _ _ (‹48›.trans s3) (.bl _)⟩
    ·cases e
   ·rw [if_neg hp] at e ⊢;cases e;exact k _ _ ‹48› (.bl _)
  ·cases e
 ·cases e
def dT (a:DE):aU→Option Bool:=fun ρ=>match a ρ with
 | some (.bl b)=>some b
 | _=>none
theorem aS (ha:bD K ta a):nO K (Dq ta) (dT a):=fun {B Z os ρ σ H Q d} f q k=>by
 unfold dT at q;split at q
 ·rename_i b e;cases q;exact ha f e fun v H1 s1 i1=>⟨_,i1.Fu,k _ s1⟩
 ·cases q
noncomputable def L8:D→Option Bool
 | .non=>some false
 | .bl b=>some b
 | .int i=>some (i != 0)
 | .str y=>if y.length≤Q4 then some ((y.length:Int) != 0) else none
 | .lst ds=>some (!ds.isEmpty)
 | .tup ds=>some (!ds.isEmpty)
 | .scr ns=>some (!ns.isEmpty)
 | _=>none
theorem vZ {ds:List D} (h:IsL K H Z vs ds):vs.isEmpty=ds.isEmpty:=by cases h <;> rfl
theorem L7 {v:V} {d:D} {b:Bool} (h:Is K H Z v d) (e:L8 d=some b):C9 K v H b:=by
 cases h with
 | non=>cases e; rfl
 | bl b=>cases e; rfl
 | int i=>cases e; rfl
 | str x =>
  have e:(if x.length≤Q4 then some ((x.length:Int) != 0) else none)=some b:=e;by_cases c:x.length≤Q4
  ·rw [if_pos c] at e; cases e; exact ⟨c,rfl⟩
  ·rw [if_neg c] at e; cases e
 | ty n=>cases e
 | lst hz h hl r=>cases e; exact .inl ⟨_,.inl h,by rw [vZ r]⟩
 | tup hz h hl r=>cases e; exact .inr (.inl ⟨_,.inl (.inl h),by rw [vZ r]⟩)
 | ins _ _=>cases e
 | dct _ _ _=>cases e
 | dsk _ _ _ _ _ _ _=>cases e
 | scr hz h hl=>cases e; exact .inl ⟨_,.inl h,by cases ‹List Int› <;> rfl⟩
 | scrK h hl=>cases e; exact .inl ⟨_,.inr h,by cases ‹List Int› <;> rfl⟩
def dw (a:DE):aU→Option Bool:=fun ρ=>match a ρ with
 | some d=>L8 d
 | none=>none
theorem cb (ha:bD K ta a):nO K (fun σ H Q=>ta σ H fun x H'=>∃ k,C9 K x H' k∧Q k H') (dw a):=fun {B Z os ρ σ H Q b} f q k=>by
 unfold dw at q;split at q
 ·rename_i d e;exact ha f e fun v H1 s1 i1=>⟨b,L7 i1 q,k _ s1⟩
 ·cases q
variable {tA tB':TT} {x y:aU→Option Bool}
def FJ (x y:aU→Option Bool):aU→Option Bool:=fun ρ=>match x ρ with
 | some true=>y ρ
 | some false=>some false
 | none=>none
def BQ (x y:aU→Option Bool):aU→Option Bool:=fun ρ=>match x ρ with
 | some true=>some true
 | some false=>y ρ
 | none=>none
def dF (x:aU→Option Bool):aU→Option Bool:=fun ρ=>match x ρ with
 | some b=>some (!b)
 | none=>none
theorem Gy (ha:nO K tA x) (hb:nO K tB' y):nO K (Od tA tB') (FJ x y):=fun {B Z os ρ σ H Q b} f q k=>by
 unfold FJ at q;split at q
 ·rename_i e;exact ha f e fun H1 s1=>uf (hb ‹70› q fun H2 s2=>k _ ‹48›)
 ·rename_i e;cases q;exact ha f e fun H1 s1=>rR (k _ s1)
 ·cases q
theorem qZ (ha:nO K tA x) (hb:nO K tB' y):nO K (PM tA tB') (BQ x y):=fun {B Z os ρ σ H Q b} f q k=>by
 unfold BQ at q;split at q
 ·rename_i e;cases q;exact ha f e fun H1 s1=>uf (k _ s1)
 ·rename_i e;exact ha f e fun H1 s1=>rR (hb ‹70› q fun H2 s2=>k _ ‹48›)
 ·cases q
theorem cc (ha:nO K tA x):nO K (Ma tA) (dF x):=fun {B Z os ρ σ H Q b} f q k=>by
 unfold dF at q;split at q
 ·rename_i c e;cases q;exact ha f e fun H1 s1=>k _ s1
 ·cases q
def cO:aU→Option Bool:=fun _=>some true
theorem cz:nO K Dp cO:=fun f q k=>by cases q; exact k _ (bu.refl _)
def kc (a b:DE):DE:=fun ρ=>match a ρ with
 | some (.bl true)=>b ρ
 | some (.bl false)=>some (.bl false)
 | _=>none
def C6 (a b:DE):DE:=fun ρ=>match a ρ with
 | some (.bl true)=>some (.bl true)
 | some (.bl false)=>b ρ
 | _=>none
def wy (a:DE):DE:=fun ρ=>match a ρ with
 | some (.bl c)=>some (.bl (!c))
 | _=>none
theorem gZ (ha:bD K ta a) (hb:ai K tb b):ai K (Lh ta tb) (kc a b):=fun {B Z os ρ σ H Q d} f q k=>by
 unfold kc at q;split at q
 ·rename_i e;exact ha f e fun v H1 s1 i1=>⟨true,i1.Fu,uf (hb ‹70› q fun v H2 s2=>k _ _ ‹48›)⟩
 ·rename_i e;cases q;exact ha f e fun v H1 s1 i1=>⟨false,i1.Fu,rR (k _ _ s1 (.bl _))⟩
 ·cases q
theorem GN (ha:bD K ta a) (hb:ai K tb b):ai K (N8 ta tb) (C6 a b):=fun {B Z os ρ σ H Q d} f q k=>by
 unfold C6 at q;split at q
 ·rename_i e;cases q;exact ha f e fun v H1 s1 i1=>⟨true,i1.Fu,uf (k _ _ s1 (.bl _))⟩
 ·rename_i e;exact ha f e fun v H1 s1 i1=>⟨false,i1.Fu,rR (hb ‹70› q fun v H2 s2=>k _ _ ‹48›)⟩
 ·cases q
theorem JC (ha:bD K ta a):ai K (K9 ta) (wy a):=fun {B Z os ρ σ H Q d} f q k=>by
 unfold wy at q;split at q
 ·rename_i c e;cases q;exact ha f e fun v H1 s1 i1=>⟨c,i1.Fu,k _ _ s1 (.bl _)⟩
 ·cases q
def NW (x:aU→Option Bool) (a b:DE):DE:=fun ρ=>match x ρ with
 | some true=>a ρ
 | some false=>b ρ
 | none=>none
theorem Oi (h:nO K tA x) (ha:ai K ta a) (hb:ai K tb b):ai K (Qs tA ta tb) (NW x a b):=fun {B Z os ρ σ H Q d} f q k=>by
 unfold NW at q;split at q
 ·rename_i e;exact h f e fun H1 s1=>uf (ha ‹70› q fun v H2 s2=>k _ _ ‹48›)
 ·rename_i e;exact h f e fun H1 s1=>rR (hb ‹70› q fun v H2 s2=>k _ _ ‹48›)
 ·cases q
end
end
end
end VL
namespace L2
variable {K:Q2}
open PySem PySem.Spec PyProof.Rows
section
variable {X:Cx} {pins:List (Q6×TK)} {σ:St} {H:Hp} {s:Rb} {l:Q6} {xs:List V}
theorem Inv.Bg (I:Inv X pins σ H s) (hH:Rd H l (.lst xs)):xs.length≤Q4∧∃ (its:List Q7) (n:Nat),Vals xs its∧xs.length=its.length∧s.heap.get? l=some { cls:=.type "list", data:=.seq its.toArray n }:=by obtain ⟨z,its,n,r,e⟩:=hH.ok I.dm;exact ⟨z,its,n,r,r.length,e⟩
def G9:R2:=fun x y H Q=>∃ l b xs zs,x=.ref l∧y=.ref b∧Rd H l (.lst xs)∧Rd H b (.lst zs)∧xs.length+zs.length≤Q4∧∀ p,H p=none→Q (.ref p) (upd H p (.lst (xs++zs)))
theorem dh:sx X (WL .Add) G9:=by
 intro pins s σ H x y v u Q I rx ry h;obtain ⟨l,b,xs,zs,rfl,rfl,hH,hB,hz,q⟩:=h;cases rx;cases ry;obtain ⟨z,its,n,r,hl,e⟩:=I.Bg hH;obtain ⟨z2,its2,n2,r2,hl2,e2⟩:=I.Bg hB;refine PySem.P.add_list e e2 ?_ (by rw [Rr,Rr]; lia);have ea:its.toArray++its2.toArray=(its++its2).toArray:=by simp
 rw [ea];exact ⟨.ref _,_,I.Kf (t':=s.toks) (r.append r2) (by rw [Ru]; lia),rfl,q _ I.fresh⟩
theorem Kj (h:X.K=K):Jd X (Mp K):=by subst h; exact Na
theorem bN (h:X.K=K):ma X (.builtin "len") (fun xs H Q=>∃ x n,xs=[x]∧KW K x H n∧Q (.int n) H):=by subst h; exact IK
end
end L2
namespace VL
variable {es:aU→Option (List D)} {ρ:aU} {ds:List D} {ms:List Bool} {tr:TA} {H:Hp} {n:Nat} {t:TA} {e:aU→Option (List D)} {Z:Q6→Prop} {vs:List V} {d:D} {Q:VK} {neg:Bool} {A:SG}
open PySem L2
section
open Classical
section
section
variable [cu] {K:Q2} {ta tb tc:TE} {a b c:DE}
def aq (a:DE) (es:aU→Option (List D)):aU→Option (List D):=fun ρ=>match a ρ with
 | some d=>(match es ρ with
  | some ds=>some (d::ds)
  | none=>none)
 | none=>none
def aP:aU→Option (List D):=fun _=>some []
theorem wA {a:DE} (h:aq a es ρ=some ds):∃ d r,a ρ=some d∧es ρ=some r∧ds=d::r:=by
 unfold aq at h;split at h
 ·rename_i d e1;split at h
  ·rename_i r e2;exact ⟨d,r,e1,e2,(R5 h).symm⟩
  ·cases h
 ·cases h
theorem aC:mT K [] fA aP:=fun f q k=>by cases q; exact k _ _ (bu.refl _) .nil
theorem aF (ha:ai K ta a) (hr:mT K ms tr es):mT K (true::ms) (cF ta tr) (aq a es):=fun {B Z os ρ σ H Q ds} f q k=>by obtain ⟨d,r,e1,e2,rfl⟩:=wA q;exact ha f e1 fun v H1 s1 i1=>hr ‹70› e2 fun vs H2 s2 i2=>k _ _ ‹48› (.own (i1.same s2) i2)
theorem aG (ha:bD K ta a) (hr:mT K ms tr es):mT K (false::ms) (cF ta tr) (aq a es):=fun {B Z os ρ σ H Q ds} f q k=>by obtain ⟨d,r,e1,e2,rfl⟩:=wA q;exact ha f e1 fun v H1 s1 i1=>hr ‹70› e2 fun vs H2 s2 i2=>k _ _ ‹48› (.any (i1.same s2) i2)
theorem vR {T:Q6→Prop} {p:Q6} {o:HO} (hp:H p=none):Kp T H (fun a=>a=p∨T a) (upd H p o):=fun a u e z=>by have hne:a≠p:=bT e hp;exact ⟨by rw [a5 hne]; exact e,fun q=>q.elim hne z⟩
theorem cN (h:mT K (Rx n true) t es) (hn:n≤Q4):bC K (Jr t) es:=fun {B Z os ρ σ H Q ds} f q k=>by
 refine h f q fun vs H1 s1 a=>?_;have hl:vs.length≤Q4:=by have:=a.len.1; rw [RV] at this; lia
 exact ⟨hl,fun p hp=>k p vs _ (s1.trans (cx hp)) (bu.free s1 hp) br hl (a.MX.kp (vR hp))⟩
def pJ (es:aU→Option (List D)):DE:=fun ρ=>(es ρ).map D.tup
theorem me (h:mT K (Rx n true) t es) (hn:n≤Q4):ai K (L9 t) (pJ es):=fun {B Z os ρ σ H Q d} f q k=>by
 unfold pJ at q;cases q1:es ρ with
 | none=>rw [q1] at q; cases q
 | some ds =>
  rw [q1] at q;cases q;refine h f q1 fun vs H1 s1 a=>?_;have hl:vs.length≤Q4:=by have:=a.len.1; rw [RV] at this; lia
  exact ⟨hl,fun p hp=>k _ _ (s1.trans (cx hp)) (.tup (‹70›.out hp) br hl ((a.MX.kp (vR hp)).kp (Kp.less fun a z=>.inr z)))⟩
def bw (es:aU→Option (List D)):DE:=fun ρ=>(es ρ).map D.lst
theorem bC.l {t:TE} (h:bC K t e):ai K t (bw e):=h.i
def FW:D→Int→Option D
 | .lst ds,i=>lh ds i
 | .tup ds,i=>lh ds i
 | .scr ns,i=>(lh ns i).map D.int
 | .str z,i=>if z.length≤Q4 then (lh z.cps.toList i).map fun c=>.str ⟨#[c]⟩ else none
 | _,_=>none
theorem IT {i:Int} (r:IsL K H Z vs ds) (h:lh ds i=some d):∃ v,lh vs i=some v∧Is K H Z v d:=by
 unfold lh at h ⊢;rw [r.length];cases e:ixN ds.length i with
 | none=>rw [e] at h; cases h
 | some j =>rw [e] at h;obtain ⟨v,e1,i1⟩:=r.get (i:=j) (show ds[j]?=some d from h);exact ⟨v,e1,i1⟩
theorem BK {ns:List Int} {i:Int} {n:Int} (h:lh ns i=some n):lh (ns.map V.int) i=some (.int n):=by
 unfold lh at h ⊢;rw [Q5];cases e:ixN ns.length i with
 | none=>rw [e] at h; cases h
 | some j =>rw [e] at h;have h':ns[j]?=some n:=h;show (ns.map V.int)[j]?=some (.int n);rw [Ro,h'];rfl
theorem LB {v:V} {e:D} {i:Int} (h:Is K H Z v d) (q:FW d i=some e) (k:∀ u,Is K H Z u e→Q u H):Mp K v (.int i) H Q:=by
 cases h with
 | lst hz h hl r =>obtain ⟨u,e1,i1⟩:=IT r (show lh _ i=some e from q);exact .inl ⟨_,_,i,u,rfl,rfl,.inl h,e1,k u i1⟩
 | tup hz h hl r =>obtain ⟨u,e1,i1⟩:=IT r (show lh _ i=some e from q);exact .inr (.inl ⟨_,_,i,u,rfl,rfl,.inl (.inl h),e1,k u i1⟩)
 | str z =>
  have q:(if z.length≤Q4 then (lh z.cps.toList i).map fun c=>D.str ⟨#[c]⟩ else none)=some e:=q;by_cases c:z.length≤Q4
  ·rw [if_pos c] at q;cases e2:lh z.cps.toList i with
   | none=>rw [e2] at q; cases q
   | some cp =>rw [e2] at q;cases q;exact .inr (.inr ⟨z,i,cp,rfl,rfl,c,e2,k _ (.str _)⟩)
  ·rw [if_neg c] at q; cases q
 | @scr p ns hz h hl =>
  have q:(lh ns i).map D.int=some e:=q;cases e2:lh ns i with
  | none=>rw [e2] at q; cases q
  | some n=>rw [e2] at q; cases q; exact .inl ⟨_,_,i,_,rfl,rfl,.inl h,BK e2,k _ (.int n)⟩
 | @scrK p ns h hl =>
  have q:(lh ns i).map D.int=some e:=q;cases e2:lh ns i with
  | none=>rw [e2] at q; cases q
  | some n=>rw [e2] at q; cases q; exact .inl ⟨_,_,i,_,rfl,rfl,.inr h,BK e2,k _ (.int n)⟩
 | _=>cases q
def cY (a b:DE):DE:=fun ρ=>match a ρ with
 | some d=>(match b ρ with
  | some (.int i)=>FW d i
  | _=>none)
 | none=>none
theorem BE (h:cY a b ρ=some d):∃ e i,a ρ=some e∧b ρ=some (.int i)∧FW e i=some d:=by
 unfold cY at h;split at h
 ·rename_i e e1;split at h
  ·rename_i i e2;exact ⟨e,i,e1,e2,h⟩
  ·cases h
 ·cases h
theorem bF (ha:bD K ta a) (hb:bD K tb b):bD K (tJ (Mp K) ta tb) (cY a b):=fun {B Z os ρ σ H Q d} f q k=>by obtain ⟨e,i,e1,e2,e3⟩:=BE q;refine ha f e1 fun v H1 s1 i1=>hb ‹70› e2 fun u H2 s2 i2=>?_;rw [i2.isInt];exact LB (i1.same s2) e3 fun w i3=>k _ _ ‹48› i3
theorem ja (ha:ai K ta a) (hb:bD K tb b):ai K (tJ (Mp K) ta tb) (cY a b):=fun {B Z os ρ σ H Q d} f q k=>by obtain ⟨e,i,e1,e2,e3⟩:=BE q;refine ha f e1 fun v H1 s1 i1=>hb ‹70› e2 fun u H2 s2 i2=>?_;rw [i2.isInt];exact LB (i1.same s2) e3 fun w i3=>k _ _ ‹48› i3
def D.v:D→V
 | .bl b=>.bl b
 | .int i=>.int i
 | .str x=>.str x
 | .ty n=>.ty n
 | _=>.non
theorem D.v_is (h:d.pB=true):Is K H Z d.v d:=by
 cases d with
 | non=>exact .non
 | bl b=>exact .bl b
 | int b=>exact .int b
 | str b=>exact .str b
 | ty b=>exact .ty b
 | _=>cases h
def fW (g:D→Option D) (a:DE):DE:=fun ρ=>match a ρ with
 | some d=>g d
 | none=>none
theorem Ay {r:List V→Hp→VK→Prop} {g:D→Option D} (hg:∀ {H v d e} {Q:VK},Is K H No v d→g d=some e→e.pB=true∧(Q e.v H→r [v] H Q)) (ha:bD K ta a):ai K (Dv r (cF ta fA)) (fW g a):=fun {B Z os ρ σ H Q d} f q k=>by
 unfold fW at q;split at q
 ·rename_i e e1;refine ha f e1 fun v H1 s1 i1=>?_;obtain ⟨hs,hr⟩:=hg (Q:=Q) i1 q;exact hr (k _ _ s1 (D.v_is hs))
 ·cases q
def dX:D→Option D
 | .lst ds=>some (.int ds.length)
 | .tup ds=>some (.int ds.length)
 | .scr ns=>some (.int ns.length)
 | .str y=>if y.length≤Q4 then some (.int y.length) else none
 | _=>none
theorem MZ {v:V} {e:D} (h:Is K H No v d) (q:dX d=some e):e.pB=true∧(Q e.v H→∃ x n,[v]=[x]∧KW K x H n∧Q (.int n) H):=by
 cases h with
 | lst hz h hl r=>cases q; exact ⟨rfl,fun k=>⟨_,_,rfl,.inl ⟨_,.inl h,rfl⟩,by rw [r.length]; exact k⟩⟩
 | tup hz h hl r=>cases q; exact ⟨rfl,fun k=>⟨_,_,rfl,.inr ⟨_,.inl (.inl h),rfl⟩,by rw [r.length]; exact k⟩⟩
 | str z =>
  have q:(if z.length≤Q4 then some (D.int z.length) else none)=some e:=q;by_cases c:z.length≤Q4
  ·rw [if_pos c] at q; cases q; exact ⟨rfl,fun k=>⟨_,_,rfl,⟨c,rfl⟩,k⟩⟩
  ·rw [if_neg c] at q; cases q
 | scr hz h hl=>cases q; exact ⟨rfl,fun k=>⟨_,_,rfl,.inl ⟨_,.inl h,rfl⟩,by rw [Q5]; exact k⟩⟩
 | scrK h hl=>cases q; exact ⟨rfl,fun k=>⟨_,_,rfl,.inl ⟨_,.inr h,rfl⟩,by rw [Q5]; exact k⟩⟩
 | _=>cases q
theorem dn (ha:bD K ta a):ai K (Dv (fun xs H Q=>∃ x n,xs=[x]∧KW K x H n∧Q (.int n) H) (cF ta fA)) (fW dX a):=Ay (fun h q=>MZ h q) ha
def oH:List D→Option (List Int)
 | []=>some []
 | .int i::r=>(oH r).map (i::·)
 | _=>none
theorem tZ:∀ {ds:List D} {ns:List Int},oH ds=some ns→ds=ns.map D.int
 | [],ns,h=>by cases h; rfl
 | .int i::r,ns,h=>by
  have h:(oH r).map (i::·)=some ns:=h;cases e:oH r with
  | none=>rw [e] at h; cases h
  | some ms=>rw [e] at h; cases h; rw [tZ e]; rfl
 | .non::_,_,h=>by cases h
 | .bl _::_,_,h=>by cases h
 | .str _::_,_,h=>by cases h
 | .ty _::_,_,h=>by cases h
 | .lst _::_,_,h=>by cases h
 | .tup _::_,_,h=>by cases h
 | .ins _::_,_,h=>by cases h
 | .dct _::_,_,h=>by cases h
 | .dsk _ _ _::_,_,h=>by cases h
 | .scr _::_,_,h=>by cases h
def ofInts (g:List Int→Option D):D→Option D
 | .lst ds=>(oH ds).bind g
 | _=>none
def intD:D→Option D
 | .int i=>some (.int i)
 | .bl b=>some (.int (if b=true then 1 else 0))
 | _=>none
theorem JF (ha:bD K ta a):ai K (Dv (fun xs H Q=>(∃ i,xs=[.int i]∧Q (.int i) H)∨∃ k,xs=[.bl k]∧Q (.int (if k then 1 else 0)) H) (cF ta fA)) (fW intD a):=by
 refine Ay (fun h q=>?_) ha;cases h with
 | int i=>cases q; exact ⟨rfl,fun k=>.inl ⟨i,rfl,k⟩⟩
 | bl b=>cases q; exact ⟨rfl,fun k=>.inr ⟨b,rfl,k⟩⟩
 | _=>cases q
def xv {α:Type} (xs:List α) (lo hi:Option Int):List α:=(xs.drop (HT.uB xs.length 0 lo)).take (HT.uB xs.length xs.length hi-HT.uB xs.length 0 lo)
theorem II {lo hi:Option Int} (r:IsL K H Z vs ds):IsL K H Z (FL vs lo hi) (xv ds lo hi):=by unfold FL xv;rw [r.length];exact (r.drop _).take _
noncomputable def xA (K:Q2) (t:TO) (e:aU→Option (Option Int)):Prop:=∀ {B:Hp} {Z:Q6→Prop} {os:Own} {ρ:aU} {σ:L2.St} {H:Hp} {Q:Option Int→Hp→Prop} {o:Option Int},Fr K B Z os ρ σ H→e ρ=some o→(∀ H',bu H H'→Q o H')→t σ H Q
def ft:aU→Option (Option Int):=fun _=>some none
def eM (a:DE):aU→Option (Option Int):=fun ρ=>match a ρ with
 | some (.int i)=>some (some i)
 | _=>none
theorem fo:xA K Ds ft:=fun f q k=>by cases q; exact k _ (bu.refl _)
theorem eI (ha:bD K ta a):xA K (K8 ta) (eM a):=fun {B Z os ρ σ H Q o} f q k=>by
 unfold eM at q;split at q
 ·rename_i i e;cases q;exact ha f e fun v H1 s1 i1=>⟨i,i1.isInt,k _ s1⟩
 ·cases q
def lN (a:DE):aU→Option (List D):=fun ρ=>match a ρ with
 | some d=>Pq d
 | none=>none
theorem kf {a:DE} (h:lN a ρ=some ds):∃ d,a ρ=some d∧Pq d=some ds:=by
 unfold lN at h;split at h
 ·exact ⟨_,by assumption,h⟩
 ·cases h
noncomputable def yn (a:DE) (lo hi:aU→Option (Option Int)):aU→Option (List D):=fun ρ=>match lN a ρ with
 | some ds=>(match lo ρ with
  | some l=>(match hi ρ with
   | some h=>some (xv ds l h)
   | none=>none)
  | none=>none)
 | _=>none
theorem BC {lo hi:aU→Option (Option Int)} (h:yn a lo hi ρ=some ds):∃ es l u,lN a ρ=some es∧lo ρ=some l∧hi ρ=some u∧ds=xv es l u:=by
 unfold yn at h;split at h
 ·rename_i es e1;split at h
  ·rename_i l e2;split at h
   ·rename_i u e3;exact ⟨es,l,u,e1,e2,e3,(R5 h).symm⟩
   ·cases h
  ·cases h
 ·cases h
theorem Is.vX {v:V} (h:Is K H Z v (.lst ds)):∃ p vs,v=.ref p∧¬ Z p∧Rd H p (.lst vs)∧vs.length≤Q4∧IsL K H Z vs ds:=by
 cases h with
 | lst hz h hl r=>exact ⟨_,_,rfl,hz,h,hl,r⟩
theorem Is.isTup {v:V} (h:Is K H Z v (.tup ds)):∃ p vs,v=.ref p∧¬ Z p∧H p=some (.tup vs)∧vs.length≤Q4∧IsL K H Z vs ds:=by
 cases h with
 | tup hz h hl r=>exact ⟨_,_,rfl,hz,h,hl,r⟩
theorem pN {tl th:TO} {lo hi:aU→Option (Option Int)} (ha:ai K ta a) (hl:xA K tl lo) (hh:xA K th hi):bC K (N7 (JP K) ta tl th) (yn a lo hi):=fun {B Z os ρ σ H Q ds} f q k=>by obtain ⟨es,l,u,e1,e2,e3,rfl⟩:=BC q;obtain ⟨d,e1,ed⟩:=kf e1;refine ha f e1 fun v H1 s1 i1=>hl ‹70› e2 fun H2 s2=>hh (f.grow ‹48›) e3 fun H3 s3=>?_;obtain ⟨p,vs,rfl,hn,_,hr⟩:=i1.seq ed;obtain ⟨hr,r⟩:=hr H3 _ (Kp.same (s2.trans s3));have s13:=‹48›.trans s3;exact ⟨p,vs,rfl,hr,fun n hn'=>k n _ _ (s13.trans (cx hn')) (bu.free s13 hn') br (RE (oF _ _ _) hn) ((II r).kp (vR hn'))⟩
def iE (ds:List D):Bool:=ds.all D.pB
theorem IsL.flat {H H':Hp} {Z Z':Q6→Prop}:∀ {vs:List V} {ds:List D},IsL K H Z vs ds→iE ds=true→IsL K H' Z' vs ds
 | _,_,.nil,_=>.nil
 | _,_,.cons h r,e=>by have e:=(RS _ _).mp (show (D.pB _&&iE _)=true from e);exact .cons (h.pB e.1) (r.flat e.2)
def yd (e:aU→Option (List D)):aU→Option (List D):=fun ρ=>match e ρ with
 | some ds=>if iE ds=true then some ds else none
 | none=>none
theorem CV (h:yd e ρ=some ds):e ρ=some ds∧iE ds=true:=by
 unfold yd at h;split at h
 ·rename_i es e1;by_cases c:iE es=true
  ·rw [if_pos c] at h; cases h; exact ⟨e1,c⟩
  ·rw [if_neg c] at h; cases h
 ·cases h
theorem Mj {tl th:TO} {lo hi:aU→Option (Option Int)} (ha:bD K ta a) (hl:xA K tl lo) (hh:xA K th hi):bC K (N7 (JP K) ta tl th) (yd (yn a lo hi)):=fun {B Z os ρ σ H Q ds} f q k=>by obtain ⟨q,hf⟩:=CV q;obtain ⟨es,l,u,e1,e2,e3,rfl⟩:=BC q;obtain ⟨d,e1,ed⟩:=kf e1;refine ha f e1 fun v H1 s1 i1=>hl ‹70› e2 fun H2 s2=>hh (f.grow ‹48›) e3 fun H3 s3=>?_;obtain ⟨p,vs,rfl,hn,_,hr⟩:=i1.seq ed;obtain ⟨hr,r⟩:=hr H3 _ (Kp.same (s2.trans s3));have s13:=‹48›.trans s3;exact ⟨p,vs,rfl,hr,fun n hn'=>k n _ _ (s13.trans (cx hn')) (bu.free s13 hn') br (RE (oF _ _ _) hn) ((II r).flat hf)⟩
def gI (a b:DE):aU→Option (List D):=fun ρ=>match a ρ with
 | some (.lst ds)=>(match b ρ with
  | some (.lst es)=>if ds.length+es.length≤Q4 then some (ds++es) else none
  | _=>none)
 | _=>none
theorem FI (h:gI a b ρ=some ds):∃ xs ys,a ρ=some (.lst xs)∧b ρ=some (.lst ys)∧xs.length+ys.length≤Q4∧ds=xs++ys:=by
 unfold gI at h;split at h
 ·rename_i xs e1;split at h
  ·rename_i ys e2;by_cases c:xs.length+ys.length≤Q4
   ·rw [if_pos c] at h; exact ⟨xs,ys,e1,e2,c,(R5 h).symm⟩
   ·rw [if_neg c] at h; cases h
  ·cases h
 ·cases h
theorem eK (ha:ai K ta a) (hb:ai K tb b):bC K (tJ G9 ta tb) (gI a b):=fun {B Z os ρ σ H Q ds} f q k=>by
 obtain ⟨xs,ys,e1,e2,hc,rfl⟩:=FI q;refine ha f e1 fun v H1 s1 i1=>hb ‹70› e2 fun u H2 s2 i2=>?_;obtain ⟨p,vs,rfl,hz,hr,hn,r⟩:=(i1.same s2).vX;obtain ⟨p2,us,rfl,hz2,hr2,hn2,r2⟩:=i2.vX;have hl:vs.length+us.length≤Q4:=by rw [r.length,r2.length]; exact hc
 have s12:=s1.trans s2;exact ⟨p,p2,vs,us,rfl,rfl,hr,hr2,hl,fun n hn'=>k n _ _ (s12.trans (cx hn')) (bu.free s12 hn') br (by rw [Ru]; exact hl) ((r.append r2).kp (vR hn'))⟩
noncomputable def C5 (a:aU→Option (List D)) (b:DE):aU→Option (List D):=fun ρ=>match a ρ with
 | some ds=>(match b ρ with
  | some (.int n)=>if -(2 ^ 63)≤n∧n<2 ^ 63∧ds.length*n.toNat≤Q4 then some (Rx n.toNat ds).flatten else none
  | _=>none)
 | none=>none
theorem IsL.rep {H:Hp} {Z:Q6→Prop} {vs:List V} {ds:List D} (r:IsL K H Z vs ds):∀ n,IsL K H Z (Rx n vs).flatten (Rx n ds).flatten
 | 0=>.nil
 | n+1=>by rw [S0,TB,S0,TB]; exact r.append (r.rep n)
theorem GR {a:aU→Option (List D)} (ha:bC K ta a) (hb:bD K tb b):bC K (tJ Oo ta tb) (C5 a b):=fun {B Z os ρ σ H Q ds} f q k=>by
 unfold C5 at q;split at q
 ·rename_i es e1;split at q
  ·rename_i n e2;by_cases c:-(2 ^ 63)≤n∧n<2 ^ 63∧es.length*n.toNat≤Q4
   ·rw [if_pos c] at q;cases q;refine ha f e1 fun p vs H1 s1 hp hp' hl i1=>hb ‹70› e2 fun u H2 s2 i2=>?_;rw [i2.isInt];have i1':=(i1.same s2).kp (Kp.less (Z':=cE Z os) fun a z=>.inr z);have hlen:vs.length*n.toNat≤Q4:=by rw [i1.length]; exact c.2.2
    have s12:=s1.trans s2;refine ⟨p,n,vs,rfl,rfl,s2 _ _ hp',c.1,c.2.1,hlen,fun x hx=>k x _ _ (s12.trans (cx hx)) (bu.free s12 hx) br ?_ ((i1'.rep _).kp (vR hx))⟩;rw [len_rep,Nat.mul_comm]; exact hlen
   ·rw [if_neg c] at q; cases q
  ·cases q
 ·cases q
def OV:D→List D→Option Bool
 | .int i,ds=>(oH ds).map fun ns=>decide (i∈ns)
 | _,_=>none
theorem Fx (k:Int) (hs:List Int):OT (.int k) (hs.map V.int)=decide (k∈hs):=by
 unfold OT;rw [Yv,RG,Vu,decide_eq_true_iff];constructor
 ·rintro ⟨x,hx,e⟩;have e':(x==k)=true:=e;rw [← beq_iff_eq.mp e'];exact hx
 ·intro h;exact ⟨k,h,show (k==k)=true from beq_self_eq_true k⟩
theorem CY (hs:List Int):(hs.map V.int).all ou=true:=by rw [Tn,Ry];intro x _;rfl
noncomputable def NV (neg:Bool) (a b:DE):DE:=fun ρ=>match a ρ with
 | some d=>(match b ρ with
  | some (.lst ds)=>(OV d ds).map fun c=>.bl (if neg then !c else c)
  | some (.tup ds)=>(OV d ds).map fun c=>.bl (if neg then !c else c)
  | _=>none)
 | none=>none
theorem Ic {v:V} {c:Bool} (i:Is K H Z v d) (r:IsL K H Z vs ds) (h:OV d ds=some c):ou v=true∧vs.all ou=true∧OT v vs=c:=by
 cases i with
 | int i =>
  have h:(oH ds).map (fun ns=>decide (i∈ns))=some c:=h;cases e:oH ds with
  | none=>rw [e] at h; cases h
  | some ns =>rw [e] at h;cases h;have e2:=tZ e;subst e2;rw [r.ints];exact ⟨rfl,CY ns,Fx i ns⟩
 | _=>cases h
theorem Oh (ha:bD K ta a) (hb:bD K tb b):ai K (tJ (PX K neg) ta tb) (NV neg a b):=fun {B Z os ρ σ H Q d} f q k=>by
 unfold NV at q;split at q
 ·rename_i e e1;split at q
  ·rename_i ds e2;cases q1:OV e ds with
   | none=>rw [q1] at q; cases q
   | some c =>rw [q1] at q;cases q;refine ha f e1 fun v H1 s1 i1=>hb ‹70› e2 fun u H2 s2 i2=>?_;obtain ⟨p,vs,rfl,hz,hr,hn,r⟩:=i2.vX;obtain ⟨h1,h2,h3⟩:=Ic (i1.same s2) r q1;exact ⟨p,vs,rfl,.inl (.inl hr),h1,h2,by rw [h3]; exact k _ _ ‹48› (.bl _)⟩
  ·rename_i ds e2;cases q1:OV e ds with
   | none=>rw [q1] at q; cases q
   | some c =>rw [q1] at q;cases q;refine ha f e1 fun v H1 s1 i1=>hb ‹70› e2 fun u H2 s2 i2=>?_;obtain ⟨p,vs,rfl,hz,hr,hn,r⟩:=i2.isTup;obtain ⟨h1,h2,h3⟩:=Ic (i1.same s2) r q1;exact ⟨p,vs,rfl,.inr (.inl (.inl hr)),h1,h2,by rw [h3]; exact k _ _ ‹48› (.bl _)⟩
  ·cases q
 ·cases q
end
end
end
section
open Classical
section
instance:Inhabited D:=⟨.non⟩
theorem Mo {a:Q6} {xs ys:List V} (h:Rd H a (.lst xs)) (h':Rd H a (.lst ys)):xs=ys:=by rcases h with h | ⟨o,h⟩ <;> rcases h' with h' | ⟨o',h'⟩ <;> rw [h] at h' <;> cases h' <;> rfl
noncomputable def nN:Nat→D→D→Bool
 | _,.int _,.int _=>true
 | _,.bl _,.bl _=>true
 | _,.str _,.str _=>true
 | _,.non,.non=>true
 | n+1,.lst xs,.lst ys=>decide (xs.length≠ys.length) || (WT xs ys).all fun p=>nN n p.1 p.2
 | n+1,.tup xs,.tup ys=>decide (xs.length=ys.length)&&(WT xs ys).all fun p=>nN n p.1 p.2
 | _,_,_=>false
theorem FZ {xs ys:List D} {j:Nat} {a b:D} {p:D×D→Bool} (h:(WT xs ys).all p=true) (e1:xs[j]?=some a) (e2:ys[j]?=some b):p (a,b)=true :=
 Ry.mp h _ (RB (i:=j) (List.getElem?_zip_eq_some.mpr ⟨e1,e2⟩))
inductive Cm:Nat→D→D→Prop
 | int {n:Nat} (a b:Int):Cm n (.int a) (.int b)
 | bl {n:Nat} (a b:Bool):Cm n (.bl a) (.bl b)
 | str {n:Nat} (a b:Rf):Cm n (.str a) (.str b)
 | non {n:Nat}:Cm n .non .non
 | lst {n:Nat} {xs ys:List D} (h:xs.length=ys.length→(WT xs ys).all (fun p=>nN n p.1 p.2)=true):Cm (n+1) (.lst xs) (.lst ys)
 | tup {n:Nat} {xs ys:List D} (hl:xs.length=ys.length) (h:(WT xs ys).all (fun p=>nN n p.1 p.2)=true):Cm (n+1) (.tup xs) (.tup ys)
theorem rY {e:D} (hc:nN n d e=true):Cm n d e:=by
 unfold nN at hc;split at hc
 ·exact .int _ _
 ·exact .bl _ _
 ·exact .str _ _
 ·exact .non
 ·exact .lst fun hl=>by simpa [hl] using hc
 ·rw [RS] at hc; exact .tup (of_decide_eq_true hc.1) hc.2
 ·cases hc
theorem Is.qR {v:V} {a:Int} (i:Is K H Z v (.int a)):v=.int a:=by cases i; rfl
theorem Is.yG {v:V} {a:Bool} (i:Is K H Z v (.bl a)):v=.bl a:=by cases i; rfl
theorem Is.tH {v:V} {a:Rf} (i:Is K H Z v (.str a)):v=.str a:=by cases i; rfl
theorem Is.xG {v:V} (i:Is K H Z v .non):v=.non:=by cases i; rfl
theorem Is.tI {v:V} (i:Is K H Z v (.lst ds)):∃ a vs,v=.ref a∧¬ Z a∧Rd H a (.lst vs)∧vs.length≤Q4∧IsL K H Z vs ds:=by cases i with | lst hz h hl r=>exact ⟨_,_,rfl,hz,h,hl,r⟩
theorem Is.tG {v:V} (i:Is K H Z v (.tup ds)):∃ a vs,v=.ref a∧¬ Z a∧H a=some (.tup vs)∧vs.length≤Q4∧IsL K H Z vs ds:=by cases i with | tup hz h hl r=>exact ⟨_,_,rfl,hz,h,hl,r⟩
theorem Is.inj {Z':Q6→Prop}:∀ (n:Nat) {v:V} {d e:D},nN n d e=true→Is K H Z v d→Is K H Z' v e→d=e:=by
 intro n;induction n using UZ with | ind n ih=>?_
 have lists:∀ {m:Nat},m<n→∀ {vs:List V} {ds es:List D},(WT ds es).all (fun p=>nN m p.1 p.2)=true→IsL K H Z vs ds→IsL K H Z' vs es→ds=es:=by intro m hm vs ds es hc r r';have l1:=r.length;have l2:=r'.length;refine YG (by lia) fun k h1 h2=>?_;obtain ⟨v,e1,i1⟩:=r.get (Q8 h1);obtain ⟨v',e2,i2⟩:=r'.get (Q8 h2);rw [e1] at e2;cases e2;exact ih m hm (FZ hc (Q8 h1) (Q8 h2)) i1 i2
 intro v d e hc i j;cases rY hc with
 | int=>have h:=i.qR; rw [j.qR] at h; cases h; rfl
 | bl=>have h:=i.yG; rw [j.yG] at h; cases h; rfl
 | str=>have h:=i.tH; rw [j.tH] at h; cases h; rfl
 | non=>rfl
 | lst h =>obtain ⟨p,xs,rfl,z1,h1,l1,g1⟩:=i.tI;obtain ⟨q,ys,e,z2,h2,l2,g2⟩:=j.tI;cases e;have e:=Mo h1 h2;subst e;rw [lists (SO _) (h (by have:=g1.length; have:=g2.length; lia)) g1 g2]
 | tup hl h =>obtain ⟨p,xs,rfl,z1,h1,l1,g1⟩:=i.tG;obtain ⟨q,ys,e,z2,h2,l2,g2⟩:=j.tG;cases e;rw [h1] at h2;cases h2;rw [lists (SO _) h g1 g2]
section
variable {X:Cx} {pins:List (Q6×TK)} {σ:L2.St} {H:Hp} {s:Rb}
theorem z8 (xs ys:List D):decide (D.lst xs=D.lst ys)=decide (xs=ys):=by rw [RG,decide_eq_true_iff,decide_eq_true_iff];exact ⟨fun h=>D.lst.inj h,fun h=>by rw [h]⟩
theorem z7 (xs ys:List D):decide (D.tup xs=D.tup ys)=decide (xs=ys):=by rw [RG,decide_eq_true_iff,decide_eq_true_iff];exact ⟨fun h=>D.tup.inj h,fun h=>by rw [h]⟩
theorem rW (a b:Int):decide (D.int a=D.int b)=(a==b):=by rw [RG,decide_eq_true_iff,beq_iff_eq];exact ⟨fun h=>D.int.inj h,fun h=>by rw [h]⟩
theorem Ab (a b:Bool):decide (D.bl a=D.bl b)=(a==b):=by rw [RG,decide_eq_true_iff,beq_iff_eq];exact ⟨fun h=>D.bl.inj h,fun h=>by rw [h]⟩
theorem uP (a b:Rf):decide (D.str a=D.str b)=(a==b):=by rw [RG,decide_eq_true_iff,beq_iff_eq];exact ⟨fun h=>D.str.inj h,fun h=>by rw [h]⟩
theorem DN {l b:Q6} {us ws:List Q7} {ns ms:List D} (p1:s.heap.IsTuple l us.toArray) (p2:s.heap.IsTuple b ws.toArray) (hl:us.length=ns.length) (hl2:ws.length=ms.length) (hs:ns.length=ms.length) (hu:A.units<V3)
 (h:∀ (j:Nat) (u v:Q7) (a b:D),us[j]?=some u→ws[j]?=some v→ns[j]?=some a→ms[j]?=some b→Ua A.in1 s u v (decide (a=b))) :
 SeqAt.RcAt A s (.ref l) (.ref b) (decide (ns=ms)):=by
 have q:=SeqAt.RcAt.tuples (e:=fun j=>decide ‹53›) p1 p2 hu (mK hl hl2 h);have e:((Rl (min us.toArray.size ws.toArray.size)).all fun j=>decide ‹53›)=decide (ns=ms):=by rw [Rr,Rr,hl,hl2,← hs,Yw]; exact jw default hs
 have e2:(us.toArray.size==ws.toArray.size)=true:=by simp; lia
 rw [e,e2,VB] at q;exact q
theorem E3 {l b:Q6} {us ws:List Q7} {ns ms:List D} (p1:s.heap.IsTuple l us.toArray) (p2:s.heap.IsTuple b ws.toArray) (hl:us.length=ns.length) (hl2:ws.length=ms.length) (hs:ns.length=ms.length) (hu:A.units<V3)
 (h:∀ (j:Nat) (u v:Q7) (a b:D),us[j]?=some u→ws[j]?=some v→ns[j]?=some a→ms[j]?=some b→Ua A.in1 s u v (decide (a=b))) :
 Zm A s (.ref l) (.ref b) (!decide (ns=ms)):=by
 have q:=SeqAt.RcNeAt.tuples (e:=fun j=>decide ‹53›) p1 p2 hu (mK hl hl2 h);have e:((Rl (min us.toArray.size ws.toArray.size)).all fun j=>decide ‹53›)=decide (ns=ms):=by rw [Rr,Rr,hl,hl2,← hs,Yw]; exact jw default hs
 have e2:(us.toArray.size==ws.toArray.size)=true:=by simp; lia
 rw [e,e2,VB] at q;exact q
theorem in1_units:A.in1.units=A.units+1:=rfl
theorem lI {xs ys:List V} {us ws:List Q7} {es:List D} (hc:(WT ds es).all (fun p=>nN n p.1 p.2)=true) (r1:Vals xs us) (r2:Vals ys ws) (g1:IsL K H No xs ds) (g2:IsL K H No ys es)
 (ih:∀ {v w:V} {d e:D} {u x:Q7},RelV v u→RelV w x→Is K H No v d→Is K H No w e→nN n d e=true→Ua A s u x (decide (d=e))) :
 ∀ (j:Nat) (u v:Q7) (a b:D),us[j]?=some u→ws[j]?=some v→ds[j]?=some a→es[j]?=some b→Ua A s u v (decide (a=b)):=by
 intro j u v a b e1 e2 e3 e4;obtain ⟨x,f1,i1⟩:=g1.get e3;obtain ⟨y,f2,i2⟩:=g2.get e4;obtain ⟨u',q1,k1⟩:=r1.get f1;obtain ⟨v',q2,k2⟩:=r2.get f2;rw [e1] at q1; cases q1;rw [e2] at q2; cases q2;exact ih k1 k2 i1 i2 (FZ hc e3 e4)
theorem uN (I:Inv X pins σ H s):∀ (n:Nat) {A:SG},A.units+n<V3→∀ {v w:V} {d e:D} {u x:Q7},RelV v u→RelV w x→Is K H No v d→Is K H No w e→nN n d e=true→Ua A s u x (decide (d=e)):=by
 intro n;induction n using UZ with | ind n ih=>?_
 intro A hu v w d e u x r1 r2 i1 i2 hc;have hc0:=hc;cases rY hc with
 | int a b=>rw [i1.qR] at r1; rw [i2.qR] at r2; obtain ⟨t,rfl⟩:=r1; obtain ⟨t',rfl⟩:=r2; rw [rW]; exact X9 a t b t'
 | bl a b=>rw [i1.yG] at r1; rw [i2.yG] at r2; cases r1; cases r2; rw [Ab]; exact XD a b
 | str a b=>rw [i1.tH] at r1; rw [i2.tH] at r2; obtain ⟨t,rfl⟩:=r1; obtain ⟨t',rfl⟩:=r2; rw [uP]; exact Ya a t b t'
 | non=>rw [i1.xG] at r1; rw [i2.xG] at r2; cases r1; cases r2; rw [decide_eq_true rfl]; exact VM _
 | @lst n ds es h =>
  have j1:=i1;have j2:=i2;obtain ⟨p,xs,rfl,z1,h1,l1,g1⟩:=i1.tI;obtain ⟨q,ys,rfl,z2,h2,l2,g2⟩:=i2.tI;cases r1;cases r2;by_cases hpq:p=q
  ·subst hpq;rw [decide_eq_true (Is.inj _ hc0 j1 j2)];exact VM _
  ·obtain ⟨_,us,m1,k1,n1,o1⟩:=I.Bg h1;obtain ⟨_,ws,m2,k2,n2,o2⟩:=I.Bg h2;rw [z8];have e1:=g1.length;have e2:=g2.length;refine Yd hpq ?_;by_cases hl:ds.length=es.length
   ·exact vD ⟨_,o1,rfl,_,rfl⟩ ⟨_,o2,rfl,_,rfl⟩ (by lia) (by lia) (by lia) (lI (h hl) k1 k2 g1 g2 (ih n (SO _) (by rw [in1_units]; lia)))
   ·have q:=US (A:=A) (s:=s) (items:=us.toArray) (items2:=ws.toArray) ⟨_,o1,rfl,_,rfl⟩ ⟨_,o2,rfl,_,rfl⟩ (by simp; lia) (by lia);have e:decide (ds=es)=false:=decide_eq_false fun z=>hl (by rw [z]);rw [e];exact q
 | @tup n ds es hl h =>
  have j1:=i1;have j2:=i2;obtain ⟨p,xs,rfl,z1,h1,l1,g1⟩:=i1.tG;obtain ⟨q,ys,rfl,z2,h2,l2,g2⟩:=i2.tG;cases r1;cases r2;by_cases hpq:p=q
  ·subst hpq;rw [decide_eq_true (Is.inj _ hc0 j1 j2)];exact VM _
  ·obtain ⟨us,k1,o1,_⟩:=I.tuple (xs:=xs) (.inl (.inl h1));obtain ⟨ws,k2,o2,_⟩:=I.tuple (xs:=ys) (.inl (.inl h2));rw [z7];have e1:=g1.length;have e2:=g2.length;have n1:=k1.length;have n2:=k2.length;exact Yd hpq (DN o1 o2 (by lia) (by lia) hl (by lia) (lI h k1 k2 g1 g2 (ih n (SO _) (by rw [in1_units]; lia))))
def JQ (K:Q2) (neg:Bool):R2:=fun x y H Q=>∃ d e,Is K H No x d∧Is K H No y e∧nN 20 d e=true∧Q (.bl (if neg=true then !decide (d=e) else decide (d=e))) H
theorem bH (hu:X.A.units+64<V3):sx X (S8 .Eq) (JQ K false):=by
 intro pins s σ H x y v u Q I rx ry h;obtain ⟨d,e,i1,i2,hc,h⟩:=h;rw [if_neg Rn] at h;cases rY hc with
 | int a b=>obtain rfl:=i1.qR; obtain rfl:=i2.qR; exact D0 pins s σ H _ _ v u Q I rx ry ⟨rfl,by rw [show decide (V.int a=V.int b)=decide (D.int a=D.int b) from decide_eq_decide.mpr ⟨fun q=>by cases q; rfl,fun q=>by cases q; rfl⟩]; exact h⟩
 | bl a b=>obtain rfl:=i1.yG; obtain rfl:=i2.yG; exact D0 pins s σ H _ _ v u Q I rx ry ⟨rfl,by rw [show decide (V.bl a=V.bl b)=decide (D.bl a=D.bl b) from decide_eq_decide.mpr ⟨fun q=>by cases q; rfl,fun q=>by cases q; rfl⟩]; exact h⟩
 | str a b=>obtain rfl:=i1.tH; obtain rfl:=i2.tH; exact D0 pins s σ H _ _ v u Q I rx ry ⟨rfl,by rw [show decide (V.str a=V.str b)=decide (D.str a=D.str b) from decide_eq_decide.mpr ⟨fun q=>by cases q; rfl,fun q=>by cases q; rfl⟩]; exact h⟩
 | non=>obtain rfl:=i1.xG; obtain rfl:=i2.xG; exact D0 pins s σ H _ _ v u Q I rx ry ⟨rfl,by rw [show decide (V.non=V.non)=decide (D.non=D.non) from decide_eq_decide.mpr ⟨fun q=>rfl,fun q=>rfl⟩]; exact h⟩
 | @lst n ds es hh =>
  show 1
  ·exact vD ⟨_,o1,rfl,_,rfl⟩ ⟨_,o2,rfl,_,rfl⟩ (by lia) (by lia) (by lia) (lI (hh hl) k1 k2 g1 g2 (uN I 19 (by rw [in1_units]; lia))) X.prog X.w X.xe _ ⟨.bl _,H,I,rfl,h⟩
  ·have q:=US (A:=X.A) (s:=s) (items:=us.toArray) (items2:=ws.toArray) ⟨_,o1,rfl,_,rfl⟩ ⟨_,o2,rfl,_,rfl⟩ (by simp; lia) (by lia);have e:decide (ds=es)=false:=decide_eq_false fun z=>hl (by rw [z]);rw [e] at h;exact q X.prog X.w X.xe _ ⟨.bl _,H,I,rfl,h⟩
 | @tup n ds es hl hh =>obtain ⟨p,xs,rfl,z1,h1,l1,g1⟩:=i1.tG;obtain ⟨q,ys,rfl,z2,h2,l2,g2⟩:=i2.tG;cases rx;cases ry;obtain ⟨us,k1,o1,_⟩:=I.tuple (xs:=xs) (.inl (.inl h1));obtain ⟨ws,k2,o2,_⟩:=I.tuple (xs:=ys) (.inl (.inl h2));rw [z7] at h;have e1:=g1.length;have e2:=g2.length;have n1:=k1.length;have n2:=k2.length;exact DN o1 o2 (by lia) (by lia) hl (by lia) (lI hh k1 k2 g1 g2 (uN I 19 (by rw [in1_units]; lia))) X.prog X.w X.xe _ ⟨.bl _,H,I,rfl,h⟩
theorem g7 (hu:X.A.units+64<V3):sx X (S8 .NotEq) (JQ K true):=by
 intro pins s σ H x y v u Q I rx ry h;obtain ⟨d,e,i1,i2,hc,h⟩:=h;rw [if_pos rfl] at h;cases rY hc with
 | int a b=>obtain rfl:=i1.qR; obtain rfl:=i2.qR; exact DY pins s σ H _ _ v u Q I rx ry ⟨rfl,by rw [show decide (V.int a=V.int b)=decide (D.int a=D.int b) from decide_eq_decide.mpr ⟨fun q=>by cases q; rfl,fun q=>by cases q; rfl⟩]; exact h⟩
 | bl a b=>obtain rfl:=i1.yG; obtain rfl:=i2.yG; exact DY pins s σ H _ _ v u Q I rx ry ⟨rfl,by rw [show decide (V.bl a=V.bl b)=decide (D.bl a=D.bl b) from decide_eq_decide.mpr ⟨fun q=>by cases q; rfl,fun q=>by cases q; rfl⟩]; exact h⟩
 | str a b=>obtain rfl:=i1.tH; obtain rfl:=i2.tH; exact DY pins s σ H _ _ v u Q I rx ry ⟨rfl,by rw [show decide (V.str a=V.str b)=decide (D.str a=D.str b) from decide_eq_decide.mpr ⟨fun q=>by cases q; rfl,fun q=>by cases q; rfl⟩]; exact h⟩
 | non=>obtain rfl:=i1.xG; obtain rfl:=i2.xG; exact DY pins s σ H _ _ v u Q I rx ry ⟨rfl,by rw [show decide (V.non=V.non)=decide (D.non=D.non) from decide_eq_decide.mpr ⟨fun q=>rfl,fun q=>rfl⟩]; exact h⟩
 | @lst n ds es hh =>
  show 1
  ·exact zA ⟨_,o1,rfl,_,rfl⟩ ⟨_,o2,rfl,_,rfl⟩ (by lia) (by lia) (by lia) (lI (hh hl) k1 k2 g1 g2 (uN I 19 (by rw [in1_units]; lia))) X.prog X.w X.xe _ ⟨.bl _,H,I,rfl,h⟩
  ·have q:=V5 (A:=X.A) (s:=s) (items:=us.toArray) (items2:=ws.toArray) ⟨_,o1,rfl,_,rfl⟩ ⟨_,o2,rfl,_,rfl⟩ (by simp; lia) (by lia);have e:decide (ds=es)=false:=decide_eq_false fun z=>hl (by rw [z]);rw [e] at h;exact q X.prog X.w X.xe _ ⟨.bl _,H,I,rfl,h⟩
 | @tup n ds es hl hh =>obtain ⟨p,xs,rfl,z1,h1,l1,g1⟩:=i1.tG;obtain ⟨q,ys,rfl,z2,h2,l2,g2⟩:=i2.tG;cases rx;cases ry;obtain ⟨us,k1,o1,_⟩:=I.tuple (xs:=xs) (.inl (.inl h1));obtain ⟨ws,k2,o2,_⟩:=I.tuple (xs:=ys) (.inl (.inl h2));rw [z7] at h;have e1:=g1.length;have e2:=g2.length;have n1:=k1.length;have n2:=k2.length;exact E3 o1 o2 (by lia) (by lia) hl (by lia) (lI hh k1 k2 g1 g2 (uN I 19 (by rw [in1_units]; lia))) X.prog X.w X.xe _ ⟨.bl _,H,I,rfl,h⟩
end
section
variable {ta tb:TE} {a b:DE}
def dN (neg:Bool) (a b:DE):DE:=fun ρ=>match a ρ with
 | some d=>(match b ρ with
  | some e=>if nN 20 d e=true then some (.bl (if neg=true then !decide (d=e) else decide (d=e))) else none
  | none=>none)
 | none=>none
theorem bR [cu] (ha:bD K ta a) (hb:bD K tb b):ai K (tJ (JQ K neg) ta tb) (dN neg a b):=fun {B Z os ρ σ H Q d} f q k=>by
 unfold dN at q;split at q
 ·rename_i x e1;split at q
  ·rename_i y e2;by_cases c:nN 20 x y=true
   ·rw [if_pos c] at q;cases q;exact ha f e1 fun v H1 s1 i1=>hb ‹70› e2 fun u H2 s2 i2=>⟨x,y,i1.same s2,i2,c,k _ _ ‹48› (.bl _)⟩
   ·rw [if_neg c] at q; cases q
  ·cases q
 ·cases q
end
end
end
end VL
namespace L2
variable {es:List Sv} {t:Am} {n:Nat} {pos:VJ}
open PySem PySem.Spec PyProof.Rows
section
variable {X:Cx}
def Ks (K:Q2) (n:Nat) (t:Am):TG:=fun v σ H Q=>OZ K n t v σ H Q∨O0 K n t v σ H Q
theorem MB {k:Nat} (hc:X.calm=true) (h:NM X es t)
 (hn:(Ti es X.env).length=n:=by rfl) (hst:(Ti es X.env).findIdx? (·.1)=none:=by rfl):PG X (.Tuple es k pos) (Ks X.K n t):=by
 intro pins s σ H v u Q I r hw;rcases hw with hw | hw
 ·exact Mz hc h hn hst pins s σ H v u Q I r hw
 ·exact MC hc h hn hst pins s σ H v u Q I r hw
theorem rJ {K:Q2} {k:Nat} (hK:X.K=K) (hc:X.calm=true) (h:NM X es t)
 (hn:(Ti es X.env).length=n:=by rfl) (hst:(Ti es X.env).findIdx? (·.1)=none:=by rfl):PG X (.Tuple es k pos) (Ks K n t):=by
 subst hK;exact MB hc h hn hst
end
end L2
namespace VL
variable {wi:TI} {H:Hp} {a:DE} {m:Bool} {T:Q6→Prop} {vs:List V} {ds:List D} {tl:TE} {lo:Int} {n:Nat} {d:D} {ta:TE} {B:Hp} {Z:Q6→Prop} {os:Own} {ρ:aU} {σ:L2.St} {u:Am} {it:aU→Option (List D)} {ms:List Bool} {tc:TT} {t:TG} {tb:TS} {P:Sd} {mg:Rf→Option Q7} {base:SA} {st:SJ} {f:Q6} {fd:SM}
open PySem L2
section
open Classical
section
variable [cu] {K:Q2}
def LQ (K:Q2) (t:TE) (e:DE):Prop:=∀ {B:Hp} {Z:Q6→Prop} {os:Own} {ρ:aU} {σ:L2.St} {H:Hp} {Q:VK} {d:D},Fr K B Z os ρ σ H→e ρ=some d→(∀ v H',bu H H'→Is K B No v d→Q v H')→t σ H Q
def tX (i:Nat):DE:=fun ρ=>match ρ.getD i .un with
 | .bo d=>some d
 | _=>none
theorem y3 (i:Nat):LQ K (i8 i) (tX i):=fun {B Z os ρ σ H Q d} f q k=>by
 have s:=f.sl i;unfold tX at q;cases e:ρ.getD i .un with
 | bo d' =>rw [e] at q s;cases q;obtain ⟨_,u,hu,i⟩:=s;exact ⟨u,join_some hu,k u H (bu.refl _) i⟩
 | _=>rw [e] at q; cases q
def ER (K:Q2) (m:Bool) (Bx H:Hp) (T:Q6→Prop) (x:V) (d:D):Prop:=match m with
 | true=>Is K H T x d
 | false=>Is K Bx No x d
structure Walk (K:Q2) (m:Bool) (Bx:Hp) (J:It) (H1:Hp) (T:Q6→Prop) (ds:List D):Prop where
 len:ds.length≤Q4
 go:∀ (i:Nat) (d:D) (H2:Hp) (T2:Q6→Prop),Kp T H1 T2 H2→bu Bx H2→(∀ a,T2 a→∃ o,H2 a=some o)→ds[i]?=some d→J.go i H2∧∀ x H3,J.NR i H2 x H3→bu H2 H3∧ER K m Bx H3 T2 x d
 stop:∀ (i:Nat) (H2:Hp) (T2:Q6→Prop),Kp T H1 T2 H2→bu Bx H2→ds.length=i→J.stop i H2
noncomputable def gV (K:Q2) (m:Bool) (wi:TI) (e:aU→Option (List D)):Prop:=∀ {B:Hp} {Z:Q6→Prop} {os:Own} {ρ:aU} {σ:L2.St} {H:Hp} {R:It→Hp→Prop} {ds:List D},Fr K B Z os ρ σ H→e ρ=some ds→(∀ J H1,bu H H1→Walk K m B J H1 (cE Z os) ds→R J H1)→wi σ H R
noncomputable def yx (K:Q2) (m:Bool) (wi:TI) (e:aU→Option (List D)):Prop:=∀ {B:Hp} {Z:Q6→Prop} {os:Own} {ρ:aU} {σ:L2.St} {H:Hp} {R:It→Hp→Prop} {ds:List D},Fr K B Z os ρ σ H→e ρ=some ds→(∀ J H1,bu H H1→Walk K m H1 J H1 (cE Z os) ds→R J H1)→wi σ H R
theorem gV.c {e:aU→Option (List D)} (h:gV K true wi e):yx K true wi e:=fun f q k=>h f q fun J H1 s w=>k J H1 s ⟨w.len,fun i d H2 T2 kp sm hd e=>w.go i d H2 T2 kp ((f.keep.trans s).trans sm) hd e,fun i H2 T2 kp sm hl=>w.stop i H2 T2 kp ((f.keep.trans s).trans sm) hl⟩
theorem Rd.same {H':Hp} {a:Q6} {u:HO} (h:Rd H a u) (s:bu H H'):Rd H' a u:=by
 rcases h with h | ⟨o,h⟩
 ·exact .inl (s _ _ h)
 ·exact .inr ⟨o,s _ _ h⟩
theorem jN {Bx H1:Hp} {p:Q6} (hl:ds.length≤Q4) (hd0:∀ H2 T2,Kp T H1 T2 H2→bu Bx H2→mS K H2 p vs) (hn:vs.length=ds.length)
 (hi:∀ H2 T2 (i:Nat) v d,Kp T H1 T2 H2→bu Bx H2→vs[i]?=some v→ds[i]?=some d→ER K m Bx H2 T2 v d):Walk K m Bx (Qj K p) H1 T ds:=by
 refine ⟨hl,fun i d H2 T2 kp sb hd e=>?_,fun i H2 T2 kp sb hi=>⟨vs,hd0 H2 T2 kp sb,by lia⟩⟩;have hr2:=hd0 H2 T2 kp sb;have hi':i<vs.length:=by rw [hn]; exact (Rp.mp e).1
 have e1:vs[i]?=some vs[i]:=Q8 hi';refine ⟨⟨vs,_,hr2,e1⟩,fun x H3 ⟨e3,hx⟩=>?_⟩;subst e3;have:=hx vs hr2;rw [e1] at this;cases this;exact ⟨bu.refl _,hi _ T2 i _ d kp sb e1 e⟩
theorem fm (ha:ai K tl a):gV K true (Bl K tl) (lN a):=fun {B Z os ρ σ H R ds} f q k=>by obtain ⟨d,q,ed⟩:=kf q;refine ha f q fun v H1 s1 i1=>?_;obtain ⟨p,vs,rfl,hl,hn,hr⟩:=i1.seq ed;refine ⟨p,rfl,⟨vs,(hr H1 _ Kp.refl).1⟩,k _ _ s1 (jN (vs:=vs) (by lia) (fun H2 T2 kp _=>(hr H2 T2 kp).1) hn fun H2 T2 i v d kp _ e1 e2=>?_)⟩;obtain ⟨v',f1,i2⟩:=(hr H2 T2 kp).2.get e2;rw [e1] at f1;cases f1;exact i2
theorem qW (ha:LQ K tl a):gV K false (Bl K tl) (lN a):=fun {B Z os ρ σ H R ds} f q k=>by obtain ⟨d,q,ed⟩:=kf q;refine ha f q fun v H1 s1 i1=>?_;obtain ⟨p,vs,rfl,hl,hn,hr⟩:=i1.seq ed;refine ⟨p,rfl,⟨vs,(hr H1 No (Kp.same (f.keep.trans s1))).1⟩,k _ _ s1 (jN (vs:=vs) (by lia) (fun H2 T2 kp sb=>(hr H2 No (Kp.same sb)).1) hn fun H2 T2 i v d kp sb e1 e2=>?_)⟩;obtain ⟨v',f1,i2⟩:=(hr B No Kp.refl).2.get e2;rw [e1] at f1;cases f1;exact i2
theorem lr (ha:bD K tl a):yx K false (Bl K tl) (lN a):=fun {B Z os ρ σ H R ds} f q k=>by obtain ⟨d,q,ed⟩:=kf q;refine ha f q fun v H1 s1 i1=>?_;obtain ⟨p,vs,rfl,hl,hn,hr⟩:=i1.seq ed;refine ⟨p,rfl,⟨vs,(hr H1 _ Kp.refl).1⟩,k _ _ s1 (jN (vs:=vs) (by lia) (fun H2 T2 kp sb=>(hr H2 No (Kp.same sb)).1) hn fun H2 T2 i v d kp sb e1 e2=>?_)⟩;obtain ⟨v',f1,i2⟩:=(hr H1 No Kp.refl).2.get e2;rw [e1] at f1;cases f1;exact i2
def Gd (lo:Int) (n:Nat):List D:=(Rl n).map fun (i:Nat)=>.int (lo+(i:Int))
theorem ur:(Gd lo n).length=n:=by unfold Gd; rw [Q5,R6]
theorem yH {i:Nat} (h:(Gd lo n)[i]?=some d):i<n∧d=.int (lo+i):=by
 unfold Gd at h;rw [Ro] at h;by_cases hi:i<n
 ·rw [TL hi] at h; cases h; exact ⟨hi,rfl⟩
 ·rw [Sf (by rw [R6]; lia)] at h; cases h
theorem BX {Bx H1:Hp} (hn:n≤Q4):Walk K m Bx (PH lo n) H1 T (Gd lo n):=by
 refine ⟨by rw [ur]; exact hn,fun i d H2 T2 kp _ hd e=>?_,fun i H2 T2 kp _ hi=>by rw [ur] at hi; exact VT hi⟩;obtain ⟨hi,rfl⟩:=yH e;refine ⟨hi,fun x H3 ⟨e3,ex⟩=>?_⟩;subst e3 ex;cases m
 ·exact ⟨bu.refl _,.int _⟩
 ·exact ⟨bu.refl _,.int _⟩
def ig (a:DE):aU→Option (List D):=fun ρ=>match a ρ with
 | some (.int j)=>if -(2 ^ 62)≤j∧j.toNat≤Q4 then some (Gd 0 j.toNat) else none
 | _=>none
theorem cW (ha:bD K ta a):gV K true (LF (cF ta fA)) (ig a):=fun {B Z os ρ σ H R ds} f q k=>by
 unfold ig at q;split at q
 ·rename_i j e;by_cases c:-(2 ^ 62)≤j∧j.toNat≤Q4
  ·rw [if_pos c] at q;cases q;have hs:Q4=16777216:=Rw;exact ha f e fun v H1 s1 i1=>⟨j,by rw [i1.isInt],c.1,by lia,k _ _ s1 (BX c.2)⟩
  ·rw [if_neg c] at q; cases q
 ·cases q
abbrev DG:=D→aU→Option aU
abbrev NP:=List D→aU→Option aU
noncomputable def BL (K:Q2) (m:Bool) (g:TG) (e:DG):Prop:=∀ {B:Hp} {Z:Q6→Prop} {os:Own} {ρ:aU} {σ:L2.St} {H:Hp} {Q:L2.St→Hp→Prop} {v:V} {d:D} {ρ':aU},Fr K B Z os ρ σ H→ER K m B H (cE Z os) v d→e d ρ=some ρ' →
 (∀ os' σ',Fr K B Z os' ρ' σ' H→Kp (cE Z os) H (cE Z os') H→Q σ' H)→g v σ H Q
def QM (K:Q2) (m:Bool) (Bx H:Hp) (T:Q6→Prop) (vs:List V) (ds:List D):Prop:=match m with
 | true=>IsL K H T vs ds
 | false=>IsL K Bx No vs ds
noncomputable def Ep (K:Q2) (m:Bool) (g:Am) (e:NP):Prop:=∀ {B:Hp} {Z:Q6→Prop} {os:Own} {ρ:aU} {σ:L2.St} {H:Hp} {Q:L2.St→Hp→Prop} {vs:List V} {ds:List D} {ρ':aU},Fr K B Z os ρ σ H→QM K m B H (cE Z os) vs ds→e ds ρ=some ρ' →
 (∀ os' σ',Fr K B Z os' ρ' σ' H→Kp (cE Z os) H (cE Z os') H→Q σ' H)→g vs σ H Q
def wW (m:Bool) (d:D):Sl:=match m with
 | true=>.pu d
 | false=>.bo d
def gN (m:Bool) (i:Nat):DG:=fun d ρ=>some (ρ.set i (wW m d))
theorem Fr.Mr (f:Fr K B Z os ρ σ H) (i:Nat) {v:V} (h:ER K m B H (cE Z os) v d) :
 ∃ os',Fr K B Z os' (ρ.set i (wW m d)) (σ.set i (some v)) H∧Kp (cE Z os) H (cE Z os') H:=by
 by_cases hi:i < ρ.length
 ·cases m with
  | true=>exact ⟨_,f.put hi h⟩
  | false=>exact ⟨_,f.step (s:=.bo d) (v:=some v) hi (fun a u e _=>e) (fun a ha=>let ⟨xs,e⟩:=(f.sl i).xu ha; ⟨_,e⟩) Tw (fun a h=>by cases h) ⟨rfl,v,rfl,h⟩⟩
 ·have e1:ρ.set i (wW m d)=ρ:=WD (by lia);have e2:σ.set i (some v)=σ:=WD (by rw [f.len]; lia);rw [e1,e2];exact ⟨os,f,Kp.refl⟩
theorem bq (i:Nat):BL K m (kA i) (gN m i):=fun {B Z os ρ σ H Q v d ρ'} f h q k=>by cases q;obtain ⟨os',f',kp⟩:=f.Mr i h;exact k os' _ f' kp
def wc:NP:=fun ds ρ=>match ds with
 | []=>some ρ
 | _=>none
def h9 (e:DG) (r:NP):NP:=fun ds ρ=>match ds with
 | d::t=>(match e d ρ with
  | some ρ'=>r t ρ'
  | none=>none)
 | []=>none
theorem rf:Ep K m Nj wc:=fun {B Z os ρ σ H Q vs ds ρ'} f h q k=>by
 cases ds with
 | nil =>
  cases q;have e:vs=[]:=by cases m <;> cases h <;> rfl
  exact ⟨e,k os σ f Kp.refl⟩
 | cons d t=>cases q
theorem fC {g:TG} {e:DG} {r:NP} (hg:BL K m g e) (hr:Ep K m u r):Ep K m (Ik g u) (h9 e r):=fun {B Z os ρ σ H Q vs ds ρ'} f h q k=>by
 cases ds with
 | nil=>cases q
 | cons d t =>
  have q:(match e d ρ with | some ρ'=>r t ρ' | none=>none)=some ρ':=q;split at q
  ·rename_i ρ1 e1
   obtain ⟨v,vt,rfl,h1,h2⟩:∃ v vt,vs=v::vt∧ER K m B H (cE Z os) v d∧QM K m B H (cE Z os) vt t:=by
    cases m with
    | true=>cases h with | cons a b=>exact ⟨_,_,rfl,a,b⟩
    | false=>cases h with | cons a b=>exact ⟨_,_,rfl,a,b⟩
   refine ⟨v,vt,rfl,hg f h1 e1 fun os1 σ1 f1 k1=>hr f1 ?_ q fun os2 σ2 f2 k2=>k os2 σ2 f2 (k1.trans k2)⟩;cases m with
   | true=>exact IsL.kp k1 h2
   | false=>exact h2
  ·cases q
def Nh (n:Nat) (r:NP):DG:=fun d ρ=>match d with
 | .tup ds=>if ds.length=n then r ds ρ else none
 | .lst ds=>if ds.length=n then r ds ρ else none
 | _=>none
theorem AA {r:NP} (hr:Ep K m u r):BL K m (Ks K n u) (Nh n r):=fun {B Z os ρ σ H Q v d ρ'} f h q k=>by
 cases d with
 | tup ds =>
  have q:(if ds.length=n then r ds ρ else none)=some ρ':=q;by_cases c:ds.length=n
  ·rw [if_pos c] at q;cases m with
   | true =>obtain ⟨p,vs,rfl,hz,hr',hl,g⟩:=Is.isTup h;exact .inl ⟨p,vs,rfl,.inl (.inl hr'),by rw [g.length]; exact c,hr f g q k⟩
   | false =>obtain ⟨p,vs,rfl,hz,hr',hl,g⟩:=Is.isTup h;exact .inl ⟨p,vs,rfl,.inl (.inl (f.keep _ _ hr')),by rw [g.length]; exact c,hr f g q k⟩
  ·rw [if_neg c] at q; cases q
 | lst ds =>
  have q:(if ds.length=n then r ds ρ else none)=some ρ':=q;by_cases c:ds.length=n
  ·rw [if_pos c] at q;cases m with
   | true =>obtain ⟨p,vs,rfl,hz,hr',hl,g⟩:=Is.vX h;exact .inr ⟨p,vs,rfl,.inl hr',by rw [g.length]; exact c,hr f g q k⟩
   | false =>obtain ⟨p,vs,rfl,hz,hr',hl,g⟩:=Is.vX h;exact .inr ⟨p,vs,rfl,.inl (Rd.same hr' f.keep),by rw [g.length]; exact c,hr f g q k⟩
  ·rw [if_neg c] at q; cases q
 | _=>cases q
theorem Fr.K2 (f:Fr K B Z os ρ σ H):∀ a,cE Z os a→∃ o,H a=some o:=by
 rintro a (z | ⟨i,z⟩)
 ·exact f.F0 a z
 ·obtain ⟨xs,e⟩:=(f.sl i).xu z;exact ⟨_,e⟩
theorem Fr.zt (f:Fr K B Z os ρ σ H):ZT (cE Z os) H:=⟨f.K2,f.Jp⟩
noncomputable def view:Sl→Sl
 | .pu d=>.pu d
 | .bo d=>.bo d
 | .ol ds=>.bo (.lst ds)
 | .om rows=>.bo (.lst (rows.map D.lst))
 | .od kvs=>.bo (.dct kvs)
 | .pm _ _ rows=>.bo (.lst (rows.map D.lst))
 | .pd _ kvs=>.bo (.dct kvs)
 | .dk C ks ds=>.bo (.dsk C ks ds)
 | .pk _ _ _ C ks ds=>.bo (.dsk C ks ds)
 | .bk C ks ds=>.bo (.dsk C ks ds)
 | .un=>.un
def r0 (k:Nat) (cs:List Nat) (ρ:aU):aU:=Rx k .un++cs.map fun i=>view (ρ.getD i .un)
def s0 (k:Nat) (cs:List Nat) (σ:L2.St):L2.St:=Rx k none++cs.map fun i=>(σ[i]?).join
theorem uS {H1:Hp} {Dl:Q6} {o:HO} (f:Fr K B Z os ρ σ H1) (hD:H1 Dl=none) (s:bu H1 H) (hd:H Dl=some o) (k:Nat) (cs:List Nat) :
    Fr K H1 ‹84› (fun _=>[]) (r0 k cs ρ) (s0 k cs σ) H where
  keep:=s
  F0:=fun a z=>by
    rcases z with rfl | z
    · exact ⟨o,hd⟩
    · obtain ⟨u,e⟩:=f.K2 a z;exact ⟨u,s _ _ e⟩
  len:=by unfold r0 s0; simp
  nd:=fun _=>Tw
  dj:=fun _ _ _ h=>by cases h
  tab:=f.Jp
  new:=fun _ _ h=>by cases h
  sl:=fun j=>by
    have kp:Kp (cE Z os) H1 (cE ‹84› fun _=>[]) H:=fun a u e z=>by
      refine ⟨s _ _ e,?_⟩;rintro ((rfl | q) | ⟨_,q⟩)
      · rw [hD] at e; cases e
      · exact z q
      · cases q
    unfold r0 s0;rw [Rc];by_cases hj:j<k
    · rw [Rz ‹83›,Rz ‹83›,Sb,if_pos hj];exact rfl
    · rw [RO ‹83›,RO ‹83›,RV,RV,Ro,Ro];cases e:cs[j-k]? with
      | none=>exact rfl
      | some i =>
        have h:=f.sl i;show xy K _ _ _ _ (view (ρ.getD i .un)) ((σ[i]?).join);cases e2:ρ.getD i .un with
        | un=>exact rfl
        | pu d =>rw [e2] at h;obtain ⟨_,u,hu,i1⟩:=h;exact ⟨rfl,u,hu,i1.kp kp⟩
        | bo d =>rw [e2] at h;obtain ⟨_,u,hu,i1⟩:=h;exact ⟨rfl,u,hu,i1.same f.keep⟩
        | ol ds =>rw [e2] at h;obtain ⟨a,vs,_,hu,hH,hl,i1⟩:=h;exact ⟨rfl,_,hu,.lst (fun z=>z) (.inl hH) hl i1.all⟩
        | om rows =>rw [e2] at h;obtain ⟨a,ps,_,hu,hH,hl,i1⟩:=h;exact ⟨rfl,_,hu,.lst (fun z=>z) (.inl hH) (by rw [Q5]; exact hl) (mn i1)⟩
        | od kvs =>rw [e2] at h;obtain ⟨a,_,hu,hH,hl⟩:=h;exact ⟨rfl,_,hu,.dct (fun z=>z) (.inl hH) hl⟩
        | pm a ps rows =>rw [e2] at h;obtain ⟨_,hu,hH,hl,i1⟩:=h;exact ⟨rfl,_,hu,.lst (fun z=>z) (.inl hH) (by rw [Q5]; exact hl) (mn i1)⟩
        | pd a kvs =>rw [e2] at h;obtain ⟨_,hu,hH,hl⟩:=h;exact ⟨rfl,_,hu,.dct (fun z=>z) (.inl hH) hl⟩
        | dk C ks ds =>rw [e2] at h;obtain ⟨x,dx,p,_,hu,q⟩:=h;exact ⟨rfl,_,hu,q.is⟩
        | pk x dx p C ks ds =>rw [e2] at h;obtain ⟨_,hu,q⟩:=h;exact ⟨rfl,_,hu,q.is⟩
        | bk C ks ds =>rw [e2] at h;obtain ⟨_,x,dx,p,hu,q⟩:=h;exact ⟨rfl,_,hu,(q.h f.keep).is⟩
noncomputable def tf (g:DG) (t:aU→Option Bool) (e:DE) (ρ0:aU):List D→Option (List D)
 | []=>some []
 | d::ds=>match g d ρ0 with
  | none=>none
  | some ρ1=>match t ρ1 with
   | none=>none
   | some false=>tf g t e ρ0 ds
   | some true=>match e ρ1 with
    | none=>none
    | some y=>match tf g t e ρ0 ds with
     | none=>none
     | some ys=>some (y::ys)
def c8 (k:Nat) (cs:List Nat) (it:aU→Option (List D)) (g:DG) (t:aU→Option Bool) (e:DE):aU→Option (List D):=fun ρ=>match it ρ with
 | some ds=>tf g t e (r0 k cs ρ) ds
 | none=>none
theorem cK {k:Nat} {cs:List Nat} {g:TG} {tt:TT} {te:TE} {gd:DG} {td:aU→Option Bool} {ed:DE} (hw:yx K m wi it) (hg:BL K m g gd) (ht:nO K tt td) (he:ai K te ed) :
 bC K (vc wi g tt te (s0 k cs)) (c8 k cs it gd td ed):=fun {B Z os ρ σ H Q ds} f q kk=>by
 unfold c8 at q;split at q
 ·show 9
  refine ⟨fun i m ys H2=>m=xs.length-i∧i≤xs.length∧bu H1 H2∧H2 Dl=some (.lst ys)∧ys.length≤i∧∃ done rest,IsL K H2 ‹84› ys done∧tf gd td ed (r0 k cs ρ) (xs.drop i)=some rest∧done++rest=ds,
   ⟨_,rfl,Th _,sD (bu.refl _),br,Rq _,[],ds,.nil,q,rfl⟩,?_⟩
  rintro i mm ys H2 ⟨rfl,hi,s2,eD,hly,done,rest,il,q2,ed2⟩;have kp12:Kp (cE Z os) H1 ‹84› H2:=fun a u e z=>⟨s2 _ _ e,fun w=>w.elim (bT e hD) z⟩
  by_cases hlt:i<xs.length
  ·have ex:xs[i]?=some xs[i]:=Q8 hlt;have ef:=uS f1 hD s2 eD k cs;obtain ⟨go,yl⟩:=W.go i xs[i] H2 _ kp12 s2 (fun a z=>ef.F0 a z) ex;refine .inr ⟨go,fun x H3 hy=>?_⟩;obtain ⟨s3,er⟩:=yl x H3 hy;have eD3:=s3 _ _ eD;have s13:=s2.trans s3;have ef3:=uS f1 hD s13 eD3 k cs;rw [Sz hlt] at q2;unfold tf at q2
   have er':ER K m H1 H3 (cE ‹84› fun _=>[]) x xs[i]:=by
    cases m with
    | false=>exact er
    | true=>exact Is.kp ‹63› er
   split at q2
   ·cases q2
   ·rename_i ρ1 e1;refine hg ef3 er' e1 fun os1 σ1 fr1 k1=>?_;split at q2
    ·cases q2
    ·rename_i e2;refine ht fr1 e2 fun H4 s4=>rR ⟨_,by lia,rfl,hlt,s13.trans s4,s4 _ _ eD3,by lia,done,rest,(il.same s3).same s4,q2,ed2⟩
    ·rename_i e2;refine ht fr1 e2 fun H4 s4=>uf ?_;split at q2
     ·cases q2
     ·rename_i y e3;split at q2
      ·cases q2
      ·rename_i rs e4;cases q2;refine he (fr1.grow s4) e3 fun v H5 s5 i5=>?_;have s35:=s4.trans s5;have eD5:=s35 _ _ eD3;have hl:=W.len;have kp5:∀ (zs:List V),Kp ‹84› H5 ‹84› (upd H5 Dl (.lst zs)):=fun zs a u e z=>⟨by rw [a5 (fun w=>z (.inl w))]; exact e,z⟩
       have i5':Is K H5 ‹84› v y:=i5.kp (Kp.less fun a z=>.inl z);refine ⟨eD5,by lia,_,by lia,rfl,hlt,sD (s13.trans s35),br,by rw [Ru,Tc]; lia,done++[y],rs,?_,e4,by rw [SR]; exact ed2⟩;exact ((il.same s3).same s35 |>.kp (kp5 _)).append (.one (i5'.kp (kp5 _)))
  ·have e:i=xs.length:=by lia
   subst e;rw [UI] at q2;cases q2;rw [Ss] at ed2;subst ed2;have hl:=W.len;exact .inl ⟨W.stop _ H2 _ kp12 s2 rfl,eD,kk Dl ys H2 ‹48› (bu.free s1 hD) eD (by lia) il⟩
 ·cases q
inductive Fm where
 | v | l | m | x (E:XK) (C:Q6)
noncomputable def IW (fr:Fm) (K:Q2) (B H:Hp) (Z:Q6→Prop) (v:V) (d:D):Prop:=match fr with
 | .v=>Is K H Z v d
 | .l=>(∃ p vs ds,v=.ref p∧d=.lst ds∧B p=none∧H p=some (.lst vs)∧vs.length≤Q4∧IsL K H (fun a=>a=p∨Z a) vs ds)∨∃ p kvs,v=.ref p∧d=.dct kvs∧B p=none∧H p=some (.dK (kvs.map Pw))∧kvs.length≤Q4
 | .m=>∃ p ps rows,v=.ref p∧d=.lst (rows.map D.lst)∧B p=none∧(∀ a∈ps,B a=none)∧(p::ps).Nodup∧H p=some (.lst (ps.map V.ref))∧ps.length≤Q4∧Ta (fun q ds=>∃ vs,H q=some (.lst vs)∧vs.length≤Q4∧IsL K H (fun a=>(a=p∨a∈ps)∨Z a) vs ds) ps rows
 | .x _ _=>Is K H Z v d
theorem vz {H:Hp} {Z T:Q6→Prop} (hT:∀ a,Z a→T a):∀ {ps:List Q6} {rows:List (List D)},(∀ p∈ps,¬ Z p)→Ta (fun p ds=>∃ vs,H p=some (.lst vs)∧vs.length≤Q4∧IsL K H T vs ds) ps rows→IsL K H Z (ps.map V.ref) (rows.map D.lst)
 | _,_,_,.nil=>.nil
 | _,_,hz,.cons ⟨vs,h,hl,r⟩ t=>.cons (.lst (hz _ Q9) (.inl h) hl (r.kp (Kp.less hT))) (vz hT (fun p hp=>hz p (Ra _ hp)) t)
theorem IW.is {fr:Fm} {v:V} (hz:∀ a,Z a→∃ o,B a=some o) (h:IW fr K B H Z v d):Is K H Z v d:=by
 have nz:∀ {p:Q6},B p=none→¬ Z p:=fun {p} e z=>by obtain ⟨o,q⟩:=hz p z; rw [e] at q; cases q
 cases fr with
 | v=>exact h
 | x E C=>exact h
 | l =>
  rcases h with ⟨p,vs,ds,rfl,rfl,hb,hh,hl,r⟩ | ⟨p,kvs,rfl,rfl,hb,hh,hl⟩
  ·exact .lst (nz hb) (.inl hh) hl (r.kp (Kp.less fun a z=>.inr z))
  ·exact .dct (nz hb) (.inl hh) hl
 | m =>obtain ⟨p,ps,rows,rfl,rfl,hb,hbs,_,hh,hl,r⟩:=h;exact .lst (nz hb) (.inl hh) (by rw [Q5]; exact hl) (vz (fun a z=>.inr z) (fun q hq=>nz (hbs q hq)) r)
def jv (fr:Fm) (K:Q2) (ms:List Bool) (F:List D→Option D):Sp:=fun vs H Q _=>∃ (Z:Q6→Prop) (ds:List D) (d:D),ZT Z H∧Args K H Z ms vs ds∧F ds=some d∧∀ v H',bu H H'→IW fr K H H' Z v d→Q v H'
def aJ (F:List D→Option D) (es:aU→Option (List D)):DE:=fun ρ=>match es ρ with
 | some ds=>F ds
 | none=>none
theorem aR {fr:Fm} {F:List D→Option D} {t:TA} {es:aU→Option (List D)} {E:XK} (ha:mT K ms t es):ai K (nS (jv fr K ms F) [] E t) (aJ F es):=fun {B Z os ρ σ H Q d} f q k=>by
 unfold aJ at q;split at q
 ·rename_i ds e;refine ha f e fun vs H1 s1 a=>?_;show jv fr K ms F (vs++[]) H1 Q E;rw [Ss];exact ⟨cE Z os,ds,d,‹70›.zt,a,q,fun v H2 s2 i=>k v H2 ‹48› (i.is ‹70›.K2)⟩
 ·cases q
end
end
section
open Classical
section
variable [cu] {K:Q2}
inductive Res where
 | nx (ρ:aU) | rt (d:D) | bk (ρ:aU) | ct (ρ:aU) | no
variable {fr:Fm}
abbrev DS:=aU→Res
noncomputable def uo (fr:Fm) (K:Q2) (B:Hp) (Z:Q6→Prop) (os:Own) (H:Hp) (E:Ends):Res→Prop
 | .nx ρ'=>∀ os' σ' H',Fr K B Z os' ρ' σ' H'→Kp (cE Z os) H (cE Z os') H'→E.nx σ' H'
 | .bk ρ'=>∀ os' σ' H',Fr K B Z os' ρ' σ' H'→Kp (cE Z os) H (cE Z os') H'→E.bk σ' H'
 | .ct ρ'=>∀ os' σ' H',Fr K B Z os' ρ' σ' H'→Kp (cE Z os) H (cE Z os') H'→E.ct σ' H'
 | .rt d=>match fr with
  | .x E0 C=>∀ H',bu B H'→E0 (.ref C) none H'
  | fr=>∀ v H',bu B H'→IW fr K B H' Z v d→E.rt v H'
 | .no=>False
def de (fr:Fm) (K:Q2) (t:TS) (s:DS):Prop:=∀ {B:Hp} {Z:Q6→Prop} {os:Own} {ρ:aU} {σ:L2.St} {H:Hp} {E:Ends},Fr K B Z os ρ σ H→uo fr K B Z os H E (s ρ)→t E σ H
theorem uo.kp {os1:Own} {H1:Hp} {E:Ends} {r:Res} (k:Kp (cE Z os) H (cE Z os1) H1) (p:uo fr K B Z os H E r):uo fr K B Z os1 H1 E r:=by
 cases r with
 | nx ρ'=>exact fun os' σ' H' f k'=>p os' σ' H' f (k.trans k')
 | bk ρ'=>exact fun os' σ' H' f k'=>p os' σ' H' f (k.trans k')
 | ct ρ'=>exact fun os' σ' H' f k'=>p os' σ' H' f (k.trans k')
 | rt d=>exact p
 | no=>exact p
@[irreducible] def aT:DS:=fun ρ=>.nx ρ
theorem aK:de fr K Dt aT:=fun f p=>by unfold aT at p; exact p _ _ _ f Kp.refl
@[irreducible] def eX:DS:=fun _=>.no
theorem aO:de fr K B6 eX:=fun f p=>by unfold eX at p; exact p.elim
@[irreducible] def aM (s u:DS):DS:=fun ρ=>match s ρ with
 | .nx ρ'=>u ρ'
 | r=>r
theorem aw {t u:TS} {s w:DS} (h1:de fr K t s) (h2:de fr K u w):de fr K (t6 t u) (aM s w):=fun {B Z os ρ σ H E} f p=>by
 refine h1 f ?_;unfold aM at p;cases e:s ρ with
 | nx ρ'=>rw [e] at p; exact fun os' σ' H' f' k=>h2 f' (p.kp k)
 | bk ρ'=>rw [e] at p; exact p
 | ct ρ'=>rw [e] at p; exact p
 | rt d=>rw [e] at p; exact p
 | no=>rw [e] at p; exact p
@[irreducible] def cy (a:DE):DS:=fun ρ=>match a ρ with
 | some d=>.rt d
 | none=>.no
theorem bz (h:ai K ta a):de .v K (sE ta) (cy a):=fun {B Z os ρ σ H E} f p=>by
 unfold cy at p;cases e:a ρ with
 | none=>rw [e] at p; exact p.elim
 | some d=>rw [e] at p; exact h f e fun v H1 s1 i1=>p v H1 (f.keep.trans s1) (i1.kp (Kp.less fun a z=>.inl z))
@[irreducible] def cQ (c:aU→Option Bool) (s u:DS):DS:=fun ρ=>match c ρ with
 | some true=>s ρ
 | some false=>u ρ
 | none=>.no
theorem bh {t u:TS} {c:aU→Option Bool} {s w:DS} (hc:nO K tc c) (h1:de fr K t s) (h2:de fr K u w):de fr K (ED tc t u) (cQ c s w):=fun {B Z os ρ σ H E} f p=>by
 unfold cQ at p;split at p
 ·rename_i e;exact hc f e fun H1 s1=>uf (h1 ‹70› (p.kp (Kp.same s1)))
 ·rename_i e;exact hc f e fun H1 s1=>rR (h2 ‹70› (p.kp (Kp.same s1)))
 ·show 12
@[irreducible] def bS (i:Nat) (a:DE):DS:=fun ρ=>match a ρ with
 | some d=>.nx (ρ.set i (.pu d))
 | none=>.no
theorem a7 {i:Nat} (h:ai K ta a):de fr K (sF ta (kA i)) (bS i a):=fun {B Z os ρ σ H E} f p=>by
 unfold bS at p;cases e:a ρ with
 | none=>rw [e] at p; exact p.elim
 | some d =>rw [e] at p;refine h f e fun v H1 s1 i1=>?_;obtain ⟨os',f',k⟩:=‹70›.Mr (m:=true) i i1;exact p os' _ _ f' ((Kp.same s1).trans k)
theorem DC {i:Nat} (h:ai K ta a):de fr K (Dr ta i) (bS i a):=a7 (i:=i) h
@[irreducible] def Ml (a:DE) (g:DG):DS:=fun ρ=>match a ρ with
 | some d=>(match g d ρ with
  | some ρ'=>.nx ρ'
  | none=>.no)
 | none=>.no
theorem Li {g:DG} (h:ai K ta a) (hg:BL K true t g):de fr K (sF ta t) (Ml a g):=fun {B Z os ρ σ H E} f p=>by
 unfold Ml at p;split at p
 ·rename_i d e;split at p
  ·rename_i ρ' e2;exact h f e fun v H1 s1 i1=>hg ‹70› i1 e2 fun os' σ' f' k=>p os' σ' _ f' ((Kp.same s1).trans k)
  ·show 12
 ·show 12
@[irreducible] def pO (i:Nat) (a:aU→Option (List D)):DS:=fun ρ=>match a ρ with
 | some ds=>if i < ρ.length then .nx (ρ.set i (.ol ds)) else .no
 | none=>.no
theorem oV {i:Nat} {a:aU→Option (List D)} (h:bC K ta a):de fr K (sF ta (kA i)) (pO i a):=fun {B Z os ρ σ H E} f p=>by
 unfold pO at p;split at p
 ·rename_i ds e;by_cases hi:i < ρ.length
  ·rw [if_pos hi] at p;refine h f e fun x vs H1 s1 hx hx1 hl i1=>?_
   have st:=f.step (H':=H1) (i:=i) hi (o:=[x]) (s:=.ol ds) (v:=some (.ref x)) (fun a u e _=>s1 _ _ e) (fun a ha=>let ⟨xs,e⟩:=(f.sl i).xu ha; ⟨_,s1 _ _ e⟩) (by simp) (fun a ha=>by rw [Q3.mp ha]; exact .inr hx)
    ⟨x,vs,rfl,rfl,hx1,hl,i1.kp (Kp.less fun a z=>?_)⟩
   ·exact p _ _ _ st.1 st.2
   ·rcases z with z | ⟨j,z⟩
    ·exact .inr (.inl z)
    ·show 10
     ·subst hj; rw [b8] at z; exact .inl (Q3.mp z)
     ·rw [cL hj] at z; exact .inr (.inr ⟨j,z⟩)
  ·rw [if_neg hi] at p; exact p.elim
 ·show 12
def uM (i:Nat) (ρ:aU):aU:=match ρ.getD i .un with
 | .ol ds=>ρ.set i (.pu (.lst ds))
 | .om rows=>ρ.set i (.pu (.lst (rows.map D.lst)))
 | .od kvs=>ρ.set i (.pu (.dct kvs))
 | _=>ρ
theorem jb {i:Nat} {v:V} (h:(σ[i]?).join=some v):σ.set i (some v)=σ:=by
 have e:=join_some h;refine List.ext_getElem? fun j=>?_;by_cases hj:i=j
 ·subst hj;rw [SS (Rp.mp e).1,e]
 ·rw [SH hj]
theorem kz {i:Nat} {s:Sl} (h:ρ.getD i .un=s) (hs:s≠.un):i < ρ.length:=by
 by_cases hi:i < ρ.length
 ·exact hi
 ·rw [Rc,Sf (by lia)] at h;exact absurd h.symm hs
theorem Fr.freeze (f:Fr K B Z os ρ σ H) (i:Nat):∃ os',Fr K B Z os' (uM i ρ) σ H∧Kp (cE Z os) H (cE Z os') H:=by
 unfold uM
 have less:∀ a,cE Z (nG os i []) a→cE Z os a:=by
  rintro a (z | ⟨j,z⟩)
  ·exact .inl z
  ·show 10
   ·subst hj; rw [b8] at z; cases z
   ·show 13
 cases e:ρ.getD i .un with
 | ol ds =>
  have s:=f.sl i;rw [e] at s;obtain ⟨a,vs,eo,hu,hH,hl,i1⟩:=s;have hi:=kz e (by intro z; cases z)
  have st:=f.step (H':=H) (i:=i) hi (o:=[]) (s:=.pu (.lst ds)) (v:=some (.ref a)) (fun a u e _=>e) (fun a ha=>let ⟨xs,e⟩:=(f.sl i).xu ha; ⟨_,e⟩) Tw (fun a h=>by cases h)
   ⟨rfl,_,rfl,.lst (fun z=>?_) (.inl hH) hl (i1.kp (Kp.less less))⟩
  ·rw [jb hu] at st;exact ⟨_,st⟩
  ·rcases z with z | ⟨j,z⟩
   ·exact (f.new i a (by rw [eo]; exact Q3.mpr rfl)).2 z
   ·show 10
    ·subst hj; rw [b8] at z; cases z
    ·rw [cL hj] at z; exact hj (f.dj j i a z (by rw [eo]; exact Q3.mpr rfl))
 | od kvs =>
  have s:=f.sl i;rw [e] at s;obtain ⟨a,eo,hu,hH,hl⟩:=s;have hi:=kz e (by intro z; cases z)
  have st:=f.step (H':=H) (i:=i) hi (o:=[]) (s:=.pu (.dct kvs)) (v:=some (.ref a)) (fun a u e _=>e) (fun a ha=>let ⟨xs,e⟩:=(f.sl i).xu ha; ⟨_,e⟩) Tw (fun a h=>by cases h)
   ⟨rfl,_,rfl,.dct (fun z=>?_) (.inl hH) hl⟩
  ·rw [jb hu] at st;exact ⟨_,st⟩
  ·rcases z with z | ⟨j,z⟩
   ·exact (f.new i a (by rw [eo]; exact Q3.mpr rfl)).2 z
   ·show 10
    ·subst hj; rw [b8] at z; cases z
    ·rw [cL hj] at z; exact hj (f.dj j i a z (by rw [eo]; exact Q3.mpr rfl))
 | om rows =>
  have s:=f.sl i;rw [e] at s;obtain ⟨a,ps,eo,hu,hH,hl,i1⟩:=s;have hi:=kz e (by intro z; cases z)
  have out:∀ b,b∈os i→¬ cE Z (nG os i []) b:=by
   rintro b hb (z | ⟨j,z⟩)
   ·exact (f.new i b hb).2 z
   ·show 10
    ·subst hj; rw [b8] at z; cases z
    ·rw [cL hj] at z; exact hj (f.dj j i b z hb)
  have rowsI:∀ {ps:List Q6} {rows:List (List D)},(∀ p∈ps,p∈os i)→Ta (fun p ds=>∃ vs,H p=some (.lst vs)∧vs.length≤Q4∧IsL K H (cE Z os) vs ds) ps rows→IsL K H (cE Z (nG os i [])) (ps.map V.ref) (rows.map D.lst):=by
   intro ps rows hp r;induction r with
   | nil=>exact .nil
   | cons h _ ih =>obtain ⟨vs,q,hv,j⟩:=h;exact .cons (.lst (out _ (hp _ Q9)) (.inl q) hv (j.kp (Kp.less less))) (ih fun p h=>hp p (Ra _ h))
  have st:=f.step (H':=H) (i:=i) hi (o:=[]) (s:=.pu (.lst (rows.map D.lst))) (v:=some (.ref a)) (fun a u e _=>e) (fun a ha=>let ⟨xs,e⟩:=(f.sl i).xu ha; ⟨_,e⟩) Tw (fun a h=>by cases h)
   ⟨rfl,_,rfl,.lst (out a (by rw [eo]; exact Q9)) (.inl hH) (by rw [Q5]; exact hl) (rowsI (fun p hp=>by rw [eo]; exact Ra _ hp) i1)⟩
  rw [jb hu] at st;exact ⟨_,st⟩
 | un=>exact ⟨os,f,Kp.refl⟩
 | pu d=>exact ⟨os,f,Kp.refl⟩
 | bo d=>exact ⟨os,f,Kp.refl⟩
 | pm _ _ _=>exact ⟨os,f,Kp.refl⟩
 | pd _ _=>exact ⟨os,f,Kp.refl⟩
 | dk _ _ _=>exact ⟨os,f,Kp.refl⟩
 | pk _ _ _ _ _ _=>exact ⟨os,f,Kp.refl⟩
 | bk _ _ _=>exact ⟨os,f,Kp.refl⟩
@[irreducible] def Cw (i:Nat) (s:DS):DS:=fun ρ=>s (uM i ρ)
theorem Ce {t:TS} {s:DS} (i:Nat) (h:de fr K t s):de fr K t (Cw i s):=fun {B Z os ρ σ H E} f p=>by obtain ⟨os',f',k⟩:=f.freeze i;unfold Cw at p;exact h f' (uo.kp k p)
theorem Fr.OF (f:Fr K B Z os ρ σ H) {i:Nat} {a:Q6} {ds':List D} {vs':List V} (e:ρ.getD i .un=.ol ds) (hu:(σ[i]?).join=some (.ref a)) (hl:vs'.length≤Q4) (h:IsL K H (cE Z os) vs' ds') :
 ∃ os',Fr K B Z os' (ρ.set i (.ol ds')) σ (upd H a (.lst vs'))∧Kp (cE Z os) H (cE Z os') (upd H a (.lst vs')):=by
 have s:=f.sl i;rw [e] at s;obtain ⟨b,vs,eo,hu',hH,_,_⟩:=s;rw [hu] at hu';cases hu';have hi:=kz e (by intro z; cases z);have ha:a∈os i:=by rw [eo]; exact Q3.mpr rfl
 have st:=f.step (H':=upd H a (.lst vs')) (i:=i) hi (o:=[a]) (s:=.ol ds') (v:=some (.ref a)) (fun b u e n=>by rw [a5 (fun z=>n (by rw [z]; exact ha))]; exact e) (fun b hb=>?_) (by simp) (fun b hb=>by rw [Q3.mp hb]; exact .inl ha)
  ⟨a,vs',rfl,rfl,br,hl,h.kp fun b u e z=>⟨?_,fun q=>z ?_⟩⟩
 ·rw [jb hu] at st;exact ⟨_,st⟩
 ·rw [eo] at hb; rw [Q3.mp hb]; exact ⟨_,br⟩
 ·rw [a5 (fun w=>z (.inr ⟨i,by rw [w]; exact ha⟩))]; exact e
 ·rcases q with q | ⟨j,q⟩
  ·exact .inl q
  ·show 10
   ·subst hj; rw [b8] at q; exact .inr ⟨j,by rw [Q3.mp q]; exact ha⟩
   ·rw [cL hj] at q; exact .inr ⟨j,q⟩
theorem Lv (f:Fr K B Z os ρ σ H) {i:Nat} (e:ρ.getD i .un=.ol ds):∃ a vs,(σ[i]?).join=some (.ref a)∧H a=some (.lst vs)∧vs.length≤Q4∧IsL K H (cE Z os) vs ds:=by have s:=f.sl i;rw [e] at s;obtain ⟨b,vs,eo,hu',hH,hl,r⟩:=s;exact ⟨b,vs,hu',hH,hl,r⟩
@[irreducible] def EZ (i:Nat) (a:DE):DS:=fun ρ=>match ρ.getD i .un with
 | .ol ds=>(match a ρ with
  | some d=>if ds.length<Q4 then .nx (ρ.set i (.ol (ds++[d]))) else .no
  | none=>.no)
 | _=>.no
theorem GC {i:Nat} (h:ai K ta a):de fr K (Ar (Lf K "list" DQ (i8 i) (cF ta fA))) (EZ i a):=fun {B Z os ρ σ H E} f p=>by
 unfold EZ at p;split at p
 ·rename_i ds e;split at p
  ·rename_i d e2;by_cases hz:ds.length<Q4
   ·rw [if_pos hz] at p;obtain ⟨x,vs,hu,hH,hl,r⟩:=Lv f e;refine ⟨_,join_some hu,.inl ⟨rfl,_,mS.of hH⟩,h f e2 fun v H1 s1 i1=>?_⟩;have f1:=f.grow s1;have r1:=r.same s1;have hlen:vs.length<Q4:=by rw [r.length]; exact hz
    obtain ⟨os',f',k⟩:=f1.OF (vs':=vs++[v]) (ds':=ds++[d]) e hu (by rw [Ru,Tc]; lia) (r1.append (.one i1));exact ⟨x,vs,v,rfl,rfl,s1 _ _ hH,hlen,p os' _ _ f' ((Kp.same s1).trans k)⟩
   ·rw [if_neg hz] at p; exact p.elim
  ·show 12
 ·show 12
@[irreducible] noncomputable def EX (i:Nat) (b a:DE):DS:=fun ρ=>match ρ.getD i .un with
 | .ol ds=>(match a ρ with
  | some d=>(match b ρ with
   | some (.int n)=>(match ixN ds.length n with
    | some j=>.nx (ρ.set i (.ol (ds.set j d)))
    | none=>.no)
   | _=>.no)
  | none=>.no)
 | _=>.no
theorem Gz {i:Nat} {tb:TE} {b:DE} (ha:ai K ta a) (hb:bD K tb b):de fr K (sF ta (Ni (i8 i) tb G8)) (EX i b a):=fun {B Z os ρ σ H E} f p=>by
 unfold EX at p;split at p
 ·rename_i ds e;split at p
  ·rename_i d e2;split at p
   ·rename_i n e3;split at p
    ·rename_i j e4;obtain ⟨x,vs,hu,hH,hl,r⟩:=Lv f e;refine ha f e2 fun v H1 s1 i1=>⟨_,join_some hu,hb ‹70› e3 fun w H2 s2 i2=>?_⟩
     have s12:=s1.trans s2;have f1:=f.grow s12;have r1:=r.same s12;obtain ⟨os',f',k⟩:=f1.OF (vs':=vs.set j v) (ds':=ds.set j d) e hu (by rw [Su]; exact hl) (r1.set (i1.same s2) j);exact ⟨x,vs,n,j,rfl,i2.isInt,s12 _ _ hH,by rw [r.length]; exact e4,p os' _ _ f' ((Kp.same s12).trans k)⟩
    ·show 12
   ·show 12
  ·show 12
 ·show 12
@[irreducible] def EY (g:Int→Int→Int) (i:Nat) (a:DE):DS:=fun ρ=>match ak i ρ with
 | some (.int x)=>(match a ρ with
  | some (.int y)=>.nx (ρ.set i (.pu (.int (g x y))))
  | _=>.no)
 | _=>.no
theorem GB {i:Nat} {g:Int→Int→Int} (ha:bD K ta a):de fr K (Oc i ta (Qz g)) (EY g i a):=fun {B Z os ρ σ H E} f p=>by
 unfold EY at p;split at p
 ·rename_i x e;split at p
  ·rename_i y e2;have q:=ae i f (Q:=fun v H'=>v=.int x∧H'=H) e
   obtain ⟨u,hu,ix⟩:∃ u,σ[i]?=some (some u)∧u=.int x:=by
    have s:=f.sl i;unfold ak at e;cases e0:ρ.getD i .un with
    | un=>rw [e0] at e; cases e
    | pu d=>rw [e0] at e s; cases e; obtain ⟨_,u,hu,i1⟩:=s; exact ⟨u,join_some hu,i1.isInt⟩
    | bo d=>rw [e0] at e s; cases e; obtain ⟨_,u,hu,i1⟩:=s; exact ⟨u,join_some hu,i1.isInt⟩
    | ol d=>rw [e0] at e; cases e
    | om d=>rw [e0] at e; cases e
    | od d=>rw [e0] at e; cases e
    | pm _ _ d=>rw [e0] at e; cases e
    | pd _ d=>rw [e0] at e; cases e
    | dk _ _ _=>rw [e0] at e; cases e
    | pk _ _ _ _ _ _=>rw [e0] at e; cases e
    | bk _ _ _=>rw [e0] at e; cases e
   refine ⟨u,hu,ha f e2 fun v H1 s1 i1=>⟨x,y,ix,i1.isInt,?_⟩⟩;obtain ⟨os',f',k⟩:=‹70›.Mr (m:=true) i (v:=.int (g x y)) (d:=.int (g x y)) (.int _);exact p os' _ _ f' ((Kp.same s1).trans k)
  ·show 12
 ·show 12
noncomputable def sV (g:DG) (b:DS):List D→DS
 | [],ρ=>.nx ρ
 | d::ds,ρ=>match g d ρ with
  | none=>.no
  | some ρ1=>match b ρ1 with
   | .nx ρ2=>sV g b ds ρ2
   | .ct ρ2=>sV g b ds ρ2
   | .bk ρ2=>.nx ρ2
   | .rt d=>.rt d
   | .no=>.no
@[irreducible] def nF (it:aU→Option (List D)) (g:DG) (b:DS):DS:=fun ρ=>match it ρ with
 | some ds=>sV g b ds ρ
 | none=>.no
theorem iM {g:DG} {b:DS} (hw:gV K m wi it) (hg:BL K m t g) (hb:de fr K tb b):de fr K (Ob wi t tb) (nF it g b):=fun {B Z os ρ σ H E} f p=>by
 unfold nF at p;split at p
 ·rename_i ds e0;refine hw f e0 fun J H1 s1 W=>?_;refine ⟨fun i m σ' H'=>∃ os' ρ',m=ds.length-i∧i≤ds.length∧Fr K B Z os' ρ' σ' H'∧Kp (cE Z os) H1 (cE Z os') H'∧uo fr K B Z os H1 E (sV g b (ds.drop i) ρ'),⟨_,os,ρ,rfl,Th _,f.grow s1,Kp.refl,uo.kp (Kp.same s1) p⟩,?_⟩;rintro i mm σ2 H2 ⟨os2,ρ2,rfl,hi,f2,k2,p2⟩;by_cases hlt:i<ds.length
  ·have ex:ds[i]?=some ds[i]:=Q8 hlt;obtain ⟨go,yl⟩:=W.go i ds[i] H2 _ k2 f2.keep f2.K2 ex;rw [Sz hlt] at p2;refine .inr ⟨go,fun σ' H'=>∃ os' ρ',Fr K B Z os' ρ' σ' H'∧Kp (cE Z os) H1 (cE Z os') H'∧uo fr K B Z os H1 E (sV g b (ds.drop (i+1)) ρ'),fun σ' H' ⟨os',ρ',h1,h2,h3⟩=>⟨_,by lia,os',ρ',rfl,hlt,h1,h2,h3⟩,fun x H3 hy=>?_⟩;obtain ⟨s3,er⟩:=yl x H3 hy;unfold sV at p2;split at p2
   ·exact p2.elim
   ·rename_i ρ1 e1;have er':ER K m B H3 (cE Z os2) x ds[i]:=er;refine hg (f2.grow s3) er' e1 fun os3 σ3 f3 k3=>hb f3 ?_;have k13:Kp (cE Z os) H1 (cE Z os3) H3:=(k2.trans (Kp.same s3)).trans k3;split at p2
    ·rename_i ρ4 e4;rw [e4];exact fun os' σ' H' f' k'=>⟨os',_,f',k13.trans k',p2⟩
    ·rename_i ρ4 e4;rw [e4];exact fun os' σ' H' f' k'=>⟨os',_,f',k13.trans k',p2⟩
    ·rename_i ρ4 e4;rw [e4];exact fun os' σ' H' f' k'=>p2 os' σ' H' f' (k13.trans k')
    ·rename_i d e4;rw [e4];exact p2
    ·exact p2.elim
  ·have e:i=ds.length:=by lia
   subst e;rw [UI] at p2;exact .inl ⟨W.stop _ H2 _ k2 f2.keep rfl,p2 os2 σ2 H2 f2 k2⟩
 ·show 12
noncomputable def p9 (c:aU→Option Bool) (b:DS):Nat→DS
 | 0,ρ=>match c ρ with
  | some false=>.nx ρ
  | _=>.no
 | n+1,ρ=>match c ρ with
  | some false=>.nx ρ
  | some true=>(match b ρ with
   | .nx ρ'=>p9 c b n ρ'
   | .ct ρ'=>p9 c b n ρ'
   | .bk ρ'=>.nx ρ'
   | .rt d=>.rt d
   | .no=>.no)
  | none=>.no
@[irreducible] def ql (c:aU→Option Bool) (b:DS):DS:=fun ρ=>if h:∃ n,p9 c b n ρ≠.no then p9 c b h.choose ρ else .no
theorem u3 {c:aU→Option Bool} {b:DS}:∀ {n:Nat} {ρ:aU},p9 c b n ρ≠.no→p9 c b (n+1) ρ=p9 c b n ρ
 | 0,ρ,h=>by
  unfold p9 at h ⊢;split at h
  ·rename_i e; rw [e]
  ·exact absurd rfl h
 | n+1,ρ,h=>by
  have e1:p9 c b (n+1+1) ρ=(match c ρ with | some false=>.nx ρ | some true=>(match b ρ with | .nx ρ'=>p9 c b (n+1) ρ' | .ct ρ'=>p9 c b (n+1) ρ' | .bk ρ'=>.nx ρ' | .rt d=>.rt d | .no=>.no) | none=>.no):=rfl;have e2:p9 c b (n+1) ρ=(match c ρ with | some false=>.nx ρ | some true=>(match b ρ with | .nx ρ'=>p9 c b n ρ' | .ct ρ'=>p9 c b n ρ' | .bk ρ'=>.nx ρ' | .rt d=>.rt d | .no=>.no) | none=>.no):=rfl;rw [e1];rw [e2] at h ⊢;cases e3:c ρ with
  | none=>rfl
  | some x =>
   rw [e3] at h;cases x with
   | false=>rfl
   | true =>
    cases e4:b ρ with
    | nx ρ'=>rw [e4] at h; exact u3 h
    | ct ρ'=>rw [e4] at h; exact u3 h
    | _=>rfl
theorem BW {c:aU→Option Bool} {b:DS} {k:Nat} (h:p9 c b n ρ≠.no):p9 c b (n+k) ρ=p9 c b n ρ:=by
 induction k with
 | zero=>rfl
 | succ k ih=>rw [← Nat.add_assoc,u3 (by rw [ih]; exact h),ih]
theorem EW {c:aU→Option Bool} {b:DS} {r:Res} (h:p9 c b n ρ=r) (hr:r≠.no):ql c b ρ=r:=by
 have ex:∃ n,p9 c b n ρ≠.no:=⟨n,by rw [h]; exact hr⟩
 unfold ql;rw [dif_pos ex];have q:=ex.choose_spec;generalize ex.choose=m at q;have e1:=BW (k:=n) q;have e2:=BW (k:=m) (show p9 c b n ρ≠.no by rw [h]; exact hr);rw [Nat.add_comm] at e2;rw [← e1,e2,h]
theorem Au {c:aU→Option Bool} {b:DS} (hc:nO K tc c) (hb:de fr K tb b):de fr K (Gk tc tb) (ql c b):=fun {B Z os ρ σ H E} f p=>by
 unfold ql at p;by_cases ex:∃ n,p9 c b n ρ≠.no
 ·rw [dif_pos ex] at p;generalize ex.choose=n0 at p;refine ⟨fun m σ' H'=>∃ os' ρ',Fr K B Z os' ρ' σ' H'∧Kp (cE Z os) H (cE Z os') H'∧uo fr K B Z os H E (p9 c b m ρ'),⟨n0,os,ρ,f,Kp.refl,p⟩,?_⟩;rintro m σ2 H2 ⟨os2,ρ2,f2,k2,p2⟩;cases m with
  | zero =>
   unfold p9 at p2;split at p2
   ·rename_i e;exact hc f2 e fun H3 s3=>rR (p2 os2 σ2 H3 (f2.grow s3) (k2.trans (Kp.same s3)))
   ·exact p2.elim
  | succ m =>
   have p2:uo fr K B Z os H E (match c ρ2 with | some false=>.nx ρ2 | some true=>(match b ρ2 with | .nx ρ'=>p9 c b m ρ' | .ct ρ'=>p9 c b m ρ' | .bk ρ'=>.nx ρ' | .rt d=>.rt d | .no=>.no) | none=>.no):=p2;cases e:c ρ2 with
   | none=>rw [e] at p2; exact p2.elim
   | some x =>
    rw [e] at p2;cases x with
    | false=>exact hc f2 e fun H3 s3=>rR (p2 os2 σ2 H3 (f2.grow s3) (k2.trans (Kp.same s3)))
    | true =>
     refine hc f2 e fun H3 s3=>uf ⟨fun σ' H'=>∃ os' ρ',Fr K B Z os' ρ' σ' H'∧Kp (cE Z os) H (cE Z os') H'∧uo fr K B Z os H E (p9 c b m ρ'),fun σ' H' h=>⟨m,SO _,h⟩,hb (f2.grow s3) ?_⟩;have k3:=k2.trans (Kp.same s3);cases e4:b ρ2 with
     | nx ρ'=>rw [e4] at p2; exact fun os' σ' H' f' k'=>⟨os',_,f',k3.trans k',p2⟩
     | ct ρ'=>rw [e4] at p2; exact fun os' σ' H' f' k'=>⟨os',_,f',k3.trans k',p2⟩
     | bk ρ'=>rw [e4] at p2; exact fun os' σ' H' f' k'=>p2 os' σ' H' f' (k3.trans k')
     | rt d=>rw [e4] at p2; exact p2
     | no=>rw [e4] at p2; exact p2.elim
 ·rw [dif_neg ex] at p; exact p.elim
def fX (n:Nat) (ms:List Bool) (ds:List D):aU:=Vi wW ms ds++Rx (n-ds.length) .un
@[irreducible] def b6 (n:Nat) (ms:List Bool) (b:DS) (ds:List D):Option D:=match b (fX n ms ds) with
 | .rt d=>some d
 | .nx _=>some .non
 | _=>none
@[irreducible] def eG (n:Nat) (ms:List Bool) (b:DS) (ds:List D):Option D:=match b (fX n ms ds) with
 | .rt d=>some d
 | _=>none
theorem qY {N:List Rf} (hz:ZT Z H) (h:Args K H Z ms vs ds):Fr K H Z (fun _=>[]) (fX N.length ms ds) (L2.start N vs) H where
 keep:=bu.refl _
 F0:=hz.1
 tab:=hz.2
 len:=by unfold fX L2.start;have:=h.len;simp only [Ru,Q5,RV,Tp];lia
 nd:=fun _=>Tw
 dj:=fun _ _ _ h=>by cases h
 new:=fun _ _ h=>by cases h
 sl:=fun j=>by
  have hl:=h.len
  have key:∀ {ms:List Bool} {vs:List V} {ds:List D} (j:Nat),Args K H Z ms vs ds→j<ms.length→xy K H H (cE Z fun _=>[]) [] (((Vi wW ms ds)[j]?).getD .un) ((vs.map some)[j]?.join):=by
   intro ms vs ds j h;induction h generalizing j with
   | nil=>intro hj; simp at hj
   | own i _ ih =>
    intro hj;cases j with
    | zero=>exact ⟨rfl,_,rfl,i.kp ‹63›⟩
    | succ j=>exact ih j ‹83›
   | any i _ ih =>
    intro hj;cases j with
    | zero=>exact ⟨rfl,_,rfl,i⟩
    | succ j=>exact ih j ‹83›
  unfold fX L2.start;rw [Rc];by_cases hj:j<ms.length
  ·rw [Rz (by rw [Tp]; lia),Rz (by rw [Q5]; lia)];exact key j h hj
  ·rw [RO (by rw [Tp]; lia),Sb];split <;> exact rfl
theorem eQ.nK {w:Sn} {x qual:Rf} {N ps:List Rf} {k:Nat} (F:eQ K x qual st f fd) (S:ba N ps (aI st)) (ms:List Bool) (hms:ms.length=ps.length) (b:DS)
 (hbody:∀ (cdv:Q7) (A:SG) (outer:List XX) (s:Rb) (H:Hp) (E:XK),fk k ‹110› →
  ∃ t,wI ‹59›.Lx (eU st) t∧de .v K t b):bQ P w K mg base gW (k+1) f fd ps (jv .v K ms (b6 N.length ms b)):=by
 refine F.ok S (fun vs H Q E h=>?_) ‹91›
 ·obtain ⟨Z,ds,d,hz,a,_⟩:=h;rw [a.len.1,hms]
 ·obtain ⟨Z,ds,d,hz,a,e,k⟩:=h;obtain ⟨t,h1,h2⟩:=hbody cdv A outer s H E hr;refine ⟨t,h1,h2 (qY hz a) ?_⟩;unfold b6 at e;split at e
  ·rename_i d' e1;cases e;rw [e1];exact fun v H' s' i=>k v H' s' i
  ·rename_i ρ e1;cases e;rw [e1];exact fun os' σ' H' f' _=>k _ H' f'.keep .non
  ·cases e
theorem eQ.Qu {w:Sn} {x qual:Rf} {N ps:List Rf} {k:Nat} (F:eQ K x qual st f fd) (S:ba N ps (aI st)) (ms:List Bool) (hms:ms.length=ps.length) (b:DS)
 (hbody:∀ (cdv:Q7) (A:SG) (outer:List XX) (s:Rb) (H:Hp) (E:XK),fk k ‹110› →
  ∃ t,wI ‹59›.Lx (eU st) t∧de fr K t b) (hfr:∀ E C,fr≠.x E C:=by intro _ _ h; cases h):bQ P w K mg base gW (k+1) f fd ps (jv fr K ms (eG N.length ms b)):=by
 refine F.ok S (fun vs H Q E h=>?_) ‹91›
 ·obtain ⟨Z,ds,d,hz,a,_⟩:=h;rw [a.len.1,hms]
 ·obtain ⟨Z,ds,d,hz,a,e,k⟩:=h;obtain ⟨t,h1,h2⟩:=hbody cdv A outer s H E hr;refine ⟨t,h1,h2 (qY hz a) ?_⟩;unfold eG at e;split at e
  ·rename_i d' e1;cases e;rw [e1];cases fr with
   | v=>exact fun v H' s' i=>k v H' s' i
   | l=>exact fun v H' s' i=>k v H' s' i
   | m=>exact fun v H' s' i=>k v H' s' i
   | x E0 C=>exact absurd rfl (hfr E0 C)
  ·cases e
end
end
end VL
namespace L2
variable {cl:List (Rf×Q6)} {scope:Va} {zs:List Rf} {u:Am} {K:Q2}
open PySem PySem.Spec PyProof.Rows
section
open VL (s0)
section
variable {X:Cx}
inductive SubL (X:Cx):List (Rf×Q6)→Prop
 | nil:SubL X []
 | cons {z:Rf} {c:Q6} {r:List (Rf×Q6)}:X.env.cells.lookup z=some c→SubL X r→SubL X ((z,c)::r)
theorem SubL.sub (h:SubL X cl):∀ x c,cl.lookup x=some c→X.env.cells.lookup x=some c:=by
 induction h with
 | nil=>intro x c e; cases e
 | @cons z c r h _ ih =>
  intro x c' e;rw [Sr] at e;cases q:x==z with
  | true=>rw [q] at e; cases e; rw [eq_of_beq q]; exact h
  | false=>rw [q] at e; exact ih x c' e
inductive tE (X:Cx) (scope:Va) (cl:List (Rf×Q6)):List Nat→List Rf→Prop
 | nil:tE X scope cl [] []
 | cons {i:Nat} {z:Rf} {c:Q6} {is:List Nat} {zs:List Rf}:X.N[i]?=some z→(X.env.scope.names.lookup z=some .cell∨X.env.scope.names.lookup z=some .free)→cl.lookup z=some c →
  (‹37›.names.lookup z=some .cell∨‹37›.names.lookup z=some .free)→tE X scope cl is zs→tE X scope cl (i::is) (z::zs)
theorem tE.get {is:List Nat} (h:tE X scope cl is zs):∀ (j:Nat) (z:Rf),zs[j]?=some z→∃ i c,is[j]?=some i∧X.N[i]?=some z∧(X.env.scope.names.lookup z=some .cell∨X.env.scope.names.lookup z=some .free)∧cl.lookup z=some c ∧
 (‹37›.names.lookup z=some .cell∨‹37›.names.lookup z=some .free):=by
 induction h with
 | nil=>intro j z e; simp at e
 | cons h1 h2 h3 h4 _ ih =>
  intro j z e;cases j with
  | zero=>cases e; exact ⟨_,_,rfl,h1,h2,h3,h4⟩
  | succ j=>exact ih j z (by simpa using e)
theorem tE.len {is:List Nat} (h:tE X scope cl is zs):is.length=zs.length:=by
 induction h with
 | nil=>rfl
 | cons _ _ _ _ _ ih=>simp [ih]
theorem Es.many {is:List Nat} {ts:List Rf} {k:Nat} {σ:St} (hk:ts.length=k) (hs:SubL X cl) (hc:tE X scope cl is zs)
 (ha:(‹37›.names.all fun y=>!(y.2==.cell || y.2==.free) || zs.contains y.1)=true):Es X (ts++zs) scope cl σ (s0 k is σ) where
 sub:=hs.sub
 vals:=fun j x v e1 e2=>by
  unfold s0 at e2;by_cases hj:j<k
  ·rw [Rz ‹83›,Sb,if_pos hj] at e2; cases e2
  ·rw [RO ‹83›,RV,Ro] at e2;rw [RO (by lia),hk] at e1;obtain ⟨i,c,f1,f2,f3,f4,f5⟩:=hc.get _ _ e1;rw [f1] at e2;have e3:(σ[i]?).join=some v:=R5 e2;refine ⟨i,c,f2,VL.join_some e3,?_,?_,f4,f5⟩
   ·rcases f3 with q | q
    ·exact .inr (.inl q)
    ·exact .inr (.inr q)
   ·intro w;have w:X.env.scope.names.lookup x=some .local:=w;rcases f3 with q | q <;> rw [q] at w <;> cases w
 has:=fun x h=>by
  have key:∀ kd,‹37›.names.lookup x=some kd→(kd==X3 || kd==Zh)=true→x∈zs:=fun kd e q=>by
   have m:=Ry.mp ha _ (Tb e);rw [q] at m;have:zs.contains x=true:=by simpa using m
   exact Xt.mp this
  have mem:x∈zs:=by
   rcases h with h | h
   ·exact key _ h rfl
   ·exact key _ h rfl
  obtain ⟨j,hj⟩:=UB mem;obtain ⟨i,c,_,_,_,f4,_⟩:=hc.get j x hj;exact ⟨c,f4⟩
 len:=by unfold s0; rw [Ru,Ru,RV,Q5,hk,hc.len]
def KU (k:Nat) (g:TG):Prop:=∀ x σ H (Q:St→Hp→Prop),g x σ H Q→∃ σ2 H2,Q σ2 H2∧σ2.length=σ.length∧(∀ j,k≤j→σ2[j]?=σ[j]?)∧∀ Q':St→Hp→Prop,Q' σ2 H2→g x σ H Q'
def KS (k:Nat) (g:Am):Prop:=∀ x σ H (Q:St→Hp→Prop),g x σ H Q→∃ σ2 H2,Q σ2 H2∧σ2.length=σ.length∧(∀ j,k≤j→σ2[j]?=σ[j]?)∧∀ Q':St→Hp→Prop,Q' σ2 H2→g x σ H Q'
theorem bO {k i:Nat} (h:i<k):KU k (kA i):=fun x σ H Q q=>⟨_,_,q,Su,fun j hj=>by rw [SH (by lia)],fun _ z=>z⟩
theorem HP {k:Nat}:KS k Nj:=fun x σ H Q q=>⟨_,_,q.2,rfl,fun _ _=>rfl,fun _ z=>⟨q.1,z⟩⟩
theorem lows_cons {t:TG} {k:Nat} (h1:KU k t) (h2:KS k u):KS k (Ik t u):=fun x σ H Q q=>by obtain ⟨v,r,e,q⟩:=q;obtain ⟨σ1,H1,q1,l1,k1,g1⟩:=h1 _ _ _ _ q;obtain ⟨σ2,H2,q2,l2,k2,g2⟩:=h2 _ _ _ _ q1;exact ⟨σ2,H2,q2,l2.trans l1,fun j hj=>(k2 j hj).trans (k1 j hj),fun Q' z=>⟨v,r,e,g1 _ (g2 Q' z)⟩⟩
theorem Kd {k n:Nat} (h:KS k u):KU k (Ks K n u):=fun x σ H Q q=>by
 rcases q with ⟨a,xs,e,hs,hl,q⟩ | ⟨a,xs,e,hs,hl,q⟩
 ·obtain ⟨σ1,H1,q1,l1,k1,g1⟩:=h _ _ _ _ q;exact ⟨σ1,H1,q1,l1,k1,fun Q' z=>.inl ⟨a,xs,e,hs,hl,g1 Q' z⟩⟩
 ·obtain ⟨σ1,H1,q1,l1,k1,g1⟩:=h _ _ _ _ q;exact ⟨σ1,H1,q1,l1,k1,fun Q' z=>.inr ⟨a,xs,e,hs,hl,g1 Q' z⟩⟩
theorem KU.keep {k:Nat} {g:TG} {cs:List Nat} (h:KU k g) (σ:St):BM g (s0 k cs σ):=fun x H Q q=>by
 obtain ⟨σ1,H1,q1,l1,k1,g1⟩:=h _ _ _ _ q;refine g1 _ ⟨q1,l1,fun j v e=>?_⟩;by_cases hj:j<k
 ·unfold s0 at e;rw [Rz ‹83›,Sb,if_pos hj] at e; cases e
 ·rw [k1 j (by lia)]; exact e
variable {tg elt iter c:Sv} {scope:Va} {cl:List (Rf×Q6)} {ts zs:List Rf} {is:List Nat} {k:Nat} {g:TG} {tt:TT} {te:TE} {wi:TI} {pos:VJ}
theorem cn {l:Sv} {tl:TE} (h:X.K=K) (hl:PE X l tl):PI X tg l (Bl K tl):=by subst h; exact JU hl
end
end
end L2
namespace VL
open PySem L2
def GH [cu] (K:Q2):Sp:=fun vs H Q _=>∃ (a:Q6) (ns:List Int),vs=[.ref a]∧mS K H a (ns.map V.int)∧ns.length≤63∧(∀ m∈ns,RU m≤1048576)∧wH H∧∀ H',Q (.bl true) H'
theorem EJ [cu] {K:Q2} {F:List D→Option D} (ht:∀ ns:List Int,ns.length≤63→(∀ m∈ns,RU m≤1048576)→F [.scr ns]=some (.bl true)) {vs:List V} {H:Hp} {Q:VK} {E:XK} (h:GH K vs H Q E):jv .v K [false] F vs H Q E:=by
 obtain ⟨a,ns,rfl,hS,hl,hb,htab,k⟩:=h;have hz:ns.length≤Q4:=RE hl ‹6›;refine ⟨No,[.scr ns],.bl true,⟨fun a z=>z.elim,htab⟩,.any ?_ .nil,ht ns hl hb,fun v H' s i=>by cases i; exact k H'⟩;rcases hS with hS | hS
 ·exact .scr (fun z=>z) hS hz
 ·exact .scrK hS hz
end VL
namespace L2
open PySem PySem.Spec PyProof.Rows
section
variable {X:Cx} {K:Q2}
theorem IM:S3 "any" = some (.builtin "any"):=by decide +kernel
theorem NG:S3 "zip" = some (.type "zip"):=by decide +kernel
theorem C7:S3 "str" = some (.type "str"):=by decide +kernel
def Gi:V→Option Bool
 | .bl b=>some b
 | .int i=>some (i != 0)
 | _=>none
theorem D3 {s:Rb} {h':SA} {o:TK} (hk:∀ b x,b∉[‹7›]→(s.heap.push o).get? b=some x→h'.get? b=some x):∀ b x,s.heap.get? b=some x→h'.get? b=some x :=
 fun b x e=>hk b x (fun hm=>by rw [Q3.mp hm] at e; exact Sg _ (Rm e)) (Rk _ e)
theorem PV (bs:List Bool):((Rl bs.length).all fun i=>(bs[i]?).getD true)=bs.all id:=by
 rw [RG,Ry,Ry];constructor
 ·intro h x hx;obtain ⟨i,hi⟩:=UB hx;have:=h i (Sa.mpr (Rp.mp hi).1);rw [hi] at this;exact this
 ·intro h i hi;have:=Sa.mp hi;rw [Q8 this];exact h _ (Uc this)
theorem PU (bs:List Bool):((Rl bs.length).any fun i=>(bs[i]?).getD false)=bs.any id:=by
 rw [RG,Vu,Vu];constructor
 ·rintro ⟨i,hi,h⟩;have:=Sa.mp hi;rw [Q8 this] at h;exact ⟨_,Uc this,h⟩
 ·rintro ⟨x,hx,h⟩;obtain ⟨i,hi⟩:=UB hx;exact ⟨i,Sa.mpr (Rp.mp hi).1,by rw [hi]; exact h⟩
def Ox (K:Q2) (f:List Bool→Bool):List V→Hp→VK→Prop:=fun xs H Q=>∃ (p:Q6) (vs:List V) (bs:List Bool),xs=[.ref p]∧mS K H p vs∧vs.map Gi=bs.map some∧Q (.bl (f bs)) H
theorem Gh {vs:List V} {us:List Q7} {bs:List Bool} (r:Vals vs us) (h:vs.map Gi=bs.map some) {i:Nat} {u:Q7} (e:us[i]?=some u):∃ b,bs[i]?=some b∧∀ {prog:Sd} {w:Sn} {A:SG} {s':Rb} {Q:Bool→Rb→Prop} {E:Q7→Rb→Prop},Q b s'→Rv ‹40› A (truthy u) Q E s':=by
 have hi:i<vs.length:=by rw [r.length]; exact (Rp.mp e).1
 have e1:vs[i]?=some vs[i]:=Q8 hi;obtain ⟨u',e2,ru⟩:=r.get e1;rw [e] at e2;cases e2;have e3:(bs.map some)[i]?=some (Gi vs[i]):=by rw [← h,Ro,e1]; rfl
 rw [Ro] at e3;cases e4:bs[i]? with
 | none=>rw [e4] at e3; cases e3
 | some b =>
  rw [e4] at e3;have e5:some b=Gi vs[i]:=R5 e3;refine ⟨b,rfl,fun {prog w A s' Q E} q=>?_⟩;cases e6:vs[i] with
  | bl c =>rw [e6] at e5 ru;cases e5;cases ru;exact S4 q
  | int n =>rw [e6] at e5 ru;have e5:some b=some (n != 0):=e5;cases e5;obtain ⟨t,rfl⟩:=ru;exact X8 q
  | _=>rw [e6] at e5; cases e5
theorem iT (hc:X.calm=true) (hK:X.K=K):ma X (.builtin "all") (Ox K fun bs=>bs.all id):=by
 show 3
 refine call_all_walk (Vf hl ?_)
 refine ⟨‹7›,[‹7›,p],[‹7›],its.toArray.size,_,_,fun i=>(bs[i]?).getD true,rfl,Walks.list (A:=X.A.in1) (I.ok.hd hc) _ p (RX hlt) its.toArray,
  ⟨⟨_,RI _ rfl,rfl,rfl⟩,hl.push _⟩,fun i v s' Q' E' hP hQ=>?_,fun h' tk hk=>?_⟩
 ·obtain ⟨b,e,k⟩:=Gh r' hb (i:=i) (u:=v) (by simpa using hP);simp only [e,YJ] at hQ;exact k hQ
 ·have e:((Rl its.toArray.size).all fun i=>(bs[i]?).getD true)=bs.all id:=by
   have:its.length=bs.length:=by have:=congrArg VE hb;rw [Q5,Q5] at this;rw [← r'.length]; exact this
   rw [Rr,this]; exact PV bs
  rw [e];exact ⟨.bl _,H,I.kept (t':=tk) (D3 hk),rfl,q⟩
theorem yp (hc:X.calm=true) (hK:X.K=K):ma X (.builtin "any") (Ox K fun bs=>bs.any id):=by
 show 3
 refine call_any_walk (Vf hl ?_)
 refine ⟨‹7›,[‹7›,p],[‹7›],its.toArray.size,_,_,fun i=>(bs[i]?).getD false,rfl,Walks.list (A:=X.A.in1) (I.ok.hd hc) _ p (RX hlt) its.toArray,
  ⟨⟨_,RI _ rfl,rfl,rfl⟩,hl.push _⟩,fun i v s' Q' E' hP hQ=>?_,fun h' tk hk=>?_⟩
 ·obtain ⟨b,e,k⟩:=Gh r' hb (i:=i) (u:=v) (by simpa using hP);simp only [e,YJ] at hQ;exact k hQ
 ·have e:((Rl its.toArray.size).any fun i=>(bs[i]?).getD false)=bs.any id:=by
   have:its.length=bs.length:=by have:=congrArg VE hb;rw [Q5,Q5] at this;rw [← r'.length]; exact this
   rw [Rr,this]; exact PU bs
  rw [e];exact ⟨.bl _,H,I.kept (t':=tk) (D3 hk),rfl,q⟩
end
end L2
namespace VL
variable {x:Bool} {it:aU→Option (List D)} {F:List D→Option D} {neg:Bool} {n:Nat} {ms:List Bool} {P:D→Prop} {ns:List Int} {α:Type} {ρ:aU} {el:DE}
open PySem L2
section
open Classical
section
section
variable [cu] {K:Q2} {ta tb tc:TE} {a b c:DE}
def qU:List D→Option (List Bool)
 | []=>some []
 | .bl b::r=>(qU r).map (b::·)
 | .int i::r=>(qU r).map ((i != 0)::·)
 | _=>none
theorem yK {H:Hp} {Z:Q6→Prop}:∀ {vs:List V} {ds:List D} {bs:List Bool},IsL K H Z vs ds→qU ds=some bs→vs.map Gi=bs.map some
 | _,[],_,.nil,e=>by cases e; rfl
 | _,d::r,bs,.cons h t,e=>by
  unfold qU at e;split at e
  ·rename_i q; cases q
  ·rename_i b r' q;cases q;cases q:qU r with
   | none=>rw [q] at e; cases e
   | some cs=>rw [q] at e; cases e; rw [R4,R4,yK t q,h.yG]; rfl
  ·rename_i b r' q;cases q;cases q:qU r with
   | none=>rw [q] at e; cases e
   | some cs=>rw [q] at e; cases e; rw [R4,R4,yK t q,h.qR]; rfl
  ·cases e
theorem uu:∀ (bs:List Bool),qU (bs.map D.bl)=some bs
 | []=>rfl
 | b::r=>by show (qU (r.map D.bl)).map (b::·)=_; rw [uu r]; rfl
def Qc (g:List Bool→Bool):D→Option D
 | .lst ds=>(qU ds).map fun bs=>.bl (g bs)
 | _=>none
theorem Ll {g:List Bool→Bool} (ha:bD K ta a):ai K (Dv (Ox K g) (cF ta fA)) (fW (Qc g) a):=by
 refine Ay (fun {H v d e Q} h q=>?_) ha;cases h with
 | lst hz h hl r =>
  rename_i p vs ds;have q:(qU ds).map (fun bs=>D.bl (g bs))=some e:=q;cases q1:qU ds with
  | none=>rw [q1] at q; cases q
  | some bs =>rw [q1] at q;cases q;exact ⟨rfl,fun k=>⟨p,vs,bs,rfl,.inl h,yK r q1,k⟩⟩
 | _=>cases q
def wG:D→Option D:=Qc fun bs=>bs.all id
def NI:D→Option D:=Qc fun bs=>bs.any id
theorem qk (ha:bD K ta a):ai K (Dv (Ox K fun bs=>bs.all id) (cF ta fA)) (fW wG a):=Ll ha
theorem GQ (ha:bD K ta a):ai K (Dv (Ox K fun bs=>bs.any id) (cF ta fA)) (fW NI a):=Ll ha
end
end
end
section
open Classical
section
structure Wk where
 nx:aU→Prop
 rt:D→Prop
 bk:aU→Prop:=fun _=>False
 ct:aU→Prop:=fun _=>False
@[irreducible] def Wp (s:DS) (ρ:aU) (W:Wk):Prop:=match s ρ with
 | .nx ρ'=>W.nx ρ'
 | .rt d=>W.rt d
 | .bk ρ'=>W.bk ρ'
 | .ct ρ'=>W.ct ρ'
 | .no=>False
section
variable {s u b:DS} {ρ:aU} {W:Wk} {i:Nat} {a e k:DE} {d:D} {c:aU→Option Bool} {es:aU→Option (List D)} {ds:List D} {g:DG}
theorem wp_seq (h:Wp s ρ { W with nx:=fun ρ'=>Wp u ρ' W }):Wp (aM s u) ρ W:=by unfold Wp aM at *;cases e:s ρ <;> rw [e] at h <;> exact h
theorem bj (h:W.nx ρ):Wp aT ρ W:=by unfold Wp aT; exact h
theorem bx (h:a ρ=some d) (k:W.rt d):Wp (cy a) ρ W:=by unfold Wp cy; rw [h]; exact k
theorem qQ (h:c ρ=some x) (ht:x=true→Wp s ρ W) (hf:x=false→Wp u ρ W):Wp (cQ c s u) ρ W:=by
 unfold Wp cQ at *;rw [h];cases x
 ·exact hf rfl
 ·exact ht rfl
theorem p0 {p:Prop} {_:Decidable p} (h:c ρ=some (decide p)) (ht:p→Wp s ρ W) (hf:¬ p→Wp u ρ W):Wp (cQ c s u) ρ W:=by refine qQ h (fun q=>ht (of_decide_eq_true q)) fun q=>hf (of_decide_eq_false q)
theorem cA (h:c ρ=some true) (ht:Wp s ρ W):Wp (cQ c s u) ρ W:=qQ h (fun _=>ht) fun q=>by cases q
theorem cm (h:c ρ=some false) (ht:Wp u ρ W):Wp (cQ c s u) ρ W:=qQ h (fun q=>by cases q) fun _=>ht
theorem bp (h:a ρ=some d) (k:W.nx (ρ.set i (.pu d))):Wp (bS i a) ρ W:=by unfold Wp bS; rw [h]; exact k
theorem kr (h:es ρ=some ds) (hi:i < ρ.length) (k:W.nx (ρ.set i (.ol ds))):Wp (pO i es) ρ W:=by unfold Wp pO; rw [h]; simp only [if_pos hi]; exact k
theorem KY {ρ':aU} (h:a ρ=some d) (hg:g d ρ=some ρ') (k:W.nx ρ'):Wp (Ml a g) ρ W:=by unfold Wp Ml; rw [h]; simp only [hg]; exact k
theorem uZ (h:Wp s (uM i ρ) W):Wp (Cw i s) ρ W:=by unfold Wp Cw at *; exact h
theorem F5 (h0:ρ.getD i .un=.ol ds) (h:a ρ=some d) (hl:ds.length<Q4) (k:W.nx (ρ.set i (.ol (ds++[d])))):Wp (EZ i a) ρ W:=by unfold Wp EZ; rw [h0]; simp only [h,if_pos hl]; exact k
theorem yB {n:Int} {j:Nat} (h0:ρ.getD i .un=.ol ds) (h1:a ρ=some d) (h:e ρ=some (.int n)) (hj:ixN ds.length n=some j) (k:W.nx (ρ.set i (.ol (ds.set j d)))):Wp (EX i e a) ρ W:=by unfold Wp EX; rw [h0]; simp only [h,h1,hj]; exact k
theorem yD {f:Int→Int→Int} {x y:Int} (h0:ak i ρ=some (.int x)) (h:a ρ=some (.int y)) (k:W.nx (ρ.set i (.pu (.int (f x y))))):Wp (EY f i a) ρ W:=by unfold Wp EY; rw [h0]; simp only [h]; exact k
theorem iL (h:it ρ=some ds) (I:Nat→aU→Prop) (h0:I 0 ρ)
 (hs:∀ (j:Nat) (d:D) (ρ:aU),ds[j]?=some d→I j ρ→∃ ρ1,g d ρ=some ρ1∧Wp b ρ1 { W with nx:=I (j+1),ct:=I (j+1),bk:=W.nx })
 (he:∀ ρ,I ds.length ρ→W.nx ρ):Wp (nF it g b) ρ W:=by
 have key:∀ (n j:Nat) (ρ:aU),n=ds.length-j→j≤ds.length→I j ρ→Wp (fun ρ=>sV g b (ds.drop j) ρ) ρ W:=by
  intro n;induction n with
  | zero =>
   intro j ρ hn hj hI;have e:j=ds.length:=by lia
   subst e;unfold Wp;simp only [UI,sV];exact he ρ hI
  | succ n ih =>
   intro j ρ hn hj hI;have hlt:j<ds.length:=by lia
   obtain ⟨ρ1,e1,w1⟩:=hs j ds[j] ρ (Q8 hlt) hI;unfold Wp;dsimp only;rw [Sz hlt];unfold sV;rw [e1];unfold Wp at w1;dsimp only;cases e2:b ρ1 with
   | nx ρ2=>rw [e2] at w1; have q:=ih (j+1) ρ2 (by lia) hlt w1; unfold Wp at q; exact q
   | ct ρ2=>rw [e2] at w1; have q:=ih (j+1) ρ2 (by lia) hlt w1; unfold Wp at q; exact q
   | bk ρ2=>rw [e2] at w1; exact w1
   | rt d=>rw [e2] at w1; exact w1
   | no=>rw [e2] at w1; exact w1
 have:=key _ 0 ρ rfl (Th _) h0;unfold Wp at this;unfold Wp nF;rw [h];exact this
theorem Aq (I:Nat→aU→Prop) (n:Nat) (h0:I n ρ) (hs:∀ n ρ,I n ρ→∃ x,c ρ=some x∧(x=true→Wp b ρ { W with nx:=fun ρ'=>∃ m,m<n∧I m ρ',ct:=fun ρ'=>∃ m,m<n∧I m ρ',bk:=W.nx })∧(x=false→W.nx ρ)):Wp (ql c b) ρ W:=by
 have key:∀ n ρ,I n ρ→∃ r,p9 c b (n+1) ρ=r∧r≠.no∧(match r with | .nx ρ'=>W.nx ρ' | .rt d=>W.rt d | .bk ρ'=>W.bk ρ' | .ct ρ'=>W.ct ρ' | .no=>False):=by
  intro n;induction n using UZ with
  | _ n ih =>
   intro ρ hI;obtain ⟨x,ec,ht,hf⟩:=hs n ρ hI;have un:p9 c b (n+1) ρ=(match c ρ with | some false=>Res.nx ρ | some true=>(match b ρ with | .nx ρ'=>p9 c b n ρ' | .ct ρ'=>p9 c b n ρ' | .bk ρ'=>.nx ρ' | .rt d=>.rt d | .no=>.no) | none=>.no):=rfl;rw [un,ec];cases x with
   | false=>exact ⟨.nx ρ,rfl,(fun z=>by cases z),hf rfl⟩
   | true =>
    have w:=ht rfl;unfold Wp at w
    have step:∀ ρ',(∃ m,m<n∧I m ρ')→∃ r,p9 c b n ρ'=r∧r≠.no∧(match r with | .nx ρ'=>W.nx ρ' | .rt d=>W.rt d | .bk ρ'=>W.bk ρ' | .ct ρ'=>W.ct ρ' | .no=>False):=by
     rintro ρ' ⟨m,hm,hI'⟩;obtain ⟨r,e,hr,q⟩:=ih m hm ρ' hI';refine ⟨r,?_,hr,q⟩;obtain ⟨k,rfl⟩:∃ k,n=m+1+k:=⟨n-m-1,by lia⟩
     rw [BW (by rw [e]; exact hr),e]
    cases eb:b ρ with
    | nx ρ'=>rw [eb] at w; exact step ρ' w
    | ct ρ'=>rw [eb] at w; exact step ρ' w
    | bk ρ'=>rw [eb] at w; exact ⟨.nx ρ',rfl,(fun z=>by cases z),w⟩
    | rt d=>rw [eb] at w; exact ⟨.rt d,rfl,(fun z=>by cases z),w⟩
    | no=>rw [eb] at w; exact w.elim
 obtain ⟨r,e,hr,q⟩:=key n ρ h0;unfold Wp;rw [EW e hr];exact q
end
section
variable {ρ:aU} {a b c:DE} {i j k:Int} {d e:D} {es:aU→Option (List D)} {ds:List D}
theorem k4 (ha:a ρ=some (.int i)) (hb:b ρ=some (.int j)):pK a b ρ=some (.int (i+j)):=by unfold pK Al; rw [ha,hb]
theorem mH (ha:a ρ=some (.int i)) (hb:b ρ=some (.int j)) (h:Xz i j):uk a b ρ=some (.int (i*j)):=by unfold uk Al; rw [ha,hb]; exact Il h
theorem j9 (ha:a ρ=some (.int i)) (hb:b ρ=some (.int j)) (h:0<j):qE a b ρ=some (.int (i % j)):=by unfold qE Al; rw [ha,hb]; exact Il (C:=fun _ j=>0<j) h
theorem Iu (ha:a ρ=some (.int i)) (hb:b ρ=some (.int j)):O5 a b ρ=some (.bl (decide (i<j))):=by unfold O5 Al; rw [ha,hb]
theorem wu (ha:a ρ=some (.int i)) (hb:b ρ=some (.int j)):KN a b ρ=some (.bl (decide (i≤j))):=by unfold KN Al; rw [ha,hb]
theorem yh (ha:a ρ=some (.int i)) (hb:b ρ=some (.int j)):KO a b ρ=some (.bl (decide (j<i))):=by unfold KO Al; rw [ha,hb]
theorem Ee (ha:a ρ=some (.int i)) (hb:b ρ=some (.int j)):O6 a b ρ=some (.bl (decide (j≤i))):=by unfold O6 Al; rw [ha,hb]
theorem qA (ha:a ρ=some (.int i)):wz a ρ=some (.int (-i)):=by unfold wz; rw [ha]
theorem dE {p q:Int→Int→Bool} (ha:a ρ=some (.int i)) (hb:b ρ=some (.int j)) (hc:c ρ=some (.int k)):fM p q a b c ρ=some (.bl (p i j&&q j k)):=by
 unfold fM; rw [ha,hb]; dsimp only;cases e:p i j
 ·rfl
 ·rw [if_pos rfl,hc]; rfl
theorem dG (ha:a ρ=some (.bl x)):dT a ρ=some x:=by unfold dT; rw [ha]
theorem cj (ha:a ρ=some d) (h:L8 d=some x):dw a ρ=some x:=by unfold dw; rw [ha]; exact h
theorem cf {p:aU→Option Bool} (ha:p ρ=some x):dF p ρ=some (!x):=by unfold dF; rw [ha]
theorem sW {p q:aU→Option Bool} {y:Bool} (ha:p ρ=some x) (hb:x=true→q ρ=some y):FJ p q ρ=some (x&&y):=by
 unfold FJ; rw [ha]; cases x
 ·rfl
 ·rw [hb rfl]; rfl
theorem iF {p q:aU→Option Bool} {y:Bool} (ha:p ρ=some x) (hb:x=false→q ρ=some y):BQ p q ρ=some (x || y):=by
 unfold BQ; rw [ha]; cases x
 ·rw [hb rfl]; rfl
 ·rfl
theorem fV {y:Bool} (ha:a ρ=some (.bl x)) (hb:x=true→b ρ=some (.bl y)):kc a b ρ=some (.bl (x&&y)):=by
 unfold kc; rw [ha]; cases x
 ·rfl
 ·rw [hb rfl]; rfl
theorem z5 {y:Bool} (ha:a ρ=some (.bl x)) (hb:x=false→b ρ=some (.bl y)):C6 a b ρ=some (.bl (x || y)):=by
 unfold C6; rw [ha]; cases x
 ·rw [hb rfl]; rfl
 ·rfl
theorem z6 (ha:a ρ=some (.bl x)):wy a ρ=some (.bl (!x)):=by unfold wy; rw [ha]
theorem ic (ha:a ρ=some d) (h:d.pB=true):j5 a ρ=some d:=by unfold j5; rw [ha]; exact if_pos h
theorem bf (h:es ρ=some ds):bw es ρ=some (.lst ds):=by unfold bw; rw [h]; rfl
theorem j8 (h:es ρ=some ds):pJ es ρ=some (.tup ds):=by unfold pJ; rw [h]; rfl
theorem af (h:a ρ=some d) (h2:es ρ=some ds):aq a es ρ=some (d::ds):=by unfold aq; rw [h,h2]
theorem c0 (ha:a ρ=some d) (hb:b ρ=some (.int i)) (h:FW d i=some e):cY a b ρ=some e:=by unfold cY; rw [ha,hb]; exact h
theorem c7 {g:D→Option D} (ha:a ρ=some d) (h:g d=some e):fW g a ρ=some e:=by unfold fW; rw [ha]; exact h
theorem aN (h:es ρ=some ds) (h2:F ds=some d):aJ F es ρ=some d:=by unfold aJ; rw [h]; exact h2
theorem Ef (ha:a ρ=some d) (hb:b ρ=some e) (h:nN 20 d e=true):dN neg a b ρ=some (.bl (if neg=true then !decide (d=e) else decide (d=e))):=by unfold dN; rw [ha,hb]; exact if_pos h
theorem Iy (ha:a ρ=some (.int i)) (hb:b ρ=some (.int j)):dN neg a b ρ=some (.bl (if neg=true then !decide (i=j) else decide (i=j))):=by
 rw [Ef ha hb rfl];have e:decide (D.int i=D.int j)=decide (i=j):=by rw [rW]; rw [RG]; simp
 rw [e]
theorem qB (ha:a ρ=some (.int i)) (hb:b ρ=some (.int j)):dN false a b ρ=some (.bl (decide (i=j))):=Iy (neg:=false) ha hb
theorem wt (ha:a ρ=some (.int i)) (hb:b ρ=some (.int j)):dN true a b ρ=some (.bl (decide (i≠j))):=by rw [Iy (neg:=true) ha hb,if_pos rfl];congr 2;rw [RG];simp
theorem yi {d:D} (ha:a ρ=some d) (hb:b ρ=some d) (h:nN 20 d d=true):dN false a b ρ=some (.bl true):=by rw [Ef ha hb h,if_neg Rn,decide_eq_true rfl]
theorem c6 (ha:a ρ=some d) (h:Pq d=some ds):lN a ρ=some ds:=by unfold lN; rw [ha]; exact h
theorem kZ (ha:a ρ=some (.int i)) (h:-(2 ^ 62)≤i∧i.toNat≤Q4):ig a ρ=some (Gd 0 i.toNat):=by unfold ig; rw [ha]; exact if_pos h
theorem C2 (h:es ρ=some ds) (hb:b ρ=some (.int i)) (hc:-(2 ^ 63)≤i∧i<2 ^ 63∧ds.length*i.toNat≤Q4):C5 es b ρ=some (Rx i.toNat ds).flatten:=by unfold C5; rw [h,hb]; exact if_pos hc
theorem Bo {lo hi:aU→Option (Option Int)} {l u:Option Int} (h:lN a ρ=some ds) (h1:lo ρ=some l) (h2:hi ρ=some u):yn a lo hi ρ=some (xv ds l u):=by unfold yn; rw [h,h1,h2]
theorem KG (h:es ρ=some ds) (hf:iE ds=true):yd es ρ=some ds:=by unfold yd; rw [h]; exact if_pos hf
theorem oA {xs ys:List D} (ha:a ρ=some (.lst xs)) (hb:b ρ=some (.lst ys)) (h:xs.length+ys.length≤Q4):gI a b ρ=some (xs++ys):=by unfold gI; rw [ha,hb]; exact if_pos h
theorem wq (ha:a ρ=some (.int i)):eM a ρ=some (some i):=by unfold eM; rw [ha]
theorem G2 {b:DS} {ds:List D} (h:Wp b (fX n ms ds) { nx:=fun _=>P .non,rt:=P }):∃ d,b6 n ms b ds=some d∧P d:=by
 unfold Wp at h;unfold b6;cases e:b (fX n ms ds) with
 | nx ρ=>rw [e] at h; exact ⟨_,rfl,h⟩
 | rt d=>rw [e] at h; exact ⟨_,rfl,h⟩
 | bk ρ=>rw [e] at h; exact h.elim
 | ct ρ=>rw [e] at h; exact h.elim
 | no=>rw [e] at h; exact h.elim
theorem run_eq {b:DS} {ds:List D} {d:D} (h:Wp b (fX n ms ds) { nx:=fun _=>D.non=d,rt:=fun x=>x=d }):b6 n ms b ds=some d:=by obtain ⟨x,e,rfl⟩:=G2 (P:=fun x=>x=d) h;exact e
theorem zx {b:DS} (hF:F=b6 n ms b) {ds:List D} (h:Wp b (fX n ms ds) { nx:=fun _=>P .non,rt:=P }):∃ d,F ds=some d∧P d:=by rw [hF]; exact G2 h
theorem bU {b:DS} (hF:F=b6 n ms b) {ds:List D} {d:D} (h:Wp b (fX n ms ds) { nx:=fun _=>D.non=d,rt:=fun x=>x=d }):F ds=some d:=by rw [hF]; exact run_eq h
theorem Bk {i j:Int} (h:(-(2 ^ 64)<i∧i<2 ^ 64)∨(-(2 ^ 64)<j∧j<2 ^ 64)):Xz i j:=NQ.ok h
theorem LC {i:Int} (h0:0≤i) (h1:i<ns.length):FW (.lst (ns.map D.int)) i=some (.int (ns.getD i.toNat 0)):=by
 show lh (ns.map D.int) i=_;unfold lh ixN;rw [if_pos h0,Q5,if_pos h1];show (ns.map D.int)[i.toNat]?=_;have hi:i.toNat<ns.length:=by lia
 rw [Ro,Q8 hi,Rc,Q8 hi];rfl
theorem Qy {i:Int} (h0:0≤i) (h1:i<ns.length):FW (.scr ns) i=some (.int (ns.getD i.toNat 0)):=by
 show (lh ns i).map D.int=_;unfold lh ixN;rw [if_pos h0,if_pos h1];have hi:i.toNat<ns.length:=by lia
 show (ns[i.toNat]?).map D.int=_;rw [Q8 hi,Rc,Q8 hi];rfl
theorem vW {i:Int} (h0:0≤i) (h1:i<n):ixN n i=some i.toNat:=by unfold ixN; rw [if_pos h0,if_pos h1]
end
end
end
section
open Classical
section
section
variable [cu] {K:Q2} {ta tb tc:TE} {a b c:DE}
theorem Br {k:Nat} {cs:List Nat} {g:DG} {t:aU→Option Bool} (emb:α→D) {xs:List α} (h:it ρ=some (xs.map emb)) (p:α→Bool) (f:α→D)
 (hs:∀ x∈xs,∃ ρ1,g (emb x) (r0 k cs ρ)=some ρ1∧t ρ1=some (p x)∧(p x=true→el ρ1=some (f x))):c8 k cs it g t el ρ=some ((xs.filter p).map f):=by
 unfold c8;rw [h];dsimp only;clear h;induction xs with
 | nil=>rfl
 | cons x r ih =>
  obtain ⟨ρ1,e1,e2,e3⟩:=hs x Q9;have ih:=ih fun d hd=>hs d (Ra _ hd);rw [R4];unfold tf;rw [e1];dsimp only;rw [e2];cases hp:p x with
  | false =>dsimp only;rw [ih,U5 (by simp [hp])]
  | true =>dsimp only;rw [e3 hp,ih,U6 hp];rfl
theorem bY {k:Nat} {cs:List Nat} {g:DG} (emb:α→D) {xs:List α} (h:it ρ=some (xs.map emb)) (f:α→D)
 (hs:∀ x∈xs,∃ ρ1,g (emb x) (r0 k cs ρ)=some ρ1∧el ρ1=some (f x)):c8 k cs it g cO el ρ=some (xs.map f):=by
 have:=Br (ρ:=ρ) (k:=k) (cs:=cs) (it:=it) (g:=g) (t:=cO) (el:=el) emb h (fun _=>true) f fun d hd=>let ⟨ρ1,e1,e2⟩:=hs d hd; ⟨ρ1,e1,rfl,fun _=>e2⟩
 rw [this,VP.mpr fun _ _=>rfl]
end
end
end
end VL
namespace L2
variable {X:Cx} {K:Q2} {scope:Va} {cl:List (Rf×Q6)} {pos:VJ} {pins:List (Q6×TK)} {it:Q6} {fp:List Q6} {tn:Nat→SA→Prop} {J:It} {x:Rf} {P:Sd} {elts:List Sv}
theorem qM {e:PySem.Expr} {T:String} {r:V→List V→Hp→VK→Prop} {to:TE} {t:TA} (h:X.K=K) (p:PE X e (Lf X.K T r to t)):PE X e (Lf K T r to t):=h ▸ p
section
open PySem PySem.Spec PyProof.Rows
open VL (s0)
theorem xq {M:Zk} {A:SG} {E:Q7→Rb→Prop} {s:Rb} {globals:Q6} {qual:Rf} {outer:XX} {Q:XX→Rb→Prop}
 (hQ:Q { scope,locals:=‹7›,globals,cells:=SQ (‹7›+1) scope.names cl,qual,func:=none,code:=outer.code,frame:=outer.frame,builtins:=outer.builtins } { s with heap:=WU (s.heap.push { cls:=.type "dict", data:=.dict #[] }) scope.names }) :
 Rv M A (V8 scope globals cl [] qual none .none (some outer)) Q E s:=by
 simp only [V8,Yc,if_true];refine Rg (wpAny_alloc ?_);refine Rg (wpAny_layCells _ (fun name kind cells=>by cases hkc:kind==X3 <;> simp [hkc]) _ _ _ _ ?_);rw [show ({ s with heap:=s.heap.push { cls:=.type "dict", data:=.dict #[] } }:Rb).heap.objs.size=‹7›+1 from Tj ..];rw [List.forIn_nil];exact Rg (RM (RM hQ))
theorem oG:∀ (names:List (Rf×WN)) (h:SA) (acc:List (Rf×Q6)) (x:Rf) (c:Q6),(SQ h.objs.size names acc).lookup x=some c→((WU h names).IsCell c none∧h.objs.size≤c)∨acc.lookup x=some c
 | [],_,_,_,_,e=>.inr e
 | (name,kind)::r,h,acc,x,c,e=>by
  unfold SQ at e;unfold WU;split at e
  ·rename_i hk;rw [if_pos hk];rcases oG r (h.push { cls:=.type "cell", data:=.cell none }) ((name,h.objs.size)::acc) x c (by rw [Tj]; exact e) with ⟨q1,q2⟩ | q
   ·rw [Tj] at q2;exact .inl ⟨q1,by lia⟩
   ·rw [Sr] at q;cases hb:x==name with
    | true =>rw [hb] at q;cases q;exact .inl ⟨⟨_,Xm _ _ _ _ (RI _ rfl),rfl⟩,Rq _⟩
    | false=>rw [hb] at q; exact .inr q
  ·rename_i hk;rw [if_neg hk];exact oG r h acc x c e
theorem tq:∀ (names:List (Rf×WN)) (n:Nat) (acc:List (Rf×Q6)),(∀ x y c,acc.lookup x=some c→acc.lookup y=some c→x=y)→(∀ x c,acc.lookup x=some c→c<n)→∀ x y c,(SQ n names acc).lookup x=some c→(SQ n names acc).lookup y=some c→x=y
 | [],_,_,hi,_=>hi
 | (name,kind)::r,n,acc,hi,hb=>by
  unfold SQ;split
  ·refine tq r (n+1) ((name,n)::acc) (fun x y c h1 h2=>?_) fun x c h=>?_
   ·rw [Sr] at h1 h2;cases e1:x==name with
    | true =>
     cases e2:y==name with
     | true=>rw [eq_of_beq e1,eq_of_beq e2]
     | false =>rw [e1] at h1; rw [e2] at h2;cases h1;exact absurd (hb _ _ h2) (Sg _)
    | false =>
     cases e2:y==name with
     | true =>rw [e1] at h1; rw [e2] at h2;cases h2;exact absurd (hb _ _ h1) (Sg _)
     | false=>rw [e1] at h1; rw [e2] at h2; exact hi x y c h1 h2
   ·rw [Sr] at h;cases e1:x==name with
    | true=>rw [e1] at h; cases h; exact SO _
    | false=>rw [e1] at h; exact Ws (hb _ _ h)
  ·exact tq r n acc hi hb
theorem tj:∀ (names:List (Rf×WN)) (n:Nat) (acc:List (Rf×Q6)) (x:Rf),(names.all fun y=>!(y.2==.cell) || !(y.1==x))=true→(SQ n names acc).lookup x=acc.lookup x
 | [],_,_,_,_=>rfl
 | (name,kind)::r,n,acc,x,h=>by
  have h:((!(kind==.cell) || !(name==x))&&r.all fun y=>!(y.2==.cell) || !(y.1==x))=true:=h;obtain ⟨h1,h2⟩:=(RS _ _).mp h;unfold SQ;split
  ·rename_i hk;rw [tj r _ _ x h2,Sr]
   have:(x==name)=false:=by
    rw [hk] at h1;have h1:(name==x)=false:=by simpa using h1
    rw [beq_eq_false_iff_ne] at h1 ⊢;exact fun z=>h1 z.symm
   rw [this]
  ·exact tj r _ _ x h2
noncomputable def bP (X:Cx) (N':List Rf) (scope:Va) (cl:List (Rf×Q6)) (C:Q6) (s3:Rb) (H3:Hp) (fp:List Q6) (pins:List (Q6×TK)):Cx :=
 { X with N:=N',s₀:=s3,H₀:=H3,env:=TV scope (SQ (C+1) scope.names cl) C X.env,outer:=X.stack,stack:=X.stack,ex:=fp,fn:=fun x=>scope.names.lookup x==some .cell,pn:=X.pn++pins,xe:=fun _ _=>False }
structure oM (X:Cx) (N':List Rf) (scope:Va) (cl:List (Rf×Q6)) (σ σ0:St):Prop where
 sub:∀ x c,cl.lookup x=some c→X.env.cells.lookup x=some c
 vals:∀ (j:Nat) (x:Rf) (v:V),N'[j]?=some x→σ0[j]?=some (some v)→∃ (i:Nat) (c:Q6),X.N[i]?=some x∧σ[i]?=some (some v)∧LO X.env.scope x∧X.env.kindOf x≠some .local∧cl.lookup x=some c ∧
  ‹23›
 PJ:∀ (j:Nat) (x:Rf) (v:V),N'[j]?=some x→σ0[j]?=some (some v)→(scope.names.all fun y=>!(y.2==.cell) || !(y.1==x))=true
 has:∀ x,‹23›→scope.names.lookup x=some .cell∨(cl.lookup x).isSome=true
 out:∀ x c,(scope.names.lookup x==some .cell)=true→¬ cl.lookup x=some c
 len:σ0.length=N'.length
section
variable {X:Cx} {tg elt iter:Sv} {ifs:List Sv} {scope:Va} {cl:List (Rf×Q6)} {N':List Rf} {σ0:St→St} {g:TG} {tt:TT} {te:TE}
theorem tY {σ:St} {H1:Hp} {s2:Rb} {Q:VK} {RR:Q7→Q6→YC→Rb→Prop}
 (hc:X.calm=true) (hkind:scope.kind=.function)
 (I:Inv X pins σ H1 s2) (T:Turn X.prog X.w X.K tg J fp it tn) (st:tn 0 s2.heap) (hfp:∀ b∈fp,xC X pins H1 b) (fr:oM X N' scope cl σ (σ0 σ)) (hk:BM g (σ0 σ))
 (hg:∀ C s3 H3 fp pins,PG ‹18› tg g)
 (ht:∀ C s3 H3 fp pins (pl:List (Q6×TK)) (s:Rb) (σ:St) (H:Hp) (Q:Bool→Hp→Prop),Inv ‹18› pl σ H s→tt σ H Q →
  Rv ‹3› X.A (forIn ifs true fun c r=>if r=true then do let ok ← isTrue c ‹32› (eval c ‹32›); pure (SV ok) else pure (SV r)) (TP ‹18› pl σ Q) (fun _ _=>False) s)
 (he:∀ C s3 H3 fp pins,PE ‹18› elt te) (hw:LM J g tt te (σ0 σ) H1 Q)
 (hRR:∀ D C s' H' m,Inv X pins σ H' s'→s'.heap.Ns C m→H' C=none→C≠‹75›→‹78›≤C→(∀ x c,X.env.cells.lookup x=some c→c≠C)→(∀ p∈X.pn++pins,p.1≠C)→Q (.ref D) H'→RR (.ref D) C (.ok .next) s') :
 Rv ‹3› X.A (newList []) (fun acc s₃=>Rv ‹3› X.A (V8 scope X.env.globals cl [] X.env.qual none .none (some X.env)) (fun cenv s₄ =>UG ‹3› X.A (.compStart ‹58› 0 (.ref it) acc { cenv with scope:=relabel scope X.env }) (RR acc cenv.locals) s₄) X.xe s₃) X.xe s2:=by
 refine Vj (hd:=by size_fits) (xq ?_);dsimp only;have I3:Inv X pins σ (upd H1 ‹57› (.lst [])) { s2 with heap:=s2.heap.push { cls:=.type "list", dict:=none,data:=.seq ([]:List Q7).toArray } }:=I.Kf (t':=s2.toks) (its:=[]) (ys:=[]) .nil (Th _);obtain ⟨W,⟨m0,w0⟩,turn⟩:=hw ‹57› I.fresh;have hfpo:=T.obj 0 _ st;have fpl:∀ b∈fp,b<s2.heap.objs.size:=fun b hb=>by obtain ⟨o,e,_⟩:=hfpo b hb;exact Rm e
 have fD:∀ b∈fp,upd H1 ‹57› (.lst []) b=none:=fun b hb=>by rw [a5 (RX (fpl b hb))];exact (hfp b hb).1
 show 4
 have st3:tn 0 s3.heap:=T.keep _ _ _ st fun b hb o e=>by rw [es3]; exact Rk _ e
 rw [← es3];have sz3:‹57›<s3.heap.objs.size:=by rw [es3,Tj]; exact SO _
 generalize upd H1 ‹57› (.lst [])=H3 at I3 fD w0;have hns₁:(WU (s3.heap.push { cls:=.type "dict", data:=.dict #[] }) scope.names).Ns ‹29› (fun _=>none):=(Heap.Ns.new s3.heap (.type "dict")).keeps (Xm _ _);have old:∀ b o,s3.heap.get? b=some o→(WU (s3.heap.push { cls:=.type "dict", data:=.dict #[] }) scope.names).get? b=some o:=fun b o e=>Xm _ _ b o (Rk _ e);have cnew:=fun x c (e:(SQ (‹29›+1) scope.names cl).lookup x=some c)=>oG scope.names (s3.heap.push { cls:=.type "dict", data:=.dict #[] }) cl x c (by rw [Tj]; exact e);rw [Tj] at cnew;have below:∀ x c,cl.lookup x=some c→c<s3.heap.objs.size:=fun x c e=>by obtain ⟨v,o,ho,_⟩:=I3.cell x c (fr.sub x c e);exact Rm ho
 generalize WU (s3.heap.push { cls:=.type "dict", data:=.dict #[] }) scope.names=h₁ at hns₁ old cnew;have fpl3:∀ b∈fp,b<s3.heap.objs.size:=fun b hb=>S5 (fpl b hb) sz3
 have mY:∀ b∈fp,b∉ui X.stack:=fun b hb z=>by
  rcases Ri.mp (I3.qc b z) with e | e
  ·exact (hfp b hb).2.1 e
  ·exact (hfp b hb).2.2.1 e
 have ok:‹106›.Ok:=by
  refine ⟨I3.ok.mod,hkind,I3.ok.glob,I3.ok.blt,Rq _,tq scope.names _ cl (fun x y c h1 h2=>I3.ok.inj x y c (fr.sub x c h1) (fr.sub y c h2)) (fun x c e=>Ws (below x c e)),fun x h=>?has,fun x c h e=>?cab,I3.ok.hd,I3.ok.frames,.inl rfl,
   fun b hb=>⟨RX (fpl3 b hb),fun x c e=>?exf⟩,I3.bs,RE I3.ok.FR I3.sz,fun b o e hb=>?noex,fun b hb=>mY b hb,I3.stack,I3.ux⟩
  case has=>exact UQ.mp (Vg scope.names _ cl (fr.has x h))
  case cab =>
   rcases cnew x c e with ⟨_,q⟩ | q
   ·exact RE (VD _) q
   ·exact absurd q (fr.out x c h)
  case exf =>
   rcases cnew x c e with ⟨_,q⟩ | q
   ·intro z;have l1:=fpl3 b hb;rw [← z] at l1;exact absurd (RC l1 (RE (VD _) q)) (Sg _)
   ·exact (hfp b hb).2.2.2.2.1 x c (fr.sub x c q)
  case noex =>
   rcases (hfp b hb).2.2.2.1 with z | z
   ·exact I3.ok.noex b o e z
   ·have l1:b<X.base.objs.size:=Rm e;have l2:X.base.objs.size≤X.s₀.heap.objs.size:=I3.ok.FR;have l3:‹78›≤b:=z;exact absurd (RC l1 (RE l2 l3)) (Sg _)
 have NS:‹75›<s3.heap.objs.size:=I3.lt
 have start:Inv ‹106› [] (σ0 σ) H3 { s3 with heap:=h₁ }:=by
  refine ⟨ok,rfl,I3.bare,Un.kept old,⟨_,hns₁,fun j x v e1 e2 _=>?_⟩,fun x c e=>?_,I3.dm.fresh (Rq _),fun x c e=>?fc,fun p hp=>?_,I3.dm.kept old,fr.len⟩
  case fc =>
   rcases cnew x c e with ⟨_,q⟩ | q
   ·exact I3.dm.fresh (by lia)
   ·exact I3.jh x c (fr.sub x c q)
  ·obtain ⟨i,c,q1,q2,q3,q4,q5,q6⟩:=fr.vals j x v e1 e2;obtain ⟨m,hn,hl⟩:=I3.loc;obtain ⟨u,r,l⟩:=hl i x v q1 q2 q3;refine ⟨u,r,.inr ⟨q6,c,(tj scope.names _ cl x (fr.PJ j x v e1 e2)).trans q5,?_⟩⟩;rcases l with ⟨k,_⟩ | ⟨_,c',e',z⟩
   ·exact absurd k q4
   ·rw [fr.sub x c q5] at e';cases e';obtain ⟨o,ho,hd⟩:=z;exact ⟨o,old _ _ ho,hd⟩
  ·rcases cnew x c e with ⟨q,_⟩ | q
   ·exact ⟨_,q⟩
   ·obtain ⟨v,o,ho,hd⟩:=I3.cell x c (fr.sub x c q);exact ⟨v,o,old _ _ ho,hd⟩
  ·have hp':p∈X.pn++pins:=by simpa [bP] using hp
   obtain ⟨e,n,ne,nf,d⟩:=I3.pin p hp';refine ⟨old _ _ e,n,RX (Rm e),fun z=>?_,d⟩;rcases Ri.mp (I3.qc p.1 z) with q | q
   ·exact ne q
   ·exact nf q
 have hst₁:tn 0 h₁:=T.keep _ _ _ st3 fun b _ o e=>old b o e
 have fpok:∀ {H':Hp},(∀ b∈fp,H' b=none)→∀ b∈fp,xC ‹106› [] H' b:=fun {H'} hn b hb =>
  ⟨hn b hb,RX (fpl3 b hb),mY b hb,.inl hb,fun x c e=>by
   rcases cnew x c e with ⟨_,q⟩ | q
   ·intro z;have l1:=fpl3 b hb;rw [← z] at l1;exact absurd (RC l1 (RE (VD _) q)) (Sg _)
   ·exact (hfp b hb).2.2.2.2.1 x c (fr.sub x c q),fun p hp=>(hfp b hb).2.2.2.2.2 p (by simpa [bP] using hp)⟩
 have loop:UG ‹3› X.A (.compLoop ‹58› 0 (.ref it) (.ref ‹57›) (TV scope (SQ (‹29›+1) scope.names cl) ‹29› X.env)) (RR (.ref ‹57›) ‹29›) { s3 with heap:=h₁ }:=by
  refine Ad (fun n s'=>∃ i ys H',Inv ‹106› [] (σ0 σ) H' s'∧tn i s'.heap∧(∀ b∈fp,H' b=none)∧W i n ys H') ?_ m0 ⟨0,[],H3,start,hst₁,fD,w0⟩;rintro n s4 ⟨i,ys,H4,I4,st4,fr4,w4⟩;rcases turn i n ys H4 w4 with ⟨stop,eD,q⟩ | ⟨go,step⟩
  ·refine cP (T.done ‹106› rfl rfl rfl hc i [] s4 _ H4 _ I4 (fpok fr4) st4 stop) fun r s5 ⟨hr,I5⟩=>?_;subst hr;obtain ⟨m5,n5,_⟩:=I5.loc;have J5:Inv X pins σ H4 s5:=I3.yq I5.os I5.base I5.dm I5.bare fun b hb=>⟨(hfp b hb).2.2.2.1,(hfp b hb).2.1,(hfp b hb).2.2.2.2.1,(hfp b hb).2.2.2.2.2⟩
   exact hRR _ _ s5 H4 m5 J5 n5 I5.free (UE NS) I3.sz (fun x c e z=>by
    obtain ⟨v,o,ho,_⟩:=I3.cell x c e;exact absurd (Rm ho) (by rw [z]; exact Sg _)) (fun p hp z=>by
    have e:=(I3.pin p hp).1;exact absurd (Rm e) (by rw [z]; exact Sg _)) q
  ·refine cP (T.item ‹106› rfl rfl rfl hc i [] s4 _ H4 _ I4 (fpok fr4) st4 go) fun r s5 ⟨u,hr,h5⟩=>?_;subst hr;refine cP h5 fun _ s6 ⟨x,H6,I6,r6,y6,st6,fr6⟩=>?_;have I6':=I6.pinned (fpok fr6) (T.obj _ _ st6);refine cP (hg _ _ _ _ _ _ s6 _ H6 x u _ I6' r6 (hk _ _ _ (step x H6 y6))) fun _ s7 ⟨σ7,H7,I7,q7,l7,k7⟩=>?_
   have again:∀ {s8:Rb} {H8:Hp} {m:Nat} {zs:List V},Inv ‹106› ([]++sO fp s6.heap) σ7 H8 s8→m<n→W (i+1) m zs H8 →
    ∃ m,m<n∧∃ i ys H',Inv ‹106› [] (σ0 σ) H' s8∧tn i s8.heap∧(∀ b∈fp,H' b=none)∧W i m ys H':=fun {s8 H8 m zs} I8 hm w8=>by
    show 5
   refine cP (ht _ _ _ _ _ _ s7 σ7 H7 _ I7 q7) fun c s8 ⟨H8,I8,q8⟩=>?_;cases c with
   | false =>rw [if_neg Rn] at q8 ⊢;obtain ⟨m',hm,w8⟩:=q8;exact again I8 hm w8
   | true =>
    rw [if_pos rfl] at q8 ⊢;refine cP (he _ _ _ _ _ _ s8 σ7 H8 _ I8 q8) fun v s9 ⟨y,H9,I9,r9,e9,z9,m',hm,w9⟩=>?_
    exact cP ‹112›
     fun _ s10 ⟨_,H10,I10,_,e10⟩=>by subst e10; exact again I10 hm w9
 subst hs3;exact Xd loop (T.self _ 0 _ _ _ hst₁ loop)
variable {pos:VJ} {wi:TI}
theorem xY (hc:X.calm=true) (hi:PI X tg iter wi) (fr:∀ σ:St,σ.length=X.N.length→oM X N' scope cl σ (σ0 σ)) (hk:∀ σ,BM g (σ0 σ))
 (hg:∀ C s3 H3 fp pins,PG ‹18› tg g)
 (ht:∀ C s3 H3 fp pins (pl:List (Q6×TK)) (s:Rb) (σ:St) (H:Hp) (Q:Bool→Hp→Prop),Inv ‹18› pl σ H s→tt σ H Q →
  Rv ‹3› X.A (forIn ifs true fun c r=>if r=true then do let ok ← isTrue c ‹32› (eval c ‹32›); pure (SV ok) else pure (SV r)) (TP ‹18› pl σ Q) (fun _ _=>False) s)
 (he:∀ C s3 H3 fp pins,PE ‹18› elt te)
 (hclos:V9 scope X.env=pure cl) (hkind:scope.kind=.function) (hnames:∀ y∈scope.names,y.2=.local→scope.names.lookup y.1=some .local)
 (hs:∀ x,Tx iter X.env x=pure x):PE X ‹58› (vc wi g tt te σ0):=by
 intro pins s σ H Q I h;rw [eval_ListComp];refine UT (use:=none) rfl hs hclos hkind hnames ‹72›;obtain ⟨it,fp,tn,J,H2,e,I2,T,st2,f2,q⟩:=h2;subst e;refine tY (RR:=fun acc C=>XF ‹3› X.A X.xe none ‹85› acc C) hc hkind I2 T st2 f2 (fr σ I.len) (hk σ) hg ht he q ?_;intro D C s' H' m I' hn hC h1 h2 h3 h4 q';refine ⟨m,hn,fun h'' hs''=>⟨.ref D,H',?_,rfl,q'⟩⟩;exact I'.turned (t':=s'.toks) (fun b o hb e=>hs''.extBut b o hb e) hC h1 (.inr h2) h3 h4
theorem E4 {i:Nat} {pos' spos:VJ} (hN:X.N.Nodup) (hi':X.N[i]?=some x) (hx:Loc X.env.scope x) (hf:X.fn x=true∨X.env.scope.names.lookup x=some .local)
 (hc:X.calm=true) (hi:PI X tg iter wi) (fr:∀ σ:St,σ.length=X.N.length→oM X N' scope cl σ (σ0 σ)) (hk:∀ σ,BM g (σ0 σ))
 (hg:∀ C s3 H3 fp pins,PG ‹18› tg g)
 (ht:∀ C s3 H3 fp pins (pl:List (Q6×TK)) (s:Rb) (σ:St) (H:Hp) (Q:Bool→Hp→Prop),Inv ‹18› pl σ H s→tt σ H Q →
  Rv ‹3› X.A (forIn ifs true fun c r=>if r=true then do let ok ← isTrue c ‹32› (eval c ‹32›); pure (SV ok) else pure (SV r)) (TP ‹18› pl σ Q) (fun _ _=>False) s)
 (he:∀ C s3 H3 fp pins,PE ‹18› elt te)
 (hclos:V9 scope X.env=pure cl) (hkind:scope.kind=.function) (hnames:∀ y∈scope.names,y.2=.local→scope.names.lookup y.1=some .local)
 (hs:∀ x,Tx iter X.env x=pure x) (hsw:Ul ‹58› (some (.Name x pos')) spos.line X.env=pure true) :
 PS X (.Assign [.Name x pos'] ‹58› spos) (Dr (vc wi g tt te σ0) i):=by
 intro pins s σ H D I h;rw [exec_Assign_Name_used _ _ _ _ hsw];refine Rg (Vy (Rg ?_));show Rv _ X.A (do let _ ← comprehension ‹58› scope X.env _ (newList []) false (eval iter X.env) (some (assign (.Name x pos') X.env))) _ _ s
 refine Rg (SN (UT (Q:=fun _ s'=>SP X pins D .next s') (use:=some (assign (.Name x pos') X.env)) rfl hs hclos hkind hnames ‹72›)
  (fun _ s' hq=>RM (RM hq)) fun _ _ e=>e)
 obtain ⟨it,fp,tn,J,H2,e,I2,T,st2,f2,q⟩:=h2;subst e;refine tY (RR:=fun acc C=>XF ‹3› X.A X.xe (some (assign (.Name x pos') X.env)) (fun _ s'=>SP X pins D .next s') acc C) hc hkind I2 T st2 f2 (fr σ I.len) (hk σ) hg ht he q ?_;intro Dl C s' H' m I' hn hC h1 h2 h3 h4 q';show Rv _ _ (assign (.Name x pos') X.env (.ref Dl)) _ _ s';refine wpAny_assign_Name (xI (v:=.ref Dl) I' hN hi' hx rfl (fun s'' I'' ⟨a,hsb,ha⟩=>?_) hf)
 have hne:C≠a:=by
  rcases ha with rfl | ha
  ·exact h1
  ·exact S6 (h3 x a ha)
 refine ⟨m,hn.sameBut hsb hne,fun h'' hs''=>⟨_,H',?_,q'⟩⟩;exact I''.turned (t':=s''.toks) (fun b o hb e=>hs''.extBut b o hb e) hC h1 (.inr h2) h3 h4
theorem oM.many {is:List Nat} {ts zs:List Rf} {k:Nat} {σ:St} (hk:ts.length=k) (hs:SubL X cl) (hc:tE X scope cl is zs)
 (ha:(‹37›.names.all fun y=>!(y.2==.cell || y.2==.free) || zs.contains y.1 || (scope.names.lookup y.1==some .cell))=true)
 (ho:(zs.all fun z=>scope.names.all fun y=>!(y.2==.cell) || !(y.1==z))=true) (hcl:(scope.names.all fun y=>!(y.2==.cell) || (cl.lookup y.1).isNone)=true):oM X (ts++zs) scope cl σ (s0 k is σ):=by
 have vals:∀ (j:Nat) (x:Rf) (v:V),(ts++zs)[j]?=some x→(s0 k is σ)[j]?=some (some v)→x∈zs∧∃ (i:Nat) (c:Q6),X.N[i]?=some x∧σ[i]?=some (some v)∧LO X.env.scope x∧X.env.kindOf x≠some .local∧cl.lookup x=some c ∧
  ‹23›:=fun j x v e1 e2=>by
  unfold s0 at e2;by_cases hj:j<k
  ·rw [Rz ‹83›,Sb,if_pos hj] at e2; cases e2
  ·rw [RO ‹83›,RV,Ro] at e2;rw [RO (by lia),hk] at e1;obtain ⟨i,c,f1,f2,f3,f4,f5⟩:=hc.get _ _ e1;rw [f1] at e2;have e3:(σ[i]?).join=some v:=R5 e2;refine ⟨RB e1,i,c,f2,VL.join_some e3,?_,?_,f4,f5⟩
   ·rcases f3 with q | q
    ·exact .inr (.inl q)
    ·exact .inr (.inr q)
   ·intro w;have w:X.env.scope.names.lookup x=some .local:=w;rcases f3 with q | q <;> rw [q] at w <;> cases w
 refine ⟨hs.sub,fun j x v e1 e2=>(vals j x v e1 e2).2,fun j x v e1 e2=>Ry.mp ho x (vals j x v e1 e2).1,fun x h=>?_,fun x c h e=>?_,by unfold s0; rw [Ru,Ru,RV,Q5,hk,hc.len]⟩
 ·have key:∀ kd,‹37›.names.lookup x=some kd→(kd==X3 || kd==Zh)=true→x∈zs∨scope.names.lookup x=some .cell:=fun kd e q=>by
   have m:=Ry.mp ha _ (Tb e);rw [q] at m;have m':zs.contains x=true∨(scope.names.lookup x==some .cell)=true:=by simpa using m
   rcases m' with m' | m'
   ·exact .inl (Xt.mp m')
   ·exact .inr (eq_of_beq m')
  have mem:x∈zs∨scope.names.lookup x=some .cell:=by
   rcases h with h | h
   ·exact key _ h rfl
   ·exact key _ h rfl
  rcases mem with mem | mem
  ·obtain ⟨j,hj⟩:=UB mem;obtain ⟨i,c,_,_,_,f4,_⟩:=hc.get j x hj;exact .inr (by rw [f4]; rfl)
  ·exact .inl mem
 ·have m:=Ry.mp hcl _ (Tb (eq_of_beq h));rw [e] at m;simp at m
variable {c:Sv} {ts zs:List Rf} {is:List Nat} {k:Nat}
theorem Dn:∀ C s3 H3 fp pins (pl:List (Q6×TK)) (s:Rb) (σ:St) (H:Hp) (Q:Bool→Hp→Prop),Inv ‹18› pl σ H s→Dp σ H Q →
 Rv ‹3› X.A (forIn ([]:List Sv) true fun c r=>if r=true then do let ok ← isTrue c ‹32› (eval c ‹32›); pure (SV ok) else pure (SV r)) (TP ‹18› pl σ Q) (fun _ _=>False) s :=
 fun _ _ _ _ _ _ _ _ H _ I h=>wpAny_tests_nil ⟨H,I,h⟩
theorem Jo (ht:∀ C s3 H3 fp pins,PT ‹18› c tt):∀ C s3 H3 fp pins (pl:List (Q6×TK)) (s:Rb) (σ:St) (H:Hp) (Q:Bool→Hp→Prop),Inv ‹18› pl σ H s→tt σ H Q →
 Rv ‹3› X.A (forIn [c] true fun c r=>if r=true then do let ok ← isTrue c ‹32› (eval c ‹32›); pure (SV ok) else pure (SV r)) (TP ‹18› pl σ Q) (fun _ _=>False) s :=
 fun C s3 H3 fp pins pl s σ H Q I h=>wpAny_tests_one (ht C s3 H3 fp pins pl s σ H Q I h)
theorem d9 (hc:X.calm=true) (hi:PI X tg iter wi) (hk:ts.length=k) (hs:SubL X cl) (hcp:tE X scope cl is zs) (ha:(‹37›.names.all fun y=>!(y.2==.cell || y.2==.free) || zs.contains y.1 || (scope.names.lookup y.1==some .cell))=true)
 (ho:(zs.all fun z=>scope.names.all fun y=>!(y.2==.cell) || !(y.1==z))=true) (hcl:(scope.names.all fun y=>!(y.2==.cell) || (cl.lookup y.1).isNone)=true) (hl:KU k g)
 (hg:∀ C s3 H3 fp pins,PG ‹60› tg g) (he:∀ C s3 H3 fp pins,PE ‹60› elt te)
 (hclos:V9 scope X.env=pure cl) (hkind:scope.kind=.function) (hnames:∀ y∈scope.names,y.2=.local→scope.names.lookup y.1=some .local)
 (hf:∀ x,Tx iter X.env x=pure x:=by intro _; rfl):PE X ‹61› (vc wi g Dp te (s0 k is)) :=
 xY hc hi (fun _ _=>oM.many hk hs hcp ha ho hcl) (fun σ=>hl.keep σ) hg Dn he hclos hkind hnames hf
theorem MG (hc:X.calm=true) (hi:PI X tg iter wi) (hk:ts.length=k) (hs:SubL X cl) (hcp:tE X scope cl is zs) (ha:(‹37›.names.all fun y=>!(y.2==.cell || y.2==.free) || zs.contains y.1 || (scope.names.lookup y.1==some .cell))=true)
 (ho:(zs.all fun z=>scope.names.all fun y=>!(y.2==.cell) || !(y.1==z))=true) (hcl:(scope.names.all fun y=>!(y.2==.cell) || (cl.lookup y.1).isNone)=true) (hl:KU k g)
 (hg:∀ C s3 H3 fp pins,PG ‹60› tg g) (ht:∀ C s3 H3 fp pins,PT ‹60› c tt) (he:∀ C s3 H3 fp pins,PE ‹60› elt te)
 (hclos:V9 scope X.env=pure cl) (hkind:scope.kind=.function) (hnames:∀ y∈scope.names,y.2=.local→scope.names.lookup y.1=some .local)
 (hf:∀ x,Tx iter X.env x=pure x:=by intro _; rfl):PE X (.ListComp elt [⟨tg,iter,[c],0⟩] scope pos) (vc wi g tt te (s0 k is)) :=
 xY hc hi (fun _ _=>oM.many hk hs hcp ha ho hcl) (fun σ=>hl.keep σ) hg (Jo ht) he hclos hkind hnames hf
theorem zC {i:Nat} {pos' spos:VJ} (hN:X.N.Nodup) (hi':X.N[i]?=some x) (hxl:X.env.scope.names.lookup x=some .local) (hc:X.calm=true) (hi:PI X tg iter wi) (hk:ts.length=k) (hs:SubL X cl) (hcp:tE X scope cl is zs) (ha:(‹37›.names.all fun y=>!(y.2==.cell || y.2==.free) || zs.contains y.1 || (scope.names.lookup y.1==some .cell))=true)
 (ho:(zs.all fun z=>scope.names.all fun y=>!(y.2==.cell) || !(y.1==z))=true) (hcl:(scope.names.all fun y=>!(y.2==.cell) || (cl.lookup y.1).isNone)=true) (hl:KU k g)
 (hg:∀ C s3 H3 fp pins,PG ‹60› tg g) (he:∀ C s3 H3 fp pins,PE ‹60› elt te)
 (hclos:V9 scope X.env=pure cl) (hkind:scope.kind=.function) (hnames:∀ y∈scope.names,y.2=.local→scope.names.lookup y.1=some .local)
 (hf:∀ x,Tx iter X.env x=pure x:=by intro _; rfl) (hsw:Ul ‹61› (some (.Name x pos')) spos.line X.env=pure true:=by rfl):PS X (.Assign [.Name x pos'] ‹61› spos) (Dr (vc wi g Dp te (s0 k is)) i) :=
 E4 hN hi' (.inl hxl) (.inr hxl) hc hi (fun _ _=>oM.many hk hs hcp ha ho hcl) (fun σ=>hl.keep σ) hg Dn he hclos hkind hnames hf hsw
end
end
section
open PySem PySem.Spec PyProof.Rows
theorem iP {N':List Rf} {i:Nat} {y:Rf} {py:VJ} {C:Q6} {s3:Rb} {H3:Hp} (nd:N'.Nodup) (hi:N'[i]?=some y)
 (hx:Loc ‹37› y) (hf:(scope.names.lookup y==some .cell)=true∨‹37›.names.lookup y=some .local):PG ‹18› (.Name y py) (kA i):=zE nd hi hx hf
end
section
open PySem PySem.Spec PyProof.Rows
theorem B1 {w:Sn} {x1} {wr:List Q6} (hm:it∈fp) (hwr:∀ b∈wr,b∈fp)
 (ho:∀ i h,tn i h→∀ b∈fp,∃ o,h.get? b=some o∧∀ v,o.data≠.cell v) (hk:∀ i h h',tn i h→(∀ b∈fp,∀ o,h.get? b=some o→h'.get? b=some o)→tn i h')
 (hs:∀ (A:SG) (i:Nat) (s:Rb) (Q:Q7→Rb→Prop) (E:Q7→Rb→Prop),tn i s.heap→Q (.ref it) s→Rv (model P w) A (pyIter (.ref it)) Q E s)
 (hi:∀ (X:Cx),X.prog=P→X.w=w→X.K=K→X.calm=true→∀ (i:Nat) (pins:List (Q6×TK)) (s:Rb) (σ:St) (H:Hp),Inv X pins σ H s→tn i s.heap→J.go i H →
  ∃ f2 n Pt S M,WalksT P w X.A it f2 wr n Pt S M∧i<n∧S i s.heap∧(∀ h,S (i+1) h→tn (i+1) h)∧∀ vals,Pt i vals→∃ ws,ws.length≤Q4∧Vals ws vals.toList∧∀ t,H t=none→J.NR i H (.ref t) (upd H t (.tup ws)))
 (hd:∀ (X:Cx),X.prog=P→X.w=w→X.K=K→X.calm=true→∀ (i:Nat) (pins:List (Q6×TK)) (s:Rb) (σ:St) (H:Hp),Inv X pins σ H s→tn i s.heap→J.stop i H→∃ f2 Pt S M,WalksT P w X.A it f2 wr i Pt S M∧S i s.heap) :
 Turn P w K (.Tuple elts x1 pos) J fp it tn where
 mem:=hm
 obj:=ho
 keep:=hk
 item:=by
  intro X hP hw hK hc i pins s σ H E I hf st hg;obtain ⟨f2,n,Pt,S,M,W,hin,hS,hback,hpt⟩:=hi X hP hw hK hc i pins s σ H I st hg;subst hP hw hK;refine W.item i s _ _ hin hS fun T vals h1 tk hv hT tup1 mid kk1=>⟨_,rfl,?_⟩
  refine W.go elts x1 pos i T _ _ _ mid fun h2 S2 kk2=>?_;obtain ⟨ws,hz,rv,yl⟩:=hpt vals hv;have k2:∀ b o,b∉wr→s.heap.get? b=some o→h2.get? b=some o:=fun b o nb e=>kk2 b o nb (kk1 b o nb e);have nwr:∀ b u,H b=some u→b∉wr:=fun b u e z=>by rw [(hf b (hwr b z)).1] at e; cases e
  have nH:H T=none:=I.dm.fresh hT;obtain ⟨o,eo,oc,nn,od⟩:=tup1;have tup2:h2.get? T=some o:=kk2 T o (W.apart _ _ _ mid) eo;have loc:‹75›∉wr:=fun z=>(hf _ (hwr _ z)).2.1 rfl;have all:∀ b∈wr,(b∈X.ex∨‹78›≤b)∧b≠‹75›∧(∀ x c,X.env.cells.lookup x=some c→c≠b)∧∀ p∈X.pn++pins,p.1≠b:=fun b z=>by obtain ⟨_,g1,_,g3,g4,g5⟩:=hf b (hwr b z);exact ⟨g3,g1,g4,g5⟩
  have nsk:∀ m,s.heap.Ns ‹75› m→h2.Ns ‹75› m:=fun m q=>by obtain ⟨oo,es,ep,q1,r⟩:=q;exact ⟨oo,es,ep,k2 _ oo loc q1,r⟩
  have ok1:pL X.prog X.w H h2:=fun b u q=>by
   refine (I.dm b u q).t7 (fun c v hc' q'=>k2 c v ?_ q') (fun _ q'=>q') fun _ _ q'=>q';rcases hc' with z | z
   ·rw [z]; exact nwr b u q
   ·exact nwr c _ z
  have upk:∀ {b:Q6} {u:HO},H b=some u→upd H T (.tup ws) b=some u:=fun {b u} q=>by rw [a5 (bT q nH)]; exact q
  have ok2:pL X.prog X.w (upd H T (.tup ws)) h2:=fun b u q=>by
   by_cases hb:b=T
   ·subst hb;rw [br] at q;cases q;exact ⟨hz,vals.toList,rv,⟨o,tup2,oc,nn,by rw [od]⟩⟩
   ·rw [a5 hb] at q;exact (ok1 b u q).t7 (fun c v _ q'=>q') (fun c q'=>upk q') (fun c xs' q'=>upk q') fun c o u q'=>upk q'
  have I2:Inv X pins σ (upd H T (.tup ws)) { s with heap:=h2,toks:=tk } :=
   I.step (g':=s.gens) (d':=s.drawn) (ch:=wr) all (fun b o _ _ hc' q _=>k2 b o hc' q) (fun b o _ _ hc' q _=>⟨o.slots,k2 b o hc' q⟩) (fun b o _ q n=>by rw [a5 (fun z=>Sg _ (RC (Rm q) (by rw [z]; exact hT)))]; exact n)
    (fun b o hc' q=>⟨o,k2 b o hc' q⟩) (fun b xs' q=>upk q) (fun b o u' q=>upk q) (fun b ps q=>⟨#[],by rw [upk q]; simp⟩) nsk ok2 I.bare
  refine ⟨.ref T,_,I2,rfl,yl T nH,hback _ S2,fun b hb=>?_⟩;by_cases e:b=T
  ·exfalso;subst e;obtain ⟨o',e',_⟩:=ho i s.heap st b hb;exact Sg _ (RC (Rm e') hT)
  ·rw [a5 e]; exact (hf b hb).1
 done:=by
  intro X hP hw hK hc i pins s σ H E I hf st hg;obtain ⟨f2,Pt,S,M,W,hS⟩:=hd X hP hw hK hc i pins s σ H I st hg;subst hP hw hK;refine W.done s _ _ hS fun h' tk kk=>⟨rfl,?_⟩
  refine I.step (g':=s.gens) (d':=s.drawn) (t':=tk) (ch:=wr) (fun b z=>?_) (fun b o _ _ hc' q _=>kk b o hc' q) (fun b o _ _ hc' q _=>⟨o.slots,kk b o hc' q⟩) (fun _ _ _ _ n=>n) (fun b o hc' q=>⟨o,kk b o hc' q⟩) (fun _ _ q=>q) (fun _ _ _ q=>q) (fun b ps q=>⟨#[],by rw [q]; simp⟩) (fun m q=>?_) (fun b u q=>?_) I.bare
  ·obtain ⟨_,g1,_,g3,g4,g5⟩:=hf b (hwr b z);exact ⟨g3,g1,g4,g5⟩
  ·obtain ⟨oo,es,ep,q1,r⟩:=q;exact ⟨oo,es,ep,kk _ oo (fun z=>(hf _ (hwr _ z)).2.1 rfl) q1,r⟩
  ·refine (I.dm b u q).t7 (fun c v hc' q'=>kk c v ?_ q') (fun _ q'=>q') fun _ _ q'=>q';rcases hc' with z | z
   ·rw [z]; exact fun w=>by rw [(hf b (hwr b w)).1] at q; cases q
   ·exact fun w=>by rw [(hf c (hwr c w)).1] at z; cases z
 self:=hs
noncomputable def Qi (K:Q2) (a b:Q6):It :=
 ⟨fun i H=>∃ xs ys x y,mS K H a xs∧mS K H b ys∧xs[i]?=some x∧ys[i]?=some y,fun i H x H'=>∃ (t:Q6) (v u:V),x=.ref t∧H t=none∧(∀ xs,mS K H a xs→xs[i]?=some v)∧(∀ ys,mS K H b ys→ys[i]?=some u)∧H'=upd H t (.tup [v,u]),
  fun i H=>∃ xs ys,mS K H a xs∧mS K H b ys∧i=min xs.length ys.length⟩
theorem Gf {w:Sn} {x1} (a b z TI TO i1 i2:Q6) (D:ZipApart z TI TO i1 i2 a b) :
 Turn P w K (.Tuple elts x1 pos) (Qi K a b) [z,TI,TO,i1,i2] z (fun i h=>IsZip h z TI TO .none∧IsPair h TI (.ref i1) (.ref i2)∧(∃ u v,IsPair h TO u v)∧h.IsListIter i1 a i∧h.IsListIter i2 b i):=by
 refine B1 (wr:=[z,TO,i1,i2]) (fp:=[z,TI,TO,i1,i2]) (by simp) (fun c hc=>by simp only [Ri,TU,or_false] at hc ⊢; rcases hc with h | h | h | h <;> simp [h]) (fun i h st c hc=>?_) (fun i h h' st k=>?_) (fun A i s Q E st q=>wpAny_pyIter_zip st.1 q) (fun X hP hw hK hc i pins s σ H I st hg=>?_) (fun X hP hw hK hc i pins s σ H I st hg=>?_)
 ·obtain ⟨hz,hTI,⟨u,v,hTO⟩,h1,h2⟩:=st;have e1:∃ o:TK,h.get? z=some o∧∀ v,o.data≠.cell v:=⟨_,hz,fun v q=>by have q':Data.fields _=YB v:=q; cases q'⟩
  have e2:∃ o:TK,h.get? TI=some o∧∀ v,o.data≠.cell v:=⟨_,hTI,fun v q=>by have q':Zo _ _=YB v:=q; cases q'⟩
  have e3:∃ o:TK,h.get? TO=some o∧∀ v,o.data≠.cell v:=⟨_,hTO,fun v q=>by have q':Zo _ _=YB v:=q; cases q'⟩
  have e4:∃ o:TK,h.get? i1=some o∧∀ v,o.data≠.cell v:=let ⟨o,e,_,d⟩:=h1; ⟨o,e,fun v q=>by rw [d] at q; cases q⟩
  have e5:∃ o:TK,h.get? i2=some o∧∀ v,o.data≠.cell v:=let ⟨o,e,_,d⟩:=h2; ⟨o,e,fun v q=>by rw [d] at q; cases q⟩
  simp only [Ri,TU,or_false] at hc;rcases hc with rfl | rfl | rfl | rfl | rfl
  ·exact e1
  ·exact e2
  ·exact e3
  ·exact e4
  ·exact e5
 ·obtain ⟨hz,hTI,⟨u,v,hTO⟩,h1,h2⟩:=st;exact ⟨k z (by simp) _ hz,k TI (by simp) _ hTI,⟨u,v,k TO (by simp) _ hTO⟩,h1.at fun o e=>k i1 (by simp) o e,h2.at fun o e=>k i2 (by simp) o e⟩
 ·subst hP hw hK;obtain ⟨xs,ys,x,y,qa,qb,ex,ey⟩:=hg;obtain ⟨us,r1,p1,_⟩:=I.list qa;obtain ⟨vs,r2,p2,_⟩:=I.list qb;have lx:=(Rp.mp ex).1;have ly:=(Rp.mp ey).1;have l1:=r1.length;have l2:=r2.length;refine ⟨_,_,_,_,_,Zr (I.ok.hd hc) z TI TO i1 i2 a b D us.toArray vs.toArray,by simp; lia,⟨st.1,st.2.1,st.2.2.1,st.2.2.2.1,st.2.2.2.2,p1.isList,p2.isList⟩,fun h q=>⟨q.1,q.2.1,q.2.2.1,q.2.2.2.1,q.2.2.2.2.1⟩,?_⟩;rintro vals ⟨u,v,eu,ev,rfl⟩;obtain ⟨u',f1,g1⟩:=r1.get ex;obtain ⟨v',f2,g2⟩:=r2.get ey;have e1:us[i]?=some u:=by simpa using eu
  have e2:vs[i]?=some v:=by simpa using ev
  rw [e1] at f1; cases f1;rw [e2] at f2; cases f2;exact ⟨[x,y],by show 2≤Q4; decide,.cons g1 (.cons g2 .nil),fun t nt=>⟨t,x,y,rfl,nt,fun zs hz=>by rw [I.vN hz qa]; exact ex,fun zs hz=>by rw [I.vN hz qb]; exact ey,rfl⟩⟩
 ·subst hP hw hK;obtain ⟨xs,ys,qa,qb,e⟩:=hg;obtain ⟨us,r1,p1,_⟩:=I.list qa;obtain ⟨vs,r2,p2,_⟩:=I.list qb;have l1:=r1.length;have l2:=r2.length;have W:=Zr (prog:=X.prog) (w:=X.w) (A:=X.A) (I.ok.hd hc) z TI TO i1 i2 a b D us.toArray vs.toArray;have en:min us.toArray.size vs.toArray.size=i:=by simp; lia
  rw [en] at W;exact ⟨_,_,_,_,W,⟨st.1,st.2.1,st.2.2.1,st.2.2.2.1,st.2.2.2.2,p1.isList,p2.isList⟩⟩
theorem LS (n a b:Nat) (ha:a<n) (hb:b<n):ZipApart (n+4) (n+2) (n+3) n (n+1) a b:=by constructor <;> exact fun (e:@Eq Nat _ _)=>by lia
theorem QT {n c:Nat} (h:c=n+4∨c=n+2∨c=n+3∨c=n∨c=n+1):n≤c:=by lia
section
variable {X:Cx}
def OW (K:Q2) (ta tb:TE):TI:=fun σ H R=>cF ta (cF tb fA) σ H fun vs H1=>∃ a b,vs=[.ref a,.ref b]∧(∃ xs,mS K H1 a xs)∧(∃ ys,mS K H1 b ys)∧R (Qi K a b) H1
theorem Mw {l m:Sv} {tl tm:TE} {x1} {tpos p:VJ} (hK:X.K=K) (hg:Gl X "zip") (hm:X.mg "zip" = none) (ha:PA X [l,m] (cF tl (cF tm fA))) (hs:RH [l,m] X.env=(false,eval l X.env)::RH [m] X.env:=by rfl) (hp:(TN pos (RH [m] X.env)).any (·.1)=false:=by rfl):PI X (.Tuple elts x1 tpos) (.Call (.Name "zip" p) [l,m] [] pos) (OW K tl tm):=by
 subst hK;intro pins s σ H R I h;refine Call_ (vQ I hg hm NG (Ut (cP (ha pos pins s σ H _ I h) fun us s1 ⟨vs,H1,I1,r1,q1⟩=>?_) hs hp));obtain ⟨a,b,rfl,⟨xs,qa⟩,⟨ys,qb⟩,q⟩:=q1;cases r1 with
 | cons ra r1 =>
  cases r1 with
  | cons rb r1 =>
   cases r1;cases ra;cases rb;obtain ⟨us,v1,p1,_⟩:=I1.list qa;obtain ⟨ws,v2,p2,_⟩:=I1.list qb;have la:a<s1.heap.objs.size:=by obtain ⟨_,e,_⟩:=p1.isList; exact Rm e
   have lb:b<s1.heap.objs.size:=by obtain ⟨_,e,_⟩:=p2.isList; exact Rm e
   refine call_zip_2 p1.isList p2.isList fun h' hz hTI hTO hi1 hi2 hsz hk=>wpAny_pyIter_zip hz ?_;have I2:Inv X pins σ H1 { s1 with heap:=h' }:=I1.kept (t':=s1.toks) hk;refine ⟨_,[s1.heap.objs.size+4,s1.heap.objs.size+2,s1.heap.objs.size+3,s1.heap.objs.size,s1.heap.objs.size+1],_,_,H1,rfl,I2,Gf a b _ _ _ _ _ (LS _ _ _ la lb),⟨hz,hTI,⟨_,_,hTO⟩,hi1,hi2⟩,fun c hc=>?_,q⟩;simp only [Ri,TU,or_false] at hc;have le:s1.heap.objs.size≤c:=QT hc;exact I1.Kv le (I1.dm.fresh le)
end
end
end L2
namespace VL
variable {xs:List D} {ρ:aU} {ds:List D} {ta:TE} {ms:List Bool} {F:List D→Option D} {es:aU→Option (List D)} {a:aU→Option (List (List D))} {Z:Q6→Prop} {os:Own} {σ:L2.St} {rows:List (List D)} {ps:List Q6} {ds':List D} {vs':List V} {it:aU→Option (List D)} {α:Type} {el:aU→Option (List D)} {n:Nat}
open PySem L2
section
open Classical
section
variable [cu] {K:Q2}
def Jg (xs ys:List D):List D:=Vi (fun x y=>.tup [x,y]) xs ys
theorem Je (xs ys:List D):(Jg xs ys).length=min xs.length ys.length:=Tp ..
theorem Jf {ys:List D} {i:Nat} {d:D} (h:(Jg xs ys)[i]?=some d):∃ x y,xs[i]?=some x∧ys[i]?=some y∧d=.tup [x,y]:=by
 unfold Jg at h;rw [Uq] at h;split at h
 ·rename_i x y e1 e2; exact ⟨x,y,e1,e2,(R5 h).symm⟩
 ·cases h
theorem F7 {Bx H1:Hp} {T:Q6→Prop} {p q:Q6} {vs us:List V} {ys:List D} (hl:xs.length≤Q4) (h0:∀ H2 T2,Kp T H1 T2 H2→bu Bx H2→mS K H2 p vs∧IsL K H2 T2 vs xs) (h1:∀ H2 T2,Kp T H1 T2 H2→bu Bx H2→mS K H2 q us∧IsL K H2 T2 us ys)
 (hsl:vs.length=xs.length) (hsl2:us.length=ys.length):Walk K true Bx (Qi K p q) H1 T (Jg xs ys):=by
 have hlen:=Je xs ys;refine ⟨by rw [hlen]; lia,fun i d H2 T2 kp sb hd e=>?_,fun i H2 T2 kp sb hi=>?_⟩
 ·obtain ⟨x,y,ex,ey,rfl⟩:=Jf e;obtain ⟨s1,r1⟩:=h0 H2 T2 kp sb;obtain ⟨s2,r2⟩:=h1 H2 T2 kp sb;obtain ⟨v,e1,i1⟩:=r1.get ex;obtain ⟨u,e2,i2⟩:=r2.get ey;refine ⟨⟨vs,us,v,u,s1,s2,e1,e2⟩,fun z H3 hy=>?_⟩;obtain ⟨t,v',u',ez,nt,hv,hu,e3⟩:=hy;subst e3 ez;have q1:=hv vs s1;have q2:=hu us s2;rw [e1] at q1; cases q1;rw [e2] at q2; cases q2;refine ⟨cx nt,show Is K _ T2 (.ref t) (.tup [x,y]) from .tup (fun z=>?_) br (by show 2≤Q4; decide) ((IsL.cons i1 (.one i2)).same (cx nt))⟩;obtain ⟨o,qq⟩:=hd t z;rw [nt] at qq; cases qq
 ·obtain ⟨s1,_⟩:=h0 H2 T2 kp sb;obtain ⟨s2,_⟩:=h1 H2 T2 kp sb;exact ⟨vs,us,s1,s2,by rw [← hi,hlen,hsl,hsl2]⟩
def yk (a b:DE):aU→Option (List D):=fun ρ=>match lN a ρ with
 | some xs=>(match lN b ρ with
  | some ys=>if iE xs=true∧iE ys=true then some (Jg xs ys) else none
  | none=>none)
 | none=>none
theorem C4 {a b:DE} (h:yk a b ρ=some ds):∃ xs ys,lN a ρ=some xs∧lN b ρ=some ys∧iE xs=true∧iE ys=true∧ds=Jg xs ys:=by
 unfold yk at h;split at h
 ·rename_i xs e;split at h
  ·rename_i ys e2;by_cases c:iE xs=true∧iE ys=true
   ·rw [if_pos c] at h; exact ⟨xs,ys,e,e2,c.1,c.2,(R5 h).symm⟩
   ·rw [if_neg c] at h; cases h
  ·cases h
 ·cases h
theorem Gu {tb:TE} {a b:DE} (ha:bD K ta a) (hb:bD K tb b):yx K true (OW K ta tb) (yk a b):=fun {B Z os ρ σ H R ds} f q k=>by obtain ⟨xs,ys,e1,e2,c1,c2,rfl⟩:=C4 q;obtain ⟨d1,e1,l1⟩:=kf e1;obtain ⟨d2,e2,l2⟩:=kf e2;refine ha f e1 fun v H1 s1 i1=>hb ‹70› e2 fun u H2 s2 i2=>?_;obtain ⟨p,vs,rfl,hl,hn,hr⟩:=(i1.same s2).seq l1;obtain ⟨p2,us,rfl,hl2,hn2,hr2⟩:=i2.seq l2;exact ⟨p,p2,rfl,⟨vs,(hr H2 _ Kp.refl).1⟩,⟨us,(hr2 H2 _ Kp.refl).1⟩,k _ _ ‹48› (F7 (by lia) (fun H3 T3 kp sb=>⟨(hr H3 No (Kp.same sb)).1,(hr H3 No (Kp.same sb)).2.flat c1⟩) (fun H3 T3 kp sb=>⟨(hr2 H3 No (Kp.same sb)).1,(hr2 H3 No (Kp.same sb)).2.flat c2⟩) hn hn2)⟩
theorem Kz {a b:DE} {ys:List D} (ha:lN a ρ=some xs) (hb:lN b ρ=some ys) (h1:iE xs=true) (h2:iE ys=true):yk a b ρ=some (Jg xs ys):=by unfold yk; rw [ha,hb]; exact if_pos ⟨h1,h2⟩
end
end
section
open Classical
section
variable [cu] {K:Q2} {fr:Fm}
noncomputable def NL (K:Q2) (t:TE) (e:aU→Option (List (List D))):Prop:=∀ {B:Hp} {Z:Q6→Prop} {os:Own} {ρ:aU} {σ:L2.St} {H:Hp} {Q:VK} {rows:List (List D)},Fr K B Z os ρ σ H→e ρ=some rows →
 (∀ x ps H',bu H H'→H x=none→(∀ a∈ps,H a=none)→(x::ps).Nodup→H' x=some (.lst (ps.map V.ref))→ps.length≤Q4→Ta (fun q ds=>∃ vs,H' q=some (.lst vs)∧vs.length≤Q4∧IsL K H' (fun a=>(a=x∨a∈ps)∨cE Z os a) vs ds) ps rows→Q (.ref x) H')→t σ H Q
def sY (F:List D→Option D) (es:aU→Option (List D)):aU→Option (List D):=fun ρ=>match aJ F es ρ with
 | some (.lst ds)=>some ds
 | _=>none
theorem DK {t:TA} {E:XK} (ha:mT K ms t es):bC K (nS (jv .l K ms F) [] E t) (sY F es):=fun {B Z os ρ σ H Q ds} f q k=>by
 unfold sY at q;split at q
 ·rename_i xs e1;cases q;unfold aJ at e1;split at e1
  ·rename_i as e;refine ha f e fun vs H1 s1 a=>?_;show jv .l K ms F (vs++[]) H1 Q E;rw [Ss];refine ⟨cE Z os,as,.lst ds,‹70›.zt,a,e1,fun v H2 s2 i=>?_⟩;rcases i with ⟨p,us,ds',rfl,ed,hb,hh,hl,r⟩ | ⟨p,kvs,rfl,ed,hb,hh,hl⟩
   ·cases ed;exact k p us H2 ‹48› (bu.free s1 hb) hh hl r
   ·cases ed
  ·cases e1
 ·cases q
theorem Jx {a:aU→Option (List D)} (h:bC K ta a):de .l K (sE ta) (cy (bw a)):=fun {B Z os ρ σ H E} f p=>by
 unfold cy bw at p;cases e:a ρ with
 | none=>rw [e] at p; exact p.elim
 | some ds =>rw [e] at p;exact h f e fun x vs H1 s1 hx hH hl r=>p _ _ (f.keep.trans s1) (.inl ⟨x,vs,ds,rfl,rfl,bu.free f.keep hx,hH,hl,r.kp (Kp.less fun a z=>z.elim .inl fun z=>.inr (.inl z))⟩)
@[irreducible] def AW (i:Nat):DS:=fun ρ=>match ρ.getD i .un with
 | .ol ds=>.rt (.lst ds)
 | _=>.no
theorem Jw {i:Nat}:de .l K (sE (i8 i)) (AW i):=fun {B Z os ρ σ H E} f p=>by
 unfold AW at p;split at p
 ·rename_i ds e;have s:=f.sl i;rw [e] at s;obtain ⟨a,vs,eo,hu,hH,hl,r⟩:=s;have ha:a∈os i:=by rw [eo]; exact Q3.mpr rfl
  exact ⟨_,join_some hu,p _ _ f.keep (.inl ⟨a,vs,ds,rfl,rfl,(f.new i a ha).1,hH,hl,r.kp (Kp.less fun b z=>z.elim (fun z=>.inr ⟨i,by rw [z]; exact ha⟩) .inl)⟩)⟩
 ·show 12
@[irreducible] def vx (i:Nat) (a:aU→Option (List (List D))):DS:=fun ρ=>match a ρ with
 | some rows=>if i < ρ.length then .nx (ρ.set i (.om rows)) else .no
 | none=>.no
theorem Ju {i:Nat} (h:NL K ta a):de fr K (sF ta (kA i)) (vx i a):=fun {B Z os ρ σ H E} f p=>by
 unfold vx at p;split at p
 ·rename_i rows e;by_cases hi:i < ρ.length
  ·rw [if_pos hi] at p;refine h f e fun x ps H1 s1 hx hps hn hH hl r=>?_
   have st:=f.step (H':=H1) (i:=i) hi (o:=x::ps) (s:=.om rows) (v:=some (.ref x)) (fun a u e _=>s1 _ _ e) (fun a ha=>let ⟨xs,e⟩:=(f.sl i).xu ha; ⟨_,s1 _ _ e⟩) hn (fun a ha=>?_)
    ⟨x,ps,rfl,rfl,hH,hl,Paired.mono r fun q ds _ ⟨vs,h1,h2,h3⟩=>⟨vs,h1,h2,h3.kp (Kp.less fun a z=>?_)⟩⟩
   ·exact p _ _ _ st.1 st.2
   ·rcases Ri.mp ha with rfl | ha
    ·exact .inr hx
    ·exact .inr (hps a ha)
   ·rcases z with z | ⟨j,z⟩
    ·exact .inr (.inl z)
    ·show 10
     ·subst hj; rw [b8] at z; exact .inl (Ri.mp z)
     ·rw [cL hj] at z; exact .inr (.inr ⟨j,z⟩)
  ·rw [if_neg hi] at p; exact p.elim
 ·show 12
theorem Av {i:Nat} (h:NL K ta a):de fr K (Dr ta i) (vx i a):=Ju (i:=i) h
def Kt (i:Nat) (ρ:aU):aU:=match ρ.getD i .un with
 | .om rows=>ρ.set i (.ol (rows.map D.lst))
 | _=>ρ
theorem Fr.Ku {B H:Hp} (f:Fr K B Z os ρ σ H) (i:Nat):∃ os',Fr K B Z os' (Kt i ρ) σ H∧Kp (cE Z os) H (cE Z os') H:=by
 unfold Kt;cases e:ρ.getD i .un with
 | om rows =>
  have s:=f.sl i;rw [e] at s;obtain ⟨a,ps,eo,hu,hH,hl,i1⟩:=s;have hi:=kz e (by intro z; cases z);have hn:=f.nd i;rw [eo] at hn
  have less:∀ b,cE Z (nG os i [a]) b→cE Z os b:=by
   rintro b (z | ⟨j,z⟩)
   ·exact .inl z
   ·show 10
    ·subst hj; rw [b8] at z; exact .inr ⟨j,by rw [eo,Q3.mp z]; exact Q9⟩
    ·show 13
  have out:∀ b,b∈ps→¬ cE Z (nG os i [a]) b:=by
   rintro b hb (z | ⟨j,z⟩)
   ·exact (f.new i b (by rw [eo]; exact Ra _ hb)).2 z
   ·show 10
    ·subst hj; rw [b8] at z; rw [Q3.mp z] at hb; exact (SE.mp hn).1 hb
    ·rw [cL hj] at z; exact hj (f.dj j i b z (by rw [eo]; exact Ra _ hb))
  have st:=f.step (H':=H) (i:=i) hi (o:=[a]) (s:=.ol (rows.map D.lst)) (v:=some (.ref a)) (fun a u e _=>e) (fun a ha=>let ⟨xs,e⟩:=(f.sl i).xu ha; ⟨_,e⟩) (by simp) (fun b h=>by rw [Q3.mp h,eo]; exact .inl Q9)
   ⟨a,ps.map V.ref,rfl,rfl,hH,by rw [Q5]; exact hl,vz less out i1⟩
  rw [jb hu] at st;exact ⟨_,st⟩
 | od d=>exact ⟨os,f,Kp.refl⟩
 | pm _ _ _=>exact ⟨os,f,Kp.refl⟩
 | pd _ _=>exact ⟨os,f,Kp.refl⟩
 | dk _ _ _=>exact ⟨os,f,Kp.refl⟩
 | pk _ _ _ _ _ _=>exact ⟨os,f,Kp.refl⟩
 | bk _ _ _=>exact ⟨os,f,Kp.refl⟩
 | ol d=>exact ⟨os,f,Kp.refl⟩
 | un=>exact ⟨os,f,Kp.refl⟩
 | pu d=>exact ⟨os,f,Kp.refl⟩
 | bo d=>exact ⟨os,f,Kp.refl⟩
@[irreducible] def AX (i:Nat) (s:DS):DS:=fun ρ=>s (Kt i ρ)
theorem Jy {t:TS} {s:DS} (i:Nat) (h:de fr K t s):de fr K t (AX i s):=fun {B Z os ρ σ H E} f p=>by obtain ⟨os',f',k⟩:=f.Ku i;unfold AX at p;exact h f' (uo.kp k p)
theorem Paired.setAt {α β:Type} {F G:α→β→Prop} {p:α} {y:β}:∀ {ps:List α} {rows:List β} {r:Nat},Ta F ps rows→ps.Nodup→(∀ q ds,q≠p→F q ds→G q ds)→ps[r]?=some p→G p y→Ta G ps (rows.set r y)
 | _,_,0,.cons h t,hn,hf,e,g=>by cases e;exact .cons g (Paired.mono t fun q ds hq h=>hf q ds (fun z=>(SE.mp hn).1 (z ▸ hq)) h)
 | _,_,r+1,.cons h t,hn,hf,e,g=>by
  have e':=show _=some p by simpa using e
  exact .cons (hf _ _ (fun z=>(SE.mp hn).1 (z ▸ RB e')) h) (Paired.setAt t (SE.mp hn).2 hf e' g)
theorem Paired.OY {α β:Type} {F:α→β→Prop}:∀ {ps:List α} {rows:List β} {r:Nat} {y:β},Ta F ps rows→rows[r]?=some y→∃ p,ps[r]?=some p∧F p y
 | _,_,0,_,.cons h _,e=>by cases e; exact ⟨_,rfl,h⟩
 | _,_,r+1,_,.cons _ t,e=>by obtain ⟨p,e1,h⟩:=Paired.OY (r:=r) t (by simpa using e);exact ⟨p,by simpa using e1,h⟩
theorem Oz {B H:Hp} (f:Fr K B Z os ρ σ H) {i:Nat} (e:ρ.getD i .un=.om rows) :
 ∃ a ps,os i=a::ps∧(σ[i]?).join=some (.ref a)∧H a=some (.lst (ps.map V.ref))∧ps.length≤Q4∧ps.length=rows.length∧Ta (fun p ds=>∃ vs,H p=some (.lst vs)∧vs.length≤Q4∧IsL K H (cE Z os) vs ds) ps rows:=by
 have s:=f.sl i;rw [e] at s;obtain ⟨a,ps,h1,h2,h3,h4,h5⟩:=s;exact ⟨a,ps,h1,h2,h3,h4,UP h5,h5⟩
theorem Fr.OG {B H:Hp} (f:Fr K B Z os ρ σ H) {i r:Nat} {a p:Q6} (e:ρ.getD i .un=.om rows) (eo:os i=a::ps) (hu:(σ[i]?).join=some (.ref a)) (hr:ps[r]?=some p) (hl:vs'.length≤Q4) (h:IsL K H (cE Z os) vs' ds') :
 Fr K B Z (nG os i (a::ps)) (ρ.set i (.om (rows.set r ds'))) σ (upd H p (.lst vs'))∧Kp (cE Z os) H (cE Z (nG os i (a::ps))) (upd H p (.lst vs')):=by
 have s:=f.sl i;rw [e] at s;obtain ⟨b,qs,eo',hu',hH,hlp,i1⟩:=s;rw [eo] at eo';cases eo';have hi:=kz e (by intro z; cases z);have hn:=f.nd i;rw [eo] at hn;have hp:p∈ps:=RB hr;have hpo:p∈os i:=by rw [eo]; exact Ra _ hp
 have hap:a≠p:=fun z=>(SE.mp hn).1 (z ▸ hp)
 have tt:cE Z (nG os i (a::ps))=cE Z os:=by
  funext c;apply propext;constructor
  ·rintro (z | ⟨j,z⟩)
   ·exact .inl z
   ·show 10
    ·subst hj; rw [b8] at z; exact .inr ⟨j,by rw [eo]; exact z⟩
    ·show 13
  ·rintro (z | ⟨j,z⟩)
   ·exact .inl z
   ·show 10
    ·subst hj; exact .inr ⟨j,by rw [b8,← eo]; exact z⟩
    ·exact .inr ⟨j,by rw [cL hj]; exact z⟩
 have kp:Kp (cE Z os) H (cE Z os) (upd H p (.lst vs')):=fun b u e z=>⟨by rw [a5 (fun w=>z (.inr ⟨i,by rw [w]; exact hpo⟩))]; exact e,z⟩
 have st:=f.step (H':=upd H p (.lst vs')) (i:=i) hi (o:=a::ps) (s:=.om (rows.set r ds')) (v:=some (.ref a)) (fun b u e n=>by rw [a5 (fun z=>n (by rw [z]; exact hpo))]; exact e) (fun b hb=>?_) hn (fun b hb=>by rw [← eo] at hb; exact .inl hb)
  ⟨a,ps,rfl,rfl,by rw [a5 hap]; exact hH,hlp,?_⟩
 ·rw [jb hu'] at st;exact st
 ·by_cases hb':b=p
  ·rw [hb']; exact ⟨_,br⟩
  ·rw [a5 hb']; obtain ⟨xs,e⟩:=(f.sl i).xu hb; exact ⟨_,e⟩
 ·rw [tt];exact Paired.setAt i1 (SE.mp hn).2 (fun q ds hq ⟨vs,h1,h2,h3⟩=>⟨vs,by rw [a5 hq]; exact h1,h2,h3.kp kp⟩) hr ⟨vs',br,hl,h.kp kp⟩
theorem Fr.P2 {B H:Hp} (f:Fr K B Z os ρ σ H) {i r:Nat} {a p:Q6} (e:ρ.getD i .un=.om rows) (eo:os i=a::ps) (hu:(σ[i]?).join=some (.ref a)) (hr:ps[r]?=some p) (hl:vs'.length≤Q4) (h:IsL K H (cE Z os) vs' ds') :
 ∃ os',Fr K B Z os' (ρ.set i (.om (rows.set r ds'))) σ (upd H p (.lst vs'))∧Kp (cE Z os) H (cE Z os') (upd H p (.lst vs')):=⟨_,f.OG e eo hu hr hl h⟩
theorem nY {B H:Hp} (f:Fr K B Z os ρ σ H) {i:Nat} {n:Int} {r:Nat} (e:ρ.getD i .un=.om rows) (hn:ixN rows.length n=some r) (hd:rows[r]?=some ds) :
 ∃ a ps p vs,os i=a::ps∧(σ[i]?).join=some (.ref a)∧H a=some (.lst (ps.map V.ref))∧lh (ps.map V.ref) n=some (V.ref p)∧ps[r]?=some p∧H p=some (.lst vs)∧vs.length≤Q4∧IsL K H (cE Z os) vs ds:=by
 obtain ⟨a,ps,h1,h2,h3,h4,h5,h6⟩:=Oz f e;obtain ⟨p,e1,vs,g1,g2,g3⟩:=Paired.OY h6 hd;refine ⟨a,ps,p,vs,h1,h2,h3,?_,e1,g1,g2,g3⟩;unfold lh;rw [Q5,h5,hn];show (ps.map V.ref)[r]?=_;rw [Ro,e1];rfl
@[irreducible] noncomputable def xQ (i:Nat) (b c a:DE):DS:=fun ρ=>match ρ.getD i .un with
  | .om rows=>(match a ρ with
    | some d=>(match b ρ with
      | some (.int n)=>(match ixN rows.length n with
        | some r=>(match rows[r]? with
          | some ds=>(match c ρ with
            | some (.int m)=>(match ixN ds.length m with
              | some j=>.nx (ρ.set i (.om (rows.set r (ds.set j d))))
              | none=>.no)
            | _=>.no)
          | none=>.no)
        | none=>.no)
      | _=>.no)
    | none=>.no)
  | _=>.no
theorem DD {i:Nat} {tb tc:TE} {a b c:DE} (ha:ai K ta a) (hb:bD K tb b) (hc:bD K tc c):de fr K (sF ta (Ni (tJ (Mp K) (i8 i) tb) tc G8)) (xQ i b c a):=fun {B Z os ρ σ H E} f p=>by
 unfold xQ at p;split at p
 ·rename_i rows e;split at p
  ·rename_i d e1;split at p
   ·rename_i n e2;split at p
    ·rename_i r e3;split at p
     ·rename_i ds e4;split at p
      ·rename_i m e5;split at p
       ·rename_i j e6;obtain ⟨x,ps,q,vs,eo,hu,hH,hat,hr,hq,hl,il⟩:=nY f e e3 e4;refine ha f e1 fun v H1 s1 i1=>⟨_,join_some hu,hb ‹70› e2 fun w H2 s2 i2=>?_⟩
        have s12:=s1.trans s2;refine .inl ⟨x,ps.map V.ref,n,.ref q,rfl,i2.isInt,mS.of (s12 _ _ hH),hat,hc (f.grow s12) e5 fun u H3 s3 i3=>?_⟩;have s13:=s12.trans s3;have f3:=f.grow s13;obtain ⟨os',f',k⟩:=f3.P2 (vs':=vs.set j v) (ds':=ds.set j d) e eo hu hr (by rw [Su]; exact hl) ((il.same s13).set ((i1.same s2).same s3) j);exact ⟨q,vs,m,j,rfl,i3.isInt,s13 _ _ hq,by rw [il.length]; exact e6,p os' _ _ f' ((Kp.same s13).trans k)⟩
       ·show 12
      ·show 12
     ·show 12
    ·show 12
   ·show 12
  ·show 12
 ·show 12
end
end
section
open Classical
section
variable [cu] {K:Q2} {fr:Fm}
theorem IP {B H1 H:Hp} {W:Q6→Prop} (f:Fr K B Z os ρ σ H1) (s:bu H1 H) (hw:∀ a,W a→∃ o,H a=some o) (hk:Kp (cE Z os) H1 W H) (k:Nat) (cs:List Nat) :
    Fr K H1 W (fun _=>[]) (r0 k cs ρ) (s0 k cs σ) H where
  keep:=s
  F0:=hw
  tab:=f.Jp
  len:=by unfold r0 s0; simp
  nd:=fun _=>Tw
  dj:=fun _ _ _ h=>by cases h
  new:=fun _ _ h=>by cases h
  sl:=fun j=>by
    have kp:Kp (cE Z os) H1 (cE W fun _=>[]) H:=fun a u e z=>⟨(hk a u e z).1,fun q=>q.elim (hk a u e z).2 fun ⟨_,q⟩=>by cases q⟩
    unfold r0 s0;rw [Rc];by_cases hj:j<k
    · rw [Rz ‹83›,Rz ‹83›,Sb,if_pos hj];exact rfl
    · rw [RO ‹83›,RO ‹83›,RV,RV,Ro,Ro];cases e:cs[j-k]? with
      | none=>exact rfl
      | some i =>
        have h:=f.sl i;show xy K _ _ _ _ (view (ρ.getD i .un)) ((σ[i]?).join);cases e2:ρ.getD i .un with
        | un=>exact rfl
        | pu d =>rw [e2] at h;obtain ⟨_,u,hu,i1⟩:=h;exact ⟨rfl,u,hu,i1.kp kp⟩
        | bo d =>rw [e2] at h;obtain ⟨_,u,hu,i1⟩:=h;exact ⟨rfl,u,hu,i1.same f.keep⟩
        | ol ds =>rw [e2] at h;obtain ⟨a,vs,_,hu,hH,hl,i1⟩:=h;exact ⟨rfl,_,hu,.lst (fun z=>z) (.inl hH) hl i1.all⟩
        | om rows =>rw [e2] at h;obtain ⟨a,ps,_,hu,hH,hl,i1⟩:=h;exact ⟨rfl,_,hu,.lst (fun z=>z) (.inl hH) (by rw [Q5]; exact hl) (mn i1)⟩
        | od kvs =>rw [e2] at h;obtain ⟨a,_,hu,hH,hl⟩:=h;exact ⟨rfl,_,hu,.dct (fun z=>z) (.inl hH) hl⟩
        | pm a ps rows =>rw [e2] at h;obtain ⟨_,hu,hH,hl,i1⟩:=h;exact ⟨rfl,_,hu,.lst (fun z=>z) (.inl hH) (by rw [Q5]; exact hl) (mn i1)⟩
        | pd a kvs =>rw [e2] at h;obtain ⟨_,hu,hH,hl⟩:=h;exact ⟨rfl,_,hu,.dct (fun z=>z) (.inl hH) hl⟩
        | dk C ks ds =>rw [e2] at h;obtain ⟨x,dx,p,_,hu,q⟩:=h;exact ⟨rfl,_,hu,q.is⟩
        | pk x dx p C ks ds =>rw [e2] at h;obtain ⟨_,hu,q⟩:=h;exact ⟨rfl,_,hu,q.is⟩
        | bk C ks ds =>rw [e2] at h;obtain ⟨_,x,dx,p,hu,q⟩:=h;exact ⟨rfl,_,hu,(q.h f.keep).is⟩
noncomputable def mP (g:DG) (t:aU→Option Bool) (e:aU→Option (List D)) (ρ0:aU):List D→Option (List (List D))
 | []=>some []
 | d::ds=>match g d ρ0 with
  | none=>none
  | some ρ1=>match t ρ1 with
   | none=>none
   | some false=>mP g t e ρ0 ds
   | some true=>match e ρ1 with
    | none=>none
    | some y=>match mP g t e ρ0 ds with
     | none=>none
     | some ys=>some (y::ys)
def oE (k:Nat) (cs:List Nat) (it:aU→Option (List D)) (g:DG) (t:aU→Option Bool) (e:aU→Option (List D)):aU→Option (List (List D)):=fun ρ=>match it ρ with
 | some ds=>mP g t e (r0 k cs ρ) ds
 | none=>none
theorem DH {m:Bool} {k:Nat} {cs:List Nat} {wi:TI} {g:TG} {tt:TT} {te:TE} {gd:DG} {td:aU→Option Bool} {ed:aU→Option (List D)} (hw:yx K m wi it) (hg:BL K m g gd) (ht:nO K tt td) (he:bC K te ed) :
 NL K (vc wi g tt te (s0 k cs)) (oE k cs it gd td ed):=fun {B Z os ρ σ H Q ds} f q kk=>by
 unfold oE at q;split at q
 ·show 9
  let ZZ:List Q6→Q6→Prop:=fun ps a=>(a=Dl∨a∈ps)∨cE Z os a
  refine ⟨fun i m ys H2=>m=xs.length-i∧i≤xs.length∧bu H1 H2∧H2 Dl=some (.lst ys)∧ys.length≤i∧∃ ps done rest,ys=ps.map V.ref∧(∀ a∈ps,H1 a=none)∧(Dl::ps).Nodup∧Ta (fun q ds=>∃ vs,H2 q=some (.lst vs)∧vs.length≤Q4∧IsL K H2 (ZZ ps) vs ds) ps done∧mP gd td ed (r0 k cs ρ) (xs.drop i)=some rest∧done++rest=ds,
   ⟨_,rfl,Th _,sD (bu.refl _),br,Rq _,[],[],ds,rfl,(fun a h=>by cases h),(by simp),.nil,q,rfl⟩,?_⟩
  rintro i mm ys H2 ⟨rfl,hi,s2,eD,hly,ps,done,rest,rfl,hps,hnd,il,q2,ed2⟩
  have zin2:∀ a,ZZ ps a→∃ o,H2 a=some o:=by
   rintro a ((rfl | z) | z)
   ·exact ⟨_,eD⟩
   ·obtain ⟨_,vs,h,_⟩:=Paired.any il z;exact ⟨_,h⟩
   ·obtain ⟨u,e⟩:=f1.K2 a z;exact ⟨u,s2 _ _ e⟩
  have kp12:Kp (cE Z os) H1 (ZZ ps) H2:=fun a u e z=>⟨s2 _ _ e,fun w=>by
   rcases w with (rfl | w) | w
   ·rw [hD] at e; cases e
   ·rw [hps a w] at e; cases e
   ·exact z w⟩
  by_cases hlt:i<xs.length
  ·have ex:xs[i]?=some xs[i]:=Q8 hlt;obtain ⟨go,yl⟩:=W.go i xs[i] H2 _ kp12 s2 zin2 ex;refine .inr ⟨go,fun x H3 hy=>?_⟩;obtain ⟨s3,er⟩:=yl x H3 hy;have eD3:=s3 _ _ eD;have s13:=s2.trans s3;have kp13:Kp (cE Z os) H1 (ZZ ps) H3:=kp12.trans (Kp.same s3);have ef3:=IP f1 s13 (fun a z=>let ⟨o,e⟩:=zin2 a z; ⟨o,s3 _ _ e⟩) kp13 k cs;rw [Sz hlt] at q2;unfold mP at q2
   have er':ER K m H1 H3 (cE (ZZ ps) fun _=>[]) x xs[i]:=by
    cases m with
    | false=>exact er
    | true=>exact Is.kp ‹63› er
   have il3:∀ {H':Hp},bu H2 H'→Ta (fun q ds=>∃ vs,H' q=some (.lst vs)∧vs.length≤Q4∧IsL K H' (ZZ ps) vs ds) ps done:=fun {H'} s=>Paired.mono il fun q ds _ ⟨vs,h1,h2,h3⟩=>⟨vs,s _ _ h1,h2,h3.same s⟩
   split at q2
   ·cases q2
   ·rename_i ρ1 e1;refine hg ef3 er' e1 fun os1 σ1 fr1 k1=>?_;split at q2
    ·cases q2
    ·rename_i e2;refine ht fr1 e2 fun H4 s4=>rR ⟨_,by lia,rfl,hlt,s13.trans s4,s4 _ _ eD3,by lia,ps,done,rest,rfl,hps,hnd,il3 (s3.trans s4),q2,ed2⟩
    ·rename_i e2;refine ht fr1 e2 fun H4 s4=>uf ?_;split at q2
     ·cases q2
     ·rename_i y e3;split at q2
      ·cases q2
      ·rename_i rs e4;cases q2;refine he (fr1.grow s4) e3 fun x2 vs2 H5 s5 hx2 hH5 hl5 i5=>?_;have s35:=s4.trans s5;have s25:=s3.trans s35;have eD5:=s35 _ _ eD3;have hl:=W.len;have hx3:H3 x2=none:=bu.free s4 hx2;have hxD:x2≠Dl:=fun z=>by rw [z,eD3] at hx3; cases hx3
       have hxps:x2∉ps:=fun z=>by obtain ⟨o,e⟩:=zin2 x2 (.inl (.inr z));rw [s3 _ _ e] at hx3; cases hx3
       have hxt:¬ cE Z os x2:=fun z=>by obtain ⟨o,e⟩:=zin2 x2 (.inr z);rw [s3 _ _ e] at hx3; cases hx3
       have sub:∀ a,ZZ (ps++[x2]) a→a=x2∨ZZ ps a:=by
        rintro a ((rfl | z) | z)
        ·exact .inr (.inl (.inl rfl))
        ·rcases RD.mp z with z | z
         ·exact .inr (.inl (.inr z))
         ·exact .inl (Q3.mp z)
        ·exact .inr (.inr z)
       have sup:∀ a,a=x2∨ZZ ps a→ZZ (ps++[x2]) a:=by
        rintro a (rfl | (rfl | z) | z)
        ·exact .inl (.inr (by simp))
        ·exact .inl (.inl rfl)
        ·exact .inl (.inr (S7 _ z))
        ·exact .inr z
       have kp5:∀ (zs:List V),Kp (ZZ ps) H2 (ZZ (ps++[x2])) (upd H5 Dl (.lst zs)):=fun zs a u e z=>⟨by rw [a5 (fun w=>z (.inl (.inl w)))]; exact s25 _ _ e,fun w=>by
        rcases sub a w with rfl | w
        ·rw [s3 _ _ e] at hx3; cases hx3
        ·exact z w⟩
       have kp6:∀ (zs:List V),Kp (ZZ (ps++[x2])) H5 (ZZ (ps++[x2])) (upd H5 Dl (.lst zs)):=fun zs a u e z=>⟨by rw [a5 (fun w=>z (.inl (.inl w)))]; exact e,z⟩
       refine ⟨eD5,by rw [Q5] at hly ⊢; lia,_,by lia,rfl,hlt,sD (s13.trans s35),br,by rw [Ru,Tc]; lia,ps++[x2],done++[y],rs,by rw [SW]; rfl,fun a ha=>?_,?_,?_,e4,by rw [SR]; exact ed2⟩
       ·rcases RD.mp ha with ha | ha
        ·exact hps a ha
        ·rw [Q3.mp ha]; exact bu.free s13 hx3
       ·rw [← Ud,List.nodup_append];refine ⟨hnd,by simp,fun a h1 b h2=>?_⟩;rw [Q3.mp h2];rintro rfl;rcases Ri.mp h1 with z | z
        ·exact hxD z
        ·exact hxps z
       ·refine Paired.append (Paired.mono il fun q ds hq ⟨vs,h1,h2,h3⟩=>⟨vs,?_,h2,h3.kp (kp5 _)⟩) (.cons ⟨vs2,?_,hl5,?_⟩ .nil)
        ·rw [a5 (fun z=>by rw [z] at hq; exact (SE.mp hnd).1 hq)]; exact s25 _ _ h1
        ·rw [a5 hxD]; exact hH5
        ·exact (i5.kp (Kp.less fun a z=>by
          rcases sub a z with z | z
          ·exact .inl z
          ·exact .inr (.inl z)):IsL K H5 (ZZ (ps++[x2])) vs2 y).kp (kp6 _)
  ·have e:i=xs.length:=by lia
   subst e;rw [UI] at q2;cases q2;rw [Ss] at ed2;subst ed2;have hl:=W.len;rw [Q5] at hly;exact .inl ⟨W.stop _ H2 _ kp12 s2 rfl,eD,kk Dl ps H2 ‹48› (bu.free s1 hD) (fun a ha=>bu.free s1 (hps a ha)) hnd eD (by lia) il⟩
 ·cases q
section
variable {s u b:DS} {ρ:aU} {W:Wk} {i:Nat} {a e k c:DE} {d:D} {rows:List (List D)} {ds:List D}
theorem Dj {es:aU→Option (List (List D))} (h:es ρ=some rows) (hi:i < ρ.length) (k:W.nx (ρ.set i (.om rows))):Wp (vx i es) ρ W:=by unfold Wp vx; rw [h]; simp only [if_pos hi]; exact k
theorem Jk (h:Wp s (Kt i ρ) W):Wp (AX i s) ρ W:=by unfold Wp AX at *; exact h
theorem Jj (h:ρ.getD i .un=.ol ds) (k:W.rt (.lst ds)):Wp (AW i) ρ W:=by unfold Wp AW; rw [h]; exact k
theorem Dk {n m:Int} {r j:Nat} (h0:ρ.getD i .un=.om rows) (h1:a ρ=some d) (h2:e ρ=some (.int n)) (h3:ixN rows.length n=some r) (h4:rows[r]?=some ds) (h5:c ρ=some (.int m)) (h6:ixN ds.length m=some j) (k:W.nx (ρ.set i (.om (rows.set r (ds.set j d))))):Wp (xQ i e c a) ρ W:=by unfold Wp xQ; rw [h0]; simp only [h1,h2,h3,h4,h5,h6]; exact k
theorem Bs (h:es ρ=some xs) (h2:F xs=some (.lst ds)):sY F es ρ=some ds:=by unfold sY aJ; rw [h]; simp only [h2]
theorem Iz {k:Nat} {cs:List Nat} {g:DG} {t:aU→Option Bool} (emb:α→D) {xs:List α} (h:it ρ=some (xs.map emb)) (p:α→Bool) (f:α→List D)
 (hs:∀ x∈xs,∃ ρ1,g (emb x) (r0 k cs ρ)=some ρ1∧t ρ1=some (p x)∧(p x=true→el ρ1=some (f x))):oE k cs it g t el ρ=some ((xs.filter p).map f):=by
 unfold oE;rw [h];show mP g t el (r0 k cs ρ) (xs.map emb)=_;clear h;induction xs with
 | nil=>rfl
 | cons x r ih =>
  obtain ⟨ρ1,e1,e2,e3⟩:=hs x Q9;rw [R4];unfold mP;rw [e1];dsimp only;rw [e2];have q:=ih fun y hy=>hs y (Ra _ hy);cases hp:p x with
  | false=>rw [U5 (by rw [hp]; exact Rn)]; exact q
  | true =>rw [U6 hp,R4];dsimp only;rw [e3 hp];dsimp only;rw [q]
theorem FD {k:Nat} {cs:List Nat} {g:DG} (emb:α→D) {xs:List α} (h:it ρ=some (xs.map emb)) (f:α→List D)
 (hs:∀ x∈xs,∃ ρ1,g (emb x) (r0 k cs ρ)=some ρ1∧el ρ1=some (f x)):oE k cs it g cO el ρ=some (xs.map f):=by
 have:=Iz (k:=k) (cs:=cs) (g:=g) (t:=cO) (el:=el) emb h (fun _=>true) f fun x hx=>let ⟨ρ1,e1,e2⟩:=hs x hx; ⟨ρ1,e1,rfl,fun _=>e2⟩
 rw [this,VP.mpr fun _ _=>rfl]
end
theorem fT {b:DS} (hF:F=eG n ms b) {d:D} (h:Wp b (fX n ms ds) { nx:=fun _=>False,rt:=fun x=>x=d }):F ds=some d:=by
 rw [hF];unfold eG;unfold Wp at h;cases e:b (fX n ms ds) with
 | rt x=>rw [e] at h; show some x=some d; rw [show x=d from h]
 | nx ρ=>rw [e] at h; exact h.elim
 | bk ρ=>rw [e] at h; exact h.elim
 | ct ρ=>rw [e] at h; exact h.elim
 | no=>rw [e] at h; exact h.elim
theorem uC {b:DS} (hF:F=eG n ms b) {P:D→Prop} (h:Wp b (fX n ms ds) { nx:=fun _=>False,rt:=P }):∃ d,F ds=some d∧P d:=by
 rw [hF];unfold eG;unfold Wp at h;cases e:b (fX n ms ds) with
 | rt x=>rw [e] at h; exact ⟨x,rfl,h⟩
 | nx ρ=>rw [e] at h; exact h.elim
 | bk ρ=>rw [e] at h; exact h.elim
 | ct ρ=>rw [e] at h; exact h.elim
 | no=>rw [e] at h; exact h.elim
end
end
end VL
namespace L2
open PySem PySem.Spec PyProof.Rows
theorem Fi (o:TK) (f):(o.mapFields f).dict=o.dict:=by cases o with | mk c d dt sl=>cases dt <;> rfl
def Rec (h:SA) (e T:Q6) (cls fl:Q7):Prop :=
 ∃ oe vs oT ts,(h.get? e=some oe∧oe.cls=cls∧oe.dict=none∧oe.data=.fields vs)∧vs[1]?=some (.ref T)∧T≠e∧h.get? T=some oT∧oT.data=.fields ts∧ts[3]?=some fl
structure BN (fr ch:List Q6) (h h':SA):Prop where
 keep:∀ b o,b∉fr→b∉ch→h.get? b=some o→h'.get? b=some o
 slot:∀ b o,b∉ch→h.get? b=some o→∃ sl,h'.get? b=some { o with slots:=sl }
theorem BN.trans {fr c1 c2:List Q6} {h h1 h2:SA} (a:BN fr c1 h h1) (b:BN fr c2 h1 h2):BN fr (c1++c2) h h2 where
 keep:=fun x o hf hc q=>b.keep x o hf (fun z=>hc (RA _ z)) (a.keep x o hf (fun z=>hc (S7 _ z)) q)
 slot:=fun x o hc q=>by obtain ⟨s1,q1⟩:=a.slot x o (fun z=>hc (S7 _ z)) q;obtain ⟨s2,q2⟩:=b.slot x _ (fun z=>hc (RA _ z)) q1;exact ⟨s2,q2⟩
variable {a:Q6} {oe:TK} {vs:Array Q7}
theorem BN.upd {fr:List Q6} {h:SA} (f:TK→TK):BN fr [a] h (h.update a f) where
 keep:=fun b o _ hc q=>by rw [Si _ _ fun z=>hc (by rw [z]; exact Q3.mpr rfl)]; exact q
 slot:=fun b o hc q=>⟨o.slots,by rw [Si _ _ fun z=>hc (by rw [z]; exact Q3.mpr rfl)]; exact q⟩
section
variable {M:Zk} {A:SG} {E:Q7→Rb→Prop} {s:Rb} {base:SA} {env:XX} {outer:List XX} {L e T:Q6} {cls fl:Q7} {Q:Unit→Rb→Prop}
theorem qC {head:Q7} {more:Bool} (h1:A.frames=some (env::outer)) (h2:s.heap.FunFrames base (env::outer)) (h3:env.frame=some L)
 (h4:s.heap.get? e=some oe) (h5:oe.data=.fields vs) (h6:1<vs.size) (h7:oe.dict=none)
 (q:∀ h' T,s.heap.get? T=none→Rec h' e T oe.cls (Vp L)→BN (ui (env::outer)) [e] s.heap h'→Q () { s with heap:=h' }) :
 Rv M A (do let f ← frameOf env; let p ← entryPlaceOf L more; let b ← XZ head f .none (Vp L) .none p; setField (.ref e) 1 b) Q E s:=by
 have nf:e∉ui (env::outer):=fun hm=>by obtain ⟨_,o,ho,hz⟩:=h2.mem hm;rw [h4] at ho;cases ho;exact hz vs h5
 refine Rg (wpAny_frameOf_fun h1 h2 h3 fun g so=>Rg (wpAny_entryPlaceOf fun p hp=>?_));obtain ⟨z1,z2,z3⟩:=so;unfold XZ newFields;refine Rg (Vj ?_ (hp.sizeOk5 _ _ _ _ _));have e1:g.get? e=some oe:=by rw [z2 e nf]; exact h4
 have e2:=Rk (h:=g) { cls:=.type "traceback", dict:=none,data:=.fields ([head,.ref L,.none,Vp L,.none]++(if p.isEmpty then Rx 6 Vo else p)).toArray } e1;refine Wa e2 h5 h6 (q _ g.objs.size ?_ ?_ ?_)
 ·exact Xx (by rw [z1]; exact Rq _)
 ·have ne:g.objs.size≠e:=UE (Rm e1);have d:=Uj h5 (·.setIfInBounds 1 (RQ g.objs.size));refine ⟨_,_,_,_,⟨Tt _ e2 (T1 d),Obj.cls_mapFields _ _,by rw [Fi]; exact h7,d⟩,by simp [h6],ne,(Si _ _ (S6 ne)).trans (RI g rfl),rfl,?_⟩
  first
   | (simp; done)
   | (rcases hp with rfl | ⟨_,_,_,_,_,_,_,rfl⟩ <;> simp)
 ·refine ⟨fun b o hb hc y=>?_,fun b o hc y=>?_⟩
  ·rw [Si _ _ fun z=>hc (by rw [z]; exact Q3.mpr rfl)];exact Rk _ (by rw [z2 b hb]; exact y)
  ·obtain ⟨sl,y1⟩:=z3 b o y;refine ⟨sl,?_⟩;rw [Si _ _ fun z=>hc (by rw [z]; exact Q3.mpr rfl)];exact Rk _ y1
theorem CL (h1:A.frames=some (env::outer)) (h2:s.heap.FunFrames base (env::outer)) (h3:env.frame=some L)
 (h4:s.heap.get? e=some oe) (h5:oe.data=.fields vs) (h6:vs[1]?=some .none) (h7:oe.dict=none)
 (q:∀ h' T,s.heap.get? T=none→Rec h' e T oe.cls (Vp L)→BN (ui (env::outer)) [e] s.heap h'→Q () { s with heap:=h' }):Rv M A (TC (.ref e) env) Q E s:=by
 unfold TC;simp only [h3];refine Rg (Ue h4 h5 h6 ?_);rw [if_neg ‹6›];exact qC h1 h2 h3 h4 h5 (Sm.mp h6).1 h7 q
theorem o6 (h1:A.frames=some (env::outer)) (h2:s.heap.FunFrames base (env::outer)) (h3:env.frame=some L) (r:Rec s.heap e T cls .none)
 (q:∀ h' T',s.heap.get? T'=none→Rec h' e T' cls (Vp L)→BN (ui (env::outer)) [T,e] s.heap h'→Q () { s with heap:=h' }):Rv M A (TC (.ref e) env) Q E s:=by
 obtain ⟨oe,vs,oT,ts,⟨a1,a2,a3,a4⟩,b1,ne,b2,b3,b4⟩:=r;subst a2;unfold TC;simp only [h3];refine Rg (Ue a1 a4 b1 ?_);rw [if_pos (by simp)];refine Rg (Ue b2 b3 b4 ?_);rw [if_neg (by simp [Vp])];refine Rg (Wa b2 b3 (Sm.mp b4).1 ?_);have other:∀ b,b≠T→∀ x:TK→TK,(s.heap.update T x).get? b=s.heap.get? b:=fun b hb x=>Si _ _ (S6 hb);refine qC h1 (h2.of_keeps fun b o hb hn=>⟨o,?_,rfl⟩) h3 ((other e (S6 ne) _).trans a1) a4 (Sm.mp b1).1 a3 fun h' T' n1 r1 hp=>q h' T' ?_ r1 ?_
 ·rw [other b (fun z=>by rw [z,b2] at hb; cases hb; exact hn ts b3)]; exact hb
 ·by_cases z:T'=T
  ·rw [z] at n1;rw [Tt _ b2 (T1 (Uj b3 _))] at n1;cases n1
  ·rw [other T' z] at n1; exact n1
 ·exact (BN.upd (fr:=ui (env::outer)) _).trans hp
theorem land (r:Rec s.heap e T cls fl) (q:∀ h',Rec h' e T cls .none→BN (ui (env::outer)) [T] s.heap h'→Q () { s with heap:=h' }):Rv M A (VZ (.ref e) none) Q E s:=by obtain ⟨oe,vs,oT,ts,⟨a1,a2,a3,a4⟩,b1,ne,b2,b3,b4⟩:=r;refine wpAny_setFlight_none a1 a4 b1 b2 b3 (Sm.mp b4).1 (q _ ?_ (BN.upd _));have d:=Uj b3 (·.setIfInBounds 3 Vo);exact ⟨oe,vs,_,_,⟨(Si _ _ ne).trans a1,a2,a3,a4⟩,b1,ne,Tt _ b2 (T1 d),d,by simp [(Sm.mp b4).1]⟩
end
variable {h':SA} {t':Nat}
structure Out (X:Cx) (pins:List (Q6×TK)) (H:Hp) (b:Q6):Prop where
 h:H b=none
 s0:X.s₀.heap.get? b=none
 loc:b≠‹75›
 cell:∀ x c,X.env.cells.lookup x=some c→c≠b
 pin:∀ p∈X.pn++pins,p.1≠b
section
variable {P:Sd} {w:Sn} {H:Hp} {h:SA} {a:Q6} {o:HO}
theorem eF.live (x:eF P w H h a o):∃ u,h.get? a=some u:=by
 cases o with
 | lst xs=>obtain ⟨_,_,_,_,e⟩:=x; exact ⟨_,e⟩
 | tup xs=>obtain ⟨_,_,_,ob,e,_⟩:=x; exact ⟨_,e⟩
 | dK kvs=>obtain ⟨_,_,_,_,o,_,_,e,_⟩:=x; exact ⟨_,e⟩
 | dT kvs=>obtain ⟨_,_,_,_,o,_,_,e,_⟩:=x; exact ⟨_,e⟩
 | set S n=>obtain ⟨o,_,_,_,e,_⟩:=x; exact ⟨_,e⟩
 | ins C dx fs=>obtain ⟨_,_,_,e,_⟩:=x; exact ⟨_,e⟩
 | own y=>exact x
 | xd fs=>obtain ⟨_,⟨_,_,_,e,_⟩,_⟩:=x; exact ⟨_,e⟩
 | rng lo hi=>obtain ⟨_,_,_,e⟩:=x; exact ⟨_,e⟩
 | uM ob u=>obtain ⟨e,_⟩:=x; exact ⟨_,e⟩
 | tbl ps=>obtain ⟨_,_,_,_,e,_⟩:=x; exact ⟨_,e⟩
 | met f y=>exact ⟨_,show h.get? a=some _ from x⟩
 | ext φ=>obtain ⟨_,e,_⟩:=x; exact e
end
section
variable {X:Cx} {pins:List (Q6×TK)} {σ:St} {H H':Hp} {s:Rb}
theorem Inv.out (I:Inv X pins σ H s) (hx:X.ex=[]) {b:Q6} (e:s.heap.get? b=none):Out X pins H b where
 h:=by
  cases q:H b with
  | none=>rfl
  | some o=>obtain ⟨u,hu⟩:=(I.dm b o q).live; rw [e] at hu; cases hu
 s0:=by
  cases q:X.s₀.heap.get? b with
  | none=>rfl
  | some o=>obtain ⟨u,hu⟩:=I.base.there b o q (by rw [hx]; simp); rw [e] at hu; cases hu
 loc:=fun z=>by obtain ⟨m,⟨o,_,_,ho,_⟩,_⟩:=I.loc;rw [← z,e] at ho; cases ho
 cell:=fun x c q z=>by obtain ⟨v,o,ho,_⟩:=I.cell x c q;rw [z,e] at ho; cases ho
 pin:=fun p hp z=>by have:=(I.pin p hp).1;rw [z,e] at this; cases this
theorem Inv.D9 {ch:List Q6} (I:Inv X pins σ H s) (hp:BN (ui X.stack) ch s.heap h') (hc:∀ b∈ch,Out X pins H b):Inv X pins σ H { s with heap:=h',toks:=t' }:=by
 have nst:∀ b,b≠‹75›→b∉X.fs→b∉ui X.stack:=fun b h1 h2 h3=>by
  rcases Ri.mp (I.qc b h3) with z | z
  ·exact h1 z
  ·exact h2 z
 have neC:∀ b o,X.s₀.heap.get? b=some o→b∉ch:=fun b o e z=>by rw [(hc b z).s0] at e; cases e
 have neL:∀ b o,X.s₀.heap.get? b=some o→b≠X.env.locals:=fun b o e=>RX (RC (Rm e) I.ok.above);have cellK:∀ x c,X.env.cells.lookup x=some c→∀ v,s.heap.IsCell c v→h'.IsCell c v:=fun x c e v ⟨o,ho,hd⟩=>by obtain ⟨sl,q⟩:=hp.slot c o (fun z=>(hc c z).cell x c e rfl) ho;exact ⟨_,q,hd⟩
 refine ⟨I.ok,I.os,I.bare,⟨fun b o e n hb hx=>?_,fun b o e n hb hx=>?_,I.base.free,fun b o e hx=>?_,I.base.u7,I.base.uh,I.base.u9⟩,?_,fun x c e=>?_,I.free,I.jh,fun p hq=>?_,fun b u e=>?_,I.len⟩
 ·exact hp.keep b o (nst b (neL b o e) hb) (neC b o e) (I.base.keep b o e n hb hx)
 ·obtain ⟨sl,e1⟩:=I.base.slot b o e n hb hx;obtain ⟨sl',e2⟩:=hp.slot b _ (neC b o e) e1;exact ⟨sl',e2⟩
 ·obtain ⟨o',e1⟩:=I.base.there b o e hx;obtain ⟨sl,e2⟩:=hp.slot b o' (neC b o e) e1;exact ⟨_,e2⟩
 ·obtain ⟨m,⟨o,es,ep,ho,r⟩,hl⟩:=I.loc;obtain ⟨sl,q⟩:=hp.slot _ o (fun z=>(hc _ z).loc rfl) ho;refine ⟨m,⟨_,es,ep,q,r⟩,fun i x v e1 e2 e3=>?_⟩;obtain ⟨u,ru,l⟩:=hl i x v e1 e2 e3;refine ⟨u,ru,?_⟩;rcases l with l | ⟨k,c,e,z⟩
  ·exact .inl l
  ·exact .inr ⟨k,c,e,cellK x c e _ z⟩
 ·obtain ⟨v,z⟩:=I.cell x c e;exact ⟨v,cellK x c e v z⟩
 ·obtain ⟨e,n,ne,nf,d⟩:=I.pin p hq;exact ⟨hp.keep p.1 p.2 (nst _ ne nf) (fun z=>(hc _ z).pin p hq rfl) e,n,ne,nf,d⟩
 ·have k:∀ c v,(H c).isSome=true→s.heap.get? c=some v→h'.get? c=some v:=fun c v hs q =>hp.keep c v (fun z=>by rw [I.ux c z] at hs; cases hs) (fun z=>by rw [(hc c z).h] at hs; cases hs) q;refine (I.dm b u e).t7 (fun c v hb q=>k c v ?_ q) (fun _ q=>q) fun _ _ q=>q;rcases hb with rfl | hb
  ·rw [e]; rfl
  ·rw [hb]; rfl
theorem Out.weak {b:Q6} (o:Out X pins H b) (h:H' b=none):Out X pins H' b:=⟨h,o.s0,o.loc,o.cell,o.pin⟩
end
def QZ (h₀ h:SA) (H:Hp) (e:Q6) (cls:Q7):Prop:=∃ T,Rec h e T cls .none∧(H e=none∧h₀.get? e=none)∧(H T=none∧h₀.get? T=none)
def nQ (P:Sd) (w:Sn):Eu:=fun outer H s E e s'=>∃ a cls H',e=.ref a∧s'.os=s.os∧Wm s'.gens∧Un (ui outer) [] H H' s.heap s'.heap∧pL P w H' s'.heap∧QZ s.heap s'.heap H' a cls∧E cls none H'
variable {cls:Q7} {Ex:Q7→Rb→Prop}
structure Ak (X:Cx):Prop where
 mY:X.stack=X.env::X.outer
 fr:X.env.frame=some ‹75›
 ex:X.ex=[]
section
variable {X:Cx} {pins:List (Q6×TK)} {σ:St} {H:Hp} {s s':Rb} {E:XK} {e:Q7}
theorem Inv.raised (I:Inv X pins σ H s) (hx:X.ex=[]) (h:nQ X.prog X.w X.stack H s E e s'):∃ a T cls H',e=.ref a∧Inv X pins σ H' s'∧Rec s'.heap a T cls .none∧Out X pins H' a∧Out X pins H' T∧E cls none H':=by obtain ⟨a,cls,H',rfl,ho,hb,u,dm,⟨T,r,⟨a1,a2⟩,b1,b2⟩,q⟩:=h;exact ⟨a,T,cls,H',rfl,I.yq ho u dm hb (fun b z=>absurd z (by simp)),r,(I.out hx a2).weak a1,(I.out hx b2).weak b1,q⟩
theorem Inv.leave {T:Q6} (I:Inv X pins σ H s) (ow:Ak X) (r:Rec s.heap a T cls .none) (o1:Out X pins H a) (o2:Out X pins H T) (q:E cls none H) :
 Rv ‹3› X.A (leaving X.env (.ref a)) ‹74› Ex s:=by
 unfold leaving;refine Rg (o6 (base:=X.base) (outer:=X.outer) (by rw [← ow.mY]; exact I.ok.frames) (by rw [← ow.mY]; exact I.stack) ow.fr r fun h1 T' n1 r1 p1=>?_);have o3:=I.out ow.ex n1;rw [← ow.mY] at p1
 have I1:Inv X pins σ H { s with heap:=h1,toks:=s.toks }:=I.D9 p1 fun b hb=>by
  rcases Ri.mp hb with rfl | hb
  ·exact o2
  ·rw [Q3.mp hb]; exact o1
 show 7
 have u:=I2.base;rw [ow.ex] at u;exact ⟨a,cls,H,rfl,I2.os,I2.bare,u,I2.dm,⟨T',r2,⟨o1.h,o1.s0⟩,o3.h,o3.s0⟩,q⟩
theorem Inv.HQ {vs:List Q7} (I:Inv X pins σ H s) (ow:Ak X) (m:Heap.MadeExcOf s.heap h' a cls vs) (q:E cls none H) :
 Rv ‹3› X.A (leaving X.env (.ref a)) ‹74› Ex { s with heap:=h',toks:=t' }:=by
 have I0:Inv X pins σ H { s with heap:=h',toks:=t' }:=I.kept m.keeps;have o1:=I.out ow.ex m.new;obtain ⟨t,m1,_,_⟩:=m.there;unfold leaving;refine Rg (CL (base:=X.base) (outer:=X.outer) (by rw [← ow.mY]; exact I.ok.frames) (by rw [← ow.mY]; exact I0.stack) ow.fr m1 rfl rfl rfl fun h1 T n1 r1 p1=>?_);have o3:=I0.out ow.ex n1;rw [← ow.mY] at p1;have I1:Inv X pins σ H { s with heap:=h1,toks:=t' }:=I0.D9 p1 fun b hb=>by rw [Q3.mp hb]; exact o1
 refine land (env:=X.env) (outer:=X.outer) (s:={ s with heap:=h1,toks:=t' }) r1 fun h2 r2 p2=>?_;rw [← ow.mY] at p2;have I2:Inv X pins σ H { s with heap:=h2,toks:=t' }:=I1.D9 p2 fun b hb=>by rw [Q3.mp hb]; exact o3
 have u:=I2.base;rw [ow.ex] at u;exact ⟨a,cls,H,rfl,I2.os,I2.bare,u,I2.dm,⟨T,r2,⟨o1.h,o1.s0⟩,o3.h,o3.s0⟩,q⟩
end
def iH (X:Cx) (E:XK):Prop:=∀ (e:Q7) (s':Rb),Rv ‹3› X.A (leaving X.env e) (fun _ s''=>nQ X.prog X.w X.outer X.H₀ X.s₀ E e s'') (fun e' s''=>nQ X.prog X.w X.outer X.H₀ X.s₀ E e' s'') s'→X.xe e s'
variable {X:Cx} {E:XK}
theorem iH.passes (l:iH X E) (ow:Ak X):Passes (nQ X.prog X.w) X E:=fun pins σ H s e s' I h=>by obtain ⟨a,T,cls,H',rfl,I',r,o1,o2,q⟩:=I.raised ow.ex h;exact l _ _ (I'.leave ow r o1 o2 q)
variable {K:Q2} {C:Q6} {bmB:List Q7}
theorem Ky {h:SA} {newId:String} (X:K.In h) (q:Wz K C bmB newId=true) :
 ∃ bm N nm qn bs hd sn sub ab col dd k0 k1 k2 k3 k5 mN,h.get? C=some (excClassObj nm qn C N bs bm hd sn sub ab col dd k0 k1 k2 k3 k5 newId)∧h.Ns N mN∧mN "__init__" = none∧OwnTail h bmB bm:=by
 unfold Wz at q;split at q;case h_2=>cases q
 case h_1 dd cd sl ho =>
  split at q;case h_2=>cases q
  case h_1 C1 bm k0 k1 k2 k3 n k5 hm hs =>
   rw [RS,RS,RS,RS,RS] at q;obtain ⟨⟨⟨⟨⟨q1,q2⟩,q3⟩,q4⟩,q5⟩,q6⟩:=q;cases beq_iff_eq.mp q1;cases beq_iff_eq.mp q2;have q7:cd.hasDel=false:=by simpa using q3
   clear q3;obtain ⟨f1,f2,f3,f4,f5,f6,f7,f8,f9,f10,f11⟩:=cd;dsimp only at hm q7 q4 q5 q6;subst hm q7;obtain ⟨l⟩:=sl;have hs:l=_:=hs;subst hs;exact ⟨bm,_,_,_,_,_,_,_,_,_,dd,k0,k1,k2,k3,k5,_,X _ _ ho,.of_isNs (PySem.W.isNs_of_in X q5),PySem.W.nsMap_none_of_in X q5 (beq_iff_eq.mp q6),PySem.W.tail_of_in X q4⟩
def va (C:Q6) (E:XK) (ta:TA):TS:=fun _ σ H=>ta σ H fun vs H1=>vs.length≤Q4∧E (.ref C) none H1
theorem eL {x:Rf} {B newId initId:String} {np cpos pos:VJ} {a:Sv} {as:List Sv} {ta:TA} (l:iH X E) (ow:Ak X) (hc:X.calm=true) (FB:ExcBaseFacts B newId initId bmB) (hg:Gl X x) (hm:X.mg x=some (.ref C))
 (hq:Wz X.K C bmB newId=true) (ha:PA X (a::as) ta) (hdb:‹41›=false:=by decide)
 (he:RH (a::as) X.env=(false,eval a X.env)::RH as X.env:=by rfl) (hpl:(TN cpos (RH as X.env)).any (·.1)=false:=by rfl) :
 PS X (.Raise (some (.Call (.Name x np) (a::as) [] cpos)) none pos) (va C E ta):=by
 intro pins s σ H D I h;obtain ⟨bm,N,nm,qn,bs,hd,sn,sub,ab,col,dd,k0,k1,k2,k3,k5,mN,c1,c2,c3,c4⟩:=Ky (h:=X.base) I.mod.Jb hq;refine wpAny_Raise_call_subT (C:=C) (nm:=nm) (q:=qn) (N:=N) (bs:=bs) (bm:=bm) (hdct:=hd) (sn:=sn) (sub:=sub) (ab:=ab) (col:=col) (dd:=dd) (k0:=k0) (k1:=k1) (k2:=k2) (k3:=k3) (k5:=k5) (mN:=mN) FB (c4.hasType FB.hasBase) (I.ok.hd hc) ?_ c3 (i4 I hg hm ⟨rfl,?_⟩ hdb)
 ·rw [he];show (false || (TN cpos (RH as X.env)).any fun x=>x.1)=false;rw [hpl]; rfl
 ·have p:=ha cpos pins s σ H _ I h;rw [he] at p ⊢;refine Uz (cP p fun us s1 ⟨vs,H1,I1,rv,hl,q⟩=>⟨rfl,by rw [← rv.length]; exact hl,I1.bk _ _ c1,c2.keeps I1.bk,c4.keeps I1.bk,fun h' e m=>?_⟩);exact l _ _ (I1.HQ (t':=s1.toks) ow m q)
variable {P:Sd} {st:SJ}
theorem eQ.Qv {w:Sn} {mg:Rf→Option Q7} {base:SA} {CX:Eu} {x qual:Rf} {f:Q6} {fd:SM} {N ps:List Rf} {k:Nat} {sp:Sp} (F:eQ K x qual st f fd) (S:ba N ps (aI st)) (len:∀ vs H Q E,sp vs H Q E→vs.length=ps.length)
 (hb:∀ (cdv:Q7) (A:SG) (outer:List XX) (s:Rb) (H:Hp) (vs:List V) (Q:VK) (E:XK),fk k (A.deeper (W9 qual (aI st) ‹7› f cdv))→sp vs H Q E →
  ∃ t,wI (sZ CX P w K mg base N qual (aI st) f cdv A outer s H E) (eU st) t∧t { nx:=fun _ H'=>Q .non H',rt:=Q } (start N vs) H):bQ P w K mg base CX (k+1) f fd ps sp:=by
 obtain ⟨oc,od,kV,doc,pm,an,cdv,ct,osl,rfl,lk,hcd⟩:=F.ex;exact LH lk hcd S len fun A outer s H vs Q E hr hsp=>hb cdv A outer s H vs Q E hr hsp
def CZ (a C:Q6) (h:SA):Prop:=∃ o,h.get? a=some o∧o.cls=.ref C∧o.dict=none∧Y9 o=true
def uj (a C:Q6):HO:=.ext (CZ a C)
theorem Rec.exc {h:SA} {e T:Q6} {fl:Q7} (r:Rec h e T (.ref C) fl):CZ e C h:=by obtain ⟨oe,vs,_,_,⟨a1,a2,a3,a4⟩,_⟩:=r;exact ⟨oe,a1,a2,a3,by unfold Y9; rw [a4]⟩
theorem CZ.ok {w:Sn} {H:Hp} {h:SA} (x:CZ a C h):eF P w H h a (uj a C):=by obtain ⟨o,e,r⟩:=id x;exact ⟨x,⟨o,e⟩,fun h1 h2 ⟨o,e,r⟩ k=>⟨o,k o e,r⟩⟩
section
variable {X:Cx} {pins:List (Q6×TK)} {σ:St} {H:Hp} {s:Rb} {a:Q6} {u:HO}
theorem Inv.K0 (I:Inv X pins σ H s) (o:Out X pins H a) (ob:eF X.prog X.w (upd H a u) s.heap a u):Inv X pins σ (upd H a u) s:=by
 have ne:∀ b v,H b=some v→b≠a:=fun b v q z=>by rw [z,o.h] at q; cases q
 refine ⟨I.ok,I.os,I.bare,⟨I.base.keep,I.base.slot,fun b v q n hx=>?_,I.base.there,fun b xs q=>?_,fun b v xs q=>?_,fun b ps q=>?_⟩,I.loc,I.cell,?_,fun x c e=>?_,fun p hp=>?_,fun b v q=>?_,I.len⟩
 ·rw [a5 (fun z=>by rw [z,o.s0] at q; cases q)]; exact I.base.free b v q n hx
 ·have r:=I.base.u7 b xs q; rw [a5 (ne b _ r)]; exact r
 ·have r:=I.base.uh b v xs q; rw [a5 (ne b _ r)]; exact r
 ·obtain ⟨m,r⟩:=I.base.u9 b ps q; exact ⟨m,by rw [a5 (ne b _ r)]; exact r⟩
 ·rw [a5 (S6 o.loc)]; exact I.free
 ·rw [a5 (o.cell x c e)]; exact I.jh x c e
 ·obtain ⟨e,n,r⟩:=I.pin p hp;exact ⟨e,by rw [a5 (o.pin p hp)]; exact n,r⟩
 ·by_cases hb:b=a
  ·subst hb; rw [br] at q; cases q; exact ob
  ·rw [a5 hb] at q;exact (I.dm b v q).t7 (fun c y _ r=>r) (fun c r=>by rw [a5 (ne c _ r)]; exact r) (fun c xs r=>by rw [a5 (ne c _ r)]; exact r) fun c o u r=>by rw [a5 (ne c _ r)]; exact r
def Cx.marked (X:Cx) (e:Q7):Cx:={ X with A:=X.A.mark (some e),calm:=false }
theorem Inv.marked (I:Inv X pins σ H s) (e:Q7):Inv (X.marked e) pins σ H s :=
 ⟨⟨I.ok.mod,I.ok.kind,I.ok.glob,I.ok.blt,I.ok.above,I.ok.inj,I.ok.has,I.ok.cab,(fun z=>by cases z),I.ok.frames,I.ok.mY,I.ok.exf,I.ok.bs,I.ok.FR,I.ok.noex,I.ok.Iq,I.ok.sU,I.ok.LG⟩,I.os,I.bare,I.base,I.loc,I.cell,I.free,I.jh,I.pin,I.dm,I.len⟩
theorem Inv.unmarked {e:Q7} {xe:Q7→Rb→Prop} (ok:X.Ok) (I:Inv ((X.marked e).jR xe) pins σ H s):Inv X pins σ H s :=
 ⟨ok,I.os,I.bare,I.base,I.loc,I.cell,I.free,I.jh,I.pin,I.dm,I.len⟩
theorem Inv.unset {n:Rf} {i:Nat} {v:Option Q7} {m:Rf→Option Q7} (I:Inv X pins σ H s) (hi:X.N[i]?=some n) (ln:X.env.kindOf n=some .local) (hN:X.N.Nodup)
 (hm:s.heap.Ns ‹75› m) (hl:∀ (j:Nat) (x:Rf) (v:V),X.N[j]?=some x→σ[j]?=some (some v)→LO X.env.scope x→∃ u,RelV v u∧Look X.env s.heap m x u)
 (h1:h'.Ns ‹75› (fun x=>if x=n then v else m x)) (h2:Vd ‹75› s.heap h'):Inv X pins (σ.set i none) H { s with heap:=h',toks:=t' }:=by
 have k:∀ b o,b≠‹75›→s.heap.get? b=some o→h'.get? b=some o:=fun b o hb q=>(h2.2 b hb).trans q;have neL:∀ b o,X.s₀.heap.get? b=some o→b≠X.env.locals:=fun b o e=>RX (RC (Rm e) I.ok.above);have cellK:∀ x c,X.env.cells.lookup x=some c→∀ v,s.heap.IsCell c v→h'.IsCell c v:=fun x c e v ⟨o,ho,hd⟩=>⟨o,k c o (I.LN x c e) ho,hd⟩
 refine ⟨I.ok,I.os,I.bare,⟨fun b o e n hb hx=>k b o (neL b o e) (I.base.keep b o e n hb hx),fun b o e n hb hx=>?_,I.base.free,fun b o e hx=>?_,I.base.u7,I.base.uh,I.base.u9⟩,⟨_,h1,fun j x u e1 e2 e3=>?_⟩,fun x c e=>?_,I.free,I.jh,fun p hq=>?_,fun b u e=>?_,by rw [Su]; exact I.len⟩
 ·obtain ⟨sl,e1⟩:=I.base.slot b o e n hb hx;exact ⟨sl,k b _ (neL b o e) e1⟩
 ·obtain ⟨o',e1⟩:=I.base.there b o e hx;exact ⟨o',k b _ (neL b o e) e1⟩
 ·by_cases hj:i=j
  ·subst hj;rw [Wt] at e2;simp at e2
  ·rw [SH hj] at e2;obtain ⟨y,ry,l⟩:=hl j x u e1 e2 e3;refine ⟨y,ry,?_⟩;rcases l with ⟨l1,l2⟩ | ⟨q,c,e,z⟩
   ·refine .inl ⟨l1,?_⟩;show (if x=n then v else m x)=some y;rw [if_neg fun z=>hj (by subst z; exact vJ hN hi e1)];exact l2
   ·exact .inr ⟨q,c,e,cellK x c e _ z⟩
 ·obtain ⟨v,z⟩:=I.cell x c e;exact ⟨v,cellK x c e v z⟩
 ·obtain ⟨e,n,ne,r⟩:=I.pin p hq;exact ⟨k _ _ ne e,n,ne,r⟩
 ·refine (I.dm b u e).t7 (fun c y hc q=>k c y (fun z=>?_) q) (fun _ q=>q) fun _ _ q=>q;rcases hc with rfl | hc
  ·rw [z,I.free] at e; cases e
  ·rw [z,I.free] at hc; cases hc
end
theorem FC {prog:Sd} {w:Sn} {A:SG} {E:Q7→Rb→Prop} {Q:Option Q7→Rb→Prop} {s:Rb} {x:Q6} {ox:TK} (k:BO K C) (X:K.In s.heap) (I:XB s.heap x ox C none) (q:Q (some (.ref C)) { s with toks:=s.toks+1 }) :
 Rv ‹40› A (getAttr? (.ref x) "__class__") Q E s:=by
 obtain ⟨hh,g,d,t,os⟩:=s;have hf:YX K C none "__class__" = some (.bind (.builtin "getset_descriptor.__get__") (.builtin "object.__class__")):=by obtain ⟨cd,hc,_⟩:=Vq k.hd;unfold YX;rw [hc,Vv,k.ca,Vv];dsimp only;rw [k.sp,Vv];dsimp only;rw [k.tk,Vv]
 have L0:=I.type (M:=model prog w);have L1:=Ux (M:=model prog w) X k.ga;have L2:=Ux (M:=model prog w) X k.gk;have L3:=PySem.W.looks_find (M:=model prog w) X I hf;have L4:Um ‹40› hh (Za (.ref x) (.type "BaseException")) true:=L0.andThen (PySem.W.looks_mroIn (M:=model prog w) X k.QS);unfold getAttr? getAttrBy? getAttrBy;refine Rg (wpAny_mkText (Rg (wpAny_attempt (Td (Rg (L0.at (Rg (L1.at ?_))))))));dsimp only;have ne:(Zi "BaseException.__getattribute__" == Zi "object.__getattribute__")=false:=by decide +kernel
 rw [ne,SX,if_neg Rn];unfold getAttrByItsOwn hookBefore;rw [if_pos (show onTheHeap (RQ C)=true from rfl)];refine Rg (L2.at (Rg (wpAny_attempt (Td ?_))));show Rv _ _ (boundAndCalled _ _ _) _ _ _;unfold boundAndCalled;rw [WV.ga.bind (.ref x)];refine Rg (RM (Vs (XG WV.ga.plain PySem.F.entry_bexc_ga ?_)));have hk:builtinKind "BaseException.__getattribute__" = some .slot:=by decide +kernel
 have hs:splitId "BaseException.__getattribute__" = some ("BaseException", "__getattribute__"):=by decide +kernel
 have ha:=PySem.F.args_bexc_ga (.ref x) (.str "__class__" t);simp only [checkBuiltinCall,hk,hs];refine Rg (L4.at ?_);repeat (any_goals (first | assumption | wp_step))
 refine wpAny_loadPart_at I.at_ (RM ?_);rw [I.cls];refine Rg (L3.at ?_);dsimp only;unfold Ze;dsimp only;refine Rg (Td (Vs (PySem.W.class_get (ox:=ox) (od:=none) X I k.mro (RM ?_))));exact PySem.W.handed_on rfl (RM q)
theorem CZ.inst {h:SA} (x:CZ a C h):∃ ox,XB h a ox C none:=by obtain ⟨o,e,e1,e2,e3⟩:=x;exact ⟨o,e,e1,e3,by rw [e2]; trivial⟩
theorem Bi (k:BO K C):PySem.W.KitX K (.ref a) (.ref C) (CZ a C) where
 ty:=fun _ _ _ x=>let ⟨_,I⟩:=x.inst; I.type
 it:=fun M h X x=>by
  obtain ⟨cd,z,_⟩:=Vq k.hd;unfold Zj at z;split at z;case h_2=>cases z
  case h_1 ho =>intro A Q E s kk q;unfold isType loadHead;exact Rg (wpAny_loadPart (kk _ _ (X _ _ ho)) (RM q))
 ne:=fun h tp dd its m sl X htp=>by
  refine Uu.mpr fun q=>?_;cases Value.ref.inj (beq_iff_eq.mp q);obtain ⟨cd,z,_⟩:=Vq k.hd;unfold Zj at z;split at z;case h_2=>cases z
  case h_1 ho=>cases (X _ _ ho).symm.trans htp
 ca:=fun {prog w A E Q s} X x q=>by obtain ⟨ox,I⟩:=x.inst;exact FC k X I q
def Ov (K:Q2):List V→Hp→VK→Prop:=fun xs H Q=>∃ a C c u b,xs=[.ref a,c]∧H a=some (uj a C)∧BO K C∧RelV c u∧Uw K (.ref C) u=some b∧Q (.bl b) H
theorem lM (h:X.K=K):ma X (.builtin "isinstance") (Ov K):=by
 subst h;intro pins s σ H xs us Q I r h;obtain ⟨a,C,c,u,b,rfl,ea,k,rc,e,q⟩:=h;cases r with
 | cons r1 r =>
  cases r with
  | cons r2 r =>
   cases r;cases (show _=RQ a from r1)
   have hu:∀ {u':Q7},RelV c u'→Uw X.K (.ref C) u=some b→u'=u:=fun {u'} r' e=>by
    cases c with
    | ref d=>exact (show u'=RQ d from r').trans (show u=RQ d from rc).symm
    | ty d=>exact (show u'=X7 d from r').trans (show u=X7 d from rc).symm
    | non=>cases (show u=Vo from rc); cases e
    | bl b=>cases (show u=X6 b from rc); cases e
    | int i=>obtain ⟨t,z⟩:=(show ∃ t,u=WJ i t from rc); cases z; cases e
    | str i=>obtain ⟨t,z⟩:=(show ∃ t,u=Vn i t from rc); cases z; cases e
    | byt i=>obtain ⟨t,z⟩:=(show ∃ t,u=YN i t from rc); cases z; cases e
    | flt i=>obtain ⟨t,z⟩:=(show ∃ t,u=YO i t from rc); cases z; cases e
   rw [hu r2 e];obtain ⟨x,_,_⟩:=(show eF X.prog X.w H s.heap a (uj a C) from I.dm a _ ea)
   exact PySem.W.kia_one (Bi k) I.qw x e (fun z=>nomatch z) fun tk=>⟨.bl b,H,I.tok _,rfl,q⟩
noncomputable def Lr (K:Q2):List V→Hp→VK→Prop:=fun xs H Q=>∃ (a C tp:Q6) (cs:List Q6) (b:Bool),xs=[.ref a,.ref tp]∧H a=some (uj a C)∧BO K C∧H tp=some (.tup (cs.map V.ref))∧Wb K (.ref C) (cs.map RQ)=some b∧Q (.bl b) H
theorem FN (h:X.K=K):ma X (.builtin "isinstance") (Lr K):=by
 subst h;intro pins s σ H xs us Q I r h;obtain ⟨a,C,tp,cs,b,rfl,ea,k,et,e,q⟩:=h;cases r with
 | cons r1 r =>
  cases r with
  | cons r2 r =>
   cases r;cases (show _=RQ a from r1);cases (show _=RQ tp from r2);obtain ⟨x,_,_⟩:=(show eF X.prog X.w H s.heap a (uj a C) from I.dm a _ ea)
   obtain ⟨_,its,rv,⟨oc,od,dt,sl⟩,h1,h2,m,h3⟩:=(show eF X.prog X.w H s.heap tp (.tup (cs.map V.ref)) from I.dm tp _ et)
   have hi:∀ {cs:List Q6} {its:List Q7},Vals (cs.map V.ref) its→its=cs.map RQ:=by
    intro cs;induction cs with
    | nil=>intro its r; cases r; rfl
    | cons c cs ih=>intro its r; cases r with | cons r1 r=>cases (show _=RQ c from r1); rw [ih r]; rfl
   dsimp only at h2 h3;subst h2 h3;rw [hi rv] at h1;exact PySem.W.kia_tup (Bi k) I.qw x h1 e (fun z=>nomatch z) fun tk=>⟨.bl b,H,I.tok _,rfl,q⟩
def Pp:List TE→St→Hp→(Hp→Prop)→Prop
 | [],_,H,R=>R H
 | t::ts,σ,H,R=>t σ H fun x H1=>∃ i,x=.int i∧i.natAbs.log2<1920∧Pp ts σ H1 R
def Lc (ts:List TE):TE:=fun σ H Q=>Pp ts σ H fun H'=>∀ x,Q (.str x) H'
inductive dY (X:Cx):List Sv→List TE→Prop
 | nil:dY X [] []
 | text {x:Rf} {j p es ts} (hx:x.length≤1000) (h:dY X es ts):dY X (.Constant (.str x) j p::es) ts
 | val {e:Sv} {p es ts} {t:TE} (he:PE X e t) (h:dY X es ts):dY X (.FormattedValue e (-1) none p::es) (t::ts)
variable {es:List Sv} {ts:List TE}
theorem OR (h:dY X es ts):∀ (out:Rf) (pins:List (Q6×TK)) (s:Rb) (σ:St) (H:Hp) (Q:VK),out.length+2000*es.length≤Q4→Inv X pins σ H s→Pp ts σ H (fun H'=>∀ x,Q (.str x) H') →
 Rv ‹3› X.A (joinParts out (evalEach es X.env)) ‹85› X.xe s:=by
 induction h with
 | nil =>intro out pins s σ H Q hl I q;exact WE ⟨.str out,H,I.tok _,⟨_,rfl⟩,q out⟩ (by simpa using hl)
 | @text x j p es ts hx h ih =>
  intro out pins s σ H Q hl I q;rw [Rt] at hl;refine TX (Uh ⟨?_,ih _ _ _ σ H Q ?_ (I.tok _) q⟩)
  ·rw [RJ]; lia
  ·rw [RJ]; lia
 | @val e p es ts t he h ih =>
  intro out pins s σ H Q hl I q;rw [Rt] at hl;refine TX (XH (cP (he pins s σ H _ I q) fun u s1 ⟨x,H1,I1,r1,i,hx,hi,q1⟩=>?_));subst hx;obtain ⟨tk,rfl⟩:=r1;have e:=int_text_length_le (k:=1920) ‹6› hi;have e2:(Vk (toString i)).length≤1921:=by rw [PySem.ofString_length]; exact e
  refine formatField_int_small hi ⟨?_,ih _ _ _ σ H1 Q ?_ (I1.tok _) q1⟩
  ·show (out++Vk (toString i)).length≤Q4;rw [RJ]; lia
  ·show (out++Vk (toString i)).length+_≤Q4;rw [RJ]; lia
theorem uE {a b:Sv} {pos:VJ} (h:dY X (a::b::es) ts) (hl:es.length≤1000:=by decide):PE X (.JoinedStr (a::b::es) pos) (Lc ts):=fun pins s σ H Q I q =>Wc (OR h WI pins s σ H Q (by have hz:Q4=16777216:=Rw;have e:(WI).length=0:=rfl;rw [e,hz,Rt,Rt]; lia) I q)
theorem xx:S3 "ValueError" = some (.type "ValueError"):=by decide +kernel
def Jq (t u:TS):TS:=fun D σ H=>t D σ H∨u D σ H
theorem rG {t u:TS} (h1:PS X st t) (h2:PS X st u):PS X st (Jq t u):=fun pins s σ H D I h=>h.elim (h1 pins s σ H D I) (h2 pins s σ H D I)
end L2
namespace VL
variable {x:DE} {s:DS} {ms:List Bool} {F:List D→Option D} {t:TA} {es:aU→Option (List D)} {ρ:aU} {H:Hp} {d:D} {ts:List TE} {as:List DE} {W:Wk}
open PySem L2
section
open Classical
section
variable [cu] {K:Q2}
def wK (K:Q2) (ms:List Bool) (C:Q6) (F:List D→Option D):Sp:=fun vs H _ E=>∃ (Z:Q6→Prop) (ds:List D) (d:D),ZT Z H∧Args K H Z ms vs ds∧F ds=some d∧∀ H',bu H H'→E (.ref C) none H'
theorem eQ.D1 {P:Sd} {w:Sn} {mg:Rf→Option Q7} {base:SA} {x qual:Rf} {st:SJ} {f C:Q6} {fd:SM} {N ps:List Rf} {k:Nat} (F:eQ K x qual st f fd) (S:ba N ps (aI st)) (ms:List Bool) (hms:ms.length=ps.length) (b:DS)
 (hbody:∀ (cdv:Q7) (A:SG) (outer:List XX) (s:Rb) (H:Hp) (E:XK),fk k ‹110› →
  ∃ t,wI (sZ (nQ P w) P w K mg base N qual (aI st) f cdv A outer s H E) (eU st) t∧de (.x E C) K t b):bQ P w K mg base (nQ P w) (k+1) f fd ps (wK K ms C (eG N.length ms b)):=by
 refine F.Qv S (fun vs H Q E h=>?_) ‹91›
 ·obtain ⟨Z,ds,d,hz,a,_⟩:=h;rw [a.len.1,hms]
 ·obtain ⟨Z,ds,d,hz,a,e,k⟩:=h;obtain ⟨t,h1,h2⟩:=hbody cdv A outer s H E hr;refine ⟨t,h1,h2 (qY hz a) ?_⟩;unfold eG at e;split at e
  ·rename_i d' e1;cases e;rw [e1];exact k
  ·cases e
variable {E:XK} {C:Q6}
@[irreducible] def sX (x:DE):DS:=fun ρ=>match x ρ with
 | some d=>.rt d
 | none=>.no
@[irreducible] def xk (x:DE) (s:DS):DS:=fun ρ=>match x ρ with
 | some d=>.rt d
 | none=>s ρ
theorem GA {t u:TS} (h1:de (.x E C) K t (sX x)) (h2:de (.x E C) K u s):de (.x E C) K (Jq t u) (xk x s):=fun {B Z os ρ σ H En} f p=>by
 unfold xk at p;cases e:x ρ with
 | none=>rw [e] at p; exact .inr (h2 f p)
 | some d =>rw [e] at p;refine .inl (h1 f ?_);unfold sX;rw [e];exact p
theorem uw (ha:mT K ms t es) {B:Hp} {Z:Q6→Prop} {os:Own} {σ:L2.St} (f:Fr K B Z os ρ σ H) (q:aJ F es ρ=some d) (p:∀ H',bu B H'→E (.ref C) none H') (Q:VK) :
 nS (wK K ms C F) [] E t σ H Q:=by
 unfold aJ at q;split at q
 ·rename_i ds e;refine ha f e fun vs H1 s1 a=>?_;show wK K ms C F (vs++[]) H1 Q E;rw [Ss];exact ⟨cE Z os,ds,d,‹70›.zt,a,q,fun H2 s2=>p H2 (f.keep.trans ‹48›)⟩
 ·cases q
theorem yX {g:TG} (ha:mT K ms t es):de (.x E C) K (sF (nS (wK K ms C F) [] E t) g) (sX (aJ F es)):=fun {B Z os ρ σ H En} f p=>by
 unfold sX at p;split at p
 ·rename_i d e; exact uw ha f e p _
 ·show 12
theorem Js (ha:mT K ms t es):de (.x E C) K (sE (nS (wK K ms C F) [] E t)) (sX (aJ F es)):=fun {B Z os ρ σ H En} f p=>by
 unfold sX at p;split at p
 ·rename_i d e; exact uw ha f e p _
 ·show 12
def xt:List DE→aU→Bool
 | [],_=>true
 | a::as,ρ=>match a ρ with
  | some (.int i)=>decide (i.natAbs.log2<1920)&&xt as ρ
  | _=>false
inductive sg (K:Q2):List TE→List DE→Prop
 | nil:sg K [] []
 | cons {t ts a as} (h:bD K t a) (r:sg K ts as):sg K (t::ts) (a::as)
theorem PQ (h:sg K ts as):∀ {B:Hp} {Z:Q6→Prop} {os:Own} {ρ:aU} {σ:L2.St} {H:Hp} {R:Hp→Prop},Fr K B Z os ρ σ H→xt as ρ=true→(∀ H',bu H H'→R H')→Pp ts σ H R:=by
 induction h with
 | nil=>intro B Z os ρ σ H R f _ k; exact k H (bu.refl _)
 | @cons t ts a as h r ih =>
  intro B Z os ρ σ H R f q k;unfold xt at q;split at q
  ·rename_i i e;rw [RS] at q;exact h f e fun v H1 s1 i1=>⟨i,i1.isInt,of_decide_eq_true q.1,ih ‹70› q.2 fun H' s2=>k H' ‹48›⟩
  ·cases q
@[irreducible] def jW (as:List DE):DS:=fun ρ=>if xt as ρ=true then .rt .non else .no
theorem oW (h:sg K ts as):de (.x E C) K (va C E (cF (Lc ts) fA)) (jW as):=fun {B Z os ρ σ H En} f p=>by
 unfold jW at p;split at p
 ·rename_i q;exact PQ h f q fun H1 s1 x=>⟨by have:=Rw; show 1≤Q4; lia,p H1 (f.keep.trans s1)⟩
 ·show 12
theorem EH {x:Rf}:de (.x E C) K (va C E (cF (tC (.str x)) fA)) (jW []):=fun {B Z os ρ σ H En} f p=>by unfold jW at p;rw [if_pos (show xt [] ρ=true from rfl)] at p;exact ⟨by have:=Rw; show 1≤Q4; lia,p H f.keep⟩
theorem Ap (h:x ρ=some d) (k:W.rt d):Wp (sX x) ρ W:=by unfold Wp sX; rw [h]; exact k
theorem yA (h:x ρ=some d) (k:W.rt d):Wp (xk x s) ρ W:=by unfold Wp xk; rw [h]; exact k
theorem yz (h:x ρ=none) (k:Wp s ρ W):Wp (xk x s) ρ W:=by unfold Wp at *;unfold xk;rw [h];exact k
theorem wp_raise (h:xt as ρ=true) (k:W.rt .non):Wp (jW as) ρ W:=by unfold Wp jW; rw [if_pos h]; exact k
theorem zY:xt [] ρ=true:=rfl
theorem fmt_cons {a:DE} {i:Int} (h:a ρ=some (.int i)) (hi:i.natAbs.log2<1920) (r:xt as ρ=true):xt (a::as) ρ=true:=by unfold xt;rw [h];simp [hi,r]
theorem cx {a:Q6} {o:HO} (h:H a=none):bu H (upd H a o):=fun b u e=>by rw [a5 (bT e h)]; exact e
def XE (iv:Nat) (C:Q6) (t:TE) (b:Bool):Prop:=∀ {σ:L2.St} {H:Hp} {a:Q6} {Q:VK},σ[iv]?=some (some (.ref a))→H a=some (uj a C)→(∀ H',bu H H'→Q (.bl b) H')→t σ H Q
def XT (iv:Nat) (C:Q6) (t:TT) (b:Bool):Prop:=∀ {σ:L2.St} {H:Hp} {a:Q6} {Q:Bool→Hp→Prop},σ[iv]?=some (some (.ref a))→H a=some (uj a C)→(∀ H',bu H H'→Q b H')→t σ H Q
variable {iv ie:Nat}
theorem dW {c:V} {u:Q7} {b:Bool} (k:BO K C) (r:RelV c u) (e:Uw K (.ref C) u=some b):XE iv C (Dv (Ov K) (cF (i8 iv) (cF (tC c) fA))) b:=fun {σ H a Q} s h q =>⟨.ref a,s,a,C,c,u,b,rfl,h,k,r,e,q H (bu.refl _)⟩
theorem uW {t:TE} {b:Bool} (h:XE iv C t b):XT iv C (fun σ H Q=>t σ H fun x H'=>∃ k,C9 K x H' k∧Q k H') b:=fun s e q=>h s e fun H' s'=>⟨b,rfl,q H' s'⟩
end
end
end VL
namespace Pc
open PySem PySem.W PyProof.Rows
section
variable {lt:Nat→Nat→Bool} {N:Nat}
structure Ord (lt:Nat→Nat→Bool):Prop where
 tr:∀ a b c,lt b a=false→lt c b=false→lt c a=false
 as:∀ a b,lt a b=true→lt b a=false
abbrev g (p:Array Nat) (i:Nat):Nat:=p.getD i 0
def Up (lt:Nat→Nat→Bool) (p:Array Nat) (k:Nat):Prop:=∀ i j,i≤j→j<k→lt (g p j) (g p i)=false
end
end Pc
namespace L2
open PySem PySem.Spec PyProof.Rows
section
variable {X:Cx} {pins:List (Q6×TK)} {σ:St} {H:Hp} {s:Rb}
theorem Inv.HI {h':SA} {D:Q6} {o:TK} {u:HO} {m:Rf→Option Q7} {t':Nat} (I:Inv X pins σ H s) (hx:X.ex=[]) (F:Fr X.base ‹75› s.heap m) (F':Fr X.base ‹75› h' m)
 (N':News X.base ‹75› h' ((D,o)::r8 X.base s.heap ‹75›)) (hD:s.heap.get? D=none) (new:eF X.prog X.w (upd H D u) h' D u):Inv X pins σ (upd H D u) { s with heap:=h',toks:=t' }:=by
 have keep:∀ b v,b≠‹75›→s.heap.get? b=some v→h'.get? b=some v:=fun b v hb q=>by
  cases e:X.base.get? b with
  | some y =>have e1:=F.keep b y e;rw [q] at e1;cases e1;exact F'.keep b v e
  | none=>exact (N' (b,v) (Ra _ (Bf hb e q))).1
 obtain ⟨oL,es,ep,hL,rL⟩:=F.ns;have nL:∀ b w,H b=some w→b≠X.env.locals:=fun b w q z=>by rw [z,I.free] at q; cases q
 have I1:Inv X pins σ H { s with heap:=h',gens:=s.gens,drawn:=s.drawn,toks:=t' }:=by
  refine I.step (ch:=[]) (fun _ z=>nomatch z) (fun b v h1 _ _ q _=>keep b v h1 q) (fun b v h1 _ _ q _=>⟨v.slots,keep b v h1 q⟩) (fun _ _ _ _ n=>n) (fun b v _ q=>?_) (fun _ _ q=>q) (fun _ _ _ q=>q) (fun b ps q=>⟨#[],by rw [q]; simp⟩) (fun m' hm=>?_) (fun b w q=>?_) I.bare
  ·by_cases hb:b=‹75›
   ·subst hb;obtain ⟨o2,_,_,h2,_⟩:=F'.ns;exact ⟨o2,h2⟩
   ·exact ⟨v,keep b v hb q⟩
  ·have e1:=hm.eq_nsMap;have e2:=F.ns.eq_nsMap;rw [e1,← e2];exact F'.ns
  ·refine (I.dm b w q).t7 (fun c y hc r=>keep c y ?_ r) (fun _ r=>r) fun _ _ r=>r;rcases hc with rfl | hc
   ·exact nL _ _ q
   ·exact nL _ _ hc
 exact I1.K0 (I.out hx hD) new
end
section
variable {M:Zk} {A:SG} {E:Q7→Rb→Prop} {s:Rb} {base:SA} {env:XX} {outer:List XX} {L e T:Q6} {cls fl:Q7} {Q:Unit→Rb→Prop}
theorem HC (h1:A.frames=some (env::outer)) (h2:s.heap.FunFrames base (env::outer)) (h3:env.frame=some L) (r:Rec s.heap e T cls fl) (hf:(fl==Vp L)=false)
 (q:∀ h' T',s.heap.get? T'=none→Rec h' e T' cls (Vp L)→BN (ui (env::outer)) [T,e] s.heap h'→Q () { s with heap:=h' }):Rv M A (TC (.ref e) env) Q E s:=by
 obtain ⟨oe,vs,oT,ts,⟨a1,a2,a3,a4⟩,b1,ne,b2,b3,b4⟩:=r;subst a2;unfold TC;simp only [h3];refine Rg (Ue a1 a4 b1 ?_);rw [if_pos (by simp)];refine Rg (Ue b2 b3 b4 ?_);rw [hf,if_neg Rn];refine Rg (Wa b2 b3 (Sm.mp b4).1 ?_);have other:∀ b,b≠T→∀ x:TK→TK,(s.heap.update T x).get? b=s.heap.get? b:=fun b hb x=>Si _ _ (S6 hb);refine qC h1 (h2.of_keeps fun b o hb hn=>⟨o,?_,rfl⟩) h3 ((other e (S6 ne) _).trans a1) a4 (Sm.mp b1).1 a3 fun h' T' n1 r1 hp=>q h' T' ?_ r1 ?_
 ·rw [other b (fun z=>by rw [z,b2] at hb; cases hb; exact hn ts b3)]; exact hb
 ·by_cases z:T'=T
  ·rw [z] at n1;rw [Tt _ b2 (T1 (Uj b3 _))] at n1;cases n1
  ·rw [other T' z] at n1; exact n1
 ·exact (BN.upd (fr:=ui (env::outer)) _).trans hp
theorem Ff (h3:env.frame=some L) (r:Rec s.heap e T cls fl) (hf:(fl==Vp L)=true) (q:Q () s):Rv M A (TC (.ref e) env) Q E s:=by obtain ⟨oe,vs,oT,ts,⟨a1,a2,a3,a4⟩,b1,ne,b2,b3,b4⟩:=r;unfold TC;simp only [h3];refine Rg (Ue a1 a4 b1 ?_);rw [if_pos (by simp)];refine Rg (Ue b2 b3 b4 ?_);rw [hf,if_pos rfl];exact RM q
theorem Nq {what:String} {cenv:XX} {α:Type} {P:α→Rb→Prop} (r:Rec s.heap e T cls fl) (q:∀ h' fl',Rec h' e T cls fl'→BN (ui (env::outer)) [T] s.heap h'→E (.ref e) { s with heap:=h' }):Rv M A (Zn what (.ref e) cenv:Sem α) P E s:=by obtain ⟨oe,vs,oT,ts,⟨a1,a2,a3,a4⟩,b1,ne,b2,b3,b4⟩:=r;unfold Zn;refine Rg (Ue a1 a4 b1 ?_);rw [if_neg (by simp)];refine Rg ?_;unfold VZ;refine Rg (Ue a1 a4 b1 ?_);rw [if_pos (by simp)];refine Wa b2 b3 (Sm.mp b4).1 ?_;refine wpAny_throw (q _ (cenv.frame.elim .none fun f=>Vp f) ?_ (BN.upd _));have d:=Uj b3 (·.setIfInBounds 3 (cenv.frame.elim Vo fun f=>Vp f));exact ⟨oe,vs,_,_,⟨(Si _ _ ne).trans a1,a2,a3,a4⟩,b1,ne,Tt _ b2 (T1 d),d,by simp [(Sm.mp b4).1]⟩
end
section
variable {X:Cx} {pins:List (Q6×TK)} {σ:St} {H:Hp} {s s':Rb} {E:XK} {e:Q7}
theorem Inv.HR {a T:Q6} {cls fl:Q7} {Ex:Q7→Rb→Prop} (I:Inv X pins σ H s) (ow:Ak X) (r:Rec s.heap a T cls fl) (o1:Out X pins H a) (o2:Out X pins H T) (q:E cls none H) :
 Rv ‹3› X.A (leaving X.env (.ref a)) ‹74› Ex s:=by
 have fin:∀ {h1:SA} {T':Q6} {fl':Q7},Inv X pins σ H { s with heap:=h1,toks:=s.toks }→Rec h1 a T' cls fl'→Out X pins H T'→Rv ‹3› X.A (VZ (.ref a) none) ‹74› Ex { s with heap:=h1 }:=fun {h1 T' fl'} I1 r1 o3=>by
  show 7
  have u:=I2.base;rw [ow.ex] at u;exact ⟨a,cls,H,rfl,I2.os,I2.bare,u,I2.dm,⟨T',r2,⟨o1.h,o1.s0⟩,o3.h,o3.s0⟩,q⟩
 unfold leaving;cases hf:(fl==Vp ‹75›) with
 | true=>exact Rg (Ff ow.fr r hf (fin I r o2))
 | false =>
  refine Rg (HC (base:=X.base) (outer:=X.outer) (by rw [← ow.mY]; exact I.ok.frames) (by rw [← ow.mY]; exact I.stack) ow.fr r hf fun h1 T' n1 r1 p1=>?_);have o3:=I.out ow.ex n1;rw [← ow.mY] at p1;refine fin (I.D9 p1 fun b hb=>?_) r1 o3;rcases Ri.mp hb with rfl | hb
  ·exact o2
  ·rw [Q3.mp hb]; exact o1
end
section
variable {prog:Sd} {w:Sn} {A:SG} {R:YC→Rb→Prop} {s:Rb}
theorem xw {elt target iter:Sv} {scope:Va} {pos:VJ} {it acc:Q7} {env:XX} (I:Nat→Rb→Prop)
 (turn:∀ n s,I n s→Rv ‹40› A (Zl it) (fun r s₁=>match r with
  | none=>R (.ok .next) s₁
  | some v=>Rv ‹40› A (UX target it v) (fun _ s₀=>Rv ‹40› A (assign target env v) (fun _ s₂ =>Rv ‹40› A (eval elt env) (fun x s₄ =>Rv ‹40› A (call (.builtin "list.append") [acc,x]) (fun _ s₅=>∃ m,m<n∧I m s₅) ‹113› s₄) ‹113› s₂) ‹113› s₀) ‹113› s₁) ‹113› s)
 (n:Nat) (h:I n s) :
 UG ‹40› A (.compLoop (.ListComp elt [⟨target,iter,[],0⟩] scope pos) 0 it acc env) R s:=by
 refine codeAny_loop rfl I (fun n s hI=>?_) n h;show Rv _ A ((compTurn (.ListComp elt [⟨target,iter,[],0⟩] scope pos) 0 it acc env).onRaise (fun x=>do TC x env; theTreesLotGoes x)) _ _ s;refine wpAny_noted ?_;rw [compTurn_list];refine Rg (Vy (Rg (SN (turn n s hI) (fun r s₁ h₁=>?_) fun _ _ h'=>h')));cases r with
 | none=>exact RM h₁
 | some v =>refine Rg (SN h₁ (fun _ s₀ h₀=>?_) fun _ _ h'=>h');refine Rg (SN h₀ (fun _ s₂ h₂=>Rg (wpAny_tests_nil ?_)) fun _ _ h'=>h');exact Rg (Rg (SN h₂ (fun x s₄ h₄=>Rg (SN h₄ (fun _ s₅ h₅=>RM (RM ⟨rfl,h₅⟩)) fun _ _ h'=>h')) fun _ _ h'=>h'))
end
theorem Rec.keep {h h':SA} {e T:Q6} {cls fl:Q7} (r:Rec h e T cls fl) (k:∀ b o,(b=e∨b=T)→h.get? b=some o→h'.get? b=some o):Rec h' e T cls fl:=by obtain ⟨oe,vs,oT,ts,⟨a1,a2,a3,a4⟩,b1,ne,b2,b3,b4⟩:=r;exact ⟨oe,vs,oT,ts,⟨k _ _ (.inl rfl) a1,a2,a3,a4⟩,b1,ne,k _ _ (.inr rfl) b2,b3,b4⟩
noncomputable def dS (X:Cx) (N':List Rf) (scope:Va) (cl:List (Rf×Q6)) (C:Q6) (s3:Rb) (H3:Hp) (fp:List Q6) (pins:List (Q6×TK)) (xe:Q7→Rb→Prop):Cx :=
 { X with N:=N',s₀:=s3,H₀:=H3,env:=TV scope cl C X.env,outer:=X.stack,stack:=X.stack,ex:=fp,fn:=fun _=>false,pn:=X.pn++pins,xe:=xe }
variable {pins:List (Q6×TK)} {fp:List Q6}
noncomputable def IJ (J:It) (g:TG) (te:TE) (σ0:St) (H1:Hp) (Q:VK):Prop:=∀ D,H1 D=none→∃ W:Nat→Nat→List V→Hp→Prop,(∃ m,W 0 m [] (upd H1 D (.lst []))) ∧
 ∀ i m ys H,W i m ys H→(J.stop i H∧H D=some (.lst ys)∧Q (.ref D) H) ∨
  (J.go i H∧∀ x H',J.NR i H x H'→g x σ0 H' fun σ2 H2=>te σ2 H2 fun v H4=>H4 D=some (.lst ys)∧ys.length<Q4∧∃ m',m'<m∧W (i+1) m' (ys++[v]) (upd H4 D (.lst (ys++[v]))))
section
variable {X:Cx} {tg elt iter:Sv} {scope:Va} {cl:List (Rf×Q6)} {N':List Rf} {σ0:St→St} {g:TG} {te:TE} {E:XK}
theorem BG {pos:VJ} {σ:St} {H1:Hp} {s2:Rb} {it:Q6} {tn:Nat→SA→Prop} {J:It} {Q:VK}
 (ow:Ak X) (lk:iH X E) (hc:X.calm=true) (hcell:∀ y∈scope.names,y.2≠.cell) (hkind:scope.kind=.function)
 (I:Inv X pins σ H1 s2) (T:Turn X.prog X.w X.K tg J fp it tn) (st:tn 0 s2.heap) (hfp:∀ b∈fp,xC X pins H1 b) (fr:Es X N' scope cl σ (σ0 σ)) (hk:BM g (σ0 σ))
 (hg:∀ C s3 H3 fp pins xe,PG (dS X N' scope cl C s3 H3 fp pins xe) tg g)
 (he:∀ C s3 H3 fp pins xe,Passes (nQ X.prog X.w) (dS X N' scope cl C s3 H3 fp pins xe) E→PE (dS X N' scope cl C s3 H3 fp pins xe) elt te) (hw:IJ J g te (σ0 σ) H1 Q) :
 Rv ‹3› X.A (newList []) (fun acc s₃=>Rv ‹3› X.A (V8 scope X.env.globals cl [] X.env.qual none .none (some X.env)) (fun cenv s₄ =>UG ‹3› X.A (.compStart ‹61› 0 (.ref it) acc { cenv with scope:=relabel scope X.env }) (XF ‹3› X.A X.xe none ‹85› acc cenv.locals) s₄) X.xe s₃) X.xe s2:=by
 refine Vj (hd:=by size_fits) (wpAny_newFunctionEnv hcell (by intro y hy; simp at hy) (fun h₁ hns₁ hsb₁=>?_) hkind);dsimp only at hns₁ hsb₁ ⊢;have I3:Inv X pins σ (upd H1 ‹57› (.lst [])) { s2 with heap:=s2.heap.push { cls:=.type "list", dict:=none,data:=.seq ([]:List Q7).toArray } }:=I.Kf (t':=s2.toks) (its:=[]) (ys:=[]) .nil (Th _);obtain ⟨W,⟨m0,w0⟩,turn⟩:=hw ‹57› I.fresh;have hfpo:=T.obj 0 _ st;have fpl:∀ b∈fp,b<s2.heap.objs.size:=fun b hb=>by obtain ⟨o,e,_⟩:=hfpo b hb;exact Rm e
 have fD:∀ b∈fp,upd H1 ‹57› (.lst []) b=none:=fun b hb=>by rw [a5 (RX (fpl b hb))];exact (hfp b hb).1
 show 4
 have st3:tn 0 s3.heap:=T.keep _ _ _ st fun b hb o e=>by rw [es3]; exact Rk _ e
 rw [← es3] at hns₁ hsb₁ ⊢;have sz3:‹57›<s3.heap.objs.size:=by rw [es3,Tj]; exact SO _
 generalize upd H1 ‹57› (.lst [])=H3 at I3 fD w0;have old:∀ b o,s3.heap.get? b=some o→h₁.get? b=some o:=fun b o e=>hsb₁.extBut b o (RX (Rm e)) (Rk _ e);have fpl3:∀ b∈fp,b<s3.heap.objs.size:=fun b hb=>S5 (fpl b hb) sz3
 have mY:∀ b∈fp,b∉ui X.stack:=fun b hb z=>by
  rcases Ri.mp (I3.qc b z) with e | e
  ·exact (hfp b hb).2.1 e
  ·exact (hfp b hb).2.2.1 e
 have NS:‹75›<s3.heap.objs.size:=I3.lt;have cC:∀ x c,X.env.cells.lookup x=some c→c≠s3.heap.objs.size:=fun x c e z=>by obtain ⟨v,o,ho,_⟩:=I3.cell x c e;exact absurd (Rm ho) (by rw [z]; exact Sg _)
 have pC:∀ p∈X.pn++pins,p.1≠s3.heap.objs.size:=fun p hp z=>by have e:=(I3.pin p hp).1;exact absurd (Rm e) (by rw [z]; exact Sg _)
 have xeC:Passes (nQ X.prog X.w) (dS X N' scope cl ‹29› s3 H3 fp pins (XW ‹3› X.A (TV scope cl ‹29› X.env) fun e s'=>XF ‹3› X.A X.xe none ‹85› (.ref ‹57›) ‹29› (.error e) s')) E:=by
  intro pl σ' H s e s' Ii h;have J0:Inv X pins σ H s:=I3.yq Ii.os Ii.base Ii.dm Ii.bare fun b hb=>⟨(hfp b hb).2.2.2.1,(hfp b hb).2.1,(hfp b hb).2.2.2.2.1,(hfp b hb).2.2.2.2.2⟩
  have Cs:∃ o,s.heap.get? ‹29›=some o:=by obtain ⟨m,⟨o,es,ep,ho,_⟩,_⟩:=Ii.loc;exact ⟨o,ho⟩
  obtain ⟨a,cls,H',rfl,ho,hb,u,dm,⟨T',r,⟨a1,a2⟩,b1,b2⟩,q⟩:=h;have Ij:=Ii.yq ho u dm hb (fun b z=>absurd z (by simp));have J1:Inv X pins σ H' s':=J0.yq ho u dm hb (fun b z=>absurd z (by simp));have o1:=(J0.out ow.ex a2).weak a1;have o2:=(J0.out ow.ex b2).weak b1;obtain ⟨m,⟨oC,es,ep,hoC,rC⟩,_⟩:=Ij.loc;have hCH:H' ‹29›=none:=Ij.free;have neA:‹29›≠a:=fun z=>by obtain ⟨o,e⟩:=Cs; rw [z,a2] at e; cases e
  have neT:‹29›≠T':=fun z=>by obtain ⟨o,e⟩:=Cs; rw [z,b2] at e; cases e
  show Rv _ _ (TC (.ref a) X.env) _ _ s';refine o6 (base:=X.base) (outer:=X.outer) (by rw [← ow.mY]; exact J1.ok.frames) (by rw [← ow.mY]; exact J1.stack) ow.fr r fun h1 T2 n1 r1 p1=>?_;rw [← ow.mY] at p1;have o3:=J1.out ow.ex n1;have neT2:‹29›≠T2:=fun z=>by rw [← z] at n1; have hoC:s'.heap.get? ‹29›=some oC:=hoC; rw [hoC] at n1; cases n1
  have J2:Inv X pins σ H' { s' with heap:=h1,toks:=s'.toks }:=J1.D9 p1 fun b hb=>by
   rcases Ri.mp hb with rfl | hb
   ·exact o2
   ·rw [Q3.mp hb]; exact o1
  obtain ⟨sl,hoC1⟩:=p1.slot ‹29› oC (fun z=>by
   rcases Ri.mp z with z | z
   ·exact neT z
   ·exact neA (Q3.mp z)) hoC
  refine ⟨m,⟨_,es,ep,hoC1,rC⟩,fun h2 sb cenv _=>?_⟩;have J3:Inv X pins σ H' { s' with heap:=h2,toks:=s'.toks }:=J2.turned (t':=s'.toks) (fun b o hb e=>sb.extBut b o hb e) hCH (UE NS) (.inr I3.sz) cC pC
  have r2:Rec h2 a T2 cls (Vp ‹75›):=r1.keep fun b o hb e=>sb.extBut b o (by
   rcases hb with rfl | rfl
   ·exact S6 neA
   ·exact S6 neT2) e
  refine Nq (env:=X.env) (outer:=X.outer) (s:={ s' with heap:=h2 }) r2 fun h3 fl' r3 p3=>?_;rw [← ow.mY] at p3;have J4:Inv X pins σ H' { s' with heap:=h3,toks:=s'.toks }:=J3.D9 p3 fun b hb=>by rw [Q3.mp hb]; exact o3
  exact lk _ _ (J4.HR ow r3 o1 o3 q)
 generalize hxe:(XW ‹3› X.A (TV scope cl ‹29› X.env) fun e s'=>XF ‹3› X.A X.xe none ‹85› (.ref ‹57›) ‹29› (.error e) s')=xe at xeC
 have ok:‹102›.Ok:=by
  refine ⟨I3.ok.mod,hkind,I3.ok.glob,I3.ok.blt,Rq _,fun x y c h1 h2=>I3.ok.inj x y c (fr.sub x c h1) (fr.sub y c h2),fun x h=>fr.has x h,fun x c h _=>(by cases h),I3.ok.hd,I3.ok.frames,.inl rfl,
   fun b hb=>⟨RX (fpl3 b hb),fun x c e=>(hfp b hb).2.2.2.2.1 x c (fr.sub x c e)⟩,I3.bs,RE I3.ok.FR I3.sz,fun b o e hb=>?_,fun b hb=>mY b hb,I3.stack,I3.ux⟩
  rcases (hfp b hb).2.2.2.1 with z | z
  ·exact I3.ok.noex b o e z
  ·have l1:b<X.base.objs.size:=Rm e;have l2:X.base.objs.size≤X.s₀.heap.objs.size:=I3.ok.FR;have l3:‹78›≤b:=z;exact absurd (RC l1 (RE l2 l3)) (Sg _)
 have start:Inv ‹102› [] (σ0 σ) H3 { s3 with heap:=h₁ }:=by
  refine ⟨ok,rfl,I3.bare,Un.kept old,⟨_,hns₁,fun j x v e1 e2 _=>?_⟩,fun x c e=>?_,I3.dm.fresh (Rq _),fun x c e=>I3.jh x c (fr.sub x c e),fun p hp=>?_,I3.dm.kept old,fr.len⟩
  ·obtain ⟨i,c,q1,q2,q3,q4,q5,q6⟩:=fr.vals j x v e1 e2;obtain ⟨m,hn,hl⟩:=I3.loc;obtain ⟨u,r,l⟩:=hl i x v q1 q2 q3;refine ⟨u,r,.inr ⟨q6,c,q5,?_⟩⟩;rcases l with ⟨k,_⟩ | ⟨_,c',e',z⟩
   ·exact absurd k q4
   ·rw [fr.sub x c q5] at e';cases e';obtain ⟨o,ho,hd⟩:=z;exact ⟨o,old _ _ ho,hd⟩
  ·obtain ⟨v,o,ho,hd⟩:=I3.cell x c (fr.sub x c e);exact ⟨v,o,old _ _ ho,hd⟩
  ·have hp':p∈X.pn++pins:=by simpa [dS] using hp
   obtain ⟨e,n,ne,nf,d⟩:=I3.pin p hp';refine ⟨old _ _ e,n,RX (Rm e),fun z=>?_,d⟩;rcases Ri.mp (I3.qc p.1 z) with q | q
   ·exact ne q
   ·exact nf q
 have hst₁:tn 0 h₁:=T.keep _ _ _ st3 fun b _ o e=>old b o e;have fpok:∀ {H':Hp},(∀ b∈fp,H' b=none)→∀ b∈fp,xC ‹102› [] H' b:=fun {H'} hn b hb =>⟨hn b hb,RX (fpl3 b hb),mY b hb,.inl hb,fun x c e=>(hfp b hb).2.2.2.2.1 x c (fr.sub x c e),fun p hp=>(hfp b hb).2.2.2.2.2 p (by simpa [dS] using hp)⟩
 have loop:UG ‹3› X.A (.compLoop ‹61› 0 (.ref it) (.ref ‹57›) (TV scope cl ‹29› X.env)) (XF ‹3› X.A X.xe none ‹85› (.ref ‹57›) ‹29›) { s3 with heap:=h₁ }:=by
  refine xw (fun n s'=>∃ i ys H',Inv ‹102› [] (σ0 σ) H' s'∧tn i s'.heap∧(∀ b∈fp,H' b=none)∧W i n ys H') ?_ m0 ⟨0,[],H3,start,hst₁,fD,w0⟩;rw [hxe];rintro n s4 ⟨i,ys,H4,I4,st4,fr4,w4⟩;rcases turn i n ys H4 w4 with ⟨stop,eD,q⟩ | ⟨go,step⟩
  ·refine cP (T.done ‹102› rfl rfl rfl hc i [] s4 _ H4 _ I4 (fpok fr4) st4 stop) fun r s5 ⟨hr,I5⟩=>?_;subst hr;obtain ⟨m5,n5,_⟩:=I5.loc;have J5:Inv X pins σ H4 s5:=I3.yq I5.os I5.base I5.dm I5.bare fun b hb=>⟨(hfp b hb).2.2.2.1,(hfp b hb).2.1,(hfp b hb).2.2.2.2.1,(hfp b hb).2.2.2.2.2⟩
   refine ⟨m5,n5,fun h'' hs''=>⟨.ref ‹57›,H4,?_,rfl,q⟩⟩;exact J5.turned (t':=s5.toks) (fun b o hb e=>hs''.extBut b o hb e) I5.free (UE NS) (.inr I3.sz) cC pC
  ·refine cP (T.item ‹102› rfl rfl rfl hc i [] s4 _ H4 _ I4 (fpok fr4) st4 go) fun r s5 ⟨u,hr,h5⟩=>?_;subst hr;refine cP h5 fun _ s6 ⟨x,H6,I6,r6,y6,st6,fr6⟩=>?_;have I6':=I6.pinned (fpok fr6) (T.obj _ _ st6);refine cP (hg _ _ _ _ _ _ _ s6 _ H6 x u _ I6' r6 (hk _ _ _ (step x H6 y6))) fun _ s7 ⟨σ7,H7,I7,q7,l7,k7⟩=>?_
   have again:∀ {s8:Rb} {H8:Hp} {m:Nat} {zs:List V},Inv ‹102› ([]++sO fp s6.heap) σ7 H8 s8→m<n→W (i+1) m zs H8 →
    ∃ m,m<n∧∃ i ys H',Inv ‹102› [] (σ0 σ) H' s8∧tn i s8.heap∧(∀ b∈fp,H' b=none)∧W i m ys H':=fun {s8 H8 m zs} I8 hm w8=>by
    show 5
   refine cP (he _ _ _ _ _ _ xeC _ s7 σ7 H7 _ I7 q7) fun v s9 ⟨y,H9,I9,r9,e9,z9,m',hm,w9⟩=>?_
   exact cP ‹112›
    fun _ s10 ⟨_,H10,I10,_,e10⟩=>by subst e10; exact again I10 hm w9
 subst hs3;exact Xd loop (T.self _ 0 _ _ _ hst₁ loop)
def Gr (wi:TI) (g:TG) (te:TE) (σ0:St→St):TE:=fun σ H Q=>wi σ H fun J H1=>IJ J g te (σ0 σ) H1 Q
variable {pos:VJ} {wi:TI} {ts zs:List Rf} {is:List Nat} {k:Nat}
theorem Hs (lk:iH X E) (ow:Ak X) (hc:X.calm=true) (hi:PI X tg iter wi) (hk:ts.length=k) (hs:SubL X cl) (hcp:tE X scope cl is zs) (ha:(‹37›.names.all fun y=>!(y.2==.cell || y.2==.free) || zs.contains y.1)=true) (hl:KU k g)
 (hg:∀ C s3 H3 fp pins xe,PG (dS X (ts++zs) scope cl C s3 H3 fp pins xe) tg g) (he:∀ C s3 H3 fp pins xe,Passes (nQ X.prog X.w) (dS X (ts++zs) scope cl C s3 H3 fp pins xe) E→PE (dS X (ts++zs) scope cl C s3 H3 fp pins xe) elt te)
 (hclos:V9 scope X.env=pure cl) (hcell:∀ y∈scope.names,y.2≠.cell) (hkind:scope.kind=.function) (hnames:∀ y∈scope.names,y.2=.local→scope.names.lookup y.1=some .local)
 (hf:∀ x,Tx iter X.env x=pure x:=by intro _; rfl):PE X ‹61› (Gr wi g te (VL.s0 k is)):=by
 intro pins s σ H Q I h;rw [eval_ListComp];refine UT (use:=none) rfl hf hclos hkind hnames ‹72›;obtain ⟨it,fp,tn,J,H2,e,I2,T,st2,f2,q⟩:=h2;subst e;exact BG ow lk hc hcell hkind I2 T st2 f2 (Es.many hk hs hcp ha) (hl.keep σ) hg he q
theorem Mx {i:Nat} {y:Rf} {py:VJ} (nd:N'.Nodup) (hi:N'[i]?=some y) (hx:scope.names.lookup y=some .local) {C:Q6} {s3:Rb} {H3:Hp} {xe:Q7→Rb→Prop} :
 PG (dS X N' scope cl C s3 H3 fp pins xe) (.Name y py) (kA i):=zE nd hi (.inl (XI hx)) (.inr (XI hx))
def N9 (t u:TE):TE:=fun σ H Q=>t σ H Q∨u σ H Q
theorem CF {e:Sv} {t u:TE} (h1:PE X e t) (h2:PE X e u):PE X e (N9 t u):=fun pins s σ H Q I h=>h.elim (h1 pins s σ H Q I) (h2 pins s σ H Q I)
end
end L2
namespace VL
variable {it:aU→Option (List D)} {ms:List Bool} {F:List D→Option D} {t:TA} {es:aU→Option (List D)}
open PySem L2
section
open Classical
section
variable [cu] {K:Q2} {E:XK} {C:Q6}
noncomputable def fG (g:DG) (e x:DE) (r:aU):List D→Prop
 | []=>False
 | d::ds=>match g d r with
  | none=>False
  | some ρ1=>match x ρ1 with
   | some _=>True
   | none=>match e ρ1 with
    | some _=>fG g e x r ds
    | none=>False
@[irreducible] def JL (k:Nat) (cs:List Nat) (it:aU→Option (List D)) (g:DG) (e x:DE):DS:=fun ρ=>match it ρ with
 | some ds=>if fG g e x (r0 k cs ρ) ds then .rt .non else .no
 | none=>.no
theorem vg {m:Bool} {k:Nat} {cs:List Nat} {wi:TI} {g:TG} {te:TE} {gd:DG} {ed:DE} (hw:yx K m wi it) (hg:BL K m g gd) (he:ai K te ed) (ha:mT K ms t es) :
 de (.x E C) K (sE (Gr wi g (N9 te (nS (wK K ms C F) [] E t)) (s0 k cs))) (JL k cs it gd ed (aJ F es)):=fun {B Z os ρ σ H En} f p=>by
 have hk:∃ xs,it ρ=some xs∧fG gd ed (aJ F es) (r0 k cs ρ) xs∧∀ H',bu B H'→E (.ref C) none H':=by
  unfold JL at p;split at p
  ·rename_i xs e0;split at p
   ·rename_i h; exact ⟨xs,e0,h,p⟩
   ·show 12
  ·show 12
 clear p;obtain ⟨xs,e0,q,p⟩:=hk;show wi σ H _;refine hw f e0 fun J H1 s1 W Dl hD=>?_;have f1:=f.grow s1;have sD:∀ {H2:Hp} {ys:List V},bu H1 H2→bu H1 (upd H2 Dl (.lst ys)):=fun {H2 ys} s a o e=>by rw [a5 (bT e hD)]; exact s _ _ e
 refine ⟨fun i m ys H2=>m=xs.length-i∧i≤xs.length∧bu H1 H2∧H2 Dl=some (.lst ys)∧ys.length≤i∧fG gd ed (aJ F es) (r0 k cs ρ) (xs.drop i),
  ⟨_,rfl,Th _,sD (bu.refl _),br,Rq _,q⟩,?_⟩
 rintro i mm ys H2 ⟨rfl,hi,s2,eD,hly,q2⟩;have kp12:Kp (cE Z os) H1 ‹84› H2:=fun a u e z=>⟨s2 _ _ e,fun w=>w.elim (bT e hD) z⟩
 by_cases hlt:i<xs.length
 ·have ex:xs[i]?=some xs[i]:=Q8 hlt;have ef:=uS f1 hD s2 eD k cs;obtain ⟨go,yl⟩:=W.go i xs[i] H2 _ kp12 s2 (fun a z=>ef.F0 a z) ex;refine .inr ⟨go,fun x H3 hy=>?_⟩;obtain ⟨s3,er⟩:=yl x H3 hy;have eD3:=s3 _ _ eD;have s13:=s2.trans s3;have ef3:=uS f1 hD s13 eD3 k cs;rw [Sz hlt] at q2;unfold fG at q2
  have er':ER K m H1 H3 (cE ‹84› fun _=>[]) x xs[i]:=by
   cases m with
   | false=>exact er
   | true=>exact Is.kp ‹63› er
  split at q2
  ·exact q2.elim
  ·rename_i ρ1 e1;refine hg ef3 er' e1 fun os1 σ1 fr1 k1=>?_;split at q2
   ·rename_i d e2;exact .inr (uw ha fr1 e2 (fun H' s'=>p H' (f1.keep.trans s')) _)
   ·split at q2
    ·rename_i y e3;refine .inl (he fr1 e3 fun v H5 s5 i5=>?_);have hl:=W.len;exact ⟨s5 _ _ eD3,by lia,_,by lia,rfl,hlt,sD (s13.trans s5),br,by rw [Ru,Tc]; lia,q2⟩
    ·exact q2.elim
 ·have e:i=xs.length:=by lia
  subst e;rw [UI] at q2;exact q2.elim
theorem uY {k:Nat} {cs:List Nat} {g:DG} {e x:DE} {ρ:aU} {ds:List D} {W:Wk} (h:it ρ=some ds) (hr:fG g e x (r0 k cs ρ) ds) (kk:W.rt .non):Wp (JL k cs it g e x) ρ W:=by unfold Wp JL;rw [h];simp only [if_pos hr];exact kk
theorem o5 {α:Type} {g:DG} {e x:DE} {r:aU} (emb:α→D):∀ {xs:List α},(∀ a∈xs,∃ ρ1,g (emb a) r=some ρ1∧((∃ d,x ρ1=some d)∨∃ d,e ρ1=some d))→(∃ a∈xs,∀ ρ1,g (emb a) r=some ρ1→∃ d,x ρ1=some d)→fG g e x r (xs.map emb)
 | [],_,⟨_,h,_⟩=>by cases h
 | a::xs,h,hx=>by
  obtain ⟨ρ1,e1,h1⟩:=h a Q9;rw [R4];unfold fG;rw [e1];dsimp only;cases ex:x ρ1 with
  | some d=>trivial
  | none =>
   rcases h1 with ⟨d,h1⟩ | ⟨d,h1⟩
   ·rw [ex] at h1; cases h1
   ·rw [h1];refine o5 emb (fun b hb=>h b (Ra _ hb)) ?_;obtain ⟨b,hb,h2⟩:=hx;rcases Ri.mp hb with rfl | hb
    ·obtain ⟨d',h3⟩:=h2 ρ1 e1;rw [ex] at h3; cases h3
    ·exact ⟨b,hb,h2⟩
def Dc (E:XK) (C:Q6) (K:Q2) (t:TE) (x:DE):Prop:=∀ {B:Hp} {Z:Q6→Prop} {os:Own} {ρ:aU} {σ:L2.St} {H:Hp} {d:D},Fr K B Z os ρ σ H→x ρ=some d→(∀ H',bu B H'→E (.ref C) none H')→∀ Q,t σ H Q
theorem yM (ha:mT K ms t es):Dc E C K (nS (wK K ms C F) [] E t) (aJ F es):=fun f e p Q=>uw ha f e p Q
theorem i9 {t:TE} {x:DE} (h:Dc E C K t x):de (.x E C) K (sE t) (sX x):=fun {B Z os ρ σ H En} f p=>by
 unfold sX at p;split at p
 ·rename_i d e; exact h f e p _
 ·show 12
end
end
end VL
namespace L2
open PySem PySem.Spec PyProof.Rows
def Jp (ts:List (Q6×Rf)):Hp:=fun b=>(ts.lookup b).map fun q=>.tbl #[.str q 0]
end L2
namespace VL
variable {ms:List Bool} {n:Nat} {ds:List D} {j:Nat}
open PySem L2
section
open Classical
section
variable [cu] {K:Q2}
omit [cu] in
end
end
section
open Classical
section
variable [cu] {K:Q2} {fr:Fm}
theorem MU {ip:Nat} (h:(ms.set ip true).all id=true):∀ j,j≠ip→ms.getD j true=true:=fun j hj=>by
 rw [Rc];by_cases c:j<ms.length
 ·have e:(ms.set ip true)[j]?=ms[j]?:=SH (S6 hj);rw [Q8 c] at e;have:=Ry.mp h ms[j] (RB e);rw [Q8 c];exact this
 ·rw [Sf (by lia)]; rfl
theorem Mc {d:D} (h:(fX n ms ds).getD j .un=.bo d):ms.getD j true=false:=by
 unfold fX at h;rw [Rc] at h;by_cases hj:j<(Vi wW ms ds).length
 ·rw [Rz hj,Uq] at h;rw [Tp] at hj;rw [Q8 (show j<ms.length by lia),Q8 (show j<ds.length by lia)] at h;rw [Rc,Q8 (show j<ms.length by lia)];cases e:ms[j] with
  | false=>rfl
  | true=>rw [e] at h; cases h
 ·rw [RO (by lia),Sb] at h;split at h <;> cases h
theorem Md {C:Q6} {ks:List Rf} {es:List D}:(fX n ms ds).getD j .un≠.bk C ks es:=fun h=>by
 unfold fX at h;rw [Rc] at h;by_cases hj:j<(Vi wW ms ds).length
 ·rw [Rz hj,Uq] at h;rw [Tp] at hj;rw [Q8 (show j<ms.length by lia),Q8 (show j<ds.length by lia)] at h;cases e:ms[j] with
  | false=>rw [e] at h; cases h
  | true=>rw [e] at h; cases h
 ·rw [RO (by lia),Sb] at h;split at h <;> cases h
end
end
section
open Classical
section
variable [cu] {K:Q2}
def PL:List D→Option (List Int)
 | []=>some []
 | .int n::r=>(PL r).map (n::·)
 | _=>none
omit [cu] in
end
end
end VL
namespace L2
variable {K:Q2}
open PySem PySem.Spec PyProof.Rows VL
section
open Builtin.Str (occurrences subAt strSub partsBetween glued strKind tooLong)
def uy (a b:Rf):Bool:=0+b.length≤a.length&&subAt a b 0
def aQ (a b:Rf):List Rf:=if ((decide (a.length<b.length) || decide (strKind a<strKind b)) || (occurrences a b 0 a.length (a.length+1)).isEmpty)=true then [a] else partsBetween a (occurrences a b 0 a.length (a.length+1)) b.length
def lq (a:Rf):Rf:=⟨(a.cps.toList.drop 1).toArray⟩
section
variable {X:Cx}
theorem gm {x:Rf} {i:Rf} {pos:VJ} (hg:Gl X x) (hm:∃ t,X.mg x=some (.str i t)) (hd:‹41›=false:=by decide):PE X (.Name x pos) (tC (.str i)):=by obtain ⟨t,e⟩:=hm;exact gB hg e ⟨t,rfl⟩ hd
def DO:V→List V→Hp→VK→Prop:=fun x vs H Q=>∃ a b,x=.str a∧vs=[.str b]∧Q (.bl (uy a b)) H
theorem x8:Pm X "str.startswith" DO:=by intro pins s σ H x xs v us Q I rx rv h;obtain ⟨a,b,rfl,rfl,q⟩:=h;obtain ⟨t,rfl⟩:=rx;obtain ⟨u,rfl,t2,rfl⟩:=vals1 rv;exact call_gives Uv (Ui s a t) PySem.F.entry_str_startswith (PySem.F.args_str_startswith_2 _ _) (gives_str_startswith a b t t2) ⟨.bl _,H,I,rfl,q⟩
theorem xE:∀ (tk:Nat) (xs:List Rf),Vals (xs.map V.str) (strsFrom tk xs)
 | _,[]=>.nil
 | tk,x::r=>.cons ⟨tk,rfl⟩ (xE (tk+1) r)
def G6:V→List V→Hp→VK→Prop:=fun x vs H Q=>∃ a b,x=.str a∧vs=[.str b]∧(b.length==0)=false∧a.length≤Q4∧(aQ a b).length≤Q4∧∀ p,H p=none→Q (.ref p) (upd H p (.lst ((aQ a b).map V.str)))
theorem fK:Pm X "str.split" G6:=by
 intro pins s σ H x xs v us Q I rx rv h;obtain ⟨a,b,rfl,rfl,hb,ha,hl,q⟩:=h;obtain ⟨t,rfl⟩:=rx;obtain ⟨u,rfl,t2,rfl⟩:=vals1 rv;have fin:∀ (ws:List Q7) (tk:Nat),Vals ((aQ a b).map V.str) ws→EP X pins σ Q (.ref ‹7›) { s with toks:=tk,heap:=s.heap.push { cls:=.type "list", data:=.seq ws.toArray } }:=fun ws tk vw =>⟨.ref _,_,I.laid (t':=tk) (o:=.lst ((aQ a b).map V.str)) (fun b ob q=>Rk _ q) (Rq _) ⟨by rw [Q5]; exact hl,ws,0,vw,RI _ rfl⟩,rfl,q _ (I.dm.fresh (Rq _))⟩
 by_cases c1:(decide (a.length<b.length) || decide (strKind a<strKind b))=true
 ·refine U0 R3 (Ui s a t) U7 (UU _ _) (meets_str_split_cannot_occur a b t t2 c1) ?_;refine fin [.str a t] s.toks ?_;unfold aQ;rw [c1,Yu,if_pos rfl];exact .cons ⟨t,rfl⟩ .nil
 ·have c1:=Uu.mpr c1;by_cases c2:(occurrences a b 0 a.length (a.length+1)).isEmpty=true
  ·refine U0 R3 (Ui s a t) U7 (UU _ _) (meets_str_split_not_found a b t t2 c1 hb c2) ?_;refine fin [.str a t] s.toks ?_;unfold aQ;rw [c2,Bool.or_true,if_pos rfl];exact .cons ⟨t,rfl⟩ .nil
  ·have c2:=Uu.mpr c2;have es:aQ a b=partsBetween a (occurrences a b 0 a.length (a.length+1)) b.length:=by unfold aQ;rw [c1,c2,Uo,if_neg ‹6›]
   refine U0 R3 (Ui s a t) U7 (UU _ _) (meets_str_split_sep a b t t2 c1 hb c2 ha (by rw [← es]; exact hl)) ?_;rw [← es];exact fin _ _ (xE _ _)
theorem Dx:∀ {xs:List Rf} {us:List Q7},Vals (xs.map V.str) us→∃ l:List (Rf×Tok),us=strValues l∧l.map (·.1)=xs
 | [],_,.nil=>⟨[],rfl,rfl⟩
 | x::xs,_,.cons h r=>by obtain ⟨l,e1,e2⟩:=Dx (xs:=xs) r;obtain ⟨t,rfl⟩:=h;exact ⟨(x,t)::l,by rw [e1]; rfl,by rw [R4,e2]⟩
noncomputable def rJoin (K:Q2):V→List V→Hp→VK→Prop:=fun x vs H Q=>∃ a p xs,x=.str a∧vs=[.ref p]∧mS K H p ((xs:List Rf).map V.str)∧tooLong (xs.toArray.foldl (·+·.length+a.length) 0)=false∧(glued a xs).length≤Q4∧Q (.str (glued a xs)) H
theorem fU (hK:X.K=K):Pm X "str.join" (rJoin K):=by
 subst hK;intro pins s σ H x xs v us Q I rx rv h;obtain ⟨a,p,xs,rfl,rfl,hq,h1,h2,q⟩:=h;obtain ⟨t,rfl⟩:=rx;obtain ⟨u,rfl,ru⟩:=vals1 rv;cases ru;obtain ⟨its,r,pl,hz⟩:=I.list hq;obtain ⟨l,rfl,rfl⟩:=Dx r;refine U0 R8 (Ui s a t) PySem.F.entry_str_join (PySem.F.args_str_join_2 _ _) (meets_str_join_list a t p l h1) ⟨pl.isList,?_⟩
 match l,q,h2 with
 | [y],q,_=>exact ⟨.str y.1,H,I,⟨_,rfl⟩,q⟩
 | [],q,h2=>exact ⟨h2,.str _,H,I.tok _,⟨_,rfl⟩,q⟩
 | y::z::r,q,h2=>exact ⟨h2,.str _,H,I.tok _,⟨_,rfl⟩,q⟩
def Lp:V→Option Int→Option Int→Hp→VK→Prop:=fun x lo hi H Q=>∃ a,x=.str a∧lo=some 1∧hi=none∧a.length≤Q4∧Q (.str (lq a)) H
theorem zZ {α:Type}:∀ l:List α,(Rl l.length).filterMap (fun k=>l[k]?)=l
 | []=>rfl
 | x::l=>by rw [Rt,List.range_succ_eq_map,UK];show x::(List.filterMap (fun k=>(x::l)[k]?) ((Rl l.length).map Nat.succ))=_;rw [Wd];exact congrArg (x::·) (zZ l)
theorem EC (a:Rf) (t:Tok):(Wu a (some (1,t)) none none).filterMap (a.cps[·]?)=a.cps.toList.drop 1∧(Wu a (some (1,t)) none none).length=a.length-1:=by
 have hlen:a.cps.toList.length=a.length:=SK
 have e:Wu a (some (1,t)) none none=(Rl (a.length-1)).map fun k=>1+k:=by
  show Ye (max 0 (min (if (1:Int)<0 then 1+(a.length:Int) else 1) (a.length:Int))) (a.length:Int) 1=_;rw [if_neg ‹6›];unfold Ye;rw [if_pos ‹6›]
  have e2:(if max 0 (min (1:Int) (a.length:Int))<(a.length:Int) then ((a.length:Int)-max 0 (min (1:Int) (a.length:Int))+1-1) / 1 else 0).toNat=a.length-1:=by
   split
   ·rw [Int.ediv_one]; lia
   ·lia
  dsimp only;rw [e2];refine Sx fun k hk=>?_;have:=Sa.mp hk;lia
 rw [e];refine ⟨?_,by rw [Q5,R6]⟩;rw [Wd,← zZ (a.cps.toList.drop 1),SY,hlen];congr 1;funext k;show a.cps[1+k]?=_;rw [U1,Ur]
theorem y7:Pd X Lp:=by
 intro pins s σ H x v vl vu lo hi sl Q I rx hs pl pu h;obtain ⟨a,rfl,rfl,rfl,hz,q⟩:=h;obtain ⟨t,rfl⟩:=rx;cases pl with
 | int i tk =>
  cases pu with
  | none =>
   refine ⟨"str", _,WO.lookup,Ui s a t,WW (l:=some (1,tk)) (u:=none) (st:=none) hs rfl ?_⟩;obtain ⟨e1,e2⟩:=EC a tk;unfold sliceMade;rw [e1,e2];by_cases c:a.length=0
   ·rw [if_pos (by simp [c])]
    have ea:lq a=a:=by
     have:a.cps=#[]:=Array.eq_empty_of_size_eq_zero c;cases a with
     | mk cps=>subst this; rfl
    rw [ea] at q;exact ⟨.str a,H,I,⟨t,rfl⟩,q⟩
   ·rw [if_neg (by simp; lia)];exact ⟨by show (lq a).length≤Q4; unfold lq; show ((a.cps.toList.drop 1).toArray).size≤_; rw [Rr,SY]; have:a.cps.toList.length=a.length:=SK; lia,.str _,H,I.tok _,⟨_,rfl⟩,q⟩
theorem FP:ma X (.type "int") (fun xs H Q=>∃ x n,xs=[.str x]∧Vl x=some n∧x.length≤640∧Q (.int n) H):=by intro pins s σ H xs us Q I r h;obtain ⟨x,n,rfl,h1,h2,q⟩:=h;obtain ⟨u,rfl,t,rfl⟩:=vals1 r;exact PySem.W.KIN.call_text h1 h2 ⟨.int n,H,I.tok _,⟨_,rfl⟩,q⟩
def QK (x:Rf):It:=⟨fun i H=>i<x.cps.size,fun i H v H'=>H'=H∧∃ c,x.cps[i]?=some c∧v=.str ⟨#[c]⟩,fun i H=>x.cps.size≤i⟩
theorem Gg {P:Sd} {w:Sn} {tg:Sv} (x:Rf) (t:Tok) (it:Q6):Turn P w K tg (QK x) [it] it (fun i h=>h.IsStrIter it "str_ascii_iterator" x t i) where
 mem:=by simp
 obj:=fun i h st b hb=>by
  have e:b=it:=by simpa using hb
  subst e;obtain ⟨o,e,c,d⟩:=st;exact ⟨o,e,fun v z=>by rw [d] at z; cases z⟩
 keep:=fun i h h' st k=>let ⟨o,ho,r⟩:=st; ⟨o,k it (by simp) o ho,r⟩
 item:=by intro X hP hw hK hc i pins s σ H E I hf st hg;subst hP hw hK;obtain ⟨f0,f1,f2,f3,f4,f5⟩:=hf it (by simp);have hi:i<x.cps.size:=hg;refine wpAny_pyNext_ascii_item st (c:=x.cps[i]) (by simp [hi]) fun h' st' sb=>?_;have I1:Inv X pins σ H { s with heap:=h',toks:=s.toks+1 }:=I.turned (t':=s.toks+1) (fun b o hb e=>(sb.2 b hb).trans e) f0 f1 f3 f4 f5;obtain ⟨o,e,c,d⟩:=id st';exact ⟨_,rfl,Ig (s:={ s with heap:=h',toks:=s.toks+1 }) e c d ‹6› ⟨.str ⟨#[x.cps[i]]⟩,H,I1,⟨_,rfl⟩,⟨rfl,x.cps[i],by simp [hi],rfl⟩,st',fun b hb=>(hf b hb).1⟩⟩
 done:=by intro X hP hw hK hc i pins s σ H E I hf st hg;subst hP hw hK;obtain ⟨f0,f1,f2,f3,f4,f5⟩:=hf it (by simp);have hi:x.cps.size≤i:=hg;exact wpAny_pyNext_ascii_end (I.ok.hd hc) st (by simp [hi]) fun h' eb=>⟨rfl,I.turned (t':=s.toks) (fun b o hb e=>eb b o hb e) f0 f1 f3 f4 f5⟩
 self:=fun _ _ _ _ _ st h=>wpAny_pyIter_striter_ascii st h
def OX (tl:TE):TI:=fun σ H R=>tl σ H fun v H1=>∃ x,v=.str x∧x.cps.all (·<128)=true∧R (QK x) H1
theorem Hh {tg l:Sv} {tl:TE} (hl:PE X l tl):PI X tg l (OX tl):=by
 intro pins s σ H R I h;refine cP (hl pins s σ H _ I h) fun v s1 ⟨x,H1,I1,r1,q1⟩=>?_;obtain ⟨y,rfl,ha,q⟩:=q1;obtain ⟨t,rfl⟩:=r1;refine wpAny_pyIter_ascii ha ?_;refine ⟨s1.heap.objs.size,[s1.heap.objs.size],_,_,H1,rfl,I1.kept (t':=s1.toks) fun b o e=>Rk _ e,Gg y t _,⟨_,RI _ rfl,rfl,rfl⟩,fun b hb=>?_,q⟩;have e:b=s1.heap.objs.size:=by simpa using hb
 subst e;exact I1.Kv (Rq _) (I1.dm.fresh (Rq _))
end
end
end L2
namespace VL
variable {f:Rf→Rf→Option D} {ρ:aU} {x:Rf}
open PySem L2
section
open Builtin.Str (occurrences subAt strSub partsBetween glued strKind tooLong)
open Classical
section
variable [cu] {K:Q2} {ta tb:TE} {a b:DE}
def LL (f:Rf→Rf→Option D) (a b:DE):DE:=fun ρ=>match a ρ with
 | some (.str x)=>(match b ρ with
  | some (.str y)=>f x y
  | _=>none)
 | _=>none
omit [cu] in
theorem rX {a b:DE} {d:D} (h:LL f a b ρ=some d):∃ x y,a ρ=some (.str x)∧b ρ=some (.str y)∧f x y=some d:=by
 unfold LL at h;split at h
 ·rename_i x e1;split at h
  ·rename_i y e2;exact ⟨x,y,e1,e2,h⟩
  ·cases h
 ·cases h
omit [cu] in
theorem yf {y:Rf} {d:D} (ha:a ρ=some (.str x)) (hb:b ρ=some (.str y)) (h:f x y=some d):LL f a b ρ=some d:=by unfold LL; rw [ha,hb]; exact h
def mM (a b:DE):DE:=LL (fun x y=>some (.bl (uy x y))) a b
theorem xO (ha:bD K ta a) (hb:bD K tb b):ai K (Lf K "str" DO ta (cF tb fA)) (mM a b):=fun {B Z os ρ σ H Q d} f q k=>by obtain ⟨x,y,e1,e2,e3⟩:=rX q;cases e3;refine ha f e1 fun v H1 s1 i1=>?_;rw [i1.isStr];exact ⟨rfl,hb ‹70› e2 fun u H2 s2 i2=>⟨x,y,rfl,by rw [i2.isStr],k _ _ ‹48› (.bl _)⟩⟩
def Ib (x y:Rf):Bool:=!(occurrences y x 0 y.length 1).isEmpty
def IH (a b:DE):DE:=LL (fun x y=>some (.bl (Ib x y))) a b
theorem GP (ha:bD K ta a) (hb:bD K tb b):ai K (tJ (fun x y H Q=>∃ i j,x=.str i∧y=.str j∧Q (.bl (!(occurrences j i 0 j.length 1).isEmpty)) H) ta tb) (IH a b):=fun {B Z os ρ σ H Q d} f q k=>by obtain ⟨x,y,e1,e2,e3⟩:=rX q;cases e3;exact ha f e1 fun v H1 s1 i1=>hb ‹70› e2 fun u H2 s2 i2=>⟨x,y,i1.isStr,i2.isStr,k _ _ ‹48› (.bl _)⟩
def aL (a b:DE):DE:=LL (fun x y=>if x.length+y.length≤Q4 then some (.str (x++y)) else none) a b
theorem ay (ha:bD K ta a) (hb:bD K tb b):ai K (tJ (fun x y H Q=>∃ i j,x=.str i∧y=.str j∧i.length+j.length≤Q4∧Q (.str (i++j)) H) ta tb) (aL a b):=fun {B Z os ρ σ H Q d} f q k=>by
 obtain ⟨x,y,e1,e2,e3⟩:=rX q;split at e3
 ·rename_i c;cases e3;exact ha f e1 fun v H1 s1 i1=>hb ‹70› e2 fun u H2 s2 i2=>⟨x,y,i1.isStr,i2.isStr,c,k _ _ ‹48› (.str _)⟩
 ·cases e3
def Gv:D→Option D
 | .int i=>if i.natAbs.log2<1920 then some (.str (toString i)) else none
 | _=>none
theorem y9 (ha:bD K ta a):ai K (Dv (fun xs H Q=>∃ i,xs=[.int i]∧i.natAbs.log2<1920∧Q (.str (toString i)) H) (cF ta fA)) (fW Gv a):=by
 refine Ay (fun h q=>?_) ha;cases h with
 | int i =>
  have q:(if i.natAbs.log2<1920 then some (D.str (toString i)) else none)=some _:=q;split at q
  ·rename_i c;cases q;exact ⟨rfl,fun k=>⟨i,rfl,c,k⟩⟩
  ·cases q
 | _=>cases q
def LD:D→Option D
 | .str x=>if x.length≤640 then (Vl x).map D.int else none
 | _=>none
theorem JE (ha:bD K ta a):ai K (Dv (fun xs H Q=>∃ x n,xs=[.str x]∧Vl x=some n∧x.length≤640∧Q (.int n) H) (cF ta fA)) (fW LD a):=by
 refine Ay (fun h q=>?_) ha;cases h with
 | str x =>
  have q:(if x.length≤640 then (Vl x).map D.int else none)=some _:=q;split at q
  ·rename_i c;cases e:Vl x with
   | none=>rw [e] at q; cases q
   | some n=>rw [e] at q; cases q; exact ⟨rfl,fun k=>⟨x,n,rfl,e,c,k⟩⟩
  ·cases q
 | _=>cases q
noncomputable def k8 (a:DE) (lo hi:aU→Option (Option Int)):DE:=fun ρ=>match a ρ with
 | some (.str x)=>(match lo ρ with
  | some (some 1)=>(match hi ρ with
   | some none=>if x.length≤Q4 then some (.str (lq x)) else none
   | _=>none)
  | _=>none)
 | _=>none
omit [cu] in
theorem wo {lo hi:aU→Option (Option Int)} (ha:a ρ=some (.str x)) (h1:lo ρ=some (some 1)) (h2:hi ρ=some none) (h:x.length≤Q4):k8 a lo hi ρ=some (.str (lq x)):=by unfold k8; rw [ha,h1,h2]; exact if_pos h
theorem y8 {tl th:TO} {lo hi:aU→Option (Option Int)} (ha:bD K ta a) (hl:xA K tl lo) (hh:xA K th hi):ai K (N7 Lp ta tl th) (k8 a lo hi):=fun {B Z os ρ σ H Q d} f q k=>by
 unfold k8 at q;split at q
 ·rename_i x e1;split at q
  ·rename_i e2;split at q
   ·rename_i e3;split at q
    ·rename_i c;cases q;exact ha f e1 fun v H1 s1 i1=>hl ‹70› e2 fun H2 s2=>hh (f.grow ‹48›) e3 fun H3 s3=>⟨x,i1.isStr,rfl,rfl,c,k _ _ (‹48›.trans s3) (.str _)⟩
    ·cases q
   ·cases q
  ·cases q
 ·cases q
noncomputable def fh (a b:DE):aU→Option (List D):=fun ρ=>match a ρ with
 | some (.str x)=>(match b ρ with
  | some (.str y)=>if (y.length==0)=false∧x.length≤Q4∧(aQ x y).length≤Q4 then some ((aQ x y).map D.str) else none
  | _=>none)
 | _=>none
omit [cu] in
theorem Ir {y:Rf} (ha:a ρ=some (.str x)) (hb:b ρ=some (.str y)) (h:(y.length==0)=false∧x.length≤Q4∧(aQ x y).length≤Q4):fh a b ρ=some ((aQ x y).map D.str):=by unfold fh; rw [ha,hb]; exact if_pos h
theorem IsL.strs {H:Hp} {Z:Q6→Prop}:∀ (xs:List Rf),IsL K H Z (xs.map V.str) (xs.map D.str)
 | []=>.nil
 | x::xs=>.cons (.str x) (IsL.strs xs)
theorem fE (ha:bD K ta a) (hb:bD K tb b):bC K (Lf K "str" G6 ta (cF tb fA)) (fh a b):=fun {B Z os ρ σ H Q ds} f q k=>by
 unfold fh at q;split at q
 ·rename_i x e1;split at q
  ·rename_i y e2;split at q
   ·rename_i c;cases q;refine ha f e1 fun v H1 s1 i1=>?_;rw [i1.isStr];refine ⟨rfl,hb ‹70› e2 fun u H2 s2 i2=>⟨x,y,rfl,by rw [i2.isStr],c.1,c.2.1,c.2.2,fun p hp=>?_⟩⟩;have s12:=s1.trans s2;exact k p _ _ (s12.trans (cx hp)) (bu.free s12 hp) br (by rw [Q5]; exact c.2.2) (IsL.strs _)
   ·cases q
  ·cases q
 ·cases q
def KZ:List D→Option (List Rf)
 | []=>some []
 | .str x::r=>(KZ r).map (x::·)
 | _=>none
omit [cu] in
theorem yI:∀ xs:List Rf,KZ (xs.map D.str)=some xs
 | []=>rfl
 | x::r=>by show (KZ (r.map D.str)).map (x::·)=_; rw [yI r]; rfl
omit [cu] in
theorem u6:∀ {ds:List D} {xs:List Rf},KZ ds=some xs→ds=xs.map D.str
 | [],_,h=>by cases h; rfl
 | .str x::r,xs,h=>by
  have h:(KZ r).map (x::·)=some xs:=h;cases e:KZ r with
  | none=>rw [e] at h; cases h
  | some ms=>rw [e] at h; cases h; rw [u6 e]; rfl
theorem IsL.BZ {H:Hp} {Z:Q6→Prop}:∀ {vs:List V} {xs:List Rf},IsL K H Z vs (xs.map D.str)→vs=xs.map V.str
 | _,[],.nil=>rfl
 | _,x::xs,.cons (.str _) r=>by rw [IsL.BZ (xs:=xs) r]; rfl
noncomputable def iG (a b:DE):DE:=fun ρ=>match a ρ with
 | some (.str x)=>(match b ρ with
  | some (.lst ds)=>(match KZ ds with
   | some xs=>if tooLong (xs.toArray.foldl (·+·.length+x.length) 0)=false∧(glued x xs).length≤Q4 then some (.str (glued x xs)) else none
   | none=>none)
  | _=>none)
 | _=>none
omit [cu] in
theorem kB {xs:List Rf} (ha:a ρ=some (.str x)) (hb:b ρ=some (.lst (xs.map D.str))) (h:tooLong (xs.toArray.foldl (·+·.length+x.length) 0)=false∧(glued x xs).length≤Q4):iG a b ρ=some (.str (glued x xs)):=by unfold iG; rw [ha,hb]; dsimp only; rw [yI]; exact if_pos h
theorem fS (ha:bD K ta a) (hb:bD K tb b):ai K (Lf K "str" (rJoin K) ta (cF tb fA)) (iG a b):=fun {B Z os ρ σ H Q d} f q k=>by
 unfold iG at q;split at q
 ·rename_i x e1;split at q
  ·rename_i ds e2;split at q
   ·rename_i xs e3;split at q
    ·rename_i c;cases q;have:=u6 e3;subst this;refine ha f e1 fun v H1 s1 i1=>?_;rw [i1.isStr];refine ⟨rfl,hb ‹70› e2 fun u H2 s2 i2=>?_⟩;obtain ⟨p,vs,rfl,hz,hr,hl,r⟩:=i2.vX;have:=r.BZ;subst this;exact ⟨x,p,xs,rfl,rfl,.inl hr,c.1,c.2,k _ _ ‹48› (.str _)⟩
    ·cases q
   ·cases q
  ·cases q
 ·cases q
def signs (x:Rf):List D:=x.cps.toList.map fun c=>.str ⟨#[c]⟩
def mO (a:DE):aU→Option (List D):=fun ρ=>match a ρ with
 | some (.str x)=>if x.cps.all (·<128)=true∧x.length≤Q4 then some (signs x) else none
 | _=>none
omit [cu] in
theorem Bp (ha:a ρ=some (.str x)) (h:x.cps.all (·<128)=true∧x.length≤Q4):mO a ρ=some (signs x):=by unfold mO; rw [ha]; exact if_pos h
theorem As (ha:bD K ta a):gV K true (OX ta) (mO a):=fun {B Z os ρ σ H R ds} f q k=>by
 unfold mO at q;split at q
 ·rename_i x e1;split at q
  ·rename_i c;cases q;have hl:(signs x).length=x.cps.size:=by unfold signs; rw [Q5,SK]
   refine ha f e1 fun v H1 s1 i1=>⟨x,i1.isStr,c.1,k _ _ s1 ⟨by rw [hl]; exact c.2,fun i d H2 T2 kp _ hd e=>?_,fun i H2 T2 kp _ hi=>by rw [hl] at hi; exact VT hi⟩⟩
   have hi:i<x.cps.size:=by rw [← hl]; exact (Rp.mp e).1
   refine ⟨hi,fun y H3 ⟨e3,c',e4,e5⟩=>?_⟩;subst e3 e5;unfold signs at e;rw [Ro,Ur,e4] at e;cases e;exact ⟨bu.refl _,.str _⟩
  ·cases q
 ·cases q
end
end
end VL
namespace L2
open PySem PySem.Spec PyProof.Rows VL
section
open Builtin.Str (occurrences subAt strSub partsBetween glued strKind tooLong strSliceIndices)
def kT (x:Rf) (lo hi:Option Int):Rf:=⟨((strSliceIndices lo hi 1 x.length).filterMap (x.cps[·]?)).toArray⟩
def jt (v:Option Int) (d:Int) (n:Nat):Int:=match v with
 | none=>d
 | some i=>max 0 (min (if i<0 then i+(n:Int) else i) n)
theorem uQ {v:Option Int} {d:Int} {n:Nat} (h1:0≤d) (h2:d≤n):0≤jt v d n∧jt v d n≤n:=by
 unfold jt;cases v with
 | none=>exact ⟨h1,h2⟩
 | some i=>dsimp only; split <;> lia
theorem vk (lo hi:Option Int) (n:Nat):strSliceIndices lo hi 1 n=(Rl (jt hi n n-jt lo 0 n).toNat).map fun (k:Nat)=>(jt lo 0 n+(k:Int)).toNat:=by
 have e1:strSliceIndices lo hi 1 n=Ye (jt lo 0 n) (jt hi n n) 1:=by unfold strSliceIndices jt;cases lo <;> cases hi <;> rfl
 rw [e1];unfold Ye;rw [if_pos ‹6›]
 have e2:(if jt lo 0 n<jt hi n n then (jt hi n n-jt lo 0 n+1-1) / 1 else 0).toNat=(jt hi n n-jt lo 0 n).toNat:=by
  split
  ·rw [Int.ediv_one]; lia
  ·lia
 dsimp only;rw [e2];refine Sx fun k hk=>?_;rw [Int.one_mul]
theorem EL {x:Rf} {lo hi:Option Int} (h:(strSliceIndices lo hi 1 x.length).length=x.length):kT x lo hi=x:=by
 have hlen:x.cps.toList.length=x.length:=SK;rw [vk,Q5,R6] at h;have a:=uQ (v:=lo) (d:=0) (n:=x.length) (by lia) (by lia);have b:=uQ (v:=hi) (d:=x.length) (n:=x.length) (by lia) (by lia)
 have e:(strSliceIndices lo hi 1 x.length).filterMap (x.cps[·]?)=x.cps.toList:=by
  rw [vk,h];by_cases c:x.length=0
  ·have:x.cps.toList=[]:=List.eq_nil_of_length_eq_zero (by lia);rw [c,this]; rfl
  ·have e0:jt lo 0 x.length=0:=by lia
   rw [e0,Wd];have:=zZ x.cps.toList;rw [hlen] at this;rw [← this];congr 1;funext k;show x.cps[((0:Int)+(k:Int)).toNat]?=_;rw [Xe,Tz,Ur]
 unfold kT;rw [e]
theorem xN (x:Rf) (lo hi:Option Int):(kT x lo hi).length≤x.length:=by show (((strSliceIndices lo hi 1 x.length).filterMap (x.cps[·]?)).toArray).size≤_;rw [Rr];refine RE (List.length_filterMap_le _ _) ?_;rw [vk,Q5,R6];have a:=uQ (v:=lo) (d:=0) (n:=x.length) (by lia) (by lia);have b:=uQ (v:=hi) (d:=x.length) (n:=x.length) (by lia) (by lia);lia
section
variable {X:Cx}
def Om:V→Option Int→Option Int→Hp→VK→Prop:=fun x lo hi H Q=>∃ a,x=.str a∧a.length≤Q4∧Q (.str (kT a lo hi)) H
theorem Jz:Pd X Om:=by
 intro pins s σ H x v vl vu lo hi sl Q I rx hs pl pu h;obtain ⟨a,rfl,hz,q⟩:=h;obtain ⟨t,rfl⟩:=rx
 obtain ⟨l,el,hl⟩:∃ l:Option (Int×Tok),l.map (·.1)=lo∧vl=(match l with | none=>.none | some (i,t)=>.int i t):=by
  cases pl with
  | none=>exact ⟨none,rfl,rfl⟩
  | int i tk=>exact ⟨some (i,tk),rfl,rfl⟩
 obtain ⟨u,eu,hu⟩:∃ l:Option (Int×Tok),l.map (·.1)=hi∧vu=(match l with | none=>.none | some (i,t)=>.int i t):=by
  cases pu with
  | none=>exact ⟨none,rfl,rfl⟩
  | int i tk=>exact ⟨some (i,tk),rfl,rfl⟩
 have hs':s.heap.IsSlice sl l u none:=by subst hl hu;cases l <;> cases u <;> exact hs
 refine ⟨"str", _,WO.lookup,Ui s a t,WW (l:=l) (u:=u) (st:=none) hs' rfl ?_⟩;have ep:Wu a l u none=strSliceIndices lo hi 1 a.length:=by unfold Wu; rw [el,eu]; rfl
 unfold sliceMade;rw [ep];by_cases c:(strSliceIndices lo hi 1 a.length).length=a.length
 ·rw [if_pos (by rw [c]; simp)];rw [EL c] at q;exact ⟨.str a,H,I,⟨t,rfl⟩,q⟩
 ·rw [if_neg (by simpa using c)];exact ⟨RE (xN a lo hi) hz,.str _,H,I.tok _,⟨_,rfl⟩,q⟩
def B5 (t:TE):TE:=fun σ H Q=>t σ H fun x H1=>∃ z,x=.str z∧(Yx z).length≤1000000∧∀ y,Q (.str y) H1
theorem vF {e:Sv} {t:TE} {c:Rf} {j p p' pos} (he:PE X e t) (hc:c.length≤1000:=by decide):PE X (.JoinedStr [.FormattedValue e 114 none p,.Constant (.str c) j p'] pos) (B5 t):=fun pins s σ H Q I q=>by
 have hz:Q4=16777216:=Rw;refine Wc (TX (Wh (cP (he pins s σ H _ I q) fun u s1 ⟨x,H1,I1,r1,z,hx,hl,q1⟩=>?_)));subst hx;obtain ⟨tk,rfl⟩:=r1;have e0:(WI).length=0:=rfl;refine pyReprObj_str (Xn (fun t' tk'=>⟨?_,TX (Uh ⟨?_,WE ⟨.str _,H1,I1.tok _,⟨_,rfl⟩,q1 _⟩ ?_⟩)⟩) (by lia)) (by lia)
 ·rw [RJ]; lia
 ·rw [RJ,RJ]; lia
 ·rw [RJ,RJ]; lia
end
end
end L2
namespace VL
variable {ρ:aU}
open PySem L2
section
open Builtin.Str (occurrences subAt strSub partsBetween glued strKind tooLong)
open Classical
section
variable [cu] {K:Q2} {ta tb:TE} {a b:DE}
noncomputable def FH (a:DE) (lo hi:aU→Option (Option Int)):DE:=fun ρ=>match a ρ with
 | some (.str x)=>(match lo ρ with
  | some l=>(match hi ρ with
   | some h=>if x.length≤Q4 then some (.str (kT x l h)) else none
   | _=>none)
  | _=>none)
 | _=>none
omit [cu] in
theorem Nx {lo hi:aU→Option (Option Int)} {x:Rf} {l h:Option Int} (ha:a ρ=some (.str x)) (h1:lo ρ=some l) (h2:hi ρ=some h) (hx:x.length≤Q4):FH a lo hi ρ=some (.str (kT x l h)):=by unfold FH; rw [ha,h1,h2]; exact if_pos hx
theorem Mf {tl th:TO} {lo hi:aU→Option (Option Int)} (ha:bD K ta a) (hl:xA K tl lo) (hh:xA K th hi):ai K (N7 Om ta tl th) (FH a lo hi):=fun {B Z os ρ σ H Q d} f q k=>by
 unfold FH at q;split at q
 ·rename_i x e1;split at q
  ·rename_i l e2;split at q
   ·rename_i h e3;split at q
    ·rename_i c;cases q;exact ha f e1 fun v H1 s1 i1=>hl ‹70› e2 fun H2 s2=>hh (f.grow ‹48›) e3 fun H3 s3=>⟨x,i1.isStr,c,k _ _ (‹48›.trans s3) (.str _)⟩
    ·cases q
   ·cases q
  ·cases q
 ·cases q
@[irreducible] def iY (a:DE):DS:=fun ρ=>match a ρ with
 | some (.str z)=>if (Yx z).length≤1000000 then .rt .non else .no
 | _=>.no
theorem lu {C:Q6} {E:XK} (h:bD K ta a):de (.x E C) K (va C E (cF (B5 ta) fA)) (iY a):=fun {B Z os ρ σ H En} f p=>by
 unfold iY at p;split at p
 ·rename_i z e;split at p
  ·rename_i c;exact h f e fun v H1 s1 i1=>⟨z,i1.isStr,c,fun y=>⟨by have:=Rw; show 1≤Q4; lia,p H1 (f.keep.trans s1)⟩⟩
  ·show 12
 ·show 12
theorem lj {W:Wk} {z:Rf} (h:a ρ=some (.str z)) (hz:(Yx z).length≤1000000) (k:W.rt .non):Wp (iY a) ρ W:=by unfold Wp iY; rw [h]; dsimp only; rw [if_pos hz]; exact k
end
end
end VL
namespace L2
open PySem PySem.Spec PyProof.Rows VL
variable {s:Rb} {C:Q6} {m:Rf} {tbl:List (Q6×Sp)} {ta:TE}
def B8 (C:Q6):TE:=fun _ H Q=>∀ x dx,H x=none→H dx=none→dx≠x→Q (.ref x) (upd (upd H dx (.own x)) x (.ins C dx []))
section
variable {X:Cx}
theorem OB {P:Sd} {w:Sn} {A:SG} {R:YC→Rb→Prop} {v:Q7} (h:Um (model P w) s.heap (Za v (.type "object")) true) (q:R (.ok (.ret .none)) s):UG (model P w) A (.call (.builtin "object.__init__") ⟨[v],[]⟩) R s:=by have k:=PySem.W.oi_run v;refine XG (b:=Builtin.«object.__init__») PySem.W.oi_plain PySem.W.entry_oi ?_;refine PySem.W.check_slot (i := "object.__init__") (owner := "object") (n := "__init__") (self:=v) (rest:=[]) (kw:=[]) PySem.W.oi_kind PySem.W.oi_split h (PySem.W.oi_args v) ?_;rw [k];exact RM q
theorem E1 {pins:List (Q6×TK)} {σ:St} {H:Hp} {Q:VK} (M:PF X.K C) (I:Inv X pins σ H s) (h:B8 C σ H Q):Rv ‹3› X.A (call (.ref C) []) ‹85› X.xe s:=by
 have I2:=Inv.made (C:=C) I;have Y:=WM (M:=model X.prog X.w) I.qw M.makes;refine Vs (Fj I.qw M.makes M.init (fun self=>PySem.W.Looks.of_pure (PySem.W.oi_bind self)) ?_);have hg:((s.heap.push So).push (SD C ‹7›)).get? (‹7›+1)=some (SD C ‹7›):=by have:=RI (o:=SD C ‹7›) (s.heap.push So) rfl;rw [Tj] at this;exact this
 have t1:Um ‹3› ((s.heap.push So).push (SD C ‹7›)) (typeOf (.ref (‹7›+1))) (.ref C):=Xu (WX hg) PySem.W.Looks.now
 have t2:Um ‹3› ((s.heap.push So).push (SD C ‹7›)) (Za (.ref (‹7›+1)) (.type "object")) true :=
  Xu t1 (PySem.W.Looks.keeps Y.top fun b o e=>Rk _ (Rk _ e))
 exact OB t2 ⟨rfl,⟨V.ref (‹7›+1),_,I2,rfl,h _ _ (I.dm.fresh (VD _)) (I.dm.fresh (Rq _)) (RX (SO _))⟩⟩
theorem lD {x:Rf} {p pos:VJ} (M:PF X.K C) (hg:Gl X x) (hm:X.mg x=some (.ref C)) (hdb:‹41›=false:=by decide):PE X (.Call (.Name x p) [] [] pos) (B8 C):=by intro pins s σ H Q I h;refine Tg (i4 I hg hm ?_ hdb);exact UL I.qw M.kp (E1 M I h)
inductive De (X:Cx) (m:Rf):List (Q6×Sp)→Prop
 | nil:De X m []
 | cons {C f:Q6} {fd:SM} {ps:List Rf} {sp:Sp} {k:Nat} {tbl:List (Q6×Sp)} (c:uT X.K C) (hm:Meth X.K C m f) (F:bQ X.prog X.w X.K X.mg X.base gW k f fd ps sp) (hr:fk k X.A) (hb:Binds X.K fd ps []) (r:De X m tbl):De X m ((C,sp)::tbl)
theorem De.get (h:De X m tbl) {sp:Sp} (e:tbl.lookup C=some sp):∃ (f:Q6) (fd:SM) (ps:List Rf) (k:Nat),uT X.K C∧Meth X.K C m f∧bQ X.prog X.w X.K X.mg X.base gW k f fd ps sp∧fk k X.A∧Binds X.K fd ps []:=by
 induction h with
 | nil=>cases e
 | @cons C' f fd ps sp' k tbl c hm F hr hb r ih =>
  rw [Sr] at e;cases q:C==C' with
  | true =>rw [q] at e;cases e;have:=beq_iff_eq.mp q;subst this;exact ⟨f,fd,ps,k,c,hm,F,hr,hb⟩
  | false =>rw [q] at e;exact ih e
def yL (tbl:List (Q6×Sp)) (E:XK) (ta:TE) (t:TA):TE:=fun σ H Q=>ta σ H fun x H1=>∃ a C dx sp,x=.ref a∧H1 a=some (.ins C dx [])∧tbl.lookup C=some sp∧t σ H1 fun vs H2=>sp (x::vs) H2 Q E
theorem xX {o:Sv} {apos pos:VJ} {pl:Sem Bool} (he:PE X o ta) (h:De X m tbl)
 (ht:eval (.Call (.Attribute o m apos) [] [] pos) X.env=(do
  let ov ← eval o X.env
  W7 apos.atName
  let (f,first) ← VS [ov] (VX ov m pl)
  Yy pos f first (TN pos (RH [] X.env)) (WQ pos (U4 [] X.env))):=by rfl) :
 PE X (.Call (.Attribute o m apos) [] [] pos) (yL tbl E0 ta fA):=by
 intro pins s σ H Q I q;refine T4 (pl:=pl) (cP (he pins s σ H _ I q) fun u s1 ⟨x,H1,I1,rx,a,C,dx,sp,ex,ea,el,q⟩=>?_) ht;subst ex;obtain rfl:u=RQ a:=rx;obtain ⟨f,fd,ps,k,c,hm,F,hr,hb⟩:=h.get el;refine j4 I1 ea c hm rfl ?_;have q':sp ([V.ref a]++[]) H1 Q E0:=q;exact UL (first:=[.ref a]) I1.qw hm.kp (vy (us:=[.ref a]) (vs:=[.ref a]) F hr hb .nil eZ I1 (.cons rfl .nil) q')
theorem n6 {o e:Sv} {es:List Sv} {apos pos:VJ} {t:TA} {pl:Sem Bool} (he:PE X o ta) (h:De X m tbl) (ha:PA X (e::es) t)
 (hst:RH (e::es) X.env=(false,eval e X.env)::RH es X.env:=by rfl) (hpl:(TN pos (RH es X.env)).any (·.1)=false:=by rfl)
 (ht:eval ‹66› X.env=(do
  let ov ← eval o X.env
  W7 apos.atName
  let (f,first) ← VS [ov] (VX ov m pl)
  Yy pos f first (TN pos (RH (e::es) X.env)) (WQ pos (U4 [] X.env))):=by rfl) :
 PE X ‹66› (yL tbl E0 ta t):=by
 intro pins s σ H Q I q;refine T4 (pl:=pl) (cP (he pins s σ H _ I q) fun u s1 ⟨x,H1,I1,rx,a,C,dx,sp,ex,ea,el,q⟩=>?_) ht;subst ex;obtain rfl:u=RQ a:=rx;obtain ⟨f,fd,ps,k,c,hm,F,hr,hb⟩:=h.get el;refine j4 I1 ea c hm rfl ?_;refine Tv (first:=[.ref a]) (h₀:=X.base) I.ok.mod.Jb hm.kp (cP (ha pos pins s1 σ H1 _ I1 q) fun us s2 ⟨vs,H2,I2,r,q2⟩=>⟨I2.qw,?_⟩) hst hpl;have q':sp ((V.ref a::vs)++[]) H2 Q E0:=by rw [Ss]; exact q2
 exact vy (us:=.ref a::us) (vs:=.ref a::vs) F hr hb .nil eZ I2 (.cons rfl r) q'
theorem xW {e:Sv} {t:TE} {c:Rf} {j p p' pos} (he:PE X e t) (hc:c.length≤1000:=by decide):PE X (.JoinedStr [.Constant (.str c) j p',.FormattedValue e 114 none p] pos) (B5 t):=fun pins s σ H Q I q=>by
 have hz:Q4=16777216:=Rw;have e0:(WI).length=0:=rfl;refine Wc (TX (Uh ⟨?_,TX (Wh (cP (he pins _ σ H _ (I.tok _) q) fun u s1 ⟨x,H1,I1,r1,z,hx,hl,q1⟩=>?_))⟩))
 ·rw [RJ]; lia
 subst hx;obtain ⟨tk,rfl⟩:=r1;refine pyReprObj_str (Xn (fun t' tk'=>⟨?_,WE ⟨.str _,H1,I1.tok _,⟨_,rfl⟩,q1 _⟩ ?_⟩) (by lia)) (by lia)
 ·rw [RJ,RJ]; lia
 ·rw [RJ,RJ]; lia
end
end L2
namespace VL
variable {C:Q6} {tbl:List (Q6×(List D→Option D))} {es:aU→Option (List D)}
open PySem L2
section
open Classical
section
variable [cu] {K:Q2} {ta tb:TE} {a b:DE}
def qF (C:Q6):DE:=fun _=>some (.ins C)
theorem oZ:ai K (B8 C) (qF C):=fun {B Z os ρ σ H Q d} f q k=>by
 cases q;intro x dx hx hd ne;have s1:bu H (upd H dx (.own x)):=cx hd;have hx2:upd H dx (.own x) x=none:=by rw [a5 (S6 ne)]; exact hx
 exact k _ _ (s1.trans (cx hx2)) (.ins (f.out hx) br)
noncomputable def lL (tbl:List (Q6×(List D→Option D))) (a:DE) (es:aU→Option (List D)):DE:=fun ρ=>match a ρ with
 | some (.ins C)=>(match tbl.lookup C with
  | some F=>(match es ρ with
   | some ds=>F (.ins C::ds)
   | none=>none)
  | none=>none)
 | _=>none
omit [cu] in
theorem gE {ρ:aU} {F:List D→Option D} {ds:List D} {d:D} (ha:a ρ=some (.ins C)) (h1:tbl.lookup C=some F) (h2:es ρ=some ds) (h3:F (.ins C::ds)=some d):lL tbl a es ρ=some d:=by unfold lL; rw [ha]; dsimp only; rw [h1]; dsimp only; rw [h2]; exact h3
def spT (K:Q2) (ms:List Bool) (tbl:List (Q6×(List D→Option D))):List (Q6×Sp):=tbl.map fun p=>(p.1,jv .v K (false::ms) p.2)
theorem vi {ms:List Bool} {C:Q6} {F:List D→Option D}:∀ {tbl:List (Q6×(List D→Option D))},tbl.lookup C=some F→(spT K ms tbl).lookup C=some (jv .v K (false::ms) F)
 | [],h=>by cases h
 | (C',F')::r,h=>by
  rw [Sr] at h;show Uy C ((C',jv .v K (false::ms) F')::spT K ms r)=_;rw [Sr];cases q:C==C' with
  | true=>rw [q] at h; cases h; rfl
  | false=>rw [q] at h; exact vi h
theorem oY {ms:List Bool} {t:TA} {E:XK} (ha:bD K ta a) (hes:mT K ms t es):ai K (yL (spT K ms tbl) E ta t) (lL tbl a es):=fun {B Z os ρ σ H Q d} f q k=>by
 unfold lL at q;split at q
 ·rename_i C e1;split at q
  ·rename_i F e2;split at q
   ·rename_i ds e3;refine ha f e1 fun v H1 s1 i1=>?_;cases i1 with
    | @ins x _ dx hz hH =>refine ⟨x,C,dx,_,rfl,hH,vi e2,hes ‹70› e3 fun vs H2 s2 ar=>?_⟩;exact ⟨cE Z os,_,d,(f.grow ‹48›).zt,.any (.ins (fun h=>h.elim) (s2 _ _ hH)) ar,q,fun w H3 s3 i=>k w H3 (‹48›.trans s3) (i.is (f.grow ‹48›).K2)⟩
   ·cases q
  ·cases q
 ·cases q
end
end
end VL
namespace L2
open PySem PySem.Spec PyProof.Rows VL
def K5 (K:Q2) (F:Q7) (b:Bool) (sp:Sp) (t:TA):TS:=fun D σ H=>t σ H fun vs H1=>sp vs H1 (fun _ H'=>D.nx σ H') fun cls _ H' =>∃ C,cls=.ref C∧Vc K (.ref C) F=some true∧D.rt (.bl b) H'
section
variable {X:Cx} {k:Nat} {f:Q6} {fd:SM} {ps:List Rf} {sp:Sp} {x y:Rf} {e:Sv} {es:List Sv} {t:TA} {F:Q7} {p1 p2 p3 p4 p6 p7 p8 pos:VJ} {b:Bool} {j6:Nat}
theorem DU (ow:Ak X) (FO:bQ X.prog X.w X.K X.mg X.base (nQ X.prog X.w) k f fd ps sp) (hr:fk k X.A) (hg:Gl X x) (hm:X.mg x=some (.ref f)) (hk:SU X.K (.ref f)=true) (hb:Binds X.K fd ps [])
 (ha:∀ xe,PA (X.jR xe) (e::es) t) (hy:Gl X y) (my:X.mg y=some F)
 (hbody:∀ (a:Q6) xe,wI ((X.marked (.ref a)).jR xe) [.Return (some (.Constant (.bool b) j6 p6)) p7] (sE (tC (.bl b))))
 (hdb:‹41›=false:=by decide) (hdy:(y==("__debug__" : Rf))=false:=by decide)
 (he:RH (e::es) X.env=(false,eval e X.env)::RH es X.env:=by rfl) (hpl:(TN p2 (RH es X.env)).any (·.1)=false:=by rfl)
 (hs:Ul (.Call (.Name x p1) (e::es) [] p2) none p3.line X.env=pure false:=by rfl) :
 PS X (.Try [.Expr (.Call (.Name x p1) (e::es) [] p2) p3] [.ExceptHandler (some (.Name y p4)) none [.Return (some (.Constant (.bool b) j6 p6)) p7] p8] [] [] pos) (K5 X.K F b sp t):=by
 intro pins s σ H D I h;refine WY (UD (V1 ?_ I.quiet hs));refine Tg (i4 I hg hm ?_ hdb);refine Tv (h₀:=X.base) I.ok.mod.Jb hk ?_ he hpl;refine cP (ha (fun e s₁=>Rv ‹3› X.A (TC e X.env) (fun _ s₂=>Rv ‹3› X.A (VZ e none) (fun _ s₃=>Rv ‹3› X.A (Zb e X.env [.ExceptHandler (some (.Name y p4)) none [.Return (some (.Constant (.bool b) j6 p6)) p7] p8]) (SP X pins D) X.xe s₃) X.xe s₂) X.xe s₁) p2 pins s σ H _ (I.jR _) h) ?_;rintro us s1 ⟨vs,H1,I1,r,q⟩;refine ⟨I1.gX.qw,?_⟩;have I1:=I1.gX;have hl:us.length=ps.length:=by rw [← r.length]; exact FO.len _ _ _ _ q
 have hb1:=hb s1 us I1.qw (by rw [Ss]; exact hl);rw [Ss] at hb1;refine Vs (UH (FO.run X.A X.stack s1 H1 ⟨us,[]⟩ us vs _ _ hr I1.KI hb1 r q) fun r s' hq=>?_);cases r with
 | ok fl =>
  cases fl with
  | ret u =>obtain ⟨v',H',I',_,q'⟩:=I1.after hq;exact Te (Te ⟨σ,H',I',q'⟩)
  | next=>exact S1 hq
  | brk=>exact S1 hq
  | cont=>exact S1 hq
 | error ev =>
  show 0
  have I1:Inv X pins σ H' { s' with heap:=h1,toks:=s'.toks }:=I'.D9 g1 fun b hb=>by
   rcases Ri.mp hb with rfl | hb
   ·exact o2
   ·rw [Q3.mp hb]; exact o1
  show 6
  show 8
  refine PySem.W.Looks.at (YY (M:=model X.prog X.w) I2.qw LT hx) ?_;refine codeAny_handlers_suite (land (env:=X.env) (outer:=X.outer) (s:={ s' with heap:=h2 }) r2 fun h3 r3 g3=>?_);rw [← ow.mY] at g3;have I3:Inv X pins σ H' { s' with heap:=h3,toks:=s'.toks }:=I2.D9 g3 fun b hb=>by rw [Q3.mp hb]; exact o3
  refine SN (hbody a (fun _ _=>False) pins _ _ _ { nx:=fun _ _=>False,rt:=fun v H2=>v=.bl b∧H2=H' } ((I3.marked (.ref a)).jR _) ⟨rfl,rfl⟩) (fun fl s6 h6=>?_) fun _ _ z=>z.elim;cases fl with
  | next=>obtain ⟨_,_,_,z⟩:=h6; exact z.elim
  | brk=>obtain ⟨_,_,_,z⟩:=h6; exact z.elim
  | cont=>obtain ⟨_,_,_,z⟩:=h6; exact z.elim
  | ret u =>obtain ⟨v,σ',H2,I6,r6,rfl,rfl⟩:=h6;exact ⟨.bl b,σ',H2,I6.unmarked I.ok,r6,q'⟩
theorem DV {c:Sv} {t:TE} {hd:ExceptHandler} {hs:List ExceptHandler} (he:∀ xe,PE (X.jR xe) c t) (hsw:Ul c none p3.line X.env=pure false:=by rfl):PS X (.Try [.Expr c p3] (hd::hs) [] [] pos) (Ar t):=by intro pins s σ H D I h;refine WY (UD (V1 ?_ I.quiet hsw));refine cP (he (fun e s₁=>Rv ‹3› X.A (TC e X.env) (fun _ s₂=>Rv ‹3› X.A (VZ e none) (fun _ s₃=>Rv ‹3› X.A (Zb e X.env (hd::hs)) (SP X pins D) X.xe s₃) X.xe s₂) X.xe s₁) pins s σ H _ (I.jR _) h) ?_;rintro u s1 ⟨v,H1,I1,r,q⟩;exact Te (Te ⟨σ,H1,I1.gX,q⟩)
end
end L2
namespace VL
variable {G:List D→Option Bool} {es:aU→Option (List D)} {ρ:aU} {ds:List D} {W:Wk}
open PySem L2
section
open Classical
section
variable [cu] {K:Q2}
@[irreducible] def tN (G:List D→Option Bool) (es:aU→Option (List D)):DS:=fun ρ=>match es ρ with
 | some ds=>(match G ds with
  | some true=>.nx ρ
  | some false=>.rt (.bl false)
  | none=>.no)
 | none=>.no
theorem DB {ms:List Bool} {F Xf:List D→Option D} {C:Q6} {t:TA} {Fl:Q7} {u:TE} (ha:mT K ms t es) (hF:Vc K (.ref C) Fl=some true) (hu:bD K u (aJ F es))
 (hN:∀ ds,G ds=some true→∃ d,F ds=some d) (hX:∀ ds,G ds=some false→∃ d,Xf ds=some d) :
 de .v K (Jq (K5 K Fl false (wK K ms C Xf) t) (Ar u)) (tN G es):=fun {B Z os ρ σ H En} f p=>by
 unfold tN at p;cases e1:es ρ with
 | none=>rw [e1] at p; exact p.elim
 | some ds =>
  rw [e1] at p;dsimp only at p;cases g:G ds with
  | none=>rw [g] at p; exact p.elim
  | some b =>
   rw [g] at p;cases b with
   | true =>obtain ⟨d,e2⟩:=hN ds g;exact .inr (hu f (show aJ F es ρ=some d by unfold aJ; rw [e1]; exact e2) fun v H1 s1 i1=>p os _ _ ‹70› (.same s1))
   | false =>obtain ⟨d,e2⟩:=hX ds g;exact .inl (ha f e1 fun vs H1 s1 a=>⟨cE Z os,ds,d,‹70›.zt,a,e2,fun H2 s2=>⟨C,rfl,hF,p (.bl false) H2 (f.keep.trans ‹48›) (.bl false)⟩⟩)
theorem Dh (h0:es ρ=some ds) (h:G ds=some true) (k:W.nx ρ):Wp (tN G es) ρ W:=by unfold Wp tN;rw [h0];dsimp only;rw [h];exact k
theorem Di (h0:es ρ=some ds) (h:G ds=some false) (k:W.rt (.bl false)):Wp (tN G es) ρ W:=by unfold Wp tN;rw [h0];dsimp only;rw [h];exact k
end
end
end VL
namespace L2
open PySem PySem.Spec PyProof.Rows
section
open Builtin Builtin.Str
section
variable {X:Cx}
noncomputable def Lq:V→List V→Hp→VK→Prop:=fun x vs H Q=>∃ a b,x=.str a∧vs=[.str b]∧(b.length==0)=false∧a.length≤Q4∧∀ p,H p=none→Q (.ref p) (upd H p (.tup [.str (Txt.partition a b).1,.str (Txt.partition a b).2.1,.str (Txt.partition a b).2.2]))
theorem uH:Pm X "str.partition" Lq:=by
 intro pins s σ H x xs v us Q I rx rv h;obtain ⟨a,b,rfl,rfl,hb,ha,q⟩:=h;obtain ⟨t,rfl⟩:=rx;obtain ⟨u,rfl,t2,rfl⟩:=vals1 rv;have fin:∀ (ws:List Q7) (tk:Nat),Vals [.str (Txt.partition a b).1,.str (Txt.partition a b).2.1,.str (Txt.partition a b).2.2] ws→EP X pins σ Q (.ref ‹7›) { s with toks:=tk,heap:=s.heap.push { cls:=.type "tuple", data:=.seq ws.toArray } }:=fun ws tk vw =>⟨.ref _,_,I.laid (t':=tk) (o:=.tup [.str (Txt.partition a b).1,.str (Txt.partition a b).2.1,.str (Txt.partition a b).2.2]) (fun b ob q=>Rk _ q) (Rq _) ⟨by have:=Rw; show 3≤Q4; lia,ws,vw,⟨_,RI _ rfl,rfl,_,rfl⟩⟩,rfl,q _ (I.dm.fresh (Rq _))⟩
 refine U0 To (Ui s a t) PySem.F.entry_str_partition (PySem.F.args_str_partition_2 _ _) (meets_str_partition a b t t2 hb ha) ?_;unfold Txt.partition at fin;cases e:occurrences a b 0 a.length 1 with
 | nil =>rw [e] at fin;exact fin _ _ (.cons ⟨_,rfl⟩ (.cons ⟨_,rfl⟩ (.cons ⟨_,rfl⟩ .nil)))
 | cons i r =>rw [e] at fin;exact fin _ _ (.cons ⟨_,rfl⟩ (.cons ⟨_,rfl⟩ (.cons ⟨_,rfl⟩ .nil)))
def K7 (t:TE):TE:=fun σ H Q=>t σ H fun x H1=>∃ z,x=.str z∧z.length≤1000000∧∀ y,Q (.str y) H1
theorem vE {e:Sv} {t:TE} {c:Rf} {j p p' pos} (he:PE X e t) (hc:c.length≤1000:=by decide):PE X (.JoinedStr [.Constant (.str c) j p',.FormattedValue e (-1) none p] pos) (K7 t):=fun pins s σ H Q I q=>by
 have hz:Q4=16777216:=Rw;have e0:(WI).length=0:=rfl;refine Wc (TX (Uh ⟨?_,TX (XH (cP (he pins _ σ H _ (I.tok _) q) fun u s1 ⟨x,H1,I1,r1,z,hx,hl,q1⟩=>?_))⟩))
 ·rw [RJ]; lia
 subst hx;obtain ⟨tk,rfl⟩:=r1;refine Xn (fun t' tk'=>⟨?_,WE ⟨.str _,H1,I1.tok _,⟨_,rfl⟩,q1 _⟩ ?_⟩) (by lia)
 ·rw [RJ,RJ]; lia
 ·rw [RJ,RJ]; lia
end
theorem oh {K:Q2} {t c1 c2:Q7} (h1:Uw K t c1=some false) (h2:Uw K t c2=some false):Wb K t [c1,c2]=some false:=by simp only [Wb,h1,h2]
end
end L2
namespace VL
variable {ρ:aU} {W:Wk} {x:DE} {n:Nat} {s:DS} {F:List D→Option D} {ds:List D}
open PySem L2
section
open Classical
section
variable [cu] {K:Q2} {ta tb:TE} {a b:DE} {E:XK} {C:Q6} {iv ie:Nat}
def DX (x y:Rf):D:=.tup [.str (Txt.partition x y).1,.str (Txt.partition x y).2.1,.str (Txt.partition x y).2.2]
def yo (a b:DE):DE:=LL (fun x y=>if (y.length==0)=false∧x.length≤Q4 then some (DX x y) else none) a b
theorem uz (ha:bD K ta a) (hb:bD K tb b):ai K (Lf K "str" Lq ta (cF tb fA)) (yo a b):=fun {B Z os ρ σ H Q d} f q k=>by
 obtain ⟨x,y,e1,e2,e3⟩:=rX q;split at e3
 ·rename_i c;cases e3;exact ha f e1 fun v H1 s1 i1=>⟨i1.isStr ▸ rfl,hb ‹70› e2 fun u H2 s2 i2=>⟨x,y,i1.isStr,by rw [i2.isStr],c.1,c.2,fun p hp=>k _ _ (s1.trans (s2.trans (cx hp))) (.tup ((‹70›.grow s2).out hp) br (by have:=Rw; show 3≤Q4; lia) (.cons (.str _) (.cons (.str _) (.cons (.str _) .nil))))⟩⟩
 ·cases e3
theorem mG {x y:Rf} (ha:a ρ=some (.str x)) (hb:b ρ=some (.str y)) (h:(y.length==0)=false∧x.length≤Q4):yo a b ρ=some (DX x y):=yf ha hb (if_pos h)
@[irreducible] def mj (a:DE):DS:=fun ρ=>match a ρ with
 | some (.str z)=>if z.length≤1000000 then .rt .non else .no
 | _=>.no
theorem sG (h:bD K ta a):de (.x E C) K (va C E (cF (K7 ta) fA)) (mj a):=fun {B Z os ρ σ H En} f p=>by
 unfold mj at p;split at p
 ·rename_i z e;split at p
  ·rename_i c;exact h f e fun v H1 s1 i1=>⟨z,i1.isStr,c,fun y=>⟨by have:=Rw; show 1≤Q4; lia,p H1 (f.keep.trans s1)⟩⟩
  ·show 12
 ·show 12
theorem sA {z:Rf} (h:a ρ=some (.str z)) (hz:z.length≤1000000) (k:W.rt .non):Wp (mj a) ρ W:=by unfold Wp mj; rw [h]; dsimp only; rw [if_pos hz]; exact k
theorem Jt {tbl:List (Q6×Sp)} {E':XK} {t:TA} {u v:TS} (h:Dc E C K ta x):de (.x E C) K (ED (Ma (fun σ H Q=>yL tbl E' ta t σ H fun x H'=>∃ k,C9 K x H' k∧Q k H')) u v) (sX x):=fun {B Z os ρ σ H En} f p=>by
 unfold sX at p;split at p
 ·rename_i d e;exact h f e p _
 ·show 12
theorem uX {c1 c2:Q6} {b:Bool} (k:BO K C) (e:Wb K (.ref C) [.ref c1,.ref c2]=some b):XE iv C (Dv (Lr K) (cF (i8 iv) (cF (L9 (cF (tC (.ref c1)) (cF (tC (.ref c2)) fA))) fA))) b:=fun {σ H a Q} s h q =>⟨.ref a,s,by have:=Rw; show 2≤Q4; lia,fun p hp=>⟨a,C,p,[c1,c2],b,rfl,by rw [a5 (bT h hp)]; exact h,k,br,e,q _ (cx hp)⟩⟩
def XA (iv:Nat) (C:Q6) (t:TA) (bs:List Bool):Prop:=∀ {σ:L2.St} {H:Hp} {a:Q6} {Q:List V→Hp→Prop},σ[iv]?=some (some (.ref a))→H a=some (uj a C)→(∀ H',bu H H'→Q (bs.map V.bl) H')→t σ H Q
theorem kR:XA iv C fA []:=fun s h q=>q _ (bu.refl _)
theorem cg {t:TE} {r:TA} {b:Bool} {bs:List Bool} (h1:XE iv C t b) (h2:XA iv C r bs):XA iv C (cF t r) (b::bs):=fun s h q=>h1 s h fun H1 s1=>h2 s (s1 _ _ h) fun H2 s2=>q H2 ‹48›
noncomputable def XL (n iv:Nat) (C:Q6) (t:TS) (bs:List Bool):Prop:=∀ {σ:L2.St} {H:Hp} {a:Q6} {En:Ends},σ.length=n→σ[iv]?=some (some (.ref a))→H a=some (uj a C)→(∀ p H',bu H H'→H p=none→H' p=some (.lst (bs.map V.bl))→En.rt (.ref p) H')→t En σ H
theorem An {c:TT} {t r:TS} {bs:List Bool} (h1:XT iv C c false) (h2:XL n iv C r bs):XL n iv C (t6 (ED c t Dt) r) bs:=fun l s e q=>h1 s e fun H1 s1=>rR (h2 l s (s1 _ _ e) fun p H2 s2 hp e2=>q p H2 ‹48› (bu.free s1 hp) e2)
@[irreducible] def rB (n iv:Nat) (x:DE) (bs:List Bool):DS:=fun ρ=>if ρ.length=n∧iv<n then (match x ρ with
 | some _=>.rt (.lst (bs.map D.bl))
 | none=>.no) else .no
@[irreducible] def xl (x:DE) (s u:DS):DS:=fun ρ=>if (x ρ).isSome=true then s ρ else u ρ
theorem yY {t u r:TS} {v:DS} (h1:de .v K (t6 t r) s) (h2:de .v K (t6 u r) v):de .v K (t6 (Jq t u) r) (xl x s v):=fun {B Z os ρ σ H En} f p=>by
 unfold xl at p;split at p
 ·exact .inl (h1 f p)
 ·exact .inr (h2 f p)
theorem qP {d:D} {bs:List Bool} (hi:ρ.length=n∧iv<n) (h:x ρ=some d) (k:W.rt (.lst (bs.map D.bl))):Wp (rB n iv x bs) ρ W:=by unfold Wp rB;rw [if_pos hi,h];exact k
theorem yC {u:DS} {d:D} (h:x ρ=some d) (k:Wp s ρ W):Wp (xl x s u) ρ W:=by unfold Wp xl at *;rw [h,if_pos (show (some d).isSome=true from rfl)];exact k
theorem kS {u:DS} (h:x ρ=none) (k:Wp u ρ W):Wp (xl x s u) ρ W:=by unfold Wp xl at *;rw [h,if_neg (show ¬ (none:Option D).isSome=true from by simp)];exact k
theorem sJ {ms:List Bool} (h:F=eG n ms s) (k:s (fX n ms ds)=.no):F ds=none:=by rw [h]; unfold eG; rw [k]
theorem jm {u:DS} (h:Wp s ρ { nx:=fun ρ'=>u ρ'=.no,rt:=fun _=>False }):aM s u ρ=.no:=by
 unfold Wp at h;unfold aM;cases e:s ρ with
 | nx ρ'=>rw [e] at h; exact h
 | rt d=>rw [e] at h; exact h.elim
 | bk ρ'=>rw [e] at h; exact h.elim
 | ct ρ'=>rw [e] at h; exact h.elim
 | no=>rfl
theorem jz {u:DS} (h:s ρ=.no):aM s u ρ=.no:=by unfold aM; rw [h]
theorem pU:eX ρ=.no:=by unfold eX; rfl
theorem qu {c:aU→Option Bool} {u:DS} (h:c ρ=some true) (k:s ρ=.no):cQ c s u ρ=.no:=by unfold cQ; rw [h]; exact k
theorem MQ {c:aU→Option Bool} {u:DS} (h:c ρ=none):cQ c s u ρ=.no:=by unfold cQ; rw [h]
theorem MP (h:x ρ=none):sX x ρ=.no:=by unfold sX; rw [h]
theorem ku {es:aU→Option (List D)} (h:es ρ=some ds) (k:F ds=none):aJ F es ρ=none:=by unfold aJ; rw [h]; exact k
theorem Bd {k:Nat} {cs:List Nat} {it:aU→Option (List D)} {g:DG} {e:DE} (h:it ρ=some ds) (hr:¬ fG g e x (r0 k cs ρ) ds):JL k cs it g e x ρ=.no:=by unfold JL; rw [h]; exact if_neg hr
end
end
end VL
namespace L2
open PySem PySem.Spec PyProof.Rows VL
variable {x:Rf} {e:Sv} {st:SJ} {ps:List Rf} {f:Q6}
theorem Ae {prog:Sd} {w:Sn} {A:SG} {E:Q7→Rb→Prop} {s:Rb} {d:Q6} {n:Nat} {T:String} {Pk:Nat→Q7→Prop} {OK:SA→Prop} (src:PySem.W.KdlSrc prog w T d d n Pk OK) (hh:A.handled=none) (dm:OK s.heap) (hn:n≤Q4) {R:List Q7→Rb→Prop}
 (h:∀ (g:SA) (tk:Nat) (acc:Array Q7),ItemsOf Pk acc n→(∀ b o,s.heap.get? b=some o→g.get? b=some o)→‹7›<g.objs.size→R acc.toList { s with heap:=g,toks:=tk }):Rv ‹40› A (collect (.ref d)) R E s:=by
 have hd:=(src.there _ dm).1;unfold collect;refine Rg (wpAny_runValue (codeAny_builtin entry_proto_collect' ?_));rw [XJ PySem.F.plain_proto_collect _];show Rv _ A.in1 (newList [] >>= fun v=>again (.builtin "list.__iadd__" ⟨[v,.ref d],[]⟩)) _ _ _;refine Rg (Vj ?_);refine RM ⟨plainId_quiet WZ _,codeAny_builtin entry_list_iadd' ?_⟩;rw [XJ WZ _];have hL:(s.heap.push (XM "list" #[] 0)).get? ‹7›=some (XM "list" #[] 0):=RI _ rfl;show Rv _ A.in1 (Builtin.List.listExtendWith (.ref ‹7›) (.ref d) (.ref ‹7›)) _ _ { s with heap:=s.heap.push (XM "list" #[] 0) }
 have run:=PySem.W.kdl_extend (A:=A) (s:={ s with heap:=s.heap.push (XM "list" #[] 0) }) (R:=fun (q:YC) (u:Rb)=>∃ (g:SA) (tk:Nat) (acc:Array Q7) (c:Nat),q=.ok (.ret (.ref ‹7›))∧u={ s with heap:=g,toks:=tk }∧ItemsOf Pk acc n∧g.get? ‹7›=some (XM "list" acc c)∧∀ b o,s.heap.get? b=some o→g.get? b=some o)
  src hh (src.keep _ _ dm fun b _ o e=>Rk _ e) ‹7› (UE hd) (UE hd) (.ref ‹7›) 0 hL
  (fun g tk acc c kp hg ha=>⟨g,tk,acc,c,rfl,rfl,ha,hg,fun b o e=>kp b o (RX (Rm e)) (Rk _ e)⟩) hn
 refine SN run (fun fin u x=>?_) fun e u x=>?_
 ·cases fin with
  | done f =>obtain ⟨g,tk,acc,c,e,rfl,ha,hg,kp⟩:=x;cases e;refine Rg (wpAny_load hg ?_);exact RM (h g tk _ ha kp (Rm hg))
  | again c1 =>refine ⟨x.1,UH x.2 fun q u2 y=>?_⟩;obtain ⟨g,tk,acc,c,rfl,rfl,ha,hg,kp⟩:=y;refine Rg (wpAny_load hg ?_);exact RM (h g tk _ ha kp (Rm hg))
 ·obtain ⟨_,_,_,_,e',_⟩:=x;cases e'
section
variable {X:Cx} {pos p:VJ}
theorem pX (K:Q2) {a b:Sv} {ta tb:TE} (ha:PE X a ta) (hb:PE X b tb) (h:X.K=K:=by rfl) (hs:Er b:=by exact fun _ _=>rfl):PE X (.Subscript a b pos) (tJ (Mp K) ta tb):=Oy (Kj h) ha hb hs
theorem pA (i:Nat) {te:TE} {pos':VJ} (hN:X.N.Nodup) (he:PE X e te) (hi:X.N[i]?=some x:=by rfl) (hx:Loc X.env.scope x:=by first | exact Se rfl | exact SI rfl) (hs:Ul e (some (.Name x pos')) pos.line X.env=pure false:=by rfl) (hf:X.fn x=true∨X.env.scope.names.lookup x=some .local:=by first | exact .inl rfl | exact .inr rfl | assumption) :
 PS X (.Assign [.Name x pos'] e pos) (sF te (kA i)):=He hN hi hx he hs hf
theorem pG (i:Nat) (hN:X.N.Nodup) (hi:X.N[i]?=some x:=by rfl) (hx:Loc X.env.scope x:=by first | exact Se rfl | exact SI rfl) (hf:X.fn x=true∨X.env.scope.names.lookup x=some .local:=by first | exact .inl rfl | exact .inr rfl | assumption):PG X (.Name x pos) (kA i):=zE hN hi hx hf
theorem FT.b {K:Q2} {mg:Rf→Option Q7} {c:Option Q6} {d:SM} (t:FT K mg x st ps c f d):Binds K d ps []:=.all t.b0
theorem gD {fd:SM} {c:Option Q6} {j k:Nat} {sp:Sp} {es:List Sv} {t:TA} (F:bQ X.prog X.w X.K X.mg X.base gW k f fd ps sp) (T:FT X.K X.mg x st ps c f fd) (hr:fk j X.A) (ha:PA X (e::es) t) (hk:k≤j:=by decide) (hg:Gl X x:=by rfl) (hdb:‹41›=false:=by decide)
 (he:RH (e::es) X.env=(false,eval e X.env)::RH es X.env:=by rfl) (hpl:(TN pos (RH es X.env)).any (·.1)=false:=by rfl):PE X (.Call (.Name x p) (e::es) [] pos) (nS sp [] E0 t):=cM F (hr.mono hk) hg T.m T.F.kp T.b .nil eZ ha hdb he hpl
end
end L2
namespace VL
open PySem L2
theorem aD [cu] {K:Q2} {i:Int}:bD K (tC (.int i)) (dC (.int i)):=ai.b gY
end VL
namespace L2
open PySem PySem.Spec PyProof.Rows
theorem ve:∀ {ss:List Rf} {us:List Q7},Vals (ss.map V.str) us→Y1 us ss
 | [],_,.nil=>.nil
 | x::ss,_,.cons h r=>by
  obtain ⟨t,rfl⟩:=(show ∃ t,_=Vn x t from h)
  exact .cons x t (ve r)
theorem F9:∀ {us:List Q7} {ss:List Rf},Y1 us ss→Vals (ss.map V.str) us
 | _,_,.nil=>.nil
 | _,_,.cons x t r=>.cons ⟨t,rfl⟩ (F9 r)
noncomputable def G7 (K:Q2):List V→Hp→VK→Prop:=fun xs H Q=>∃ (a:Q6) (ss:List Rf),xs=[.ref a]∧mS K H a (ss.map V.str)∧ss.length<64∧∀ ms:List Rf,ms.Perm ss→Xg ms=true→∀ D,H D=none→Q (.ref D) (upd H D (.lst (ms.map V.str)))
variable {X:Cx}
theorem wC {K:Q2} (hK:X.K=K) (hx:X.ex=[]):ma X (.builtin "sorted") (G7 K):=by
 subst hK;intro pins s σ H xs us Q I r h;obtain ⟨a,ss,rfl,hq,h64,q⟩:=h;cases r with
 | cons r1 r =>
  cases r;cases (show _=RQ a from r1);obtain ⟨its,rv,pl,_⟩:=I.list hq;obtain ⟨m,F⟩:=I.fr;have hl:its.length=ss.length:=by rw [← rv.length,Q5]
  refine sorted_N_str F (HH (h:=s.heap)) pl.isList (ve rv) (by lia) fun h' vs' ss' e F' N' hs pm up=>?_;have nD:=N' _ Q9
  have hD:s.heap.get? (‹7›+1)=none:=by
   cases e:s.heap.get? (‹7›+1) with
   | none=>rfl
   | some o=>exact absurd (Rm e) (Nat.not_lt.mpr (VD _))
  have hn:H (‹7›+1)=none:=(I.out hx hD).h;refine ⟨.ref _,upd H _ (.lst (ss'.map V.str)),I.HI (t':=s.toks) hx F F' N' hD ?_,rfl,q ss' pm up _ hn⟩;exact ⟨by rw [Q5,pm.length_eq]; have:=Rw; lia,vs',e,F9 hs,nD.1⟩
theorem y0 {prog:Sd} {w:Sn} {A:SG} {E:Q7→Rb→Prop} {s:Rb} {d:Q6} {ep:Nat} {kvs:List (Key×Q7)} (hh:A.handled=none) (hat:s.heap.DictAt (di prog w) d kvs ep) (lo:(d==Tu)=false) {ss:List Rf} (hk:kvs.map (·.1)=ss.map R1) (hl:ss.length<64) {Q:Q7→Rb→Prop}
 (h:∀ (g:SA) (tk:Nat) (D:Q6) (out:List Q7) (ms:List Rf) (c:Nat),Y1 out ms→ms.Perm ss→Xg ms=true→‹7›≤D→g.get? D=some (XM "list" out.toArray c)→(∀ b o,s.heap.get? b=some o→g.get? b=some o)→Q (.ref D) { s with heap:=g,toks:=tk }):Rv ‹40› A (call (.builtin "sorted") [.ref d]) Q E s:=by
 have hline:Q4=16777216:=Rw;have hn:kvs.length=ss.length:=by rw [← Q5 (f:=(·.1)),hk,Q5]
 refine Calls.call_function_entry kind_sorted plain_sorted entry_sorted (args_sorted1 _) ?_;unfold Builtin.«sorted»;refine Rg (m:=checkCount "sorted" 1 1 _) (RM ?_);refine Rg (Ae (A:=A.in1) (PySem.W.kdl_dict (kvs:=kvs) (ep:=ep) lo) hh hat (by lia) fun g tk acc ha kp big=>?_)
 have hi:Y1 acc.toList ss:=by
  have key:∀ (l:List Q7) (ks:List Rf),l.length=ks.length→(∀ (j:Nat) (v:Q7),l[j]?=some v→∃ x t,ks[j]?=some x∧v=Vn x t)→Y1 l ks:=by
   intro l;induction l with
   | nil=>intro ks h1 _; cases ks with | nil=>exact .nil | cons _ _=>cases h1
   | cons v l ih =>
    intro ks h1 h2;cases ks with
    | nil=>cases h1
    | cons x ks =>obtain ⟨y,t,e1,rfl⟩:=h2 0 v rfl;cases e1;exact .cons _ _ (ih ks (by simpa using h1) fun j v e=>h2 (j+1) v (by simpa using e))
  refine key _ _ (by rw [SK,ha.1,hn]) fun j v hv=>?_;obtain ⟨k,x,e1,e2⟩:=ha.2 j v (by rw [← Ur]; exact hv);have e3:(kvs.map (·.1))[j]?=some k:=by rw [Ro,e1]; rfl
  rw [hk,Ro] at e3;cases e4:ss[j]? with
  | none=>rw [e4] at e3; cases e3
  | some y =>
   rw [e4] at e3;cases e3;have e2:vT (.inr y) v=true:=e2;rcases dM e2 with ⟨n,t,z1,rfl⟩ | ⟨x,t,z1,z2⟩
   ·cases z1
   ·cases z1; exact ⟨y,t,rfl,z2⟩
 refine Rg (wpAny_newList ?_ (by rw [SK,ha.1]; lia));have hD:(g.push (XM "list" acc.toList.toArray 0)).get? g.objs.size=some (XM "list" acc.toList.toArray 0):=RI _ rfl;show Rv _ _ _ _ _ { s with heap:=g.push (XM "list" acc.toList.toArray 0),toks:=tk };have hal:acc.toList.length=ss.length:=by rw [SK,ha.1,hn]
 refine Rg (Td (wpAny_call_entry slot_list_sort ⟨_,hD,rfl⟩ entry_list_sort (list_sort_treeK strKind_oneLt hD hi.keysOf (fun v1 v2 r e=>keyKind_strs (e ▸ hi)) (by lia) fun st' pm so=>⟨_,rfl,?_⟩) (args_list_sort _)));obtain ⟨ms,a1,a2,a3⟩:=sorted_out_str hi pm so;obtain ⟨c,hc⟩:=sortedHeap_at (out:=Array.map (fun x=>x.snd) (arrOf st')) hD;exact RM ⟨_,rfl,h _ tk g.objs.size (Array.map (fun x=>x.snd) (arrOf st')).toList ms c a1 a2 a3 (W6 big) (by rw [Array.toArray_toList]; exact hc) fun b o e=>(sortedHeap_old (RX (Rm (kp b o e))) (by rw [size_push']; exact Ws (Rm (kp b o e)))).trans (Rk _ (kp b o e))⟩
noncomputable def DP:List V→Hp→VK→Prop:=fun xs H Q=>∃ (a:Q6) (kvs:List (Key×V)) (ss:List Rf),xs=[.ref a]∧H a=some (.dK kvs)∧kvs.map (·.1)=ss.map R1∧ss.length<64∧∀ ms:List Rf,ms.Perm ss→Xg ms=true→∀ D,H D=none→Q (.ref D) (upd H D (.lst (ms.map V.str)))
theorem BI (hc:X.calm=true):ma X (.builtin "sorted") DP:=by
 intro pins s σ H xs us Q I r h;obtain ⟨a,kvs,ss,rfl,hr,hk,hl,q⟩:=h;cases r with
 | cons r1 r =>
  cases r;cases (show _=RQ a from r1);obtain ⟨hz,lo,vs,r,o,es,ep,e1,c1,c2,c3⟩:=I.dm a _ hr;have ek:vs.map (·.1)=ss.map R1:=by rw [← hk]; exact (KV.keys r).symm
  refine y0 (ss:=ss) (I.ok.hd hc) ⟨o,es,e1,c1,c2,c3⟩ lo ek hl fun g tk D out ms c i1 pm up big hD kp=>?_;have I3:=I.laid (a:=D) (o:=.lst (ms.map V.str)) (t':=tk) kp big ⟨by rw [Q5,pm.length_eq]; have:=Rw; lia,out,c,F9 i1,hD⟩;exact ⟨.ref D,upd H D (.lst (ms.map V.str)),I3,rfl,q ms pm up D (I.dm.fresh big)⟩
end L2
namespace VL
variable {a:DE}
open PySem L2 PyProof.Rows
section
open Classical
section
variable [cu] {K:Q2}
def Lz (a b:Rf):Prop:=¬ b.cps.toList<a.cps.toList
omit [cu] in
theorem vj:∀ {ss:List Rf},Xg ss=true→ss.Pairwise Lz:=by
 have key:∀ (r:List Rf) (x:Rf),risingS x r=true→(x::r).Pairwise Lz:=by
  intro r;induction r with
  | nil=>intro x _; exact List.pairwise_singleton _ _
  | cons y r ih =>
   intro x h;rw [risingS.eq_2,RS,ltCps_eq] at h;have h1:Lz x y:=by have:=h.1;simpa [Lz] using this
   have h2:=ih y h.2;refine Yf.mpr ⟨fun z hz=>?_,h2⟩;rcases Ri.mp hz with rfl | hz
   ·exact h1
   ·have h3:=(Yf.mp h2).1 z hz;unfold Lz at *;intro c;rcases strKind.negTrans z.cps.toList y.cps.toList x.cps.toList (decide_eq_true c) with q | q
    ·exact h3 (of_decide_eq_true q)
    ·exact h1 (of_decide_eq_true q)
 intro ss h;cases ss with
 | nil=>exact .nil
 | cons x r=>exact key r x h
omit [cu] in
theorem HS {a b:Rf} (h1:Lz a b) (h2:Lz b a):a=b:=by unfold Lz at *;have:a.cps.toList=b.cps.toList:=strKind.total _ _ (decide_eq_false h2) (decide_eq_false h1);cases a; cases b;simpa using this
def gT (ss:List Rf):List Rf:=if h:∃ ms:List Rf,ms.Perm ss∧Xg ms=true then h.choose else []
omit [cu] in
theorem xM {ms ss:List Rf} (p:ms.Perm ss) (h:Xg ms=true):ms=gT ss:=by
 have ex:∃ ms:List Rf,ms.Perm ss∧Xg ms=true:=⟨ms,p,h⟩
 unfold gT;rw [dif_pos ex];obtain ⟨h1,h2⟩:=ex.choose_spec;exact List.Perm.eq_of_pairwise (fun a b _ _ h1 h2=>HS h1 h2) (vj h) (vj h2) (p.trans h1.symm)
omit [cu] in
def ym (a:DE):aU→Option (List D):=fun ρ=>match a ρ with
 | some (.lst ds)=>(match KZ ds with
  | some ss=>if ss.length<64 then some ((gT ss).map D.str) else none
  | none=>none)
 | _=>none
omit [cu] in
theorem BA {ρ:aU} {ss:List Rf} (h:a ρ=some (.lst (ss.map D.str))) (hl:ss.length<64):ym a ρ=some ((gT ss).map D.str):=by unfold ym; rw [h]; dsimp only; rw [yI]; exact if_pos hl
theorem DJ {ta:TE} (ha:bD K ta a):bC K (Dv (G7 K) (cF ta fA)) (ym a):=fun {B Z os ρ σ H Q es} f q k=>by
 unfold ym at q;split at q
 ·rename_i ds e0;split at q
  ·rename_i ss e1;split at q
   ·rename_i hl;cases q;have:=u6 e1;subst this;refine ha f e0 fun v H1 s1 i1=>?_;obtain ⟨p,vs,rfl,hz,hr,hn,r⟩:=i1.vX;have ev:=r.BZ;subst ev;refine ⟨p,ss,rfl,.inl hr,hl,fun ms pm up D hD=>?_⟩;have hs:Q4=16777216:=Rw;have e9:=xM pm up;refine k D _ _ (s1.trans (cx hD)) (bu.free s1 hD) br (by rw [Q5,pm.length_eq]; lia) ?_;rw [← e9];exact IsL.strs _
   ·cases q
  ·cases q
 ·cases q
end
end
end VL
namespace L2
open PySem PySem.Spec PyProof.Rows VL
def vb (C:Q6) (m:Rf) (sp:Sp) (E:XK) (ta:TE) (t:TA):TE:=fun σ H Q=>ta σ H fun x H1=>∃ a dx fs,x=.ref a∧H1 a=some (.ins C dx fs)∧fs.lookup m=none∧t σ H1 fun vs H2=>sp (x::vs) H2 Q E
def B7 (K:Q2) (m:Rf) (ta:TE) (t:TA):TE:=fun σ H Q=>ta σ H fun x H1=>∃ a C dx fs f,x=.ref a∧H1 a=some (.ins C dx fs)∧uT K C∧Meth K C m f∧fs.lookup m=none∧t σ H1 fun _ _=>False
noncomputable def K6 (K:Q2) (F:Q7) (iv ie:Nat) (C:Q6) (m:Rf) (sp:Sp) (ta:TE) (t:TA):TS:=fun D σ H=>ta σ H fun x H0=>∃ a dx fs,x=.ref a∧H0 a=some (.ins C dx fs)∧fs.lookup m=none∧t σ H0 fun vs H1=>sp (x::vs) H1 (fun _ H'=>D.nx σ H') fun cls _ H' =>∃ C,cls=.ref C∧Vc K (.ref C) F=some true∧∀ a,H' a=none→D.nx (((σ.set ie (some (.ref a))).set iv (some (.ref a))).set ie none) (upd H' a (uj a C))
section
variable {X:Cx} {CX:Eu} {E:XK} {k:Nat} {C f:Q6} {fd:SM} {ps:List Rf} {sp:Sp} {m:Rf} {o e:Sv} {es:List Sv} {apos pos:VJ} {ta:TE} {t:TA} {pl:Sem Bool}
theorem Hk {e:Sv}:PE X e (fun _ _ _=>False):=fun _ _ _ _ _ _ h=>h.elim
theorem eY (c:uT X.K C) (hm:Meth X.K C m f) (F:bQ X.prog X.w X.K X.mg X.base CX k f fd ps sp) (hr:fk k X.A) (hb:Binds X.K fd ps []) (hx:Passes CX X E) (he:PE X o ta) (ha:PA X (e::es) t)
 (hst:RH (e::es) X.env=(false,eval e X.env)::RH es X.env:=by rfl) (hpl:(TN pos (RH es X.env)).any (·.1)=false:=by rfl)
 (ht:eval ‹66› X.env=(do
  let ov ← eval o X.env
  W7 apos.atName
  let (f,first) ← VS [ov] (VX ov m pl)
  Yy pos f first (TN pos (RH (e::es) X.env)) (WQ pos (U4 [] X.env))):=by rfl) :
 PE X ‹66› (vb C m sp E ta t):=by
 intro pins s σ H Q I q;refine T4 (pl:=pl) (cP (he pins s σ H _ I q) fun u s1 ⟨x,H1,I1,rx,a,dx,fs,ex,ea,el,q⟩=>?_) ht;subst ex;obtain rfl:u=RQ a:=rx;refine j4 I1 ea c hm el ?_;refine Tv (first:=[.ref a]) (h₀:=X.base) I.ok.mod.Jb hm.kp (cP (ha pos pins s1 σ H1 _ I1 q) fun us s2 ⟨vs,H2,I2,r,q2⟩=>⟨I2.qw,?_⟩) hst hpl;have q':sp ((V.ref a::vs)++[]) H2 Q E:=by rw [Ss]; exact q2
 exact vy (us:=.ref a::us) (vs:=.ref a::vs) F hr hb .nil hx I2 (.cons rfl r) q'
theorem je (he:PE X o ta) (ha:PA X (e::es) t)
 (hst:RH (e::es) X.env=(false,eval e X.env)::RH es X.env:=by rfl) (hpl:(TN pos (RH es X.env)).any (·.1)=false:=by rfl)
 (ht:eval ‹66› X.env=(do
  let ov ← eval o X.env
  W7 apos.atName
  let (f,first) ← VS [ov] (VX ov m pl)
  Yy pos f first (TN pos (RH (e::es) X.env)) (WQ pos (U4 [] X.env))):=by rfl) :
 PE X ‹66› (B7 X.K m ta t):=by
 intro pins s σ H Q I q;refine T4 (pl:=pl) (cP (he pins s σ H _ I q) fun u s1 ⟨x,H1,I1,rx,a,C,dx,fs,f,ex,ea,c,hm,el,q⟩=>?_) ht;subst ex;obtain rfl:u=RQ a:=rx;refine j4 I1 ea c hm el ?_;exact Tv (first:=[.ref a]) (h₀:=X.base) I.ok.mod.Jb hm.kp (cP (ha pos pins s1 σ H1 _ I1 q) fun us s2 ⟨vs,H2,I2,r,q2⟩=>q2.elim) hst hpl
end
section
variable {X:Cx} {k:Nat} {C f:Q6} {fd:SM} {ps:List Rf} {sp:Sp} {m y n v:Rf} {o e:Sv} {es:List Sv} {ta:TE} {t:TA} {F:Q7} {iv ie:Nat} {p1 p2 p3 p4 p5 p6 p7 p8 pos:VJ} {pl:Sem Bool}
theorem rF (ow:Ak X) (c:uT X.K C) (hmm:Meth X.K C m f) (FO:bQ X.prog X.w X.K X.mg X.base (nQ X.prog X.w) k f fd ps sp) (hr:fk k X.A) (hb:Binds X.K fd ps [])
 (ho:∀ xe,PE (X.jR xe) o ta) (ha:∀ xe,PA (X.jR xe) (e::es) t) (hN:X.N.Nodup) (hv:X.N[iv]?=some v) (hn:X.N[ie]?=some n) (lv:X.env.scope.names.lookup v=some .local) (ln:X.env.scope.names.lookup n=some .local) (hy:Gl X y) (my:X.mg y=some F)
 (hdy:(y==("__debug__" : Rf))=false:=by decide) (hdn:(n==("__debug__" : Rf))=false:=by decide)
 (he:RH (e::es) X.env=(false,eval e X.env)::RH es X.env:=by rfl) (hpl:(TN p2 (RH es X.env)).any (·.1)=false:=by rfl)
 (ht:eval (.Call (.Attribute o m p1) (e::es) [] p2) X.env=(do
  let ov ← eval o X.env
  W7 p1.atName
  let (f,first) ← VS [ov] (VX ov m pl)
  Yy p2 f first (TN p2 (RH (e::es) X.env)) (WQ p2 (U4 [] X.env))):=by rfl)
 (hs:Ul (.Call (.Attribute o m p1) (e::es) [] p2) none p3.line X.env=pure false:=by rfl) (hs2:Ul (.Name n p6) (some (.Name v p5)) p7.line X.env=pure false:=by rfl)
 (hcd:(n==("__classdict__" : Rf))=false:=by decide) :
 PS X (.Try [.Expr (.Call (.Attribute o m p1) (e::es) [] p2) p3] [.ExceptHandler (some (.Name y p4)) (some n) [.Assign [.Name v p5] (.Name n p6) p7] p8] [] [] pos) (K6 X.K F iv ie C m sp ta t):=by
 intro pins s σ H D I h;refine WY (UD (V1 ?_ I.quiet hs));refine T4 (pl:=pl) (cP (ho ‹104› pins s σ H _ (I.jR _) h) fun u s0 ⟨x0,H0,I0,rx,a0,dx,fs,ex,ea,el,q⟩=>?_) ht;subst ex;obtain rfl:u=RQ a0:=rx;have I0:=I0.gX;refine j4 I0 ea c hmm el ?_;refine Tv (first:=[.ref a0]) (h₀:=X.base) I.ok.mod.Jb hmm.kp ?_ he hpl;refine cP (ha ‹104› p2 pins s0 σ H0 _ (I0.jR _) q) ?_;rintro us s1 ⟨vs,H1,I1,r,q⟩;refine ⟨I1.gX.qw,?_⟩;have I1:=I1.gX;have r2:Vals (V.ref a0::vs) (RQ a0::us):=.cons rfl r;have hl:(RQ a0::us).length=ps.length:=by rw [← r2.length]; exact FO.len _ _ _ _ q
 have hb1:=hb s1 (RQ a0::us) I1.qw (by rw [Ss]; exact hl);rw [Ss] at hb1;refine Vs (UH (FO.run X.A X.stack s1 H1 ⟨RQ a0::us,[]⟩ (RQ a0::us) (V.ref a0::vs) _ _ hr I1.KI hb1 r2 q) fun r s' hq=>?_);cases r with
 | ok fl =>
  cases fl with
  | ret u =>obtain ⟨v',H',I',_,q'⟩:=I1.after hq;exact Te (Te ⟨σ,H',I',q'⟩)
  | next=>exact S1 hq
  | brk=>exact S1 hq
  | cont=>exact S1 hq
 | error ev =>
  show 0
  have I1:Inv X pins σ H' { s' with heap:=h1,toks:=s'.toks }:=I'.D9 g1 fun b hb=>by
   rcases Ri.mp hb with rfl | hb
   ·exact o2
   ·rw [Q3.mp hb]; exact o1
  show 6
  show 8
  refine PySem.W.Looks.at (YY (M:=model X.prog X.w) I2.qw LT hx) ?_;refine codeAny_handlers_suite_as (land (env:=X.env) (outer:=X.outer) (s:={ s' with heap:=h2 }) r2 fun h3 r3 g3=>?_);rw [← ow.mY] at g3;have I3:Inv X pins σ H' { s' with heap:=h3,toks:=s'.toks }:=I2.D9 g3 fun b hb=>by rw [Q3.mp hb]; exact o3
  have I4:=I3.K0 (u:=uj a C) o1 r3.exc.ok;refine qX (X:=X.marked (.ref a)) (v:=.ref a) (I4.marked (.ref a)) hN hn (.inl ln) rfl (fun s5 I5=>?_) (.inr ln);have body:wI ((X.marked (.ref a)).jR fun _ _=>False) [.Assign [.Name v p5] (.Name n p6) p7] (sF (i8 ie) (kA iv)):=az (He hN hv (.inl lv) (Hj hn (.inl ln) hdn hcd) hs2 (.inr lv));have hlen:ie < σ.length:=by rw [I.len]; exact (Rp.mp hn).1
  refine SN (body pins s5 _ _ { nx:=fun σ' H2=>σ'=(σ.set ie (some (.ref a))).set iv (some (.ref a))∧H2=upd H' a (uj a C),rt:=fun _ _=>False } (I5.jR _) ⟨.ref a,by rw [SS hlen],rfl,rfl⟩) (fun fl s6 h6=>?_) fun _ _ z=>z.elim;cases fl with
  | ret u=>obtain ⟨_,_,_,_,_,z⟩:=h6; exact z.elim
  | brk=>obtain ⟨_,_,_,z⟩:=h6; exact z.elim
  | cont=>obtain ⟨_,_,_,z⟩:=h6; exact z.elim
  | next =>obtain ⟨σ',H2,I6,rfl,rfl⟩:=h6;have I6:=I6.unmarked I.ok;obtain ⟨m,hm6,hl6⟩:=I6.loc;refine wpAny_nameGoes_keeps (show X.env.kindOf n=some .local from ln) hm6 (by rw [I.ok.kind]; rfl) fun h7 w7 e7 b7=>?_;exact ⟨_,_,I6.unset hn ln hN hm6 hl6 e7 b7,q' a o1.h⟩
end
end L2
namespace VL
variable {neg:Bool} {ρ:aU} {ks:List Rf} {ds:List D} {H:Hp} {Z:Q6→Prop} {d:D} {Q:VK} {x:DE} {e:D} {tr:TA} {m:Rf} {t:TA} {vs:List V} {E:XK} {N:List Rf} {W:Wk} {tc:TT} {ms:List Bool} {es:List D} {a:DE}
open PySem L2
section
open Classical
section
variable [cu] {K:Q2} {ta tb:TE} {a b:DE} {C0:Q6}
def kX:List Rf→List D→Rf→Option D
 | k::ks,d::ds,x=>if k=x then some d else kX ks ds x
 | _,_,_=>none
omit [cu] in
theorem yF {x:Rf}:∀ {kvs:List (Key×V)} {ks:List Rf},kvs.map (·.1)=ks.map R1→(jS kvs (R1 x)).isSome=decide (x∈ks)
 | [],[],_=>rfl
 | [],_::_,h=>by cases h
 | _::_,[],h=>by cases h
 | p::kvs,k::ks,h=>by
  obtain ⟨h1,h2⟩:=Ub h;have h1:p.1=R1 k:=h1;by_cases e:k=x
  ·subst e; rw [ll h1]; simp
  ·rw [lp (by rw [h1]; exact fun z=>e (Wj z)),yF h2];simp [S6 e]
theorem Dm {H:Hp} {Z:Q6→Prop} {x:Rf} {d:D}:∀ {kvs:List (Key×V)} {ks:List Rf} {ds:List D},kvs.map (·.1)=ks.map R1→IsL K H Z (kvs.map (·.2)) ds→kX ks ds x=some d→∃ v,jS kvs (R1 x)=some v∧Is K H Z v d
 | [],[],_,_,_,g=>by cases g
 | [],_::_,_,h,_,_=>by cases h
 | _::_,[],_,h,_,_=>by cases h
 | p::kvs,k::ks,_,h,.cons i r,g=>by
  obtain ⟨h1,h2⟩:=Ub h;have h1:p.1=R1 k:=h1;unfold kX at g;by_cases e:k=x
  ·subst e;rw [if_pos rfl] at g;cases g;exact ⟨_,ll h1,i⟩
  ·rw [if_neg e] at g;rw [lp (by rw [h1]; exact fun z=>e (Wj z))];exact Dm h2 r g
noncomputable def um (C0:Q6) (neg:Bool) (b a:DE):DE:=fun ρ=>match b ρ with
 | some (.str x)=>(match a ρ with
  | some (.dsk C ks _)=>if C=C0 then some (.bl (if neg then !decide (x∈ks) else decide (x∈ks))) else none
  | _=>none)
 | _=>none
omit [cu] in
theorem Iw {x:Rf} (hb:b ρ=some (.str x)) (ha:a ρ=some (.dsk C0 ks ds)):um C0 neg b a ρ=some (.bl (if neg then !decide (x∈ks) else decide (x∈ks))):=by unfold um; rw [hb,ha]; exact if_pos rfl
theorem Kr (hc:uT K C0) (hn:iV K C0 "floors") (hb:bD K tb b) (ha:bD K ta a) {B:Hp} {os:Own} {σ:L2.St} (f:Fr K B Z os ρ σ H) (q:um C0 neg b a ρ=some d) (k:∀ v H',bu H H'→Is K H' (cE Z os) v d→Q v H') :
 tb σ H fun y H1=>B9 K ta "floors" σ H1 fun x H2=>∃ p o,x=.ref p∧xD H2 p y o∧Q (.bl (if neg then !o.isSome else o.isSome)) H2:=by
 unfold um at q;split at q
 ·rename_i x e1;split at q
  ·rename_i C ks ds e2;split at q
   ·rename_i e;subst e;cases q;refine hb f e1 fun v H1 s1 i1=>ha ‹70› e2 fun u H2 s2 i2=>?_;cases i2 with
    | @dsk x1 _ dx p kvs _ _ hz hy h hp hk hl r =>
     refine ⟨x1,C,dx,_,_,rfl,h,hc,hn,rfl,p,jS kvs (R1 x),rfl,?_,?_⟩
     ·rw [i1.isStr]; exact xD.k (k:=R1 x) hp
     ·rw [yF hk]; exact k _ _ ‹48› (.bl _)
   ·cases q
  ·cases q
 ·cases q
theorem lz (hc:uT K C0) (hn:iV K C0 "floors") (hb:bD K tb b) (ha:bD K ta a):ai K (Du tb (B9 K ta "floors")) (um C0 true b a):=fun f q k=>Kr (neg:=true) hc hn hb ha f q k
def BB (C0:Q6) (a:DE):aU→Option (List D):=fun ρ=>match a ρ with
 | some (.dsk C ks _)=>if C=C0∧ks.length<64 then some ((gT ks).map D.str) else none
 | _=>none
omit [cu] in
theorem IE (h:a ρ=some (.dsk C0 ks ds)) (hl:ks.length<64):BB C0 a ρ=some ((gT ks).map D.str):=by unfold BB; rw [h]; exact if_pos ⟨rfl,hl⟩
theorem JG (hc:uT K C0) (hn:iV K C0 "floors") (ha:bD K ta a):bC K (Dv DP (cF (B9 K ta "floors") fA)) (BB C0 a):=fun {B Z os ρ σ H Q es} f q k=>by
 unfold BB at q;split at q
 ·rename_i C ks ds e0;split at q
  ·rename_i hl;obtain ⟨rfl,hl⟩:=hl;cases q;refine ha f e0 fun u H1 s1 i1=>?_;cases i1 with
   | @dsk x1 _ dx p kvs _ _ hz hy h hp hk hl2 r =>refine ⟨x1,C,dx,_,_,rfl,h,hc,hn,rfl,p,kvs,ks,rfl,hp,hk,hl,fun ms pm up D hD=>?_⟩;have hs:Q4=16777216:=Rw;have e9:=xM pm up;refine k D _ _ (s1.trans (cx hD)) (bu.free s1 hD) br (by rw [Q5,pm.length_eq]; lia) ?_;rw [← e9];exact IsL.strs _
  ·cases q
 ·cases q
section
variable {E:XK} {C:Q6}
def yw (E:XK) (C:Q6) (K:Q2) (t:TA) (x:DE):Prop:=∀ {B:Hp} {Z:Q6→Prop} {os:Own} {ρ:aU} {σ:L2.St} {H:Hp} {d:D},Fr K B Z os ρ σ H→x ρ=some d→(∀ H',bu B H'→E (.ref C) none H')→∀ Q,t σ H Q
def js (a x:DE):DE:=fun ρ=>match a ρ with
 | some _=>x ρ
 | none=>none
omit [cu] in
theorem mF (ha:a ρ=some d) (hx:x ρ=some e):js a x ρ=some e:=by unfold js; rw [ha]; exact hx
theorem gz {t:TE} (h:Dc E C K t x):yw E C K (cF t tr) x:=fun f e p Q=>h f e p _
theorem ju (ha:bD K ta a) (h:yw E C K tr x):yw E C K (cF ta tr) (js a x):=fun {B Z os ρ σ H d} f e p Q=>by
 unfold js at e;split at e
 ·rename_i d' e1;exact ha f e1 fun v H1 s1 i1=>h ‹70› e p _
 ·cases e
def jn (C0:Q6) (a x:DE):DE:=fun ρ=>match a ρ with
 | some (.dsk C _ _)=>if C=C0 then x ρ else none
 | _=>none
omit [cu] in
theorem wj (ha:a ρ=some (.dsk C0 ks ds)) (hx:x ρ=some e):jn C0 a x ρ=some e:=by unfold jn; rw [ha]; dsimp only; rw [if_pos rfl]; exact hx
theorem nT {g:Q6} (hc:uT K C0) (hg:Meth K C0 m g) (hm:(m == "floors")=false) (ha:bD K ta a) (h:yw E C K t x):Dc E C K (B7 K m ta t) (jn C0 a x):=fun {B Z os ρ σ H d} f e p Q=>by
 unfold jn at e;split at e
 ·rename_i C' ks ds e1;split at e
  ·rename_i e2;subst e2;refine ha f e1 fun v H1 s1 i1=>?_;cases i1 with
   | @dsk x1 _ dx q kvs _ _ hz hy h1 hp hk hl r=>exact ⟨x1,C',dx,_,g,rfl,h1,hc,hg,by rw [Sr,hm]; rfl,h ‹70› e p _⟩
  ·cases e
 ·cases e
def qD (cs:List Q6) (a x:DE):DE:=fun ρ=>match a ρ with
 | some (.ins C)=>if C∈cs then x ρ else none
 | _=>none
omit [cu] in
theorem wm {cs:List Q6} {C':Q6} (ha:a ρ=some (.ins C')) (hc:C'∈cs) (hx:x ρ=some e):qD cs a x ρ=some e:=by unfold qD; rw [ha]; dsimp only; rw [if_pos hc]; exact hx
def nP (K:Q2) (m:Rf) (cs:List Q6):Prop:=∀ C∈cs,uT K C∧∃ g,Meth K C m g
omit [cu] in
theorem nP.nil:nP K m []:=fun _ h=>by cases h
omit [cu] in
theorem nP.cons {m:Rf} {C' g:Q6} {cs:List Q6} (c:uT K C') (h:Meth K C' m g) (r:nP K m cs):nP K m (C'::cs):=fun C hC=>by
 rcases Ri.mp hC with rfl | hC
 ·exact ⟨c,g,h⟩
 ·exact r C hC
theorem vd {cs:List Q6} (hc:nP K m cs) (ha:bD K ta a) (h:yw E C K t x):Dc E C K (B7 K m ta t) (qD cs a x):=fun {B Z os ρ σ H d} f e p Q=>by
 unfold qD at e;split at e
 ·rename_i C' e1;split at e
  ·rename_i e2;obtain ⟨c1,g,c2⟩:=hc _ e2;refine ha f e1 fun v H1 s1 i1=>?_;cases i1 with
   | @ins x1 _ dx hz hH=>exact ⟨x1,C',dx,_,g,rfl,hH,c1,c2,rfl,h ‹70› e p _⟩
  ·cases e
 ·cases e
end
end
end
section
open Classical
section
variable [cu] {K:Q2} {C:Q6}
def Ci (C:Q6):Sp:=fun vs H Q _=>∃ x dx,vs=[.ref x]∧H x=some (.ins C dx [])∧∀ p,H p=none→Q .non (upd (upd H p (.dK [])) x (.ins C dx [("floors", .ref p)]))
theorem Ia (hc:uT K C) (hn:iV K C "floors") (h:Ci C vs H Q E):Ol K (i8 0) Gq "floors" { nx:=fun _ H'=>Q .non H',rt:=Q } (L2.start N vs) H:=by obtain ⟨x,dx,rfl,hx,k⟩:=h;intro p hp;have ne:x≠p:=bT hx hp;refine ⟨.ref x,rfl,x,C,dx,[],rfl,by rw [a5 ne]; exact hx,hc,hn,by decide,?_⟩;exact k p hp
@[irreducible] def AV (C:Q6) (i:Nat):DS:=fun ρ=>if i < ρ.length then .nx (ρ.set i (.dk C [] [])) else .no
theorem Jv {fr:Fm} {i:Nat}:de fr K (sF (La C (Ci C) [] E fA) (kA i)) (AV C i):=fun {B Z os ρ σ H En} f p=>by
 unfold AV at p;split at p
 ·rename_i hi;intro x dx hx hd ne;refine ⟨x,dx,rfl,br,fun q hq=>⟨rfl,?_⟩⟩;have h1:upd H dx (.own x) x=none:=by rw [a5 (S6 ne)]; exact hx
  have qx:q≠x:=fun z=>by subst z; rw [br] at hq; cases hq
  have q1:upd H dx (.own x) q=none:=by rw [a5 qx] at hq; exact hq
  have qd:q≠dx:=fun z=>by subst z; rw [br] at q1; cases q1
  have q0:H q=none:=by rw [a5 qd] at q1; exact q1
  have same:∀ a u,H a=some u→upd (upd (upd (upd H dx (.own x)) x (.ins C dx [])) q (.dK [])) x (.ins C dx [("floors", .ref q)]) a=some u:=fun a u e=>by rw [a5 (bT e hx),a5 (bT e q0),a5 (bT e hx),a5 (bT e hd)]; exact e
  have st:=f.step (H':=upd (upd (upd (upd H dx (.own x)) x (.ins C dx [])) q (.dK [])) x (.ins C dx [("floors", .ref q)])) (i:=i) hi (o:=[x,dx,q]) (s:=.dk C [] []) (v:=some (.ref x)) (fun a u e _=>same a u e) (fun a ha=>let ⟨u,e⟩:=(f.sl i).xu ha; ⟨u,same a u e⟩) (by simp [S6 ne,S6 qx,S6 qd])
   (fun a ha=>by
    simp only [Ri,TU,or_false] at ha;rcases ha with rfl | rfl | rfl
    ·exact .inr hx
    ·exact .inr hd
    ·exact .inr q0)
   ⟨x,dx,q,rfl,rfl,br,by rw [a5 ne,a5 (S6 qd),a5 ne,br],[],by rw [a5 qx,br],rfl,Th _,.nil⟩
  exact p _ _ _ st.1 st.2
 ·show 12
theorem Ji {i:Nat} (hi:i < ρ.length) (k:W.nx (ρ.set i (.dk C [] []))):Wp (AV C i) ρ W:=by unfold Wp AV; rw [if_pos hi]; exact k
def GI (C:Q6):Sp:=fun vs H Q _=>∃ x dx p kvs n v,vs=[.ref x,.str n,v]∧H x=some (.ins C dx [("floors", .ref p)])∧H p=some (.dK kvs)∧kvs.length<Q4∧Q (.str "ok") (upd H p (.dK (putK kvs (R1 n) v)))
def Cj (C:Q6):Sp:=fun vs H Q _=>∃ x dx p kvs n v,vs=[.ref x,.str n]∧H x=some (.ins C dx [("floors", .ref p)])∧H p=some (.dK kvs)∧jS kvs (R1 n)=some v∧Q (.str "ok") (upd H p (.dK (rV kvs (R1 n))))
theorem JR (hc:uT K C) (hn:iV K C "floors") (h:GI C vs H Q E):t6 (Lm (B9 K (i8 0) "floors") (i8 1) (i8 2)) (sE (tC (.str "ok"))) { nx:=fun _ H'=>Q .non H',rt:=Q } (L2.start N vs) H:=by obtain ⟨x,dx,p,kvs,n,v,rfl,hx,hp,hl,k⟩:=h;exact ⟨v,rfl,.ref x,rfl,x,C,dx,_,_,rfl,hx,hc,hn,rfl,.str n,rfl,p,_,rfl,IX.k (k:=R1 n) hp hl,k⟩
theorem IB (hc:uT K C) (hn:iV K C "floors") (h:Cj C vs H Q E):t6 (Ar (Gp (B9 K (i8 0) "floors") (i8 1))) (sE (tC (.str "ok"))) { nx:=fun _ H'=>Q .non H',rt:=Q } (L2.start N vs) H:=by obtain ⟨x,dx,p,kvs,n,v,rfl,hx,hp,hv,k⟩:=h;exact ⟨.ref x,rfl,x,C,dx,_,_,rfl,hx,hc,hn,rfl,p,rfl,.inl ⟨kvs,.inl hp⟩,.str n,rfl,kvs,R1 n,v,hp,rfl,hv,k⟩
def Aj (K:Q2) (t:TS) (s:DS):Prop:=∀ {B:Hp} {Z:Q6→Prop} {os:Own} {ρ ρ':aU} {σ:L2.St} {H:Hp} {E:Ends},Fr K B Z os ρ σ H→s ρ=.nx ρ'→(∀ os' σ' H',Fr K B Z os' ρ' σ' H'→E.rt (.str "ok") H')→t E σ H
theorem qi {t u:TS} {s w:DS} (h1:de .v K t s) (h2:Aj K u w):Aj K (t6 t u) (aM s w):=fun {B Z os ρ ρ' σ H E} f e p=>by
 unfold aM at e;refine h1 f ?_;cases q:s ρ with
 | nx ρ1=>rw [q] at e; exact fun os' σ' H' f' k=>h2 f' e p
 | bk ρ1=>rw [q] at e; cases e
 | ct ρ1=>rw [q] at e; cases e
 | rt d=>rw [q] at e; cases e
 | no=>rw [q] at e; cases e
theorem Aw {t:TS}:Aj K t eX:=fun f e p=>by unfold eX at e; cases e
theorem GJ {t u:TS} {c:aU→Option Bool} {s w:DS} (hc:nO K tc c) (h1:Aj K t s) (h2:Aj K u w):Aj K (t6 (ED tc t Dt) u) (cQ c s w):=fun {B Z os ρ ρ' σ H E} f e p=>by
 unfold cQ at e;split at e
 ·rename_i e1;exact hc f e1 fun H1 s1=>uf (h1 ‹70› e p)
 ·rename_i e1;exact hc f e1 fun H1 s1=>rR (h2 ‹70› e p)
 ·cases e
section
variable {B H H':Hp} {Z:Q6→Prop} {os:Own} {ρ:aU} {σ:L2.St} {x dx p:Q6} {ks ks':List Rf} {ds ds':List D} {kvs':List (Key×V)}
theorem Fr.OH {i:Nat} (f:Fr K B Z os ρ σ H) (e:ρ.getD i .un=.pk x dx p C ks ds) (hk:kvs'.map (·.1)=ks'.map R1) (hl:kvs'.length≤1000) (hi:IsL K H (cE Z os) (kvs'.map (·.2)) ds') :
 ∃ os',Fr K B Z os' (ρ.set i (.pk x dx p C ks' ds')) σ (upd H p (.dK kvs')):=by
 have s:=f.sl i;rw [e] at s;obtain ⟨eo,hu,h1,h2,kvs,h3,h4,h5,h6⟩:=s;have hlt:=kz e (by intro z; cases z);have nd:=f.nd i;rw [eo] at nd;simp only [SE,Ri,TU,or_false,not_or] at nd
 have tt:cE Z (nG os i [x,dx,p])=cE Z os:=by
  funext c;apply propext;constructor
  ·rintro (z | ⟨j,z⟩)
   ·exact .inl z
   ·show 10
    ·subst hj; rw [b8] at z; exact .inr ⟨j,by rw [eo]; exact z⟩
    ·show 13
  ·rintro (z | ⟨j,z⟩)
   ·exact .inl z
   ·show 10
    ·subst hj; exact .inr ⟨j,by rw [b8,← eo]; exact z⟩
    ·exact .inr ⟨j,by rw [cL hj]; exact z⟩
 have pin:cE Z os p:=.inr ⟨i,by rw [eo]; simp⟩
 have st:=f.step (H':=upd H p (.dK kvs')) (i:=i) hlt (o:=[x,dx,p]) (s:=.pk x dx p C ks' ds') (v:=some (.ref x)) (fun a u e n=>by rw [a5 (fun z=>n (by rw [eo,z]; simp))]; exact e)
  (fun a ha=>by
   by_cases h:a=p
   ·rw [h]; exact ⟨_,br⟩
   ·obtain ⟨u,e⟩:=(f.sl i).xu ha; exact ⟨u,by rw [a5 h]; exact e⟩) (by rw [← eo]; exact f.nd i) (fun a ha=>by rw [← eo] at ha; exact .inl ha)
  ⟨rfl,rfl,by rw [a5 nd.1.2]; exact h1,by rw [a5 nd.2.1]; exact h2,kvs',br,hk,hl,by rw [tt];exact hi.kp fun a u e z=>⟨by rw [a5 (fun w=>z (by rw [w]; exact pin))]; exact e,z⟩⟩
 rw [jb hu] at st;exact ⟨_,st.1⟩
end
@[irreducible] noncomputable def rq (C:Q6) (b e:DE):DS:=fun ρ=>match ρ.getD 0 .un with
 | .pk x dx p C' ks ds=>(match b ρ with
  | some (.str n)=>(match e ρ with
   | some d=>if C'=C∧n∉ks∧ks.length<1000 then .nx (ρ.set 0 (.pk x dx p C (ks++[n]) (ds++[d]))) else .no
   | none=>.no)
  | _=>.no)
 | _=>.no
theorem Me {tb te:TE} {b e:DE} {E0:XK} (hb:ai K tb b) (he:ai K te e):Aj K (sE (vb C "put" (GI C) E0 (i8 0) (cF tb (cF te fA)))) (rq C b e):=fun {B Z os ρ ρ' σ H En} f q k=>by
 unfold rq at q;split at q
 ·rename_i x dx p C' ks ds e0;split at q
  ·rename_i n e1;split at q
   ·rename_i d e2;split at q
    ·rename_i hc;obtain ⟨rfl,hn,hl⟩:=hc;cases q;have s:=f.sl 0;rw [e0] at s;obtain ⟨eo,hu,h1,h2,kvs,h3,h4,h5,h6⟩:=s;refine ⟨_,join_some hu,x,dx,_,rfl,h1,rfl,hb f e1 fun v H1 s1 i1=>he ‹70› e2 fun u H2 s2 i2=>?_⟩;have hs:=Rw;have s12:=s1.trans s2;have hkl:kvs.length=ks.length:=by rw [← Q5 (f:=(·.1)),h4,Q5]
     refine ⟨x,dx,p,kvs,n,u,by rw [i1.isStr],s12 _ _ h1,s12 _ _ h3,by lia,?_⟩
     have hv:jS kvs (R1 n)=none:=by
      have:=yF (x:=n) h4;rw [decide_eq_false hn] at this;cases q:jS kvs (R1 n) with
      | none=>rfl
      | some _=>rw [q] at this; cases this
     rw [Hb u hv];obtain ⟨os',f'⟩:=(f.grow s12).OH (ks':=ks++[n]) (ds':=ds++[d]) (kvs':=kvs++[(R1 n,u)]) e0 (by rw [SW,SW,h4]; rfl) (by rw [Ru,Tc]; lia) (by rw [SW]; exact (h6.same s12).append (.one i2));exact k _ _ _ f'
    ·cases q
   ·cases q
  ·cases q
 ·cases q
def lJ:List Rf→List D→Rf→List Rf×List D
 | k::ks,d::ds,n=>if k=n then lJ ks ds n else (k::(lJ ks ds n).1,d::(lJ ks ds n).2)
 | _,_,_=>([],[])
theorem Bu {H:Hp} {T:Q6→Prop} {n:Rf}:∀ {kvs:List (Key×V)} {ks:List Rf} {ds:List D},kvs.map (·.1)=ks.map R1→IsL K H T (kvs.map (·.2)) ds→(rV kvs (R1 n)).map (·.1)=(lJ ks ds n).1.map R1∧IsL K H T ((rV kvs (R1 n)).map (·.2)) (lJ ks ds n).2
 | [],[],_,_,.nil=>⟨rfl,.nil⟩
 | [],_::_,_,h,_=>by cases h
 | _::_,[],_,h,_=>by cases h
 | q::kvs,k::ks,_,h,.cons i r=>by
  obtain ⟨h1,h2⟩:=Ub h;have h1:q.1=R1 k:=h1;obtain ⟨g1,g2⟩:=Bu (n:=n) h2 r;unfold lJ rV;by_cases e:k=n
  ·subst e;rw [U5 (by simp [h1]),if_pos rfl];exact ⟨g1,g2⟩
  ·rw [U6 (by simp [h1]; exact e),if_neg e];exact ⟨by rw [R4,h1]; exact congrArg _ g1,.cons i g2⟩
@[irreducible] noncomputable def nX (C:Q6) (b:DE):DS:=fun ρ=>match ρ.getD 0 .un with
 | .pk x dx p C' ks ds=>(match b ρ with
  | some (.str n)=>if C'=C∧n∈ks then .nx (ρ.set 0 (.pk x dx p C (lJ ks ds n).1 (lJ ks ds n).2)) else .no
  | _=>.no)
 | _=>.no
theorem JB {tb:TE} {b:DE} {E0:XK} (hb:ai K tb b):Aj K (sE (vb C "drop" (Cj C) E0 (i8 0) (cF tb fA))) (nX C b):=fun {B Z os ρ ρ' σ H En} f q k=>by
 unfold nX at q;split at q
 ·rename_i x dx p C' ks ds e0;split at q
  ·rename_i n e1;split at q
   ·rename_i hc;obtain ⟨rfl,hn⟩:=hc;cases q;have s:=f.sl 0;rw [e0] at s;obtain ⟨eo,hu,h1,h2,kvs,h3,h4,h5,h6⟩:=s;refine ⟨_,join_some hu,x,dx,_,rfl,h1,rfl,hb f e1 fun v H1 s1 i1=>?_⟩;obtain ⟨u,hv⟩:∃ u,jS kvs (R1 n)=some u:=by have:=yF (x:=n) h4;rw [decide_eq_true hn] at this;exact UQ.mp this
    refine ⟨x,dx,p,kvs,n,u,by rw [i1.isStr],s1 _ _ h1,s1 _ _ h3,hv,?_⟩;obtain ⟨g1,g2⟩:=Bu (n:=n) h4 (h6.same s1);obtain ⟨os',f'⟩:=‹70›.OH e0 g1 (RE (Bv _ _) h5) g2;exact k _ _ _ f'
   ·cases q
  ·cases q
 ·cases q
theorem Mv {x dx p:Q6} (hz:ZT Z H) (h:Args K H Z ms vs es) (hm:∀ j,j≠0→ms.getD j true=true) (hip:0<N.length) (hv:vs[0]?=some (.ref x)) (hn:[x,dx,p].Nodup) (hZ:∀ b∈[x,dx,p],Z b) (hd:BP K H Z x dx p C ks ds) :
 Fr K (fun b=>if b∈[x,dx,p] then none else H b) (fun b=>Z b∧b∉[x,dx,p]) (fun j=>if j=0 then [x,dx,p] else []) ((fX N.length ms es).set 0 (.pk x dx p C ks ds)) (L2.start N vs) H:=by
 have f0:=qY (N:=N) hz h
 have tt:∀ b,cE (fun b=>Z b∧b∉[x,dx,p]) (fun j=>if j=0 then [x,dx,p] else []) b→Z b:=by
  rintro b (z | ⟨j,z⟩)
  ·exact z.1
  ·by_cases hj:j=0
   ·have z:b∈(if j=0 then [x,dx,p] else []):=z;rw [if_pos hj] at z; exact hZ b z
   ·have z:b∈(if j=0 then [x,dx,p] else []):=z;rw [if_neg hj] at z; cases z
 refine ⟨fun b o e=>?_,fun b z=>hz.1 b z.1,by rw [Su]; exact f0.len,fun j=>?_,fun i j b h1 h2=>?_,fun i b hb=>?_,fun j=>?_,fun q hp'=>?_⟩
 ·split at e
  ·cases e
  ·exact e
 ·split
  ·exact hn
  ·exact Tw
 ·split at h1
  ·split at h2
   ·rename_i x y; rw [x,y]
   ·cases h2
  ·cases h1
 ·split at hb
  ·exact ⟨if_pos hb,fun z=>z.2 hb⟩
  ·cases hb
 ·by_cases hj:j=0
  ·subst hj;have hlen:0<(fX N.length ms es).length:=by rw [← f0.len]; unfold L2.start; rw [Ru,Q5,RV]; lia
   rw [kY hlen];refine ⟨if_pos rfl,?_,hd.kp (Kp.less tt) fun _ _ _ e=>e⟩;unfold L2.start;have hjv:=(Rp.mp hv).1;rw [Rz (by rw [Q5]; exact hjv),Ro,hv];rfl
  ·rw [ot hj];rw [if_neg hj];have s:=f0.sl j;cases e:(fX N.length ms es).getD j .un with
   | un=>exact rfl
   | pu d=>rw [e] at s; obtain ⟨_,u,hu,i1⟩:=s; exact ⟨rfl,u,hu,i1.kp (Kp.less fun b z=>.inl (tt b z))⟩
   | bo d=>have:=Mc e; rw [hm j hj] at this; cases this
   | ol d=>rw [e] at s; obtain ⟨_,_,z,_⟩:=s; cases z
   | om d=>rw [e] at s; obtain ⟨_,_,z,_⟩:=s; cases z
   | od d=>rw [e] at s; obtain ⟨_,z,_⟩:=s; cases z
   | pm _ _ d=>rw [e] at s; obtain ⟨z,_⟩:=s; cases z
   | pd _ d=>rw [e] at s; obtain ⟨z,_⟩:=s; cases z
   | dk _ _ _=>rw [e] at s; obtain ⟨_,_,_,z,_⟩:=s; cases z
   | pk _ _ _ _ _ _=>rw [e] at s; obtain ⟨z,_⟩:=s; cases z
   | bk _ _ _=>exact absurd e Md
 ·obtain ⟨t,e⟩:=hz.2 q hp';refine ⟨t,?_⟩;rw [if_neg]
  ·exact e
  ·intro hb;obtain ⟨h1,h2,kvs,h3,_⟩:=hd;simp only [Ri,TU,or_false] at hb;rcases hb with hb | hb | hb
   ·rw [hb,h1] at e; cases e
   ·rw [hb,h2] at e; cases e
   ·rw [hb,h3] at e; cases e
@[irreducible] noncomputable def runK (n:Nat) (ms:List Bool) (b:DS) (x dx p:Q6) (es:List D):Option (List Rf×List D):=match es.head? with
 | some (.dsk C ks ds)=>(match b ((fX n ms es).set 0 (.pk x dx p C ks ds)) with
  | .nx ρ=>(match ρ.getD 0 .un with
   | .pk x' dx' p' C' ks' ds'=>if x'=x∧dx'=dx∧p'=p∧C'=C then some (ks',ds') else none
   | _=>none)
  | _=>none)
 | _=>none
abbrev FK:=Q6→Q6→Q6→List D→Option (List Rf×List D)
noncomputable def PN (K:Q2) (C:Q6) (ms:List Bool) (F:FK):Sp:=fun vs H Q _=>∃ (Z:Q6→Prop) (es:List D) (x dx p:Q6) (ks ks':List Rf) (ds ds':List D),
 ZT Z H∧Args K H Z ms vs es∧vs[0]?=some (.ref x)∧es.head?=some (D.dsk C ks ds)∧[x,dx,p].Nodup∧(∀ b∈[x,dx,p],Z b)∧BP K H Z x dx p C ks ds∧F x dx p es=some (ks',ds') ∧
 ∀ H',(∀ b o,H b=some o→b∉[x,dx,p]→H' b=some o)→BP K H' Z x dx p C ks' ds'→Q (.str "ok") H'
theorem eQ.QQ {P:Sd} {w:Sn} {mg:Rf→Option Q7} {base:SA} {x qual:Rf} {st:SJ} {f:Q6} {fd:SM} {qs:List Rf} {k:Nat} (F:eQ K x qual st f fd) (S:ba N qs (aI st)) (ms:List Bool) (hms:ms.length=qs.length) (hm:∀ j,j≠0→ms.getD j true=true) (hip:0<N.length) (b:DS)
    (hbody:∀ (cdv:Q7) (A:SG) (outer:List XX) (s:Rb) (H:Hp) (E:XK),fk k ‹110› →
      ∃ t,wI ‹59›.Lx (eU st) t∧Aj K t b):bQ P w K mg base gW (k+1) f fd qs (PN K C ms (runK N.length ms b)):=by
  refine F.ok S (fun vs H Q E h=>?_) ‹91›
  · obtain ⟨Z,es,_,_,_,_,_,_,_,hz,a,_⟩:=h;rw [a.len.1,hms]
  · obtain ⟨Z,es,x,dx,p,ks,ks',ds,ds',hz,ar,hv,hd,hn,hZ,hk,hF,k⟩:=h;obtain ⟨t,h1,h2⟩:=hbody cdv A outer s H E hr;unfold runK at hF;rw [hd] at hF;dsimp only at hF;split at hF
    · rename_i ρ e1;split at hF
      · rename_i x' dx' p' C' k' d' e2;split at hF
        · rename_i e3;obtain ⟨rfl,rfl,rfl,rfl⟩:=e3;cases hF;refine ⟨t,h1,h2 (Mv hz ar hm hip hv hn hZ hk) e1 ?_⟩;intro os' σ' H' f';have s':=f'.sl 0;rw [e2] at s';obtain ⟨eo,hu,hk'⟩:=s';refine k H' (fun b o e n=>f'.keep b o ?_) (hk'.kp (Kp.less fun b z=>?_) fun _ _ _ e=>e)
          · rw [if_neg n]; exact e
          · by_cases hb:b∈[x',dx',p']
            · exact .inr ⟨0,by rw [eo]; exact hb⟩
            · exact .inl ⟨z,hb⟩
        · cases hF
      · cases hF
    · cases hF
theorem DL {F:FK} {n:Nat} {b:DS} (hF:F=runK n ms b) {x dx p:Q6} {ks':List Rf} {ds':List D} (hd:es.head?=some (D.dsk C ks ds)) (h:Wp b ((fX n ms es).set 0 (.pk x dx p C ks ds)) { nx:=fun ρ=>ρ.getD 0 .un=.pk x dx p C ks' ds',rt:=fun _=>False }):F x dx p es=some (ks',ds'):=by
 subst hF;unfold runK;rw [hd];dsimp only;unfold Wp at h;split at h
 ·rename_i ρ e;rw [e];dsimp only;rw [show ρ.getD 0 .un=.pk x dx p C ks' ds' from h];exact if_pos ⟨rfl,rfl,rfl,rfl⟩
 ·exact h.elim
 ·exact h.elim
 ·exact h.elim
 ·exact h.elim
abbrev QE:=aU→Option (Bool×aU)
noncomputable def FU (K:Q2) (t:TT) (c:QE):Prop:=∀ {B:Hp} {Z:Q6→Prop} {os:Own} {ρ ρ':aU} {σ:L2.St} {H:Hp} {b:Bool} {Q:Bool→Hp→Prop},Fr K B Z os ρ σ H→c ρ=some (b,ρ')→(∀ os' H',Fr K B Z os' ρ' σ H'→Kp (cE Z os) H (cE Z os') H'→Q b H')→t σ H Q
@[irreducible] def xV (c:aU→Option Bool):QE:=fun ρ=>(c ρ).map fun b=>(b,ρ)
theorem DF {t:TT} {c:aU→Option Bool} (h:nO K t c):FU K t (xV c):=fun {B Z os ρ ρ' σ H b Q} f e k=>by unfold xV at e;obtain ⟨b',e1,e2⟩:=S9.mp e;cases e2;exact h f e1 fun H1 s1=>k _ _ ‹70› (Kp.same s1)
@[irreducible] def Mq (c d:QE):QE:=fun ρ=>match c ρ with
 | some (true,ρ1)=>some (true,ρ1)
 | some (false,ρ1)=>d ρ1
 | none=>none
theorem GF {t u:TT} {c d:QE} (h1:FU K t c) (h2:FU K u d):FU K (PM t u) (Mq c d):=fun {B Z os ρ ρ' σ H b Q} f e k=>by
 unfold Mq at e;split at e
 ·rename_i ρ1 e1;cases e;exact h1 f e1 fun os' H' f' k'=>uf (k _ _ f' k')
 ·rename_i ρ1 e1;exact h1 f e1 fun os' H' f' k'=>rR (h2 f' e fun os2 H2 f2 k2=>k _ _ f2 (k'.trans k2))
 ·cases e
@[irreducible] noncomputable def ud (C:Q6) (i:Nat) (F:FK) (a:DE):QE:=fun ρ=>match ρ.getD i .un with
 | .dk C' ks ds=>(match a ρ with
  | some d=>if h:C'=C∧∃ r,∀ x dx p,F x dx p [.dsk C ks ds,d]=some r then some (false,ρ.set i (.dk C h.2.choose.1 h.2.choose.2)) else none
  | none=>none)
 | _=>none
theorem yZ {i:Nat} {F:FK} {ta:TE} {E0:XK} (hm:(m == "floors")=false) (ha:ai K ta a):FU K (Dq (tJ (JQ K true) (vb C m (PN K C [false,true] F) E0 (i8 i) (cF ta fA)) (tC (.str "ok")))) (ud C i F a):=fun {B Z os ρ ρ' σ H b Q} f q k=>by
 unfold ud at q;split at q
 ·rename_i C' ks ds e0;split at q
  ·rename_i d e1;split at q
   ·rename_i hc;have hF:=hc.2.choose_spec;generalize hc.2.choose=r at q hF;obtain ⟨rfl,_⟩:=hc;cases q;have s:=f.sl i;rw [e0] at s;obtain ⟨x,dx,p,eo,hu,hk⟩:=s;refine ⟨_,join_some hu,x,dx,_,rfl,hk.1,by rw [Sr,hm]; rfl,ha f e1 fun v H1 s1 i1=>?_⟩;have f1:=f.grow s1;have hk1:=hk.kp (T':=cE Z os) (Kp.same s1) fun a _ u e=>s1 _ _ e;have hn:=f1.nd i;rw [eo] at hn;have hi:=kz e0 (by intro z; cases z);refine ⟨cE Z os,_,x,dx,p,ks,r.1,ds,r.2,f1.zt,.any hk1.is (.own i1 .nil),rfl,rfl,hn,fun b hb=>.inr ⟨i,by rw [eo]; exact hb⟩,hk1,hF x dx p,fun H' hkp hk'=>?_⟩;refine ⟨.str "ok", .str "ok", .str _,.str _,rfl,false,by simp,?_⟩
    have tt:cE Z (nG os i [x,dx,p])=cE Z os:=by
     funext c;apply propext;constructor
     ·rintro (z | ⟨j,z⟩)
      ·exact .inl z
      ·show 10
       ·subst hj; rw [b8] at z; exact .inr ⟨j,by rw [eo]; exact z⟩
       ·show 13
     ·rintro (z | ⟨j,z⟩)
      ·exact .inl z
      ·show 10
       ·subst hj; exact .inr ⟨j,by rw [b8,← eo]; exact z⟩
       ·exact .inr ⟨j,by rw [cL hj]; exact z⟩
    have st:=f1.step (H':=H') (i:=i) hi (o:=[x,dx,p]) (s:=.dk C' r.1 r.2) (v:=some (.ref x)) (fun b u e n=>hkp b u e (by rw [← eo]; exact n)) (fun b hb=>by rw [eo] at hb; exact hk'.xu hb) hn (fun b hb=>by rw [← eo] at hb; exact .inl hb) ⟨x,dx,p,rfl,rfl,by rw [tt]; exact hk'⟩;rw [jb hu] at st;exact k _ _ st.1 ((Kp.same s1).trans st.2)
   ·cases q
  ·cases q
 ·cases q
theorem z4 {i:Nat} {F:FK} {ks':List Rf} {ds':List D} (h0:ρ.getD i .un=.dk C ks ds) (h1:a ρ=some d) (h2:∀ x dx p,F x dx p [.dsk C ks ds,d]=some (ks',ds')):ud C i F a ρ=some (false,ρ.set i (.dk C ks' ds')):=by
 have ex:∃ r,∀ x dx p,F x dx p [.dsk C ks ds,d]=some r:=⟨_,h2⟩
 have e:ex.choose=(ks',ds'):=by have q:=ex.choose_spec 0 0 0;rw [h2 0 0 0] at q;exact (R5 q).symm
 unfold ud;rw [h0];dsimp only;rw [h1];dsimp only;rw [dif_pos ⟨rfl,ex⟩];simp only [e]
omit [cu] in
theorem Bq {c:aU→Option Bool} {b:Bool} (h:c ρ=some b):xV c ρ=some (b,ρ):=by unfold xV; rw [h]; rfl
omit [cu] in
theorem C3 {c d:QE} {ρ1:aU} {r:Bool×aU} (h:c ρ=some (false,ρ1)) (k:d ρ1=some r):Mq c d ρ=some r:=by unfold Mq; rw [h]; exact k
@[irreducible] def Cv (c:QE) (s u:DS):DS:=fun ρ=>match c ρ with
 | some (true,ρ1)=>s ρ1
 | some (false,ρ1)=>u ρ1
 | none=>.no
theorem Cd {fr:Fm} {t u:TS} {c:QE} {s w:DS} (hc:FU K tc c) (h1:de fr K t s) (h2:de fr K u w):de fr K (ED tc t u) (Cv c s w):=fun {B Z os ρ σ H E} f p=>by
 unfold Cv at p;split at p
 ·rename_i ρ1 e;exact hc f e fun os' H' f' k=>uf (h1 f' (p.kp k))
 ·rename_i ρ1 e;exact hc f e fun os' H' f' k=>rR (h2 f' (p.kp k))
 ·show 12
theorem BS {c:QE} {s u:DS} {ρ1:aU} (h:c ρ=some (false,ρ1)) (k:Wp u ρ1 W):Wp (Cv c s u) ρ W:=by unfold Wp Cv at *;rw [h];exact k
end
end
end VL
namespace L2
open PySem PySem.Spec PyProof.Rows VL
def Pu (kvs:List (Rf×Int)):List (Key×V):=kvs.map fun p=>(R1 p.1,V.int p.2)
theorem uL {x:Rf}:∀ kvs:List (Rf×Int),jS (Pu kvs) (R1 x)=(kvs.lookup x).map V.int
 | []=>rfl
 | p::r=>by
  show jS ((R1 p.1,V.int p.2)::Pu r) (R1 x)=_;by_cases e:x=p.1
  ·rw [ll (show R1 p.1=R1 x by rw [e]),Sr,beq_iff_eq.mpr e]; rfl
  ·rw [lp (show ¬ R1 p.1=R1 x from fun z=>e (Wj z).symm),uL r,Sr,beq_eq_false_iff_ne.mpr e]
theorem xB.dict {P:Sd} {w:Sn} {K:Q2} {a:Q6} {kvs:List (Rf×Int)} (d:xB w K a kvs) {h:SA} (I:K.In h):∃ vs,KV (Pu kvs) vs∧h.DictOf (di P w) a vs:=by
 obtain ⟨⟨o,es,ep,hl,h1,h2,h3,h4,pr⟩,nd,_⟩:=d
 have key:∀ {es:List VW} {kvs:List (Rf×Int)},Ta (fun (e:VW) (p:Rf×Int)=>e.hash=hashStr w p.1∧(∃ t,e.key=.str p.1 t)∧∃ t,e.val=.int p.2 t) es kvs→∃ vs,KV (Pu kvs) vs∧Pairs (di P w) es vs∧(∀ e∈es,∃ k,(di P w).is k e.key=true∧e.hash=(di P w).hash k)∧vs.map (·.1)=kvs.map fun p=>R1 p.1:=by
  intro es kvs r;induction r with
  | nil=>exact ⟨[],.nil,.nil,(fun _ h=>nomatch h),rfl⟩
  | @cons e p es kvs h _ ih =>
   obtain ⟨vs,g1,g2,g3,g4⟩:=ih;obtain ⟨h1,⟨t,h2⟩,t',h3⟩:=h;refine ⟨(R1 p.1,.int p.2 t')::vs,.cons ⟨rfl,t',rfl⟩ g1,.cons ?_ h3 g2,fun e' he=>?_,by rw [R4,R4,g4]⟩
   ·rw [h2]; exact og P w p.1 t
   ·rcases Ri.mp he with rfl | he
    ·exact ⟨R1 p.1,by rw [h2]; exact og P w p.1 t,h1⟩
    ·exact g3 e' he
 obtain ⟨vs,g1,g2,g3,g4⟩:=key pr;refine ⟨vs,g1,o,es.toArray,ep,I a o hl,⟨h1,h2,h3⟩,h4,fun e he=>g3 e (by simpa using he),by simpa using g2,?_⟩;rw [g4];have:(kvs.map fun p=>(R1 p.1:Key))=(kvs.map (·.1)).map R1:=by rw [R7]; rfl
 rw [this];exact List.Pairwise.map _ (fun a b h z=>h (Wj z)) nd
def Oa (kvs:List (Rf×Int)) (ty:TE):TE:=fun σ H Q=>ty σ H fun y H1=>∃ x,y=.str x∧Q (.bl (kvs.lookup x).isSome) H1
def Lb (kvs:List (Rf×Int)) (ty:TE):TE:=fun σ H Q=>ty σ H fun y H1=>∃ x n,y=.str x∧kvs.lookup x=some n∧Q (.int n) H1
def Gm (kvs:List (Rf×Int)) (ty:TE):TE:=fun σ H Q=>ty σ H fun y H1=>∃ x,y=.str x∧Q (((kvs.lookup x).map V.int).getD .non) H1
section
variable {X:Cx} {a:Q6} {kvs:List (Rf×Int)} {i o e:Sv} {ty:TE} {pos apos cpos:VJ}
theorem MH (d:xB X.w X.K a kvs) (hi:PE X i ty) (ho:PE X o (tC (.ref a))):PC X .In i o (Oa kvs ty):=by intro pins s σ H Q I h;refine cP (hi pins s σ H _ I h) fun iv s1 ⟨y,H1,I1,ry,x,ey,q1⟩=>cP (ho pins s1 σ H1 (fun v H2=>v=.ref a∧H2=H1) I1 ⟨rfl,rfl⟩) fun u s2 ⟨z,H2,I2,rz,ez,eH⟩=>?_;subst ey ez eH;obtain rfl:u=RQ a:=rz;obtain ⟨vs,g1,g2⟩:=d.dict (P:=X.prog) I2.qw;refine wpAny_in_of (tV (k:=R1 x) ry) d.sm g2.mapOf ⟨.bl _,H2,I2.tok _,rfl,?_⟩;rw [← (g1.val (R1 x)).o9,uL,Wq];exact q1
theorem JV (d:xB X.w X.K a kvs) (ho:PE X o (tC (.ref a))) (hi:PE X i ty) (hs:NO i):PE X (.Subscript o i pos) (Lb kvs ty):=by intro pins s σ H Q I h;refine Dw Wg.lookup hs (cP (ho pins s σ H (fun v H2=>v=.ref a∧H2=H) I ⟨rfl,rfl⟩) fun u s1 ⟨z,H1,I1,rz,ez,eH⟩=>?_);subst ez eH;obtain rfl:u=RQ a:=rz;refine cP (hi pins s1 σ H1 _ I1 h) fun iv s2 ⟨y,H2,I2,ry,x,n,ey,en,q2⟩=>?_;subst ey;obtain ⟨vs,g1,g2⟩:=d.dict (P:=X.prog) I2.qw;obtain ⟨w',hw,rw'⟩:=lQ.some_of (v:=V.int n) (o:=Wo vs (R1 x)) (by have:=g1.val (R1 x); rw [uL,en] at this; exact this);exact ⟨g2.typeIs,wpAny_getItem_of (tV (k:=R1 x) ry) g2.mapOf hw ⟨.int n,H2,I2.tok _,rw',q2⟩⟩
theorem Hm (d:xB X.w X.K a kvs) (ho:PE X o (tC (.ref a))) (he:PE X e ty) (m:M1 X o "get" apos e cpos):PE X (.Call (.Attribute o "get" apos) [e] [] cpos) (Gm kvs ty):=by
 intro pins s σ H Q I h;refine wpAny_Call_method m.base m.QB m.line WR Xw PySem.F.type_dict_get (cP (ho pins s σ H (fun v H2=>v=.ref a∧H2=H) I ⟨rfl,rfl⟩) fun u s1 ⟨z,H1,I1,rz,ez,eH⟩=>?_);subst ez eH;obtain rfl:u=RQ a:=rz;obtain ⟨vs,g1,g2⟩:=d.dict (P:=X.prog) I1.qw;refine ⟨g2.typeIs,fun b q=>?_,?_⟩
 ·cases q;obtain ⟨ob,_,_,h1,h2,_⟩:=g2;exact ⟨ob,h1,h2.2.1⟩
 rw [m.trees];refine Vh rfl (Uz (V4 (cP (he pins s1 σ H1 _ I1 h) fun iv s2 ⟨y,H2,I2,ry,x,ey,q2⟩=>Wn ?_)));subst ey;obtain ⟨vs,g1,g2⟩:=d.dict (P:=X.prog) I2.qw;refine call_meetsIn Xw g2.typeIs PySem.F.entry_dict_get (PySem.F.args_dict_get_2 _ _) (meets_dict_get (di X.prog X.w) a (tV (k:=R1 x) ry) d.sm) ⟨_,g2.mapOf,⟨_,H2,I2.tok _,?_,q2⟩⟩;have:=g1.val (R1 x);rw [uL] at this;exact this.getD rfl
def Ow:R2:=fun x y H Q=>∃ j,y=.int j∧((∃ i,x=.int i∧Q (.bl (decide (i=j))) H)∨(x=.non∧Q (.bl false) H))
theorem MK:sx X (S8 .Eq) Ow:=by
 intro pins s σ H x y v u Q I rx ry h;obtain ⟨j,rfl,⟨i,rfl,q⟩ | ⟨rfl,q⟩⟩:=h
 ·obtain ⟨t,rfl⟩:=rx;obtain ⟨t',rfl⟩:=ry;exact eq_int ⟨.bl _,H,I.tok _,rfl,by rw [Bool.beq_eq_decide_eq]; exact q⟩
 ·cases rx;obtain ⟨t',rfl⟩:=ry;exact WA ⟨.bl _,H,I,rfl,q⟩
end
end L2
namespace VL
variable {ρ:aU} {x:Rf}
open PySem L2
section
open Classical
section
variable [cu] {K:Q2} {ta tb:TE} {a b:DE} {kvs:List (Rf×Int)}
def IF (kvs:List (Rf×Int)) (a:DE):DE:=fun ρ=>match a ρ with
 | some (.str x)=>some (.bl (kvs.lookup x).isSome)
 | _=>none
omit [cu] in
theorem Iv (h:a ρ=some (.str x)):IF kvs a ρ=some (.bl (kvs.lookup x).isSome):=by unfold IF; rw [h]
theorem Mh (ha:bD K ta a):ai K (Oa kvs ta) (IF kvs a):=fun {B Z os ρ σ H Q d} f q k=>by
 unfold IF at q;split at q
 ·rename_i x e;cases q;exact ha f e fun v H1 s1 i1=>⟨x,i1.isStr,k _ _ s1 (.bl _)⟩
 ·cases q
def BD (kvs:List (Rf×Int)) (a:DE):DE:=fun ρ=>match a ρ with
 | some (.str x)=>(kvs.lookup x).map D.int
 | _=>none
omit [cu] in
theorem KC {n:Int} (h:a ρ=some (.str x)) (hn:kvs.lookup x=some n):BD kvs a ρ=some (.int n):=by unfold BD; rw [h]; dsimp only; rw [hn]; rfl
theorem JD (ha:bD K ta a):ai K (Lb kvs ta) (BD kvs a):=fun {B Z os ρ σ H Q d} f q k=>by
 unfold BD at q;split at q
 ·rename_i x e;obtain ⟨n,e1,rfl⟩:=S9.mp q;exact ha f e fun v H1 s1 i1=>⟨x,n,i1.isStr,e1,k _ _ s1 (.int _)⟩
 ·cases q
def IG (kvs:List (Rf×Int)) (a b:DE):DE:=fun ρ=>match a ρ with
 | some (.str x)=>(match b ρ with
  | some (.int j)=>some (.bl (match kvs.lookup x with | some i=>decide (i=j) | none=>false))
  | _=>none)
 | _=>none
omit [cu] in
theorem Ny {j:Int} (ha:a ρ=some (.str x)) (hb:b ρ=some (.int j)):IG kvs a b ρ=some (.bl (match kvs.lookup x with | some i=>decide (i=j) | none=>false)):=by unfold IG; rw [ha]; dsimp only; rw [hb]
theorem Mi (ha:bD K ta a) (hb:bD K tb b):ai K (tJ Ow (Gm kvs ta) tb) (IG kvs a b):=fun {B Z os ρ σ H Q d} f q k=>by
 unfold IG at q;split at q
 ·rename_i x e1;split at q
  ·rename_i j e2;cases q;refine ha f e1 fun v H1 s1 i1=>⟨x,i1.isStr,hb ‹70› e2 fun u H2 s2 i2=>⟨j,i2.isInt,?_⟩⟩
   cases e3:kvs.lookup x with
   | some i=>exact .inl ⟨i,rfl,by rw [e3] at k; exact k _ _ ‹48› (.bl _)⟩
   | none=>exact .inr ⟨rfl,by rw [e3] at k; exact k _ _ ‹48› (.bl _)⟩
  ·cases q
 ·cases q
theorem qN {C:Q6} {iv n i:Nat} {u v:TA} {bs cs:List Bool} (hi:i≠iv) (hn:i<n) (h1:XA iv C u bs) (h2:XA iv C v cs) (hl:bs.length≤1000:=by decide) (hm:cs.length≤1000:=by decide):XL n iv C (t6 (sF (Jr u) (kA i)) (sE (tJ G9 (i8 i) (Jr v)))) (bs++cs):=fun {σ H a En} l s e q=>by
 have hz:=Rw;refine h1 s e fun H1 s1=>⟨by rw [Q5]; lia,fun p hp=>?_⟩
 have s2:bu H1 (upd H1 p (.lst (bs.map V.bl))):=cx hp;refine ⟨.ref p,SS (by lia),?_⟩;refine h2 (a:=a) (by rw [SH hi]; exact s) (s2 _ _ (s1 _ _ e)) fun H3 s3=>⟨by rw [Q5]; lia,fun p2 hp2=>?_⟩
 have e3:H3 p=some (.lst (bs.map V.bl)):=s3 _ _ br;have s4:bu H3 (upd H3 p2 (.lst (cs.map V.bl))):=cx hp2;refine ⟨p,p2,bs.map V.bl,cs.map V.bl,rfl,rfl,.inl (s4 _ _ e3),.inl br,by rw [Q5,Q5]; lia,fun p3 hp3=>?_⟩;have s5:bu (upd H3 p2 (.lst (cs.map V.bl))) (upd (upd H3 p2 (.lst (cs.map V.bl))) p3 (.lst (bs.map V.bl++cs.map V.bl))):=cx hp3;have st:=s1.trans (s2.trans (s3.trans s4));refine q p3 _ (st.trans s5) (bu.free st hp3) ?_;rw [br,SW]
end
end
end VL
namespace L2
open PySem PySem.Spec PyProof.Rows VL
def Gs (t:TA):TE:=fun σ H _=>t σ H fun _ _=>False
theorem rK {X:Cx} {x:Rf} {f:Q6} {e:Sv} {es:List Sv} {t:TA} {p pos:VJ} (hg:Gl X x) (hm:X.mg x=some (.ref f)) (hk:SU X.K (.ref f)=true) (ha:PA X (e::es) t)
 (hdb:‹41›=false:=by decide) (he:RH (e::es) X.env=(false,eval e X.env)::RH es X.env:=by rfl) (hpl:(TN pos (RH es X.env)).any (·.1)=false:=by rfl) :
 PE X (.Call (.Name x p) (e::es) [] pos) (Gs t):=by
 intro pins s σ H Q I h;refine Tg (i4 I hg hm ?_ hdb);exact Tv (h₀:=X.base) I.ok.mod.Jb hk (cP (ha pos pins s σ H _ I h) fun us s1 ⟨vs,H1,I1,r,q⟩=>q.elim) he hpl
end L2
namespace VL
variable {E:XK} {C:Q6} {t:TA} {m:Rf} {Z:Q6→Prop} {ρ:aU} {ks:List Rf} {ds:List D} {ms:List Bool} {P:Sd} {mg:Rf→Option Q7} {base:SA} {st:SJ} {fd:SM} {F:List D→Option D} {n:Nat} {es:aU→Option (List D)}
open PySem L2
section
open Classical
section
variable [cu] {K:Q2} {ta tb:TE} {a b:DE} {C0:Q6}
theorem qV {x:DE} (h:yw E C K t x):Dc E C K (Gs t) x:=fun f e p Q=>h f e p _
theorem nP.add {C':Q6} {cs:List Q6} (c:uT K C') (h:∃ g,Meth K C' m g) (r:nP K m cs):nP K m (C'::cs):=let ⟨_,h⟩:=h; .cons c h r
def k6:Sl→Option (Q6×List Rf×List D)
 | .dk C ks ds=>some (C,ks,ds)
 | .pk _ _ _ C ks ds=>some (C,ks,ds)
 | .bk C ks ds=>some (C,ks,ds)
 | _=>none
theorem uO {B H:Hp} {os:Own} {σ:L2.St} {i:Nat} (f:Fr K B Z os ρ σ H) (e:k6 (ρ.getD i .un)=some (C,ks,ds)):∃ x dx p,(σ[i]?).join=some (.ref x)∧BP K H (cE Z os) x dx p C ks ds:=by
 have s:=f.sl i;cases q:ρ.getD i .un with
 | dk C' ks' ds'=>rw [q] at e s; cases e; obtain ⟨x,dx,p,_,hu,h⟩:=s; exact ⟨x,dx,p,hu,h⟩
 | pk x dx p C' ks' ds'=>rw [q] at e s; cases e; obtain ⟨_,hu,h⟩:=s; exact ⟨x,dx,p,hu,h⟩
 | bk C' ks' ds'=>rw [q] at e s; cases e; obtain ⟨_,x,dx,p,hu,h⟩:=s; exact ⟨x,dx,p,hu,h.h f.keep⟩
 | un=>rw [q] at e; cases e
 | pu _=>rw [q] at e; cases e
 | bo _=>rw [q] at e; cases e
 | ol _=>rw [q] at e; cases e
 | om _=>rw [q] at e; cases e
 | od _=>rw [q] at e; cases e
 | pm _ _ _=>rw [q] at e; cases e
 | pd _ _=>rw [q] at e; cases e
def oB (C0:Q6) (i:Nat) (b:DE):DE:=fun ρ=>match k6 (ρ.getD i .un) with
 | some (C,ks,ds)=>(match b ρ with
  | some (.str x)=>if C=C0 then kX ks ds x else none
  | _=>none)
 | none=>none
omit [cu] in
theorem KD {i:Nat} {x:Rf} {d:D} (ha:k6 (ρ.getD i .un)=some (C0,ks,ds)) (hb:b ρ=some (.str x)) (h:kX ks ds x=some d):oB C0 i b ρ=some d:=by unfold oB; rw [ha]; dsimp only; rw [hb]; dsimp only; rw [if_pos rfl]; exact h
theorem uA {i:Nat} (hc:uT K C0) (hn:iV K C0 "floors") (hb:bD K tb b):ai K (Ld (B9 K (i8 i) "floors") tb) (oB C0 i b):=fun {B Z os ρ σ H Q d} f q k=>by
 unfold oB at q;split at q
 ·rename_i C ks ds e1;split at q
  ·rename_i x e2;split at q
   ·rename_i e;subst e;obtain ⟨x1,dx,p,hu,h,_,kvs,hp,hk,hl,r⟩:=uO f e1;obtain ⟨v,hv,iv⟩:=Dm hk r q;refine ⟨_,join_some hu,x1,C,dx,_,_,rfl,h,hc,hn,rfl,hb f e2 fun w H2 s2 i2=>⟨p,v,rfl,?_,k v H2 s2 (iv.same s2)⟩⟩;rw [i2.isStr,← hv];exact xD.k (k:=R1 x) (s2 _ _ hp)
   ·cases q
  ·cases q
 ·cases q
noncomputable def EK (K:Q2) (C0:Q6) (ms:List Bool) (F:List D→Option D):Sp:=fun vs H Q _=>∃ (Z:Q6→Prop) (ds:List D) (d:D) (x dx p:Q6) (ks:List Rf) (es:List D),ZT Z H∧Args K H Z (false::ms) vs ds∧vs.head?=some (.ref x)∧ds.head?=some (D.dsk C0 ks es)∧BP K H Z x dx p C0 ks es∧F ds=some d∧∀ v H',bu H H'→IW .v K H H' Z v d→Q v H'
noncomputable def Cg (K:Q2) (C0:Q6) (ms:List Bool) (C:Q6) (F:List D→Option D):Sp:=fun vs H _ E=>∃ (Z:Q6→Prop) (ds:List D) (d:D) (x dx p:Q6) (ks:List Rf) (es:List D),ZT Z H∧Args K H Z (false::ms) vs ds∧vs.head?=some (.ref x)∧ds.head?=some (D.dsk C0 ks es)∧BP K H Z x dx p C0 ks es∧F ds=some d∧∀ H',bu H H'→E (.ref C) none H'
def stK (n:Nat) (ms:List Bool) (ds:List D):aU:=match ds.head? with
 | some (.dsk C ks es)=>(fX n ms ds).set 0 (.bk C ks es)
 | _=>[]
@[irreducible] def fF (n:Nat) (ms:List Bool) (b:DS) (ds:List D):Option D:=match b (stK n ms ds) with
 | .rt d=>some d
 | _=>none
theorem startK {H:Hp} {N:List Rf} {vs:List V} {x dx p:Q6} {es:List D} (hz:ZT Z H) (h:Args K H Z (false::ms) vs ds) (hN:0<N.length) (hv:vs.head?=some (.ref x)) (hd:ds.head?=some (D.dsk C0 ks es)) (hk:BP K H Z x dx p C0 ks es):Fr K H Z (fun _=>[]) (stK N.length (false::ms) ds) (L2.start N vs) H:=by
 have f:=qY (N:=N) hz h;unfold stK;rw [hd];refine ⟨f.keep,f.F0,by rw [Su]; exact f.len,f.nd,f.dj,f.new,fun j=>?_,f.tab⟩;by_cases hj:j=0
 ·subst hj;have hlen:0<(fX N.length (false::ms) ds).length:=by rw [← f.len]; unfold L2.start; rw [Ru,Q5,RV]; lia
  rw [kY hlen];obtain ⟨h1,h0,kvs,h2,h3,h4,h5⟩:=hk;refine ⟨rfl,x,dx,p,?_,h1,h0,kvs,h2,h3,h4,h5.kp ‹63›⟩;cases vs with
  | nil=>cases hv
  | cons v vs=>cases hv; rfl
 ·rw [ot hj];exact f.sl j
theorem eQ.OA {w:Sn} {x qual:Rf} {f:Q6} {N ps:List Rf} {k:Nat} (F:eQ K x qual st f fd) (S:ba N ps (aI st)) (ms:List Bool) (hms:(false::ms).length=ps.length) (hN:0<N.length) (b:DS)
 (hbody:∀ (cdv:Q7) (A:SG) (outer:List XX) (s:Rb) (H:Hp) (E:XK),fk k ‹110› →
  ∃ t,wI ‹59›.Lx (eU st) t∧de .v K t b):bQ P w K mg base gW (k+1) f fd ps (EK K C0 ms (fF N.length (false::ms) b)):=by
 refine F.ok S (fun vs H Q E h=>?_) ‹91›
 ·obtain ⟨Z,ds,d,_,_,_,_,_,hz,a,_⟩:=h;rw [a.len.1,hms]
 ·show 11
  ·rename_i d' e1;cases e;rw [e1];exact fun v H' s' i=>k v H' s' i
  ·cases e
theorem eQ.Hz {w:Sn} {x qual:Rf} {f:Q6} {N ps:List Rf} {k:Nat} (F:eQ K x qual st f fd) (S:ba N ps (aI st)) (ms:List Bool) (hms:(false::ms).length=ps.length) (hN:0<N.length) (b:DS)
 (hbody:∀ (cdv:Q7) (A:SG) (outer:List XX) (s:Rb) (H:Hp) (E:XK),fk k ‹110› →
  ∃ t,wI (sZ (nQ P w) P w K mg base N qual (aI st) f cdv A outer s H E) (eU st) t∧de (.x E C) K t b):bQ P w K mg base (nQ P w) (k+1) f fd ps (Cg K C0 ms C (fF N.length (false::ms) b)):=by
 refine F.Qv S (fun vs H Q E h=>?_) ‹91›
 ·obtain ⟨Z,ds,d,_,_,_,_,_,hz,a,_⟩:=h;rw [a.len.1,hms]
 ·show 11
  ·rename_i d' e1;cases e;rw [e1];exact k
  ·cases e
theorem gj {b:DS} (hF:F=fF n ms b) {d:D} (h:Wp b (stK n ms ds) { nx:=fun _=>False,rt:=fun x=>x=d }):F ds=some d:=by
 rw [hF];unfold fF;unfold Wp at h;split at h
 ·exact h.elim
 ·rename_i d' e; rw [e,show d'=d from h]
 ·exact h.elim
 ·exact h.elim
 ·exact h.elim
theorem lB {s:DS} (h:F=fF n ms s) (k:s (stK n ms ds)=.no):F ds=none:=by rw [h]; unfold fF; rw [k]
noncomputable def fg (C0:Q6) (i:Nat) (es:aU→Option (List D)):aU→Option (List D):=fun ρ=>match k6 (ρ.getD i .un) with
 | some (C,ks,ds)=>(match es ρ with
  | some xs=>if C=C0 then some (.dsk C ks ds::xs) else none
  | none=>none)
 | none=>none
omit [cu] in
theorem Eg {i:Nat} {xs:List D} (ha:k6 (ρ.getD i .un)=some (C0,ks,ds)) (he:es ρ=some xs):fg C0 i es ρ=some (.dsk C0 ks ds::xs):=by unfold fg; rw [ha]; dsimp only; rw [he]; dsimp only; rw [if_pos rfl]
theorem lA {i:Nat} (hm:(m == "floors")=false) (hes:mT K ms t es):ai K (vb C0 m (EK K C0 ms F) E (i8 i) t) (aJ F (fg C0 i es)):=fun {B Z os ρ σ H Q d} f q k=>by
 unfold aJ fg at q;cases e1:k6 (ρ.getD i .un) with
 | none=>rw [e1] at q; cases q
 | some r =>
  obtain ⟨C,ks,ds⟩:=r;rw [e1] at q;dsimp only at q;cases e3:es ρ with
  | none=>rw [e3] at q; cases q
  | some xs =>
   rw [e3] at q;dsimp only at q;by_cases e:C=C0
   ·subst e;rw [if_pos rfl] at q;obtain ⟨x,dx,p,hu,h⟩:=uO f e1;refine ⟨_,join_some hu,x,dx,_,rfl,h.1,by rw [Sr,hm]; rfl,hes f e3 fun vs H2 s2 ar=>?_⟩;have h2:=h.kp (T':=cE Z os) (Kp.same s2) fun a _ u e=>s2 _ _ e;exact ⟨cE Z os,_,d,x,dx,p,ks,ds,(f.grow s2).zt,.any h2.is ar,rfl,rfl,h2,q,fun w H3 s3 i=>k w H3 (s2.trans s3) (i.is (f.grow s2).K2)⟩
   ·rw [if_neg e] at q; cases q
theorem Az {i:Nat} (hes:mT K ms t es):ai K (nS (EK K C0 ms F) [] E (cF (i8 i) t)) (aJ F (fg C0 i es)):=fun {B Z os ρ σ H Q d} f q k=>by
 unfold aJ fg at q;cases e1:k6 (ρ.getD i .un) with
 | none=>rw [e1] at q; cases q
 | some r =>
  obtain ⟨C,ks,ds⟩:=r;rw [e1] at q;dsimp only at q;cases e3:es ρ with
  | none=>rw [e3] at q; cases q
  | some xs =>
   rw [e3] at q;dsimp only at q;by_cases e:C=C0
   ·subst e;rw [if_pos rfl] at q;obtain ⟨x,dx,p,hu,h⟩:=uO f e1;refine ⟨_,join_some hu,hes f e3 fun vs H2 s2 ar=>?_⟩;have h2:=h.kp (T':=cE Z os) (Kp.same s2) fun a _ u e=>s2 _ _ e;show EK K C ms F ((V.ref x::vs)++[]) H2 _ _;rw [Ss];exact ⟨cE Z os,_,d,x,dx,p,ks,ds,(f.grow s2).zt,.any h2.is ar,rfl,rfl,h2,q,fun w H3 s3 i=>k w H3 (s2.trans s3) (i.is (f.grow s2).K2)⟩
   ·rw [if_neg e] at q; cases q
theorem q9 {i iv ie:Nat} {r:TS} {Fl:Q7} {bs:List Bool} (hm:(m == "floors")=false) (ha:mT K ms t es) (hF:Vc K (.ref C) Fl=some true) (hne:ie≠iv) (hr:XL n iv C r bs) (hbs:bs.length≤1000:=by decide) :
 de .v K (t6 (K6 K Fl iv ie C0 m (Cg K C0 ms C F) (i8 i) t) r) (rB n iv (aJ F (fg C0 i es)) bs):=fun {B Z os ρ σ H En} f p=>by
 have hz:=Rw;unfold rB at p;split at p;case isFalse=>exact p.elim
 case isTrue hi =>
  cases e:aJ F (fg C0 i es) ρ with
  | none=>rw [e] at p; exact p.elim
  | some d =>
   rw [e] at p;unfold aJ fg at e;cases e1:k6 (ρ.getD i .un) with
   | none=>rw [e1] at e; cases e
   | some rr =>
    obtain ⟨C',ks,ds⟩:=rr;rw [e1] at e;dsimp only at e;cases e3:es ρ with
    | none=>rw [e3] at e; cases e
    | some xs =>
     rw [e3] at e;dsimp only at e;by_cases e4:C'=C0
     ·subst e4;rw [if_pos rfl] at e;have hl:σ.length=n:=by rw [f.len]; exact hi.1
      obtain ⟨x1,dx,q,hu,h⟩:=uO f e1;refine ⟨_,join_some hu,x1,dx,_,rfl,h.1,by rw [Sr,hm]; rfl,ha f e3 fun vs H1 s1 ar=>?_⟩;have h2:=h.kp (T':=cE Z os) (Kp.same s1) fun a _ u e=>s1 _ _ e;refine ⟨cE Z os,_,d,x1,dx,q,ks,ds,‹70›.zt,.any h2.is ar,rfl,rfl,h2,e,fun H2 s2=>⟨C,rfl,hF,fun x hx=>hr (a:=x) (by rw [Su,Su,Su]; exact hl) ?_ br fun q H3 s3 hq e3=>?_⟩⟩
      ·rw [SH hne,SS (by rw [Su]; lia)]
      ·have st:=s1.trans (s2.trans ((cx hx).trans s3));have hq0:H q=none:=bu.free (s1.trans (s2.trans (cx hx))) hq;have nz:¬ Z q:=fun z=>f.out hq0 (.inl z)
       have il:∀ l:List Bool,IsL K H3 Z (l.map V.bl) (l.map D.bl):=fun l=>by
        induction l with
        | nil=>exact .nil
        | cons b l ih=>exact .cons (.bl b) ih
       exact p (.ref q) H3 (f.keep.trans st) (.lst nz (.inl e3) (by rw [Q5]; lia) (il bs))
     ·rw [if_neg e4] at e; cases e
end
end
end VL
namespace L2
open PySem PySem.Spec PyProof.Rows
theorem MT.b {K:Q2} {C:Q6} {m q:Rf} {st:SJ} {ps:List Rf} {f:Q6} {d:SM} (t:MT K C m q st ps f d):Binds K d ps []:=.all t.b0
end L2
namespace My
open PySem L2 VL
abbrev wF:Q6:=711
abbrev Af:Q6:=768
abbrev ke:Q6:=825
abbrev qG:Q6:=880
abbrev mR:Q6:=1000
abbrev wD:Q6:=1064
abbrev ax:Q6:=1164
abbrev AH:SJ:=top 12
abbrev zm:SJ:=top 13
abbrev Cr:SJ:=top 54
abbrev zj:SJ:=top 55
abbrev GZ:SJ:=top 56
abbrev GX:SJ:=top 86
abbrev Cq:SJ:=top 87
abbrev zu:SJ:=clsAt (top 116) 0
abbrev zw:SJ:=clsAt (top 116) 1
abbrev AR:SJ:=clsAt (top 117) 0
abbrev AS:SJ:=clsAt (top 117) 1
abbrev zo:SJ:=clsAt (top 118) 0
abbrev zp:SJ:=clsAt (top 118) 1
abbrev vq:SJ:=clsAt (top 119) 0
abbrev vv:SJ:=clsAt (top 119) 1
abbrev AO:SJ:=clsAt (top 121) 0
abbrev AQ:SJ:=clsAt (top 121) 1
abbrev zq:SJ:=clsAt (top 122) 0
abbrev zr:SJ:=clsAt (top 122) 1
abbrev JK:SJ:=top 123
abbrev EU:SJ:=top 124
abbrev EV:SJ:=top 132
abbrev AN:SJ:=top 133
abbrev xi:SJ:=top 134
abbrev AJ:SJ:=top 135
abbrev Cp:SJ:=top 136
abbrev zk:SJ:=top 137
abbrev AI:SJ:=top 138
abbrev zl:SJ:=top 139
abbrev uc:SJ:=clsAt (top 145) 0
abbrev Ct:SJ:=clsAt (top 145) 1
abbrev Cu:SJ:=clsAt (top 145) 2
abbrev AU:SJ:=clsAt (top 145) 3
abbrev GY:SJ:=top 146
abbrev AG:SJ:=top 148
abbrev G0:SJ:=top 149
abbrev xj:SJ:=top 150
abbrev JJ:SJ:=top 156
abbrev AM:SJ:=top 157
abbrev ET:SJ:=top 158
abbrev AL:SJ:=top 159
abbrev rm:SJ:=top 160
abbrev rp:SJ:=top 161
abbrev rn:SJ:=top 162
abbrev AK:SJ:=top 163
abbrev Oj:SJ:=top 164
theorem za:ba ["numbers", "least", "most"] ["numbers", "least", "most"] (aI AH):=⟨rfl,rfl,rfl,by decide +kernel,rfl,by decide +kernel,by decide +kernel⟩
theorem wZ:ba ["numbers", "least"] ["numbers", "least"] (aI zm):=⟨rfl,rfl,rfl,by decide +kernel,rfl,by decide +kernel,by decide +kernel⟩
theorem d3:ba ["many", "needs", "before", "between", "first"] ["many", "needs"] (aI Cr):=⟨rfl,rfl,rfl,by decide +kernel,rfl,by decide +kernel,by decide +kernel⟩
theorem dH:ba ["many", "needs", "before", "first", "later"] ["many", "needs"] (aI zj):=⟨rfl,rfl,rfl,by decide +kernel,rfl,by decide +kernel,by decide +kernel⟩
theorem EO:ba ["truths", "others"] ["truths", "others"] (aI GZ):=⟨rfl,rfl,rfl,by decide +kernel,rfl,by decide +kernel,by decide +kernel⟩
theorem o4:ba ["behind", "later"] ["behind"] (aI GX):=⟨rfl,rfl,rfl,by decide +kernel,rfl,by decide +kernel,by decide +kernel⟩
theorem dI:ba ["behind", "work", "level", "later"] ["behind", "work"] (aI Cq):=⟨rfl,rfl,rfl,by decide +kernel,rfl,by decide +kernel,by decide +kernel⟩
theorem xg:ba ["self"] ["self"] (aI zu):=⟨rfl,rfl,rfl,by decide +kernel,rfl,by decide +kernel,by decide +kernel⟩
theorem xh:ba ‹62› ‹62› (aI zw):=⟨rfl,rfl,rfl,by decide +kernel,rfl,by decide +kernel,by decide +kernel⟩
theorem zg:ba ["self"] ["self"] (aI AR):=⟨rfl,rfl,rfl,by decide +kernel,rfl,by decide +kernel,by decide +kernel⟩
theorem zh:ba ‹62› ‹62› (aI AS):=⟨rfl,rfl,rfl,by decide +kernel,rfl,by decide +kernel,by decide +kernel⟩
theorem xa:ba ["self"] ["self"] (aI zo):=⟨rfl,rfl,rfl,by decide +kernel,rfl,by decide +kernel,by decide +kernel⟩
theorem xb:ba ‹62› ‹62› (aI zp):=⟨rfl,rfl,rfl,by decide +kernel,rfl,by decide +kernel,by decide +kernel⟩
theorem ua:ba ["self"] ["self"] (aI vq):=⟨rfl,rfl,rfl,by decide +kernel,rfl,by decide +kernel,by decide +kernel⟩
theorem ub:ba ‹62› ‹62› (aI vv):=⟨rfl,rfl,rfl,by decide +kernel,rfl,by decide +kernel,by decide +kernel⟩
theorem ze:ba ["self"] ["self"] (aI AO):=⟨rfl,rfl,rfl,by decide +kernel,rfl,by decide +kernel,by decide +kernel⟩
theorem zf:ba ‹62› ‹62› (aI AQ):=⟨rfl,rfl,rfl,by decide +kernel,rfl,by decide +kernel,by decide +kernel⟩
theorem xc:ba ["self"] ["self"] (aI zq):=⟨rfl,rfl,rfl,by decide +kernel,rfl,by decide +kernel,by decide +kernel⟩
theorem xf:ba ‹62› ‹62› (aI zr):=⟨rfl,rfl,rfl,by decide +kernel,rfl,by decide +kernel,by decide +kernel⟩
theorem GW:ba [] [] (aI JK):=⟨rfl,rfl,rfl,by decide +kernel,rfl,by decide +kernel,by decide +kernel⟩
theorem mi:ba ["word", "kind"] ["word"] (aI EU):=⟨rfl,rfl,rfl,by decide +kernel,rfl,by decide +kernel,by decide +kernel⟩
theorem Co:ba ["text"] ["text"] (aI EV):=⟨rfl,rfl,rfl,by decide +kernel,rfl,by decide +kernel,by decide +kernel⟩
theorem rj:ba ["text", "figures"] ["text"] (aI AN):=⟨rfl,rfl,rfl,by decide +kernel,rfl,by decide +kernel,by decide +kernel⟩
theorem nW:ba ["text"] ["text"] (aI xi):=⟨rfl,rfl,rfl,by decide +kernel,rfl,by decide +kernel,by decide +kernel⟩
theorem rg:ba ["text"] ["text"] (aI AJ):=⟨rfl,rfl,rfl,by decide +kernel,rfl,by decide +kernel,by decide +kernel⟩
theorem tM:ba ["text"] ["text"] (aI Cp):=⟨rfl,rfl,rfl,by decide +kernel,rfl,by decide +kernel,by decide +kernel⟩
theorem wY:ba ["rows"] ["rows"] (aI zk):=⟨rfl,rfl,rfl,by decide +kernel,rfl,by decide +kernel,by decide +kernel⟩
theorem zb:ba ["row"] ["row"] (aI AI):=⟨rfl,rfl,rfl,by decide +kernel,rfl,by decide +kernel,by decide +kernel⟩
theorem bG:ba ["text", "parts", "word", "rows"] ["text"] (aI zl):=⟨rfl,rfl,rfl,by decide +kernel,rfl,by decide +kernel,by decide +kernel⟩
theorem sH:ba ["self"] ["self"] (aI uc):=⟨rfl,rfl,rfl,by decide +kernel,rfl,by decide +kernel,by decide +kernel⟩
theorem bt:ba ‹49› ["self", "row"] (aI Ct):=⟨rfl,rfl,rfl,by decide +kernel,rfl,by decide +kernel,by decide +kernel⟩
theorem AE:ba ["self", "name", "floor"] ["self", "name", "floor"] (aI Cu):=⟨rfl,rfl,rfl,by decide +kernel,rfl,by decide +kernel,by decide +kernel⟩
theorem zi:ba ["self", "name"] ["self", "name"] (aI AU):=⟨rfl,rfl,rfl,by decide +kernel,rfl,by decide +kernel,by decide +kernel⟩
theorem xP:ba ["words", "first"] ["words"] (aI GY):=⟨rfl,rfl,rfl,by decide +kernel,rfl,by decide +kernel,by decide +kernel⟩
theorem mh:ba ["floor", "later", "word", "rows"] ["floor", "later"] (aI AG):=⟨rfl,rfl,rfl,by decide +kernel,rfl,by decide +kernel,by decide +kernel⟩
theorem jO:ba ["asked", "floor", "text", "kind", "rows"] ["asked", "floor", "text"] (aI G0):=⟨rfl,rfl,rfl,by decide +kernel,rfl,by decide +kernel,by decide +kernel⟩
theorem jV:ba ["text", "moment"] ["text"] (aI xj):=⟨rfl,rfl,rfl,by decide +kernel,rfl,by decide +kernel,by decide +kernel⟩
theorem GU:ba ["_law_number", "_law_k"] ["_law_number", "_law_k"] (aI JJ):=⟨rfl,rfl,rfl,by decide +kernel,rfl,by decide +kernel,by decide +kernel⟩
theorem zd:ba ["_law_script", "_law_k"] ["_law_script", "_law_k"] (aI AM):=⟨rfl,rfl,rfl,by decide +kernel,rfl,by decide +kernel,by decide +kernel⟩
theorem eT:ba ["_law_cell", "_law_letters", "_law_size", "_law_at", "_law_names_here", "_law_k", "_law_name", "_law_j"] ["_law_cell"] (aI ET):=⟨rfl,rfl,rfl,by decide +kernel,rfl,by decide +kernel,by decide +kernel⟩
theorem zc:ba ["_law_name", "_law_cell"] ["_law_name", "_law_cell"] (aI AL):=⟨rfl,rfl,rfl,by decide +kernel,rfl,by decide +kernel,by decide +kernel⟩
theorem dO:ba ["_law_g", "_law_u", "_law_rows"] ["_law_g", "_law_u"] (aI rm):=⟨rfl,rfl,rfl,by decide +kernel,rfl,by decide +kernel,by decide +kernel⟩
theorem eS:ba ["_law_u", "_law_m", "_law_rows"] ["_law_u", "_law_m"] (aI rp):=⟨rfl,rfl,rfl,by decide +kernel,rfl,by decide +kernel,by decide +kernel⟩
theorem bE:ba ["_law_g", "_law_t", "_law_u", "_law_rows", "_law_found"] ["_law_g", "_law_t", "_law_u"] (aI rn):=⟨rfl,rfl,rfl,by decide +kernel,rfl,by decide +kernel,by decide +kernel⟩
theorem dZ:ba ["_law_desk", "_law_row", "_law_caught", "e", "_law_found"] ["_law_desk", "_law_row"] (aI AK):=⟨rfl,rfl,rfl,by decide +kernel,rfl,by decide +kernel,by decide +kernel⟩
variable {x:Rf} {n:Nat} {a:DE} {j:Nat} {α:Type} {ps:List (Nat×Nat)} {r:List Int} {rk:Nat→Nat} {xs:List D} {d:D} {ρ:aU} {qs:List (Int×Int)} {W:Wk} {m:Nat} {y:Rf} {ws:List Rf} {R:List (List Int)} {s:D} {C:Q6} {t:Rf} {q:Rf} {row:Rf} {ts:List Rf} {u:Rf} {e:DE} {F:List D→Option D} {o:Option D} {ss:List Rf}
theorem iN:ba ‹81› ["_law_script"] (aI Oj):=⟨rfl,rfl,rfl,by decide +kernel,rfl,by decide +kernel,by decide +kernel⟩
section
section
theorem yO (x0 x1 x2:D):fX 3 [false,false,false] [x0,x1,x2]=[.bo x0,.bo x1,.bo x2]:=rfl
def kE:DS:=(cy (kc (dN false (fW dX (ak 0)) ‹27›) (fM ‹34› ‹34› (ak 1) (cY (ak 0) ‹31›) (ak 2))))
@[irreducible] def d4:List D→Option D:=b6 3 [false,false,false] kE
theorem nc:d4=b6 3 [false,false,false] kE:=by unfold d4; rfl
theorem wM (x0 x1:D):fX 2 [false,false] [x0,x1]=[.bo x0,.bo x1]:=rfl
def jF:DS:=(cy (fW wG (bw (c8 1 [1] (lN (ak 0)) (gN false 0) cO (O6 (ak 0) (ak 1))))))
@[irreducible] def d7:List D→Option D:=b6 2 [false,false] jF
theorem lU:d7=b6 2 [false,false] jF:=by unfold d7; rfl
theorem EG (x0 x1:D):fX 2 [false,false] [x0,x1]=[.bo x0,.bo x1]:=rfl
def sv:DS:=(cy (bw (c8 2 [] (yk (ak 0) (ak 1)) (Nh 2 (h9 (gN true 0) (h9 (gN true 1) wc))) cO (C6 (ak 0) (aX 1)))))
@[irreducible] def lX:List D→Option D:=b6 2 [false,false] sv
theorem sj:lX=b6 2 [false,false] sv:=by unfold lX; rfl
noncomputable def i7:DS:=(aM (vx 2 (oE 1 [0] (ig (ak 0)) (gN true 0) cO (C5 (aq (dC (.bl false)) aP) (ak 1))))
 (aM (nF (lN (tX 1)) (Nh 2 (h9 (gN false 3) (h9 (gN false 4) wc)))
 (aM (cQ (dF (FJ (dT (fM ‹34› (fun i j=>decide (i<j)) ‹31› (ak 3) (ak 0))) (dT (fM ‹34› (fun i j=>decide (i<j)) ‹31› (ak 4) (ak 0)))))
      (jW [(ak 3),(ak 4)])
      aT)
 (xQ 2 (ak 3) (ak 4) (dC (.bl true)))))
    eX))
@[irreducible] def ij:List D→Option D:=eG 5 [false,false] i7
theorem lO:ij=eG 5 [false,false] i7:=by unfold ij; rfl
theorem pM (x0 x1:D):fX 5 [false,false] [x0,x1]=[.bo x0,.bo x1,.un,.un,.un]:=rfl
noncomputable def jC:DS:=(aM (vx 2 (oE 1 [0] (ig (ak 0)) (gN true 0) cO (C5 (aq (dC (.bl false)) aP) (ak 1))))
 (aM (nF (lN (tX 1)) (Nh 2 (h9 (gN false 3) (h9 (gN false 4) wc)))
 (aM (cQ (dF (FJ (dT (fM ‹34› (fun i j=>decide (i<j)) ‹31› (ak 3) (ak 0))) (dT (fM ‹34› (fun i j=>decide (i<j)) ‹31› (ak 4) (ak 0)))))
      eX
      aT)
 (xQ 2 (ak 3) (ak 4) (dC (.bl true)))))
    (AX 2 (AW 2))))
@[irreducible] def eW:List D→Option D:=eG 5 [false,false] jC
theorem lR:eW=eG 5 [false,false] jC:=by unfold eW; rfl
noncomputable def kQ:DS:=(aM (xk (aJ ij (aq (ak 0) (aq (ak 1) aP))) (pO 2 (sY eW (aq (ak 0) (aq (ak 1) aP)))))
 (aM (nF (ig (ak 0)) (gN true 3)
 (nF (ig (ak 0)) (gN true 4)
 (cQ (dw (cY (cY (ak 2) (ak 4)) (ak 3)))
 (EX 2 (ak 4) (aJ lX (aq (cY (ak 2) (ak 4)) (aq (cY (ak 2) (ak 3)) aP))))
      aT)))
 (aM (cQ (dw (fW NI (bw (c8 1 [2] (ig (ak 0)) (gN true 0) cO (j5 (cY (cY (ak 1) (ak 0)) (ak 0)))))))
      (jW [])
      aT)
    eX)))
@[irreducible] def kj:List D→Option D:=eG 5 [false,false] kQ
theorem oK:kj=eG 5 [false,false] kQ:=by unfold kj; rfl
theorem tL (x0 x1:D):fX 5 [false,false] [x0,x1]=[.bo x0,.bo x1,.un,.un,.un]:=rfl
noncomputable def mX:DS:=(aM (pO 2 (sY eW (aq (ak 0) (aq (ak 1) aP))))
 (aM (nF (ig (ak 0)) (gN true 3)
 (nF (ig (ak 0)) (gN true 4)
 (cQ (dw (cY (cY (ak 2) (ak 4)) (ak 3)))
 (EX 2 (ak 4) (aJ lX (aq (cY (ak 2) (ak 4)) (aq (cY (ak 2) (ak 3)) aP))))
      aT)))
 (aM (cQ (dw (fW NI (bw (c8 1 [2] (ig (ak 0)) (gN true 0) cO (j5 (cY (cY (ak 1) (ak 0)) (ak 0)))))))
      eX
      aT)
 (cy (bw (c8 1 [0] (lN (ak 2)) (gN false 0) cO (bw (c8 1 [0] (ig (ak 1)) (gN true 0) (dw (cY (ak 1) (ak 0))) (aX 0)))))))))
@[irreducible] def iX:List D→Option D:=b6 5 [false,false] mX
theorem oR:iX=b6 5 [false,false] mX:=by unfold iX; rfl
noncomputable def kP:DS:=(aM (bS 2 ‹27›)
 (aM (bS 3 (j5 (cY (ak 0) (ak 1))))
 (aM (ql (dT (dN true (ak 3) (wz ‹27›)))
 (aM (EY (fun x y=>x+y) 2 ‹27›)
 (aM (cQ (dT (KO (ak 2) (fW dX (ak 0))))
      (jW [(ak 1)])
      aT)
 (bS 3 (j5 (cY (ak 0) (ak 3)))))))
    eX)))
@[irreducible] def ki:List D→Option D:=eG 4 [false,false] kP
theorem oJ:ki=eG 4 [false,false] kP:=by unfold ki; rfl
theorem tK (x0 x1:D):fX 4 [false,false] [x0,x1]=[.bo x0,.bo x1,.un,.un]:=rfl
noncomputable def mW:DS:=(aM (bS 2 ‹27›)
 (aM (bS 3 (j5 (cY (ak 0) (ak 1))))
 (aM (ql (dT (dN true (ak 3) (wz ‹27›)))
 (aM (EY (fun x y=>x+y) 2 ‹27›)
 (aM (cQ (dT (KO (ak 2) (fW dX (ak 0))))
      eX
      aT)
 (bS 3 (j5 (cY (ak 0) (ak 3)))))))
 (cy (aX 2)))))
@[irreducible] def fO:List D→Option D:=b6 4 [false,false] mW
theorem oP:fO=b6 4 [false,false] mW:=by unfold fO; rfl
noncomputable def pz:DS:=(aM (nF (lN (tX 0)) (gN false 1)
 (cQ (dF (dT (fM ‹34› (fun i j=>decide (i<j)) (wz ‹27›) (ak 1) (fW dX (ak 0)))))
      (jW [(ak 1)])
      aT))
    (JL 1 [0] (ig (fW dX (ak 0))) (gN true 0) (aJ fO (aq (ak 1) (aq (ak 0) aP))) (aJ ki (aq (ak 1) (aq (ak 0) aP)))))
@[irreducible] def oI:List D→Option D:=eG 2 [false] pz
theorem sd:oI=eG 2 [false] pz:=by unfold oI; rfl
theorem xJ (x0:D):fX 2 [false] [x0]=[.bo x0,.un]:=rfl
noncomputable def sr:DS:=(aM (nF (lN (tX 0)) (gN false 1)
 (cQ (dF (dT (fM ‹34› (fun i j=>decide (i<j)) (wz ‹27›) (ak 1) (fW dX (ak 0)))))
      eX
      aT))
 (cy (bw (c8 1 [0] (ig (fW dX (ak 0))) (gN true 0) cO (aJ fO (aq (ak 1) (aq (ak 0) aP)))))))
@[irreducible] def oO:List D→Option D:=b6 2 [false] sr
theorem sh:oO=b6 2 [false] sr:=by unfold oO; rfl
theorem wU (x0:D):fX 1 [false] [x0]=[.bo x0]:=rfl
def jK:DS:=(cy (dC (.str "alike")))
@[irreducible] def cV:List D→Option D:=b6 1 [false] jK
theorem l6:cV=b6 1 [false] jK:=by unfold cV; rfl
theorem wV (x0 x1:D):fX 2 [false,true] [x0,x1]=[.bo x0,.pu x1]:=rfl
noncomputable def jL:DS:=(aM (cQ (BQ (dT (dN true (fW dX (ak 1)) (dC (.int 2)))) (dF (dw (aJ d4 (aq (cY (ak 1) ‹31›) (aq ‹27› (aq (dC (.int 20)) aP)))))))
 ‹80›
      aT)
 (cy (kc (KN (fW dX (cY (ak 1) ‹27›)) (dC (.int 20))) (aJ d7 (aq (cY (ak 1) ‹27›) (aq ‹31› aP))))))
@[irreducible] def bM:List D→Option D:=b6 2 [false,true] jL
theorem l9:bM=b6 2 [false,true] jL:=by unfold bM; rfl
theorem yV (x0:D):fX 1 [false] [x0]=[.bo x0]:=rfl
def kN:DS:=(cy (dC (.str "open")))
@[irreducible] def du:List D→Option D:=b6 1 [false] kN
theorem nB:du=b6 1 [false] kN:=by unfold du; rfl
theorem yW (x0 x1:D):fX 2 [false,true] [x0,x1]=[.bo x0,.pu x1]:=rfl
noncomputable def kO:DS:=(aM (cQ (dT (KO (fW dX (ak 1)) (dC (.int 6))))
 ‹80›
      aT)
 (cy (fW wG (bw (c8 1 [1] (lN (aX 1)) (gN true 0) cO (kc (dN false (fW dX (ak 0)) (fW dX (cY (ak 1) ‹31›))) (kc (KN (fW dX (ak 0)) (dC (.int 6))) (aJ d7 (aq (ak 0) (aq ‹31› aP))))))))))
@[irreducible] def bW:List D→Option D:=b6 2 [false,true] kO
theorem nC:bW=b6 2 [false,true] kO:=by unfold bW; rfl
theorem wN (x0:D):fX 1 [false] [x0]=[.bo x0]:=rfl
def jG:DS:=(cy (dC (.str "tails")))
@[irreducible] def cS:List D→Option D:=b6 1 [false] jG
theorem lY:cS=b6 1 [false] jG:=by unfold cS; rfl
theorem wO (x0 x1:D):fX 2 [false,true] [x0,x1]=[.bo x0,.pu x1]:=rfl
noncomputable def jH:DS:=(cy (kc (KN (fW dX (ak 1)) (dC (.int 12))) (fW wG (bw (c8 1 [] (lN (aX 1)) (gN true 0) cO (kc (dN false (fW dX (ak 0)) (dC (.int 3))) (kc (aJ d7 (aq (ak 0) (aq ‹31› aP))) (O6 (cY (ak 0) ‹27›) ‹27›))))))))
@[irreducible] def bK:List D→Option D:=b6 2 [false,true] jH
theorem lZ:bK=b6 2 [false,true] jH:=by unfold bK; rfl
theorem t8 (x0:D):fX 1 [false] [x0]=[.bo x0]:=rfl
def ir:DS:=(cy (dC (.str "windows")))
@[irreducible] def cq:List D→Option D:=b6 1 [false] ir
theorem kl:cq=b6 1 [false] ir:=by unfold cq; rfl
theorem t9 (x0 x1:D):fX 2 [false,true] [x0,x1]=[.bo x0,.pu x1]:=rfl
noncomputable def iu:DS:=(aM (cQ (BQ (dF (dT (fM ‹34› ‹34› ‹27› (fW dX (ak 1)) (dC (.int 9))))) (dF (dw (aJ d4 (aq (cY (ak 1) ‹31›) (aq ‹27› (aq (dC (.int 8)) aP)))))))
 ‹80›
      aT)
 (cy (fW wG (bw (c8 1 [] (lN (bw (yn (aX 1) (eM ‹27›) ft))) (gN true 0) cO (kc (dN false (fW dX (ak 0)) (dC (.int 3))) (kc (aJ d7 (aq (ak 0) (aq ‹31› aP))) (KN (cY (ak 0) ‹31›) (cY (ak 0) ‹27›)))))))))
@[irreducible] def bA:List D→Option D:=b6 2 [false,true] iu
theorem km:bA=b6 2 [false,true] iu:=by unfold bA; rfl
theorem yT (x0:D):fX 1 [false] [x0]=[.bo x0]:=rfl
def kL:DS:=(cy (dC (.str "tree")))
@[irreducible] def dr:List D→Option D:=b6 1 [false] kL
theorem ny:dr=b6 1 [false] kL:=by unfold dr; rfl
theorem yU (x0 x1:D):fX 2 [false,true] [x0,x1]=[.bo x0,.pu x1]:=rfl
local macro_rules | `(tactic| walk_at "sd")=>`(tactic| first | assumption | lia | decide | (simp only [List.length_map,List.length_cons,List.length_nil]; lia) | ((with_reducible apply And.intro) <;> walk_at "sd"))
local macro_rules | `(tactic| walk_at "fn")=>`(tactic| assumption)
local macro_rules | `(tactic| walk_at "ix")=>`(tactic| first | exact Qy (by lia) (by lia) | exact LC (by lia) (by lia) | exact ix2I _ _ _ | exact ix3I _ _ _ _ | exact ix4I _ _ _ _ _ | rfl)
local macro_rules | `(tactic| walk_at "ev")=>`(tactic| first
 | ((with_reducible first | apply k4 | apply ev_sub | apply Iu | apply wu | apply yh | apply Ee | apply ev_max2 | apply ev_min2 | apply af | apply qB | apply wt); (· walk_at "ev"); (· walk_at "ev"))
 | ((with_reducible first | apply qA | apply dG | apply cf | apply z6 | apply bf | apply j8 | apply wq); (· walk_at "ev"))
 | ((with_reducible first | apply cj | apply ic | apply c7 | apply c6 | apply ev_lof); (· walk_at "ev"); (· rfl))
 | ((with_reducible first | apply sW | apply iF | apply fV | apply z5); (· walk_at "ev"); (· intro _; walk_at "ev"))
 | ((with_reducible first | show ak _ _=_ | show aX _ _=_ | show tX _ _=_ | show dC _ _=_ | show aP _=_ | show ft _=_ | show cO _=_); rfl)
 | ((with_reducible apply c0); (· walk_at "ev"); (· walk_at "ev"); (· walk_at "ix"))
 | ((with_reducible apply aN); (· walk_at "ev"); (· walk_at "fn"))
 | ((with_reducible first | apply dE | apply Bo); (· walk_at "ev"); (· walk_at "ev"); (· walk_at "ev"))
 | ((with_reducible apply mH); (· walk_at "ev"); (· walk_at "ev"); (· first | assumption | (apply Bk; lia)))
 | ((with_reducible apply ev_fdiv); (· walk_at "ev"); (· walk_at "ev"); (· first | exact fdok (by lia) (by lia) | walk_at "sd"))
 | ((with_reducible first | apply j9 | apply ev_rg2); (· walk_at "ev"); (· walk_at "ev"); (· walk_at "sd"))
 | ((with_reducible apply kZ); (· walk_at "ev"); (· walk_at "sd"))
 | ((with_reducible apply C2); (· walk_at "ev"); (· walk_at "ev"); (· simp only [Rt,Tf]; walk_at "sd")))
local macro_rules | `(tactic| walk_at "st")=>`(tactic| dsimp only [List.set_cons_succ,List.set_cons_zero])
local macro_rules | `(tactic| walk_at "go")=>`(tactic| ((try dsimp only); walk_at "go1"))
local macro_rules | `(tactic| walk_at "go1")=>`(tactic| first
 | ((with_reducible apply wp_seq); walk_at "go")
 | ((with_reducible apply uZ); dsimp only [uM,UM,UN,RZ,R0]; walk_at "go")
 | ((with_reducible apply bp); (· walk_at "ev"); walk_at "st"; walk_at "go")
 | ((with_reducible apply kr); (· walk_at "ev"); (· simp only [Rt,Tf]; lia); walk_at "st"; walk_at "go")
 | ((with_reducible apply yD); (· rfl); (· walk_at "ev"); walk_at "st"; walk_at "go")
 | ((with_reducible apply bj); (try dsimp only); walk_at "go")
 | skip)
theorem mem_getD {p:List Int} {k:Nat} (hk:k<p.length):p.getD k 0∈p:=by rw [Rc,Q8 hk]; exact Uc hk
namespace Tr
theorem log_small {x:Int} (h:x.natAbs<10 ^ 70):x.natAbs.log2<1920:=by
 by_cases h0:x.natAbs=0
 ·rw [h0]; decide
 ·exact (Wv h0).mpr (S5 h ‹6›)
abbrev fe (cs:List Int):D:=.lst (cs.map D.int)
theorem Fo (r:List Int):dX (fe r)=some (.int r.length):=by show some (D.int ((r.map D.int).length:Nat))=_; rw [Q5]
def up (cs:List Int):Nat→Int→Int
 | 0,w=>w
 | k+1,w=>if up cs k w=-1 then -1 else cs.getD (up cs k w).toNat 0
theorem qS {cs:List Int} {k:Nat} {w:Int} (h:up cs k w≠-1):up cs (k+1) w=cs.getD (up cs k w).toNat 0:=by show (if up cs k w=-1 then -1 else cs.getD (up cs k w).toNat 0)=_;rw [if_neg h]
theorem BY {cs:List Int} {w:Int} {k:Nat} (h:up cs k w=-1):∀ {j:Nat},k≤j→up cs j w=-1:=by
  intro j hj;induction j with
  | zero => have:k=0:=by lia
            rw [this] at h; exact h
  | succ j ih =>
    by_cases e:k=j+1
    · rw [← e]; exact h
    · show (if up cs j w=-1 then -1 else cs.getD (up cs j w).toNat 0)=-1;rw [if_pos (ih (by lia))]
def In (cs:List Int):Prop:=∀ v∈cs,-1≤v∧v<(cs.length:Int)
theorem Gb {cs:List Int} (h:In cs) {w:Int} (hw:0≤w∧w<(cs.length:Int)):∀ k,-1≤up cs k w∧up cs k w<(cs.length:Int)
 | 0=>by show -1≤w∧w < _; lia
 | k+1=>by
  have ih:=Gb h hw k;by_cases e:up cs k w=-1
  ·rw [BY e (by lia)]; lia
  ·rw [qS e];exact h _ (mem_getD (by lia))
theorem ya {cs:List Int} (h:In cs) {w:Int} (hw:0≤w∧w<(cs.length:Int)) {e:Nat} (he:e<cs.length) (hn:up cs (e+1) w=-1):∃ d,fO [fe cs,.int w]=some d:=by
 obtain ⟨d,e1,_⟩:=zx oP (ds:=[fe cs,.int w]) (P:=fun _=>True) (by
  rw [tK];unfold mW;refine wp_seq (bp rfl ?_);walk_at "st";refine wp_seq (bp (ic (c0 rfl rfl (LC (by lia) (by lia))) rfl) ?_);walk_at "st";have u0:up cs 0 w=w:=rfl;refine wp_seq (Aq (fun m ρ=>∃ i:Nat,m=cs.length-i∧i<cs.length∧up cs i w≠-1∧ρ=[.bo (fe cs),.bo (.int w),.pu (.int (1+i)),.pu (.int (up cs (i+1) w))]) cs.length ⟨0,rfl,by lia,by rw [u0]; lia,by rw [qS (by rw [u0]; lia),u0]; rfl⟩ ?_);rintro m ρ ⟨i,rfl,hi,hu,rfl⟩;refine ⟨_,dG (wt rfl (qA rfl)),fun c=>?_,fun c=>?_⟩
  ·have c:=of_decide_eq_true c;have hie:i<e:=by refine Wi fun z=>c (BY hn (by lia))
   refine wp_seq (yD rfl rfl ?_);walk_at "st";refine wp_seq (p0 (dG (yh rfl (c7 rfl (Fo cs)))) (fun c2=>?_) fun _=>bj ?_)
   ·have c2:(cs.length:Int)<1+i+1:=c2;lia
   ·have hr:=Gb h hw (i+1);refine bp (ic (c0 rfl rfl (LC (by lia) (by lia))) rfl) ?_;walk_at "st";refine ⟨cs.length-(i+1),by lia,i+1,rfl,by lia,c,?_⟩;rw [qS c];have e2:(1:Int)+((i+1:Nat):Int)=1+i+1:=by lia
    rw [e2]
  ·exact bx rfl trivial)
 exact ⟨d,e1⟩
theorem x9 {cs:List Int} (h:In cs) (hl:cs.length≤1000) {w:Int} (hw:0≤w∧w<(cs.length:Int)) (hn:∀ k,k≤cs.length→up cs k w≠-1):∃ d,ki [fe cs,.int w]=some d:=by
  obtain ⟨d,e1,_⟩:=uC oJ (ds:=[fe cs,.int w]) (P:=fun _=>True) (by
    rw [tK];unfold kP;refine wp_seq (bp rfl ?_);walk_at "st";refine wp_seq (bp (ic (c0 rfl rfl (LC (by lia) (by lia))) rfl) ?_);walk_at "st";have u0:up cs 0 w=w:=rfl;refine wp_seq (Aq (fun m ρ=>∃ i:Nat,m=cs.length-i∧i<cs.length∧ρ=[.bo (fe cs),.bo (.int w),.pu (.int (1+i)),.pu (.int (up cs (i+1) w))]) cs.length ⟨0,rfl,by lia,by rw [qS (by rw [u0]; lia),u0]; rfl⟩ ?_);rintro m ρ ⟨i,rfl,hi,rfl⟩;have hne:=hn (i+1) (by lia);refine ⟨true,?_,fun c=>?_,fun c=>by cases c⟩
    · rw [dG (wt rfl (qA rfl)),decide_eq_true hne]
    · refine wp_seq (yD rfl rfl ?_);walk_at "st";refine wp_seq (p0 (dG (yh rfl (c7 rfl (Fo cs)))) (fun c2=>?_) fun c2=>bj ?_)
      · exact wp_raise (fmt_cons rfl (log_small (by have:w.natAbs<1000:=by lia
                                                    exact S5 this ‹6›)) zY) trivial
      · have c2:¬ (cs.length:Int)<1+i+1:=c2;have hr:=Gb h hw (i+1);refine bp (ic (c0 rfl rfl (LC (by lia) (by lia))) rfl) ?_;walk_at "st";refine ⟨cs.length-(i+1),by lia,i+1,rfl,by lia,?_⟩;rw [qS hne];have e2:(1:Int)+((i+1:Nat):Int)=1+i+1:=by lia
        rw [e2])
  exact ⟨d,e1⟩
structure Ref (cs:List Int):Prop where
 big:cs.length≤40
 wr:∀ v∈cs,v.natAbs<10 ^ 70
 why:¬ In cs∨(In cs∧∃ w:Int,(0≤w∧w<(cs.length:Int))∧∀ k,k≤cs.length→up cs k w≠-1)
theorem F1 {cs:List Int} (h:Ref cs):∃ d,oI [fe cs]=some d:=by
  have hline:Q4=16777216:=Rw;have hb:=h.big
  obtain ⟨d,e,_⟩:=uC sd (ds:=[fe cs]) (P:=fun _=>True) (by
    rw [xJ];unfold pz;refine wp_seq (iL (c6 (d:=fe cs) rfl rfl) (fun j ρ=>(∀ v∈cs.take j,-1≤v∧v<(cs.length:Int))∧∃ v1,ρ=[.bo (fe cs),v1]) ⟨(fun _ z=>by cases z),_,rfl⟩ ?_ ?_)
    · rintro j d ρ hd ⟨hj,v1,rfl⟩;rw [Ro] at hd;cases er:cs[j]? with
      | none=>rw [er] at hd; cases hd
      | some v =>
        rw [er] at hd;cases hd;refine ⟨_,rfl,?_⟩;dsimp only [gN,wW,RZ,R0];have key:dT (fM ‹34› (fun i j=>decide (i<j)) (wz ‹27›) (ak 1) (fW dX (ak 0))) [.bo (fe cs),.bo (.int v)]=some (decide (-1≤v∧v<(cs.length:Int))):=by refine dG ?_;rw [dE (i:=-1) (j:=v) (k:=(cs.length:Int)) (qA rfl) rfl (c7 rfl (Fo cs))];congr 2;rw [RG];simp
        refine qQ (cf key) (fun c=>?_) fun c=>bj ⟨fun x hx=>?_,_,rfl⟩
        · exact wp_raise (fmt_cons rfl (log_small (h.wr v (RB er))) zY) trivial
        · rw [Zc,er] at hx;rcases RD.mp hx with hx | hx
          · exact hj x hx
          · cases Q3.mp hx;rw [U2] at c;exact of_decide_eq_true c
    · rintro ρ ⟨hj,v1,rfl⟩;rw [Q5,W0] at hj;have hin:In cs:=hj;rcases h.why with hx | ⟨_,w,hw,hx⟩
      · exact absurd hin hx
      · have er:ig (fW dX (ak 0)) [.bo (fe cs),v1]=some ((Rl cs.length).map fun (k:Nat)=>D.int (k:Int)):=by rw [kZ (c7 rfl (Fo cs)) (by lia)];unfold Gd;rw [Tz];refine congrArg some (Sx fun k _=>?_);rw [Xe]
        refine uY er (o5 (fun (k:Nat)=>D.int (k:Int)) (fun k hk=>⟨_,rfl,?_⟩) ⟨w.toNat,Sa.mpr (by lia),fun ρ1 e1=>?_⟩) trivial
        · have hk:=Sa.mp hk;have hw':(0:Int)≤(k:Int)∧(k:Int)<(cs.length:Int):=by lia
          by_cases he:∃ e,e<cs.length∧up cs (e+1) (k:Int)=-1
          · obtain ⟨e,he,hu⟩:=he;obtain ⟨d,e2⟩:=ya hin hw' he hu;exact .inr ⟨d,aN ‹20› e2⟩
          · obtain ⟨d,e2⟩:=x9 hin (by lia) hw' fun j hj z=>by
              cases j with
              | zero => have z:(k:Int)=-1:=z
                        lia
              | succ j=>exact he ⟨j,by lia,z⟩
            exact .inl ⟨d,aN ‹20› e2⟩
        · cases e1;have ew:((w.toNat:Nat):Int)=w:=by lia
          obtain ⟨d,e2⟩:=x9 hin (by lia) hw fun j hj=>hx j hj;refine ⟨d,aN ‹20› ?_⟩;rw [ew];exact e2)
  exact ⟨d,e⟩
structure Ok (cs:List Int):Prop where
 big:cs.length≤40
 OS:In cs
 up:∀ w:Int,0≤w∧w<(cs.length:Int)→up cs cs.length w=-1
theorem Kg {cs:List Int} (h:Ok cs):∃ d,oO [fe cs]=some d:=by
 have hb:=h.big;have hline:Q4=16777216:=Rw
 obtain ⟨d,e,_⟩:=zx sh (ds:=[fe cs]) (P:=fun _=>True) (by
  rw [xJ];unfold sr;refine wp_seq (iL (c6 (d:=fe cs) rfl rfl) (fun j ρ=>∃ v1,ρ=[.bo (fe cs),v1]) ⟨_,rfl⟩ ?_ ?_)
  ·rintro j d ρ hd ⟨v1,rfl⟩;rw [Ro] at hd;obtain ⟨v,er,rfl⟩:=S9.mp hd;refine ⟨_,rfl,?_⟩;dsimp only [gN,wW,RZ,R0];have hv:=h.OS v (RB er);refine cm (cf (x:=true) (dG ?_)) (bj ⟨_,rfl⟩);rw [dE (i:=-1) (j:=v) (k:=(cs.length:Int)) (qA rfl) rfl (c7 rfl (Fo cs))];congr 2;simp [hv.1,hv.2]
  ·rintro ρ ⟨v1,rfl⟩;have er:ig (fW dX (ak 0)) [.bo (fe cs),v1]=some ((Rl cs.length).map fun (k:Nat)=>D.int (k:Int)):=by rw [kZ (c7 rfl (Fo cs)) (by lia)];unfold Gd;rw [Tz];refine congrArg some (Sx fun k _=>?_);rw [Xe]
   have all:∀ k:Nat,k<cs.length→∃ d,fO [fe cs,.int (k:Int)]=some d:=fun k hk=>by have hu:=h.up (k:Int) (by lia);exact ya h.OS (by lia) (e:=cs.length-1) (by lia) (by rw [show cs.length-1+1=cs.length by lia]; exact hu)
   obtain ⟨f,hf⟩:∃ f:Nat→D,∀ k:Nat,k<cs.length→fO [fe cs,.int (k:Int)]=some (f k):=by refine ⟨fun k=>if h:k<cs.length then (all k h).choose else .non,fun k h=>?_⟩;dsimp only;rw [dif_pos h];exact (all k h).choose_spec
   exact bx (bf (bY (fun k:Nat=>D.int (k:Int)) er f fun k hk=>⟨_,rfl,aN ‹20› (hf k (Sa.mp hk))⟩)) trivial)
 exact ⟨d,e⟩
theorem Hy {cs:List Int} (hb:cs.length≤40) (hw:∀ v∈cs,v.natAbs<10 ^ 70):Ok cs∨Ref cs:=by
 by_cases h:In cs
 ·by_cases hu:∀ w:Int,0≤w∧w<(cs.length:Int)→up cs cs.length w=-1
  ·exact .inl ⟨hb,h,hu⟩
  ·obtain ⟨w,hu⟩:=VF.mp hu;obtain ⟨hr,hu⟩:=Ww.mp hu;exact .inr ⟨hb,hw,.inr ⟨h,w,hr,fun k hk z=>hu (BY z hk)⟩⟩
 ·exact .inr ⟨hb,hw,.inl h⟩
theorem HZ {a b:List Int} (h:[fe a]=[fe b]):a=b:=by
 have h:a.map D.int=b.map D.int:=by injection h with h _; injection h
 exact (Yg (fun x y e=>by injection e)).mp h
end Tr
open Classical in
def Nl (ds:List D):Option Bool:=if ∃ cs,ds=[Tr.fe cs]∧Tr.Ok cs then some true else if ∃ cs,ds=[Tr.fe cs]∧Tr.Ref cs then some false else none
theorem P7 (ds:List D) (h:Nl ds=some true):∃ d,oO ds=some d:=by
 unfold Nl at h;split at h
 ·rename_i c;obtain ⟨cs,rfl,k⟩:=c;exact Tr.Kg k
 ·split at h <;> cases h
theorem P6 (ds:List D) (h:Nl ds=some false):∃ d,oI ds=some d:=by
 unfold Nl at h;split at h
 ·cases h
 ·split at h
  ·rename_i c;obtain ⟨cs,rfl,k⟩:=c;exact Tr.F1 k
  ·cases h
open Classical in
theorem Nk {cs:List Int} (hb:cs.length≤40) (hw:∀ v∈cs,v.natAbs<10 ^ 70):Nl [Tr.fe cs]=some (decide (Tr.Ok cs)):=by
 unfold Nl;by_cases h:Tr.Ok cs
 ·rw [if_pos ⟨cs,rfl,h⟩,decide_eq_true h]
 ·rw [if_neg (fun ⟨c,e,k⟩=>h (Tr.HZ e ▸ k)),if_pos ⟨cs,rfl,(Tr.Hy hb hw).resolve_left h⟩,decide_eq_false h]
noncomputable def kM:DS:=(aM (cQ (BQ (dT (dN true (fW dX (ak 1)) (dC (.int 2)))) (BQ (dF (dw (aJ d4 (aq (cY (ak 1) ‹31›) (aq ‹27› (aq (dC (.int 20)) aP)))))) (dT (KO (fW dX (cY (ak 1) ‹27›)) (dC (.int 40))))))
 ‹80›
      aT)
 (aM (tN Nl (aq (cY (ak 1) ‹27›) aP))
 (cy (dC (.bl true)))))
@[irreducible] def bV:List D→Option D:=b6 2 [false,true] kM
theorem nA:bV=b6 2 [false,true] kM:=by unfold bV; rfl
theorem wQ (x0:D):fX 1 [false] [x0]=[.bo x0]:=rfl
def jI:DS:=(cy (dC (.str "pairs")))
@[irreducible] def cT:List D→Option D:=b6 1 [false] jI
theorem l4:cT=b6 1 [false] jI:=by unfold cT; rfl
theorem wR (x0 x1:D):fX 2 [false,true] [x0,x1]=[.bo x0,.pu x1]:=rfl
abbrev kq:=List (List Bool)
def gG (r:List Bool):List D:=r.map D.bl
def iD (M:kq):List (List D):=M.map gG
def iC (M:kq):List D:=(iD M).map D.lst
def at2 (M:kq) (a b:Nat):Bool:=(M.getD a []).getD b false
structure Sq (M:kq) (n:Nat):Prop where
 len:M.length=n
 row:∀ r∈M,r.length=n
def rE (M:kq) (a b:Nat):kq:=M.set a ((M.getD a []).set b true)
def vG (x y:List Bool):List Bool:=Vi (fun p q=>p || q) x y
def gM (c:Nat) (M:kq) (a:Nat):kq:=if at2 M a c=true then M.set a (vG (M.getD a []) (M.getD c [])) else M
def gH (n:Nat) (M:kq) (c:Nat):kq:=(Rl n).foldl (gM c) M
def NF (n:Nat) (M:kq):kq:=(Rl n).foldl (gH n) M
def x6 (n:Nat):kq:=Rx n (Rx n false)
def fb (n:Nat) (ps:List (Nat×Nat)):kq:=ps.foldl (fun M p=>rE M p.1 p.2) (x6 n)
theorem Sq.mem {M:kq} {a:Nat} (h:Sq M n) (ha:a<n):M.getD a []∈M:=by rw [Rc,Q8 (by rw [h.len]; exact ha)];exact Uc _
theorem Sq.rl {M:kq} {a:Nat} (h:Sq M n) (ha:a<n):(M.getD a []).length=n:=h.row _ (h.mem ha)
theorem Sq.set {M:kq} {n a:Nat} {r:List Bool} (h:Sq M n) (hr:r.length=n):Sq (M.set a r) n:=by
 refine ⟨by rw [Su]; exact h.len,fun x hx=>?_⟩;rcases List.mem_or_eq_of_mem_set hx with hx | rfl
 ·exact h.row x hx
 ·exact hr
theorem Sq.get {M:kq} {a:Nat} (h:Sq M n) (ha:a<n):M[a]?=some (M.getD a []):=by have:=h.len;rw [Rc,Q8 (by lia)];rfl
theorem MI {x y:List Bool} (hx:x.length=n) (hy:y.length=n):(vG x y).length=n:=by unfold vG; rw [Tp,hx,hy,Yw]
theorem MJ {x y:List Bool} {b:Nat} (hx:x.length=n) (hy:y.length=n):(vG x y).getD b false=(x.getD b false || y.getD b false):=by
 unfold vG;rw [Rc,Uq,Rc,Rc];by_cases hb:b<n
 ·rw [Q8 (by lia),Q8 (by lia)];rfl
 ·rw [Sf (by lia),Sf (by lia)];rfl
theorem Sq.gM {M:kq} {n c a:Nat} (h:Sq M n) (hc:c<n) (ha:a<n):Sq (gM c M a) n:=by
 unfold My.gM;split
 ·exact h.set (MI (h.rl ha) (h.rl hc))
 ·exact h
theorem Sq.foldl {f:kq→Nat→kq} {n:Nat} (hf:∀ M a,a<n→Sq M n→Sq (f M a) n) {M:kq} (h:Sq M n):∀ j,j≤n→Sq ((Rl j).foldl f M) n
 | 0,_=>h
 | j+1,hj=>by rw [VN,Wx];exact hf _ j (by lia) (Sq.foldl hf h j (by lia))
theorem Sq.inner {M:kq} {c:Nat} (h:Sq M n) (hc:c<n) (hj:j≤n):Sq ((Rl j).foldl (My.gM c) M) n:=Sq.foldl (fun M a ha h=>h.gM hc ha) h j hj
theorem Sq.close {M:kq} (h:Sq M n) (hj:j≤n):Sq ((Rl j).foldl (gH n) M) n:=Sq.foldl (fun M a ha h=>h.inner ha (Rq _)) h j hj
theorem fold_succ (f:α→Nat→α) (x:α) (j:Nat):(Rl (j+1)).foldl f x=f ((Rl j).foldl f x) j:=by rw [VN,Wx]; rfl
theorem Sq.none (n:Nat):Sq (x6 n) n:=⟨RV ..,fun r hr=>by rw [List.eq_of_mem_replicate hr,RV]⟩
theorem Sq.rE {M:kq} {n a b:Nat} (h:Sq M n) (ha:a<n):Sq (My.rE M a b) n:=h.set (by rw [Su]; exact h.rl ha)
theorem Sq.need (h:∀ p∈ps,p.1<n):Sq (fb n ps) n:=by
 unfold fb
 have key:∀ (ps:List (Nat×Nat)) (M:kq),(∀ p∈ps,p.1<n)→Sq M n→Sq (ps.foldl (fun M p=>My.rE M p.1 p.2) M) n:=by
  intro ps;induction ps with
  | nil=>exact fun M _ h=>h
  | cons p r ih=>exact fun M hp h=>ih _ (fun q hq=>hp q (Ra _ hq)) (h.rE (hp p Q9))
 exact key ps _ h (Sq.none n)
theorem IQ {M:kq} {a:Nat} {r:List Bool} (h:Sq M n) (ha:a<n) (x y:Nat):at2 (M.set a r) x y=if x=a then r.getD y false else at2 M x y:=by
 unfold at2;have:=h.len;rw [Rc (l:=M.set a r),Wt];by_cases c:a=x
 ·subst c;rw [if_pos rfl,if_pos (by lia),if_pos rfl];rfl
 ·rw [if_neg c,if_neg (S6 c),Rc (l:=M)]
theorem El {M:kq} {c a:Nat} (h:Sq M n) (hc:c<n) (ha:a<n) (x y:Nat):at2 (gM c M a) x y=(at2 M x y || (decide (x=a)&&at2 M a c&&at2 M c y)):=by
 unfold My.gM;split
 ·rename_i e;rw [IQ h ha,e];split
  ·rename_i q;subst q;rw [MJ (h.rl ha) (h.rl hc),decide_eq_true rfl];rfl
  ·rename_i q;rw [decide_eq_false q]; simp
 ·rename_i e;rw [Bool.not_eq_true] at e;rw [e]; simp
theorem IS {M:kq} {a b:Nat} (h:Sq M n) (ha:a<n) (hb:b<n) (x y:Nat):at2 (rE M a b) x y=(at2 M x y || (decide (x=a)&&decide (y=b))):=by
 unfold My.rE;rw [IQ h ha];split
 ·rename_i q;subst q;rw [Rc,Wt,decide_eq_true rfl];by_cases c:b=y
  ·subst c;rw [if_pos rfl,if_pos (by rw [h.rl ha]; exact hb)];simp
  ·rw [if_neg c,decide_eq_false (S6 c),← Rc];simp;rfl
 ·rename_i q;rw [decide_eq_false q]; simp
theorem Em (n x y:Nat):at2 (x6 n) x y=false:=by
 unfold at2 x6;rw [Rc (l:=Rx n (Rx n false)),Sb];split
 ·show (Rx n false).getD y false=false;rw [Rc,Sb];split <;> rfl
 ·rfl
def Up (rk:Nat→Nat) (M:kq):Prop:=∀ a b,at2 M a b=true→rk a<rk b
theorem Up.step {M:kq} {c a:Nat} (h:Sq M n) (hc:c<n) (ha:a<n) (u:Up rk M):Up rk (gM c M a):=fun x y e=>by
 rw [El h hc ha,TJ] at e;rcases e with e | e
 ·exact u x y e
 ·rw [RS,RS] at e;have:=of_decide_eq_true e.1.1;subst this;exact S5 (u _ _ e.1.2) (u _ _ e.2)
theorem Up.inner {rk:Nat→Nat} {M:kq} {n c:Nat} (h:Sq M n) (hc:c<n) (u:Up rk M):∀ j,j≤n→Up rk ((Rl j).foldl (gM c) M)
 | 0,_=>u
 | j+1,hj=>by rw [fold_succ]; exact (Up.inner h hc u j (by lia)).step (h.inner hc (by lia)) hc (by lia)
theorem Up.close {rk:Nat→Nat} {M:kq} {n:Nat} (h:Sq M n) (u:Up rk M):∀ j,j≤n→Up rk ((Rl j).foldl (gH n) M)
 | 0,_=>u
 | j+1,hj=>by rw [fold_succ]; exact Up.inner (h.close (by lia)) (by lia) (Up.close h u j (by lia)) n (Rq _)
theorem Up.need (hp:∀ p∈ps,p.1<n∧p.2<n∧rk p.1<rk p.2):Up rk (fb n ps):=by
 unfold fb
 have key:∀ (ps:List (Nat×Nat)) (M:kq),(∀ p∈ps,p.1<n∧p.2<n∧rk p.1<rk p.2)→Sq M n→Up rk M→Up rk (ps.foldl (fun M p=>rE M p.1 p.2) M):=by
  intro ps;induction ps with
  | nil=>exact fun M _ _ h=>h
  | cons p r ih =>
   intro M hp h u;have q:=hp p Q9;refine ih _ (fun q hq=>hp q (Ra _ hq)) (h.rE q.1) fun x y e=>?_;rw [IS h q.1 q.2.1,TJ] at e;rcases e with e | e
   ·exact u x y e
   ·rw [RS] at e;rw [of_decide_eq_true e.1,of_decide_eq_true e.2];exact q.2.2
 exact key ps _ hp (Sq.none n) fun a b e=>by rw [Em] at e; cases e
theorem Nc {a:Nat} (h:xs[a]?=some d):FW (.lst xs) (a:Int)=some d:=by have hl:=(Rp.mp h).1;show lh xs (a:Int)=some d;unfold lh;rw [vW (by lia) (by lia)];simpa using h
theorem Fs {a:Nat} (h:a<n):ixN n (a:Int)=some a:=by rw [vW (by lia) (by lia)]; simp
theorem lC {M:kq} {a:Nat} (h:Sq M n) (ha:a<n):(iC M)[a]?=some (.lst (gG (M.getD a []))):=by unfold iC iD;rw [Ro,Ro,h.get ha];rfl
theorem A1 {r:List Bool} {b:Nat} (hb:b<r.length):(gG r)[b]?=some (.bl (r.getD b false)):=by unfold gG;rw [Ro,Rc,Q8 hb];rfl
theorem sL (M:kq) (a:Nat) (r:List Bool):(iD M).set a (gG r)=iD (M.set a r):=by unfold iD; rw [Yz]
theorem xR (M:kq) (a:Nat) (r:List Bool):(iC M).set a (.lst (gG r))=iC (M.set a r):=by unfold iC; rw [← sL,Yz]
theorem A0 (r:List Bool) (b:Nat):(gG r).set b (.bl true)=gG (r.set b true):=by unfold gG; rw [Yz]
theorem PK (n:Nat):Gd 0 n=(Rl n).map fun (i:Nat)=>.int (i:Int):=by unfold Gd;exact Sx fun i _=>by rw [Xe]
theorem uR {b c:DE} {M:kq} {x y:Nat} (h:Sq M n) (hx:x<n) (hy:y<n) (ha:a ρ=some (.lst (iC M))) (hb:b ρ=some (.int (x:Int))) (hc:c ρ=some (.int (y:Int))):cY (cY a b) c ρ=some (.bl (at2 M x y)) :=
 c0 (c0 ha hb (Nc (lC h hx))) hc (Nc (A1 (by rw [h.rl hx]; exact hy)))
theorem Eb (r:List Bool):iE (gG r)=true:=by unfold iE gG;rw [Tn];exact Ry.mpr fun _ _=>rfl
def nM (x:Nat):D:=.int (x:Int)
def HK (xs:List Nat):D:=.lst (xs.map nM)
def Mu (n:Nat) (r:List Bool):List Nat:=(Rl n).filter fun b=>r.getD b false
theorem tO (hn:n≤1000) (h:a ρ=some (.int (n:Int))):ig a ρ=some ((Rl n).map nM):=by have hline:Q4=16777216:=Rw;rw [kZ h ⟨by lia,by lia⟩,Tz,PK];rfl
def j0 (ps:List (Nat×Nat)):D:=.lst (ps.map fun p=>.lst [.int (p.1:Int),.int (p.2:Int)])
structure Ord (n:Nat) (ps:List (Nat×Nat)):Prop where
 big:n≤14
 len:ps.length≤1000
 up:∃ rk:Nat→Nat,∀ p∈ps,p.1<n∧p.2<n∧rk p.1<rk p.2
theorem Ord.lt (h:Ord n ps):∀ p∈ps,p.1<n∧p.2<n:=fun p hp=>let ⟨rk,h⟩:=h.up; ⟨(h p hp).1,(h p hp).2.1⟩
theorem xT:∀ n:Nat,(Rx n [D.bl false]).flatten=gG (Rx n false)
 | 0=>rfl
 | n+1=>by rw [S0,TB,xT n,S0]; rfl
theorem wg {k:Nat} {cs:List Nat} {b:DE} (hn:n≤1000) (ha:a ρ=some (.int (n:Int))) (hb:∀ x:Nat,b ((r0 k cs ρ).set 0 (.pu (nM x)))=some (.int (n:Int))):oE k cs (ig a) (gN true 0) cO (C5 (aq (dC (.bl false)) aP) b) ρ=some (iD (x6 n)):=by have hline:Q4=16777216:=Rw;rw [FD nM (tO hn ha) (fun _=>gG (Rx n false)) fun x _=>⟨(r0 k cs ρ).set 0 (.pu (nM x)),rfl,by rw [C2 (ds:=[.bl false]) (i:=(n:Int)) rfl (hb x) ⟨by lia,by lia,by simp only [Rt,Tf]; lia⟩,Tz,xT]⟩];unfold iD x6;rw [List.map_const',List.map_replicate,R6]
theorem either (x y:List Bool):lX [.lst (gG x),.lst (gG y)]=some (.lst (gG (vG x y))):=by
 refine bU sj ?_;rw [EG];unfold sv;have e1:Jg (gG x) (gG y)=(x.zip y).map fun p=>.tup [.bl p.1,.bl p.2]:=by unfold Jg gG;rw [List.zipWith_map,W2];rfl
 refine bx (bf (bY (fun p:Bool×Bool=>D.tup [.bl p.1,.bl p.2]) (by rw [Kz (xs:=gG x) (ys:=gG y) rfl rfl (Eb x) (Eb y),e1]) (fun p=>D.bl (p.1 || p.2)) fun p _=>⟨_,rfl,z5 rfl fun _=>rfl⟩)) ?_;show D.lst _=D.lst _;congr 1;unfold vG gG;rw [W2,List.map_zipWith];rfl
theorem K1 (hb:n≤14) (lt:∀ p∈ps,p.1<n∧p.2<n):eW [.int (n:Int),j0 ps]=some (.lst (iC (fb n ps))):=by
 refine fT lR ?_;rw [pM];unfold jC;refine wp_seq (Dj (wg (by lia) rfl fun _=>rfl) (by simp only [Rt,Tf]; lia) ?_);walk_at "st";refine wp_seq (iL (ds:=ps.map fun p=>.lst [.int (p.1:Int),.int (p.2:Int)]) rfl (fun j ρ=>∃ v3 v4,ρ=[.bo (.int (n:Int)),.bo (j0 ps),.om (iD (fb n (ps.take j))),v3,v4]) ⟨_,_,rfl⟩ ?_ ?_)
 ·rintro j d ρ hd ⟨v3,v4,rfl⟩;rw [Ro] at hd
  have hj:j<ps.length:=by
   by_cases c:j<ps.length
   ·exact c
   ·rw [Sf (by lia)] at hd; cases hd
  rw [Q8 hj] at hd;cases hd;have hp:=lt ps[j] (Uc hj);have sq:Sq (fb n (ps.take j)) n:=Sq.need fun p hp=>(lt p (XN hp)).1;refine ⟨_,rfl,?_⟩;dsimp only [gN,wW,RZ,R0];refine wp_seq (cm (cf (x:=true) (sW (x:=true) (y:=true) (dG ?_) fun _=>dG ?_)) (bj ?_))
  ·rw [dE (i:=0) (j:=(ps[j].1:Int)) (k:=(n:Int)) rfl rfl rfl];congr 2;simp;lia
  ·rw [dE (i:=0) (j:=(ps[j].2:Int)) (k:=(n:Int)) rfl rfl rfl];congr 2;simp;lia
  ·have hlen:(iD (fb n (ps.take j))).length=n:=by unfold iD; rw [Q5]; exact sq.len
   refine Dk (r:=ps[j].1) (j:=ps[j].2) (ds:=gG ((fb n (ps.take j)).getD ps[j].1 [])) (n:=(ps[j].1:Int)) (m:=(ps[j].2:Int)) rfl rfl rfl (by rw [hlen]; exact Fs hp.1) ?_ rfl ?_ ?_
   ·unfold iD; rw [Ro,sq.get hp.1]; rfl
   ·unfold gG; rw [Q5,sq.rl hp.1]; exact Fs hp.2
   ·refine ⟨.bo (.int (ps[j].1:Int)),.bo (.int (ps[j].2:Int)),?_⟩;rw [A0,sL];have:fb n (ps.take (j+1))=rE (fb n (ps.take j)) ps[j].1 ps[j].2:=by unfold fb;rw [List.take_succ_eq_append_getElem hj,Wx];rfl
    rw [this];rfl
 ·rintro ρ ⟨v3,v4,rfl⟩;refine Jk (Jj rfl ?_);rw [Q5,W0];rfl
theorem told (h:Ord n ps):eW [.int (n:Int),j0 ps]=some (.lst (iC (fb n ps))):=K1 h.big h.lt
def wB (n:Nat) (ps:List (Nat×Nat)):kq:=NF n (fb n ps)
theorem Ord.sq (h:Ord n ps):Sq (fb n ps) n:=Sq.need fun p hp=>(h.lt p hp).1
theorem Ord.QN (h:Ord n ps):Sq (wB n ps) n:=h.sq.close (Rq _)
theorem Ord.diag (h:Ord n ps) (x:Nat):at2 (wB n ps) x x=false:=by
 obtain ⟨rk,hr⟩:=h.up;have u:Up rk (wB n ps):=Up.close h.sq (Up.need hr) n (Rq _);cases e:at2 (wB n ps) x x with
 | false=>rfl
 | true=>exact absurd (u x x e) (Sg _)
def IV (n:Nat) (ps:List (Nat×Nat)):List (List Nat):=(wB n ps).map (Mu n)
def MY (xs:List (List Nat)):D:=.lst (xs.map HK)
theorem Mm {k:Nat} {cs:List Nat} {b:DE} {r:List Bool} (hn:n≤1000) (hr:r.length=n) (ha:a ρ=some (.int (n:Int))) (hb:∀ x:Nat,x<n→cY b (ak 0) ((r0 k cs ρ).set 0 (.pu (nM x)))=some (.bl (r.getD x false))) (hv:∀ x:Nat,aX 0 ((r0 k cs ρ).set 0 (.pu (nM x)))=some (nM x)) :
 bw (c8 k cs (ig a) (gN true 0) (dw (cY b (ak 0))) (aX 0)) ρ=some (HK (Mu n r)):=by
 refine bf ?_;rw [Br nM (tO hn ha) (fun x=>r.getD x false) nM fun x hx=>⟨_,rfl,cj (hb x (Sa.mp hx)) rfl,fun _=>hv x⟩];rfl
theorem ahead (h:Ord n ps):iX [.int (n:Int),j0 ps]=some (MY (IV n ps)):=by
 have hb:=h.big;refine bU oR ?_;rw [tL];unfold mX;refine wp_seq (kr (Bs ‹20› (told h)) (by simp only [Rt,Tf]; lia) ?_);walk_at "st";refine wp_seq (iL (tO (by lia) rfl) (fun j ρ=>∃ v3 v4,ρ=[.bo (.int (n:Int)),.bo (j0 ps),.ol (iC ((Rl j).foldl (gH n) (fb n ps))),v3,v4]) ⟨_,_,rfl⟩ ?_ ?_)
 ·rintro c d ρ hd ⟨v3,v4,rfl⟩;rw [Ro] at hd
  have hc:c<n:=by
   by_cases q:c<n
   ·exact q
   ·rw [Sf (by simp; lia)] at hd; cases hd
  rw [TL hc] at hd;cases hd;have sq:=h.sq.close (j:=c) (by lia);rw [fold_succ];generalize (Rl c).foldl (gH n) (fb n ps)=M at sq ⊢;refine ⟨_,rfl,?_⟩;dsimp only [gN,wW,RZ,R0];refine iL (tO (by lia) rfl) (fun j ρ=>∃ v4,ρ=[.bo (.int (n:Int)),.bo (j0 ps),.ol (iC ((Rl j).foldl (gM c) M)),.pu (nM c),v4]) ⟨_,rfl⟩ ?_ ?_
  ·rintro a d ρ hd ⟨v4,rfl⟩;rw [Ro] at hd
   have ha:a<n:=by
    by_cases q:a<n
    ·exact q
    ·rw [Sf (by simp; lia)] at hd; cases hd
   show 2
   ·refine yB (n:=(a:Int)) (j:=a) rfl ‹95› rfl ?_ ?_
    ·have:(iC M').length=n:=by unfold iC iD; rw [Q5,Q5]; exact sq'.len
     rw [this]; exact Fs ha
    ·refine ⟨.pu (nM a),?_⟩;rw [xR];unfold gM;rw [if_pos e];rfl
   ·refine ⟨.pu (nM a),?_⟩;unfold gM;rw [if_neg (by rw [e]; exact Rn)]
  ·rintro ρ ⟨v4,rfl⟩;rw [Q5,R6];exact ⟨_,_,rfl⟩
 ·rintro ρ ⟨v3,v4,rfl⟩;rw [Q5,R6];have sq:=h.QN;have dg:=h.diag;have ec:(Rl n).foldl (gH n) (fb n ps)=wB n ps:=rfl;rw [ec];unfold IV;generalize wB n ps=M at sq dg ⊢;refine wp_seq (cm (cj (x:=false) (c7 (e:=.bl false) (bf (bY nM (tO (n:=n) (by lia) rfl) (fun _=>.bl false) fun x hx=>⟨_,rfl,?_⟩)) ?_) rfl) (bj ?_))
  ·have hx:=Sa.mp hx;refine ic ?_ rfl;rw [uR sq hx hx rfl rfl rfl,dg]
  ·have:((Rl n).map fun _=>D.bl false)=((Rl n).map fun _=>false).map D.bl:=by rw [R7]; rfl
   rw [this];show (qU _).map _=_;rw [uu];show some (D.bl (((Rl n).map fun _=>false).any id))=_;rw [Yv];congr 2;rw [Yn];intro x _;exact Rn
  ·refine bx (bf (bY (fun r=>D.lst (gG r)) (c6 (d:=.lst (iC M)) rfl (by unfold iC iD; rw [R7]; rfl)) (fun r=>HK (Mu n r)) fun r hr=>⟨_,rfl,?_⟩)) ?_
   ·exact Mm (r:=r) (by lia) (sq.row r hr) rfl (fun x hx=>c0 rfl rfl (Nc (A1 (by rw [sq.row r hr]; exact hx)))) fun x=>rfl
   ·show D.lst _=D.lst _;rw [R7];rfl
theorem Kb (hp:∀ p∈ps,p.1<n∧p.2<n) (x y:Nat):at2 (fb n ps) x y=true↔(x,y)∈ps:=by
 have key:∀ (ps:List (Nat×Nat)) (M:kq),(∀ p∈ps,p.1<n∧p.2<n)→Sq M n→(at2 (ps.foldl (fun M p=>rE M p.1 p.2) M) x y=true↔at2 M x y=true∨(x,y)∈ps):=by
  intro ps;induction ps with
  | nil=>exact fun M _ _=>by simp
  | cons p r ih =>
   intro M hp h;have q:=hp p Q9;rw [UY,ih _ (fun q hq=>hp q (Ra _ hq)) (h.rE q.1),IS h q.1 q.2,TJ,RS,decide_eq_true_iff,decide_eq_true_iff,Ri];have:(x,y)=p↔x=p.1∧y=p.2:=by cases p; simp
   rw [this,or_assoc]
 unfold fb;rw [key ps _ hp (Sq.none n),Em];simp
theorem oj {M:kq} {n c:Nat} (h:Sq M n) (hc:c<n) (x y:Nat):∀ j,j≤n→at2 ((Rl j).foldl (gM c) M) x y=(at2 M x y || (decide (x<j)&&at2 M x c&&at2 M c y))
 | 0,_=>by simp
 | j+1,hj=>by
  have sq:=h.inner hc (j:=j) (by lia);rw [fold_succ,El sq hc (by lia),oj h hc x y j (by lia),oj h hc j c j (by lia),oj h hc c y j (by lia)];by_cases e:x=j
  ·subst e;have e1:decide (x<x+1)=true:=decide_eq_true (SO x);have e2:decide (x<x)=false:=decide_eq_false (Sg x);rw [e1,e2];cases at2 M x y <;> cases at2 M x c <;> cases at2 M c y <;> cases at2 M c c <;> cases decide (c<x) <;> simp
  ·have e1:decide (x<j+1)=decide (x<j):=by
    by_cases q:x<j
    ·rw [decide_eq_true q,decide_eq_true (by lia)]
    ·rw [decide_eq_false q,decide_eq_false (by lia)]
   rw [e1,decide_eq_false e];simp
def Tr (M:kq) (k:Nat):Prop:=∀ c,c<k→∀ x y,at2 M x c=true→at2 M c y=true→at2 M x y=true
theorem O8 {M:kq} {x y:Nat} (h:Sq M n) (e:at2 M x y=true):x<n:=by
 by_cases q:x<n
 ·exact q
 ·have e0:M.getD x []=[]:=by rw [Rc,Sf (by have:=h.len; lia)]; rfl
  unfold at2 at e;rw [e0] at e;simp at e
theorem Tr.close {M:kq} {n:Nat} (h:Sq M n):∀ j,j≤n→Tr ((Rl j).foldl (gH n) M) j
 | 0,_=>fun c hc=>absurd hc (YZ c)
 | j+1,hj=>by
  have ih:=Tr.close h j (by lia);have sq:=h.close (j:=j) (by lia);rw [fold_succ];generalize (Rl j).foldl (gH n) M=N at ih sq
  have e:∀ x y,at2 (gH n N j) x y=true↔at2 N x y=true∨(at2 N x j=true∧at2 N j y=true):=fun x y=>by
   unfold gH;rw [oj sq (by lia) x y n (Rq _),TJ,RS,RS];constructor
   ·rintro (q | ⟨⟨_,q1⟩,q2⟩)
    ·exact .inl q
    ·exact .inr ⟨q1,q2⟩
   ·rintro (q | ⟨q1,q2⟩)
    ·exact .inl q
    ·exact .inr ⟨⟨decide_eq_true (O8 sq q1),q1⟩,q2⟩
  intro c hc x y h1 h2;rw [e] at h1 h2 ⊢;by_cases q:c=j
  ·subst q;have a1:at2 N x c=true:=h1.elim id And.left;have a2:at2 N c y=true:=h2.elim id And.right;exact .inr ⟨a1,a2⟩
  ·have hc':c<j:=by lia
   rcases h1 with h1 | ⟨h1,h1'⟩
   ·rcases h2 with h2 | ⟨h2,h2'⟩
    ·exact .inl (ih c hc' x y h1 h2)
    ·exact .inr ⟨ih c hc' x j h1 h2,h2'⟩
   ·rcases h2 with h2 | ⟨h2,h2'⟩
    ·exact .inr ⟨h1,ih c hc' j y h1' h2⟩
    ·exact .inr ⟨h1,h2'⟩
theorem vU {M:kq} {n:Nat} (h:Sq M n) (x y:Nat) (e:at2 M x y=true):∀ j,j≤n→at2 ((Rl j).foldl (gH n) M) x y=true
 | 0,_=>e
 | j+1,hj=>by rw [fold_succ];show at2 ((Rl n).foldl (gM j) ((Rl j).foldl (gH n) M)) x y=true;rw [oj (h.close (by lia)) (by lia) x y n (Rq _),vU h x y e j (by lia)];rfl
inductive Way (ps:List (Nat×Nat)):Nat→Nat→Prop
 | one {x y:Nat} (h:(x,y)∈ps):Way ps x y
 | go {x y z:Nat} (h:Way ps x y) (r:Way ps y z):Way ps x z
theorem Jm (hp:∀ p∈ps,p.1<n∧p.2<n) {x y:Nat} (w:Way ps x y):at2 (wB n ps) x y=true:=by
 have sq:Sq (fb n ps) n:=Sq.need fun p h=>(hp p h).1
 have hl:∀ {x y:Nat},Way ps x y→y<n:=fun {x y} w=>by
  induction w with
  | one e=>exact (hp _ e).2
  | go _ _ _ i=>exact i
 induction w with
 | one e=>exact vU sq _ _ ((Kb hp _ _).mpr e) n (Rq _)
 | @go x y z a b i1 i2=>exact Tr.close sq n (Rq _) y (hl a) x z i1 i2
namespace Pr
def x3 (q:Int×Int):D:=.lst [.int q.1,.int q.2]
def fJ (qs:List (Int×Int)):D:=.lst (qs.map x3)
def Qm (p:Nat×Nat):Int×Int:=((p.1:Int),(p.2:Int))
theorem HJ (ps:List (Nat×Nat)):j0 ps=fJ (ps.map Qm):=by unfold j0 fJ;rw [R7];rfl
def LR (n:Nat) (q:Int×Int):Prop:=(0≤q.1∧q.1<n)∧(0≤q.2∧q.2<n)
def zP (q:Int×Int):Nat×Nat:=(q.1.toNat,q.2.toNat)
def Wr (q:Int×Int):Prop:=q.1.natAbs.log2<1920∧q.2.natAbs.log2<1920
theorem log_small {x:Int} (h:x.natAbs<10 ^ 70):x.natAbs.log2<1920:=by
 by_cases h0:x.natAbs=0
 ·rw [h0]; decide
 ·exact (Wv h0).mpr (S5 h ‹6›)
structure Ref (n:Nat) (qs:List (Int×Int)):Prop where
 big:n≤14
 wr:∀ q∈qs,Wr q
 why:(∃ q∈qs,¬ LR n q)∨((∀ q∈qs,LR n q)∧∃ x,x<n∧Way (qs.map zP) x x)
theorem LU (hb:n≤14) (wr:∀ q∈qs,Wr q) (hx:∃ q∈qs,¬ LR n q):∃ d,ij [.int (n:Int),fJ qs]=some d:=by
  obtain ⟨d,e,_⟩:=uC lO (ds:=[.int (n:Int),fJ qs]) (P:=fun _=>True) (by
    rw [pM];unfold i7;refine wp_seq (Dj (wg (by lia) rfl fun _=>rfl) (by simp only [Rt,Tf]; lia) ?_);walk_at "st";refine wp_seq (iL (ds:=qs.map x3) rfl (fun j ρ=>(∀ q∈qs.take j,LR n q)∧∃ M v3 v4,Sq M n∧ρ=[.bo (.int (n:Int)),.bo (fJ qs),.om (iD M),v3,v4]) ⟨by simp,_,_,_,Sq.none n,rfl⟩ ?_ ?_)
    · rintro j d ρ hd ⟨hin,M,v3,v4,sq,rfl⟩;rw [Ro] at hd;obtain ⟨⟨q1,q2⟩,hq,rfl⟩:=S9.mp hd;have hm:=RB hq;obtain ⟨w1,w2⟩:=wr _ hm;refine ⟨_,rfl,?_⟩;dsimp only [gN,wW,RZ,R0,x3];by_cases hr:LR n (q1,q2)
      · obtain ⟨⟨a1,a2⟩,b1,b2⟩:=id hr;dsimp only at a1 a2 b1 b2;refine wp_seq (cm (cf (x:=true) (sW (x:=true) (y:=true) (dG ?_) fun _=>dG ?_)) (bj ?_))
        · rw [dE (i:=0) (j:=q1) (k:=(n:Int)) rfl rfl rfl];simp [a1,a2]
        · rw [dE (i:=0) (j:=q2) (k:=(n:Int)) rfl rfl rfl];simp [b1,b2]
        · obtain ⟨x,rfl⟩:=W3 a1;obtain ⟨y,rfl⟩:=W3 b1;have hx':x<n:=by lia
          have hy':y<n:=by lia
          have hlen:(iD M).length=n:=by unfold iD; rw [Q5]; exact sq.len
          refine Dk (r:=x) (j:=y) (ds:=gG (M.getD x [])) (n:=(x:Int)) (m:=(y:Int)) rfl rfl rfl (by rw [hlen]; exact Fs hx') ?_ rfl ?_ ?_
          · unfold iD; rw [Ro,sq.get hx']; rfl
          · unfold gG; rw [Q5,sq.rl hx']; exact Fs hy'
          · refine ⟨?_,rE M x y,.bo (.int (x:Int)),.bo (.int (y:Int)),sq.rE hx',?_⟩
            · intro q hq';rw [Zc,hq] at hq';rcases RD.mp hq' with z | z
              · exact hin q z
              · rw [Q3.mp (show q∈[((x:Int),(y:Int))] from z)]; exact hr
            · rw [A0,sL];rfl
      · refine wp_seq (cA (cf (x:=false) ?_) (wp_raise (fmt_cons rfl w1 (fmt_cons rfl w2 rfl)) trivial));by_cases h1:0≤q1∧q1<n
        · have h2:¬ (0≤q2∧q2<n):=fun z=>hr ⟨h1,z⟩;refine sW (x:=true) (y:=false) (dG ?_) fun _=>dG ?_
          · rw [dE (i:=0) (j:=q1) (k:=(n:Int)) rfl rfl rfl];simp [h1.1,h1.2]
          · rw [dE (i:=0) (j:=q2) (k:=(n:Int)) rfl rfl rfl];congr 2;by_cases c:0≤q2
            · have:¬ q2<n:=fun z=>h2 ⟨c,z⟩;simp [this]
            · simp [c]
        · refine sW (x:=false) (y:=false) (dG ?_) fun z=>by cases z
          rw [dE (i:=0) (j:=q1) (k:=(n:Int)) rfl rfl rfl];congr 2;by_cases c:0≤q1
          · have:¬ q1<n:=fun z=>h1 ⟨c,z⟩;simp [this]
          · simp [c]
    · rintro ρ ⟨hin,M,v3,v4,sq,rfl⟩;rw [Q5,W0] at hin;obtain ⟨q,hq,hn⟩:=hx;exact absurd (hin q hq) hn)
  exact ⟨d,e⟩
theorem D8 (h:∀ q∈qs,LR n q):fJ qs=j0 (qs.map zP):=by rw [HJ,R7];unfold fJ;congr 1;rw [R7];refine Sx fun q hq=>?_;obtain ⟨⟨a,_⟩,b,_⟩:=h q hq;unfold x3 Function.comp Qm zP;dsimp only;rw [VQ a,VQ b]
theorem BR {x:DE} {s:DS} (k:∀ d,W.rt d) (h:Wp s ρ W):Wp (xk x s) ρ W:=by
 cases e:x ρ with
 | some d=>exact yA e (k d)
 | none=>exact yz e h
theorem Jh (h:Ref n qs):∃ d,kj [.int (n:Int),fJ qs]=some d:=by
  have hb:=h.big
  obtain ⟨d,e,_⟩:=uC oK (ds:=[.int (n:Int),fJ qs]) (P:=fun _=>True) (by
    rw [tL];unfold kQ;rcases h.why with hx | ⟨hin,x,hxn,way⟩
    · obtain ⟨d,e⟩:=LU hb h.wr hx;exact wp_seq (yA (aN ‹20› e) trivial)
    · have lt:∀ p∈qs.map zP,p.1<n∧p.2<n:=fun p hp=>by obtain ⟨q,hq,rfl⟩:=RY.mp hp;obtain ⟨⟨a,a'⟩,b,b'⟩:=hin q hq;unfold zP;dsimp only;lia
      have sqn:Sq (fb n (qs.map zP)) n:=Sq.need fun p hp=>(lt p hp).1;have dg:=Jm lt way;rw [D8 hin];generalize qs.map zP=ps at lt sqn dg ⊢;refine wp_seq (BR (fun _=>trivial) (kr (Bs ‹20› (K1 hb lt)) (by simp only [Rt,Tf]; lia) ?_));walk_at "st";refine wp_seq (iL (tO (by lia) rfl) (fun j ρ=>∃ v3 v4,ρ=[.bo (.int (n:Int)),.bo (j0 ps),.ol (iC ((Rl j).foldl (gH n) (fb n ps))),v3,v4]) ⟨_,_,rfl⟩ ?_ ?_)
      · rintro c d ρ hd ⟨v3,v4,rfl⟩;rw [Ro] at hd
        have hc:c<n:=by
          by_cases q:c<n
          · exact q
          · rw [Sf (by simp; lia)] at hd; cases hd
        rw [TL hc] at hd;cases hd;have sq:=sqn.close (j:=c) (by lia);rw [fold_succ];generalize (Rl c).foldl (gH n) (fb n ps)=M at sq ⊢;refine ⟨_,rfl,?_⟩;dsimp only [gN,wW,RZ,R0];refine iL (tO (by lia) rfl) (fun j ρ=>∃ v4,ρ=[.bo (.int (n:Int)),.bo (j0 ps),.ol (iC ((Rl j).foldl (gM c) M)),.pu (nM c),v4]) ⟨_,rfl⟩ ?_ ?_
        · rintro a d ρ hd ⟨v4,rfl⟩;rw [Ro] at hd
          have ha:a<n:=by
            by_cases q:a<n
            · exact q
            · rw [Sf (by simp; lia)] at hd; cases hd
          show 2
          · refine yB (n:=(a:Int)) (j:=a) rfl ‹95› rfl ?_ ?_
            · have:(iC M').length=n:=by unfold iC iD; rw [Q5,Q5]; exact sq'.len
              rw [this]; exact Fs ha
            · refine ⟨.pu (nM a),?_⟩;rw [xR];unfold gM;rw [if_pos e];rfl
          · refine ⟨.pu (nM a),?_⟩;unfold gM;rw [if_neg (by rw [e]; exact Rn)]
        · rintro ρ ⟨v4,rfl⟩;rw [Q5,R6];exact ⟨_,_,rfl⟩
      · rintro ρ ⟨v3,v4,rfl⟩;rw [Q5,R6];have sq:Sq (wB n ps) n:=sqn.close (Rq _);have ec:(Rl n).foldl (gH n) (fb n ps)=wB n ps:=rfl;rw [ec];generalize wB n ps=M at sq dg ⊢;refine wp_seq (cA (cj (x:=true) (c7 (e:=.bl true) (bf (bY nM (tO (n:=n) (by lia) rfl) (fun x=>.bl (at2 M x x)) fun x hx=>⟨_,rfl,?_⟩)) ?_) rfl) (wp_raise rfl trivial))
        · have hx:=Sa.mp hx;refine ic ?_ rfl;rw [uR sq hx hx rfl rfl rfl]
        · have:((Rl n).map fun x=>D.bl (at2 M x x))=((Rl n).map fun x=>at2 M x x).map D.bl:=by rw [R7]; rfl
          rw [this];show (qU _).map _=_;rw [uu];show some (D.bl (((Rl n).map fun x=>at2 M x x).any id))=_;rw [Yv];congr 2;rw [Vu];exact ⟨x,Sa.mpr hxn,dg⟩)
  exact ⟨d,e⟩
def WalkN (ps:List (Nat×Nat)):Nat→Nat→Prop
 | 0,_=>True
 | k+1,v=>∃ u,(u,v)∈ps∧WalkN ps k u
theorem WalkN.down {ps:List (Nat×Nat)}:∀ {k:Nat} {v:Nat},WalkN ps (k+1) v→WalkN ps k v
 | 0,_,_=>trivial
 | k+1,v,⟨u,hu,w⟩=>⟨u,hu,WalkN.down w⟩
theorem WalkN.le {k v:Nat} (h:j≤k) (w:WalkN ps k v):WalkN ps j v:=by
  induction k with
  | zero => have:j=0:=by lia
            rw [this]; trivial
  | succ k ih =>
    by_cases e:j=k+1
    · rw [e]; exact w
    · exact ih (by lia) w.down
structure Ok (n:Nat) (qs:List (Int×Int)):Prop where
 big:n≤14
 len:qs.length≤1000
 OS:∀ q∈qs,LR n q
 no:∀ v,v<n→¬ WalkN (qs.map zP) n v
open Classical in
def PR (ps:List (Nat×Nat)) (n v:Nat):Nat:=((Rl n).filter fun k=>WalkN ps k v).length
open Classical in
theorem Ln {v:Nat}:∀ {n m:Nat},m≤n→(∀ k,k<m→WalkN ps k v)→(∀ k,m≤k→¬ WalkN ps k v)→PR ps n v=m:=by
 intro n m hm h1 h2;unfold PR;have e:(Rl n).filter (fun k=>decide (WalkN ps k v))=Rl m:=by obtain ⟨d,rfl⟩:=Nat.le.dest hm;rw [List.range_add,List.filter_append,VP.mpr fun k hk=>decide_eq_true (h1 k (Sa.mp hk)),List.filter_eq_nil_iff.mpr,Ss];intro k hk;obtain ⟨j,_,rfl⟩:=RY.mp hk;simp only [decide_eq_true_eq];exact h2 _ (by lia)
 rw [e,R6]
theorem lvl {v:Nat} (h:¬ WalkN ps n v):∃ m,m≤n∧0<m∧(∀ k,k<m→WalkN ps k v)∧∀ k,m≤k→¬ WalkN ps k v:=by
 induction n with
 | zero=>exact absurd trivial h
 | succ n ih =>
  by_cases c:WalkN ps n v
  ·exact ⟨n+1,Rq _,by lia,fun k hk=>c.le (by lia),fun k hk w=>h (w.le hk)⟩
  ·obtain ⟨m,a,b,p,q⟩:=ih c;exact ⟨m,by lia,b,p,q⟩
theorem Ok.ord (h:Ok n qs):Ord n (qs.map zP):=by
 refine ⟨h.big,by rw [Q5]; exact h.len,PR (qs.map zP) n,fun p hp=>?_⟩;obtain ⟨q,hq,rfl⟩:=RY.mp hp;obtain ⟨⟨a,a'⟩,b,b'⟩:=h.OS q hq;have h1:(zP q).1<n:=by unfold zP; dsimp only; lia
 have h2:(zP q).2<n:=by unfold zP; dsimp only; lia
 refine ⟨h1,h2,?_⟩;obtain ⟨m,m1,m2,m3,m4⟩:=lvl (h.no _ h1);obtain ⟨m',n1,n2,n3,n4⟩:=lvl (h.no _ h2);rw [Ln m1 m3 m4,Ln n1 n3 n4];refine Wi fun z=>n4 m' (Rq _) ?_;have:WalkN (qs.map zP) (m'-1+1) (zP q).2:=⟨(zP q).1,hp,m3 _ (by lia)⟩
 rw [show m'-1+1=m' by lia] at this;exact this
theorem NJ (h:Ok n qs):∃ d,iX [.int (n:Int),fJ qs]=some d:=by rw [D8 h.OS];exact ⟨_,ahead h.ord⟩
theorem jN {ps:List (Nat×Nat)}:∀ {k v:Nat},WalkN ps k v→∃ f:Nat→Nat,f 0=v∧∀ i,i<k→(f (i+1),f i)∈ps
 | 0,v,_=>⟨fun _=>v,rfl,fun i h=>by lia⟩
 | k+1,v,⟨u,hu,w⟩=>by
  obtain ⟨f,f0,hf⟩:=jN w;refine ⟨fun i=>if i=0 then v else f (i-1),if_pos rfl,fun i hi=>?_⟩;by_cases c:i=0
  ·subst c;dsimp only;rw [if_neg (by lia),if_pos rfl,f0];exact hu
  ·dsimp only;rw [if_neg (by lia),if_neg c];have:=hf (i-1) (by lia);rw [show i-1+1=i by lia] at this;exact this
theorem F6 {ps:List (Nat×Nat)} {f:Nat→Nat} {k:Nat} (hf:∀ i,i<k→(f (i+1),f i)∈ps):∀ {d i:Nat},i+d+1≤k→Way ps (f (i+d+1)) (f i)
 | 0,i,h=>.one (hf i (by lia))
 | d+1,i,h=>.go (.one (hf (i+d+1) (by lia))) (F6 hf (d:=d) (i:=i) (by lia))
theorem D2:∀ {l m:List Nat},l.Nodup→(∀ x∈l,x∈m)→l.length≤m.length
 | [],_,_,_=>Th _
 | x::l,m,nd,h=>by have hx:=h x Q9;have e:=List.length_erase_of_mem hx;have:=D2 (l:=l) (m:=m.erase x) (SE.mp nd).2 fun y hy=>(List.mem_erase_of_ne (fun z=>by subst z; exact (SE.mp nd).1 hy)).mpr (h y (Ra _ hy));have p:0<m.length:=List.length_pos_of_mem hx;rw [Rt];lia
theorem QX {v:Nat} (lt:∀ p∈ps,p.1<n∧p.2<n) (hv:v<n) (w:WalkN ps n v):∃ x,x<n∧Way ps x x:=by
 obtain ⟨f,f0,hf⟩:=jN w
 have hl:∀ i,i≤n→f i<n:=fun i hi=>by
  cases i with
  | zero=>rw [f0]; exact hv
  | succ i=>exact (lt _ (hf i (by lia))).1
 have nn:¬ ((Rl (n+1)).map f).Nodup:=fun nd=>by
  have:=D2 (m:=Rl n) nd fun x hx=>by obtain ⟨i,hi,rfl⟩:=RY.mp hx;exact Sa.mpr (hl i (by have:=Sa.mp hi; lia))
  rw [Q5,R6,R6] at this;lia
 have:∃ i j,i<j∧j<n+1∧f i=f j:=by refine UJ fun z=>nn ?_;rw [List.Nodup,List.pairwise_map];refine List.Pairwise.imp_of_mem (R:=(· < ·)) (fun {a b} ha hb hab e=>z ⟨a,b,hab,Sa.mp hb,e⟩) List.pairwise_lt_range
 obtain ⟨i,j,hij,hj,e⟩:=this;refine ⟨f i,hl i (by lia),?_⟩;have:=F6 hf (d:=j-i-1) (i:=i) (by lia);rw [show i+(j-i-1)+1=j by lia,← e] at this;exact this
theorem Hy (hb:n≤14) (hl:qs.length≤1000) (hw:∀ q∈qs,Wr q):Ok n qs∨Ref n qs:=by
 by_cases h:∀ q∈qs,LR n q
 ·by_cases hu:∀ v,v<n→¬ WalkN (qs.map zP) n v
  ·exact .inl ⟨hb,hl,h,hu⟩
  ·obtain ⟨v,hu⟩:=VF.mp hu;obtain ⟨hv,hu⟩:=Ww.mp hu;refine .inr ⟨hb,hw,.inr ⟨h,QX (fun p hp=>?_) hv (Classical.not_not.mp hu)⟩⟩;obtain ⟨q,hq,rfl⟩:=RY.mp hp;obtain ⟨⟨a,a'⟩,b,b'⟩:=h q hq;unfold zP;dsimp only;lia
 ·obtain ⟨q,h⟩:=VF.mp h;obtain ⟨hq,h⟩:=Ww.mp h;exact .inr ⟨hb,hw,.inl ⟨q,hq,h⟩⟩
theorem Fh {a b:List (Int×Int)} (h:[D.int (n:Int),fJ a]=[D.int (m:Int),fJ b]):n=m∧a=b:=by injection h with h1 h2;injection h1 with h1;injection h2 with h2 _;injection h2 with h2;refine ⟨by lia,(Yg (fun x y e=>?_)).mp h2⟩;obtain ⟨x1,x2⟩:=x;obtain ⟨y1,y2⟩:=y;unfold x3 at e;injection e with e;injection e with e1 e2;injection e1 with e1;injection e2 with e2 _;injection e2 with e2;dsimp only at e1 e2;rw [e1,e2]
end Pr
open Classical in
noncomputable def Np (ds:List D):Option Bool:=if ∃ (n:Nat) (qs:List (Int×Int)),ds=[.int (n:Int),Pr.fJ qs]∧Pr.Ok n qs then some true else if ∃ (n:Nat) (qs:List (Int×Int)),ds=[.int (n:Int),Pr.fJ qs]∧Pr.Ref n qs then some false else none
theorem P9 (ds:List D) (h:Np ds=some true):∃ d,iX ds=some d:=by
 unfold Np at h;split at h
 ·rename_i c;obtain ⟨n,qs,rfl,k⟩:=c;exact Pr.NJ k
 ·split at h <;> cases h
theorem P8 (ds:List D) (h:Np ds=some false):∃ d,kj ds=some d:=by
 unfold Np at h;split at h
 ·cases h
 ·split at h
  ·rename_i c;obtain ⟨n,qs,rfl,k⟩:=c;exact Pr.Jh k
  ·cases h
open Classical in
theorem Nn (hb:n≤14) (hl:qs.length≤1000) (hw:∀ q∈qs,Pr.Wr q):Np [.int (n:Int),Pr.fJ qs]=some (decide (Pr.Ok n qs)):=by
 unfold Np;by_cases h:Pr.Ok n qs
 ·rw [if_pos ⟨n,qs,rfl,h⟩,decide_eq_true h]
 ·rw [if_neg (fun ⟨m,c,e,k⟩=>h (by obtain ⟨rfl,rfl⟩:=Pr.Fh e; exact k)),if_pos ⟨n,qs,rfl,(Pr.Hy hb hl hw).resolve_left h⟩,decide_eq_false h]
noncomputable def jJ:DS:=(aM (cQ (BQ (dF (dw (ak 1))) (BQ (dF (dw (aJ d4 (aq (cY (ak 1) ‹31›) (aq ‹31› (aq (dC (.int 14)) aP)))))) (dF (dw (fW wG (bw (c8 1 [] (lN (bw (yn (aX 1) (eM ‹27›) ft))) (gN true 0) cO (dN false (fW dX (ak 0)) (dC (.int 2))))))))))
 ‹80›
      aT)
 (aM (tN Np (aq (cY (cY (ak 1) ‹31›) ‹31›) (aq (bw (yn (aX 1) (eM ‹27›) ft)) aP)))
 (cy (dC (.bl true)))))
@[irreducible] def bL:List D→Option D:=b6 2 [false,true] jJ
theorem l5:bL=b6 2 [false,true] jJ:=by unfold bL; rfl
theorem Gx:fX 0 [] []=[]:=rfl
def uV:DS:=(cy (bw (aq (qF 711) (aq (qF 768) (aq (qF 825) (aq (qF 880) (aq (qF 1000) (aq (qF 1064) aP))))))))
@[irreducible] def mU:List D→Option D:=eG 0 [] uV
theorem t5:mU=eG 0 [] uV:=by unfold mU; rfl
noncomputable def ko:DS:=(aM (nF (lN (aJ mU aP)) (gN true 1)
 (cQ (dT (dN false (lL [(711,cV),(768,du),(825,cS),(880,cq),(1000,dr),(1064,cT)] (ak 1) aP) (ak 0)))
      eX
      aT))
    (iY (ak 0)))
@[irreducible] def jQ:List D→Option D:=eG 2 [false] ko
theorem k9:jQ=eG 2 [false] ko:=by unfold jQ; rfl
theorem qh (x0:D):fX 2 [false] [x0]=[.bo x0,.un]:=rfl
noncomputable def pq:DS:=(aM (nF (lN (aJ mU aP)) (gN true 1)
 (cQ (dT (dN false (lL [(711,cV),(768,du),(825,cS),(880,cq),(1000,dr),(1064,cT)] (ak 1) aP) (ak 0)))
 (cy (aX 1))
      aT))
    eX)
@[irreducible] def dD:List D→Option D:=b6 2 [false] pq
theorem pY:dD=b6 2 [false] pq:=by unfold dD; rfl
theorem Cc (x0:D):fX 1 [false] [x0]=[.bo x0]:=rfl
noncomputable def pw:DS:=(cy (kc (fM ‹34› ‹34› ‹27› (fW dX (ak 0)) (dC (.int 8))) (fW wG (bw (c8 1 [] (mO (ak 0)) (gN true 0) cO (IH (ak 0) (dC (.str "abcdefghijklmnopqrstuvwxyz"))))))))
@[irreducible] def cZ:List D→Option D:=b6 1 [false] pw
theorem pZ:cZ=b6 1 [false] pw:=by unfold cZ; rfl
theorem yS (x0:D):fX 2 [false] [x0]=[.bo x0,.un]:=rfl
noncomputable def kK:DS:=(aM (bS 1 (NW (dw (mM (ak 0) (dC (.str "-")))) (k8 (ak 0) (eM ‹27›) ft) (j5 (ak 0))))
 (aM (cQ (BQ (dF (dT (fM ‹34› ‹34› ‹27› (fW dX (ak 1)) (dC (.int 60))))) (dF (dw (fW wG (bw (c8 1 [] (mO (ak 1)) (gN true 0) cO (IH (ak 0) (dC (.str "0123456789")))))))))
 ‹80›
      aT)
 (cy (C6 (dN false (ak 0) (dC (.str "0"))) (wy (mM (ak 1) (dC (.str "0"))))))))
@[irreducible] def gS:List D→Option D:=b6 2 [false] kK
theorem nv:gS=b6 2 [false] kK:=by unfold gS; rfl
def fR:DS:=(aM (cQ (dF (dw (aJ gS (aq (ak 0) aP))))
 (iY (ak 0))
 aT)
 eX)
@[irreducible] def eC:List D→Option D:=eG 1 [false] fR
theorem ik:eC=eG 1 [false] fR:=by unfold eC; rfl
theorem jT (x0:D):fX 1 [false] [x0]=[.bo x0]:=rfl
def i6:DS:=(aM (cQ (dF (dw (aJ gS (aq (ak 0) aP))))
 eX
 aT)
 (cy (fW LD (ak 0))))
@[irreducible] def eE:List D→Option D:=b6 1 [false] i6
theorem kD:eE=b6 1 [false] i6:=by unfold eE; rfl
noncomputable def jj:DS:=(aM (cQ (dT (dN false (ak 0) (dC (.str "."))))
 eX
 aT)
 (JL 1 [] (lN (bw (fh (ak 0) ‹39›))) (gN true 0) (aJ eE (aq (ak 0) aP)) (aJ eC (aq (ak 0) aP))))
@[irreducible] def iU:List D→Option D:=eG 1 [false] jj
theorem kh:iU=eG 1 [false] jj:=by unfold iU; rfl
theorem nU (x0:D):fX 1 [false] [x0]=[.bo x0]:=rfl
def mV:DS:=(aM (cQ (dT (dN false (ak 0) (dC (.str "."))))
 (cy (bw aP))
      aT)
 (cy (bw (c8 1 [] (lN (bw (fh (ak 0) ‹39›))) (gN true 0) cO (aJ eE (aq (ak 0) aP))))))
@[irreducible] def iW:List D→Option D:=b6 1 [false] mV
theorem oN:iW=b6 1 [false] mV:=by unfold iW; rfl
def iw:DS:=(aM (cQ (dT (dN false (ak 0) (dC (.str "-"))))
 eX
 aT)
 (JL 1 [] (lN (bw (fh (ak 0) (dC (.str " / "))))) (gN true 0) (aJ iW (aq (ak 0) aP)) (aJ iU (aq (ak 0) aP))))
@[irreducible] def c5:List D→Option D:=eG 1 [false] iw
theorem jo:c5=eG 1 [false] iw:=by unfold c5; rfl
theorem md (x0:D):fX 1 [false] [x0]=[.bo x0]:=rfl
def kG:DS:=(aM (cQ (dT (dN false (ak 0) (dC (.str "-"))))
 (cy (bw aP))
      aT)
 (cy (bw (c8 1 [] (lN (bw (fh (ak 0) (dC (.str " / "))))) (gN true 0) cO (aJ iW (aq (ak 0) aP))))))
@[irreducible] def d5:List D→Option D:=b6 1 [false] kG
theorem nj:d5=b6 1 [false] kG:=by unfold d5; rfl
theorem yP (x0:D):fX 1 [false] [x0]=[.bo x0]:=rfl
def kF:DS:=(aM (cQ (dF (dw (ak 0)))
 (cy (dC (.str ".")))
      aT)
 (cy (iG ‹39› (bw (c8 1 [] (lN (ak 0)) (gN false 0) cO (fW Gv (ak 0)))))))
@[irreducible] def ji:List D→Option D:=b6 1 [false] kF
theorem nh:ji=b6 1 [false] kF:=by unfold ji; rfl
theorem wL (x0:D):fX 1 [false] [x0]=[.bo x0]:=rfl
def jD:DS:=(aM (cQ (dF (dw (ak 0)))
 (cy (dC (.str "-")))
      aT)
 (cy (iG (dC (.str " / ")) (bw (c8 1 [] (lN (ak 0)) (gN false 0) cO (aJ ji (aq (ak 0) aP)))))))
@[irreducible] def iq:List D→Option D:=b6 1 [false] jD
theorem lS:iq=b6 1 [false] jD:=by unfold iq; rfl
noncomputable def cJ:DS:=(aM (bS 1 (yo (ak 0) ‹39›))
 (aM (bS 2 (cY (aX 1) ‹31›))
 (aM (cQ (dF (dw (aJ cZ (aq (ak 2) aP))))
      (iY (ak 2))
      aT)
 (aM (xk (aJ c5 (aq (cY (ak 1) (dC (.int 2))) aP)) (bS 3 (aJ d5 (aq (cY (ak 1) (dC (.int 2))) aP))))
 (aM (cQ ‹35›
      eX
      aT)
    eX)))))
@[irreducible] def bX:List D→Option D:=eG 4 [false] cJ
theorem dy:bX=eG 4 [false] cJ:=by unfold bX; rfl
noncomputable def dU:DS:=(aM (bS 1 (yo (ak 0) ‹39›))
 (aM (bS 2 (cY (aX 1) ‹31›))
 (aM (cQ (dF (dw (aJ cZ (aq (ak 2) aP))))
      eX
      aT)
 (aM (bS 3 (aJ d5 (aq (cY (ak 1) (dC (.int 2))) aP)))
 (aM (cQ ‹35›
      (mj (ak 2))
      aT)
    eX)))))
@[irreducible] def cH:List D→Option D:=eG 4 [false] dU
theorem gy:cH=eG 4 [false] dU:=by unfold cH; rfl
noncomputable def dv:DS:=(aM (bS 1 (yo (ak 0) ‹39›))
 (aM (bS 2 (cY (aX 1) ‹31›))
 (aM (cQ (dF (dw (aJ cZ (aq (ak 2) aP))))
      eX
      aT)
 (aM (bS 3 (aJ d5 (aq (cY (ak 1) (dC (.int 2))) aP)))
 (aM (sX (aJ jQ (aq (ak 2) aP))) eX)))))
@[irreducible] def cw:List D→Option D:=eG 4 [false] dv
theorem eP:cw=eG 4 [false] dv:=by unfold cw; rfl
theorem d8 (x0:D):fX 4 [false] [x0]=[.bo x0,.un,.un,.un]:=rfl
noncomputable def jE:DS:=(aM (bS 1 (yo (ak 0) ‹39›))
 (aM (bS 2 (cY (aX 1) ‹31›))
 (aM (cQ (dF (dw (aJ cZ (aq (ak 2) aP))))
      eX
      aT)
 (aM (bS 3 (aJ d5 (aq (cY (ak 1) (dC (.int 2))) aP)))
 (aM (cQ ‹35›
      eX
      aT)
 (cy (pJ (aq (aX 2) (aq (aX 3) aP)))))))))
@[irreducible] def d6:List D→Option D:=b6 4 [false] jE
theorem lT:d6=b6 4 [false] jE:=by unfold d6; rfl
def iy:DS:=(aM (xk (aJ eC (aq (ak 0) aP)) (bS 1 (aJ eE (aq (ak 0) aP))))
 (aM (cQ (dT (O5 (ak 1) ‹31›))
      (jW [(ak 1)])
      aT)
    eX))
@[irreducible] def ff:List D→Option D:=eG 2 [false] iy
theorem kC:ff=eG 2 [false] iy:=by unfold ff; rfl
theorem vf (x0:D):fX 2 [false] [x0]=[.bo x0,.un]:=rfl
noncomputable def tF:DS:=(aM (bS 3 (aJ dD (aq (cY (ak 1) ‹31›) aP)))
 (aM (bS 4 (cY (aX 1) ‹27›))
 (aM (cQ (dT (dN false (ak 0) (dC (.str "show"))))
      eX
      aT)
 (aM (cQ (dT (dN false (ak 0) (dC (.str "plan"))))
      eX
      aT)
 (aM (cQ (dT (dN false (ak 0) (dC (.str "end"))))
      eX
      aT)
 (aM (cQ (dT (dN false (ak 0) (dC (.str "why"))))
      eX
      aT)
 (aM (cQ (dT (dN false (ak 0) (dC (.str "keeps"))))
      (sX (qD [ke,mR] (ak 3) (js (ak 4) (aJ c5 (aq (ak 2) aP)))))
      aT)
 (aM (cQ (dT (dN false (ak 0) (dC (.str "shows"))))
      (sX (qD [ke,mR] (ak 3) (js (ak 4) (aJ c5 (aq (ak 2) aP)))))
      aT)
    (sX (qD [ke,mR] (ak 3) (js (ak 4) (aJ ff (aq (ak 2) aP)))))))))))))
@[irreducible] def lP:List D→Option D:=eG 5 [false,true,false] tF
theorem se:lP=eG 5 [false,true,false] tF:=by unfold lP; rfl
theorem xK (x0 x1 x2:D):fX 5 [false,true,false] [x0,x1,x2]=[.bo x0,.pu x1,.bo x2,.un,.un]:=rfl
noncomputable def wJ:DS:=(aM (bS 3 (aJ dD (aq (cY (ak 1) ‹31›) aP)))
 (aM (bS 4 (cY (aX 1) ‹27›))
 (aM (cQ (dT (dN false (ak 0) (dC (.str "show"))))
 (cy (iG ‹39› (bw (aq (cY (aX 1) ‹31›) (aq (aJ iq (aq (ak 4) aP)) aP)))))
      aT)
 (aM (cQ (dT (dN false (ak 0) (dC (.str "plan"))))
      eX
      aT)
 (aM (cQ (dT (dN false (ak 0) (dC (.str "end"))))
      eX
      aT)
 (aM (cQ (dT (dN false (ak 0) (dC (.str "why"))))
      eX
      aT)
 (aM (cQ (dT (dN false (ak 0) (dC (.str "keeps"))))
      eX
      aT)
 (aM (cQ (dT (dN false (ak 0) (dC (.str "shows"))))
      eX
      aT)
    eX))))))))
@[irreducible] def oQ:List D→Option D:=b6 5 [false,true,false] wJ
theorem sk:oQ=b6 5 [false,true,false] wJ:=by unfold oQ; rfl
theorem EF (x0:D):fX 2 [false] [x0]=[.bo x0,.un]:=rfl
def su:DS:=(aM (bS 1 (j5 (cY (ak 0) ‹31›)))
 (aM (cQ (dT (IF dQ (ak 1)))
 (cy (KN (BD dQ (ak 1)) (fW dX (ak 0))))
      aT)
 (cy (IG mD (ak 1) (fW dX (ak 0))))))
@[irreducible] def eR:List D→Option D:=b6 2 [false] su
theorem si:eR=b6 2 [false] su:=by unfold eR; rfl
noncomputable def jM:DS:=(aM (bS 2 (cY (aX 0) ‹31›))
 (aM (bS 3 (bw (gI (cY (aX 0) ‹27›) (aX 1))))
 (aM (cQ ‹35›
      (mj (ak 2))
      aT)
    eX)))
@[irreducible] def gQ:List D→Option D:=eG 4 [true,true] jM
theorem m9:gQ=eG 4 [true,true] jM:=by unfold gQ; rfl
theorem yN (x0 x1:D):fX 4 [true,true] [x0,x1]=[.pu x0,.pu x1,.un,.un]:=rfl
def iz:DS:=(aM ‹109›
 (aM (cQ ‹71›
      (iY (ak 1))
      aT)
    eX))
@[irreducible] def bI:List D→Option D:=fF 5 [false,true] iz
theorem fN:bI=fF 5 [false,true] iz:=by unfold bI; rfl
noncomputable def gK:DS:=(aM ‹109›
 (aM (cQ ‹71›
      eX
      aT)
 (aM (cQ ‹100›
      eX
      aT)
 (aM (bS 3 (cY (aX 2) ‹27›))
 (aM (cQ ‹92›
      (iY (ak 3))
      aT)
 (aM ‹25›
 (aM (cQ ‹101›
      eX
      aT)
 (aM (cQ (dT (um ax true (ak 3) (ak 0)))
      (mj (ak 3))
      aT)
    eX))))))))
@[irreducible] def bB:List D→Option D:=fF 5 [false,true] gK
theorem da:bB=fF 5 [false,true] gK:=by unfold bB; rfl
noncomputable def gJ:DS:=(aM ‹109›
 (aM (cQ ‹71›
      eX
      aT)
 (aM (cQ ‹100›
      eX
      aT)
 (aM (bS 3 (cY (aX 2) ‹27›))
 (aM (cQ ‹92›
      eX
      aT)
 (aM ‹25›
 (aM (cQ ‹101›
      (sX (jn ax (ak 0) (js (ak 3) (aJ bX (aq (ak 4) aP)))))
      aT)
 (aM (cQ (dT (um ax true (ak 3) (ak 0)))
      eX
      aT)
 (aM (cQ (dT (dN false ‹17› (dC (.str "drop"))))
      eX
      aT)
 (aM (cQ (dT (dN false ‹17› (dC (.str "late"))))
      (sX (jn ax (ak 0) (js (ak 3) (js (oB ax 0 (ak 3)) (aJ c5 (aq (ak 4) aP))))))
      aT)
    (sX (aJ lP (aq ‹17› (aq (oB ax 0 (ak 3)) (aq (ak 4) aP)))))))))))))))
@[irreducible] def bJ:List D→Option D:=fF 5 [false,true] gJ
theorem c9:bJ=fF 5 [false,true] gJ:=by unfold bJ; rfl
noncomputable def gL:DS:=(aM ‹109›
 (aM (cQ ‹71›
      eX
      aT)
 (aM (cQ ‹100›
      eX
      aT)
 (aM (bS 3 (cY (aX 2) ‹27›))
 (aM (cQ ‹92›
      eX
      aT)
 (aM ‹25›
 (aM (cQ ‹101›
      (sX (jn ax (ak 0) (js (ak 3) (aJ cw (aq (ak 4) aP)))))
      aT)
    eX)))))))
@[irreducible] def bZ:List D→Option D:=fF 5 [false,true] gL
theorem fj:bZ=fF 5 [false,true] gL:=by unfold bZ; rfl
noncomputable def gc:DS:=(aM ‹109›
 (aM (cQ ‹71›
      eX
      aT)
 (aM (cQ ‹100›
      eX
      aT)
 (aM (bS 3 (cY (aX 2) ‹27›))
 (aM (cQ ‹92›
      eX
      aT)
 (aM ‹25›
 (aM (cQ ‹101›
      (sX (jn ax (ak 0) (js (ak 3) (aJ cH (aq (ak 4) aP)))))
      aT)
 (aM (cQ (dT (um ax true (ak 3) (ak 0)))
      eX
      aT)
 (aM (cQ (dT (dN false ‹17› (dC (.str "drop"))))
      eX
      aT)
 (aM (cQ (dT (dN false ‹17› (dC (.str "late"))))
      (sX (jn ax (ak 0) (js (ak 3) (aJ gQ (aq (oB ax 0 (ak 3)) (aq (aJ d5 (aq (ak 4) aP)) aP))))))
      aT)
    eX))))))))))
@[irreducible] def cD:List D→Option D:=fF 5 [false,true] gc
theorem eV:cD=fF 5 [false,true] gc:=by unfold cD; rfl
noncomputable def qL:DS:=(aM ‹109›
 (aM (cQ ‹71›
      eX
      aT)
 (aM (cQ ‹100›
 (cy (iG ‹39› (bw (BB ax (ak 0)))))
      aT)
 (aM (bS 3 (cY (aX 2) ‹27›))
 (aM (cQ ‹92›
      eX
      aT)
 (aM ‹25›
 (aM (cQ ‹101›
      eX
      aT)
 (aM (cQ (dT (um ax true (ak 3) (ak 0)))
      eX
      aT)
 (aM (cQ (dT (dN false ‹17› (dC (.str "drop"))))
      eX
      aT)
 (aM (cQ (dT (dN false ‹17› (dC (.str "late"))))
      eX
      aT)
 (cy (aJ oQ (aq ‹17› (aq (oB ax 0 (ak 3)) (aq (ak 4) aP)))))))))))))))
noncomputable def oS:DS:=(aM ‹109›
 (aM (cQ ‹71› eX aT)
 (aM (cQ ‹100› eX aT)
 (aM (bS 3 (cY (aX 2) ‹27›))
 (aM (cQ ‹92› eX aT)
 (aM ‹25›
 (cQ ‹101›
 (rq ax (aX 3) (aJ d6 (aq (ak 4) aP)))
 (aM (cQ (dT (um ax true (ak 3) (ak 0))) eX aT)
 (cQ (dT (dN false ‹17› (dC (.str "drop"))))
 (nX ax (aX 3))
 (cQ (dT (dN false ‹17› (dC (.str "late"))))
      eX
    eX))))))))))
@[irreducible] def cI:FK:=runK 5 [false,true] oS
theorem jq:cI=runK 5 [false,true] oS:=by unfold cI; rfl
@[irreducible] def cU:List D→Option D:=fF 5 [false,true] qL
theorem kn:cU=fF 5 [false,true] qL:=by unfold cU; rfl
theorem Gw (x0 x1:D):fX 2 [false,false] [x0,x1]=[.bo x0,.bo x1]:=rfl
def uU:DS:=(cy (qE (uk (pK (pK (uk (ak 0) (ak 0)) (uk (ak 1) (ak 0))) (uk (uk (dC (.int 7)) (ak 1)) (ak 1))) (dC (.int 1103515245))) (dC (.int 2147483629))))
@[irreducible] def fu:List D→Option D:=b6 2 [false,false] uU
theorem t4:fu=b6 2 [false,false] uU:=by unfold fu; rfl
theorem yR (x0 x1:D):fX 2 [false,false] [x0,x1]=[.bo x0,.bo x1]:=rfl
def kJ:DS:=(aM (cQ (dT (O5 (ak 1) (fW dX (ak 0))))
 (cy (j5 (cY (ak 0) (ak 1))))
      aT)
 (cy ‹31›))
@[irreducible] def gR:List D→Option D:=b6 2 [false,false] kJ
theorem nr:gR=b6 2 [false,false] kJ:=by unfold gR; rfl
theorem Cb (x0:D):fX 8 [false] [x0]=[.bo x0,.un,.un,.un,.un,.un,.un,.un]:=rfl
noncomputable def pj:DS:=(aM (bS 1 (dC (.str "abcdefghijklmnopqrstuvwxyz")))
 (aM (bS 2 (pK ‹27› (qE (aJ fu (aq (ak 0) (aq ‹27› aP))) (dC (.int 8)))))
 (aM (bS 3 (qE (aJ fu (aq (ak 0) (aq (dC (.int 2)) aP))) (ak 2)))
 (aM (pO 4 aP)
 (aM (nF (ig (dC (.int 3))) (gN true 5)
 (aM (bS 6 (dC (.str "")))
 (aM (nF (ig (ak 2)) (gN true 7)
 (bS 6 (aL (ak 6) (cY (ak 1) (qE (pK (aJ fu (aq (pK (ak 0) (uk (ak 7) (ak 7))) (aq (dC (.int 3)) aP))) (uk (ak 5) (fW intD (dN false (ak 7) (ak 3))))) (dC (.int 26)))))))
 (EZ 4 (aX 6)))))
  (Cw 4 (cy (aX 4))))))))
@[irreducible] def lV:List D→Option D:=b6 8 [false] pj
theorem pW:lV=b6 8 [false] pj:=by unfold lV; rfl
theorem yQ (x0 x1:D):fX 2 [false,false] [x0,x1]=[.bo x0,.bo x1]:=rfl
noncomputable def kI:DS:=(cy (cY (bw ‹108›) (qE (aJ fu (aq (ak 1) (aq (dC (.int 4)) aP))) (dC (.int 5)))))
@[irreducible] def fQ:List D→Option D:=b6 2 [false,false] kI
theorem nq:fQ=b6 2 [false,false] kI:=by unfold fQ; rfl
theorem qe (x0 x1:D):fX 3 [false,false] [x0,x1]=[.bo x0,.bo x1,.un]:=rfl
noncomputable def fv:DS:=(aM (bS 2 (bw (aq (dC (.str "")) (aq (dC (.str " names")) (aq (dC (.str "names ")) (aq (dC (.str "name")) (aq (dC (.str "Names")) (aq (dC (.str "floor")) (aq (aL (dC (.str "floor ")) (ak 1)) (aq (aL (dC (.str "late ")) (ak 0)) (aq (dC (.str "drop")) aP)))))))))))
 (aM (bS 2 (bw (gI (aX 2) (bw (aq (aL (aL (aL (dC (.str "drop ")) (ak 0)) ‹39›) (ak 0)) (aq (dC (.str "show")) (aq (aL (aL (dC (.str "show ")) (ak 0)) ‹39›) (aq (dC (.str "plan")) (aq (aL (aL (dC (.str "plan ")) (ak 0)) (dC (.str " 0"))) aP)))))))))
 (aM (bS 2 (bw (gI (aX 2) (bw (aq (aL (aL (aL (dC (.str "end ")) (ak 0)) ‹39›) (ak 0)) (aq (dC (.str "why")) (aq (aL (aL (dC (.str "why ")) (ak 0)) ‹39›) aP)))))))
 (aM (bS 2 (bw (gI (aX 2) (bw (aq (aL (dC (.str "keeps ")) (ak 0)) (aq (aL (dC (.str "shows ")) (ak 0)) (aq (aL (dC (.str "busy ")) (ak 0)) (aq (aL (aL (dC (.str "busy ")) (ak 0)) (dC (.str " 0 0"))) (aq (aL (dC (.str "Show ")) (ak 0)) (aq (aL (aL (ak 1) (dC (.str "abcdefgh "))) (ak 0)) aP))))))))))
 (cy (bw (c8 1 [] (lN (aX 2)) (gN true 0) cO (pJ (aq (aX 0) (aq ‹27› aP))))))))))
@[irreducible] def dz:List D→Option D:=b6 3 [false,false] fv
theorem iI:dz=b6 3 [false,false] fv:=by unfold dz; rfl
theorem qg (x0 x1:D):fX 3 [false,false] [x0,x1]=[.bo x0,.bo x1,.un]:=rfl
noncomputable def fz:DS:=(aM (pO 2 (aq (aL (dC (.str "drop ")) (ak 0)) (aq (aL (dC (.str "drop ")) (ak 1)) (aq (aL (dC (.str "show ")) (ak 1)) (aq (aL (dC (.str "show ")) (ak 0)) (aq (aL (dC (.str "plan ")) (ak 0)) (aq (aL (dC (.str "end ")) (ak 1)) (aq (aL (dC (.str "why ")) (ak 0)) aP))))))))
 (aM (EZ 2 (aL (aL (dC (.str "keeps ")) (ak 0)) (dC (.str " x"))))
 (aM (Cw 2 (pO 2 (gI (aX 2) (bw (aq (aL (aL (dC (.str "shows ")) (ak 1)) (dC (.str " x"))) (aq (aL (aL (dC (.str "busy ")) (ak 0)) (dC (.str " x"))) (aq (aL (aL (dC (.str "late ")) (ak 0)) (dC (.str " x"))) (aq (aL (aL (dC (.str "floor ")) (ak 1)) (dC (.str " x"))) (aq (aL (aL (dC (.str "late ")) (ak 1)) (dC (.str " -"))) aP)))))))))
 (aM (Cw 2 (pO 2 (gI (aX 2) (bw (aq (aL (aL (dC (.str "floor ")) (ak 1)) (dC (.str " tails -"))) (aq (aL (aL (dC (.str "keeps ")) (ak 0)) (dC (.str " -"))) (aq (aL (aL (dC (.str "busy ")) (ak 1)) (dC (.str " 0"))) aP)))))))
 (cy (bw (c8 1 [] (lN (ak 2)) (gN false 0) cO (pJ (aq (j5 (ak 0)) (aq (dC (.int 2)) aP))))))))))
@[irreducible] def dB:List D→Option D:=b6 3 [false,false] fz
theorem iK:dB=b6 3 [false,false] fz:=by unfold dB; rfl
theorem qf (x0 x1 x2:D):fX 5 [false,false,false] [x0,x1,x2]=[.bo x0,.bo x1,.bo x2,.un,.un]:=rfl
noncomputable def fw:DS:=(aM (bS 3 (bw (aq (aL ‹22› ‹39›) (aq (aL ‹22› (dC (.str " tails"))) (aq (aL ‹22› (dC (.str " tails "))) (aq (aL ‹22› (dC (.str "  tails -"))) aP))))))
 (aM (bS 3 (bw (gI (aX 3) (bw (aq (aL ‹22› (dC (.str " Tails -"))) (aq (aL ‹22› (dC (.str " tailss 1 2 03"))) (aq (aL ‹22› (dC (.str " tails 1 2 3 /"))) aP)))))))
 (aM (bS 3 (bw (gI (aX 3) (bw (aq (aL (aL (dC (.str "late ")) (ak 0)) (dC (.str " x"))) (aq (aL (aL (dC (.str "late ")) (ak 0)) ‹39›) (aq (aL (aL (dC (.str "keeps ")) (ak 0)) (dC (.str " 1 +2"))) (aq (aL (aL (dC (.str "shows ")) (ak 0)) (dC (.str " -0"))) aP))))))))
 (aM (bS 3 (bw (gI (aX 3) (bw (aq (aL (aL (dC (.str "busy ")) (ak 0)) (dC (.str " -1"))) (aq (aL (aL (dC (.str "busy ")) (ak 0)) ‹39›) (aq (aL (aL (dC (.str "busy ")) (ak 0)) (dC (.str " 00"))) (aq (aL (aL (dC (.str "shows ")) (ak 1)) ‹39›) aP))))))))
 (aM (bS 3 (bw (gI (aX 3) (bw (aq (aL (aL (dC (.str "keeps ")) (ak 1)) (dC (.str " 1,2"))) (aq (aL (aL (dC (.str "late ")) (ak 1)) (dC (.str " - / 1"))) aP))))))
 (aM (bS 4 (bw (c8 1 [] (lN (aX 3)) (gN true 0) cO (pJ (aq (aX 0) (aq (dC (.int 3)) aP))))))
 (aM (bS 4 (bw (gI (aX 4) (bw (aq (pJ (aq (aL ‹22› (dC (.str " tailss -"))) (aq (dC (.int 4)) aP))) (aq (pJ (aq (aL ‹22› (dC (.str " tail 1 2"))) (aq (dC (.int 4)) aP))) (aq (pJ (aq (aL (aL (dC (.str "floor ")) (ak 0)) (dC (.str " none -"))) (aq (dC (.int 4)) aP))) aP)))))))
 (aM (bS 3 (bw (aq (aL ‹22› (dC (.str " tails 1 2"))) (aq (aL (aL (dC (.str "floor ")) (ak 0)) (dC (.str " tails 1 0 1"))) (aq (aL ‹22› (dC (.str " alike 0 / 1"))) aP)))))
 (aM (bS 3 (bw (gI (aX 3) (bw (aq (aL ‹22› (dC (.str " pairs 2 / 0 0"))) (aq (aL ‹22› (dC (.str " tree 1 / 1 0"))) (aq (aL ‹22› (dC (.str " windows -"))) aP)))))))
 (aM (bS 3 (bw (gI (aX 3) (bw (aq (aL (aL (dC (.str "late ")) (ak 0)) (dC (.str " 1 2"))) (aq (aL (aL (dC (.str "late ")) (ak 1)) (dC (.str " 1"))) aP))))))
 (aM (bS 3 (bw (gI (aX 3) (bw (aq (aL (aL (dC (.str "late ")) (ak 0)) (dC (.str " 1 0 1"))) (aq (aL (aL (dC (.str "late ")) (ak 1)) (dC (.str " ."))) (aq (aL ‹22› (dC (.str " open 1 / 1 2"))) aP)))))))
 (cy (bw (gI (aX 4) (bw (c8 1 [] (lN (aX 3)) (gN true 0) cO (pJ (aq (aX 0) (aq (dC (.int 5)) aP)))))))))))))))))))
@[irreducible] def dA:List D→Option D:=b6 5 [false,false,false] fw
theorem iJ:dA=b6 5 [false,false,false] fw:=by unfold dA; rfl
noncomputable def kH:DS:=(aM (bS 2 (dC .non))
 (xl (aJ bI ‹51›) (rB 5 2 (aJ bI ‹51›) ([true,false,false]++[false,false,true]))
 (xl (aJ bB ‹51›) (rB 5 2 (aJ bB ‹51›) ([false,true,false]++[false,false,true]))
 (xl (aJ bJ ‹51›) (rB 5 2 (aJ bJ ‹51›) ([false,false,true]++[false,false,true]))
 (xl (aJ bZ ‹51›) (rB 5 2 (aJ bZ ‹51›) ([false,false,false]++[true,false,true]))
 (rB 5 2 (aJ cD ‹51›) ([false,false,false]++[false,true,true])))))))
@[irreducible] def fP:List D→Option D:=fF 5 [false,true] kH
theorem nk:fP=fF 5 [false,true] kH:=by unfold fP; rfl
theorem Mb (x0:D):fX 13 [false] [x0]=[.bo x0,.un,.un,.un,.un,.un,.un,.un,.un,.un,.un,.un,.un]:=rfl
noncomputable def Ew:DS:=(aM (AV ax 1)
 (aM (Ml (aJ lV (aq (aJ gR (aq (ak 0) (aq ‹31› aP))) aP)) (Nh 3 (h9 (gN true 2) (h9 (gN true 3) (h9 (gN true 4) wc)))))
 (aM (bS 5 (aJ gR (aq (ak 0) (aq ‹27› aP))))
 (aM (bS 6 (bw (c8 1 [5] (ig (qE (ak 5) (dC (.int 12)))) (gN true 0) cO (aL (aL (aL (fW Gv (qE (aJ fu (aq (ak 1) (aq (ak 0) aP))) (dC (.int 9)))) ‹39›) (fW Gv (pK ‹27› (qE (aJ fu (aq (ak 1) (aq (pK (ak 0) (dC (.int 20))) aP))) (dC (.int 9)))))) (dC (.str " 3"))))))
 (aM (bS 7 (aL (dC (.str "tails ")) (iG (dC (.str " / ")) (bw (gI (aX 6) (bw (aq (dC (.str "0 1 10")) aP)))))))
 (aM (Cv (Mq (ud ax 1 cI (aL (aL ‹22› ‹39›) (ak 7))) (ud ax 1 cI (aL (aL (dC (.str "floor ")) (ak 3)) (dC (.str " tree 2 / 1 -1")))))
 ‹80›
      aT)
 (aM (bS 8 (iG ‹39› (bw (ym (bw (aq (aX 2) (aq (aX 3) aP)))))))
 (aM (nF (lN (bw (gI (bw (aq (dC (.int 2)) aP)) (bw (yd (yn (ak 0) (eM (dC (.int 2))) (eM (dC (.int 63))))))))) (gN true 9)
 (aM ‹76›
 (aM (Ml (cY (aX 10) (qE (aJ fu (aq (ak 9) (aq (dC (.int 6)) aP))) (fW dX (ak 10)))) (Nh 2 (h9 (gN true 11) (h9 (gN true 12) wc))))
 (aM (cQ (dT (dN true (aJ fP (fg ax 1 (aq (aX 11) aP))) (bw ‹107›)))
 ‹80›
      aT)
 (cQ ‹42›
 ‹80›
      aT)))))
 (aM (Cv (Mq (ud ax 1 cI (aL (aL (aL (dC (.str "floor ")) (ak 4)) ‹39›) (ak 7))) (xV (dT (dN true (aJ cU (fg ax 1 (aq (aL (dC (.str "show ")) (ak 4)) aP))) (ak 7)))))
 ‹80›
      aT)
 (aM (Cv (Mq (xV (dT (dN true (aJ cU (fg ax 1 (aq (dC (.str "names")) aP))) (iG ‹39› (bw (ym (bw (aq (aX 2) (aq (aX 3) (aq (aX 4) aP)))))))))) (ud ax 1 cI (aL (dC (.str "drop ")) (ak 4))))
 ‹80›
      aT)
 (cy (kc (dN false (aJ fP (fg ax 1 (aq (aL (dC (.str "show ")) (ak 4)) aP))) (bw (c8 1 [] (ig (dC (.int 6))) (gN true 0) cO (NV false (ak 0) (pJ (aq ‹27› (aq (dC (.int 5)) aP))))))) (dN false (aJ cU (fg ax 1 (aq (dC (.str "names")) aP))) (ak 8))))))))))))))
@[irreducible] def Et:List D→Option D:=b6 13 [false] Ew
theorem yy:Et=b6 13 [false] Ew:=by unfold Et; rfl
end
section
variable [cu] {P:Sd} {w:Sn} {K:Q2} {mg:Rf→Option Q7} {base:SA} {ad:Adr}
theorem jx (T:Txt w K mg ad):bQ P w K mg base gW 1 (ad.f 0) (ad.d 0) ["numbers", "least", "most"] (jv .v K [false,false,false] d4):=by
 rw [nc];exact eQ.nK (N:=["numbers", "least", "most"]) (T.F 0 rfl).F za [false,false,false] rfl kE fun cdv A outer s H E hr=>⟨_,
 (az (aW (jX (df ‹13› ‹9› aB (aY _)) (kW (A6 g8 g8 (pv 1) (pX K (pv 0) aB) (pv 2)))))),
 (bz (gZ (ai.b (bR (neg:=false) ‹87› aD)) (gi (p:=fun i j=>decide (i≤j)) (q:=fun i j=>decide (i≤j)) (ae 1) (bF (ae 0) aD) (ae 2))))⟩
theorem iZ (T:Txt w K mg ad):bQ P w K mg base gW 1 (ad.f 1) (ad.d 1) ["numbers", "least"] (jv .v K [false,false] d7):=by
 rw [lU];exact eQ.nK (N:=["numbers", "least"]) (T.F 1 rfl).F wZ [false,false] rfl jF fun cdv A outer s H E hr=>⟨_,
 (az (aW (bb (iT (K:=K) rfl rfl) rfl (T.G 1 rfl) qH (aa (d9 rfl (cn (K:=K) rfl (pv 0)) (ts:=["number"]) (zs:=["least"]) (k:=1) (is:=[1]) rfl (.cons rfl .nil) ‹11› rfl rfl rfl (bO ‹6›) ‹96› (fun _ _ _ _ _=>(df Lu (pv 0) (pv 1) (aY _))) rfl rfl ‹0›) aj)))),
 (bz (qk (ai.b (bC.l (cK (m:=false) (k:=1) (cs:=[1]) (lr (ae 0)) (bq 0) cz (Lk (ae 0) (ae 1)))))))⟩
theorem x5 (T:Txt w K mg ad):bQ P w K mg base gW 1 (ad.f 4) (ad.d 4) ["truths", "others"] (jv .v K [false,false] lX):=by
 rw [sj];exact eQ.nK (N:=["truths", "others"]) (T.F 4 rfl).F EO [false,false] rfl sv fun cdv A outer s H E hr=>⟨_,
 (az (aW (d9 rfl (Mw (K:=K) rfl rfl (T.G 9 rfl) (aa (pv 0) (aa (pv 1) aj))) (ts:=["one", "other"]) (zs:=[]) (k:=2) (is:=[]) rfl .nil .nil rfl rfl rfl (Kd (lows_cons (bO ‹6›) (lows_cons (bO ‹6›) HP))) (fun _ _ _ _ _=>(rJ (K:=K) rfl rfl (fH (iP (i:=0) ‹0› rfl (Se rfl) (SI rfl)) (fH (iP (i:=1) ‹0› rfl (Se rfl) (SI rfl)) rH)))) (fun _ _ _ _ _=>(Ls (pv 0) (kW (pv 1)))) rfl rfl ‹0›))),
 (bz (bC.l (cK (m:=true) (k:=2) (cs:=[]) (Gu (ae 0) (ae 1)) (AA (fC (bq 0) (fC (bq 1) rf))) cz (GN (ae 0) (aZ 1)))))⟩
theorem vH (T:Txt w K mg ad):bQ P w K mg base (nQ P w) 1 (ad.f 3) (ad.d 3) ["many", "needs"] (wK K [false,false] 49 ij):=by
 rw [lO];exact eQ.D1 (N:=["many", "needs", "before", "first", "later"]) (T.F 3 rfl).F dH [false,false] rfl i7 fun cdv A outer s H E hr=>⟨_,
 (ah ‹116›
 (ah (iO T9 rfl (cn (K:=K) rfl (pv 1)) (rJ (K:=K) rfl rfl (fH (pG 3 dH.nd) (fH (pG 4 dH.nd) rH)))
 (ah (a9 (b9 (PW.pt (Ha (jd g8 tP aB (pv 3) (pv 0)) (DR (jd g8 tP aB (pv 4) (pv 0))))))
 (az (eL (E:=E) (C:=49) (fun _ _ h=>h) ⟨rfl,rfl,rfl⟩ rfl RP rfl (T.G 17 rfl) (T.hq 0 rfl) (aa (uE (dY.val (pv 3) (dY.text ‹6› (dY.val (pv 4) (dY.text ‹6› dY.nil))))) aj)))
 aH)
 (az (sN gO (zD (pX K (pv 2) (pv 3)) (pv 4) set_list)))))
 (az cG))),
 (aw (Av (DH (m:=true) (k:=1) (cs:=[0]) (gV.c (cW (ae 0))) (bq 0) cz (GR (cN (n:=1) (aF iB aC) ‹6›) (ae 1))))
 (aw (iM (m:=false) (qW (y3 1)) (AA (fC (bq 3) (fC (bq 4) rf)))
 (aw (bh ‹64›
 (oW (sg.cons (ae 3) (sg.cons (ae 4) sg.nil)))
 aK)
 (DD iB (ae 3) (ae 4))))
 aO))⟩
theorem pQ (T:Txt w K mg ad):bQ P w K mg base gW 1 (ad.f 3) (ad.d 3) ["many", "needs"] (jv .l K [false,false] eW):=by
 rw [lR];exact eQ.Qu (N:=["many", "needs", "before", "first", "later"]) (T.F 3 rfl).F dH [false,false] rfl jC fun cdv A outer s H E hr=>⟨_,
 (ah ‹116›
 (ah (iO Ts rfl (cn (K:=K) rfl (pv 1)) (rJ (K:=K) rfl rfl (fH (pG 3 dH.nd) (fH (pG 4 dH.nd) rH)))
 (ah (a9 (b9 (PW.pt (Ha (jd g8 tP aB (pv 3) (pv 0)) (DR (jd g8 tP aB (pv 4) (pv 0))))))
 (az cG)
 aH)
 (az (sN gO (zD (pX K (pv 2) (pv 3)) (pv 4) set_list)))))
 (az (aW (pv 2))))),
 (aw (Av (DH (m:=true) (k:=1) (cs:=[0]) (gV.c (cW (ae 0))) (bq 0) cz (GR (cN (n:=1) (aF iB aC) ‹6›) (ae 1))))
 (aw (iM (m:=false) (qW (y3 1)) (AA (fC (bq 3) (fC (bq 4) rf)))
 (aw (bh ‹64›
 aO
 aK)
 (DD iB (ae 3) (ae 4))))
 (Jy 2 Jw)))⟩
theorem zK (T:Txt w K mg ad):bQ P w K mg base (nQ P w) 2 (ad.f 2) (ad.d 2) ["many", "needs"] (wK K [false,false] 49 kj):=by
 rw [oK];exact eQ.D1 (N:=["many", "needs", "before", "between", "first"]) (T.F 2 rfl).F d3 [false,false] rfl kQ fun cdv A outer s H E hr=>⟨_,
 (ah (rG (pA 2 d3.nd (cM (vH T) ‹2› rfl (T.F 3 rfl).m (T.F 3 rfl).F.kp (T.F 3 rfl).b .nil ‹15› (aa (pv 0) (aa (pv 1) aj)))) (pA 2 d3.nd (gD (pQ T) (T.F 3 rfl) hr (aa (pv 0) (aa (pv 1) aj)))))
 (ah (iO T9 rfl (cX rfl (T.G 6 rfl) ‹44›) (pG 3 d3.nd)
 (az (iO T9 rfl (cX rfl (T.G 6 rfl) ‹44›) (pG 4 d3.nd)
 (az (a9 (a8 (K:=K) rfl (pX K (pX K (pv 2) (pv 4)) (pv 3)) (fun _=>rfl))
 (az (sN (gD (x5 T) (T.F 4 rfl) hr (aa (pX K (pv 2) (pv 4)) (aa (pX K (pv 2) (pv 3)) aj))) (zD (pv 2) (pv 4) set_list)))
 aH)))))
 (ah (a9 ‹115›
 (az (eL (E:=E) (C:=49) (fun _ _ h=>h) ⟨rfl,rfl,rfl⟩ rfl RP rfl (T.G 17 rfl) (T.hq 0 rfl) (aa av aj)))
 aH)
 (az cG)))),
 (aw (GA (yX (aG (ae 0) (aG (ae 1) aC))) (oV (DK (aG (ae 0) (aG (ae 1) aC)))))
 (aw (iM (m:=true) (cW (ae 0)) (bq 3)
 (iM (m:=true) (cW (ae 0)) (bq 4)
 (bh (cb (K:=K) (bF (bF (ae 2) (ae 4)) (ae 3)))
 (Gz (aR (aG (bF (ae 2) (ae 4)) (aG (bF (ae 2) (ae 3)) aC))) (ae 4))
 aK)))
 (aw (bh (cb (K:=K) (ai.b (GQ (ai.b (bC.l (cK (m:=true) (k:=1) (cs:=[2]) (gV.c (cW (ae 0))) (bq 0) cz (bD.i (bF (bF (ae 1) (ae 0)) (ae 0)))))))))
 EH
 aK)
 aO)))⟩
theorem A9 (T:Txt w K mg ad):bQ P w K mg base gW 2 (ad.f 2) (ad.d 2) ["many", "needs"] (jv .v K [false,false] iX):=by
 rw [oR];exact eQ.nK (N:=["many", "needs", "before", "between", "first"]) (T.F 2 rfl).F d3 [false,false] rfl mX fun cdv A outer s H E hr=>⟨_,
 (ah (pA 2 d3.nd (gD (pQ T) (T.F 3 rfl) hr (aa (pv 0) (aa (pv 1) aj))))
 (ah (iO Ts rfl (cX rfl (T.G 6 rfl) ‹44›) (pG 3 d3.nd)
 (az (iO Ts rfl (cX rfl (T.G 6 rfl) ‹44›) (pG 4 d3.nd)
 (az (a9 (a8 (K:=K) rfl (pX K (pX K (pv 2) (pv 4)) (pv 3)) (fun _=>rfl))
 (az (sN (gD (x5 T) (T.F 4 rfl) hr (aa (pX K (pv 2) (pv 4)) (aa (pX K (pv 2) (pv 3)) aj))) (zD (pv 2) (pv 4) set_list)))
 aH)))))
 (ah (a9 ‹115›
 (az cG)
 aH)
 (az (aW (d9 rfl (cn (K:=K) rfl (pv 2)) (ts:=["row"]) (zs:=["many"]) (k:=1) (is:=[0]) rfl (.cons rfl .nil) ‹11› rfl rfl rfl (bO ‹6›) (fun _ _ _ _ _=>(iP (i:=0) ‹0› rfl (SI rfl) (Se rfl))) (fun _ _ _ _ _=>(MG rfl (cX rfl (T.G 6 rfl) (aa (pv 1) aj)) (ts:=["later"]) (zs:=["row"]) (k:=1) (is:=[0]) rfl (.cons rfl .nil) (.cons rfl (by first | exact Se rfl | exact SI rfl) rfl (by first | exact Se rfl | exact SI rfl) .nil) rfl rfl rfl (bO ‹6›) ‹96› (fun _ _ _ _ _=>(a8 (K:=K) rfl (pX K (pv 1) (pv 0)) (fun _=>rfl))) (fun _ _ _ _ _=>(pv 0)) rfl rfl ‹0›)) rfl rfl ‹0›)))))),
 (aw (oV (DK (aG (ae 0) (aG (ae 1) aC))))
 (aw (iM (m:=true) (cW (ae 0)) (bq 3)
 (iM (m:=true) (cW (ae 0)) (bq 4)
 (bh (cb (K:=K) (bF (bF (ae 2) (ae 4)) (ae 3)))
 (Gz (aR (aG (bF (ae 2) (ae 4)) (aG (bF (ae 2) (ae 3)) aC))) (ae 4))
 aK)))
 (aw (bh (cb (K:=K) (ai.b (GQ (ai.b (bC.l (cK (m:=true) (k:=1) (cs:=[2]) (gV.c (cW (ae 0))) (bq 0) cz (bD.i (bF (bF (ae 1) (ae 0)) (ae 0)))))))))
 aO
 aK)
 (bz (bC.l (cK (m:=false) (k:=1) (cs:=[0]) (lr (ae 2)) (bq 0) cz (bC.l (cK (m:=true) (k:=1) (cs:=[0]) (gV.c (cW (ae 1))) (bq 0) (cb (K:=K) (bF (ae 1) (ae 0))) (aZ 0)))))))))⟩
theorem zJ (T:Txt w K mg ad):bQ P w K mg base (nQ P w) 1 (ad.f 6) (ad.d 6) ["behind", "work"] (wK K [false,false] 49 ki):=by
 rw [oJ];exact eQ.D1 (N:=["behind", "work", "level", "later"]) (T.F 6 rfl).F dI [false,false] rfl kP fun cdv A outer s H E hr=>⟨_,
 (ah (pA 2 dI.nd aB)
 (ah (pA 3 dI.nd (pX K (pv 0) (pv 1)))
 (ah (A3 T9 (a6 ‹79› (pv 3) (A4 u5 aB) (aY _))
 (ah (Hf (i:=2) dI.nd rfl (Se rfl) aB HY)
 (ah (a9 (a6 DZ (pv 2) ‹9› (aY _))
 (az (eL (E:=E) (C:=49) (fun _ _ h=>h) ⟨rfl,rfl,rfl⟩ rfl RP rfl (T.G 17 rfl) (T.hq 0 rfl) (aa (uE (dY.text ‹6› (dY.val (pv 1) (dY.text ‹6› dY.nil)))) aj)))
 aH)
 (az (pA 3 dI.nd (pX K (pv 0) (pv 3)))))))
 (az cG)))),
 (aw (a7 gY)
 (aw (a7 (bD.i (bF (ae 0) (ae 1))))
 (aw (Au (aS (ai.b (bR (neg:=true) (ae 3) (ai.b (vn aD)))))
 (aw (GB aD)
 (aw (bh (aS (ai.b (DI (ae 2) ‹87›)))
 (oW (sg.cons (ae 1) sg.nil))
 aK)
 (a7 (bD.i (bF (ae 0) (ae 3)))))))
 aO)))⟩
theorem tR (T:Txt w K mg ad):bQ P w K mg base gW 1 (ad.f 6) (ad.d 6) ["behind", "work"] (jv .v K [false,false] fO):=by
 rw [oP];exact eQ.nK (N:=["behind", "work", "level", "later"]) (T.F 6 rfl).F dI [false,false] rfl mW fun cdv A outer s H E hr=>⟨_,
 (ah (pA 2 dI.nd aB)
 (ah (pA 3 dI.nd (pX K (pv 0) (pv 1)))
 (ah (A3 Ts (a6 ‹79› (pv 3) (A4 u5 aB) (aY _))
 (ah (Hf (i:=2) dI.nd rfl (Se rfl) aB HY)
 (ah (a9 (a6 DZ (pv 2) ‹9› (aY _))
 (az cG)
 aH)
 (az (pA 3 dI.nd (pX K (pv 0) (pv 3)))))))
 (az (aW (pv 2)))))),
 (aw (a7 gY)
 (aw (a7 (bD.i (bF (ae 0) (ae 1))))
 (aw (Au (aS (ai.b (bR (neg:=true) (ae 3) (ai.b (vn aD)))))
 (aw (GB aD)
 (aw (bh (aS (ai.b (DI (ae 2) ‹87›)))
 aO
 aK)
 (a7 (bD.i (bF (ae 0) (ae 3)))))))
 (bz (aZ 2)))))⟩
theorem CJ (T:Txt w K mg ad):bQ P w K mg base (nQ P w) 2 (ad.f 5) (ad.d 5) ["behind"] (wK K [false] 49 oI):=by
 rw [sd];exact eQ.D1 (N:=["behind", "later"]) (T.F 5 rfl).F o4 [false] rfl pz fun cdv A outer s H E hr=>⟨_,
 (ah (iO T9 rfl (cn (K:=K) rfl (pv 0)) (pG 1 o4.nd)
 (az (a9 (b9 (jd g8 tP (A4 u5 aB) (pv 1) ‹9›))
 (az (eL (E:=E) (C:=49) (fun _ _ h=>h) ⟨rfl,rfl,rfl⟩ rfl RP rfl (T.G 17 rfl) (T.hq 0 rfl) (aa (uE (dY.text ‹6› (dY.val (pv 1) dY.nil))) aj)))
 aH)))
 (az (aW (Hs (E:=E) (fun _ _ h=>h) ⟨rfl,rfl,rfl⟩ rfl (cX rfl (T.G 6 rfl) (aa ‹9› aj)) (ts:=["work"]) (zs:=["behind"]) (k:=1) (is:=[0]) rfl (.cons rfl .nil) ‹11› rfl (bO ‹6›) (fun _ _ _ _ _ _=>(Mx ‹0› rfl rfl)) (fun _ _ _ _ _ _ px=>(CF (gD (tR T) (T.F 6 rfl) hr (aa (pv 1) ‹44›)) (cM (zJ T) ‹2› rfl (T.F 6 rfl).m (T.F 6 rfl).F.kp (T.F 6 rfl).b .nil px (aa (pv 1) ‹44›)))) rfl ‹0› rfl ‹0›)))),
 (aw (iM (m:=false) (qW (y3 0)) (bq 1)
 (bh (cc (aS (ai.b (gi (p:=fun i j=>decide (i≤j)) (q:=fun i j=>decide (i<j)) (ai.b (vn aD)) (ae 1) ‹87›))))
 (oW (sg.cons (ae 1) sg.nil))
 aK))
 (vg (m:=true) (k:=1) (cs:=[0]) (gV.c (cW ‹87›)) (bq 0) (aR (aG (ae 1) (aG (ae 0) aC))) (aG (ae 1) (aG (ae 0) aC))))⟩
theorem Fb (T:Txt w K mg ad):bQ P w K mg base gW 2 (ad.f 5) (ad.d 5) ["behind"] (jv .v K [false] oO):=by
 rw [sh];exact eQ.nK (N:=["behind", "later"]) (T.F 5 rfl).F o4 [false] rfl sr fun cdv A outer s H E hr=>⟨_,
 (ah (iO Ts rfl (cn (K:=K) rfl (pv 0)) (pG 1 o4.nd)
 (az (a9 (b9 (jd g8 tP (A4 u5 aB) (pv 1) ‹9›))
 (az cG)
 aH)))
 (az (aW (d9 rfl (cX rfl (T.G 6 rfl) (aa ‹9› aj)) (ts:=["work"]) (zs:=["behind"]) (k:=1) (is:=[0]) rfl (.cons rfl .nil) ‹11› rfl rfl rfl (bO ‹6›) ‹96› (fun _ _ _ _ _=>(gD (tR T) (T.F 6 rfl) hr (aa (pv 1) ‹44›))) rfl rfl ‹0›)))),
 (aw (iM (m:=false) (qW (y3 0)) (bq 1)
 (bh (cc (aS (ai.b (gi (p:=fun i j=>decide (i≤j)) (q:=fun i j=>decide (i<j)) (ai.b (vn aD)) (ae 1) ‹87›))))
 aO
 aK))
 (bz (bC.l (cK (m:=true) (k:=1) (cs:=[0]) (gV.c (cW ‹87›)) (bq 0) cz (aR (aG (ae 1) (aG (ae 0) aC)))))))⟩
theorem pT (T:Txt w K mg ad):bQ P w K mg base gW 1 (ad.g 0) (ad.e 0) ["self"] (jv .v K [false] cV):=by
 rw [l6];exact eQ.nK (N:=["self"]) (T.M 0 rfl).F xg [false] rfl jK fun cdv A outer s H E hr=>⟨_,
 (az (aW av)),
 (bz au)⟩
theorem gw (T:Txt w K mg ad):bQ P w K mg base gW 2 (ad.g 1) (ad.e 1) ‹62› (jv .v K [false,true] bM):=by
 rw [l9];exact eQ.nK (N:=‹62›) (T.M 1 rfl).F xh [false,true] rfl jL fun cdv A outer s H E hr=>⟨_,
 (ah (a9 (PW.pt (mZ (a6 ‹79› ‹47› aB (aY _)) (mv ‹38›)))
 (az (aW gO))
 aH)
 (az (aW (jX (df g8 (bb (bN (K:=K) rfl) rfl (T.G 5 rfl) dq (aa ‹55› aj)) aB (aY _)) (kW (gD (iZ T) (T.F 1 rfl) hr (aa ‹55› (aa aB aj)))))))),
 (aw (bh (qZ (aS (ai.b (bR (neg:=true) (ai.b (dn (ae 1))) aD))) ‹67›)
 (bz iB)
 aK)
 (bz (gZ (ai.b (Ax (ai.b (dn (bF (ae 1) aD))) aD)) (aR (aG (bF (ae 1) aD) (aG aD aC))))))⟩
theorem rQ (T:Txt w K mg ad):bQ P w K mg base gW 1 (ad.g 2) (ad.e 2) ["self"] (jv .v K [false] du):=by
 rw [nB];exact eQ.nK (N:=["self"]) (T.M 2 rfl).F zg [false] rfl kN fun cdv A outer s H E hr=>⟨_,
 (az (aW av)),
 (bz au)⟩
theorem hJ (T:Txt w K mg ad):bQ P w K mg base gW 2 (ad.g 3) (ad.e 3) ‹62› (jv .v K [false,true] bW):=by
 rw [nC];exact eQ.nK (N:=‹62›) (T.M 3 rfl).F zh [false,true] rfl kO fun cdv A outer s H E hr=>⟨_,
 (ah (a9 (a6 DZ ‹47› aB (aY _))
 (az (aW gO))
 aH)
 (az (aW (bb (iT (K:=K) rfl rfl) rfl (T.G 1 rfl) qH (aa (d9 rfl (cn (K:=K) rfl (pv 1)) (ts:=["row"]) (zs:=["rows"]) (k:=1) (is:=[1]) rfl (.cons rfl .nil) ‹11› rfl rfl rfl (bO ‹6›) ‹96› (fun _ _ _ _ _=>(jX (df ‹13› ‹9› (bb (bN (K:=K) rfl) rfl (T.G 5 rfl) dq (aa ‹55› aj)) (aY _)) (jX (df g8 ‹9› aB (aY _)) (kW (gD (iZ T) (T.F 1 rfl) hr (aa (pv 0) (aa aB aj))))))) rfl rfl ‹0›) aj))))),
 (aw (bh (aS (ai.b (DI (ai.b (dn (ae 1))) aD)))
 (bz iB)
 aK)
 (bz (qk (ai.b (bC.l (cK (m:=true) (k:=1) (cs:=[1]) (gV.c (fm (aZ 1))) (bq 0) cz (gZ (ai.b (bR (neg:=false) ‹87› (ai.b (dn (bF (ae 1) aD))))) (gZ (ai.b (Ax ‹87› aD)) (aR (aG (ae 0) (aG aD aC)))))))))))⟩
theorem pR (T:Txt w K mg ad):bQ P w K mg base gW 1 (ad.g 4) (ad.e 4) ["self"] (jv .v K [false] cS):=by
 rw [lY];exact eQ.nK (N:=["self"]) (T.M 4 rfl).F xa [false] rfl jG fun cdv A outer s H E hr=>⟨_,
 (az (aW av)),
 (bz au)⟩
theorem gp (T:Txt w K mg ad):bQ P w K mg base gW 2 (ad.g 5) (ad.e 5) ‹62› (jv .v K [false,true] bK):=by
 rw [lZ];exact eQ.nK (N:=‹62›) (T.M 5 rfl).F xb [false,true] rfl jH fun cdv A outer s H E hr=>⟨_,
 (az (aW (jX (df g8 ‹47› aB (aY _)) (kW (bb (iT (K:=K) rfl rfl) rfl (T.G 1 rfl) qH (aa (d9 rfl (cn (K:=K) rfl (pv 1)) (ts:=["row"]) (zs:=[]) (k:=1) (is:=[]) rfl .nil .nil rfl rfl rfl (bO ‹6›) ‹96› (fun _ _ _ _ _=>(jX (df ‹13› ‹9› aB (aY _)) (jX (gD (iZ T) (T.F 1 rfl) hr (aa (pv 0) (aa aB aj))) (kW (df Lu (pX K (pv 0) aB) aB (aY _)))))) rfl rfl ‹0›) aj)))))),
 (bz (gZ (ai.b (Ax (ai.b (dn (ae 1))) aD)) (qk (ai.b (bC.l (cK (m:=true) (k:=1) (cs:=[]) (gV.c (fm (aZ 1))) (bq 0) cz (gZ (ai.b (bR (neg:=false) ‹87› aD)) (gZ (ai.b (aR (aG (ae 0) (aG aD aC)))) (Lk (bF (ae 0) aD) aD)))))))))⟩
theorem m6 (T:Txt w K mg ad):bQ P w K mg base gW 1 (ad.g 6) (ad.e 6) ["self"] (jv .v K [false] cq):=by
 rw [kl];exact eQ.nK (N:=["self"]) (T.M 6 rfl).F ua [false] rfl ir fun cdv A outer s H E hr=>⟨_,
 (az (aW av)),
 (bz au)⟩
theorem e8 (T:Txt w K mg ad):bQ P w K mg base gW 2 (ad.g 7) (ad.e 7) ‹62› (jv .v K [false,true] bA):=by
 rw [km];exact eQ.nK (N:=‹62›) (T.M 7 rfl).F ub [false,true] rfl iu fun cdv A outer s H E hr=>⟨_,
 (ah (a9 (PW.pt (mZ (b9 (jd g8 g8 aB ‹47› aB)) (mv ‹38›)))
 (az (aW gO))
 aH)
 (az (aW (bb (iT (K:=K) rfl rfl) rfl (T.G 1 rfl) qH (aa (d9 rfl (cn (K:=K) rfl (dP (fB (K:=K) rfl) (pv 1) (eJ aB) fq)) (ts:=["row"]) (zs:=[]) (k:=1) (is:=[]) rfl .nil .nil rfl rfl rfl (bO ‹6›) ‹96› (fun _ _ _ _ _=>(jX (df ‹13› ‹9› aB (aY _)) (jX (gD (iZ T) (T.F 1 rfl) hr (aa (pv 0) (aa aB aj))) (kW (df g8 (pX K (pv 0) aB) (pX K (pv 0) aB) (aY _)))))) rfl rfl ‹0›) aj))))),
 (aw (bh (qZ (cc (aS (ai.b (gi (p:=fun i j=>decide (i≤j)) (q:=fun i j=>decide (i≤j)) aD (ai.b (dn (ae 1))) aD)))) ‹67›)
 (bz iB)
 aK)
 (bz (qk (ai.b (bC.l (cK (m:=true) (k:=1) (cs:=[]) (gV.c (fm (bC.l (pN (aZ 1) (eI aD) fo)))) (bq 0) cz (gZ (ai.b (bR (neg:=false) ‹87› aD)) (gZ (ai.b (aR (aG (ae 0) (aG aD aC)))) (Ax (bF (ae 0) aD) (bF (ae 0) aD))))))))))⟩
theorem rP (T:Txt w K mg ad):bQ P w K mg base gW 1 (ad.g 8) (ad.e 8) ["self"] (jv .v K [false] dr):=by
 rw [ny];exact eQ.nK (N:=["self"]) (T.M 8 rfl).F ze [false] rfl kL fun cdv A outer s H E hr=>⟨_,
 (az (aW av)),
 (bz au)⟩
theorem hE (T:Txt w K mg ad):bQ P w K mg base gW 3 (ad.g 9) (ad.e 9) ‹62› (jv .v K [false,true] bV):=by
 rw [nA];exact eQ.nK (N:=‹62›) (T.M 9 rfl).F zf [false,true] rfl kM fun cdv A outer s H E hr=>⟨_,
 (ah (a9 (PW.pt (mZ (a6 ‹79› ‹47› aB (aY _)) (mZ ‹38› (mv (a6 DZ (bb (bN (K:=K) rfl) rfl (T.G 5 rfl) dq (aa ‹55› aj)) aB (aY _))))))
 (az (aW gO))
 aH)
 (ah (rG (DU ⟨rfl,rfl,rfl⟩ (CJ T) ‹2› rfl (T.F 5 rfl).m (T.F 5 rfl).F.kp (T.F 5 rfl).b (fun _=>(aa ‹55› aj)) rfl (T.G 17 rfl) (fun _ _=>(az (aW gO)))) (DV (fun _=>(gD (Fb T) (T.F 5 rfl) hr (aa ‹55› aj)))))
 (az (aW gO)))),
 (aw (bh (qZ (aS (ai.b (bR (neg:=true) (ai.b (dn (ae 1))) aD))) (qZ ‹67› (aS (ai.b (DI (ai.b (dn (bF (ae 1) aD))) aD)))))
 (bz iB)
 aK)
 (aw (DB (aG (bF (ae 1) aD) aC) (T.hx 0 rfl) (ai.b (aR (aG (bF (ae 1) aD) aC))) P7 P6)
 (bz iB)))⟩
theorem pS (T:Txt w K mg ad):bQ P w K mg base gW 1 (ad.g 10) (ad.e 10) ["self"] (jv .v K [false] cT):=by
 rw [l4];exact eQ.nK (N:=["self"]) (T.M 10 rfl).F xc [false] rfl jI fun cdv A outer s H E hr=>⟨_,
 (az (aW av)),
 (bz au)⟩
theorem gv (T:Txt w K mg ad):bQ P w K mg base gW 3 (ad.g 11) (ad.e 11) ‹62› (jv .v K [false,true] bL):=by
 rw [l5];exact eQ.nK (N:=‹62›) (T.M 11 rfl).F xf [false,true] rfl jJ fun cdv A outer s H E hr=>⟨_,
 (ah (a9 (PW.pt (mZ (b9 (a8 (K:=K) rfl (pv 1) (fun _=>rfl))) (mZ ‹38› (mv (b9 (a8 (K:=K) rfl (bb (iT (K:=K) rfl rfl) rfl (T.G 1 rfl) qH (aa (d9 rfl (cn (K:=K) rfl (dP (fB (K:=K) rfl) (pv 1) (eJ aB) fq)) (ts:=["row"]) (zs:=[]) (k:=1) (is:=[]) rfl .nil .nil rfl rfl rfl (bO ‹6›) ‹96› (fun _ _ _ _ _=>(df ‹13› ‹9› aB (aY _))) rfl rfl ‹0›) aj)) (fun _=>rfl)))))))
 (az (aW gO))
 aH)
 (ah (rG (DU ⟨rfl,rfl,rfl⟩ (zK T) ‹2› rfl (T.F 2 rfl).m (T.F 2 rfl).F.kp (T.F 2 rfl).b (fun _=>(aa (pX K ‹55› aB) (aa (dP (fB (K:=K) rfl) (pv 1) (eJ aB) fq) aj))) rfl (T.G 17 rfl) (fun _ _=>(az (aW gO)))) (DV (fun _=>(gD (A9 T) (T.F 2 rfl) hr (aa (pX K ‹55› aB) (aa (dP (fB (K:=K) rfl) (pv 1) (eJ aB) fq) aj))))))
 (az (aW gO)))),
 (aw (bh (qZ (cc (cb (K:=K) (ae 1))) (qZ ‹67› (cc (cb (K:=K) (ai.b (qk (ai.b (bC.l (cK (m:=true) (k:=1) (cs:=[]) (gV.c (fm (bC.l (pN (aZ 1) (eI aD) fo)))) (bq 0) cz (bR (neg:=false) ‹87› aD))))))))))
 (bz iB)
 aK)
 (aw (DB (aG (bF (bF (ae 1) aD) aD) (aG (ai.b (bC.l (pN (aZ 1) (eI aD) fo))) aC)) (T.hx 0 rfl) (ai.b (aR (aG (bF (bF (ae 1) aD) aD) (aG (ai.b (bC.l (pN (aZ 1) (eI aD) fo))) aC)))) P9 P8)
 (bz iB)))⟩
theorem A8 (T:Txt w K mg ad):bQ P w K mg base gW 1 (ad.f 7) (ad.d 7) [] (jv .l K [] mU):=by
 rw [t5];exact eQ.Qu (N:=[]) (T.F 7 rfl).F GW [] rfl uV fun cdv A outer s H E hr=>⟨_,
 (az (aW (cv (aa (lD (T.NU 0 rfl) rfl (T.G 18 rfl)) (aa (lD (T.NU 1 rfl) rfl (T.G 19 rfl)) (aa (lD (T.NU 2 rfl) rfl (T.G 20 rfl)) (aa (lD (T.NU 3 rfl) rfl (T.G 21 rfl)) (aa (lD (T.NU 4 rfl) rfl (T.G 22 rfl)) (aa (lD (T.NU 5 rfl) rfl (T.G 23 rfl)) aj))))))))),
 (Jx (cN (n:=6) (aF oZ (aF oZ (aF oZ (aF oZ (aF oZ (aF oZ aC)))))) ‹6›))⟩
theorem Bb (T:Txt w K mg ad):bQ P w K mg base (nQ P w) 2 (ad.f 8) (ad.d 8) ["word"] (wK K [false] 73 jQ):=by
 rw [k9];exact eQ.D1 (N:=["word", "kind"]) (T.F 8 rfl).F mi [false] rfl ko fun cdv A outer s H E hr=>⟨_,
 (ah (iO T9 rfl (cn (K:=K) rfl (A7 (A8 T) ‹2› rfl (T.F 7 rfl).m (T.F 7 rfl).F.kp (T.F 7 rfl).b .nil eZ)) (pG 1 mi.nd)
 (az (a9 ‹98›
 (az cG)
 aH)))
 (az (eL (E:=E) (C:=73) (fun _ _ h=>h) ⟨rfl,rfl,rfl⟩ rfl RP rfl (T.G 24 rfl) (T.hq 1 rfl) (aa (xW (pv 0)) aj)))),
 (aw (iM (m:=true) (fm (aR aC)) (bq 1)
 (bh (aS (ai.b (bR (neg:=false) (ai.b (oY (ms:=[]) (tbl:=[(711,cV),(768,du),(825,cS),(880,cq),(1000,dr),(1064,cT)]) (ae 1) aC)) (ae 0))))
 aO
 aK))
 (lu (ae 0)))⟩
theorem iQ (T:Txt w K mg ad):bQ P w K mg base gW 2 (ad.f 8) (ad.d 8) ["word"] (jv .v K [false] dD):=by
 rw [pY];exact eQ.nK (N:=["word", "kind"]) (T.F 8 rfl).F mi [false] rfl pq fun cdv A outer s H E hr=>⟨_,
 (ah (iO Ts rfl (cn (K:=K) rfl (A7 (A8 T) ‹2› rfl (T.F 7 rfl).m (T.F 7 rfl).F.kp (T.F 7 rfl).b .nil eZ)) (pG 1 mi.nd)
 (az (a9 ‹98›
 (az (aW (pv 1)))
 aH)))
 (az cG)),
 (aw (iM (m:=true) (fm (aR aC)) (bq 1)
 (bh (aS (ai.b (bR (neg:=false) (ai.b (oY (ms:=[]) (tbl:=[(711,cV),(768,du),(825,cS),(880,cq),(1000,dr),(1064,cT)]) (ae 1) aC)) (ae 0))))
 (bz (aZ 1))
 aK))
 aO)⟩
theorem ee (T:Txt w K mg ad):bQ P w K mg base gW 1 (ad.f 9) (ad.d 9) ["text"] (jv .v K [false] cZ):=by
 rw [pZ];exact eQ.nK (N:=["text"]) (T.F 9 rfl).F Co [false] rfl pw fun cdv A outer s H E hr=>⟨_,
 (az (aW (jX (A6 g8 g8 aB ‹9› (A5 rfl (T.G 13 rfl))) (kW (bb (iT (K:=K) rfl rfl) rfl (T.G 1 rfl) qH (aa (d9 rfl (Hh (pv 0)) (ts:=["sign"]) (zs:=[]) (k:=1) (is:=[]) rfl .nil .nil rfl rfl rfl (bO ‹6›) ‹96› (fun _ _ _ _ _=>(df x4 (pv 0) (gm rfl (T.G 11 rfl)) (by with_unfolding_all rfl))) rfl rfl ‹0›) aj)))))),
 (bz (gZ (ai.b (gi (p:=fun i j=>decide (i≤j)) (q:=fun i j=>decide (i≤j)) aD ‹87› aD)) (qk (ai.b (bC.l (cK (m:=true) (k:=1) (cs:=[]) (gV.c (As (ae 0))) (bq 0) cz (GP (ae 0) (ai.b au))))))))⟩
theorem rO (T:Txt w K mg ad):bQ P w K mg base gW 1 (ad.f 10) (ad.d 10) ["text"] (jv .v K [false] gS):=by
 rw [nv];exact eQ.nK (N:=["text", "figures"]) (T.F 10 rfl).F rj [false] rfl kK fun cdv A outer s H E hr=>⟨_,
 (ah (pA 1 rj.nd (Hn (a8 (K:=K) rfl (qM (K:=K) rfl (dJ Rj Uv VV x8 (pv 0) (aa av aj))) (fun _=>rfl)) (dP y7 (pv 0) (eJ aB) fq) (pv 0)))
 (ah (a9 (PW.pt (mZ (b9 (jd g8 g8 aB ‹47› (A5 rfl (T.G 12 rfl)))) (mv (b9 (a8 (K:=K) rfl (bb (iT (K:=K) rfl rfl) rfl (T.G 1 rfl) qH (aa (d9 rfl (Hh (pv 1)) (ts:=["sign"]) (zs:=[]) (k:=1) (is:=[]) rfl .nil .nil rfl rfl rfl (bO ‹6›) ‹96› (fun _ _ _ _ _=>(df x4 (pv 0) (gm rfl (T.G 10 rfl)) (by with_unfolding_all rfl))) rfl rfl ‹0›) aj)) (fun _=>rfl))))))
 (az (aW gO))
 aH)
 (az (aW (Ls (df ‹13› (pv 0) av (aY _)) (kW (MD (qM (K:=K) rfl (dJ Rj Uv VV x8 (pv 1) (aa av aj)))))))))),
 (aw (a7 (Oi (cb (K:=K) (ai.b (xO (ae 0) (ai.b au)))) (y8 (ae 0) (eI aD) fo) (bD.i (ae 0))))
 (aw (bh (qZ (cc (aS (ai.b (gi (p:=fun i j=>decide (i≤j)) (q:=fun i j=>decide (i≤j)) aD (ai.b (dn (ae 1))) aD)))) (cc (cb (K:=K) (ai.b (qk (ai.b (bC.l (cK (m:=true) (k:=1) (cs:=[]) (gV.c (As (ae 1))) (bq 0) cz (GP (ae 0) (ai.b au))))))))))
 (bz iB)
 aK)
 (bz (GN (ai.b (bR (neg:=false) (ae 0) (ai.b au))) (JC (ai.b (xO (ae 1) (ai.b au))))))))⟩
theorem m7 (T:Txt w K mg ad):bQ P w K mg base (nQ P w) 2 (ad.f 11) (ad.d 11) ["text"] (wK K [false] 61 eC):=by
 rw [ik];exact eQ.D1 (N:=["text"]) (T.F 11 rfl).F nW [false] rfl fR fun cdv A outer s H E hr=>⟨_,
 (ah (a9 (b9 (a8 (K:=K) rfl (gD (rO T) (T.F 10 rfl) hr ‹44›) (fun _=>rfl)))
 (az (eL (E:=E) (C:=61) (fun _ _ h=>h) ⟨rfl,rfl,rfl⟩ rfl RP rfl (T.G 25 rfl) (T.hq 2 rfl) (aa (vF (pv 0)) aj)))
 aH)
 (az cG)),
 (aw (bh (cc (cb (K:=K) (ai.b (aR (aG (ae 0) aC)))))
 (lu (ae 0))
 aK)
 aO)⟩
theorem jY (T:Txt w K mg ad):bQ P w K mg base gW 2 (ad.f 11) (ad.d 11) ["text"] (jv .v K [false] eE):=by
 rw [kD];exact eQ.nK (N:=["text"]) (T.F 11 rfl).F nW [false] rfl i6 fun cdv A outer s H E hr=>⟨_,
 (ah (a9 (b9 (a8 (K:=K) rfl (gD (rO T) (T.F 10 rfl) hr ‹44›) (fun _=>rfl)))
 (az cG)
 aH)
 (az (aW (lE FP rfl (T.G 3 rfl) IL ‹44›)))),
 (aw (bh (cc (cb (K:=K) (ai.b (aR (aG (ae 0) aC)))))
 aO
 aK)
 (bz (JE (ae 0))))⟩
theorem zI (T:Txt w K mg ad):bQ P w K mg base (nQ P w) 3 (ad.f 13) (ad.d 13) ["text"] (wK K [false] 61 iU):=by
 rw [kh];exact eQ.D1 (N:=["text"]) (T.F 13 rfl).F tM [false] rfl jj fun cdv A outer s H E hr=>⟨_,
 (ah (a9 (a6 ‹13› (pv 0) (gm rfl (T.G 14 rfl)) (aY _))
 (az cG)
 aH)
 (az (aW (Hs (E:=E) (fun _ _ h=>h) ⟨rfl,rfl,rfl⟩ rfl ‹69› (ts:=["part"]) (zs:=[]) (k:=1) (is:=[]) rfl .nil .nil rfl (bO ‹6›) (fun _ _ _ _ _ _=>(Mx ‹0› rfl rfl)) (fun _ _ _ _ _ _ px=>(CF (gD (jY T) (T.F 11 rfl) hr ‹44›) (cM (m7 T) ‹2› rfl (T.F 11 rfl).m (T.F 11 rfl).F.kp (T.F 11 rfl).b .nil px ‹44›))) rfl ‹0› rfl ‹0›)))),
 (aw (bh ‹12›
 aO
 aK)
 (vg (m:=true) (k:=1) (cs:=[]) (gV.c (fm (bC.l (fE (ae 0) (ai.b au))))) (bq 0) (aR (aG (ae 0) aC)) (aG (ae 0) aC)))⟩
theorem tQ (T:Txt w K mg ad):bQ P w K mg base gW 3 (ad.f 13) (ad.d 13) ["text"] (jv .v K [false] iW):=by
 rw [oN];exact eQ.nK (N:=["text"]) (T.F 13 rfl).F tM [false] rfl mV fun cdv A outer s H E hr=>⟨_,
 (ah (a9 (a6 ‹13› (pv 0) (gm rfl (T.G 14 rfl)) (aY _))
 (az (aW (cv aj)))
 aH)
 (az (aW (d9 rfl ‹69› (ts:=["part"]) (zs:=[]) (k:=1) (is:=[]) rfl .nil .nil rfl rfl rfl (bO ‹6›) ‹96› (fun _ _ _ _ _=>(gD (jY T) (T.F 11 rfl) hr ‹44›)) rfl rfl ‹0›)))),
 (aw (bh ‹12›
 (bz (bC.l (cN (n:=0) aC ‹6›)))
 aK)
 (bz (bC.l (cK (m:=true) (k:=1) (cs:=[]) (gV.c (fm (bC.l (fE (ae 0) (ai.b au))))) (bq 0) cz (aR (aG (ae 0) aC))))))⟩
theorem i0 (T:Txt w K mg ad):bQ P w K mg base (nQ P w) 4 (ad.f 12) (ad.d 12) ["text"] (wK K [false] 61 c5):=by
 rw [jo];exact eQ.D1 (N:=["text"]) (T.F 12 rfl).F rg [false] rfl iw fun cdv A outer s H E hr=>⟨_,
 (ah (a9 (a6 ‹13› (pv 0) (gm rfl (T.G 15 rfl)) (aY _))
 (az cG)
 aH)
 (az (aW (Hs (E:=E) (fun _ _ h=>h) ⟨rfl,rfl,rfl⟩ rfl ‹69› (ts:=["part"]) (zs:=[]) (k:=1) (is:=[]) rfl .nil .nil rfl (bO ‹6›) (fun _ _ _ _ _ _=>(Mx ‹0› rfl rfl)) (fun _ _ _ _ _ _ px=>(CF (gD (tQ T) (T.F 13 rfl) hr ‹44›) (cM (zI T) ‹2› rfl (T.F 13 rfl).m (T.F 13 rfl).F.kp (T.F 13 rfl).b .nil px ‹44›))) rfl ‹0› rfl ‹0›)))),
 (aw (bh ‹12›
 aO
 aK)
 (vg (m:=true) (k:=1) (cs:=[]) (gV.c (fm (bC.l (fE (ae 0) (ai.b au))))) (bq 0) (aR (aG (ae 0) aC)) (aG (ae 0) aC)))⟩
theorem g9 (T:Txt w K mg ad):bQ P w K mg base gW 4 (ad.f 12) (ad.d 12) ["text"] (jv .v K [false] d5):=by
 rw [nj];exact eQ.nK (N:=["text"]) (T.F 12 rfl).F rg [false] rfl kG fun cdv A outer s H E hr=>⟨_,
 (ah (a9 (a6 ‹13› (pv 0) (gm rfl (T.G 15 rfl)) (aY _))
 (az (aW (cv aj)))
 aH)
 (az (aW (d9 rfl ‹69› (ts:=["part"]) (zs:=[]) (k:=1) (is:=[]) rfl .nil .nil rfl rfl rfl (bO ‹6›) ‹96› (fun _ _ _ _ _=>(gD (tQ T) (T.F 13 rfl) hr ‹44›)) rfl rfl ‹0›)))),
 (aw (bh ‹12›
 (bz (bC.l (cN (n:=0) aC ‹6›)))
 aK)
 (bz (bC.l (cK (m:=true) (k:=1) (cs:=[]) (gV.c (fm (bC.l (fE (ae 0) (ai.b au))))) (bq 0) cz (aR (aG (ae 0) aC))))))⟩
theorem zF (T:Txt w K mg ad):bQ P w K mg base gW 1 (ad.f 15) (ad.d 15) ["row"] (jv .v K [false] ji):=by
 rw [nh];exact eQ.nK (N:=["row"]) (T.F 15 rfl).F zb [false] rfl kF fun cdv A outer s H E hr=>⟨_,
 (ah (a9 (b9 (a8 (K:=K) rfl (pv 0) (fun _=>rfl)))
 (az (aW (gm rfl (T.G 14 rfl))))
 aH)
 (az (aW (qM (K:=K) rfl (dJ Rj R8 R9 (fU (K:=K) rfl) av (aa (d9 rfl (cn (K:=K) rfl (pv 0)) (ts:=["number"]) (zs:=[]) (k:=1) (is:=[]) rfl .nil .nil rfl rfl rfl (bO ‹6›) ‹96› (fun _ _ _ _ _=>(lE mQ rfl (T.G 8 rfl) C7 ‹44›)) rfl rfl ‹0›) aj)))))),
 (aw (bh (cc (cb (K:=K) (ae 0)))
 (bz au)
 aK)
 (bz (fS (ai.b au) (ai.b (bC.l (cK (m:=false) (k:=1) (cs:=[]) (lr (ae 0)) (bq 0) cz (y9 (ae 0))))))))⟩
theorem xn (T:Txt w K mg ad):bQ P w K mg base gW 2 (ad.f 14) (ad.d 14) ["rows"] (jv .v K [false] iq):=by
 rw [lS];exact eQ.nK (N:=["rows"]) (T.F 14 rfl).F wY [false] rfl jD fun cdv A outer s H E hr=>⟨_,
 (ah (a9 (b9 (a8 (K:=K) rfl (pv 0) (fun _=>rfl)))
 (az (aW (gm rfl (T.G 15 rfl))))
 aH)
 (az (aW (qM (K:=K) rfl (dJ Rj R8 R9 (fU (K:=K) rfl) av (aa (d9 rfl (cn (K:=K) rfl (pv 0)) (ts:=["row"]) (zs:=[]) (k:=1) (is:=[]) rfl .nil .nil rfl rfl rfl (bO ‹6›) ‹96› (fun _ _ _ _ _=>(gD (zF T) (T.F 15 rfl) hr ‹44›)) rfl rfl ‹0›) aj)))))),
 (aw (bh (cc (cb (K:=K) (ae 0)))
 (bz au)
 aK)
 (bz (fS (ai.b au) (ai.b (bC.l (cK (m:=false) (k:=1) (cs:=[]) (lr (ae 0)) (bq 0) cz (aR (aG (ae 0) aC))))))))⟩
theorem nI (T:Txt w K mg ad):bQ P w K mg base (nQ P w) 5 (ad.f 16) (ad.d 16) ["text"] (wK K [false] 61 bX):=by
 rw [dy];exact eQ.D1 (N:=["text", "parts", "word", "rows"]) (T.F 16 rfl).F bG [false] rfl cJ fun cdv A outer s H E hr=>⟨_,
 (ah ‹73›
 (ah (pA 2 bG.nd ‹55›)
 (ah (a9 ‹54›
 (az (eL (E:=E) (C:=61) (fun _ _ h=>h) ⟨rfl,rfl,rfl⟩ rfl RP rfl (T.G 25 rfl) (T.hq 2 rfl) (aa (vF (pv 2)) aj)))
 aH)
 (ah (rG (pA 3 bG.nd (cM (i0 T) ‹2› rfl (T.F 12 rfl).m (T.F 12 rfl).F.kp (T.F 12 rfl).b .nil ‹15› (aa ‹55› aj))) ‹114›)
 (ah (a9 ‹1›
 aV
 aH)
 (az cG)))))),
 (aw (a7 (uz (ae 0) (ai.b au)))
 (aw (a7 (ja (aZ 1) aD))
 (aw (bh ‹24›
 (lu (ae 2))
 aK)
 (aw (GA (yX (aG (bF (ae 1) aD) aC)) (a7 (aR (aG (bF (ae 1) aD) aC))))
 (aw (bh ‹19›
 aO
 aK)
 aO)))))⟩
theorem mB (T:Txt w K mg ad):bQ P w K mg base (nQ P w) 5 (ad.f 16) (ad.d 16) ["text"] (wK K [false] 85 cH):=by
 rw [gy];exact eQ.D1 (N:=["text", "parts", "word", "rows"]) (T.F 16 rfl).F bG [false] rfl dU fun cdv A outer s H E hr=>⟨_,
 (ah ‹73›
 (ah (pA 2 bG.nd ‹55›)
 (ah (a9 ‹54›
 aV
 aH)
 (ah ‹114›
 (ah (a9 ‹1›
 (az (eL (E:=E) (C:=85) (fun _ _ h=>h) ⟨rfl,rfl,rfl⟩ rfl RP rfl (T.G 26 rfl) (T.hq 3 rfl) (aa (vE (pv 2)) aj)))
 aH)
 (az cG)))))),
 (aw (a7 (uz (ae 0) (ai.b au)))
 (aw (a7 (ja (aZ 1) aD))
 (aw (bh ‹24›
 aO
 aK)
 (aw (a7 (aR (aG (bF (ae 1) aD) aC)))
 (aw (bh ‹19›
 (sG (ae 2))
 aK)
 aO)))))⟩
theorem nJ (T:Txt w K mg ad):bQ P w K mg base (nQ P w) 5 (ad.f 16) (ad.d 16) ["text"] (wK K [false] 73 cw):=by
 rw [eP];exact eQ.D1 (N:=["text", "parts", "word", "rows"]) (T.F 16 rfl).F bG [false] rfl dv fun cdv A outer s H E hr=>⟨_,
 (ah ‹73›
 (ah (pA 2 bG.nd ‹55›)
 (ah (a9 ‹54›
 aV
 aH)
 (ah ‹114›
 (ah (a9 (b9 (a8 (K:=K) rfl (n6 (tbl:=spT K [true] [(711,bM),(768,bW),(825,bK),(880,bA),(1000,bV),(1064,bL)]) (cM (Bb T) ‹2› rfl (T.F 8 rfl).m (T.F 8 rfl).F.kp (T.F 8 rfl).b .nil ‹15› (aa (pv 2) aj)) (.cons (T.eN 5 rfl).cl (T.M 1 rfl).t (gw T) ‹2› (T.M 1 rfl).b (.cons (T.eN 4 rfl).cl (T.M 3 rfl).t (hJ T) ‹2› (T.M 3 rfl).b (.cons (T.eN 3 rfl).cl (T.M 5 rfl).t (gp T) ‹2› (T.M 5 rfl).b (.cons (T.eN 2 rfl).cl (T.M 7 rfl).t (e8 T) ‹2› (T.M 7 rfl).b (.cons (T.eN 1 rfl).cl (T.M 9 rfl).t (hE T) ‹2› (T.M 9 rfl).b (.cons (T.eN 0 rfl).cl (T.M 11 rfl).t (gv T) ‹2› (T.M 11 rfl).b .nil)))))) (aa (pv 3) aj)) (fun _=>rfl))) aV aH) aV))))),
 (aw (a7 (uz (ae 0) (ai.b au)))
 (aw (a7 (ja (aZ 1) aD))
 (aw (bh ‹24›
 aO
 aK)
 (aw (a7 (aR (aG (bF (ae 1) aD) aC)))
 (aw (Jt (yM (aG (ae 2) aC))) aO)))))⟩
theorem xo (T:Txt w K mg ad):bQ P w K mg base gW 5 (ad.f 16) (ad.d 16) ["text"] (jv .v K [false] d6):=by
 rw [lT];exact eQ.nK (N:=["text", "parts", "word", "rows"]) (T.F 16 rfl).F bG [false] rfl jE fun cdv A outer s H E hr=>⟨_,
 (ah ‹73›
 (ah (pA 2 bG.nd ‹55›)
 (ah (a9 ‹54›
 (az cG)
 aH)
 (ah ‹114›
 (ah (a9 ‹1›
 (az cG)
 aH)
 (az (aW (kU (aa (pv 2) (aa (pv 3) aj)))))))))),
 (aw (a7 (uz (ae 0) (ai.b au)))
 (aw (a7 (ja (aZ 1) aD))
 (aw (bh ‹24›
 aO
 aK)
 (aw (a7 (aR (aG (bF (ae 1) aD) aC)))
 (aw (bh ‹19›
 aO
 aK)
 (bz (me (n:=2) (aF (aZ 2) (aF (aZ 3) aC)) ‹6›)))))))⟩
theorem sP (T:Txt w K mg ad):bQ P w K mg base gW 2 (ad.g 12) (ad.e 12) ["self"] (Ci ax) :=
 eQ.ok (N:=["self"]) (T.M 12 rfl).F sH (fun vs H Q E h=>by obtain ⟨x,dx,rfl,_⟩:=h; rfl) fun cdv A outer s H vs Q E hr h=>⟨_,az (Ms (pv 0) Hr rfl),Ia (T.eN 6 rfl).cl T.na_floors h⟩
theorem zH (T:Txt w K mg ad):bQ P w K mg base gW 2 (ad.g 15) (ad.e 15) ["self", "name"] (Cj ax) :=
 eQ.ok (N:=["self", "name"]) (T.M 15 rfl).F zi (fun vs H Q E h=>by obtain ⟨x,dx,p,kvs,n,v,rfl,_⟩:=h; rfl) fun cdv A outer s H vs Q E hr h=>⟨_,ah (zB (Ho (jl (pv 0) rfl) (pv 1) ⟨rfl,rfl,rfl,rfl⟩)) (az (aW (gm rfl (T.G 16 rfl)))),IB (T.eN 6 rfl).cl T.na_floors h⟩
theorem Ba (T:Txt w K mg ad):bQ P w K mg base gW 2 (ad.g 14) (ad.e 14) ["self", "name", "floor"] (GI ax) :=
 eQ.ok (N:=["self", "name", "floor"]) (T.M 14 rfl).F AE (fun vs H Q E h=>by obtain ⟨x,dx,p,kvs,n,v,rfl,_⟩:=h; rfl) fun cdv A outer s H vs Q E hr h=>⟨_,ah (JS (pV hr) (jl (pv 0) rfl) (pv 1) (pv 2) rfl) (az (aW (gm rfl (T.G 16 rfl)))),JR (T.eN 6 rfl).cl T.na_floors h⟩
theorem ue (T:Txt w K mg ad):bQ P w K mg base (nQ P w) 3 (ad.f 20) (ad.d 20) ["text"] (wK K [false] 61 ff):=by
 rw [kC];exact eQ.D1 (N:=["text", "moment"]) (T.F 20 rfl).F jV [false] rfl iy fun cdv A outer s H E hr=>⟨_,
 (ah (rG (pA 1 jV.nd (cM (m7 T) ‹2› rfl (T.F 11 rfl).m (T.F 11 rfl).F.kp (T.F 11 rfl).b .nil ‹15› ‹44›)) (pA 1 jV.nd (gD (jY T) (T.F 11 rfl) hr ‹44›)))
 (ah (a9 (a6 tP (pv 1) aB (aY _))
 (az (eL (E:=E) (C:=61) (fun _ _ h=>h) ⟨rfl,rfl,rfl⟩ rfl RP rfl (T.G 25 rfl) (T.hq 2 rfl) (aa (uE (dY.text ‹6› (dY.val (pv 1) dY.nil))) aj)))
 aH)
 aV)),
 (aw (GA (yX (aG (ae 0) aC)) (a7 (aR (aG (ae 0) aC))))
 (aw (bh (aS (ai.b (Lj (ae 1) aD)))
 (oW (sg.cons (ae 1) sg.nil))
 aK)
 aO))⟩
theorem CK (T:Txt w K mg ad):bQ P w K mg base (nQ P w) 5 (ad.f 19) (ad.d 19) ["asked", "floor", "text"] (wK K [false,true,false] 61 lP):=by
 rw [se];exact eQ.D1 (N:=["asked", "floor", "text", "kind", "rows"]) (T.F 19 rfl).F jO [false,true,false] rfl tF fun cdv A outer s H E hr=>⟨_,
 (ah (pA 3 jO.nd (gD (iQ T) (T.F 8 rfl) hr (aa ‹55› aj)))
 (ah (pA 4 jO.nd ‹55›)
 (ah (a9 ‹105›
 aV
 aH)
 (ah (a9 ‹105›
 aV
 aH)
 (ah (a9 ‹105›
 aV
 aH)
 (ah (a9 ‹105›
 aV
 aH)
 (ah (a9 ‹105›
 (az (aW (rK rfl (T.F 22 rfl).m (T.F 22 rfl).F.kp (aa (je (pv 3) (aa (pv 4) (aa (cM (i0 T) ‹2› rfl (T.F 12 rfl).m (T.F 12 rfl).F.kp (T.F 12 rfl).b .nil ‹15› (aa (pv 2) aj)) aj))) aj))))
 aH)
 (ah (a9 ‹105›
 (az (aW (rK rfl (T.F 22 rfl).m (T.F 22 rfl).F.kp (aa (je (pv 3) (aa (pv 4) (aa (cM (i0 T) ‹2› rfl (T.F 12 rfl).m (T.F 12 rfl).F.kp (T.F 12 rfl).b .nil ‹15› (aa (pv 2) aj)) (aa Hk aj)))) aj))))
 aH)
 (az (aW (rK rfl (T.F 21 rfl).m (T.F 21 rfl).F.kp (aa (je (pv 3) (aa (pv 4) (aa (cM (ue T) ‹2› rfl (T.F 20 rfl).m (T.F 20 rfl).F.kp (T.F 20 rfl).b .nil ‹15› (aa (pv 2) aj)) aj))) aj)))))))))))),
 (aw (a7 (aR (aG (bF (ae 1) aD) aC)))
 (aw (a7 (ja (aZ 1) aD))
 (aw (bh ‹12›
 aO
 aK)
 (aw (bh ‹12›
 aO
 aK)
 (aw (bh ‹12›
 aO
 aK)
 (aw (bh ‹12›
 aO
 aK)
 (aw (bh ‹12›
 (i9 (qV (gz (vd (nP.add (T.eN 3 rfl).cl (T.NT 1 rfl) (nP.add (T.eN 1 rfl).cl (T.NT 0 rfl) nP.nil)) (ae 3) (ju (ae 4) (gz (yM (aG (ae 2) aC))))))))
 aK)
 (aw (bh ‹12›
 (i9 (qV (gz (vd (nP.add (T.eN 3 rfl).cl (T.NT 3 rfl) (nP.add (T.eN 1 rfl).cl (T.NT 2 rfl) nP.nil)) (ae 3) (ju (ae 4) (gz (yM (aG (ae 2) aC))))))))
 aK)
 (i9 (qV (gz (vd (nP.add (T.eN 3 rfl).cl (T.NT 5 rfl) (nP.add (T.eN 1 rfl).cl (T.NT 4 rfl) nP.nil)) (ae 3) (ju (ae 4) (gz (yM (aG (ae 2) aC))))))))))))))))⟩
theorem Fc (T:Txt w K mg ad):bQ P w K mg base gW 5 (ad.f 19) (ad.d 19) ["asked", "floor", "text"] (jv .v K [false,true,false] oQ):=by
 rw [sk];exact eQ.nK (N:=["asked", "floor", "text", "kind", "rows"]) (T.F 19 rfl).F jO [false,true,false] rfl wJ fun cdv A outer s H E hr=>⟨_,
 (ah (pA 3 jO.nd (gD (iQ T) (T.F 8 rfl) hr (aa ‹55› aj)))
 (ah (pA 4 jO.nd ‹55›)
 (ah (a9 ‹105›
 (az (aW (qM (K:=K) rfl (dJ Rj R8 R9 (fU (K:=K) rfl) av (aa (cv (aa ‹55› (aa (gD (xn T) (T.F 14 rfl) hr (aa (pv 4) aj)) aj))) aj)))))
 aH)
 (ah (a9 ‹105›
 aV
 aH)
 (ah (a9 ‹105›
 aV
 aH)
 (ah (a9 ‹105›
 aV
 aH)
 (ah (a9 ‹105›
 aV
 aH)
 (ah (a9 ‹105›
 aV
 aH)
 aV)))))))),
 (aw (a7 (aR (aG (bF (ae 1) aD) aC)))
 (aw (a7 (ja (aZ 1) aD))
 (aw (bh ‹12›
 (bz (fS (ai.b au) (ai.b (bC.l (cN (n:=2) (aF (ja (aZ 1) aD) (aF (aR (aG (ae 4) aC)) aC)) ‹6›)))))
 aK)
 (aw (bh ‹12›
 aO
 aK)
 (aw (bh ‹12›
 aO
 aK)
 (aw (bh ‹12›
 aO
 aK)
 (aw (bh ‹12›
 aO
 aK)
 (aw (bh ‹12›
 aO
 aK)
 aO))))))))⟩
theorem iR (T:Txt w K mg ad):bQ P w K mg base gW 1 (ad.f 17) (ad.d 17) ["words"] (jv .v K [false] eR):=by
 rw [si];exact eQ.nK (N:=["words", "first"]) (T.F 17 rfl).F xP [false] rfl su fun cdv A outer s H E hr=>⟨_,
 (ah (pA 1 xP.nd (pX K (pv 0) aB))
 (ah (a9 (sM (MH T.dQ (pv 1) (gB (v:=.ref 1126) rfl (T.G 32 rfl) rfl)))
 (az (aW (df g8 (JV T.dQ (gB (v:=.ref 1126) rfl (T.G 32 rfl) rfl) (pv 1) (fun _ _=>rfl)) ‹9› (aY _))))
 aH)
 (az (aW (df MK (Hm T.mD (gB (v:=.ref 1125) rfl (T.G 33 rfl) rfl) (pv 1) ⟨rfl,rfl,rfl,rfl⟩) ‹9› (aY _)))))),
 (aw (a7 (bD.i (bF (ae 0) aD)))
 (aw (bh (aS (ai.b (Mh (ae 1))))
 (bz (Ax (ai.b (JD (ae 1))) ‹87›))
 aK)
 (bz (Mi (ae 1) ‹87›))))⟩
theorem xp (T:Txt w K mg ad):bQ P w K mg base (nQ P w) 4 (ad.f 18) (ad.d 18) ["floor", "later"] (wK K [true,true] 85 gQ):=by
 rw [m9];exact eQ.D1 (N:=["floor", "later", "word", "rows"]) (T.F 18 rfl).F mh [true,true] rfl jM fun cdv A outer s H E hr=>⟨_,
 (ah (pA 2 mh.nd (pX K (pv 0) aB))
 (ah (pA 3 mh.nd (aE dh (pX K (pv 0) aB) (pv 1)))
 (ah (a9 ‹1›
 (az (eL (E:=E) (C:=85) (fun _ _ h=>h) ⟨rfl,rfl,rfl⟩ rfl RP rfl (T.G 26 rfl) (T.hq 3 rfl) (aa (vE (pv 2)) aj)))
 aH)
 aV))),
 (aw (a7 (ja (aZ 0) aD))
 (aw (a7 (bC.l (eK (ja (aZ 0) aD) (aZ 1))))
 (aw (bh ‹19›
 (sG (ae 2))
 aK)
 aO)))⟩
theorem qt (T:Txt w K mg ad):bQ P w K mg base (nQ P w) 6 (ad.g 13) (ad.e 13) ["self", "row"] (Cg K ax [true] 97 bI):=by
 rw [fN];exact eQ.Hz (C0:=ax) (N:=‹49›) ‹93›.F bt [true] rfl ‹6› iz fun cdv A outer s H E hr=>⟨_,
 (ah ‹30›
 (ah (a9 ‹97›
 (az (eL (E:=E) (C:=97) (fun _ _ h=>h) ⟨rfl,rfl,rfl⟩ rfl RP rfl (T.G 28 rfl) (T.hq 4 rfl) (aa (xW (pv 1)) aj)))
 aH)
 aV)),
 (aw ‹88›
 (aw (bh ‹24›
 (lu (ae 1))
 aK)
 aO))⟩
theorem pH (T:Txt w K mg ad):bQ P w K mg base (nQ P w) 6 (ad.g 13) (ad.e 13) ["self", "row"] (Cg K ax [true] 109 bB):=by
 rw [da];exact eQ.Hz (C0:=ax) (N:=‹49›) ‹93›.F bt [true] rfl ‹6› gK fun cdv A outer s H E hr=>⟨_,
 (ah ‹30›
 (ah (a9 ‹97›
 aV
 aH)
 (ah (a9 ‹5›
 aV
 aH)
 (ah (pA 3 bt.nd (pX K (pv 2) aB))
 (ah (a9 ‹28›
 (az (eL (E:=E) (C:=109) (fun _ _ h=>h) ⟨rfl,rfl,rfl⟩ rfl RP rfl (T.G 29 rfl) (T.hq 5 rfl) (aa (vF (pv 3)) aj)))
 aH)
 (ah ‹16›
 (ah (a9 ‹5›
 aV
 aH)
 (ah (a9 (sM (lF (pV hr) (pv 3) (jl (pv 0) rfl)))
 (az (eL (E:=E) (C:=109) (fun _ _ h=>h) ⟨rfl,rfl,rfl⟩ rfl RP rfl (T.G 29 rfl) (T.hq 5 rfl) (aa (vE (pv 3)) aj)))
 aH)
 aV)))))))),
 (aw ‹88›
 (aw (bh ‹24›
 aO
 aK)
 (aw (bh ‹4›
 aO
 aK)
 (aw (a7 (ja (aZ 2) aD))
 (aw (bh ‹68›
 (lu (ae 3))
 aK)
 (aw ‹45›
 (aw (bh ‹4›
 aO
 aK)
 (aw (bh ‹56›
 (sG (ae 3))
 aK)
 aO))))))))⟩
theorem pF (T:Txt w K mg ad):bQ P w K mg base (nQ P w) 6 (ad.g 13) (ad.e 13) ["self", "row"] (Cg K ax [true] 61 bJ):=by
 rw [c9];exact eQ.Hz (C0:=ax) (N:=‹49›) ‹93›.F bt [true] rfl ‹6› gJ fun cdv A outer s H E hr=>⟨_,
 (ah ‹30›
 (ah (a9 ‹97›
 aV
 aH)
 (ah (a9 ‹5›
 aV
 aH)
 (ah (pA 3 bt.nd (pX K (pv 2) aB))
 (ah (a9 ‹28›
 aV
 aH)
 (ah ‹16›
 (ah (a9 ‹5›
 (az (aW (je (pv 0) (aa (pv 3) (aa (cM (nI T) ‹2› rfl (T.F 16 rfl).m (T.F 16 rfl).F.kp (T.F 16 rfl).b .nil ‹15› (aa (pv 4) aj)) aj)))))
 aH)
 (ah (a9 (sM (lF (pV hr) (pv 3) (jl (pv 0) rfl)))
 aV
 aH)
 (ah (a9 ‹5›
 aV
 aH)
 (ah (a9 ‹5›
 (az (aW (je (pv 0) (aa (pv 3) (aa (rK rfl (T.F 18 rfl).m (T.F 18 rfl).F.kp (aa (uF (pV hr) (jl (pv 0) rfl) (pv 3) (fun _ _=>rfl)) (aa (cM (i0 T) ‹2› rfl (T.F 12 rfl).m (T.F 12 rfl).F.kp (T.F 12 rfl).b .nil ‹15› (aa (pv 4) aj)) aj))) aj)))))
 aH)
 (az (aW (cM (CK T) ‹2› rfl (T.F 19 rfl).m (T.F 19 rfl).F.kp (T.F 19 rfl).b .nil ‹15› (aa (pX K (pv 2) aB) (aa (uF (pV hr) (jl (pv 0) rfl) (pv 3) (fun _ _=>rfl)) (aa (pv 4) aj)))))))))))))))),
 (aw ‹88›
 (aw (bh ‹24›
 aO
 aK)
 (aw (bh ‹4›
 aO
 aK)
 (aw (a7 (ja (aZ 2) aD))
 (aw (bh ‹68›
 aO
 aK)
 (aw ‹45›
 (aw (bh ‹4›
 ‹77›
 aK)
 (aw (bh ‹56›
 aO
 aK)
 (aw (bh ‹4›
 aO
 aK)
 (aw (bh ‹4›
 (i9 (nT (T.eN 6 rfl).cl (T.M 14 rfl).t rfl (ae 0) (ju (ae 3) (gz (qV (ju (ai.b (uA (T.eN 6 rfl).cl T.na_floors (ae 3))) (gz (yM (aG (ae 4) aC)))))))))
 aK)
 (Js (aG (bF (ae 2) aD) (aF (uA (T.eN 6 rfl).cl T.na_floors (ae 3)) (aG (ae 4) aC))))))))))))))⟩
theorem pI (T:Txt w K mg ad):bQ P w K mg base (nQ P w) 6 (ad.g 13) (ad.e 13) ["self", "row"] (Cg K ax [true] 73 bZ):=by
 rw [fj];exact eQ.Hz (C0:=ax) (N:=‹49›) ‹93›.F bt [true] rfl ‹6› gL fun cdv A outer s H E hr=>⟨_,
 (ah ‹30›
 (ah (a9 ‹97›
 aV
 aH)
 (ah (a9 ‹5›
 aV
 aH)
 (ah (pA 3 bt.nd (pX K (pv 2) aB))
 (ah (a9 ‹28›
 aV
 aH)
 (ah ‹16›
 (ah (a9 ‹5›
 (az (aW (je (pv 0) (aa (pv 3) (aa (cM (nJ T) ‹2› rfl (T.F 16 rfl).m (T.F 16 rfl).F.kp (T.F 16 rfl).b .nil ‹15› (aa (pv 4) aj)) aj)))))
 aH)
 aV))))))),
 (aw ‹88›
 (aw (bh ‹24›
 aO
 aK)
 (aw (bh ‹4›
 aO
 aK)
 (aw (a7 (ja (aZ 2) aD))
 (aw (bh ‹68›
 aO
 aK)
 (aw ‹45›
 (aw (bh ‹4›
 ‹77›
 aK)
 aO)))))))⟩
theorem n9 (T:Txt w K mg ad):bQ P w K mg base (nQ P w) 6 (ad.g 13) (ad.e 13) ["self", "row"] (Cg K ax [true] 85 cD):=by
 rw [eV];exact eQ.Hz (C0:=ax) (N:=‹49›) ‹93›.F bt [true] rfl ‹6› gc fun cdv A outer s H E hr=>⟨_,
 (ah ‹30›
 (ah (a9 ‹97›
 aV
 aH)
 (ah (a9 ‹5›
 aV
 aH)
 (ah (pA 3 bt.nd (pX K (pv 2) aB))
 (ah (a9 ‹28›
 aV
 aH)
 (ah ‹16›
 (ah (a9 ‹5›
 (az (aW (je (pv 0) (aa (pv 3) (aa (cM (mB T) ‹2› rfl (T.F 16 rfl).m (T.F 16 rfl).F.kp (T.F 16 rfl).b .nil ‹15› (aa (pv 4) aj)) aj)))))
 aH)
 (ah (a9 (sM (lF (pV hr) (pv 3) (jl (pv 0) rfl)))
 aV
 aH)
 (ah (a9 ‹5›
 aV
 aH)
 (ah (a9 ‹5›
 (az (aW (je (pv 0) (aa (pv 3) (aa (cM (xp T) ‹2› rfl (T.F 18 rfl).m (T.F 18 rfl).F.kp (T.F 18 rfl).b .nil ‹15› (aa (uF (pV hr) (jl (pv 0) rfl) (pv 3) (fun _ _=>rfl)) (aa (gD (g9 T) (T.F 12 rfl) hr (aa (pv 4) aj)) aj))) aj)))))
 aH)
 aV)))))))))),
 (aw ‹88›
 (aw (bh ‹24›
 aO
 aK)
 (aw (bh ‹4›
 aO
 aK)
 (aw (a7 (ja (aZ 2) aD))
 (aw (bh ‹68›
 aO
 aK)
 (aw ‹45›
 (aw (bh ‹4›
 ‹77›
 aK)
 (aw (bh ‹56›
 aO
 aK)
 (aw (bh ‹4›
 aO
 aK)
 (aw (bh ‹4›
 (i9 (nT (T.eN 6 rfl).cl (T.M 14 rfl).t rfl (ae 0) (ju (ae 3) (gz (yM (aF (uA (T.eN 6 rfl).cl T.na_floors (ae 3)) (aF (aR (aG (ae 4) aC)) aC)))))))
 aK)
 aO))))))))))⟩
theorem jy (T:Txt w K mg ad):bQ P w K mg base gW 6 (ad.g 13) (ad.e 13) ["self", "row"] (PN K ax [false,true] cI):=by
 rw [jq];exact eQ.QQ (N:=‹49›) ‹93›.F bt [false,true] rfl (MU (ip:=0) rfl) ‹6› oS fun cdv A outer s H E hr=>⟨_,
 (ah ‹30›
 (ah (a9 ‹97› aV aH)
 (ah (a9 ‹5› aV aH)
 (ah (pA 3 bt.nd (pX K (pv 2) aB))
 (ah (a9 ‹28› aV aH)
 (ah ‹16›
 (ah (a9 ‹5›
 (az (aW (eY (C:=ax) (T.eN 6 rfl).cl (T.M 14 rfl).t (Ba T) ‹2› (T.M 14 rfl).b eZ (pv 0) (aa (pv 3) (aa (gD (xo T) (T.F 16 rfl) hr (aa (pv 4) aj)) aj))))) aH)
 (ah (a9 (sM (lF (pV hr) (pv 3) (jl (pv 0) rfl))) aV aH)
 (ah (a9 ‹5›
 (az (aW (eY (C:=ax) (T.eN 6 rfl).cl (T.M 15 rfl).t (zH T) ‹2› (T.M 15 rfl).b eZ (pv 0) (aa (pv 3) aj)))) aH)
 (ah (a9 ‹5›
 aV aH)
 aV)))))))))),
  (qi ‹88›
  (qi (bh ‹24› aO aK)
  (qi (bh ‹4› aO aK)
  (qi (a7 (ja (aZ 2) aD))
  (qi (bh ‹68› aO aK)
  (qi ‹45›
  (GJ ‹4›
   (Me (aZ 3) (aR (aG (ae 4) aC)))
  (qi (bh ‹56› aO aK)
  (GJ ‹4›
   (JB (aZ 3))
  (GJ ‹4›
   Aw
  Aw))))))))))⟩
theorem gP (T:Txt w K mg ad):bQ P w K mg base gW 6 (ad.g 13) (ad.e 13) ["self", "row"] (EK K ax [true] cU):=by
 rw [kn];exact eQ.OA (C0:=ax) (N:=‹49›) ‹93›.F bt [true] rfl ‹6› qL fun cdv A outer s H E hr=>⟨_,
 (ah ‹30›
 (ah (a9 ‹97›
 (az cG)
 aH)
 (ah (a9 ‹5›
 (az (aW (qM (K:=K) rfl (dJ Rj R8 R9 (fU (K:=K) rfl) av (aa (bb (BI rfl) rfl (T.G 7 rfl) tD (aa (jl (pv 0) rfl) aj)) aj)))))
 aH)
 (ah (pA 3 bt.nd (pX K (pv 2) aB))
 (ah (a9 ‹28›
 (az cG)
 aH)
 (ah ‹16›
 (ah (a9 ‹5›
 aV
 aH)
 (ah (a9 (sM (lF (pV hr) (pv 3) (jl (pv 0) rfl)))
 (az cG)
 aH)
 (ah (a9 ‹5›
 aV
 aH)
 (ah (a9 ‹5›
 aV
 aH)
 (az (aW (gD (Fc T) (T.F 19 rfl) hr (aa (pX K (pv 2) aB) (aa (uF (pV hr) (jl (pv 0) rfl) (pv 3) (fun _ _=>rfl)) (aa (pv 4) aj)))))))))))))))),
 (aw ‹88›
 (aw (bh ‹24›
 aO
 aK)
 (aw (bh ‹4›
 (bz (fS (ai.b au) (ai.b (bC.l (JG (T.eN 6 rfl).cl T.na_floors (ae 0))))))
 aK)
 (aw (a7 (ja (aZ 2) aD))
 (aw (bh ‹68›
 aO
 aK)
 (aw ‹45›
 (aw (bh ‹4›
 aO
 aK)
 (aw (bh ‹56›
 aO
 aK)
 (aw (bh ‹4›
 aO
 aK)
 (aw (bh ‹4›
 aO
 aK)
 (bz (aR (aG (bF (ae 2) aD) (aF (uA (T.eN 6 rfl).cl T.na_floors (ae 3)) (aG (ae 4) aC)))))))))))))))⟩
theorem jZ (T:Txt w K mg ad):bQ P w K mg base gW 1 (ad.f 23) (ad.d 23) ["_law_number", "_law_k"] (jv .v K [false,false] fu):=by
 rw [t4];exact eQ.nK (N:=["_law_number", "_law_k"]) (T.F 23 rfl).F GU [false,false] rfl uU fun cdv A outer s H E hr=>⟨_,
 (az (aW (aE mz (aE mw (aE n8 (aE n8 (aE mw (pv 0) (pv 0)) (aE mw (pv 1) (pv 0))) (aE mw (aE mw aB (pv 1)) (pv 1))) aB) aB))),
 (bz (mf (ai.b (qj (ai.b (nV (ai.b (nV (ai.b (qj (ae 0) (ae 0))) (ai.b (qj (ae 1) (ae 0))))) (ai.b (qj (ai.b (qj aD (ae 1))) (ae 1))))) aD)) aD))⟩
theorem rN (T:Txt w K mg ad):bQ P w K mg base gW 1 (ad.f 24) (ad.d 24) ["_law_script", "_law_k"] (jv .v K [false,false] gR):=by
 rw [nr];exact eQ.nK (N:=["_law_script", "_law_k"]) (T.F 24 rfl).F zd [false,false] rfl kJ fun cdv A outer s H E hr=>⟨_,
 (ah (a9 (a6 tP (pv 1) ‹9› (aY _))
 (az (aW (pX K (pv 0) (pv 1))))
 aH)
 (az (aW aB))),
 (aw (bh (aS (ai.b (Lj (ae 1) ‹87›)))
 (bz (bD.i (bF (ae 0) (ae 1))))
 aK)
 (bz gY))⟩
theorem CI (T:Txt w K mg ad):bQ P w K mg base gW 2 (ad.f 25) (ad.d 25) ["_law_cell"] (jv .v K [false] lV):=by
 rw [pW];exact eQ.nK (N:=["_law_cell", "_law_letters", "_law_size", "_law_at", "_law_names_here", "_law_k", "_law_name", "_law_j"]) (T.F 25 rfl).F eT [false] rfl pj fun cdv A outer s H E hr=>⟨_,
 (ah (pA 1 eT.nd av)
 (ah (pA 2 eT.nd (aE n8 aB (aE mz (gD (jZ T) (T.F 23 rfl) hr (aa (pv 0) (aa aB aj))) aB)))
 (ah (pA 3 eT.nd (aE mz (gD (jZ T) (T.F 23 rfl) hr (aa (pv 0) (aa aB aj))) (pv 2)))
 (ah (pA 4 eT.nd (cv aj))
 (ah (iO Ts rfl (cX rfl (T.G 6 rfl) (aa aB aj)) (pG 5 eT.nd)
 (ah (pA 6 eT.nd av)
 (ah (iO Ts rfl (cX rfl (T.G 6 rfl) (aa (pv 2) aj)) (pG 7 eT.nd)
 (az (pA 6 eT.nd (aE ao (pv 6) (pX K (pv 1) (aE mz (aE n8 (gD (jZ T) (T.F 23 rfl) hr (aa (aE n8 (pv 0) (aE mw (pv 7) (pv 7))) (aa aB aj))) (aE mw (pv 5) (lE FQ rfl (T.G 3 rfl) IL (aa (df ‹13› (pv 7) (pv 3) (aY _)) aj)))) aB))))))
 (az (zB (dJ W4 WG WH o7 (pv 4) (aa (pv 6) aj)))))))
 (az (aW (pv 4)))))))),
 (aw (a7 au)
 (aw (a7 (nV aD (ai.b (mf (ai.b (aR (aG (ae 0) (aG aD aC)))) aD))))
 (aw (a7 (mf (ai.b (aR (aG (ae 0) (aG aD aC)))) (ae 2)))
 (aw (oV (cN (n:=0) aC ‹6›))
 (aw (iM (m:=true) (cW aD) (bq 5)
 (aw (a7 au)
 (aw (iM (m:=true) (cW (ae 2)) (bq 7)
 (a7 (ay (ae 6) (bF (ae 1) (ai.b (mf (ai.b (nV (ai.b (aR (aG (ai.b (nV (ae 0) (ai.b (qj (ae 7) (ae 7))))) (aG aD aC)))) (ai.b (qj (ae 5) (ai.b (JF (ai.b (bR (neg:=false) (ae 7) (ae 3))))))))) aD))))))
 (GC (aZ 6)))))
 (Ce 4 (bz (aZ 4))))))))⟩
theorem zG (T:Txt w K mg ad):bQ P w K mg base gW 2 (ad.f 26) (ad.d 26) ["_law_name", "_law_cell"] (jv .v K [false,false] fQ):=by
 rw [nq];exact eQ.nK (N:=["_law_name", "_law_cell"]) (T.F 26 rfl).F zc [false,false] rfl kI fun cdv A outer s H E hr=>⟨_,
 (az (aW (pX K (cv (aa av (aa (aE ao (pv 0) av) (aa (aE ao (dP y7 (pv 0) (eJ aB) fq) av) (aa (aE ao (dP Jz (pv 0) fq (eJ (A4 u5 aB))) av) (aa (aE ao (dP y7 (pv 0) (eJ aB) fq) av) aj)))))) (aE mz (gD (jZ T) (T.F 23 rfl) hr (aa (pv 1) (aa aB aj))) aB)))),
 (bz (ja (bC.l (cN (n:=5) (aF au (aF (ay (ae 0) (ai.b au)) (aF (ay (ai.b (y8 (ae 0) (eI aD) fo)) (ai.b au)) (aF (ay (ai.b (Mf (ae 0) fo (eI (ai.b (vn aD))))) (ai.b au)) (aF (ay (ai.b (y8 (ae 0) (eI aD) fo)) (ai.b au)) aC))))) ‹6›)) (ai.b (mf (ai.b (aR (aG (ae 1) (aG aD aC)))) aD))))⟩
theorem qo (T:Txt w K mg ad):bQ P w K mg base gW 1 (ad.f 27) (ad.d 27) ["_law_g", "_law_u"] (jv .v K [false,false] dz):=by
 rw [iI];exact eQ.nK (N:=["_law_g", "_law_u", "_law_rows"]) (T.F 27 rfl).F dO [false,false] rfl fv fun cdv A outer s H E hr=>⟨_,
 (ah (pA 2 dO.nd (cv (aa av (aa av (aa av (aa av (aa av (aa av (aa (aE ao av (pv 1)) (aa (aE ao av (pv 0)) (aa av aj)))))))))))
 (ah (pA 2 dO.nd (aE dh (pv 2) (cv (aa (aE ao ‹21› (pv 0)) (aa av (aa ‹21› (aa av (aa ‹21› aj))))))))
 (ah (pA 2 dO.nd (aE dh (pv 2) (cv (aa (aE ao ‹21› (pv 0)) (aa av (aa ‹21› aj))))))
 (ah (pA 2 dO.nd (aE dh (pv 2) (cv (aa (aE ao av (pv 0)) (aa (aE ao av (pv 0)) (aa (aE ao av (pv 0)) (aa ‹21› (aa (aE ao av (pv 0)) (aa (aE ao (aE ao (pv 1) av) (pv 0)) aj)))))))))
 ‹117›)))),
 (aw (a7 (bC.l (cN (n:=9) (aF au (aF au (aF au (aF au (aF au (aF au (aF (ay (ai.b au) (ae 1)) (aF (ay (ai.b au) (ae 0)) (aF au aC))))))))) ‹6›)))
 (aw (a7 (bC.l (eK (aZ 2) (bC.l (cN (n:=5) (aF (ay (ai.b ‹8›) (ae 0)) (aF au (aF ‹8› (aF au (aF ‹8› aC))))) ‹6›)))))
 (aw (a7 (bC.l (eK (aZ 2) (bC.l (cN (n:=3) (aF (ay (ai.b ‹8›) (ae 0)) (aF au (aF ‹8› aC))) ‹6›)))))
 (aw (a7 (bC.l (eK (aZ 2) (bC.l (cN (n:=6) (aF (ay (ai.b au) (ae 0)) (aF (ay (ai.b au) (ae 0)) (aF (ay (ai.b au) (ae 0)) (aF ‹8› (aF (ay (ai.b au) (ae 0)) (aF (ay (ai.b (ay (ae 1) (ai.b au))) (ae 0)) aC)))))) ‹6›)))))
 (bz (bC.l (cK (m:=true) (k:=1) (cs:=[]) (gV.c (fm (aZ 2))) (bq 0) cz (me (n:=2) (aF (aZ 0) (aF gY aC)) ‹6›))))))))⟩
theorem qr (T:Txt w K mg ad):bQ P w K mg base gW 1 (ad.f 28) (ad.d 28) ["_law_u", "_law_m"] (jv .v K [false,false] dB):=by
 rw [iK];exact eQ.nK (N:=["_law_u", "_law_m", "_law_rows"]) (T.F 28 rfl).F eS [false,false] rfl fz fun cdv A outer s H E hr=>⟨_,
 (ah (pA 2 eS.nd (cv (aa (aE ao av (pv 0)) (aa (aE ao av (pv 1)) (aa (aE ao av (pv 1)) (aa (aE ao av (pv 0)) (aa (aE ao av (pv 0)) (aa (aE ao av (pv 1)) (aa (aE ao av (pv 0)) aj)))))))))
 (ah (zB (dJ W4 WG WH o7 (pv 2) (aa ‹21› aj)))
 (ah (pA 2 eS.nd (aE dh (pv 2) (cv (aa ‹65› (aa ‹21› (aa ‹21› (aa ‹65› (aa ‹65› aj))))))))
 (ah (pA 2 eS.nd (aE dh (pv 2) (cv (aa ‹65› (aa ‹21› (aa ‹65› aj))))))
 ‹117›)))),
 (aw (oV (cN (n:=7) (aF (ay (ai.b au) (ae 0)) (aF (ay (ai.b au) (ae 1)) (aF (ay (ai.b au) (ae 1)) (aF (ay (ai.b au) (ae 0)) (aF (ay (ai.b au) (ae 0)) (aF (ay (ai.b au) (ae 1)) (aF (ay (ai.b au) (ae 0)) aC))))))) ‹6›))
 (aw (GC ‹8›)
 (aw (Ce 2 (oV (eK (aZ 2) (bC.l (cN (n:=5) (aF ‹33› (aF ‹8› (aF ‹8› (aF ‹33› (aF ‹33› aC))))) ‹6›)))))
 (aw (Ce 2 (oV (eK (aZ 2) (bC.l (cN (n:=3) (aF ‹33› (aF ‹8› (aF ‹33› aC))) ‹6›)))))
 (bz (bC.l (cK (m:=false) (k:=1) (cs:=[]) (lr (ae 2)) (bq 0) cz (me (n:=2) (aF (bD.i (ae 0)) (aF gY aC)) ‹6›))))))))⟩
theorem qp (T:Txt w K mg ad):bQ P w K mg base gW 1 (ad.f 29) (ad.d 29) ["_law_g", "_law_t", "_law_u"] (jv .v K [false,false,false] dA):=by
 rw [iJ];exact eQ.nK (N:=["_law_g", "_law_t", "_law_u", "_law_rows", "_law_found"]) (T.F 29 rfl).F bE [false,false,false] rfl fw fun cdv A outer s H E hr=>⟨_,
 (ah (pA 3 bE.nd (cv (aa ‹36› (aa ‹36› (aa ‹36› (aa ‹36› aj))))))
 (ah (pA 3 bE.nd (aE dh (pv 3) (cv (aa ‹36› (aa ‹36› (aa ‹36› aj))))))
 (ah (pA 3 bE.nd (aE dh (pv 3) (cv (aa ‹21› (aa ‹21› (aa ‹21› (aa ‹21› aj)))))))
 (ah (pA 3 bE.nd (aE dh (pv 3) (cv (aa ‹21› (aa ‹21› (aa ‹21› (aa ‹65› aj)))))))
 (ah (pA 3 bE.nd (aE dh (pv 3) (cv (aa ‹65› (aa ‹65› aj)))))
 (ah (zC (i:=4) bE.nd rfl rfl rfl (cn (K:=K) rfl (pv 3)) (ts:=["_law_row"]) (zs:=[]) (k:=1) (is:=[]) rfl .nil .nil rfl rfl rfl (bO ‹6›) ‹96› (fun _ _ _ _ _=>(kU (aa (pv 0) (aa aB aj)))) rfl rfl ‹0›)
 (ah (pA 4 bE.nd (aE dh (pv 4) (cv (aa (kU (aa ‹36› (aa aB aj))) (aa (kU (aa ‹36› (aa aB aj))) (aa (kU (aa ‹21› (aa aB aj))) aj))))))
 (ah (pA 3 bE.nd (cv (aa ‹36› (aa ‹21› (aa ‹36› aj)))))
 (ah (pA 3 bE.nd (aE dh (pv 3) (cv (aa ‹36› (aa ‹36› (aa ‹36› aj))))))
 (ah (pA 3 bE.nd (aE dh (pv 3) (cv (aa ‹21› (aa ‹65› aj)))))
 (ah (pA 3 bE.nd (aE dh (pv 3) (cv (aa ‹21› (aa ‹65› (aa ‹36› aj))))))
 (az (aW (aE dh (pv 4) (d9 rfl (cn (K:=K) rfl (pv 3)) (ts:=["_law_row"]) (zs:=[]) (k:=1) (is:=[]) rfl .nil .nil rfl rfl rfl (bO ‹6›) ‹96› (fun _ _ _ _ _=>(kU (aa (pv 0) (aa aB aj)))) rfl rfl ‹0›))))))))))))))),
 (aw (a7 (bC.l (cN (n:=4) (aF ‹14› (aF ‹14› (aF ‹14› (aF ‹14› aC)))) ‹6›)))
 (aw (a7 (bC.l (eK (aZ 3) (bC.l (cN (n:=3) (aF ‹14› (aF ‹14› (aF ‹14› aC))) ‹6›)))))
 (aw (a7 (bC.l (eK (aZ 3) (bC.l (cN (n:=4) (aF ‹8› (aF ‹8› (aF ‹8› (aF ‹8› aC)))) ‹6›)))))
 (aw (a7 (bC.l (eK (aZ 3) (bC.l (cN (n:=4) (aF ‹8› (aF ‹8› (aF ‹8› (aF ‹33› aC)))) ‹6›)))))
 (aw (a7 (bC.l (eK (aZ 3) (bC.l (cN (n:=2) (aF ‹33› (aF ‹33› aC)) ‹6›)))))
 (aw (DC (bC.l (cK (m:=true) (k:=1) (cs:=[]) (gV.c (fm (aZ 3))) (bq 0) cz (me (n:=2) (aF (aZ 0) (aF gY aC)) ‹6›))))
 (aw (a7 (bC.l (eK (aZ 4) (bC.l (cN (n:=3) (aF (me (n:=2) (aF ‹14› (aF gY aC)) ‹6›) (aF (me (n:=2) (aF ‹14› (aF gY aC)) ‹6›) (aF (me (n:=2) (aF ‹8› (aF gY aC)) ‹6›) aC))) ‹6›)))))
 (aw (a7 (bC.l (cN (n:=3) (aF ‹14› (aF ‹8› (aF ‹14› aC))) ‹6›)))
 (aw (a7 (bC.l (eK (aZ 3) (bC.l (cN (n:=3) (aF ‹14› (aF ‹14› (aF ‹14› aC))) ‹6›)))))
 (aw (a7 (bC.l (eK (aZ 3) (bC.l (cN (n:=2) (aF ‹8› (aF ‹33› aC)) ‹6›)))))
 (aw (a7 (bC.l (eK (aZ 3) (bC.l (cN (n:=3) (aF ‹8› (aF ‹33› (aF ‹14› aC))) ‹6›)))))
 (bz (bC.l (eK (aZ 4) (bC.l (cK (m:=true) (k:=1) (cs:=[]) (gV.c (fm (aZ 3))) (bq 0) cz (me (n:=2) (aF (aZ 0) (aF gY aC)) ‹6›)))))))))))))))))⟩
theorem rM (T:Txt w K mg ad):bQ P w K mg base gW 7 (ad.f 30) (ad.d 30) ["_law_desk", "_law_row"] (EK K ax [true] fP):=by
 rw [nk];exact eQ.OA (C0:=ax) (N:=["_law_desk", "_law_row", "_law_caught", "e", "_law_found"]) (T.F 30 rfl).F dZ [true] rfl ‹6› kH fun cdv A outer s H E hr=>⟨_,
 (ah (pA 2 dZ.nd ME)
 (ah (rG (rF (iv:=2) (ie:=3) ⟨rfl,rfl,rfl⟩ (T.eN 6 rfl).cl ‹93›.t (qt T) ‹2› ‹93›.b (fun _=>(pv 0)) (fun _=>(aa (pv 1) aj)) dZ.nd rfl rfl rfl rfl rfl (T.G 30 rfl))
 (rG (rF (iv:=2) (ie:=3) ⟨rfl,rfl,rfl⟩ (T.eN 6 rfl).cl ‹93›.t (pH T) ‹2› ‹93›.b (fun _=>(pv 0)) (fun _=>(aa (pv 1) aj)) dZ.nd rfl rfl rfl rfl rfl (T.G 30 rfl))
 (rG (rF (iv:=2) (ie:=3) ⟨rfl,rfl,rfl⟩ (T.eN 6 rfl).cl ‹93›.t (pF T) ‹2› ‹93›.b (fun _=>(pv 0)) (fun _=>(aa (pv 1) aj)) dZ.nd rfl rfl rfl rfl rfl (T.G 30 rfl))
 (rG (rF (iv:=2) (ie:=3) ⟨rfl,rfl,rfl⟩ (T.eN 6 rfl).cl ‹93›.t (pI T) ‹2› ‹93›.b (fun _=>(pv 0)) (fun _=>(aa (pv 1) aj)) dZ.nd rfl rfl rfl rfl rfl (T.G 30 rfl))
 (rF (iv:=2) (ie:=3) ⟨rfl,rfl,rfl⟩ (T.eN 6 rfl).cl ‹93›.t (n9 T) ‹2› ‹93›.b (fun _=>(pv 0)) (fun _=>(aa (pv 1) aj)) dZ.nd rfl rfl rfl rfl rfl (T.G 30 rfl))))))
 (ah (a9 (a8 (K:=K) rfl (bb (FN (K:=K) rfl) rfl (T.G 4 rfl) eh (aa (pv 2) (aa (kU (aa (gB (v:=.ref 37) rfl (T.G 31 rfl) rfl) (aa (gB (v:=.ref 49) rfl (T.G 17 rfl) rfl) aj))) aj))) (fun _=>rfl)) (az (aW (cv aj))) aH)
 (ah (pA 4 dZ.nd (cv (aa (bb (lM (K:=K) rfl) rfl (T.G 4 rfl) eh (aa (pv 2) (aa (gB (v:=.ref 97) rfl (T.G 28 rfl) rfl) aj))) (aa (bb (lM (K:=K) rfl) rfl (T.G 4 rfl) eh (aa (pv 2) (aa (gB (v:=.ref 109) rfl (T.G 29 rfl) rfl) aj))) (aa (bb (lM (K:=K) rfl) rfl (T.G 4 rfl) eh (aa (pv 2) (aa (gB (v:=.ref 61) rfl (T.G 25 rfl) rfl) aj))) aj)))))
 (az (aW (aE dh (pv 4) (cv (aa (bb (lM (K:=K) rfl) rfl (T.G 4 rfl) eh (aa (pv 2) (aa (gB (v:=.ref 73) rfl (T.G 24 rfl) rfl) aj))) (aa (bb (lM (K:=K) rfl) rfl (T.G 4 rfl) eh (aa (pv 2) (aa (gB (v:=.ref 85) rfl (T.G 26 rfl) rfl) aj))) (aa (bb (lM (K:=K) rfl) rfl (T.G 4 rfl) eh (aa (pv 2) (aa (JW (v:=.ty "ValueError") rfl (T.G 0 rfl) xx rfl) aj))) aj))))))))))),
 (aw (a7 Mg)
 (yY (x:=(aJ bI ‹51›)) (q9 (C0:=ax) (n:=5) (i:=0) (iv:=2) (ie:=3) (C:=97) rfl (aF (aZ 1) aC) (T.hx 5 rfl) ‹6›
  (An (uW (uX (T.oq 4 rfl) (oh (T.hi 32 rfl) (T.hi 33 rfl)))) (qN ‹6› ‹6› (cg (dW (c:=.ref 97) (u:=.ref 97) (T.oq 4 rfl) rfl (T.hi 36 rfl)) (cg (dW (c:=.ref 109) (u:=.ref 109) (T.oq 4 rfl) rfl (T.hi 35 rfl)) (cg (dW (c:=.ref 61) (u:=.ref 61) (T.oq 4 rfl) rfl (T.hi 34 rfl)) kR))) (cg (dW (c:=.ref 73) (u:=.ref 73) (T.oq 4 rfl) rfl (T.hi 37 rfl)) (cg (dW (c:=.ref 85) (u:=.ref 85) (T.oq 4 rfl) rfl (T.hi 39 rfl)) (cg (dW (c:=.ty "ValueError") (u:=.type "ValueError") (T.oq 4 rfl) rfl (T.hi 38 rfl)) kR))))))
 (yY (x:=(aJ bB ‹51›)) (q9 (C0:=ax) (n:=5) (i:=0) (iv:=2) (ie:=3) (C:=109) rfl (aF (aZ 1) aC) (T.hx 4 rfl) ‹6›
  (An (uW (uX (T.oq 3 rfl) (oh (T.hi 24 rfl) (T.hi 25 rfl)))) (qN ‹6› ‹6› (cg (dW (c:=.ref 97) (u:=.ref 97) (T.oq 3 rfl) rfl (T.hi 28 rfl)) (cg (dW (c:=.ref 109) (u:=.ref 109) (T.oq 3 rfl) rfl (T.hi 27 rfl)) (cg (dW (c:=.ref 61) (u:=.ref 61) (T.oq 3 rfl) rfl (T.hi 26 rfl)) kR))) (cg (dW (c:=.ref 73) (u:=.ref 73) (T.oq 3 rfl) rfl (T.hi 29 rfl)) (cg (dW (c:=.ref 85) (u:=.ref 85) (T.oq 3 rfl) rfl (T.hi 31 rfl)) (cg (dW (c:=.ty "ValueError") (u:=.type "ValueError") (T.oq 3 rfl) rfl (T.hi 30 rfl)) kR))))))
 (yY (x:=(aJ bJ ‹51›)) (q9 (C0:=ax) (n:=5) (i:=0) (iv:=2) (ie:=3) (C:=61) rfl (aF (aZ 1) aC) (T.hx 3 rfl) ‹6›
  (An (uW (uX (T.oq 2 rfl) (oh (T.hi 16 rfl) (T.hi 17 rfl)))) (qN ‹6› ‹6› (cg (dW (c:=.ref 97) (u:=.ref 97) (T.oq 2 rfl) rfl (T.hi 20 rfl)) (cg (dW (c:=.ref 109) (u:=.ref 109) (T.oq 2 rfl) rfl (T.hi 19 rfl)) (cg (dW (c:=.ref 61) (u:=.ref 61) (T.oq 2 rfl) rfl (T.hi 18 rfl)) kR))) (cg (dW (c:=.ref 73) (u:=.ref 73) (T.oq 2 rfl) rfl (T.hi 21 rfl)) (cg (dW (c:=.ref 85) (u:=.ref 85) (T.oq 2 rfl) rfl (T.hi 23 rfl)) (cg (dW (c:=.ty "ValueError") (u:=.type "ValueError") (T.oq 2 rfl) rfl (T.hi 22 rfl)) kR))))))
 (yY (x:=(aJ bZ ‹51›)) (q9 (C0:=ax) (n:=5) (i:=0) (iv:=2) (ie:=3) (C:=73) rfl (aF (aZ 1) aC) (T.hx 2 rfl) ‹6›
  (An (uW (uX (T.oq 1 rfl) (oh (T.hi 8 rfl) (T.hi 9 rfl)))) (qN ‹6› ‹6› (cg (dW (c:=.ref 97) (u:=.ref 97) (T.oq 1 rfl) rfl (T.hi 12 rfl)) (cg (dW (c:=.ref 109) (u:=.ref 109) (T.oq 1 rfl) rfl (T.hi 11 rfl)) (cg (dW (c:=.ref 61) (u:=.ref 61) (T.oq 1 rfl) rfl (T.hi 10 rfl)) kR))) (cg (dW (c:=.ref 73) (u:=.ref 73) (T.oq 1 rfl) rfl (T.hi 13 rfl)) (cg (dW (c:=.ref 85) (u:=.ref 85) (T.oq 1 rfl) rfl (T.hi 15 rfl)) (cg (dW (c:=.ty "ValueError") (u:=.type "ValueError") (T.oq 1 rfl) rfl (T.hi 14 rfl)) kR))))))
 (q9 (C0:=ax) (n:=5) (i:=0) (iv:=2) (ie:=3) (C:=85) rfl (aF (aZ 1) aC) (T.hx 1 rfl) ‹6›
  (An (uW (uX (T.oq 0 rfl) (oh (T.hi 0 rfl) (T.hi 1 rfl)))) (qN ‹6› ‹6› (cg (dW (c:=.ref 97) (u:=.ref 97) (T.oq 0 rfl) rfl (T.hi 4 rfl)) (cg (dW (c:=.ref 109) (u:=.ref 109) (T.oq 0 rfl) rfl (T.hi 3 rfl)) (cg (dW (c:=.ref 61) (u:=.ref 61) (T.oq 0 rfl) rfl (T.hi 2 rfl)) kR))) (cg (dW (c:=.ref 73) (u:=.ref 73) (T.oq 0 rfl) rfl (T.hi 5 rfl)) (cg (dW (c:=.ref 85) (u:=.ref 85) (T.oq 0 rfl) rfl (T.hi 7 rfl)) (cg (dW (c:=.ty "ValueError") (u:=.type "ValueError") (T.oq 0 rfl) rfl (T.hi 6 rfl)) kR)))))))))))⟩
theorem MM (T:Txt w K mg ad):bQ P w K mg base gW 8 (ad.f 31) (ad.d 31) ["_law_script"] (jv .v K [false] Et):=by
 rw [yy];exact eQ.nK (N:=‹81›) (T.F 31 rfl).F iN [false] rfl Ew fun cdv A outer s H E hr=>⟨_,
 (ah (pA 1 iN.nd (Hl (C:=ax) ⟨T.dm_Desk,(T.M 12 rfl).t.at_,(T.M 12 rfl).t.fn,T.dk_Desk⟩ (sP T) ‹2› rfl (T.G 27 rfl) (T.M 12 rfl).b .nil eZ))
 (ah (sN (gD (CI T) (T.F 25 rfl) hr (aa (gD (rN T) (T.F 24 rfl) hr (aa (pv 0) (aa aB aj))) aj)) (rJ (K:=K) rfl rfl (fH (pG 2 iN.nd) (fH (pG 3 iN.nd) (fH (pG 4 iN.nd) rH)))))
 (ah (pA 5 iN.nd (gD (rN T) (T.F 24 rfl) hr (aa (pv 0) (aa aB aj))))
 (ah (zC (i:=6) iN.nd rfl rfl rfl (cX rfl (T.G 6 rfl) (aa (aE mz (pv 5) aB) aj)) (ts:=["_law_k"]) (zs:=["_law_cell"]) (k:=1) (is:=[5]) rfl (.cons rfl .nil) ‹11› rfl rfl rfl (bO ‹6›) ‹96› (fun _ _ _ _ _=>(aE ao (aE ao (aE ao (lE mQ rfl (T.G 8 rfl) C7 (aa (aE mz (gD (jZ T) (T.F 23 rfl) hr (aa (pv 1) ‹44›)) aB) aj)) av) (lE mQ rfl (T.G 8 rfl) C7 (aa (aE n8 aB (aE mz (gD (jZ T) (T.F 23 rfl) hr (aa (pv 1) (aa (aE n8 (pv 0) aB) aj))) aB)) aj))) av)) rfl rfl ‹0›)
 (ah (pA 7 iN.nd (aE ao av (qM (K:=K) rfl (dJ Rj R8 R9 (fU (K:=K) rfl) av (aa (aE dh (pv 6) (cv (aa av aj))) aj)))))
 (ah (a9 (PW.pt (mZ (a6 ‹79› (eY (C:=ax) (T.eN 6 rfl).cl ‹93›.t (jy T) ‹2› ‹93›.b eZ (pv 1) (aa (aE ao ‹36› (pv 7)) aj)) av (aY _)) (mv (a6 ‹79› (eY (C:=ax) (T.eN 6 rfl).cl ‹93›.t (jy T) ‹2› ‹93›.b eZ (pv 1) (aa (aE ao (aE ao av (pv 3)) av) aj)) av (aY _)))))
 (az (aW gO))
 aH)
 (ah (pA 8 iN.nd (qM (K:=K) rfl (dJ Rj R8 R9 (fU (K:=K) rfl) av (aa (bb (wC (K:=K) rfl rfl) rfl (T.G 7 rfl) tD (aa (cv (aa (pv 2) (aa (pv 3) aj))) aj)) aj))))
 (ah (iO Ts rfl (cn (K:=K) rfl (aE dh (cv (aa aB aj)) (dP (fB (K:=K) rfl) (pv 0) (eJ aB) (eJ aB)))) (pG 9 iN.nd)
 (ah (pA 10 iN.nd (aE dh (aE dh (gD (qo T) (T.F 27 rfl) hr (aa (pv 2) (aa (pv 4) aj))) (gD (qr T) (T.F 28 rfl) hr (aa (pv 4) (aa (gD (zG T) (T.F 26 rfl) hr (aa (pv 2) (aa (pv 9) aj))) aj)))) (gD (qp T) (T.F 29 rfl) hr (aa (pv 2) (aa (pv 3) (aa (pv 4) aj))))))
 (ah (sN (pX K (pv 10) (aE mz (gD (jZ T) (T.F 23 rfl) hr (aa (pv 9) (aa aB aj))) (bb (bN (K:=K) rfl) rfl (T.G 5 rfl) dq (aa (pv 10) aj)))) (rJ (K:=K) rfl rfl (fH (pG 11 iN.nd) (fH (pG 12 iN.nd) rH))))
 (ah (a9 (a6 ‹79› (gD (rM T) (T.F 30 rfl) hr (aa (pv 1) (aa (pv 11) aj))) (aE dh (d9 rfl (cX rfl (T.G 6 rfl) (aa aB aj)) (ts:=["_law_k"]) (zs:=["_law_mark"]) (k:=1) (is:=[12]) rfl (.cons rfl .nil) ‹11› rfl rfl rfl (bO ‹6›) ‹96› (fun _ _ _ _ _=>(df ‹13› (pv 1) (aE n8 (pv 0) aB) (aY _))) rfl rfl ‹0›) (cv (aa gO aj))) (aY _))
 (az (aW gO))
 aH)
 (az (a9 (PW.pt (mZ (a6 ‹79› ‹111› (pv 8) (aY _)) (mZ (a6 ‹79› (eY (C:=ax) (T.eN 6 rfl).cl ‹93›.t (gP T) ‹2› ‹93›.b eZ (pv 1) (aa (aE ao av (pv 2)) aj)) (pv 7) (aY _)) (mv (a6 ‹79› (eY (C:=ax) (T.eN 6 rfl).cl ‹93›.t (gP T) ‹2› ‹93›.b eZ (pv 1) (aa (aE ao av (pv 3)) aj)) av (aY _))))))
 (az (aW gO))
 aH))))))
 (ah (a9 (PW.pt (mZ (a6 ‹79› (eY (C:=ax) (T.eN 6 rfl).cl ‹93›.t (jy T) ‹2› ‹93›.b eZ (pv 1) (aa (aE ao (aE ao (aE ao av (pv 4)) av) (pv 7)) aj)) av (aY _)) (mv (a6 ‹79› (eY (C:=ax) (T.eN 6 rfl).cl ‹93›.t (gP T) ‹2› ‹93›.b eZ (pv 1) (aa (aE ao av (pv 4)) aj)) (pv 7) (aY _)))))
 (az (aW gO))
 aH)
 (ah (a9 (PW.pt (mZ (a6 ‹79› ‹111› (qM (K:=K) rfl (dJ Rj R8 R9 (fU (K:=K) rfl) av (aa (bb (wC (K:=K) rfl rfl) rfl (T.G 7 rfl) tD (aa (cv (aa (pv 2) (aa (pv 3) (aa (pv 4) aj)))) aj)) aj))) (aY _)) (mv (a6 ‹79› (eY (C:=ax) (T.eN 6 rfl).cl ‹93›.t (jy T) ‹2› ‹93›.b eZ (pv 1) (aa (aE ao av (pv 4)) aj)) av (aY _)))))
 (az (aW gO))
 aH)
 (az (aW (jX (df ‹13› (gD (rM T) (T.F 30 rfl) hr (aa (pv 1) (aa (aE ao av (pv 4)) aj))) (d9 rfl (cX rfl (T.G 6 rfl) (aa aB aj)) (ts:=["_law_k"]) (zs:=[]) (k:=1) (is:=[]) rfl .nil .nil rfl rfl rfl (bO ‹6›) ‹96› (fun _ _ _ _ _=>(df (CH (K:=K) rfl) (pv 0) (kU (aa aB (aa aB aj))) (by with_unfolding_all rfl))) rfl rfl ‹0›) (aY _)) (kW (df ‹13› ‹111› (pv 8) (aY _)))))))))))))))),
 (aw Jv
 (aw (Li (aR (aG (ai.b (aR (aG (ae 0) (aG aD aC)))) aC)) (AA (fC (bq 2) (fC (bq 3) (fC (bq 4) rf)))))
 (aw (a7 (aR (aG (ae 0) (aG aD aC))))
 (aw (DC (bC.l (cK (m:=true) (k:=1) (cs:=[5]) (gV.c (cW (ai.b (mf (ae 5) aD)))) (bq 0) cz (ay (ai.b (ay (ai.b (ay (ai.b (y9 (ai.b (mf (ai.b (aR (aG (ae 1) (aG (ae 0) aC)))) aD)))) (ai.b au))) (ai.b (y9 (ai.b (nV aD (ai.b (mf (ai.b (aR (aG (ae 1) (aG (ai.b (nV (ae 0) aD)) aC)))) aD)))))))) (ai.b au)))))
 (aw (a7 (ay (ai.b au) (ai.b (fS (ai.b au) (ai.b (bC.l (eK (aZ 6) (bC.l (cN (n:=1) (aF au aC) ‹6›)))))))))
 (aw (Cd (GF (yZ rfl (ay (ai.b ‹14›) (ae 7))) (yZ rfl (ay (ai.b (ay (ai.b au) (ae 3))) (ai.b au))))
 (bz iB)
 aK)
 (aw (a7 (fS (ai.b au) (ai.b (bC.l (DJ (ai.b (bC.l (cN (n:=2) (aF (aZ 2) (aF (aZ 3) aC)) ‹6›))))))))
 (aw (iM (m:=true) (fm (bC.l (eK (bC.l (cN (n:=1) (aF gY aC) ‹6›)) (bC.l (Mj (ae 0) (eI aD) (eI aD)))))) (bq 9)
 (aw (a7 (bC.l (eK (bC.l (eK (aR (aG (ae 2) (aG (ae 4) aC))) (aR (aG (ae 4) (aG (ai.b (aR (aG (ae 2) (aG (ae 9) aC)))) aC))))) (aR (aG (ae 2) (aG (ae 3) (aG (ae 4) aC)))))))
 (aw (Li (ja (aZ 10) (ai.b (mf (ai.b (aR (aG (ae 9) (aG aD aC)))) (ai.b (dn (ae 10)))))) (AA (fC (bq 11) (fC (bq 12) rf))))
 (aw (bh (aS (ai.b (bR (neg:=true) (ai.b (Az (C0:=ax) (aF (aZ 11) aC))) (ai.b (bC.l (eK (bC.l (cK (m:=true) (k:=1) (cs:=[12]) (gV.c (cW aD)) (bq 0) cz (bR (neg:=false) (ae 1) (ai.b (nV (ae 0) aD))))) (bC.l (cN (n:=1) (aF iB aC) ‹6›))))))))
 (bz iB)
 aK)
 (bh (qZ (aS (ai.b (bR (neg:=true) (ai.b (lA (C0:=ax) rfl (aF au aC))) (ae 8)))) (qZ (aS (ai.b (bR (neg:=true) (ai.b (lA (C0:=ax) rfl (aF (ay (ai.b au) (ae 2)) aC))) (ae 7)))) (aS (ai.b (bR (neg:=true) (ai.b (lA (C0:=ax) rfl (aF (ay (ai.b au) (ae 3)) aC))) (ai.b au))))))
 (bz iB)
 aK)))))
 (aw (Cd (GF (yZ rfl (ay (ai.b (ay (ai.b (ay (ai.b au) (ae 4))) (ai.b au))) (ae 7))) (DF (aS (ai.b (bR (neg:=true) (ai.b (lA (C0:=ax) rfl (aF (ay (ai.b au) (ae 4)) aC))) (ae 7))))))
 (bz iB)
 aK)
 (aw (Cd (GF (DF (aS (ai.b (bR (neg:=true) (ai.b (lA (C0:=ax) rfl (aF au aC))) (ai.b (fS (ai.b au) (ai.b (bC.l (DJ (ai.b (bC.l (cN (n:=3) (aF (aZ 2) (aF (aZ 3) (aF (aZ 4) aC))) ‹6›)))))))))))) (yZ rfl (ay (ai.b au) (ae 4))))
 (bz iB)
 aK)
 (bz (gZ (ai.b (bR (neg:=false) (ai.b (Az (C0:=ax) (aF (ay (ai.b au) (ae 4)) aC))) (ai.b (bC.l (cK (m:=true) (k:=1) (cs:=[]) (gV.c (cW aD)) (bq 0) cz (Oh (neg:=false) (ae 0) (ai.b (me (n:=2) (aF gY (aF gY aC)) ‹6›)))))))) (bR (neg:=false) (ai.b (lA (C0:=ax) rfl (aF au aC))) (ae 8))))))))))))))⟩
end
local macro_rules | `(tactic| walk_at "sd")=>`(tactic| first | assumption | lia | decide | (simp only [List.length_map,List.length_cons,List.length_nil]; lia) | ((with_reducible apply And.intro) <;> walk_at "sd"))
local macro_rules | `(tactic| walk_at "fn")=>`(tactic| assumption)
local macro_rules | `(tactic| walk_at "ix")=>`(tactic| first | exact Qy (by lia) (by lia) | exact LC (by lia) (by lia) | exact ix2I _ _ _ | exact ix3I _ _ _ _ | exact ix4I _ _ _ _ _ | rfl)
local macro_rules | `(tactic| walk_at "ev")=>`(tactic| first
 | ((with_reducible first | apply k4 | apply ev_sub | apply Iu | apply wu | apply yh | apply Ee | apply ev_max2 | apply ev_min2 | apply af | apply qB | apply wt); (· walk_at "ev"); (· walk_at "ev"))
 | ((with_reducible first | apply qA | apply dG | apply cf | apply z6 | apply bf | apply j8 | apply wq); (· walk_at "ev"))
 | ((with_reducible first | apply cj | apply ic | apply c7 | apply c6 | apply ev_lof); (· walk_at "ev"); (· rfl))
 | ((with_reducible first | apply sW | apply iF | apply fV | apply z5); (· walk_at "ev"); (· intro _; walk_at "ev"))
 | ((with_reducible first | show ak _ _=_ | show aX _ _=_ | show tX _ _=_ | show dC _ _=_ | show aP _=_ | show ft _=_ | show cO _=_); rfl)
 | ((with_reducible apply c0); (· walk_at "ev"); (· walk_at "ev"); (· walk_at "ix"))
 | ((with_reducible apply aN); (· walk_at "ev"); (· walk_at "fn"))
 | ((with_reducible first | apply dE | apply Bo); (· walk_at "ev"); (· walk_at "ev"); (· walk_at "ev"))
 | ((with_reducible apply mH); (· walk_at "ev"); (· walk_at "ev"); (· first | assumption | (apply Bk; lia)))
 | ((with_reducible apply ev_fdiv); (· walk_at "ev"); (· walk_at "ev"); (· first | exact fdok (by lia) (by lia) | walk_at "sd"))
 | ((with_reducible first | apply j9 | apply ev_rg2); (· walk_at "ev"); (· walk_at "ev"); (· walk_at "sd"))
 | ((with_reducible apply kZ); (· walk_at "ev"); (· walk_at "sd"))
 | ((with_reducible apply C2); (· walk_at "ev"); (· walk_at "ev"); (· simp only [Rt,Tf]; walk_at "sd")))
local macro_rules | `(tactic| walk_at "st")=>`(tactic| dsimp only [List.set_cons_succ,List.set_cons_zero])
local macro_rules | `(tactic| walk_at "go")=>`(tactic| ((try dsimp only); walk_at "go1"))
local macro_rules | `(tactic| walk_at "go1")=>`(tactic| first
 | ((with_reducible apply wp_seq); walk_at "go")
 | ((with_reducible apply uZ); dsimp only [uM,UM,UN,RZ,R0]; walk_at "go")
 | ((with_reducible apply bp); (· walk_at "ev"); walk_at "st"; walk_at "go")
 | ((with_reducible apply kr); (· walk_at "ev"); (· simp only [Rt,Tf]; lia); walk_at "st"; walk_at "go")
 | ((with_reducible apply yD); (· rfl); (· walk_at "ev"); walk_at "st"; walk_at "go")
 | ((with_reducible apply bj); (try dsimp only); walk_at "go")
 | skip)
abbrev cs (x:Rf):List Nat:=x.cps.toList
theorem fi (h:cs x=cs y):x=y:=Str.ext' (Array.toList_inj.mp h)
theorem cR (x:Rf):(cs x).length=x.length:=SK
theorem ck (x y:Rf):cs (x++y)=cs x++cs y:=by unfold cs; rw [Str.cps_append,Array.toList_append]
theorem Ag {k d c:Nat} (hd:(cs y)[d]?=some c) (h:Vw x y x.length k):(cs x)[k+d]?=some c:=by
 have h2:=h.2;rw [YK] at h2;have e:((cs x).drop k).take y.length=cs y:=eq_of_beq h2;have hl:d<y.length:=by rw [← cR]; exact (Rp.mp hd).1
 rw [← e,WC hl,U1] at hd;exact hd
theorem Eo {k:Nat} {v:List Nat} (hk:k≤x.length) (h:(cs x).drop k=cs y++v):Vw x y x.length k:=by
 have hl:((cs x).drop k).length=y.length+v.length:=by rw [h,Ru,cR]
 rw [SY,cR] at hl;refine ⟨by lia,?_⟩;rw [YK,show x.cps.toList.drop k=cs y++v from h,← cR,XO];exact beq_self_eq_true _
theorem xZ {x y:Rf} {c d:Nat} (hd:(cs y)[d]?=some c) (hb:∀ i,i<d→(cs y)[i]?≠some c):∀ (ps:List Rf) (a:Nat) (cuts:List Nat) (f:Nat),ps≠[]→a≤x.length→(cs x).drop a=cs (Rh y ps)→(∀ p∈ps,c∉cs p)→StrLaws.ChainG x y x.length a cuts f→(∀ k,f≤k→¬ Vw x y x.length k)→TF x y.length a cuts=ps
 | [],_,_,_,h,_,_,_,_,_=>absurd rfl h
 | [p],a,cuts,f,_,ha,hx,hp,hc,hn=>by
  have hx:(cs x).drop a=cs p:=hx;cases cuts with
  | nil =>
   show [TZ x a x.length]=[p]
   congr 1;apply fi;show (TZ x a x.length).cps.toList=_;rw [Us,show x.cps.toList.drop a=cs p from hx];refine TQ ?_;rw [← hx,SY,cR];exact Rq _
  | cons k r =>obtain ⟨h1,h2,_,_⟩:=hc;have:=Ag hd h2;rw [show k+d=a+(k-a+d) by lia,← U1,hx] at this;exact absurd (RB this) (hp p Q9)
 | p::q::ps,a,cuts,f,_,ha,hx,hp,hc,hn=>by
  have hx:(cs x).drop a=cs p++(cs y++cs (Rh y (q::ps))):=by rw [hx];show cs (p++y++Rh y (q::ps))=_;rw [ck,ck,SR]
  have hlen:x.length-a=p.length+(y.length+(Rh y (q::ps)).length):=by have:=congrArg VE hx;rw [SY,Ru,Ru,cR,cR,cR,cR] at this;exact this
  have hdr:(cs x).drop (a+p.length)=cs y++cs (Rh y (q::ps)):=by rw [← XQ,hx,← cR p,We]
  have here:Vw x y x.length (a+p.length):=Eo (by lia) hdr
  have not:∀ k,a≤k→k<a+p.length→¬ Vw x y x.length k:=fun k h1 h2 hA=>by
   have e:=Ag hd hA;rw [show k+d=a+(k-a+d) by lia,← U1,hx] at e;by_cases c1:k-a+d<p.length
   ·rw [Rz (by rw [cR]; exact c1)] at e;exact hp p Q9 (RB e)
   ·have hdl:d<(cs y).length:=(Rp.mp hd).1;rw [RO (by rw [cR]; lia),cR,Rz (by lia)] at e;exact hb _ (by lia) e
  cases cuts with
  | nil =>have e:f=a:=hc;exact absurd here (hn _ (by lia))
  | cons k r =>
   obtain ⟨h1,h2,h3,h4⟩:=hc
   have ek:k=a+p.length:=by
    by_cases c1:k<a+p.length
    ·exact absurd h2 (not k h1 c1)
    ·by_cases c2:a+p.length<k
     ·exact absurd here (h3 _ (by lia) c2)
     ·lia
   subst ek;show TZ x a (a+p.length)::TF x y.length (a+p.length+y.length) r=p::q::ps;rw [xZ hd hb (q::ps) (a+p.length+y.length) r f (by simp) (by lia) (by rw [← XQ,hdr,← cR y,We]) (fun z hz=>hp z (Ra _ hz)) h4 hn];congr 1;apply fi;show (TZ x a (a+p.length)).cps.toList=_;rw [Us,show x.cps.toList.drop a=_ from hx,show a+p.length-a=(cs p).length by rw [cR]; lia,XO]
theorem Ki (x:Rf):1≤Tq x:=by unfold Tq; split <;> (try split) <;> lia
theorem vh {c d:Nat} (hd:(cs y)[d]?=some c) (hb:∀ i,i<d→(cs y)[i]?≠some c) (hk:Tq y=1) {ps:List Rf} (hne:ps≠[]) (hp:∀ p∈ps,c∉cs p):aQ (Rh y ps) y=ps:=by
 have hy:1≤y.length:=by rw [← cR]; have:=(Rp.mp hd).1; lia
 have k1:¬ Tq (Rh y ps)<Tq y:=by have:=Ki (Rh y ps); lia
 obtain ⟨f,hG,hn⟩:=StrLaws.occ_tight (Rh y ps) y hy;have main:=xZ hd hb ps 0 _ f hne (Th _) (by rw [V6]) hp hG hn;unfold aQ;split
 ·rename_i h;rw [TJ,TJ,decide_eq_true_iff,decide_eq_true_iff] at h
  have single:∀ {ps:List Rf},ps≠[]→(∀ q z r,ps=q::z::r→False)→[Rh y ps]=ps:=by
   intro ps h1 h2
   match ps,h1,h2 with
   | [p],_,_=>rfl
   | q::z::r,_,h2=>exact (h2 q z r rfl).elim
  refine single hne fun q z r e=>?_;rcases h with (h | h) | h
  ·rw [e] at h;have:(Rh y (q::z::r)).length=q.length+y.length+(Rh y (z::r)).length:=by show (q++y++Rh y (z::r)).length=_;rw [RL,RL]
   lia
  ·exact k1 h
  ·rw [List.isEmpty_iff.mp h] at main;rw [e] at main;have:(TF (Rh y (q::z::r)) y.length 0 []).length=(q::z::r).length:=by rw [main]
   simp [TF] at this
 ·rw [W5];exact main
def jB (m:Nat):List Nat:=(Xh 10 m).map Char.toNat
def fI (n:Int):Rf:=toString n
theorem ph (h:m<10):jB m=[48+m]:=by
 unfold jB;rw [Nat.toDigits_of_lt_base h];have:∀ d:Nat,d<10→(Nat.digitChar d).toNat=48+d:=by decide
 rw [R4,Xc,this m h]
theorem pe (h:10≤m):jB m=jB (m / 10)++[48+m % 10]:=by have hm:m % 10<10:=Nat.mod_lt m ‹6›;have t:Xh 10 (m / 10)++Xh 10 (m % 10)=Xh 10 (10*(m / 10)+m % 10):=Nat.toDigits_append_toDigits ‹6› (by lia) hm;rw [Nat.div_add_mod] at t;rw [← ph hm];unfold jB;rw [← t,SW]
theorem ka:∀ (m:Nat),NumText.AllDigits (jB m):=by
 intro m;induction m using UZ with
 | _ m ih =>
  by_cases h:m<10
  ·rw [ph h];intro c hc;rw [Q3.mp hc];lia
  ·rw [pe (by lia)];intro c hc;rcases RD.mp hc with hc | hc
   ·exact ih (m / 10) (by lia) c hc
   ·rw [Q3.mp hc];lia
theorem FE:∀ (m:Nat),0<m→∃ c r,jB m=c::r∧49≤c∧c≤57:=by
 intro m;induction m using UZ with
 | _ m ih =>
  intro h0;by_cases h:m<10
  ·exact ⟨48+m,[],ph h,by lia,by lia⟩
  ·obtain ⟨c,r,e,h1,h2⟩:=ih (m / 10) (by lia) (by lia);exact ⟨c,r++[48+m % 10],by rw [pe (by lia),e]; rfl,h1,h2⟩
theorem pf (m:Nat):jB m≠[]:=by
 by_cases h:m<10
 ·rw [ph h]; simp
 ·rw [pe (by lia)]; simp
theorem wx:∀ (k m:Nat),m<10 ^ (k+1)→(jB m).length≤k+1
 | 0,m,h=>by rw [ph (by simpa using h)]; simp
 | k+1,m,h=>by
  by_cases c:m<10
  ·rw [ph c]; simp
  ·rw [pe (by lia),Ru,Tc];have:m / 10<10 ^ (k+1):=by rw [Nat.pow_succ] at h;lia
   have:=wx k (m / 10) this;lia
theorem By (m:Nat):NumText.digitsVal (jB m)=m:=PySem.W.KIN.val_back m
theorem ND (m:Nat):cs (fI (m:Int))=jB m:=PySem.W.KIN.signs_num m
theorem NC (m:Nat) (h:0<m):cs (fI (-(m:Int)))=45::jB m:=by
 obtain ⟨k,rfl⟩:∃ k,m=k+1:=⟨m-1,by lia⟩
 unfold fI cs;show (Vk (toString (Int.negSucc k))).cps.toList=_;rw [PyProof.Rows.signs_ofString];show (("-" ++ Nat.repr (k+1)).toList).map Char.toNat=_;rw [String.toList_append,SW,Nat.toList_repr];rfl
def FX (n:Int):Prop:=n.natAbs<10 ^ 60
theorem lG (n:Int):(0≤n∧cs (fI n)=jB n.natAbs)∨(n<0∧cs (fI n)=45::jB n.natAbs):=by
 by_cases h:0≤n
 ·refine .inl ⟨h,?_⟩;have e:n=((n.natAbs:Nat):Int):=by lia
  conv=>lhs; rw [e]
  exact ND _
 ·refine .inr ⟨by lia,?_⟩;have e:n=-((n.natAbs:Nat):Int):=by lia
  conv=>lhs; rw [e]
  exact NC _ (by lia)
theorem uG {n:Int} (h:FX n):1≤(fI n).length∧(fI n).length≤61:=by
 have l:=wx 59 n.natAbs h
 have l0:1≤(jB n.natAbs).length:=by
  have:=pf n.natAbs;cases e:jB n.natAbs with
  | nil=>exact absurd e this
  | cons c r=>simp
 rw [← cR];rcases lG n with ⟨_,e⟩ | ⟨_,e⟩
 ·rw [e]; lia
 ·rw [e,Rt]; lia
theorem Fe {n:Int} {c:Nat} (h:c∈cs (fI n)):c=45∨(48≤c∧c≤57):=by
 rcases lG n with ⟨_,e⟩ | ⟨_,e⟩
 ·rw [e] at h; exact .inr (ka _ c h)
 ·rw [e] at h;rcases Ri.mp h with h | h
  ·exact .inl h
  ·exact .inr (ka _ c h)
theorem HA {n:Int} (h:FX n):intText? (fI n)=some n:=by
 obtain ⟨_,l2⟩:=uG h;rcases lG n with ⟨h0,e⟩ | ⟨h0,e⟩
 ·rw [intText_digits (by rw [show (fI n).cps.toList=jB n.natAbs from e]; exact ka _) (by rw [show (fI n).cps.toList=jB n.natAbs from e]; exact pf _) (by lia),show (fI n).cps.toList=jB n.natAbs from e,By];congr 1;lia
 ·rw [intText_neg (cs:=jB n.natAbs) e (ka _) (pf _) (by lia),By];congr 1;lia
theorem log_small {n:Int} (h:FX n):n.natAbs.log2<1920:=by
 by_cases c:n.natAbs=0
 ·rw [c]; decide
 ·rw [Wv c];exact S5 h ‹0›
abbrev SL:Rf := "/"
abbrev DT:Rf := "."
def gU (x:List Nat):List Nat:=if x[0]?=some 45 then x.drop 1 else x
def qz (w:Rf):Bool:=decide (1≤(gU (cs w)).length∧(gU (cs w)).length≤60∧(∀ c∈gU (cs w),48≤c∧c≤57)∧(cs w=[48]∨¬ (gU (cs w))[0]?=some 48))
def valN (w:Rf):Int:=(intText? w).getD 0
theorem Ft {w:Rf} (h:qz w=true) {c:Nat} (hc:c∈cs w):c=45∨(48≤c∧c≤57):=by
 obtain ⟨_,_,h3,_⟩:=of_decide_eq_true h;unfold gU at h3;split at h3
 ·rename_i e;cases ew:cs w with
  | nil=>rw [ew] at hc; cases hc
  | cons a l =>
   rw [ew] at e hc h3;rcases Ri.mp hc with q | q
   ·have:a=45:=by simpa using e
    exact .inl (q.trans this)
   ·exact .inr (h3 c q)
 ·exact .inr (h3 c hc)
theorem D6 {w:Rf} (h:qz w=true):w.length≤61:=by
 obtain ⟨_,h2,_,_⟩:=of_decide_eq_true h;rw [← cR];unfold gU at h2;split at h2
 ·rw [SY] at h2; lia
 ·lia
theorem Kl {w:Rf} (h:qz w=true):intText? w=some (valN w):=by
 have hl:=D6 h;obtain ⟨h1,_,h3,_⟩:=of_decide_eq_true h
 have:∃ n,intText? w=some n:=by
  unfold gU at h1 h3;split at h1
  ·rename_i e;rw [if_pos e] at h3;cases ew:cs w with
   | nil=>rw [ew] at e; cases e
   | cons a l =>
    rw [ew] at e h1 h3;have ea:a=45:=by simpa using e
    subst ea;exact ⟨_,intText_neg (cs:=l) ew h3 (fun z=>by rw [z] at h1; simp at h1) (by lia)⟩
  ·rename_i e;rw [if_neg e] at h3;exact ⟨_,intText_digits h3 (fun z=>by rw [show cs w=[] from z] at h1; simp at h1) (by lia)⟩
 obtain ⟨n,e⟩:=this;unfold valN;rw [e];rfl
theorem NA:qz DT=false:=by decide +kernel
noncomputable def scan:List Rf→List (List Int)→List Int→Bool→Option (List (List Int))
 | [],rows,_,_=>some rows
 | w::ws,rows,row,dot=>if w=SL then (if (row=[]∧dot=false)∨(row≠[]∧dot=true) then none else scan ws (rows++[row]) [] false)
  else if w=DT∧dot=false∧row=[] then scan ws rows row true
  else if qz w=true then scan ws rows (row++[valN w]) dot else none
def jg (g:List Rf):Bool:=decide (g=[DT]∨(g≠[]∧∀ w∈g,qz w=true))
def xr (g:List Rf):List Int:=if g=[DT] then [] else g.map valN
theorem AB:∀ (g:List Rf) (rest:List Rf) (rows:List (List Int)) (row:List Int),(∀ w∈g,w≠SL)→row≠[]→scan (g++SL::rest) rows row false=if (∀ w∈g,qz w=true) then scan rest (rows++[row++g.map valN]) [] false else none
 | [],rest,rows,row,_,hr=>by
  rw [if_pos (by intro w hw; cases hw),TH,Xc,Ss]
  conv=>lhs; unfold scan
  rw [if_pos rfl,if_neg];rintro (⟨h,_⟩ | ⟨_,h⟩)
  ·exact hr h
  ·cases h
 | w::g,rest,rows,row,hg,hr=>by
  have hw:=hg w Q9;have ih:=AB g rest rows (row++[valN w]) (fun z hz=>hg z (Ra _ hz)) (by simp);rw [Ud]
  conv=>lhs; unfold scan
  rw [if_neg hw,if_neg (fun h=>hr h.2.2)];by_cases c:qz w=true
  ·rw [if_pos c,ih,SR];by_cases d:∀ z∈g,qz z=true
   ·rw [if_pos d,if_pos (fun z hz=>(Ri.mp hz).elim (fun e=>e ▸ c) (d z))];rfl
   ·rw [if_neg d,if_neg (fun h=>d fun z hz=>h z (Ra _ hz))]
  ·rw [if_neg c,if_neg (fun h=>c (h w Q9))]
theorem AD:∀ (g:List Rf) (rest:List Rf) (rows:List (List Int)) (row:List Int),(∀ w∈g,w≠SL)→scan (g++SL::rest) rows row true=if row=[]∧g=[] then scan rest (rows++[[]]) [] false else none
 | [],rest,rows,row,_=>by
  rw [TH];by_cases c:row=[]
  ·subst c;rw [if_pos ⟨rfl,rfl⟩]
   conv=>lhs; unfold scan
   rw [if_pos rfl,if_neg (by simp)]
  ·rw [if_neg (fun h=>c h.1)]
   conv=>lhs; unfold scan
   rw [if_pos rfl,if_pos (.inr ⟨c,rfl⟩)]
 | w::g,rest,rows,row,hg=>by
  have hw:=hg w Q9;have ih:=AD g rest rows (row++[valN w]) (fun z hz=>hg z (Ra _ hz));rw [Ud,if_neg (fun h=>by cases h.2)];unfold scan;rw [if_neg hw,if_neg (fun h=>by cases h.2.1)];by_cases c:qz w=true
  ·rw [if_pos c,ih,if_neg (fun h=>by simp at h)]
  ·rw [if_neg c]
theorem GS (g rest:List Rf) (rows:List (List Int)) (hg:∀ w∈g,w≠SL):scan (g++SL::rest) rows [] false=if jg g=true then scan rest (rows++[xr g]) [] false else none:=by
 cases g with
 | nil =>
  rw [TH]
  conv=>lhs; unfold scan
  rw [if_pos rfl,if_pos (.inl ⟨rfl,rfl⟩),if_neg ‹6›]
 | cons w g =>
  have hw:=hg w Q9;have hr:∀ z∈g,z≠SL:=fun z hz=>hg z (Ra _ hz);rw [Ud]
  conv=>lhs; unfold scan
  rw [if_neg hw];by_cases c:w=DT
  ·subst c;rw [if_pos ⟨rfl,rfl,rfl⟩,AD g rest rows [] hr];cases g with
   | nil =>rw [if_pos ⟨rfl,rfl⟩,if_pos (show jg [DT]=true from decide_eq_true (.inl rfl))];rfl
   | cons z g =>
    rw [if_neg (fun h=>by cases h.2),if_neg];intro h;rcases of_decide_eq_true h with h | ⟨_,h⟩
    ·cases h
    ·have:=h _ Q9;rw [NA] at this;cases this
  ·rw [if_neg (fun h=>c h.1)];by_cases d:qz w=true
   ·rw [if_pos d,TH,AB g rest rows [valN w] hr (by simp)];have e:xr (w::g)=[valN w]++g.map valN:=by unfold xr;rw [if_neg (fun z=>c (Ub z).1)];rfl
    by_cases q:∀ z∈g,qz z=true
    ·rw [if_pos q,if_pos (show jg (w::g)=true from decide_eq_true (.inr ⟨by simp,fun z hz=>(Ri.mp hz).elim (fun e=>e ▸ d) (q z)⟩)),e]
    ·rw [if_neg q,if_neg];intro h;rcases of_decide_eq_true h with h | ⟨_,h⟩
     ·exact c (Ub h).1
     ·exact q fun z hz=>h z (Ra _ hz)
   ·rw [if_neg d,if_neg];intro h;rcases of_decide_eq_true h with h | ⟨_,h⟩
    ·exact c (Ub h).1
    ·exact d (h w Q9)
def inter:List (List Rf)→List Rf
 | []=>[]
 | [g]=>g
 | g::h::r=>g++SL::inter (h::r)
theorem vo:∀ (gs:List (List Rf)) (rows:List (List Int)),gs≠[]→(∀ g∈gs,∀ w∈g,w≠SL)→scan (inter gs++[SL]) rows [] false=if gs.all jg=true then some (rows++gs.map xr) else none
 | [],_,h,_=>absurd rfl h
 | [g],rows,_,hg=>by show scan (g++[SL]) rows [] false=_;rw [GS g [] rows (hg g Q9),Vz,List.all_nil,VB];rfl
 | g::h::r,rows,_,hg=>by
  show scan ((g++SL::inter (h::r))++[SL]) rows [] false=_;rw [SR,Ud,GS g _ rows (hg g Q9),vo (h::r) _ (by simp) fun z hz=>hg z (Ra _ hz),show (g::h::r).all jg=(jg g&&(h::r).all jg) from rfl];cases jg g with
  | false=>rw [Ve]; rfl
  | true =>rw [VC,if_pos rfl,SR];rfl
def groups:List Rf→List (List Rf)
 | []=>[[]]
 | w::ws=>if w=SL then []::groups ws else match groups ws with
  | []=>[[w]]
  | g::r=>(w::g)::r
theorem pb:∀ ws:List Rf,groups ws≠[]
 | []=>by simp [groups]
 | w::ws=>by
  unfold groups;split
  ·simp
  ·split <;> simp
theorem rT:∀ ws:List Rf,inter (groups ws)=ws
 | []=>rfl
 | w::ws=>by
  have ih:=rT ws;have hn:=pb ws;unfold groups;cases e:groups ws with
  | nil=>exact absurd e hn
  | cons g r =>
   rw [e] at ih;by_cases c:w=SL
   ·rw [if_pos c];show []++SL::inter (g::r)=_;rw [ih,c];rfl
   ·rw [if_neg c];show inter ((w::g)::r)=_;cases r with
    | nil =>show w::g=w::ws;rw [show g=ws from ih]
    | cons h r =>show (w::g)++SL::inter (h::r)=w::ws;rw [← ih];rfl
theorem tW:∀ (ws:List Rf),∀ g∈groups ws,∀ w∈g,w≠SL
 | [],g,hg,w,hw=>by have:g=[]:=Q3.mp hg;rw [this] at hw;cases hw
 | z::ws,g,hg,w,hw=>by
  have ih:=tW ws;unfold groups at hg;split at hg
  ·rcases Ri.mp hg with q | q
   ·rw [q] at hw; cases hw
   ·exact ih g q w hw
  ·rename_i c;split at hg
   ·rw [Q3.mp hg] at hw;rw [Q3.mp hw];exact c
   ·rename_i g0 r e;rcases Ri.mp hg with q | q
    ·rw [q] at hw;rcases Ri.mp hw with p | p
     ·rw [p]; exact c
     ·exact ih g0 (by rw [e]; exact Q9) w p
    ·exact ih g (by rw [e]; exact Ra _ q) w hw
theorem zU:∀ (gs:List (List Rf)),gs≠[]→(∀ g∈gs,∀ w∈g,w≠SL)→groups (inter gs)=gs:=by
 have one:∀ (g:List Rf) (rest:List Rf),(∀ w∈g,w≠SL)→groups (g++SL::rest)=g::groups rest:=by
  intro g;induction g with
  | nil=>intro rest _; rw [TH]; conv=>lhs; unfold groups; rw [if_pos rfl]
  | cons w g ih =>
   intro rest h;rw [Ud]
   conv=>lhs; unfold groups
   rw [if_neg (h w Q9),ih rest fun z hz=>h z (Ra _ hz)]
 have last:∀ (g:List Rf),(∀ w∈g,w≠SL)→groups g=[g]:=by
  intro g;induction g with
  | nil=>intro _; rfl
  | cons w g ih =>
   intro h
   conv=>lhs; unfold groups
   rw [if_neg (h w Q9),ih fun z hz=>h z (Ra _ hz)]
 intro gs;induction gs with
 | nil=>intro h; exact absurd rfl h
 | cons g r ih =>
  intro _ h;cases r with
  | nil=>exact last g (h g Q9)
  | cons q r =>show groups (g++SL::inter (q::r))=_;rw [one g _ (h g Q9),ih (by simp) fun z hz=>h z (Ra _ hz)]
theorem vV (y:Rf):∀ (a b:List Rf),a≠[]→b≠[]→Rh y (a++b)=Rh y a++y++Rh y b
 | [],_,h,_=>absurd rfl h
 | [p],b,_,hb=>by
  cases b with
  | nil=>exact absurd rfl hb
  | cons q r=>rfl
 | p::q::r,b,_,hb=>by have ih:=vV y (q::r) b (by simp) hb;show p++y++Rh y ((q::r)++b)=p++y++Rh y (q::r)++y++Rh y b;rw [ih];simp only [YL]
theorem bar:(" / " : Rf) = " " ++ SL ++ " " := by apply fi; decide +kernel
theorem wa:∀ (gs:List (List Rf)),gs≠[]→(∀ g∈gs,g≠[])→inter gs≠[]
 | [],h,_=>absurd rfl h
 | [g],_,h=>h g Q9
 | g::h::r,_,_=>by simp [inter]
theorem mE:∀ (gs:List (List Rf)),gs≠[]→(∀ g∈gs,g≠[])→Rh " " (inter gs)=Rh " / " (gs.map (Rh " "))
 | [],h,_=>absurd rfl h
 | [g],_,_=>rfl
 | g::h::r,_,hg=>by
  have ih:=mE (h::r) (by simp) fun z hz=>hg z (Ra _ hz);show Rh " " (g++SL::inter (h::r))=Rh " " g ++ " / " ++ Rh " / " ((h::r).map (Rh " "));rw [vV " " g _ (hg g Q9) (by simp),← ih];have e:Rh " " (SL::inter (h::r))=SL ++ " " ++ Rh " " (inter (h::r)):=by rw [show (SL::inter (h::r):List Rf)=[SL]++inter (h::r) from rfl,vV " " [SL] _ (by simp) (wa _ (by simp) fun z hz=>hg z (Ra _ hz))];rfl
  rw [e,bar];simp only [YL]
theorem fL (x y:Rf):Rh y (aQ x y)=x:=by
 have h:=StrLaws.join_split x y;unfold Txt.split at h;unfold aQ;by_cases c1:(decide (x.length<y.length) || decide (Tq x<Tq y))=true
 ·rw [c1,Yu,if_pos rfl];rfl
 ·rw [if_neg c1] at h;have c1:=Uu.mpr c1;rw [c1,Uo];exact h
theorem Ht (x:Rf) (w a:Nat):∀ cuts:List Nat,TF x w a cuts≠[]
 | []=>by simp [TF]
 | k::r=>by simp [TF]
theorem oX (x y:Rf):aQ x y≠[]:=by
 unfold aQ;split
 ·simp
 ·rw [W5];exact Ht x _ _ _
def pP (p:Rf):Bool:=decide (p=DT∨∀ w∈aQ p " ", qz w=true)
def xm (p:Rf):List Int:=if p=DT then [] else (aQ p " ").map valN
theorem gh (hne:ws≠[]) (h:∀ w∈ws,32∉cs w):aQ (Rh " " ws) " " = ws:=vh (c:=32) (d:=0) rfl (fun i hi=>by lia) ‹0› hne h
theorem EI {ps:List Rf} (hne:ps≠[]) (h:∀ p∈ps,47∉cs p):aQ (Rh " / " ps) " / " = ps:=by
 refine vh (c:=47) (d:=1) rfl (fun i hi=>?_) ‹0› hne h;have:i=0:=by lia
 subst this;show some 32≠some 47;decide
theorem zS {y:Rf} {c:Nat}:∀ {ps:List Rf},c∈cs (Rh y ps)→c∈cs y∨∃ p∈ps,c∈cs p
 | [],h=>by cases h
 | [p],h=>.inr ⟨p,Q9,h⟩
 | p::q::r,h=>by
  have h:c∈cs (p++y++Rh y (q::r)):=h;rw [ck,ck] at h;rcases RD.mp h with h | h
  ·rcases RD.mp h with h | h
   ·exact .inr ⟨p,Q9,h⟩
   ·exact .inl h
  ·rcases zS (ps:=q::r) h with h | ⟨z,hz,h⟩
   ·exact .inl h
   ·exact .inr ⟨z,Ra _ hz,h⟩
theorem wd {g:List Rf} (h:jg g=true):g≠[]:=by
 rcases of_decide_eq_true h with h | h
 ·rw [h]; simp
 ·exact h.1
theorem ky {g:List Rf} (h:jg g=true) {w:Rf} (hw:w∈g) {c:Nat} (hc:c∈cs w):c=46∨c=45∨(48≤c∧c≤57):=by
 rcases of_decide_eq_true h with h | h
 ·rw [h] at hw;rw [Q3.mp hw] at hc;exact .inl (Q3.mp (show c∈[46] from hc))
 ·exact .inr (Ft (h.2 w hw) hc)
theorem yc {g:List Rf} (h:jg g=true):pP (Rh " " g)=true∧xm (Rh " " g)=xr g:=by
 by_cases c:g=[DT]
 ·subst c;have e:Rh " " [DT]=DT:=rfl;rw [e];exact ⟨decide_eq_true (.inl rfl),by unfold xm xr; rw [if_pos rfl,if_pos rfl]⟩
 ·have h2:=(of_decide_eq_true h).resolve_left c;have es:aQ (Rh " " g) " " = g:=gh h2.1 fun w hw hc=>by have:=ky h hw hc;lia
  refine ⟨decide_eq_true (.inr fun w hw=>h2.2 w (by rw [es] at hw; exact hw)),?_⟩;unfold xm xr;rw [if_neg c,if_neg,es];intro z;rw [z] at es;have e2:aQ (DT:Rf) " " = [DT]:=by have:=gh (ws:=[DT]) (by simp) (fun w hw hc=>by rw [Q3.mp hw] at hc;have:32=46:=Q3.mp (show 32∈[46] from hc);lia);exact this
  rw [e2] at es;exact c es.symm
theorem key (x:Rf):scan (aQ x " " ++ [SL]) [] [] false=if (aQ x " / ").all pP=true then some ((aQ x " / ").map xm) else none:=by
 have hw:=rT (aQ x " ");have hx:=fL x " ";have sc:=vo (groups (aQ x " ")) [] (pb _) (tW _);rw [hw,TH] at sc;rw [sc]
 have A:(groups (aQ x " ")).all jg=true→(aQ x " / ").all pP=true∧(aQ x " / ").map xm=(groups (aQ x " ")).map xr:=by
  intro h;rw [Ry] at h
  have e:aQ x " / " = (groups (aQ x " ")).map (Rh " "):=by
   conv=>lhs; rw [← hx,← hw,mE _ (pb _) fun g hg=>wd (h g hg)]
   refine EI (by simpa using pb _) fun p hp hc=>?_;obtain ⟨g,hg,rfl⟩:=RY.mp hp;rcases zS hc with q | ⟨w,hw,q⟩
   ·have:47=32:=Q3.mp (show 47∈[32] from q);lia
   ·have:=ky (h g hg) hw q;lia
  rw [e];constructor
  ·rw [Ry];intro p hp;obtain ⟨g,hg,rfl⟩:=RY.mp hp;exact (yc (h g hg)).1
  ·rw [R7];exact Sx fun g hg=>(yc (h g hg)).2
 by_cases c:(groups (aQ x " ")).all jg=true
 ·obtain ⟨a1,a2⟩:=A c;rw [if_pos c,if_pos a1,a2]
 ·rw [if_neg c,if_neg];intro h;apply c;rw [Ry] at h;have hb:=fL x " / "
  let gf:Rf→List Rf:=fun p=>if p=DT then [DT] else aQ p " "
  have jf:∀ p,Rh " " (gf p)=p:=fun p=>by
   by_cases q:p=DT
   ·show Rh " " (if p=DT then [DT] else aQ p " ")=p;rw [if_pos q,q];rfl
   ·show Rh " " (if p=DT then [DT] else aQ p " ")=p;rw [if_neg q];exact fL p " "
  have ok:∀ p∈aQ x " / ", jg (gf p)=true:=fun p hp=>by
   show jg (if p=DT then [DT] else aQ p " ")=true;by_cases q:p=DT
   ·rw [if_pos q]; exact decide_eq_true (.inl rfl)
   ·rw [if_neg q];exact decide_eq_true (.inr ⟨oX p " ", (of_decide_eq_true (h p hp)).resolve_left q⟩)
  have okg:∀ g∈(aQ x " / ").map gf,jg g=true:=fun g hg=>by obtain ⟨p,hp,rfl⟩:=RY.mp hg;exact ok p hp
  have gne:(aQ x " / ").map gf≠[]:=by simpa using oX x " / "
  have ej:Rh " " (inter ((aQ x " / ").map gf))=x:=by
   rw [mE _ gne fun g hg=>wd (okg g hg),R7]
   have:(aQ x " / ").map (Rh " " ∘ gf)=aQ x " / " := by
    conv=>rhs; rw [← YS (aQ x " / ")]
    exact Sx fun p _=>jf p
   rw [this,hb]
  have inw:∀ (gs:List (List Rf)) (w:Rf),w∈inter gs→w=SL∨∃ g∈gs,w∈g:=by
   intro gs;induction gs with
   | nil=>intro w hw; cases hw
   | cons g r ih =>
    intro w hw;cases r with
    | nil=>exact .inr ⟨g,Q9,hw⟩
    | cons q r =>
     have hw:w∈g++SL::inter (q::r):=hw;rcases RD.mp hw with z | z
     ·exact .inr ⟨g,Q9,z⟩
     ·rcases Ri.mp z with z | z
      ·exact .inl z
      ·rcases ih w z with z | ⟨g2,h1,h2⟩
       ·exact .inl z
       ·exact .inr ⟨g2,Ra _ h1,h2⟩
  have es:aQ x " " = inter ((aQ x " / ").map gf):=by
   conv=>lhs; rw [← ej]
   refine gh (wa _ gne fun g hg=>wd (okg g hg)) fun w hw hc=>?_;rcases inw _ w hw with z | ⟨g,hg,z⟩
   ·rw [z] at hc;have:32=47:=Q3.mp (show 32∈[47] from hc);lia
   ·have:=ky (okg g hg) z hc;lia
  rw [es,zU _ gne,Ry]
  ·exact okg
  ·intro g hg w hw z;rw [z] at hw;have:=ky (okg g hg) hw (c:=47) (show 47∈[47] from Q9);lia
def Good (x:Rf):Prop:=(∀ c∈cs x,c<128)∧x.length≤20000
theorem Dz {c:Nat} (hy:cs y=[c]):uy x y=decide ((cs x)[0]?=some c):=by
 have e:y=⟨#[c]⟩:=fi hy;subst e;have h:=StrLaws.subAt_one x c 0;unfold uy;by_cases q:(cs x)[0]?=some c
 ·obtain ⟨h1,h2⟩:=h.mpr q;rw [decide_eq_true q,h2,VB];exact decide_eq_true h1
 ·rw [decide_eq_false q];rw [Bool.and_eq_false_iff];by_cases h1:0+(⟨#[c]⟩:Rf).length≤x.length
  ·refine .inr ?_;cases e:Builtin.Str.subAt x ⟨#[c]⟩ 0 with
   | false=>rfl
   | true=>exact absurd (h.mp ⟨h1,e⟩) q
  ·exact .inl (decide_eq_false h1)
theorem Kq (c:Nat) (h:c<128):Ib ⟨#[c]⟩ ("0123456789" : Rf)=decide (48≤c∧c≤57):=by
 have:∀ d:Fin 128,Ib ⟨#[d.val]⟩ ("0123456789" : Rf)=decide (48≤d.val∧d.val≤57):=by decide +kernel
 exact this ⟨c,h⟩
theorem qJ {bs:List Bool}:wG (.lst (bs.map D.bl))=some (.bl (bs.all id)):=by show (qU _).map _=_;rw [uu]; rfl
theorem mI {b:DE} (ha:a ρ=some (.str x)) (hb:b ρ=some (.str y)) (h:x≠y):dN false a b ρ=some (.bl false):=by rw [Ef (neg:=false) ha hb rfl,if_neg ‹6›];congr 2;rw [decide_eq_false_iff_not];exact fun z=>h (by cases z; rfl)
theorem oy {b:DE} (ha:a ρ=some (.str x)) (hb:b ρ=some (.str x)):dN false a b ρ=some (.bl true):=yi ha hb rfl
theorem oz {b:DE} (ha:a ρ=some (.str x)) (hb:b ρ=some (.str y)):dN false a b ρ=some (.bl (decide (x=y))):=by
 by_cases c:x=y
 ·rw [decide_eq_true c];subst c;exact oy ha hb
 ·rw [decide_eq_false c];exact mI ha hb c
theorem Io {l:List Nat} {c:Nat} (h:c∈gU l):c∈l:=by
 unfold gU at h;split at h
 ·exact VG h
 ·exact h
theorem Ip (l:List Nat):(gU l).length≤l.length:=by
 unfold gU;split
 ·rw [SY]; lia
 ·lia
theorem Ei (x:Rf):cs (lq x)=(cs x).drop 1:=rfl
theorem Ed (ha:a ρ=some (.str x)) (h:x.length≤Q4):fW dX a ρ=some (.int (x.length:Int)):=c7 ha (by show (if x.length≤Q4 then some (D.int x.length) else none)=_; rw [if_pos h])
theorem sT (h:Good x):gS [.str x]=some (.bl (qz x)):=by
 have hline:Q4=16777216:=Rw;obtain ⟨ha,hl⟩:=h;refine bU nv ?_;rw [yS];unfold kK
 obtain ⟨fig,efig,ev⟩:∃ fig:Rf,cs fig=gU (cs x)∧NW (dw (mM (ak 0) (dC (.str "-")))) (k8 (ak 0) (eM ‹27›) ft) (j5 (ak 0)) [.bo (.str x),.un]=some (.str fig):=by
  have es:dw (mM (ak 0) (dC (.str "-"))) [.bo (.str x),.un]=some (decide ((cs x)[0]?=some 45)):=cj (yf rfl rfl (by rw [Dz (c:=45) rfl])) rfl;unfold gU;by_cases c:(cs x)[0]?=some 45
  ·refine ⟨lq x,by rw [if_pos c]; exact Ei x,?_⟩;unfold NW;rw [es,decide_eq_true c];exact wo rfl rfl rfl (by lia)
  ·refine ⟨x,by rw [if_neg c],?_⟩;unfold NW;rw [es,decide_eq_false c];exact ic rfl rfl
 have hfl:fig.length=(gU (cs x)).length:=by rw [← cR,efig]
 have hfl2:(gU (cs x)).length≤x.length:=by rw [← cR]; exact Ip _
 have hfa:∀ c∈gU (cs x),c<128:=fun c hc=>ha c (Io hc);refine wp_seq (bp ev ?_);walk_at "st"
 have ec:c8 1 [] (mO (ak 1)) (gN true 0) cO (IH (ak 0) (dC (.str "0123456789"))) [.bo (.str x),.pu (.str fig)]=some (((gU (cs x)).map fun c=>decide (48≤c∧c≤57)).map D.bl):=by
  rw [R7];refine bY (fun c=>D.str ⟨#[c]⟩) (xs:=gU (cs x)) ?_ (fun c=>D.bl (decide (48≤c∧c≤57))) fun c hc=>⟨_,rfl,?_⟩
  ·rw [Bp (x:=fig) rfl ⟨?_,by lia⟩]
   ·unfold signs;rw [show fig.cps.toList=gU (cs x) from efig]
   ·rw [← YM,show fig.cps.toList=gU (cs x) from efig,Ry];intro c hc;exact decide_eq_true (hfa c hc)
  ·exact yf rfl rfl (by rw [Kq c (hfa c hc)])
 have e1:dF (dT (fM ‹34› ‹34› ‹27› (fW dX (ak 1)) (dC (.int 60)))) [.bo (.str x),.pu (.str fig)]=some (!decide (1≤(gU (cs x)).length∧(gU (cs x)).length≤60)):=by
  refine cf (dG ?_);rw [dE (i:=1) (j:=(fig.length:Int)) (k:=60) rfl (Ed rfl (by lia)) rfl,hfl];congr 2;rw [Xo];congr 1
  ·exact decide_eq_decide.mpr (by lia)
  ·exact decide_eq_decide.mpr (by lia)
 have e2:dF (dw (fW wG (bw (c8 1 [] (mO (ak 1)) (gN true 0) cO (IH (ak 0) (dC (.str "0123456789"))))))) [.bo (.str x),.pu (.str fig)]=some (!decide (∀ c∈gU (cs x),48≤c∧c≤57)):=by
  refine cf (cj (c7 (bf ec) qJ) ?_);show some _=some _;congr 1;rw [Tn];by_cases c:∀ c∈gU (cs x),48≤c∧c≤57
  ·rw [decide_eq_true c,Ry];exact fun z hz=>decide_eq_true (c z hz)
  ·rw [decide_eq_false c,Uu];intro z;rw [Ry] at z;exact c fun y hy=>of_decide_eq_true (z y hy)
 have e3:C6 (dN false (ak 0) (dC (.str "0"))) (wy (mM (ak 1) (dC (.str "0")))) [.bo (.str x),.pu (.str fig)]=some (.bl (decide (cs x=[48]∨¬ (gU (cs x))[0]?=some 48))):=by have q2:wy (mM (ak 1) (dC (.str "0"))) [.bo (.str x),.pu (.str fig)]=some (.bl (!decide ((cs fig)[0]?=some 48))):=z6 (yf rfl rfl (by rw [Dz (c:=48) rfl]));have q1:dN false (ak 0) (dC (.str "0")) [.bo (.str x),.pu (.str fig)]=some (.bl (decide (x = "0"))):=oz rfl rfl;rw [z5 q1 fun _=>q2,efig,Bool.decide_or,decide_not];congr 3;exact decide_eq_decide.mpr ⟨fun z=>by rw [z]; rfl,fun z=>fi z⟩
 unfold qz;by_cases c1:1≤(gU (cs x)).length∧(gU (cs x)).length≤60
 ·rw [decide_eq_true c1] at e1;by_cases c2:∀ c∈gU (cs x),48≤c∧c≤57
  ·rw [decide_eq_true c2] at e2;refine wp_seq (cm (iF (x:=false) (y:=false) e1 fun _=>e2) (bj (bx e3 ?_)));congr 1;exact decide_eq_decide.mpr ⟨fun z=>⟨c1.1,c1.2,c2,z⟩,fun z=>z.2.2.2⟩
  ·rw [decide_eq_false c2] at e2;refine wp_seq (cA (iF (x:=false) (y:=true) e1 fun _=>e2) (bx rfl ?_));congr 1;exact (decide_eq_false fun z=>c2 z.2.2.1).symm
 ·rw [decide_eq_false c1] at e1;refine wp_seq (cA (iF (x:=true) (y:=true) e1 fun h=>by cases h) (bx rfl ?_));congr 1;exact (decide_eq_false fun z=>c1 ⟨z.1,z.2.1⟩).symm
theorem eO {w:Rf} (h:Good x) (hw:w∈aQ x y):Good w:=by
 have hx:=fL x y
 have sub:∀ (ps:List Rf),w∈ps→(∀ c∈cs w,c∈cs (Rh y ps))∧w.length≤(Rh y ps).length:=by
  intro ps;induction ps with
  | nil=>intro h; cases h
  | cons p r ih =>
   intro h;cases r with
   | nil =>have:w=p:=Q3.mp h;subst this;exact ⟨fun c hc=>hc,Rq _⟩
   | cons q r =>
    have e:Rh y (p::q::r)=p++y++Rh y (q::r):=rfl;rw [e,ck,ck,RL,RL];rcases Ri.mp h with h | h
    ·subst h;exact ⟨fun c hc=>S7 _ (S7 _ hc),by lia⟩
    ·obtain ⟨a,b⟩:=ih h;exact ⟨fun c hc=>RA _ (a c hc),by lia⟩
 obtain ⟨a,b⟩:=sub _ hw;rw [hx] at a b;exact ⟨fun c hc=>h.1 c (a c hc),RE b h.2⟩
theorem BU (x:Rf) (hy:1≤y.length):(aQ x y).length≤x.length+1:=by
 have hx:=fL x y
 have:∀ ps:List Rf,ps.length≤(Rh y ps).length+1:=by
  intro ps;induction ps with
  | nil=>simp
  | cons p r ih =>
   cases r with
   | nil=>simp
   | cons q r =>have e:Rh y (p::q::r)=p++y++Rh y (q::r):=rfl;rw [e,RL,RL,Rt];lia
 have:=this (aQ x y);rw [hx] at this;exact this
theorem nZ (h:Good x) (hn:qz x=true):eE [.str x]=some (.int (valN x)):=by refine bU kD ?_;rw [jT];unfold i6;refine wp_seq (cm (cf (x:=true) (cj (aN ‹26› (by rw [sT h,hn])) rfl)) (bj ?_));refine bx (c7 rfl ?_) rfl;show (if x.length≤640 then (intText? x).map D.int else none)=_;have:=D6 hn;rw [if_pos (by lia),Kl hn];rfl
theorem uD (h:Good x):(Yx x).length≤1000000:=by have:=XR x fun c hc=>S5 (h.1 c hc) ‹6›;have:=h.2;lia
theorem mr (h:Good x) (hn:qz x=false):eC [.str x]=some .non:=by refine fT ik ?_;rw [jT];unfold fR;exact wp_seq (cA (cf (x:=false) (cj (aN ‹26› (by rw [sT h,hn])) rfl)) (lj rfl (uD h) rfl))
def qv (l:List Int):D:=.lst (l.map D.int)
def pD (R:List (List Int)):D:=.lst (R.map qv)
theorem jU {b:DE} (hx:Good x) (hy:1≤y.length) (ha:a ρ=some (.str x)) (hb:b ρ=some (.str y)):fh a b ρ=some ((aQ x y).map D.str):=by have hline:Q4=16777216:=Rw;have:=BU x hy;have:=hx.2;exact Ir ha hb ⟨beq_false_of_ne (by lia),by lia,by lia⟩
theorem A2 {p:Rf} (h:Good p) (ho:pP p=true):iW [.str p]=some (qv (xm p)):=by
 refine bU oN ?_;rw [nU];unfold mV xm;by_cases c:p=DT
 ·subst c;exact wp_seq (cA (dG (oy rfl rfl)) (bx rfl (by rw [if_pos rfl]; rfl)))
 ·have hw:=(of_decide_eq_true ho).resolve_left c;refine wp_seq (cm (dG (mI rfl rfl c)) (bj (bx (d:=.lst ((aQ p " ").map fun w=>.int (valN w))) (bf ?_) ?_)))
  ·exact bY D.str (c6 (bf (jU h ‹6› rfl rfl)) rfl) (fun w=>.int (valN w)) fun w hw2=>⟨_,rfl,aN ‹26› (nZ (eO h hw2) (hw w hw2))⟩
  ·rw [if_neg c];unfold qv;rw [R7];rfl
theorem xU {p:Rf} (h:Good p) (ho:pP p=false):iU [.str p]=some .non:=by
 have ho:=of_decide_eq_false ho;refine fT kh ?_;rw [nU];unfold jj;have c:p≠DT:=fun z=>ho (.inl z);refine wp_seq (cm (dG (mI rfl rfl c)) (bj (uY (ds:=(aQ p " ").map D.str) (c6 (bf (jU h ‹6› rfl rfl)) rfl) (o5 D.str (fun w hw=>?_) ?_) rfl)))
 ·refine ⟨_,rfl,?_⟩;cases q:qz w with
  | true=>exact .inr ⟨_,aN ‹26› (nZ (eO h hw) q)⟩
  | false=>exact .inl ⟨_,aN ‹26› (mr (eO h hw) q)⟩
 ·have:∃ w∈aQ p " ", qz w=false:=UJ fun z=>ho (.inr fun w hw=>by
   cases q:qz w with
   | true=>rfl
   | false=>exact absurd ⟨w,hw,q⟩ z)
  obtain ⟨w,hw,q⟩:=this;refine ⟨w,hw,fun ρ1 e=>?_⟩;cases e;exact ⟨_,aN ‹26› (mr (eO h hw) q)⟩
def g6 (x:Rf):Option (List (List Int)):=if x = "-" then some [] else if (aQ x " / ").all pP=true then some ((aQ x " / ").map xm) else none
theorem jP (h:Good x) (hs:g6 x=some R):d5 [.str x]=some (pD R):=by
 refine bU nj ?_;rw [md];unfold kG;unfold g6 at hs;by_cases c:x = "-"
 ·rw [if_pos c] at hs;cases hs;subst c;exact wp_seq (cA (dG (oy rfl rfl)) (bx rfl rfl))
 ·rw [if_neg c] at hs;split at hs
  ·rename_i q;cases hs;rw [Ry] at q;refine wp_seq (cm (dG (mI rfl rfl c)) (bj (bx (d:=.lst ((aQ x " / ").map fun p=>qv (xm p))) (bf ?_) ?_)))
   ·exact bY D.str (c6 (bf (jU h ‹6› rfl rfl)) rfl) (fun p=>qv (xm p)) fun p hp=>⟨_,rfl,aN ‹26› (A2 (eO h hp) (q p hp))⟩
   ·unfold pD;rw [R7];rfl
  ·cases hs
theorem qm (h:Good x) (hs:g6 x=none):c5 [.str x]=some .non:=by
 refine fT jo ?_;rw [md];unfold iw;unfold g6 at hs;by_cases c:x = "-"
 ·rw [if_pos c] at hs;cases hs
 ·rw [if_neg c] at hs;split at hs
  ·cases hs
  ·rename_i ho;refine wp_seq (cm (dG (mI rfl rfl c)) (bj (uY (ds:=(aQ x " / ").map D.str) (c6 (bf (jU h ‹6› rfl rfl)) rfl) (o5 D.str (fun w hw=>?_) ?_) rfl)))
   ·refine ⟨_,rfl,?_⟩;cases q:pP w with
    | true=>exact .inr ⟨_,aN ‹26› (A2 (eO h hw) q)⟩
    | false=>exact .inl ⟨_,aN ‹26› (xU (eO h hw) q)⟩
   ·have:∃ w∈aQ x " / ", pP w=false:=UJ fun z=>ho (by
     rw [Ry];intro w hw;cases q:pP w with
     | true=>rfl
     | false=>exact absurd ⟨w,hw,q⟩ z)
    obtain ⟨w,hw,q⟩:=this;refine ⟨w,hw,fun ρ1 e=>?_⟩;cases e;exact ⟨_,aN ‹26› (xU (eO h hw) q)⟩
def WS:List Rf:=["alike", "open", "tails", "windows", "tree", "pairs"]
def KA:List Q6:=[wF,Af,ke,qG,mR,wD]
def Kn (C:Q6):D:=.ins C
theorem yg {b:DE} (ha:a ρ=some d) (hb:b ρ=some d) (h:nN 20 d d=true):dN true a b ρ=some (.bl false):=by rw [Ef ha hb h,if_pos rfl]; simp
theorem bits_add {x c:Int} {k:Nat} (hk:10≤k) (hb:RU x≤k) (h0:0≤c) (h1:c<1000):RU (x+c)≤k+1:=by
 have p:1000≤2 ^ k:=RE (show 1000≤2 ^ 10 by decide) (Nat.pow_le_pow_right ‹6› hk)
 have hx:x.natAbs<2 ^ k:=by
  by_cases c:x=0
  ·rw [c]; show 0<2 ^ k; lia
  ·unfold RU at hb;rw [if_neg (by simpa using c)] at hb;exact (Wv (by lia)).mp (by lia)
 have hy:(x+c).natAbs<2 ^ (k+1):=by rw [Nat.pow_succ];generalize 2 ^ k=P at p hx;lia
 unfold RU;split
 ·lia
 ·rename_i z;have z:¬ x+c=0:=by simpa using z
  have:=(Wv (show (x+c).natAbs≠0 by lia)).mpr hy;lia
def hU (x k:Int):Int:=(x*x+k*x+7*k*k)*1103515245 % 2147483629
theorem mix (x k:Int) (hb:RU x≤1048577) (h0:0≤k) (h1:k<1000):fu [.int x,.int k]=some (.int (hU x k)):=by refine bU t4 ?_;rw [Gw];unfold uU;refine bx (j9 (mH (k4 (k4 (mH rfl rfl (IntMulOk.of_le hb hb ‹6›)) (mH rfl rfl (Bk (by lia)))) (mH (mH rfl rfl (Bk (by lia))) rfl (Bk (by lia)))) rfl (Bk (by lia))) rfl ‹6›) rfl
theorem uI (x k:Int):0≤hU x k∧hU x k<2147483629:=⟨Xp _ ‹6›,Wf _ ‹6›⟩
def Gn (n:Nat) (x:Rf):Prop:=(∀ c∈x.cps.toList,64<c∧c<128)∧x.length≤n
theorem Gn.slice (hx:Gn n x) (lo hi:Option Int):Gn n (kT x lo hi):=by
 refine ⟨fun c hc=>?_,RE (xN x lo hi) hx.2⟩;have hc:c∈(Builtin.Str.strSliceIndices lo hi 1 x.length).filterMap (x.cps[·]?):=by unfold kT at hc;simpa using hc
 obtain ⟨i,_,e⟩:=Ug.mp hc;have:=Array.mem_of_getElem? e;exact hx.1 c (by simpa using this)
theorem Gn.repr (hx:Gn 40 x):(Yx x).length≤1000000:=by have:=XR x fun c hc=>S5 (hx.1 c hc).2 ‹6›;have:=hx.2;lia
theorem LV {w:Rf} {k:Nat} (h:WS[k]?=some w):Gn 7 w:=by
 unfold WS at h
 match k,h with
 | 0,h=>cases h; exact ⟨by decide,by decide⟩
 | 1,h=>cases h; exact ⟨by decide,by decide⟩
 | 2,h=>cases h; exact ⟨by decide,by decide⟩
 | 3,h=>cases h; exact ⟨by decide,by decide⟩
 | 4,h=>cases h; exact ⟨by decide,by decide⟩
 | 5,h=>cases h; exact ⟨by decide,by decide⟩
def hV:Rf := "abcdefghijklmnopqrstuvwxyz"
theorem vS:mU []=some (.lst (KA.map Kn)):=by refine fT t5 ?_;rw [Gx];unfold uV;exact bx (bf (af rfl (af rfl (af rfl (af rfl ‹20›))))) rfl
theorem w1:cV [s]=some (.str "alike"):=by refine bU l6 ?_; rw [wU]; unfold jK; exact bx rfl rfl
theorem w2:du [s]=some (.str "open"):=by refine bU nB ?_; rw [yV]; unfold kN; exact bx rfl rfl
theorem w3:cS [s]=some (.str "tails"):=by refine bU lY ?_; rw [wN]; unfold jG; exact bx rfl rfl
theorem w4:cq [s]=some (.str "windows"):=by refine bU kl ?_; rw [t8]; unfold ir; exact bx rfl rfl
theorem w5:dr [s]=some (.str "tree"):=by refine bU ny ?_; rw [yT]; unfold kL; exact bx rfl rfl
theorem w6:cT [s]=some (.str "pairs"):=by refine bU l4 ?_; rw [wQ]; unfold jI; exact bx rfl rfl
noncomputable abbrev MT:List (Q6×(List D→Option D)):=[(wF,cV),(Af,du),(ke,cS),(qG,cq),(mR,dr),(wD,cT)]
theorem uJ {k:Nat} {w:Rf} (h1:KA[k]?=some C) (h2:WS[k]?=some w) (ha:a ρ=some (.ins C)):lL MT a aP ρ=some (.str w):=by
 unfold KA at h1;unfold WS at h2
 match k,h1,h2 with
 | 0,h1,h2=>cases h1; cases h2; exact gE ha rfl rfl w1
 | 1,h1,h2=>cases h1; cases h2; exact gE ha rfl rfl w2
 | 2,h1,h2=>cases h1; cases h2; exact gE ha rfl rfl w3
 | 3,h1,h2=>cases h1; cases h2; exact gE ha rfl rfl w4
 | 4,h1,h2=>cases h1; cases h2; exact gE ha rfl rfl w5
 | 5,h1,h2=>cases h1; cases h2; exact gE ha rfl rfl w6
theorem D4 (h:(KA.map Kn)[j]?=some d):∃ C w,d=.ins C∧KA[j]?=some C∧WS[j]?=some w:=by rw [Ro] at h;obtain ⟨C,h1,rfl⟩:=S9.mp h;have hj:j<6:=(Rp.mp h1).1;exact ⟨C,_,rfl,h1,Q8 (l:=WS) hj⟩
theorem uK (hx:x∈WS):∃ (k:Nat) (C:Q6),dD [.str x]=some (.ins C)∧KA[k]?=some C∧WS[k]?=some x:=by
 obtain ⟨d,e,k,C,rfl,h1,h2⟩:=zx pY (ds:=[.str x]) (P:=fun d=>∃ (k:Nat) (C:Q6),d=.ins C∧KA[k]?=some C∧WS[k]?=some x) (by
  rw [qh];unfold pq;refine wp_seq (iL (c6 (aN rfl vS) rfl) (fun j ρ=>(∃ v,ρ=[.bo (.str x),v])∧∀ i,i<j→WS[i]?≠some x) ⟨⟨_,rfl⟩,fun i h=>by lia⟩ ?_ ?_)
  ·rintro j d ρ hd ⟨⟨v,rfl⟩,hn⟩;obtain ⟨C,w,rfl,h1,h2⟩:=D4 hd;refine ⟨_,rfl,?_⟩;dsimp only [gN,wW,RZ,R0];refine p0 (dG (oz (uJ h1 h2 rfl) rfl)) (fun e=>?_) (fun e=>bj ⟨⟨_,rfl⟩,fun i hi=>?_⟩)
   ·exact bx rfl ⟨j,C,rfl,h1,by rw [← e]; exact h2⟩
   ·rcases Nat.lt_succ_iff_lt_or_eq.mp hi with h | rfl
    ·exact hn i h
    ·rw [h2]; exact fun q=>e (R5 q)
  ·rintro ρ ⟨_,hn⟩;obtain ⟨i,hi,e⟩:=List.getElem_of_mem hx;exact absurd (by rw [Q8 hi,e]) (hn i hi))
 exact ⟨k,C,e,h1,h2⟩
theorem HW (hx:x∉WS) (hg:Gn 40 x):jQ [.str x]=some .non:=by
 refine fT k9 ?_;rw [qh];unfold ko;refine wp_seq (iL (c6 (aN rfl vS) rfl) (fun j ρ=>∃ v,ρ=[.bo (.str x),v]) ⟨_,rfl⟩ ?_ ?_)
 ·rintro j d ρ hd ⟨v,rfl⟩;obtain ⟨C,w,rfl,h1,h2⟩:=D4 hd;refine ⟨_,rfl,?_⟩;dsimp only [gN,wW,RZ,R0];exact p0 (dG (oz (uJ h1 h2 rfl) rfl)) (fun e=>absurd (by rw [← e]; exact RB h2) hx) fun _=>bj ⟨_,rfl⟩
 ·rintro ρ ⟨v,rfl⟩;exact lj rfl hg.repr rfl
theorem vP (r:List Int):dX (qv r)=some (.int r.length):=by show some (D.int ((r.map D.int).length:Nat))=_; rw [Q5]
theorem Bh (rs:List (List Int)):dX (pD rs)=some (.int rs.length):=by show some (D.int ((rs.map qv).length:Nat))=_; rw [Q5]
def t1 (h:List Int) (lo hi:Int):Bool:=decide (h.length=1)&&(decide (lo≤h.getD 0 0)&&decide (h.getD 0 0≤hi))
def nb (r:List Int):Bool:=r.all fun v=>decide (0≤v)
theorem Aa (n k:Nat):decide ((n:Int)=(k:Int))=decide (n=k):=by rw [RG]; simp; lia
theorem oU (h:List Int) (lo hi:Int):d4 [qv h,.int lo,.int hi]=some (.bl (t1 h lo hi)):=by
 refine bU nc ?_;rw [yO];unfold kE t1;refine bx (fV (x:=decide (h.length=1)) (y:=decide (lo≤h.getD 0 0)&&decide (h.getD 0 0≤hi)) ?_ fun c=>?_) rfl
 ·rw [qB (c7 rfl (vP h)) rfl,show (1:Int)=((1:Nat):Int) from rfl,Aa]
 ·have c:=of_decide_eq_true c;exact dE (i:=lo) (j:=h.getD 0 0) (k:=hi) rfl (c0 rfl rfl (LC (by lia) (by lia))) rfl
theorem mC (r:List Int):d7 [qv r,.int 0]=some (.bl (nb r)):=by
 refine bU lU ?_;rw [wM];unfold jF;refine bx (c7 (bf (ds:=(r.map fun v=>decide (0≤v)).map D.bl) ?_) qJ) ?_
 ·rw [R7];exact bY D.int (c6 rfl rfl) _ fun v _=>⟨_,rfl,Ee rfl rfl⟩
 ·unfold nb;rw [Tn];rfl
theorem nY {rs:List (List Int)} {k:Nat} (h:rs[k]?=some r):FW (pD rs) (k:Int)=some (qv r):=by have hk:=(Rp.mp h).1;show lh (rs.map qv) (k:Int)=_;unfold lh;rw [Q5,vW (by lia) (by lia)];show (rs.map qv)[(k:Int).toNat]?=_;rw [Ro,Tz,h];rfl
def Nv (rs:List (List Int)):Bool:=match rs with
 | [h,r]=>t1 h 1 20&&(decide (r.length≤20)&&nb r)
 | _=>false
theorem Kx {rs:List (List Int)} (h:rs.length≠2):Nv rs=false:=by
 match rs,h with
 | [],_=>rfl
 | [_],_=>rfl
 | [_,_],h=>exact absurd rfl h
 | _::_::_::_,_=>rfl
theorem Ge {rs:List (List Int)} (h:rs.length=2):∃ a b,rs=[a,b]:=by
 match rs,h with
 | [a,b],_=>exact ⟨a,b,rfl⟩
theorem vO {rs:List (List Int)} (ha:a ρ=some (pD rs)) (k:Nat):dT (dN true (fW dX a) (dC (.int (k:Int)))) ρ=some (decide (rs.length≠k)):=by refine dG ?_;rw [wt (c7 ha (Bh rs)) rfl];congr 2;rw [RG];simp;lia
theorem C8 (s:D) (rs:List (List Int)):bM [s,pD rs]=some (.bl (Nv rs)):=by
 refine bU l9 ?_;rw [wV];unfold jL;by_cases h2:rs.length=2
 ·obtain ⟨h,r,rfl⟩:=Ge h2;have e1:=oU h 1 20;cases c:t1 h 1 20 with
  | false =>rw [c] at e1;refine wp_seq (cA (iF (x:=false) (y:=true) ((vO rfl 2).trans rfl) fun _=>cf (x:=false) (cj (aN (af (c0 rfl rfl (nY (rs:=[h,r]) (k:=0) rfl)) ‹20›) e1) rfl)) (bx rfl ?_));show D.bl false=D.bl (t1 h 1 20&&_);rw [c]; rfl
  | true =>
   rw [c] at e1;refine wp_seq (cm (iF (x:=false) (y:=false) ((vO rfl 2).trans rfl) fun _=>cf (x:=true) (cj (aN (af (c0 rfl rfl (nY (rs:=[h,r]) (k:=0) rfl)) ‹20›) e1) rfl)) (bj ?_));have er:∀ ρ:aU,ak 1 ρ=some (pD [h,r])→cY (ak 1) ‹27› ρ=some (qv r):=fun ρ q=>c0 q rfl (nY (rs:=[h,r]) (k:=1) rfl);refine bx (fV (x:=decide (r.length≤20)) (y:=nb r) ?_ fun _=>aN (af (er _ rfl) ‹26›) (mC r)) ?_
   ·rw [wu (c7 (er _ rfl) (vP r)) rfl];congr 2;rw [RG];simp;lia
   ·show D.bl _=D.bl (t1 h 1 20&&_);rw [c]; rfl
 ·refine wp_seq (cA (iF (x:=true) (y:=false) ((vO rfl 2).trans (by rw [decide_eq_true h2])) fun c=>by cases c) (bx rfl ?_));rw [Kx h2]
def g1 (n:Nat) (r:List Int):Bool:=decide (r.length=n)&&(decide (r.length≤6)&&nb r)
def Nu (rs:List (List Int)):Bool:=decide (rs.length≤6)&&rs.all (g1 (rs.headD []).length)
theorem M0 {rs:List (List Int)} (ha:a ρ=some (pD rs)) (k:Nat):dT (KO (fW dX a) (dC (.int (k:Int)))) ρ=some (decide (k<rs.length)):=by refine dG ?_;rw [yh (c7 ha (Bh rs)) rfl];congr 2;rw [RG];simp
theorem JO (ha:a ρ=some (qv r)) (k:Nat):dT (KO (fW dX a) (dC (.int (k:Int)))) ρ=some (decide (k<r.length)):=by refine dG ?_;rw [yh (c7 ha (vP r)) rfl];congr 2;rw [RG];simp
theorem JN (ha:a ρ=some (qv r)) (k:Nat):KN (fW dX a) (dC (.int (k:Int))) ρ=some (.bl (decide (r.length≤k))):=by rw [wu (c7 ha (vP r)) rfl];congr 2;rw [RG];simp
theorem zy (ha:a ρ=some (qv r)) (k:Nat):dN false (fW dX a) (dC (.int (k:Int))) ρ=some (.bl (decide (r.length=k))):=by rw [qB (c7 ha (vP r)) rfl,Aa]
theorem rS {rs:List (List Int)} (h:rs≠[]) (ha:a ρ=some (pD rs)):cY a ‹31› ρ=some (qv (rs.headD [])):=by
 cases rs with
 | nil=>exact absurd rfl h
 | cons x t=>exact c0 ha rfl (nY (rs:=x::t) (k:=0) rfl)
theorem E8 (s:D) (rs:List (List Int)):bW [s,pD rs]=some (.bl (Nu rs)):=by
 refine bU nC ?_;rw [yW];unfold kO Nu;refine wp_seq (p0 (M0 rfl 6) (fun c=>?_) fun c=>bj ?_)
 ·refine bx rfl ?_;rw [decide_eq_false (by lia)];rfl
 ·rw [decide_eq_true (by lia),VC];refine bx (c7 (bf (ds:=(rs.map (g1 (rs.headD []).length)).map D.bl) ?_) qJ) ?_
  ·rw [R7];refine bY qv (c6 rfl rfl) _ fun r hr=>⟨_,rfl,?_⟩
   have hne:rs≠[]:=fun z=>by rw [z] at hr; cases hr
   refine fV (x:=decide (r.length=(rs.headD []).length)) ?_ fun _=>fV (JN rfl 6) fun _=>aN ‹20› (mC r);rw [qB (c7 rfl (vP r)) (c7 (rS hne rfl) (vP _)),Aa]
  ·rw [Tn];rfl
def g2 (r:List Int):Bool:=decide (r.length=3)&&(nb r&&decide (1≤r.getD 1 0))
def Nt (rs:List (List Int)):Bool:=decide (rs.length≤12)&&rs.all g2
theorem zM (ha:a ρ=some (qv r)) {k:Nat} (hk:k<r.length):cY a (dC (.int (k:Int))) ρ=some (.int (r.getD k 0)):=c0 ha rfl (LC (by lia) (by lia))
theorem B4 (s:D) (rs:List (List Int)):bK [s,pD rs]=some (.bl (Nt rs)):=by
 refine bU lZ ?_;rw [wO];unfold jH Nt;refine bx (fV (x:=decide (rs.length≤12)) (y:=rs.all g2) ?_ fun _=>?_) rfl
 ·rw [wu (c7 rfl (Bh rs)) rfl];congr 2;rw [RG];simp;lia
 ·refine (c7 (bf (ds:=(rs.map g2).map D.bl) ?_) qJ).trans ?_
  ·rw [R7];refine bY qv (c6 rfl rfl) _ fun r hr=>⟨_,rfl,?_⟩
   refine fV (zy rfl 3) fun c=>fV (aN ‹20› (mC r)) fun _=>?_;have c:=of_decide_eq_true c;exact Ee (zM (k:=1) rfl (by lia)) rfl
  ·rw [Tn];rfl
def g3 (r:List Int):Bool:=decide (r.length=3)&&(nb r&&decide (r.getD 0 0≤r.getD 1 0))
def O2 (rs:List (List Int)):Bool:=match rs with
 | []=>false
 | h::t=>decide (t.length≤8)&&(t1 h 1 8&&t.all g3)
theorem uv {h:List Int} {t:List (List Int)} (ha:a ρ=some (pD (h::t))):bw (yn a (eM ‹27›) ft) ρ=some (pD t):=by
 refine bf ?_;rw [Bo (c6 ha rfl) rfl rfl];congr 1;unfold xv;have e0:HT.uB ((h::t).map qv).length 0 (some 1)=1:=by unfold HT.uB;simp
 have e1:HT.uB ((h::t).map qv).length ((h::t).map qv).length none=t.length+1:=by unfold HT.uB;simp
 rw [e0,e1,R4,List.drop_succ_cons,V6,Nat.add_sub_cancel,TQ (by rw [Q5]; exact Rq _)]
theorem yE (s:D) (rs:List (List Int)):bA [s,pD rs]=some (.bl (O2 rs)):=by
 refine bU km ?_;rw [t9];unfold iu;cases rs with
 | nil=>exact wp_seq (cA (iF (x:=true) (y:=false) (cf (x:=false) (dG ((dE (i:=1) (j:=0) (k:=9) rfl (c7 rfl (Bh [])) rfl).trans rfl))) fun c=>by cases c) (bx rfl rfl))
 | cons h t =>
  have e1:=oU h 1 8;have key:∀ ρ:aU,ak 1 ρ=some (pD (h::t))→BQ (dF (dT (fM ‹34› ‹34› ‹27› (fW dX (ak 1)) (dC (.int 9))))) (dF (dw (aJ d4 (aq (cY (ak 1) ‹31›) (aq ‹27› (aq (dC (.int 8)) aP)))))) ρ=some (!decide (t.length≤8) || !t1 h 1 8):=fun ρ q=>by refine iF (cf (dG ?_)) fun _=>cf (cj (aN (af (rS (rs:=h::t) (by simp) q) ‹20›) e1) rfl);rw [dE (i:=1) (j:=((h::t).length:Int)) (k:=9) rfl (c7 q (Bh (h::t))) rfl];congr 2;rw [RG];simp;lia
  refine wp_seq (qQ (key _ rfl) (fun c=>bx rfl ?_) fun c=>bj ?_)
  ·show D.bl false=D.bl (decide (t.length≤8)&&(t1 h 1 8&&t.all g3));congr 1;cases a:decide (t.length≤8) with
   | false=>rfl
   | true =>
    rw [a] at c;cases b:t1 h 1 8 with
    | false=>rfl
    | true=>rw [b] at c; cases c
  ·rw [VH,U2,U2] at c;refine bx ((c7 (bf (ds:=(t.map g3).map D.bl) ?_) qJ)) ?_
   ·rw [R7];refine bY qv (c6 (uv rfl) rfl) _ fun r hr=>⟨_,rfl,?_⟩
    refine fV (zy rfl 3) fun c=>fV (aN ‹20› (mC r)) fun _=>?_;have c:=of_decide_eq_true c;exact wu (zM (k:=0) rfl (by lia)) (zM (k:=1) rfl (by lia))
   ·show D.bl _=D.bl (decide (t.length≤8)&&(t1 h 1 8&&t.all g3));rw [c.1,c.2,Tn];rfl
open Classical in
noncomputable def Nr (rs:List (List Int)):Bool:=match rs with
 | [h,r]=>t1 h 1 20&&(decide (r.length≤40)&&decide (Tr.Ok r))
 | _=>false
theorem Ec {rs:List (List Int)} (h:rs.length≠2):Nr rs=false:=by
 match rs,h with
 | [],_=>rfl
 | [_],_=>rfl
 | [_,_],h=>exact absurd rfl h
 | _::_::_::_,_=>rfl
open Classical in
theorem EB (s:D) (rs:List (List Int)) (hw:∀ r∈rs,∀ v∈r,v.natAbs<10 ^ 70):bV [s,pD rs]=some (.bl (Nr rs)):=by
 refine bU nA ?_;rw [yU];unfold kM;by_cases h2:rs.length=2
 ·obtain ⟨h,r,rfl⟩:=Ge h2;have e1:=oU h 1 20;have er:∀ ρ:aU,ak 1 ρ=some (pD [h,r])→cY (ak 1) ‹27› ρ=some (qv r):=fun ρ q=>c0 q rfl (nY (rs:=[h,r]) (k:=1) rfl);refine wp_seq (qQ (iF (x:=false) ((vO rfl 2).trans rfl) fun _=>iF (cf (cj (aN (af (c0 rfl rfl (nY (rs:=[h,r]) (k:=0) rfl)) ‹20›) e1) rfl)) fun _=>JO (er _ rfl) 40) (fun c=>bx rfl ?_) fun c=>bj ?_)
  ·show D.bl false=D.bl (t1 h 1 20&&(decide (r.length≤40)&&_));rw [Uo,TJ] at c;rcases c with c | c
   ·rw [show t1 h 1 20=false by simpa using c]; rfl
   ·rw [decide_eq_false (show ¬ r.length≤40 by have:=of_decide_eq_true c; lia),Ve,SX]
  ·rw [Uo,VH] at c;have c1:t1 h 1 20=true:=by simpa using c.1
   have c2:r.length≤40:=by have:=of_decide_eq_false c.2; lia
   have g:=Nk c2 (hw r (by simp));by_cases o:Tr.Ok r
   ·rw [decide_eq_true o] at g;refine wp_seq (Dh (af (er _ rfl) rfl) g (bx rfl ?_));show D.bl true=D.bl (t1 h 1 20&&(decide (r.length≤40)&&decide (Tr.Ok r)));rw [c1,decide_eq_true c2,decide_eq_true o]; rfl
   ·rw [decide_eq_false o] at g;refine wp_seq (Di (af (er _ rfl) rfl) g ?_);show D.bl false=D.bl (t1 h 1 20&&(decide (r.length≤40)&&decide (Tr.Ok r)));rw [decide_eq_false o,SX,SX]
 ·refine wp_seq (cA (iF (x:=true) (y:=false) ((vO rfl 2).trans (by rw [decide_eq_true h2])) fun c=>by cases c) (bx rfl ?_));rw [Ec h2]
def CD (r:List Int):Int×Int:=(r.getD 0 0,r.getD 1 0)
open Classical in
noncomputable def O1 (rs:List (List Int)):Bool:=match rs with
 | []=>false
 | h::t=>t1 h 0 14&&‹89›
theorem Hv (h:r.length=2):qv r=Pr.x3 (CD r):=by
 match r,h with
 | [a,b],_=>rfl
theorem E7 {t:List (List Int)} (h:∀ r∈t,r.length=2):pD t=Pr.fJ (t.map CD):=by unfold pD Pr.fJ;rw [R7];congr 1;exact Sx fun r hr=>Hv (h r hr)
theorem Oe {h:List Int} {lo hi:Int} (c:t1 h lo hi=true):h.length=1∧lo≤h.getD 0 0∧h.getD 0 0≤hi:=by unfold t1 at c;rw [RS,RS] at c;exact ⟨of_decide_eq_true c.1,of_decide_eq_true c.2.1,of_decide_eq_true c.2.2⟩
open Classical in
theorem CG (s:D) (rs:List (List Int)) (hl:rs.length≤1000) (hw:∀ r∈rs,∀ v∈r,v.natAbs<10 ^ 70):bL [s,pD rs]=some (.bl (O1 rs)):=by
 refine bU l5 ?_;rw [wR];unfold jJ;cases rs with
 | nil=>exact wp_seq (cA (iF (x:=true) (y:=false) (cf (x:=false) (cj rfl rfl)) fun c=>by cases c) (bx rfl rfl))
 | cons h t =>
  have e1:=oU h 0 14
  have ea:∀ ρ:aU,aX 1 ρ=some (pD (h::t))→dw (fW wG (bw (c8 1 [] (lN (bw (yn (aX 1) (eM ‹27›) ft))) (gN true 0) cO (dN false (fW dX (ak 0)) (dC (.int 2)))))) ρ=some (t.all fun r=>decide (r.length=2)):=fun ρ q=>by
   refine cj (d:=.bl (t.all fun r=>decide (r.length=2))) ((c7 (bf (ds:=(t.map fun r=>decide (r.length=2)).map D.bl) ?_) qJ).trans ?_) rfl
   ·rw [R7];exact bY qv (c6 (uv q) rfl) _ fun r hr=>⟨_,rfl,zy rfl 2⟩
   ·rw [Tn];rfl
  refine wp_seq (qQ (iF (x:=false) (cf (x:=true) (cj rfl rfl)) fun _=>iF (cf (cj (aN (af (rS (rs:=h::t) (by simp) rfl) ‹20›) e1) rfl)) fun _=>cf (ea _ rfl)) (fun c=>bx rfl ?_) fun c=>bj ?_)
  ·show D.bl false=D.bl (t1 h 0 14&&(t.all (fun r=>decide (r.length=2))&&_));rw [Uo,TJ] at c;rcases c with c | c
   ·rw [show t1 h 0 14=false by simpa using c]; rfl
   ·rw [Bool.not_eq_true'] at c;rw [c,Ve,SX]
  ·rw [Uo,VH] at c;have c1:t1 h 0 14=true:=by simpa using c.1
   have c2:(t.all fun r=>decide (r.length=2))=true:=by
    have:=c.2
    rwa [U2] at this
   have c3:∀ r∈t,r.length=2:=fun r hr=>of_decide_eq_true (Ry.mp c2 r hr);obtain ⟨k1,k2,k3⟩:=Oe c1;have hl':t.length≤1000:=by rw [Rt] at hl; lia
   have g:=Nn (n:=(h.getD 0 0).toNat) (qs:=t.map CD) (by lia) (by rw [Q5]; exact hl') fun q hq=>by obtain ⟨r,hr,rfl⟩:=RY.mp hq;have:=hw r (Ra _ hr);have l2:=c3 r hr;exact ⟨Pr.log_small (this _ (mem_getD (by lia))),Pr.log_small (this _ (mem_getD (by lia)))⟩
   rw [← E7 c3,VQ k2] at g;have en:∀ ρ:aU,ak 1 ρ=some (pD (h::t))→cY (cY (ak 1) ‹31›) ‹31› ρ=some (.int (h.getD 0 0)):=fun ρ q=>zM (k:=0) (rS (rs:=h::t) (by simp) q) (by show 0<h.length; lia);by_cases o:Pr.Ok (h.getD 0 0).toNat (t.map CD)
   ·rw [decide_eq_true o] at g;refine wp_seq (Dh (af (en _ rfl) (af (uv rfl) rfl)) g (bx rfl ?_));show D.bl true=D.bl (t1 h 0 14&&‹89›);rw [c1,c2,decide_eq_true o]; rfl
   ·rw [decide_eq_false o] at g;refine wp_seq (Di (af (en _ rfl) (af (uv rfl) rfl)) g ?_);show D.bl false=D.bl (t1 h 0 14&&‹89›);rw [decide_eq_false o,SX,SX]
def gb (x:Rf):Bool:=decide (1≤x.length∧x.length≤8∧∀ c∈cs x,97≤c∧c≤122)
theorem Ko (c:Nat) (h:c<128):Ib ⟨#[c]⟩ ("abcdefghijklmnopqrstuvwxyz" : Rf)=decide (97≤c∧c≤122):=by
 have:∀ d:Fin 128,Ib ⟨#[d.val]⟩ ("abcdefghijklmnopqrstuvwxyz" : Rf)=decide (97≤d.val∧d.val≤122):=by decide +kernel
 exact this ⟨c,h⟩
theorem GL (h:Good x) (ha:a ρ=some (.str x)):mO a ρ=some ((cs x).map fun c=>D.str ⟨#[c]⟩):=by
 have hline:Q4=16777216:=Rw;have:=h.2;rw [Bp ha ⟨?_,by lia⟩]
 ·rfl
 ·rw [← YM,Ry];exact fun c hc=>decide_eq_true (h.1 c hc)
theorem kx (h:Good x):cZ [.str x]=some (.bl (gb x)):=by
 have hline:Q4=16777216:=Rw;have hl:=h.2;refine bU pZ ?_;rw [Cc];unfold pw;refine bx (fV (x:=decide (1≤x.length∧x.length≤8)) (y:=decide (∀ c∈cs x,97≤c∧c≤122)) ?_ fun _=>?_) ?_
 ·rw [dE (i:=1) (j:=(x.length:Int)) (k:=8) rfl (Ed rfl (by lia)) rfl];congr 2;rw [Xo];congr 1
  ·exact decide_eq_decide.mpr (by lia)
  ·exact decide_eq_decide.mpr (by lia)
 ·refine (c7 (bf (ds:=((cs x).map fun c=>decide (97≤c∧c≤122)).map D.bl) ?_) qJ).trans ?_
  ·rw [R7];exact bY (fun c=>D.str ⟨#[c]⟩) (xs:=cs x) (GL h rfl) (fun c=>D.bl (decide (97≤c∧c≤122))) fun c hc=>⟨_,rfl,yf rfl rfl (by rw [Ko c (h.1 c hc)])⟩
  ·congr 2;rw [Tn,RG,Ry,decide_eq_true_iff];exact ⟨fun z c hc=>of_decide_eq_true (z c hc),fun z c hc=>decide_eq_true (z c hc)⟩
 ·congr 1;unfold gb;rw [← Xo];exact decide_eq_decide.mpr ⟨fun z=>⟨z.1.1,z.1.2,z.2⟩,fun z=>⟨⟨z.1,z.2.1⟩,z.2.2⟩⟩
theorem E6 {p r:List Nat} {c:Nat} (hy:cs y=[c]) (hx:cs x=p++c::r) (hp:c∉p):cs (Txt.partition x y).1=p∧cs (Txt.partition x y).2.2=r:=by
 have hl:x.length=p.length+(r.length+1):=by rw [← cR,hx,Ru,Rt]
 have hyl:y.length=1:=by rw [← cR,hy]; rfl
 have here:Vw x y x.length p.length:=Eo (v:=r) (by lia) (by rw [hx,We,hy]; rfl);have not:∀ k,k<p.length→¬ Vw x y x.length k:=fun k hk hA=>by have e:=Ag (d:=0) (c:=c) (by rw [hy]; rfl) hA;rw [Nat.add_zero,hx,Rz hk] at e;exact hp (RB e)
 unfold Txt.partition;rcases StrLaws.occ_head x y 1 (Rq _) with ⟨_,hn⟩ | ⟨i,q,e,h1,h2⟩
 ·exact absurd here (hn _)
 ·have ei:i=p.length:=by
   by_cases c1:i<p.length
   ·exact absurd h1 (not i c1)
   ·by_cases c2:p.length<i
    ·exact absurd here (h2 _ c2)
    ·lia
  subst ei;rw [e];constructor
  ·show (TZ x 0 p.length).cps.toList=_;rw [Us,V6,show x.cps.toList=p++c::r from hx,Nat.sub_zero,XO]
  ·show (TZ x (p.length+y.length) x.length).cps.toList=_;rw [Us,show x.cps.toList=p++c::r from hx,hyl,← XQ,We,List.drop_one,List.tail_cons];exact TQ (by lia)
def fZ (r:List Int):List Rf:=if r=[] then [DT] else r.map fI
def sy (R:List (List Int)):List Rf:=if R=[] then [("-" : Rf)] else inter (R.map fZ)
def jc (R:List (List Int)):Rf:=Rh " " (sy R)
def FY (r:List Int):Prop:=r.length≤5∧∀ n∈r,FX n
def sf (R:List (List Int)):Prop:=R.length≤14∧∀ r∈R,FY r
theorem Km {n:Int} (h:FX n):qz (fI n)=true:=by
 have ld:=wx 59 n.natAbs h
 have l0:1≤(jB n.natAbs).length:=by
  have:=pf n.natAbs;cases e:jB n.natAbs with
  | nil=>exact absurd e this
  | cons c r=>simp
 have ef:gU (cs (fI n))=jB n.natAbs:=by
  unfold gU;rcases lG n with ⟨h0,e⟩ | ⟨h0,e⟩
  ·rw [e,if_neg];intro z;have:=ka _ _ (RB z);lia
  ·rw [e];rfl
 unfold qz;refine decide_eq_true ?_;rw [ef];refine ⟨l0,ld,ka _,?_⟩;by_cases z:n=0
 ·subst z;exact .inl rfl
 ·obtain ⟨c,r,e,q1,q2⟩:=FE n.natAbs (by lia);refine .inr ?_;rw [e];intro w;have:c=48:=by simpa using w
  lia
theorem Ga {n:Int} (h:FX n):valN (fI n)=n:=by unfold valN; rw [HA h]; rfl
theorem HB (n:Int):∃ c l,cs (fI n)=c::l∧(c=45∨(48≤c∧c≤57))∧(c=45→l≠[]):=by
 rcases lG n with ⟨_,e⟩ | ⟨_,e⟩
 ·cases ed:jB n.natAbs with
  | nil=>exact absurd ed (pf _)
  | cons c l =>have:=ka n.natAbs c (by rw [ed]; exact Q9);exact ⟨c,l,by rw [e,ed],.inr this,fun z=>by lia⟩
 ·exact ⟨45,_,e,.inl rfl,fun _=>pf _⟩
theorem zL {n:Int} {c:Nat} (hy:cs y=[c]) (hc:¬ (48≤c∧c≤57)):fI n≠y:=fun z=>by
 obtain ⟨d,l,e,h1,h2⟩:=HB n;rw [z,hy] at e;obtain ⟨rfl,rfl⟩:=Ub e;rcases h1 with h1 | h1
 ·exact h2 h1 rfl
 ·exact hc h1
theorem DM (r:List Int):fZ r≠[]:=by
 unfold fZ;split
 ·simp
 ·rename_i h; simpa using h
theorem Fw:∀ (gs:List (List Rf)) (w:Rf),w∈inter gs→w=SL∨∃ g∈gs,w∈g:=by
 intro gs;induction gs with
 | nil=>intro w hw; cases hw
 | cons g r ih =>
  intro w hw;cases r with
  | nil=>exact .inr ⟨g,Q9,hw⟩
  | cons q r =>
   have hw:w∈g++SL::inter (q::r):=hw;rcases RD.mp hw with z | z
   ·exact .inr ⟨g,Q9,z⟩
   ·rcases Ri.mp z with z | z
    ·exact .inl z
    ·rcases ih w z with z | ⟨g2,h1,h2⟩
     ·exact .inl z
     ·exact .inr ⟨g2,Ra _ h1,h2⟩
theorem F3 {w:Rf} (h:w∈sy R):(w = "-" ∧ R=[])∨w=SL∨w=DT∨∃ n,w=fI n:=by
 unfold sy at h;split at h
 ·rename_i e; exact .inl ⟨Q3.mp h,e⟩
 ·rcases Fw _ w h with z | ⟨g,hg,z⟩
  ·exact .inr (.inl z)
  ·obtain ⟨r,_,rfl⟩:=RY.mp hg;unfold fZ at z;split at z
   ·exact .inr (.inr (.inl (Q3.mp z)))
   ·obtain ⟨n,_,rfl⟩:=RY.mp z;exact .inr (.inr (.inr ⟨n,rfl⟩))
theorem F2 (R:List (List Int)):sy R≠[]:=by
 unfold sy;split
 ·simp
 ·rename_i h;refine wa _ (by simpa using h) fun g hg=>?_;obtain ⟨r,_,rfl⟩:=RY.mp hg;exact DM r
theorem Ao {w:Rf} (h:w∈sy R) {c:Nat} (hc:c∈cs w):45≤c∧c≤57:=by
 rcases F3 h with ⟨rfl,_⟩ | rfl | rfl | ⟨n,rfl⟩
 ·have:c=45:=Q3.mp (show c∈[45] from hc);lia
 ·have:c=47:=Q3.mp (show c∈[47] from hc);lia
 ·have:c=46:=Q3.mp (show c∈[46] from hc);lia
 ·have:=Fe hc;lia
theorem uq {w:Rf} (h:w∈sy R):32∉cs w:=fun z=>by have:=Ao h z; lia
theorem JI {us:List Rf} (h1:us≠[]) (h2:∀ w∈us,32∉cs w) (h3:Rh " " us ≠ "-"):g6 (Rh " " us)=scan (us++[SL]) [] [] false:=by unfold g6;rw [if_neg h3,← key,gh h1 h2]
theorem ES (h:sf R):g6 (jc R)=some R:=by
 by_cases c:R=[]
 ·subst c;rfl
 ·have hn:Rh " " (sy R) ≠ "-" := fun z=>by
   have e1:=gh (F2 R) fun w hw=>uq hw;have e2:aQ ("-" : Rf) " " = [("-" : Rf)]:=gh (ws:=[("-" : Rf)]) (by simp) fun w hw hc=>by rw [Q3.mp hw] at hc;have:32=45:=Q3.mp (show 32∈[45] from hc);lia
   rw [z,e2] at e1;have hm:("-" : Rf)∈sy R:=by rw [← e1]; exact Q9
   rcases F3 hm with ⟨_,q⟩ | q | q | ⟨n,q⟩
   ·exact c q
   ·exact absurd (congrArg cs q) ‹0›
   ·exact absurd (congrArg cs q) ‹0›
   ·exact zL (c:=45) rfl (by lia) q.symm
  unfold jc;rw [JI (F2 R) (fun w hw=>uq hw) hn];unfold sy;rw [if_neg c,vo _ [] (by simpa using c),if_pos,TH,R7]
  ·congr 1
   conv=>rhs; rw [← YS R]
   refine Sx fun r hr=>?_;show xr (fZ r)=r;unfold fZ;split
   ·rename_i e; rw [e]; rfl
   ·rename_i e;unfold xr;rw [if_neg,R7]
    ·conv=>rhs; rw [← YS r]
     exact Sx fun n hn=>Ga ((h.2 r hr).2 n hn)
    ·intro z;cases r with
     | nil=>exact e rfl
     | cons n r=>exact zL (c:=46) rfl (by lia) (Ub z).1
  ·rw [Tn,Ry];intro r hr;show jg (fZ r)=true;unfold fZ;split
   ·exact decide_eq_true (.inl rfl)
   ·rename_i e;refine decide_eq_true (.inr ⟨by simpa using e,fun w hw=>?_⟩);obtain ⟨n,hn,rfl⟩:=RY.mp hw;exact Km ((h.2 r hr).2 n hn)
  ·intro g hg w hw z;obtain ⟨r,_,rfl⟩:=RY.mp hg;subst z;unfold fZ at hw;split at hw
   ·exact absurd (congrArg cs (Q3.mp hw)) ‹0›
   ·obtain ⟨n,_,e⟩:=RY.mp hw;exact zL (c:=47) rfl (by lia) e
theorem oi (y:Rf) (B:Nat):∀ ps:List Rf,(∀ p∈ps,p.length≤B)→(Rh y ps).length≤ps.length*(B+y.length)
 | [],_=>Th _
 | [p],h=>by have:=h p Q9;show p.length≤1*(B+y.length);lia
 | p::q::r,h=>by have h1:=h p Q9;have h2:=oi y B (q::r) fun z hz=>h z (Ra _ hz);show (p++y++Rh y (q::r)).length≤_;rw [RL,RL,Rt,Nat.add_mul];lia
theorem Bm (y:Rf) (B:Nat):∀ (ps:List Rf) (a:Nat),(∀ p∈ps,p.length≤B)→ps.foldl (fun n s=>n+s.length+y.length) a≤a+ps.length*(B+y.length)
 | [],a,_=>by simp
 | p::r,a,h=>by have h1:=h p Q9;have h2:=Bm y B r (a+p.length+y.length) fun z hz=>h z (Ra _ hz);rw [UY,Rt,Nat.add_mul];lia
theorem zR {ps:List Rf} {B:Nat} (h:∀ p∈ps,p.length≤B) (hb:ps.length*(B+y.length)≤100000):UO (ps.toArray.foldl (·+·.length+y.length) 0)=false∧(YA y ps).length≤Q4:=by
 have hline:Q4=16777216:=Rw;have h1:=oi y B ps h;have h2:=Bm y B ps 0 h;constructor
 ·rw [Yh];unfold UO;exact decide_eq_false (by lia)
 ·rw [Sw];lia
theorem Bc (h:FY r):∀ w∈fZ r,w.length≤61:=fun w hw=>by
 unfold fZ at hw;split at hw
 ·rw [Q3.mp hw]; decide
 ·obtain ⟨n,hn,rfl⟩:=RY.mp hw;exact (uG (h.2 n hn)).2
theorem AY (h:FY r):(fZ r).length≤5:=by
 unfold fZ;split
 ·decide
 ·rw [Q5]; exact h.1
theorem vB (h:FY r):(Rh " " (fZ r)).length≤310:=by have h1:=oi " " 61 (fZ r) (Bc h);have h2:=AY h;have h3:(" " : Rf).length=1:=rfl;have h4:(fZ r).length*(61+1)≤5*62:=VI _ h2;rw [h3] at h1;lia
theorem vA (h:R≠[]):Rh " / " (R.map fun r=>Rh " " (fZ r))=jc R:=by
 unfold jc sy;rw [if_neg h,mE (R.map fZ) (by simpa using h) fun g hg=>?_,R7]
 ·rfl
 ·obtain ⟨r,_,rfl⟩:=RY.mp hg;exact DM r
theorem xS (h:sf R):(jc R).length≤4382:=by
 by_cases c:R=[]
 ·subst c; decide
 ·rw [← vA c];have h1:=oi " / " 310 (R.map fun r=>Rh " " (fZ r)) fun p hp=>by obtain ⟨r,hr,rfl⟩:=RY.mp hp;exact vB (h.2 r hr)
  have h3:(" / " : Rf).length=3:=rfl;rw [Q5,h3] at h1;have h4:R.length*(310+3)≤14*313:=VI _ h.1;lia
theorem G4 (R:List (List Int)):∀ c∈cs (jc R),c=32∨(45≤c∧c≤57):=fun c hc=>by
 rcases zS hc with q | ⟨w,hw,q⟩
 ·exact .inl (Q3.mp (show c∈[32] from q))
 ·exact .inr (Ao hw q)
theorem no_raises {g:DG} {e x:DE} {r:aU}:∀ {ds:List D},(∀ d∈ds,∀ ρ1,g d r=some ρ1→x ρ1=none)→¬ fG g e x r ds
 | [],_,h=>h
 | d::ds,hx,h=>by
  unfold fG at h;split at h
  ·exact h
  ·rename_i ρ1 e1;rw [hx d Q9 ρ1 e1] at h;dsimp only at h;split at h
   ·exact no_raises (fun z hz=>hx z (Ra _ hz)) h
   ·exact h
theorem rD (h:Good x) (hn:qz x=true):eC [.str x]=none:=by refine sJ ik ?_;rw [jT];unfold fR;exact jm (cm (cf (x:=true) (cj (aN ‹26› (by rw [sT h,hn])) rfl)) (bj pU))
theorem E2 {p:Rf} (h:Good p) (ho:pP p=true):iU [.str p]=none:=by
 refine sJ kh ?_;rw [nU];unfold jj;by_cases c:p=DT
 ·subst c;exact jz (qu (dG (oy rfl rfl)) pU)
 ·have hw:=(of_decide_eq_true ho).resolve_left c;refine jm (cm (dG (mI rfl rfl c)) (bj (Bd (ds:=(aQ p " ").map D.str) (c6 (bf (jU h ‹6› rfl rfl)) rfl) (no_raises fun d hd ρ1 e=>?_))));obtain ⟨w,hw2,rfl⟩:=RY.mp hd;cases e;exact ku ‹26› (rD (eO h hw2) (hw w hw2))
theorem vC (h:Good x) (hs:g6 x=some R):c5 [.str x]=none:=by
 refine sJ jo ?_;rw [md];unfold iw;unfold g6 at hs;by_cases c:x = "-"
 ·subst c;exact jz (qu (dG (oy rfl rfl)) pU)
 ·rw [if_neg c] at hs;split at hs
  ·rename_i q;rw [Ry] at q;refine jm (cm (dG (mI rfl rfl c)) (bj (Bd (ds:=(aQ x " / ").map D.str) (c6 (bf (jU h ‹6› rfl rfl)) rfl) (no_raises fun d hd ρ1 e=>?_))));obtain ⟨w,hw2,rfl⟩:=RY.mp hd;cases e;exact ku ‹26› (E2 (eO h hw2) (q w hw2))
  ·cases hs
noncomputable def m8 (k:Nat) (R:List (List Int)):Bool:=match k with
 | 0=>Nv R
 | 1=>Nu R
 | 2=>Nt R
 | 3=>O2 R
 | 4=>Nr R
 | _=>O1 R
noncomputable abbrev MF:List (Q6×(List D→Option D)):=[(wF,bM),(Af,bW),(ke,bK),(qG,bA),(mR,bV),(wD,bL)]
theorem z0 {k:Nat} {es:aU→Option (List D)} (hR:sf R) (h1:KA[k]?=some C) (ha:a ρ=some (.ins C)) (he:es ρ=some [pD R]):lL MF a es ρ=some (.bl (m8 k R)):=by
 have hw:∀ r∈R,∀ v∈r,v.natAbs<10 ^ 70:=fun r hr v hv=>S5 ((hR.2 r hr).2 v hv) ‹6›;have hl:R.length≤1000:=RE hR.1 ‹6›;unfold KA at h1
 match k,h1 with
 | 0,h1=>cases h1; exact gE ha rfl he (C8 _ R)
 | 1,h1=>cases h1; exact gE ha rfl he (E8 _ R)
 | 2,h1=>cases h1; exact gE ha rfl he (B4 _ R)
 | 3,h1=>cases h1; exact gE ha rfl he (yE _ R)
 | 4,h1=>cases h1; exact gE ha rfl he (EB _ R hw)
 | 5,h1=>cases h1; exact gE ha rfl he (CG _ R hl hw)
theorem qO {i:Nat} {w:Rf} (h1:WS[i]?=some w) (h2:WS[j]?=some w):i=j:=by
 have nd:WS.Nodup:=by decide +kernel
 have hi:=(Rp.mp h1).1;exact (List.getElem?_inj hi nd).mp (h1.trans h2.symm)
structure FT (x q r:Rf):Prop where
 gx:Good x
 e:cs x=cs q++32::cs r
 n:32∉cs q
theorem FT.gq {r:Rf} (h:FT x q r):Good q:=by refine ⟨fun c hc=>h.gx.1 c (by rw [h.e]; exact S7 _ hc),?_⟩;have h1:=congrArg VE h.e;have:=h.gx.2;rw [Ru,cR,cR] at h1;lia
theorem FT.gr {r:Rf} (h:FT x q r):Good r:=by refine ⟨fun c hc=>h.gx.1 c (by rw [h.e]; exact RA _ (Ra _ hc)),?_⟩;have h1:=congrArg VE h.e;have:=h.gx.2;rw [Ru,Rt,cR,cR,cR] at h1;lia
theorem FT.p {r:Rf} (h:FT x q r):(Txt.partition x " ").1=q∧(Txt.partition x " ").2.2=r:=by obtain ⟨h1,h2⟩:=E6 (c:=32) (y := " ") rfl h.e h.n;exact ⟨fi h1,fi h2⟩
theorem FT.w {r:Rf} (h:FT x q r):∀ {ρ:aU} {a:DE},a ρ=some (DX x " ")→cY a ‹31› ρ=some (.str q):=fun ha=>(c0 ha rfl rfl).trans (by rw [h.p.1])
theorem FT.rs {r:Rf} (h:FT x q r):∀ {ρ:aU} {a:DE},a ρ=some (DX x " ")→cY a (dC (.int 2)) ρ=some (.str r):=fun ha=>(c0 ha rfl rfl).trans (by rw [h.p.2])
theorem qK (h:Good x):(((" " : Rf).length==0)=false)∧x.length≤Q4:=⟨rfl,by have:=Rw; have:=h.2; lia⟩
theorem noName (hx:Good x) (hq:Good q) (e:(Txt.partition x " ").1=q) (h:gb q=false):bX [.str x]=some .non:=by refine fT dy ?_;rw [d8];unfold cJ;refine wp_seq (bp (mG rfl rfl (qK hx)) ?_);walk_at "st";refine wp_seq (bp (d:=.str q) ((c0 rfl rfl rfl).trans (by rw [e])) ?_);walk_at "st";exact wp_seq (cA (cf (x:=false) (cj (aN ‹26› (by rw [kx hq,h])) rfl)) (lj rfl (uD hq) rfl))
theorem Fg {c:aU→Option Bool}:aM (cQ c eX aT) eX ρ=.no:=by
 cases e:c ρ with
 | none=>exact jz (MQ e)
 | some b =>
  cases b with
  | true=>exact jz (qu e pU)
  | false=>exact jm (cm e (bj pU))
theorem K3 {r:Rf} (h:FT x q r) (hq:gb q=true) (hs:g6 r=some R):bX [.str x]=none:=by refine sJ dy ?_;rw [d8];unfold cJ;refine jm (bp (mG rfl rfl (qK h.gx)) ?_);walk_at "st";refine jm (bp (h.w rfl) ?_);walk_at "st";refine jm ‹103›;refine jm (yz (ku (af (h.rs rfl) rfl) (vC h.gr hs)) ‹90›);walk_at "st";exact Fg
theorem MS {r:Rf} (h:FT x q r) (hq:gb q=true) (hs:g6 r=some R) (hk:q∉WS) (hg:Gn 40 q):cw [.str x]=some .non:=by refine fT eP ?_;rw [d8];unfold dv;refine wp_seq (bp (mG rfl rfl (qK h.gx)) ?_);walk_at "st";refine wp_seq (bp (h.w rfl) ?_);walk_at "st";refine wp_seq ‹103›;refine wp_seq ‹90›;walk_at "st";exact wp_seq (Ap (aN ‹26› (HW hk hg)) rfl)
theorem Ka {r:Rf} (h:FT x q r) (hq:gb q=true) (hR:sf R) (hs:g6 r=some R) {k:Nat} (hk:WS[k]?=some q) (hf:m8 k R=false):cH [.str x]=some .non:=by obtain ⟨k2,C,e,h1,h2⟩:=uK (RB hk);have ek:k2=k:=qO h2 hk;subst ek;refine fT gy ?_;rw [d8];unfold dU;refine wp_seq (bp (mG rfl rfl (qK h.gx)) ?_);walk_at "st";refine wp_seq (bp (h.w rfl) ?_);walk_at "st";refine wp_seq ‹103›;refine wp_seq ‹90›;walk_at "st";have hl:=h.gq.2;exact wp_seq (cA (cf (x:=false) (cj ((z0 hR h1 (aN ‹26› e) ‹26›).trans (by rw [hf])) rfl)) (sA rfl (by lia) rfl))
theorem D7 {r:Rf} (h:FT x q r) (hq:gb q=true) (hR:sf R) (hs:g6 r=some R) {k:Nat} (hk:WS[k]?=some q) (hf:m8 k R=true):d6 [.str x]=some (.tup [.str q,pD R]):=by obtain ⟨k2,C,e,h1,h2⟩:=uK (RB hk);have ek:k2=k:=qO h2 hk;subst ek;refine bU lT ?_;rw [d8];unfold jE;refine wp_seq (bp (mG rfl rfl (qK h.gx)) ?_);walk_at "st";refine wp_seq (bp (h.w rfl) ?_);walk_at "st";refine wp_seq ‹103›;refine wp_seq ‹90›;walk_at "st";refine wp_seq (cm (cf (x:=true) (cj ((z0 hR h1 (aN ‹26› e) ‹26›).trans (by rw [hf])) rfl)) (bj ?_));exact bx (j8 ‹20›) rfl
def iA (a:Rf) (m:Nat):Bool:=match dQ.lookup a with
 | some n=>decide (n≤(m:Int))
 | none=>match mD.lookup a with
  | some i=>decide (i=(m:Int))
  | none=>false
theorem o8 (x:D) (xs:List D):FW (.lst (x::xs)) 0=some x:=by show lh (x::xs) 0=_;unfold lh ixN;rw [if_pos (Int.le_refl 0),if_pos (by rw [Rt]; lia)];rfl
theorem Nb (x y:D) (xs:List D):FW (.lst (x::y::xs)) 1=some y:=by show lh (x::y::xs) 1=_;unfold lh ixN;rw [if_pos ‹6›,if_pos (by rw [Rt,Rt]; lia)];rfl
theorem Nd {a:Rf}:eR [.lst ((a::ws).map D.str)]=some (.bl (iA a (ws.length+1))):=by
 refine bU si ?_;rw [EF];unfold su iA;have el:fW dX (ak 0) [.bo (.lst ((a::ws).map D.str)),.pu (.str a)]=some (.int ((ws.length+1:Nat):Int)):=c7 rfl (by show some (D.int (((a::ws).map D.str).length:Nat))=_; rw [Q5,Rt]);refine wp_seq (bp (d:=.str a) (ic (c0 rfl rfl (o8 _ _)) rfl) ?_);walk_at "st";cases e:dQ.lookup a with
 | some n=>exact wp_seq (cA (dG ((Iv rfl).trans (by rw [e]; rfl))) (bx (wu (KC rfl e) el) rfl))
 | none=>exact wp_seq (cm (dG ((Iv rfl).trans (by rw [e]; rfl))) (bj (bx (Ny rfl el) rfl)))
theorem ye (y:Rf):∀ (ps:List Rf) (a:Nat),ps.foldl (fun n s=>n+s.length+y.length) a≤a+(Rh y ps).length+y.length
 | [],a=>by rw [Zd]; lia
 | [p],a=>by rw [UY,Zd]; exact Rq _
 | p::q::r,a=>by have h:=ye y (q::r) (a+p.length+y.length);rw [UY];refine RE h ?_;show _≤a+(p++y++Rh y (q::r)).length+y.length;rw [RL,RL];lia
theorem lH {ps:List Rf} (e:Rh " " ps=t) (h:Good t):UO (ps.toArray.foldl (·+·.length+(" " : Rf).length) 0)=false∧(YA " " ps).length≤Q4:=by
 have hline:Q4=16777216:=Rw;have h1:=ye " " ps 0;have h2:=h.2;have h3:(" " : Rf).length=1:=rfl;rw [e] at h1;constructor
 ·rw [Yh];unfold UO;exact decide_eq_false (by lia)
 ·rw [Sw,e];lia
theorem NB (k:Nat):xv xs (some (k:Int)) none=xs.drop k:=by
 unfold xv;rw [HT.G1,HT.JM];by_cases h:k≤xs.length
 ·rw [Nat.min_eq_left h,TQ (by rw [SY]; lia)]
 ·rw [Xi (by lia),Xi (by lia),List.take_nil]
structure Sy (row a n t:Rf) (ts:List Rf):Prop where
 g:Good row
 s:aQ row " " = a::n::ts
 r:iA a (ts.length+2)=true
 x:a ≠ "names"
 j:Rh " " ts=t
 gt:Good t
theorem Sy.gn {a n:Rf} (h:Sy row a n t ts):Good n:=eO (y := " ") h.g (by rw [h.s]; exact Ra _ Q9)
noncomputable def JT (z r:DS):DS:=(aM ‹109›
 (aM (cQ ‹71›
      z
      aT) r))
noncomputable def Mt (m z r:DS):DS:=(aM (cQ ‹100›
      m
      aT)
 (aM (bS 3 (cY (aX 2) ‹27›))
 (aM (cQ ‹92›
      z
      aT) r)))
noncomputable def Hg (r:DS):DS:=aM ‹25› r
def LW (a n:Rf) (ts:List Rf):D:=.lst ((a::n::ts).map D.str)
theorem jr {s u:DS} {ρ':aU} (e:s ρ=u ρ') (k:Wp u ρ' W):Wp s ρ W:=by unfold Wp at k ⊢; rw [e]; exact k
theorem seq_eq {s u:DS} {ρ':aU} (h:Wp s ρ { nx:=fun r=>r=ρ',rt:=fun _=>False }):aM s u ρ=u ρ':=by
 unfold Wp at h;unfold aM;split at h
 ·rename_i r e;rw [e,show r=ρ' from h]
 all_goals exact h.elim
theorem u1 {a:Rf} {c:Sl} (h:Good row) (e:aQ row " " = a::ws) {r:DS}:aM ‹109› r [c,.pu (.str row),.un,.un,.un]=r [c,.pu (.str row),.pu (.lst ((a::ws).map D.str)),.un,.un]:=seq_eq (bp (bf ((jU h ‹6› rfl rfl).trans (by rw [e]))) rfl)
theorem sS {a:Rf} {b:Bool} (h:iA a (ws.length+1)=b) (he:e ρ=some (.lst ((a::ws).map D.str))):dF (dw (aJ eR (aq e aP))) ρ=some (!b):=cf (cj (aN (af he rfl) (by rw [Nd,h])) rfl)
theorem Sy.p1 {a n:Rf} (h:Sy row a n t ts) {c:Sl} {z r:DS}:JT z r [c,.pu (.str row),.un,.un,.un]=r [c,.pu (.str row),.pu (LW a n ts),.un,.un] :=
 (u1 h.g h.s).trans (seq_eq (cm (sS (ws:=n::ts) h.r rfl) (bj rfl)))
theorem Sy.p2 {a n:Rf} (h:Sy row a n t ts) {c:Sl} {m r:DS}:aM (cQ ‹100› m aT) (aM (bS 3 (cY (aX 2) ‹27›)) r) [c,.pu (.str row),.pu (LW a n ts),.un,.un]=r [c,.pu (.str row),.pu (LW a n ts),.pu (.str n),.un] :=
 (seq_eq (cm (dG (mI (x:=a) (c0 rfl rfl (o8 _ _)) rfl h.x)) (bj rfl))).trans (seq_eq (bp (d:=.str n) (c0 rfl rfl (Nb _ _ _)) rfl))
theorem Sy.name {a n:Rf} (h:Sy row a n t ts) {b:Bool} (hn:gb n=b) (he:e ρ=some (.str n)):dF (dw (aJ cZ (aq e aP))) ρ=some (!b):=cf (cj (aN (af he rfl) (by rw [kx h.gn,hn])) rfl)
theorem Sy.p3 {a n:Rf} (h:Sy row a n t ts) {c:Sl} {r:DS}:Hg r [c,.pu (.str row),.pu (LW a n ts),.pu (.str n),.un]=r [c,.pu (.str row),.pu (LW a n ts),.pu (.str n),.pu (.str t)]:=by
 unfold Hg
 have e:bw (yn (aX 2) (eM (dC (.int 2))) ft) [c,.pu (.str row),.pu (LW a n ts),.pu (.str n),.un]=some (.lst (ts.map D.str)) :=
  bf ((Bo (ds:=(a::n::ts).map D.str) (l:=some 2) (u:=none) rfl rfl rfl).trans (congrArg some (NB 2)))
 exact seq_eq (bp ((kB rfl e (lH h.j h.gt)).trans (by rw [Sw,h.j])) rfl)
abbrev rh (c:Sl) (row a n t:Rf) (ts:List Rf):aU:=[c,.pu (.str row),.pu (LW a n ts),.pu (.str n),.pu (.str t)]
theorem Sy.p {a n:Rf} (h:Sy row a n t ts) (hn:gb n=true) {c:Sl} {z m y r:DS}:JT z (Mt m y (Hg r)) [c,.pu (.str row),.un,.un,.un]=r (rh c row a n t ts) :=
 h.p1.trans (h.p2.trans ((seq_eq (cm (h.name hn rfl) (bj rfl))).trans h.p3))
theorem fst_eq {c:Sl} {a n w:Rf}:dT (dN false ‹17› (dC (.str w))) (rh c row a n t ts)=some (decide (a=w)):=dG (oz (c0 rfl rfl (o8 _ _)) rfl)
theorem j7 {c:Sl} {a n w:Rf} (h:a≠w) {z u:DS}:aM (cQ (dT (dN false ‹17› (dC (.str w)))) z aT) u (rh c row a n t ts)=u (rh c row a n t ts):=seq_eq (cm (fst_eq.trans (by rw [decide_eq_false h])) (bj rfl))
abbrev lK (ks:List Rf) (ds:List D):D:=.dsk ax ks ds
theorem fY (ks:List Rf) (ds:List D) (x:D):stK 5 [false,true] [lK ks ds,x]=[.bk ax ks ds,.pu x,.un,.un,.un]:=rfl
section
variable {row a n t:Rf} {ts:List Rf} {ks:List Rf} {ds:List D}
theorem HE (h:Good row) (e:aQ row " " = a::ws) (hr:iA a (ws.length+1)=false):bI [lK ks ds,.str row]=some .non:=by refine gj fN ?_;rw [fY];exact jr (u1 h e) (wp_seq (cA (sS hr rfl) (lj rfl (uD h) rfl)))
theorem Sy.AZ (h:Sy row a n t ts):bI [lK ks ds,.str row]=none:=by refine lB fN ?_;rw [fY];exact (h.p1 (z:=iY (ak 1)) (r:=eX)).trans pU
theorem Sy.J9 (h:Sy row a n t ts) (hn:gb n=false):bB [lK ks ds,.str row]=some .non:=by refine gj da ?_;rw [fY];exact jr (h.p1.trans h.p2) (wp_seq (cA (h.name hn rfl) (lj rfl (uD h.gn) rfl)))
theorem Sy.J8 (h:Sy row a n t ts) (hn:gb n=true) (hf:a ≠ "floor") (hk:n∉ks):bB [lK ks ds,.str row]=some .non:=by
 refine gj da ?_;rw [fY];have hl:n.length≤1000000:=by have:=h.gn.2; lia
 exact jr (((h.p hn).trans (j7 hf))) (wp_seq (cA (dG ((Iw (neg:=true) rfl rfl).trans (by rw [decide_eq_false hk]; rfl))) (sA rfl hl rfl)))
theorem Bj {c:Sl} {z u:DS} (hc:ak 0 (rh c row a n t ts)=some (lK ks ds)) (hk:n∈ks):aM (cQ (dT (um ax true (ak 3) (ak 0))) z aT) u (rh c row a n t ts)=u (rh c row a n t ts):=seq_eq (cm (dG ((Iw (neg:=true) rfl hc).trans (by rw [decide_eq_true hk]; rfl))) (bj rfl))
theorem Sy.CO (h:Sy row a n t ts) (hn:gb n=true) (hf:a = "floor"):bB [lK ks ds,.str row]=none:=by refine lB da ?_;rw [fY];exact (h.p hn).trans (jz (qu (fst_eq.trans (by rw [decide_eq_true hf])) pU))
theorem Sy.CN (h:Sy row a n t ts) (hn:gb n=true) (hf:a ≠ "floor") (hk:n∈ks):bB [lK ks ds,.str row]=none:=by refine lB da ?_;rw [fY];exact (h.p hn).trans ((j7 hf).trans ((Bj rfl hk).trans pU))
theorem Sy.CW {X:List D→Option D} {B:DS} {u:DS} (h:Sy row a n t ts) (hn:gb n=true) (hf:a = "floor") (hF:F=fF 5 [false,true] B) (hB:B=JT eX (Mt eX eX (Hg (aM (cQ ‹101› (sX (jn ax (ak 0) (js (ak 3) (aJ X (aq (ak 4) aP))))) aT) u)))) (ho:X [.str t]=o):F [lK ks ds,.str row]=o:=by
 cases o with
 | some d =>refine gj hF ?_;rw [fY,hB];exact jr (h.p hn) (wp_seq (cA (fst_eq.trans (by rw [decide_eq_true hf])) (Ap (wj rfl (mF rfl (aN ‹26› ho))) rfl)))
 | none =>refine lB hF ?_;rw [fY,hB];refine (h.p hn).trans (jz (qu (fst_eq.trans (by rw [decide_eq_true hf])) (MP ?_)));have e:=ku (F:=X) (es:=aq (ak 4) aP) (ρ:=rh (.bk ax ks ds) row a n t ts) ‹26› ho;unfold jn js;show (if _ then _ else _)=_;rw [if_pos rfl];exact e
theorem Sy.fText (h:Sy row a n t ts) (hn:gb n=true) (hf:a = "floor") (ho:bX [.str t]=o):bJ [lK ks ds,.str row]=o:=h.CW hn hf c9 rfl ho
theorem Sy.LI (h:Sy row a n t ts) (hn:gb n=true) (hf:a = "floor") (ho:cw [.str t]=o):bZ [lK ks ds,.str row]=o:=h.CW hn hf fj rfl ho
theorem Sy.Nw (h:Sy row a n t ts) (hn:gb n=true) (hf:a = "floor") (ho:cH [.str t]=o):cD [lK ks ds,.str row]=o:=h.CW hn hf eV rfl ho
end
section
variable {row a n t:Rf} {ts:List Rf} {ks:List Rf} {ds:List D}
def jA (q:Rf) (R:List (List Int)):D:=.tup [.str q,pD R]
theorem B2 (h:e ρ=some (jA q R)):cY e ‹31› ρ=some (.str q):=c0 h rfl rfl
theorem tuple1 (h:e ρ=some (jA q R)):cY e ‹27› ρ=some (pD R):=c0 h rfl rfl
theorem zX {c:Sl} (hc:k6 c=some (ax,ks,ds)) (hg:kX ks ds n=some d):oB ax 0 (ak 3) (rh c row a n t ts)=some d:=KD hc rfl hg
theorem Sy.B3 (h:Sy row a n t ts) (hn:gb n=true) (hl:a = "late") (hk:n∈ks) {m y z r v u w':DS} {c:Sl} (hc:ak 0 (rh c row a n t ts)=some (lK ks ds)):JT z (Mt m y (Hg (aM (cQ ‹101› v aT) (aM (cQ (dT (um ax true (ak 3) (ak 0))) u aT) (aM (cQ (dT (dN false ‹17› (dC (.str "drop")))) w' aT) r))))) [c,.pu (.str row),.un,.un,.un]=r (rh c row a n t ts) :=
 (h.p hn).trans ((j7 (by rw [hl]; decide +kernel)).trans ((Bj hc hk).trans (j7 (by rw [hl]; decide +kernel))))
theorem Sy.LA (h:Sy row a n t ts) (hn:gb n=true) (hl:a = "late") (hk:n∈ks) (hg:kX ks ds n=some d) (ho:c5 [.str t]=o):bJ [lK ks ds,.str row]=o:=by
 have hc:oB ax 0 (ak 3) (rh (.bk ax ks ds) row a n t ts)=some d:=zX rfl hg;cases o with
 | some d =>refine gj c9 ?_;rw [fY];exact jr (h.B3 hn hl hk rfl) (wp_seq (cA (fst_eq.trans (by rw [decide_eq_true hl])) (Ap (wj rfl (mF rfl (mF hc (aN ‹26› ho)))) rfl)))
 | none =>refine lB c9 ?_;rw [fY];refine (h.B3 hn hl hk rfl).trans (jz (qu (fst_eq.trans (by rw [decide_eq_true hl])) (MP ?_)));have e:=ku (F:=c5) (es:=aq (ak 4) aP) (ρ:=rh (.bk ax ks ds) row a n t ts) ‹26› ho;unfold jn js;show (if _ then _ else _)=_;rw [if_pos rfl];show (match oB ax 0 (ak 3) (rh (.bk ax ks ds) row a n t ts) with | some _=>_ | none=>none)=_;rw [hc];exact e
theorem Sy.OP (h:Sy row a n t ts) (hn:gb n=true) (hl:a ≠ "floor"):bZ [lK ks ds,.str row]=none:=by refine lB fj ?_;rw [fY];exact (h.p hn).trans ((j7 hl).trans pU)
theorem BV {A B:List (List Int)} {k:Nat} (hk:WS[k]?=some q) (hq:q.length≤1000000) (hR:sf (A++B)) (hf:m8 k (A++B)=false):gQ [jA q A,pD B]=some .non:=by
 refine fT m9 ?_;rw [yN];unfold jM;refine wp_seq (bp (B2 rfl) ?_);walk_at "st";have ec:bw (gI (cY (aX 0) ‹27›) (aX 1)) [.pu (jA q A),.pu (pD B),.pu (.str q),.un]=some (pD (A++B)):=by unfold pD;rw [SW];exact bf (oA (xs:=A.map qv) (ys:=B.map qv) (tuple1 (q:=q) (R:=A) rfl) rfl (by have:=hR.1; have h3:=Rw; rw [Ru] at this; rw [Q5,Q5]; lia))
 refine wp_seq (bp ec ?_);walk_at "st";obtain ⟨j,C,h1,h2,h3⟩:=uK (RB hk);have ej:=qO h3 hk;subst ej;exact wp_seq (cA (cf (x:=false) (cj ((z0 hR h2 (aN ‹26› h1) ‹26›).trans (by rw [hf])) rfl)) (sA rfl hq rfl))
theorem Sy.M3 (h:Sy row a n t ts) (hn:gb n=true) (hl:a = "late") (hk:n∈ks) {A B:List (List Int)} (hg:kX ks ds n=some (jA q A)) (hs:g6 t=some B) (hx:gQ [jA q A,pD B]=some .non):cD [lK ks ds,.str row]=some .non:=by refine gj eV ?_;rw [fY];exact jr (h.B3 hn hl hk rfl) (wp_seq (cA (fst_eq.trans (by rw [decide_eq_true hl])) (Ap (wj rfl (mF rfl (aN (af (zX rfl hg) (af (aN ‹26› (jP h.gt hs)) rfl)) hx))) rfl)))
theorem zz (h:Good x) (hn:qz x=false∨qz x=true∧valN x<0∧(valN x).natAbs.log2<1920):ff [.str x]=some .non:=by
 refine fT kC ?_;rw [vf];unfold iy;rcases hn with hn | ⟨hn,hv,hs⟩
 ·exact wp_seq (yA (aN ‹26› (mr h hn)) rfl)
 ·refine wp_seq (yz (ku ‹26› (rD h hn)) (bp (aN ‹26› (nZ h hn)) ?_));walk_at "st";exact wp_seq (cA (dG ((Iu rfl rfl).trans (by rw [decide_eq_true hv]))) (wp_raise (fmt_cons rfl hs zY) rfl))
theorem kindAt {k:Nat} (hk:WS[k]?=some q) (h2:k=2∨k=4):∃ C,dD [.str q]=some (.ins C)∧C∈[ke,mR]:=by
 obtain ⟨j,C,h1,h3,h4⟩:=uK (RB hk);have ej:=qO h4 hk;subst ej;refine ⟨C,h1,?_⟩;rcases h2 with e | e <;> subst e <;> cases h3
 ·exact Q9
 ·exact Ra _ Q9
abbrev rA (a t:Rf) (q:Rf) (R:List (List Int)) (C:Q6):aU:=[.bo (.str a),.pu (jA q R),.bo (.str t),.pu (.ins C),.pu (pD R)]
theorem qI {a t w:Rf} (h:a≠w) {z u:DS}:aM (cQ (dT (dN false (ak 0) (dC (.str w)))) z aT) u (rA a t q R C)=u (rA a t q R C):=seq_eq (cm (dG (mI rfl rfl h)) (bj rfl))
theorem IU (h1:dD [.str q]=some (.ins C)) {r:DS}:aM (bS 3 (aJ dD (aq (cY (ak 1) ‹31›) aP))) (aM (bS 4 (cY (aX 1) ‹27›)) r) [.bo (.str a),.pu (jA q R),.bo (.str t),.un,.un]=r (rA a t q R C) :=
 (seq_eq (bp (aN (af (B2 rfl) rfl) h1) rfl)).trans (seq_eq (bp (tuple1 (q:=q) rfl) rfl))
theorem KR {k:Nat} (hk:WS[k]?=some q) (h2:k=2∨k=4) (h:(a = "keeps" ∨ a = "shows")∧c5 [.str t]=some .non∨a = "busy" ∧ ff [.str t]=some .non):lP [.str a,jA q R,.str t]=some .non:=by
 obtain ⟨C,h1,hC⟩:=kindAt hk h2;refine fT se ?_;rw [xK]
 have go {r v1 v2 v3 v4:DS} (h3:a = "keeps" ∨ a = "shows" ∨ a = "busy"):aM (bS 3 (aJ dD (aq (cY (ak 1) ‹31›) aP))) (aM (bS 4 (cY (aX 1) ‹27›)) (aM (cQ (dT (dN false (ak 0) (dC (.str "show")))) v1 aT) (aM (cQ (dT (dN false (ak 0) (dC (.str "plan")))) v2 aT) (aM (cQ (dT (dN false (ak 0) (dC (.str "end")))) v3 aT) (aM (cQ (dT (dN false (ak 0) (dC (.str "why")))) v4 aT) r))))) [.bo (.str a),.pu (jA q R),.bo (.str t),.un,.un]=r (rA a t q R C):=by
  have hn:a ≠ "show" ∧ a ≠ "plan" ∧ a ≠ "end" ∧ a ≠ "why" := by rcases h3 with e | e | e <;> subst e <;> decide +kernel
  exact (IU h1).trans ((qI hn.1).trans ((qI hn.2.1).trans ((qI hn.2.2.1).trans (qI hn.2.2.2))))
 rcases h with ⟨e | e,hx⟩ | ⟨e,hx⟩
 ·exact jr (go (.inl e)) (wp_seq (cA (dG ((oz rfl rfl).trans (by rw [decide_eq_true e]))) (Ap (wm rfl hC (mF rfl (aN ‹26› hx))) rfl)))
 ·exact jr ((go (.inr (.inl e))).trans (qI (by rw [e]; decide +kernel))) (wp_seq (cA (dG ((oz rfl rfl).trans (by rw [decide_eq_true e]))) (Ap (wm rfl hC (mF rfl (aN ‹26› hx))) rfl)))
 ·exact jr ((go (.inr (.inr e))).trans ((qI (by rw [e]; decide +kernel)).trans (qI (by rw [e]; decide +kernel)))) (Ap (wm rfl hC (mF rfl (aN ‹26› hx))) rfl)
theorem Sy.Pb (h:Sy row a n t ts) (hn:gb n=true) (ha:a ≠ "floor" ∧ a ≠ "drop" ∧ a ≠ "late") (hk:n∈ks) (hg:kX ks ds n=some d) (ho:lP [.str a,d,.str t]=some .non):bJ [lK ks ds,.str row]=some .non:=by refine gj c9 ?_;rw [fY];exact jr ((h.p hn).trans ((j7 ha.1).trans ((Bj rfl hk).trans ((j7 ha.2.1).trans (j7 ha.2.2))))) (Ap (aN (af (c0 rfl rfl (o8 _ _)) (af (zX rfl hg) ‹26›)) ho) rfl)
abbrev O7 (b1 b2 b3 b4 b5:Bool):D:=.lst ([b1,b2,b3,b4,b5,true].map D.bl)
theorem mq (h:F [lK ks ds,.str row]=o):aJ F ‹51› [.bk ax ks ds,.pu (.str row),.pu .non,.un,.un]=o:=by
 have e:fg ax 0 (aq (aX 1) aP) [.bk ax ks ds,.pu (.str row),.pu .non,.un,.un]=some [lK ks ds,.str row]:=Eg rfl ‹26›;cases o with
 | some d=>exact aN e h
 | none=>exact ku e h
noncomputable def markX (m:Nat) (ks:List Rf) (ds:List D) (row:Rf):Prop:=match m with
 | 1=>bI [lK ks ds,.str row]=some .non
 | 2=>bI [lK ks ds,.str row]=none∧bB [lK ks ds,.str row]=some .non
 | 3=>bI [lK ks ds,.str row]=none∧bB [lK ks ds,.str row]=none∧bJ [lK ks ds,.str row]=some .non
 | 4=>bI [lK ks ds,.str row]=none∧bB [lK ks ds,.str row]=none∧bJ [lK ks ds,.str row]=none∧bZ [lK ks ds,.str row]=some .non
 | 5=>bI [lK ks ds,.str row]=none∧bB [lK ks ds,.str row]=none∧bJ [lK ks ds,.str row]=none∧bZ [lK ks ds,.str row]=none∧cD [lK ks ds,.str row]=some .non
 | _=>False
theorem refused (h:markX m ks ds row):fP [lK ks ds,.str row]=some (O7 (m==1) (m==2) (m==3) (m==4) (m==5)):=by
 refine gj nk ?_;rw [fY];unfold kH;refine wp_seq (bp rfl ?_);walk_at "st"
 match m,h with
 | 1,h=>exact yC (mq h) (qP ⟨rfl,by decide⟩ (mq h) rfl)
 | 2,h=>exact kS (mq h.1) (yC (mq h.2) (qP ⟨rfl,by decide⟩ (mq h.2) rfl))
 | 3,h=>exact kS (mq h.1) (kS (mq h.2.1) (yC (mq h.2.2) (qP ⟨rfl,by decide⟩ (mq h.2.2) rfl)))
 | 4,h=>exact kS (mq h.1) (kS (mq h.2.1) (kS (mq h.2.2.1) (yC (mq h.2.2.2) (qP ⟨rfl,by decide⟩ (mq h.2.2.2) rfl))))
 | 5,h=>exact kS (mq h.1) (kS (mq h.2.1) (kS (mq h.2.2.1) (kS (mq h.2.2.2.1) (qP ⟨rfl,by decide⟩ (mq h.2.2.2.2) rfl))))
end
section
variable {row a n t:Rf} {ts:List Rf} {ks:List Rf} {ds:List D}
theorem EM (h:FY r):ji [qv r]=some (.str (Rh " " (fZ r))):=by
 refine bU nh ?_;rw [yP];unfold kF;cases r with
 | nil=>exact wp_seq (cA (cf (x:=false) (cj rfl rfl)) (bx rfl rfl))
 | cons n r =>
  have ew:fZ (n::r)=(n::r).map fI:=if_neg (by simp);refine wp_seq (cm (cf (x:=true) (cj rfl rfl)) (bj (bx (kB (xs:=fZ (n::r)) rfl (bf ?_) (zR (Bc h) ?_)) ?_)))
  ·rw [ew,R7];refine bY D.int (c6 rfl rfl) (fun n=>D.str (fI n)) fun m hm=>⟨_,rfl,c7 rfl ?_⟩
   show (if m.natAbs.log2<1920 then some (D.str (toString m)) else none)=_;rw [if_pos (log_small (h.2 m hm))];rfl
  ·rw [show ((" " : Rf)).length=1 from rfl];have:=AY h;lia
  ·rw [Sw]
theorem Ck (h:sf R):iq [pD R]=some (.str (jc R)):=by
 refine bU lS ?_;rw [wL];unfold jD;cases R with
 | nil=>exact wp_seq (cA (cf (x:=false) (cj rfl rfl)) (bx rfl rfl))
 | cons r R =>
  refine wp_seq (cm (cf (x:=true) (cj rfl rfl)) (bj (bx (kB (xs:=(r::R).map fun r=>Rh " " (fZ r)) rfl (bf ?_) (zR (B:=310) (fun p hp=>?_) ?_)) ?_)))
  ·rw [R7];exact bY qv (c6 rfl rfl) (fun r=>D.str (Rh " " (fZ r))) fun q hq=>⟨_,rfl,aN ‹26› (EM (h.2 q hq))⟩
  ·obtain ⟨q,hq,rfl⟩:=RY.mp hp;exact vB (h.2 q hq)
  ·rw [Q5,show ((" / " : Rf)).length=3 from rfl];have:=h.1;lia
  ·rw [Sw,vA (by simp)]
theorem sI (hl:ks.length<64) (hg:Good (Rh " " (gT ks))):cU [lK ks ds,.str "names"]=some (.str (Rh " " (gT ks))):=by refine gj kn ?_;rw [fY];refine jr (u1 (a := "names") (ws:=[]) (by constructor <;> decide +kernel) ‹0›) ?_;refine wp_seq (cm (sS (ws:=[]) (b:=true) ‹0› rfl) (bj ?_));exact wp_seq (cA (dG (oy (x := "names") (c0 rfl rfl (o8 _ _)) rfl)) (bx ((kB rfl (bf (IE rfl hl)) (lH rfl hg)).trans (by rw [Sw])) rfl))
theorem Sy.show (h:Sy row "show" n t ts) (hn:gb n=true) (hk:n∈ks) {q:Rf} {R:List (List Int)} {k:Nat} (hg:kX ks ds n=some (jA q R)) (hR:sf R) (hw:WS[k]?=some q) (h2:k=2∨k=4) (hq:Good (Rh " " [q,jc R])):cU [lK ks ds,.str row]=some (.str (Rh " " [q,jc R])):=by
 obtain ⟨C,h1,_⟩:=kindAt hw h2;have ea:oQ [.str "show", jA q R,.str t]=some (.str (Rh " " [q,jc R])):=by refine bU sk ?_;rw [xK];exact jr (IU h1) (wp_seq (cA (dG (oy rfl rfl)) (bx ((kB (xs:=[q,jc R]) rfl (bf (af (B2 (R:=R) rfl) (af (aN ‹26› (Ck hR)) rfl))) (lH rfl hq)).trans (by rw [Sw])) rfl)))
 refine gj kn ?_;rw [fY];exact jr ((h.p hn).trans ((j7 ‹0›).trans ((Bj rfl hk).trans ((j7 ‹0›).trans (j7 ‹0›))))) (bx (aN (af (c0 rfl rfl (o8 _ _)) (af (zX rfl hg) ‹26›)) ea) rfl)
theorem DA (ks:List Rf) (ds:List D) (x:D) (p q r:Q6):(fX 5 [false,true] [lK ks ds,x]).set 0 (.pk p q r ax ks ds)=[.pk p q r ax ks ds,.pu x,.un,.un,.un]:=rfl
theorem yB {b:DE} {x dx p:Q6} (h0:ρ.getD 0 .un=.pk x dx p C ks ds) (hb:b ρ=some (.str n)) (he:e ρ=some d) (hk:n∉ks∧ks.length<1000) (k:W.nx (ρ.set 0 (.pk x dx p C (ks++[n]) (ds++[d])))):Wp (rq C b e) ρ W:=by unfold Wp rq; rw [h0]; dsimp only; rw [hb]; dsimp only; rw [he]; dsimp only; rw [if_pos ⟨rfl,hk⟩]; exact k
theorem F4 {b:DE} {x dx p:Q6} (h0:ρ.getD 0 .un=.pk x dx p C ks ds) (hb:b ρ=some (.str n)) (hk:n∈ks) (k:W.nx (ρ.set 0 (.pk x dx p C (lJ ks ds n).1 (lJ ks ds n).2))):Wp (nX C b) ρ W:=by unfold Wp nX; rw [h0]; dsimp only; rw [hb]; dsimp only; rw [if_pos ⟨rfl,hk⟩]; exact k
theorem Sy.put (h:Sy row "floor" n t ts) (hn:gb n=true) (hk:n∉ks) (hl:ks.length<1000) (hd:d6 [.str t]=some d) (x dx p:Q6):cI x dx p [lK ks ds,.str row]=some (ks++[n],ds++[d]):=by refine DL (C:=ax) jq rfl ?_;rw [DA];exact jr (h.p hn) (cA (fst_eq.trans (by rw [decide_eq_true rfl])) (yB rfl rfl (aN ‹26› hd) ⟨hk,hl⟩ rfl))
theorem Sy.drop (h:Sy row "drop" n t ts) (hn:gb n=true) (hk:n∈ks) (x dx p:Q6):cI x dx p [lK ks ds,.str row]=some ((lJ ks ds n).1,(lJ ks ds n).2):=by refine DL (C:=ax) jq rfl ?_;rw [DA];exact jr (h.p hn) (cm (fst_eq.trans (by rw [decide_eq_false ‹0›])) (jr (Bj rfl hk) (cA (fst_eq.trans (by rw [decide_eq_true rfl])) (F4 rfl rfl hk rfl))))
end
theorem mJ {b:DE} (ha:a ρ=some (.str x)) (hb:b ρ=some (.str y)) (h:x.length+y.length≤100000):aL a b ρ=some (.str (x++y)):=by have hline:Q4=16777216:=Rw;exact yf ha hb (if_pos (by lia))
theorem Kh {i:Int} (h0:0≤i) (h1:i<26):FW (.str hV) i=some (.str ⟨#[97+i.toNat]⟩):=by
 have hline:Q4=16777216:=Rw;have hz:hV.length≤Q4:=by rw [hline]; decide +kernel
 have hc:∀ k:Fin 26,hV.cps.toList[k.val]?=some (97+k.val):=by decide +kernel
 have hl:hV.cps.toList.length=26:=by decide +kernel
 show (if hV.length≤Q4 then (lh hV.cps.toList i).map _ else none)=_;rw [if_pos hz];have:lh hV.cps.toList i=some (97+i.toNat):=by unfold lh;rw [vW h0 (by lia)];exact hc ⟨i.toNat,by lia⟩
 rw [this];rfl
def ltZ (c:Int) (at_:Int) (k j:Nat):Int:=(hU (c+(j:Int)*(j:Int)) 3+(k:Int)*(if (j:Int)=at_ then 1 else 0)) % 26
def Ly (c at_:Int) (k m:Nat):List Nat:=(Rl m).map fun j=>97+(ltZ c at_ k j).toNat
def vK (c at_:Int) (k m:Nat):Rf:=⟨(Ly c at_ k m).toArray⟩
theorem vM (c a:Int) (k j:Nat):0≤ltZ c a k j∧ltZ c a k j<26:=⟨Xp _ ‹6›,Wf _ ‹6›⟩
theorem zO {c a:Int} {k:Nat}:(vK c a k m).length=m:=by show (Ly c a k m).toArray.size=m;rw [Rr];unfold Ly;rw [Q5,R6]
theorem HF {c a:Int} {k:Nat} (h1:1≤m) (h8:m≤8):gb (vK c a k m)=true:=by
 unfold gb;refine decide_eq_true ⟨by rw [zO]; exact h1,by rw [zO]; exact h8,fun x hx=>?_⟩;have hx:x∈Ly c a k m:=by simpa [cs,vK] using hx
 obtain ⟨j,_,rfl⟩:=RY.mp hx;have:=vM c a k j;lia
theorem CM {c a:Int} {k l:Nat} (ha:0≤a∧a<(m:Int)) (h:k<l) (hl:l<3):vK c a k m≠vK c a l m:=fun e=>by
 have e1:Ly c a k m=Ly c a l m:=by have:=congrArg cs e;simpa [cs,vK] using this
 have e2:=congrArg (·[a.toNat]?) e1;unfold Ly at e2;simp only [Ro,TL (show a.toNat<m by lia),YV,Ym] at e2;have q:((a.toNat:Nat):Int)=a:=by lia
 have h1:=vM c a k a.toNat;have h2:=vM c a l a.toNat;have h3:ltZ c a k a.toNat=ltZ c a l a.toNat:=by lia
 unfold ltZ at h3;rw [if_pos q] at h3;lia
theorem HL {c:Int} (hb:RU c≤1048576):∃ (a:Int) (m:Nat),lV [.int c]=some (.lst [.str (vK c a 0 m),.str (vK c a 1 m),.str (vK c a 2 m)])∧1≤m∧m≤8∧0≤a∧a<(m:Int):=by
 have hline:Q4=16777216:=Rw;have m1:=uI c 1;have m2:=uI c 2;obtain ⟨m,hm⟩:∃ m:Nat,(m:Int)=1+hU c 1 % 8:=⟨(1+hU c 1 % 8).toNat,by lia⟩
 obtain ⟨a,ea⟩:∃ a,a=hU c 2 % (m:Int):=⟨_,rfl⟩
 have ha:0≤a∧a<(m:Int):=by rw [ea]; exact ⟨Xp _ (by lia),Wf _ (by lia)⟩
 refine ⟨a,m,?_,by lia,by lia,ha.1,ha.2⟩;refine bU pW ?_;rw [Cb];unfold pj;refine wp_seq (bp rfl (wp_seq (bp (d:=.int m) ?_ ?_)))
 ·rw [hm];exact k4 rfl (j9 (aN ‹20› (mix c 1 (by lia) ‹6› ‹6›)) rfl ‹6›)
 refine wp_seq (bp (d:=.int a) ?_ (wp_seq (kr (ds:=[]) rfl (by simp) ?_)))
 ·rw [ea];exact j9 (aN ‹20› (mix c 2 (by lia) ‹6› ‹6›)) rfl (by lia)
 walk_at "st";refine wp_seq (iL (kZ rfl (by lia)) (fun j ρ=>∃ v5 v6 v7:Sl,ρ=[.bo (.int c),.pu (.str hV),.pu (.int m),.pu (.int a),.ol ((Rl j).map fun k=>D.str (vK c a k m)),v5,v6,v7]) ⟨_,_,_,rfl⟩ ?_ ?_)
 ·rintro k d ρ hd ⟨v5,v6,v7,rfl⟩;obtain ⟨hk,rfl⟩:=yH hd;have hk:k<3:=hk;refine ⟨_,rfl,?_⟩;dsimp only [gN,wW,RZ,R0];rw [show (0:Int)+(k:Int)=(k:Int) by lia];refine wp_seq (bp rfl ?_);walk_at "st";refine wp_seq (iL (kZ rfl (by lia)) (fun j ρ=>∃ v7:Sl,ρ=[.bo (.int c),.pu (.str hV),.pu (.int m),.pu (.int a),.ol ((Rl k).map fun k=>D.str (vK c a k m)),.pu (.int k),.pu (.str (vK c a k j)),v7]) ⟨_,rfl⟩ ?_ ?_)
  ·rintro j d ρ hd ⟨v7,rfl⟩;obtain ⟨hj,rfl⟩:=yH hd;have hj:j<m:=by lia
   refine ⟨_,rfl,?_⟩;dsimp only [gN,wW,RZ,R0];rw [show (0:Int)+(j:Int)=(j:Int) by lia];have hs:(j:Int)*(j:Int)<100:=Int.lt_of_le_of_lt (Int.mul_le_mul (show (j:Int)≤9 by lia) (show (j:Int)≤9 by lia) (by lia) (by lia)) ‹6›;have hs0:0≤(j:Int)*(j:Int):=Int.mul_nonneg (by lia) (by lia);have e1:fW intD (dN false (ak 7) (ak 3)) [.bo (.int c),.pu (.str hV),.pu (.int m),.pu (.int a),.ol ((Rl k).map fun k=>D.str (vK c a k m)),.pu (.int k),.pu (.str (vK c a k j)),.pu (.int j)]=some (.int (if (j:Int)=a then 1 else 0)):=by refine c7 (qB rfl rfl) ?_;show some (D.int (if decide ((j:Int)=a)=true then 1 else 0))=_;congr 2;by_cases q:(j:Int)=a <;> simp [q]
   have e2:cY (ak 1) (qE (pK (aJ fu (aq (pK (ak 0) (uk (ak 7) (ak 7))) (aq (dC (.int 3)) aP))) (uk (ak 5) (fW intD (dN false (ak 7) (ak 3))))) (dC (.int 26))) [.bo (.int c),.pu (.str hV),.pu (.int m),.pu (.int a),.ol ((Rl k).map fun k=>D.str (vK c a k m)),.pu (.int k),.pu (.str (vK c a k j)),.pu (.int j)]=some (.str ⟨#[97+(ltZ c a k j).toNat]⟩) :=
    c0 rfl (j9 (k4 (aN (af (k4 rfl (mH rfl rfl (Bk (by lia)))) ‹26›) (mix _ _ (bits_add (k:=1048576) ‹6› hb hs0 (by lia)) (by lia) (by lia))) (mH rfl e1 (Bk (by lia)))) rfl ‹6›) (Kh (vM c a k j).1 (vM c a k j).2)
   refine bp (mJ rfl e2 ?_) ⟨.pu (.int j),?_⟩
   ·rw [zO];show j+1≤_;lia
   ·have e3:vK c a k j++(⟨#[97+(ltZ c a k j).toNat]⟩:Rf)=vK c a k (j+1):=by apply fi;rw [ck];unfold cs vK Ly;rw [VN,SW];simp
    rw [e3];rfl
  ·rintro ρ ⟨v7,rfl⟩;rw [ur];refine F5 rfl rfl (by rw [Q5,R6]; lia) ⟨.pu (.int k),.pu (.str (vK c a k m)),v7,?_⟩;rw [VN,SW];rfl
 ·rintro ρ ⟨v5,v6,v7,rfl⟩;rw [ur];exact uZ (bx rfl rfl)
def Nm (x:Rf):Prop:=(∀ c∈cs x,c≠32∧c<128)∧x.length≤20
theorem Nm.of (h:gb x=true):Nm x:=by unfold gb at h;have:=of_decide_eq_true h;exact ⟨fun c hc=>by have:=this.2.2 c hc; lia,by lia⟩
theorem Nm.free (h:Nm x):32∉cs x:=fun z=>(h.1 32 z).1 rfl
theorem Nm.good (h:Nm x):Good x:=⟨fun c hc=>(h.1 c hc).2,RE h.2 ‹6›⟩
def Lt (x:Rf):Prop:=(∀ c∈cs x,c<128)∧x.length≤5000
instance (x:Rf):Decidable (Lt x):=inferInstanceAs (Decidable (_∧_))
theorem Nm.lt (h:Nm x):Lt x:=⟨h.good.1,RE h.2 ‹6›⟩
theorem Lt.good (h:Lt x):Good x:=⟨h.1,RE h.2 ‹6›⟩
theorem Good.O9 {z:Rf} (hx:Lt x) (hy:Lt y) (hz:Lt z):Good (x++y++z):=by
 refine ⟨fun c hc=>?_,?_⟩
 ·rw [ck,ck] at hc;rcases RD.mp hc with hc | hc
  ·exact (RD.mp hc).elim (hx.1 c) (hy.1 c)
  ·exact hz.1 c hc
 ·rw [RL,RL];have:=hx.2; have:=hy.2; have:=hz.2;lia
theorem Good.Pa (hx:Lt x) (hy:Lt y):Good (x++y):=by
 refine ⟨fun c hc=>?_,?_⟩
 ·rw [ck] at hc;exact (RD.mp hc).elim (hx.1 c) (hy.1 c)
 ·rw [RL];have:=hx.2; have:=hy.2;lia
abbrev Hd (A a:Rf):Prop:=cs A=cs a++[32]∧32∉cs a∧Lt A
abbrev Tl (T t:Rf):Prop:=cs T=32::cs t∧Lt T∧∀ w∈aQ t " ", 32∉cs w
theorem GG {A a T:Rf} (hA:Hd A a) (hu:32∉cs u) (hT:Tl T t):aQ (A++u++T) " " = a::u::aQ t " " := by
 have e:A++u++T=Rh " " (a::u::aQ t " "):=by
  obtain ⟨w,ws,hw⟩:=UC (oX t " ");have hj:=fL t " ";rw [hw] at hj ⊢;show _=a ++ " " ++ (u ++ " " ++ Rh " " (w::ws))
  rw [hj];apply fi;rw [ck,ck,ck,ck,ck,ck,hA.1,hT.1];show _=cs a++[32]++(cs u++[32]++cs t)
  simp
 rw [e,gh (by simp)];intro w hw;rcases Ri.mp hw with rfl | hw
 ·exact hA.2.1
 ·rcases Ri.mp hw with rfl | hw
  ·exact hu
  ·exact hT.2.2 w hw
theorem Cf {A a:Rf} (hA:Hd A a) (hu:32∉cs u):aQ (A++u) " " = [a,u]:=by
 have e:A++u=Rh " " [a,u]:=by show _=a ++ " " ++ u;apply fi;rw [ck,ck,ck,hA.1];rfl
 rw [e,gh (by simp)];intro w hw;rcases Ri.mp hw with rfl | hw
 ·exact hA.2.1
 ·rw [Q3.mp hw];exact hu
theorem EE {A a T:Rf} (hA:Hd A a) (hT:Tl T t) (hq:iA a ((aQ t " ").length+2)=true∧a ≠ "names" ∧ Lt t) (hu:Nm u):Sy (A++u++T) a u t (aQ t " ") :=
 ⟨Good.O9 hA.2.2 hu.lt hT.2.1,GG hA hu.free hT,hq.1,hq.2.1,fL _ _,hq.2.2.good⟩
theorem Of {A a:Rf} (hA:Hd A a) (hq:iA a 2=true∧a ≠ "names") (hu:Nm u):Sy (A++u) a u "" [] :=
 ⟨Good.Pa hA.2.2 hu.lt,Cf hA hu.free,hq.1,hq.2,rfl,by constructor <;> decide +kernel⟩
section
variable {ks:List Rf} {ds:List D}
theorem Ja (h:Lt row∧iA ((aQ row " ").headD "") (aQ row " ").length=false):markX 1 ks ds row:=by obtain ⟨w,ws,hw⟩:=UC (oX row " ");have h2:=h.2;rw [hw] at h2;exact HE h.1.good hw h2
theorem MN {A a:Rf} (hA:Hd A a) (hq:iA a 2=false) (hu:Nm u):markX 1 ks ds (A++u):=HE (Good.Pa hA.2.2 hu.lt) (Cf hA hu.free) hq
theorem OD {A a T:Rf} (hA:Hd A a) (hT:Tl T t) (hq:iA a ((aQ t " ").length+2)=false) (hu:Nm u):markX 1 ks ds (A++u++T):=HE (Good.O9 hA.2.2 hu.lt hT.2.1) (GG hA hu.free hT) hq
theorem OC {A a:Rf} (hA:Hd A a) (hq:iA a 3=false) (hu:Nm u):markX 1 ks ds (A++u ++ " " ++ u):=by
 have e1:aQ u " " = [u]:=gh (ws:=[u]) (by simp) fun w hw=>by rw [Q3.mp hw]; exact hu.free
 have hT:Tl (" " ++ u) u:=⟨by rw [ck]; rfl,⟨fun c hc=>by rw [ck] at hc; exact (RD.mp hc).elim (fun z=>by rw [Q3.mp (show c∈[32] from z)]; decide) (hu.lt.1 c),by rw [RL]; have:=hu.2; have:(" " : Rf).length=1:=rfl; lia⟩,by rw [e1]; intro w hw; rw [Q3.mp hw]; exact hu.free⟩
 have e:A++u ++ " " ++ u=A++u++(" " ++ u):=by apply fi; simp only [ck,SR]
 rw [e];exact OD hA hT (by rw [e1]; exact hq) hu
theorem Ke {a:Rf} (h:9≤a.length):iA a m=false:=by
 have ne:∀ {k:Rf},k.length≤8→(a==k)=false:=fun {k} hk=>by rw [beq_eq_false_iff_ne];rintro rfl;lia
 unfold iA dQ mD;simp only [Sr,List.lookup_nil,ne (k := "floor") ‹0›,ne (k := "late") ‹0›,ne (k := "keeps") ‹0›,ne (k := "shows") ‹0›,ne (k := "names") ‹0›,ne (k := "drop") ‹0›,ne (k := "show") ‹0›,ne (k := "plan") ‹0›,ne (k := "end") ‹0›,ne (k := "why") ‹0›,ne (k := "busy") ‹0›]
theorem QR {g:Rf} (hu:Nm u) (hg:Nm g) (h1:1≤u.length):markX 1 ks ds (u ++ "abcdefgh " ++ g):=by
 have hA:Hd (u ++ "abcdefgh ") (u ++ "abcdefgh"):=by
  refine ⟨?_,fun z=>?_,fun c hc=>?_,?_⟩
  ·rw [ck,ck,SR]; rfl
  ·rw [ck] at z;exact (RD.mp z).elim hu.free ‹0›
  ·rw [ck] at hc;exact (RD.mp hc).elim (hu.lt.1 c) ((by decide +kernel:∀ c∈cs "abcdefgh ", c<128) c)
  ·rw [RL,show ("abcdefgh " : Rf).length=9 by decide +kernel];have:=hu.2;lia
 exact MN hA (Ke (by rw [RL,show ("abcdefgh" : Rf).length=8 by decide +kernel]; lia)) hg
theorem Qw {a:Rf} (S:Sy row a u t ts) (h:gb u=false):markX 2 ks ds row:=⟨S.AZ,S.J9 h⟩
theorem P1 {a:Rf} (S:Sy row a u t ts) (h:gb u=true∧u∉ks) (hf:a ≠ "floor"):markX 2 ks ds row:=⟨S.AZ,S.J8 h.1 hf h.2⟩
theorem QA (S:Sy row "floor" u t ts) (hu:gb u=true) (h:bX [.str t]=some .non):markX 3 ks ds row:=⟨S.AZ,S.CO hu rfl,S.fText hu rfl h⟩
theorem QV {r:Rf} (S:Sy row "floor" u t ts) (hu:gb u=true) (h:FT t q r) (hR:gb q=true∧g6 r=some R∧q∉WS) (hg:Gn 40 q):markX 4 ks ds row:=⟨S.AZ,S.CO hu rfl,S.fText hu rfl (K3 h hR.1 hR.2.1),S.LI hu rfl (MS h hR.1 hR.2.1 hR.2.2 hg)⟩
end
theorem Ea {g:DG} {b:DS}:∀ (ds:List D) (ρ:aU) (I:Nat→aU→Prop),I 0 ρ→(∃ k,k<ds.length∧(∀ j d ρ,j<k→ds[j]?=some d→I j ρ→∃ ρ1,g d ρ=some ρ1∧Wp b ρ1 { nx:=I (j+1),rt:=fun _=>False })∧∀ d ρ,ds[k]?=some d→I k ρ→∃ ρ1,g d ρ=some ρ1∧b ρ1=.no)→sV g b ds ρ=.no
 | [],_,_,_,⟨k,hk,_⟩=>absurd hk (YZ _)
 | d::ds,ρ,I,h0,⟨k,hk,hs,he⟩=>by
  cases k with
  | zero =>obtain ⟨ρ1,e1,e2⟩:=he d ρ rfl h0;unfold sV;rw [e1];dsimp only;rw [e2]
  | succ k =>
   obtain ⟨ρ1,e1,e2⟩:=hs 0 d ρ (by lia) rfl h0;unfold sV;rw [e1];dsimp only;unfold Wp at e2;split at e2
   ·rename_i ρ2 e3;rw [e3];exact Ea ds ρ2 (fun j=>I (j+1)) e2 ⟨k,by simpa using hk,fun j d ρ hj hd hi=>hs (j+1) d ρ (by lia) hd hi,fun d ρ hd hi=>he d ρ hd hi⟩
   all_goals exact e2.elim
theorem HX {k:Nat} (hk:WS[k]?=some x):jQ [.str x]=none:=by
 refine sJ k9 ?_;rw [qh];unfold ko;refine jz ?_;have hl:k<WS.length:=(Rp.mp hk).1
 have go:sV (gN true 1) (cQ (dT (dN false (lL MT (ak 1) aP) (ak 0))) eX aT) (KA.map Kn) [.bo (.str x),.un]=.no:=by
  refine Ea _ _ (fun j ρ=>∃ v,ρ=[.bo (.str x),v]) ⟨_,rfl⟩ ⟨k,hl,fun j d ρ hj hd=>?_,fun d ρ hd=>?_⟩
  ·rintro ⟨v,rfl⟩;obtain ⟨C,w,rfl,h1,h2⟩:=D4 hd;refine ⟨_,rfl,?_⟩;dsimp only [gN,wW,RZ,R0];exact p0 (dG (oz (uJ h1 h2 rfl) rfl)) (fun e=>absurd (qO (by rw [← e]; exact h2) hk) (by lia)) fun _=>bj ⟨_,rfl⟩
  ·rintro ⟨v,rfl⟩;obtain ⟨C,w,rfl,h1,h2⟩:=D4 hd;refine ⟨_,rfl,?_⟩;dsimp only [gN,wW,RZ,R0];have e:w=x:=R5 (h2.symm.trans hk);exact qu (dG ((oz (uJ h1 h2 rfl) rfl).trans (by rw [decide_eq_true e]))) pU
 have ei:lN (aJ mU aP) [.bo (.str x),.un]=some (KA.map Kn):=c6 (aN rfl vS) rfl;unfold nF;rw [ei];exact go
theorem OQ {r:Rf} (h:FT x q r) (hq:gb q=true) (hs:g6 r=some R) {k:Nat} (hk:WS[k]?=some q):cw [.str x]=none:=by refine sJ eP ?_;rw [d8];unfold dv;refine jm (bp (mG rfl rfl (qK h.gx)) ?_);walk_at "st";refine jm (bp (h.w rfl) ?_);walk_at "st";refine jm ‹103›;refine jm ‹90›;walk_at "st";exact jz (MP (ku ‹26› (HX hk)))
open Classical in
theorem Gj:m8 4 [[2],[1,-1]]=true:=by show (t1 [2] 1 20&&(decide (([1,-1]:List Int).length≤40)&&@decide (Tr.Ok [1,-1]) (U8 _)))=true;rw [show t1 [2] 1 20=true by decide,show decide (([1,-1]:List Int).length≤40)=true by decide,VC,VC];refine decide_eq_true ⟨by decide,by unfold Tr.In; decide,fun w hw=>?_⟩;have hw1:w<2:=hw.2;rcases (show w=0∨w=1 by lia) with rfl | rfl <;> decide
open Classical in
theorem Jn:m8 4 [[1],[1,0]]=false:=by show (t1 [1] 1 20&&(decide (([1,0]:List Int).length≤40)&&@decide (Tr.Ok [1,0]) (U8 _)))=false;rw [decide_eq_false (p:=Tr.Ok [1,0]) fun h=>absurd (h.up 0 ‹6›) ‹6›,SX,SX]
open Classical in
theorem Hu:m8 5 [[2],[0,0]]=false:=by show (t1 [2] 0 14&&(([[0,0]]:List (List Int)).all (fun r=>decide (r.length=2))&&@decide (Pr.Ok 2 [(0,0)]) (U8 _)))=false;rw [decide_eq_false (p:=Pr.Ok 2 [(0,0)]) fun h=>h.no 0 ‹6› ⟨0,Q3.mpr rfl,0,Q3.mpr rfl,trivial⟩,SX,SX]
section
variable {ks:List Rf} {ds:List D}
theorem QW {r:Rf} (S:Sy row "floor" u t ts) (hu:gb u=true) (h:FT t q r) (hR:gb q=true∧g6 r=some R) (hs:sf R) {k:Nat} (hk:WS[k]?=some q) (hf:m8 k R=false):markX 5 ks ds row :=
 ⟨S.AZ,S.CO hu rfl,S.fText hu rfl (K3 h hR.1 hR.2),S.LI hu rfl (OQ h hR.1 hR.2 hk),S.Nw hu rfl (Ka h hR.1 hs hR.2 hk hf)⟩
theorem NS (S:Sy row "late" u t ts) (hu:gb u=true) (hk:u∈ks) (hg:kX ks ds u=some d) (hs:g6 t=none):markX 3 ks ds row :=
 ⟨S.AZ,S.CN hu ‹0› hk,S.LA hu rfl hk hg (qm S.gt hs)⟩
theorem Qx {A B:List (List Int)} (S:Sy row "late" u t ts) (hu:gb u=true) (hk:u∈ks) (hg:kX ks ds u=some (jA q A)) (hs:g6 t=some B) {k:Nat} (hw:WS[k]?=some q) (hR:sf (A++B)) (hf:m8 k (A++B)=false):markX 5 ks ds row :=
 ⟨S.AZ,S.CN hu ‹0› hk,S.LA hu rfl hk hg (vC S.gt hs),S.OP hu ‹0›,S.M3 hu rfl hk hg hs (BV hw (RE (LV hw).2 ‹6›) hR hf)⟩
theorem QC {a:Rf} (S:Sy row a u t ts) (hu:gb u=true) (hk:u∈ks) (hg:kX ks ds u=some (jA q R)) {k:Nat} (hw:WS[k]?=some q) (h2:k=2∨k=4) (ha:a ≠ "floor" ∧ a ≠ "drop" ∧ a ≠ "late") (h:(a = "keeps" ∨ a = "shows")∧g6 t=none∨a = "busy" ∧ (qz t=false∨qz t=true∧valN t<0∧(valN t).natAbs.log2<1920)):markX 3 ks ds row :=
 ⟨S.AZ,S.CN hu ha.1 hk,S.Pb hu ha hk hg (KR hw h2 (h.imp (fun z=>⟨z.1,qm S.gt z.2⟩) fun z=>⟨z.1,zz S.gt z.2⟩))⟩
end
theorem zT {c:Nat} (h:¬ (97≤c∧c≤122)):gb (x++(⟨#[c]⟩:Rf))=false:=decide_eq_false fun z=>h (z.2.2 c (by rw [ck]; exact RA _ (Q3.mpr rfl)))
theorem Gn.tail (h:Gn n x):Gn n (lq x):=⟨fun c hc=>h.1 c (VG (show c∈(cs x).drop 1 from hc)),by rw [← cR,Ei,SY,cR]; exact RE (Nat.sub_le _ _) h.2⟩
theorem zN (h:Gn 8 x) (hy:Nm y∧y.length≤8):Nm (x++y):=by
 refine ⟨fun c hc=>?_,?_⟩
 ·rw [ck] at hc;rcases RD.mp hc with hc | hc
  ·have:=h.1 c hc; lia
  ·exact hy.1.1 c hc
 ·rw [RL];have:=h.2; have:=hy.2;lia
theorem qy {g:Rf} (h:gb g=true):Gn 8 g:=by unfold gb at h;have:=of_decide_eq_true h;exact ⟨fun c hc=>by have:=this.2.2 c hc; lia,by lia⟩
theorem J6 {g:Rf} {c:Int} (h:gb g=true) (hb:RU c≤1048577):∃ m,fQ [.str g,.int c]=some (.str m)∧gb m=false∧Nm m:=by
 have hline:Q4=16777216:=Rw;have hg:=qy h;have hl:=hg.2;have h1:1≤g.length:=(of_decide_eq_true (show decide _=true from h)).1;have hm:=uI c 4;obtain ⟨i,ei⟩:∃ i,i=hU c 4 % 5:=⟨_,rfl⟩
 have hi:0≤i∧i<5:=by lia
 have hA:("A" : Rf)=⟨#[65]⟩:=by apply fi; decide +kernel
 have h1':("1" : Rf)=⟨#[49]⟩:=by apply fi; decide +kernel
 have hD:("-" : Rf)=⟨#[45]⟩:=by apply fi; decide +kernel
 have l8:("abcdefgh" : Rf).length=8:=by decide +kernel
 have l1:("A" : Rf).length=1∧("1" : Rf).length=1∧("-" : Rf).length=1:=by decide +kernel
 have gs:=hg.slice none (some (-1));have gt:=hg.tail
 have el:bw ‹108› [.bo (.str g),.bo (.int c)]=some (.lst ([("" : Rf),g ++ "abcdefgh", lq g ++ "A", kT g none (some (-1)) ++ "1", lq g ++ "-"].map D.str)) :=
  bf (af rfl (af (mJ rfl rfl (by lia)) (af (mJ (wo rfl rfl rfl (by lia)) rfl (by have:=gt.2; lia)) (af (mJ (Nx rfl rfl (wq (qA rfl)) (by lia)) rfl (by have:=gs.2; lia)) (af (mJ (wo rfl rfl rfl (by lia)) rfl (by have:=gt.2; lia)) rfl)))))
 have em:qE (aJ fu (aq (ak 1) (aq (dC (.int 4)) aP))) (dC (.int 5)) [.bo (.str g),.bo (.int c)]=some (.int i):=by rw [ei];exact j9 (aN ‹20› (mix c 4 hb ‹6› ‹6›)) rfl ‹6›
 have fin:∀ m:Rf,FW (.lst ([("" : Rf),g ++ "abcdefgh", lq g ++ "A", kT g none (some (-1)) ++ "1", lq g ++ "-"].map D.str)) i=some (.str m)→fQ [.str g,.int c]=some (.str m):=fun m e=>by refine bU nq ?_;rw [yQ];unfold kI;exact bx (c0 el em e) rfl
 have n1:∀ {y:Rf},(Lt y∧32∉cs y∧y.length≤8)→Nm y∧y.length≤8:=fun h=>⟨⟨fun c hc=>⟨fun e=>h.2.1 (by rw [← e]; exact hc),h.1.1 c hc⟩,RE h.2.2 ‹6›⟩,h.2.2⟩
 rcases (show i=0∨i=1∨i=2∨i=3∨i=4 by lia) with rfl | rfl | rfl | rfl | rfl
 ·exact ⟨_,fin _ rfl,by decide +kernel,(n1 ‹0›).1⟩
 ·exact ⟨_,fin _ rfl,decide_eq_false fun z=>by have:=z.2.1; rw [RL] at this; lia,zN hg (n1 ‹0›)⟩
 ·exact ⟨_,fin _ rfl,by rw [hA]; exact zT ‹6›,zN gt (n1 ‹0›)⟩
 ·exact ⟨_,fin _ rfl,by rw [h1']; exact zT ‹6›,zN gs (n1 ‹0›)⟩
 ·exact ⟨_,fin _ rfl,by rw [hD]; exact zT ‹6›,zN gt (n1 ‹0›)⟩
class Sh (x:Rf) (n:outParam Nat):Prop where
 h:x.length≤n
instance {x y:Rf} {n m:Nat} [a:Sh x n] [b:Sh y m]:Sh (x++y) (n+m):=⟨by rw [RL]; have:=a.h; have:=b.h; lia⟩
instance (s:String):Sh (Vk s) (Vk s).length:=⟨Rq _⟩
theorem aA {b:DE} (ha:a ρ=some (.str x)) (hb:b ρ=some (.str y)) [p:Sh x n] [q:Sh y m] (h:n+m≤100000:=by decide +kernel):aL a b ρ=some (.str (x++y)):=mJ ha hb (by have:=p.h; have:=q.h; lia)
def Pe (g u:Rf):List Rf:=["", " names", "names ", "name", "Names", "floor", "floor " ++ u, "late " ++ g, "drop"]
def Py (g:Rf):List Rf:=["drop " ++ g ++ " " ++ g, "show", "show " ++ g ++ " ", "plan", "plan " ++ g ++ " 0"]
def Qf (g:Rf):List Rf:=["end " ++ g ++ " " ++ g, "why", "why " ++ g ++ " "]
def QD (g u:Rf):List Rf:=["keeps " ++ g, "shows " ++ g, "busy " ++ g, "busy " ++ g ++ " 0 0", "Show " ++ g,u ++ "abcdefgh " ++ g]
def RW (g u:Rf):List Rf:=Pe g u++Py g++Qf g++QD g u
def Pg (u m:Rf):List Rf:=["drop " ++ u, "drop " ++ m, "show " ++ m, "show " ++ u, "plan " ++ u, "end " ++ m, "why " ++ u, "keeps " ++ u ++ " x"]
def PB (u m:Rf):List Rf:=["shows " ++ m ++ " x", "busy " ++ u ++ " x", "late " ++ u ++ " x", "floor " ++ m ++ " x", "late " ++ m ++ " -"]
def QG (u m:Rf):List Rf:=["floor " ++ m ++ " tails -", "keeps " ++ u ++ " -", "busy " ++ m ++ " 0"]
def RN (u m:Rf):List Rf:=Pg u m++PB u m++QG u m
def NX (u:Rf):List Rf:=["floor " ++ u ++ " ", "floor " ++ u ++ " tails", "floor " ++ u ++ " tails ", "floor " ++ u ++ "  tails -"]
def Pf (u:Rf):List Rf:=["floor " ++ u ++ " Tails -", "floor " ++ u ++ " tailss 1 2 03", "floor " ++ u ++ " tails 1 2 3 /"]
def Pz (g:Rf):List Rf:=["late " ++ g ++ " x", "late " ++ g ++ " ", "keeps " ++ g ++ " 1 +2", "shows " ++ g ++ " -0"]
def Qg (g t:Rf):List Rf:=["busy " ++ g ++ " -1", "busy " ++ g ++ " ", "busy " ++ g ++ " 00", "shows " ++ t ++ " "]
def QF (t:Rf):List Rf:=["keeps " ++ t ++ " 1,2", "late " ++ t ++ " - / 1"]
def RT (g t u:Rf):List Rf:=NX u++Pf u++Pz g++Qg g t++QF t
def RK (g u:Rf):List Rf:=["floor " ++ u ++ " tailss -", "floor " ++ u ++ " tail 1 2", "floor " ++ g ++ " none -"]
def Ph (g u:Rf):List Rf:=["floor " ++ u ++ " tails 1 2", "floor " ++ g ++ " tails 1 0 1", "floor " ++ u ++ " alike 0 / 1"]
def PD (u:Rf):List Rf:=["floor " ++ u ++ " pairs 2 / 0 0", "floor " ++ u ++ " tree 1 / 1 0", "floor " ++ u ++ " windows -"]
def Qh (g t:Rf):List Rf:=["late " ++ g ++ " 1 2", "late " ++ t ++ " 1"]
def QH (g t u:Rf):List Rf:=["late " ++ g ++ " 1 0 1", "late " ++ t ++ " .", "floor " ++ u ++ " open 1 / 1 2"]
def RF (g t u:Rf):List Rf:=Ph g u++PD u++Qh g t++QH g t u
def mk (m:Int) (r:Rf):D:=.tup [.str r,.int m]
theorem tw {b:aU→Option (List D)} {xs ys:List Rf} (ha:a ρ=some (.lst (xs.map D.str))) (hb:b ρ=some (ys.map D.str)) (h:xs.length+ys.length≤1000):gI a (bw b) ρ=some ((xs++ys).map D.str):=by rw [SW];exact oA ha (bf hb) (by have:=Rw; rw [Q5,Q5]; lia)
theorem Cy {g:Rf} [Sh g 8] [Sh u 8]:dz [.str g,.str u]=some (.lst ((RW g u).map (mk 1))):=by refine bU iI ?_;rw [qe];unfold fv;have hline:Q4=16777216:=Rw;refine wp_seq (bp (d:=.lst ((Pe g u).map D.str)) (bf (af rfl (af rfl (af rfl (af rfl (af rfl (af rfl (af (aA rfl rfl) (af (aA rfl rfl) ‹26›))))))))) ?_);walk_at "st";refine wp_seq (bp (d:=.lst ((Pe g u++Py g).map D.str)) (bf (tw rfl (af (aA ‹10› rfl) (af rfl (af ‹10› (af rfl (af ‹10› rfl))))) (show 9+5≤1000 by decide))) ?_);walk_at "st";refine wp_seq (bp (d:=.lst ((Pe g u++Py g++Qf g).map D.str)) (bf (tw rfl (af (aA ‹10› rfl) (af rfl (af ‹10› rfl))) (show 14+3≤1000 by decide))) ?_);walk_at "st";refine wp_seq (bp (d:=.lst ((RW g u).map D.str)) (bf (tw (xs:=Pe g u++Py g++Qf g) (ys:=QD g u) rfl (af (aA rfl rfl) (af (aA rfl rfl) (af (aA rfl rfl) (af ‹10› (af (aA rfl rfl) (af ‹10› rfl)))))) (show 17+6≤1000 by decide))) ?_);walk_at "st";exact bx (bf (bY D.str (xs:=RW g u) (c6 rfl rfl) (mk 1) fun r _=>⟨_,rfl,j8 ‹20›⟩)) rfl
theorem CA {m:Rf} [Sh u 8] [Sh m 20]:dB [.str u,.str m]=some (.lst ((RN u m).map (mk 2))):=by refine bU iK ?_;rw [qg];unfold fz;have hline:Q4=16777216:=Rw;refine wp_seq (kr (ds:=((Pg u m).take 7).map D.str) (af (aA rfl rfl) (af (aA rfl rfl) (af (aA rfl rfl) (af (aA rfl rfl) (af (aA rfl rfl) (af (aA rfl rfl) (af (aA rfl rfl) rfl))))))) (by show 3 > 2; decide) ?_);walk_at "st";refine wp_seq (F5 (d:=.str ("keeps " ++ u ++ " x")) rfl ‹10› (show 7<Q4 by lia) ?_);walk_at "st";refine wp_seq (uZ ?_);dsimp only [uM,UM,UN,RZ,R0];refine kr (ds:=(Pg u m++PB u m).map D.str) (tw (xs:=Pg u m) (ys:=PB u m) rfl (af ‹10› (af ‹10› ‹99›)) (show 8+5≤1000 by decide)) (by show 3 > 2; decide) ?_;walk_at "st";refine wp_seq (uZ ?_);dsimp only [uM,UM,UN,RZ,R0];refine kr (ds:=(RN u m).map D.str) (tw (xs:=Pg u m++PB u m) (ys:=QG u m) rfl ‹99› (show 13+3≤1000 by decide)) (by show 3 > 2; decide) ?_;walk_at "st";exact bx (bf (bY D.str (xs:=RN u m) (c6 rfl rfl) (mk 2) fun r _=>⟨_,rfl,j8 (af (ic rfl rfl) ‹26›)⟩)) rfl
theorem Cz {g:Rf} [Sh g 8] [Sh t 8] [Sh u 8]:dA [.str g,.str t,.str u]=some (.lst ((RT g t u).map (mk 3)++(RK g u).map (mk 4)++(RF g t u).map (mk 5))):=by refine bU iJ ?_;rw [qf];unfold fw;have hline:Q4=16777216:=Rw;refine wp_seq (bp (d:=.lst ((NX u).map D.str)) (bf (af ‹10› ‹99›)) ?_);walk_at "st";refine wp_seq (bp (d:=.lst ((NX u++Pf u).map D.str)) (bf (tw rfl ‹99› (show 4+3≤1000 by decide))) ?_);walk_at "st";refine wp_seq (bp (d:=.lst ((NX u++Pf u++Pz g).map D.str)) (bf (tw rfl (af ‹10› ‹99›) (show 7+4≤1000 by decide))) ?_);walk_at "st";refine wp_seq (bp (d:=.lst ((NX u++Pf u++Pz g++Qg g t).map D.str)) (bf (tw rfl (af ‹10› ‹99›) (show 11+4≤1000 by decide))) ?_);walk_at "st";refine wp_seq (bp (d:=.lst ((RT g t u).map D.str)) (bf (tw (xs:=NX u++Pf u++Pz g++Qg g t) (ys:=QF t) rfl (af ‹10› (af ‹10› rfl)) (show 15+2≤1000 by decide))) ?_);walk_at "st";refine wp_seq (bp (d:=.lst ((RT g t u).map (mk 3))) (bf (bY D.str (xs:=RT g t u) (c6 rfl rfl) (mk 3) fun r _=>⟨_,rfl,j8 ‹20›⟩)) ?_);walk_at "st";refine wp_seq (bp (d:=.lst ((RT g t u).map (mk 3)++(RK g u).map (mk 4))) (bf (oA rfl (bf (af (j8 (af ‹10› ‹26›)) (af (j8 (af ‹10› ‹26›)) (af (j8 (af ‹10› ‹26›)) rfl)))) (show 17+3≤Q4 by lia))) ?_);walk_at "st";refine wp_seq (bp (d:=.lst ((Ph g u).map D.str)) (bf ‹99›) ?_);walk_at "st";refine wp_seq (bp (d:=.lst ((Ph g u++PD u).map D.str)) (bf (tw rfl ‹99› (show 3+3≤1000 by decide))) ?_);walk_at "st";refine wp_seq (bp (d:=.lst ((Ph g u++PD u++Qh g t).map D.str)) (bf (tw rfl (af ‹10› (af ‹10› rfl)) (show 6+2≤1000 by decide))) ?_);walk_at "st";refine wp_seq (bp (d:=.lst ((RF g t u).map D.str)) (bf (tw (xs:=Ph g u++PD u++Qh g t) (ys:=QH g t u) rfl ‹99› (show 8+3≤1000 by decide))) ?_);walk_at "st";exact bx (bf (oA rfl (bf (bY D.str (xs:=RF g t u) (c6 rfl rfl) (mk 5) fun r _=>⟨_,rfl,j8 ‹20›⟩)) (show 20+11≤Q4 by lia))) rfl
theorem gF {P:α→Prop} {a b:List α} (h1:∀ x∈a,P x) (h2:∀ x∈b,P x):∀ x∈a++b,P x:=fun x hx=>(RD.mp hx).elim (h1 x) (h2 x)
theorem all_cons {P:α→Prop} {a:α} {b:List α} (h1:P a) (h2:∀ x∈b,P x):∀ x∈a::b,P x:=fun x hx=>(Ri.mp hx).elim (fun e=>e ▸ h1) (h2 x)
theorem all_nil {P:α→Prop}:∀ x∈([]:List α),P x:=fun _ h=>by cases h
section
variable {ks:List Rf} {ds:List D}
theorem OI {g:Rf} (hg:Nm g) (hu:Nm u) (h1:1≤u.length):∀ r∈RW g u,markX 1 ks ds r :=
 gF (gF (gF
  (all_cons (Ja ‹0›) (all_cons (Ja ‹0›) (all_cons (Ja ‹0›) (all_cons (Ja ‹0›) (all_cons (Ja ‹0›) (all_cons (Ja ‹0›) (all_cons (MN (a := "floor") ‹0› ‹0› hu) (all_cons (MN (a := "late") ‹0› ‹0› hg) (all_cons (Ja ‹0›) all_nil)))))))))
  (all_cons (OC (a := "drop") ‹0› ‹0› hg) (all_cons (Ja ‹0›) (all_cons (OD (a := "show") (t := "") ‹0› ‹0› ‹0› hg) (all_cons (Ja ‹0›) (all_cons (OD (a := "plan") (t := "0") ‹0› ‹0› ‹0› hg) all_nil))))))
  (all_cons (OC (a := "end") ‹0› ‹0› hg) (all_cons (Ja ‹0›) (all_cons (OD (a := "why") (t := "") ‹0› ‹0› ‹0› hg) all_nil))))
  (all_cons (MN (a := "keeps") ‹0› ‹0› hg) (all_cons (MN (a := "shows") ‹0› ‹0› hg) (all_cons (MN (a := "busy") ‹0› ‹0› hg) (all_cons (OD (a := "busy") (t := "0 0") ‹0› ‹0› ‹0› hg) (all_cons (MN (a := "Show") ‹0› ‹0› hg) (all_cons (QR hu hg h1) all_nil))))))
end
theorem J7 {r:Rf} (h:Lt x∧Lt r∧(Txt.partition x " ").1=q∧(Txt.partition x " ").2.2=r∧gb q=true∧g6 r=none) (hq:Lt q):bX [.str x]=some .non:=by obtain ⟨hx,hr,e1,e2,hw,hs⟩:=h;refine fT dy ?_;rw [d8];unfold cJ;refine wp_seq (bp (mG rfl rfl (qK hx.good)) ?_);walk_at "st";refine wp_seq (bp (d:=.str q) ((c0 rfl rfl rfl).trans (by rw [e1])) ?_);walk_at "st";refine wp_seq (cm (cf (x:=true) (cj (aN ‹26› (by rw [kx hq.good,hw])) rfl)) (bj ?_));exact wp_seq (yA (aN (af ((c0 rfl rfl rfl).trans (by rw [e2])) rfl) (qm hr.good hs)) rfl)
theorem Qa {r:Rf} (h:Lt x∧cs x=cs q++32::cs r∧32∉cs q):FT x q r:=⟨h.1.good,h.2.1,h.2.2⟩
theorem Og (h:R.length≤14∧∀ r∈R,r.length≤5∧∀ n∈r,n.natAbs<10 ^ 60):sf R:=h
theorem QU (h:(∀ c∈x.cps.toList,64<c∧c<128)∧x.length≤40):Gn 40 x:=h
section
variable {ks:List Rf} {ds:List D}
theorem OL {m:Rf} (hu:gb u=true) (hk:u∉ks) (hm:gb m=false) (nm:Nm m):∀ r∈RN u m,markX 2 ks ds r:=by
 have nu:=Nm.of hu;have k2:∀ {A a:Rf},Hd A a→(iA a 2=true∧a ≠ "names")∧a ≠ "floor" → markX 2 ks ds (A++u):=fun h1 h2=>P1 (Of h1 h2.1 nu) ⟨hu,hk⟩ h2.2;have n2:∀ {A a:Rf},Hd A a→(iA a 2=true∧a ≠ "names")→markX 2 ks ds (A++m):=fun h1 h2=>Qw (Of h1 h2 nm) hm;have k3:∀ {A a T t:Rf},Hd A a→Tl T t→(iA a ((aQ t " ").length+2)=true∧a ≠ "names" ∧ Lt t)∧a ≠ "floor" → markX 2 ks ds (A++u++T):=fun h1 h2 h3=>P1 (EE h1 h2 h3.1 nu) ⟨hu,hk⟩ h3.2;have n3:∀ {A a T t:Rf},Hd A a→Tl T t→(iA a ((aQ t " ").length+2)=true∧a ≠ "names" ∧ Lt t)→markX 2 ks ds (A++m++T):=fun h1 h2 h3=>Qw (EE h1 h2 h3 nm) hm
 exact gF (gF
  (all_cons (k2 (a := "drop") ‹0› ‹0›) (all_cons (n2 (a := "drop") ‹0› ‹0›) (all_cons (n2 (a := "show") ‹0› ‹0›) (all_cons (k2 (a := "show") ‹0› ‹0›) (all_cons (k2 (a := "plan") ‹0› ‹0›) (all_cons (n2 (a := "end") ‹0› ‹0›) (all_cons (k2 (a := "why") ‹0› ‹0›) (all_cons (k3 (a := "keeps") (t := "x") ‹0› ‹0› ‹0›) all_nil))))))))
  (all_cons (n3 (a := "shows") (t := "x") ‹0› ‹0› ‹0›) (all_cons (k3 (a := "busy") (t := "x") ‹0› ‹0› ‹0›) (all_cons (k3 (a := "late") (t := "x") ‹0› ‹0› ‹0›) (all_cons (n3 (a := "floor") (t := "x") ‹0› ‹0› ‹0›) (all_cons (n3 (a := "late") (t := "-") ‹0› ‹0› ‹0›) all_nil))))))
  (all_cons (n3 (a := "floor") (t := "tails -") ‹0› ‹0› ‹0›) (all_cons (k3 (a := "keeps") (t := "-") ‹0› ‹0› ‹0›) (all_cons (n3 (a := "busy") (t := "0") ‹0› ‹0› ‹0›) all_nil)))
abbrev TR:List (List Int):=[[2],[1,-1]]
theorem LY:WS[2]?=some ("tails" : Rf):=by decide +kernel
theorem N0:WS[4]?=some ("tree" : Rf):=by decide +kernel
theorem OJ {g:Rf} (hg:gb g=true) (ht:gb t=true) (hu:gb u=true) (kg:g∈ks) (kt:t∈ks) (eg:kX ks ds g=some (jA "tails" R)) (et:kX ks ds t=some (jA "tree" TR)):∀ r∈RT g t u,markX 3 ks ds r:=by
 have ng:=Nm.of hg;have nt:=Nm.of ht;have nu:=Nm.of hu;have f1:∀ {T x q:Rf},Tl T x→‹52›→Lt q∧(Txt.partition x " ").1=q∧gb q=false→markX 3 ks ds ("floor " ++ u++T):=fun h2 h3 h4=>QA (EE (a := "floor") ‹0› h2 h3 nu) hu (noName h3.2.2.good h4.1.good h4.2.1 h4.2.2);have f2:∀ {T x q r:Rf},Tl T x→‹52›→(Lt x∧Lt r∧(Txt.partition x " ").1=q∧(Txt.partition x " ").2.2=r∧gb q=true∧g6 r=none)→Lt q→markX 3 ks ds ("floor " ++ u++T):=fun h2 h3 h4 h5=>QA (EE (a := "floor") ‹0› h2 h3 nu) hu (J7 h4 h5);have l1:∀ {n T x:Rf} {d:D},gb n=true→n∈ks→kX ks ds n=some d→Tl T x→(iA "late" ((aQ x " ").length+2)=true∧("late" : Rf) ≠ "names" ∧ Lt x)→g6 x=none→markX 3 ks ds ("late " ++ n++T):=fun h k e h2 h3 h4=>NS (EE (a := "late") ‹0› h2 h3 (Nm.of h)) h k e h4;have ag:∀ {A a T x:Rf},Hd A a→Tl T x→(iA a ((aQ x " ").length+2)=true∧a ≠ "names" ∧ Lt x)→(a ≠ "floor" ∧ a ≠ "drop" ∧ a ≠ "late")→((a = "keeps" ∨ a = "shows")∧g6 x=none∨a = "busy" ∧ (qz x=false∨qz x=true∧valN x<0∧(valN x).natAbs.log2<1920))→markX 3 ks ds (A++g++T):=fun h1 h2 h3 h4 h5=>QC (EE h1 h2 h3 ng) hg kg eg LY (.inl rfl) h4 h5;have at':∀ {A a T x:Rf},Hd A a→Tl T x→(iA a ((aQ x " ").length+2)=true∧a ≠ "names" ∧ Lt x)→(a ≠ "floor" ∧ a ≠ "drop" ∧ a ≠ "late")→((a = "keeps" ∨ a = "shows")∧g6 x=none∨a = "busy" ∧ (qz x=false∨qz x=true∧valN x<0∧(valN x).natAbs.log2<1920))→markX 3 ks ds (A++t++T):=fun h1 h2 h3 h4 h5=>QC (EE h1 h2 h3 nt) ht kt et N0 (.inr rfl) h4 h5
 exact gF (gF (gF (gF
  (all_cons (f1 (x := "") (q := "") ‹0› ‹0› ‹0›) (all_cons (f2 (x := "tails") (q := "tails") (r := "") ‹0› ‹0› ‹0› ‹0›) (all_cons (f2 (x := "tails ") (q := "tails") (r := "") ‹0› ‹0› ‹0› ‹0›) (all_cons (f1 (x := " tails -") (q := "") ‹0› ‹0› ‹0›) all_nil))))
  (all_cons (f1 (x := "Tails -") (q := "Tails") ‹0› ‹0› ‹0›) (all_cons (f2 (x := "tailss 1 2 03") (q := "tailss") (r := "1 2 03") ‹0› ‹0› ‹0› ‹0›) (all_cons (f2 (x := "tails 1 2 3 /") (q := "tails") (r := "1 2 3 /") ‹0› ‹0› ‹0› ‹0›) all_nil))))
  (all_cons (l1 (x := "x") hg kg eg ‹0› ‹0› ‹0›) (all_cons (l1 (x := "") hg kg eg ‹0› ‹0› ‹0›) (all_cons (ag (a := "keeps") (x := "1 +2") ‹0› ‹0› ‹0› ‹0› ‹0›) (all_cons (ag (a := "shows") (x := "-0") ‹0› ‹0› ‹0› ‹0› ‹0›) all_nil)))))
  (all_cons (ag (a := "busy") (x := "-1") ‹0› ‹0› ‹0› ‹0› ‹0›) (all_cons (ag (a := "busy") (x := "") ‹0› ‹0› ‹0› ‹0› ‹0›) (all_cons (ag (a := "busy") (x := "00") ‹0› ‹0› ‹0› ‹0› ‹0›) (all_cons (at' (a := "shows") (x := "") ‹0› ‹0› ‹0› ‹0› ‹0›) all_nil)))))
  (all_cons (at' (a := "keeps") (x := "1,2") ‹0› ‹0› ‹0› ‹0› ‹0›) (all_cons (l1 (x := "- / 1") ht kt et ‹0› ‹0› ‹0›) all_nil))
theorem OM {g:Rf} (hg:gb g=true) (hu:gb u=true):∀ r∈RK g u,markX 4 ks ds r:=by have f:∀ {n T x q r:Rf} {R:List (List Int)},gb n=true→Tl T x→‹52›→Lt x∧cs x=cs q++32::cs r∧32∉cs q→(gb q=true∧g6 r=some R∧q∉WS)→((∀ c∈q.cps.toList,64<c∧c<128)∧q.length≤40)→markX 4 ks ds ("floor " ++ n++T):=fun hn h2 h3 h4 h5 h6=>QV (EE (a := "floor") ‹0› h2 h3 (Nm.of hn)) hn (Qa h4) h5 (QU h6);exact all_cons (f (x := "tailss -") (q := "tailss") (r := "-") (R:=[]) hu ‹0› ‹0› ‹0› ‹0› ‹0›) (all_cons (f (x := "tail 1 2") (q := "tail") (r := "1 2") (R:=[[1,2]]) hu ‹0› ‹0› ‹0› ‹0› ‹0›) (all_cons (f (x := "none -") (q := "none") (r := "-") (R:=[]) hg ‹0› ‹0› ‹0› ‹0› ‹0›) all_nil))
theorem Kw (h:g2 r=false):m8 2 (R++[r])=false:=by show (decide ((R++[r]).length≤12)&&(R++[r]).all g2)=false;rw [Y0,Vz,h,Ve,SX,SX]
theorem ON {g:Rf} (hR:R.length≤13∧∀ r∈R,FY r) (hg:gb g=true) (ht:gb t=true) (hu:gb u=true) (kg:g∈ks) (kt:t∈ks) (eg:kX ks ds g=some (jA "tails" R)) (et:kX ks ds t=some (jA "tree" TR)):∀ r∈RF g t u,markX 5 ks ds r:=by
 have sm:∀ {r:List Int},FY r→sf (R++[r]):=fun h=>⟨by rw [Ru]; have:=hR.1; show R.length+1≤14; lia,fun z hz=>(RD.mp hz).elim (hR.2 z) fun q=>by rw [Q3.mp q]; exact h⟩
 have f:∀ {n T x q r:Rf} {Q:List (List Int)} {k:Nat},gb n=true→Tl T x→‹52›→Lt x∧cs x=cs q++32::cs r∧32∉cs q→(gb q=true∧g6 r=some Q)→(Q.length≤14∧∀ r∈Q,r.length≤5∧∀ n∈r,n.natAbs<10 ^ 60)→WS[k]?=some q→m8 k Q=false→markX 5 ks ds ("floor " ++ n++T):=fun hn h2 h3 h4 h5 h6 h7 h8=>QW (EE (a := "floor") ‹0› h2 h3 (Nm.of hn)) hn (Qa h4) h5 (Og h6) h7 h8;have lg:∀ {T x:Rf} {r:List Int},Tl T x→(iA "late" ((aQ x " ").length+2)=true∧("late" : Rf) ≠ "names" ∧ Lt x)→g6 x=some [r]→FY r→g2 r=false→markX 5 ks ds ("late " ++ g++T):=fun h2 h3 h4 h5 h6=>Qx (EE (a := "late") ‹0› h2 h3 (Nm.of hg)) hg kg eg h4 LY (sm h5) (Kw h6);have lt:∀ {T x:Rf} (r:List Int),Tl T x→(iA "late" ((aQ x " ").length+2)=true∧("late" : Rf) ≠ "names" ∧ Lt x)→g6 x=some [r]→sf (TR++[r])→markX 5 ks ds ("late " ++ t++T):=fun r h2 h3 h4 h5=>Qx (EE (a := "late") ‹0› h2 h3 (Nm.of ht)) ht kt et h4 N0 h5 (Ec (rs:=[[2],[1,-1],r]) (by simp))
 exact gF (gF (gF
  (all_cons (f (x := "tails 1 2") (q := "tails") (r := "1 2") (Q:=[[1,2]]) hu ‹0› ‹0› ‹0› ‹0› ‹0› LY ‹0›) (all_cons (f (x := "tails 1 0 1") (q := "tails") (r := "1 0 1") (Q:=[[1,0,1]]) hg ‹0› ‹0› ‹0› ‹0› ‹0› LY ‹0›) (all_cons (f (x := "alike 0 / 1") (q := "alike") (r := "0 / 1") (Q:=[[0],[1]]) (k:=0) hu ‹0› ‹0› ‹0› ‹0› ‹0› ‹0› ‹0›) all_nil)))
  (all_cons (f (x := "pairs 2 / 0 0") (q := "pairs") (r := "2 / 0 0") (Q:=[[2],[0,0]]) (k:=5) hu ‹0› ‹0› ‹0› ‹0› ‹0› ‹0› Hu) (all_cons (f (x := "tree 1 / 1 0") (q := "tree") (r := "1 / 1 0") (Q:=[[1],[1,0]]) hu ‹0› ‹0› ‹0› ‹0› ‹0› N0 Jn) (all_cons (f (x := "windows -") (q := "windows") (r := "-") (Q:=[]) (k:=3) hu ‹0› ‹0› ‹0› ‹0› ‹0› ‹0› ‹0›) all_nil))))
  (all_cons (lg (x := "1 2") (r:=[1,2]) ‹0› ‹0› ‹0› (by unfold FY FX; decide +kernel) ‹0›) (all_cons (lt (x := "1") [1] ‹0› ‹0› ‹0› (Og ‹0›)) all_nil)))
  (all_cons (lg (x := "1 0 1") (r:=[1,0,1]) ‹0› ‹0› ‹0› (by unfold FY FX; decide +kernel) ‹0›) (all_cons (lt (x := ".") [] ‹0› ‹0› ‹0› (Og ‹0›)) (all_cons (f (x := "open 1 / 1 2") (q := "open") (r := "1 / 1 2") (Q:=[[1],[1,2]]) (k:=1) hu ‹0› ‹0› ‹0› ‹0› ‹0› ‹0› ‹0›) all_nil)))
end
def wk (c:Int) (k:Nat):List Int:=[hU c (k:Int) % 9,1+hU c ((k:Int)+20) % 9,3]
def nE (c:Int) (n:Nat):List (List Int):=(Rl n).map (wk c)++[[0,1,10]]
theorem LX (c:Int) (k:Nat):0≤hU c (k:Int) % 9∧hU c (k:Int) % 9<9∧0≤hU c ((k:Int)+20) % 9∧hU c ((k:Int)+20) % 9<9:=by lia
theorem NZ (c:Int) (k:Nat):FY (wk c k):=by
 have h:=LX c k;refine ⟨by show 3≤5; decide,fun n hn=>?_⟩
 have:n.natAbs<10:=by
  rcases Ri.mp hn with rfl | hn
  ·lia
  ·rcases Ri.mp hn with rfl | hn
   ·lia
   ·rw [Q3.mp hn]; decide
 exact S5 this ‹6›
theorem jk {c:Int} (h:n<12):sf (nE c n)∧(nE c n).length≤13∧m8 2 (nE c n)=true∧nE c n≠[]:=by
 have hl:(nE c n).length=n+1:=by unfold nE; rw [Ru,Q5,R6]; rfl
 refine ⟨⟨by lia,fun r hr=>?_⟩,by lia,?_,fun e=>by rw [e] at hl; cases hl⟩
 ·rcases RD.mp hr with hr | hr
  ·obtain ⟨k,_,rfl⟩:=RY.mp hr;exact NZ c k
  ·rw [Q3.mp hr];unfold FY FX;decide +kernel
 ·show (decide ((nE c n).length≤12)&&(nE c n).all g2)=true;rw [hl,decide_eq_true (by lia),VC];unfold nE;rw [Y0,Tn,RS];refine ⟨Ry.mpr fun k _=>?_,by decide⟩;have h:=LX c k;have e1:decide (0≤hU c (k:Int) % 9)=true:=decide_eq_true h.1;have e2:decide (0≤1+hU c ((k:Int)+20) % 9)=true:=decide_eq_true (by lia);have e3:decide (1≤1+hU c ((k:Int)+20) % 9)=true:=decide_eq_true (by lia);show (decide ((3:Nat)=3)&&((decide (0≤hU c (k:Int) % 9)&&(decide (0≤1+hU c ((k:Int)+20) % 9)&&(decide ((0:Int)≤3)&&true)))&&decide (1≤1+hU c ((k:Int)+20) % 9)))=true;rw [e1,e2,e3];rfl
theorem Jl (c:Int) (k:Nat):fI (hU c (k:Int) % 9) ++ " " ++ fI (1+hU c ((k:Int)+20) % 9) ++ " 3" = Rh " " (fZ (wk c k)):=by
 have e:fZ (wk c k)=[fI (hU c (k:Int) % 9),fI (1+hU c ((k:Int)+20) % 9),fI 3]:=if_neg (by unfold wk; simp);rw [e];show _=fI _ ++ " " ++ (fI _ ++ " " ++ fI 3)
 have e3:cs (fI 3)=[51]:=by decide +kernel
 have e4:cs " 3" = [32,51]:=by decide +kernel
 apply fi;simp only [ck,e3,e4,SR];rfl
def txt (c:Int) (n:Nat):Rf := "tails " ++ jc (nE c n)
theorem Ey (c:Int) (n:Nat):txt c n=Rh " " ("tails" :: sy (nE c n)):=by obtain ⟨w,ws,hw⟩:=UC (F2 (nE c n));unfold txt jc;rw [hw];show _ = "tails" ++ " " ++ Rh " " (w::ws);apply fi;simp only [ck];rfl
theorem xH (c:Int) (n:Nat):aQ (txt c n) " " = ("tails" : Rf)::sy (nE c n):=by
 rw [Ey];refine gh (by simp) fun w hw=>?_;rcases Ri.mp hw with rfl | hw
 ·decide +kernel
 ·exact uq hw
theorem yJ {c:Int} (h:n<12):Lt (txt c n)∧(txt c n).length≤4388:=by
 have hl:=xS (jk (c:=c) h).1;have h6:("tails " : Rf).length=6:=by decide +kernel
 have h2:(txt c n).length≤4388:=by unfold txt; rw [RL]; lia
 refine ⟨⟨fun x hx=>?_,by lia⟩,h2⟩;unfold txt at hx;rw [ck] at hx;rcases RD.mp hx with hx | hx
 ·exact (by decide +kernel:∀ c∈cs "tails ", c<128) x hx
 ·have:=G4 _ x hx;lia
theorem L5 {c:Int} (h:n<12):FT (txt c n) "tails" (jc (nE c n)):=⟨(yJ h).1.good,by unfold txt; rw [ck]; rfl,by decide +kernel⟩
theorem CB (m:Nat):iA "floor" (m+3)=true:=by
 have e:dQ.lookup ("floor" : Rf)=some 3:=by decide +kernel
 unfold iA;rw [e];exact decide_eq_true (by lia)
theorem Bn {g:Rf} {c:Int} (hg:gb g=true) (h:n<12):Sy ("floor " ++ g ++ " " ++ txt c n) "floor" g (txt c n) (aQ (txt c n) " "):=by
 have e : "floor " ++ g ++ " " ++ txt c n = "floor " ++ g++(" " ++ txt c n):=by apply fi; simp only [ck,SR]
 rw [e];have hl:=yJ (c:=c) h;refine EE ‹0› ⟨by rw [ck]; rfl,⟨fun x hx=>?_,?_⟩,?_⟩ ⟨?_,by decide +kernel,hl.1⟩ (Nm.of hg)
 ·rw [ck] at hx;rcases RD.mp hx with hx | hx
  ·rw [Q3.mp (show x∈[32] from hx)]; decide
  ·exact hl.1.1 x hx
 ·rw [RL,show (" " : Rf).length=1 from rfl];lia
 ·rw [xH];intro w hw;rcases Ri.mp hw with rfl | hw
  ·decide +kernel
  ·exact uq hw
 ·rw [xH];exact CB _
theorem we {c:Int} (h:n<12):d6 [.str (txt c n)]=some (jA "tails" (nE c n)):=D7 (L5 h) ‹0› (jk h).1 (ES (jk h).1) LY (jk h).2.2.1
theorem EA:d6 [.str "tree 2 / 1 -1"]=some (jA "tree" TR):=D7 (r := "2 / 1 -1") (Qa ‹0›) ‹0› (Og ‹0›) ‹0› N0 Gj
theorem qT (c:Int) (n:Nat):Rh " " ["tails", jc (nE c n)]=txt c n:=by show "tails" ++ " " ++ jc (nE c n)=_;apply fi;unfold txt;simp only [ck];rfl
open PySem.Spec PyProof.Rows in
theorem GD:(∀ x∈gT ss,x∈ss)∧(gT ss).length≤ss.length:=by
 by_cases h:∃ ms:List Rf,ms.Perm ss∧Xg ms=true
 ·have e:gT ss=h.choose:=by unfold gT; exact dif_pos h
  rw [e];exact ⟨fun x hx=>h.choose_spec.1.mem_iff.mp hx,VT h.choose_spec.1.length_eq⟩
 ·have e:gT ss=[]:=by unfold gT; exact dif_neg h
  rw [e];exact ⟨fun x hx=>(by cases hx),Th _⟩
theorem j3 (h:∀ x∈ss,Nm x) (hl:ss.length≤3):Good (Rh " " (gT ss)):=by
 obtain ⟨h1,h2⟩:=GD (ss:=ss);refine ⟨fun c hc=>?_,?_⟩
 ·rcases zS hc with q | ⟨p,hp,q⟩
  ·rw [Q3.mp (show c∈[32] from q)]; decide
  ·exact ((h p (h1 p hp)).1 c q).2
 ·have:=oi " " 20 (gT ss) fun p hp=>(h p (h1 p hp)).2;have h3:(" " : Rf).length=1:=rfl;have h4:(gT ss).length*(20+1)≤3*21:=VI _ (by lia);rw [h3] at this;lia
theorem FA (ns:List Int):iE (ns.map D.int)=true:=by unfold iE; rw [Tn]; exact Ry.mpr fun _ _=>rfl
theorem Ek (ns:List Int) (k:Int) (h:0≤k):gR [.scr ns,.int k]=some (.int (ns.getD k.toNat 0)):=by
 refine bU nr ?_;rw [yR];unfold kJ;walk_at "go";refine p0 (by walk_at "ev") (fun c=>?_) fun c=>?_
 ·refine bx (by walk_at "ev") rfl
 ·walk_at "go";refine bx (by walk_at "ev") ?_;rw [Rc,Sf (by lia)];rfl
theorem OU {i:Int} (ha:a ρ=some (.int i)):NV false a (pJ (aq ‹27› (aq (dC (.int 5)) aP))) ρ=some (.bl (decide (i∈([1,5]:List Int)))):=by unfold NV;rw [ha,show pJ (aq ‹27› (aq (dC (.int 5)) aP)) ρ=some (.tup [.int 1,.int 5]) from j8 ‹20›];rfl
theorem Dy {n:Int} (h:n.natAbs<10):Gv (.int n)=some (.str (fI n)):=by show (if n.natAbs.log2<1920 then some (D.str (toString n)) else none)=_;rw [if_pos (log_small (show FX n from S5 h ‹6›))];rfl
abbrev Lw (ns:List Int) (c:Int) (g t u:Rf) (W:Sl) (tx:Rf) (k v8 v9 v10 v11 v12:Sl):aU:=[.bo (.scr ns),k,.pu (.str g),.pu (.str t),.pu (.str u),.pu (.int c),W,.pu (.str tx),v8,v9,v10,v11,v12]
def Dg (g t u m:Rf):List D:=((RW g u).map (mk 1)++(RN u m).map (mk 2))++((RT g t u).map (mk 3)++(RK g u).map (mk 4)++(RF g t u).map (mk 5))
theorem IZ (g t u m:Rf):(Dg g t u m).length=70:=rfl
theorem IY {g m:Rf} {ks:List Rf} {ds:List D} (h:d∈Dg g t u m) (h1:∀ r∈RW g u,markX 1 ks ds r) (h2:∀ r∈RN u m,markX 2 ks ds r) (h3:∀ r∈RT g t u,markX 3 ks ds r) (h4:∀ r∈RK g u,markX 4 ks ds r) (h5:∀ r∈RF g t u,markX 5 ks ds r):∃ (r:Rf) (k:Nat),d=mk (k:Int) r∧markX k ks ds r:=by
 rcases RD.mp h with h | h
 ·rcases RD.mp h with h | h
  ·obtain ⟨r,hr,rfl⟩:=RY.mp h;exact ⟨r,1,rfl,h1 r hr⟩
  ·obtain ⟨r,hr,rfl⟩:=RY.mp h;exact ⟨r,2,rfl,h2 r hr⟩
 ·rcases RD.mp h with h | h
  ·rcases RD.mp h with h | h
   ·obtain ⟨r,hr,rfl⟩:=RY.mp h;exact ⟨r,3,rfl,h3 r hr⟩
   ·obtain ⟨r,hr,rfl⟩:=RY.mp h;exact ⟨r,4,rfl,h4 r hr⟩
  ·obtain ⟨r,hr,rfl⟩:=RY.mp h;exact ⟨r,5,rfl,h5 r hr⟩
theorem KQ {l:List α} {i:Int} (h0:0≤i) (h1:i<(l.length:Int)):∃ x∈l,lh l i=some x:=by
 unfold lh;rw [vW h0 h1];have hi:i.toNat<l.length:=by lia
 exact ⟨l[i.toNat],Uc hi,Q8 hi⟩
section
variable {ks:List Rf} {ds:List D} {ρ:aU}
theorem AF (hk:k6 (ρ.getD 1 .un)=some (ax,ks,ds)) (he:e ρ=some (.str x)) (h:F [lK ks ds,.str x]=some d):aJ F (fg ax 1 (aq e aP)) ρ=some d:=aN (Eg hk (af he rfl)) h
theorem vp {b:DE} (ha:a ρ=some (.str x)) (hb:b ρ=some (.str x)):dT (dN true a b) ρ=some false:=dG (yg ha hb rfl)
theorem Ej (a b c d e:Bool):nN 20 (O7 a b c d e) (O7 a b c d e)=true:=rfl
theorem Kc {r:Rf} (h:markX m ks ds r):m=1∨m=2∨m=3∨m=4∨m=5:=by
 match m,h with
 | 1,_=>exact .inl rfl
 | 2,_=>exact .inr (.inl rfl)
 | 3,_=>exact .inr (.inr (.inl rfl))
 | 4,_=>exact .inr (.inr (.inr (.inl rfl)))
 | 5,_=>exact .inr (.inr (.inr (.inr rfl)))
end
theorem body {ns:List Int} {c one:Int} {g:Rf} {W v10 v11 v12:Sl} (hn:n<12) (hg:gb g=true) (ht:gb t=true) (hu:gb u=true) (gt:g≠t) (gu:g≠u) (tu:t≠u) (hb:RU one≤1048576) {X:Wk}
    (kk:∀ v10 v11 v12:Sl,X.nx (Lw ns c g t u W (txt c n) ‹43› ‹46› (.pu (.int one)) v10 v11 v12)) :
    Wp (aM ‹76›
 (aM (Ml (cY (aX 10) (qE (aJ fu (aq (ak 9) (aq (dC (.int 6)) aP))) (fW dX (ak 10)))) (Nh 2 (h9 (gN true 11) (h9 (gN true 12) wc))))
 (aM (cQ (dT (dN true (aJ fP (fg ax 1 (aq (aX 11) aP))) (bw ‹107›)))
 ‹80›
      aT)
 (cQ ‹42›
 ‹80›
      aT))))
     (Lw ns c g t u W (txt c n) ‹43› ‹46› (.pu (.int one)) v10 v11 v12) X:=by
  have hline:Q4=16777216:=Rw;have ng:=Nm.of hg;have nt:=Nm.of ht;have nu:=Nm.of hu
  haveI:Sh g 8:=⟨(qy hg).2⟩
  haveI:Sh t 8:=⟨(qy ht).2⟩
  haveI:Sh u 8:=⟨(qy hu).2⟩
  obtain ⟨m,em,hm,nm⟩:=J6 (c:=one) hg (by lia)
  haveI:Sh m 20:=⟨nm.2⟩
  have h6:=uI one 6;generalize eA:jA "tails" (nE c n)=A;generalize eB:jA "tree" TR=B;have gg:kX [g,t] [A,B] g=some A:=if_pos rfl;have gtt:kX [g,t] [A,B] t=some B:=(if_neg gt).trans (if_pos rfl);refine wp_seq (bp (d:=.lst (Dg g t u m)) (bf (oA (bf (oA (aN ‹20› Cy) (aN (af rfl (af (aN ‹20› em) rfl)) CA) (show 23+16≤Q4 by lia))) (aN (af rfl ‹20›) Cz) (show 39+31≤Q4 by lia))) ?_);walk_at "st";obtain ⟨d,hd,ed⟩:=KQ (l:=Dg g t u m) (i:=hU one 6 % 70) (by lia) (by rw [IZ]; lia)
  obtain ⟨r,k,rfl,hk⟩:=IY (ks:=[g,t]) (ds:=[A,B]) hd (OI ng nu (of_decide_eq_true (show decide _=true from hu)).1) (OL hu (by simp [gu.symm,tu.symm]) hm nm)
    (OJ hg ht hu (by simp) (by simp) (by rw [gg,← eA]) (by rw [gtt,← eB])) (OM hg hu) (ON ⟨(jk (c:=c) hn).2.1,(jk hn).1.2⟩ hg ht hu (by simp) (by simp) (by rw [gg,← eA]) (by rw [gtt,← eB]))
  refine wp_seq (KY (d:=mk (k:Int) r) (ρ':=Lw ns c g t u W (txt c n) (.dk ax [g,t] [A,B]) ‹46› (.pu (.int one)) (.pu (.lst (Dg g t u m))) (.pu (.str r)) (.pu (.int k))) (c0 rfl (j9 (aN ‹20› (mix one 6 (by lia) ‹6› ‹6›)) (c7 rfl (e:=.int 70) rfl) ‹6›) ed) rfl ?_)
  have ex:bw ‹107› (Lw ns c g t u W (txt c n) (.dk ax [g,t] [A,B]) ‹46› (.pu (.int one)) (.pu (.lst (Dg g t u m))) (.pu (.str r)) (.pu (.int k)))=some (O7 (k==1) (k==2) (k==3) (k==4) (k==5)):=by
    have e1:c8 1 [12] (ig (dC (.int 5))) (gN true 0) cO (dN false (ak 1) (pK (ak 0) ‹27›)) (Lw ns c g t u W (txt c n) (.dk ax [g,t] [A,B]) ‹46› (.pu (.int one)) (.pu (.lst (Dg g t u m))) (.pu (.str r)) (.pu (.int k)))=some ((Rl 5).map fun (j:Nat)=>D.bl (decide ((k:Int)=(0+(j:Int))+1))) :=
      bY (fun j:Nat=>D.int (0+(j:Int))) (xs:=Rl 5) (kZ (i:=5) rfl ⟨by decide,by lia⟩) (fun j=>D.bl (decide ((k:Int)=(0+(j:Int))+1))) fun j _=>⟨_,rfl,qB rfl (k4 rfl rfl)⟩
    refine (bf (oA (ys:=[.bl true]) (bf e1) (bf ‹26›) (by rw [Q5,R6]; show 5+1≤Q4; lia))).trans ?_;rcases Kc hk with rfl | rfl | rfl | rfl | rfl <;> rfl
  refine wp_seq (cm (dG (yg (AF rfl rfl (refused hk)) ex (Ej _ _ _ _ _))) (bj ?_));have s2:∀ {z:Rf},Nm z→Sy ("show " ++ z) "show" z "" []:=fun h=>Of ‹0› ‹0› h;have tg:=yJ (c:=c) hn;refine cm (iF (x:=false) (y:=false) (vp (AF rfl rfl (sI (show 2<64 by decide) (j3 (by simp [ng,nt]) (show 2≤3 by decide)))) rfl) fun _=>iF (x:=false) (y:=false) (vp (AF rfl (aA rfl rfl) (((s2 ng).show hg (by simp) (by rw [gg,← eA]) (jk hn).1 LY (.inl rfl) (by rw [qT]; exact tg.1.good)).trans (by rw [qT]))) rfl) fun _=>vp (AF rfl (aA rfl rfl) (((s2 nt).show ht (by simp) (by rw [gtt,← eB]) (Og ‹0›) N0 (.inr rfl) (Lt.good ‹0›)).trans (by rw [show Rh " " [("tree" : Rf),jc TR] = "tree 2 / 1 -1" by decide +kernel]))) rfl) (bj ?_);rw [← eA,← eB];exact kk _ _ _
theorem HU (ns:List Int) (hl:ns.length≤63) (hb:∀ m∈ns,RU m≤1048576):Et [.scr ns]=some (.bl true):=by
 have hline:Q4=16777216:=Rw
 have bg:∀ k:Nat,RU (ns.getD k 0)≤1048576:=fun k=>by
  rw [Rc];cases e:ns[k]? with
  | none=>decide
  | some v=>exact hb v (RB e)
 obtain ⟨a,m,en,hm1,hm8,ha⟩:=HL (bg 0);have hg:=HF (c:=ns.getD 0 0) (a:=a) (k:=0) hm1 hm8;have ht:=HF (c:=ns.getD 0 0) (a:=a) (k:=1) hm1 hm8;have hu:=HF (c:=ns.getD 0 0) (a:=a) (k:=2) hm1 hm8;have gt:=CM (c:=ns.getD 0 0) (k:=0) (l:=1) ha ‹6› ‹6›;have gu:=CM (c:=ns.getD 0 0) (k:=0) (l:=2) ha ‹6› ‹6›;have tu:=CM (c:=ns.getD 0 0) (k:=1) (l:=2) ha ‹6› ‹6›;generalize vK (ns.getD 0 0) a 0 m=g at en hg gt gu;generalize vK (ns.getD 0 0) a 1 m=t at en ht gt tu;generalize vK (ns.getD 0 0) a 2 m=u at en hu gu tu;have ng:=Nm.of hg;have nt:=Nm.of ht;have nu:=Nm.of hu
 haveI:Sh g 8:=⟨(qy hg).2⟩
 haveI:Sh t 8:=⟨(qy ht).2⟩
 haveI:Sh u 8:=⟨(qy hu).2⟩
 have hc:=bg 1;obtain ⟨c,ec⟩:∃ c,ns.getD 1 0=c:=⟨_,rfl⟩
 rw [ec] at hc;obtain ⟨n,en2⟩:∃ n:Nat,(n:Int)=c % 12:=⟨(c % 12).toNat,by lia⟩
 have hn:n<12:=by lia
 have tg:=yJ (c:=c) hn
 haveI:Sh (txt c n) 4388:=⟨tg.2⟩
 obtain ⟨ks,ek,hk,hkl⟩:∃ ks:List Int,xv (ns.map D.int) (some 2) (some 63)=ks.map D.int∧(∀ m∈ks,m∈ns)∧ks.length≤ns.length:=by unfold xv;rw [← List.map_drop,← List.map_take];refine ⟨_,rfl,fun m hm=>VG (XN hm),?_⟩;rw [Vt,SY];lia
 refine bU yy ?_;rw [Mb];unfold Ew;refine wp_seq (Ji (show 1<13 by decide) ?_);walk_at "st";refine wp_seq (KY (d:=.lst [.str g,.str t,.str u]) (ρ':=[.bo (.scr ns),.dk ax [] [],.pu (.str g),.pu (.str t),.pu (.str u),.un,.un,.un,.un,.un,.un,.un,.un]) (aN (af (aN ‹20› (Ek ns 0 ‹6›)) rfl) en) rfl ?_);refine wp_seq (bp (d:=.int c) (aN ‹20› ((Ek ns 1 ‹6›).trans (by rw [← ec]; rfl))) ?_);walk_at "st";refine wp_seq (bp (d:=.lst (((Rl n).map fun k=>Rh " " (fZ (wk c k))).map D.str)) (bf ?_) ?_)
 ·rw [R7];refine bY (fun k:Nat=>D.int (0+(k:Int))) (xs:=Rl n) ?_ (fun k=>D.str (Rh " " (fZ (wk c k)))) fun k hk=>⟨_,rfl,?_⟩
  ·refine (kZ (i:=c % 12) (j9 rfl rfl ‹6›) ⟨by lia,by lia⟩).trans ?_;rw [← en2];rfl
  ·have hk:=Sa.mp hk;have wb:=LX c k;rw [show (0:Int)+(k:Int)=(k:Int) by lia,← Jl];have l1:(fI (hU c (k:Int) % 9)).length≤61:=(uG (show FX _ from S5 (show _<10 by lia) ‹6›)).2;have l2:(fI (1+hU c ((k:Int)+20) % 9)).length≤61:=(uG (show FX _ from S5 (show _<10 by lia) ‹6›)).2
   haveI:Sh (fI (hU c (k:Int) % 9)) 61:=⟨l1⟩
   haveI:Sh (fI (1+hU c ((k:Int)+20) % 9)) 61:=⟨l2⟩
   exact aA (aA (aA (c7 (j9 (aN ‹20› (mix c k (by lia) (by lia) (by lia))) rfl ‹6›) (Dy (by lia))) rfl) (c7 (k4 rfl (j9 (aN (af rfl (af (k4 rfl rfl) rfl)) (mix c (k+20) (by lia) (by lia) (by lia))) rfl ‹6›)) (Dy (by lia)))) rfl
 walk_at "st";have ew:((Rl n).map fun k=>Rh " " (fZ (wk c k)))++[("0 1 10" : Rf)]=(nE c n).map fun r=>Rh " " (fZ r):=by unfold nE;rw [SW,R7,show ("0 1 10" : Rf)=Rh " " (fZ [0,1,10]) by decide +kernel];rfl
 generalize hW:((Rl n).map fun k=>Rh " " (fZ (wk c k)))=WK at ew ⊢;have lW:WK.length=n:=by rw [← hW,Q5,R6]
 refine wp_seq (bp (d:=.str (txt c n)) ((mJ rfl ((kB (xs:=(nE c n).map fun r=>Rh " " (fZ r)) rfl (bf ((tw (xs:=WK) (ys:=["0 1 10"]) rfl ‹26› (by rw [lW]; show n+1≤1000; lia)).trans (by rw [ew]))) (zR (B:=310) (fun p hp=>?_) ?_)).trans (by rw [Sw,vA (jk hn).2.2.2])) ?_).trans rfl) ?_)
 ·obtain ⟨r,hr,rfl⟩:=RY.mp hp;exact vB ((jk hn).1.2 r hr)
 ·rw [Q5,show (" / " : Rf).length=3 from rfl];have:=(jk (c:=c) hn).2.1;lia
 ·have:=xS (jk (c:=c) hn).1;rw [show ("tails " : Rf).length=6 by decide +kernel];lia
 walk_at "st";generalize Sl.pu (D.lst (WK.map D.str))=W;have gA:∀ {x y z:D},kX [g,t,u] [x,y,z] u=some z:=(if_neg gu).trans ((if_neg tu).trans (if_pos rfl));have s2:∀ {z:Rf},Nm z→Sy ("show " ++ z) "show" z "" []:=fun h=>Of ‹0› ‹0› h;have q1:ud ax 1 cI (aL (aL ‹22› ‹39›) (ak 7)) (Lw ns c g t u W (txt c n) (.dk ax [] []) .un .un .un .un .un)=some (false,Lw ns c g t u W (txt c n) (.dk ax [g] [jA "tails" (nE c n)]) .un .un .un .un .un):=z4 rfl (aA ‹10› rfl) fun x dx p=>(Bn hg hn).put (ks:=[]) (ds:=[]) hg (by simp) (show 0<1000 by decide) (we hn) x dx p;have q2:ud ax 1 cI (aL (aL (dC (.str "floor ")) (ak 3)) (dC (.str " tree 2 / 1 -1"))) (Lw ns c g t u W (txt c n) (.dk ax [g] [jA "tails" (nE c n)]) .un .un .un .un .un)=some (false,Lw ns c g t u W (txt c n) ‹43› .un .un .un .un .un):=z4 rfl ‹10› fun x dx p=>(EE (a := "floor") (t := "tree 2 / 1 -1") ‹0› ‹0› ‹0› nt).put (ks:=[g]) (ds:=[jA "tails" (nE c n)]) ht (by simp [gt.symm]) (show 1<1000 by decide) EA x dx p;refine wp_seq (BS (C3 q1 q2) (bj ?_));refine wp_seq (bp (d:=.str (Rh " " (gT [g,t]))) ((kB rfl (bf (BA (ss:=[g,t]) (bf ‹20›) (show 2<64 by decide))) (lH rfl (j3 (by simp [ng,nt]) (show 2≤3 by decide)))).trans (by rw [Sw])) ?_);walk_at "st";refine wp_seq (iL (ds:=(2::ks).map D.int) (c6 (bf (oA (xs:=[.int 2]) (ys:=ks.map D.int) rfl (bf (KG (by rw [← ek]; exact Bo (c6 rfl rfl) rfl rfl) (FA ks))) (by rw [Q5]; simp; lia))) rfl) (fun _ ρ=>∃ v9 v10 v11 v12:Sl,ρ=Lw ns c g t u W (txt c n) ‹43› ‹46› v9 v10 v11 v12) ⟨_,_,_,_,rfl⟩ ?_ ?_)
 ·rintro j d ρ hd ⟨v9,v10,v11,v12,rfl⟩;rw [Ro] at hd;obtain ⟨one,ho,rfl⟩:=S9.mp hd;refine ⟨_,rfl,?_⟩
  have hb1:RU one≤1048576:=by
   rcases Ri.mp (RB ho) with rfl | h
   ·decide
   ·exact hb one (hk one h)
  exact body hn hg ht hu gt gu tu hb1 fun a b d=>⟨_,_,_,_,rfl⟩
 ·rintro ρ ⟨v9,v10,v11,v12,rfl⟩;have q3:ud ax 1 cI (aL (aL (aL (dC (.str "floor ")) (ak 4)) ‹39›) (ak 7)) (Lw ns c g t u W (txt c n) ‹43› ‹46› v9 v10 v11 v12)=some (false,Lw ns c g t u W (txt c n) (.dk ax [g,t,u] [jA "tails" (nE c n),jA "tree" TR,jA "tails" (nE c n)]) ‹46› v9 v10 v11 v12):=z4 rfl (aA ‹10› rfl) fun x dx p=>(Bn hu hn).put (ks:=[g,t]) (ds:=[jA "tails" (nE c n),jA "tree" TR]) hu (by simp [gu.symm,tu.symm]) (show 2<1000 by decide) (we hn) x dx p;refine wp_seq (BS (C3 q3 (Bq (vp (AF rfl (aA rfl rfl) (((s2 nu).show hu (by simp) gA (jk hn).1 LY (.inl rfl) (by rw [qT]; exact tg.1.good)).trans (by rw [qT]))) rfl))) (bj ?_));have q4:ud ax 1 cI (aL (dC (.str "drop ")) (ak 4)) (Lw ns c g t u W (txt c n) (.dk ax [g,t,u] [jA "tails" (nE c n),jA "tree" TR,jA "tails" (nE c n)]) ‹46› v9 v10 v11 v12)=some (false,Lw ns c g t u W (txt c n) ‹43› ‹46› v9 v10 v11 v12):=z4 rfl (aA rfl rfl) fun x dx p=>((Of (a := "drop") ‹0› ‹0› nu).drop hu (by simp) x dx p).trans (by simp [lJ,gu,tu]);refine wp_seq (BS (C3 (Bq (vp (AF rfl rfl (sI (show 3<64 by decide) (j3 (by simp [ng,nt,nu]) (show 3≤3 by decide)))) ((kB rfl (bf (BA (ss:=[g,t,u]) (bf (af rfl ‹20›)) (show 3<64 by decide))) (lH rfl (j3 (by simp [ng,nt,nu]) (show 3≤3 by decide)))).trans (by rw [Sw])))) q4) (bj ?_));have mx:markX 2 [g,t] [jA "tails" (nE c n),jA "tree" TR] ("show " ++ u):=P1 (s2 nu) ⟨hu,by simp [gu.symm,tu.symm]⟩ ‹0›;have ex:bw (c8 1 [] (ig (dC (.int 6))) (gN true 0) cO (NV false (ak 0) (pJ (aq ‹27› (aq (dC (.int 5)) aP))))) (Lw ns c g t u W (txt c n) ‹43› ‹46› v9 v10 v11 v12)=some (O7 false true false false false):=by refine (bf (bY (fun j:Nat=>D.int (0+(j:Int))) (xs:=Rl 6) (kZ (i:=6) rfl ⟨by decide,by lia⟩) (fun j=>D.bl (decide ((0+(j:Int))∈([1,5]:List Int)))) fun j _=>⟨_,rfl,?_⟩)).trans rfl;exact OU rfl
  exact bx (fV (x:=true) (y:=true) (yi (AF rfl (aA rfl rfl) (refused mx)) ex (Ej _ _ _ _ _)) fun _=>oy (x:=Rh " " (gT [g,t])) (AF rfl rfl (sI (ks:=[g,t]) (show 2<64 by decide) (j3 (by simp [ng,nt]) (show 2≤3 by decide)))) rfl) rfl
theorem walk {l:YW} {q:Sd} {loose:List Rf} {XP:(Rf→Option Q7)→SA→Prop} {YP:Sn→SA→Prop} {d:DefRec} {K:Params→Q2} (hn:l.most=some 63) (hdf:d.params.defaults=[])
 (hY:∀ (w:Sn) (h:SA),YP w h→(K w.params).In h)
 (F:∀ (w:Sn) (mg:Rf→Option Q7) (fa:Q6) (h:SA),(K w.params).In h→h.Ns SF mg→mg d.name=some (.ref fa)→∃ a:Adr,Txt w (K w.params) mg a∧(a.f 31)=fa∧∀ (s:Rb) (v:Q7),Yk s (a.d 31) ⟨[v],[]⟩ [("_law_script", v)]) :
 Zg q loose XP YP l.row.toRowW d [] (fun f vs=>PySem.call f vs) :=
 L2.F8 (n:=63) (k:=8) (x := "_law_script") (CX:=fun _=>gW) (sp:=fun w=>GH (K w.params)) hn ‹6› hdf ⟨rfl,by decide,by decide⟩ hY
  (fun w mg fa h KX G e=>by obtain ⟨a,T,rfl,hb⟩:=F w mg fa h KX G e;exact ⟨(a.d 31),hb,fun base kb nb=>(MM T).imp fun vs H Q E h=>EJ HU h⟩)
  (fun _ _ a ns hl hbits _ hS=>⟨a,ns,rfl,hS,hl,hbits,(fun _ h=>by cases h),fun _=>rfl⟩) fun _ _ _ _ _ z=>z
end
end My
theorem PySem.Challenge.cw_leastfloor_k85_rows_refused_holds : PySem.Challenge.rw_leastfloor_k85_rows_refused.Holds :=
  hd0 @My.walk
#print axioms PySem.Challenge.cw_leastfloor_k85_rows_refused_holds

